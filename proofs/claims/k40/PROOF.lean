import PyProof.Rows.All
import Wide.All
import OpenK.AllK
import Wide.FinOn
import HandS.ForMost
import HandS.Exc
import HandS.ExcOwn
import HandS.ExcInit
import HandS.ExcIs
import HandS.ExcField
import HandS.IsInst
import HandS.WordsExc
import KE.KExcIs
import KE.KExcInit
import HandS.Wide
import HandS.Walk
import KE.GoesZip
import KE.GoesMore
import KE.GoesEnum
import KE.KMathG
import HandS.Zip
import HandS.Iter
import HandS.Gcd
import HandS.Text
import HandS.SetFor
import PySem.Challenge.RW_termseats_k40_whole_order_of_stands
import HandS.More
import PyProof.ReprLen
set_option Elab.async false
set_option linter.all false
set_option maxRecDepth 100000
set_option maxHeartbeats 4000000
/-! Own layer, part 1: defs that may ask repr of data. Such a def must know that no repr is under way around it (guards), which the library's FnOk does not say; so FnG says it beside. -/
namespace TSx
open PySem L2 PySem.Spec PyProof.Rows

/-- a def's promise where no repr is under way -/
structure FnG (P : Program) (w : World) (K : PySem.W.Frag) (mg : Str → Option Value) (base : Heap) (CX : CXT) (k : Nat) (f : Addr) (fd : FuncData) (ps : List Str) (sp : Sp) : Prop where
  sized : ∀ vs H Q E, sp vs H Q E → vs.length = ps.length
  go : ∀ (A : Around) (outer : List Env) (s : Shared) (H : Hp) (args : Args) (us : List Value) (vs : List V) (Q : VK) (E : XK),
    A.guards = some [] → Room k A → Env0 P w K mg base A outer s H → BindsTo s fd args (ps.zip us) → Vals vs us → sp vs H Q E →
    codeAny (model P w) A (.call (.ref f) args) (CR CX outer P w H s Q E) s

section
variable {P : Program} {w : World} {K : PySem.W.Frag} {mg : Str → Option Value} {base : Heap} {CX : CXT} {k : Nat} {f : Addr} {fd : FuncData} {ps : List Str} {sp : Sp}
theorem FnG.of (F : FnOk P w K mg base CX k f fd ps sp) : FnG P w K mg base CX k f fd ps sp :=
  ⟨F.len, fun A o s H a us vs Q E _ r e b v h => F.run A o s H a us vs Q E r e b v h⟩
theorem FnG.up {j : Nat} (F : FnG P w K mg base CX j f fd ps sp) (h : j ≤ k) : FnG P w K mg base CX k f fd ps sp :=
  ⟨F.sized, fun A o s H a us vs Q E g r e b v x => F.go A o s H a us vs Q E g (r.mono h) e b v x⟩
end

theorem guards_deeper {A : Around} (g : A.guards = some []) (env : Env) : (A.deeper env).guards = some [] := by
  unfold Around.deeper
  first
    | exact g
    | simp [Around.under, g]

/-- a def by its body, the guards known -/
theorem fnG_of {CX : CXT} {P : Program} {w : World} {K : PySem.W.Frag} {mg : Str → Option Value} {base : Heap} {k : Nat} {f : Addr} {x qual : Str} {st : Stmt} {fd : FuncData} {N ps : List Str} {sp : Sp}
    (F : L2.Fun K x qual st f fd) (S : FnScope N ps (defScope st)) (sz : ∀ vs H Q E, sp vs H Q E → vs.length = ps.length)
    (B : ∀ (cdv : Value) (A : Around) (outer : List Env) (s : Shared) (H : Hp) (vs : List V) (Q : VK) (E : XK), A.guards = some [] → Room k (A.deeper (envOfC qual (defScope st) s.heap.objs.size f cdv)) → sp vs H Q E →
      ∃ t, PSs (cxOf CX P w K mg base N qual (defScope st) f cdv A outer s H E) (defBody st) t ∧ t { nx := fun _ H' => Q .non H', rt := Q } (start N vs) H) :
    FnG P w K mg base CX (k + 1) f fd ps sp := by
  obtain ⟨oc, od, kV, doc, pm, an, cdv, ct, osl, rfl, lk, hcd⟩ := F.ex
  refine ⟨sz, fun A outer s H args us vs Q E g hr e0 hb r hsp => ?_⟩
  -- the same def, its promise cut down to this very call: then the library's rule serves
  obtain ⟨t, ht, hq⟩ := B cdv A outer s H vs Q E g (hr.deeper _) hsp
  have KX : K.In s.heap := e0.mod.kin.keeps fun b o e => (e0.bs b o e).1
  refine codeAny_call_function hr.depth (KX _ _ lk) rfl S.co S.gen rfl (PySem.W.codeRec_of KX hcd) (hb _ _ _ _ ?_)
  have kinds : ∀ y ∈ ps.zip us, (defScope st).names.lookup y.1 = some .local ∨ ((defScope st).names.lookup y.1 = some .cell ∧ ((cellsFrom (s.heap.objs.size + 1) (defScope st).names []).lookup y.1).isSome = true) := by
    intro y hy
    obtain ⟨n, v⟩ := y
    cases S.par n (List.of_mem_zip hy).1 with
    | inl q => exact Or.inl q
    | inr q => exact Or.inr ⟨q, PySem.W.cellsFrom_some _ _ _ (Or.inl q)⟩
  refine wpAny_newFunctionEnv_cells S.kind kinds fun env he s1 ic => ?_
  subst he
  have nolim : s.heap.NoLimit := e0.mod.nolimit.keeps fun b o e => (e0.bs b o e).1
  refine ⟨nolim.keeps ic.toInCall.keep, codeAny_func ?_⟩
  have J := inv_start (CX := CX) (E := E) S hr.hd e0 (sz _ _ _ _ hsp) r ic
  refine wpAny_mono (ht.run [] s1 (start N vs) H _ J hq) (fun fl s' z => ?_) fun _ _ z => z
  match fl, z with
  | .ret u, z =>
    obtain ⟨v, σ', H', I, rv, q⟩ := z
    exact ⟨v, H', I.os, I.bare, I.base, I.hok, rv, q⟩
  | .next, z =>
    obtain ⟨σ', H', I, q⟩ := z
    exact ⟨V.non, H', I.os, I.bare, I.base, I.hok, rfl, q⟩
  | .brk, z =>
    obtain ⟨_, _, _, q⟩ := z
    exact q.elim
  | .cont, z =>
    obtain ⟨_, _, _, q⟩ := z
    exact q.elim

/-- .. no exception leaves it -/
theorem fnG_of0 {P : Program} {w : World} {K : PySem.W.Frag} {mg : Str → Option Value} {base : Heap} {k : Nat} {f : Addr} {x qual : Str} {st : Stmt} {fd : FuncData} {N ps : List Str} {sp : Sp}
    (F : L2.Fun K x qual st f fd) (S : FnScope N ps (defScope st)) (sz : ∀ vs H Q E, sp vs H Q E → vs.length = ps.length)
    (B : ∀ (cdv : Value) (A : Around) (outer : List Env) (s : Shared) (H : Hp) (vs : List V) (Q : VK) (E : XK), A.guards = some [] → Room k (A.deeper (envOfC qual (defScope st) s.heap.objs.size f cdv)) → sp vs H Q E →
      ∃ t, PSs (cxOf CX0 P w K mg base N qual (defScope st) f cdv A outer s H E).nox (defBody st) t ∧ t { nx := fun _ H' => Q .non H', rt := Q } (start N vs) H) :
    FnG P w K mg base CX0 (k + 1) f fd ps sp := fnG_of F S sz fun cdv A outer s H vs Q E g hr h => by
  obtain ⟨t, h1, h2⟩ := B cdv A outer s H vs Q E g hr h
  exact ⟨t, h1.nox, h2⟩

section
variable {X : Cx} {CX : CXT} {k : Nat} {f : Addr} {fd : FuncData} {ps : List Str} {sp : Sp} {E : XK} {x : Str} {p pos : Pos} {e : Expr} {es : List Expr} {t : TA}
theorem runG {pins : List (Addr × Obj)} {σ : L2.St} {H : Hp} {s : Shared} {Q : VK} {us : List Value} {vs : List V} {EE : XK} (F : FnG X.prog X.w X.K X.mg X.base CX k f fd ps sp) (g : X.A.guards = some []) (hr : Room k X.A) (hb : Binds X.K fd ps [])
    (hx : ∀ e s', CX X.stack H s EE e s' → X.xe e s') (I : Inv X pins σ H s) (r : Vals vs us) (h : sp vs H Q EE) : wpAny (model X.prog X.w) X.A (call (.ref f) us) (EP X pins σ Q) X.xe s := by
  have hl : us.length = ps.length := by rw [← r.length]; exact F.sized _ _ _ _ h
  have bb : BindsTo s fd ⟨us, []⟩ (ps.zip us) := by
    have q := hb s us I.kIn (by rw [List.append_nil]; exact hl)
    rw [List.append_nil] at q
    exact q
  refine wpAny_call (codeAny_mono (F.go X.A X.stack s H ⟨us, []⟩ us vs Q EE g hr I.env0 bb r h) fun o s' z => ?_)
  match o, z with
  | .error y, z => exact hx y s' z
  | .ok (.ret u), z => exact I.after z
  | .ok .next, z => exact False.elim z
  | .ok .brk, z => exact False.elim z
  | .ok .cont, z => exact False.elim z
/-- f(e, ..) -/
theorem pe_callG (F : FnG X.prog X.w X.K X.mg X.base CX k f fd ps sp) (g : X.A.guards = some []) (hr : Room k X.A) (hg : Gl X x) (hm : X.mg x = some (.ref f)) (hk : PySem.W.keepIn X.K (.ref f) = true) (hb : Binds X.K fd ps []) (hx : Passes CX X E)
    (ha : PA X (e :: es) t) (hdb : (x == ("__debug__" : Str)) = false := by decide) (he : starEach (e :: es) X.env = (false, eval e X.env) :: starEach es X.env := by rfl) (hpl : (backTo pos (starEach es X.env)).any (·.1) = false := by rfl) :
    PE X (.Call (.Name x p) (e :: es) [] pos) (tCall sp [] E t) := by
  constructor
  intro pins s σ H Q I h
  refine wpAny_Call_Name_kw (ld_glob I hg hm ?_ hdb)
  refine PySem.W.callWith_K (h₀ := X.base) I.ok.mod.kin hk (thn (ha.run pos pins s σ H _ I h) fun us s1 z => ?_) he hpl
  obtain ⟨vs, H1, I1, r, q⟩ := z
  have q' : sp vs H1 Q E := by
    have := q
    rw [List.append_nil] at this
    exact this
  exact ⟨I1.kIn, runG F g hr hb (fun y s' c => hx pins σ H1 s1 y s' I1 c) I1 r q'⟩
theorem pe_callG0 (F : FnG X.prog X.w X.K X.mg X.base CX k f fd ps sp) (g : X.A.guards = some []) (hr : Room k X.A) (hg : Gl X x) (hm : X.mg x = some (.ref f)) (hk : PySem.W.keepIn X.K (.ref f) = true) (hb : Binds X.K fd ps []) (hx : Passes CX X E)
    (hdb : (x == ("__debug__" : Str)) = false := by decide) : PE X (.Call (.Name x p) [] [] pos) (tCall sp [] E tNil) := by
  constructor
  intro pins s σ H Q I h
  refine wpAny_Call_Name_kw (ld_glob I hg hm ?_ hdb)
  exact PySem.W.callWith_K0 I.kIn hk (runG (us := []) F g hr hb (fun y s' c => hx pins σ H s y s' I c) I .nil h)
end

/-! ### the law's own end: the script alone is tracked (or it stands in the written part) -/
theorem law_endG {P : Program} {w : World} {K : PySem.W.Frag} {mg mb : Str → Option Value} {CX : CXT} {k : Nat} {fa a : Addr} {fd : FuncData} {x : Str} {sp : Sp} {s₁ : Shared} {vs : List Value} {ns : List Int}
    (KX : K.In s₁.heap) (hns : s₁.heap.Ns mainGlobals mg) (hb : s₁.heap.Ns builtinsNs mb) (hbb : ∀ x : Str, x ≠ "__name__" → mb x = bootBuiltins x) (hlim : s₁.heap.NoLimit) (hg : s₁.gens = #[])
    (ha : s₁.heap.get? a = some { cls := .type "list", data := .seq vs.toArray }) (hi : IntsAre vs ns) (hl : ns.length ≤ sizeLine) (hr : Room k callerA)
    (F : ∀ base : Heap, K.In base → base.Ns mainGlobals mg → FnG P w K mg base CX k fa fd [x] sp) (hbind : ∀ (s : Shared) (u : Value), BindsTo s fd ⟨[u], []⟩ [(x, u)])
    (hsp : ∀ H : Hp, Only H → SqL K H a (ns.map V.int) → sp [.ref a] H (fun v _ => v = .bl true) fun _ _ _ => False)
    (hCX : ∀ H e s', CX [] H s₁ (fun _ _ _ => False) e s' → False) :
    codeAny (model P w) callerA (.call (.ref fa) ⟨[.ref a], []⟩) (fun r s' => r = .ok (.ret (.bool true)) ∧ OldK s₁.heap s'.heap ∧ s'.os = s₁.os ∧ AllBare s'.gens) s₁ := by
  classical
  have rv := vals_ints hi
  have size_eq : vs.length = ns.length := hi.length
  -- what is tracked
  let H : Hp := fun b => if b = a ∧ K.lookup a = none then some (.frz { cls := .type "list", data := .seq vs.toArray } (.lst (ns.map V.int))) else none
  have only_a : ∀ b, H b ≠ none → b = a ∧ K.lookup a = none := fun b hb => by
    by_cases c : b = a ∧ K.lookup a = none
    · exact c
    · exact absurd (if_neg c) hb
  have only : Only H := fun b => by
    by_cases c : b = a ∧ K.lookup a = none
    · exact Or.inr ⟨_, _, if_pos c⟩
    · exact Or.inl (if_neg c)
  have script : SqL K H a (ns.map V.int) := by
    cases hk : K.lookup a with
    | none => exact Or.inl (Or.inr ⟨_, if_pos ⟨rfl, hk⟩⟩)
    | some o =>
      have e := KX a o hk
      rw [ha] at e
      cases e
      exact Or.inr ⟨_, vs.toArray, _, hk, rfl, rfl, rfl, by rw [List.size_toArray, size_eq]; exact hl, by simpa using rv⟩
  have ok : HOk P w H s₁.heap := fun b u z => by
    have c := only_a b (by rw [z]; simp)
    have z' : H b = some _ := if_pos c
    rw [z] at z'
    cases z'
    rw [c.1]
    exact ⟨ha, by rw [List.length_map]; exact hl, vs, _, rv, ha⟩
  have shown : ∀ {b : Addr} {o : Obj}, s₁.heap.get? b = some o → H b = none → (hidT s₁.heap H).get? b = some o := fun e n => hidT_get e n
  have dicts : ∀ {b : Addr} {m : Str → Option Value}, s₁.heap.Ns b m → (hidT s₁.heap H).Ns b m := fun {b m} z => by
    obtain ⟨o, es, ep, e, d, r⟩ := z
    refine ⟨o, es, ep, shown e ?_, d, r⟩
    cases q : H b with
    | none => rfl
    | some u =>
      have c := only_a b (by rw [q]; simp)
      rw [c.1, ha] at e
      cases e
      have d' : Data.seq vs.toArray _ = Data.dict es ep := d
      cases d'
  have Kb : K.In (hidT s₁.heap H) := fun b o e => shown (KX b o e) (by
    cases q : H b with
    | none => rfl
    | some u =>
      have c := only_a b (by rw [q]; simp)
      rw [c.1, c.2] at e
      cases e)
  have M : Mod K mg (hidT s₁.heap H) := by
    refine ⟨Kb, dicts hns, ⟨mb, dicts hb, hbb⟩, ?_⟩
    obtain ⟨mc, h1, h2⟩ := hlim
    exact ⟨mc, dicts h1, h2⟩
  have E0 : Env0 P w K mg (hidT s₁.heap H) callerA [] s₁ H := {
    frames := rfl
    mod := M
    bs := fun b o e => of_hidT e
    bsz := Nat.le_of_eq (hidT_size _ _)
    funs := trivial
    frf := fun b hb => by cases hb
    hok := ok
    bare := .of_eq hg }
  refine codeAny_mono ((F _ Kb (dicts hns)).go callerA [] s₁ H ⟨[.ref a], []⟩ [.ref a] [.ref a] _ _ rfl hr E0 (hbind s₁ (.ref a)) (.cons rfl .nil) (hsp H only script)) fun r s' h => ?_
  match r, h with
  | .error e, h => exact (hCX H e s' h).elim
  | .ok .next, h => exact False.elim h
  | .ok .brk, h => exact False.elim h
  | .ok .cont, h => exact False.elim h
  | .ok (.ret u), h =>
    obtain ⟨v, H', os, bare, un, ok', rel, q⟩ := h
    have q' : v = .bl true := q
    subst q'
    obtain rfl : u = Value.bool true := rel
    refine ⟨rfl, OldK.of_keep fun b o e => ?_, os, bare⟩
    cases q : H b with
    | none => exact un.keep b o e q (fun z => by cases z) (fun z => by cases z)
    | some u =>
      have c := only_a b (by rw [q]; simp)
      have z : H b = some (.frz _ _) := if_pos c
      obtain ⟨e1, _⟩ := ok b _ z
      obtain ⟨e2, _⟩ := ok' b _ (un.frzs b _ _ z)
      rw [e] at e1
      cases e1
      exact e2
theorem walkG {l : PySem.W.OpenLaw} {n k : Nat} {q : Program} {loose : List Str} {XP : (Str → Option Value) → Heap → Prop} {YP : World → Heap → Prop} {d : DefRec} {K : Params → PySem.W.Frag} {sp : PySem.W.Frag → Sp} {x : Str}
    (hn : l.most = some n) (hn2 : n ≤ sizeLine) (hdf : d.params.defaults = []) (hr : Room k callerA)
    (hY : ∀ (w : World) (h : Heap), YP w h → (K w.params).In h)
    (F : ∀ (w : World) (mg : Str → Option Value) (fa : Addr) (h : Heap), (K w.params).In h → h.Ns mainGlobals mg → mg d.name = some (.ref fa) →
      ∃ fd : FuncData, (∀ (s : Shared) (u : Value), BindsTo s fd ⟨[u], []⟩ [(x, u)]) ∧
        ∀ base : Heap, (K w.params).In base → base.Ns mainGlobals mg → FnG l.prog w (K w.params) mg base CX0 k fa fd [x] (sp (K w.params)))
    (hsp : ∀ (w : World) (H : Hp) (a : Addr) (ns : List Int), ns.length ≤ n → Only H → SqL (K w.params) H a (ns.map V.int) → sp (K w.params) [.ref a] H (fun v _ => v = .bl true) fun _ _ _ => False) :
    PySem.W.WalkO q loose XP YP l.row.toRowW d [] (fun f vs => PySem.call f vs) := by
  refine Att.attach_call hn hdf fun w s₀ s₁ mg mb fa o pm cd doc a vs ns G Y ho hd hcd hmg hobj hints hlen hg => ?_
  obtain ⟨fd, hb, hF⟩ := F w mg fa _ (hY w _ Y) G.T.g hmg
  exact law_endG (hY w _ Y) G.T.g G.T.b G.T.builtins G.T.nolimit hg hobj hints (Nat.le_trans hlen hn2) hr hF hb (fun H hO hS => hsp w H a ns hlen hO hS) fun _ _ _ z => z
end TSx

/-! Own layer, part 2: data of any depth (exceptions among them), what evaluates to which data, repr. -/
namespace TSx
open PySem L2 PySem.Spec PyProof.Rows
abbrev Sg := L2.St

/-- data: what stands below a value, all of it -/
inductive D where
  | non | bl (b : Bool) | int (i : Int) | str (x : Str)
  | lst (xs : List D) | tup (xs : List D) | dic (kvs : List (Key × D)) | exc (C : Addr) (fs : List (Str × D))

/-- at a: an exception of the class at C, its own dict at d -/
def exq (a C d : Addr) : HO := .ext fun h => ∃ oe vs, h.get? a = some oe ∧ Zc (.ref C) (some d) oe ∧ oe.data = .fields vs

mutual
inductive Dt (K : PySem.W.Frag) (H : Hp) : V → D → Prop
  | non : Dt K H .non .non
  | bl (b : Bool) : Dt K H (.bl b) (.bl b)
  | int (i : Int) : Dt K H (.int i) (.int i)
  | str (x : Str) : Dt K H (.str x) (.str x)
  | lst {a : Addr} {xs : List V} {ds : List D} : H a = some (.lst xs) → DtA K H xs ds → Dt K H (.ref a) (.lst ds)
  | tup {a : Addr} {xs : List V} {ds : List D} : SqT K H a xs → DtA K H xs ds → Dt K H (.ref a) (.tup ds)
  | dic {a : Addr} {xs : List (Key × V)} {ds : List (Key × D)} : H a = some (.dK xs) → DtK K H xs ds → Dt K H (.ref a) (.dic ds)
  | exc {a C d : Addr} {xs : List (Str × V)} {ds : List (Str × D)} : H a = some (exq a C d) → H d = some (.xd xs) → DtF K H xs ds → Dt K H (.ref a) (.exc C ds)
inductive DtA (K : PySem.W.Frag) (H : Hp) : List V → List D → Prop
  | nil : DtA K H [] []
  | cons {v : V} {vs : List V} {d : D} {ds : List D} : Dt K H v d → DtA K H vs ds → DtA K H (v :: vs) (d :: ds)
inductive DtK (K : PySem.W.Frag) (H : Hp) : List (Key × V) → List (Key × D) → Prop
  | nil : DtK K H [] []
  | cons {k : Key} {v : V} {vs : List (Key × V)} {d : D} {ds : List (Key × D)} : Dt K H v d → DtK K H vs ds → DtK K H ((k, v) :: vs) ((k, d) :: ds)
inductive DtF (K : PySem.W.Frag) (H : Hp) : List (Str × V) → List (Str × D) → Prop
  | nil : DtF K H [] []
  | cons {k : Str} {v : V} {vs : List (Str × V)} {d : D} {ds : List (Str × D)} : Dt K H v d → DtF K H vs ds → DtF K H ((k, v) :: vs) ((k, d) :: ds)
end

/-- H' has all that H has -/
abbrev Gr (H H' : Hp) : Prop := Same H H'
theorem Gr.rfl' {H : Hp} : Gr H H := fun _ _ e => e
theorem Gr.tr {H H1 H2 : Hp} (a : Gr H H1) (b : Gr H1 H2) : Gr H H2 := fun x o e => b x o (a x o e)
theorem gr_new {H : Hp} {p : Addr} {o : HO} (n : H p = none) : Gr H (upd H p o) := fun a u e => by rw [upd_ne (ne_of_none e n)]; exact e
theorem gr_none {H H' : Hp} {p : Addr} (g : Gr H H') (n : H' p = none) : H p = none := by
  cases e : H p with
  | none => rfl
  | some o => rw [g p o e] at n; cases n
theorem gr_T {K : PySem.W.Frag} {H H' : Hp} {a : Addr} {xs : List V} (g : Gr H H') (h : SqT K H a xs) : SqT K H' a xs := by
  rcases h with (h | ⟨o, h⟩) | h
  · exact Or.inl (Or.inl (g _ _ h))
  · exact Or.inl (Or.inr ⟨o, g _ _ h⟩)
  · exact Or.inr h

section
variable {K : PySem.W.Frag} {H H' : Hp}
mutual
theorem Dt.gr (g : Gr H H') : ∀ {v : V} {d : D}, Dt K H v d → Dt K H' v d
  | _, _, .non => .non
  | _, _, .bl b => .bl b
  | _, _, .int i => .int i
  | _, _, .str x => .str x
  | _, _, .lst e a => .lst (g _ _ e) (DtA.gr g a)
  | _, _, .tup e a => .tup (gr_T g e) (DtA.gr g a)
  | _, _, .dic e a => .dic (g _ _ e) (DtK.gr g a)
  | _, _, .exc e f a => .exc (g _ _ e) (g _ _ f) (DtF.gr g a)
theorem DtA.gr (g : Gr H H') : ∀ {v : List V} {d : List D}, DtA K H v d → DtA K H' v d
  | _, _, .nil => .nil
  | _, _, .cons a b => .cons (Dt.gr g a) (DtA.gr g b)
theorem DtK.gr (g : Gr H H') : ∀ {v : List (Key × V)} {d : List (Key × D)}, DtK K H v d → DtK K H' v d
  | _, _, .nil => .nil
  | _, _, .cons a b => .cons (Dt.gr g a) (DtK.gr g b)
theorem DtF.gr (g : Gr H H') : ∀ {v : List (Str × V)} {d : List (Str × D)}, DtF K H v d → DtF K H' v d
  | _, _, .nil => .nil
  | _, _, .cons a b => .cons (Dt.gr g a) (DtF.gr g b)
end
theorem DtA.len {v : List V} {d : List D} (h : DtA K H v d) : v.length = d.length := by
  induction d generalizing v with
  | nil => cases h; rfl
  | cons x d ih => cases h with | cons a b => simp [ih b]
theorem DtA.app : ∀ {v w : List V} {d e : List D}, DtA K H v d → DtA K H w e → DtA K H (v ++ w) (d ++ e)
  | _, _, _, _, .nil, h => h
  | _, _, _, _, .cons a b, h => .cons a (DtA.app b h)
theorem DtA.at : ∀ {v : List V} {d : List D} {i : Nat} {x : V}, DtA K H v d → v[i]? = some x → ∃ y, d[i]? = some y ∧ Dt K H x y
  | _, _, i, x, .nil, e => by simp at e
  | _, _, 0, x, .cons a b, e => by simp at e; subst e; exact ⟨_, rfl, a⟩
  | _, _, i + 1, x, .cons a b, e => by
    obtain ⟨y, h1, h2⟩ := DtA.at (i := i) (x := x) b (by simpa using e)
    exact ⟨y, by simpa using h1, h2⟩
theorem DtF.look {f : Str} : ∀ {v : List (Str × V)} {d : List (Str × D)} {y : D}, DtF K H v d → d.lookup f = some y → ∃ x, v.lookup f = some x ∧ Dt K H x y
  | _, _, y, .nil, e => by simp at e
  | _, _, y, .cons (k := k) a b, e => by
    simp only [List.lookup] at e ⊢
    split at e
    · cases e; exact ⟨_, rfl, a⟩
    · exact DtF.look b e
end

/-! ### as the library's data -/
mutual
def D.py : D → PyData
  | .non => .none
  | .bl b => .bool b
  | .int i => .int i
  | .str x => .str x
  | .lst xs => .list (pyA xs)
  | .tup xs => .tuple (pyA xs)
  | .dic _ => .dict []
  | .exc _ _ => .none
def pyA : List D → List PyData
  | [] => []
  | x :: xs => x.py :: pyA xs
end
mutual
/-- no dict, no exception in it -/
def D.pl : D → Bool
  | .lst xs => plA xs
  | .tup xs => plA xs
  | .dic _ => false
  | .exc _ _ => false
  | .str x => PySem.PyData.strOk x
  | _ => true
def plA : List D → Bool
  | [] => true
  | x :: xs => x.pl && plA xs
end
section
variable {X : Cx} {pins : List (Addr × Obj)} {σ : Sg} {H : Hp} {s : Shared}
mutual
theorem Dt.dp {K : PySem.W.Frag} {H : Hp} : ∀ {v : V} {d : D}, Dt K H v d → d.pl = true → Dp K H v d.py
  | _, _, .non, _ => .non
  | _, _, .bl b, _ => .bl b
  | _, _, .int i, _ => .int i
  | _, _, .str x, _ => .str x
  | _, _, .lst e a, h => .lst (SqL.of e) (DtA.dp a h)
  | _, _, .tup e a, h => .tup e (DtA.dp a h)
  | _, _, .dic e a, h => by cases h
  | _, _, .exc e f a, h => by cases h
theorem DtA.dp {K : PySem.W.Frag} {H : Hp} : ∀ {v : List V} {d : List D}, DtA K H v d → plA d = true → DpAll K H v (pyA d)
  | _, _, .nil, _ => .nil
  | _, _, .cons a b, h => by
    simp only [plA, Bool.and_eq_true] at h
    exact .cons (Dt.dp a h.1) (DtA.dp b h.2)
end
mutual
theorem nodict : ∀ d : D, d.pl = true → d.py.hasDict = false
  | .non, _ => rfl
  | .bl _, _ => rfl
  | .int _, _ => rfl
  | .str _, _ => rfl
  | .lst xs, h => by show PyData.hasDictAll (pyA xs) = false; exact nodictA xs h
  | .tup xs, h => by show PyData.hasDictAll (pyA xs) = false; exact nodictA xs h
  | .dic _, h => by cases h
  | .exc _ _, h => by cases h
theorem nodictA : ∀ d : List D, plA d = true → PyData.hasDictAll (pyA d) = false
  | [], _ => rfl
  | x :: xs, h => by
    simp only [plA, Bool.and_eq_true] at h
    show (x.py.hasDict || PyData.hasDictAll (pyA xs)) = false
    rw [nodict x h.1, nodictA xs h.2]; rfl
end
end

/-- what repr can be asked of here: plain data that fit, or an empty dict -/
def D.rok (d : D) : Prop := (d.pl = true ∨ d = .dic []) ∧ d.py.showable = true ∧ d.py.shown.length ≤ sizeLine ∧ d.py.depth ≤ 50
/-- repr(x) -/
def rRepr (K : PySem.W.Frag) : List V → Hp → VK → Prop := fun xs H Q => ∃ v d, xs = [v] ∧ Dt K H v d ∧ d.rok ∧ Q (.str d.py.shown) H
theorem call_repr {X : Cx} (g : X.A.guards = some []) (hu : X.A.units + 64 < cLine) : CallR X (.builtin "repr") (rRepr X.K) := by
  intro pins s σ H xs us Q I r h
  obtain ⟨v, d, rfl, hd, ⟨hp, hs, hz, hdp⟩, q⟩ := h
  obtain ⟨u, rfl, ru⟩ := vals1 r
  have hu2 : X.A.units + (d.py.depth + 1) < cLine := by omega
  have fin : ∀ h' tk u', (∀ b o, s.heap.get? b = some o → h'.get? b = some o) → EP X pins σ Q (.str d.py.shown u') { s with heap := h', toks := tk } := fun h' tk u' k => ⟨.str d.py.shown, H, I.kept k, ⟨u', rfl⟩, q⟩
  have finT : EP X pins σ Q (.str d.py.shown s.toks) { s with toks := s.toks + 1 } := ⟨.str d.py.shown, H, I.tok _, ⟨_, rfl⟩, q⟩
  -- a container's repr
  have box : ∀ a : Addr, u = .ref a → (∃ as, Reads s.heap (.ref a) d.py as ∧ (d.py.hasDict = true → sysModules ∉ as)) → wpAny (model X.prog X.w) X.A (call (.builtin "repr") [u]) (EP X pins σ Q) X.xe s := fun a e z => by
    obtain ⟨as, rd, hsm⟩ := z
    subst e
    exact repr_of_reads' rd hs hsm g hu2 (fun _ _ e => e) (fun h' u tk k => fin h' tk u k) hz
  rcases hp with hp | hp
  · obtain ⟨as, rd⟩ := Dp.reads I _ _ _ (hd.dp hp) ru
    have nd := nodict d hp
    cases hd with
    | non => cases ru; exact PySem.P.repr_of_none finT
    | bl b => cases ru; exact PySem.P.repr_of_bool finT
    | int i =>
      obtain ⟨t, rfl⟩ := ru
      exact PySem.P.repr_of_int (of_decide_eq_true hs) finT
    | str x =>
      obtain ⟨t, rfl⟩ := ru
      exact PySem.P.repr_of_str finT hz
    | lst e a => exact box _ ru ⟨as, by cases ru; exact rd, fun z => by rw [nd] at z; cases z⟩
    | tup e a => exact box _ ru ⟨as, by cases ru; exact rd, fun z => by rw [nd] at z; cases z⟩
    | dic e a => cases hp
    | exc e f a => cases hp
  · subst hp
    cases hd with
    | @dic a xs ds e kk =>
      cases kk
      cases ru
      obtain ⟨_, lo, vs, rel, o, es, ep, h1, h2, h3, h4, h5, _⟩ := dk_of I.hok e
      cases rel
      have e0 : es.toList = [] := by
        generalize es.toList = l at h5
        cases h5
        rfl
      have n1 : ReadsAll s.heap (es.toList.map (·.key)) (([] : List (PyData × PyData)).map (·.1)) [] := by rw [e0]; exact .nil
      have n2 : ReadsAll s.heap (es.toList.map (·.val)) (([] : List (PyData × PyData)).map (·.2)) [] := by rw [e0]; exact .nil
      refine box a rfl ⟨a :: ([] ++ []), Reads.dict (kvs := []) h1 h2.1 h3 n1 n2, fun _ z => ?_⟩
      have z' : sysModules = a := by simpa using z
      rw [z'] at lo
      simp at lo
end TSx

/-! Own layer, part 3: exceptions with an own __init__ as values: made, read, asked for their class, caught and kept. -/
namespace TSx
open PySem L2 PySem.Spec PyProof.Rows
section
variable {X : Cx} {pins : List (Addr × Obj)} {σ : Sg} {H : Hp} {s : Shared}
theorem exq_ok {P : Program} {w : World} {h : Heap} {a C d : Addr} {oe : Obj} {fv : Array Value} (e : h.get? a = some oe) (z : Zc (.ref C) (some d) oe) (f : oe.data = .fields fv) : ObjOk P w H h a (exq a C d) :=
  ⟨⟨oe, fv, e, z, f⟩, ⟨oe, e⟩, fun _ _ y k => by
    obtain ⟨o, v, e, r⟩ := y
    exact ⟨o, v, k o e, r⟩⟩
theorem exq_at (ok : HOk X.prog X.w H s.heap) {a C d : Addr} (e : H a = some (exq a C d)) : ∃ oe fv, s.heap.get? a = some oe ∧ Zc (.ref C) (some d) oe ∧ oe.data = .fields fv := by
  have x : ObjOk X.prog X.w H s.heap a (.ext fun h => ∃ oe vs, h.get? a = some oe ∧ Zc (.ref C) (some d) oe ∧ oe.data = .fields vs) := ok a _ e
  exact x.1
/-- an object that is not of this frame, nor tracked, becomes tracked -/
theorem Inv.track {a : Addr} {o : HO} (I : L2.Inv X pins σ H s) (na : H a = none) (n0 : X.s_0.heap.get? a = none) (nL : a ≠ X.env.locals) (nC : ∀ x c, X.env.cells.lookup x = some c → c ≠ a) (nP : ∀ p ∈ X.pn ++ pins, p.1 ≠ a)
    (new : ObjOk X.prog X.w (upd H a o) s.heap a o) : L2.Inv X pins σ (upd H a o) s := by
  have old : ∀ {b : Addr} {u : HO}, H b = some u → upd H a o b = some u := fun {b u} e => by rw [upd_ne (ne_of_none e na)]; exact e
  have un : ∀ {b : Addr}, b ≠ a → H b = none → upd H a o b = none := fun {b} h e => by rw [upd_ne h]; exact e
  refine ⟨I.ok, I.os, I.bare, ⟨fun b u e n hb hx => I.base.keep b u e n hb hx, fun b u e n hb hx => I.base.slot b u e n hb hx, fun b u e n hx => un (fun z => by rw [z, n0] at e; cases e) (I.base.free b u e n hx), I.base.there,
    fun b xs e => old (I.base.tups b xs e), fun b u v e => old (I.base.frzs b u v e), fun b ps e => ?_⟩, I.loc, I.cell, un (Ne.symm nL) I.free, fun x c e => un (nC x c e) (I.freeC x c e), fun p hp => ?_, fun b u e => ?_, I.len⟩
  · obtain ⟨m, e1⟩ := I.base.tbls b ps e
    exact ⟨m, old e1⟩
  · obtain ⟨h1, h2, h3⟩ := I.pin p hp
    exact ⟨h1, un (nP p hp) h2, h3⟩
  · by_cases hb : b = a
    · subst hb
      rw [upd_same] at e
      cases e
      exact new
    · rw [upd_ne hb] at e
      exact (I.hok b u e).stay (fun _ _ _ q => q) (fun _ q => old q) fun _ _ q => old q
/-- another description of a tracked thing, of those that may change -/
theorem Inv.retell {a : Addr} {o u : HO} (I : L2.Inv X pins σ H s) (e : H a = some u) (mu : Mut (some u)) (new : ObjOk X.prog X.w (upd H a o) s.heap a o) : L2.Inv X pins σ (upd H a o) s := by
  have m : Mut (H a) := by rw [e]; exact mu
  have th : ∃ ob, s.heap.get? a = some ob := by
    have q := I.hok a u e
    exact objOk_get q
  have J := I.write (h' := s.heap) (t' := s.toks) (x := a) (e := a) (o := o) m (Or.inl rfl) (fun _ _ _ q => q) th new
  exact J
end

/-- what the written part says of the class: how it is made, read, asked -/
structure XC (K : PySem.W.Frag) (C : Addr) : Prop where
  o : OexC K C
  a : ExcC K C
section
variable {X : Cx} {CX : CXT} {x : Str} {C fI : Addr} {k : Nat} {fd : FuncData} {ps : List Str} {sp : Sp} {p pos : Pos} {e : Expr} {es : List Expr} {ta : TA}
/-- C(e, ..) as a value -/
def tMkX (C : Addr) (sp : Sp) (ta : TA) : TE := fun σ H Q => ta σ H fun vs H1 => vs.length ≤ 1000 ∧ ∀ a, H1 a = none → sp (.ref a :: vs) (upd H1 a (exo a C none))
  (fun v H2 => v = .non ∧ ∃ (d : Addr) (fs : List (Str × V)), H2 a = some (exo a C (some d)) ∧ H2 d = some (exd d fs) ∧ Q (.ref a) (upd (upd H2 a (exq a C d)) d (.xd fs))) (fun _ _ _ => False)
theorem made {pins : List (Addr × Obj)} {σ : Sg} {H1 : Hp} {s : Shared} {Q : VK} {us : List Value} {vs : List V} (T : OexC X.K C) (iC : PySem.W.findIn X.K (.ref C) "__init__" = some (some (.ref fI))) (tI : PySem.W.typeIn X.K (.ref fI) = some (.type "function"))
    (F1 : FnOk X.prog X.w X.K X.mg X.base CX k fI fd ps sp) (hr : Room (k + 1) X.A) (hb : Binds X.K fd ps []) (hx : Passes CX X (fun _ _ _ => False)) (I1 : L2.Inv X pins σ H1 s) (r1 : Vals vs us) (hz : vs.length ≤ 1000)
    (q1 : ∀ a, H1 a = none → sp (.ref a :: vs) (upd H1 a (exo a C none)) (fun v H2 => v = .non ∧ ∃ (d : Addr) (fs : List (Str × V)), H2 a = some (exo a C (some d)) ∧ H2 d = some (exd d fs) ∧ Q (.ref a) (upd (upd H2 a (exq a C d)) d (.xd fs))) (fun _ _ _ => False)) :
    wpAny (model X.prog X.w) X.A (call (.ref C) us) (EP X pins σ Q) X.xe s := by
  obtain ⟨nm, q, N, bs, bm, sn, sub, ab, col, dd, k0, k1, k2, k3, k5, hC, hbm⟩ := T.cls
  obtain ⟨hp, g, dr, tk, os⟩ := s
  have nw : H1 (hp.objs.size + 1) = none := I1.hok.fresh (Nat.le_succ _)
  have want := q1 _ nw
  have keep2 : ∀ b o, hp.get? b = some o → ((hp.push (PySem.W.kdv_tup us)).push (PySem.HandSPX.excO C hp.objs.size)).get? b = some o := by
    intro b o e
    exact Heap.get?_push_of_some _ (Heap.get?_push_of_some _ e)
  have there : ((hp.push (PySem.W.kdv_tup us)).push (PySem.HandSPX.excO C hp.objs.size)).get? (hp.objs.size + 1) = some (PySem.HandSPX.excO C hp.objs.size) := by heap_get
  have I2 : L2.Inv X pins σ (upd H1 (hp.objs.size + 1) (exo (hp.objs.size + 1) C none)) ⟨(hp.push (PySem.W.kdv_tup us)).push (PySem.HandSPX.excO C hp.objs.size), g, dr, tk, os⟩ :=
    I1.laid (t' := tk) keep2 (Nat.le_succ _) (exo_ok there)
  have r2 : Vals (V.ref (hp.objs.size + 1) :: vs) (Value.ref (hp.objs.size + 1) :: us) := .cons rfl r1
  have cnt : (Value.ref (hp.objs.size + 1) :: us).length = ps.length := by rw [← r2.length]; exact F1.len _ _ _ _ want
  have few : us.length ≤ sizeLine := by
    have := Paired.length r1
    rw [sizeLine_eq]
    omega
  have bd := hb _ (Value.ref (hp.objs.size + 1) :: us) I2.kIn (by rw [List.append_nil]; exact cnt)
  rw [List.append_nil] at bd
  refine wpAny_call (PySem.HandSPX.call_own F.excBase_ValueError (fun Y => PySem.HandSPX.refsVE_contains Y bm hbm) (I1.kIn _ _ hC) (PySem.W.looks_findIn I1.kIn iC) (fun self => PySem.W.bind_fn I1.kIn self tI) few ?_)
  refine codeAny_mono (F1.run _ X.stack _ _ ⟨Value.ref (hp.objs.size + 1) :: us, []⟩ (Value.ref (hp.objs.size + 1) :: us) _ _ (fun _ _ _ => False) (hr.make C us []) (I2.env0.make C us []) bd r2 want) fun o s' z => ?_
  match o, z with
  | .error er, z => exact hx pins σ _ _ er s' I2 z
  | .ok .next, z => exact False.elim z
  | .ok .brk, z => exact False.elim z
  | .ok .cont, z => exact False.elim z
  | .ok (.ret u), z =>
    obtain ⟨v, H2, os2, bare2, un2, ok2, rv, ev, d, fs, ea, ed, qq⟩ := z
    subst ev
    refine ⟨rv, ?_⟩
    obtain ⟨h2, g2, d2, t2, os'⟩ := s'
    have os2' : os' = os := os2
    subst os2'
    have J : L2.Inv X pins σ H2 ⟨h2, g2, d2, t2, os'⟩ := I2.call (h' := h2) (g' := g2) (d' := d2) (t' := t2) (ch := []) un2 ok2 bare2 (fun b z => absurd z (by simp))
    obtain ⟨t0, hoe⟩ := exo_at J.hok ea
    obtain ⟨mA, hns, rel⟩ := exd_at J.hok ed
    have nd : d ≠ hp.objs.size + 1 := fun z => by
      obtain ⟨o, es', ep, e1, e2, _⟩ := hns
      rw [z] at e1
      have e3 := hoe.symm.trans e1
      cases e3
      cases e2
    have J2 := Inv.retell (o := exq (hp.objs.size + 1) C d) J ea True.intro (exq_ok hoe ⟨rfl, rfl⟩ rfl)
    have J3 := Inv.retell (o := .xd fs) (u := exd d fs) J2 (by rw [upd_ne nd]; exact ed) True.intro ⟨mA, hns, rel⟩
    exact ⟨.ref _, _, J3, rfl, qq⟩
theorem pe_mkX (T : OexC X.K C) (iC : PySem.W.findIn X.K (.ref C) "__init__" = some (some (.ref fI))) (tI : PySem.W.typeIn X.K (.ref fI) = some (.type "function"))
    (F1 : FnOk X.prog X.w X.K X.mg X.base CX k fI fd ps sp) (hr : Room (k + 1) X.A) (hb : Binds X.K fd ps []) (hx : Passes CX X (fun _ _ _ => False)) (hm : X.mg x = some (.ref C)) (ha : PA X (e :: es) ta) (hg : Gl X x := by rfl)
    (hdb : (x == ("__debug__" : Str)) = false := by decide) (he : starEach (e :: es) X.env = (false, eval e X.env) :: starEach es X.env := by rfl) (hpl : (backTo pos (starEach es X.env)).any (·.1) = false := by rfl) :
    PE X (.Call (.Name x p) (e :: es) [] pos) (tMkX C sp ta) := by
  constructor
  intro pins s σ H Q I h
  refine wpAny_Call_Name_kw (ld_glob I hg hm ?_ hdb)
  refine PySem.W.callWith_K (h₀ := X.base) I.ok.mod.kin T.kC (thn (ha.run pos pins s σ H _ I h) fun us s1 z => ?_) he hpl
  obtain ⟨vs, H1, I1, r1, hz, q1⟩ := z
  exact ⟨I1.kIn, made T iC tI F1 hr hb hx I1 r1 hz q1⟩
/-- e.f, e an exception that is tracked -/
def tXa (K : PySem.W.Frag) (f : Str) (te : TE) : TE := fun σ H Q => te σ H fun v H1 => ∃ (a C d : Addr) (fs : List (Str × V)) (y : V), v = .ref a ∧ H1 a = some (exq a C d) ∧ H1 d = some (.xd fs) ∧ ExcC K C ∧ PySem.W.findIn K (.ref C) f = some none ∧ fs.lookup f = some y ∧ Q y H1
theorem pe_xa {te : TE} {f : Str} (he : PE X e te) (hb : attributeBase e f X.env (eval e X.env) = eval e X.env := by rfl) : PE X (.Attribute e f pos) (tXa X.K f te) := by
  constructor
  intro pins s σ H Q I h
  refine attr_of hb (thn (he.run pins s σ H _ I h) fun u s1 z => ?_)
  obtain ⟨v, H1, I1, rv, a, C, d, fs, y, rfl, ea, ed, T, hno, l, q⟩ := z
  obtain rfl : u = Value.ref a := rv
  obtain ⟨oe, fv, h1, hz, hf⟩ := exq_at I1.hok ea
  have hx : ObjOk X.prog X.w H1 s1.heap d (.xd fs) := I1.hok d _ ed
  obtain ⟨mA, hns, rel⟩ := hx
  obtain ⟨od, ho, hl⟩ := lookIn_ns hns
  obtain ⟨u, hu, ru⟩ := RelO.some_of (v := y) (o := mA f) (by rw [← l]; exact rel f)
  have J : PySem.W.InstAt s1.heap a oe C (some od) := { at_ := h1, cls := hz.1, no := by unfold PySem.W.notCls; rw [hf] <;> rfl, dict := by rw [hz.2]; exact ho }
  exact HandSPX.exc_get I1.kIn J T.hg T.hk T.hs (PySem.W.findObj_own T.hd hno rfl (by rw [hl, hu])) (handed_of ru) ⟨y, H1, I1.tok _, ru, q⟩
end
end TSx

/-! Own layer, part 3k: an exception class called by keywords. -/
namespace TSx
open PySem PySem.HandSPX PySem.Spec Builtin Builtin.ObjectAttr
section
variable {prog : Program} {w : World} {A : Around} {E : Value → Shared → Prop} {R : Result → Shared → Prop} {h : Heap} {g : Array GenState} {d : Drawn} {t : Nat} {os : OsState}
variable {nm q : Str} {C N : Addr} {bs bm bmB : List Value} {sn : List Str} {sub : List Value} {ab : Bool} {col : Option Bool} {dd : Option Addr} {k0 k1 k2 k3 k5 : Option Value} {B newId initId : String} {kw : List (Str × Value)}
theorem kw_check_new {M : Model} (F : ExcBaseFacts B newId initId bmB) (hT : ∀ X : String, bm.contains (.type X) = bmB.contains (.type X)) {Q : Unit → Shared → Prop}
    (hC : h.get? C = some (excClassObj nm q C N bs bm true sn sub ab col dd k0 k1 k2 k3 k5 newId)) (hq : Q () ⟨h, g, d, t, os⟩) :
    wpAny M A (checkBuiltinCall newId ⟨[.ref C], kw⟩) Q E ⟨h, g, d, t, os⟩ := by
  have c1 : (Value.ref C :: bm).contains (.type B) = true := by rw [List.contains_cons, hT, F.hasB, Bool.or_true]
  have c2 := F.noStar
  simp only [checkBuiltinCall, F.newKind, F.newSplit, F.newRow]
  repeat (first
    | refine wpAny_loadPart_at hC ?_
    | (refine wpAny_isSubtype_exc hC ?_; rw [c1])
    | refine wpAny_staticBase_exc hC ?_
    | refine wpAny_madeBy_exc hC ?_
    | simp only [bne_self_eq_false, Bool.false_eq_true, if_false]
    | wp_step)
  exact hq
theorem kw_new (F : ExcBaseFacts B newId initId bmB) (hT : ∀ X : String, bm.contains (.type X) = bmB.contains (.type X))
    (hC : h.get? C = some (excClassObj nm q C N bs bm true sn sub ab col dd k0 k1 k2 k3 k5 newId))
    (hq : R (.ok (.ret (.ref (h.objs.size + 1)))) ⟨(h.push (W.kdv_tup [])).push (excO C h.objs.size), g, d, t, os⟩) :
    codeAny (model prog w) A (.builtin newId ⟨[.ref C], kw⟩) R ⟨h, g, d, t, os⟩ := by
  have e1 := F.ends
  have c1 : (Value.ref C :: bm).contains (.type B) = true := by rw [List.contains_cons, hT, F.hasB, Bool.or_true]
  have c2 : (Value.ref C :: bm).contains (.type "AttributeError") = false := by rw [List.contains_cons, hT, F.noAttr]; rfl
  have c3 : (Value.ref C :: bm).contains (.type "NameError") = false := by rw [List.contains_cons, hT, F.noName]; rfl
  have few : ([] : List Value).length ≤ sizeLine := Nat.zero_le _
  refine codeAny_builtinAt F.entry ?_
  unfold Builtin.«BaseException.__new__»
  refine wpAt_bind ?_
  show wpAt _ _ _ (stack >>= _) _ _ _
  refine wpAt_bind (wpAt_stack fun p below => wpAt_of_wpAny ?_)
  wp_walk
  refine wpAt_of_wpAny ?_
  rw [F.owner]
  repeat (first
    | with_reducible refine wpAny_madeHere_exc F.canon hC ?_
    | with_reducible refine wpAny_loadPart_at hC ?_
    | (with_reducible refine wpAny_isSubtype_exc hC ?_; first | rw [c1] | rw [c2] | rw [c3])
    | wp_step)
  show R _ _
  rw [Heap.size_push]
  exact hq
theorem kw_type_call (F : ExcBaseFacts B newId initId bmB) (hT : ∀ X : String, bm.contains (.type X) = bmB.contains (.type X)) {fI : Addr} {Q : Fin → Shared → Prop}
    (hC : h.get? C = some (excClassObj nm q C N bs bm true sn sub ab col dd k0 k1 k2 k3 k5 newId))
    (hi : W.Looks (model prog w) h (typeLookup (.ref C) "__init__") (some (.ref fI))) (hb : ∀ self, W.Looks (model prog w) h (bindSpecial (.ref fI) self) (.ref fI, [self]))
    (hq : codeAny (model prog w) A (.call (.ref fI) ⟨[.ref (h.objs.size + 1)], kw⟩)
      (fun r s' => match r with | .ok (.ret v) => v = .none ∧ Q (.done (.ret (.ref (h.objs.size + 1)))) s' | .ok _ => False | .error e => E e s')
      ⟨(h.push (W.kdv_tup [])).push (excO C h.objs.size), g, d, t, os⟩) :
    wpAny (model prog w) A (Builtin.«type.__call__» ⟨[.ref C], kw⟩) Q E ⟨h, g, d, t, os⟩ := by
  repeat (first
    | with_reducible refine wpAny_loadPart_at hC ?_
    | with_reducible refine wpAny_madeBy_exc hC ?_
    | wp_step)
  refine codeAny_call_builtin_code (Code.quiet_builtin _ F.quiet) (kw_check_new F hT hC ?_)
  refine kw_new F hT hC ?_
  show wpAny _ _ _ _ _ _
  have k : ∀ b o, h.get? b = some o → ((h.push (W.kdv_tup [])).push (excO C h.objs.size)).get? b = some o := fun b o e => Heap.get?_push_of_some _ (Heap.get?_push_of_some _ e)
  have hC1 := k _ _ hC
  have at1 : ((h.push (W.kdv_tup [])).push (excO C h.objs.size)).get? (h.objs.size + 1) = some (excO C h.objs.size) := by heap_get
  have own : (Value.ref C :: bm).contains (.ref C) = true := by simp
  have i1 := hi.keeps k
  have b1 := (hb (.ref (h.objs.size + 1))).keeps k
  unfold isInstance
  repeat (first
    | with_reducible refine wpAny_loadPart_at at1 ?_
    | (with_reducible refine wpAny_isSubtype_exc hC1 ?_; rw [own])
    | wp_step)
  show wpAny _ _ (typeLookup (.ref C) _) _ _ _
  refine i1.at (wpAny_holding (wpAny_bind (b1.at (wpAny_bind (wpAny_call (codeAny_mono hq fun r s' z => ?_))))))
  match r, z with
  | .error _, z => exact z
  | .ok .next, z => exact z.elim
  | .ok .brk, z => exact z.elim
  | .ok .cont, z => exact z.elim
  | .ok (.ret v), z =>
    obtain ⟨rfl, z⟩ := z
    first
      | exact wpAny_pure (wpAny_pure z)
      | (wp_walk; exact z)
theorem kw_check_call {M : Model} {Q : Unit → Shared → Prop} (hC : h.get? C = some (excClassObj nm q C N bs bm true sn sub ab col dd k0 k1 k2 k3 k5 newId)) (hq : Q () ⟨h, g, d, t, os⟩) :
    wpAny M A (checkBuiltinCall "type.__call__" ⟨[.ref C], kw⟩) Q E ⟨h, g, d, t, os⟩ := by
  have f3 := tc_sub
  have ty : (⟨h, g, d, t, os⟩ : Shared).TypeIs (.ref C) "type" := ⟨_, hC, rfl⟩
  simp only [checkBuiltinCall, tc_kind, tc_split]
  repeat (any_goals (first
    | assumption
    | with_reducible refine wpAny_loadPart_at hC ?_
    | with_reducible refine wpAny_onRaise ?_
    | with_reducible refine wpAny_map ?_
    | wp_step))
theorem kw_call (F : ExcBaseFacts B newId initId bmB) (hT : ∀ X : String, bm.contains (.type X) = bmB.contains (.type X)) {fI : Addr}
    (hC : h.get? C = some (excClassObj nm q C N bs bm true sn sub ab col dd k0 k1 k2 k3 k5 newId))
    (hi : W.Looks (model prog w) h (typeLookup (.ref C) "__init__") (some (.ref fI))) (hb : ∀ self, W.Looks (model prog w) h (bindSpecial (.ref fI) self) (.ref fI, [self]))
    (hq : codeAny (model prog w) (A.under (.builtin "type.__call__" ⟨[.ref C], kw⟩)) (.call (.ref fI) ⟨[.ref (h.objs.size + 1)], kw⟩) (W.InitBack (h.objs.size + 1) R)
      ⟨(h.push (W.kdv_tup [])).push (excO C h.objs.size), g, d, t, os⟩) :
    codeAny (model prog w) A (.call (.ref C) ⟨[], kw⟩) R ⟨h, g, d, t, os⟩ := by
  have f1 := tc_lookup
  have f2 := tc_bind (.ref C)
  have ty : (⟨h, g, d, t, os⟩ : Shared).TypeIs (.ref C) "type" := ⟨_, hC, rfl⟩
  refine codeAny_of_tree ?_
  show wpAny _ _ (callAny (.ref C) _) _ _ _
  repeat (any_goals (first
    | assumption
    | with_reducible refine wpAny_loadPart_at hC ?_
    | wp_step))
  refine ⟨rfl, ?_⟩
  refine codeAny_call_builtin_at (Code.quiet_builtin _ (by decide +kernel)) entry_typeCall (kw_check_call hC (kw_type_call F hT hC hi hb ?_))
  refine codeAny_mono hq fun r s' z => ?_
  rcases r with e | (v | _ | _ | _) <;> exact z
end
end TSx

/-! Own layer, part 4: exceptions by keywords, isinstance of them, a try that keeps what it caught. -/
namespace TSx
open PySem L2 PySem.Spec PyProof.Rows
/-- how keywords alone bind behind self -/
structure KwB (fd : FuncData) (ps ks : List Str) (g : List Value → List Value) (gV : List V → List V) : Prop where
  to : ∀ (s : Shared) (self : Value) (ws : List Value), ws.length = ks.length → BindsTo s fd ⟨[self], ks.zip ws⟩ (ps.zip (self :: g ws))
  rel : ∀ {zs : List V} {ws : List Value}, Vals zs ws → Vals (gV zs) (g ws)
section
variable {X : Cx} {CX : CXT} {x : Str} {C fI : Addr} {k : Nat} {fd : FuncData} {ps ks : List Str} {sp : Sp} {p pos : Pos} {kws : List Keyword} {tk : TA} {g : List Value → List Value} {gV : List V → List V}
/-- C(f = e, ..) as a value -/
def tMkK (C : Addr) (m : Nat) (sp : Sp) (gV : List V → List V) (tk : TA) : TE := fun σ H Q => tk σ H fun zs H1 => zs.length = m ∧ ∀ a, H1 a = none → sp (.ref a :: gV zs) (upd H1 a (exo a C none))
  (fun v H2 => v = .non ∧ ∃ (d : Addr) (fs : List (Str × V)), H2 a = some (exo a C (some d)) ∧ H2 d = some (exd d fs) ∧ Q (.ref a) (upd (upd H2 a (exq a C d)) d (.xd fs))) (fun _ _ _ => False)
theorem madeK {pins : List (Addr × Obj)} {σ : Sg} {H1 : Hp} {s : Shared} {Q : VK} {ws : List Value} {zs : List V} (T : OexC X.K C) (iC : PySem.W.findIn X.K (.ref C) "__init__" = some (some (.ref fI))) (tI : PySem.W.typeIn X.K (.ref fI) = some (.type "function"))
    (F1 : FnOk X.prog X.w X.K X.mg X.base CX k fI fd ps sp) (hr : Room (k + 1) X.A) (hb : KwB fd ps ks g gV) (hx : Passes CX X (fun _ _ _ => False)) (I1 : L2.Inv X pins σ H1 s) (r1 : Vals zs ws) (hz : zs.length = ks.length)
    (q1 : ∀ a, H1 a = none → sp (.ref a :: gV zs) (upd H1 a (exo a C none)) (fun v H2 => v = .non ∧ ∃ (d : Addr) (fs : List (Str × V)), H2 a = some (exo a C (some d)) ∧ H2 d = some (exd d fs) ∧ Q (.ref a) (upd (upd H2 a (exq a C d)) d (.xd fs))) (fun _ _ _ => False)) :
    wpAny (model X.prog X.w) X.A (call (.ref C) [] (ks.zip ws)) (EP X pins σ Q) X.xe s := by
  obtain ⟨nm, q, N, bs, bm, sn, sub, ab, col, dd, k0, k1, k2, k3, k5, hC, hbm⟩ := T.cls
  obtain ⟨hp, gs, dr, tk, os⟩ := s
  have nw : H1 (hp.objs.size + 1) = none := I1.hok.fresh (Nat.le_succ _)
  have want := q1 _ nw
  have keep2 : ∀ b o, hp.get? b = some o → ((hp.push (PySem.W.kdv_tup [])).push (PySem.HandSPX.excO C hp.objs.size)).get? b = some o := by
    intro b o e
    exact Heap.get?_push_of_some _ (Heap.get?_push_of_some _ e)
  have there : ((hp.push (PySem.W.kdv_tup [])).push (PySem.HandSPX.excO C hp.objs.size)).get? (hp.objs.size + 1) = some (PySem.HandSPX.excO C hp.objs.size) := by heap_get
  have I2 : L2.Inv X pins σ (upd H1 (hp.objs.size + 1) (exo (hp.objs.size + 1) C none)) ⟨(hp.push (PySem.W.kdv_tup [])).push (PySem.HandSPX.excO C hp.objs.size), gs, dr, tk, os⟩ :=
    I1.laid (t' := tk) keep2 (Nat.le_succ _) (exo_ok there)
  have r2 : Vals (V.ref (hp.objs.size + 1) :: gV zs) (Value.ref (hp.objs.size + 1) :: g ws) := .cons rfl (hb.rel r1)
  have bd := hb.to ⟨(hp.push (PySem.W.kdv_tup [])).push (PySem.HandSPX.excO C hp.objs.size), gs, dr, tk, os⟩ (Value.ref (hp.objs.size + 1)) ws (by rw [← r1.length]; exact hz)
  refine wpAny_call (kw_call F.excBase_ValueError (fun Y => PySem.HandSPX.refsVE_contains Y bm hbm) (I1.kIn _ _ hC) (PySem.W.looks_findIn I1.kIn iC) (fun self => PySem.W.bind_fn I1.kIn self tI) ?_)
  refine codeAny_mono (F1.run _ X.stack _ _ ⟨[Value.ref (hp.objs.size + 1)], ks.zip ws⟩ (Value.ref (hp.objs.size + 1) :: g ws) _ _ (fun _ _ _ => False) (hr.make C [] (ks.zip ws)) (I2.env0.make C [] (ks.zip ws)) bd r2 want) fun o s' z => ?_
  match o, z with
  | .error er, z => exact hx pins σ _ _ er s' I2 z
  | .ok .next, z => exact False.elim z
  | .ok .brk, z => exact False.elim z
  | .ok .cont, z => exact False.elim z
  | .ok (.ret u), z =>
    obtain ⟨v, H2, os2, bare2, un2, ok2, rv, ev, d, fs, ea, ed, qq⟩ := z
    subst ev
    refine ⟨rv, ?_⟩
    obtain ⟨h2, g2, d2, t2, os'⟩ := s'
    have os2' : os' = os := os2
    subst os2'
    have J : L2.Inv X pins σ H2 ⟨h2, g2, d2, t2, os'⟩ := I2.call (h' := h2) (g' := g2) (d' := d2) (t' := t2) (ch := []) un2 ok2 bare2 (fun b z => absurd z (by simp))
    obtain ⟨t0, hoe⟩ := exo_at J.hok ea
    obtain ⟨mA, hns, rel⟩ := exd_at J.hok ed
    have nd : d ≠ hp.objs.size + 1 := fun z => by
      obtain ⟨o, es', ep, e1, e2, _⟩ := hns
      rw [z] at e1
      have e3 := hoe.symm.trans e1
      cases e3
      cases e2
    have J2 := Inv.retell (o := exq (hp.objs.size + 1) C d) J ea True.intro (exq_ok hoe ⟨rfl, rfl⟩ rfl)
    have J3 := Inv.retell (o := .xd fs) (u := exd d fs) J2 (by rw [upd_ne nd]; exact ed) True.intro ⟨mA, hns, rel⟩
    exact ⟨.ref _, _, J3, rfl, qq⟩
theorem pe_mkK (T : OexC X.K C) (iC : PySem.W.findIn X.K (.ref C) "__init__" = some (some (.ref fI))) (tI : PySem.W.typeIn X.K (.ref fI) = some (.type "function"))
    (F1 : FnOk X.prog X.w X.K X.mg X.base CX k fI fd ps sp) (hr : Room (k + 1) X.A) (hb : KwB fd ps ks g gV) (hx : Passes CX X (fun _ _ _ => False)) (hm : X.mg x = some (.ref C)) (hkw : PK X kws tk) (hg : Gl X x := by rfl)
    (hall : (backToKw pos (keywordEach kws X.env)).all (·.1.isSome) = true := by rfl) (hks : (backToKw pos (keywordEach kws X.env)).filterMap (·.1) = ks := by rfl) (hdb : (x == ("__debug__" : Str)) = false := by decide)
    (hpl : ((backTo pos (starEach [] X.env)).any (·.1) || (backToKw pos (keywordEach kws X.env)).any (·.1.isNone)) = false := by rfl) :
    PE X (.Call (.Name x p) [] kws pos) (tMkK C ks.length sp gV tk) := by
  constructor
  intro pins s σ H Q I h
  refine wpAny_Call_Name_kw (ld_glob I hg hm ?_ hdb)
  refine PySem.W.callWith_KW0 (h₀ := X.base) I.ok.mod.kin T.kC hall ?_ hpl
  refine thn (hkw.run pos pins s σ H _ I h) fun ws s2 z => ?_
  obtain ⟨zs, H2, I2, rz, l, q2⟩ := z
  refine ⟨I2.kIn, ?_⟩
  rw [hks]
  exact madeK T iC tI F1 hr hb hx I2 rz l q2
end

/-- isinstance(e, c), e a tracked exception -/
def rIsX (K : PySem.W.Frag) : List V → Hp → VK → Prop := fun xs H Q => ∃ (a C d : Addr) (fs : List (Str × V)) (c : V) (cv : Value) (b : Bool), xs = [.ref a, c] ∧ H a = some (exq a C d) ∧ H d = some (.xd fs) ∧ ExcC K C ∧ (∀ u, RelV c u → u = cv) ∧ PySem.W.kitOne K (.ref C) cv = some b ∧ Q (.bl b) H
theorem call_isX {X : Cx} : CallR X (.builtin "isinstance") (rIsX X.K) := by
  intro pins s σ H xs us Q I r h
  obtain ⟨a, C, d, fs, c, cv, b, rfl, ea, ed, T, hc, e, q⟩ := h
  obtain ⟨u1, u2, rfl, r1, r2⟩ := vals2 r
  cases (show u1 = Value.ref a from r1)
  have e2 := hc _ r2
  subst e2
  obtain ⟨oe, fv, h1, hz, hf⟩ := exq_at I.hok ea
  have hx : ObjOk X.prog X.w H s.heap d (.xd fs) := I.hok d _ ed
  obtain ⟨mA, hns, rel⟩ := hx
  obtain ⟨od, ho, hl⟩ := lookIn_ns hns
  have J : PySem.W.InstAt s.heap a oe C (some od) := { at_ := h1, cls := hz.1, no := by unfold PySem.W.notCls; rw [hf] <;> rfl, dict := by rw [hz.2]; exact ho }
  have isC : (PySem.W.clsIn X.K C).isSome = true := by
    obtain ⟨cd, hcd, _⟩ := PySem.W.any_some T.hd
    rw [hcd]
    rfl
  exact PySem.W.kia_one (PySem.W.kitx_exc isC T.hg T.hk T.hs T.ha T.hn T.ht T.hm) I.kIn J e (fun z => nomatch z) fun tk => ⟨.bl b, H, I.kept (t' := tk) fun _ _ z => z, rfl, q⟩
end TSx

/-! Own layer, part 5: try .. except C as n: the caught exception stays tracked behind the suite. -/
namespace TSx
open PySem L2 PySem.Spec PyProof.Rows
/-- what the clauses wish of an exception of the body: (class, slot of the name, suite) one after the other -/
def wT (K : PySem.W.Frag) (Wout : WX) (D : Ends) : List (Value × Nat × TS) → WX
  | [] => Wout
  | (c, i, ts) :: r => fun cls d σ H => ∃ b, PySem.W.exmOne K cls c = some b ∧
      (b = true → ∃ (C dd : Addr), cls = .ref C ∧ d = some dd ∧ ∀ a, H a = none → ts { nx := fun σ' H' => D.nx (σ'.set i none) H', rt := D.rt, bk := fun σ' H' => D.bk (σ'.set i none) H', ct := fun σ' H' => D.ct (σ'.set i none) H' } (σ.set i (some (.ref a))) (upd H a (exq a C dd))) ∧
      (b = false → wT K Wout D r cls d σ H)
inductive Hds (X : Cx) : List ExceptHandler → List (Value × Nat × TS) → Prop
  | nil : Hds X [] []
  | cons {x n : Str} {c : Value} {i : Nat} {ts : TS} {b₀ : Stmt} {suite : List Stmt} {np pos' : Pos} {hds : List ExceptHandler} {l : List (Value × Nat × TS)} (hc : Names X x c) (hi : X.N[i]? = some n) (hln : X.env.kindOf n = some .local)
      (hsu : ∀ (a : Addr) (pn : List (Addr × Obj)), PSs (X.suite a pn) (b₀ :: suite) ts) (r : Hds X hds l) :
      Hds X (.ExceptHandler (some (.Name x np)) (some n) (b₀ :: suite) pos' :: hds) ((c, i, ts) :: l)
theorem suite_in {X : Cx} {pins : List (Addr × Obj)} {σ : Sg} {H : Hp} {s : Shared} (I : L2.Inv X pins σ H s) (a : Addr) : L2.Inv (X.suite a (X.pn ++ pins)) [] σ H s :=
  ⟨I.ok.suite _ _, I.os, I.bare, I.base, I.loc, I.cell, I.free, I.freeC, fun p hp => I.pin p (by rw [List.append_nil] at hp; exact hp), I.hok, I.len⟩
theorem suite_out {X : Cx} {pins pn' : List (Addr × Obj)} {σ : Sg} {H : Hp} {s : Shared} {a : Addr} (I : L2.Inv (X.suite a (X.pn ++ pins)) pn' σ H s) (ok : X.Ok) : L2.Inv X pins σ H s :=
  ⟨ok, I.os, I.bare, I.base, I.loc, I.cell, I.free, I.freeC, fun p hp => I.pin p (List.mem_append_left _ hp), I.hok, I.len⟩
section
variable {X : Cx} {body : List Stmt} {h₀ : ExceptHandler} {hds : List ExceptHandler} {l : List (Value × Nat × TS)} {pos : Pos} {tb : WX → TS} {Wout : WX}
theorem ps_tryT (hs : X.stack = X.env :: X.outer) (hf : X.env.frame = some X.env.locals) (hN : X.N.Nodup) (hex : X.ex = []) (tk : Takes X Wout)
    (hb : ∀ (W : WX) (pn : List (Addr × Obj)) (xe : Value → Shared → Prop), Takes (X.tr pn xe) W → PassesOwn (model X.prog X.w) X.A X.env xe → PSs (X.tr pn xe) body (tb W))
    (hh : Hds X (h₀ :: hds) l) : PS X (.Try body (h₀ :: hds) [] [] pos) (fun D σ H => tb (wT X.K Wout D l) D σ H) := by
  constructor
  intro pins s σ H D I h
  have ok := I.ok
  have fr : X.A.frames = some (X.env :: X.outer) := by rw [ok.frames, hs]
  refine wpAny_Try_except ?_
  refine wpAny_mono ((hb (wT X.K Wout D l) (X.pn ++ pins) (fun e s₁ => wpAny (model X.prog X.w) X.A (noteFrame e X.env) (fun _ s₂ => wpAny (model X.prog X.w) X.A (setFlight e none) (fun _ s₃ =>
    wpAny (model X.prog X.w) X.A (handleBy e X.env (h₀ :: hds)) (SP X pins D) X.xe s₃) X.xe s₂) X.xe s₁) (fun u s' xx => ?_) PassesOwn.looking).run [] s σ H D (I.toTry _) h) (fun f s1 hsp => ?_) (fun e s1 he => he)
  · obtain ⟨a, B, sI, pins', σ', H', cls, d, rfl, J', nb, up, sky, na, os, ag, w⟩ := xx
    have J : L2.Inv X pins σ' H' sI := J'.ofTry ok
    have sky2 : Sky B (X.env :: X.outer) a (Zc cls d) X.env.locals s'.heap := by rw [← hs]; exact sky
    show wpAny (model X.prog X.w) X.A (noteFrame (.ref a) X.env) _ _ _
    refine Sky.land Zc.steady fr hf sky2 fun h3 fl3 up3 => ?_
    have J3 : L2.Inv X pins σ' H' { s' with heap := h3 } := J.landed nb fl3.1 (up.trans up3) os ag
    obtain ⟨oe3, vs3, he3, hz3, hd3⟩ := fl3.there
    have nfr : a ∉ frs (X.env :: X.outer) := fun hm => by
      obtain ⟨_, o', e', hnf⟩ := fl3.2.2.1.mem hm
      rw [he3] at e'
      cases e'
      exact hnf _ hd3
    have nL : a ≠ X.env.locals := fun z => nfr (List.mem_filterMap.mpr ⟨X.env, List.mem_cons_self, by rw [hf, z]⟩)
    have nI : sI.heap.get? a = none := by
      cases q : sI.heap.get? a with
      | none => rfl
      | some o =>
        have z := nb a o q (by rw [hs]; exact nfr)
        rw [fl3.2.1] at z
        cases z
    have n0 : X.s_0.heap.get? a = none := by
      cases q : X.s_0.heap.get? a with
      | none => rfl
      | some o =>
        obtain ⟨o', z⟩ := J.base.there a o q (by rw [hex]; simp)
        rw [nI] at z
        cases z
    have nP : ∀ p ∈ X.pn ++ pins, p.1 ≠ a := fun p hp z => by
      have q := (J.pin p hp).1
      rw [z, nI] at q
      cases q
    have S3 := suite_in J3 a
    have go : ∀ {hds' : List ExceptHandler} {l' : List (Value × Nat × TS)}, Hds X hds' l' → wT X.K Wout D l' cls d σ' H' →
        wpAny (model X.prog X.w) X.A (handleBy (.ref a) X.env hds') (SP X pins D) X.xe { s' with heap := h3 } := by
      intro hds' l' hk
      induction hk with
      | nil =>
        intro w
        refine wpAny_handleBy_nil ?_
        obtain ⟨k1, k2, k3, oe, vs, T, oT, ts', he, hz, hd, h1, hr⟩ := id fl3
        unfold PySem.passOn
        refine wpAny_bind (wpAny_field he hd h1 ?_)
        rw [if_neg (show ¬ ((Value.ref T == Value.none) = true) from by simp)]
        have last : wpAny (model X.prog X.w) X.A (setFlight (.ref a) X.env.frame) (fun _ s4 => wpAny (model X.prog X.w) X.A (throw (.ref a) : Sem Flow) (SP X pins D) X.xe s4) X.xe { s' with heap := h3 } := by
          rw [hf]
          refine HandSPX.setFlight_upZ fl3 fun h4 hh4 up4 => wpAny_throw (tk _ _ ?_)
          exact ⟨a, B, sI, pins, σ', H', cls, d, rfl, J, nb, (up.trans up3).trans up4, .inr (.inr (by rw [hs]; exact hh4)), na, os, ag, w⟩
        first
          | exact wpAny_bind (wpAny_pure (wpAny_bind last))
          | exact wpAny_bind last
      | @cons x n c i ts b₀ suite np pos' hds2 l2 hc hi hln hsu r ih =>
        intro w
        obtain ⟨b, hb1, hyes, hno⟩ := w
        refine wpAny_handleBy_cons (codeAny_handlers_test ?_) (by intro q; cases q)
        have LT : PySem.W.Looks (model X.prog X.w) h3 (typeOf (.ref a)) cls := fun A Q E s k q => wpAny_typeOf_ref (k _ _ he3) (by rw [hz3.1]; exact q)
        have LM := PySem.W.exm_one (M := model X.prog X.w) (J3.kIn) LT hb1
        have ask : ∀ {Q : Value → Shared → Prop} {E : Value → Shared → Prop}, Q c { s' with heap := h3 } → wpAny (model X.prog X.w) (X.A.mark (some (.ref a))) (eval (.Name x np) X.env) Q E { s' with heap := h3 } := fun {Q E} q => by
          obtain ⟨hg, hdbg, hm | ⟨hm, hv, hnn⟩⟩ := hc
          · exact ld_glob (X := X.suite a (X.pn ++ pins)) S3 hg hm q hdbg
          · exact ld_blt (X := X.suite a (X.pn ++ pins)) S3 hg hm hv q hnn hdbg
        refine ask (LM.here ?_)
        cases b with
        | true =>
          obtain ⟨C, dd, rfl, rfl, want⟩ := hyes rfl
          refine codeAny_handlers_suite_as ?_
          refine HandSPX.lands_againZ fl3 fun h4 fl4 up4 => ?_
          have J4 : L2.Inv X pins σ' H' { s' with heap := h4 } := J.landed nb fl4.1 ((up.trans up3).trans up4) os ag
          obtain ⟨oe4, vs4, he4, hz4, hd4⟩ := fl4.there
          have nC : ∀ y c', X.env.cells.lookup y = some c' → c' ≠ a := fun y c' e z => by
            obtain ⟨v, o, ho, hdat⟩ := J4.cell y c' e
            rw [z] at ho
            have ho' : h4.get? a = some o := ho
            rw [he4] at ho'
            cases ho'
            rw [hd4] at hdat
            cases hdat
          have J5 := Inv.track J4 na n0 nL nC nP (exq_ok (C := C) (d := dd) he4 hz4 hd4)
          have S5 := suite_in J5 a
          refine store_ok (X := X.suite a (X.pn ++ pins)) (v := .ref a) S5 hN hi (.inl hln) rfl (fun s6 S6 => ?_) (.inr hln)
          refine wpAny_mono ((hsu a (X.pn ++ pins)).run [] s6 _ _ _ S6 (want a na)) (fun f s7 hsp => ?_) (fun _ _ z => False.elim z)
          have close : ∀ {σ7 : Sg} {H7 : Hp} {Q : Shared → Prop}, L2.Inv (X.suite a (X.pn ++ pins)) [] σ7 H7 s7 → (∀ s8, L2.Inv X pins (σ7.set i none) H7 s8 → Q s8) →
              wpAny (model X.prog X.w) X.A (do bindName X.env n .none; unbindBehindTheSuite X.env n pos') (fun _ s8 => Q s8) X.xe s7 := fun {σ7 H7 Q} S7 hq => gone_ok (suite_out S7 ok) hN hi hln hq
          cases f with
          | next =>
            obtain ⟨σ7, H7, S7, q7⟩ := hsp
            exact close S7 fun s8 J8 => ⟨_, _, J8, q7⟩
          | brk =>
            obtain ⟨σ7, H7, S7, q7⟩ := hsp
            exact close S7 fun s8 J8 => ⟨_, _, J8, q7⟩
          | cont =>
            obtain ⟨σ7, H7, S7, q7⟩ := hsp
            exact close S7 fun s8 J8 => ⟨_, _, J8, q7⟩
          | ret u =>
            obtain ⟨v7, σ7, H7, S7, r7, q7⟩ := hsp
            exact close S7 fun s8 J8 => ⟨_, _, _, J8, r7, q7⟩
        | false =>
          show wpAny _ X.A (handleBy (.ref a) X.env hds2) _ _ _
          exact ih (hno rfl)
    exact go hh w
  · cases f with
    | next =>
      obtain ⟨σ', H', J', q⟩ := hsp
      exact wpAny_execs_nil ⟨σ', H', J'.ofTry ok, q⟩
    | brk =>
      obtain ⟨σ', H', J', q⟩ := hsp
      exact ⟨σ', H', J'.ofTry ok, q⟩
    | cont =>
      obtain ⟨σ', H', J', q⟩ := hsp
      exact ⟨σ', H', J'.ofTry ok, q⟩
    | ret u =>
      obtain ⟨v, σ', H', J', r, q⟩ := hsp
      exact ⟨v, σ', H', J'.ofTry ok, r, q⟩
end
end TSx

/-! Own layer, part 6: repr of data among which dicts stand (their values without parts). -/
namespace TSx
open PySem L2 PySem.Spec PyProof.Rows
/-- a thing without parts, as the library's data -/
def D.s0 : D → PyData
  | .bl b => .bool b
  | .int i => .int i
  | .str x => .str x
  | _ => .none
def pdKey : Key → PyData
  | .inl i => .int i
  | .inr x => .str x
mutual
def D.pd : D → PyData
  | .non => .none
  | .bl b => .bool b
  | .int i => .int i
  | .str x => .str x
  | .lst xs => .list (pdA xs)
  | .tup xs => .tuple (pdA xs)
  | .dic kvs => .dict (kvs.map fun p => (pdKey p.1, p.2.s0))
  | .exc _ _ => .none
def pdA : List D → List PyData
  | [] => []
  | x :: xs => x.pd :: pdA xs
end
def D.flat : D → Bool
  | .non => true
  | .bl _ => true
  | .int _ => true
  | .str _ => true
  | _ => false
mutual
/-- no exception in it, dicts hold things without parts -/
def D.sh : D → Bool
  | .lst xs => shA xs
  | .tup xs => shA xs
  | .dic kvs => kvs.all fun p => p.2.flat
  | .exc _ _ => false
  | _ => true
def shA : List D → Bool
  | [] => true
  | x :: xs => x.sh && shA xs
end
section
variable {P : Program} {w : World} {h : Heap}
/-- the value reads as p and shows as p -/
def Rp (P : Program) (w : World) (h : Heap) (u : Value) (p : PyData) : Prop := (∃ as, Reads h u p as) ∧ ∃ bs, ReadAtMost h p.depth bs ∧ ReprK P w bs h p.depth u p.shown
def RpA (P : Program) (w : World) (h : Heap) (us : List Value) (ps : List PyData) : Prop := (∃ as, ReadsAll h us ps as) ∧ ∃ bs, ReadAtMost h (PyData.depthAll ps) bs ∧ ReprAllK P w bs h (PyData.depthAll ps) us (PyData.shownAll ps)
theorem rpA_nil : RpA P w h [] [] := ⟨⟨_, .nil⟩, [], (fun _ z => nomatch z), by simp only [PyData.shownAll]; exact .nil⟩
theorem rpA_cons {u : Value} {us : List Value} {p : PyData} {ps : List PyData} (a : Rp P w h u p) (b : RpA P w h us ps) : RpA P w h (u :: us) (p :: ps) := by
  obtain ⟨⟨_, r1⟩, xs, m1, k1⟩ := a
  obtain ⟨⟨_, r2⟩, ys, m2, k2⟩ := b
  have e : PyData.depthAll (p :: ps) = max p.depth (PyData.depthAll ps) := by simp only [PyData.depthAll]
  have e2 : PyData.shownAll (p :: ps) = p.shown :: PyData.shownAll ps := by simp only [PyData.shownAll]
  unfold RpA
  rw [e, e2]
  exact ⟨⟨_, .cons r1 r2⟩, xs ++ ys, (m1.mono (Nat.le_max_left ..)).append (m2.mono (Nat.le_max_right ..)), .cons ((k1.more fun b hb => List.mem_append_left _ hb).level_le (Nat.le_max_left ..)) (k2.more_le (fun b hb => List.mem_append_right _ hb) (Nat.le_max_right ..))⟩
/-- what a list's (tuple's, dict's) node wants of its parts -/
theorem rp_node {a : Addr} {p : PyData} {n : Nat} (r : ∃ as, Reads h (.ref a) p as) (e : p.depth = n + 1) {bs : List Addr} (m : ReadAtMost h n bs) : a ∉ bs ∧ ReadAtMost h p.depth (a :: bs) := by
  obtain ⟨_, r⟩ := r
  exact ⟨not_mem_of_deeper r (by rw [e]; exact Nat.lt_succ_self _) m, ReadAtMost.cons r (by rw [e]; exact Nat.le_succ _) m⟩
theorem rp_list {a : Addr} {o : Obj} {its : List Value} {n : Nat} {ps : List PyData} (h1 : h.get? a = some o) (h2 : o.cls = .type "list") (h3 : o.data = .seq its.toArray n) (q : RpA P w h its ps) : Rp P w h (.ref a) (.list ps) := by
  obtain ⟨⟨_, ra⟩, bs, m, k⟩ := q
  have r : ∃ as, Reads h (.ref a) (.list ps) as := ⟨_, .list h1 h2 h3 (by simpa using ra)⟩
  obtain ⟨hn, hm⟩ := rp_node r (by simp only [PyData.depth]) m
  refine ⟨r, a :: bs, hm, ?_⟩
  simp only [PyData.depth, PyData.shown]
  cases its with
  | nil =>
    cases ra
    simp only [PyData.shownAll, listText_nil]
    exact ReprK.listEmpty h1 h2 h3
  | cons x l => exact ReprK.list h1 h2 h3 hn (by have := k.length_eq; simpa using this) fun i y e => k.item i y (by simpa using e)
theorem rp_tuple {a : Addr} {o : Obj} {its : List Value} {n : Nat} {ps : List PyData} (h1 : h.get? a = some o) (h2 : o.cls = .type "tuple") (h3 : o.data = .seq its.toArray n) (q : RpA P w h its ps) : Rp P w h (.ref a) (.tuple ps) := by
  obtain ⟨⟨_, ra⟩, bs, m, k⟩ := q
  have r : ∃ as, Reads h (.ref a) (.tuple ps) as := ⟨_, .tuple h1 h2 h3 (by simpa using ra)⟩
  obtain ⟨hn, hm⟩ := rp_node r (by simp only [PyData.depth]) m
  refine ⟨r, a :: bs, hm, ?_⟩
  simp only [PyData.depth, PyData.shown]
  exact ReprK.tuple h1 h2 h3 hn (by simpa using k)
/-- a dict's entries, keys and values one by one -/
structure RpD (P : Program) (w : World) (h : Heap) (es : List DictEntry) (kvs : List (PyData × PyData)) : Prop where
  r1 : ∃ as, ReadsAll h (es.map (·.key)) (kvs.map (·.1)) as
  r2 : ∃ as, ReadsAll h (es.map (·.val)) (kvs.map (·.2)) as
  k : ∃ bs, ReadAtMost h (PyData.depthKv kvs) bs ∧ ReprEntriesK P w bs h (PyData.depthKv kvs) es (PyData.shownKv kvs)
theorem rpD_nil : RpD P w h [] [] := ⟨⟨_, .nil⟩, ⟨_, .nil⟩, [], (fun _ z => nomatch z), by simp only [PyData.shownKv]; exact .nil⟩
theorem rp_dict {a : Addr} {o : Obj} {es : Array DictEntry} {n : Nat} {kvs : List (PyData × PyData)} (h1 : h.get? a = some o) (h2 : o.cls = .type "dict") (h3 : o.data = .dict es n) (hs : (a == sysModules) = false) (q : RpD P w h es.toList kvs) : Rp P w h (.ref a) (.dict kvs) := by
  obtain ⟨⟨_, r1⟩, ⟨_, r2⟩, bs, m, k⟩ := q
  have r : ∃ as, Reads h (.ref a) (.dict kvs) as := ⟨_, .dict h1 h2 h3 r1 r2⟩
  obtain ⟨hn, hm⟩ := rp_node r (by simp only [PyData.depth]) m
  refine ⟨r, a :: bs, hm, ?_⟩
  simp only [PyData.depth, PyData.shown]
  exact ReprK.dict h1 h2 h3 hs hn k
theorem rp_flat {p : PyData} {u : Value} (r : Reads h u p []) (k : ReprK P w [] h 0 u p.shown) : Rp P w h u p := ⟨⟨_, r⟩, [], (fun _ z => nomatch z), k.level_le (Nat.zero_le _)⟩
end
section
variable {X : Cx} {pins : List (Addr × Obj)} {σ : Sg} {H : Hp} {s : Shared}
theorem rp_non : Rp X.prog X.w s.heap .none .none := rp_flat .none (by simp only [PyData.shown]; exact .of_is ReprIs.none _ _ _)
theorem rp_bl (b : Bool) : Rp X.prog X.w s.heap (.bool b) (.bool b) := rp_flat (.bool b) (by simp only [PyData.shown]; exact .of_is (ReprIs.bool b) _ _ _)
theorem rp_int (i : Int) (t : Tok) (z : (PyData.int i).showable = true) : Rp X.prog X.w s.heap (.int i t) (.int i) := rp_flat (.int i t) (by simp only [PyData.shown]; exact .of_is (ReprIs.int t (by simpa [PyData.showable] using z)) _ _ _)
theorem rp_str (x : Str) (t : Tok) (z : (PyData.str x).shown.length ≤ sizeLine) : Rp X.prog X.w s.heap (.str x t) (.str x) := rp_flat (.str x t) (by simp only [PyData.shown]; exact .of_is (ReprIs.str x t (by simpa only [PyData.shown] using z)) _ _ _)
theorem rp_s0 {d : D} {v : V} {u : Value} (hd : Dt X.K H v d) (r : RelV v u) (f : d.flat = true) (z : d.s0.showable = true) (l : d.s0.shown.length ≤ sizeLine) : Rp X.prog X.w s.heap u d.s0 := by
  cases hd with
  | non => cases r; exact rp_non
  | bl b => cases r; exact rp_bl b
  | int i => obtain ⟨t, rfl⟩ := r; exact rp_int i t z
  | str x => obtain ⟨t, rfl⟩ := r; exact rp_str x t l
  | lst _ _ => cases f
  | tup _ _ => cases f
  | dic _ _ => cases f
  | exc _ _ _ => cases f
theorem rp_key {k : Key} {u : Value} (r : (mixKind X.prog X.w).is k u = true) (z : (pdKey k).showable = true) (l : (pdKey k).shown.length ≤ sizeLine) : Rp X.prog X.w s.heap u (pdKey k) := by
  rcases keyIs_shape (k := k) (v := u) r with ⟨i, t, rfl, rfl⟩ | ⟨x, t, rfl, rfl⟩
  · exact rp_int i t z
  · exact rp_str x t l
theorem rp_ents : ∀ (ds : List (Key × D)) (xs : List (Key × V)) (vs : List (Key × Value)) (es : List DictEntry), DtK X.K H xs ds → KV xs vs → Pairs (mixKind X.prog X.w) es vs → ds.all (fun p => p.2.flat) = true →
    PyData.showableKv (ds.map fun p => (pdKey p.1, p.2.s0)) = true → (∀ t ∈ PyData.shownKv (ds.map fun p => (pdKey p.1, p.2.s0)), t.length ≤ sizeLine) → RpD X.prog X.w s.heap es (ds.map fun p => (pdKey p.1, p.2.s0))
  | [], _, _, _, a, b, c, _, _, _ => by
    cases a
    cases b
    cases c
    exact rpD_nil
  | (k, d) :: ds, _, _, _, a, b, c, f, z, l => by
    cases a with
    | @cons _ v xs _ _ ad ak =>
    cases b with
    | @cons _ y _ ys bd bk =>
    obtain ⟨y1, y2⟩ := y
    obtain ⟨rfl, ry⟩ := bd
    cases c with
    | @cons e _ es _ ck cv cr =>
    simp only [List.all_cons, Bool.and_eq_true] at f
    simp only [List.map_cons, PyData.showableKv, Bool.and_eq_true] at z
    simp only [List.map_cons, PyData.shownKv, List.mem_cons, forall_eq_or_imp] at l
    have lt : ((pdKey k).shown ++ ": " ++ d.s0.shown).length = (pdKey k).shown.length + 2 + d.s0.shown.length := by rw [strLen_append, strLen_append]; rfl
    have l1 : (pdKey k).shown.length ≤ sizeLine := by have := l.1; omega
    have l2 : d.s0.shown.length ≤ sizeLine := by have := l.1; omega
    obtain ⟨⟨_, p1⟩, b1, m1, k1⟩ := rp_key (s := s) (k := k) ck z.1.1 l1
    obtain ⟨⟨_, p2⟩, b2, m2, k2⟩ := rp_s0 (s := s) (u := e.val) ad (by rw [cv]; exact ry) f.1 z.1.2 l2
    obtain ⟨⟨_, r1⟩, ⟨_, r2⟩, b3, m3, k3⟩ := rp_ents ds xs ys es ak bk cr f.2 z.2 l.2
    have dp : PyData.depthKv ((pdKey k, d.s0) :: ds.map fun p => (pdKey p.1, p.2.s0)) = max (max (pdKey k).depth d.s0.depth) (PyData.depthKv (ds.map fun p => (pdKey p.1, p.2.s0))) := by simp only [PyData.depthKv]
    refine ⟨⟨_, .cons p1 r1⟩, ⟨_, .cons p2 r2⟩, b1 ++ (b2 ++ b3), ?_, ?_⟩
    · show ReadAtMost _ (PyData.depthKv ((pdKey k, d.s0) :: ds.map fun p => (pdKey p.1, p.2.s0))) _
      rw [dp]
      exact (m1.mono (by omega)).append ((m2.mono (by omega)).append (m3.mono (by omega)))
    · show ReprEntriesK _ _ _ _ (PyData.depthKv ((pdKey k, d.s0) :: ds.map fun p => (pdKey p.1, p.2.s0))) _ (PyData.shownKv ((pdKey k, d.s0) :: ds.map fun p => (pdKey p.1, p.2.s0)))
      rw [dp]
      simp only [PyData.shownKv]
      refine .cons ((k1.more fun b hb => List.mem_append_left _ hb).level_le (by omega)) ((k2.more fun b hb => List.mem_append_right _ (List.mem_append_left _ hb)).level_le (by omega)) ?_
      have up : ∀ {es : List DictEntry} {ps : List Str}, ReprEntriesK X.prog X.w b3 s.heap (PyData.depthKv (ds.map fun p => (pdKey p.1, p.2.s0))) es ps → ReprEntriesK X.prog X.w (b1 ++ (b2 ++ b3)) s.heap (max (max (pdKey k).depth d.s0.depth) (PyData.depthKv (ds.map fun p => (pdKey p.1, p.2.s0)))) es ps := by
        intro es ps q
        induction q with
        | nil => exact .nil
        | cons x y _ ih => exact .cons ((x.more fun b hb => List.mem_append_right _ (List.mem_append_right _ hb)).level_le (by omega)) ((y.more fun b hb => List.mem_append_right _ (List.mem_append_right _ hb)).level_le (by omega)) ih
      exact up k3
mutual
theorem rpDt (I : L2.Inv X pins σ H s) : ∀ (d : D) (v : V) (u : Value), Dt X.K H v d → RelV v u → d.sh = true → d.pd.showable = true → d.pd.shown.length ≤ sizeLine → Rp X.prog X.w s.heap u d.pd
  | .non, _, _, h, r, _, _, _ => by cases h; cases r; exact rp_non
  | .bl b, _, _, h, r, _, _, _ => by cases h; cases r; exact rp_bl b
  | .int i, _, _, h, r, _, z, _ => by cases h; obtain ⟨t, rfl⟩ := r; exact rp_int i t z
  | .str x, _, _, h, r, _, _, l => by cases h; obtain ⟨t, rfl⟩ := r; exact rp_str x t l
  | .exc _ _, _, _, _, _, f, _, _ => by cases f
  | .lst ds, _, _, h, r, f, z, l => by
    cases h with
    | @lst a xs _ e aa =>
    cases r
    obtain ⟨its, rv, ⟨o, n, ho, hc, _, hd⟩, _⟩ := I.list (SqL.of e)
    have l' : (listText (PyData.shownAll (pdA ds))).length ≤ sizeLine := l
    exact rp_list ho hc hd (rpDtA I ds xs its aa rv f z fun t ht => Nat.le_trans (listText_mem_le ht) l')
  | .tup ds, _, _, h, r, f, z, l => by
    cases h with
    | @tup a xs _ e aa =>
    cases r
    obtain ⟨its, rv, ⟨o, ho, hc, n, hd⟩, _⟩ := I.tuple e
    have l' : (tupleText (PyData.shownAll (pdA ds))).length ≤ sizeLine := l
    exact rp_tuple ho hc hd (rpDtA I ds xs its aa rv f z fun t ht => Nat.le_trans (tupleText_mem_le ht) l')
  | .dic ds, _, _, h, r, f, z, l => by
    cases h with
    | @dic a xs _ e aa =>
    cases r
    obtain ⟨_, lo, vs, rel, o, es, ep, h1, h2, h3, h4, h5, _⟩ := dk_of I.hok e
    have l' : (dictText (PyData.shownKv (ds.map fun p => (pdKey p.1, p.2.s0)))).length ≤ sizeLine := l
    exact rp_dict h1 h2.1 h3 lo (rp_ents ds xs vs es.toList aa rel h5 f z fun t ht => Nat.le_trans (dictText_mem_le ht) l')
theorem rpDtA (I : L2.Inv X pins σ H s) : ∀ (ds : List D) (vs : List V) (us : List Value), DtA X.K H vs ds → Vals vs us → shA ds = true → PyData.showableAll (pdA ds) = true → (∀ t ∈ PyData.shownAll (pdA ds), t.length ≤ sizeLine) → RpA X.prog X.w s.heap us (pdA ds)
  | [], _, _, h, r, _, _, _ => by cases h; cases r; exact rpA_nil
  | d :: ds, _, _, h, r, f, z, l => by
    cases h with
    | cons h1 h2 =>
    cases r with
    | cons r1 r2 =>
    simp only [shA, Bool.and_eq_true] at f
    simp only [pdA, PyData.showableAll, Bool.and_eq_true] at z
    simp only [pdA, PyData.shownAll, List.mem_cons, forall_eq_or_imp] at l
    exact rpA_cons (rpDt I d _ _ h1 r1 f.1 z.1 l.1) (rpDtA I ds _ _ h2 r2 f.2 z.2 l.2)
end
end
/-- what repr can be asked of -/
def D.rd (d : D) : Prop := d.sh = true ∧ d.pd.showable = true ∧ d.pd.shown.length ≤ sizeLine ∧ d.pd.depth ≤ 50
def rReprD (K : PySem.W.Frag) : List V → Hp → VK → Prop := fun xs H Q => ∃ v d, xs = [v] ∧ Dt K H v d ∧ d.rd ∧ Q (.str d.pd.shown) H
theorem call_reprD {X : Cx} (g : X.A.guards = some []) (hu : X.A.units + 64 < cLine) : CallR X (.builtin "repr") (rReprD X.K) := by
  intro pins s σ H xs us Q I r h
  obtain ⟨v, d, rfl, hd, ⟨hp, hs, hz, hdp⟩, q⟩ := h
  obtain ⟨u, rfl, ru⟩ := vals1 r
  have hu2 : X.A.units + (d.pd.depth + 1) < cLine := by omega
  have fin : ∀ h' tk u', (∀ b o, s.heap.get? b = some o → h'.get? b = some o) → EP X pins σ Q (.str d.pd.shown u') { s with heap := h', toks := tk } := fun h' tk u' k => ⟨.str d.pd.shown, H, I.kept k, ⟨u', rfl⟩, q⟩
  have finT : EP X pins σ Q (.str d.pd.shown s.toks) { s with toks := s.toks + 1 } := ⟨.str d.pd.shown, H, I.tok _, ⟨_, rfl⟩, q⟩
  cases hd with
  | non => cases ru; exact PySem.P.repr_of_none finT
  | bl b => cases ru; exact PySem.P.repr_of_bool finT
  | int i =>
    obtain ⟨t, rfl⟩ := ru
    exact PySem.P.repr_of_int (of_decide_eq_true hs) finT
  | str x =>
    obtain ⟨t, rfl⟩ := ru
    exact PySem.P.repr_of_str finT hz
  | @lst a xs ds e aa =>
    cases ru
    obtain ⟨its, rv, ⟨o, n, ho, hc, _, hdt⟩, _⟩ := I.list (SqL.of e)
    have l' : (listText (PyData.shownAll (pdA ds))).length ≤ sizeLine := hz
    obtain ⟨⟨_, ra⟩, bs, m, k⟩ := rpDtA I ds xs its aa rv hp hs fun t ht => Nat.le_trans (listText_mem_le ht) l'
    have rr : ∃ as, Reads s.heap (.ref a) (.list (pdA ds)) as := ⟨_, .list ho hc hdt (by simpa using ra)⟩
    obtain ⟨hn, _⟩ := rp_node rr (by simp only [PyData.depth]) m
    have hu3 : X.A.units + (PyData.depthAll (pdA ds) + 1 + 1) < cLine := hu2
    refine call_repr_slot (by omega) ⟨o, ho, hc⟩ PySem.F.slot_list_repr.toG ?_
    cases its with
    | nil =>
      have e0 : ds = [] := by
        cases ds with
        | nil => rfl
        | cons x y => cases aa with | cons _ _ => cases rv
      subst e0
      exact call_list_repr_empty ⟨o, ho, hc⟩ ho hdt ⟨_, _, rfl, fin s.heap _ _ fun _ _ e => e⟩
    | cons x l =>
      exact call_list_reprK ho hc hdt hn (by have := k.length_eq; simpa using this) (fun i y e => k.item i y (by simpa using e)) g (fun b _ => Clear.nil b) (show X.A.units + 1 + (PyData.depthAll (pdA ds) + 1) < cLine by omega) (fun _ _ e => e) (fun h' u tk kk => ⟨_, _, rfl, fin h' tk u kk⟩) l'
  | @tup a xs ds e aa =>
    cases ru
    obtain ⟨its, rv, ⟨o, ho, hc, n, hdt⟩, _⟩ := I.tuple e
    have l' : (tupleText (PyData.shownAll (pdA ds))).length ≤ sizeLine := hz
    obtain ⟨⟨_, ra⟩, bs, m, k⟩ := rpDtA I ds xs its aa rv hp hs fun t ht => Nat.le_trans (tupleText_mem_le ht) l'
    have rr : ∃ as, Reads s.heap (.ref a) (.tuple (pdA ds)) as := ⟨_, .tuple ho hc hdt (by simpa using ra)⟩
    obtain ⟨hn, _⟩ := rp_node rr (by simp only [PyData.depth]) m
    have hu3 : X.A.units + (PyData.depthAll (pdA ds) + 1 + 1) < cLine := hu2
    refine call_repr_slot (by omega) ⟨o, ho, hc⟩ PySem.F.slot_tuple_repr ?_
    exact call_tuple_reprK ho hc hdt hn (by simpa using k) g (fun b _ => Clear.nil b) (show X.A.units + 1 + (PyData.depthAll (pdA ds) + 1) < cLine by omega) (fun _ _ e => e) (fun h' u tk kk => ⟨_, _, rfl, fin h' tk u kk⟩) l'
  | @dic a xs ds e aa =>
    cases ru
    obtain ⟨_, lo, vs, rel, o, es, ep, h1, h2, h3, h4, h5, _⟩ := dk_of I.hok e
    have l' : (dictText (PyData.shownKv (ds.map fun p => (pdKey p.1, p.2.s0)))).length ≤ sizeLine := hz
    obtain ⟨⟨_, r1⟩, ⟨_, r2⟩, bs, m, k⟩ := rp_ents (s := s) ds xs vs es.toList aa rel h5 hp hs fun t ht => Nat.le_trans (dictText_mem_le ht) l'
    have rr : ∃ as, Reads s.heap (.ref a) (.dict (ds.map fun p => (pdKey p.1, p.2.s0))) as := ⟨_, .dict h1 h2.1 h3 r1 r2⟩
    obtain ⟨hn, _⟩ := rp_node rr (by simp only [PyData.depth]) m
    have hu3 : X.A.units + (PyData.depthKv (ds.map fun p => (pdKey p.1, p.2.s0)) + 1 + 1) < cLine := hu2
    refine call_repr_slot (by omega) ⟨o, h1, h2.1⟩ PySem.F.slot_dict_repr ?_
    exact call_dict_reprK h1 h2.1 h3 lo hn k g (fun b _ => Clear.nil b) (show X.A.units + 1 + (PyData.depthKv (ds.map fun p => (pdKey p.1, p.2.s0)) + 1) < cLine by omega) (fun _ _ e => e) (fun h' u tk kk => ⟨_, _, rfl, fin h' tk u kk⟩) l'
  | exc _ _ _ => cases hp
end TSx

/-! Own layer, part 7: an own class over OverflowError, made as a value. -/
namespace TSx
open PySem L2 PySem.Spec PyProof.Rows
abbrev ofTail : List Value := [.type "OverflowError", .type "ArithmeticError", .type "Exception", .type "BaseException", .type "object"]
structure OofC (K : PySem.W.Frag) (C : Addr) : Prop where
  cls : ∃ nm q N bs bm sn sub ab col dd k0 k1 k2 k3 k5, K.lookup C = some (excClassObj nm q C N bs bm true sn sub ab col dd k0 k1 k2 k3 k5 "OverflowError.__new__") ∧ PySem.W.excTail ofTail bm = true
  sa : PySem.W.findIn K (.ref C) "__setattr__" = some (some (.builtin "object.__setattr__"))
  kC : PySem.W.keepIn K (.ref C) = true
section
open Builtin Builtin.ObjectAttr
variable {prog : Program} {w : World} {A : Around} {R : Result → Shared → Prop} {hp : Heap} {g : Array GenState} {d : Drawn} {t : Nat} {os : OsState}
theorem of_store {K : PySem.W.Frag} {f : Str} {tk : Tok} {u : Value} {x C : Addr} {fv : Array Value} (T : OofC K C) (X : K.In hp) (at1 : hp.get? x = some { cls := .ref C, data := .fields fv }) (no : PySem.W.findIn K (.ref C) f = some none)
    (k : ∀ h' tk' dx, (∀ b o, b ≠ x → hp.get? b = some o → h'.get? b = some o) → hp.objs.size ≤ dx → dx ≠ x → h'.get? x = some { cls := .ref C, dict := some dx, data := .fields fv } →
      h'.Ns1 dx (fun y => if y = f then some u else none) → R (.ok (.ret .none)) ⟨h', g, d, tk', os⟩) :
    codeAny (model prog w) A (.call (.builtin "object.__setattr__") ⟨[.ref x, .str f tk, u], []⟩) R ⟨hp, g, d, t, os⟩ := by
  obtain ⟨nm, q, N, bs, bm, sn, sub, ab, col, dd, k0, k1, k2, k3, k5, hC, hbm⟩ := T.cls
  have hcl : PySem.W.clsIn K C = some { name := nm, bases := bs, mro := .ref C :: bm, ns := N, qualname := q, hasDict := true, slotNames := sn, subclasses := sub, abstract := ab, collection := col, hasDel := false } := by unfold PySem.W.clsIn; rw [hC] <;> rfl
  have over : PySem.W.excOver K C ofTail = true := by
    unfold PySem.W.excOver
    rw [hcl]
    show (C == C && PySem.W.excTail ofTail bm) = true
    rw [hbm, beq_self_eq_true]
    rfl
  have I : PySem.W.InstAt hp x { cls := .ref C, data := .fields fv } C none := ⟨at1, rfl, rfl, trivial⟩
  have look : PySem.W.Looks (model prog w) hp (classData C) _ := PySem.W.looks_clsIn X hcl
  have ne : x ≠ hp.objs.size := Nat.ne_of_lt (Heap.lt_size at1)
  refine PySem.W.osa_openX PySem.F.store_OverflowError X I over (r := none) (by unfold PySem.W.takerIn; rw [no]; rfl) fun b => ?_
  show wpAny _ _ (storeInOwnDict (.ref x) (.ref C) (.str f tk) f u b) _ _ _
  unfold storeInOwnDict ownDictForStores
  cases b
  all_goals
    repeat (first
      | with_reducible refine PySem.HandSPX.store_in_new ?_ ?_
      | with_reducible refine wpAny_loadPart_at at1 ?_
      | with_reducible refine look.at ?_
      | wp_step)
  all_goals first
    | exact ⟨_, #[], _, (Heap.get?_update_ne _ _ _ _ ne.symm).trans (Heap.get?_push_at rfl rfl), rfl, fun e he => absurd he (by simp), fun _ => rfl⟩
    | (intro h' tk' hn' hs
       have a2 : (hp.push { cls := .type "dict", data := .dict #[] }).get? x = some { cls := .ref C, data := .fields fv } := Heap.get?_push_of_some _ at1
       refine k h' tk' hp.objs.size (fun b o hb ho => ?_) (Nat.le_refl _) ne.symm ?_ hn'
       · exact (hs.2 b (Nat.ne_of_lt (Heap.lt_size ho))).trans ((Heap.get?_update_ne _ _ _ _ hb).trans (Heap.get?_push_of_some _ ho))
       · exact (hs.2 x ne).trans (Heap.get?_update_self _ a2 rfl))
end
section
variable {X : Cx} {pins : List (Addr × Obj)} {σ : Sg} {H : Hp} {s : Shared} {a C dx : Addr} {f : Str} {y : V} {u : Value} {fs : List (Str × V)} {Q : Unit → Shared → Prop} {E : Value → Shared → Prop} {A : Around}
/-- self.f = y, the first field -/
theorem of_new (T : OofC X.K C) (I : L2.Inv X pins σ H s) (e : H a = some (exo a C none)) (no : PySem.W.findIn X.K (.ref C) f = some none) (ry : RelV y u)
    (k : ∀ dx s', H dx = none → dx ≠ a → L2.Inv X pins σ (upd (upd H dx (exd dx [(f, y)])) a (exo a C (some dx))) s' → Q () s') : wpAny (model X.prog X.w) A (setAttr (.ref a) f u) Q E s := by
  obtain ⟨t1, ho⟩ := exo_at I.hok e
  obtain ⟨hp, g, d, t, os⟩ := s
  refine PySem.W.set_plain I.kIn (ox := { cls := .ref C, dict := none, data := .fields #[.ref t1, .none, .none, .none, .bool false, .none] }) (od := none) ⟨ho, rfl, rfl, trivial⟩ T.sa ?_
  refine of_store T I.kIn ho no fun h' tk' dx keep dn dne hx hn => ?_
  have free : H dx = none := I.hok.fresh dn
  have far : ∀ {b : Addr} {o : Obj}, hp.get? b = some o → b ≠ dx := fun {b o} q => Nat.ne_of_lt (Nat.lt_of_lt_of_le (Heap.lt_size q) dn)
  have away : ∀ {b : Addr}, H b = none → b ≠ a := fun {b} n z => by rw [z, e] at n; cases n
  have U : Un X.fs [] H (upd (upd H dx (exd dx [(f, y)])) a (exo a C (some dx))) hp h' := {
    keep := fun b o q n _ _ => keep b o (away n) q
    slot := fun b o q n _ _ => ⟨o.slots, keep b o (away n) q⟩
    free := fun b o q n _ => by rw [upd_ne (away n), upd_ne (far q)]; exact n
    there := fun b o q _ => by
      by_cases hb : b = a
      · rw [hb]; exact ⟨_, hx⟩
      · exact ⟨o, keep b o hb q⟩
    tups := fun b xs q => by rw [upd_ne (at_ne e q exo_tup), upd_ne (ne_of_none q free)]; exact q
    frzs := fun b o v q => by rw [upd_ne (at_ne e q exo_frz), upd_ne (ne_of_none q free)]; exact q
    tbls := fun b ps q => ⟨#[], by rw [upd_ne (at_ne e q exo_tbl), upd_ne (ne_of_none q free), q]; simp⟩ }
  refine k dx _ free dne (I.un (t' := tk') U fun b o q => ?_)
  by_cases hb : b = a
  · subst hb
    rw [upd_same] at q
    cases q
    exact exo_ok hx
  rw [upd_ne hb] at q
  by_cases hd : b = dx
  · subst hd
    rw [upd_same] at q
    cases q
    exact exd_ok hn (relO_put (fs := []) ry fun g => True.intro)
  rw [upd_ne hd] at q
  refine (I.hok b o q).stay (fun c v hc z => keep c v ?_ z) (fun c hc => ?_) (fun c xs hc => ?_)
  · rcases hc with hc | hc
    · rw [hc]; exact hb
    · exact at_ne e hc exo_own
  · rw [upd_ne (at_ne e hc exo_own), upd_ne (ne_of_none hc free)]; exact hc
  · rw [upd_ne (at_ne e hc exo_tup), upd_ne (ne_of_none hc free)]; exact hc
end
/-- self.f = e in such a class's __init__ -/
def tOfS (K : PySem.W.Frag) (f : Str) (to te : TE) : TS := fun D σ H => te σ H fun y H1 => to σ H1 fun x H2 => ∃ a C : Addr, x = .ref a ∧ OofC K C ∧ PySem.W.findIn K (.ref C) f = some none ∧
  H2 a = some (exo a C none) ∧ ∀ dx, H2 dx = none → dx ≠ a → D.nx σ (upd (upd H2 dx (exd dx [(f, y)])) a (exo a C (some dx)))
section
variable {X : Cx} {CX : CXT} {x : Str} {C fI : Addr} {k : Nat} {fd : FuncData} {ps : List Str} {sp : Sp} {p p' pos : Pos} {o e : Expr} {es : List Expr} {ta : TA} {to te : TE} {f : Str}
theorem ps_ofS (ho : PE X o to) (he : PE X e te) (hs : swapsWith e (some (.Attribute o f p')) pos.line X.env = pure false := by rfl) : PS X (.Assign [.Attribute o f p'] e pos) (tOfS X.K f to te) := by
  constructor
  intro pins s σ H D I h
  refine plainObj_wpAny_Assign_Attribute (thn (he.run pins s σ H _ I h) fun v s1 z => ?_) hs
  obtain ⟨y, H1, I1, r1, q1⟩ := z
  refine thn (ho.run pins s1 σ H1 _ I1 q1) fun u s2 z => ?_
  obtain ⟨x, H2, I2, r2, a, C, ex, T, no, ea, q⟩ := z
  subst ex
  obtain rfl : u = Value.ref a := r2
  exact of_new T I2 ea no r1 fun dx s' n ne J => ⟨σ, _, J, q dx n ne⟩
theorem madeO {pins : List (Addr × Obj)} {σ : Sg} {H1 : Hp} {s : Shared} {Q : VK} {us : List Value} {vs : List V} (T : OofC X.K C) (iC : PySem.W.findIn X.K (.ref C) "__init__" = some (some (.ref fI))) (tI : PySem.W.typeIn X.K (.ref fI) = some (.type "function"))
    (F1 : FnOk X.prog X.w X.K X.mg X.base CX k fI fd ps sp) (hr : Room (k + 1) X.A) (hb : Binds X.K fd ps []) (hx : Passes CX X (fun _ _ _ => False)) (I1 : L2.Inv X pins σ H1 s) (r1 : Vals vs us) (hz : vs.length ≤ 1000)
    (q1 : ∀ a, H1 a = none → sp (.ref a :: vs) (upd H1 a (exo a C none)) (fun v H2 => v = .non ∧ ∃ (d : Addr) (fs : List (Str × V)), H2 a = some (exo a C (some d)) ∧ H2 d = some (exd d fs) ∧ Q (.ref a) (upd (upd H2 a (exq a C d)) d (.xd fs))) (fun _ _ _ => False)) :
    wpAny (model X.prog X.w) X.A (call (.ref C) us) (EP X pins σ Q) X.xe s := by
  obtain ⟨nm, q, N, bs, bm, sn, sub, ab, col, dd, k0, k1, k2, k3, k5, hC, hbm⟩ := T.cls
  obtain ⟨hp, g, dr, tk, os⟩ := s
  have nw : H1 (hp.objs.size + 1) = none := I1.hok.fresh (Nat.le_succ _)
  have want := q1 _ nw
  have keep2 : ∀ b o, hp.get? b = some o → ((hp.push (PySem.W.kdv_tup us)).push (PySem.HandSPX.excO C hp.objs.size)).get? b = some o := by
    intro b o e
    exact Heap.get?_push_of_some _ (Heap.get?_push_of_some _ e)
  have there : ((hp.push (PySem.W.kdv_tup us)).push (PySem.HandSPX.excO C hp.objs.size)).get? (hp.objs.size + 1) = some (PySem.HandSPX.excO C hp.objs.size) := by heap_get
  have I2 : L2.Inv X pins σ (upd H1 (hp.objs.size + 1) (exo (hp.objs.size + 1) C none)) ⟨(hp.push (PySem.W.kdv_tup us)).push (PySem.HandSPX.excO C hp.objs.size), g, dr, tk, os⟩ :=
    I1.laid (t' := tk) keep2 (Nat.le_succ _) (exo_ok there)
  have r2 : Vals (V.ref (hp.objs.size + 1) :: vs) (Value.ref (hp.objs.size + 1) :: us) := .cons rfl r1
  have cnt : (Value.ref (hp.objs.size + 1) :: us).length = ps.length := by rw [← r2.length]; exact F1.len _ _ _ _ want
  have few : us.length ≤ sizeLine := by
    have := Paired.length r1
    rw [sizeLine_eq]
    omega
  have bd := hb _ (Value.ref (hp.objs.size + 1) :: us) I2.kIn (by rw [List.append_nil]; exact cnt)
  rw [List.append_nil] at bd
  refine wpAny_call (PySem.HandSPX.call_own PySem.F.excBase_OverflowError (fun Y => PySem.W.excTail_contains Y bm hbm) (I1.kIn _ _ hC) (PySem.W.looks_findIn I1.kIn iC) (fun self => PySem.W.bind_fn I1.kIn self tI) few ?_)
  refine codeAny_mono (F1.run _ X.stack _ _ ⟨Value.ref (hp.objs.size + 1) :: us, []⟩ (Value.ref (hp.objs.size + 1) :: us) _ _ (fun _ _ _ => False) (hr.make C us []) (I2.env0.make C us []) bd r2 want) fun o s' z => ?_
  match o, z with
  | .error er, z => exact hx pins σ _ _ er s' I2 z
  | .ok .next, z => exact False.elim z
  | .ok .brk, z => exact False.elim z
  | .ok .cont, z => exact False.elim z
  | .ok (.ret u), z =>
    obtain ⟨v, H2, os2, bare2, un2, ok2, rv, ev, d, fs, ea, ed, qq⟩ := z
    subst ev
    refine ⟨rv, ?_⟩
    obtain ⟨h2, g2, d2, t2, os'⟩ := s'
    have os2' : os' = os := os2
    subst os2'
    have J : L2.Inv X pins σ H2 ⟨h2, g2, d2, t2, os'⟩ := I2.call (h' := h2) (g' := g2) (d' := d2) (t' := t2) (ch := []) un2 ok2 bare2 (fun b z => absurd z (by simp))
    obtain ⟨t0, hoe⟩ := exo_at J.hok ea
    obtain ⟨mA, hns, rel⟩ := exd_at J.hok ed
    have nd : d ≠ hp.objs.size + 1 := fun z => by
      obtain ⟨o, es', ep, e1, e2, _⟩ := hns
      rw [z] at e1
      have e3 := hoe.symm.trans e1
      cases e3
      cases e2
    have J2 := Inv.retell (o := exq (hp.objs.size + 1) C d) J ea True.intro (exq_ok hoe ⟨rfl, rfl⟩ rfl)
    have J3 := Inv.retell (o := .xd fs) (u := exd d fs) J2 (by rw [upd_ne nd]; exact ed) True.intro ⟨mA, hns, rel⟩
    exact ⟨.ref _, _, J3, rfl, qq⟩
theorem pe_mkO (T : OofC X.K C) (iC : PySem.W.findIn X.K (.ref C) "__init__" = some (some (.ref fI))) (tI : PySem.W.typeIn X.K (.ref fI) = some (.type "function"))
    (F1 : FnOk X.prog X.w X.K X.mg X.base CX k fI fd ps sp) (hr : Room (k + 1) X.A) (hb : Binds X.K fd ps []) (hx : Passes CX X (fun _ _ _ => False)) (hm : X.mg x = some (.ref C)) (ha : PA X (e :: es) ta) (hg : Gl X x := by rfl)
    (hdb : (x == ("__debug__" : Str)) = false := by decide) (he : starEach (e :: es) X.env = (false, eval e X.env) :: starEach es X.env := by rfl) (hpl : (backTo pos (starEach es X.env)).any (·.1) = false := by rfl) :
    PE X (.Call (.Name x p) (e :: es) [] pos) (tMkX C sp ta) := by
  constructor
  intro pins s σ H Q I h
  refine wpAny_Call_Name_kw (ld_glob I hg hm ?_ hdb)
  refine PySem.W.callWith_K (h₀ := X.base) I.ok.mod.kin T.kC (thn (ha.run pos pins s σ H _ I h) fun us s1 z => ?_) he hpl
  obtain ⟨vs, H1, I1, r1, hz, q1⟩ := z
  exact ⟨I1.kIn, madeO T iC tI F1 hr hb hx I1 r1 hz q1⟩
end
end TSx

/-! Own layer, part R: one step of a reading each, by name. -/
namespace TSx
open PySem L2
section
variable {σ : Sg} {H : Hp} {Q : VK} {ta tb : TE} {v : V} {i j : Int} {n : Nat}
theorem r_v (h : σ[n]? = some (some v)) (q : Q v H) : tVar n σ H Q := ⟨v, h, q⟩
theorem r_c (q : Q v H) : tC v σ H Q := q
theorem r_op {r : R2} (q : ta σ H fun x H1 => tb σ H1 fun y H2 => r x y H2 Q) : tOp r ta tb σ H Q := q
theorem r_I {C : Int → Int → Prop} {g : Int → Int → V} (hc : C i j) (q : Q (g i j) H) : rI C g (.int i) (.int j) H Q := ⟨i, j, rfl, rfl, hc, q⟩
theorem r_I0 {g : Int → Int → V} (q : Q (g i j) H) : rI0 g (.int i) (.int j) H Q := ⟨i, j, rfl, rfl, q⟩
theorem r_cb {r : List V → Hp → VK → Prop} {t : TA} (q : t σ H fun vs H1 => r vs H1 Q) : tCB r t σ H Q := q
theorem r_nil {Q : List V → Hp → Prop} (q : Q [] H) : tNil σ H Q := q
theorem r_cons {Q : List V → Hp → Prop} {tr : TA} (q : ta σ H fun x H1 => tr σ H1 fun xs H2 => Q (x :: xs) H2) : tCons ta tr σ H Q := q
theorem r_seq {t u : TS} {D : Ends} (q : t { D with nx := u D } σ H) : tSeq t u D σ H := q
theorem r_next {D : Ends} (q : D.nx σ H) : tNext D σ H := q
theorem r_asg {D : Ends} {te : TE} {g : TG} (q : te σ H fun x H1 => g x σ H1 D.nx) : tAsg te g D σ H := q
theorem r_name {Q : Sg → Hp → Prop} (q : Q (σ.set n (some v)) H) : gName n v σ H Q := q
theorem r_ret {D : Ends} {te : TE} (q : te σ H D.rt) : tRet te D σ H := q
theorem r_drop {D : Ends} {te : TE} (q : te σ H fun _ H1 => D.nx σ H1) : tDrop te D σ H := q
theorem r_if {D : Ends} {c : TT} {t u : TS} (q : c σ H fun b H1 => if b = true then t D σ H1 else u D σ H1) : tIfS c t u D σ H := q
theorem r_test {Q : Bool → Hp → Prop} {te : TE} (q : te σ H fun x H' => ∃ k, x = .bl k ∧ Q k H') : tTest te σ H Q := q
theorem r_tb {Q : Bool → Hp → Prop} {te : TE} (q : te σ H fun x H' => ∃ k, x = .bl k ∧ Q k H') : tB te σ H Q := q
theorem r_tup {t : TA} (q : t σ H fun xs H1 => xs.length ≤ sizeLine ∧ ∀ p, H1 p = none → Q (.ref p) (upd H1 p (.tup xs))) : tTup t σ H Q := q
theorem r_lst {t : TA} (q : t σ H fun xs H1 => xs.length ≤ sizeLine ∧ ∀ p, H1 p = none → Q (.ref p) (upd H1 p (.lst xs))) : tLst t σ H Q := q
theorem r_bl {b : Bool} {P : Bool → Prop} (q : P b) : ∃ k, V.bl b = .bl k ∧ P k := ⟨b, rfl, q⟩
theorem r_call {sp : Sp} {E : XK} {t : TA} (q : t σ H fun vs H1 => sp (vs ++ []) H1 Q E) : tCall sp [] E t σ H Q := q
theorem r_int_ (q : Q (.int i) H) : (∃ k, [V.int i] = [.int k] ∧ Q (.int k) H) ∨ ∃ k, [V.int i] = [.bl k] ∧ Q (.int (if k then 1 else 0)) H := Or.inl ⟨i, rfl, q⟩
end
theorem r_yes {σ : Sg} {H : Hp} {A B : Bool → Hp → Prop} (q : A true H) : tYes σ H (fun b H3 => if b = true then A b H3 else B b H3) := by
  show if true = true then A true H else B true H
  exact iteT q
theorem r_ixL {K : PySem.W.Frag} {p : Addr} {xs : List V} {i : Int} {v : V} {H : Hp} {Q : VK} (h : H p = some (.lst xs)) (a : atI xs i = some v) (q : Q v H) : rIxL K (.ref p) (.int i) H Q := ⟨p, xs, i, v, rfl, rfl, SqL.of h, a, q⟩
theorem r_setL {p : Addr} {xs : List V} {i : Int} {j : Nat} {v : V} {H : Hp} {Q : Hp → Prop} (h : H p = some (.lst xs)) (a : ixN xs.length i = some j) (q : Q (upd H p (.lst (xs.set j v)))) : rSetL (.ref p) (.int i) v H Q := ⟨p, xs, i, j, rfl, rfl, h, a, q⟩
theorem r_sub {to ti : TE} {t : TSet} {v : V} {σ : Sg} {H : Hp} {Q : Sg → Hp → Prop} (q : to σ H fun o H1 => ti σ H1 fun i H2 => t o i v H2 fun H3 => Q σ H3) : gSub to ti t v σ H Q := q
/-- int(i), i an int -/
def rInt : List V → Hp → VK → Prop := fun xs H Q => ∃ i, xs = [.int i] ∧ Q (.int i) H
theorem call_intI {X : Cx} : CallR X (.type "int") rInt := fun pins s σ H xs us Q I r h => by
  obtain ⟨i, e, q⟩ := h
  exact call_int1 pins s σ H xs us Q I r (Or.inl ⟨i, e, q⟩)
theorem r_int1 {H : Hp} {Q : VK} {i : Int} (q : Q (.int i) H) : rInt [.int i] H Q := ⟨i, rfl, q⟩
theorem r_mul {i j : Int} {g : Int → Int → V} {H : Hp} {Q : VK} (h : CMul i j) (q : Q (g i j) H) : rI CMul g (.int i) (.int j) H Q := ⟨i, j, rfl, rfl, h, q⟩
theorem r_div {i j : Int} {g : Int → Int → V} {H : Hp} {Q : VK} (h : CDiv i j) (q : Q (g i j) H) : rI CDiv g (.int i) (.int j) H Q := ⟨i, j, rfl, rfl, h, q⟩
theorem r_mod {i j : Int} {g : Int → Int → V} {H : Hp} {Q : VK} (h : 0 < j) (q : Q (g i j) H) : rI (fun _ j => 0 < j) g (.int i) (.int j) H Q := ⟨i, j, rfl, rfl, h, q⟩
theorem r_pow {i j : Int} {g : Int → Int → V} {H : Hp} {Q : VK} (h : CPow i j) (q : Q (g i j) H) : rI CPow g (.int i) (.int j) H Q := ⟨i, j, rfl, rfl, h, q⟩
theorem cmL {i j : Int} (h1 : -(2 ^ 64) < i) (h2 : i < 2 ^ 64) : CMul i j := Or.inl ⟨h1, h2⟩
theorem cmR {i j : Int} (h1 : -(2 ^ 64) < j) (h2 : j < 2 ^ 64) : CMul i j := Or.inr ⟨h1, h2⟩
theorem cdv {i j : Int} (h1 : 0 < j) (h2 : j < 1073741824) : CDiv i j := ⟨h1, h2⟩
theorem sz1 {n : Nat} (h : n ≤ 100000) : n ≤ sizeLine := Nat.le_trans h (by decide)
theorem sz2 {n : Nat} (h : n < 100000) : n < sizeLine := Nat.lt_of_lt_of_le h (by decide)
end TSx

/-! Own layer, part R2: the law's drawn state: a dict with two lists of ints and a count. -/
namespace TSx
open PySem L2
/-- 64 ints, each below the great number -/
structure Cells (cs : List Int) : Prop where
  len : cs.length = 64
  low : ∀ c ∈ cs, 0 ≤ c ∧ c < 2147483647
theorem Cells.set {cs : List Int} (h : Cells cs) (i : Nat) {x : Int} (h0 : 0 ≤ x) (h1 : x < 2147483647) : Cells (cs.set i x) := ⟨by rw [List.length_set]; exact h.len, fun c hc => by
  rcases List.mem_or_eq_of_mem_set hc with z | z
  · exact h.low c z
  · subst z; exact ⟨h0, h1⟩⟩
theorem map_set {cs : List Int} {i : Nat} {x : Int} : (cs.map V.int).set i (.int x) = (cs.set i x).map V.int := by rw [List.map_set]
theorem at_int {cs : List Int} {i : Nat} (h : i < cs.length) : ∃ c, c ∈ cs ∧ atI (cs.map V.int) (i : Int) = some (.int c) := by
  refine ⟨cs[i], List.getElem_mem h, atI_nat ?_⟩
  rw [List.getElem?_map, List.getElem?_eq_getElem h]
  rfl
theorem ixN_int {n i : Nat} (h : i < n) : ixN n (i : Int) = some i := by
  unfold ixN
  rw [if_pos (by omega), if_pos (by omega)]
  simp
theorem same_new {H : Hp} {p : Addr} {o : HO} (n : H p = none) : Same H (upd H p o) := gr_new n
theorem same_mut {H H' : Hp} {p : Addr} {o : HO} (s : Same H H') (n : H p = none) : Same H (upd H' p o) := fun b u e => by rw [upd_ne (ne_of_none e n)]; exact s b u e

def kvM (c g : Addr) (n : Int) : List (Key × V) := [(Sum.inr "cells", .ref c), (Sum.inr "great", .ref g), (Sum.inr "spot", .int n)]
theorem kvM_cells {c g : Addr} {n : Int} : valV (kvM c g n) (Sum.inr "cells") = some (.ref c) := by rfl
theorem kvM_great {c g : Addr} {n : Int} : valV (kvM c g n) (Sum.inr "great") = some (.ref g) := by rfl
theorem kvM_spot {c g : Addr} {n : Int} : valV (kvM c g n) (Sum.inr "spot") = some (.int n) := by rfl
theorem kvM_put {c g : Addr} {n k : Int} : putK (kvM c g n) (Sum.inr "spot") (.int k) = kvM c g k := by rfl
/-- at m the law's state: r draws may come yet -/
structure MAt (m c g : Addr) (H : Hp) (r : Nat) : Prop where
  ex : ∃ (n : Nat) (cs gs : List Int), H m = some (.dK (kvM c g n)) ∧ H c = some (.lst (cs.map V.int)) ∧ H g = some (.lst (gs.map V.int)) ∧ Cells cs ∧ gs.length ≤ 63 ∧ n + r ≤ 536870912
  ne : c ≠ g
/-- all but m and g stays -/
def Kp (m g : Addr) (H H' : Hp) : Prop := ∀ b o, b ≠ m → b ≠ g → H b = some o → H' b = some o
theorem Kp.rf {m g : Addr} {H : Hp} : Kp m g H H := fun _ _ _ _ e => e
theorem Kp.tr {m g : Addr} {H H1 H2 : Hp} (a : Kp m g H H1) (b : Kp m g H1 H2) : Kp m g H H2 := fun x o h1 h2 e => b x o h1 h2 (a x o h1 h2 e)
theorem Kp.of {m g : Addr} {H H' : Hp} (a : Same H H') : Kp m g H H' := fun b o _ _ e => a b o e
theorem MAt.same {m c g : Addr} {H H' : Hp} {r : Nat} (h : MAt m c g H r) (s : Same H H') : MAt m c g H' r := by
  obtain ⟨⟨n, cs, gs, h1, h2, h3, h4⟩, ne⟩ := h
  exact ⟨⟨n, cs, gs, s _ _ h1, s _ _ h2, s _ _ h3, h4⟩, ne⟩
theorem MAt.less {m c g : Addr} {H : Hp} {r q : Nat} (h : MAt m c g H r) (l : q ≤ r) : MAt m c g H q := by
  obtain ⟨⟨n, cs, gs, h1, h2, h3, h4, h5, h6⟩, ne⟩ := h
  exact ⟨⟨n, cs, gs, h1, h2, h3, h4, h5, by omega⟩, ne⟩
theorem r_dget {td ty : TE} {σ : Sg} {H : Hp} {Q : VK} (q : td σ H fun x H1 => ty σ H1 fun y H2 => ∃ a v, x = .ref a ∧ DGet H2 a y (some v) ∧ Q v H2) : tDGet td ty σ H Q := q
theorem r_dg {a : Addr} {y v : V} {H : Hp} {Q : VK} (h : DGet H a y (some v)) (q : Q v H) : ∃ b u, V.ref a = .ref b ∧ DGet H b y (some u) ∧ Q u H := ⟨a, v, rfl, h, q⟩
theorem r_len {K : PySem.W.Frag} {p : Addr} {xs : List V} {H : Hp} {Q : VK} (h : H p = some (.lst xs)) (q : Q (.int xs.length) H) : ∃ b ys, [V.ref p] = [.ref b] ∧ (SqL K H b ys ∨ SqT K H b ys) ∧ Q (.int ys.length) H := ⟨p, xs, rfl, Or.inl (SqL.of h), q⟩
theorem r_dput {td ty tv : TE} {D : Ends} {σ : Sg} {H : Hp} (q : tv σ H fun v H1 => td σ H1 fun x H2 => ty σ H2 fun y H3 => ∃ a H4, x = .ref a ∧ DPut H3 a y v H4 ∧ D.nx σ H4) : sDPut td ty tv D σ H := q
theorem r_ifT {A B : Prop} {b : Bool} (h : b = true) (q : A) : if b = true then A else B := by rw [if_pos h]; exact q
theorem r_ifF {A B : Prop} {b : Bool} (h : b = false) (q : B) : if b = true then A else B := by rw [h]; exact iteF q
theorem dg_cells {m c g : Addr} {n : Int} {H : Hp} (h : H m = some (.dK (kvM c g n))) : DGet H m (.str "cells") (some (.ref c)) := by rw [← kvM_cells (c := c) (g := g) (n := n)]; exact DGet.k (k := Sum.inr "cells") h
theorem dg_great {m c g : Addr} {n : Int} {H : Hp} (h : H m = some (.dK (kvM c g n))) : DGet H m (.str "great") (some (.ref g)) := by rw [← kvM_great (c := c) (g := g) (n := n)]; exact DGet.k (k := Sum.inr "great") h
theorem dg_spot {m c g : Addr} {n : Int} {H : Hp} (h : H m = some (.dK (kvM c g n))) : DGet H m (.str "spot") (some (.int n)) := by rw [← kvM_spot (c := c) (g := g) (n := n)]; exact DGet.k (k := Sum.inr "spot") h
theorem dp_spot {m c g : Addr} {n k : Int} {H : Hp} (h : H m = some (.dK (kvM c g n))) : DPut H m (.str "spot") (.int k) (upd H m (.dK (kvM c g k))) := by
  rw [← kvM_put (c := c) (g := g) (n := n) (k := k)]
  exact DPut.k (k := Sum.inr "spot") h (show 3 < sizeLine by decide)
/-- a draw below a limit -/
def spDraw : Sp := fun vs H Q _ => ∃ (m c g : Addr) (r : Nat) (limit : Int), vs = [.ref m, .int limit] ∧ 0 < limit ∧ limit < 1073741824 ∧ MAt m c g H (r + 1) ∧
  ∀ (v : Int) (H' : Hp), 0 ≤ v → v < limit → MAt m c g H' r → Kp m g H H' → Q (.int v) H'
def spMixed : Sp := fun vs H Q _ => ∃ c n : Int, vs = [.int c, .int n] ∧ 0 ≤ c ∧ c < 2 ^ 40 ∧ 0 ≤ n ∧ n < 2 ^ 30 ∧ ∀ v : Int, 0 ≤ v → v < 2 ^ 31 → Q (.int v) H
def spFolded (K : PySem.W.Frag) : Sp := fun vs H Q _ => ∃ (a : Addr) (ns : List Int), vs = [.ref a] ∧ SqL K H a (ns.map V.int) ∧ ns.length ≤ 63 ∧
  ∀ (H' : Hp) (p : Addr) (cs : List Int), H p = none → Same H H' → Cells cs → H' p = some (.lst (cs.map V.int)) → Q (.ref p) H'
def spBegun (K : PySem.W.Frag) : Sp := fun vs H Q _ => ∃ (a : Addr) (ns : List Int), vs = [.ref a] ∧ SqL K H a (ns.map V.int) ∧ ns.length ≤ 63 ∧
  ∀ (H' : Hp) (m c g : Addr), Same H H' → H m = none → H c = none → H g = none → MAt m c g H' 536870912 → Q (.ref m) H'
/-- names of the built-ins that the prelude calls, none of them stored over -/
structure Blt (mg : Str → Option Value) : Prop where
  int : mg "int" = none
  len : mg "len" = none
  range : mg "range" = none
  enumerate : mg "enumerate" = none
  repr : mg "repr" = none
  isinstance : mg "isinstance" = none
  list : mg "list" = none
/-- what == finds of a list of ints and the empty one -/
theorem eqv_nil (gs : List Int) : PyData.eqv (.list (pyA (gs.map D.int))) (.list []) = gs.isEmpty := by
  cases gs with
  | nil => rfl
  | cons a l => rfl
theorem dts {K : PySem.W.Frag} {H : Hp} : ∀ gs : List Int, DtA K H (gs.map V.int) (gs.map D.int)
  | [] => .nil
  | n :: l => .cons (.int n) (dts l)
theorem pl_ints : ∀ gs : List Int, plA (gs.map D.int) = true
  | [] => rfl
  | n :: l => pl_ints l
mutual
theorem lay_pl : ∀ d : D, d.pl = true → d.py.canLay0 = true
  | .non, _ => rfl
  | .bl _, _ => rfl
  | .int _, _ => rfl
  | .str _, h => h
  | .lst xs, h => layA_pl xs h
  | .tup xs, h => layA_pl xs h
  | .dic _, h => by cases h
  | .exc _ _, h => by cases h
theorem layA_pl : ∀ d : List D, plA d = true → PyData.canLayAll0 (pyA d) = true
  | [], _ => rfl
  | x :: xs, h => by
    simp only [plA, Bool.and_eq_true] at h
    show (x.py.canLay0 && PyData.canLayAll0 (pyA xs)) = true
    rw [lay_pl x h.1, layA_pl xs h.2]; rfl
end
theorem shaped_pl (d : D) (h : d.pl = true) (z : d.py.depth ≤ 64) : SeqAt.shaped d.py = true := by
  unfold SeqAt.shaped
  rw [lay_pl d h, decide_eq_true z]
  rfl
theorem depth_ints : ∀ gs : List Int, (D.lst (gs.map D.int)).py.depth ≤ 64 := fun gs => by
  have h : ∀ gs : List Int, PyData.depthAll (pyA (gs.map D.int)) = 0 := fun gs => by
    induction gs with
    | nil => rfl
    | cons a l ih => show max 0 (PyData.depthAll (pyA (l.map D.int))) = 0; rw [ih]; rfl
  show PyData.depthAll (pyA (gs.map D.int)) + 1 ≤ 64
  rw [h gs]
  decide
theorem r_neD {K : PySem.W.Frag} {H : Hp} {x y : V} {d e : D} {Q : VK} (hx : Dt K H x d) (hy : Dt K H y e) (px : d.pl = true) (py : e.pl = true) (zx : d.py.depth ≤ 64) (zy : e.py.depth ≤ 64) (q : Q (.bl (!PyData.eqv d.py e.py)) H) : rNeD K x y H Q :=
  ⟨_, _, hx.dp px, hy.dp py, shaped_pl d px zx, shaped_pl e py zy, q⟩
theorem r_eqD {K : PySem.W.Frag} {H : Hp} {x y : V} {d e : D} {Q : VK} (hx : Dt K H x d) (hy : Dt K H y e) (px : d.pl = true) (py : e.pl = true) (zx : d.py.depth ≤ 64) (zy : e.py.depth ≤ 64) (q : Q (.bl (PyData.eqv d.py e.py)) H) : rEqD K x y H Q :=
  ⟨_, _, hx.dp px, hy.dp py, shaped_pl d px zx, shaped_pl e py zy, q⟩
end TSx

/-! Own layer, part R3: what makes which data, the heap only growing. -/
namespace TSx
open PySem L2
def Mk (K : PySem.W.Frag) (te : TE) (σ : Sg) (H : Hp) (d : D) : Prop := ∀ H1, Same H H1 → ∀ Q : VK, (∀ v H2, Same H1 H2 → Dt K H2 v d → Q v H2) → te σ H1 Q
def MkA (K : PySem.W.Frag) (ta : TA) (σ : Sg) (H : Hp) (ds : List D) : Prop := ∀ H1, Same H H1 → ∀ Q : List V → Hp → Prop, (∀ vs H2, Same H1 H2 → DtA K H2 vs ds → Q vs H2) → ta σ H1 Q
section
variable {K : PySem.W.Frag} {σ : Sg} {H : Hp} {te ta tb : TE} {t : TA} {d : D} {ds es : List D}
theorem Mk.mono {H' : Hp} (h : Mk K te σ H d) (s : Same H H') : Mk K te σ H' d := fun H1 s1 => h H1 (s.trans s1)
theorem mk_non : Mk K (tC .non) σ H .non := fun H1 _ Q q => q _ H1 Gr.rfl' .non
theorem mk_int {i : Int} : Mk K (tC (.int i)) σ H (.int i) := fun H1 _ Q q => q _ H1 Gr.rfl' (.int i)
theorem mk_str {x : Str} : Mk K (tC (.str x)) σ H (.str x) := fun H1 _ Q q => q _ H1 Gr.rfl' (.str x)
theorem mk_bl {b : Bool} : Mk K (tC (.bl b)) σ H (.bl b) := fun H1 _ Q q => q _ H1 Gr.rfl' (.bl b)
theorem mk_var {n : Nat} {v : V} (h : σ[n]? = some (some v)) (a : Dt K H v d) : Mk K (tVar n) σ H d := fun H1 s Q q => ⟨v, h, q v H1 Gr.rfl' (a.gr s)⟩
theorem mk_neg {i : Int} (h : Mk K ta σ H (.int i)) : Mk K (tUn (rU fun i => .int (-i)) ta) σ H (.int (-i)) := fun H1 s Q q => h H1 s _ fun v H2 s2 a => by
  cases a
  exact ⟨i, rfl, q _ H2 s2 (.int _)⟩
theorem mk_I0 {i j : Int} {g : Int → Int → Int} (h : Mk K ta σ H (.int i)) (h2 : Mk K tb σ H (.int j)) : Mk K (tOp (rI0 fun i j => .int (g i j)) ta tb) σ H (.int (g i j)) := fun H1 s Q q => h H1 s _ fun v H2 s2 a => h2 H2 (s.trans s2) _ fun u H3 s3 b => by
  cases a
  cases b
  exact ⟨i, j, rfl, rfl, q _ H3 (s2.trans s3) (.int _)⟩
theorem mk_I0b {i j : Int} {g : Int → Int → Bool} (h : Mk K ta σ H (.int i)) (h2 : Mk K tb σ H (.int j)) : Mk K (tOp (rI0 fun i j => .bl (g i j)) ta tb) σ H (.bl (g i j)) := fun H1 s Q q => h H1 s _ fun v H2 s2 a => h2 H2 (s.trans s2) _ fun u H3 s3 b => by
  cases a
  cases b
  exact ⟨i, j, rfl, rfl, q _ H3 (s2.trans s3) (.bl _)⟩
theorem mk_I {i j : Int} {C : Int → Int → Prop} {g : Int → Int → Int} (h : Mk K ta σ H (.int i)) (h2 : Mk K tb σ H (.int j)) (c : C i j) : Mk K (tOp (rI C fun i j => .int (g i j)) ta tb) σ H (.int (g i j)) := fun H1 s Q q => h H1 s _ fun v H2 s2 a => h2 H2 (s.trans s2) _ fun u H3 s3 b => by
  cases a
  cases b
  exact ⟨i, j, rfl, rfl, c, q _ H3 (s2.trans s3) (.int _)⟩
theorem mka_nil : MkA K tNil σ H [] := fun H1 _ Q q => q _ H1 Gr.rfl' .nil
theorem mka_cons (h : Mk K ta σ H d) (r : MkA K t σ H ds) : MkA K (tCons ta t) σ H (d :: ds) := fun H1 s Q q => h H1 s _ fun v H2 s2 a => r H2 (s.trans s2) _ fun vs H3 s3 b => q _ H3 (s2.trans s3) (.cons (a.gr s3) b)
theorem mk_tup (h : MkA K t σ H ds) (z : ds.length ≤ 100000) : Mk K (tTup t) σ H (.tup ds) := fun H1 s Q q => h H1 s _ fun vs H2 s2 a => by
  refine ⟨by rw [a.len]; exact sz1 z, fun p np => ?_⟩
  exact q _ _ (s2.trans (same_new np)) (.tup (SqT.of upd_same) (a.gr (same_new np)))
theorem mk_lst (h : MkA K t σ H ds) (z : ds.length ≤ 100000) : Mk K (tLst t) σ H (.lst ds) := fun H1 s Q q => h H1 s _ fun vs H2 s2 a => by
  refine ⟨by rw [a.len]; exact sz1 z, fun p np => ?_⟩
  exact q _ _ (s2.trans (same_new np)) (.lst upd_same (a.gr (same_new np)))
theorem mk_dic : Mk K tDNewK σ H (.dic []) := fun H1 s Q q p np => q _ _ (same_new np) (.dic upd_same .nil)
theorem mk_cat (h : Mk K ta σ H (.lst ds)) (h2 : Mk K tb σ H (.lst es)) (z : ds.length + es.length ≤ 100000) : Mk K (tOp rCat ta tb) σ H (.lst (ds ++ es)) := fun H1 s Q q => h H1 s _ fun v H2 s2 a => h2 H2 (s.trans s2) _ fun u H3 s3 b => by
  cases a with
  | @lst p xs ds ea aa =>
    cases b with
    | @lst r ys es eb bb =>
      refine ⟨p, r, xs, ys, rfl, rfl, s3 _ _ ea, eb, by rw [aa.len, bb.len]; exact sz1 z, fun w nw => ?_⟩
      exact q _ _ ((s2.trans s3).trans (same_new nw)) (.lst upd_same (((aa.gr s3).app bb).gr (same_new nw)))
/-- list(xs), xs a tuple or a list -/
theorem mk_listT (h : Mk K ta σ H (.tup ds)) : Mk K (tCB (fun xs H Q => ∃ p ys, xs = [.ref p] ∧ (SqL K H p ys ∨ SqT K H p ys) ∧ ∀ l, H l = none → Q (.ref l) (upd H l (.lst ys))) (tCons ta tNil)) σ H (.lst ds) := fun H1 s Q q => h H1 s _ fun v H2 s2 a => by
  cases a with
  | @tup p xs ds e aa => exact ⟨p, xs, rfl, Or.inr e, fun l nl => q _ _ (s2.trans (same_new nl)) (.lst upd_same (aa.gr (same_new nl)))⟩
theorem mk_neD (h : Mk K ta σ H d) {e : D} (h2 : Mk K tb σ H e) (pd : d.pl = true) (pe : e.pl = true) (zd : d.py.depth ≤ 64) (ze : e.py.depth ≤ 64) : Mk K (tOp (rNeD K) ta tb) σ H (.bl (!PyData.eqv d.py e.py)) := fun H1 s Q q => h H1 s _ fun v H2 s2 a => h2 H2 (s.trans s2) _ fun u H3 s3 b =>
  r_neD (a.gr s3) b pd pe zd ze (q _ H3 (s2.trans s3) (.bl _))
theorem mk_eqD (h : Mk K ta σ H d) {e : D} (h2 : Mk K tb σ H e) (pd : d.pl = true) (pe : e.pl = true) (zd : d.py.depth ≤ 64) (ze : e.py.depth ≤ 64) : Mk K (tOp (rEqD K) ta tb) σ H (.bl (PyData.eqv d.py e.py)) := fun H1 s Q q => h H1 s _ fun v H2 s2 a => h2 H2 (s.trans s2) _ fun u H3 s3 b =>
  r_eqD (a.gr s3) b pd pe zd ze (q _ H3 (s2.trans s3) (.bl _))
/-- len of a list -/
theorem mk_len (h : Mk K ta σ H (.lst ds)) : Mk K (tCB (fun xs H Q => ∃ p ys, xs = [.ref p] ∧ (SqL K H p ys ∨ SqT K H p ys) ∧ Q (.int ys.length) H) (tCons ta tNil)) σ H (.int ds.length) := fun H1 s Q q => h H1 s _ fun v H2 s2 a => by
  cases a with
  | @lst p xs ds e aa =>
    refine ⟨p, xs, rfl, Or.inl (SqL.of e), ?_⟩
    have l := aa.len
    rw [l]
    exact q _ H2 s2 (.int _)
theorem mk_neI {i j : Int} (h : Mk K ta σ H (.int i)) (h2 : Mk K tb σ H (.int j)) : Mk K (tOp rNe ta tb) σ H (.bl (!decide (i = j))) := fun H1 s Q q => h H1 s _ fun v H2 s2 b => h2 H2 (s.trans s2) _ fun u H3 s3 c => by
  cases b
  cases c
  refine ⟨rfl, ?_⟩
  have e : decide (V.int i = V.int j) = decide (i = j) := by
    by_cases z : i = j
    · subst z; rw [decide_eq_true rfl, decide_eq_true rfl]
    · rw [decide_eq_false z, decide_eq_false fun y => z (V.int.inj y)]
  rw [e]
  exact q _ H3 (s2.trans s3) (.bl _)
theorem mk_eqI {i j : Int} (h : Mk K ta σ H (.int i)) (h2 : Mk K tb σ H (.int j)) : Mk K (tOp rEq ta tb) σ H (.bl (decide (i = j))) := fun H1 s Q q => h H1 s _ fun v H2 s2 b => h2 H2 (s.trans s2) _ fun u H3 s3 c => by
  cases b
  cases c
  refine ⟨rfl, ?_⟩
  have e : decide (V.int i = V.int j) = decide (i = j) := by
    by_cases z : i = j
    · subst z; rw [decide_eq_true rfl, decide_eq_true rfl]
    · rw [decide_eq_false z, decide_eq_false fun y => z (V.int.inj y)]
  rw [e]
  exact q _ H3 (s2.trans s3) (.bl _)
/-- a test that is known -/
def MkT (tt : TT) (σ : Sg) (H : Hp) (b : Bool) : Prop := ∀ H1, Same H H1 → ∀ Q : Bool → Hp → Prop, (∀ H2, Same H1 H2 → Q b H2) → tt σ H1 Q
theorem mt_test {b : Bool} (h : Mk K te σ H (.bl b)) : MkT (tTest te) σ H b := fun H1 s Q q => h H1 s _ fun v H2 s2 a => by
  cases a
  exact ⟨b, rfl, q H2 s2⟩
theorem mt_not {b : Bool} {tt : TT} (h : MkT tt σ H b) : MkT (tNot tt) σ H (!b) := fun H1 s Q q => h H1 s _ fun H2 s2 => q H2 s2
theorem mt_B {b : Bool} (h : Mk K te σ H (.bl b)) : MkT (tB te) σ H b := fun H1 s Q q => h H1 s _ fun v H2 s2 a => by
  cases a
  exact ⟨b, rfl, q H2 s2⟩
end
end TSx

/-! Own layer, part R4: exceptions among the data; what is known of a def and of a class. -/
namespace TSx
open PySem L2
/-- an own __init__ with one field -/
def spIni (C : Addr) (f : Str) : Sp := fun vs H Q _ => ∃ (a : Addr) (x : V), vs = [.ref a, x] ∧ H a = some (exo a C none) ∧ ∀ d, H d = none → d ≠ a → Q .non (upd (upd H d (exd d [(f, x)])) a (exo a C (some d)))
/-- an own exception class of the text, its one field -/
structure Xc (P : Program) (w : World) (K : PySem.W.Frag) (mg : Str → Option Value) (base : Heap) (nm fld : Str) (C fI : Addr) (fd : FuncData) : Prop where
  o : OexC K C
  a : ExcC K C
  iC : PySem.W.findIn K (.ref C) "__init__" = some (some (.ref fI))
  tI : PySem.W.typeIn K (.ref fI) = some (.type "function")
  F : FnOk P w K mg base CX0 1 fI fd ["self", fld] (spIni C fld)
  b : Binds K fd ["self", fld] []
  kw : KwB fd ["self", fld] [fld] id id
  g : mg nm = some (.ref C)
  no : PySem.W.findIn K (.ref C) fld = some none
/-- a def that is ready to be called -/
structure Dok (P : Program) (w : World) (K : PySem.W.Frag) (mg : Str → Option Value) (base : Heap) (k : Nat) (nm : Str) (ps : List Str) (sp : Sp) (f : Addr) (fd : FuncData) : Prop where
  G : FnOk P w K mg base CX0 k f fd ps sp
  g : mg nm = some (.ref f)
  k : PySem.W.keepIn K (.ref f) = true
  b : Binds K fd ps []
structure DoX (P : Program) (w : World) (K : PySem.W.Frag) (mg : Str → Option Value) (base : Heap) (k : Nat) (nm : Str) (ps : List Str) (sp : Sp) (f : Addr) (fd : FuncData) : Prop where
  G : FnOk P w K mg base (L2.CX P w) k f fd ps sp
  g : mg nm = some (.ref f)
  k : PySem.W.keepIn K (.ref f) = true
  b : Binds K fd ps []
structure DoG (P : Program) (w : World) (K : PySem.W.Frag) (mg : Str → Option Value) (base : Heap) (k : Nat) (nm : Str) (ps : List Str) (sp : Sp) (f : Addr) (fd : FuncData) : Prop where
  G : FnG P w K mg base CX0 k f fd ps sp
  g : mg nm = some (.ref f)
  k : PySem.W.keepIn K (.ref f) = true
  b : Binds K fd ps []
section
variable {K : PySem.W.Frag} {σ : Sg} {H : Hp} {te ta tb : TE} {t : TA} {d : D} {ds es : List D} {C : Addr} {f : Str}
/-- the heap behind a made exception -/
theorem made_gr {H1 : Hp} {a dd : Addr} {x : V} (na : H1 a = none) (nd : (upd H1 a (exo a C none)) dd = none) (ne : dd ≠ a) :
    Same H1 (upd (upd (upd (upd (upd H1 a (exo a C none)) dd (exd dd [(f, x)])) a (exo a C (some dd))) a (exq a C dd)) dd (.xd [(f, x)])) := fun b o e => by
  have hb : b ≠ a := ne_of_none e na
  have hd : b ≠ dd := fun z => by rw [z] at e; rw [upd_ne ne, e] at nd; cases nd
  rw [upd_ne hd, upd_ne hb, upd_ne hb, upd_ne hd, upd_ne hb]
  exact e
theorem mk_mkX (h : Mk K ta σ H d) : Mk K (tMkX C (spIni C f) (tCons ta tNil)) σ H (.exc C [(f, d)]) := fun H1 s Q q => h H1 s _ fun v H2 s2 a => by
  refine ⟨(show 1 ≤ 1000 by decide), fun p np => ⟨p, v, rfl, upd_same, fun dd nd ne => ⟨rfl, dd, [(f, v)], upd_same, ?_, ?_⟩⟩⟩
  · rw [upd_ne ne, upd_same]
  · have g := made_gr (C := C) (f := f) (x := v) np nd ne
    refine q _ _ (s2.trans g) (.exc (d := dd) (xs := [(f, v)]) ?_ upd_same (.cons (a.gr g) .nil))
    rw [upd_ne (Ne.symm ne), upd_same]
theorem mk_mkK (h : Mk K ta σ H d) : Mk K (tMkK C 1 (spIni C f) id (tCons ta tNil)) σ H (.exc C [(f, d)]) := fun H1 s Q q => h H1 s _ fun v H2 s2 a => by
  refine ⟨rfl, fun p np => ⟨p, v, rfl, upd_same, fun dd nd ne => ⟨rfl, dd, [(f, v)], upd_same, ?_, ?_⟩⟩⟩
  · rw [upd_ne ne, upd_same]
  · have g := made_gr (C := C) (f := f) (x := v) np nd ne
    refine q _ _ (s2.trans g) (.exc (d := dd) (xs := [(f, v)]) ?_ upd_same (.cons (a.gr g) .nil))
    rw [upd_ne (Ne.symm ne), upd_same]
theorem mk_xa {fs : List (Str × D)} (h : Mk K ta σ H (.exc C fs)) (T : ExcC K C) (no : PySem.W.findIn K (.ref C) f = some none) (l : fs.lookup f = some d) : Mk K (tXa K f ta) σ H d := fun H1 s Q q => h H1 s _ fun v H2 s2 a => by
  cases a with
  | @exc p C dd xs ds e1 e2 e3 =>
    obtain ⟨y, hy, ay⟩ := e3.look l
    exact ⟨p, C, dd, xs, y, rfl, e1, e2, T, no, hy, q y H2 s2 ay⟩
theorem mk_isX {fs : List (Str × D)} {c : V} {cv : Value} {b : Bool} (h : Mk K ta σ H (.exc C fs)) (T : ExcC K C) (hk : PySem.W.kitOne K (.ref C) cv = some b) (hc : ∀ u, RelV c u → u = cv) : Mk K (tCB (rIsX K) (tCons ta (tCons (tC c) tNil))) σ H (.bl b) := fun H1 s Q q => h H1 s _ fun v H2 s2 a => by
  cases a with
  | @exc p C dd xs ds e1 e2 e3 => exact ⟨p, C, dd, xs, c, cv, b, rfl, e1, e2, T, hc, hk, q _ H2 s2 (.bl b)⟩
end
/-- a class (or a def) of the text, by its name -/
theorem pe_cls {X : Cx} {x : Str} {C : Addr} {pos : Pos} (hg : Gl X x) (hm : X.mg x = some (.ref C)) (hd : (x == ("__debug__" : Str)) = false := by decide) : PE X (.Name x pos) (tC (.ref C)) := pe_glob hg hm rfl hd
/-- a thing without parts -/
def D.sc : D → Bool
  | .non => true
  | .bl _ => true
  | .int _ => true
  | .str _ => true
  | _ => false
theorem Dt.any {K : PySem.W.Frag} {H H' : Hp} {v : V} {d : D} (h : Dt K H v d) (s : d.sc = true) : Dt K H' v d := by
  cases h with
  | non => exact .non
  | bl b => exact .bl b
  | int i => exact .int i
  | str x => exact .str x
  | lst _ _ => cases s
  | tup _ _ => cases s
  | dic _ _ => cases s
  | exc _ _ _ => cases s
theorem DtA.any {K : PySem.W.Frag} {H H' : Hp} : ∀ {v : List V} {d : List D}, DtA K H v d → (∀ x ∈ d, x.sc = true) → DtA K H' v d
  | _, _, .nil, _ => .nil
  | _, _, .cons a b, h => .cons (a.any (h _ (List.mem_cons_self ..))) (b.any fun x hx => h x (List.mem_cons_of_mem _ hx))
/-- [e for k in range(n)], n written, e without parts -/
theorem mk_lcR {K : PySem.W.Frag} {σ : Sg} {H : Hp} {te : TE} {i n : Nat} {f : Nat → D} (hn : n ≤ 100000) (hs : ∀ k, (f k).sc = true) (h : ∀ k, k < n → ∀ H1, Same H H1 → Mk K te ((σ.set i none).set i (some (.int (k : Int)))) H1 (f k)) :
    Mk K (tLc (iRng1 (tCons (tC (.int (n : Int))) tNil)) (gName i) tYes te [i]) σ H (.lst ((List.range n).map f)) := fun H1 s Q q => by
  have flat : ∀ j, ∀ x ∈ (List.range j).map f, x.sc = true := fun j x hx => by
    obtain ⟨k, _, rfl⟩ := List.mem_map.mp hx
    exact hs k
  refine ⟨(n : Int), rfl, by omega, by omega, fun p np => lc_range (lo := 0) (n := n) (fun j H' => ∃ xs : List V, H' p = some (.lst xs) ∧ xs.length = j ∧ Same H1 H' ∧ DtA K H' xs ((List.range j).map f)) ⟨[], upd_same, rfl, same_new np, .nil⟩ ?_ ?_⟩
  · rintro j H' hj ⟨xs, e, l, s', a⟩
    have hk := h j hj H' (s.trans s') H' Gr.rfl'
    have w : (wipe σ [i]).set i (some (V.int (0 + (j : Int)))) = (σ.set i none).set i (some (.int (j : Int))) := by rw [Int.zero_add]; rfl
    refine ⟨?_, ?_⟩
    · rw [w]
      show ((σ.set i none).set i (some (.int (j : Int)))).set i none = σ.set i none
      rw [List.set_set, List.set_set]
    · rw [w]
      refine r_yes ?_
      refine hk _ fun v H2 s2 b => ⟨xs, s2 _ _ e, by rw [l]; exact sz2 (by omega), xs ++ [v], upd_same, by rw [List.length_append, l]; rfl, same_mut (s'.trans s2) np, ?_⟩
      rw [List.range_succ, List.map_append]
      exact (a.any (flat j)).app (.cons (b.any (hs j)) .nil)
  · rintro H' ⟨xs, e, l, s', a⟩
    exact q _ _ s' (.lst e a)
theorem ini_reading {K : PySem.W.Frag} {C : Addr} {f : Str} {H : Hp} {Q : VK} {vs : List V} {E : XK} (T : OexC K C) (no : PySem.W.findIn K (.ref C) f = some none) (h : spIni C f vs H Q E) :
    tOst K f (tVar 0) (tVar 1) { nx := fun _ H' => Q .non H', rt := Q } (L2.start ["self", f] vs) H := by
  obtain ⟨a, x, rfl, e, k⟩ := h
  exact ⟨x, rfl, .ref a, rfl, a, C, rfl, T, no, Or.inl ⟨e, fun d n ne => k d n ne⟩⟩
end TSx

/-! Own layer, part R5: data that stand apart from some addresses. -/
namespace TSx
open PySem L2
/-- the heap without the addresses of B -/
def wo (B : Addr → Bool) (H : Hp) : Hp := fun b => if B b = true then none else H b
def dom (H : Hp) : Addr → Bool := fun b => (H b).isSome
theorem wo_le {B : Addr → Bool} {H : Hp} : Same (wo B H) H := fun b o e => by
  unfold wo at e
  by_cases h : B b = true
  · rw [if_pos h] at e; cases e
  · rw [if_neg h] at e; exact e
theorem wo_at {B : Addr → Bool} {H : Hp} {b : Addr} (h : B b = false) : wo B H b = H b := by
  unfold wo
  rw [h]
  rfl
theorem wo_same {B : Addr → Bool} {H H' : Hp} (s : Same H H') : Same (wo B H) (wo B H') := fun b o e => by
  unfold wo at e ⊢
  by_cases h : B b = true
  · rw [if_pos h] at e; cases e
  · rw [if_neg h] at e ⊢; exact s b o e
theorem wo_kp {B : Addr → Bool} {H H' : Hp} {m g : Addr} (s : Kp m g H H') (hm : B m = true) (hg : B g = true) : Same (wo B H) (wo B H') := fun b o e => by
  unfold wo at e ⊢
  by_cases h : B b = true
  · rw [if_pos h] at e; cases e
  · rw [if_neg h] at e ⊢
    exact s b o (fun z => h (by rw [z]; exact hm)) (fun z => h (by rw [z]; exact hg)) e
theorem dom_of {H : Hp} {b : Addr} {o : HO} (h : H b = some o) : dom H b = true := by unfold dom; rw [h]; rfl
theorem dom_no {H : Hp} {b : Addr} (h : H b = none) : dom H b = false := by unfold dom; rw [h]; rfl
/-- te makes the data d, apart from B -/
def MkB (K : PySem.W.Frag) (B : Addr → Bool) (te : TE) (σ : Sg) (H : Hp) (d : D) : Prop := ∀ H1, Same H H1 → ∀ Q : VK, (∀ v H2, Same H1 H2 → Dt K (wo B H2) v d → Q v H2) → te σ H1 Q
def MkBA (K : PySem.W.Frag) (B : Addr → Bool) (ta : TA) (σ : Sg) (H : Hp) (ds : List D) : Prop := ∀ H1, Same H H1 → ∀ Q : List V → Hp → Prop, (∀ vs H2, Same H1 H2 → DtA K (wo B H2) vs ds → Q vs H2) → ta σ H1 Q
section
variable {K : PySem.W.Frag} {B : Addr → Bool} {σ : Sg} {H : Hp} {te ta tb : TE} {t : TA} {d : D} {ds es : List D}
theorem kb_non : MkB K B (tC .non) σ H .non := fun H1 _ Q q => q _ H1 Gr.rfl' .non
theorem kb_int {i : Int} : MkB K B (tC (.int i)) σ H (.int i) := fun H1 _ Q q => q _ H1 Gr.rfl' (.int i)
theorem kb_str {x : Str} : MkB K B (tC (.str x)) σ H (.str x) := fun H1 _ Q q => q _ H1 Gr.rfl' (.str x)
theorem kb_bl {b : Bool} : MkB K B (tC (.bl b)) σ H (.bl b) := fun H1 _ Q q => q _ H1 Gr.rfl' (.bl b)
theorem kb_var {n : Nat} {v : V} (h : σ[n]? = some (some v)) (a : Dt K (wo B H) v d) : MkB K B (tVar n) σ H d := fun H1 s Q q => ⟨v, h, q v H1 Gr.rfl' (a.gr (wo_same s))⟩
theorem kb_neg {i : Int} (h : MkB K B ta σ H (.int i)) : MkB K B (tUn (rU fun i => .int (-i)) ta) σ H (.int (-i)) := fun H1 s Q q => h H1 s _ fun v H2 s2 a => by
  cases a
  exact ⟨i, rfl, q _ H2 s2 (.int _)⟩
theorem kb_I {i j : Int} {C : Int → Int → Prop} {g : Int → Int → Int} (h : MkB K B ta σ H (.int i)) (h2 : MkB K B tb σ H (.int j)) (c : C i j) : MkB K B (tOp (rI C fun i j => .int (g i j)) ta tb) σ H (.int (g i j)) := fun H1 s Q q => h H1 s _ fun v H2 s2 a => h2 H2 (s.trans s2) _ fun u H3 s3 b => by
  cases a
  cases b
  exact ⟨i, j, rfl, rfl, c, q _ H3 (s2.trans s3) (.int _)⟩
theorem kba_nil : MkBA K B tNil σ H [] := fun H1 _ Q q => q _ H1 Gr.rfl' .nil
theorem kba_cons (h : MkB K B ta σ H d) (r : MkBA K B t σ H ds) : MkBA K B (tCons ta t) σ H (d :: ds) := fun H1 s Q q => h H1 s _ fun v H2 s2 a => r H2 (s.trans s2) _ fun vs H3 s3 b => q _ H3 (s2.trans s3) (.cons (a.gr (wo_same s3)) b)
/-- a free place is none of B's, where B's are all taken -/
theorem apart {H1 : Hp} {p : Addr} (hB : ∀ b, B b = true → H b ≠ none) (s : Same H H1) (n : H1 p = none) : B p = false := by
  cases e : B p with
  | false => rfl
  | true => exact absurd (gr_none s n) (hB p e)
theorem kb_tup (hB : ∀ b, B b = true → H b ≠ none) (h : MkBA K B t σ H ds) (z : ds.length ≤ 100000) : MkB K B (tTup t) σ H (.tup ds) := fun H1 s Q q => h H1 s _ fun vs H2 s2 a => by
  refine ⟨by rw [a.len]; exact sz1 z, fun p np => ?_⟩
  refine q _ _ (s2.trans (same_new np)) (.tup (SqT.of ?_) (a.gr (wo_same (same_new np))))
  rw [wo_at (apart hB (s.trans s2) np), upd_same]
theorem kb_lst (hB : ∀ b, B b = true → H b ≠ none) (h : MkBA K B t σ H ds) (z : ds.length ≤ 100000) : MkB K B (tLst t) σ H (.lst ds) := fun H1 s Q q => h H1 s _ fun vs H2 s2 a => by
  refine ⟨by rw [a.len]; exact sz1 z, fun p np => ?_⟩
  refine q _ _ (s2.trans (same_new np)) (.lst ?_ (a.gr (wo_same (same_new np))))
  rw [wo_at (apart hB (s.trans s2) np), upd_same]
theorem kb_dic (hB : ∀ b, B b = true → H b ≠ none) : MkB K B tDNewK σ H (.dic []) := fun H1 s Q q p np => q _ _ (same_new np) (.dic (by rw [wo_at (apart hB s np), upd_same]) .nil)
theorem kb_cat (hB : ∀ b, B b = true → H b ≠ none) (h : MkB K B ta σ H (.lst ds)) (h2 : MkB K B tb σ H (.lst es)) (z : ds.length + es.length ≤ 100000) : MkB K B (tOp rCat ta tb) σ H (.lst (ds ++ es)) := fun H1 s Q q => h H1 s _ fun v H2 s2 a => h2 H2 (s.trans s2) _ fun u H3 s3 b => by
  cases a with
  | @lst p xs ds ea aa =>
    cases b with
    | @lst r ys es eb bb =>
      refine ⟨p, r, xs, ys, rfl, rfl, s3 _ _ (wo_le _ _ ea), wo_le _ _ eb, by rw [aa.len, bb.len]; exact sz1 z, fun w nw => ?_⟩
      refine q _ _ ((s2.trans s3).trans (same_new nw)) (.lst ?_ (((aa.gr (wo_same s3)).app bb).gr (wo_same (same_new nw))))
      rw [wo_at (apart hB ((s.trans s2).trans s3) nw), upd_same]
end
end TSx

/-! Own layer, part R6: classes over OverflowError, two fields, lists times a number, a list's place, a comprehension over pairs. -/
namespace TSx
open PySem L2
/-- an own __init__ with two fields -/
def spIni2 (C : Addr) (f g : Str) : Sp := fun vs H Q _ => ∃ (a : Addr) (x y : V), vs = [.ref a, x, y] ∧ H a = some (exo a C none) ∧ ∀ d, H d = none → d ≠ a → Q .non (upd (upd (upd H d (exd d [(f, x)])) a (exo a C (some d))) d (exd d [(g, y), (f, x)]))
structure Xo (P : Program) (w : World) (K : PySem.W.Frag) (mg : Str → Option Value) (base : Heap) (nm fld : Str) (C fI : Addr) (fd : FuncData) : Prop where
  o : OofC K C
  a : ExcC K C
  iC : PySem.W.findIn K (.ref C) "__init__" = some (some (.ref fI))
  tI : PySem.W.typeIn K (.ref fI) = some (.type "function")
  F : FnOk P w K mg base CX0 1 fI fd ["self", fld] (spIni C fld)
  b : Binds K fd ["self", fld] []
  g : mg nm = some (.ref C)
  no : PySem.W.findIn K (.ref C) fld = some none
def swp {α : Type} : List α → List α
  | [x, y] => [y, x]
  | l => l
theorem swp_rel {zs : List V} {ws : List Value} (r : Vals zs ws) : Vals (swp zs) (swp ws) := by
  cases r with
  | nil => exact .nil
  | cons a r =>
    cases r with
    | nil => exact .cons a .nil
    | cons b r =>
      cases r with
      | nil => exact .cons b (.cons a .nil)
      | cons c r => exact .cons a (.cons b (.cons c r))
structure Xt (P : Program) (w : World) (K : PySem.W.Frag) (mg : Str → Option Value) (base : Heap) (nm f1 f2 : Str) (C fI : Addr) (fd : FuncData) : Prop where
  o : OexC K C
  a : ExcC K C
  iC : PySem.W.findIn K (.ref C) "__init__" = some (some (.ref fI))
  tI : PySem.W.typeIn K (.ref fI) = some (.type "function")
  F : FnOk P w K mg base CX0 1 fI fd ["self", f1, f2] (spIni2 C f1 f2)
  b : Binds K fd ["self", f1, f2] []
  kw : KwB fd ["self", f1, f2] [f2, f1] swp swp
  g : mg nm = some (.ref C)
  no1 : PySem.W.findIn K (.ref C) f1 = some none
  no2 : PySem.W.findIn K (.ref C) f2 = some none
section
variable {K : PySem.W.Frag} {σ : Sg} {H : Hp} {te ta tb : TE} {t : TA} {d d1 d2 : D} {ds es : List D} {C : Addr} {f g : Str}
theorem ofi_reading {Q : VK} {vs : List V} {E : XK} (T : OofC K C) (no : PySem.W.findIn K (.ref C) f = some none) (h : spIni C f vs H Q E) :
    tOfS K f (tVar 0) (tVar 1) { nx := fun _ H' => Q .non H', rt := Q } (L2.start ["self", f] vs) H := by
  obtain ⟨a, x, rfl, e, k⟩ := h
  exact ⟨x, rfl, .ref a, rfl, a, C, rfl, T, no, e, fun d n ne => k d n ne⟩
theorem ini2_reading {Q : VK} {vs : List V} {E : XK} (T : OexC K C) (no1 : PySem.W.findIn K (.ref C) f = some none) (no2 : PySem.W.findIn K (.ref C) g = some none) (h : spIni2 C f g vs H Q E) :
    tSeq (tOst K f (tVar 0) (tVar 1)) (tOst K g (tVar 0) (tVar 2)) { nx := fun _ H' => Q .non H', rt := Q } (L2.start ["self", f, g] vs) H := by
  obtain ⟨a, x, y, rfl, e, k⟩ := h
  refine ⟨x, rfl, .ref a, rfl, a, C, rfl, T, no1, Or.inl ⟨e, fun d n ne => ?_⟩⟩
  refine ⟨y, rfl, .ref a, rfl, a, C, rfl, T, no2, Or.inr ⟨d, [(f, x)], upd_same, ?_, (show 1 ≤ 900 by decide), k d n ne⟩⟩
  rw [upd_ne ne, upd_same]
theorem made_gr2 {H1 : Hp} {a dd : Addr} {x y : V} (na : H1 a = none) (nd : (upd H1 a (exo a C none)) dd = none) (ne : dd ≠ a) :
    Same H1 (upd (upd (upd (upd (upd (upd H1 a (exo a C none)) dd (exd dd [(f, x)])) a (exo a C (some dd))) dd (exd dd [(g, y), (f, x)])) a (exq a C dd)) dd (.xd [(g, y), (f, x)])) := fun b o e => by
  have hb : b ≠ a := ne_of_none e na
  have hd : b ≠ dd := fun z => by rw [z] at e; rw [upd_ne ne, e] at nd; cases nd
  rw [upd_ne hd, upd_ne hb, upd_ne hd, upd_ne hb, upd_ne hd, upd_ne hb]
  exact e
theorem mk_mkX2 (h : Mk K ta σ H d1) (h2 : Mk K tb σ H d2) : Mk K (tMkX C (spIni2 C f g) (tCons ta (tCons tb tNil))) σ H (.exc C [(g, d2), (f, d1)]) := fun H1 s Q q => h H1 s _ fun v H2 s2 a => h2 H2 (s.trans s2) _ fun u H3 s3 b => by
  refine ⟨(show 2 ≤ 1000 by decide), fun p np => ⟨p, v, u, rfl, upd_same, fun dd nd ne => ⟨rfl, dd, [(g, u), (f, v)], ?_, upd_same, ?_⟩⟩⟩
  · rw [upd_ne (Ne.symm ne), upd_same]
  · have gg := made_gr2 (C := C) (f := f) (g := g) (x := v) (y := u) np nd ne
    refine q _ _ ((s2.trans s3).trans gg) (.exc (d := dd) (xs := [(g, u), (f, v)]) ?_ upd_same (.cons (b.gr gg) (.cons ((a.gr s3).gr gg) .nil)))
    rw [upd_ne (Ne.symm ne), upd_same]
theorem mk_mkK2 (h : Mk K ta σ H d2) (h2 : Mk K tb σ H d1) : Mk K (tMkK C 2 (spIni2 C f g) swp (tCons ta (tCons tb tNil))) σ H (.exc C [(g, d2), (f, d1)]) := fun H1 s Q q => h H1 s _ fun u H2 s2 b => h2 H2 (s.trans s2) _ fun v H3 s3 a => by
  refine ⟨rfl, fun p np => ⟨p, v, u, rfl, upd_same, fun dd nd ne => ⟨rfl, dd, [(g, u), (f, v)], ?_, upd_same, ?_⟩⟩⟩
  · rw [upd_ne (Ne.symm ne), upd_same]
  · have gg := made_gr2 (C := C) (f := f) (g := g) (x := v) (y := u) np nd ne
    refine q _ _ ((s2.trans s3).trans gg) (.exc (d := dd) (xs := [(g, u), (f, v)]) ?_ upd_same (.cons ((b.gr s3).gr gg) (.cons (a.gr gg) .nil)))
    rw [upd_ne (Ne.symm ne), upd_same]
theorem DtA.rep {vs : List V} (h : DtA K H vs ds) : ∀ n : Nat, DtA K H (List.replicate n vs).flatten (List.replicate n ds).flatten
  | 0 => .nil
  | n + 1 => by
    rw [List.replicate_succ, List.replicate_succ, List.flatten_cons, List.flatten_cons]
    exact h.app (DtA.rep h n)
theorem mk_rep {k : Int} (h : Mk K ta σ H (.lst ds)) (h2 : Mk K tb σ H (.int k)) (k0 : 0 ≤ k) (k1 : k < 1000) (z : ds.length ≤ 100) : Mk K (tOp rRep ta tb) σ H (.lst (List.replicate k.toNat ds).flatten) := fun H1 s Q q => h H1 s _ fun v H2 s2 a => h2 H2 (s.trans s2) _ fun u H3 s3 b => by
  cases b
  cases a with
  | @lst p xs _ e aa =>
    refine ⟨p, k, xs, rfl, rfl, s3 _ _ e, by omega, by omega, ?_, fun w nw => q _ _ ((s2.trans s3).trans (same_new nw)) (.lst upd_same (((aa.gr s3).rep _).gr (same_new nw)))⟩
    refine sz1 (Nat.le_trans (Nat.mul_le_mul (show xs.length ≤ 100 by rw [aa.len]; exact z) (show k.toNat ≤ 1000 by omega)) (by decide))
theorem DtA.nth {vs : List V} {i : Nat} {y : D} (h : DtA K H vs ds) (e : ds[i]? = some y) : ∃ x, vs[i]? = some x ∧ Dt K H x y := by
  induction ds generalizing vs i with
  | nil => simp at e
  | cons z l ih =>
    cases h with
    | @cons v ws _ _ a b =>
    cases i with
    | zero => simp at e; subst e; exact ⟨v, rfl, a⟩
    | succ i =>
      obtain ⟨x, h1, h2⟩ := ih b (by simpa using e)
      exact ⟨x, by simpa using h1, h2⟩
theorem mk_ixL {i : Nat} (h : Mk K ta σ H (.lst ds)) (h2 : Mk K tb σ H (.int (i : Int))) (e : ds[i]? = some d) : Mk K (tOp (rIxL K) ta tb) σ H d := fun H1 s Q q => h H1 s _ fun v H2 s2 a => h2 H2 (s.trans s2) _ fun u H3 s3 b => by
  cases b
  cases a with
  | @lst p xs _ el aa =>
    obtain ⟨x, hx, ax⟩ := aa.nth e
    exact ⟨p, xs, (i : Int), x, rfl, rfl, SqL.of (s3 _ _ el), atI_nat hx, q x _ (s2.trans s3) (ax.gr s3)⟩
end
def rowD (p : Str × Bool) : D := .tup [.str p.1, .bl p.2]
theorem mk_lcT {K : PySem.W.Frag} {H : Hp} {ti : TE} {a b c d : Option V} (rows : List (Str × Bool)) (h : Mk K ti [a, b, c, d] H (.lst (rows.map rowD))) (z : rows.length < 1000) :
    Mk K (tLc (iList K ti) (gTup K 2 (gCons (gName 2) (gCons (gName 3) gNil))) (tB (tVar 3)) (tVar 2) [2, 3]) [a, b, c, d] H (.lst ((rows.filter (·.2)).map fun p => .str p.1)) := fun H1 s Q q => h H1 s _ fun v H2 s2 av => by
  cases av with
  | @lst p xs _ e aa =>
  have lx : xs.length = rows.length := by rw [aa.len, List.length_map]
  refine ⟨p, rfl, ⟨xs, SqL.of e⟩, fun D hD => lc_list (K := K) (a := p) (xs := xs) (fun k H' => Same H2 H' ∧ ∃ ys : List V, H' D = some (.lst ys) ∧ ys.length ≤ k ∧ DtA K H' ys (((rows.take k).filter (·.2)).map fun p => .str p.1))
    ⟨same_new hD, [], upd_same, Nat.le_refl _, .nil⟩ (fun k H' _ w => SqL.of (w.1 _ _ e)) ?_ ?_⟩
  · rintro k x H' hx ⟨s', ys, ey, ly, ay⟩
    obtain ⟨dx, edx, adx⟩ := aa.at hx
    obtain ⟨r, hr, rfl⟩ : ∃ r, rows[k]? = some r ∧ rowD r = dx := by
      rw [List.getElem?_map] at edx
      cases q : rows[k]? with
      | none => rw [q] at edx; cases edx
      | some r => rw [q] at edx; cases edx; exact ⟨r, rfl, rfl⟩
    have kl : k < rows.length := (List.getElem?_eq_some_iff.mp hr).1
    have tk : rows.take (k + 1) = rows.take k ++ [r] := by rw [List.take_add_one, hr]; rfl
    obtain ⟨l, bb⟩ := r
    cases adx with
    | @tup t ws _ hT at2 =>
    cases at2 with
    | cons q1 at2 =>
    cases at2 with
    | cons q2 at2 =>
    cases at2
    cases q1
    cases q2
    refine ⟨t, _, rfl, gr_T s' hT, rfl, _, _, rfl, r_name ⟨_, _, rfl, r_name ⟨rfl, rfl, ?_⟩⟩⟩
    refine ⟨_, rfl, bb, rfl, ?_⟩
    cases bb with
    | false =>
      refine iteF ?_
      refine ⟨s', ys, ey, by omega, ?_⟩
      rw [tk, List.filter_append]
      simpa using ay
    | true =>
      refine iteT ?_
      refine ⟨_, rfl, ys, ey, sz2 (by omega), same_mut s' hD, _, upd_same, by rw [List.length_append]; simpa using ly, ?_⟩
      rw [tk, List.filter_append, List.map_append]
      have flat : ∀ {l : List (Str × Bool)}, ∀ x ∈ l.map (fun p : Str × Bool => TSx.D.str p.1), x.sc = true := by
        intro l x hx
        obtain ⟨y, _, rfl⟩ := List.mem_map.mp hx
        rfl
      exact (ay.any flat).app (.cons (.str l) .nil)
  · rintro H' ⟨s', ys, ey, ly, ay⟩
    refine q _ _ (s2.trans s') (.lst ey ?_)
    rw [lx, List.take_length] at ay
    exact ay
end TSx

/-! Own layer, part Z1: zip of a tuple and a text, enumerate of a tuple, lcm. -/
namespace TSx
open PySem L2 PySem.Spec PyProof.Rows
/-- the tuple at a and the text x, side by side -/
def ItzS (K : PySem.W.Frag) (a : Addr) (x : Str) : It :=
  ⟨fun i H => ∃ (xs : List V) (v : V) (c : Nat), SqT K H a xs ∧ xs[i]? = some v ∧ x.cps[i]? = some c,
    fun i H v H' => ∃ (T : Addr) (u : V) (c : Nat), v = .ref T ∧ H T = none ∧ H' = upd H T (.tup [u, .str ⟨#[c]⟩]) ∧ (∀ xs, SqT K H a xs → xs[i]? = some u) ∧ x.cps[i]? = some c,
    fun i H => ∃ xs : List V, SqT K H a xs ∧ i ≤ xs.length ∧ i ≤ x.cps.size ∧ (i = xs.length ∨ i = x.cps.size)⟩
theorem turn_zipS {P : Program} {w : World} {K : PySem.W.Frag} {elts : List Expr} {kk : Nat} {tpos : Pos} {a z TI TO i1 i2 : Addr} {x : Str} {t : Tok} (S : ZipSep2 z TI TO i1 i2 [i1, a] [i2]) :
    Turn P w K (.Tuple elts kk tpos) (ItzS K a x) [z, TI, TO, i1, i2] z (fun i h => IsZip h z TI TO .none ∧ IsTupOf2 h TI (.ref i1) (.ref i2) ∧ (∃ p q, IsTupOf2 h TO p q) ∧ h.IsTupleIter i1 a i ∧ h.IsStrIter i2 (strIterType x) x t i) where
  mem := by simp
  obj := fun i h st c hc => by
    obtain ⟨hz, hTI, ⟨p, q, hTO⟩, ⟨o1, e1, _, d1⟩, ⟨o2, e2, _, d2⟩⟩ := st
    have e' : c = z ∨ c = TI ∨ c = TO ∨ c = i1 ∨ c = i2 := by simpa using hc
    rcases e' with q | q | q | q | q
    · rw [q]; exact ⟨_, hz, fun v q => nomatch q⟩
    · rw [q]; exact ⟨_, hTI, fun v q => nomatch q⟩
    · rw [q]; exact ⟨_, hTO, fun v q => nomatch q⟩
    · rw [q]; exact ⟨o1, e1, fun v q => by rw [d1] at q; cases q⟩
    · rw [q]; exact ⟨o2, e2, fun v q => by rw [d2] at q; cases q⟩
  keep := fun i h h' st k => by
    obtain ⟨hz, hTI, ⟨p, q, hTO⟩, ⟨o1, e1, r1⟩, ⟨o2, e2, r2⟩⟩ := st
    exact ⟨k z (by simp) _ hz, k TI (by simp) _ hTI, ⟨p, q, k TO (by simp) _ hTO⟩, ⟨o1, k i1 (by simp) _ e1, r1⟩, ⟨o2, k i2 (by simp) _ e2, r2⟩⟩
  item := by
    intro X hP hw hK hc i pins s σ H E I hf st hg
    subst hP hw hK
    obtain ⟨hz, hTI, ⟨p0, q0, hTO⟩, h1, h2⟩ := st
    obtain ⟨xs, v, c, hq, hx, hc'⟩ := hg
    obtain ⟨its, rv, pt, _⟩ := I.tuple hq
    obtain ⟨u, hu, ru⟩ := rv.get hx
    have ne1 : a ≠ i1 := fun e => by
      obtain ⟨o, ho, hcl, _⟩ := pt
      obtain ⟨o1, e1, c1, _⟩ := h1
      rw [e] at ho
      rw [e1] at ho
      cases ho
      rw [hcl] at c1
      exact absurd (Value.type.inj c1) (by decide)
    have hzl : z < s.heap.objs.size := Heap.lt_size hz
    have li1 : i1 < s.heap.objs.size := by obtain ⟨_, e1, _⟩ := h1; exact Heap.lt_size e1
    have li2 : i2 < s.heap.objs.size := by obtain ⟨_, e2, _⟩ := h2; exact Heap.lt_size e2
    have lTI : TI < s.heap.objs.size := Heap.lt_size hTI
    have lTO : TO < s.heap.objs.size := Heap.lt_size hTO
    have D1 := Draws.tuple (prog := X.prog) (w := X.w) (A := X.A.in1) (I.ok.hd hc) i1 a ne1 its.toArray
    have D2 := Draws.text (prog := X.prog) (w := X.w) (A := X.A.in1) (I.ok.hd hc) i2 x t
    have l1 : i < its.toArray.size := by
      have : i < its.length := (List.getElem?_eq_some_iff.mp (by simpa using hu)).1
      simpa using this
    have l2 : i < x.cps.size := (Array.getElem?_eq_some_iff.mp hc').1
    refine wpAny_pyNext_zipD2_item S D1 D2 hz hTI hTO ⟨h1, pt⟩ h2 l1 l2 fun x1 x2 h' tk y1 y2 b1 b2 d1 d2 b5 b6 hk => ?_
    have e1 : x1 = u := by
      have hu' : its.toArray[i]? = some u := by simpa using hu
      rw [hu'] at y1
      exact (Option.some.inj y1).symm
    subst e1
    obtain ⟨c', u2, hc2, rfl⟩ := y2
    rw [hc'] at hc2
    cases hc2
    refine ⟨_, rfl, wpAny_letOwnedTupleGo_zip (s := { s with heap := h', toks := tk }) b1 fun h'' z'' sb => ?_⟩
    have T2 : h''.get? s.heap.objs.size = some { cls := .type "tuple", data := .seq #[x1, .str ⟨#[c]⟩ u2] } := (sb.2 _ (Nat.ne_of_gt hzl)).trans b5
    have new : ObjOk X.prog X.w (upd H s.heap.objs.size (.tup [v, .str ⟨#[c]⟩])) h'' s.heap.objs.size (.tup [v, .str ⟨#[c]⟩]) :=
      ⟨by show 2 ≤ sizeLine; decide, [x1, .str ⟨#[c]⟩ u2], .cons ru (.cons ⟨_, rfl⟩ .nil), ⟨_, T2, rfl, _, rfl⟩⟩
    have I1 : Inv X pins σ (upd H s.heap.objs.size (.tup [v, .str ⟨#[c]⟩])) { s with heap := h'', toks := tk } :=
      I.turnedNew (ch := [z, TI, TO, i1, i2]) (fun b o hb q => (sb.2 b (fun q' => hb (by simp [q']))).trans (hk b o (fun q' => hb (by simp [q'])) (fun q' => hb (by simp [q'])) (fun q' => hb (by simp [q'])) (fun q' => hb (by simp [q'])) q)) hf (Nat.le_refl _) new
    refine ⟨.ref s.heap.objs.size, _, I1, rfl, ⟨_, v, c, rfl, I.hok.fresh (Nat.le_refl _), rfl, fun l hl => by rw [I.tuple_inj hl hq]; exact hx, hc'⟩, ⟨z'', ?_, ⟨x1, .str ⟨#[c]⟩ u2, ?_⟩, ?_, ?_⟩, fun b hb => ?_⟩
    · exact (sb.2 _ S.TIz).trans (hk _ _ S.TIz S.TITO S.TIi1 S.TIi2 hTI)
    · exact (sb.2 _ S.TOz).trans b2
    · obtain ⟨⟨o1, e1, r1⟩, _⟩ := d1
      exact ⟨o1, (sb.2 _ (Ne.symm S.zi1)).trans e1, r1⟩
    · obtain ⟨o2, e2, r2⟩ := d2
      exact ⟨o2, (sb.2 _ (Ne.symm S.zi2)).trans e2, r2⟩
    · have lt : b < s.heap.objs.size := by
        have e' : b = z ∨ b = TI ∨ b = TO ∨ b = i1 ∨ b = i2 := by simpa using hb
        rcases e' with q | q | q | q | q <;> rw [q] <;> assumption
      rw [upd_ne (Nat.ne_of_lt lt)]
      exact (hf b hb).1
  done := by
    intro X hP hw hK hc i pins s σ H E I hf st hg
    subst hP hw hK
    obtain ⟨hz, hTI, ⟨p0, q0, hTO⟩, h1, h2⟩ := st
    obtain ⟨xs, hq, n1, n2, hend⟩ := hg
    obtain ⟨its, rv, pt, _⟩ := I.tuple hq
    have l1 := rv.length
    have ne1 : a ≠ i1 := fun e => by
      obtain ⟨o, ho, hcl, _⟩ := pt
      obtain ⟨o1, e1, c1, _⟩ := h1
      rw [e] at ho
      rw [e1] at ho
      cases ho
      rw [hcl] at c1
      exact absurd (Value.type.inj c1) (by decide)
    have D1 := Draws.tuple (prog := X.prog) (w := X.w) (A := X.A.in1) (I.ok.hd hc) i1 a ne1 its.toArray
    have D2 := Draws.text (prog := X.prog) (w := X.w) (A := X.A.in1) (I.ok.hd hc) i2 x t
    have sz : its.toArray.size = xs.length := by rw [List.size_toArray]; exact l1.symm
    refine wpAny_pyNext_zipD2_end S D1 D2 hz hTI hTO ⟨h1, pt⟩ h2 (by omega) n2 (by omega) fun h' tk hk => ⟨rfl, I.turnedL (t' := tk) (ch := [z, TI, TO, i1, i2]) (fun b o hb q =>
      hk b o (fun q' => hb (by simp [q'])) (fun q' => hb (by simp [q'])) (fun q' => hb (by simp [q'])) (fun q' => hb (by simp [q'])) q) hf⟩
  self := fun A i s Q E st h => wpAny_pyIter_zip st.1 h
def iZipS (K : PySem.W.Frag) (ta : TA) : TI := fun σ H R => ta σ H fun vs H1 => ∃ (a : Addr) (x : Str) (xs : List V), vs = [.ref a, .str x] ∧ SqT K H1 a xs ∧ R (ItzS K a x) H1
theorem pi_zipS {X : Cx} {e e2 : Expr} {ta : TA} {p pos tpos : Pos} {elts : List Expr} {kk : Nat} (hg : Gl X "zip") (hm : X.mg "zip" = none) (ha : PA X [e, e2] ta)
    (hs : starEach [e, e2] X.env = (false, eval e X.env) :: starEach [e2] X.env := by rfl) (hpl : (backTo pos (starEach [e2] X.env)).any (·.1) = false := by rfl) :
    PI X (.Tuple elts kk tpos) (.Call (.Name "zip" p) [e, e2] [] pos) (iZipS X.K ta) := by
  constructor
  intro pins s σ H R I h
  refine Call_ (ld_blt I hg hm PyProof.Rows.boot_zip (PyProof.Rows.callWith_type1 (thn (ha.run pos pins s σ H _ I h) fun us s1 z => ?_) hs hpl))
  obtain ⟨vs, H1, I1, r1, a, x, xs, ex, hq, q⟩ := z
  subst ex
  obtain ⟨u1, u2, rfl, ra, rx⟩ := vals2 r1
  cases (show u1 = Value.ref a from ra)
  obtain ⟨t, rfl⟩ := (show ∃ t, u2 = Value.str x t from rx)
  obtain ⟨its, rv, pt, _⟩ := I1.tuple hq
  have la : a < s1.heap.objs.size := by obtain ⟨o, ho, _⟩ := id pt; exact Heap.lt_size ho
  refine zip_begins2 (begins_tuple a its.toArray) (begins_text x t) pt trivial fun h' hz hTI hTO g1 g2 hsz hk => wpAny_pyIter_zip hz ?_
  have I2 : Inv X pins σ H1 { s1 with heap := h' } := I1.kept (t' := s1.toks) hk
  refine ⟨s1.heap.objs.size + 4, [s1.heap.objs.size + 4, s1.heap.objs.size + 2, s1.heap.objs.size + 3, s1.heap.objs.size, s1.heap.objs.size + 1], _, _, H1, rfl, I2,
    turn_zipS (t := t) (zip_sep2 (N := s1.heap.objs.size) (fp1 := [a]) (fp2 := []) (fun b hb => by rw [List.mem_singleton.mp hb]; exact la) (fun b hb => nomatch hb)), ⟨hz, hTI, ⟨_, _, hTO⟩, ⟨_, g1, rfl, rfl⟩, ⟨_, g2, rfl, rfl⟩⟩, fun c hc => ?_, q⟩
  have e' : c = s1.heap.objs.size + 4 ∨ c = s1.heap.objs.size + 2 ∨ c = s1.heap.objs.size + 3 ∨ c = s1.heap.objs.size ∨ c = s1.heap.objs.size + 1 := by simpa using hc
  have hle : s1.heap.objs.size ≤ c := by
    rcases e' with z | z | z | z | z <;> rw [z] <;> first | exact Nat.le_add_right _ _ | exact Nat.le_refl _
  exact I1.fpOk hle (I1.hok.fresh hle)
/-! ### enumerate(tuple) -/
def IteT (K : PySem.W.Frag) (a : Addr) : It :=
  ⟨fun i H => ∃ (xs : List V) (x : V), SqT K H a xs ∧ xs[i]? = some x, fun i H v H' => ∃ (T : Addr) (x : V), v = .ref T ∧ H T = none ∧ H' = upd H T (.tup [.int (i : Nat), x]) ∧ ∀ xs, SqT K H a xs → xs[i]? = some x, fun i H => ∃ xs : List V, SqT K H a xs ∧ i = xs.length⟩
theorem turn_enumT {P : Program} {w : World} {K : PySem.W.Frag} {elts : List Expr} {kk : Nat} {tpos : Pos} (a e it : Addr) :
    Turn P w K (.Tuple elts kk tpos) (IteT K a) [e, it] e (fun i h => (∃ old, IsEnum h e it ((i : Nat) : Int) old) ∧ h.IsTupleIter it a i ∧ e ≠ it) where
  mem := by simp
  obj := fun i h st b hb => by
    obtain ⟨⟨old, he⟩, ⟨o, ho, hc, hd⟩, _⟩ := st
    have e' : b = e ∨ b = it := by simpa using hb
    rcases e' with z | z
    · rw [z]; exact ⟨_, he, fun v q => nomatch q⟩
    · rw [z]; exact ⟨o, ho, fun v q => by rw [hd] at q; cases q⟩
  keep := fun i h h' st k => by
    obtain ⟨⟨old, he⟩, ⟨o, ho, r⟩, hne⟩ := st
    exact ⟨⟨old, k e (by simp) _ he⟩, ⟨o, k it (by simp) _ ho, r⟩, hne⟩
  item := by
    intro X hP hw hK hc i pins s σ H E I hf st hg
    subst hP hw hK
    obtain ⟨⟨old, he⟩, hit, hne⟩ := st
    obtain ⟨xs, x, hq, hx⟩ := hg
    obtain ⟨its, rv, pt, _⟩ := I.tuple hq
    obtain ⟨u, hu, ru⟩ := rv.get hx
    have ne1 : a ≠ it := fun e => by
      obtain ⟨o, ho, hcl, _⟩ := pt
      obtain ⟨o1, e1, c1, _⟩ := hit
      rw [e] at ho
      rw [e1] at ho
      cases ho
      rw [hcl] at c1
      exact absurd (Value.type.inj c1) (by decide)
    have nea : e ≠ a := fun z => by
      obtain ⟨o, ho, hcl, _⟩ := pt
      rw [← z] at ho
      have he' : s.heap.get? e = some _ := he
      rw [he'] at ho
      cases ho
      exact absurd (Value.type.inj hcl) (by decide)
    have hel : e < s.heap.objs.size := Heap.lt_size he
    have hil : it < s.heap.objs.size := by obtain ⟨_, q, _⟩ := hit; exact Heap.lt_size q
    have D1 := Draws.tuple (prog := X.prog) (w := X.w) (A := X.A.in1) (I.ok.hd hc) it a ne1 its.toArray
    have l1 : i < its.toArray.size := by
      have : i < its.length := (List.getElem?_eq_some_iff.mp (by simpa using hu)).1
      simpa using this
    refine wpAny_pyNext_enum_itemD D1 he ⟨hit, pt⟩ l1 hne (by simp [hne, nea]) fun x1 h' tk y1 ho hit' hT hsz hk => ?_
    have e1 : x1 = u := by
      have hu' : its.toArray[i]? = some u := by simpa using hu
      rw [hu'] at y1
      exact (Option.some.inj y1).symm
    subst e1
    refine ⟨_, rfl, wpAny_letOwnedTupleGo_enum (s := { s with heap := h', toks := tk + 1 }) ho fun h'' he' sb => ?_⟩
    have T2 : h''.get? s.heap.objs.size = some { cls := .type "tuple", data := .seq #[.int i tk, x1] } := (sb.2 _ (Nat.ne_of_gt hel)).trans hT
    have new : ObjOk X.prog X.w (upd H s.heap.objs.size (.tup [.int (i : Nat), x])) h'' s.heap.objs.size (.tup [.int (i : Nat), x]) :=
      ⟨by show 2 ≤ sizeLine; decide, [.int i tk, x1], .cons ⟨_, rfl⟩ (.cons ru .nil), ⟨_, T2, rfl, _, rfl⟩⟩
    have I1 : Inv X pins σ (upd H s.heap.objs.size (.tup [.int (i : Nat), x])) { s with heap := h'', toks := tk + 1 } :=
      I.turnedNew (ch := [e, it]) (fun b ob hb q => (sb.2 b (fun z => hb (by simp [z]))).trans (hk b ob (fun z => hb (by simp [z])) (fun z => hb (by simp [z])) q)) hf (Nat.le_refl _) new
    refine ⟨.ref s.heap.objs.size, _, I1, rfl, ⟨_, x, rfl, I.hok.fresh (Nat.le_refl _), rfl, fun ys hy => by rw [I.tuple_inj hy hq]; exact hx⟩, ⟨⟨x1, ?_⟩, ?_, hne⟩, fun b hb => ?_⟩
    · have e1 : ((i + 1 : Nat) : Int) = (i : Int) + 1 := by omega
      rw [e1]; exact he'
    · obtain ⟨⟨o, q, r⟩, _⟩ := hit'
      exact ⟨o, (sb.2 it (Ne.symm hne)).trans q, r⟩
    · have lt : b < s.heap.objs.size := by
        have e' : b = e ∨ b = it := by simpa using hb
        rcases e' with z | z <;> rw [z] <;> assumption
      rw [upd_ne (Nat.ne_of_lt lt)]
      exact (hf b hb).1
  done := by
    intro X hP hw hK hc i pins s σ H E I hf st hg
    subst hP hw hK
    obtain ⟨⟨old, he⟩, hit, hne⟩ := st
    obtain ⟨xs, hq, hx⟩ := hg
    obtain ⟨its, rv, pt, _⟩ := I.tuple hq
    obtain ⟨f0, f1, f2, f3, f4, f5⟩ := hf it (by simp)
    have ne1 : a ≠ it := fun e => by
      obtain ⟨o, ho, hcl, _⟩ := pt
      obtain ⟨o1, e1, c1, _⟩ := hit
      rw [e] at ho
      rw [e1] at ho
      cases ho
      rw [hcl] at c1
      exact absurd (Value.type.inj c1) (by decide)
    have D1 := Draws.tuple (prog := X.prog) (w := X.w) (A := X.A.in1) (I.ok.hd hc) it a ne1 its.toArray
    have sz : i = its.toArray.size := by rw [List.size_toArray, hx]; exact rv.length
    subst sz
    exact wpAny_pyNext_enum_endD D1 he ⟨hit, pt⟩ fun h' eb => ⟨rfl, I.turned (t' := s.toks) (fun b o hb q => eb b o hb q) f0 f1 f3 f4 f5⟩
  self := fun A i s Q E st h => let ⟨⟨_, he⟩, _⟩ := st; wpAny_pyIter_enum he h
set_option maxHeartbeats 4000000 in
theorem meets_enumB {v : Value} {o : Obj} {H : Heap → Prop} (B : Begins v o H) :
    Meets (Builtin.«enumerate.__new__» ⟨[.type "enumerate", v], []⟩) (fun _ R s => H s.heap ∧
      R (.ok (.ret (.ref (s.heap.push o).objs.size))) { s with heap := (s.heap.push o).push { cls := .type "enumerate", data := .fields #[.none, .bool false, .ref s.heap.objs.size, rawInt 0, .none, .none] } }) :=
  .of_wp fun prog w A R s h => by
    obtain ⟨hp, g, d, tk, os⟩ := s
    obtain ⟨h1, h⟩ := h
    have hsub := sub_enumerate
    have go : ∀ {A' : Around} {E : Value → Shared → Prop} {Q : Value → Shared → Prop}, Q (.ref hp.objs.size) ⟨hp.push o, g, d, tk, os⟩ → wpAny (model prog w) A' (pyIter v) Q E ⟨hp, g, d, tk, os⟩ :=
      fun q => B.iter prog w _ _ ⟨hp, g, d, tk, os⟩ _ h1 q
    wp_walk using go
    refine wpAny_stack_any fun st => wpAny_pure ?_
    split
    case h_1 =>
      rename_i c _ _ _ _ _
      cases (c == Value.type "enumerate")
      all_goals
        wp_walk using go
        exact ⟨_, rfl, h⟩
    all_goals
      wp_walk using go
      exact ⟨_, rfl, h⟩
theorem enumB {prog : Program} {w : World} {A : Around} {E : Value → Shared → Prop} {s : Shared} {v : Value} {o : Obj} {H : Heap → Prop} {Q : Value → Shared → Prop} (B : Begins v o H) (h1 : H s.heap)
    (h : ∀ h', IsEnum h' (s.heap.objs.size + 1) s.heap.objs.size 0 .none → h'.get? s.heap.objs.size = some o → h'.objs.size = s.heap.objs.size + 2 →
      (∀ b o, s.heap.get? b = some o → h'.get? b = some o) → Q (.ref (s.heap.objs.size + 1)) { s with heap := h' }) :
    wpAny (model prog w) A (call (.type "enumerate") [v]) Q E s := by
  refine callType_new PySem.F.called_enumerate (by decide) (PySem.F.typeCall_enumerate_1 _) (PySem.F.newCall_enumerate_1 _) (fun obj => PySem.F.args_object_init_2 obj _) PySem.F.entry_enumerate_new (meets_enumB B) ⟨h1, ?_⟩
  have hz : (s.heap.push o).objs.size = s.heap.objs.size + 1 := Heap.size_push ..
  have he := Heap.get?_push_size (s.heap.push o) (o := { cls := .type "enumerate", data := .fields #[.none, .bool false, .ref s.heap.objs.size, rawInt 0, .none, .none] }) rfl
  show _ ∧ _
  rw [hz] at he ⊢
  exact ⟨⟨_, he, rfl⟩, h _ he (Heap.get?_push_of_some _ (Heap.get?_push_size _ B.free)) (by rw [Heap.size_push, hz]) fun b o x => Heap.get?_push_of_some _ (Heap.get?_push_of_some _ x)⟩
def iEnumT (K : PySem.W.Frag) (ta : TA) : TI := fun σ H R => ta σ H fun vs H1 => ∃ (a : Addr) (xs : List V), vs = [.ref a] ∧ SqT K H1 a xs ∧ R (IteT K a) H1
theorem pi_enumT {X : Cx} {e : Expr} {ta : TA} {p pos tpos : Pos} {elts : List Expr} {kk : Nat} (hg : Gl X "enumerate") (hm : X.mg "enumerate" = none) (ha : PA X [e] ta) (hs : starEach [e] X.env = [(false, eval e X.env)] := by rfl) :
    PI X (.Tuple elts kk tpos) (.Call (.Name "enumerate" p) [e] [] pos) (iEnumT X.K ta) := by
  constructor
  intro pins s σ H R I h
  refine Call_ (ld_blt I hg hm boot_enumerate (PyProof.Rows.callWith_type1 (thn (ha.run pos pins s σ H _ I h) fun us s1 z => ?_) hs rfl))
  obtain ⟨vs, H1, I1, r1, a, xs, ex, hq, q⟩ := z
  subst ex
  obtain ⟨u1, rfl, ra⟩ := vals1 r1
  cases (show u1 = Value.ref a from ra)
  obtain ⟨its, rv, pt, _⟩ := I1.tuple hq
  refine enumB (begins_tuple a its.toArray) pt fun h' he g1 hsz hk => wpAny_pyIter_enum he ?_
  have I2 : Inv X pins σ H1 { s1 with heap := h' } := I1.kept (t' := s1.toks) hk
  refine ⟨s1.heap.objs.size + 1, [s1.heap.objs.size + 1, s1.heap.objs.size], _, _, H1, rfl, I2, turn_enumT a (s1.heap.objs.size + 1) s1.heap.objs.size, ⟨⟨.none, he⟩, ⟨_, g1, rfl, rfl⟩, Nat.succ_ne_self _⟩, fun b hb => ?_, q⟩
  have e' : b = s1.heap.objs.size + 1 ∨ b = s1.heap.objs.size := by simpa using hb
  have hle : s1.heap.objs.size ≤ b := by
    rcases e' with z | z <;> rw [z] <;> first | exact Nat.le_add_right _ _ | exact Nat.le_refl _
  exact I1.fpOk hle (I1.hok.fresh hle)
/-! ### lcm -/
def rLcm : List V → Hp → VK → Prop := fun vs H Q => ∃ a b : Int, vs = [.int a, .int b] ∧ a.natAbs < 2 ^ 64 ∧ b.natAbs < 2 ^ 64 ∧ (((Nat.lcm 1 a.natAbs).lcm b.natAbs : Nat) : Int).natAbs.log2 < bitsLine ∧ Q (.int (((Nat.lcm 1 a.natAbs).lcm b.natAbs : Nat) : Int)) H
theorem cr_lcm {X : Cx} : CallR X (.builtin "math.lcm") rLcm := by
  intro pins s σ H vs us Q I r h
  obtain ⟨a, b, rfl, h1, h2, h3, q⟩ := h
  obtain ⟨t, u, rfl⟩ := Vals.int2 r
  exact PySem.W.mg_lcm h1 h2 h3 ⟨.int _, H, I.tok _, ⟨_, rfl⟩, q⟩
end TSx

/-! Own layer, part Z2: zip of two, the pair kept by one name. -/
namespace TSx
open PySem PySem.Spec PyProof.Rows
theorem wpAny_alive {α : Type} {M : Model} {A : Around} {k : Option Obj → Sem α} {Q : α → Shared → Prop} {E : Value → Shared → Prop} {s : Shared} {a : Addr} {o : Option Obj} (h : s.heap.get? a = o) (hq : wpAny M A (k o) Q E s) : wpAny M A (Sem.loadIfAlive a k) Q E s := by
  unfold wpAny at *
  simp only [Sem.wp_loadIfAlive, h]
  exact hq
abbrev IsZipN (h : Heap) (z TI TO T : Addr) (b : Bool) : Prop := h.get? z = some { cls := .type "zip", data := .fields #[rawInt ↑T, .bool b, .bool false, .ref TI, .ref TO] }
section
variable {prog : Program} {w : World} {A : Around} {E : Value → Shared → Prop} {s : Shared} {z TI TO i1 i2 T : Addr} {fp1 fp2 : List Addr} {n1 n2 i : Nat} {P1 P2 : Nat → Value → Prop} {St1 St2 : Nat → Heap → Prop} {b : Bool}
theorem draw_item (D : Draws prog w A i1 fp1 n1 P1 St1) {Q : Option Value → Shared → Prop} {its : List Value} (h1 : St1 i s.heap) (l1 : i < n1)
    (k : ∀ (x : Value) (h' : Heap) (tk : Nat), P1 i x → St1 (i + 1) h' → Heap.SameBut i1 s.heap h' → Q (some x) { heap := h', gens := s.gens, drawn := s.drawn, toks := tk, os := s.os }) :
    wpAny (model prog w) A (holding its (do let v ← Builtin.SmallTypes.nextOf (.ref i1); pure (some v))) Q E s := by
  refine wpAny_holding (wpAny_bind (D.item i s _ _ l1 h1 fun x h' tk px st sb => ?_))
  exact wpAny_pure (k x h' tk px st sb)
theorem zipN_item {Q : Value → Shared → Prop}
    (S : ZipSep2 z TI TO i1 i2 fp1 fp2) (D1 : Draws prog w A i1 fp1 n1 P1 St1) (D2 : Draws prog w A i2 fp2 n2 P2 St2) (hz : IsZipN s.heap z TI TO T b) (hT : ∃ o, s.heap.get? T = some o) (hTI : IsTupOf2 s.heap TI (.ref i1) (.ref i2))
    (h1 : St1 i s.heap) (h2 : St2 i s.heap) (l1 : i < n1) (l2 : i < n2)
    (k : ∀ (x1 x2 : Value) (h' : Heap) (tk : Nat), P1 i x1 → P2 i x2 → IsZipN h' z TI TO T true → St1 (i + 1) h' → St2 (i + 1) h' → IsTupOf2 h' s.heap.objs.size x1 x2 → h'.objs.size = s.heap.objs.size + 1 →
      (∀ (c : Addr) (o : Obj), c ≠ z → c ≠ i1 → c ≠ i2 → s.heap.get? c = some o → h'.get? c = some o) → Q (.ref s.heap.objs.size) { heap := h', gens := s.gens, drawn := s.drawn, toks := tk, os := s.os }) :
    wpAny (model prog w) A (Builtin.«zip.__next__» { pos := [.ref z] }) (fun fin s' => ∃ v, fin = Fin.done (Flow.ret v) ∧ Q v s') E s := by
  obtain ⟨oT, hT⟩ := hT
  obtain ⟨h, g, d, t, os⟩ := s
  have nzT : z ≠ TI := S.TIz.symm
  -- what stands behind the draws
  have fin : ∀ (h1 : Heap) (x1 x2 : Value) (ha hb : Heap) (tk : Nat), IsZipN h1 z TI TO T true → h1.objs.size = h.objs.size → (∀ c o, c ≠ z → h.get? c = some o → h1.get? c = some o) → P1 i x1 → P2 i x2 → St1 (i + 1) ha → St2 (i + 1) hb → Heap.SameBut i1 h1 ha → Heap.SameBut i2 ha hb →
      Q (.ref hb.objs.size) { heap := hb.push { cls := .type "tuple", data := .seq #[x1, x2] }, gens := g, drawn := d, toks := tk, os := os } := by
    intro h1 x1 x2 ha hb tk z1 sz k1 p1 p2 st1 st2 sa sb
    have sz2 : hb.objs.size = h.objs.size := (sb.1.trans sa.1).trans sz
    have up : ∀ c o, c ≠ i1 → c ≠ i2 → h1.get? c = some o → (hb.push { cls := .type "tuple", data := .seq #[x1, x2] }).get? c = some o := fun c o c1 c2 e => Heap.get?_push_of_some _ (((sb.2 c c2).trans (sa.2 c c1)).trans e)
    have r := k x1 x2 (hb.push { cls := .type "tuple", data := .seq #[x1, x2] }) tk p1 p2 (up z _ S.zi1 S.zi2 z1)
      (D1.frame _ ha _ st1 fun b hb' o e => Heap.get?_push_of_some _ ((sb.2 b (fun q => S.sep2_1 (by rw [← q]; exact hb'))).trans e))
      (D2.frame _ hb _ st2 fun b hb' o e => Heap.get?_push_of_some _ e) (Heap.get?_push_at sz2.symm rfl) (by rw [Heap.size_push, sz2]) (fun c o c0 c1 c2 e => up c o c1 c2 (k1 c o c0 e))
    rw [sz2]
    exact r
  unfold Builtin.«zip.__next__»
  repeat wp_step
  refine wpAny_alive (o := some oT) hT ?_
  have hu : ∀ c o, c ≠ z → h.get? c = some o → (h.update z (Obj.mapFields fun x => x.setIfInBounds 1 (Value.bool true))).get? c = some o := fun c o hc e => (Heap.get?_update_ne _ _ _ _ hc).trans e
  cases b
  · iterate 32 wp_step
    refine D1.item i _ _ _ l1 (D1.frame _ h _ h1 fun b hb o e => hu b o (fun q => S.zf1 (by rw [← q]; exact hb)) e) fun x1 ha tk1 p1 q1 sa => ?_
    iterate 10 wp_step
    refine D2.item i _ _ _ l2 (D2.frame _ _ _ (D2.frame _ h _ h2 fun b hb o e => hu b o (fun q => S.zf2 (by rw [← q]; exact hb)) e) fun b hb o e => (sa.2 b (fun q => S.sep1_2 (by rw [← q]; exact hb))).trans e) fun x2 hb tk2 p2 q2 sb => ?_
    repeat wp_step
    exact ⟨_, rfl, fin _ x1 x2 ha hb tk2 ((Heap.get?_update_self _ hz rfl)) (by simp [Heap.update]) hu p1 p2 q1 q2 sa sb⟩
  · iterate 25 wp_step
    refine D1.item i _ _ _ l1 h1 fun x1 ha tk1 p1 q1 sa => ?_
    iterate 10 wp_step
    refine D2.item i _ _ _ l2 (D2.frame _ h _ h2 fun b hb o e => (sa.2 b (fun q => S.sep1_2 (by rw [← q]; exact hb))).trans e) fun x2 hb tk2 p2 q2 sb => ?_
    repeat wp_step
    exact ⟨_, rfl, fin h x1 x2 ha hb tk2 hz rfl (fun _ _ _ e => e) p1 p2 q1 q2 sa sb⟩
theorem zipN_end {Q : PySem.Fin → Shared → Prop}
    (S : ZipSep2 z TI TO i1 i2 fp1 fp2) (D1 : Draws prog w A i1 fp1 n1 P1 St1) (hz : IsZipN s.heap z TI TO T b) (hT : ∃ o, s.heap.get? T = some o) (hTI : IsTupOf2 s.heap TI (.ref i1) (.ref i2)) (h1 : St1 n1 s.heap)
    (k : ∀ (h' : Heap) (tk : Nat) (e : Addr), (∀ (c : Addr) (o : Obj), c ≠ z → c ≠ i1 → c ≠ i2 → s.heap.get? c = some o → h'.get? c = some o) → (∃ o, h'.get? e = some o ∧ o.cls = .type "StopIteration") → E (.ref e) { heap := h', gens := s.gens, drawn := s.drawn, toks := tk, os := s.os }) :
    wpAny (model prog w) A (Builtin.«zip.__next__» { pos := [.ref z] }) Q E s := by
  obtain ⟨oT, hT⟩ := hT
  obtain ⟨h, g, d, t, os⟩ := s
  unfold Builtin.«zip.__next__»
  repeat wp_step
  refine wpAny_alive (o := some oT) hT ?_
  have hu : ∀ c o, c ≠ z → h.get? c = some o → (h.update z (Obj.mapFields fun x => x.setIfInBounds 1 (Value.bool true))).get? c = some o := fun c o hc e => (Heap.get?_update_ne _ _ _ _ hc).trans e
  cases b
  · iterate 32 wp_step
    refine D1.done _ _ _ (D1.frame _ h _ h1 fun b hb o e => hu b o (fun q => S.zf1 (by rw [← q]; exact hb)) e) fun h' e sa st => ?_
    exact k h' t e (fun c o c0 c1 c2 e => sa c o c1 (hu c o c0 e)) st
  · iterate 25 wp_step
    refine D1.done _ _ _ h1 fun h' e sa st => ?_
    exact k h' t e (fun c o c0 c1 c2 e => sa c o c1 e) st
theorem pyNext_zipN_item {Q : Option Value → Shared → Prop}
    (S : ZipSep2 z TI TO i1 i2 fp1 fp2) (D1 : Draws prog w A.in1 i1 fp1 n1 P1 St1) (D2 : Draws prog w A.in1 i2 fp2 n2 P2 St2) (hz : IsZipN s.heap z TI TO T b) (hT : ∃ o, s.heap.get? T = some o) (hTI : IsTupOf2 s.heap TI (.ref i1) (.ref i2))
    (h1 : St1 i s.heap) (h2 : St2 i s.heap) (l1 : i < n1) (l2 : i < n2)
    (k : ∀ (x1 x2 : Value) (h' : Heap) (tk : Nat), P1 i x1 → P2 i x2 → IsZipN h' z TI TO T true → St1 (i + 1) h' → St2 (i + 1) h' → IsTupOf2 h' s.heap.objs.size x1 x2 → h'.objs.size = s.heap.objs.size + 1 →
      (∀ (c : Addr) (o : Obj), c ≠ z → c ≠ i1 → c ≠ i2 → s.heap.get? c = some o → h'.get? c = some o) → Q (some (.ref s.heap.objs.size)) { heap := h', gens := s.gens, drawn := s.drawn, toks := tk, os := s.os }) :
    wpAny (model prog w) A (pyNext (.ref z)) Q E s :=
  have hTy : s.TypeIs (.ref z) "zip" := ⟨_, hz, rfl⟩
  wpAny_bind (wpAny_attempt (wpAny_callSpecial?_slot hTy F.slot_zip_next (wpAny_call_entry F.slot_zip_next hTy F.entry_zip_next
    (zipN_item S D1 D2 hz hT hTI h1 h2 l1 l2 fun x1 x2 h' tk y1 y2 b1 b2 d1 d2 b5 b6 => wpAny_pure (k x1 x2 h' tk y1 y2 b1 b2 d1 d2 b5 b6)) (F.args_zip_next_1 (.ref z)))))
theorem pyNext_zipN_end {Q : Option Value → Shared → Prop}
    (S : ZipSep2 z TI TO i1 i2 fp1 fp2) (D1 : Draws prog w A.in1 i1 fp1 n1 P1 St1) (hz : IsZipN s.heap z TI TO T b) (hT : ∃ o, s.heap.get? T = some o) (hTI : IsTupOf2 s.heap TI (.ref i1) (.ref i2)) (h1 : St1 n1 s.heap)
    (k : ∀ (h' : Heap) (tk : Nat), (∀ (c : Addr) (o : Obj), c ≠ z → c ≠ i1 → c ≠ i2 → s.heap.get? c = some o → h'.get? c = some o) → Q none { heap := h', gens := s.gens, drawn := s.drawn, toks := tk, os := s.os }) :
    wpAny (model prog w) A (pyNext (.ref z)) Q E s :=
  have hTy : s.TypeIs (.ref z) "zip" := ⟨_, hz, rfl⟩
  wpAny_bind (wpAny_attempt (wpAny_callSpecial?_slot hTy F.slot_zip_next (wpAny_call_entry F.slot_zip_next hTy F.entry_zip_next
    (zipN_end S D1 hz hT hTI h1 fun h' tk e hk he => by
      obtain ⟨o, ho, hc⟩ := he
      exact wpAny_bind (wpAny_isInstance ⟨o, ho, hc⟩ isSubtype_stop (wpAny_pure (k h' tk hk)))) (F.args_zip_next_1 (.ref z)))))
end
end TSx

/-! Own layer, part Z2: zip of two, the pair kept by one name. -/
namespace TSx
open PySem PySem.Spec PyProof.Rows
section
variable {prog : Program} {w : World} {A : Around} {E : Value → Shared → Prop} {s : Shared} {z TI TO i1 i2 T : Addr} {fp1 fp2 : List Addr} {n1 n2 i : Nat} {P1 P2 : Nat → Value → Prop} {St1 St2 : Nat → Heap → Prop} {b : Bool} {a1 a2 : Value}
theorem zipM_item {Q : Value → Shared → Prop}
    (S : ZipSep2 z TI TO i1 i2 fp1 fp2) (D1 : Draws prog w A i1 fp1 n1 P1 St1) (D2 : Draws prog w A i2 fp2 n2 P2 St2) (hz : IsZipN s.heap z TI TO T b) (hT : s.heap.get? T = none) (hTI : IsTupOf2 s.heap TI (.ref i1) (.ref i2)) (hTO : IsTupOf2 s.heap TO a1 a2)
    (h1 : St1 i s.heap) (h2 : St2 i s.heap) (l1 : i < n1) (l2 : i < n2)
    (k : ∀ (x1 x2 : Value) (h' : Heap) (tk : Nat), P1 i x1 → P2 i x2 → IsZipN h' z TI TO s.heap.objs.size false → IsTupOf2 h' TO x1 x2 → St1 (i + 1) h' → St2 (i + 1) h' → IsTupOf2 h' s.heap.objs.size x1 x2 → h'.objs.size = s.heap.objs.size + 1 →
      (∀ (c : Addr) (o : Obj), c ≠ z → c ≠ TO → c ≠ i1 → c ≠ i2 → s.heap.get? c = some o → h'.get? c = some o) → Q (.ref s.heap.objs.size) { heap := h', gens := s.gens, drawn := s.drawn, toks := tk, os := s.os }) :
    wpAny (model prog w) A (Builtin.«zip.__next__» { pos := [.ref z] }) (fun fin s' => ∃ v, fin = Fin.done (Flow.ret v) ∧ Q v s') E s := by
  obtain ⟨h, g, d, t, os⟩ := s
  unfold Builtin.«zip.__next__»
  repeat wp_step
  refine wpAny_alive (o := none) hT ?_
  have hu : ∀ c o, c ≠ z → h.get? c = some o → (h.update z (Obj.mapFields fun x => x.setIfInBounds 0 Value.ellipsis)).get? c = some o := fun c o hc e => (Heap.get?_update_ne _ _ _ _ hc).trans e
  have nT1 : TO ≠ i1 := fun q => S.Tf1 (q ▸ S.mem1)
  have nT2 : TO ≠ i2 := fun q => S.Tf2 (q ▸ S.mem2)
  iterate 30 wp_step
  refine wpAny_onRaise ?_
  iterate 3 wp_step
  refine D1.item i _ _ _ l1 (D1.frame _ h _ h1 fun b hb o e => hu b o (fun q => S.zf1 (by rw [← q]; exact hb)) e) fun x1 ha tk1 p1 q1 sa => ?_
  have tO := (sa.2 TO nT1).trans (hu TO _ S.TOz hTO)
  have hv : ∀ c o, c ≠ TO → ha.get? c = some o → (ha.update TO (Obj.mapSeq fun x => x.setIfInBounds 0 x1)).get? c = some o := fun c o hc e => (Heap.get?_update_ne _ _ _ _ hc).trans e
  iterate 24 wp_step
  refine wpAny_onRaise ?_
  iterate 3 wp_step
  refine D2.item i _ _ _ l2 (D2.frame _ ha _ (D2.frame _ _ _ (D2.frame _ h _ h2 fun b hb o e => hu b o (fun q => S.zf2 (by rw [← q]; exact hb)) e) fun b hb o e => (sa.2 b (fun q => S.sep1_2 (by rw [← q]; exact hb))).trans e) fun b hb o e => hv b o (fun q => S.Tf2 (by rw [← q]; exact hb)) e) fun x2 hb tk2 p2 q2 sb => ?_
  have tO2 := (sb.2 TO nT2).trans (Heap.get?_update_self (Obj.mapSeq fun x => x.setIfInBounds 0 x1) tO rfl)
  have zi1 : z ≠ i1 := fun q => S.zf1 (q ▸ S.mem1)
  have zi2 : z ≠ i2 := fun q => S.zf2 (q ▸ S.mem2)
  have zz := Heap.get?_update_self (Obj.mapFields fun x => x.setIfInBounds 0 Value.ellipsis) hz rfl
  have zhb := (sb.2 z zi2).trans (hv z _ S.TOz.symm ((sa.2 z zi1).trans zz))
  have zhw := (show (hb.update TO (Obj.mapSeq fun x => x.setIfInBounds (0 + 1) x2)).get? z = hb.get? z from Heap.get?_update_ne _ _ _ _ S.TOz.symm).trans zhb
  iterate 46 wp_step
  refine wpAny_load (Heap.get?_push_of_some _ zhw) ?_
  iterate 12 wp_step
  have su : ∀ (q : Heap) (c : Addr) (f : Obj → Obj), (q.update c f).objs.size = q.objs.size := fun q c f => by simp [Heap.update]
  have sz : (hb.update TO (Obj.mapSeq fun x => x.setIfInBounds (0 + 1) x2)).objs.size = h.objs.size := by rw [su, sb.1, su, sa.1, su]
  have lz : z < (hb.update TO (Obj.mapSeq fun x => x.setIfInBounds (0 + 1) x2)).objs.size := Heap.lt_size zhw
  have nN : h.objs.size ≠ z := fun q => Nat.lt_irrefl z (by rw [sz, q] at lz; exact lz)
  refine ⟨_, rfl, ?_⟩
  have upd_ : ∀ (q : Heap) (f : Obj → Obj) (c : Addr) (o : Obj), c ≠ z → q.get? c = some o → (q.update z f).get? c = some o := fun q f c o hc e => (Heap.get?_update_ne _ _ _ _ hc).trans e
  have hw : ∀ c o, c ≠ TO → hb.get? c = some o → (hb.update TO (Obj.mapSeq fun x => x.setIfInBounds (0 + 1) x2)).get? c = some o := fun c o hc e => (Heap.get?_update_ne _ _ _ _ hc).trans e
  rw [sz]
  have r := k x1 x2 _ tk2 p1 p2 (Heap.get?_update_self (Obj.mapFields fun x => x.setIfInBounds 1 (Value.bool false)) (Heap.get?_update_self (Obj.mapFields fun x => x.setIfInBounds 0 (rawInt ↑h.objs.size)) (Heap.get?_push_of_some _ zhw) rfl) rfl) (upd_ _ _ _ _ S.TOz (upd_ _ _ _ _ S.TOz (Heap.get?_push_of_some _ (Heap.get?_update_self (Obj.mapSeq fun x => x.setIfInBounds (0 + 1) x2) tO2 rfl)))) (D1.frame _ ha _ q1 fun b hb' o e => upd_ _ _ _ _ (fun q => S.zf1 (by rw [← q]; exact hb')) (upd_ _ _ _ _ (fun q => S.zf1 (by rw [← q]; exact hb')) (Heap.get?_push_of_some _ (hw _ _ (fun q => S.Tf1 (by rw [← q]; exact hb')) ((sb.2 b (fun q => S.sep2_1 (by rw [← q]; exact hb'))).trans (hv _ _ (fun q => S.Tf1 (by rw [← q]; exact hb')) e)))))) (D2.frame _ hb _ q2 fun b hb' o e => upd_ _ _ _ _ (fun q => S.zf2 (by rw [← q]; exact hb')) (upd_ _ _ _ _ (fun q => S.zf2 (by rw [← q]; exact hb')) (Heap.get?_push_of_some _ (hw _ _ (fun q => S.Tf2 (by rw [← q]; exact hb')) e)))) (upd_ _ _ _ _ (fun q => nN q) (upd_ _ _ _ _ (fun q => nN q) (Heap.get?_push_at sz.symm rfl))) (by rw [su, su, Heap.size_push, sz]) (fun c o c0 cT c1 c2 e => upd_ _ _ _ _ c0 (upd_ _ _ _ _ c0 (Heap.get?_push_of_some _ (hw _ _ cT ((sb.2 c c2).trans (hv _ _ cT ((sa.2 c c1).trans (hu _ _ c0 e))))))))
  exact r
theorem zipM_end {Q : PySem.Fin → Shared → Prop}
    (S : ZipSep2 z TI TO i1 i2 fp1 fp2) (D1 : Draws prog w A i1 fp1 n1 P1 St1) (hz : IsZipN s.heap z TI TO T b) (hT : s.heap.get? T = none) (hTI : IsTupOf2 s.heap TI (.ref i1) (.ref i2)) (hTO : IsTupOf2 s.heap TO a1 a2) (h1 : St1 n1 s.heap)
    (k : ∀ (h' : Heap) (tk : Nat) (e : Addr), (∀ (c : Addr) (o : Obj), c ≠ z → c ≠ TO → c ≠ i1 → c ≠ i2 → s.heap.get? c = some o → h'.get? c = some o) → (∃ o, h'.get? e = some o ∧ o.cls = .type "StopIteration") → E (.ref e) { heap := h', gens := s.gens, drawn := s.drawn, toks := tk, os := s.os }) :
    wpAny (model prog w) A (Builtin.«zip.__next__» { pos := [.ref z] }) Q E s := by
  obtain ⟨h, g, d, t, os⟩ := s
  unfold Builtin.«zip.__next__»
  repeat wp_step
  refine wpAny_alive (o := none) hT ?_
  have hu : ∀ c o, c ≠ z → h.get? c = some o → (h.update z (Obj.mapFields fun x => x.setIfInBounds 0 Value.ellipsis)).get? c = some o := fun c o hc e => (Heap.get?_update_ne _ _ _ _ hc).trans e
  have zi1 : z ≠ i1 := fun q => S.zf1 (q ▸ S.mem1)
  iterate 30 wp_step
  refine wpAny_onRaise ?_
  iterate 3 wp_step
  refine D1.done _ _ _ (D1.frame _ h _ h1 fun b hb o e => hu b o (fun q => S.zf1 (by rw [← q]; exact hb)) e) fun h' e sa st => ?_
  have zz := Heap.get?_update_self (Obj.mapFields fun x => x.setIfInBounds 0 Value.ellipsis) hz rfl
  have zh := sa z _ zi1 zz
  have ez : e ≠ z := fun q => by
    obtain ⟨o, ho, hc⟩ := st
    rw [q, zh] at ho
    cases ho
    exact absurd (Value.type.inj hc) (by decide)
  repeat wp_step
  refine k _ t e (fun c o c0 cT c1 c2 e => (Heap.get?_update_ne _ _ _ _ c0).trans (sa c o c1 (hu c o c0 e))) ?_
  obtain ⟨o, ho, hc⟩ := st
  exact ⟨o, (Heap.get?_update_ne _ _ _ _ ez).trans ho, hc⟩
theorem pyNext_zipM_item {Q : Option Value → Shared → Prop}
    (S : ZipSep2 z TI TO i1 i2 fp1 fp2) (D1 : Draws prog w A.in1 i1 fp1 n1 P1 St1) (D2 : Draws prog w A.in1 i2 fp2 n2 P2 St2) (hz : IsZipN s.heap z TI TO T b) (hT : s.heap.get? T = none) (hTI : IsTupOf2 s.heap TI (.ref i1) (.ref i2)) (hTO : IsTupOf2 s.heap TO a1 a2)
    (h1 : St1 i s.heap) (h2 : St2 i s.heap) (l1 : i < n1) (l2 : i < n2)
    (k : ∀ (x1 x2 : Value) (h' : Heap) (tk : Nat), P1 i x1 → P2 i x2 → IsZipN h' z TI TO s.heap.objs.size false → IsTupOf2 h' TO x1 x2 → St1 (i + 1) h' → St2 (i + 1) h' → IsTupOf2 h' s.heap.objs.size x1 x2 → h'.objs.size = s.heap.objs.size + 1 →
      (∀ (c : Addr) (o : Obj), c ≠ z → c ≠ TO → c ≠ i1 → c ≠ i2 → s.heap.get? c = some o → h'.get? c = some o) → Q (some (.ref s.heap.objs.size)) { heap := h', gens := s.gens, drawn := s.drawn, toks := tk, os := s.os }) :
    wpAny (model prog w) A (pyNext (.ref z)) Q E s :=
  have hTy : s.TypeIs (.ref z) "zip" := ⟨_, hz, rfl⟩
  wpAny_bind (wpAny_attempt (wpAny_callSpecial?_slot hTy F.slot_zip_next (wpAny_call_entry F.slot_zip_next hTy F.entry_zip_next
    (zipM_item S D1 D2 hz hT hTI hTO h1 h2 l1 l2 fun x1 x2 h' tk y1 y2 b1 b2 d1 d2 b5 b6 b7 => wpAny_pure (k x1 x2 h' tk y1 y2 b1 b2 d1 d2 b5 b6 b7)) (F.args_zip_next_1 (.ref z)))))
theorem pyNext_zipM_end {Q : Option Value → Shared → Prop}
    (S : ZipSep2 z TI TO i1 i2 fp1 fp2) (D1 : Draws prog w A.in1 i1 fp1 n1 P1 St1) (hz : IsZipN s.heap z TI TO T b) (hT : s.heap.get? T = none) (hTI : IsTupOf2 s.heap TI (.ref i1) (.ref i2)) (hTO : IsTupOf2 s.heap TO a1 a2) (h1 : St1 n1 s.heap)
    (k : ∀ (h' : Heap) (tk : Nat), (∀ (c : Addr) (o : Obj), c ≠ z → c ≠ TO → c ≠ i1 → c ≠ i2 → s.heap.get? c = some o → h'.get? c = some o) → Q none { heap := h', gens := s.gens, drawn := s.drawn, toks := tk, os := s.os }) :
    wpAny (model prog w) A (pyNext (.ref z)) Q E s :=
  have hTy : s.TypeIs (.ref z) "zip" := ⟨_, hz, rfl⟩
  wpAny_bind (wpAny_attempt (wpAny_callSpecial?_slot hTy F.slot_zip_next (wpAny_call_entry F.slot_zip_next hTy F.entry_zip_next
    (zipM_end S D1 hz hT hTI hTO h1 fun h' tk e hk he => by
      obtain ⟨o, ho, hc⟩ := he
      exact wpAny_bind (wpAny_isInstance ⟨o, ho, hc⟩ isSubtype_stop (wpAny_pure (k h' tk hk)))) (F.args_zip_next_1 (.ref z)))))
end
end TSx

/-! Own layer, part R7: defs that only tell a value; isinstance of data, chains, texts of sides. -/
namespace TSx
open PySem L2
/-- a def that tells of some data a thing, and changes nothing -/
def spP (K : PySem.W.Frag) (f : List D → D → Prop) : Sp := fun vs H Q _ => ∃ ds r, DtA K H vs ds ∧ f ds r ∧ ∀ v H', Same H H' → Dt K H' v r → Q v H'
structure Blt2 (mg : Str → Option Value) : Prop where
  int : mg "int" = none
  bool : mg "bool" = none
  str : mg "str" = none
  tuple : mg "tuple" = none
  list : mg "list" = none
  zip : mg "zip" = none
  sum : mg "sum" = none
  all : mg "all" = none
def D.ty : D → String
  | .non => "NoneType"
  | .bl _ => "bool"
  | .int _ => "int"
  | .str _ => "str"
  | .lst _ => "list"
  | .tup _ => "tuple"
  | .dic _ => "dict"
  | .exc _ _ => ""
def D.isE : D → Bool
  | .exc _ _ => true
  | _ => false
section
variable {K : PySem.W.Frag} {σ : Sg} {H : Hp} {te ta tb tc : TE} {t : TA} {d r : D} {ds es : List D} {f : List D → D → Prop}
theorem mk_call (h : MkA K t σ H ds) (hf : f ds r) : Mk K (tCall (spP K f) [] E0 t) σ H r := fun H1 s Q q => h H1 s _ fun vs H2 s2 a => by
  show spP K f (vs ++ []) H2 Q E0
  rw [List.append_nil]
  exact ⟨ds, r, a, hf, fun v H' s' x => q v H' (s2.trans s') x⟩
theorem ty_of {v : V} (h : Dt K H v d) (e : d.isE = false) : TyX K H v (.type d.ty) := by
  cases h with
  | non => exact .base .non
  | bl b => exact .base (.bl b)
  | int i => exact .base (.int i)
  | str x => exact .base (.str x)
  | lst h _ => exact .base (.lst h)
  | tup h _ =>
    rcases h with (h | ⟨o, h⟩) | h
    · exact .base (.tup h)
    · exact .fTuple h
    · obtain ⟨o, _, _, h1, h2, _⟩ := h
      exact .kTuple h1 h2
  | dic h _ => exact .base (.dK h)
  | exc _ _ _ => cases e
theorem mk_isi {T : String} {b : Bool} (h : Mk K ta σ H d) (e : d.isE = false) (k : kitB d.ty T = some b) : Mk K (tCB (rIsi K) (tCons ta (tCons (tC (.ty T)) tNil))) σ H (.bl b) := fun H1 s Q q => h H1 s _ fun v H2 s2 a =>
  ⟨v, .ty T, _, _, b, rfl, .ty T, ty_of a e, kit_ty k, q _ H2 s2 (.bl b)⟩
theorem mk_andV {a b : Bool} (h : Mk K ta σ H (.bl a)) (h2 : a = true → Mk K tb σ H (.bl b)) : Mk K (tAndV ta tb) σ H (.bl (a && b)) := fun H1 s Q q => h H1 s _ fun v H2 s2 x => by
  cases x
  refine ⟨a, rfl, ?_⟩
  cases a with
  | true =>
    rw [if_pos rfl]
    exact h2 rfl H2 (s.trans s2) _ fun u H3 s3 y => q u H3 (s2.trans s3) (by simpa using y)
  | false =>
    rw [if_neg (by decide)]
    exact q _ H2 s2 (by simpa using Dt.bl false)
theorem mk_notV {a : Bool} (h : Mk K ta σ H (.bl a)) : Mk K (tNotV ta) σ H (.bl (!a)) := fun H1 s Q q => h H1 s _ fun v H2 s2 x => by
  cases x
  exact ⟨a, rfl, q _ H2 s2 (.bl _)⟩
theorem mk_chainI {i j k : Int} {g g' : Int → Int → Bool} (h : Mk K ta σ H (.int i)) (h2 : Mk K tb σ H (.int j)) (h3 : Mk K tc σ H (.int k)) :
    Mk K (tChain (rI0 fun i j => .bl (g i j)) (rI0 fun i j => .bl (g' i j)) ta tb tc) σ H (.bl (g i j && g' j k)) := fun H1 s Q q => h H1 s _ fun v H2 s2 x => h2 H2 (s.trans s2) _ fun u H3 s3 y => by
  cases x
  cases y
  refine ⟨i, j, rfl, rfl, _, rfl, ?_⟩
  cases e : g i j with
  | true =>
    rw [if_pos rfl]
    exact h3 H3 ((s.trans s2).trans s3) _ fun z H4 s4 x => by
      cases x
      exact ⟨j, k, rfl, rfl, q _ H4 ((s2.trans s3).trans s4) (by rw [e]; exact .bl _)⟩
  | false =>
    rw [if_neg (by decide)]
    exact q _ H3 (s2.trans s3) (by rw [e]; exact .bl _)
theorem mk_lenT (h : Mk K ta σ H (.tup ds)) : Mk K (tCB (fun xs H Q => ∃ p ys, xs = [.ref p] ∧ (SqL K H p ys ∨ SqT K H p ys) ∧ Q (.int ys.length) H) (tCons ta tNil)) σ H (.int ds.length) := fun H1 s Q q => h H1 s _ fun v H2 s2 a => by
  cases a with
  | @tup p xs ds e aa =>
    refine ⟨p, xs, rfl, Or.inr e, ?_⟩
    rw [aa.len]
    exact q _ H2 s2 (.int _)
theorem mk_ixT {i : Nat} (h : Mk K ta σ H (.tup ds)) (h2 : Mk K tb σ H (.int (i : Int))) (e : ds[i]? = some d) : Mk K (tOp (rIxT K) ta tb) σ H d := fun H1 s Q q => h H1 s _ fun v H2 s2 a => h2 H2 (s.trans s2) _ fun u H3 s3 b => by
  cases b
  cases a with
  | @tup p xs _ el aa =>
    obtain ⟨x, hx, ax⟩ := aa.nth e
    exact ⟨p, xs, (i : Int), x, rfl, rfl, gr_T s3 el, atI_nat hx, q x _ (s2.trans s3) (ax.gr s3)⟩
/-- a text among written ones -/
theorem inV_str (x : Str) : ∀ {vs : List V} {ws : List Str}, DtA K H vs (ws.map D.str) → inV (.str x) vs = ws.any (fun y => y == x) ∧ vs.all flatV = true := by
  intro vs ws h
  induction ws generalizing vs with
  | nil => cases h; exact ⟨rfl, rfl⟩
  | cons w ws ih =>
    cases h with
    | @cons v vs _ _ a b =>
    cases a
    obtain ⟨h1, h2⟩ := ih b
    refine ⟨?_, ?_⟩
    · show (eqV (.str w) (.str x) || inV (.str x) vs) = _
      rw [h1]
      rfl
    · show (true && vs.all flatV) = true
      rw [h2]; rfl
theorem mk_inT {x : Str} {ws : List Str} (h : Mk K ta σ H (.str x)) (h2 : Mk K tb σ H (.tup (ws.map D.str))) : Mk K (tOp (rIn K false) ta tb) σ H (.bl (ws.any fun y => y == x)) := fun H1 s Q q => h H1 s _ fun v H2 s2 a => h2 H2 (s.trans s2) _ fun u H3 s3 b => by
  cases a
  cases b with
  | @tup p xs _ e aa =>
    obtain ⟨h3, h4⟩ := inV_str x aa
    refine ⟨p, xs, rfl, Or.inr e, rfl, h4, ?_⟩
    rw [if_neg (by decide), h3]
    exact q _ H3 (s2.trans s3) (.bl _)
end
/-- a constant of the module -/
theorem pe_cst {X : Cx} {x : Str} {n : Int} {t : Tok} {pos : Pos} (hg : Gl X x) (hm : X.mg x = some (.int n t)) (hd : (x == ("__debug__" : Str)) = false := by decide) : PE X (.Name x pos) (tC (.int n)) := pe_glob hg hm ⟨t, rfl⟩ hd
theorem pe_cstR {X : Cx} {x : Str} {p : Addr} {pos : Pos} (hg : Gl X x) (hm : X.mg x = some (.ref p)) (hd : (x == ("__debug__" : Str)) = false := by decide) : PE X (.Name x pos) (tC (.ref p)) := pe_glob hg hm rfl hd
/-- a text of sides -/
def sideC (b : Bool) : Nat := if b = true then 97 else 98
def sideS (l : List Bool) : Str := ⟨(l.map sideC).toArray⟩
theorem sideS_at {l : List Bool} {i c : Nat} (h : (sideS l).cps[i]? = some c) : ∃ b, l[i]? = some b ∧ c = sideC b := by
  have h' : (l.map sideC)[i]? = some c := by simpa [sideS] using h
  rw [List.getElem?_map] at h'
  cases e : l[i]? with
  | none => rw [e] at h'; cases h'
  | some b => rw [e] at h'; cases h'; exact ⟨b, rfl, rfl⟩
theorem sideS_size (l : List Bool) : (sideS l).cps.size = l.length := by simp [sideS]
theorem sideS_len (l : List Bool) : (sideS l).length = l.length := by
  show (sideS l).cps.size = l.length
  exact sideS_size l
theorem side_in (b : Bool) : decide (sideC b ∈ (Str.ofString "ab").cps.toList) = true := by cases b <;> decide +kernel
end TSx

/-! Own layer, part RC: counts of sides. -/
namespace TSx
open PySem L2
def allB : Nat → List (List Bool)
  | 0 => [[]]
  | n + 1 => (allB n).flatMap fun l => [true :: l, false :: l]
theorem mem_allB : ∀ l : List Bool, l ∈ allB l.length
  | [] => List.mem_singleton.mpr rfl
  | b :: l => by
    refine List.mem_flatMap.mpr ⟨l, mem_allB l, ?_⟩
    cases b <;> simp
theorem cnt_all : ∀ n : Nat, n < 10 → ∀ l ∈ allB n, (Txt.count (sideS l) (Str.ofString "a") = (l.count true : Nat) ∧ Txt.count (sideS l) (Str.ofString "b") = (l.count false : Nat)) := by decide +kernel
theorem cnt_side (l : List Bool) (h : l.length < 10) : Txt.count (sideS l) (Str.ofString "a") = (l.count true : Nat) ∧ Txt.count (sideS l) (Str.ofString "b") = (l.count false : Nat) := cnt_all _ h l (mem_allB l)
end TSx

/-! Own layer, part R8: the houses. -/
namespace TSx
open PySem L2
inductive Way where
  | ward (w : Nat) | body (b : Nat) (t : Str) | rest (b : Nat) (t : Str) | kept
structure Seat where
  term : Nat
  phase : Nat
  way : Way
def Way.d : Way → D
  | .ward w => .tup [.str "ward", .int w]
  | .body b t => .tup [.str "body", .int b, .str t]
  | .rest b t => .tup [.str "rest", .int b, .str t]
  | .kept => .tup [.str "kept"]
def tiesL : List Str := ["a", "b", "kept"]
def Way.ok (n wards : Nat) : Way → Prop
  | .ward w => w < wards
  | .body b t => b < n ∧ t ∈ tiesL
  | .rest b t => b < n ∧ t ∈ tiesL
  | .kept => True
def Seat.d (s : Seat) : D := .tup [.int s.term, .int s.phase, s.way.d]
structure Seat.ok (n wards : Nat) (s : Seat) : Prop where
  t1 : 1 ≤ s.term
  t6 : s.term ≤ 6
  p : s.phase < s.term
  w : s.way.ok n wards
def bodyD (b : List Seat) : D := .tup (b.map Seat.d)
structure House where
  bodies : List (List Seat)
  wards : Nat
def House.d (h : House) : D := .tup [.tup (h.bodies.map bodyD), .int h.wards]
def lcmB (c : Nat) (b : List Seat) : Nat := b.foldl (fun c s => (Nat.lcm 1 c).lcm s.term) c
def lcmH (h : House) : Nat := h.bodies.foldl lcmB 1
structure House.ok (h : House) : Prop where
  w : h.wards ≤ 4
  n1 : 1 ≤ h.bodies.length
  n3 : h.bodies.length ≤ 3
  b : ∀ b ∈ h.bodies, 1 ≤ b.length ∧ b.length ≤ 9
  sum : (h.bodies.map (fun b => (b.length : Int))).sum ≤ 9
  s : ∀ b ∈ h.bodies, ∀ s ∈ b, s.ok h.bodies.length h.wards
  lc : lcmH h ≤ 12
/-! what the small looks are asked, and tell: all true here -/
def fWhole (ds : List D) (r : D) : Prop := ∃ i a b : Int, ds = [.int i, .int a, .int b] ∧ a ≤ i ∧ i ≤ b ∧ r = .bl true
def fTuple (ds : List D) (r : D) : Prop := ∃ (xs : List D) (a b : Int), ds = [.tup xs, .int a, .int b] ∧ a ≤ xs.length ∧ (xs.length : Int) ≤ b ∧ r = .bl true
def fWord (ds : List D) (r : D) : Prop := ∃ (x : Str) (ws : List Str), ds = [.str x, .tup (ws.map D.str)] ∧ x ∈ ws ∧ r = .bl true
def fSides (ds : List D) (r : D) : Prop := ∃ l : List Bool, ds = [.str (sideS l), .int (l.length : Int)] ∧ l.length ≤ 1000 ∧ r = .bl true
def fWay (ds : List D) (r : D) : Prop := ∃ (w : Way) (n wards : Nat), ds = [w.d, .int n, .int wards] ∧ w.ok n wards ∧ r = .bl true
def fSeat (ds : List D) (r : D) : Prop := ∃ (s : Seat) (n wards : Nat), ds = [s.d, .int n, .int wards] ∧ s.ok n wards ∧ r = .bl true
section
variable {K : PySem.W.Frag} {σ : Sg} {H : Hp} {te ta tb tc ti : TE} {t : TA} {d r d1 d2 d3 d4 d5 : D} {ds es : List D} {f : List D → D → Prop}
theorem DtA.one {vs : List V} (h : DtA K H vs [d1]) : ∃ v1, vs = [v1] ∧ Dt K H v1 d1 := by
  cases h with | cons a h => cases h; exact ⟨_, rfl, a⟩
theorem DtA.two {vs : List V} (h : DtA K H vs [d1, d2]) : ∃ v1 v2, vs = [v1, v2] ∧ Dt K H v1 d1 ∧ Dt K H v2 d2 := by
  cases h with | cons a h => obtain ⟨v2, rfl, b⟩ := DtA.one h; exact ⟨_, _, rfl, a, b⟩
theorem DtA.three {vs : List V} (h : DtA K H vs [d1, d2, d3]) : ∃ v1 v2 v3, vs = [v1, v2, v3] ∧ Dt K H v1 d1 ∧ Dt K H v2 d2 ∧ Dt K H v3 d3 := by
  cases h with | cons a h => obtain ⟨v2, v3, rfl, b, c⟩ := DtA.two h; exact ⟨_, _, _, rfl, a, b, c⟩
theorem DtA.four {vs : List V} (h : DtA K H vs [d1, d2, d3, d4]) : ∃ v1 v2 v3 v4, vs = [v1, v2, v3, v4] ∧ Dt K H v1 d1 ∧ Dt K H v2 d2 ∧ Dt K H v3 d3 ∧ Dt K H v4 d4 := by
  cases h with | cons a h => obtain ⟨v2, v3, v4, rfl, b, c, e⟩ := DtA.three h; exact ⟨_, _, _, _, rfl, a, b, c, e⟩
theorem DtA.five {vs : List V} (h : DtA K H vs [d1, d2, d3, d4, d5]) : ∃ v1 v2 v3 v4 v5, vs = [v1, v2, v3, v4, v5] ∧ Dt K H v1 d1 ∧ Dt K H v2 d2 ∧ Dt K H v3 d3 ∧ Dt K H v4 d4 ∧ Dt K H v5 d5 := by
  cases h with | cons a h => obtain ⟨v2, v3, v4, v5, rfl, b, c, e, g⟩ := DtA.four h; exact ⟨_, _, _, _, _, rfl, a, b, c, e, g⟩
theorem mt_or {tt uu : TT} {b : Bool} (h : MkT tt σ H false) (h2 : MkT uu σ H b) : MkT (tOr tt uu) σ H b := fun H1 s Q q => h H1 s _ fun H2 s2 => h2 H2 (s.trans s2) Q fun H3 s3 => q H3 (s2.trans s3)
theorem mt_orT {tt uu : TT} (h : MkT tt σ H true) : MkT (tOr tt uu) σ H true := fun H1 s Q q => h H1 s _ fun H2 s2 => q H2 s2
theorem kInt : kitB "int" "int" = some true := by decide +kernel
theorem kIntB : kitB "int" "bool" = some false := by decide +kernel
theorem kTup : kitB "tuple" "tuple" = some true := by decide +kernel
theorem kStr : kitB "str" "str" = some true := by decide +kernel
/-- a, b, c = t -/
theorem r_unp3 {v : V} {i j k : Nat} {Q : Sg → Hp → Prop} (h : Dt K H v (.tup [d1, d2, d3])) (q : ∀ v1 v2 v3, Dt K H v1 d1 → Dt K H v2 d2 → Dt K H v3 d3 → Q (((σ.set i (some v1)).set j (some v2)).set k (some v3)) H) :
    gTup K 3 (gCons (gName i) (gCons (gName j) (gCons (gName k) gNil))) v σ H Q := by
  cases h with
  | @tup p xs _ e aa =>
    obtain ⟨v1, v2, v3, rfl, a, b, c⟩ := aa.three
    exact ⟨p, _, rfl, e, rfl, _, _, rfl, r_name ⟨_, _, rfl, r_name ⟨_, _, rfl, r_name ⟨rfl, q v1 v2 v3 a b c⟩⟩⟩⟩
theorem r_unp2 {v : V} {i j : Nat} {Q : Sg → Hp → Prop} (h : Dt K H v (.tup [d1, d2])) (q : ∀ v1 v2, Dt K H v1 d1 → Dt K H v2 d2 → Q ((σ.set i (some v1)).set j (some v2)) H) :
    gTup K 2 (gCons (gName i) (gCons (gName j) gNil)) v σ H Q := by
  cases h with
  | @tup p xs _ e aa =>
    obtain ⟨v1, v2, rfl, a, b⟩ := aa.two
    exact ⟨p, _, rfl, e, rfl, _, _, rfl, r_name ⟨_, _, rfl, r_name ⟨rfl, q v1 v2 a b⟩⟩⟩
theorem mk_lenS {z : Str} (h : Mk K ta σ H (.str z)) (l : z.length ≤ 100000) : Mk K (tCB (fun xs H Q => ∃ z, xs = [.str z] ∧ z.length ≤ sizeLine ∧ Q (.int z.length) H) (tCons ta tNil)) σ H (.int z.length) := fun H1 s Q q => h H1 s _ fun v H2 s2 a => by
  cases a
  exact ⟨z, rfl, sz1 l, q _ H2 s2 (.int _)⟩
theorem DtA.bls : ∀ {vs : List V} {bs : List Bool}, DtA K H vs (bs.map D.bl) → vs = bs.map V.bl
  | _, [], h => by cases h; rfl
  | _, b :: bs, h => by
    cases h with
    | cons a h => cases a; rw [DtA.bls h]; rfl
theorem DtA.ints : ∀ {vs : List V} {bs : List Int}, DtA K H vs (bs.map D.int) → vs = bs.map V.int
  | _, [], h => by cases h; rfl
  | _, b :: bs, h => by
    cases h with
    | cons a h => cases a; rw [DtA.ints h]; rfl
theorem DtA.strs : ∀ {vs : List V} {bs : List Str}, DtA K H vs (bs.map D.str) → vs = bs.map V.str
  | _, [], h => by cases h; rfl
  | _, b :: bs, h => by
    cases h with
    | cons a h => cases a; rw [DtA.strs h]; rfl
theorem mk_all {bs : List Bool} (h : Mk K ta σ H (.lst (bs.map D.bl))) : Mk K (tCB (rAll K) (tCons ta tNil)) σ H (.bl (bs.all id)) := fun H1 s Q q => h H1 s _ fun v H2 s2 a => by
  cases a with
  | @lst p xs _ e aa =>
    have := aa.bls
    subst this
    exact ⟨p, bs, rfl, SqL.of e, q _ H2 s2 (.bl _)⟩
theorem mk_sum {ns : List Int} (h : Mk K ta σ H (.lst (ns.map D.int))) : Mk K (tCB (rSum K) (tCons ta tNil)) σ H (.int ns.sum) := fun H1 s Q q => h H1 s _ fun v H2 s2 a => by
  cases a with
  | @lst p xs _ e aa =>
    have := aa.ints
    subst this
    exact ⟨p, ns, rfl, SqL.of e, q _ H2 s2 (.int _)⟩
/-- [e for c in letters] -/
theorem mk_lcS {l : List Bool} {i : Nat} {g : Bool → D} (hs : ∀ b, (g b).sc = true) (h : Mk K ti σ H (.str (sideS l))) (hl : l.length ≤ 1000) (step : ∀ b H1, Same H H1 → Mk K te ((σ.set i none).set i (some (.str ⟨#[sideC b]⟩))) H1 (g b)) :
    Mk K (tLc (iStr ti) (gName i) tYes te [i]) σ H (.lst (l.map g)) := fun H1 s Q q => h H1 s _ fun v H2 s2 a => by
  cases a
  refine ⟨_, rfl, fun D nD => lc_it (walk_str (z := sideS l)) (fun j H' => ∃ xs : List V, H' D = some (.lst xs) ∧ xs.length = j ∧ Same H2 H' ∧ DtA K H' xs ((l.take j).map g)) ⟨[], upd_same, rfl, same_new nD, .nil⟩ (fun _ _ _ _ => trivial) ?_ ?_⟩
  · rintro j x H' H'' hj ⟨xs, e, lx, s', aa⟩ ⟨rfl, c, hc, rfl⟩
    obtain ⟨b, hb, rfl⟩ := sideS_at hc
    refine r_name ⟨?_, ?_⟩
    · show ((σ.set i none).set i (some (V.str ⟨#[sideC b]⟩))).set i none = σ.set i none
      rw [List.set_set, List.set_set]
    · refine r_yes ?_
      have st := step b H'' ((s.trans s2).trans s')
      refine st H'' Gr.rfl' _ fun y H4 s4 ay => ?_
      have hj' : j < l.length := (List.getElem?_eq_some_iff.mp hb).1
      refine ⟨xs, s4 _ _ e, by rw [lx]; exact sz2 (by omega), xs ++ [y], upd_same, by rw [List.length_append, lx]; rfl, same_mut (s'.trans s4) nD, ?_⟩
      have tk : l.take (j + 1) = l.take j ++ [b] := by rw [List.take_add_one, hb]; rfl
      have fl : ∀ x ∈ (l.take j).map g, x.sc = true := by
        intro x hx
        obtain ⟨y, _, rfl⟩ := List.mem_map.mp hx
        exact hs y
      rw [tk, List.map_append]
      exact (aa.any fl).app (.cons (ay.any (hs b)) .nil)
  · rintro H' ⟨xs, e, lx, s', aa⟩
    rw [sideS_size, List.take_length] at aa
    exact q _ _ (s2.trans s') (.lst e aa)
end
end TSx

/-! Own layer, part R9: loops over data. -/
namespace TSx
open PySem L2
/-- te finds data that stand already -/
def Ev0 (K : PySem.W.Frag) (te : TE) (σ : Sg) (H H0 : Hp) (d : D) : Prop := ∃ v, Dt K H0 v d ∧ ∀ Q : VK, Q v H → te σ H Q
abbrev Ev (K : PySem.W.Frag) (te : TE) (σ : Sg) (H : Hp) (d : D) : Prop := Ev0 K te σ H H d
section
variable {K : PySem.W.Frag} {σ : Sg} {H H0 : Hp} {te ta tb tc ti : TE} {t : TA} {d r : D} {ds es : List D} {g : TG} {b : TS} {E : Ends}
theorem ev0_var {n : Nat} {v : V} (h : σ[n]? = some (some v)) (a : Dt K H0 v d) : Ev0 K (tVar n) σ H H0 d := ⟨v, a, fun Q q => r_v h q⟩
theorem ev_var {n : Nat} {v : V} (h : σ[n]? = some (some v)) (a : Dt K H v d) : Ev K (tVar n) σ H d := ⟨v, a, fun Q q => r_v h q⟩
theorem ev_int {i : Int} : Ev K (tC (.int i)) σ H (.int i) := ⟨_, .int i, fun Q q => q⟩
theorem ev_ixT {i : Nat} (h : Ev K ta σ H (.tup ds)) (h2 : Ev K tb σ H (.int (i : Int))) (e : ds[i]? = some d) : Ev K (tOp (rIxT K) ta tb) σ H d := by
  obtain ⟨v, a, k1⟩ := h
  obtain ⟨u, c, k2⟩ := h2
  cases c
  cases a with
  | @tup p xs _ el aa =>
    obtain ⟨x, hx, ax⟩ := aa.nth e
    exact ⟨x, ax, fun Q q => k1 _ (k2 _ ⟨p, xs, (i : Int), x, rfl, rfl, el, atI_nat hx, q⟩)⟩
theorem ev_ixL {i : Nat} (h : Ev K ta σ H (.lst ds)) (h2 : Ev K tb σ H (.int (i : Int))) (e : ds[i]? = some d) : Ev K (tOp (rIxL K) ta tb) σ H d := by
  obtain ⟨v, a, k1⟩ := h
  obtain ⟨u, c, k2⟩ := h2
  cases c
  cases a with
  | @lst p xs _ el aa =>
    obtain ⟨x, hx, ax⟩ := aa.nth e
    exact ⟨x, ax, fun Q q => k1 _ (k2 _ ⟨p, xs, (i : Int), x, rfl, rfl, SqL.of el, atI_nat hx, q⟩)⟩
theorem Ev.mk (h : ∀ H1, Same H H1 → Ev K te σ H1 d) : Mk K te σ H d := fun H1 s Q q => by
  obtain ⟨v, a, k⟩ := h H1 s
  exact k _ (q v H1 Gr.rfl' a)
theorem DtA.get {vs : List V} (h : DtA K H vs ds) {i : Nat} {x : V} (e : vs[i]? = some x) : ∃ y, ds[i]? = some y ∧ Dt K H x y := h.at e
theorem walk_enumT {a : Addr} {xs : List V} : Walk (IteT K a) xs.length (fun H => SqT K H a xs) (YPair (fun i => some (.int (i : Nat))) (fun i => xs[i]?)) :=
  ⟨fun i H hi h => ⟨xs, xs[i], h, List.getElem?_eq_getElem hi⟩, fun H h => ⟨xs, h, rfl⟩, fun i H x H' hi h y => by
    obtain ⟨T, u, rfl, hT, rfl, f⟩ := y
    exact ⟨T, _, u, rfl, hT, rfl, rfl, f xs h⟩⟩
theorem walk_zipT {a c : Addr} {xs ys : List V} (hl : xs.length = ys.length) : Walk (RZ.ItzT K a c) xs.length (fun H => SqT K H a xs ∧ SqT K H c ys) (YPair (fun i => xs[i]?) (fun i => ys[i]?)) :=
  ⟨fun i H hi h => ⟨xs, ys, xs[i], ys[i]'(by omega), h.1, h.2, List.getElem?_eq_getElem hi, List.getElem?_eq_getElem _⟩, fun H h => ⟨xs, ys, h.1, h.2, Or.inl (Nat.le_refl _)⟩, fun i H x H' hi h y => by
    obtain ⟨T, u, w, rfl, hT, rfl, f1, f2⟩ := y
    exact ⟨T, u, w, rfl, hT, rfl, f1 xs h.1, f2 ys h.2⟩⟩
theorem walk_zipS {a : Addr} {xs : List V} {x : Str} (hl : xs.length = x.cps.size) : Walk (ItzS K a x) xs.length (fun H => SqT K H a xs) (YPair (fun i => xs[i]?) (fun i => x.cps[i]?.map fun c => .str ⟨#[c]⟩)) :=
  ⟨fun i H hi h => ⟨xs, xs[i], x.cps[i]'(by omega), h, List.getElem?_eq_getElem hi, Array.getElem?_eq_getElem _⟩, fun H h => ⟨xs, h, Nat.le_refl _, by omega, Or.inl rfl⟩, fun i H v H' hi h y => by
    obtain ⟨T, u, c, rfl, hT, rfl, f1, f2⟩ := y
    exact ⟨T, u, _, rfl, hT, rfl, f1 xs h, by show (x.cps[i]?).map _ = _; rw [f2]; rfl⟩⟩
/-- for .. in enumerate(tuple) -/
theorem r_forE (h : Ev0 K te σ H H0 (.tup ds)) (Pv : Nat → Sg → Hp → Prop) (h0 : Pv 0 σ H) (hG : ∀ k σ' H', Pv k σ' H' → Same H0 H')
    (step : ∀ k d T σ' H' H'', ds[k]? = some d → Pv k σ' H' → Same H' H'' → Dt K H'' (.ref T) (.tup [.int (k : Nat), d]) → g (.ref T) σ' H'' fun σ2 H2 => b { E with nx := Pv (k + 1), ct := Pv (k + 1), bk := E.nx } σ2 H2)
    (hd : ∀ σ' H', Pv ds.length σ' H' → E.nx σ' H') : tFor (iEnumT K (tCons te tNil)) g b E σ H := by
  obtain ⟨v, a, k⟩ := h
  refine k _ ?_
  cases a with
  | @tup p xs _ e aa =>
    have lx := aa.len
    refine ⟨p, xs, rfl, gr_T (hG _ _ _ h0) e, for_it walk_enumT Pv h0 (fun i σ' H' _ z => gr_T (hG _ _ _ z) e) ?_ (fun σ' H' z => hd σ' H' (by rw [← lx]; exact z))⟩
    rintro i x σ' H' H'' hi z ⟨T, y1, y2, rfl, nT, rfl, e1, e2⟩
    cases e1
    obtain ⟨y, hy, ay⟩ := aa.at e2
    have s1 : Same H' (upd H' T (.tup [.int (i : Nat), y2])) := same_new nT
    exact step i y T σ' H' _ hy z s1 (.tup (SqT.of upd_same) (.cons (.int _) (.cons (ay.gr ((hG _ _ _ z).trans s1)) .nil)))
/-- for .. in zip(tuple, tuple) -/
theorem r_forZ (h : Ev0 K ta σ H H0 (.tup ds)) (h2 : Ev0 K tc σ H H0 (.tup es)) (hl : ds.length = es.length) (Pv : Nat → Sg → Hp → Prop) (h0 : Pv 0 σ H) (hG : ∀ k σ' H', Pv k σ' H' → Same H0 H')
    (step : ∀ k d e T σ' H' H'', ds[k]? = some d → es[k]? = some e → Pv k σ' H' → Same H' H'' → Dt K H'' (.ref T) (.tup [d, e]) → g (.ref T) σ' H'' fun σ2 H2 => b { E with nx := Pv (k + 1), ct := Pv (k + 1), bk := E.nx } σ2 H2)
    (hd : ∀ σ' H', Pv ds.length σ' H' → E.nx σ' H') : tFor (RZ.iZipA K (tCons ta (tCons tc tNil))) g b E σ H := by
  obtain ⟨v, a, k⟩ := h
  obtain ⟨u, c, k2⟩ := h2
  refine k _ (k2 _ ?_)
  cases a with
  | @tup p xs _ e aa =>
  cases c with
  | @tup p2 ys _ e2 cc =>
    have lx := aa.len
    have ly := cc.len
    refine ⟨p, p2, xs, ys, rfl, Or.inr ⟨gr_T (hG _ _ _ h0) e, gr_T (hG _ _ _ h0) e2, for_it (walk_zipT (by omega)) Pv h0 (fun i σ' H' _ z => ⟨gr_T (hG _ _ _ z) e, gr_T (hG _ _ _ z) e2⟩) ?_ (fun σ' H' z => hd σ' H' (by rw [← lx]; exact z))⟩⟩
    rintro i x σ' H' H'' hi z ⟨T, y1, y2, rfl, nT, rfl, q1, q2⟩
    obtain ⟨z1, hz1, az1⟩ := aa.at q1
    obtain ⟨z2, hz2, az2⟩ := cc.at q2
    have s1 : Same H' (upd H' T (.tup [y1, y2])) := same_new nT
    exact step i z1 z2 T σ' H' _ hz1 hz2 z s1 (.tup (SqT.of upd_same) (.cons (az1.gr ((hG _ _ _ z).trans s1)) (.cons (az2.gr ((hG _ _ _ z).trans s1)) .nil)))
/-- for .. in zip(tuple, letters) -/
theorem r_forS {l : List Bool} (h : Ev0 K ta σ H H0 (.tup ds)) (h2 : Ev0 K tc σ H H0 (.str (sideS l))) (hl : ds.length = l.length) (Pv : Nat → Sg → Hp → Prop) (h0 : Pv 0 σ H) (hG : ∀ k σ' H', Pv k σ' H' → Same H0 H')
    (step : ∀ k d s T σ' H' H'', ds[k]? = some d → l[k]? = some s → Pv k σ' H' → Same H' H'' → Dt K H'' (.ref T) (.tup [d, .str (sideS [s])]) → g (.ref T) σ' H'' fun σ2 H2 => b { E with nx := Pv (k + 1), ct := Pv (k + 1), bk := E.nx } σ2 H2)
    (hd : ∀ σ' H', Pv ds.length σ' H' → E.nx σ' H') : tFor (iZipS K (tCons ta (tCons tc tNil))) g b E σ H := by
  obtain ⟨v, a, k⟩ := h
  obtain ⟨u, c, k2⟩ := h2
  refine k _ (k2 _ ?_)
  cases c
  cases a with
  | @tup p xs _ e aa =>
    have lx := aa.len
    refine ⟨p, _, xs, rfl, gr_T (hG _ _ _ h0) e, for_it (walk_zipS (by rw [sideS_size]; omega)) Pv h0 (fun i σ' H' _ z => gr_T (hG _ _ _ z) e) ?_ (fun σ' H' z => hd σ' H' (by rw [← lx]; exact z))⟩
    rintro i x σ' H' H'' hi z ⟨T, y1, y2, rfl, nT, rfl, q1, q2⟩
    obtain ⟨z1, hz1, az1⟩ := aa.at q1
    replace q2 : ((sideS l).cps[i]?).map (fun c => V.str ⟨#[c]⟩) = some y2 := q2
    cases hc : (sideS l).cps[i]? with
    | none => rw [hc] at q2; cases q2
    | some cc =>
      rw [hc] at q2
      cases q2
      obtain ⟨s, hs, rfl⟩ := sideS_at hc
      have s1 : Same H' (upd H' T (.tup [y1, .str ⟨#[sideC s]⟩])) := same_new nT
      exact step i z1 s T σ' H' _ hz1 hs z s1 (.tup (SqT.of upd_same) (.cons (az1.gr ((hG _ _ _ z).trans s1)) (.cons (.str _) .nil)))
/-- for x in tuple -/
theorem r_forT {n : Nat} (h : Ev0 K te σ H H0 (.tup ds)) (Pv : Nat → Sg → Hp → Prop) (h0 : Pv 0 σ H) (hG : ∀ k σ' H', Pv k σ' H' → Same H0 H')
    (step : ∀ k d x σ' H', ds[k]? = some d → Pv k σ' H' → Dt K H' x d → b { E with nx := Pv (k + 1), ct := Pv (k + 1), bk := E.nx } (σ'.set n (some x)) H')
    (hd : ∀ σ' H', Pv ds.length σ' H' → E.nx σ' H') : tFor (iTup K te) (gName n) b E σ H := by
  obtain ⟨v, a, k⟩ := h
  refine k _ ?_
  cases a with
  | @tup p xs _ e aa =>
    have lx := aa.len
    refine ⟨p, rfl, ⟨xs, gr_T (hG _ _ _ h0) e⟩, for_tup (xs := xs) Pv h0 (fun i σ' H' _ z => gr_T (hG _ _ _ z) e) ?_ (fun σ' H' z => hd σ' H' (by rw [← lx]; exact z))⟩
    intro i x σ' H' hx z
    obtain ⟨y, hy, ay⟩ := aa.at hx
    exact step i y x σ' H' hy z (ay.gr (hG _ _ _ z))
/-- a comprehension whose things have no parts: at turn k e k, or nothing -/
theorem lc_flat {J : It} {n : Nat} {G : Hp → Prop} {Y : Nat → Hp → V → Hp → Prop} (w : Walk J n G Y) {tt : TT} {vs : List Nat} {H1 : Hp} {L : Addr} {Qd : Hp → Prop} (e : Nat → Option D) (sc : ∀ k d, e k = some d → d.sc = true) (nL : H1 L = none) (hG : ∀ H', Same H1 H' → G H') (hn : n ≤ 1000)
    (step : ∀ k x H' H'', k < n → Same H1 H' → Y k H' x H'' → Same H' H'' ∧ ∀ R : Sg → Hp → Prop, (∀ σ2, wipe σ2 vs = wipe σ vs → (∀ d, e k = some d → MkT tt σ2 H'' true ∧ Mk K te σ2 H'' d) → (e k = none → MkT tt σ2 H'' false) → R σ2 H'') → g x (wipe σ vs) H'' R)
    (hd : ∀ H' xs, Same H1 H' → H' L = some (.lst xs) → DtA K H' xs ((List.range n).filterMap e) → Qd H') :
    ∃ W : Nat → Nat → Hp → Prop, (∃ m, W 0 m (upd H1 L (.lst []))) ∧ ∀ i m H, W i m H →
      (J.stop i H ∧ Qd H) ∨ (J.go i H ∧ ∃ Nx : Hp → Prop, (∀ H', Nx H' → ∃ m', m' < m ∧ W (i + 1) m' H') ∧ ∀ x H', J.yld i H x H' → g x (wipe σ vs) H' fun σ2 H2 => wipe σ2 vs = wipe σ vs ∧ tt σ2 H2 fun b H3 =>
        if b = true then te σ2 H3 fun y H4 => ∃ acc, H4 L = some (.lst acc) ∧ acc.length < sizeLine ∧ Nx (upd H4 L (.lst (acc ++ [y]))) else Nx H3) := by
  have flat : ∀ j, ∀ x ∈ (List.range j).filterMap e, x.sc = true := fun j x hx => by
    obtain ⟨k, _, hk⟩ := List.mem_filterMap.mp hx
    exact sc k x hk
  refine lc_it w (fun j H' => Same H1 H' ∧ ∃ xs : List V, H' L = some (.lst xs) ∧ xs.length ≤ j ∧ DtA K H' xs ((List.range j).filterMap e)) ⟨same_new nL, [], upd_same, Nat.le_refl _, .nil⟩ (fun j H' _ z => hG _ z.1) ?_ ?_
  · rintro k x H' H'' hk ⟨s', xs, ex, lx, ax⟩ y
    obtain ⟨s2, st⟩ := step k x H' H'' hk s' y
    refine st _ fun σ2 hw h1 h2 => ⟨hw, ?_⟩
    have rg : (List.range (k + 1)).filterMap e = (List.range k).filterMap e ++ (e k).toList := by
      rw [List.range_succ, List.filterMap_append]
      cases he : e k <;> simp [he]
    cases he : e k with
    | none =>
      refine h2 he H'' Gr.rfl' _ fun H3 s3 => ?_
      refine iteF ⟨s'.trans (s2.trans s3), xs, (s2.trans s3) _ _ ex, by omega, ?_⟩
      rw [rg, he]
      simpa using ax.gr (s2.trans s3)
    | some d =>
      obtain ⟨t1, m1⟩ := h1 d he
      refine t1 H'' Gr.rfl' _ fun H3 s3 => ?_
      refine iteT ?_
      refine m1 H3 s3 _ fun v H4 s4 av => ?_
      have sA := (s2.trans s3).trans s4
      refine ⟨xs, sA _ _ ex, sz2 (by omega), same_mut (s'.trans sA) nL, xs ++ [v], upd_same, by rw [List.length_append]; simpa using lx, ?_⟩
      rw [rg, he]
      exact (ax.any (flat k)).app (.cons (av.any (sc k d he)) .nil)
  · rintro H' ⟨s', xs, ex, lx, ax⟩
    exact hd H' xs s' ex ax
theorem call_lenK {X : Cx} {K : PySem.W.Frag} (h : X.K = K) : CallR X (.builtin "len") (fun xs H Q => ∃ p ys, xs = [.ref p] ∧ (SqL K H p ys ∨ SqT K H p ys) ∧ Q (.int ys.length) H) := by
  subst h
  exact call_len_seq
theorem ix_listK {X : Cx} {K : PySem.W.Frag} (h : X.K = K) : IxR X (rIxL K) := by
  subst h
  exact ix_list
theorem ix_tupK {X : Cx} {K : PySem.W.Frag} (h : X.K = K) : IxR X (rIxT K) := by
  subst h
  exact ix_tup
theorem fm_get {α β : Type} (f : α → β) : ∀ l : List α, (List.range l.length).filterMap (fun k => (l[k]?).map f) = l.map f
  | [] => rfl
  | a :: l => by
    rw [List.length_cons, List.range_succ_eq_map, List.filterMap_cons, List.filterMap_map]
    have ih := fm_get f l
    show f a :: (List.range l.length).filterMap ((fun k => ((a :: l)[k]?).map f) ∘ Nat.succ) = f a :: l.map f
    rw [← ih]
    rfl
/-- [e for x in tuple] -/
theorem mk_lcU {i : Nat} {f : D → D} (h : ∀ H1, Same H H1 → Ev K ti σ H1 (.tup ds)) (hf : ∀ d ∈ ds, (f d).sc = true) (hl : ds.length ≤ 1000) (step : ∀ d ∈ ds, ∀ x H1, Same H H1 → Dt K H1 x d → Mk K te ((σ.set i none).set i (some x)) H1 (f d)) :
    Mk K (tLc (iTup K ti) (gName i) tYes te [i]) σ H (.lst (ds.map f)) := fun H1 s Q q => by
  obtain ⟨v, a, k⟩ := h H1 s
  refine k _ ?_
  cases a with
  | @tup p xs _ e aa =>
    have lx := aa.len
    refine ⟨p, rfl, ⟨xs, e⟩, fun L nL => lc_flat (K := K) (walk_tup (K := K) (a := p) (xs := xs)) (fun k => (ds[k]?).map f) (fun k d hk => ?_) nL (fun H' s' => gr_T s' e) (by omega) ?_ ?_⟩
    · cases hd : ds[k]? with
      | none => rw [hd] at hk; cases hk
      | some y => rw [hd] at hk; cases hk; exact hf y (List.mem_of_getElem? hd)
    · rintro k x H' H'' hk s' ⟨rfl, hx⟩
      obtain ⟨y, hy, ay⟩ := aa.at hx
      refine ⟨Gr.rfl', fun R r => r_name (r _ ?_ (fun d hd => ⟨fun H2 s2 Q2 q2 => q2 H2 Gr.rfl', ?_⟩) fun hd => ?_)⟩
      · show ((σ.set i none).set i (some x)).set i none = σ.set i none
        rw [List.set_set, List.set_set]
      · rw [hy] at hd
        cases hd
        exact step y (List.mem_of_getElem? hy) x _ (s.trans s') (ay.gr s')
      · rw [hy] at hd; cases hd
    · intro H' ys s' e' a'
      refine q _ _ s' (.lst e' ?_)
      have : (List.range xs.length).filterMap (fun k => (ds[k]?).map f) = ds.map f := by
        rw [lx]
        exact fm_get f ds
      rw [this] at a'
      exact a'
end
end TSx

/-! Own layer, part R10: counts, joins. -/
namespace TSx
open PySem L2 TL
theorem tl_inj {x y : Str} (h : tl x = tl y) : x = y := by
  obtain ⟨⟨a⟩⟩ := x
  obtain ⟨⟨b⟩⟩ := y
  have : a = b := h
  rw [this]
theorem join_side (l : List Bool) : Txt.join (Str.ofString "") (l.map fun b => sideS [b]) = sideS l := by
  refine tl_inj ?_
  rw [join_eq, tl_join]
  have e : tl (Str.ofString "") = [] := by decide +kernel
  rw [e]
  have j : ∀ ps : List (List Nat), joinL [] ps = ps.flatten := by
    intro ps
    induction ps with
    | nil => rfl
    | cons p r ih =>
      cases r with
      | nil => simp [joinL]
      | cons q r =>
        show p ++ ([] ++ joinL [] (q :: r)) = _
        rw [ih]
        rfl
  rw [j, List.map_map]
  show (l.map fun b => [sideC b]).flatten = l.map sideC
  induction l with
  | nil => rfl
  | cons b l ih => show [sideC b] ++ (l.map fun b => [sideC b]).flatten = sideC b :: l.map sideC; rw [ih]; rfl
/-- list.count of a thing without parts -/
def rCntV (K : PySem.W.Frag) : V → List V → Hp → VK → Prop := fun x xs H Q => ∃ (p : Addr) (ys : List V) (y : V), x = .ref p ∧ xs = [y] ∧ SqL K H p ys ∧ flatV y = true ∧ ys.all flatV = true ∧ Q (.int (ys.countP (fun z => eqV z y) : Nat)) H
theorem mt_lcntV {X : Cx} : MtR X "list.count" (rCntV X.K) := by
  intro pins s σ H x xs v us Q I rx rxs h
  obtain ⟨p, ys, y, rfl, rfl, hs, fy, fys, q⟩ := h
  cases rx
  obtain ⟨u, rfl, ru⟩ := rxs.one
  obtain ⟨its, rv, ⟨⟨cls, dd, data, sl⟩, n, ho, hc, hdn, hd⟩, hlen⟩ := I.list hs
  simp only at hc hd
  subst hc hd
  refine call_meets PySem.F.slot_list_count ⟨_, ho, rfl⟩ PySem.F.entry_list_count (PySem.F.args_list_count_2 _ _)
    (SeqAt.list_countAt p its.toArray n dd sl u (eqU y)) ⟨ho, fun z hz => mem_eqAt ru fy rv fys z (by simpa using hz), ?_⟩
  have ec : ∀ {ys : List V} {its : List Value}, Vals ys its → ys.all flatV = true → its.countP (eqU y) = ys.countP fun z => eqV z y := by
    intro ys its r
    induction r with
    | nil => intro _; rfl
    | cons a b ih =>
      intro f
      rw [List.all_cons, Bool.and_eq_true] at f
      rw [List.countP_cons, List.countP_cons, ih f.2, eqU_of a f.1]
  refine ⟨.int (ys.countP (fun z => eqV z y) : Nat), H, I.tok _, ⟨s.toks, ?_⟩, q⟩
  rw [← ec rv fys]
end TSx

/-! Own layer, part R11: appends, comprehensions over mapped data, texts compared. -/
namespace TSx
open PySem L2
section
variable {K : PySem.W.Frag} {σ : Sg} {H H0 : Hp} {te ta tb tc ti : TE} {t : TA} {d r : D} {ds es : List D} {α β : Type}
theorem r_app {n : Nat} {p : Addr} {xs : List V} {E : Ends} (hv : σ[n]? = some (some (.ref p))) (hp : H p = some (.lst xs)) (hz : xs.length < 100000) (m : Mk K te σ H d) (q : ∀ v H1, Same H H1 → Dt K H1 v d → E.nx σ (upd H1 p (.lst (xs ++ [v])))) :
    tDrop (tBM K "list" rAppend (tVar n) (tCons te tNil)) E σ H := by
  refine ⟨_, hv, Or.inl ⟨rfl, _, SqL.of hp⟩, ?_⟩
  refine m H Gr.rfl' _ fun v H1 s1 a => ?_
  exact ⟨p, xs, v, rfl, rfl, s1 _ _ hp, sz2 hz, q v H1 s1 a⟩
theorem mk_eqS {x y : Str} (h : Mk K ta σ H (.str x)) (h2 : Mk K tb σ H (.str y)) : Mk K (tOp rEq ta tb) σ H (.bl (decide (x = y))) := fun H1 s Q q => h H1 s _ fun v H2 s2 b => h2 H2 (s.trans s2) _ fun u H3 s3 c => by
  cases b
  cases c
  refine ⟨rfl, ?_⟩
  have e : decide (V.str x = V.str y) = decide (x = y) := by
    by_cases z : x = y
    · subst z; rw [decide_eq_true rfl, decide_eq_true rfl]
    · rw [decide_eq_false z, decide_eq_false fun y => z (V.str.inj y)]
  rw [e]
  exact q _ H3 (s2.trans s3) (.bl _)
theorem mk_neS {x y : Str} (h : Mk K ta σ H (.str x)) (h2 : Mk K tb σ H (.str y)) : Mk K (tOp rNe ta tb) σ H (.bl (!decide (x = y))) := fun H1 s Q q => h H1 s _ fun v H2 s2 b => h2 H2 (s.trans s2) _ fun u H3 s3 c => by
  cases b
  cases c
  refine ⟨rfl, ?_⟩
  have e : decide (V.str x = V.str y) = decide (x = y) := by
    by_cases z : x = y
    · subst z; rw [decide_eq_true rfl, decide_eq_true rfl]
    · rw [decide_eq_false z, decide_eq_false fun y => z (V.str.inj y)]
  rw [e]
  exact q _ H3 (s2.trans s3) (.bl _)
/-- a letter of a text of sides -/
theorem mk_ixS {l : List Bool} {i : Nat} {b : Bool} (h : Mk K ta σ H (.str (sideS l))) (h2 : Mk K tb σ H (.int (i : Int))) (e : l[i]? = some b) (z : l.length ≤ 100000) : Mk K (tOp rIxS ta tb) σ H (.str (sideS [b])) := fun H1 s Q q => h H1 s _ fun v H2 s2 a => h2 H2 (s.trans s2) _ fun u H3 s3 c => by
  cases a
  cases c
  refine ⟨_, _, sideC b, rfl, rfl, by rw [sideS_len]; exact sz1 z, ?_, q _ H3 (s2.trans s3) (.str _)⟩
  refine atI_nat ?_
  show (l.map sideC)[i]? = some (sideC b)
  rw [List.getElem?_map, e]
  rfl
theorem ifE {tt : TT} {b : Bool} {d1 d2 : D} (h : MkT tt σ H b) (h1 : b = true → Mk K ta σ H d1) (h2 : b = false → Mk K tb σ H d2) : Mk K (tIf tt ta tb) σ H (if b then d1 else d2) := fun H1 s Q q => by
  refine h H1 s _ fun H2 s2 => ?_
  cases b with
  | true => exact iteT (h1 rfl H2 (s.trans s2) _ fun v H3 s3 a => q v H3 (s2.trans s3) a)
  | false => exact iteF (h2 rfl H2 (s.trans s2) _ fun v H3 s3 a => q v H3 (s2.trans s3) a)
theorem fm_zip {γ : Type} (f : α → β → γ) : ∀ (l : List α) (m : List β), l.length = m.length → (List.range l.length).filterMap (fun k => match l[k]?, m[k]? with | some x, some y => some (f x y) | _, _ => none) = (l.zip m).map fun p => f p.1 p.2
  | [], _, _ => rfl
  | a :: l, [], h => by cases h
  | a :: l, b :: m, h => by
    have ih := fm_zip f l m (by simpa using h)
    rw [List.length_cons, List.range_succ_eq_map, List.filterMap_cons, List.filterMap_map, List.zip_cons_cons, List.map_cons, ← ih]
    rfl
theorem at_map {f : α → D} {l : List α} {i : Nat} {d : D} (h : (l.map f)[i]? = some d) : ∃ a, l[i]? = some a ∧ f a = d := by
  rw [List.getElem?_map] at h
  cases q : l[i]? with
  | none => rw [q] at h; cases h
  | some b => rw [q] at h; cases h; exact ⟨b, rfl, rfl⟩
/-- [e for x in tuple], the tuple's things told by l -/
theorem mk_lcM {i : Nat} {l : List α} {g f : α → D} (h : ∀ H1, Same H H1 → Ev K ti σ H1 (.tup (l.map g))) (hf : ∀ a, (f a).sc = true) (hl : l.length ≤ 1000) (step : ∀ a ∈ l, ∀ x H1, Same H H1 → Dt K H1 x (g a) → Mk K te ((σ.set i none).set i (some x)) H1 (f a)) :
    Mk K (tLc (iTup K ti) (gName i) tYes te [i]) σ H (.lst (l.map f)) := fun H1 s Q q => by
  obtain ⟨v, a, k⟩ := h H1 s
  refine k _ ?_
  cases a with
  | @tup p xs _ e aa =>
    have lx := aa.len
    rw [List.length_map] at lx
    refine ⟨p, rfl, ⟨xs, e⟩, fun L nL => lc_flat (K := K) (walk_tup (K := K) (a := p) (xs := xs)) (fun k => (l[k]?).map f) (fun k d hk => ?_) nL (fun H' s' => gr_T s' e) (by omega) ?_ ?_⟩
    · cases hd : l[k]? with
      | none => rw [hd] at hk; cases hk
      | some y => rw [hd] at hk; cases hk; exact hf y
    · rintro k x H' H'' hk s' ⟨rfl, hx⟩
      obtain ⟨y, hy, ay⟩ := aa.at hx
      obtain ⟨b, hb, rfl⟩ := at_map hy
      refine ⟨Gr.rfl', fun R r => r_name (r _ ?_ (fun d hd => ⟨fun H2 s2 Q2 q2 => q2 H2 Gr.rfl', ?_⟩) fun hd => ?_)⟩
      · show ((σ.set i none).set i (some x)).set i none = σ.set i none
        rw [List.set_set, List.set_set]
      · rw [hb] at hd
        cases hd
        exact step b (List.mem_of_getElem? hb) x _ (s.trans s') (ay.gr s')
      · rw [hb] at hd; cases hd
    · intro H' ys s' e' a'
      refine q _ _ s' (.lst e' ?_)
      rw [lx, fm_get f l] at a'
      exact a'
/-- [e for x, y in zip(tuple, tuple)] -/
theorem mk_lcZ {i j : Nat} {l : List α} {m : List β} {g1 : α → D} {g2 : β → D} {f : α → β → D} (ij : ∀ u w, wipe (((wipe σ [i, j]).set i u).set j w) [i, j] = wipe σ [i, j]) (h : ∀ H1, Same H H1 → Ev K ta σ H1 (.tup (l.map g1))) (h2 : ∀ H1, Same H H1 → Ev K tc σ H1 (.tup (m.map g2))) (hlm : l.length = m.length) (hf : ∀ a b, (f a b).sc = true) (hl : l.length ≤ 1000)
    (step : ∀ (k : Nat) a b, l[k]? = some a → m[k]? = some b → ∀ x y H1, Same H H1 → Dt K H1 x (g1 a) → Dt K H1 y (g2 b) → Mk K te (((wipe σ [i, j]).set i (some x)).set j (some y)) H1 (f a b)) :
    Mk K (tLc (RZ.iZipA K (tCons ta (tCons tc tNil))) (gTup K 2 (gCons (gName i) (gCons (gName j) gNil))) tYes te [i, j]) σ H (.lst ((l.zip m).map fun p => f p.1 p.2)) := fun H1 s Q q => by
  obtain ⟨v, a, k⟩ := h H1 s
  obtain ⟨u, c, k2⟩ := h2 H1 s
  refine k _ (k2 _ ?_)
  cases a with
  | @tup p xs _ e aa =>
  cases c with
  | @tup p2 ys _ e2 cc =>
    have lx := aa.len
    have ly := cc.len
    rw [List.length_map] at lx ly
    refine ⟨p, p2, xs, ys, rfl, Or.inr ⟨e, e2, fun L nL => lc_flat (K := K) (walk_zipT (K := K) (a := p) (c := p2) (xs := xs) (ys := ys) (by omega)) (fun k => match l[k]?, m[k]? with | some x, some y => some (f x y) | _, _ => none) (fun k d hk => ?_) nL (fun H' s' => ⟨gr_T s' e, gr_T s' e2⟩) (by omega) ?_ ?_⟩⟩
    · split at hk
      · cases hk; exact hf _ _
      · cases hk
    · rintro n x H' H'' hk s' ⟨T, y1, y2, rfl, nT, rfl, q1, q2⟩
      have s1 : Same H' (upd H' T (.tup [y1, y2])) := same_new nT
      obtain ⟨z1, hz1, az1⟩ := aa.at q1
      obtain ⟨z2, hz2, az2⟩ := cc.at q2
      obtain ⟨a1, ha1, rfl⟩ := at_map hz1
      obtain ⟨a2, ha2, rfl⟩ := at_map hz2
      refine ⟨s1, fun R r => ?_⟩
      have aT : Dt K (upd H' T (.tup [y1, y2])) (.ref T) (.tup [g1 a1, g2 a2]) := .tup (SqT.of upd_same) (.cons (az1.gr (s'.trans s1)) (.cons (az2.gr (s'.trans s1)) .nil))
      refine r_unp2 aT fun w1 w2 e1 e2 => ?_
      refine r _ ?_ (fun d hd => ⟨fun H2 s2 Q2 q2 => q2 H2 Gr.rfl', ?_⟩) fun hd => ?_
      · exact ij _ _
      · rw [ha1, ha2] at hd
        cases hd
        exact step n a1 a2 ha1 ha2 w1 w2 _ (s.trans (s'.trans s1)) e1 e2
      · rw [ha1, ha2] at hd
        cases hd
    · intro H' ys s' e' a'
      refine q _ _ s' (.lst e' ?_)
      rw [lx, fm_zip f l m hlm] at a'
      exact a'
end
end TSx

/-! Own layer, part R12: data apart from the drawn state. -/
namespace TSx
open PySem L2
def B2 (m g : Addr) : Addr → Bool := fun b => decide (b = m) || decide (b = g)
theorem B2_m {m g : Addr} : B2 m g m = true := by simp [B2]
theorem B2_g {m g : Addr} : B2 m g g = true := by simp [B2]
theorem B2_no {m g b : Addr} (h1 : b ≠ m) (h2 : b ≠ g) : B2 m g b = false := by simp [B2, h1, h2]
abbrev Ap (K : PySem.W.Frag) (m g : Addr) (H : Hp) (v : V) (d : D) : Prop := Dt K (wo (B2 m g) H) v d
section
variable {K : PySem.W.Frag} {m c g : Addr} {H H' : Hp} {v : V} {d : D} {ds : List D} {σ : Sg} {r : Nat}
theorem Ap.kp (h : Ap K m g H v d) (k : Kp m g H H') : Ap K m g H' v d := h.gr (wo_kp k B2_m B2_g)
theorem Ap.sm (h : Ap K m g H v d) (k : Same H H') : Ap K m g H' v d := h.gr (wo_same k)
theorem Ap.dt (h : Ap K m g H v d) : Dt K H v d := h.gr wo_le
theorem m_there (M : MAt m c g H r) : ∀ b, B2 m g b = true → H b ≠ none := fun b e z => by
  obtain ⟨⟨n, cs, gs, h1, h2, h3, _⟩, _⟩ := M
  by_cases q : b = m
  · rw [q, h1] at z; cases z
  · by_cases q2 : b = g
    · rw [q2, h3] at z; cases z
    · rw [B2_no q q2] at e; cases e
theorem new_m (M : MAt m c g H r) {p : Addr} (np : H p = none) : p ≠ m ∧ p ≠ g := by
  obtain ⟨⟨n, cs, gs, h1, h2, h3, _⟩, _⟩ := M
  exact ⟨(fun z => by rw [z, h1] at np; cases np), (fun z => by rw [z, h3] at np; cases np)⟩
def strsT : List Str → TA
  | [] => tNil
  | s :: r => tCons (tC (.str s)) (strsT r)
theorem strsT_r : ∀ (ss : List Str) {Q : List V → Hp → Prop}, Q (ss.map V.str) H → strsT ss σ H Q
  | [], _, q => q
  | s :: r, Q, q => strsT_r r (Q := fun vs H1 => Q (.str s :: vs) H1) q
/-- [s, ..][draw(m, as many)] -/
theorem r_pick {ss : List Str} {n : Nat} {Q : VK} {l : Int} (hn : σ[n]? = some (some (.ref m))) (M : MAt m c g H (r + 1)) (hl : 0 < ss.length) (hz : ss.length ≤ 1000) (el : l = (ss.length : Int)) (k : ∀ s H', s ∈ ss → MAt m c g H' r → Kp m g H H' → Q (.str s) H') :
    tOp (rIxL K) (tLst (strsT ss)) (tCall spDraw [] E0 (tCons (tVar n) (tCons (tC (.int l)) tNil))) σ H Q := by
  subst el
  refine strsT_r ss ⟨by rw [List.length_map]; exact sz1 (by omega), fun p np => ?_⟩
  obtain ⟨pm, pg⟩ := new_m M np
  refine ⟨_, hn, ?_⟩
  refine ⟨m, c, g, r, (ss.length : Int), rfl, by omega, by omega, M.same (same_new np), fun v H1 p0 p1 M1 k1 => ?_⟩
  obtain ⟨i, rfl⟩ : ∃ i : Nat, v = (i : Int) := ⟨v.toNat, by omega⟩
  have li : i < ss.length := by omega
  refine ⟨p, ss.map V.str, (i : Int), .str ss[i], rfl, rfl, SqL.of (k1 _ _ pm pg upd_same), atI_nat (by rw [List.getElem?_map, List.getElem?_eq_getElem li]; rfl), ?_⟩
  exact k _ H1 (List.getElem_mem li) M1 ((Kp.of (same_new np)).tr k1)
end
theorem pi_tupK {X : Cx} {tg l : Expr} {tl : TE} {K : PySem.W.Frag} (h : X.K = K) (hl : PE X l tl) : PI X tg l (iTup K tl) := by
  subst h
  exact pi_tup hl
theorem pi_listK {X : Cx} {tg l : Expr} {tl : TE} {K : PySem.W.Frag} (h : X.K = K) (hl : PE X l tl) : PI X tg l (iList K tl) := by
  subst h
  exact pi_list hl
def rJoinK (K : PySem.W.Frag) : V → List V → Hp → VK → Prop := fun x xs H Q => ∃ a p, ∃ ys : List Str, x = .str a ∧ xs = [.ref p] ∧ (SqL K H p (ys.map V.str) ∨ SqT K H p (ys.map V.str)) ∧ (ys.map (·.length)).sum + ys.length * a.length ≤ 16777216 ∧ Q (.str (Txt.join a ys)) H
theorem mt_joinK {X : Cx} {K : PySem.W.Frag} (h : X.K = K) : MtR X "str.join" (rJoinK K) := by
  subst h
  exact mt_join
def spOf (K : PySem.W.Frag) : Sp := fun vs H Q _ => ∃ (m c g : Addr) (r : Nat) (x : V), vs = [.ref m, x] ∧ MAt m c g H (r + 1) ∧
  ((∃ ns : List Int, Ap K m g H x (.lst (ns.map D.int)) ∧ 0 < ns.length ∧ ns.length ≤ 1000 ∧ ∀ n H', n ∈ ns → MAt m c g H' r → Kp m g H H' → Q (.int n) H') ∨
    (∃ l : List Bool, x = .str (sideS l) ∧ 0 < l.length ∧ l.length ≤ 1000 ∧ ∀ b H', b ∈ l → MAt m c g H' r → Kp m g H H' → Q (.str (sideS [b])) H'))
def termLists : List (List Int) := [[1, 2, 3, 4, 6], [1, 2, 3], [1, 2, 4], [1, 5], [2, 3, 3], [1]]
def spTerms (K : PySem.W.Frag) : Sp := fun vs H Q _ => ∃ (m c g : Addr) (r : Nat), vs = [.ref m] ∧ MAt m c g H (r + 1) ∧ ∀ v H' ns, ns ∈ termLists → Ap K m g H' v (.lst (ns.map D.int)) → MAt m c g H' r → Kp m g H H' → Q v H'
def spWay (K : PySem.W.Frag) : Sp := fun vs H Q _ => ∃ (m c g : Addr) (r : Nat) (n wards : Nat), vs = [.ref m, .int n, .int wards] ∧ 1 ≤ n ∧ n ≤ 1000 ∧ wards ≤ 1000 ∧ MAt m c g H (r + 4) ∧ ∀ v H' (w : Way), w.ok n wards → Ap K m g H' v w.d → MAt m c g H' r → Kp m g H H' → Q v H'
end TSx

/-! Own layer, part Z3: zip of two texts (the pair by one name or two), of a list and a tuple. -/
namespace TSx
open PySem L2 PySem.Spec PyProof.Rows
/-- two texts, side by side -/
def ItSS (x y : Str) : It :=
  ⟨fun i _ => i < x.cps.size ∧ x.cps.size = y.cps.size,
    fun i H v H' => ∃ (T : Addr) (c1 c2 : Nat), v = .ref T ∧ H T = none ∧ H' = upd H T (.tup [.str ⟨#[c1]⟩, .str ⟨#[c2]⟩]) ∧ x.cps[i]? = some c1 ∧ y.cps[i]? = some c2,
    fun i _ => i = x.cps.size ∧ x.cps.size = y.cps.size⟩
theorem turn_zipSS {P : Program} {w : World} {K : PySem.W.Frag} {elts : List Expr} {kk : Nat} {tpos : Pos} {z TI TO i1 i2 : Addr} {x y : Str} {t t2 : Tok} (S : ZipSep2 z TI TO i1 i2 [i1] [i2]) :
    Turn P w K (.Tuple elts kk tpos) (ItSS x y) [z, TI, TO, i1, i2] z (fun i h => IsZip h z TI TO .none ∧ IsTupOf2 h TI (.ref i1) (.ref i2) ∧ (∃ p q, IsTupOf2 h TO p q) ∧ h.IsStrIter i1 (strIterType x) x t i ∧ h.IsStrIter i2 (strIterType y) y t2 i) where
  mem := by simp
  obj := fun i h st c hc => by
    obtain ⟨hz, hTI, ⟨p, q, hTO⟩, ⟨o1, e1, _, d1⟩, ⟨o2, e2, _, d2⟩⟩ := st
    have e' : c = z ∨ c = TI ∨ c = TO ∨ c = i1 ∨ c = i2 := by simpa using hc
    rcases e' with q | q | q | q | q
    · rw [q]; exact ⟨_, hz, fun v q => nomatch q⟩
    · rw [q]; exact ⟨_, hTI, fun v q => nomatch q⟩
    · rw [q]; exact ⟨_, hTO, fun v q => nomatch q⟩
    · rw [q]; exact ⟨o1, e1, fun v q => by rw [d1] at q; cases q⟩
    · rw [q]; exact ⟨o2, e2, fun v q => by rw [d2] at q; cases q⟩
  keep := fun i h h' st k => by
    obtain ⟨hz, hTI, ⟨p, q, hTO⟩, ⟨o1, e1, r1⟩, ⟨o2, e2, r2⟩⟩ := st
    exact ⟨k z (by simp) _ hz, k TI (by simp) _ hTI, ⟨p, q, k TO (by simp) _ hTO⟩, ⟨o1, k i1 (by simp) _ e1, r1⟩, ⟨o2, k i2 (by simp) _ e2, r2⟩⟩
  item := by
    intro X hP hw hK hc i pins s σ H E I hf st hg
    subst hP hw hK
    obtain ⟨hz, hTI, ⟨p0, q0, hTO⟩, h1, h2⟩ := st
    obtain ⟨l1, hsz⟩ := hg
    have hzl : z < s.heap.objs.size := Heap.lt_size hz
    have li1 : i1 < s.heap.objs.size := by obtain ⟨_, e1, _⟩ := h1; exact Heap.lt_size e1
    have li2 : i2 < s.heap.objs.size := by obtain ⟨_, e2, _⟩ := h2; exact Heap.lt_size e2
    have lTI : TI < s.heap.objs.size := Heap.lt_size hTI
    have lTO : TO < s.heap.objs.size := Heap.lt_size hTO
    have zi1 : z ≠ i1 := fun q => S.zf1 (q ▸ S.mem1)
    have zi2 : z ≠ i2 := fun q => S.zf2 (q ▸ S.mem2)
    have D1 := Draws.text (prog := X.prog) (w := X.w) (A := X.A.in1) (I.ok.hd hc) i1 x t
    have D2 := Draws.text (prog := X.prog) (w := X.w) (A := X.A.in1) (I.ok.hd hc) i2 y t2
    have l2 : i < y.cps.size := by omega
    refine wpAny_pyNext_zipD2_item S D1 D2 hz hTI hTO h1 h2 l1 l2 fun x1 x2 h' tk y1 y2 b1 b2 d1 d2 b5 b6 hk => ?_
    obtain ⟨c1, u1, hc1, rfl⟩ := y1
    obtain ⟨c2, u2, hc2, rfl⟩ := y2
    refine ⟨_, rfl, wpAny_letOwnedTupleGo_zip (s := { s with heap := h', toks := tk }) b1 fun h'' z'' sb => ?_⟩
    have T2 : h''.get? s.heap.objs.size = some { cls := .type "tuple", data := .seq #[.str ⟨#[c1]⟩ u1, .str ⟨#[c2]⟩ u2] } := (sb.2 _ (Nat.ne_of_gt hzl)).trans b5
    have new : ObjOk X.prog X.w (upd H s.heap.objs.size (.tup [.str ⟨#[c1]⟩, .str ⟨#[c2]⟩])) h'' s.heap.objs.size (.tup [.str ⟨#[c1]⟩, .str ⟨#[c2]⟩]) :=
      ⟨by show 2 ≤ sizeLine; decide, [.str ⟨#[c1]⟩ u1, .str ⟨#[c2]⟩ u2], .cons ⟨_, rfl⟩ (.cons ⟨_, rfl⟩ .nil), ⟨_, T2, rfl, _, rfl⟩⟩
    have I1 : Inv X pins σ (upd H s.heap.objs.size (.tup [.str ⟨#[c1]⟩, .str ⟨#[c2]⟩])) { s with heap := h'', toks := tk } :=
      I.turnedNew (ch := [z, TI, TO, i1, i2]) (fun b o hb q => (sb.2 b (fun q' => hb (by simp [q']))).trans (hk b o (fun q' => hb (by simp [q'])) (fun q' => hb (by simp [q'])) (fun q' => hb (by simp [q'])) (fun q' => hb (by simp [q'])) q)) hf (Nat.le_refl _) new
    refine ⟨.ref s.heap.objs.size, _, I1, rfl, ⟨_, c1, c2, rfl, I.hok.fresh (Nat.le_refl _), rfl, hc1, hc2⟩, ⟨z'', ?_, ⟨.str ⟨#[c1]⟩ u1, .str ⟨#[c2]⟩ u2, ?_⟩, ?_, ?_⟩, fun b hb => ?_⟩
    · exact (sb.2 _ S.TIz).trans (hk _ _ S.TIz S.TITO S.TIi1 S.TIi2 hTI)
    · exact (sb.2 _ S.TOz).trans b2
    · obtain ⟨o1, e1, r1⟩ := d1
      exact ⟨o1, (sb.2 _ (Ne.symm zi1)).trans e1, r1⟩
    · obtain ⟨o2, e2, r2⟩ := d2
      exact ⟨o2, (sb.2 _ (Ne.symm zi2)).trans e2, r2⟩
    · have lt : b < s.heap.objs.size := by
        have e' : b = z ∨ b = TI ∨ b = TO ∨ b = i1 ∨ b = i2 := by simpa using hb
        rcases e' with q | q | q | q | q <;> rw [q] <;> assumption
      rw [upd_ne (Nat.ne_of_lt lt)]
      exact (hf b hb).1
  done := by
    intro X hP hw hK hc i pins s σ H E I hf st hg
    subst hP hw hK
    obtain ⟨hz, hTI, ⟨p0, q0, hTO⟩, h1, h2⟩ := st
    obtain ⟨hi, hsz⟩ := hg
    have D1 := Draws.text (prog := X.prog) (w := X.w) (A := X.A.in1) (I.ok.hd hc) i1 x t
    have D2 := Draws.text (prog := X.prog) (w := X.w) (A := X.A.in1) (I.ok.hd hc) i2 y t2
    refine wpAny_pyNext_zipD2_end S D1 D2 hz hTI hTO h1 h2 (by omega) (by omega) (by omega) fun h' tk hk => ⟨rfl, I.turnedL (t' := tk) (ch := [z, TI, TO, i1, i2]) (fun b o hb q =>
      hk b o (fun q' => hb (by simp [q'])) (fun q' => hb (by simp [q'])) (fun q' => hb (by simp [q'])) (fun q' => hb (by simp [q'])) q) hf⟩
  self := fun A i s Q E st h => wpAny_pyIter_zip st.1 h
/-- the same, the pair kept by one name -/
def ZipSt (h : Heap) (z TI TO : Addr) : Prop := IsZip h z TI TO .none ∨ ∃ T b, IsZipN h z TI TO T b
theorem ZipSt.get {h : Heap} {z TI TO : Addr} (s : ZipSt h z TI TO) : ∃ f0 b, h.get? z = some { cls := .type "zip", data := .fields #[f0, .bool b, .bool false, .ref TI, .ref TO] } := by
  rcases s with s | ⟨T, b, s⟩
  · exact ⟨_, _, s⟩
  · exact ⟨_, _, s⟩
theorem turn_zipSSn {P : Program} {w : World} {K : PySem.W.Frag} {nm : Str} {tpos : Pos} {z TI TO i1 i2 : Addr} {x y : Str} {t t2 : Tok} (S : ZipSep2 z TI TO i1 i2 [i1] [i2]) :
    Turn P w K (.Name nm tpos) (ItSS x y) [z, TI, TO, i1, i2] z (fun i h => ZipSt h z TI TO ∧ IsTupOf2 h TI (.ref i1) (.ref i2) ∧ (∃ p q, IsTupOf2 h TO p q) ∧ h.IsStrIter i1 (strIterType x) x t i ∧ h.IsStrIter i2 (strIterType y) y t2 i) where
  mem := by simp
  obj := fun i h st c hc => by
    obtain ⟨hz, hTI, ⟨p, q, hTO⟩, ⟨o1, e1, _, d1⟩, ⟨o2, e2, _, d2⟩⟩ := st
    obtain ⟨f0, b, hz⟩ := hz.get
    have e' : c = z ∨ c = TI ∨ c = TO ∨ c = i1 ∨ c = i2 := by simpa using hc
    rcases e' with q | q | q | q | q
    · rw [q]; exact ⟨_, hz, fun v q => nomatch q⟩
    · rw [q]; exact ⟨_, hTI, fun v q => nomatch q⟩
    · rw [q]; exact ⟨_, hTO, fun v q => nomatch q⟩
    · rw [q]; exact ⟨o1, e1, fun v q => by rw [d1] at q; cases q⟩
    · rw [q]; exact ⟨o2, e2, fun v q => by rw [d2] at q; cases q⟩
  keep := fun i h h' st k => by
    obtain ⟨hz, hTI, ⟨p, q, hTO⟩, ⟨o1, e1, r1⟩, ⟨o2, e2, r2⟩⟩ := st
    refine ⟨?_, k TI (by simp) _ hTI, ⟨p, q, k TO (by simp) _ hTO⟩, ⟨o1, k i1 (by simp) _ e1, r1⟩, ⟨o2, k i2 (by simp) _ e2, r2⟩⟩
    rcases hz with hz | ⟨T, b, hz⟩
    · exact Or.inl (k z (by simp) _ hz)
    · exact Or.inr ⟨T, b, k z (by simp) _ hz⟩
  item := by
    intro X hP hw hK hc i pins s σ H E I hf st hg
    subst hP hw hK
    obtain ⟨hz, hTI, ⟨p0, q0, hTO⟩, h1, h2⟩ := st
    obtain ⟨l1, hsz⟩ := hg
    obtain ⟨f0, b0, hz0⟩ := hz.get
    have hzl : z < s.heap.objs.size := Heap.lt_size hz0
    have li1 : i1 < s.heap.objs.size := by obtain ⟨_, e1, _⟩ := h1; exact Heap.lt_size e1
    have li2 : i2 < s.heap.objs.size := by obtain ⟨_, e2, _⟩ := h2; exact Heap.lt_size e2
    have lTI : TI < s.heap.objs.size := Heap.lt_size hTI
    have lTO : TO < s.heap.objs.size := Heap.lt_size hTO
    have nT1 : TO ≠ i1 := fun q => S.Tf1 (q ▸ S.mem1)
    have nT2 : TO ≠ i2 := fun q => S.Tf2 (q ▸ S.mem2)
    have D1 := Draws.text (prog := X.prog) (w := X.w) (A := X.A.in1) (I.ok.hd hc) i1 x t
    have D2 := Draws.text (prog := X.prog) (w := X.w) (A := X.A.in1) (I.ok.hd hc) i2 y t2
    have l2 : i < y.cps.size := by omega
    have fin : ∀ (c1 c2 : Nat) (u1 u2 : Tok) (h' : Heap) (tk : Nat), x.cps[i]? = some c1 → y.cps[i]? = some c2 → ZipSt h' z TI TO → (∃ p q, IsTupOf2 h' TO p q) → h'.IsStrIter i1 (strIterType x) x t (i + 1) → h'.IsStrIter i2 (strIterType y) y t2 (i + 1) →
        IsTupOf2 h' s.heap.objs.size (.str ⟨#[c1]⟩ u1) (.str ⟨#[c2]⟩ u2) → (∀ (c : Addr) (o : Obj), c ≠ z → c ≠ TO → c ≠ i1 → c ≠ i2 → s.heap.get? c = some o → h'.get? c = some o) →
        ∃ u, some (Value.ref s.heap.objs.size) = some u ∧ wpAny (model X.prog X.w) X.A (letOwnedTupleGo (.Name nm tpos) (.ref z) u) (fun _ s2 => ∃ x' H', L2.Inv X pins σ H' s2 ∧ RelV x' u ∧ (ItSS x y).yld i H x' H' ∧ (ZipSt s2.heap z TI TO ∧ IsTupOf2 s2.heap TI (.ref i1) (.ref i2) ∧ (∃ p q, IsTupOf2 s2.heap TO p q) ∧ s2.heap.IsStrIter i1 (strIterType x) x t (i + 1) ∧ s2.heap.IsStrIter i2 (strIterType y) y t2 (i + 1)) ∧ ∀ b, b ∈ [z, TI, TO, i1, i2] → H' b = none) E { s with heap := h', toks := tk } := by
      intro c1 c2 u1 u2 h' tk hc1 hc2 zs to d1 d2 b5 hk
      refine ⟨_, rfl, ?_⟩
      show wpAny _ _ (pure ()) _ _ _
      refine wpAny_pure ?_
      have new : ObjOk X.prog X.w (upd H s.heap.objs.size (.tup [.str ⟨#[c1]⟩, .str ⟨#[c2]⟩])) h' s.heap.objs.size (.tup [.str ⟨#[c1]⟩, .str ⟨#[c2]⟩]) :=
        ⟨by show 2 ≤ sizeLine; decide, [.str ⟨#[c1]⟩ u1, .str ⟨#[c2]⟩ u2], .cons ⟨_, rfl⟩ (.cons ⟨_, rfl⟩ .nil), ⟨_, b5, rfl, _, rfl⟩⟩
      have I1 : Inv X pins σ (upd H s.heap.objs.size (.tup [.str ⟨#[c1]⟩, .str ⟨#[c2]⟩])) { s with heap := h', toks := tk } :=
        I.turnedNew (ch := [z, TI, TO, i1, i2]) (fun b o hb q => hk b o (fun q' => hb (by simp [q'])) (fun q' => hb (by simp [q'])) (fun q' => hb (by simp [q'])) (fun q' => hb (by simp [q'])) q) hf (Nat.le_refl _) new
      refine ⟨.ref s.heap.objs.size, _, I1, rfl, ⟨_, c1, c2, rfl, I.hok.fresh (Nat.le_refl _), rfl, hc1, hc2⟩, ⟨zs, hk _ _ S.TIz S.TITO S.TIi1 S.TIi2 hTI, to, d1, d2⟩, fun b hb => ?_⟩
      have lt : b < s.heap.objs.size := by
        have e' : b = z ∨ b = TI ∨ b = TO ∨ b = i1 ∨ b = i2 := by simpa using hb
        rcases e' with q | q | q | q | q <;> rw [q] <;> assumption
      rw [upd_ne (Nat.ne_of_lt lt)]
      exact (hf b hb).1
    rcases hz with hz | ⟨T, b, hz⟩
    · refine wpAny_pyNext_zipD2_item S D1 D2 hz hTI hTO h1 h2 l1 l2 fun x1 x2 h' tk y1 y2 b1 b2 d1 d2 b5 b6 hk => ?_
      obtain ⟨c1, u1, hc1, rfl⟩ := y1
      obtain ⟨c2, u2, hc2, rfl⟩ := y2
      exact fin c1 c2 u1 u2 h' tk hc1 hc2 (Or.inr ⟨_, _, b1⟩) ⟨_, _, b2⟩ d1 d2 b5 hk
    · cases hT : s.heap.get? T with
      | none =>
        refine pyNext_zipM_item S D1 D2 hz hT hTI hTO h1 h2 l1 l2 fun x1 x2 h' tk y1 y2 b1 b2 d1 d2 b5 b6 hk => ?_
        obtain ⟨c1, u1, hc1, rfl⟩ := y1
        obtain ⟨c2, u2, hc2, rfl⟩ := y2
        exact fin c1 c2 u1 u2 h' tk hc1 hc2 (Or.inr ⟨_, _, b1⟩) ⟨_, _, b2⟩ d1 d2 b5 hk
      | some oT =>
        refine pyNext_zipN_item S D1 D2 hz ⟨oT, hT⟩ hTI h1 h2 l1 l2 fun x1 x2 h' tk y1 y2 b1 d1 d2 b5 b6 hk => ?_
        obtain ⟨c1, u1, hc1, rfl⟩ := y1
        obtain ⟨c2, u2, hc2, rfl⟩ := y2
        exact fin c1 c2 u1 u2 h' tk hc1 hc2 (Or.inr ⟨_, _, b1⟩) ⟨_, _, hk _ _ S.TOz nT1 nT2 hTO⟩ d1 d2 b5 (fun c o c0 cT c1 c2 e => hk c o c0 c1 c2 e)
  done := by
    intro X hP hw hK hc i pins s σ H E I hf st hg
    subst hP hw hK
    obtain ⟨hz, hTI, ⟨p0, q0, hTO⟩, h1, h2⟩ := st
    obtain ⟨hi, hsz⟩ := hg
    have D1 := Draws.text (prog := X.prog) (w := X.w) (A := X.A.in1) (I.ok.hd hc) i1 x t
    have D2 := Draws.text (prog := X.prog) (w := X.w) (A := X.A.in1) (I.ok.hd hc) i2 y t2
    have fin : ∀ (h' : Heap) (tk : Nat), (∀ (c : Addr) (o : Obj), c ≠ z → c ≠ TO → c ≠ i1 → c ≠ i2 → s.heap.get? c = some o → h'.get? c = some o) → (none : Option Value) = none ∧ L2.Inv X pins σ H { heap := h', gens := s.gens, drawn := s.drawn, toks := tk, os := s.os } := fun h' tk hk => ⟨rfl, I.turnedL (t' := tk) (ch := [z, TI, TO, i1, i2]) (fun b o hb q =>
      hk b o (fun q' => hb (by simp [q'])) (fun q' => hb (by simp [q'])) (fun q' => hb (by simp [q'])) (fun q' => hb (by simp [q'])) q) hf⟩
    rcases hz with hz | ⟨T, b, hz⟩
    · exact wpAny_pyNext_zipD2_end S D1 D2 hz hTI hTO h1 h2 (by omega) (by omega) (by omega) fin
    · subst hi
      cases hT : s.heap.get? T with
      | none => exact pyNext_zipM_end S D1 hz hT hTI hTO h1 fin
      | some oT => exact pyNext_zipN_end S D1 hz ⟨oT, hT⟩ hTI h1 fun h' tk hk => fin h' tk fun c o c0 cT c1 c2 e => hk c o c0 c1 c2 e
  self := fun A i s Q E st h => by
    obtain ⟨f0, b, hz⟩ := st.1.get
    have hT : s.TypeIs (.ref z) "zip" := ⟨_, hz, rfl⟩
    exact wpAny_pyIter_slot hT PySem.F.slot_zip_iter (wpAny_call_entry PySem.F.slot_zip_iter hT PySem.F.entry_zip_iter (wpAny_pure ⟨.ref z, rfl, "zip", .builtin "zip.__next__", hT, PySem.F.slot_zip_next.lookup, h⟩) (PySem.F.args_zip_iter_1 (.ref z)))
def iZipSS (ta : TA) : TI := fun σ H R => ta σ H fun vs H1 => ∃ x y : Str, vs = [.str x, .str y] ∧ R (ItSS x y) H1
section
variable {X : Cx} {e e2 : Expr} {ta : TA} {p pos tpos : Pos} {elts : List Expr} {kk : Nat}
theorem zip_fp {N : Nat} {c : Addr} {pins : List (Addr × Obj)} {σ : Sg} {H1 : Hp} {s1 : Shared} (I1 : L2.Inv X pins σ H1 s1) (hc : c ∈ [s1.heap.objs.size + 4, s1.heap.objs.size + 2, s1.heap.objs.size + 3, s1.heap.objs.size, s1.heap.objs.size + 1]) : s1.heap.objs.size ≤ c := by
  have e' : c = s1.heap.objs.size + 4 ∨ c = s1.heap.objs.size + 2 ∨ c = s1.heap.objs.size + 3 ∨ c = s1.heap.objs.size ∨ c = s1.heap.objs.size + 1 := by simpa using hc
  rcases e' with z | z | z | z | z <;> rw [z] <;> first | exact Nat.le_add_right _ _ | exact Nat.le_refl _
theorem pi_zipSS (hg : Gl X "zip") (hm : X.mg "zip" = none) (ha : PA X [e, e2] ta)
    (hs : starEach [e, e2] X.env = (false, eval e X.env) :: starEach [e2] X.env := by rfl) (hpl : (backTo pos (starEach [e2] X.env)).any (·.1) = false := by rfl) :
    PI X (.Tuple elts kk tpos) (.Call (.Name "zip" p) [e, e2] [] pos) (iZipSS ta) := by
  constructor
  intro pins s σ H R I h
  refine Call_ (ld_blt I hg hm PyProof.Rows.boot_zip (PyProof.Rows.callWith_type1 (thn (ha.run pos pins s σ H _ I h) fun us s1 z => ?_) hs hpl))
  obtain ⟨vs, H1, I1, r1, x, y, ex, q⟩ := z
  subst ex
  obtain ⟨u1, u2, rfl, rx, ry⟩ := vals2 r1
  obtain ⟨t, rfl⟩ := (show ∃ t, u1 = Value.str x t from rx)
  obtain ⟨t2, rfl⟩ := (show ∃ t, u2 = Value.str y t from ry)
  refine zip_begins2 (begins_text x t) (begins_text y t2) trivial trivial fun h' hz hTI hTO g1 g2 hsz hk => wpAny_pyIter_zip hz ?_
  have I2 : Inv X pins σ H1 { s1 with heap := h' } := I1.kept (t' := s1.toks) hk
  exact ⟨s1.heap.objs.size + 4, [s1.heap.objs.size + 4, s1.heap.objs.size + 2, s1.heap.objs.size + 3, s1.heap.objs.size, s1.heap.objs.size + 1], _, _, H1, rfl, I2,
    turn_zipSS (t := t) (t2 := t2) (zip_sep2 (N := s1.heap.objs.size) (fp1 := []) (fp2 := []) (fun b hb => nomatch hb) (fun b hb => nomatch hb)), ⟨hz, hTI, ⟨_, _, hTO⟩, ⟨_, g1, rfl, rfl⟩, ⟨_, g2, rfl, rfl⟩⟩, fun c hc => I1.fpOk (zip_fp (N := 0) I1 hc) (I1.hok.fresh (zip_fp (N := 0) I1 hc)), q⟩
theorem pi_zipSSn {nm : Str} (hg : Gl X "zip") (hm : X.mg "zip" = none) (ha : PA X [e, e2] ta)
    (hs : starEach [e, e2] X.env = (false, eval e X.env) :: starEach [e2] X.env := by rfl) (hpl : (backTo pos (starEach [e2] X.env)).any (·.1) = false := by rfl) :
    PI X (.Name nm tpos) (.Call (.Name "zip" p) [e, e2] [] pos) (iZipSS ta) := by
  constructor
  intro pins s σ H R I h
  refine Call_ (ld_blt I hg hm PyProof.Rows.boot_zip (PyProof.Rows.callWith_type1 (thn (ha.run pos pins s σ H _ I h) fun us s1 z => ?_) hs hpl))
  obtain ⟨vs, H1, I1, r1, x, y, ex, q⟩ := z
  subst ex
  obtain ⟨u1, u2, rfl, rx, ry⟩ := vals2 r1
  obtain ⟨t, rfl⟩ := (show ∃ t, u1 = Value.str x t from rx)
  obtain ⟨t2, rfl⟩ := (show ∃ t, u2 = Value.str y t from ry)
  refine zip_begins2 (begins_text x t) (begins_text y t2) trivial trivial fun h' hz hTI hTO g1 g2 hsz hk => wpAny_pyIter_zip hz ?_
  have I2 : Inv X pins σ H1 { s1 with heap := h' } := I1.kept (t' := s1.toks) hk
  exact ⟨s1.heap.objs.size + 4, [s1.heap.objs.size + 4, s1.heap.objs.size + 2, s1.heap.objs.size + 3, s1.heap.objs.size, s1.heap.objs.size + 1], _, _, H1, rfl, I2,
    turn_zipSSn (t := t) (t2 := t2) (zip_sep2 (N := s1.heap.objs.size) (fp1 := []) (fp2 := []) (fun b hb => nomatch hb) (fun b hb => nomatch hb)), ⟨Or.inl hz, hTI, ⟨_, _, hTO⟩, ⟨_, g1, rfl, rfl⟩, ⟨_, g2, rfl, rfl⟩⟩, fun c hc => I1.fpOk (zip_fp (N := 0) I1 hc) (I1.hok.fresh (zip_fp (N := 0) I1 hc)), q⟩
end
end TSx

/-! Own layer, part Z4: zip of a list and a tuple. -/
namespace TSx
open PySem L2 PySem.Spec PyProof.Rows
theorem plainL_is {h : Heap} {a : Addr} {its : Array Value} (pl : PlainL h a its) : h.IsList a its := by
  obtain ⟨o, n, ho, hc, _, hd⟩ := pl
  exact ⟨o, ho, hc, n, hd⟩
def ItLT (K : PySem.W.Frag) (a b : Addr) : It :=
  ⟨fun i H => ∃ (xs ys : List V) (v u : V), SqL K H a xs ∧ SqT K H b ys ∧ xs[i]? = some v ∧ ys[i]? = some u,
    fun i H v H' => ∃ (T : Addr) (u1 u2 : V), v = .ref T ∧ H T = none ∧ H' = upd H T (.tup [u1, u2]) ∧ (∀ xs, SqL K H a xs → xs[i]? = some u1) ∧ (∀ ys, SqT K H b ys → ys[i]? = some u2),
    fun i H => ∃ xs ys : List V, SqL K H a xs ∧ SqT K H b ys ∧ i = xs.length ∧ i = ys.length⟩
theorem turn_zipLT {P : Program} {w : World} {K : PySem.W.Frag} {elts : List Expr} {kk : Nat} {tpos : Pos} {a b z TI TO i1 i2 : Addr} (S : ZipSep2 z TI TO i1 i2 [i1, a] [i2, b]) :
    Turn P w K (.Tuple elts kk tpos) (ItLT K a b) [z, TI, TO, i1, i2] z (fun i h => IsZip h z TI TO .none ∧ IsTupOf2 h TI (.ref i1) (.ref i2) ∧ (∃ p q, IsTupOf2 h TO p q) ∧ h.IsListIter i1 a i ∧ h.IsTupleIter i2 b i) where
  mem := by simp
  obj := fun i h st c hc => by
    obtain ⟨hz, hTI, ⟨p, q, hTO⟩, ⟨o1, e1, _, d1⟩, ⟨o2, e2, _, d2⟩⟩ := st
    have e' : c = z ∨ c = TI ∨ c = TO ∨ c = i1 ∨ c = i2 := by simpa using hc
    rcases e' with q | q | q | q | q
    · rw [q]; exact ⟨_, hz, fun v q => nomatch q⟩
    · rw [q]; exact ⟨_, hTI, fun v q => nomatch q⟩
    · rw [q]; exact ⟨_, hTO, fun v q => nomatch q⟩
    · rw [q]; exact ⟨o1, e1, fun v q => by rw [d1] at q; cases q⟩
    · rw [q]; exact ⟨o2, e2, fun v q => by rw [d2] at q; cases q⟩
  keep := fun i h h' st k => by
    obtain ⟨hz, hTI, ⟨p, q, hTO⟩, ⟨o1, e1, r1⟩, ⟨o2, e2, r2⟩⟩ := st
    exact ⟨k z (by simp) _ hz, k TI (by simp) _ hTI, ⟨p, q, k TO (by simp) _ hTO⟩, ⟨o1, k i1 (by simp) _ e1, r1⟩, ⟨o2, k i2 (by simp) _ e2, r2⟩⟩
  item := by
    intro X hP hw hK hc i pins s σ H E I hf st hg
    subst hP hw hK
    obtain ⟨hz, hTI, ⟨p0, q0, hTO⟩, h1, h2⟩ := st
    obtain ⟨xs, ys, v, v2, hl, hq, hx, hy⟩ := hg
    obtain ⟨its1, rv1, pl, _⟩ := I.list hl
    obtain ⟨u1, hu1, ru1⟩ := rv1.get hx
    obtain ⟨its, rv, pt, _⟩ := I.tuple hq
    obtain ⟨u, hu, ru⟩ := rv.get hy
    have ne1 : a ≠ i1 := fun e => by
      obtain ⟨o, _, ho, hcl, _⟩ := pl
      obtain ⟨o1, e1, c1, _⟩ := h1
      rw [e] at ho
      rw [e1] at ho
      cases ho
      rw [hcl] at c1
      exact absurd (Value.type.inj c1) (by decide)
    have ne2 : b ≠ i2 := fun e => by
      obtain ⟨o, ho, hcl, _⟩ := pt
      obtain ⟨o1, e1, c1, _⟩ := h2
      rw [e] at ho
      rw [e1] at ho
      cases ho
      rw [hcl] at c1
      exact absurd (Value.type.inj c1) (by decide)
    have hzl : z < s.heap.objs.size := Heap.lt_size hz
    have li1 : i1 < s.heap.objs.size := by obtain ⟨_, e1, _⟩ := h1; exact Heap.lt_size e1
    have li2 : i2 < s.heap.objs.size := by obtain ⟨_, e2, _⟩ := h2; exact Heap.lt_size e2
    have lTI : TI < s.heap.objs.size := Heap.lt_size hTI
    have lTO : TO < s.heap.objs.size := Heap.lt_size hTO
    have zi1 : z ≠ i1 := fun q => S.zf1 (q ▸ S.mem1)
    have zi2 : z ≠ i2 := fun q => S.zf2 (q ▸ S.mem2)
    have D1 := Draws.list (prog := X.prog) (w := X.w) (A := X.A.in1) (I.ok.hd hc) i1 a ne1 its1.toArray
    have D2 := Draws.tuple (prog := X.prog) (w := X.w) (A := X.A.in1) (I.ok.hd hc) i2 b ne2 its.toArray
    have l1 : i < its1.toArray.size := by
      have : i < its1.length := (List.getElem?_eq_some_iff.mp (by simpa using hu1)).1
      simpa using this
    have l2 : i < its.toArray.size := by
      have : i < its.length := (List.getElem?_eq_some_iff.mp (by simpa using hu)).1
      simpa using this
    refine wpAny_pyNext_zipD2_item S D1 D2 hz hTI hTO ⟨h1, plainL_is pl⟩ ⟨h2, pt⟩ l1 l2 fun x1 x2 h' tk y1 y2 b1 b2 d1 d2 b5 b6 hk => ?_
    have e1 : x1 = u1 := by
      have hu' : its1.toArray[i]? = some u1 := by simpa using hu1
      rw [hu'] at y1
      exact (Option.some.inj y1).symm
    have e2 : x2 = u := by
      have hu' : its.toArray[i]? = some u := by simpa using hu
      rw [hu'] at y2
      exact (Option.some.inj y2).symm
    subst e1 e2
    refine ⟨_, rfl, wpAny_letOwnedTupleGo_zip (s := { s with heap := h', toks := tk }) b1 fun h'' z'' sb => ?_⟩
    have T2 : h''.get? s.heap.objs.size = some { cls := .type "tuple", data := .seq #[x1, x2] } := (sb.2 _ (Nat.ne_of_gt hzl)).trans b5
    have new : ObjOk X.prog X.w (upd H s.heap.objs.size (.tup [v, v2])) h'' s.heap.objs.size (.tup [v, v2]) :=
      ⟨by show 2 ≤ sizeLine; decide, [x1, x2], .cons ru1 (.cons ru .nil), ⟨_, T2, rfl, _, rfl⟩⟩
    have I1 : Inv X pins σ (upd H s.heap.objs.size (.tup [v, v2])) { s with heap := h'', toks := tk } :=
      I.turnedNew (ch := [z, TI, TO, i1, i2]) (fun b o hb q => (sb.2 b (fun q' => hb (by simp [q']))).trans (hk b o (fun q' => hb (by simp [q'])) (fun q' => hb (by simp [q'])) (fun q' => hb (by simp [q'])) (fun q' => hb (by simp [q'])) q)) hf (Nat.le_refl _) new
    refine ⟨.ref s.heap.objs.size, _, I1, rfl, ⟨_, v, v2, rfl, I.hok.fresh (Nat.le_refl _), rfl, fun l hl' => by rw [I.list_inj hl' hl]; exact hx, fun l hl' => by rw [I.tuple_inj hl' hq]; exact hy⟩, ⟨z'', ?_, ⟨x1, x2, ?_⟩, ?_, ?_⟩, fun b hb => ?_⟩
    · exact (sb.2 _ S.TIz).trans (hk _ _ S.TIz S.TITO S.TIi1 S.TIi2 hTI)
    · exact (sb.2 _ S.TOz).trans b2
    · obtain ⟨⟨o1, e1, r1⟩, _⟩ := d1
      exact ⟨o1, (sb.2 _ (Ne.symm zi1)).trans e1, r1⟩
    · obtain ⟨⟨o2, e2, r2⟩, _⟩ := d2
      exact ⟨o2, (sb.2 _ (Ne.symm zi2)).trans e2, r2⟩
    · have lt : b < s.heap.objs.size := by
        have e' : b = z ∨ b = TI ∨ b = TO ∨ b = i1 ∨ b = i2 := by simpa using hb
        rcases e' with q | q | q | q | q <;> rw [q] <;> assumption
      rw [upd_ne (Nat.ne_of_lt lt)]
      exact (hf b hb).1
  done := by
    intro X hP hw hK hc i pins s σ H E I hf st hg
    subst hP hw hK
    obtain ⟨hz, hTI, ⟨p0, q0, hTO⟩, h1, h2⟩ := st
    obtain ⟨xs, ys, hl, hq, hi, hi2⟩ := hg
    obtain ⟨its1, rv1, pl, _⟩ := I.list hl
    obtain ⟨its, rv, pt, _⟩ := I.tuple hq
    have ln1 := rv1.length
    have ln2 := rv.length
    have ne1 : a ≠ i1 := fun e => by
      obtain ⟨o, _, ho, hcl, _⟩ := pl
      obtain ⟨o1, e1, c1, _⟩ := h1
      rw [e] at ho
      rw [e1] at ho
      cases ho
      rw [hcl] at c1
      exact absurd (Value.type.inj c1) (by decide)
    have ne2 : b ≠ i2 := fun e => by
      obtain ⟨o, ho, hcl, _⟩ := pt
      obtain ⟨o1, e1, c1, _⟩ := h2
      rw [e] at ho
      rw [e1] at ho
      cases ho
      rw [hcl] at c1
      exact absurd (Value.type.inj c1) (by decide)
    have D1 := Draws.list (prog := X.prog) (w := X.w) (A := X.A.in1) (I.ok.hd hc) i1 a ne1 its1.toArray
    have D2 := Draws.tuple (prog := X.prog) (w := X.w) (A := X.A.in1) (I.ok.hd hc) i2 b ne2 its.toArray
    have sz1 : its1.toArray.size = xs.length := by rw [List.size_toArray]; exact ln1.symm
    have sz2 : its.toArray.size = ys.length := by rw [List.size_toArray]; exact ln2.symm
    refine wpAny_pyNext_zipD2_end S D1 D2 hz hTI hTO ⟨h1, plainL_is pl⟩ ⟨h2, pt⟩ (by omega) (by omega) (by omega) fun h' tk hk => ⟨rfl, I.turnedL (t' := tk) (ch := [z, TI, TO, i1, i2]) (fun b o hb q =>
      hk b o (fun q' => hb (by simp [q'])) (fun q' => hb (by simp [q'])) (fun q' => hb (by simp [q'])) (fun q' => hb (by simp [q'])) q) hf⟩
  self := fun A i s Q E st h => wpAny_pyIter_zip st.1 h
def iZipLT (K : PySem.W.Frag) (ta : TA) : TI := fun σ H R => ta σ H fun vs H1 => ∃ (a b : Addr) (xs ys : List V), vs = [.ref a, .ref b] ∧ SqL K H1 a xs ∧ SqT K H1 b ys ∧ R (ItLT K a b) H1
theorem pi_zipLT {X : Cx} {e e2 : Expr} {ta : TA} {p pos tpos : Pos} {elts : List Expr} {kk : Nat} (hg : Gl X "zip") (hm : X.mg "zip" = none) (ha : PA X [e, e2] ta)
    (hs : starEach [e, e2] X.env = (false, eval e X.env) :: starEach [e2] X.env := by rfl) (hpl : (backTo pos (starEach [e2] X.env)).any (·.1) = false := by rfl) :
    PI X (.Tuple elts kk tpos) (.Call (.Name "zip" p) [e, e2] [] pos) (iZipLT X.K ta) := by
  constructor
  intro pins s σ H R I h
  refine Call_ (ld_blt I hg hm PyProof.Rows.boot_zip (PyProof.Rows.callWith_type1 (thn (ha.run pos pins s σ H _ I h) fun us s1 z => ?_) hs hpl))
  obtain ⟨vs, H1, I1, r1, a, b, xs, ys, ex, hl, hq, q⟩ := z
  subst ex
  obtain ⟨u1, u2, rfl, ra, rb⟩ := vals2 r1
  cases (show u1 = Value.ref a from ra)
  cases (show u2 = Value.ref b from rb)
  obtain ⟨its1, rv1, pl, _⟩ := I1.list hl
  obtain ⟨its, rv, pt, _⟩ := I1.tuple hq
  have la : a < s1.heap.objs.size := by obtain ⟨o, _, ho, _⟩ := id pl; exact Heap.lt_size ho
  have lb : b < s1.heap.objs.size := by obtain ⟨o, ho, _⟩ := id pt; exact Heap.lt_size ho
  refine zip_begins2 (begins_list a its1.toArray) (begins_tuple b its.toArray) (plainL_is pl) pt fun h' hz hTI hTO g1 g2 hsz hk => wpAny_pyIter_zip hz ?_
  have I2 : Inv X pins σ H1 { s1 with heap := h' } := I1.kept (t' := s1.toks) hk
  exact ⟨s1.heap.objs.size + 4, [s1.heap.objs.size + 4, s1.heap.objs.size + 2, s1.heap.objs.size + 3, s1.heap.objs.size, s1.heap.objs.size + 1], _, _, H1, rfl, I2,
    turn_zipLT (zip_sep2 (N := s1.heap.objs.size) (fp1 := [a]) (fp2 := [b]) (fun c hb => by rw [List.mem_singleton.mp hb]; exact la) (fun c hb => by rw [List.mem_singleton.mp hb]; exact lb)), ⟨hz, hTI, ⟨_, _, hTO⟩, ⟨_, g1, rfl, rfl⟩, ⟨_, g2, rfl, rfl⟩⟩, fun c hc => I1.fpOk (zip_fp (N := 0) I1 hc) (I1.hok.fresh (zip_fp (N := 0) I1 hc)), q⟩
end TSx

namespace TSx
open PySem L2
local macro_rules | `(tactic| walk_at "rd") => `(tactic| repeat (first
  | ((with_reducible show tVar _ _ _ _); refine r_v rfl ?_)
  | with_reducible refine r_c ?_
  | with_reducible refine r_op ?_
  | with_reducible refine r_I0 ?_
  | with_reducible refine r_cb ?_
  | with_reducible refine r_nil ?_
  | with_reducible refine r_cons ?_
  | with_reducible refine r_seq ?_
  | with_reducible refine r_next ?_
  | with_reducible refine r_asg ?_
  | with_reducible refine r_name ?_
  | with_reducible refine r_ret ?_
  | with_reducible refine r_drop ?_
  | with_reducible refine r_if ?_
  | with_reducible refine r_test ?_
  | with_reducible refine r_bl ?_
  | with_reducible refine r_int1 ?_
  | ((with_reducible refine r_mul ?hm ?_); (case hm => first | exact cmR (by omega) (by omega) | exact cmL (by omega) (by omega)))
  | ((with_reducible refine r_div ?hm ?_); (case hm => exact cdv (by omega) (by omega)))
  | ((with_reducible refine r_mod ?hm ?_); (case hm => omega))
  | with_reducible refine r_sub ?_
  | with_reducible refine r_dget ?_
  | with_reducible refine r_dput ?_
  | with_reducible refine r_lst ?_
  | with_reducible refine r_call ?_))
def top (i : Nat) : Stmt := PySem.Challenge.pw_termseats_k40_whole_order_of_stands.main.body.getD i (.Pass ⟨0, 0, 0, 0⟩)
abbrev sMixed : Stmt := top 52
theorem scMixed : FnScope ["cell", "n", "blend"] ["cell", "n"] (defScope sMixed) := ⟨rfl, rfl, rfl, by decide +kernel, rfl, by decide +kernel, by decide +kernel⟩
section
variable {P : Program} {w : World} {K : PySem.W.Frag} {mg : Str → Option Value} {base : Heap}
theorem ok_mixed {f : Addr} {fd : FuncData} (F : L2.Fun K "_law_mixed" "_law_mixed" sMixed f fd) (T : Blt mg) : FnOk P w K mg base CX0 1 f fd ["cell", "n"] spMixed := by
  refine F.ok scMixed (fun vs H Q E h => ?_) (fun cdv A outer s H vs Q E hr h => ?_)
  · obtain ⟨c, n, rfl, _⟩ := h
    rfl
  · obtain ⟨c, n, rfl, c0, c1, n0, n1, k⟩ := h
    refine ⟨_, pss_cons (ps_set (i := 2) scMixed.nd rfl (Or.inl rfl)
        (pe_op op_add (pe_op op_add (pe_op op_mod (pe_callTy call_intI (by rfl) T.int PyProof.Rows.boot_int (pa_cons (pe_op op_mul (pe_op op_mul (pv 0) (pe_op op_add pe_int (pe_op op_mul pe_int (pv 1)))) pe_int) pa_nil)) pe_int)
          (pe_op op_mul (pe_op op_mul pe_int (pv 1)) (pv 1))) (pe_op op_mul pe_int (pv 1))))
      (pss_one (ps_ret (pe_op op_fdiv (pe_op op_mod (pe_callTy call_intI (by rfl) T.int PyProof.Rows.boot_int (pa_cons (pe_op op_mul (pv 2) pe_int) pa_nil)) pe_int) pe_int))), ?_⟩
    walk_at "rd"
    exact k _ (by omega) (by omega)
abbrev sFolded : Stmt := top 53
theorem scFolded : FnScope ["script", "found", "n", "cell"] ["script"] (defScope sFolded) := ⟨rfl, rfl, rfl, by decide +kernel, rfl, by decide +kernel, by decide +kernel⟩
theorem ok_folded {f : Addr} {fd : FuncData} (F : L2.Fun K "_law_folded" "_law_folded" sFolded f fd) (T : Blt mg) : FnOk P w K mg base CX0 1 f fd ["script"] (spFolded K) := by
  refine F.ok scFolded (fun vs H Q E h => ?_) (fun cdv A outer s H vs Q E hr h => ?_)
  · obtain ⟨a, ns, rfl, _⟩ := h
    rfl
  · obtain ⟨a, ns, rfl, hS, hz, k⟩ := h
    refine ⟨_, pss_cons (ps_setLc (i := 1) (own := [("n", 2)]) (g := gName 2) (tt := tYes) rfl scFolded.nd rfl rfl (sw_true rfl rfl rfl (by decide +kernel)) (pi_range1 rfl T.range (pa_cons pe_int pa_nil)) (blkOk_by (N := ["script", "found", "n", "cell"]) (sc := defScope sFolded) (by decide +kernel))
        (fun _ _ _ _ _ => pg_name (i := 2) scFolded.nd rfl (Or.inl rfl)) (fun _ _ _ _ _ => pts_nil) (fun _ _ _ _ _ => pe_op op_add pe_int (pv 2)))
      (pss_cons (ps_for PassesOwn.never rfl (pi_enum (by rfl) T.enumerate (pa_cons (pv 0) pa_nil)) (pg_tup rfl (pgs_cons (pg_name (i := 2) scFolded.nd rfl (Or.inl rfl)) (pgs_cons (pg_name (i := 3) scFolded.nd rfl (Or.inl rfl)) pgs_nil)))
        (pss_one (ps_asg (pe_op op_mod (pe_callTy call_intI (by rfl) T.int PyProof.Rows.boot_int (pa_cons (pe_op op_add (pe_op op_mul (pe_ix ix_list (pv 1) (pe_op op_mod (pe_callTy call_intI (by rfl) T.int PyProof.Rows.boot_int (pa_cons (pv 2) pa_nil)) pe_int) (fun _ _ => rfl)) pe_int) (pv 3)) pa_nil)) pe_int)
          (pg_sub (pv 1) (pe_op op_mod (pe_callTy call_intI (by rfl) T.int PyProof.Rows.boot_int (pa_cons (pv 2) pa_nil)) pe_int) set_list))))
      (pss_cons (ps_for PassesOwn.never rfl (pi_range2 rfl T.range (pa_cons pe_int (pa_cons pe_int pa_nil))) (pg_name (i := 2) scFolded.nd rfl (Or.inl rfl))
        (pss_one (ps_asg (pe_op op_mod (pe_callTy call_intI (by rfl) T.int PyProof.Rows.boot_int (pa_cons (pe_op op_add (pe_ix ix_list (pv 1) (pv 2) (fun _ _ => rfl)) (pe_op op_mul (pe_ix ix_list (pv 1) (pe_op op_sub (pv 2) pe_int) (fun _ _ => rfl)) pe_int)) pa_nil)) pe_int)
          (pg_sub (pv 1) (pv 2) set_list))))
      (pss_one (ps_ret (pv 1))))), ?_⟩
    walk_at "rd"
    refine ⟨64, rfl, by decide, by decide, fun D hD => lc_range (lo := 0) (n := 64) (fun i H' => ∃ cs : List Int, cs.length = i ∧ (∀ c ∈ cs, 0 ≤ c ∧ c < 2147483647) ∧ H' D = some (.lst (cs.map V.int)) ∧ Same H H')
      ⟨[], rfl, by simp, upd_same, same_new hD⟩ ?_ ?_⟩
    · rintro i H' hi ⟨cs, hl, hc, hD', hs⟩
      refine ⟨rfl, r_yes ?_⟩
      walk_at "rd"
      refine ⟨_, hD', ?_, ?_⟩
      · rw [List.length_map]; exact sz2 (by omega)
      · refine ⟨cs ++ [17 + (0 + (i : Int))], by rw [List.length_append, hl]; rfl, fun c hm => ?_, ?_, same_mut hs hD⟩
        · rcases List.mem_append.mp hm with z | z
          · exact hc c z
          · rw [List.mem_singleton.mp z]; omega
        · rw [upd_same, List.map_append]; rfl
    · rintro H' ⟨cs, hl, hc, hD', hs⟩
      walk_at "rd"
      refine ⟨_, rfl, a, _, rfl, hs.seq hS, for_it (walk_enum (K := K) (a := a) (xs := ns.map V.int)) (fun i σ H2 => ∃ (cs : List Int) (x y : Option V), σ = [some (.ref a), some (.ref D), x, y] ∧ Cells cs ∧ H2 D = some (.lst (cs.map V.int)) ∧ Same H H2)
        ⟨cs, _, _, rfl, ⟨hl, hc⟩, hD', hs⟩ (fun i σ H2 _ z => by obtain ⟨_, _, _, _, _, _, z⟩ := z; exact z.seq hS) ?_ ?_⟩
      · rintro i v σ H2 H3 hi ⟨cs, x, y, rfl, hC, hD2, s2⟩ ⟨T, x', y', rfl, nT, rfl, e1, e2⟩
        cases e1
        replace e2 : (List.map V.int ns)[i]? = some y' := e2
        obtain ⟨z, rfl⟩ : ∃ z, y' = V.int z := by
          rw [List.getElem?_map] at e2
          cases q : ns[i]? with
          | none => rw [q] at e2; cases e2
          | some z => rw [q] at e2; cases e2; exact ⟨z, rfl⟩
        have hT : ∀ {u : HO}, (upd H2 T u) D = some (.lst (cs.map V.int)) := fun {u} => by rw [upd_ne (ne_of_none hD2 nT)]; exact hD2
        have sT : ∀ {u : HO}, Same H (upd H2 T u) := fun {u} => s2.trans (same_new nT)
        have hlt : i % 64 < cs.length := by rw [hC.len]; omega
        obtain ⟨c, hc1, hc2⟩ := at_int hlt
        have hb := hC.low c hc1
        refine ⟨T, _, rfl, SqT.of upd_same, rfl, _, _, rfl, _, _, rfl, rfl, ?_⟩
        walk_at "rd"
        refine r_ixL hT (by rw [show ((i : Int) % 64) = ((i % 64 : Nat) : Int) by omega]; exact hc2) ?_
        walk_at "rd"
        refine r_setL hT (j := i % 64) (by rw [List.length_map, show ((i : Int) % 64) = ((i % 64 : Nat) : Int) by omega]; exact ixN_int hlt) ?_
        rw [map_set]
        exact ⟨_, _, _, rfl, hC.set _ (by omega) (by omega), upd_same, same_mut sT hD⟩
      · rintro σ H2 ⟨cs, x, y, rfl, hC, hD2, s2⟩
        walk_at "rd"
        refine ⟨1, 64, rfl, ⟨by decide, by decide, by decide, by decide⟩, for_range (lo := 1) (n := 63) (fun i σ H2 => ∃ (cs : List Int) (x y : Option V), σ = [some (.ref a), some (.ref D), x, y] ∧ Cells cs ∧ H2 D = some (.lst (cs.map V.int)) ∧ Same H H2)
          ⟨cs, _, _, rfl, hC, hD2, s2⟩ ?_ ?_⟩
        · rintro i σ H2 hi ⟨cs, x, y, rfl, hC, hD2, s2⟩
          have l1 : i + 1 < cs.length := by rw [hC.len]; omega
          have l2 : i < cs.length := by rw [hC.len]; omega
          obtain ⟨c, hc1, hc2⟩ := at_int l1
          obtain ⟨d, hd1, hd2⟩ := at_int l2
          have hb := hC.low c hc1
          have hb2 := hC.low d hd1
          walk_at "rd"
          refine r_ixL hD2 (by rw [show ((1 : Int) + (i : Int)) = ((i + 1 : Nat) : Int) by omega]; exact hc2) ?_
          walk_at "rd"
          refine r_ixL hD2 (by rw [show ((1 : Int) + (i : Int) - 1) = ((i : Nat) : Int) by omega]; exact hd2) ?_
          walk_at "rd"
          refine r_setL hD2 (j := i + 1) (by rw [List.length_map, show ((1 : Int) + (i : Int)) = ((i + 1 : Nat) : Int) by omega]; exact ixN_int l1) ?_
          rw [map_set]
          exact ⟨_, _, _, rfl, hC.set _ (by omega) (by omega), upd_same, same_mut s2 hD⟩
        · rintro σ H2 ⟨cs, x, y, rfl, hC, hD2, s2⟩
          walk_at "rd"
          exact k _ D cs hD s2 hC hD2
abbrev sDraw : Stmt := top 54
theorem scDraw : FnScope ["m", "limit", "n", "lot", "here", "cell"] ["m", "limit"] (defScope sDraw) := ⟨rfl, rfl, rfl, by decide +kernel, rfl, by decide +kernel, by decide +kernel⟩
theorem ok_draw {f fM : Addr} {fd fdM : FuncData} (F : L2.Fun K "_law_draw" "_law_draw" sDraw f fd) (T : Blt mg) (FM : L2.Fun K "_law_mixed" "_law_mixed" sMixed fM fdM) (gM : mg "_law_mixed" = some (.ref fM)) (bM : Binds K fdM ["cell", "n"] []) : FnOk P w K mg base CX0 2 f fd ["m", "limit"] spDraw := by
  have GM : FnOk P w K mg base CX0 1 fM fdM ["cell", "n"] spMixed := ok_mixed FM T
  refine F.ok scDraw (fun vs H Q E h => ?_) (fun cdv A outer s H vs Q E hr h => ?_)
  · obtain ⟨m, c, g, r, l, rfl, _⟩ := h
    rfl
  · obtain ⟨m, c, g, r, l, rfl, l0, l1, ⟨⟨n, cs, gs, h1, h2, h3, hC, hg, hn⟩, ne⟩, k⟩ := h
    have hu := hu_of hr
    have kpM : PySem.W.keepIn K (.ref fM) = true := FM.kp
    refine ⟨_, pss_cons (ps_set (i := 2) scDraw.nd rfl (Or.inl rfl) (pe_dget hu (pv 0) pe_str (fun _ _ => rfl)))
      (pss_cons (ps_dput hu (pv 0) pe_str (pe_op op_add (pv 2) pe_int) rfl)
      (pss_cons (ps_if (pt_cmpR (op_neD hr.units) (pe_dget hu (pv 0) pe_str (fun _ _ => rfl)) (pe_lst pa_nil) (nomark _))
        (pss_cons (ps_set (i := 3) scDraw.nd rfl (Or.inl rfl) (pe_dget hu (pv 0) pe_str (fun _ _ => rfl)))
        (pss_cons (ps_set (i := 4) scDraw.nd rfl (Or.inl rfl) (pe_op op_mod (pe_callTy call_intI (by rfl) T.int PyProof.Rows.boot_int (pa_cons (pv 2) pa_nil)) (pe_callB call_len_seq (by rfl) T.len PySem.boot_len (pa_cons (pv 3) pa_nil))))
        (pss_cons (ps_set (i := 5) scDraw.nd rfl (Or.inl rfl) (pe_ix ix_list (pv 3) (pv 4) (fun _ _ => rfl)))
        (pss_one (ps_if (pt_cmpR op_gt (pv 5) pe_int (nomark _))
          (pss_cons (ps_asg (pe_op op_fdiv (pv 5) (pv 1)) (pg_sub (pv 3) (pv 4) set_list))
          (pss_one (ps_ret (pe_op op_mod (pe_callTy call_intI (by rfl) T.int PyProof.Rows.boot_int (pa_cons (pv 5) pa_nil)) (pv 1))))) pss_nil))))) pss_nil)
      (pss_cons (ps_set (i := 3) scDraw.nd rfl (Or.inl rfl) (pe_dget hu (pv 0) pe_str (fun _ _ => rfl)))
      (pss_one (ps_ret (pe_op op_mod (pe_callTy call_intI (by rfl) T.int PyProof.Rows.boot_int (pa_cons
        (pe_call GM hr rfl gM kpM bM .nil pass0 (pa_cons (pe_call GM hr rfl gM kpM bM .nil pass0 (pa_cons (pe_op op_add (pe_ix ix_list (pv 3) (pe_op op_mod (pe_callTy call_intI (by rfl) T.int PyProof.Rows.boot_int (pa_cons (pv 2) pa_nil)) pe_int) (fun _ _ => rfl)) (pe_op op_mul pe_int (pe_op op_fdiv (pv 2) pe_int))) (pa_cons (pv 2) pa_nil)))
          (pa_cons (pe_op op_add (pv 2) pe_int) pa_nil))) pa_nil)) (pv 1))))))), ?_⟩
    -- n = m["spot"]; m["spot"] = n + 1
    have mc : c ≠ m := fun e => by rw [e, h1] at h2; cases h2
    have mg' : g ≠ m := fun e => by rw [e, h1] at h3; cases h3
    have c2 : ∀ u, (upd H m u) c = some (.lst (cs.map V.int)) := fun u => by rw [upd_ne mc]; exact h2
    have g2 : ∀ u, (upd H m u) g = some (.lst (gs.map V.int)) := fun u => by rw [upd_ne mg']; exact h3
    walk_at "rd"
    refine ⟨m, _, rfl, dg_spot h1, ?_⟩
    walk_at "rd"
    refine ⟨m, _, rfl, dp_spot h1, ?_⟩
    have hm : (upd H m (.dK (kvM c g ((n : Int) + 1)))) m = some (.dK (kvM c g ((n : Int) + 1))) := upd_same
    generalize hH1 : upd H m (.dK (kvM c g ((n : Int) + 1))) = H1
    have c3 : H1 c = some (.lst (cs.map V.int)) := by rw [← hH1]; exact c2 _
    have g3 : H1 g = some (.lst (gs.map V.int)) := by rw [← hH1]; exact g2 _
    rw [hH1] at hm
    have kp1 : Kp m g H H1 := fun b o b1 b2 e => by rw [← hH1, upd_ne b1]; exact e
    have cast1 : ((n : Int) + 1) = ((n + 1 : Nat) : Int) := by omega
    -- if m["great"] != []
    walk_at "rd"
    refine ⟨m, _, rfl, dg_great hm, ?_⟩
    walk_at "rd"
    refine ⟨Nat.zero_le _, fun p np => ?_⟩
    have sp : Same H1 (upd H1 p (.lst [])) := same_new np
    refine r_neD (d := .lst (gs.map D.int)) (e := .lst []) (.lst (sp _ _ g3) (dts gs)) (.lst upd_same .nil) (pl_ints gs) rfl (depth_ints gs) (by decide) ?_
    refine r_bl ?_
    have hm2 := sp _ _ hm
    have g4 := sp _ _ g3
    have c4 := sp _ _ c3
    have kp2 : Kp m g H (upd H1 p (.lst [])) := kp1.tr (Kp.of sp)
    generalize upd H1 p (.lst []) = H2 at hm2 g4 c4 kp2 ⊢
    have e0 : PyData.eqv (D.lst (gs.map D.int)).py (D.lst []).py = gs.isEmpty := eqv_nil gs
    rw [e0]
    have fin : ∀ (v : Int) (H3 : Hp) (gs' : List Int), 0 ≤ v → v < l → H3 m = some (.dK (kvM c g ((n : Int) + 1))) → H3 c = some (.lst (cs.map V.int)) → H3 g = some (.lst (gs'.map V.int)) → gs'.length ≤ 63 → Kp m g H H3 → Q (.int v) H3 := fun v H3 gs' v0 v1 a1 a2 a3 a4 a5 =>
      k v H3 v0 v1 ⟨⟨n + 1, cs, gs', by rw [a1, cast1], a2, a3, hC, a4, by omega⟩, ne⟩ a5
    cases gs with
    | nil =>
      refine r_ifF rfl ?_
      walk_at "rd"
      refine ⟨m, _, rfl, dg_cells hm2, ?_⟩
      walk_at "rd"
      have hlt : n % 64 < cs.length := by rw [hC.len]; omega
      obtain ⟨x, hx1, hx2⟩ := at_int hlt
      have hb := hC.low x hx1
      refine r_ixL c4 (by rw [show ((n : Int) % 64) = ((n % 64 : Nat) : Int) by omega]; exact hx2) ?_
      walk_at "rd"
      refine ⟨_, _, rfl, by omega, by omega, by omega, by omega, fun v v0 v1 => ?_⟩
      walk_at "rd"
      refine ⟨_, _, rfl, by omega, by omega, by omega, by omega, fun v' v0' v1' => ?_⟩
      walk_at "rd"
      exact fin _ H2 [] (Int.emod_nonneg _ (by omega)) (Int.emod_lt_of_pos _ l0) hm2 c4 g4 hg kp2
    | cons a0 gs0 =>
      refine r_ifT rfl ?_
      walk_at "rd"
      refine ⟨m, _, rfl, dg_great hm2, ?_⟩
      walk_at "rd"
      refine ⟨g, _, rfl, Or.inl (SqL.of g4), ?_⟩
      have len0 : ((List.map V.int (a0 :: gs0)).length : Int) = ((gs0.length + 1 : Nat) : Int) := by simp
      rw [len0]
      walk_at "rd"
      have hlt : n % (gs0.length + 1) < (a0 :: gs0).length := Nat.mod_lt _ (Nat.succ_pos _)
      have em : ((n : Int) % ((gs0.length + 1 : Nat) : Int)) = ((n % (gs0.length + 1) : Nat) : Int) := by simp
      obtain ⟨x, hx1, hx2⟩ := at_int hlt
      refine r_ixL g4 (by rw [em]; exact hx2) ?_
      walk_at "rd"
      by_cases xp : 0 < x
      · refine r_ifT (decide_eq_true xp) ?_
        walk_at "rd"
        refine r_setL g4 (j := n % (gs0.length + 1)) (by rw [List.length_map, em]; exact ixN_int hlt) ?_
        walk_at "rd"
        rw [map_set]
        have gm : ∀ u, (upd H2 g u) m = some (.dK (kvM c g ((n : Int) + 1))) := fun u => by rw [upd_ne (Ne.symm mg')]; exact hm2
        have gc : ∀ u, (upd H2 g u) c = some (.lst (cs.map V.int)) := fun u => by rw [upd_ne ne]; exact c4
        exact fin _ _ _ (Int.emod_nonneg _ (by omega)) (Int.emod_lt_of_pos _ l0) (gm _) (gc _) upd_same (by rw [List.length_set]; exact hg) fun b o b1 b2 e => by rw [upd_ne b2]; exact kp2 b o b1 b2 e
      · refine r_ifF (decide_eq_false xp) ?_
        walk_at "rd"
        refine ⟨m, _, rfl, dg_cells hm2, ?_⟩
        walk_at "rd"
        have hlt : n % 64 < cs.length := by rw [hC.len]; omega
        obtain ⟨x, hx1, hx2⟩ := at_int hlt
        have hb := hC.low x hx1
        refine r_ixL c4 (by rw [show ((n : Int) % 64) = ((n % 64 : Nat) : Int) by omega]; exact hx2) ?_
        walk_at "rd"
        refine ⟨_, _, rfl, by omega, by omega, by omega, by omega, fun v v0 v1 => ?_⟩
        walk_at "rd"
        refine ⟨_, _, rfl, by omega, by omega, by omega, by omega, fun v' v0' v1' => ?_⟩
        walk_at "rd"
        exact fin _ H2 _ (Int.emod_nonneg _ (by omega)) (Int.emod_lt_of_pos _ l0) hm2 c4 g4 hg kp2
abbrev sBegun : Stmt := top 55
theorem scBegun : FnScope ["script", "m", "cell"] ["script"] (defScope sBegun) := ⟨rfl, rfl, rfl, by decide +kernel, rfl, by decide +kernel, by decide +kernel⟩
theorem ok_begun {f fF : Addr} {fd fdF : FuncData} (F : L2.Fun K "_law_begun" "_law_begun" sBegun f fd) (T : Blt mg) (FF : L2.Fun K "_law_folded" "_law_folded" sFolded fF fdF) (gF : mg "_law_folded" = some (.ref fF)) (bF : Binds K fdF ["script"] []) : FnOk P w K mg base CX0 2 f fd ["script"] (spBegun K) := by
  have GF : FnOk P w K mg base CX0 1 fF fdF ["script"] (spFolded K) := ok_folded FF T
  refine F.ok scBegun (fun vs H Q E h => ?_) (fun cdv A outer s H vs Q E hr h => ?_)
  · obtain ⟨a, ns, rfl, _⟩ := h
    rfl
  · obtain ⟨a, ns, rfl, hS, hz, k⟩ := h
    have hu := hu_of hr
    have kpF : PySem.W.keepIn K (.ref fF) = true := FF.kp
    refine ⟨_, pss_cons (ps_set (i := 1) scBegun.nd rfl (Or.inl rfl) (pe_disp (pps_cons pe_str (pe_call GF hr rfl gF kpF bF .nil pass0 (pa_cons (pv 0) pa_nil)) (pps_cons pe_str (pe_lst pa_nil) (pps_cons pe_str pe_int pps_nil))) (by rfl) (by rfl) (fun z => by cases z) (by decide)))
      (pss_cons (ps_dput hu (pv 1) pe_str (pe_lc (own := [("cell", 2)]) (g := gName 2) (tt := tYes) rfl scBegun.nd (pi_list (pv 0)) (blkOk_by (N := ["script", "m", "cell"]) (sc := defScope sBegun) (by decide +kernel))
        (fun _ _ _ _ _ => pg_name (i := 2) scBegun.nd rfl (Or.inl rfl)) (fun _ _ _ _ _ => pts_nil) (fun _ _ _ _ _ => pe_ifExp (pt_cmpR op_ge (pv 2) (pe_op op_pow pe_int pe_int) (nomark _)) (pv 2) pe_int)) rfl)
      (pss_one (ps_ret (pv 1)))), ?_⟩
    walk_at "rd"
    intro p np
    have hp : (upd H p (.dK [])) p = some (.dK []) := upd_same
    have s0 : Same H (upd H p (.dK [])) := same_new np
    refine ⟨_, rfl, a, ns, rfl, s0.seq hS, hz, fun H1 c cs nc s1 hC hc => ?_⟩
    refine ⟨Nat.zero_le _, fun g ng => ?_⟩
    have gp : g ≠ p := fun e => by rw [e, s1 _ _ hp] at ng; cases ng
    have gc : g ≠ c := fun e => by rw [e, hc] at ng; cases ng
    have pc : p ≠ c := fun e => by rw [← e, hp] at nc; cases nc
    have h0p : (upd H1 g (.lst [])) p = some (.dK []) := by rw [upd_ne (Ne.symm gp)]; exact s1 _ _ hp
    have h0c : (upd H1 g (.lst [])) c = some (.lst (cs.map V.int)) := by rw [upd_ne (Ne.symm gc)]; exact hc
    have h0g : (upd H1 g (.lst [])) g = some (.lst []) := upd_same
    have s2 : Same H (upd H1 g (.lst [])) := (s0.trans s1).trans (same_new ng)
    have fg : H g = none := (s0.trans s1).free ng
    have fc : H c = none := s0.free nc
    generalize upd H1 g (.lst []) = H2 at h0p h0c h0g s2 ⊢
    refine ⟨h0p, [(Sum.inr "cells", .ref c), (Sum.inr "great", .ref g), (Sum.inr "spot", .int 0)], rfl, (show 3 ≤ 15 by decide), ?_⟩

    have s3 : Same H (upd H2 p (.dK (kvM c g 0))) := same_mut s2 np
    have h3p : (upd H2 p (.dK (kvM c g 0))) p = some (.dK (kvM c g 0)) := upd_same
    have h3c : (upd H2 p (.dK (kvM c g 0))) c = some (.lst (cs.map V.int)) := by rw [upd_ne (Ne.symm pc)]; exact h0c
    change gName 1 (V.ref p) _ (upd H2 p (.dK (kvM c g 0))) _
    generalize upd H2 p (.dK (kvM c g 0)) = H3 at s3 h3p h3c ⊢
    walk_at "rd"
    refine ⟨_, rfl, a, rfl, ⟨_, s3.seq hS⟩, fun D hD => lc_list (K := K) (a := a) (xs := ns.map V.int) (fun i H' => ∃ gs : List Int, gs.length = i ∧ H' D = some (.lst (gs.map V.int)) ∧ Same H3 H')
      ⟨[], rfl, upd_same, same_new hD⟩ (fun i H' _ z => by obtain ⟨_, _, _, z⟩ := z; exact (s3.trans z).seq hS) ?_ ?_⟩
    · rintro i v H' hi ⟨gs, hl, hD', hs⟩
      obtain ⟨z, rfl⟩ : ∃ z, v = V.int z := by
        rw [List.getElem?_map] at hi
        cases q : ns[i]? with
        | none => rw [q] at hi; cases hi
        | some z => rw [q] at hi; cases hi; exact ⟨z, rfl⟩
      have il : i < 63 := by
        have := (List.getElem?_eq_some_iff.mp hi).1
        rw [List.length_map] at this
        omega
      refine ⟨rfl, r_yes ?_⟩
      have fin : ∀ y : Int, ∃ acc, H' D = some (.lst acc) ∧ acc.length < sizeLine ∧ ∃ gs : List Int, gs.length = i + 1 ∧ (upd H' D (.lst (acc ++ [V.int y]))) D = some (.lst (gs.map V.int)) ∧ Same H3 (upd H' D (.lst (acc ++ [V.int y]))) := fun y =>
        ⟨_, hD', by rw [List.length_map]; exact sz2 (by omega), gs ++ [y], by rw [List.length_append, hl]; rfl, by rw [upd_same, List.map_append]; rfl, same_mut hs hD⟩
      refine ⟨_, rfl, _, _, rfl, rfl, ⟨by decide, by decide, by decide⟩, _, _, rfl, rfl, _, rfl, ?_⟩
      refine ite2 (fun _ => ?_) (fun _ => ?_)
      · walk_at "rd"
        exact fin z
      · walk_at "rd"
        exact fin 0
    · rintro H' ⟨gs, hl, hD', hs⟩
      walk_at "rd"
      have h4p := hs _ _ h3p
      have h4c := hs _ _ h3c
      refine ⟨p, _, rfl, DPut.k (k := Sum.inr "great") h4p (show 3 < sizeLine by decide), ?_⟩
      walk_at "rd"
      have Dp : D ≠ p := fun e => by rw [e, h3p] at hD; cases hD
      have Dc : c ≠ D := fun e => by rw [← e, h3c] at hD; cases hD
      refine k _ p c D (same_mut (s3.trans hs) np) np fc (s3.free hD) ⟨⟨0, cs, gs, ?_, ?_, ?_, hC, ?_, by omega⟩, Dc⟩
      · exact upd_same
      · rw [upd_ne (Ne.symm pc)]; exact h4c
      · rw [upd_ne Dp]; exact hD'
      · have : gs.length = ns.length := by rw [hl, List.length_map]
        omega
end
end TSx

namespace TSx
open PySem L2
local macro_rules | `(tactic| walk_at "rd") => `(tactic| repeat (first
  | ((with_reducible show tVar _ _ _ _); refine r_v rfl ?_)
  | with_reducible refine r_c ?_
  | with_reducible refine r_op ?_
  | with_reducible refine r_I0 ?_
  | with_reducible refine r_cb ?_
  | with_reducible refine r_nil ?_
  | with_reducible refine r_cons ?_
  | with_reducible refine r_seq ?_
  | with_reducible refine r_next ?_
  | with_reducible refine r_asg ?_
  | with_reducible refine r_name ?_
  | with_reducible refine r_ret ?_
  | with_reducible refine r_drop ?_
  | with_reducible refine r_if ?_
  | with_reducible refine r_test ?_
  | with_reducible refine r_bl ?_
  | with_reducible refine r_call ?_))
local macro_rules | `(tactic| walk_at "st") => `(tactic| repeat (first
  | with_reducible refine r_seq ?_
  | with_reducible refine r_next ?_
  | with_reducible refine r_asg ?_
  | with_reducible refine r_name ?_
  | with_reducible refine r_ret ?_
  | with_reducible refine r_drop ?_
  | with_reducible refine r_if ?_))
local macro_rules | `(tactic| walk_at "mk") => `(tactic| repeat (first
  | with_reducible exact mk_non
  | with_reducible exact mk_int
  | with_reducible exact mk_str
  | with_reducible exact mk_bl
  | with_reducible exact mk_dic
  | with_reducible exact mka_nil
  | with_reducible refine mka_cons ?_ ?_
  | ((with_reducible refine mk_tup ?_ ?hz); (case hz => decide))
  | ((with_reducible refine mk_lst ?_ ?hz); (case hz => decide))
  | with_reducible refine mk_neg ?_))
abbrev sWhole : Stmt := top 13
abbrev sTup : Stmt := top 14
abbrev sWord : Stmt := top 15
abbrev sSides : Stmt := top 16
abbrev sWay : Stmt := top 17
abbrev sSeat : Stmt := top 18
theorem scWhole : FnScope ["value", "least", "most"] ["value", "least", "most"] (defScope sWhole) := ⟨rfl, rfl, rfl, by decide +kernel, rfl, by decide +kernel, by decide +kernel⟩
theorem scTup : FnScope ["value", "least", "most"] ["value", "least", "most"] (defScope sTup) := ⟨rfl, rfl, rfl, by decide +kernel, rfl, by decide +kernel, by decide +kernel⟩
theorem scWord : FnScope ["value", "words"] ["value", "words"] (defScope sWord) := ⟨rfl, rfl, rfl, by decide +kernel, rfl, by decide +kernel, by decide +kernel⟩
theorem scSides : FnScope ["value", "many", "letter"] ["value", "many"] (defScope sSides) := ⟨rfl, rfl, rfl, by decide +kernel, rfl, by decide +kernel, by decide +kernel⟩
theorem scWay : FnScope ["value", "many_bodies", "wards", "word", "body", "tie"] ["value", "many_bodies", "wards"] (defScope sWay) := ⟨rfl, rfl, rfl, by decide +kernel, rfl, by decide +kernel, by decide +kernel⟩
theorem scSeat : FnScope ["value", "many_bodies", "wards", "term", "phase", "way"] ["value", "many_bodies", "wards"] (defScope sSeat) := ⟨rfl, rfl, rfl, by decide +kernel, rfl, by decide +kernel, by decide +kernel⟩
/-- the module's constants -/
structure Cst (K : PySem.W.Frag) (mg : Str → Option Value) (pT : Addr) : Prop where
  TIES : mg "TIES" = some (.ref pT)
  ties : Dt K (fun _ => none) (.ref pT) (.tup (tiesL.map D.str))
  MOST_WARDS : ∃ t, mg "MOST_WARDS" = some (.int 4 t)
  MOST_BODIES : ∃ t, mg "MOST_BODIES" = some (.int 3 t)
  MOST_SEATS : ∃ t, mg "MOST_SEATS" = some (.int 9 t)
  MOST_TERM : ∃ t, mg "MOST_TERM" = some (.int 6 t)
  MOST_ROUND : ∃ t, mg "MOST_ROUND" = some (.int 12 t)
  MOST_ROWS : ∃ t, mg "MOST_ROWS" = some (.int 400 t)
  SIDES : ∃ u, mg "SIDES" = some u ∧ RelV (.str "ab") u
theorem pe_cstE {X : Cx} {x : Str} {n : Int} {pos : Pos} (hg : Gl X x) (hm : ∃ t, X.mg x = some (.int n t)) (hd : (x == ("__debug__" : Str)) = false := by decide) : PE X (.Name x pos) (tC (.int n)) := by
  obtain ⟨t, hm⟩ := hm
  exact pe_cst hg hm hd
theorem pe_cstS {X : Cx} {x z : Str} {pos : Pos} (hg : Gl X x) (hm : ∃ u, X.mg x = some u ∧ RelV (.str z) u) (hd : (x == ("__debug__" : Str)) = false := by decide) : PE X (.Name x pos) (tC (.str z)) := by
  obtain ⟨u, hm, r⟩ := hm
  exact pe_glob hg hm r hd
theorem mk_cref {K : PySem.W.Frag} {σ : Sg} {H : Hp} {p : Addr} {d : D} (h : Dt K (fun _ => none) (.ref p) d) : Mk K (tC (.ref p)) σ H d := fun H1 s Q q => q _ H1 Gr.rfl' (h.gr fun a o e => by cases e)
section
variable {P : Program} {w : World} {K : PySem.W.Frag} {mg : Str → Option Value} {base : Heap} {pT : Addr}
theorem ok_whole {f : Addr} {fd : FuncData} (F : L2.Fun K "is_whole" "is_whole" sWhole f fd) (B : Blt mg) (Z : Blt2 mg) : FnOk P w K mg base CX0 1 f fd ["value", "least", "most"] (spP K fWhole) := by
  refine F.ok scWhole (fun vs H Q E h => ?_) (fun cdv A outer s H vs Q E hr h => ?_)
  · obtain ⟨_, _, ha, ⟨i, a, b, rfl, _⟩, _⟩ := h
    exact ha.len
  · obtain ⟨_, _, ha, ⟨i, a, b, rfl, h1, h2, rfl⟩, k⟩ := h
    obtain ⟨v1, v2, v3, rfl, x1, x2, x3⟩ := ha.three
    refine ⟨_, (pss_one (ps_ret (pe_and (pe_callB call_isi (by rfl) B.isinstance PyProof.Rows.boot_isinstance (pa_cons (pv 0) (pa_cons (pe_bltn (v := .ty "int") (by rfl) Z.int (by decide +kernel) rfl) pa_nil))) (pe_and (pe_not (pe_callB call_isi (by rfl) B.isinstance PyProof.Rows.boot_isinstance (pa_cons (pv 0) (pa_cons (pe_bltn (v := .ty "bool") (by rfl) Z.bool (by decide +kernel) rfl) pa_nil)))) (pe_one (pe_chain op_le op_le (pv 1) (pv 0) (pv 2))))))), ?_⟩
    walk_at "st"
    refine mk_andV (mk_isi (mk_var rfl x1) rfl kInt) (fun _ => mk_andV (mk_notV (mk_isi (mk_var rfl x1) rfl kIntB)) fun _ => mk_chainI (mk_var rfl x2) (mk_var rfl x1) (mk_var rfl x3)) H Gr.rfl' _ fun v H1 s1 a1 => k v H1 s1 ?_
    rw [decide_eq_true h1, decide_eq_true h2] at a1
    exact a1
theorem ok_tup {f : Addr} {fd : FuncData} (F : L2.Fun K "is_tuple" "is_tuple" sTup f fd) (B : Blt mg) (Z : Blt2 mg) : FnOk P w K mg base CX0 1 f fd ["value", "least", "most"] (spP K fTuple) := by
  refine F.ok scTup (fun vs H Q E h => ?_) (fun cdv A outer s H vs Q E hr h => ?_)
  · obtain ⟨_, _, ha, ⟨i, a, b, rfl, _⟩, _⟩ := h
    exact ha.len
  · obtain ⟨_, _, ha, ⟨i, a, b, rfl, h1, h2, rfl⟩, k⟩ := h
    obtain ⟨v1, v2, v3, rfl, x1, x2, x3⟩ := ha.three
    refine ⟨_, (pss_one (ps_ret (pe_and (pe_callB call_isi (by rfl) B.isinstance PyProof.Rows.boot_isinstance (pa_cons (pv 0) (pa_cons (pe_bltn (v := .ty "tuple") (by rfl) Z.tuple (by decide +kernel) rfl) pa_nil))) (pe_one (pe_chain op_le op_le (pv 1) (pe_callB call_len_seq (by rfl) B.len PySem.boot_len (pa_cons (pv 0) pa_nil)) (pv 2)))))), ?_⟩
    walk_at "st"
    refine mk_andV (mk_isi (mk_var rfl x1) rfl kTup) (fun _ => mk_chainI (mk_var rfl x2) (mk_lenT (mk_var rfl x1)) (mk_var rfl x3)) H Gr.rfl' _ fun v H1 s1 a1 => k v H1 s1 ?_
    rw [decide_eq_true h1, decide_eq_true h2] at a1
    exact a1
theorem ok_word {f : Addr} {fd : FuncData} (F : L2.Fun K "is_word" "is_word" sWord f fd) (B : Blt mg) (Z : Blt2 mg) : FnOk P w K mg base CX0 1 f fd ["value", "words"] (spP K fWord) := by
  refine F.ok scWord (fun vs H Q E h => ?_) (fun cdv A outer s H vs Q E hr h => ?_)
  · obtain ⟨_, _, ha, ⟨x, ws, rfl, _⟩, _⟩ := h
    exact ha.len
  · obtain ⟨_, _, ha, ⟨x, ws, rfl, h1, rfl⟩, k⟩ := h
    obtain ⟨v1, v2, rfl, x1, x2⟩ := ha.two
    refine ⟨_, (pss_one (ps_ret (pe_and (pe_callB call_isi (by rfl) B.isinstance PyProof.Rows.boot_isinstance (pa_cons (pv 0) (pa_cons (pe_bltn (v := .ty "str") (by rfl) Z.str (by decide +kernel) rfl) pa_nil))) (pe_one (pe_cmpR op_in_seq (pv 0) (pv 1) rfl))))), ?_⟩
    walk_at "st"
    refine mk_andV (mk_isi (mk_var rfl x1) rfl kStr) (fun _ => mk_inT (mk_var rfl x1) (mk_var rfl x2)) H Gr.rfl' _ fun v H1 s1 a1 => k v H1 s1 ?_
    have e : ws.any (fun y => y == x) = true := List.any_eq_true.mpr ⟨x, h1, beq_self_eq_true x⟩
    rw [e] at a1
    exact a1
theorem mk_inSg {K : PySem.W.Frag} {σ : Sg} {H : Hp} {ta tb : TE} {b : Bool} (h : Mk K ta σ H (.str ⟨#[sideC b]⟩)) (h2 : Mk K tb σ H (.str (Str.ofString "ab"))) :
    Mk K (tOp (fun x y H Q => ∃ (c : Nat) (z : Str), x = .str ⟨#[c]⟩ ∧ y = .str z ∧ Q (.bl (decide (c ∈ z.cps.toList))) H) ta tb) σ H (.bl true) := fun H1 s Q q => h H1 s _ fun v H2 s2 a => h2 H2 (s.trans s2) _ fun u H3 s3 c => by
  cases a
  cases c
  refine ⟨sideC b, _, rfl, rfl, ?_⟩
  rw [side_in b]
  exact q _ H3 (s2.trans s3) (.bl true)
theorem ok_sides {f : Addr} {fd : FuncData} (F : L2.Fun K "is_sides" "is_sides" sSides f fd) (B : Blt mg) (Z : Blt2 mg) : FnOk P w K mg base CX0 1 f fd ["value", "many"] (spP K fSides) := by
  refine F.ok scSides (fun vs H Q E h => ?_) (fun cdv A outer s H vs Q E hr h => ?_)
  · obtain ⟨_, _, ha, ⟨l, rfl, _⟩, _⟩ := h
    exact ha.len
  · obtain ⟨_, _, ha, ⟨l, rfl, hl, rfl⟩, k⟩ := h
    obtain ⟨v1, v2, rfl, x1, x2⟩ := ha.two
    refine ⟨_, (pss_cons (ps_if (PW.pt (pw_or (pt_not (pt_val (pe_callB call_isi (by rfl) B.isinstance PyProof.Rows.boot_isinstance (pa_cons (pv 0) (pa_cons (pe_bltn (v := .ty "str") (by rfl) Z.str (by decide +kernel) rfl) pa_nil))))) (pw_or1 (pt_cmpR op_ne (pe_callB call_len_str (by rfl) B.len PySem.boot_len (pa_cons (pv 0) pa_nil)) (pv 1) (nomark _))))) (pss_one (ps_ret pe_bl)) pss_nil)
  (pss_one (ps_ret (pe_callB (cr_all rfl) (by rfl) Z.all (by decide +kernel) (pa_cons (pe_lc (own := [("letter", 2)]) (g := gName 2) (tt := tYes) rfl scSides.nd (pi_str (pv 0)) (blkOk_by (N := ["value", "many", "letter"]) (sc := defScope sSides) (by decide +kernel)) (fun _ _ _ _ _ => pg_name (i := 2) scSides.nd rfl (Or.inl rfl)) (fun _ _ _ _ _ => pts_nil) (fun _ _ _ _ _ => (pe_cmpR op_in_sign (pv 2) pe_str rfl))) pa_nil))))), ?_⟩
    walk_at "st"
    have t0 := mt_test (mk_neI (mk_lenS (mk_var (n := 0) (σ := L2.start ["value", "many", "letter"] [v1, v2]) rfl x1) (by rw [sideS_len]; omega)) (mk_var (n := 1) rfl x2))
    rw [show (!decide (((sideS l).length : Int) = (l.length : Int))) = false by rw [sideS_len, decide_eq_true rfl]; rfl] at t0
    refine (mt_or (mt_not (mt_B (mk_isi (mk_var rfl x1) rfl kStr)) : MkT _ _ H false) t0) H Gr.rfl' _ fun H1 s1 => ?_
    refine iteF ?_
    walk_at "st"
    have y1 := x1.gr s1
    have lc := mk_lcS (K := K) (σ := L2.start ["value", "many", "letter"] [v1, v2]) (H := H1) (i := 2) (g := fun _ => D.bl true) (fun _ => rfl) (mk_var (n := 0) rfl y1) hl fun b H2 s2 => mk_inSg (mk_var (n := 2) rfl (.str ⟨#[sideC b]⟩)) mk_str
    have al := mk_all (bs := l.map fun _ => true) (by rw [List.map_map]; exact lc)
    refine al H1 Gr.rfl' _ fun v H2 s2 a2 => k v H2 (s1.trans s2) ?_
    rw [show (l.map fun _ => true).all id = true by simp] at a2
    exact a2
theorem ok_way {f fT fW fN : Addr} {fd fdT fdW fdN : FuncData} (F : L2.Fun K "is_way" "is_way" sWay f fd) (B : Blt mg) (Z : Blt2 mg) (C : Cst K mg pT)
    (dis_tuple : Dok P w K mg base 1 "is_tuple" ["value", "least", "most"] (spP K fTuple) fT fdT) (dis_word : Dok P w K mg base 1 "is_word" ["value", "words"] (spP K fWord) fW fdW) (dis_whole : Dok P w K mg base 1 "is_whole" ["value", "least", "most"] (spP K fWhole) fN fdN) :
    FnOk P w K mg base CX0 2 f fd ["value", "many_bodies", "wards"] (spP K fWay) := by
  refine F.ok scWay (fun vs H Q E h => ?_) (fun cdv A outer s H vs Q E hr h => ?_)
  · obtain ⟨_, _, ha, ⟨x, n, m, rfl, _⟩, _⟩ := h
    exact ha.len
  · obtain ⟨_, _, ha, ⟨x, n, m, rfl, h1, rfl⟩, k⟩ := h
    obtain ⟨v1, v2, v3, rfl, x1, x2, x3⟩ := ha.three
    refine ⟨_, (pss_cons (ps_if (pt_not (pt_val (pe_call dis_tuple.G (hr.mono (by decide)) rfl dis_tuple.g dis_tuple.k dis_tuple.b .nil pass0 (pa_cons (pv 0) (pa_cons pe_int (pa_cons pe_int pa_nil)))))) (pss_one (ps_ret pe_bl)) pss_nil)
  (pss_cons (ps_if (pt_cmpR op_eq (pe_callB call_len_seq (by rfl) B.len PySem.boot_len (pa_cons (pv 0) pa_nil)) pe_int (nomark _)) (pss_one (ps_ret (pe_call dis_word.G (hr.mono (by decide)) rfl dis_word.g dis_word.k dis_word.b .nil pass0 (pa_cons (pe_ix ix_tup (pv 0) pe_int (fun _ _ => rfl)) (pa_cons (pe_tup (pa_cons pe_str pa_nil)) pa_nil))))) pss_nil)
  (pss_cons (ps_if (pt_cmpR op_eq (pe_callB call_len_seq (by rfl) B.len PySem.boot_len (pa_cons (pv 0) pa_nil)) pe_int (nomark _)) (pss_one (ps_ret (pe_and (pe_call dis_word.G (hr.mono (by decide)) rfl dis_word.g dis_word.k dis_word.b .nil pass0 (pa_cons (pe_ix ix_tup (pv 0) pe_int (fun _ _ => rfl)) (pa_cons (pe_tup (pa_cons pe_str pa_nil)) pa_nil))) (pe_one (pe_call dis_whole.G (hr.mono (by decide)) rfl dis_whole.g dis_whole.k dis_whole.b .nil pass0 (pa_cons (pe_ix ix_tup (pv 0) pe_int (fun _ _ => rfl)) (pa_cons pe_int (pa_cons (pe_op op_sub (pv 2) pe_int) pa_nil)))))))) pss_nil)
  (pss_cons (ps_asg (pv 0) (pg_tup rfl (pgs_cons (pg_name (i := 3) scWay.nd rfl (Or.inl rfl)) (pgs_cons (pg_name (i := 4) scWay.nd rfl (Or.inl rfl)) (pgs_cons (pg_name (i := 5) scWay.nd rfl (Or.inl rfl)) pgs_nil)))))
  (pss_cons (ps_if (PW.pt (pw_or (pt_not (pt_val (pe_call dis_word.G (hr.mono (by decide)) rfl dis_word.g dis_word.k dis_word.b .nil pass0 (pa_cons (pv 3) (pa_cons (pe_tup (pa_cons pe_str (pa_cons pe_str pa_nil))) pa_nil))))) (pw_or1 (pt_not (pt_val (pe_call dis_word.G (hr.mono (by decide)) rfl dis_word.g dis_word.k dis_word.b .nil pass0 (pa_cons (pv 5) (pa_cons (pe_cstR rfl C.TIES) pa_nil)))))))) (pss_one (ps_ret pe_bl)) pss_nil)
  (pss_one (ps_ret (pe_call dis_whole.G (hr.mono (by decide)) rfl dis_whole.g dis_whole.k dis_whole.b .nil pass0 (pa_cons (pv 4) (pa_cons pe_int (pa_cons (pe_op op_sub (pv 1) pe_int) pa_nil))))))))))), ?_⟩
    have vis : ∀ {xs : List D}, Dt K H v1 (.tup xs) → 1 ≤ xs.length → xs.length ≤ 3 → MkT (tNot (tB (tCall (spP K fTuple) [] E0 (tCons (tVar 0) (tCons (tC (.int 1)) (tCons (tC (.int 3)) tNil)))))) (L2.start ["value", "many_bodies", "wards", "word", "body", "tie"] [v1, v2, v3]) H false := fun y a b =>
      mt_not (mt_B (mk_call (r := .bl true) (mka_cons (mk_var rfl y) (mka_cons mk_int (mka_cons mk_int mka_nil))) ⟨_, _, _, rfl, by omega, by omega, rfl⟩))
    have len : ∀ {xs : List D} {H1 : Hp} {j : Int}, Dt K H1 v1 (.tup xs) → MkT (tTest (tOp rEq (tCB (fun xs H Q => ∃ p ys, xs = [.ref p] ∧ (SqL K H p ys ∨ SqT K H p ys) ∧ Q (.int ys.length) H) (tCons (tVar 0) tNil)) (tC (.int j)))) (L2.start ["value", "many_bodies", "wards", "word", "body", "tie"] [v1, v2, v3]) H1 (decide ((xs.length : Int) = j)) := fun y =>
      mt_test (mk_eqI (mk_lenT (mk_var rfl y)) mk_int)
    cases x with
    | kept =>
      walk_at "st"
      refine vis x1 (by simp) (by simp) H Gr.rfl' _ fun H1 s1 => iteF ?_
      have y1 := x1.gr s1
      walk_at "st"
      refine (len (j := 1) y1) H1 Gr.rfl' _ fun H2 s2 => iteT ?_
      have z1 := y1.gr s2
      walk_at "st"
      exact mk_call (r := .bl true) (mka_cons (mk_ixT (i := 0) (mk_var rfl z1) mk_int rfl) (mka_cons (mk_tup (mka_cons mk_str mka_nil) (show 1 ≤ 100000 by decide)) mka_nil)) ⟨_, ["kept"], rfl, by simp, rfl⟩ H2 Gr.rfl' _ fun v H3 s3 a => k v H3 ((s1.trans s2).trans s3) a
    | ward w0 =>
      have hw : w0 < m := h1
      walk_at "st"
      refine vis x1 (by simp) (by simp) H Gr.rfl' _ fun H1 s1 => iteF ?_
      have y1 := x1.gr s1
      walk_at "st"
      refine (len (j := 1) y1) H1 Gr.rfl' _ fun H2 s2 => iteF ?_
      have z1 := y1.gr s2
      walk_at "st"
      refine (len (j := 2) z1) H2 Gr.rfl' _ fun H3 s3 => iteT ?_
      have u1 := z1.gr s3
      have u3 := x3.gr ((s1.trans s2).trans s3)
      walk_at "st"
      refine mk_andV (a := true) (b := true) (mk_call (r := .bl true) (mka_cons (mk_ixT (i := 0) (mk_var rfl u1) mk_int rfl) (mka_cons (mk_tup (mka_cons mk_str mka_nil) (show 1 ≤ 100000 by decide)) mka_nil)) ⟨_, ["ward"], rfl, by simp, rfl⟩) (fun _ =>
        mk_call (r := .bl true) (mka_cons (mk_ixT (i := 1) (mk_var rfl u1) mk_int rfl) (mka_cons mk_int (mka_cons (mk_I0 (mk_var rfl u3) mk_int) mka_nil))) ⟨_, _, _, rfl, by omega, by omega, rfl⟩) H3 Gr.rfl' _ fun v H4 s4 a => k v H4 (((s1.trans s2).trans s3).trans s4) a
    | body b0 t0 =>
      obtain ⟨hb, ht⟩ := h1
      walk_at "st"
      refine vis x1 (by simp) (by simp) H Gr.rfl' _ fun H1 s1 => iteF ?_
      have y1 := x1.gr s1
      walk_at "st"
      refine (len (j := 1) y1) H1 Gr.rfl' _ fun H2 s2 => iteF ?_
      have z1 := y1.gr s2
      walk_at "st"
      refine (len (j := 2) z1) H2 Gr.rfl' _ fun H3 s3 => iteF ?_
      have u1 := z1.gr s3
      have u2 := x2.gr ((s1.trans s2).trans s3)
      walk_at "rd"
      refine r_unp3 u1 fun w1 w2 w3 e1 e2 e3 => ?_
      walk_at "st"
      refine (mt_or (mt_not (mt_B (mk_call (r := .bl true) (mka_cons (mk_var rfl e1) (mka_cons (mk_tup (mka_cons mk_str (mka_cons mk_str mka_nil)) (show 2 ≤ 100000 by decide)) mka_nil)) ⟨_, ["body", "rest"], rfl, by simp, rfl⟩)) : MkT _ _ H3 false)
        (mt_not (mt_B (mk_call (r := .bl true) (mka_cons (mk_var rfl e3) (mka_cons (mk_cref C.ties) mka_nil)) ⟨_, tiesL, rfl, ht, rfl⟩)) : MkT _ _ H3 false)) H3 Gr.rfl' _ fun H4 s4 => iteF ?_
      walk_at "st"
      exact mk_call (r := .bl true) (mka_cons (mk_var rfl (e2.gr s4)) (mka_cons mk_int (mka_cons (mk_I0 (mk_var rfl (u2.gr s4)) mk_int) mka_nil))) ⟨_, _, _, rfl, by omega, by omega, rfl⟩ H4 Gr.rfl' _ fun v H5 s5 a => k v H5 ((((s1.trans s2).trans s3).trans s4).trans s5) a
    | rest b0 t0 =>
      obtain ⟨hb, ht⟩ := h1
      walk_at "st"
      refine vis x1 (by simp) (by simp) H Gr.rfl' _ fun H1 s1 => iteF ?_
      have y1 := x1.gr s1
      walk_at "st"
      refine (len (j := 1) y1) H1 Gr.rfl' _ fun H2 s2 => iteF ?_
      have z1 := y1.gr s2
      walk_at "st"
      refine (len (j := 2) z1) H2 Gr.rfl' _ fun H3 s3 => iteF ?_
      have u1 := z1.gr s3
      have u2 := x2.gr ((s1.trans s2).trans s3)
      walk_at "rd"
      refine r_unp3 u1 fun w1 w2 w3 e1 e2 e3 => ?_
      walk_at "st"
      refine (mt_or (mt_not (mt_B (mk_call (r := .bl true) (mka_cons (mk_var rfl e1) (mka_cons (mk_tup (mka_cons mk_str (mka_cons mk_str mka_nil)) (show 2 ≤ 100000 by decide)) mka_nil)) ⟨_, ["body", "rest"], rfl, by simp, rfl⟩)) : MkT _ _ H3 false)
        (mt_not (mt_B (mk_call (r := .bl true) (mka_cons (mk_var rfl e3) (mka_cons (mk_cref C.ties) mka_nil)) ⟨_, tiesL, rfl, ht, rfl⟩)) : MkT _ _ H3 false)) H3 Gr.rfl' _ fun H4 s4 => iteF ?_
      walk_at "st"
      exact mk_call (r := .bl true) (mka_cons (mk_var rfl (e2.gr s4)) (mka_cons mk_int (mka_cons (mk_I0 (mk_var rfl (u2.gr s4)) mk_int) mka_nil))) ⟨_, _, _, rfl, by omega, by omega, rfl⟩ H4 Gr.rfl' _ fun v H5 s5 a => k v H5 ((((s1.trans s2).trans s3).trans s4).trans s5) a
theorem ok_seat {f fT fW fN : Addr} {fd fdT fdW fdN : FuncData} (F : L2.Fun K "is_seat" "is_seat" sSeat f fd) (C : Cst K mg pT)
    (dis_tuple : Dok P w K mg base 1 "is_tuple" ["value", "least", "most"] (spP K fTuple) fT fdT) (dis_way : Dok P w K mg base 2 "is_way" ["value", "many_bodies", "wards"] (spP K fWay) fW fdW) (dis_whole : Dok P w K mg base 1 "is_whole" ["value", "least", "most"] (spP K fWhole) fN fdN) :
    FnOk P w K mg base CX0 3 f fd ["value", "many_bodies", "wards"] (spP K fSeat) := by
  refine F.ok scSeat (fun vs H Q E h => ?_) (fun cdv A outer s H vs Q E hr h => ?_)
  · obtain ⟨_, _, ha, ⟨x, n, m, rfl, _⟩, _⟩ := h
    exact ha.len
  · obtain ⟨_, _, ha, ⟨x, n, m, rfl, h1, rfl⟩, k⟩ := h
    obtain ⟨v1, v2, v3, rfl, x1, x2, x3⟩ := ha.three
    obtain ⟨t1, t6, hp, hw⟩ := h1
    refine ⟨_, (pss_cons (ps_if (pt_not (pt_val (pe_call dis_tuple.G (hr.mono (by decide)) rfl dis_tuple.g dis_tuple.k dis_tuple.b .nil pass0 (pa_cons (pv 0) (pa_cons pe_int (pa_cons pe_int pa_nil)))))) (pss_one (ps_ret pe_bl)) pss_nil)
  (pss_cons (ps_asg (pv 0) (pg_tup rfl (pgs_cons (pg_name (i := 3) scSeat.nd rfl (Or.inl rfl)) (pgs_cons (pg_name (i := 4) scSeat.nd rfl (Or.inl rfl)) (pgs_cons (pg_name (i := 5) scSeat.nd rfl (Or.inl rfl)) pgs_nil)))))
  (pss_cons (ps_if (PW.pt (pw_or (pt_not (pt_val (pe_call dis_whole.G (hr.mono (by decide)) rfl dis_whole.g dis_whole.k dis_whole.b .nil pass0 (pa_cons (pv 3) (pa_cons pe_int (pa_cons (pe_cstE rfl C.MOST_TERM) pa_nil)))))) (pw_or1 (pt_not (pt_val (pe_call dis_whole.G (hr.mono (by decide)) rfl dis_whole.g dis_whole.k dis_whole.b .nil pass0 (pa_cons (pv 4) (pa_cons pe_int (pa_cons (pe_op op_sub (pv 3) pe_int) pa_nil))))))))) (pss_one (ps_ret pe_bl)) pss_nil)
  (pss_one (ps_ret (pe_call dis_way.G (hr.mono (by decide)) rfl dis_way.g dis_way.k dis_way.b .nil pass0 (pa_cons (pv 5) (pa_cons (pv 1) (pa_cons (pv 2) pa_nil))))))))), ?_⟩
    walk_at "st"
    refine (mt_not (mt_B (mk_call (r := .bl true) (mka_cons (mk_var rfl x1) (mka_cons mk_int (mka_cons mk_int mka_nil))) ⟨_, _, _, rfl, by simp, by simp, rfl⟩)) : MkT _ _ H false) H Gr.rfl' _ fun H1 s1 => iteF ?_
    walk_at "rd"
    refine r_unp3 (x1.gr s1) fun w1 w2 w3 e1 e2 e3 => ?_
    walk_at "st"
    refine (mt_or (mt_not (mt_B (mk_call (r := .bl true) (mka_cons (mk_var rfl e1) (mka_cons mk_int (mka_cons mk_int mka_nil))) ⟨_, _, _, rfl, by omega, by omega, rfl⟩)) : MkT _ _ H1 false)
      (mt_not (mt_B (mk_call (r := .bl true) (mka_cons (mk_var rfl e2) (mka_cons mk_int (mka_cons (mk_I0 (mk_var rfl e1) mk_int) mka_nil))) ⟨_, _, _, rfl, by omega, by omega, rfl⟩)) : MkT _ _ H1 false)) H1 Gr.rfl' _ fun H2 s2 => iteF ?_
    walk_at "st"
    exact mk_call (r := .bl true) (mka_cons (mk_var rfl (e3.gr s2)) (mka_cons (mk_var rfl (x2.gr (s1.trans s2))) (mka_cons (mk_var rfl (x3.gr (s1.trans s2))) mka_nil))) ⟨x.way, n, m, rfl, hw, rfl⟩ H2 Gr.rfl' _ fun v H3 s3 a => k v H3 ((s1.trans s2).trans s3) a
end
end TSx

namespace TSx
open PySem L2
local macro_rules | `(tactic| walk_at "rd") => `(tactic| repeat (first
  | ((with_reducible show tVar _ _ _ _); refine r_v rfl ?_)
  | with_reducible refine r_c ?_
  | with_reducible refine r_op ?_
  | with_reducible refine r_I0 ?_
  | with_reducible refine r_cb ?_
  | with_reducible refine r_nil ?_
  | with_reducible refine r_cons ?_
  | with_reducible refine r_seq ?_
  | with_reducible refine r_next ?_
  | with_reducible refine r_asg ?_
  | with_reducible refine r_name ?_
  | with_reducible refine r_ret ?_
  | with_reducible refine r_drop ?_
  | with_reducible refine r_if ?_
  | with_reducible refine r_test ?_
  | with_reducible refine r_bl ?_
  | with_reducible refine r_call ?_))
local macro_rules | `(tactic| walk_at "st") => `(tactic| repeat (first
  | with_reducible refine r_seq ?_
  | with_reducible refine r_next ?_
  | with_reducible refine r_asg ?_
  | with_reducible refine r_name ?_
  | with_reducible refine r_ret ?_
  | with_reducible refine r_drop ?_
  | with_reducible refine r_if ?_))
local macro_rules | `(tactic| walk_at "mk") => `(tactic| repeat (first
  | with_reducible exact mk_non
  | with_reducible exact mk_int
  | with_reducible exact mk_str
  | with_reducible exact mk_bl
  | with_reducible exact mk_dic
  | with_reducible exact mka_nil
  | with_reducible refine mka_cons ?_ ?_
  | ((with_reducible refine mk_tup ?_ ?hz); (case hz => decide))
  | ((with_reducible refine mk_lst ?_ ?hz); (case hz => decide))
  | with_reducible refine mk_neg ?_))
abbrev sNB : Stmt := top 20
abbrev sCT : Stmt := top 21
abbrev sNH : Stmt := top 19
abbrev sNS : Stmt := top 23
theorem scNB : FnScope ["body", "number", "many_bodies", "wards", "place", "seat"] ["body", "number", "many_bodies", "wards"] (defScope sNB) := ⟨rfl, rfl, rfl, by decide +kernel, rfl, by decide +kernel, by decide +kernel⟩
theorem scCT : FnScope ["bodies", "common", "body", "seat"] ["bodies"] (defScope sCT) := ⟨rfl, rfl, rfl, by decide +kernel, rfl, by decide +kernel, by decide +kernel⟩
theorem scNH : FnScope ["house", "bodies", "wards", "number", "body"] ["house"] (defScope sNH) := ⟨rfl, rfl, rfl, by decide +kernel, rfl, by decide +kernel, by decide +kernel⟩
theorem scNS : FnScope ["house", "stand"] ["house", "stand"] (defScope sNS) := ⟨rfl, rfl, rfl, by decide +kernel, rfl, by decide +kernel, by decide +kernel⟩
def fNeedBody (ds : List D) (r : D) : Prop := ∃ (b : List Seat) (i n wards : Nat), ds = [bodyD b, .int i, .int n, .int wards] ∧ 1 ≤ b.length ∧ b.length ≤ 9 ∧ (∀ s ∈ b, s.ok n wards) ∧ r = .non
def fCommon (ds : List D) (r : D) : Prop := ∃ bs : List (List Seat), ds = [.tup (bs.map bodyD)] ∧ (∀ b ∈ bs, ∀ s ∈ b, 1 ≤ s.term ∧ s.term ≤ 6) ∧ r = .int (bs.foldl lcmB 1 : Nat)
def fHouse (ds : List D) (r : D) : Prop := ∃ h : House, ds = [h.d] ∧ h.ok ∧ r = h.d
/-- a stand's data -/
def standD (s : List (List Bool)) : D := .tup (s.map fun l => .str (sideS l))
def Fits (h : House) (s : List (List Bool)) : Prop := s.map List.length = h.bodies.map List.length
def fStand (ds : List D) (r : D) : Prop := ∃ (h : House) (s : List (List Bool)), ds = [h.d, standD s] ∧ h.ok ∧ Fits h s ∧ r = standD s
def fNumber (ds : List D) (r : D) : Prop := ∃ i : Int, ds = [.int i] ∧ 0 ≤ i ∧ i ≤ 10 ^ 30 ∧ r = .int i
def fChoices (ds : List D) (r : D) : Prop := ∃ (h : House) (c : List Bool), ds = [h.d, .str (sideS c)] ∧ c.length = h.wards ∧ c.length ≤ 1000 ∧ r = .str (sideS c)
theorem lcm_60 {c t : Nat} (hc : c ∣ 60) (h1 : 1 ≤ t) (h6 : t ≤ 6) : (Nat.lcm 1 c).lcm t ∣ 60 := by
  rw [Nat.lcm_one_left]
  refine Nat.lcm_dvd hc ?_
  have : t = 1 ∨ t = 2 ∨ t = 3 ∨ t = 4 ∨ t = 5 ∨ t = 6 := by omega
  rcases this with rfl | rfl | rfl | rfl | rfl | rfl <;> decide
theorem lcmB_60 {b : List Seat} : ∀ {c : Nat}, c ∣ 60 → (∀ s ∈ b, 1 ≤ s.term ∧ s.term ≤ 6) → lcmB c b ∣ 60 := by
  induction b with
  | nil => intro c h _; exact h
  | cons s l ih =>
    intro c h a
    have q := a s (List.mem_cons_self ..)
    exact ih (lcm_60 h q.1 q.2) fun x hx => a x (List.mem_cons_of_mem _ hx)
theorem log60 {c : Nat} (h : c ∣ 60) : ((c : Int)).natAbs.log2 < bitsLine := by
  have : c ≤ 60 := Nat.le_of_dvd (by decide) h
  show (c : Nat).log2 < 2 ^ 27
  by_cases z : c = 0
  · rw [z]; decide
  · exact Nat.lt_of_lt_of_le ((Nat.log2_lt z).mpr (Nat.lt_of_le_of_lt this (by decide : 60 < 2 ^ 6))) (by decide)
section
variable {P : Program} {w : World} {K : PySem.W.Frag} {mg : Str → Option Value} {base : Heap} {pT : Addr}
theorem ok_NB {f fT fS : Addr} {fd fdT fdS : FuncData} (F : L2.Fun K "_need_seats" "_need_seats" sNB f fd) (B : Blt mg) (C : Cst K mg pT)
    (dis_tuple : Dok P w K mg base 1 "is_tuple" ["value", "least", "most"] (spP K fTuple) fT fdT) (dis_seat : Dok P w K mg base 3 "is_seat" ["value", "many_bodies", "wards"] (spP K fSeat) fS fdS) :
    FnOk P w K mg base CX0 4 f fd ["body", "number", "many_bodies", "wards"] (spP K fNeedBody) := by
  refine F.ok scNB (fun vs H Q E h => ?_) (fun cdv A outer s H vs Q E hr h => ?_)
  · obtain ⟨_, _, ha, ⟨x, i, n, m, rfl, _⟩, _⟩ := h
    exact ha.len
  · obtain ⟨_, _, ha, ⟨x, i, n, m, rfl, l1, l9, hs, rfl⟩, k⟩ := h
    obtain ⟨v1, v2, v3, v4, rfl, x1, x2, x3, x4⟩ := ha.four
    refine ⟨_, (pss_cons (ps_if (pt_not (pt_val (pe_call dis_tuple.G (hr.mono (by decide)) rfl dis_tuple.g dis_tuple.k dis_tuple.b .nil pass0 (pa_cons (pv 0) (pa_cons pe_int (pa_cons (pe_cstE rfl C.MOST_SEATS) pa_nil)))))) (pss_one ps_never) pss_nil)
  (pss_one (ps_for PassesOwn.never rfl (pi_enumT (by rfl) B.enumerate (pa_cons (pv 0) pa_nil)) (pg_tup rfl (pgs_cons (pg_name (i := 4) scNB.nd rfl (Or.inl rfl)) (pgs_cons (pg_name (i := 5) scNB.nd rfl (Or.inl rfl)) pgs_nil)))
  (pss_one (ps_if (pt_not (pt_val (pe_call dis_seat.G (hr.mono (by decide)) rfl dis_seat.g dis_seat.k dis_seat.b .nil pass0 (pa_cons (pv 5) (pa_cons (pv 2) (pa_cons (pv 3) pa_nil)))))) (pss_one ps_never) pss_nil))))), ?_⟩
    walk_at "st"
    refine (mt_not (mt_B (mk_call (r := .bl true) (mka_cons (mk_var rfl x1) (mka_cons mk_int (mka_cons mk_int mka_nil))) ⟨_, _, _, rfl, by rw [List.length_map]; omega, by rw [List.length_map]; omega, rfl⟩)) : MkT _ _ H false) H Gr.rfl' _ fun H1 s1 => iteF ?_
    walk_at "st"
    refine r_forE (ds := x.map Seat.d) (ev_var rfl (x1.gr s1)) (fun j σ H' => ∃ o4 o5 : Option V, σ = [some v1, some v2, some v3, some v4, o4, o5] ∧ Same H1 H') ⟨_, _, rfl, Gr.rfl'⟩ (fun j σ' H' z => by obtain ⟨_, _, _, z⟩ := z; exact z) ?_ ?_
    · rintro j d T σ H2 H3 hj ⟨o4, o5, rfl, s2⟩ s3 aT
      obtain ⟨st, hst, rfl⟩ : ∃ st, st ∈ x ∧ st.d = d := by
        have := List.mem_of_getElem? hj
        simpa using this
      refine r_unp2 aT fun w1 w2 e1 e2 => ?_
      walk_at "st"
      have sX := s1.trans (s2.trans s3)
      refine (mt_not (mt_B (mk_call (r := .bl true) (mka_cons (mk_var rfl e2) (mka_cons (mk_var rfl (x3.gr sX)) (mka_cons (mk_var rfl (x4.gr sX)) mka_nil))) ⟨st, n, m, rfl, hs st hst, rfl⟩)) : MkT _ _ H3 false) H3 Gr.rfl' _ fun H4 s4 => iteF ?_
      walk_at "st"
      exact ⟨_, _, rfl, (s2.trans s3).trans s4⟩
    · rintro σ H2 ⟨o4, o5, rfl, s2⟩
      exact k .non H2 (s1.trans s2) .non
theorem ok_CT {f : Addr} {fd : FuncData} (F : L2.Fun K "common_term" "common_term" sCT f fd) (glcm : mg "lcm" = some (.builtin "math.lcm")) : FnOk P w K mg base CX0 1 f fd ["bodies"] (spP K fCommon) := by
  refine F.ok scCT (fun vs H Q E h => ?_) (fun cdv A outer s H vs Q E hr h => ?_)
  · obtain ⟨_, _, ha, ⟨bs, rfl, _⟩, _⟩ := h
    exact ha.len
  · obtain ⟨_, _, ha, ⟨bs, rfl, ht, rfl⟩, k⟩ := h
    obtain ⟨v1, rfl, x1⟩ := ha.one
    refine ⟨_, (pss_cons (ps_set (i := 1) scCT.nd rfl (Or.inl rfl) pe_int)
  (pss_cons (ps_for PassesOwn.never rfl (pi_tup (pv 0)) (pg_name (i := 2) scCT.nd rfl (Or.inl rfl))
  (pss_one (ps_for PassesOwn.never rfl (pi_tup (pv 2)) (pg_name (i := 3) scCT.nd rfl (Or.inl rfl))
  (pss_one (ps_set (i := 1) scCT.nd rfl (Or.inl rfl) (pe_callBfun cr_lcm rfl glcm (pa_cons (pv 1) (pa_cons (pe_ix ix_tup (pv 3) pe_int (fun _ _ => rfl)) pa_nil))))))))
  (pss_one (ps_ret (pv 1))))), ?_⟩
    walk_at "rd"
    have d60 : ∀ j, (bs.take j).foldl lcmB 1 ∣ 60 := fun j => by
      have gen : ∀ (l : List (List Seat)) (c : Nat), c ∣ 60 → (∀ b ∈ l, ∀ s ∈ b, 1 ≤ s.term ∧ s.term ≤ 6) → l.foldl lcmB c ∣ 60 := by
        intro l
        induction l with
        | nil => intro c h _; exact h
        | cons b l ih => intro c h a; exact ih _ (lcmB_60 h (a b (List.mem_cons_self ..))) fun x hx => a x (List.mem_cons_of_mem _ hx)
      exact gen _ 1 (by decide) fun b hb => ht b (List.mem_of_mem_take hb)
    refine r_forT (ds := bs.map bodyD) (ev_var rfl x1) (fun j σ H' => ∃ o2 o3 : Option V, σ = [some v1, some (.int ((bs.take j).foldl lcmB 1 : Nat)), o2, o3] ∧ H' = H) ⟨_, _, rfl, rfl⟩ (fun j σ' H' z => by obtain ⟨_, _, _, rfl⟩ := z; exact Gr.rfl') ?_ ?_
    · rintro j d y σ H1 hj ⟨o2, o3, rfl, rfl⟩ ay
      obtain ⟨b, hb, rfl⟩ : ∃ b, bs[j]? = some b ∧ bodyD b = d := by
        rw [List.getElem?_map] at hj
        cases q : bs[j]? with
        | none => rw [q] at hj; cases hj
        | some b => rw [q] at hj; cases hj; exact ⟨b, rfl, rfl⟩
      have tk : (bs.take (j + 1)).foldl lcmB 1 = lcmB ((bs.take j).foldl lcmB 1) b := by rw [List.take_add_one, hb, List.foldl_append]; rfl
      have c60 := d60 j
      generalize (bs.take j).foldl lcmB 1 = c at tk c60 ⊢
      have tb := ht b (List.mem_of_getElem? hb)
      refine r_forT (ds := b.map Seat.d) (ev_var rfl ay) (fun i σ H' => ∃ o3 : Option V, σ = [some v1, some (.int (lcmB c (b.take i) : Nat)), some y, o3] ∧ H' = H1) ⟨_, rfl, rfl⟩ (fun j σ' H' z => by obtain ⟨_, _, rfl⟩ := z; exact Gr.rfl') ?_ ?_
      · rintro i d z σ H2 hi ⟨o3, rfl, rfl⟩ az
        obtain ⟨st, hst, rfl⟩ : ∃ st, b[i]? = some st ∧ st.d = d := by
          rw [List.getElem?_map] at hi
          cases q : b[i]? with
          | none => rw [q] at hi; cases hi
          | some b => rw [q] at hi; cases hi; exact ⟨b, rfl, rfl⟩
        have t16 := tb st (List.mem_of_getElem? hst)
        have tk2 : lcmB c (b.take (i + 1)) = (Nat.lcm 1 (lcmB c (b.take i))).lcm st.term := by
          unfold lcmB
          rw [List.take_add_one, hst, List.foldl_append]
          rfl
        have e60 : lcmB c (b.take i) ∣ 60 := lcmB_60 c60 fun s hs => tb s (List.mem_of_mem_take hs)
        walk_at "st"
        refine r_cb (r_cons (r_v rfl (r_cons ?_)))
        obtain ⟨u, au, ku⟩ := ev_ixT (K := K) (ta := tVar 3) (tb := tC (.int 0)) (σ := [some v1, some (.int (lcmB c (b.take i) : Nat)), some y, some z]) (i := 0) (ev_var rfl az) ev_int (d := .int st.term) rfl
        refine ku _ (r_nil ?_)
        cases au
        have le : lcmB c (b.take i) ≤ 60 := Nat.le_of_dvd (by decide) e60
        have l60 := lcm_60 e60 t16.1 t16.2
        refine ⟨_, _, rfl, ?_, ?_, log60 l60, ?_⟩
        · show lcmB c (b.take i) < 2 ^ 64; omega
        · show st.term < 2 ^ 64; omega
        · walk_at "st"
          refine ⟨some z, ?_, rfl⟩
          rw [tk2]
          rfl
      · rintro σ H2 ⟨o3, rfl, rfl⟩
        rw [List.length_map, List.take_length]
        refine ⟨some y, o3, ?_, rfl⟩
        rw [tk]
    · rintro σ H1 ⟨o2, o3, rfl, rfl⟩
      rw [List.length_map, List.take_length]
      walk_at "rd"
      exact k _ _ Gr.rfl' (.int _)
theorem ok_NH {f fT fW fB fC : Addr} {fd fdT fdW fdB fdC : FuncData} (F : L2.Fun K "need_house" "need_house" sNH f fd) (B : Blt mg) (Z : Blt2 mg) (C : Cst K mg pT)
    (dis_tuple : Dok P w K mg base 1 "is_tuple" ["value", "least", "most"] (spP K fTuple) fT fdT) (dis_whole : Dok P w K mg base 1 "is_whole" ["value", "least", "most"] (spP K fWhole) fW fdW)
    (d_need_seats : Dok P w K mg base 4 "_need_seats" ["body", "number", "many_bodies", "wards"] (spP K fNeedBody) fB fdB) (dcommon_term : Dok P w K mg base 1 "common_term" ["bodies"] (spP K fCommon) fC fdC) :
    FnOk P w K mg base CX0 5 f fd ["house"] (spP K fHouse) := by
  refine F.ok scNH (fun vs H Q E h => ?_) (fun cdv A outer s H vs Q E hr h => ?_)
  · obtain ⟨_, _, ha, ⟨x, rfl, _⟩, _⟩ := h
    exact ha.len
  · obtain ⟨_, _, ha, ⟨h, rfl, ok, rfl⟩, k⟩ := h
    obtain ⟨v1, rfl, x1⟩ := ha.one
    have lb : (h.bodies.map bodyD).length = h.bodies.length := List.length_map ..
    have ok3 := ok.n3
    have ok1 := ok.n1
    have okw := ok.w
    refine ⟨_, (pss_cons (ps_if (pt_not (pt_val (pe_call dis_tuple.G (hr.mono (by decide)) rfl dis_tuple.g dis_tuple.k dis_tuple.b .nil pass0 (pa_cons (pv 0) (pa_cons pe_int (pa_cons pe_int pa_nil)))))) (pss_one ps_never) pss_nil)
  (pss_cons (ps_asg (pv 0) (pg_tup rfl (pgs_cons (pg_name (i := 1) scNH.nd rfl (Or.inl rfl)) (pgs_cons (pg_name (i := 2) scNH.nd rfl (Or.inl rfl)) pgs_nil))))
  (pss_cons (ps_if (pt_not (pt_val (pe_call dis_whole.G (hr.mono (by decide)) rfl dis_whole.g dis_whole.k dis_whole.b .nil pass0 (pa_cons (pv 2) (pa_cons pe_int (pa_cons (pe_cstE rfl C.MOST_WARDS) pa_nil)))))) (pss_one ps_never) pss_nil)
  (pss_cons (ps_if (pt_not (pt_val (pe_call dis_tuple.G (hr.mono (by decide)) rfl dis_tuple.g dis_tuple.k dis_tuple.b .nil pass0 (pa_cons (pv 1) (pa_cons pe_int (pa_cons (pe_cstE rfl C.MOST_BODIES) pa_nil)))))) (pss_one ps_never) pss_nil)
  (pss_cons (ps_for PassesOwn.never rfl (pi_enumT (by rfl) B.enumerate (pa_cons (pv 1) pa_nil)) (pg_tup rfl (pgs_cons (pg_name (i := 3) scNH.nd rfl (Or.inl rfl)) (pgs_cons (pg_name (i := 4) scNH.nd rfl (Or.inl rfl)) pgs_nil)))
  (pss_one (ps_expr (pe_call d_need_seats.G (hr.mono (by decide)) rfl d_need_seats.g d_need_seats.k d_need_seats.b .nil pass0 (pa_cons (pv 4) (pa_cons (pv 3) (pa_cons (pe_callB call_len_seq (by rfl) B.len PySem.boot_len (pa_cons (pv 1) pa_nil)) (pa_cons (pv 2) pa_nil))))))))
  (pss_cons (ps_if (pt_cmpR op_gt (pe_callB (cr_sum rfl) (by rfl) Z.sum (by decide +kernel) (pa_cons (pe_lc (own := [("body", 4)]) (g := gName 4) (tt := tYes) rfl scNH.nd (pi_tup (pv 1)) (blkOk_by (N := ["house", "bodies", "wards", "number", "body"]) (sc := defScope sNH) (by decide +kernel)) (fun _ _ _ _ _ => pg_name (i := 4) scNH.nd rfl (Or.inl rfl)) (fun _ _ _ _ _ => pts_nil) (fun _ _ _ _ _ => (pe_callB (call_lenK (K := K) rfl) (by rfl) B.len PySem.boot_len (pa_cons (pv 4) pa_nil)))) pa_nil)) (pe_cstE rfl C.MOST_SEATS) (nomark _)) (pss_one ps_never) pss_nil)
  (pss_cons (ps_if (pt_cmpR op_gt (pe_call dcommon_term.G (hr.mono (by decide)) rfl dcommon_term.g dcommon_term.k dcommon_term.b .nil pass0 (pa_cons (pv 1) pa_nil)) (pe_cstE rfl C.MOST_ROUND) (nomark _)) (pss_one ps_never) pss_nil)
  (pss_one (ps_ret (pv 0)))))))))), ?_⟩
    walk_at "st"
    refine (mt_not (mt_B (mk_call (r := .bl true) (mka_cons (mk_var rfl x1) (mka_cons mk_int (mka_cons mk_int mka_nil))) ⟨_, _, _, rfl, by simp, by simp, rfl⟩)) : MkT _ _ H false) H Gr.rfl' _ fun H1 s1 => iteF ?_
    walk_at "rd"
    refine r_unp2 (x1.gr s1) fun w1 w2 e1 e2 => ?_
    walk_at "st"
    refine (mt_not (mt_B (mk_call (r := .bl true) (mka_cons (mk_var rfl e2) (mka_cons mk_int (mka_cons mk_int mka_nil))) ⟨_, _, _, rfl, by omega, by omega, rfl⟩)) : MkT _ _ H1 false) H1 Gr.rfl' _ fun H2 s2 => iteF ?_
    walk_at "st"
    refine (mt_not (mt_B (mk_call (r := .bl true) (mka_cons (mk_var rfl (e1.gr s2)) (mka_cons mk_int (mka_cons mk_int mka_nil))) ⟨_, _, _, rfl, by omega, by omega, rfl⟩)) : MkT _ _ H2 false) H2 Gr.rfl' _ fun H3 s3 => iteF ?_
    walk_at "st"
    have y1 := (e1.gr s2).gr s3
    have y2 := (e2.gr s2).gr s3
    refine r_forE (ds := h.bodies.map bodyD) (ev_var rfl y1) (fun j σ H' => ∃ o3 o4 : Option V, σ = [some v1, some w1, some w2, o3, o4] ∧ Same H3 H') ⟨_, _, rfl, Gr.rfl'⟩ (fun j σ' H' z => by obtain ⟨_, _, _, z⟩ := z; exact z) ?_ ?_
    · rintro j d T σ H4 H5 hj ⟨o3, o4, rfl, s4⟩ s5 aT
      obtain ⟨b, hb, rfl⟩ : ∃ b, b ∈ h.bodies ∧ bodyD b = d := by
        have := List.mem_of_getElem? hj
        simpa using this
      refine r_unp2 aT fun u1 u2 f1 f2 => ?_
      walk_at "st"
      have sX := s4.trans s5
      have bb := ok.b b hb
      refine (mk_call (r := .non) (mka_cons (mk_var rfl f2) (mka_cons (mk_var rfl f1) (mka_cons (mk_lenT (mk_var rfl (y1.gr sX))) (mka_cons (mk_var rfl (y2.gr sX)) mka_nil)))) ⟨b, j, (h.bodies.map bodyD).length, h.wards, rfl, bb.1, bb.2, by rw [lb]; exact ok.s b hb, rfl⟩ : Mk K _ _ H5 .non) H5 Gr.rfl' _ fun v H6 s6 _ => ?_
      exact ⟨_, _, rfl, sX.trans s6⟩
    · rintro σ H4 ⟨o3, o4, rfl, s4⟩
      walk_at "st"
      have z1 := y1.gr s4
      have lens := mk_lcU (K := K) (σ := [some v1, some w1, some w2, o3, o4]) (H := H4) (i := 4) (ti := tVar 1) (te := tCB (fun xs H Q => ∃ p ys, xs = [.ref p] ∧ (SqL K H p ys ∨ SqT K H p ys) ∧ Q (.int ys.length) H) (tCons (tVar 4) tNil)) (ds := h.bodies.map bodyD) (f := fun d => match d with | .tup xs => .int xs.length | d => .non)
        (fun H5 s5 => ev_var rfl (z1.gr s5)) (fun d hd => by obtain ⟨b, _, rfl⟩ := List.mem_map.mp hd; rfl) (by omega) (fun d hd x H5 s5 ax => by
          obtain ⟨b, _, rfl⟩ := List.mem_map.mp hd
          exact mk_lenT (mk_var (n := 4) rfl ax))
      have sm := mk_sum (ns := h.bodies.map fun b => (b.length : Int)) (by
        have e : (h.bodies.map bodyD).map (fun d => match d with | .tup xs => (D.int xs.length) | d => .non) = (h.bodies.map fun b => (b.length : Int)).map D.int := by
          rw [List.map_map, List.map_map]
          refine List.map_congr_left fun b _ => ?_
          show D.int ((b.map Seat.d).length : Nat) = _
          rw [List.length_map]
          rfl
        rw [← e]
        exact lens)
      have t1 := mt_test (mk_I0b (g := fun i j => decide (i > j)) sm (mk_int (i := 9)))
      rw [show decide ((h.bodies.map fun b => (b.length : Int)).sum > 9) = false from decide_eq_false (by have := ok.sum; omega)] at t1
      refine t1 H4 Gr.rfl' _ fun H5 s5 => iteF ?_
      walk_at "st"
      have cm := mk_call (K := K) (f := fCommon) (σ := [some v1, some w1, some w2, o3, o4]) (r := .int (lcmH h : Nat)) (mka_cons (mk_var (n := 1) rfl (z1.gr s5)) mka_nil) ⟨h.bodies, rfl, fun b hb s hs => ⟨(ok.s b hb s hs).t1, (ok.s b hb s hs).t6⟩, rfl⟩
      have t2 := mt_test (mk_I0b (g := fun i j => decide (i > j)) cm (mk_int (i := 12)))
      rw [show decide (((lcmH h : Nat) : Int) > 12) = false from decide_eq_false (by have := ok.lc; omega)] at t2
      refine t2 H5 Gr.rfl' _ fun H6 s6 => iteF ?_
      walk_at "rd"
      have sAll := ((((s1.trans s2).trans s3).trans s4).trans s5).trans s6
      exact k v1 H6 sAll (x1.gr sAll)
end
end TSx

namespace TSx
open PySem L2
local macro_rules | `(tactic| walk_at "rd") => `(tactic| repeat (first
  | ((with_reducible show tVar _ _ _ _); refine r_v rfl ?_)
  | with_reducible refine r_c ?_
  | with_reducible refine r_op ?_
  | with_reducible refine r_I0 ?_
  | with_reducible refine r_cb ?_
  | with_reducible refine r_nil ?_
  | with_reducible refine r_cons ?_
  | with_reducible refine r_seq ?_
  | with_reducible refine r_next ?_
  | with_reducible refine r_asg ?_
  | with_reducible refine r_name ?_
  | with_reducible refine r_ret ?_
  | with_reducible refine r_drop ?_
  | with_reducible refine r_if ?_
  | with_reducible refine r_test ?_
  | with_reducible refine r_bl ?_
  | with_reducible refine r_call ?_))
local macro_rules | `(tactic| walk_at "st") => `(tactic| repeat (first
  | with_reducible refine r_seq ?_
  | with_reducible refine r_next ?_
  | with_reducible refine r_asg ?_
  | with_reducible refine r_name ?_
  | with_reducible refine r_ret ?_
  | with_reducible refine r_drop ?_
  | with_reducible refine r_if ?_))
local macro_rules | `(tactic| walk_at "mk") => `(tactic| repeat (first
  | with_reducible exact mk_non
  | with_reducible exact mk_int
  | with_reducible exact mk_str
  | with_reducible exact mk_bl
  | with_reducible exact mk_dic
  | with_reducible exact mka_nil
  | with_reducible refine mka_cons ?_ ?_
  | ((with_reducible refine mk_tup ?_ ?hz); (case hz => decide))
  | ((with_reducible refine mk_lst ?_ ?hz); (case hz => decide))
  | with_reducible refine mk_neg ?_))
abbrev sCU : Stmt := top 28
abbrev sSM : Stmt := top 29
abbrev sRE : Stmt := top 30
abbrev sSO : Stmt := top 31
theorem scCU : FnScope ["seat", "number"] ["seat", "number"] (defScope sCU) := ⟨rfl, rfl, rfl, by decide +kernel, rfl, by decide +kernel, by decide +kernel⟩
theorem scSM : FnScope ["letters", "ahead"] ["letters"] (defScope sSM) := ⟨rfl, rfl, rfl, by decide +kernel, rfl, by decide +kernel, by decide +kernel⟩
theorem scRE : FnScope ["body", "letters", "number", "seat", "letter"] ["body", "letters", "number"] (defScope sRE) := ⟨rfl, rfl, rfl, by decide +kernel, rfl, by decide +kernel, by decide +kernel⟩
theorem scSO : FnScope ["way", "side", "wholes", "rests", "more", "word", "body", "tie"] ["way", "side", "wholes", "rests"] (defScope sSO) := ⟨rfl, rfl, rfl, by decide +kernel, rfl, by decide +kernel, by decide +kernel⟩
def comesUp (s : Seat) (n : Int) : Bool := decide (n % (s.term : Int) = (s.phase : Int))
def leadS (l : List Bool) : Int := (l.count true : Nat) - (l.count false : Nat)
def moreO (x : Int) : Option Bool := if x = 0 then none else some (decide (x > 0))
def moreStr : Option Bool → Str
  | none => "="
  | some b => sideS [b]
def restL (b : List Seat) (l : List Bool) (n : Int) : List Bool := ((b.zip l).filter fun p => !comesUp p.1 n).map (·.2)
def tieB (t : Str) (s : Bool) : Bool := if t = "kept" then s else decide (t = "a")
def filled (w : Way) (s : Bool) (c : List Bool) (wh re : List (Option Bool)) : Bool :=
  match w with
  | .kept => s
  | .ward i => c.getD i false
  | .body b t => (wh.getD b none).getD (tieB t s)
  | .rest b t => (re.getD b none).getD (tieB t s)
def sidesL (l : List Bool) : D := .lst (l.map fun b => .str (sideS [b]))
def moresL (l : List (Option Bool)) : D := .lst (l.map fun o => .str (moreStr o))
def fComes (ds : List D) (r : D) : Prop := ∃ (s : Seat) (n : Int), ds = [s.d, .int n] ∧ 1 ≤ s.term ∧ r = .bl (comesUp s n)
def fMore (ds : List D) (r : D) : Prop := ∃ l : List Bool, ((ds = [.str (sideS l)] ∧ l.length < 10) ∨ ds = [sidesL l]) ∧ r = .str (moreStr (moreO (leadS l)))
def fResting (ds : List D) (r : D) : Prop := ∃ (b : List Seat) (l : List Bool) (n : Int), ds = [bodyD b, .str (sideS l), .int n] ∧ b.length = l.length ∧ l.length ≤ 9 ∧ (∀ s ∈ b, 1 ≤ s.term) ∧ r = sidesL (restL b l n)
theorem cntV_side (l : List Bool) (x : Bool) : (l.map fun b => V.str (sideS [b])).countP (fun z => eqV z (.str (sideS [x]))) = l.count x := by
  induction l with
  | nil => rfl
  | cons b l ih =>
    rw [List.map_cons, List.countP_cons, ih, List.count_cons]
    cases b <;> cases x <;> rfl
theorem sd_a : sideS [true] = Str.ofString "a" := by decide +kernel
theorem sd_b : sideS [false] = Str.ofString "b" := by decide +kernel
theorem Dt.sidesL {K : PySem.W.Frag} {H : Hp} {vs : List V} {l : List Bool} (h : DtA K H vs (l.map fun b => D.str (sideS [b]))) : vs = l.map fun b => V.str (sideS [b]) := by
  have := DtA.strs (bs := l.map fun b => sideS [b]) (by rw [List.map_map]; exact h)
  rw [this, List.map_map]
  rfl
def restE (b : List Seat) (l : List Bool) (n : Int) (i : Nat) : Option D := match b[i]?, l[i]? with
  | some s, some x => if comesUp s n then none else some (.str (sideS [x]))
  | _, _ => none
theorem restE_sc {b : List Seat} {l : List Bool} {n : Int} {i : Nat} {d : D} (h : restE b l n i = some d) : d.sc = true := by
  unfold restE at h
  split at h
  · split at h
    · cases h
    · cases h; rfl
  · cases h
theorem restE_at {b : List Seat} {l : List Bool} {n : Int} {i : Nat} {s : Seat} {x : Bool} (h1 : b[i]? = some s) (h2 : l[i]? = some x) : restE b l n i = if comesUp s n then none else some (.str (sideS [x])) := by
  unfold restE
  rw [h1, h2]
theorem restE_all : ∀ (b : List Seat) (l : List Bool) (n : Int), b.length = l.length → (List.range b.length).filterMap (restE b l n) = (restL b l n).map fun b => .str (sideS [b])
  | [], _, _, _ => rfl
  | s :: b, [], _, h => by cases h
  | s :: b, x :: l, n, h => by
    have ih := restE_all b l n (by simpa using h)
    rw [List.length_cons, List.range_succ_eq_map, List.filterMap_cons, List.filterMap_map]
    have e : (restE (s :: b) (x :: l) n ∘ Nat.succ) = restE b l n := by funext i; simp [restE]
    rw [e, ih, restE_at (s := s) (x := x) rfl rfl]
    unfold restL
    rw [List.zip_cons_cons, List.filter_cons]
    cases comesUp s n <;> rfl
section
variable {P : Program} {w : World} {K : PySem.W.Frag} {mg : Str → Option Value} {base : Heap} {pT : Addr}
theorem ok_CU {f : Addr} {fd : FuncData} (F : L2.Fun K "comes_up" "comes_up" sCU f fd) : FnOk P w K mg base CX0 1 f fd ["seat", "number"] (spP K fComes) := by
  refine F.ok scCU (fun vs H Q E h => ?_) (fun cdv A outer s H vs Q E hr h => ?_)
  · obtain ⟨_, _, ha, ⟨x, n, rfl, _⟩, _⟩ := h
    exact ha.len
  · obtain ⟨_, _, ha, ⟨x, n, rfl, t1, rfl⟩, k⟩ := h
    obtain ⟨v1, v2, rfl, x1, x2⟩ := ha.two
    refine ⟨_, (pss_one (ps_ret (pe_cmpR op_eq (pe_op op_mod (pv 1) (pe_ix ix_tup (pv 0) pe_int (fun _ _ => rfl))) (pe_ix ix_tup (pv 0) pe_int (fun _ _ => rfl)) (nomark _)))), ?_⟩
    walk_at "st"
    exact mk_eqI (mk_I (mk_var rfl x2) (mk_ixT (i := 0) (mk_var rfl x1) mk_int (d := .int x.term) rfl) (by omega)) (mk_ixT (i := 1) (mk_var rfl x1) mk_int (d := .int x.phase) rfl) H Gr.rfl' _ fun v H1 s1 a => k v H1 s1 a
theorem more_end {H H0 : Hp} {Q : VK} {D0 : Ends} {v1 : V} {l : List Bool} (hs : Same H0 H) (hR : D0.rt = Q) (k : ∀ v H', Same H0 H' → Dt K H' v (.str (moreStr (moreO (leadS l)))) → Q v H') :
    tSeq (tIfS (tTest (tOp rEq (tVar 1) (tC (.int 0)))) (tRet (tC (.str "="))) tNext) (tRet (tIf (tTest (tOp (rI0 fun i j => .bl (decide (i > j))) (tVar 1) (tC (.int 0)))) (tC (.str "a")) (tC (.str "b")))) D0 [some v1, some (.int (leadS l))] H := by
  walk_at "st"
  refine mt_test (mk_eqI (K := K) (mk_var (n := 1) rfl (.int (leadS l))) mk_int) H Gr.rfl' _ fun H1 s1 => ?_
  by_cases z : leadS l = 0
  · refine r_ifT (decide_eq_true z) ?_
    walk_at "rd"
    show D0.rt _ _
    rw [hR]
    refine k _ _ (hs.trans s1) ?_
    rw [show moreO (leadS l) = none from if_pos z]
    exact .str _
  · refine r_ifF (decide_eq_false z) ?_
    walk_at "st"
    refine (mt_test (mk_I0b (K := K) (g := fun i j => decide (i > j)) (mk_var (n := 1) rfl (.int (leadS l))) mk_int) : MkT _ _ H1 _) H1 Gr.rfl' _ fun H2 s2 => ?_
    rw [show moreO (leadS l) = some (decide (leadS l > 0)) from if_neg z] at k
    cases e : decide (leadS l > 0) with
    | true =>
      refine iteT ?_
      show D0.rt _ _
      rw [hR]
      refine k _ _ ((hs.trans s1).trans s2) ?_
      rw [e]
      exact sd_a ▸ .str _
    | false =>
      refine iteF ?_
      show D0.rt _ _
      rw [hR]
      refine k _ _ ((hs.trans s1).trans s2) ?_
      rw [e]
      exact sd_b ▸ .str _
theorem ok_SM {f : Addr} {fd : FuncData} (F : L2.Fun K "side_with_more" "side_with_more" sSM f fd) : FnOk P w K mg base CX0 1 f fd ["letters"] (spP K fMore) := by
  refine F.ok scSM (fun vs H Q E h => ?_) (fun cdv A outer s H vs Q E hr h => ?_)
  · obtain ⟨_, _, ha, ⟨l, (⟨rfl, _⟩ | rfl), _⟩, _⟩ := h
    · exact ha.len
    · exact ha.len
  · obtain ⟨_, _, ha, ⟨l, hl, rfl⟩, k⟩ := h
    rcases hl with ⟨rfl, hl⟩ | rfl
    · obtain ⟨v1, rfl, x1⟩ := ha.one
      cases x1
      refine ⟨_, (pss_cons (ps_set (i := 1) scSM.nd rfl (Or.inl rfl) (pe_op op_sub (pe_m1 PySem.F.slot_str_count PySem.F.type_str_count mt_count (pv 0) pe_str) (pe_m1 PySem.F.slot_str_count PySem.F.type_str_count mt_count (pv 0) pe_str)))
  (pss_cons (ps_if (pt_cmpR op_eq (pv 1) pe_int (nomark _)) (pss_one (ps_ret pe_str)) pss_nil)
  (pss_one (ps_ret (pe_ifExp (pt_cmpR op_gt (pv 1) pe_int (nomark _)) pe_str pe_str))))), ?_⟩
      obtain ⟨ca, cb⟩ := cnt_side l hl
      refine r_seq (r_asg (r_op ⟨_, rfl, ⟨_, rfl⟩, ⟨_, _, rfl, rfl, ⟨_, rfl, ⟨_, rfl⟩, ⟨_, _, rfl, rfl, ?_⟩⟩⟩⟩))
      rw [ca, cb]
      refine r_I0 (r_name ?_)
      exact more_end (l := l) Gr.rfl' rfl k
    · obtain ⟨v1, rfl, x1⟩ := ha.one
      cases x1 with
      | @lst p xs _ e aa =>
      have := Dt.sidesL aa
      subst this
      refine ⟨_, (pss_cons (ps_set (i := 1) scSM.nd rfl (Or.inl rfl) (pe_op op_sub (pe_bm PySem.F.plainAttrs_list PySem.F.slot_list_count PySem.F.type_list_count mt_lcntV (pv 0) (pa_cons pe_str pa_nil)) (pe_bm PySem.F.plainAttrs_list PySem.F.slot_list_count PySem.F.type_list_count mt_lcntV (pv 0) (pa_cons pe_str pa_nil))))
  (pss_cons (ps_if (pt_cmpR op_eq (pv 1) pe_int (nomark _)) (pss_one (ps_ret pe_str)) pss_nil)
  (pss_one (ps_ret (pe_ifExp (pt_cmpR op_gt (pv 1) pe_int (nomark _)) pe_str pe_str))))), ?_⟩
      have fl : (l.map fun b => V.str (sideS [b])).all flatV = true := by
        rw [List.all_eq_true]
        intro x hx
        obtain ⟨b, _, rfl⟩ := List.mem_map.mp hx
        rfl
      refine r_seq (r_asg (r_op ⟨_, rfl, Or.inl ⟨rfl, _, SqL.of e⟩, ⟨p, _, _, rfl, rfl, SqL.of e, rfl, fl, ⟨_, rfl, Or.inl ⟨rfl, _, SqL.of e⟩, ⟨p, _, _, rfl, rfl, SqL.of e, rfl, fl, ?_⟩⟩⟩⟩))
      rw [← sd_a, ← sd_b, cntV_side, cntV_side]
      refine r_I0 (r_name ?_)
      exact more_end (l := l) Gr.rfl' rfl k
theorem ok_RE {f fC : Addr} {fd fdC : FuncData} (F : L2.Fun K "_resting" "_resting" sRE f fd) (Z : Blt2 mg) (dcomes_up : Dok P w K mg base 1 "comes_up" ["seat", "number"] (spP K fComes) fC fdC) : FnOk P w K mg base CX0 2 f fd ["body", "letters", "number"] (spP K fResting) := by
  refine F.ok scRE (fun vs H Q E h => ?_) (fun cdv A outer s H vs Q E hr h => ?_)
  · obtain ⟨_, _, ha, ⟨b, l, n, rfl, _⟩, _⟩ := h
    exact ha.len
  · obtain ⟨_, _, ha, ⟨b, l, n, rfl, hl, h9, ht, rfl⟩, k⟩ := h
    obtain ⟨v1, v2, v3, rfl, x1, x2, x3⟩ := ha.three
    refine ⟨_, (pss_one (ps_ret (pe_lc (own := [("seat", 3), ("letter", 4)]) (g := gTup K 2 (gCons (gName 3) (gCons (gName 4) gNil))) rfl scRE.nd (pi_zipS (by rfl) Z.zip (pa_cons (pv 0) (pa_cons (pv 1) pa_nil))) (blkOk_by (N := ["body", "letters", "number", "seat", "letter"]) (sc := defScope sRE) (by decide +kernel)) (fun _ _ _ _ _ => pg_tup rfl (pgs_cons (pg_name (i := 3) scRE.nd rfl (Or.inl rfl)) (pgs_cons (pg_name (i := 4) scRE.nd rfl (Or.inl rfl)) pgs_nil))) (fun _ _ _ _ _ => (pts_one (pt_not (pt_val (pe_call dcomes_up.G (hr.mono (by decide)) rfl dcomes_up.g dcomes_up.k dcomes_up.b .nil pass0 (pa_cons (pv 3) (pa_cons (pv 2) pa_nil))))))) (fun _ _ _ _ _ => (pv 4))))), ?_⟩
    walk_at "st"
    cases x2
    cases x1 with
    | @tup p xs _ e aa =>
    have lx := aa.len
    rw [List.length_map] at lx
    refine ⟨_, rfl, _, rfl, p, _, xs, rfl, e, fun L nL => lc_flat (K := K) (walk_zipS (K := K) (a := p) (xs := xs) (x := sideS l) (by rw [sideS_size]; omega)) (restE b l n) (fun i d hd => restE_sc hd) nL (fun H' s' => gr_T s' e) (by omega) ?_ ?_⟩
    · rintro i x H' H'' hi s' ⟨T, y1, y2, rfl, nT, rfl, q1, q2⟩
      have s1 : Same H' (upd H' T (.tup [y1, y2])) := same_new nT
      obtain ⟨z1, hz1, az1⟩ := aa.at q1
      obtain ⟨st, hst, rfl⟩ : ∃ st, b[i]? = some st ∧ st.d = z1 := by
        rw [List.getElem?_map] at hz1
        cases q : b[i]? with
        | none => rw [q] at hz1; cases hz1
        | some b => rw [q] at hz1; cases hz1; exact ⟨b, rfl, rfl⟩
      replace q2 : ((sideS l).cps[i]?).map (fun c => V.str ⟨#[c]⟩) = some y2 := q2
      cases hc : (sideS l).cps[i]? with
      | none => rw [hc] at q2; cases q2
      | some cc =>
      rw [hc] at q2
      cases q2
      obtain ⟨sd, hsd, rfl⟩ := sideS_at hc
      refine ⟨s1, fun R r => ?_⟩
      have aT : Dt K (upd H' T (.tup [y1, .str ⟨#[sideC sd]⟩])) (.ref T) (.tup [st.d, .str (sideS [sd])]) := .tup (SqT.of upd_same) (.cons (az1.gr (s'.trans s1)) (.cons (.str _) .nil))
      refine r_unp2 aT fun w1 w2 e1 e2 => ?_
      have up := mk_call (K := K) (f := fComes) (r := .bl (comesUp st n)) (σ := ((wipe (L2.start ["body", "letters", "number", "seat", "letter"] [.ref p, .str (sideS l), v3]) [3, 4]).set 3 (some w1)).set 4 (some w2)) (t := tCons (tVar 3) (tCons (tVar 2) tNil)) (mka_cons (mk_var (n := 3) rfl e1) (mka_cons (mk_var (n := 2) rfl (x3.gr (s'.trans s1))) mka_nil)) ⟨st, n, rfl, ht st (List.mem_of_getElem? hst), rfl⟩
      have tst := mt_not (mt_B up)
      refine r _ rfl (fun d hd => ?_) (fun hd => ?_)
      · rw [restE_at hst hsd] at hd
        split at hd
        · cases hd
        · rename_i hcu
          cases hd
          rw [Bool.not_eq_true] at hcu
          rw [hcu] at tst
          exact ⟨tst, mk_var rfl e2⟩
      · rw [restE_at hst hsd] at hd
        split at hd
        · rename_i hcu
          rw [hcu] at tst
          exact tst
        · cases hd
    · intro H' ys s' e' a'
      refine k _ _ s' ?_
      rw [lx, restE_all b l n hl] at a'
      exact .lst e' a'
end
end TSx

/-! Own layer, part R13: comprehensions over lists and over pairs with letters, joins, searches. -/
namespace TSx
open PySem L2 TL
theorem join_ok {l : List Bool} (h : l.length ≤ 1000) : ((l.map fun x => sideS [x]).map (·.length)).sum + (l.map fun x => sideS [x]).length * (Str.ofString "").length ≤ 16777216 := by
  have sm : ∀ l : List Bool, ((l.map fun x => sideS [x]).map (·.length)).sum = l.length := by
    intro l
    induction l with
    | nil => rfl
    | cons x l ih => rw [List.map_cons, List.map_cons, List.sum_cons, ih, List.length_cons, sideS_len]; simp; omega
  rw [sm, List.length_map]
  show l.length + l.length * 0 ≤ 16777216
  omega
section
variable {K : PySem.W.Frag} {σ : Sg} {H H0 : Hp} {te ta tb tc ti : TE} {t : TA} {d r : D} {ds es : List D} {α β : Type}
/-- [e for x in list], the list's things told by l -/
theorem mk_lcML {i : Nat} {l : List α} {g f : α → D} (h : ∀ H1, Same H H1 → Ev K ti σ H1 (.lst (l.map g))) (hf : ∀ a, (f a).sc = true) (hl : l.length ≤ 1000) (step : ∀ a ∈ l, ∀ x H1, Same H H1 → Dt K H1 x (g a) → Mk K te ((σ.set i none).set i (some x)) H1 (f a)) :
    Mk K (tLc (iList K ti) (gName i) tYes te [i]) σ H (.lst (l.map f)) := fun H1 s Q q => by
  obtain ⟨v, a, k⟩ := h H1 s
  refine k _ ?_
  cases a with
  | @lst p xs _ e aa =>
    have lx := aa.len
    rw [List.length_map] at lx
    refine ⟨p, rfl, ⟨xs, SqL.of e⟩, fun L nL => lc_flat (K := K) (walk_list (K := K) (a := p) (xs := xs)) (fun k => (l[k]?).map f) (fun k d hk => ?_) nL (fun H' s' => SqL.of (s' _ _ e)) (by omega) ?_ ?_⟩
    · cases hd : l[k]? with
      | none => rw [hd] at hk; cases hk
      | some y => rw [hd] at hk; cases hk; exact hf y
    · rintro k x H' H'' hk s' ⟨rfl, hx⟩
      obtain ⟨y, hy, ay⟩ := aa.at hx
      obtain ⟨b, hb, rfl⟩ := at_map hy
      refine ⟨Gr.rfl', fun R r => r_name (r _ ?_ (fun d hd => ⟨fun H2 s2 Q2 q2 => q2 H2 Gr.rfl', ?_⟩) fun hd => ?_)⟩
      · show ((σ.set i none).set i (some x)).set i none = σ.set i none
        rw [List.set_set, List.set_set]
      · rw [hb] at hd
        cases hd
        exact step b (List.mem_of_getElem? hb) x _ (s.trans s') (ay.gr s')
      · rw [hb] at hd; cases hd
    · intro H' ys s' e' a'
      refine q _ _ s' (.lst e' ?_)
      rw [lx, fm_get f l] at a'
      exact a'
theorem mk_joinS {l : List Bool} (h : Mk K ta σ H (sidesL l)) (hl : l.length ≤ 1000) : Mk K (tM1 (fun x xs H Q => ∃ a p, ∃ ys : List Str, x = .str a ∧ xs = [.ref p] ∧ (SqL K H p (ys.map V.str) ∨ SqT K H p (ys.map V.str)) ∧ (ys.map (·.length)).sum + ys.length * a.length ≤ 16777216 ∧ Q (.str (Txt.join a ys)) H) (tC (.str "")) ta) σ H (.str (sideS l)) := fun H1 s Q q => by
  refine ⟨⟨_, rfl⟩, ?_⟩
  refine h H1 s _ fun v H2 s2 a => ?_
  cases a with
  | @lst p xs _ e aa =>
    have := Dt.sidesL aa
    subst this
    refine ⟨_, p, l.map fun x => sideS [x], rfl, rfl, Or.inl (SqL.of (by rw [List.map_map]; exact e)), join_ok hl, ?_⟩
    rw [join_side]
    exact q _ H2 s2 (.str _)
theorem fm_zipB {β γ : Type} (f : α → β → γ) : ∀ (l : List α) (m : List β), l.length = m.length → (List.range l.length).filterMap (fun k => (l[k]?).bind fun x => (m[k]?).map fun y => f x y) = (l.zip m).map fun p => f p.1 p.2
  | [], _, _ => rfl
  | _ :: _, [], h => by cases h
  | a :: l, b :: m, h => by
    have ih := fm_zipB f l m (by simpa using h)
    rw [List.length_cons, List.range_succ_eq_map, List.filterMap_cons, List.filterMap_map, List.zip_cons_cons, List.map_cons, ← ih]
    rfl
/-- [e for x, y in zip(tuple, letters)] -/
theorem mk_lcZS {i j : Nat} {l : List α} {m : List Bool} {g1 : α → D} {f : α → Bool → D} (ij : ∀ u w, wipe (((wipe σ [i, j]).set i u).set j w) [i, j] = wipe σ [i, j]) (h : ∀ H1, Same H H1 → Ev K ta σ H1 (.tup (l.map g1))) (h2 : ∀ H1, Same H H1 → Ev K tc σ H1 (.str (sideS m))) (hlm : l.length = m.length) (hf : ∀ a b, (f a b).sc = true) (hl : l.length ≤ 1000)
    (step : ∀ (k : Nat) a b, l[k]? = some a → m[k]? = some b → ∀ x y H1, Same H H1 → Dt K H1 x (g1 a) → Dt K H1 y (.str (sideS [b])) → Mk K te (((wipe σ [i, j]).set i (some x)).set j (some y)) H1 (f a b)) :
    Mk K (tLc (iZipS K (tCons ta (tCons tc tNil))) (gTup K 2 (gCons (gName i) (gCons (gName j) gNil))) tYes te [i, j]) σ H (.lst ((l.zip m).map fun p => f p.1 p.2)) := fun H1 s Q q => by
  obtain ⟨v, a, k⟩ := h H1 s
  obtain ⟨u, c, k2⟩ := h2 H1 s
  refine k _ (k2 _ ?_)
  cases c
  cases a with
  | @tup p xs _ e aa =>
    have lx := aa.len
    rw [List.length_map] at lx
    refine ⟨p, _, xs, rfl, e, fun L nL => lc_flat (K := K) (walk_zipS (K := K) (a := p) (xs := xs) (x := sideS m) (by rw [sideS_size]; omega)) (fun k => (l[k]?).bind fun x => (m[k]?).map fun y => f x y) (fun k d hk => ?_) nL (fun H' s' => gr_T s' e) (by omega) ?_ ?_⟩
    · obtain ⟨x, _, hk⟩ := Option.bind_eq_some_iff.mp hk
      obtain ⟨y, _, rfl⟩ := Option.map_eq_some_iff.mp hk
      exact hf _ _
    · rintro n x H' H'' hi s' ⟨T, y1, y2, rfl, nT, rfl, q1, q2⟩
      have s1 : Same H' (upd H' T (.tup [y1, y2])) := same_new nT
      obtain ⟨z1, hz1, az1⟩ := aa.at q1
      obtain ⟨a1, ha1, rfl⟩ := at_map hz1
      replace q2 : ((sideS m).cps[n]?).map (fun c => V.str ⟨#[c]⟩) = some y2 := q2
      cases hc : (sideS m).cps[n]? with
      | none => rw [hc] at q2; cases q2
      | some cc =>
      rw [hc] at q2
      cases q2
      obtain ⟨sd, hsd, rfl⟩ := sideS_at hc
      refine ⟨s1, fun R r => ?_⟩
      have aT : Dt K (upd H' T (.tup [y1, .str ⟨#[sideC sd]⟩])) (.ref T) (.tup [g1 a1, .str (sideS [sd])]) := .tup (SqT.of upd_same) (.cons (az1.gr (s'.trans s1)) (.cons (.str _) .nil))
      refine r_unp2 aT fun w1 w2 e1 e2 => ?_
      refine r _ ?_ (fun d hd => ⟨fun H2 s2 Q2 q2 => q2 H2 Gr.rfl', ?_⟩) fun hd => ?_
      · exact ij _ _
      · rw [ha1, hsd] at hd
        cases hd
        exact step n a1 sd ha1 hsd w1 w2 _ (s.trans (s'.trans s1)) e1 e2
      · rw [ha1, hsd] at hd
        cases hd
    · intro H' ys s' e' a'
      refine q _ _ s' (.lst e' ?_)
      rw [lx, fm_zipB f l m hlm] at a'
      exact a'
theorem side_cat (l m : List Bool) : sideS l ++ sideS m = sideS (l ++ m) := by
  refine tl_inj ?_
  show ((sideS l).cps ++ (sideS m).cps).toList = _
  simp [sideS, tl]
theorem mk_addS {l m : List Bool} (h : Mk K ta σ H (.str (sideS l))) (h2 : Mk K tb σ H (.str (sideS m))) (z : l.length + m.length ≤ 100000) : Mk K (tOp (fun x y H Q => ∃ i j, x = .str i ∧ y = .str j ∧ i.length + j.length ≤ sizeLine ∧ Q (.str (i ++ j)) H) ta tb) σ H (.str (sideS (l ++ m))) := fun H1 s Q q => h H1 s _ fun v H2 s2 a => h2 H2 (s.trans s2) _ fun u H3 s3 b => by
  cases a
  cases b
  refine ⟨_, _, rfl, rfl, by rw [sideS_len, sideS_len]; exact sz1 z, ?_⟩
  rw [side_cat]
  exact q _ H3 (s2.trans s3) (.str _)
/-- where a side stands in "ab" -/
def sideIx (b : Bool) : Nat := if b = true then 0 else 1
theorem mk_findS {b : Bool} (h : Mk K ta σ H (.str (sideS [b]))) : Mk K (tM1 (fun x xs H Q => ∃ a b, x = .str a ∧ xs = [.str b] ∧ Q (.int (Txt.find a b)) H) (tC (.str "ab")) ta) σ H (.int (sideIx b : Nat)) := fun H1 s Q q => by
  refine ⟨⟨_, rfl⟩, ?_⟩
  refine h H1 s _ fun v H2 s2 a => ?_
  cases a
  refine ⟨_, _, rfl, rfl, ?_⟩
  rw [show Txt.find (Str.ofString "ab") (sideS [b]) = (sideIx b : Nat) by cases b <;> decide +kernel]
  exact q _ H2 s2 (.int _)
theorem sd_ab : sideS [true, false] = Str.ofString "ab" := by decide +kernel
end
end TSx

/-! Own layer, part R14: comprehensions over pairs of texts, of lists. -/
namespace TSx
open PySem L2 TL
theorem walk_SS {x y : Str} (h : x.cps.size = y.cps.size) : Walk (ItSS x y) x.cps.size (fun _ => True) (fun i H v H' => ∃ (T : Addr) (c1 c2 : Nat), v = .ref T ∧ H T = none ∧ H' = upd H T (.tup [.str ⟨#[c1]⟩, .str ⟨#[c2]⟩]) ∧ x.cps[i]? = some c1 ∧ y.cps[i]? = some c2) :=
  ⟨fun i H hi _ => ⟨hi, h⟩, fun H _ => ⟨rfl, h⟩, fun i H v H' hi _ y => y⟩
theorem walk_LT {K : PySem.W.Frag} {a c : Addr} {xs ys : List V} (hl : xs.length = ys.length) : Walk (ItLT K a c) xs.length (fun H => SqL K H a xs ∧ SqT K H c ys) (YPair (fun i => xs[i]?) (fun i => ys[i]?)) :=
  ⟨fun i H hi h => ⟨xs, ys, xs[i], ys[i]'(by omega), h.1, h.2, List.getElem?_eq_getElem hi, List.getElem?_eq_getElem _⟩, fun H h => ⟨xs, ys, h.1, h.2, rfl, hl⟩, fun i H x H' hi h y => by
    obtain ⟨T, u, w, rfl, hT, rfl, f1, f2⟩ := y
    exact ⟨T, u, w, rfl, hT, rfl, f1 xs h.1, f2 ys h.2⟩⟩
section
variable {K : PySem.W.Frag} {σ : Sg} {H H0 : Hp} {te ta tb tc ti : TE} {t : TA} {d r : D} {ds es : List D} {α β : Type}
/-- [e for x, y in zip(letters, letters)] -/
theorem mk_lcSS {i j : Nat} {l m : List Bool} {f : Bool → Bool → D} (ij : ∀ u w, wipe (((wipe σ [i, j]).set i u).set j w) [i, j] = wipe σ [i, j]) (h : ∀ H1, Same H H1 → Ev K ta σ H1 (.str (sideS l))) (h2 : ∀ H1, Same H H1 → Ev K tc σ H1 (.str (sideS m))) (hlm : l.length = m.length) (hf : ∀ a b, (f a b).sc = true) (hl : l.length ≤ 1000)
    (step : ∀ (k : Nat) a b, l[k]? = some a → m[k]? = some b → ∀ x y H1, Same H H1 → Dt K H1 x (.str (sideS [a])) → Dt K H1 y (.str (sideS [b])) → Mk K te (((wipe σ [i, j]).set i (some x)).set j (some y)) H1 (f a b)) :
    Mk K (tLc (iZipSS (tCons ta (tCons tc tNil))) (gTup K 2 (gCons (gName i) (gCons (gName j) gNil))) tYes te [i, j]) σ H (.lst ((l.zip m).map fun p => f p.1 p.2)) := fun H1 s Q q => by
  obtain ⟨v, a, k⟩ := h H1 s
  obtain ⟨u, c, k2⟩ := h2 H1 s
  refine k _ (k2 _ ?_)
  cases a
  cases c
  refine ⟨_, _, rfl, fun L nL => lc_flat (K := K) (walk_SS (x := sideS l) (y := sideS m) (by rw [sideS_size, sideS_size, hlm])) (fun k => (l[k]?).bind fun x => (m[k]?).map fun y => f x y) (fun k d hk => ?_) nL (fun _ _ => trivial) (by rw [sideS_size]; omega) ?_ ?_⟩
  · obtain ⟨x, _, hk⟩ := Option.bind_eq_some_iff.mp hk
    obtain ⟨y, _, rfl⟩ := Option.map_eq_some_iff.mp hk
    exact hf _ _
  · rintro n x H' H'' hi s' ⟨T, c1, c2, rfl, nT, rfl, q1, q2⟩
    obtain ⟨a1, ha1, rfl⟩ := sideS_at q1
    obtain ⟨a2, ha2, rfl⟩ := sideS_at q2
    have s1 : Same H' (upd H' T (.tup [.str ⟨#[sideC a1]⟩, .str ⟨#[sideC a2]⟩])) := same_new nT
    refine ⟨s1, fun R r => ?_⟩
    have aT : Dt K (upd H' T (.tup [.str ⟨#[sideC a1]⟩, .str ⟨#[sideC a2]⟩])) (.ref T) (.tup [.str (sideS [a1]), .str (sideS [a2])]) := .tup (SqT.of upd_same) (.cons (.str _) (.cons (.str _) .nil))
    refine r_unp2 aT fun w1 w2 e1 e2 => ?_
    refine r _ ?_ (fun d hd => ⟨fun H2 s2 Q2 q2 => q2 H2 Gr.rfl', ?_⟩) fun hd => ?_
    · exact ij _ _
    · rw [ha1, ha2] at hd
      cases hd
      exact step n a1 a2 ha1 ha2 w1 w2 _ (s.trans (s'.trans s1)) e1 e2
    · rw [ha1, ha2] at hd
      cases hd
  · intro H' ys s' e' a'
    refine q _ _ s' (.lst e' ?_)
    rw [sideS_size, fm_zipB f l m hlm] at a'
    exact a'
/-- [e for pair in zip(letters, letters)] -/
theorem mk_lcSSn {i : Nat} {l m : List Bool} {f : Bool → Bool → D} (ij : ∀ u, wipe ((wipe σ [i]).set i u) [i] = wipe σ [i]) (h : ∀ H1, Same H H1 → Ev K ta σ H1 (.str (sideS l))) (h2 : ∀ H1, Same H H1 → Ev K tc σ H1 (.str (sideS m))) (hlm : l.length = m.length) (hf : ∀ a b, (f a b).sc = true) (hl : l.length ≤ 1000)
    (step : ∀ (k : Nat) a b, l[k]? = some a → m[k]? = some b → ∀ x H1, Same H H1 → Dt K H1 x (.tup [.str (sideS [a]), .str (sideS [b])]) → Mk K te ((wipe σ [i]).set i (some x)) H1 (f a b)) :
    Mk K (tLc (iZipSS (tCons ta (tCons tc tNil))) (gName i) tYes te [i]) σ H (.lst ((l.zip m).map fun p => f p.1 p.2)) := fun H1 s Q q => by
  obtain ⟨v, a, k⟩ := h H1 s
  obtain ⟨u, c, k2⟩ := h2 H1 s
  refine k _ (k2 _ ?_)
  cases a
  cases c
  refine ⟨_, _, rfl, fun L nL => lc_flat (K := K) (walk_SS (x := sideS l) (y := sideS m) (by rw [sideS_size, sideS_size, hlm])) (fun k => (l[k]?).bind fun x => (m[k]?).map fun y => f x y) (fun k d hk => ?_) nL (fun _ _ => trivial) (by rw [sideS_size]; omega) ?_ ?_⟩
  · obtain ⟨x, _, hk⟩ := Option.bind_eq_some_iff.mp hk
    obtain ⟨y, _, rfl⟩ := Option.map_eq_some_iff.mp hk
    exact hf _ _
  · rintro n x H' H'' hi s' ⟨T, c1, c2, rfl, nT, rfl, q1, q2⟩
    obtain ⟨a1, ha1, rfl⟩ := sideS_at q1
    obtain ⟨a2, ha2, rfl⟩ := sideS_at q2
    have s1 : Same H' (upd H' T (.tup [.str ⟨#[sideC a1]⟩, .str ⟨#[sideC a2]⟩])) := same_new nT
    refine ⟨s1, fun R r => ?_⟩
    have aT : Dt K (upd H' T (.tup [.str ⟨#[sideC a1]⟩, .str ⟨#[sideC a2]⟩])) (.ref T) (.tup [.str (sideS [a1]), .str (sideS [a2])]) := .tup (SqT.of upd_same) (.cons (.str _) (.cons (.str _) .nil))
    refine r_name (r _ ?_ (fun d hd => ⟨fun H2 s2 Q2 q2 => q2 H2 Gr.rfl', ?_⟩) fun hd => ?_)
    · exact ij _
    · rw [ha1, ha2] at hd
      cases hd
      exact step n a1 a2 ha1 ha2 _ _ (s.trans (s'.trans s1)) aT
    · rw [ha1, ha2] at hd
      cases hd
  · intro H' ys s' e' a'
    refine q _ _ s' (.lst e' ?_)
    rw [sideS_size, fm_zipB f l m hlm] at a'
    exact a'
/-- [e for x, y in zip(list, list)] -/
theorem mk_lcZL {i j : Nat} {l : List α} {m : List β} {g1 : α → D} {g2 : β → D} {f : α → β → D} (ij : ∀ u w, wipe (((wipe σ [i, j]).set i u).set j w) [i, j] = wipe σ [i, j]) (h : ∀ H1, Same H H1 → Ev K ta σ H1 (.lst (l.map g1))) (h2 : ∀ H1, Same H H1 → Ev K tc σ H1 (.lst (m.map g2))) (hlm : l.length = m.length) (hf : ∀ a b, (f a b).sc = true) (hl : l.length ≤ 1000)
    (step : ∀ (k : Nat) a b, l[k]? = some a → m[k]? = some b → ∀ x y H1, Same H H1 → Dt K H1 x (g1 a) → Dt K H1 y (g2 b) → Mk K te (((wipe σ [i, j]).set i (some x)).set j (some y)) H1 (f a b)) :
    Mk K (tLc (RZ.iZipA K (tCons ta (tCons tc tNil))) (gTup K 2 (gCons (gName i) (gCons (gName j) gNil))) tYes te [i, j]) σ H (.lst ((l.zip m).map fun p => f p.1 p.2)) := fun H1 s Q q => by
  obtain ⟨v, a, k⟩ := h H1 s
  obtain ⟨u, c, k2⟩ := h2 H1 s
  refine k _ (k2 _ ?_)
  cases a with
  | @lst p xs _ e aa =>
  cases c with
  | @lst p2 ys _ e2 cc =>
    have lx := aa.len
    have ly := cc.len
    rw [List.length_map] at lx ly
    refine ⟨p, p2, xs, ys, rfl, Or.inl ⟨SqL.of e, SqL.of e2, fun L nL => lc_flat (K := K) (walk_zip (K := K) (a := p) (b := p2) (xs := xs) (ys := ys) (n := xs.length) (by omega)) (fun k => (l[k]?).bind fun x => (m[k]?).map fun y => f x y) (fun k d hk => ?_) nL (fun H' s' => ⟨SqL.of (s' _ _ e), SqL.of (s' _ _ e2)⟩) (by omega) ?_ ?_⟩⟩
    · obtain ⟨x, _, hk⟩ := Option.bind_eq_some_iff.mp hk
      obtain ⟨y, _, rfl⟩ := Option.map_eq_some_iff.mp hk
      exact hf _ _
    · rintro n x H' H'' hi s' ⟨T, y1, y2, rfl, nT, rfl, q1, q2⟩
      have s1 : Same H' (upd H' T (.tup [y1, y2])) := same_new nT
      obtain ⟨z1, hz1, az1⟩ := aa.at q1
      obtain ⟨z2, hz2, az2⟩ := cc.at q2
      obtain ⟨a1, ha1, rfl⟩ := at_map hz1
      obtain ⟨a2, ha2, rfl⟩ := at_map hz2
      refine ⟨s1, fun R r => ?_⟩
      have aT : Dt K (upd H' T (.tup [y1, y2])) (.ref T) (.tup [g1 a1, g2 a2]) := .tup (SqT.of upd_same) (.cons (az1.gr (s'.trans s1)) (.cons (az2.gr (s'.trans s1)) .nil))
      refine r_unp2 aT fun w1 w2 e1 e2 => ?_
      refine r _ ?_ (fun d hd => ⟨fun H2 s2 Q2 q2 => q2 H2 Gr.rfl', ?_⟩) fun hd => ?_
      · exact ij _ _
      · rw [ha1, ha2] at hd
        cases hd
        exact step n a1 a2 ha1 ha2 w1 w2 _ (s.trans (s'.trans s1)) e1 e2
      · rw [ha1, ha2] at hd
        cases hd
    · intro H' ys s' e' a'
      refine q _ _ s' (.lst e' ?_)
      rw [lx, fm_zipB f l m hlm] at a'
      exact a'
/-- [e for x, y in zip(list, tuple)] -/
theorem mk_lcZLT {i j : Nat} {l : List α} {m : List β} {g1 : α → D} {g2 : β → D} {f : α → β → D} (ij : ∀ u w, wipe (((wipe σ [i, j]).set i u).set j w) [i, j] = wipe σ [i, j]) (h : ∀ H1, Same H H1 → Ev K ta σ H1 (.lst (l.map g1))) (h2 : ∀ H1, Same H H1 → Ev K tc σ H1 (.tup (m.map g2))) (hlm : l.length = m.length) (hf : ∀ a b, (f a b).sc = true) (hl : l.length ≤ 1000)
    (step : ∀ (k : Nat) a b, l[k]? = some a → m[k]? = some b → ∀ x y H1, Same H H1 → Dt K H1 x (g1 a) → Dt K H1 y (g2 b) → Mk K te (((wipe σ [i, j]).set i (some x)).set j (some y)) H1 (f a b)) :
    Mk K (tLc (iZipLT K (tCons ta (tCons tc tNil))) (gTup K 2 (gCons (gName i) (gCons (gName j) gNil))) tYes te [i, j]) σ H (.lst ((l.zip m).map fun p => f p.1 p.2)) := fun H1 s Q q => by
  obtain ⟨v, a, k⟩ := h H1 s
  obtain ⟨u, c, k2⟩ := h2 H1 s
  refine k _ (k2 _ ?_)
  cases a with
  | @lst p xs _ e aa =>
  cases c with
  | @tup p2 ys _ e2 cc =>
    have lx := aa.len
    have ly := cc.len
    rw [List.length_map] at lx ly
    refine ⟨p, p2, xs, ys, rfl, SqL.of e, e2, fun L nL => lc_flat (K := K) (walk_LT (K := K) (a := p) (c := p2) (xs := xs) (ys := ys) (by omega)) (fun k => (l[k]?).bind fun x => (m[k]?).map fun y => f x y) (fun k d hk => ?_) nL (fun H' s' => ⟨SqL.of (s' _ _ e), gr_T s' e2⟩) (by omega) ?_ ?_⟩
    · obtain ⟨x, _, hk⟩ := Option.bind_eq_some_iff.mp hk
      obtain ⟨y, _, rfl⟩ := Option.map_eq_some_iff.mp hk
      exact hf _ _
    · rintro n x H' H'' hi s' ⟨T, y1, y2, rfl, nT, rfl, q1, q2⟩
      have s1 : Same H' (upd H' T (.tup [y1, y2])) := same_new nT
      obtain ⟨z1, hz1, az1⟩ := aa.at q1
      obtain ⟨z2, hz2, az2⟩ := cc.at q2
      obtain ⟨a1, ha1, rfl⟩ := at_map hz1
      obtain ⟨a2, ha2, rfl⟩ := at_map hz2
      refine ⟨s1, fun R r => ?_⟩
      have aT : Dt K (upd H' T (.tup [y1, y2])) (.ref T) (.tup [g1 a1, g2 a2]) := .tup (SqT.of upd_same) (.cons (az1.gr (s'.trans s1)) (.cons (az2.gr (s'.trans s1)) .nil))
      refine r_unp2 aT fun w1 w2 e1 e2 => ?_
      refine r _ ?_ (fun d hd => ⟨fun H2 s2 Q2 q2 => q2 H2 Gr.rfl', ?_⟩) fun hd => ?_
      · exact ij _ _
      · rw [ha1, ha2] at hd
        cases hd
        exact step n a1 a2 ha1 ha2 w1 w2 _ (s.trans (s'.trans s1)) e1 e2
      · rw [ha1, ha2] at hd
        cases hd
    · intro H' ys s' e' a'
      refine q _ _ s' (.lst e' ?_)
      rw [lx, fm_zipB f l m hlm] at a'
      exact a'
end
end TSx

/-! Own layer, part R15: a side repeated, a written dict asked, pairs looked into. -/
namespace TSx
open PySem L2 TL
theorem fold_side (c : Nat) : ∀ (n : Nat) (a : Array Nat), List.foldl (fun x1 x2 => x1 ++ x2) a (List.replicate n #[c]) = a ++ (List.replicate n c).toArray
  | 0, a => by simp
  | n + 1, a => by
    rw [List.replicate_succ, List.foldl_cons, fold_side c n, List.replicate_succ]
    refine Array.toList_inj.mp ?_
    simp
def rMulS : R2 := fun x y H Q => ∃ (b : Bool) (n : Nat), x = .str (sideS [b]) ∧ y = .int (n : Int) ∧ 1 ≤ n ∧ n ≤ 1000 ∧ Q (.str (sideS (List.replicate n b))) H
theorem op_mulS {X : Cx} : OpR X (binaryOp .Mult) rMulS := by
  intro pins s σ H x y v u Q I rx ry h
  obtain ⟨b, n, rfl, rfl, n1, n2, q⟩ := h
  obtain ⟨t, rfl⟩ := rx
  obtain ⟨t2, rfl⟩ := ry
  have l1 : (sideS [b]).length = 1 := sideS_len [b]
  have e : (⟨List.foldl (fun x1 x2 => x1 ++ x2) #[] (List.replicate n (sideS [b]).cps)⟩ : Str) = sideS (List.replicate n b) := by
    show (⟨List.foldl (fun x1 x2 => x1 ++ x2) #[] (List.replicate n #[sideC b])⟩ : Str) = ⟨((List.replicate n b).map sideC).toArray⟩
    rw [fold_side, List.map_replicate]
    simp
  refine PySem.P.mul_str ?_ (fun _ _ => ?_) (fun _ _ => ?_) ?_
  · rw [decide_eq_false (by omega), decide_eq_false (by omega)]; rfl
  · rw [l1]
    have : (1 : Int) ≤ (2 ^ 63 - 1) / (n : Int) := Int.le_ediv_of_mul_le (by omega) (by omega)
    omega
  · rw [l1]
    unfold Builtin.Str.tooLong
    refine decide_eq_false ?_
    have : (1 * ((n : Int)).toNat) ≤ sizeLine := sz1 (by omega)
    omega
  · rw [if_neg (by omega)]
    by_cases z : n = 1
    · subst z
      rw [if_pos (show (((1 : Nat) : Int) == 1 || (sideS [b]).length == 0) = true from rfl)]
      exact ⟨.str (sideS [b]), H, I, ⟨t, rfl⟩, q⟩
    · rw [if_neg (by rw [l1]; simp; omega)]
      rw [show ((n : Int)).toNat = n by omega, e]
      simp only [Made.post]
      exact ⟨by rw [sideS_len, List.length_replicate]; exact sz1 (by omega), .str (sideS (List.replicate n b)), H, I.tok _, ⟨_, rfl⟩, q⟩
section
variable {K : PySem.W.Frag} {w : World} {σ : Sg} {H H0 : Hp} {te ta tb tc ti : TE} {t : TA} {d r : D} {ds es : List D}
theorem mk_mulS {b : Bool} {n : Nat} (h : Mk K ta σ H (.str (sideS [b]))) (h2 : Mk K tb σ H (.int (n : Int))) (n1 : 1 ≤ n) (n2 : n ≤ 1000) : Mk K (tOp rMulS ta tb) σ H (.str (sideS (List.replicate n b))) := fun H1 s Q q => h H1 s _ fun v H2 s2 a => h2 H2 (s.trans s2) _ fun u H3 s3 c => by
  cases a
  cases c
  exact ⟨b, n, rfl, rfl, n1, n2, q _ H3 (s2.trans s3) (.str _)⟩
theorem mk_orV {a b : Bool} (h : Mk K ta σ H (.bl a)) (h2 : a = false → Mk K tb σ H (.bl b)) : Mk K (tOrV ta tb) σ H (.bl (a || b)) := fun H1 s Q q => h H1 s _ fun v H2 s2 x => by
  cases x
  refine ⟨a, rfl, ?_⟩
  cases a with
  | true =>
    rw [if_pos rfl]
    exact q _ H2 s2 (by simpa using Dt.bl true)
  | false =>
    rw [if_neg (by decide)]
    exact h2 rfl H2 (s.trans s2) _ fun u H3 s3 y => q u H3 (s2.trans s3) (by simpa using y)
def mirT (t : Str) : Str := if t = "a" then "b" else if t = "b" then "a" else t
/-- the written dict of the module -/
structure Mir (K : PySem.W.Frag) (w : World) (p : Addr) : Prop where
  a : KDct K w p "a" (.str "b")
  b : KDct K w p "b" (.str "a")
  k : KDct K w p "kept" (.str "kept")
theorem mk_mir {p : Addr} {t : Str} (M : Mir K w p) (ht : t ∈ tiesL) (h2 : Mk K tb σ H (.str t)) : Mk K (tOp (rIxD K w) (tC (.ref p)) tb) σ H (.str (mirT t)) := fun H1 s Q q => h2 H1 s _ fun u H3 s3 c => by
  cases c
  simp only [tiesL, List.mem_cons, List.not_mem_nil, or_false] at ht
  rcases ht with rfl | rfl | rfl
  · exact ⟨p, _, _, rfl, rfl, M.a, q _ H3 s3 (by rw [show mirT "a" = Str.ofString "b" from rfl]; exact .str _)⟩
  · exact ⟨p, _, _, rfl, rfl, M.b, q _ H3 s3 (by rw [show mirT "b" = Str.ofString "a" by decide +kernel]; exact .str _)⟩
  · exact ⟨p, _, _, rfl, rfl, M.k, q _ H3 s3 (by rw [show mirT "kept" = Str.ofString "kept" by decide +kernel]; exact .str _)⟩
end
theorem mirT_side (b : Bool) : mirT (sideS [b]) = sideS [!b] := by cases b <;> decide +kernel
theorem side_tie (b : Bool) : sideS [b] ∈ tiesL := by
  cases b with
  | true => rw [show sideS [true] = Str.ofString "a" by decide +kernel]; simp [tiesL]
  | false => rw [show sideS [false] = Str.ofString "b" by decide +kernel]; simp [tiesL]
theorem mirT_tie {t : Str} (h : t ∈ tiesL) : mirT t ∈ tiesL ∧ mirT (mirT t) = t := by
  simp only [tiesL, List.mem_cons, List.not_mem_nil, or_false] at h
  rcases h with rfl | rfl | rfl
  · exact ⟨by rw [show mirT "a" = Str.ofString "b" from rfl]; simp [tiesL], by decide +kernel⟩
  · exact ⟨by rw [show mirT "b" = Str.ofString "a" by decide +kernel]; simp [tiesL], by decide +kernel⟩
  · exact ⟨by rw [show mirT "kept" = Str.ofString "kept" by decide +kernel]; simp [tiesL], by decide +kernel⟩
theorem ix_kdictK {X : Cx} {K : PySem.W.Frag} {w : World} (h : X.K = K) (hw : X.w = w) : IxR X (rIxD K w) := by
  subst h
  subst hw
  exact ix_kdict
theorem op_in_seqK {X : Cx} {K : PySem.W.Frag} (h : X.K = K) : OpR X (compareOp .In) (rIn K false) := by
  subst h
  exact op_in_seq
theorem call_tuple_ofK {X : Cx} {K : PySem.W.Frag} (h : X.K = K) : CallR X (.type "tuple") (fun xs H Q => ∃ p ys, xs = [V.ref p] ∧ ((SqL K H p ys ∧ ∀ l, H l = none → Q (V.ref l) (upd H l (HO.tup ys))) ∨ (SqT K H p ys ∧ Q (V.ref p) H))) := by
  subst h
  exact call_tuple_of
theorem pi_zipLTK {X : Cx} {e e2 : Expr} {ta : TA} {p pos tpos : Pos} {elts : List Expr} {kk : Nat} {K : PySem.W.Frag} (h : X.K = K) (hg : Gl X "zip") (hm : X.mg "zip" = none) (ha : PA X [e, e2] ta)
    (hs : starEach [e, e2] X.env = (false, eval e X.env) :: starEach [e2] X.env := by rfl) (hpl : (backTo pos (starEach [e2] X.env)).any (·.1) = false := by rfl) :
    PI X (.Tuple elts kk tpos) (.Call (.Name "zip" p) [e, e2] [] pos) (iZipLT K ta) := by
  subst h
  exact pi_zipLT hg hm ha hs hpl
end TSx

namespace TSx
open PySem L2
local macro_rules | `(tactic| walk_at "rd") => `(tactic| repeat (first
  | ((with_reducible show tVar _ _ _ _); refine r_v rfl ?_)
  | with_reducible refine r_c ?_
  | with_reducible refine r_op ?_
  | with_reducible refine r_I0 ?_
  | with_reducible refine r_cb ?_
  | with_reducible refine r_nil ?_
  | with_reducible refine r_cons ?_
  | with_reducible refine r_seq ?_
  | with_reducible refine r_next ?_
  | with_reducible refine r_asg ?_
  | with_reducible refine r_name ?_
  | with_reducible refine r_ret ?_
  | with_reducible refine r_drop ?_
  | with_reducible refine r_if ?_
  | with_reducible refine r_test ?_
  | with_reducible refine r_bl ?_
  | with_reducible refine r_call ?_))
local macro_rules | `(tactic| walk_at "st") => `(tactic| repeat (first
  | with_reducible refine r_seq ?_
  | with_reducible refine r_next ?_
  | with_reducible refine r_asg ?_
  | with_reducible refine r_name ?_
  | with_reducible refine r_ret ?_
  | with_reducible refine r_drop ?_
  | with_reducible refine r_if ?_))
local macro_rules | `(tactic| walk_at "mk") => `(tactic| repeat (first
  | with_reducible exact mk_non
  | with_reducible exact mk_int
  | with_reducible exact mk_str
  | with_reducible exact mk_bl
  | with_reducible exact mk_dic
  | with_reducible exact mka_nil
  | with_reducible refine mka_cons ?_ ?_
  | ((with_reducible refine mk_tup ?_ ?hz); (case hz => decide))
  | ((with_reducible refine mk_lst ?_ ?hz); (case hz => decide))
  | with_reducible refine mk_neg ?_))
abbrev sSS : Stmt := top 32
abbrev sHS : Stmt := top 33
abbrev sSF : Stmt := top 34
abbrev sSB : Stmt := top 35
theorem scSS : FnScope ["bodies", "stand", "number", "wholes", "rests", "places", "body", "letters", "seat", "side"] ["bodies", "stand", "number", "wholes", "rests"] (defScope sSS) := ⟨rfl, rfl, rfl, by decide +kernel, rfl, by decide +kernel, by decide +kernel⟩
theorem scHS : FnScope ["house", "stand", "number", "bodies", "wholes", "rests", "letters", "body"] ["house", "stand", "number"] (defScope sHS) := ⟨rfl, rfl, rfl, by decide +kernel, rfl, by decide +kernel, by decide +kernel⟩
theorem scSF : FnScope ["places", "choices", "sides", "row", "at"] ["places", "choices"] (defScope sSF) := ⟨rfl, rfl, rfl, by decide +kernel, rfl, by decide +kernel, by decide +kernel⟩
theorem scSB : FnScope ["house", "stand", "number", "choices"] ["house", "stand", "number", "choices"] (defScope sSB) := ⟨rfl, rfl, rfl, by decide +kernel, rfl, by decide +kernel, by decide +kernel⟩
def behindB (b : List Seat) (l : List Bool) (n : Int) (c : List Bool) (wh re : List (Option Bool)) : List Bool := (b.zip l).map fun q => if comesUp q.1 n then filled q.1.way q.2 c wh re else q.2
def wholesOf (s : List (List Bool)) : List (Option Bool) := s.map fun l => moreO (leadS l)
def restsOf (bs : List (List Seat)) (s : List (List Bool)) (n : Int) : List (Option Bool) := (bs.zip s).map fun q => moreO (leadS (restL q.1 q.2 n))
def standBehind (h : House) (s : List (List Bool)) (n : Int) (c : List Bool) : List (List Bool) := (h.bodies.zip s).map fun q => behindB q.1 q.2 n c (wholesOf s) (restsOf h.bodies s n)
def fBehind (ds : List D) (r : D) : Prop := ∃ (h : House) (s : List (List Bool)) (n : Int) (c : List Bool), ds = [h.d, standD s, .int n, .str (sideS c)] ∧ h.ok ∧ Fits h s ∧ c.length = h.wards ∧ r = standD (standBehind h s n c)
def srcOf (w : Way) (s : Bool) (wh re : List (Option Bool)) : Nat :=
  match w with
  | .kept => sideIx s
  | .ward i => 2 + i
  | .body b t => sideIx ((wh.getD b none).getD (tieB t s))
  | .rest b t => sideIx ((re.getD b none).getD (tieB t s))
def letAt (c : List Bool) (k : Nat) : Bool := (true :: false :: c).getD k false
theorem let_ix (c : List Bool) (b : Bool) : letAt c (sideIx b) = b := by cases b <;> rfl
theorem let_src (w : Way) (s : Bool) (c : List Bool) (wh re : List (Option Bool)) : letAt c (srcOf w s wh re) = filled w s c wh re := by
  cases w with
  | kept => exact let_ix c s
  | ward i =>
    show (true :: false :: c).getD (2 + i) false = c.getD i false
    rw [Nat.add_comm]
    rfl
  | body b t => exact let_ix c _
  | rest b t => exact let_ix c _
theorem ix_lt (b : Bool) : sideIx b < 2 := by cases b <;> decide
theorem src_lt {w : Way} {s : Bool} {n m : Nat} {wh re : List (Option Bool)} (h : w.ok n m) : srcOf w s wh re < 2 + m := by
  cases w with
  | kept => exact Nat.lt_of_lt_of_le (ix_lt _) (by omega)
  | ward i => have h' : i < m := h; show 2 + i < 2 + m; omega
  | body b t => exact Nat.lt_of_lt_of_le (ix_lt _) (by omega)
  | rest b t => exact Nat.lt_of_lt_of_le (ix_lt _) (by omega)
def srcB (b : List Seat) (l : List Bool) (n : Int) (wh re : List (Option Bool)) : List Nat := (b.zip l).map fun q => if comesUp q.1 n then srcOf q.1.way q.2 wh re else sideIx q.2
def srcS (h : House) (s : List (List Bool)) (n : Int) : List (List Nat) := (h.bodies.zip s).map fun q => srcB q.1 q.2 n (wholesOf s) (restsOf h.bodies s n)
theorem srcB_map (b : List Seat) (l : List Bool) (n : Int) (c : List Bool) (wh re : List (Option Bool)) : (srcB b l n wh re).map (letAt c) = behindB b l n c wh re := by
  unfold srcB behindB
  rw [List.map_map]
  refine List.map_congr_left fun q _ => ?_
  show letAt c (if comesUp q.1 n = true then srcOf q.1.way q.2 wh re else sideIx q.2) = _
  cases comesUp q.1 n with
  | true => rw [if_pos rfl, if_pos rfl]; exact let_src ..
  | false => rw [if_neg (by decide), if_neg (by decide)]; exact let_ix ..
theorem srcS_map (h : House) (s : List (List Bool)) (n : Int) (c : List Bool) : (srcS h s n).map (fun r => r.map (letAt c)) = standBehind h s n c := by
  unfold srcS standBehind
  rw [List.map_map]
  exact List.map_congr_left fun q _ => srcB_map ..
def rowN (r : List Nat) : D := .lst (r.map fun k => .int (k : Nat))
def srcD (rows : List (List Nat)) : D := .lst (rows.map rowN)
def fSource (ds : List D) (r : D) : Prop := ∃ (w : Way) (s : Bool) (wh re : List (Option Bool)) (m : Nat), ds = [w.d, .str (sideS [s]), moresL wh, moresL re] ∧ w.ok wh.length m ∧ re.length = wh.length ∧ r = .int (srcOf w s wh re : Nat)
def fSources (ds : List D) (r : D) : Prop := ∃ (h : House) (s : List (List Bool)) (n : Int), ds = [h.d, standD s, .int n] ∧ h.ok ∧ Fits h s ∧ r = srcD (srcS h s n)
def fSourcesB (ds : List D) (r : D) : Prop := ∃ (h : House) (s : List (List Bool)) (n : Int), ds = [.tup (h.bodies.map bodyD), standD s, .int n, moresL (wholesOf s), moresL (restsOf h.bodies s n)] ∧ h.ok ∧ Fits h s ∧ r = srcD (srcS h s n)
def fStandOf (ds : List D) (r : D) : Prop := ∃ (rows : List (List Nat)) (c : List Bool), ds = [srcD rows, .str (sideS c)] ∧ rows.length ≤ 1000 ∧ (∀ q ∈ rows, q.length ≤ 1000 ∧ ∀ k ∈ q, k < 2 + c.length) ∧ c.length ≤ 1000 ∧ r = standD (rows.map fun q => q.map (letAt c))
theorem fits_at {h : House} {s : List (List Bool)} (f : Fits h s) {i : Nat} {b : List Seat} {l : List Bool} (h1 : h.bodies[i]? = some b) (h2 : s[i]? = some l) : b.length = l.length := by
  have e : (s.map List.length)[i]? = (h.bodies.map List.length)[i]? := by rw [f]
  rw [List.getElem?_map, List.getElem?_map, h1, h2] at e
  exact (Option.some.inj e).symm
theorem fits_len {h : House} {s : List (List Bool)} (f : Fits h s) : s.length = h.bodies.length := by
  have := congrArg List.length f
  simpa using this
theorem fits_mem {h : House} {s : List (List Bool)} (ok : h.ok) (f : Fits h s) {l : List Bool} (hl : l ∈ s) : l.length ≤ 9 := by
  have : l.length ∈ h.bodies.map List.length := by rw [← f]; exact List.mem_map.mpr ⟨l, hl, rfl⟩
  obtain ⟨b, hb, e⟩ := List.mem_map.mp this
  rw [← e]
  exact (ok.b b hb).2
/-- lists of numbers stand when the list of lists is written -/
theorem Dt.overI {K : PySem.W.Frag} {H : Hp} {v : V} {p : Addr} {xs : List V} {o : HO} {r : List Nat} (h : Dt K H v (rowN r)) (ne : r ≠ []) (hp : H p = some (.lst xs)) (hx : ∀ x ∈ xs, ∃ a, x = V.ref a) : Dt K (upd H p o) v (rowN r) := by
  cases h with
  | @lst q ys _ e aa =>
    have fl : ∀ d ∈ r.map fun k => D.int (k : Nat), d.sc = true := fun d hd => by
      obtain ⟨k, _, rfl⟩ := List.mem_map.mp hd
      rfl
    by_cases z : q = p
    · subst z
      rw [hp] at e
      cases e
      cases r with
      | nil => exact absurd rfl ne
      | cons k r =>
        cases aa with
        | cons a b =>
          obtain ⟨c, rfl⟩ := hx _ (List.mem_cons_self ..)
          cases a
    · exact .lst (by rw [upd_ne z]; exact e) (aa.any fl)
theorem DtA.overI {K : PySem.W.Frag} {H : Hp} {p : Addr} {xs : List V} {o : HO} (hp : H p = some (.lst xs)) (hx : ∀ x ∈ xs, ∃ a, x = V.ref a) : ∀ {vs : List V} {rows : List (List Nat)}, DtA K H vs (rows.map rowN) → (∀ r ∈ rows, r ≠ []) → DtA K (upd H p o) vs (rows.map rowN)
  | _, [], h, _ => by cases h; exact .nil
  | _, r :: rows, h, ne => by
    cases h with
    | cons a b => exact .cons (a.overI (ne r (List.mem_cons_self ..)) hp hx) (DtA.overI hp hx b fun q hq => ne q (List.mem_cons_of_mem _ hq))
theorem DtA.refs {K : PySem.W.Frag} {H : Hp} : ∀ {vs : List V} {rows : List (List Nat)}, DtA K H vs (rows.map rowN) → ∀ x ∈ vs, ∃ a, x = V.ref a
  | _, [], h => by cases h; exact fun x hx => nomatch hx
  | _, r :: rows, h => by
    cases h with
    | cons a b =>
      intro x hx
      rcases List.mem_cons.mp hx with rfl | hx
      · cases a; exact ⟨_, rfl⟩
      · exact DtA.refs b x hx
section
variable {P : Program} {w : World} {K : PySem.W.Frag} {mg : Str → Option Value} {base : Heap} {pT : Addr}
theorem moresL_at {wh : List (Option Bool)} {b : Nat} (h : b < wh.length) : (wh.map fun o => D.str (moreStr o))[b]? = some (.str (moreStr (wh.getD b none))) := by
  rw [List.getElem?_map, List.getElem?_eq_getElem h]
  simp [List.getD, h]
theorem src_end {H H0 : Hp} {Q : VK} {v1 v2 v3 v4 vm vw vb vt : V} {o : Option Bool} {t : Str} {s : Bool} (ht : t ∈ tiesL) (hm : Dt K H vm (.str (moreStr o))) (x2 : Dt K H v2 (.str (sideS [s]))) (xt : Dt K H vt (.str t)) (hs : Same H0 H)
    (k : ∀ v H', Same H0 H' → Dt K H' v (.int (sideIx (o.getD (tieB t s)) : Nat)) → Q v H') (D0 : Ends) (hR : D0.rt = Q) :
    tSeq (tIfS (tTest (tOp rNe (tVar 4) (tC (.str "=")))) (tRet (tM1 (fun x xs H Q => ∃ a b, x = .str a ∧ xs = [.str b] ∧ Q (.int (Txt.find a b)) H) (tC (.str "ab")) (tVar 4))) tNext) (tRet (tM1 (fun x xs H Q => ∃ a b, x = .str a ∧ xs = [.str b] ∧ Q (.int (Txt.find a b)) H) (tC (.str "ab")) (tIf (tTest (tOp rEq (tVar 7) (tC (.str "kept")))) (tVar 1) (tVar 7)))) D0 [some v1, some v2, some v3, some v4, some vm, some vw, some vb, some vt] H := by
  subst hR
  walk_at "st"
  refine mt_test (mk_neS (mk_var (n := 4) rfl hm) mk_str) H Gr.rfl' _ fun H1 s1 => ?_
  cases o with
  | some x =>
    refine r_ifT (by cases x <;> decide +kernel) ?_
    walk_at "st"
    exact mk_findS (b := x) (mk_var (n := 4) rfl (hm.gr s1)) H1 Gr.rfl' _ fun v H2 s2 a => k v H2 ((hs.trans s1).trans s2) a
  | none =>
    refine r_ifF (by decide +kernel) ?_
    walk_at "st"
    have m := ifE (K := K) (σ := [some v1, some v2, some v3, some v4, some vm, some vw, some vb, some vt]) (mt_test (mk_eqS (mk_var (n := 7) rfl (xt.gr s1)) (mk_str (x := "kept")))) (fun _ => mk_var (n := 1) rfl (x2.gr s1)) (fun _ => mk_var (n := 7) rfl (xt.gr s1))
    have e : (if decide (t = "kept") = true then D.str (sideS [s]) else D.str t) = .str (sideS [tieB t s]) := by
      unfold tieB
      simp only [tiesL, List.mem_cons, List.not_mem_nil, or_false] at ht
      rcases ht with rfl | rfl | rfl
      · rw [if_neg (by decide +kernel), if_neg (by decide +kernel), show decide ((Str.ofString "a") = "a") = true from decide_eq_true rfl, sd_a]
      · rw [if_neg (by decide +kernel), if_neg (by decide +kernel), show decide ((Str.ofString "b") = "a") = false by decide +kernel, sd_b]
      · rw [if_pos (by decide +kernel), if_pos rfl]
    rw [e] at m
    exact mk_findS m H1 Gr.rfl' _ fun v H2 s2 a => k v H2 ((hs.trans s1).trans s2) a
theorem ok_SO {f : Addr} {fd : FuncData} (F : L2.Fun K "_source" "_source" sSO f fd) (B : Blt mg) (C : Cst K mg pT) : FnOk P w K mg base CX0 1 f fd ["way", "side", "wholes", "rests"] (spP K fSource) := by
  refine F.ok scSO (fun vs H Q E h => ?_) (fun cdv A outer s H vs Q E hr h => ?_)
  · obtain ⟨_, _, ha, ⟨x, s, wh, re, m, rfl, _⟩, _⟩ := h
    exact ha.len
  · obtain ⟨_, _, ha, ⟨x, s, wh, re, m, rfl, hw, hl, rfl⟩, k⟩ := h
    obtain ⟨v1, v2, v3, v4, rfl, x1, x2, x3, x4⟩ := ha.four
    refine ⟨_, (pss_cons (ps_if (pt_cmpR op_eq (pe_ix ix_tup (pv 0) pe_int (fun _ _ => rfl)) pe_str (nomark _)) (pss_one (ps_ret (pe_m1 PySem.F.slot_str_find PySem.F.type_str_find mt_find (pe_cstS rfl C.SIDES) (pv 1)))) pss_nil)
  (pss_cons (ps_if (pt_cmpR op_eq (pe_ix ix_tup (pv 0) pe_int (fun _ _ => rfl)) pe_str (nomark _)) (pss_one (ps_ret (pe_op op_add (pe_callB call_len_str (by rfl) B.len PySem.boot_len (pa_cons (pe_cstS rfl C.SIDES) pa_nil)) (pe_ix ix_tup (pv 0) pe_int (fun _ _ => rfl))))) pss_nil)
  (pss_cons (ps_asg (pv 0) (pg_tup rfl (pgs_cons (pg_name (i := 5) scSO.nd rfl (Or.inl rfl)) (pgs_cons (pg_name (i := 6) scSO.nd rfl (Or.inl rfl)) (pgs_cons (pg_name (i := 7) scSO.nd rfl (Or.inl rfl)) pgs_nil)))))
  (pss_cons (ps_set (i := 4) scSO.nd rfl (Or.inl rfl) (pe_ifExp (pt_cmpR op_eq (pv 5) pe_str (nomark _)) (pe_ix ix_list (pv 2) (pv 6) (fun _ _ => rfl)) (pe_ix ix_list (pv 3) (pv 6) (fun _ _ => rfl))))
  (pss_cons (ps_if (pt_cmpR op_ne (pv 4) pe_str (nomark _)) (pss_one (ps_ret (pe_m1 PySem.F.slot_str_find PySem.F.type_str_find mt_find (pe_cstS rfl C.SIDES) (pv 4)))) pss_nil)
  (pss_one (ps_ret (pe_m1 PySem.F.slot_str_find PySem.F.type_str_find mt_find (pe_cstS rfl C.SIDES) (pe_ifExp (pt_cmpR op_eq (pv 7) pe_str (nomark _)) (pv 1) (pv 7)))))))))), ?_⟩
    have w0 : ∀ {xs : List D} {y z : Str} {H1 : Hp}, Dt K H1 v1 (.tup xs) → xs[0]? = some (.str y) → MkT (tTest (tOp rEq (tOp (rIxT K) (tVar 0) (tC (.int 0))) (tC (.str z)))) (L2.start ["way", "side", "wholes", "rests", "more", "word", "body", "tie"] [v1, v2, v3, v4]) H1 (decide (y = z)) := fun a e =>
      mt_test (mk_eqS (mk_ixT (i := 0) (mk_var rfl a) mk_int e) mk_str)
    cases x with
    | kept =>
      walk_at "st"
      refine (w0 x1 rfl) H Gr.rfl' _ fun H1 s1 => r_ifT (by decide +kernel) ?_
      walk_at "st"
      exact mk_findS (b := s) (mk_var (n := 1) rfl (x2.gr s1)) H1 Gr.rfl' _ fun v H2 s2 a => k v H2 (s1.trans s2) a
    | ward i =>
      walk_at "st"
      refine (w0 x1 rfl) H Gr.rfl' _ fun H1 s1 => r_ifF (by decide +kernel) ?_
      walk_at "st"
      refine (w0 (x1.gr s1) rfl) H1 Gr.rfl' _ fun H2 s2 => r_ifT (by decide +kernel) ?_
      walk_at "st"
      have y1 := (x1.gr s1).gr s2
      have m2 := mk_I0 (K := K) (σ := L2.start ["way", "side", "wholes", "rests", "more", "word", "body", "tie"] [v1, v2, v3, v4]) (H := H2) (g := fun i j => i + j) (mk_lenS (mk_str (x := "ab")) (by decide +kernel)) (mk_ixT (i := 1) (mk_var (n := 0) rfl y1) (mk_int (i := 1)) (d := .int (i : Nat)) rfl)
      refine m2 H2 Gr.rfl' _ fun v H3 s3 a => k v H3 ((s1.trans s2).trans s3) ?_
      have e : ((Str.ofString "ab").length : Int) + (i : Int) = ((2 + i : Nat) : Int) := by
        rw [show (Str.ofString "ab").length = 2 by decide +kernel]
        omega
      rw [e] at a
      exact a
    | body b t =>
      obtain ⟨hb, ht⟩ := hw
      walk_at "st"
      refine (w0 x1 rfl) H Gr.rfl' _ fun H1 s1 => r_ifF (by decide +kernel) ?_
      walk_at "st"
      refine (w0 (x1.gr s1) rfl) H1 Gr.rfl' _ fun H2 s2 => r_ifF (by decide +kernel) ?_
      have sX := s1.trans s2
      walk_at "rd"
      refine r_unp3 (x1.gr sX) fun w1 w2 w3 e1 e2 e3 => ?_
      walk_at "st"
      refine (ifE (b := true) (d2 := .non) (mt_test (mk_eqS (mk_var rfl e1) mk_str) : MkT _ _ H2 (decide _)) (fun _ => mk_ixL (i := b) (mk_var rfl (x3.gr sX)) (mk_var rfl e2) (moresL_at hb)) (fun z => by cases z) : Mk K _ _ H2 _) H2 Gr.rfl' _ fun vm H3 s3 am => ?_
      walk_at "st"
      exact src_end (o := wh.getD b none) ht am (x2.gr (sX.trans s3)) (e3.gr s3) (sX.trans s3) k _ rfl
    | rest b t =>
      obtain ⟨hb, ht⟩ := hw
      walk_at "st"
      refine (w0 x1 rfl) H Gr.rfl' _ fun H1 s1 => r_ifF (by decide +kernel) ?_
      walk_at "st"
      refine (w0 (x1.gr s1) rfl) H1 Gr.rfl' _ fun H2 s2 => r_ifF (by decide +kernel) ?_
      have sX := s1.trans s2
      walk_at "rd"
      refine r_unp3 (x1.gr sX) fun w1 w2 w3 e1 e2 e3 => ?_
      walk_at "st"
      refine (ifE (b := false) (d1 := .non) (mt_test (mk_eqS (mk_var rfl e1) mk_str) : MkT _ _ H2 (decide _)) (fun z => by cases z) (fun _ => mk_ixL (i := b) (mk_var rfl (x4.gr sX)) (mk_var rfl e2) (moresL_at (by omega))) : Mk K _ _ H2 _) H2 Gr.rfl' _ fun vm H3 s3 am => ?_
      walk_at "st"
      exact src_end (o := re.getD b none) ht am (x2.gr (sX.trans s3)) (e3.gr s3) (sX.trans s3) k _ rfl
end
end TSx

namespace TSx
open PySem L2
local macro_rules | `(tactic| walk_at "rd") => `(tactic| repeat (first
  | ((with_reducible show tVar _ _ _ _); refine r_v rfl ?_)
  | with_reducible refine r_c ?_
  | with_reducible refine r_op ?_
  | with_reducible refine r_I0 ?_
  | with_reducible refine r_cb ?_
  | with_reducible refine r_nil ?_
  | with_reducible refine r_cons ?_
  | with_reducible refine r_seq ?_
  | with_reducible refine r_next ?_
  | with_reducible refine r_asg ?_
  | with_reducible refine r_name ?_
  | with_reducible refine r_ret ?_
  | with_reducible refine r_drop ?_
  | with_reducible refine r_if ?_
  | with_reducible refine r_test ?_
  | with_reducible refine r_bl ?_
  | with_reducible refine r_call ?_))
local macro_rules | `(tactic| walk_at "st") => `(tactic| repeat (first
  | with_reducible refine r_seq ?_
  | with_reducible refine r_next ?_
  | with_reducible refine r_asg ?_
  | with_reducible refine r_name ?_
  | with_reducible refine r_ret ?_
  | with_reducible refine r_drop ?_
  | with_reducible refine r_if ?_))
local macro_rules | `(tactic| walk_at "mk") => `(tactic| repeat (first
  | with_reducible exact mk_non
  | with_reducible exact mk_int
  | with_reducible exact mk_str
  | with_reducible exact mk_bl
  | with_reducible exact mk_dic
  | with_reducible exact mka_nil
  | with_reducible refine mka_cons ?_ ?_
  | ((with_reducible refine mk_tup ?_ ?hz); (case hz => decide))
  | ((with_reducible refine mk_lst ?_ ?hz); (case hz => decide))
  | with_reducible refine mk_neg ?_))
section
variable {P : Program} {w : World} {K : PySem.W.Frag} {mg : Str → Option Value} {base : Heap} {pT : Addr}
theorem mk_tupL {ta : TE} {σ : Sg} {H : Hp} {ds : List D} (h : Mk K ta σ H (.lst ds)) : Mk K (tCB (fun xs H Q => ∃ p ys, xs = [.ref p] ∧ ((SqL K H p ys ∧ ∀ l, H l = none → Q (.ref l) (upd H l (.tup ys))) ∨ (SqT K H p ys ∧ Q (.ref p) H))) (tCons ta tNil)) σ H (.tup ds) := fun H1 s Q q => h H1 s _ fun v H2 s2 a => by
  cases a with
  | @lst p xs _ e aa => exact ⟨p, xs, rfl, Or.inl ⟨SqL.of e, fun l nl => q _ _ (s2.trans (same_new nl)) (.tup (SqT.of upd_same) (aa.gr (same_new nl)))⟩⟩
theorem ok_SS {f fS fC : Addr} {fd fdS fdC : FuncData} (F : L2.Fun K "sources" "sources" sSS f fd) (B : Blt mg) (Z : Blt2 mg) (C : Cst K mg pT)
    (d_source : Dok P w K mg base 1 "_source" ["way", "side", "wholes", "rests"] (spP K fSource) fS fdS) (dcomes_up : Dok P w K mg base 1 "comes_up" ["seat", "number"] (spP K fComes) fC fdC) :
    FnOk P w K mg base CX0 2 f fd ["bodies", "stand", "number", "wholes", "rests"] (spP K fSourcesB) := by
  refine F.ok scSS (fun vs H Q E h => ?_) (fun cdv A outer s H vs Q E hr h => ?_)
  · obtain ⟨_, _, ha, ⟨x, s, n, rfl, _⟩, _⟩ := h
    exact ha.len
  · obtain ⟨_, _, ha, ⟨x, s, n, rfl, ok, fit, rfl⟩, k⟩ := h
    obtain ⟨v1, v2, v3, v4, v5, rfl, x1, x2, x3, x4, x5⟩ := ha.five
    have ok3 := ok.n3
    have okw := ok.w
    have ls := fits_len fit
    refine ⟨_, (pss_cons (ps_set (i := 5) scSS.nd rfl (Or.inl rfl) (pe_lst pa_nil))
  (pss_cons (ps_for PassesOwn.never rfl (RZ.pi_zipA (by rfl) Z.zip (pa_cons (pv 0) (pa_cons (pv 1) pa_nil))) (pg_tup rfl (pgs_cons (pg_name (i := 6) scSS.nd rfl (Or.inl rfl)) (pgs_cons (pg_name (i := 7) scSS.nd rfl (Or.inl rfl)) pgs_nil)))
  (pss_one (ps_expr (pe_bm PySem.F.plainAttrs_list PySem.F.slot_list_append PySem.F.type_list_append mt_append (pv 5) (pa_cons (pe_lc (own := [("seat", 8), ("side", 9)]) (g := gTup K 2 (gCons (gName 8) (gCons (gName 9) gNil))) (tt := tYes) rfl scSS.nd (pi_zipS (by rfl) Z.zip (pa_cons (pv 6) (pa_cons (pv 7) pa_nil))) (blkOk_by (N := ["bodies", "stand", "number", "wholes", "rests", "places", "body", "letters", "seat", "side"]) (sc := defScope sSS) (by decide +kernel)) (fun _ _ _ _ _ => pg_tup rfl (pgs_cons (pg_name (i := 8) scSS.nd rfl (Or.inl rfl)) (pgs_cons (pg_name (i := 9) scSS.nd rfl (Or.inl rfl)) pgs_nil))) (fun _ _ _ _ _ => pts_nil) (fun _ _ _ _ _ => (pe_ifExp (pt_val (pe_call dcomes_up.G (hr.mono (by decide)) rfl dcomes_up.g dcomes_up.k dcomes_up.b .nil pass0 (pa_cons (pv 8) (pa_cons (pv 2) pa_nil)))) (pe_call d_source.G (hr.mono (by decide)) rfl d_source.g d_source.k d_source.b .nil pass0 (pa_cons (pe_ix (ix_tupK (K := K) rfl) (pv 8) pe_int (fun _ _ => rfl)) (pa_cons (pv 9) (pa_cons (pv 3) (pa_cons (pv 4) pa_nil))))) (pe_m1 PySem.F.slot_str_find PySem.F.type_str_find mt_find (pe_cstS rfl C.SIDES) (pv 9))))) pa_nil)))))
  (pss_one (ps_ret (pv 5))))), ?_⟩
    walk_at "rd"
    refine ⟨Nat.zero_le _, fun p np => ?_⟩
    walk_at "st"
    have s3 : Same H (upd H p (.lst [])) := same_new np
    have lw : (wholesOf s).length = x.bodies.length := by unfold wholesOf; rw [List.length_map]; exact ls
    have lr : (restsOf x.bodies s n).length = x.bodies.length := by unfold restsOf; rw [List.length_map, List.length_zip]; omega
    refine r_forZ (H0 := H) (ds := x.bodies.map bodyD) (es := s.map fun l => .str (sideS l)) (ev0_var rfl x1) (ev0_var rfl x2) (by rw [List.length_map, List.length_map]; omega) (fun j σ H' => ∃ (o7 o8 o9 o10 : Option V) (xs : List V), σ = [some v1, some v2, some v3, some v4, some v5, some (.ref p), o7, o8, o9, o10] ∧ H' p = some (.lst xs) ∧ xs.length = j ∧ DtA K H' xs (((srcS x s n).take j).map rowN) ∧ Same H H')
      ⟨_, _, _, _, [], rfl, upd_same, rfl, .nil, s3⟩ (fun j σ' H' z => by obtain ⟨_, _, _, _, _, _, _, _, _, z⟩ := z; exact z) ?_ ?_
    · rintro j d e T σ H3 H4 hj he ⟨o7, o8, o9, o10, xs, rfl, hp3, lx, ax, s4⟩ s5 aT
      obtain ⟨b, hb, rfl⟩ := at_map hj
      obtain ⟨l, hl, rfl⟩ := at_map he
      refine r_unp2 aT fun w1 w2 e1 e2 => ?_
      walk_at "st"
      have sX := s4.trans s5
      have bl := fits_at fit hb hl
      have mb := List.mem_of_getElem? hb
      have b9 := (ok.b b mb).2
      have hbh : (srcS x s n)[j]? = some (srcB b l n (wholesOf s) (restsOf x.bodies s n)) := by
        unfold srcS
        rw [List.getElem?_map, (List.getElem?_zip_eq_some (z := (b, l))).mpr ⟨hb, hl⟩]
        rfl
      have tk : (srcS x s n).take (j + 1) = (srcS x s n).take j ++ [srcB b l n (wholesOf s) (restsOf x.bodies s n)] := by rw [List.take_add_one, hbh]; rfl
      have jl : j < 4 := by
        have := (List.getElem?_eq_some_iff.mp hb).1
        omega
      have lc := mk_lcZS (K := K) (σ := [some v1, some v2, some v3, some v4, some v5, some (.ref p), some w1, some w2, o9, o10]) (H := H4) (i := 8) (j := 9) (ta := tVar 6) (tc := tVar 7)
        (te := tIf (tB (tCall (spP K fComes) [] E0 (tCons (tVar 8) (tCons (tVar 2) tNil)))) (tCall (spP K fSource) [] E0 (tCons (tOp (rIxT K) (tVar 8) (tC (.int 2))) (tCons (tVar 9) (tCons (tVar 3) (tCons (tVar 4) tNil))))) (tM1 (fun x xs H Q => ∃ a b, x = .str a ∧ xs = [.str b] ∧ Q (.int (Txt.find a b)) H) (tC (.str "ab")) (tVar 9)))
        (l := b) (m := l) (g1 := Seat.d) (f := fun a y => .int ((if comesUp a n then srcOf a.way y (wholesOf s) (restsOf x.bodies s n) else sideIx y : Nat) : Nat)) (fun _ _ => rfl) (fun H5 s6 => ev_var rfl (e1.gr s6)) (fun H5 s6 => ev_var rfl (e2.gr s6)) bl (fun _ _ => rfl) (by omega)
        (fun i st sd hst hsd y z H5 s6 ay az => by
          have okS := ok.s b mb st (List.mem_of_getElem? hst)
          have sY := sX.trans s6
          have sZ := sX.trans s6
          have m := ifE (K := K) (mt_B (mk_call (K := K) (f := fComes) (σ := ((wipe [some v1, some v2, some v3, some v4, some v5, some (.ref p), some w1, some w2, o9, o10] [8, 9]).set 8 (some y)).set 9 (some z)) (r := .bl (comesUp st n)) (mka_cons (mk_var (n := 8) rfl ay) (mka_cons (mk_var (n := 2) rfl (x3.gr sY)) mka_nil)) ⟨st, n, rfl, okS.t1, rfl⟩))
            (fun _ => mk_call (f := fSource) (r := .int (srcOf st.way sd (wholesOf s) (restsOf x.bodies s n) : Nat)) (mka_cons (mk_ixT (i := 2) (mk_var (n := 8) rfl ay) (mk_int (i := 2)) (d := st.way.d) rfl) (mka_cons (mk_var (n := 9) rfl az) (mka_cons (mk_var (n := 3) rfl (x4.gr sZ)) (mka_cons (mk_var (n := 4) rfl (x5.gr sZ)) mka_nil)))) ⟨st.way, sd, wholesOf s, restsOf x.bodies s n, x.wards, rfl, by rw [lw]; exact okS.w, by omega, rfl⟩)
            (fun _ => mk_findS (b := sd) (mk_var (n := 9) rfl az))
          have e : (if comesUp st n = true then D.int (srcOf st.way sd (wholesOf s) (restsOf x.bodies s n) : Nat) else D.int (sideIx sd : Nat)) = .int ((if comesUp st n then srcOf st.way sd (wholesOf s) (restsOf x.bodies s n) else sideIx sd : Nat) : Nat) := by
            cases comesUp st n <;> rfl
          rw [e] at m
          exact m)
      have eR : (D.lst ((b.zip l).map fun p => .int ((if comesUp p.1 n then srcOf p.1.way p.2 (wholesOf s) (restsOf x.bodies s n) else sideIx p.2 : Nat) : Nat))) = rowN (srcB b l n (wholesOf s) (restsOf x.bodies s n)) := by
        unfold rowN srcB
        rw [List.map_map]
        rfl
      rw [eR] at lc
      refine r_app (K := K) rfl (s5 _ _ hp3) (by omega) lc fun v H5 s6 a => ?_
      walk_at "st"
      have s56 := s5.trans s6
      have hp5 := s56 _ _ hp3
      have ne : ∀ q ∈ (srcS x s n).take (j + 1), q ≠ [] := by
        intro q hq
        obtain ⟨⟨b', l'⟩, hz, rfl⟩ := List.mem_map.mp (List.mem_of_mem_take hq)
        obtain ⟨i, hi⟩ := List.mem_iff_getElem?.mp hz
        obtain ⟨hb', hl'⟩ := List.getElem?_zip_eq_some.mp hi
        have b1 : 1 ≤ b'.length := (ok.b b' (List.mem_of_getElem? hb')).1
        have f1 : b'.length = l'.length := fits_at fit hb' hl'
        intro z
        have := congrArg List.length z
        unfold srcB at this
        rw [List.length_map, List.length_zip, List.length_nil] at this
        dsimp only at this
        omega
      have all := (ax.gr s56).app (.cons a .nil : DtA K H5 [v] [rowN (srcB b l n (wholesOf s) (restsOf x.bodies s n))])
      have em : ((srcS x s n).take j).map rowN ++ [rowN (srcB b l n (wholesOf s) (restsOf x.bodies s n))] = ((srcS x s n).take (j + 1)).map rowN := by rw [tk, List.map_append]; rfl
      rw [em] at all
      refine ⟨_, _, _, _, xs ++ [v], rfl, upd_same, by rw [List.length_append, lx]; rfl, ?_, same_mut (sX.trans s6) np⟩
      exact DtA.overI hp5 (DtA.refs ax) all ne
    · rintro σ H3 ⟨o7, o8, o9, o10, xs, rfl, hp3, lx, ax, s4⟩
      walk_at "rd"
      have lb : (srcS x s n).length = x.bodies.length := by unfold srcS; rw [List.length_map, List.length_zip]; omega
      have e0 : (srcS x s n).take (x.bodies.map bodyD).length = srcS x s n := by rw [List.length_map, ← lb, List.take_length]
      rw [e0] at ax
      exact k _ _ s4 (.lst hp3 ax)
theorem ok_HS {f fM fR fS : Addr} {fd fdM fdR fdS : FuncData} (F : L2.Fun K "_house_sources" "_house_sources" sHS f fd) (B : Blt mg) (Z : Blt2 mg) (C : Cst K mg pT) (dside_with_more : Dok P w K mg base 1 "side_with_more" ["letters"] (spP K fMore) fM fdM)
    (d_resting : Dok P w K mg base 2 "_resting" ["body", "letters", "number"] (spP K fResting) fR fdR) (dsources : Dok P w K mg base 2 "sources" ["bodies", "stand", "number", "wholes", "rests"] (spP K fSourcesB) fS fdS) :
    FnOk P w K mg base CX0 3 f fd ["house", "stand", "number"] (spP K fSources) := by
  refine F.ok scHS (fun vs H Q E h => ?_) (fun cdv A outer s H vs Q E hr h => ?_)
  · obtain ⟨_, _, ha, ⟨x, s, n, rfl, _⟩, _⟩ := h
    exact ha.len
  · obtain ⟨_, _, ha, ⟨x, s, n, rfl, ok, fit, rfl⟩, k⟩ := h
    obtain ⟨v1, v2, v3, rfl, x1, x2, x3⟩ := ha.three
    have ok3 := ok.n3
    have okw := ok.w
    have ls := fits_len fit
    refine ⟨_, (pss_cons (ps_set (i := 3) scHS.nd rfl (Or.inl rfl) (pe_ix ix_tup (pv 0) pe_int (fun _ _ => rfl)))
  (pss_cons (ps_setLc (i := 4) (own := [("letters", 6)]) (g := gName 6) (tt := tYes) rfl scHS.nd rfl rfl (sw_true rfl rfl rfl (by decide +kernel)) (pi_tup (pv 1)) (blkOk_by (N := ["house", "stand", "number", "bodies", "wholes", "rests", "letters", "body"]) (sc := defScope sHS) (by decide +kernel)) (fun _ _ _ _ _ => pg_name (i := 6) scHS.nd rfl (Or.inl rfl)) (fun _ _ _ _ _ => pts_nil) (fun _ _ _ _ _ => (pe_call dside_with_more.G (hr.mono (by decide)) rfl dside_with_more.g dside_with_more.k dside_with_more.b .nil pass0 (pa_cons (pv 6) pa_nil))))
  (pss_cons (ps_setLc (i := 5) (own := [("body", 7), ("letters", 6)]) (g := gTup K 2 (gCons (gName 7) (gCons (gName 6) gNil))) (tt := tYes) rfl scHS.nd rfl rfl (sw_true rfl rfl rfl (by decide +kernel)) (RZ.pi_zipA (by rfl) Z.zip (pa_cons (pv 3) (pa_cons (pv 1) pa_nil))) (blkOk_by (N := ["house", "stand", "number", "bodies", "wholes", "rests", "letters", "body"]) (sc := defScope sHS) (by decide +kernel)) (fun _ _ _ _ _ => pg_tup rfl (pgs_cons (pg_name (i := 7) scHS.nd rfl (Or.inl rfl)) (pgs_cons (pg_name (i := 6) scHS.nd rfl (Or.inl rfl)) pgs_nil))) (fun _ _ _ _ _ => pts_nil) (fun _ _ _ _ _ => (pe_call dside_with_more.G (hr.mono (by decide)) rfl dside_with_more.g dside_with_more.k dside_with_more.b .nil pass0 (pa_cons (pe_call d_resting.G (hr.mono (by decide)) rfl d_resting.g d_resting.k d_resting.b .nil pass0 (pa_cons (pv 7) (pa_cons (pv 6) (pa_cons (pv 2) pa_nil)))) pa_nil))))
  (pss_one (ps_ret (pe_call dsources.G (hr.mono (by decide)) rfl dsources.g dsources.k dsources.b .nil pass0 (pa_cons (pv 3) (pa_cons (pv 1) (pa_cons (pv 2) (pa_cons (pv 4) (pa_cons (pv 5) pa_nil))))))))))), ?_⟩
    walk_at "st"
    obtain ⟨u, y5, ku⟩ := ev_ixT (K := K) (ta := tVar 0) (tb := tC (.int 0)) (σ := L2.start ["house", "stand", "number", "bodies", "wholes", "rests", "letters", "body"] [v1, v2, v3]) (i := 0) (ev_var rfl x1) ev_int (d := .tup (x.bodies.map bodyD)) rfl
    refine ku _ ?_
    walk_at "st"
    refine mk_lcM (K := K) (i := 6) (l := s) (g := fun l => .str (sideS l)) (f := fun l => .str (moreStr (moreO (leadS l)))) (fun H1 s1 => ev_var rfl (x2.gr s1)) (fun _ => rfl) (by omega) (fun l hl y H1 s1 ay => mk_call (mka_cons (mk_var (n := 6) rfl ay) mka_nil) ⟨l, Or.inl ⟨rfl, by have := fits_mem ok fit hl; omega⟩, rfl⟩) H Gr.rfl' _ fun vw H1 s1 aw => ?_
    have ew : (D.lst (s.map fun l => .str (moreStr (moreO (leadS l))))) = moresL (wholesOf s) := by unfold moresL wholesOf; rw [List.map_map]; rfl
    rw [ew] at aw
    walk_at "st"
    refine mk_lcZ (K := K) (i := 7) (j := 6) (l := x.bodies) (m := s) (g1 := bodyD) (g2 := fun l => .str (sideS l)) (f := fun a b => .str (moreStr (moreO (leadS (restL a b n))))) (fun _ _ => rfl) (fun H2 s2 => ev_var rfl (y5.gr (s1.trans s2))) (fun H2 s2 => ev_var rfl (x2.gr (s1.trans s2))) ls.symm (fun _ _ => rfl) (by omega)
      (fun j b l hb hl y z H2 s2 ay az => mk_call (mka_cons (mk_call (r := sidesL (restL b l n)) (mka_cons (mk_var (n := 7) rfl ay) (mka_cons (mk_var (n := 6) rfl az) (mka_cons (mk_var (n := 2) rfl (x3.gr (s1.trans s2))) mka_nil))) ⟨b, l, n, rfl, fits_at fit hb hl, fits_mem ok fit (List.mem_of_getElem? hl), fun st hst => (ok.s b (List.mem_of_getElem? hb) st hst).t1, rfl⟩) mka_nil) ⟨restL b l n, Or.inr rfl, rfl⟩) H1 Gr.rfl' _ fun vr H2 s2 ar => ?_
    have er : (D.lst ((x.bodies.zip s).map fun p => .str (moreStr (moreO (leadS (restL p.1 p.2 n)))))) = moresL (restsOf x.bodies s n) := by unfold moresL restsOf; rw [List.map_map]; rfl
    rw [er] at ar
    have s12 := s1.trans s2
    walk_at "st"
    exact mk_call (f := fSourcesB) (mka_cons (mk_var (n := 3) rfl (y5.gr s12)) (mka_cons (mk_var (n := 1) rfl (x2.gr s12)) (mka_cons (mk_var (n := 2) rfl (x3.gr s12)) (mka_cons (mk_var (n := 4) rfl (aw.gr s2)) (mka_cons (mk_var (n := 5) rfl ar) mka_nil))))) ⟨x, s, n, rfl, ok, fit, rfl⟩ H2 Gr.rfl' _ fun v H3 s3 a => k v H3 (s12.trans s3) a
theorem ok_SF {f : Addr} {fd : FuncData} (F : L2.Fun K "stand_of" "stand_of" sSF f fd) (Z : Blt2 mg) (C : Cst K mg pT) : FnOk P w K mg base CX0 1 f fd ["places", "choices"] (spP K fStandOf) := by
  refine F.ok scSF (fun vs H Q E h => ?_) (fun cdv A outer s H vs Q E hr h => ?_)
  · obtain ⟨_, _, ha, ⟨rows, c, rfl, _⟩, _⟩ := h
    exact ha.len
  · obtain ⟨_, _, ha, ⟨rows, c, rfl, lr, hq, lc, rfl⟩, k⟩ := h
    obtain ⟨v1, v2, rfl, x1, x2⟩ := ha.two
    refine ⟨_, (pss_cons (ps_set (i := 2) scSF.nd rfl (Or.inr rfl) (pe_op op_add_str (pe_cstS rfl C.SIDES) (pv 1)))
  (pss_one (ps_ret (pe_callTy call_tuple_of (by rfl) Z.tuple (by decide +kernel) (pa_cons (pe_lc (own := [("row", 3)]) (g := gName 3) (tt := tYes) rfl scSF.nd (pi_list (pv 0)) (blkOk_by (N := ["places", "choices", "sides", "row", "at"]) (sc := defScope sSF) (by decide +kernel)) (fun _ _ _ _ _ => pg_name (i := 3) scSF.nd rfl (Or.inl rfl)) (fun _ _ _ _ _ => pts_nil) (fun _ _ _ _ _ => (pe_m1 PySem.F.slot_str_join PySem.F.type_str_join (mt_joinK (K := K) rfl) pe_str (pe_lc (own := [("at", 4)]) (g := gName 4) (tt := tYes) rfl scSF.nd (pi_listK (K := K) rfl (pv 3)) (blkOk_by (by rfl)) (fun _ _ _ _ _ => pg_name (i := 4) scSF.nd rfl (Or.inl rfl)) (fun _ _ _ _ _ => pts_nil) (fun _ _ _ _ _ => (pe_ix ix_str (pv 2) (pv 4) (fun _ _ => rfl))))))) pa_nil))))), ?_⟩
    walk_at "st"
    refine (mk_addS (l := [true, false]) (m := c) (by rw [sd_ab]; exact mk_str) (mk_var rfl x2) (by simp; omega) : Mk K _ _ H _) H Gr.rfl' _ fun vs H1 s1 as => ?_
    walk_at "st"
    have lst := mk_lcML (K := K) (σ := [some v1, some v2, some vs, none, none]) (H := H1) (i := 3) (ti := tVar 0)
      (te := tM1 (rJoinK K) (tC (.str "")) (tLc (iList K (tVar 3)) (gName 4) tYes (tOp rIxS (tVar 2) (tVar 4)) [4])) (l := rows) (g := rowN) (f := fun q => .str (sideS (q.map (letAt c))))
      (fun H2 s2 => ev_var rfl (x1.gr (s1.trans s2))) (fun _ => rfl) lr (fun q hqm z H2 s2 az => by
        have lk := hq q hqm
        have inn := mk_lcML (K := K) (σ := [some v1, some v2, some vs, some z, none]) (H := H2) (i := 4) (ti := tVar 3) (te := tOp rIxS (tVar 2) (tVar 4)) (l := q) (g := fun k => .int (k : Nat)) (f := fun k => .str (sideS [letAt c k]))
          (fun H3 s3 => ev_var rfl (az.gr s3)) (fun _ => rfl) lk.1 (fun k hk y H3 s3 ay => by
            have kl : k < ([true, false] ++ c).length := by have := lk.2 k hk; rw [List.length_append]; simp; omega
            exact mk_ixS (l := [true, false] ++ c) (i := k) (mk_var (n := 2) rfl (as.gr (s2.trans s3))) (mk_var (n := 4) rfl ay) (by rw [List.getElem?_eq_getElem kl]; simp only [letAt, List.getD]; have kl2 : k < (true :: false :: c).length := kl; rw [List.getElem?_eq_getElem kl2]; rfl) (by rw [List.length_append]; simp; omega))
        have eS : (D.lst (q.map fun k => .str (sideS [letAt c k]))) = sidesL (q.map (letAt c)) := by
          unfold sidesL
          rw [List.map_map]
          rfl
        rw [eS] at inn
        exact mk_joinS inn (by rw [List.length_map]; exact lk.1))
    have e : (D.tup (rows.map fun q => .str (sideS (q.map (letAt c))))) = standD (rows.map fun q => q.map (letAt c)) := by
      unfold standD
      rw [List.map_map]
      rfl
    have fin := mk_tupL lst
    rw [e] at fin
    exact fin H1 Gr.rfl' _ fun v H2 s2 a => k v H2 (s1.trans s2) a
theorem ok_SB {f fS fO : Addr} {fd fdS fdO : FuncData} (F : L2.Fun K "stand_behind" "stand_behind" sSB f fd) (d_house_sources : Dok P w K mg base 3 "_house_sources" ["house", "stand", "number"] (spP K fSources) fS fdS) (dstand_of : Dok P w K mg base 1 "stand_of" ["places", "choices"] (spP K fStandOf) fO fdO) :
    FnOk P w K mg base CX0 4 f fd ["house", "stand", "number", "choices"] (spP K fBehind) := by
  refine F.ok scSB (fun vs H Q E h => ?_) (fun cdv A outer s H vs Q E hr h => ?_)
  · obtain ⟨_, _, ha, ⟨x, s, n, c, rfl, _⟩, _⟩ := h
    exact ha.len
  · obtain ⟨_, _, ha, ⟨x, s, n, c, rfl, ok, fit, hc, rfl⟩, k⟩ := h
    obtain ⟨v1, v2, v3, v4, rfl, x1, x2, x3, x4⟩ := ha.four
    have ok3 := ok.n3
    have okw := ok.w
    have ls := fits_len fit
    refine ⟨_, (pss_one (ps_ret (pe_call dstand_of.G (hr.mono (by decide)) rfl dstand_of.g dstand_of.k dstand_of.b .nil pass0 (pa_cons (pe_call d_house_sources.G (hr.mono (by decide)) rfl d_house_sources.g d_house_sources.k d_house_sources.b .nil pass0 (pa_cons (pv 0) (pa_cons (pv 1) (pa_cons (pv 2) pa_nil)))) (pa_cons (pv 3) pa_nil))))), ?_⟩
    walk_at "st"
    refine mk_call (mka_cons (mk_call (f := fSources) (mka_cons (mk_var rfl x1) (mka_cons (mk_var rfl x2) (mka_cons (mk_var rfl x3) mka_nil))) ⟨x, s, n, rfl, ok, fit, rfl⟩) (mka_cons (mk_var rfl x4) mka_nil)) (r := standD (standBehind x s n c)) ⟨srcS x s n, c, rfl, ?_, ?_, by omega, by rw [srcS_map]⟩ H Gr.rfl' _ fun v H1 s1 a => k v H1 s1 a
    · unfold srcS
      rw [List.length_map, List.length_zip]
      omega
    · intro q hq
      obtain ⟨⟨b, l⟩, hz, rfl⟩ := List.mem_map.mp hq
      obtain ⟨i, hi⟩ := List.mem_iff_getElem?.mp hz
      obtain ⟨hb, hl⟩ := List.getElem?_zip_eq_some.mp hi
      have l9 : l.length ≤ 9 := fits_mem ok fit (List.mem_of_getElem? hl)
      have f1 : b.length = l.length := fits_at fit hb hl
      dsimp only
      refine ⟨by unfold srcB; rw [List.length_map, List.length_zip]; omega, fun kk hk => ?_⟩
      unfold srcB at hk
      obtain ⟨⟨st, sd⟩, hp, rfl⟩ := List.mem_map.mp hk
      obtain ⟨i2, hi2⟩ := List.mem_iff_getElem?.mp hp
      obtain ⟨hst, hsd⟩ := List.getElem?_zip_eq_some.mp hi2
      have okS := ok.s b (List.mem_of_getElem? hb) st (List.mem_of_getElem? hst)
      dsimp only
      rw [hc]
      split
      · exact src_lt okS.w
      · exact Nat.lt_of_lt_of_le (ix_lt _) (by omega)
end
end TSx

namespace TSx
open PySem L2
local macro_rules | `(tactic| walk_at "rd") => `(tactic| repeat (first
  | ((with_reducible show tVar _ _ _ _); refine r_v rfl ?_)
  | with_reducible refine r_c ?_
  | with_reducible refine r_op ?_
  | with_reducible refine r_I0 ?_
  | with_reducible refine r_cb ?_
  | with_reducible refine r_nil ?_
  | with_reducible refine r_cons ?_
  | with_reducible refine r_seq ?_
  | with_reducible refine r_next ?_
  | with_reducible refine r_asg ?_
  | with_reducible refine r_name ?_
  | with_reducible refine r_ret ?_
  | with_reducible refine r_drop ?_
  | with_reducible refine r_if ?_
  | with_reducible refine r_test ?_
  | with_reducible refine r_bl ?_
  | with_reducible refine r_call ?_))
local macro_rules | `(tactic| walk_at "st") => `(tactic| repeat (first
  | with_reducible refine r_seq ?_
  | with_reducible refine r_next ?_
  | with_reducible refine r_asg ?_
  | with_reducible refine r_name ?_
  | with_reducible refine r_ret ?_
  | with_reducible refine r_drop ?_
  | with_reducible refine r_if ?_))
local macro_rules | `(tactic| walk_at "mk") => `(tactic| repeat (first
  | with_reducible exact mk_non
  | with_reducible exact mk_int
  | with_reducible exact mk_str
  | with_reducible exact mk_bl
  | with_reducible exact mk_dic
  | with_reducible exact mka_nil
  | with_reducible refine mka_cons ?_ ?_
  | ((with_reducible refine mk_tup ?_ ?hz); (case hz => decide))
  | ((with_reducible refine mk_lst ?_ ?hz); (case hz => decide))
  | with_reducible refine mk_neg ?_))
abbrev sIS : Stmt := top 22
abbrev sNR : Stmt := top 27
abbrev sRU : Stmt := top 36
theorem scIS : FnScope ["house", "value", "bodies", "body", "letters"] ["house", "value"] (defScope sIS) := ⟨rfl, rfl, rfl, by decide +kernel, rfl, by decide +kernel, by decide +kernel⟩
theorem scNR : FnScope ["house", "rows", "place", "choices"] ["house", "rows"] (defScope sNR) := ⟨rfl, rfl, rfl, by decide +kernel, rfl, by decide +kernel, by decide +kernel⟩
theorem scRU : FnScope ["house", "stand", "rows", "stands", "now", "number", "choices"] ["house", "stand", "rows"] (defScope sRU) := ⟨rfl, rfl, rfl, by decide +kernel, rfl, by decide +kernel, by decide +kernel⟩
def rowsOk (h : House) (cs : List (List Bool)) : Prop := cs.length ≤ 400 ∧ ∀ c ∈ cs, c.length = h.wards
def rowsD (tup : Bool) (cs : List (List Bool)) : D := if tup then .tup (cs.map fun c => .str (sideS c)) else .lst (cs.map fun c => .str (sideS c))
def fIsStand (ds : List D) (r : D) : Prop := ∃ (h : House) (s : List (List Bool)), ds = [h.d, standD s] ∧ h.ok ∧ Fits h s ∧ r = .bl true
def fRows (ds : List D) (r : D) : Prop := ∃ (h : House) (t : Bool) (cs : List (List Bool)), ds = [h.d, rowsD t cs] ∧ h.ok ∧ rowsOk h cs ∧ r = rowsD t cs
def fYear (ds : List D) (r : D) : Prop := ∃ (h : House) (s : List (List Bool)) (n : Int) (c : List Bool), ds = [h.d, standD s, .int n, .str (sideS c)] ∧ h.ok ∧ Fits h s ∧ c.length = h.wards ∧ 0 ≤ n ∧ n ≤ 10 ^ 30 ∧ r = standD (standBehind h s n c)
def stAt (h : House) (s : List (List Bool)) (cs : List (List Bool)) : Nat → List (List Bool)
  | 0 => s
  | j + 1 => standBehind h (stAt h s cs j) (j : Int) (cs.getD j [])
def runL (h : House) (s : List (List Bool)) (cs : List (List Bool)) (j : Nat) : List D := (List.range j).map fun j => standD (stAt h s cs (j + 1))
def fRun (ds : List D) (r : D) : Prop := ∃ (h : House) (s : List (List Bool)) (t : Bool) (cs : List (List Bool)), ds = [h.d, standD s, rowsD t cs] ∧ h.ok ∧ Fits h s ∧ rowsOk h cs ∧ r = .tup (runL h s cs cs.length)
def fMaj (ds : List D) (r : D) : Prop := ∃ (h : House) (s : List (List Bool)), ds = [h.d, standD s] ∧ h.ok ∧ Fits h s ∧ r = .tup (s.map fun l => .str (moreStr (moreO (leadS l))))
def dueB (i : Nat) (b : List Seat) (n : Int) (k : Nat) : List D := ((List.range k).filter fun j => match b[j]? with | some s => comesUp s n | none => false).map fun j => .tup [.int (i : Nat), .int (j : Nat)]
def dueL (bs : List (List Seat)) (n : Int) (k : Nat) : List D := ((List.range k).map fun i => match bs[i]? with | some b => dueB i b n b.length | none => []).flatten
def fDue (ds : List D) (r : D) : Prop := ∃ (h : House) (n : Int), ds = [h.d, .int n] ∧ h.ok ∧ 0 ≤ n ∧ n ≤ 10 ^ 30 ∧ r = .tup (dueL h.bodies n h.bodies.length)
theorem fits_behind {h : House} {s : List (List Bool)} {n : Int} {c : List Bool} (f : Fits h s) : Fits h (standBehind h s n c) := by
  unfold Fits standBehind
  refine List.ext_getElem? fun i => ?_
  rw [List.map_map, List.getElem?_map, List.getElem?_map]
  cases hb : h.bodies[i]? with
  | none =>
    have : (h.bodies.zip s)[i]? = none := by
      rw [List.getElem?_eq_none_iff] at hb ⊢
      rw [List.length_zip]
      omega
    rw [this]; rfl
  | some b =>
    have lt : i < s.length := by rw [fits_len f]; exact (List.getElem?_eq_some_iff.mp hb).1
    have hl : s[i]? = some s[i] := List.getElem?_eq_getElem lt
    rw [(List.getElem?_zip_eq_some (z := (b, s[i]))).mpr ⟨hb, hl⟩]
    have e := fits_at f hb hl
    show some (behindB b s[i] n c _ _).length = some b.length
    unfold behindB
    rw [List.length_map, List.length_zip, e]
    simp
theorem fits_stAt {h : House} {s cs : List (List Bool)} (f : Fits h s) : ∀ j, Fits h (stAt h s cs j)
  | 0 => f
  | j + 1 => fits_behind (fits_stAt f j)
section
variable {K : PySem.W.Frag} {σ : Sg} {H H0 : Hp} {te ta tb tc ti : TE} {t : TA} {d r : D} {ds es : List D}
/-- tuples of things without parts stand when a list is written -/
theorem Dt.overL {v : V} {p : Addr} {xs : List V} {o : HO} (h : Dt K H v (.tup ds)) (fl : ∀ d ∈ ds, d.sc = true) (hp : H p = some (.lst xs)) : Dt K (upd H p o) v (.tup ds) := by
  cases h with
  | @tup a ys _ e aa =>
    refine .tup ?_ (aa.any fl)
    rcases e with (e | ⟨u, e⟩) | e
    · exact Or.inl (Or.inl (by rw [upd_ne (fun z => by rw [z, hp] at e; cases e)]; exact e))
    · exact Or.inl (Or.inr ⟨u, by rw [upd_ne (fun z => by rw [z, hp] at e; cases e)]; exact e⟩)
    · exact Or.inr e
def D.ft : D → Bool
  | .tup ds => ds.all D.sc
  | _ => false
theorem DtA.overL {p : Addr} {xs : List V} {o : HO} (hp : H p = some (.lst xs)) : ∀ {vs : List V} {ds : List D}, DtA K H vs ds → (∀ d ∈ ds, d.ft = true) → DtA K (upd H p o) vs ds
  | _, _, .nil, _ => .nil
  | _, d :: ds, .cons a b, h => by
    refine .cons ?_ (DtA.overL hp b fun x hx => h x (List.mem_cons_of_mem _ hx))
    have q := h d (List.mem_cons_self ..)
    cases d with
    | tup es => exact a.overL (fun x hx => List.all_eq_true.mp q x hx) hp
    | non => cases q
    | bl _ => cases q
    | int _ => cases q
    | str _ => cases q
    | lst _ => cases q
    | dic _ => cases q
    | exc _ _ => cases q
theorem ft_stand (s : List (List Bool)) : (standD s).ft = true := by
  show (s.map fun l => D.str (sideS l)).all D.sc = true
  rw [List.all_eq_true]
  intro x hx
  obtain ⟨l, _, rfl⟩ := List.mem_map.mp hx
  rfl
theorem sc_stand (s : List (List Bool)) : ∀ d ∈ s.map fun l => D.str (sideS l), d.sc = true := fun x hx => by
  obtain ⟨l, _, rfl⟩ := List.mem_map.mp hx
  rfl
theorem mk_isiLT (h : Mk K ta σ H d) (hd : d.ty = "list" ∨ d.ty = "tuple") : Mk K (tCB (rIsiT K) (tCons ta (tCons (tTup (tCons (tC (.ty "list")) (tCons (tC (.ty "tuple")) tNil))) tNil))) σ H (.bl true) := fun H1 s Q q => h H1 s _ fun v H2 s2 a => by
  refine ⟨sz1 (show 2 ≤ 100000 by decide), fun p np => ?_⟩
  have s3 : Same H2 (upd H2 p (.tup [.ty "list", .ty "tuple"])) := same_new np
  have ne : d.isE = false := by
    cases d with
    | exc _ _ => rcases hd with z | z <;> exact absurd z (by simp [D.ty])
    | _ => rfl
  refine ⟨v, p, [.ty "list", .ty "tuple"], .type d.ty, [.type "list", .type "tuple"], true, rfl, upd_same, .cons (.ty _) (.cons (.ty _) .nil), ty_of (a.gr s3) ne, ?_, q _ _ (s2.trans s3) (.bl true)⟩
  rcases hd with e | e <;> rw [e]
  · exact kitAny_cons (b := true) (kit_ty (by decide +kernel)) (fun z => by cases z) (fun _ => rfl)
  · exact kitAny_cons (b := false) (kit_ty (by decide +kernel)) (fun _ => kitAny_cons (b := true) (kit_ty (by decide +kernel)) (fun z => by cases z) (fun _ => rfl)) (fun z => by cases z)
/-- for .. in enumerate(list) -/
theorem r_forEL {g : TG} {b : TS} {E : Ends} (h : Ev0 K te σ H H0 (.lst ds)) (Pv : Nat → Sg → Hp → Prop) (h0 : Pv 0 σ H) (hG : ∀ k σ' H', Pv k σ' H' → Same H0 H')
    (step : ∀ k d T σ' H' H'', ds[k]? = some d → Pv k σ' H' → Same H' H'' → Dt K H'' (.ref T) (.tup [.int (k : Nat), d]) → g (.ref T) σ' H'' fun σ2 H2 => b { E with nx := Pv (k + 1), ct := Pv (k + 1), bk := E.nx } σ2 H2)
    (hd : ∀ σ' H', Pv ds.length σ' H' → E.nx σ' H') : tFor (iEnum K (tCons te tNil)) g b E σ H := by
  obtain ⟨v, a, k⟩ := h
  refine k _ ?_
  cases a with
  | @lst p xs _ e aa =>
    have lx := aa.len
    refine ⟨p, xs, rfl, SqL.of (hG _ _ _ h0 _ _ e), for_it walk_enum Pv h0 (fun i σ' H' _ z => SqL.of (hG _ _ _ z _ _ e)) ?_ (fun σ' H' z => hd σ' H' (by rw [← lx]; exact z))⟩
    rintro i x σ' H' H'' hi z ⟨T, y1, y2, rfl, nT, rfl, e1, e2⟩
    cases e1
    obtain ⟨y, hy, ay⟩ := aa.at e2
    have s1 : Same H' (upd H' T (.tup [.int (i : Nat), y2])) := same_new nT
    exact step i y T σ' H' _ hy z s1 (.tup (SqT.of upd_same) (.cons (.int _) (.cons (ay.gr ((hG _ _ _ z).trans s1)) .nil)))
end
section
variable {P : Program} {w : World} {K : PySem.W.Frag} {mg : Str → Option Value} {base : Heap} {pT : Addr}
theorem ok_IS {f fT fS : Addr} {fd fdT fdS : FuncData} (F : L2.Fun K "is_stand" "is_stand" sIS f fd) (B : Blt mg) (Z : Blt2 mg)
    (dis_tuple : Dok P w K mg base 1 "is_tuple" ["value", "least", "most"] (spP K fTuple) fT fdT) (dis_sides : Dok P w K mg base 1 "is_sides" ["value", "many"] (spP K fSides) fS fdS) :
    FnOk P w K mg base CX0 2 f fd ["house", "value"] (spP K fIsStand) := by
  refine F.ok scIS (fun vs H Q E h => ?_) (fun cdv A outer s H vs Q E hr h => ?_)
  · obtain ⟨_, _, ha, ⟨x, s, rfl, _⟩, _⟩ := h
    exact ha.len
  · obtain ⟨_, _, ha, ⟨x, s, rfl, ok, fit, rfl⟩, k⟩ := h
    obtain ⟨v1, v2, rfl, x1, x2⟩ := ha.two
    have ls := fits_len fit
    have ok3 := ok.n3
    refine ⟨_, (pss_cons (ps_set (i := 2) scIS.nd rfl (Or.inl rfl) (pe_ix ix_tup (pv 0) pe_int (fun _ _ => rfl)))
  (pss_cons (ps_if (pt_not (pt_val (pe_call dis_tuple.G (hr.mono (by decide)) rfl dis_tuple.g dis_tuple.k dis_tuple.b .nil pass0 (pa_cons (pv 1) (pa_cons (pe_callB call_len_seq (by rfl) B.len PySem.boot_len (pa_cons (pv 2) pa_nil)) (pa_cons (pe_callB call_len_seq (by rfl) B.len PySem.boot_len (pa_cons (pv 2) pa_nil)) pa_nil)))))) (pss_one (ps_ret pe_bl)) pss_nil)
  (pss_one (ps_ret (pe_callB (cr_all rfl) (by rfl) Z.all (by decide +kernel) (pa_cons (pe_lc (own := [("body", 3), ("letters", 4)]) (g := gTup K 2 (gCons (gName 3) (gCons (gName 4) gNil))) (tt := tYes) rfl scIS.nd (RZ.pi_zipA (by rfl) Z.zip (pa_cons (pv 2) (pa_cons (pv 1) pa_nil))) (blkOk_by (N := ["house", "value", "bodies", "body", "letters"]) (sc := defScope sIS) (by decide +kernel)) (fun _ _ _ _ _ => pg_tup rfl (pgs_cons (pg_name (i := 3) scIS.nd rfl (Or.inl rfl)) (pgs_cons (pg_name (i := 4) scIS.nd rfl (Or.inl rfl)) pgs_nil))) (fun _ _ _ _ _ => pts_nil) (fun _ _ _ _ _ => (pe_call dis_sides.G (hr.mono (by decide)) rfl dis_sides.g dis_sides.k dis_sides.b .nil pass0 (pa_cons (pv 4) (pa_cons (pe_callB (call_lenK (K := K) rfl) (by rfl) B.len PySem.boot_len (pa_cons (pv 3) pa_nil)) pa_nil))))) pa_nil)))))), ?_⟩
    walk_at "st"
    obtain ⟨u, y5, ku⟩ := ev_ixT (K := K) (ta := tVar 0) (tb := tC (.int 0)) (σ := L2.start ["house", "value", "bodies", "body", "letters"] [v1, v2]) (i := 0) (ev_var rfl x1) ev_int (d := .tup (x.bodies.map bodyD)) rfl
    refine ku _ ?_
    walk_at "st"
    refine (mt_not (mt_B (mk_call (r := .bl true) (mka_cons (mk_var rfl x2) (mka_cons (mk_lenT (mk_var rfl y5)) (mka_cons (mk_lenT (mk_var rfl y5)) mka_nil))) ⟨_, _, _, rfl, by rw [List.length_map, List.length_map]; omega, by rw [List.length_map, List.length_map]; omega, rfl⟩)) : MkT _ _ H false) H Gr.rfl' _ fun H2 s2 => iteF ?_
    walk_at "st"
    have lc := mk_lcZ (K := K) (σ := [some v1, some v2, some u, none, none]) (H := H2) (i := 3) (j := 4) (ta := tVar 2) (tc := tVar 1) (te := tCall (spP K fSides) [] E0 (tCons (tVar 4) (tCons (tCB (fun xs H Q => ∃ p ys, xs = [.ref p] ∧ (SqL K H p ys ∨ SqT K H p ys) ∧ Q (.int ys.length) H) (tCons (tVar 3) tNil)) tNil)))
      (l := x.bodies) (m := s) (g1 := bodyD) (g2 := fun l => .str (sideS l)) (f := fun _ _ => .bl true) (fun _ _ => rfl) (fun H3 s3 => ev_var rfl (y5.gr (s2.trans s3))) (fun H3 s3 => ev_var rfl (x2.gr (s2.trans s3))) ls.symm (fun _ _ => rfl) (by omega)
      (fun j b l hb hl y z H3 s3 ay az => mk_call (mka_cons (mk_var (n := 4) rfl az) (mka_cons (mk_lenT (mk_var (n := 3) rfl ay)) mka_nil)) ⟨l, by rw [List.length_map, fits_at fit hb hl], by have := fits_mem ok fit (List.mem_of_getElem? hl); omega, rfl⟩)
    have al := mk_all (bs := (x.bodies.zip s).map fun _ => true) (by rw [List.map_map]; exact lc)
    refine al H2 Gr.rfl' _ fun v H3 s3 a => k v H3 (s2.trans s3) ?_
    rw [show ((x.bodies.zip s).map fun _ => true).all id = true by simp] at a
    exact a
theorem ok_NS {f fH fI : Addr} {fd fdH fdI : FuncData} (F : L2.Fun K "need_stand" "need_stand" sNS f fd)
    (dneed_house : Dok P w K mg base 5 "need_house" ["house"] (spP K fHouse) fH fdH) (dis_stand : Dok P w K mg base 2 "is_stand" ["house", "value"] (spP K fIsStand) fI fdI) :
    FnOk P w K mg base CX0 6 f fd ["house", "stand"] (spP K fStand) := by
  refine F.ok scNS (fun vs H Q E h => ?_) (fun cdv A outer s H vs Q E hr h => ?_)
  · obtain ⟨_, _, ha, ⟨x, s, rfl, _⟩, _⟩ := h
    exact ha.len
  · obtain ⟨_, _, ha, ⟨x, s, rfl, ok, fit, rfl⟩, k⟩ := h
    obtain ⟨v1, v2, rfl, x1, x2⟩ := ha.two
    refine ⟨_, (pss_cons (ps_expr (pe_call dneed_house.G (hr.mono (by decide)) rfl dneed_house.g dneed_house.k dneed_house.b .nil pass0 (pa_cons (pv 0) pa_nil)))
  (pss_cons (ps_if (pt_not (pt_val (pe_call dis_stand.G (hr.mono (by decide)) rfl dis_stand.g dis_stand.k dis_stand.b .nil pass0 (pa_cons (pv 0) (pa_cons (pv 1) pa_nil))))) (pss_one ps_never) pss_nil)
  (pss_one (ps_ret (pv 1))))), ?_⟩
    walk_at "st"
    refine (mk_call (r := x.d) (mka_cons (mk_var rfl x1) mka_nil) ⟨x, rfl, ok, rfl⟩ : Mk K _ _ H x.d) H Gr.rfl' _ fun _ H1 s1 _ => ?_
    walk_at "st"
    refine (mt_not (mt_B (mk_call (r := .bl true) (mka_cons (mk_var rfl (x1.gr s1)) (mka_cons (mk_var rfl (x2.gr s1)) mka_nil)) ⟨x, s, rfl, ok, fit, rfl⟩)) : MkT _ _ H1 false) H1 Gr.rfl' _ fun H2 s2 => iteF ?_
    walk_at "rd"
    exact k v2 H2 (s1.trans s2) (x2.gr (s1.trans s2))
end
end TSx

namespace TSx
open PySem L2
local macro_rules | `(tactic| walk_at "rd") => `(tactic| repeat (first
  | ((with_reducible show tVar _ _ _ _); refine r_v rfl ?_)
  | with_reducible refine r_c ?_
  | with_reducible refine r_op ?_
  | with_reducible refine r_I0 ?_
  | with_reducible refine r_cb ?_
  | with_reducible refine r_nil ?_
  | with_reducible refine r_cons ?_
  | with_reducible refine r_seq ?_
  | with_reducible refine r_next ?_
  | with_reducible refine r_asg ?_
  | with_reducible refine r_name ?_
  | with_reducible refine r_ret ?_
  | with_reducible refine r_drop ?_
  | with_reducible refine r_if ?_
  | with_reducible refine r_test ?_
  | with_reducible refine r_bl ?_
  | with_reducible refine r_call ?_))
local macro_rules | `(tactic| walk_at "st") => `(tactic| repeat (first
  | with_reducible refine r_seq ?_
  | with_reducible refine r_next ?_
  | with_reducible refine r_asg ?_
  | with_reducible refine r_name ?_
  | with_reducible refine r_ret ?_
  | with_reducible refine r_drop ?_
  | with_reducible refine r_if ?_))
local macro_rules | `(tactic| walk_at "mk") => `(tactic| repeat (first
  | with_reducible exact mk_non
  | with_reducible exact mk_int
  | with_reducible exact mk_str
  | with_reducible exact mk_bl
  | with_reducible exact mk_dic
  | with_reducible exact mka_nil
  | with_reducible refine mka_cons ?_ ?_
  | ((with_reducible refine mk_tup ?_ ?hz); (case hz => decide))
  | ((with_reducible refine mk_lst ?_ ?hz); (case hz => decide))
  | with_reducible refine mk_neg ?_))
theorem rowsD_ty (t : Bool) (cs : List (List Bool)) : (rowsD t cs).ty = "list" ∨ (rowsD t cs).ty = "tuple" := by
  cases t
  · exact Or.inl rfl
  · exact Or.inr rfl
section
variable {P : Program} {w : World} {K : PySem.W.Frag} {mg : Str → Option Value} {base : Heap} {pT : Addr}
theorem ok_NR {f fS : Addr} {fd fdS : FuncData} (F : L2.Fun K "need_rows" "need_rows" sNR f fd) (B : Blt mg) (Z : Blt2 mg) (C : Cst K mg pT) (dis_sides : Dok P w K mg base 1 "is_sides" ["value", "many"] (spP K fSides) fS fdS) : FnOk P w K mg base CX0 2 f fd ["house", "rows"] (spP K fRows) := by
  refine F.ok scNR (fun vs H Q E h => ?_) (fun cdv A outer s H vs Q E hr h => ?_)
  · obtain ⟨_, _, ha, ⟨x, t, cs, rfl, _⟩, _⟩ := h
    exact ha.len
  · obtain ⟨_, _, ha, ⟨x, t, cs, rfl, ok, ⟨rl, rc⟩, rfl⟩, k⟩ := h
    obtain ⟨v1, v2, rfl, x1, x2⟩ := ha.two
    have okw := ok.w
    have step : ∀ {D0 : Ends} {H1 : Hp} {j : Nat} {d : D} {T : Addr} {o2 o3 : Option V} {H2 H3 : Hp} (Pn : Sg → Hp → Prop), Same H H1 → (cs.map fun c => D.str (sideS c))[j]? = some d → Same H1 H2 → Same H2 H3 → Dt K H3 (.ref T) (.tup [.int (j : Nat), d]) →
        (∀ H4 w1 w2, Same H3 H4 → Pn [some v1, some v2, some w1, some w2] H4) → gTup K 2 (gCons (gName 2) (gCons (gName 3) gNil)) (.ref T) [some v1, some v2, o2, o3] H3 fun σ2 H2 => tIfS (tNot (tB (tCall (spP K fSides) [] E0 (tCons (tVar 3) (tCons (tOp (rIxT K) (tVar 0) (tC (.int 1))) tNil))))) tNever tNext { D0 with nx := Pn, ct := Pn, bk := D0.nx } σ2 H2 := by
      intro D0 H1 j d T o2 o3 H2 H3 Pn s1 hj s2 s3 aT fin
      obtain ⟨c, hc, rfl⟩ := at_map hj
      have lc := rc c (List.mem_of_getElem? hc)
      refine r_unp2 aT fun w1 w2 e1 e2 => ?_
      walk_at "st"
      have sX := (s1.trans s2).trans s3
      refine (mt_not (mt_B (mk_call (r := .bl true) (mka_cons (mk_var rfl e2) (mka_cons (mk_ixT (i := 1) (mk_var rfl (x1.gr sX)) mk_int (d := .int x.wards) rfl) mka_nil)) ⟨c, by rw [lc], by omega, rfl⟩)) : MkT _ _ H3 false) H3 Gr.rfl' _ fun H4 s4 => iteF ?_
      walk_at "st"
      exact fin H4 w1 w2 s4
    have lm : (cs.map fun c => D.str (sideS c)).length = cs.length := List.length_map ..
    cases t with
    | true =>
      refine ⟨_, (pss_cons (ps_if (PW.pt (pw_or (pt_not (pt_val (pe_callB call_isiT (by rfl) B.isinstance PyProof.Rows.boot_isinstance (pa_cons (pv 1) (pa_cons (pe_tup (pa_cons (pe_bltn (v := .ty "list") (by rfl) Z.list (by decide +kernel) rfl) (pa_cons (pe_bltn (v := .ty "tuple") (by rfl) Z.tuple (by decide +kernel) rfl) pa_nil))) pa_nil))))) (pw_or1 (pt_cmpR op_gt (pe_callB call_len_seq (by rfl) B.len PySem.boot_len (pa_cons (pv 1) pa_nil)) (pe_cstE rfl C.MOST_ROWS) (nomark _))))) (pss_one ps_never) pss_nil)
  (pss_cons (ps_for PassesOwn.never rfl (pi_enumT (by rfl) B.enumerate (pa_cons (pv 1) pa_nil)) (pg_tup rfl (pgs_cons (pg_name (i := 2) scNR.nd rfl (Or.inl rfl)) (pgs_cons (pg_name (i := 3) scNR.nd rfl (Or.inl rfl)) pgs_nil)))
  (pss_one (ps_if (pt_not (pt_val (pe_call dis_sides.G (hr.mono (by decide)) rfl dis_sides.g dis_sides.k dis_sides.b .nil pass0 (pa_cons (pv 3) (pa_cons (pe_ix ix_tup (pv 0) pe_int (fun _ _ => rfl)) pa_nil))))) (pss_one ps_never) pss_nil)))
  (pss_one (ps_ret (pv 1))))), ?_⟩
      walk_at "st"
      have t0 := mt_test (mk_I0b (K := K) (g := fun i j => decide (i > j)) (mk_lenT (mk_var (n := 1) (σ := L2.start ["house", "rows", "place", "choices"] [v1, v2]) (H := H) rfl x2)) (mk_int (i := 400)))
      rw [show decide ((((cs.map fun c => D.str (sideS c)).length : Nat) : Int) > 400) = false from decide_eq_false (by omega)] at t0
      refine (mt_or (mt_not (mt_B (mk_isiLT (mk_var rfl x2) (rowsD_ty true cs))) : MkT _ _ H false) t0) H Gr.rfl' _ fun H1 s1 => iteF ?_
      walk_at "st"
      refine r_forE (H0 := H1) (ds := cs.map fun c => .str (sideS c)) (ev0_var rfl (x2.gr s1)) (fun j σ H' => ∃ o2 o3 : Option V, σ = [some v1, some v2, o2, o3] ∧ Same H1 H') ⟨_, _, rfl, Gr.rfl'⟩ (fun j σ' H' z => by obtain ⟨_, _, _, z⟩ := z; exact z) ?_ ?_
      · rintro j d T σ H2 H3 hj ⟨o2, o3, rfl, s2⟩ s3 aT
        exact step _ s1 hj s2 s3 aT fun H4 w1 w2 s4 => ⟨_, _, rfl, (s2.trans s3).trans s4⟩
      · rintro σ H2 ⟨o2, o3, rfl, s2⟩
        walk_at "rd"
        exact k v2 H2 (s1.trans s2) (x2.gr (s1.trans s2))
    | false =>
      refine ⟨_, (pss_cons (ps_if (PW.pt (pw_or (pt_not (pt_val (pe_callB call_isiT (by rfl) B.isinstance PyProof.Rows.boot_isinstance (pa_cons (pv 1) (pa_cons (pe_tup (pa_cons (pe_bltn (v := .ty "list") (by rfl) Z.list (by decide +kernel) rfl) (pa_cons (pe_bltn (v := .ty "tuple") (by rfl) Z.tuple (by decide +kernel) rfl) pa_nil))) pa_nil))))) (pw_or1 (pt_cmpR op_gt (pe_callB call_len_seq (by rfl) B.len PySem.boot_len (pa_cons (pv 1) pa_nil)) (pe_cstE rfl C.MOST_ROWS) (nomark _))))) (pss_one ps_never) pss_nil)
  (pss_cons (ps_for PassesOwn.never rfl (pi_enum (by rfl) B.enumerate (pa_cons (pv 1) pa_nil)) (pg_tup rfl (pgs_cons (pg_name (i := 2) scNR.nd rfl (Or.inl rfl)) (pgs_cons (pg_name (i := 3) scNR.nd rfl (Or.inl rfl)) pgs_nil)))
  (pss_one (ps_if (pt_not (pt_val (pe_call dis_sides.G (hr.mono (by decide)) rfl dis_sides.g dis_sides.k dis_sides.b .nil pass0 (pa_cons (pv 3) (pa_cons (pe_ix ix_tup (pv 0) pe_int (fun _ _ => rfl)) pa_nil))))) (pss_one ps_never) pss_nil)))
  (pss_one (ps_ret (pv 1))))), ?_⟩
      walk_at "st"
      have t0 := mt_test (mk_I0b (K := K) (g := fun i j => decide (i > j)) (mk_len (mk_var (n := 1) (σ := L2.start ["house", "rows", "place", "choices"] [v1, v2]) (H := H) rfl x2)) (mk_int (i := 400)))
      rw [show decide ((((cs.map fun c => D.str (sideS c)).length : Nat) : Int) > 400) = false from decide_eq_false (by omega)] at t0
      refine (mt_or (mt_not (mt_B (mk_isiLT (mk_var rfl x2) (rowsD_ty false cs))) : MkT _ _ H false) t0) H Gr.rfl' _ fun H1 s1 => iteF ?_
      walk_at "st"
      refine r_forEL (H0 := H1) (ds := cs.map fun c => .str (sideS c)) (ev0_var rfl (x2.gr s1)) (fun j σ H' => ∃ o2 o3 : Option V, σ = [some v1, some v2, o2, o3] ∧ Same H1 H') ⟨_, _, rfl, Gr.rfl'⟩ (fun j σ' H' z => by obtain ⟨_, _, _, z⟩ := z; exact z) ?_ ?_
      · rintro j d T σ H2 H3 hj ⟨o2, o3, rfl, s2⟩ s3 aT
        exact step _ s1 hj s2 s3 aT fun H4 w1 w2 s4 => ⟨_, _, rfl, (s2.trans s3).trans s4⟩
      · rintro σ H2 ⟨o2, o3, rfl, s2⟩
        walk_at "rd"
        exact k v2 H2 (s1.trans s2) (x2.gr (s1.trans s2))
theorem ok_RU {f fS fR fB : Addr} {fd fdS fdR fdB : FuncData} (F : L2.Fun K "run" "run" sRU f fd) (B : Blt mg) (Z : Blt2 mg) (dneed_stand : Dok P w K mg base 6 "need_stand" ["house", "stand"] (spP K fStand) fS fdS) (dneed_rows : Dok P w K mg base 2 "need_rows" ["house", "rows"] (spP K fRows) fR fdR)
    (dstand_behind : Dok P w K mg base 4 "stand_behind" ["house", "stand", "number", "choices"] (spP K fBehind) fB fdB) : FnOk P w K mg base CX0 7 f fd ["house", "stand", "rows"] (spP K fRun) := by
  refine F.ok scRU (fun vs H Q E h => ?_) (fun cdv A outer s H vs Q E hr h => ?_)
  · obtain ⟨_, _, ha, ⟨x, s, t, cs, rfl, _⟩, _⟩ := h
    exact ha.len
  · obtain ⟨_, _, ha, ⟨x, s, t, cs, rfl, ok, fit, ⟨rl, rc⟩, rfl⟩, k⟩ := h
    obtain ⟨v1, v2, v3, rfl, x1, x2, x3⟩ := ha.three
    have lm : (cs.map fun c => D.str (sideS c)).length = cs.length := List.length_map ..
    -- one turn
    have step : ∀ {D0 : Ends} {p : Addr} {H1 : Hp} {j : Nat} {d : D} {T : Addr} {vn : V} {o5 o6 : Option V} {H2 H3 : Hp} {xs : List V} (Pn : Sg → Hp → Prop), H1 p = none → Same H H1 → (cs.map fun c => D.str (sideS c))[j]? = some d → Same H1 H2 → H2 p = some (.lst xs) → xs.length = j → DtA K H2 xs (runL x s cs j) → Dt K H2 vn (standD (stAt x s cs j)) → Same H2 H3 → Dt K H3 (.ref T) (.tup [.int (j : Nat), d]) →
        (∀ H4 xs' w1 w2 vn', Same H1 H4 → H4 p = some (.lst xs') → xs'.length = j + 1 → DtA K H4 xs' (runL x s cs (j + 1)) → Dt K H4 vn' (standD (stAt x s cs (j + 1))) → Pn [some v1, some v2, some v3, some (.ref p), some vn', some w1, some w2] H4) →
        gTup K 2 (gCons (gName 5) (gCons (gName 6) gNil)) (.ref T) [some v1, some v2, some v3, some (.ref p), some vn, o5, o6] H3 fun σ2 H2 => tSeq (tAsg (tCall (spP K fBehind) [] E0 (tCons (tVar 0) (tCons (tVar 4) (tCons (tVar 5) (tCons (tVar 6) tNil))))) (gName 4)) (tDrop (tBM K "list" rAppend (tVar 3) (tCons (tVar 4) tNil))) { D0 with nx := Pn, ct := Pn, bk := D0.nx } σ2 H2 := by
      intro D0 p H1 j d T vn o5 o6 H2 H3 xs Pn np s1 hj s2 hp lx ax an s3 aT fin
      obtain ⟨c, hc, rfl⟩ := at_map hj
      have lc := rc c (List.mem_of_getElem? hc)
      have jl := (List.getElem?_eq_some_iff.mp hc).1
      refine r_unp2 aT fun w1 w2 e1 e2 => ?_
      walk_at "st"
      have sX := (s1.trans s2).trans s3
      refine (mk_call (mka_cons (mk_var rfl (x1.gr sX)) (mka_cons (mk_var rfl (an.gr s3)) (mka_cons (mk_var rfl e1) (mka_cons (mk_var rfl e2) mka_nil)))) ⟨x, stAt x s cs j, (j : Int), c, rfl, ok, fits_stAt fit j, lc, rfl⟩ : Mk K _ _ H3 (standD (standBehind x (stAt x s cs j) j c))) H3 Gr.rfl' _ fun v4 H4 s4 a4 => ?_
      walk_at "st"
      have e : stAt x s cs (j + 1) = standBehind x (stAt x s cs j) j c := by
        show standBehind x (stAt x s cs j) (j : Int) (cs.getD j []) = _
        rw [show cs.getD j [] = c by rw [List.getD, hc]; rfl]
      rw [← e] at a4
      have s34 := s3.trans s4
      refine r_app (K := K) (d := standD (stAt x s cs (j + 1))) rfl (s34 _ _ hp) (by omega) (mk_var rfl a4) fun v5 H5 s5 a5 => ?_
      walk_at "st"
      have hp5 := s5 _ _ (s34 _ _ hp)
      have rs : runL x s cs (j + 1) = runL x s cs j ++ [standD (stAt x s cs (j + 1))] := by unfold runL; rw [List.range_succ, List.map_append]; rfl
      have a5' : Dt K (upd H5 p (.lst (xs ++ [v5]))) v5 (standD (stAt x s cs (j + 1))) := a5.overL (sc_stand _) hp5
      refine fin _ (xs ++ [v5]) w1 w2 _ (same_mut (s2.trans (s34.trans s5)) np) upd_same (by rw [List.length_append, lx]; rfl) ?_ ((a4.gr s5).overL (sc_stand _) hp5)
      rw [rs]
      refine DtA.app (DtA.overL hp5 (ax.gr (s34.trans s5)) fun d hd => ?_) (.cons a5' .nil)
      unfold runL at hd
      obtain ⟨i, _, rfl⟩ := List.mem_map.mp hd
      exact ft_stand _
    -- the end
    have done : ∀ {p : Addr} {H1 H2 : Hp} {xs : List V} {vn : V} {o5 o6 : Option V}, Same H H1 → Same H1 H2 → H2 p = some (.lst xs) → DtA K H2 xs (runL x s cs cs.length) → tRet (tCB (fun xs H Q => ∃ p ys, xs = [.ref p] ∧ ((SqL K H p ys ∧ ∀ l, H l = none → Q (.ref l) (upd H l (.tup ys))) ∨ (SqT K H p ys ∧ Q (.ref p) H))) (tCons (tVar 3) tNil)) { nx := fun _ H' => Q .non H', rt := Q } [some v1, some v2, some v3, some (.ref p), some vn, o5, o6] H2 := by
      intro p H1 H2 xs vn o5 o6 s1 s2 hp ax
      walk_at "st"
      exact mk_tupL (K := K) (mk_var (n := 3) rfl (.lst hp ax)) H2 Gr.rfl' _ fun v H3 s3 a => k v H3 ((s1.trans s2).trans s3) a
    cases t with
    | true =>
      refine ⟨_, (pss_cons (ps_expr (pe_call dneed_stand.G (hr.mono (by decide)) rfl dneed_stand.g dneed_stand.k dneed_stand.b .nil pass0 (pa_cons (pv 0) (pa_cons (pv 1) pa_nil))))
  (pss_cons (ps_expr (pe_call dneed_rows.G (hr.mono (by decide)) rfl dneed_rows.g dneed_rows.k dneed_rows.b .nil pass0 (pa_cons (pv 0) (pa_cons (pv 2) pa_nil))))
  (pss_cons (ps_set (i := 3) scRU.nd rfl (Or.inl rfl) (pe_lst pa_nil))
  (pss_cons (ps_set (i := 4) scRU.nd rfl (Or.inl rfl) (pv 1))
  (pss_cons (ps_for PassesOwn.never rfl (pi_enumT (by rfl) B.enumerate (pa_cons (pv 2) pa_nil)) (pg_tup rfl (pgs_cons (pg_name (i := 5) scRU.nd rfl (Or.inl rfl)) (pgs_cons (pg_name (i := 6) scRU.nd rfl (Or.inl rfl)) pgs_nil)))
  (pss_cons (ps_set (i := 4) scRU.nd rfl (Or.inl rfl) (pe_call dstand_behind.G (hr.mono (by decide)) rfl dstand_behind.g dstand_behind.k dstand_behind.b .nil pass0 (pa_cons (pv 0) (pa_cons (pv 4) (pa_cons (pv 5) (pa_cons (pv 6) pa_nil))))))
  (pss_one (ps_expr (pe_bm PySem.F.plainAttrs_list PySem.F.slot_list_append PySem.F.type_list_append mt_append (pv 3) (pa_cons (pv 4) pa_nil))))))
  (pss_one (ps_ret (pe_callTy call_tuple_of (by rfl) Z.tuple (by decide +kernel) (pa_cons (pv 3) pa_nil))))))))), ?_⟩
      walk_at "st"
      refine (mk_call (mka_cons (mk_var rfl x1) (mka_cons (mk_var rfl x2) mka_nil)) ⟨x, s, rfl, ok, fit, rfl⟩ : Mk K _ _ H (standD s)) H Gr.rfl' _ fun _ H1 s1 _ => ?_
      walk_at "st"
      refine (mk_call (mka_cons (mk_var rfl (x1.gr s1)) (mka_cons (mk_var rfl (x3.gr s1)) mka_nil)) ⟨x, true, cs, rfl, ok, ⟨rl, rc⟩, rfl⟩ : Mk K _ _ H1 (rowsD true cs)) H1 Gr.rfl' _ fun _ H2 s2 _ => ?_
      walk_at "rd"
      refine ⟨Nat.zero_le _, fun p np => ?_⟩
      walk_at "st"
      refine r_v rfl ?_
      walk_at "st"
      have sX := s1.trans s2
      have s3 : Same H2 (upd H2 p (.lst [])) := same_new np
      refine r_forE (H0 := H2) (ds := cs.map fun c => .str (sideS c)) (ev0_var rfl (x3.gr sX)) (fun j σ H' => ∃ (vn : V) (o5 o6 : Option V) (xs : List V), σ = [some v1, some v2, some v3, some (.ref p), some vn, o5, o6] ∧ H' p = some (.lst xs) ∧ xs.length = j ∧ DtA K H' xs (runL x s cs j) ∧ Dt K H' vn (standD (stAt x s cs j)) ∧ Same H2 H')
        ⟨_, _, _, [], rfl, upd_same, rfl, .nil, (x2.gr sX).gr s3, s3⟩ (fun j σ' H' z => by obtain ⟨_, _, _, _, _, _, _, _, _, z⟩ := z; exact z) ?_ ?_
      · rintro j d T σ H3 H4 hj ⟨vn, o5, o6, xs, rfl, hp, lx, ax, an, s4⟩ s5 aT
        exact step _ np sX hj s4 hp lx ax an s5 aT fun H5 xs' w1 w2 vn' q1 q2 q3 q4 q5 => ⟨_, _, _, xs', rfl, q2, q3, q4, q5, q1⟩
      · rintro σ H3 ⟨vn, o5, o6, xs, rfl, hp, lx, ax, an, s4⟩
        rw [lm] at ax
        exact done sX s4 hp ax
    | false =>
      refine ⟨_, (pss_cons (ps_expr (pe_call dneed_stand.G (hr.mono (by decide)) rfl dneed_stand.g dneed_stand.k dneed_stand.b .nil pass0 (pa_cons (pv 0) (pa_cons (pv 1) pa_nil))))
  (pss_cons (ps_expr (pe_call dneed_rows.G (hr.mono (by decide)) rfl dneed_rows.g dneed_rows.k dneed_rows.b .nil pass0 (pa_cons (pv 0) (pa_cons (pv 2) pa_nil))))
  (pss_cons (ps_set (i := 3) scRU.nd rfl (Or.inl rfl) (pe_lst pa_nil))
  (pss_cons (ps_set (i := 4) scRU.nd rfl (Or.inl rfl) (pv 1))
  (pss_cons (ps_for PassesOwn.never rfl (pi_enum (by rfl) B.enumerate (pa_cons (pv 2) pa_nil)) (pg_tup rfl (pgs_cons (pg_name (i := 5) scRU.nd rfl (Or.inl rfl)) (pgs_cons (pg_name (i := 6) scRU.nd rfl (Or.inl rfl)) pgs_nil)))
  (pss_cons (ps_set (i := 4) scRU.nd rfl (Or.inl rfl) (pe_call dstand_behind.G (hr.mono (by decide)) rfl dstand_behind.g dstand_behind.k dstand_behind.b .nil pass0 (pa_cons (pv 0) (pa_cons (pv 4) (pa_cons (pv 5) (pa_cons (pv 6) pa_nil))))))
  (pss_one (ps_expr (pe_bm PySem.F.plainAttrs_list PySem.F.slot_list_append PySem.F.type_list_append mt_append (pv 3) (pa_cons (pv 4) pa_nil))))))
  (pss_one (ps_ret (pe_callTy call_tuple_of (by rfl) Z.tuple (by decide +kernel) (pa_cons (pv 3) pa_nil))))))))), ?_⟩
      walk_at "st"
      refine (mk_call (mka_cons (mk_var rfl x1) (mka_cons (mk_var rfl x2) mka_nil)) ⟨x, s, rfl, ok, fit, rfl⟩ : Mk K _ _ H (standD s)) H Gr.rfl' _ fun _ H1 s1 _ => ?_
      walk_at "st"
      refine (mk_call (mka_cons (mk_var rfl (x1.gr s1)) (mka_cons (mk_var rfl (x3.gr s1)) mka_nil)) ⟨x, false, cs, rfl, ok, ⟨rl, rc⟩, rfl⟩ : Mk K _ _ H1 (rowsD false cs)) H1 Gr.rfl' _ fun _ H2 s2 _ => ?_
      walk_at "rd"
      refine ⟨Nat.zero_le _, fun p np => ?_⟩
      walk_at "st"
      refine r_v rfl ?_
      walk_at "st"
      have sX := s1.trans s2
      have s3 : Same H2 (upd H2 p (.lst [])) := same_new np
      refine r_forEL (H0 := H2) (ds := cs.map fun c => .str (sideS c)) (ev0_var rfl (x3.gr sX)) (fun j σ H' => ∃ (vn : V) (o5 o6 : Option V) (xs : List V), σ = [some v1, some v2, some v3, some (.ref p), some vn, o5, o6] ∧ H' p = some (.lst xs) ∧ xs.length = j ∧ DtA K H' xs (runL x s cs j) ∧ Dt K H' vn (standD (stAt x s cs j)) ∧ Same H2 H')
        ⟨_, _, _, [], rfl, upd_same, rfl, .nil, (x2.gr sX).gr s3, s3⟩ (fun j σ' H' z => by obtain ⟨_, _, _, _, _, _, _, _, _, z⟩ := z; exact z) ?_ ?_
      · rintro j d T σ H3 H4 hj ⟨vn, o5, o6, xs, rfl, hp, lx, ax, an, s4⟩ s5 aT
        exact step _ np sX hj s4 hp lx ax an s5 aT fun H5 xs' w1 w2 vn' q1 q2 q3 q4 q5 => ⟨_, _, _, xs', rfl, q2, q3, q4, q5, q1⟩
      · rintro σ H3 ⟨vn, o5, o6, xs, rfl, hp, lx, ax, an, s4⟩
        rw [lm] at ax
        exact done sX s4 hp ax
end
end TSx

namespace TSx
open PySem L2
local macro_rules | `(tactic| walk_at "rd") => `(tactic| repeat (first
  | ((with_reducible show tVar _ _ _ _); refine r_v rfl ?_)
  | with_reducible refine r_c ?_
  | with_reducible refine r_op ?_
  | with_reducible refine r_I0 ?_
  | with_reducible refine r_cb ?_
  | with_reducible refine r_nil ?_
  | with_reducible refine r_cons ?_
  | with_reducible refine r_seq ?_
  | with_reducible refine r_next ?_
  | with_reducible refine r_asg ?_
  | with_reducible refine r_name ?_
  | with_reducible refine r_ret ?_
  | with_reducible refine r_drop ?_
  | with_reducible refine r_if ?_
  | with_reducible refine r_test ?_
  | with_reducible refine r_bl ?_
  | with_reducible refine r_call ?_))
local macro_rules | `(tactic| walk_at "st") => `(tactic| repeat (first
  | with_reducible refine r_seq ?_
  | with_reducible refine r_next ?_
  | with_reducible refine r_asg ?_
  | with_reducible refine r_name ?_
  | with_reducible refine r_ret ?_
  | with_reducible refine r_drop ?_
  | with_reducible refine r_if ?_))
local macro_rules | `(tactic| walk_at "mk") => `(tactic| repeat (first
  | with_reducible exact mk_non
  | with_reducible exact mk_int
  | with_reducible exact mk_str
  | with_reducible exact mk_bl
  | with_reducible exact mk_dic
  | with_reducible exact mka_nil
  | with_reducible refine mka_cons ?_ ?_
  | ((with_reducible refine mk_tup ?_ ?hz); (case hz => decide))
  | ((with_reducible refine mk_lst ?_ ?hz); (case hz => decide))
  | with_reducible refine mk_neg ?_))
mutual
def D.nl : D → Bool
  | .tup xs => nlA xs
  | .non => true
  | .bl _ => true
  | .int _ => true
  | .str _ => true
  | _ => false
def nlA : List D → Bool
  | [] => true
  | x :: xs => x.nl && nlA xs
end
/-- the heap but for the list at p -/
def but (p : Addr) (H : Hp) : Hp := fun b => if b = p then none else H b
theorem but_ne {p b : Addr} {H : Hp} (h : b ≠ p) : but p H b = H b := if_neg h
theorem but_at {p : Addr} {H : Hp} : but p H p = none := if_pos rfl
mutual
theorem Dt.noL {K : PySem.W.Frag} {H : Hp} {p : Addr} {ys : List V} (hp : H p = some (.lst ys)) : ∀ {d : D} {v : V}, Dt K H v d → d.nl = true → Dt K (but p H) v d
  | .non, _, h, _ => by cases h; exact .non
  | .bl b, _, h, _ => by cases h; exact .bl b
  | .int i, _, h, _ => by cases h; exact .int i
  | .str x, _, h, _ => by cases h; exact .str x
  | .lst _, _, _, f => by cases f
  | .dic _, _, _, f => by cases f
  | .exc _ _, _, _, f => by cases f
  | .tup ds, _, h, f => by
    cases h with
    | @tup a xs _ e aa =>
    refine .tup ?_ (DtA.noL hp aa f)
    rcases e with (e | ⟨u, e⟩) | e
    · exact Or.inl (Or.inl (by rw [but_ne (fun z => by rw [z, hp] at e; cases e)]; exact e))
    · exact Or.inl (Or.inr ⟨u, by rw [but_ne (fun z => by rw [z, hp] at e; cases e)]; exact e⟩)
    · exact Or.inr e
theorem DtA.noL {K : PySem.W.Frag} {H : Hp} {p : Addr} {ys : List V} (hp : H p = some (.lst ys)) : ∀ {ds : List D} {vs : List V}, DtA K H vs ds → nlA ds = true → DtA K (but p H) vs ds
  | [], _, h, _ => by cases h; exact .nil
  | d :: ds, _, h, f => by
    cases h with
    | cons a b =>
    simp only [nlA, Bool.and_eq_true] at f
    exact .cons (Dt.noL hp a f.1) (DtA.noL hp b f.2)
end
theorem but_same {p : Addr} {H H' : Hp} (h : ∀ b o, b ≠ p → H b = some o → H' b = some o) : Same (but p H) H' := fun b o e => by
  by_cases z : b = p
  · rw [z, but_at] at e; cases e
  · rw [but_ne z] at e
    exact h b o z e
theorem nlA_map {α : Type} {f : α → D} (h : ∀ a, (f a).nl = true) : ∀ l : List α, nlA (l.map f) = true
  | [] => rfl
  | a :: l => by
    show ((f a).nl && nlA (l.map f)) = true
    rw [h a, nlA_map h l]
    rfl
theorem nl_way (w : Way) : w.d.nl = true := by cases w <;> rfl
theorem nl_seat (s : Seat) : s.d.nl = true := by
  show (true && (true && (s.way.d.nl && true))) = true
  rw [nl_way]; rfl
theorem nl_body (b : List Seat) : (bodyD b).nl = true := nlA_map nl_seat b
theorem dueB_s {i : Nat} {b : List Seat} {n : Int} {j : Nat} {s : Seat} (h : b[j]? = some s) : dueB i b n (j + 1) = dueB i b n j ++ (if comesUp s n then [D.tup [.int (i : Nat), .int (j : Nat)]] else []) := by
  unfold dueB
  rw [List.range_succ, List.filter_append, List.map_append]
  congr 1
  rw [List.filter_cons]
  simp only [h, List.filter_nil]
  cases comesUp s n <;> rfl
theorem dueL_s {bs : List (List Seat)} {n : Int} {i : Nat} {b : List Seat} (h : bs[i]? = some b) : dueL bs n (i + 1) = dueL bs n i ++ dueB i b n b.length := by
  unfold dueL
  rw [List.range_succ, List.map_append, List.flatten_append]
  simp [h]
theorem ft_dueB {i : Nat} {b : List Seat} {n : Int} {j : Nat} : ∀ d ∈ dueB i b n j, d.ft = true := fun d hd => by
  unfold dueB at hd
  obtain ⟨k, _, rfl⟩ := List.mem_map.mp hd
  rfl
theorem ft_dueL {bs : List (List Seat)} {n : Int} {i : Nat} : ∀ d ∈ dueL bs n i, d.ft = true := fun d hd => by
  unfold dueL at hd
  obtain ⟨l, hl, hd⟩ := List.mem_flatten.mp hd
  obtain ⟨k, _, rfl⟩ := List.mem_map.mp hl
  split at hd
  · exact ft_dueB d hd
  · cases hd
section
variable {P : Program} {w : World} {K : PySem.W.Frag} {mg : Str → Option Value} {base : Heap} {pT : Addr}
end
end TSx

namespace TSx
open PySem L2
local macro_rules | `(tactic| walk_at "rd") => `(tactic| repeat (first
  | ((with_reducible show tVar _ _ _ _); refine r_v rfl ?_)
  | with_reducible refine r_c ?_
  | with_reducible refine r_op ?_
  | with_reducible refine r_I0 ?_
  | with_reducible refine r_cb ?_
  | with_reducible refine r_nil ?_
  | with_reducible refine r_cons ?_
  | with_reducible refine r_seq ?_
  | with_reducible refine r_next ?_
  | with_reducible refine r_asg ?_
  | with_reducible refine r_name ?_
  | with_reducible refine r_ret ?_
  | with_reducible refine r_drop ?_
  | with_reducible refine r_if ?_
  | with_reducible refine r_test ?_
  | with_reducible refine r_bl ?_
  | with_reducible refine r_call ?_))
local macro_rules | `(tactic| walk_at "st") => `(tactic| repeat (first
  | with_reducible refine r_seq ?_
  | with_reducible refine r_next ?_
  | with_reducible refine r_asg ?_
  | with_reducible refine r_name ?_
  | with_reducible refine r_ret ?_
  | with_reducible refine r_drop ?_
  | with_reducible refine r_if ?_))
local macro_rules | `(tactic| walk_at "mk") => `(tactic| repeat (first
  | with_reducible exact mk_non
  | with_reducible exact mk_int
  | with_reducible exact mk_str
  | with_reducible exact mk_bl
  | with_reducible exact mk_dic
  | with_reducible exact mka_nil
  | with_reducible refine mka_cons ?_ ?_
  | ((with_reducible refine mk_tup ?_ ?hz); (case hz => decide))
  | ((with_reducible refine mk_lst ?_ ?hz); (case hz => decide))
  | with_reducible refine mk_neg ?_))
local macro_rules | `(tactic| walk_at "kb") => `(tactic| repeat (first
  | with_reducible exact kb_non
  | with_reducible exact kb_int
  | with_reducible exact kb_str
  | with_reducible exact kb_bl
  | with_reducible exact kba_nil
  | with_reducible refine kba_cons ?_ ?_
  | ((with_reducible refine kb_tup (by assumption) ?_ ?hz); (case hz => decide))
  | ((with_reducible refine kb_lst (by assumption) ?_ ?hz); (case hz => decide))))
abbrev sOF : Stmt := top 57
abbrev sTE : Stmt := top 58
abbrev sWY : Stmt := top 59
theorem scOF : FnScope ["m", "some"] ["m", "some"] (defScope sOF) := ⟨rfl, rfl, rfl, by decide +kernel, rfl, by decide +kernel, by decide +kernel⟩
theorem scTE : FnScope ["m"] ["m"] (defScope sTE) := ⟨rfl, rfl, rfl, by decide +kernel, rfl, by decide +kernel, by decide +kernel⟩
theorem scWY : FnScope ["m", "bodies", "wards", "pick", "tie"] ["m", "bodies", "wards"] (defScope sWY) := ⟨rfl, rfl, rfl, by decide +kernel, rfl, by decide +kernel, by decide +kernel⟩
section
variable {P : Program} {w : World} {K : PySem.W.Frag} {mg : Str → Option Value} {base : Heap} {pT : Addr}
theorem ok_OF {f fD : Addr} {fd fdD : FuncData} (F : L2.Fun K "_law_of" "_law_of" sOF f fd) (B : Blt mg) (d_law_draw : Dok P w K mg base 2 "_law_draw" ["m", "limit"] spDraw fD fdD) : FnOk P w K mg base CX0 3 f fd ["m", "some"] (spOf K) := by
  refine F.ok scOF (fun vs H Q E h => ?_) (fun cdv A outer s H vs Q E hr h => ?_)
  · obtain ⟨m, c, g, r, x, rfl, _⟩ := h
    rfl
  · obtain ⟨m, c, g, r, x, rfl, M, (⟨ns, ax, l0, l1, k⟩ | ⟨l, rfl, l0, l1, k⟩)⟩ := h
    · cases ax with
      | @lst p xs _ e aa =>
      have := aa.ints
      subst this
      refine ⟨_, (pss_one (ps_ret (pe_ix ix_list (pv 1) (pe_call d_law_draw.G (hr.mono (by decide)) rfl d_law_draw.g d_law_draw.k d_law_draw.b .nil pass0 (pa_cons (pv 0) (pa_cons (pe_callB call_len_seq (by rfl) B.len PySem.boot_len (pa_cons (pv 1) pa_nil)) pa_nil))) (fun _ _ => rfl)))), ?_⟩
      walk_at "rd"
      refine ⟨p, _, rfl, Or.inl (SqL.of (wo_le _ _ e)), ?_⟩
      refine r_nil ⟨m, c, g, r, _, rfl, by rw [List.length_map]; omega, by rw [List.length_map]; omega, M, fun v H1 p0 p1 M1 k1 => ?_⟩
      rw [List.length_map] at p1
      obtain ⟨i, rfl⟩ : ∃ i : Nat, v = (i : Int) := ⟨v.toNat, by omega⟩
      have li : i < ns.length := by omega
      refine ⟨p, _, (i : Int), .int ns[i], rfl, rfl, SqL.of (wo_le _ _ (wo_kp k1 B2_m B2_g _ _ e)), atI_nat (by rw [List.getElem?_map, List.getElem?_eq_getElem li]; rfl), ?_⟩
      exact k _ H1 (List.getElem_mem li) M1 k1
    · refine ⟨_, (pss_one (ps_ret (pe_ix ix_str (pv 1) (pe_call d_law_draw.G (hr.mono (by decide)) rfl d_law_draw.g d_law_draw.k d_law_draw.b .nil pass0 (pa_cons (pv 0) (pa_cons (pe_callB call_len_str (by rfl) B.len PySem.boot_len (pa_cons (pv 1) pa_nil)) pa_nil))) (fun _ _ => rfl)))), ?_⟩
      walk_at "rd"
      refine ⟨_, rfl, by rw [sideS_len]; exact sz1 (by omega), ?_⟩
      refine r_nil ⟨m, c, g, r, _, rfl, by rw [sideS_len]; omega, by rw [sideS_len]; omega, M, fun v H1 p0 p1 M1 k1 => ?_⟩
      rw [sideS_len] at p1
      obtain ⟨i, rfl⟩ : ∃ i : Nat, v = (i : Int) := ⟨v.toNat, by omega⟩
      have li : i < l.length := by omega
      refine ⟨_, (i : Int), sideC l[i], rfl, rfl, by rw [sideS_len]; exact sz1 (by omega), atI_nat ?_, k _ H1 (List.getElem_mem li) M1 k1⟩
      show (l.map sideC)[i]? = _
      rw [List.getElem?_map, List.getElem?_eq_getElem li]
      rfl
theorem ok_TE {f fD : Addr} {fd fdD : FuncData} (F : L2.Fun K "_law_terms" "_law_terms" sTE f fd) (d_law_draw : Dok P w K mg base 2 "_law_draw" ["m", "limit"] spDraw fD fdD) : FnOk P w K mg base CX0 3 f fd ["m"] (spTerms K) := by
  refine F.ok scTE (fun vs H Q E h => ?_) (fun cdv A outer s H vs Q E hr h => ?_)
  · obtain ⟨m, c, g, r, rfl, _⟩ := h
    rfl
  · obtain ⟨m, c, g, r, rfl, M, k⟩ := h
    refine ⟨_, (pss_one (ps_ret (pe_ix ix_list (pe_lst (pa_cons (pe_lst (pa_cons pe_int (pa_cons pe_int (pa_cons pe_int (pa_cons pe_int (pa_cons pe_int pa_nil)))))) (pa_cons (pe_lst (pa_cons pe_int (pa_cons pe_int (pa_cons pe_int pa_nil)))) (pa_cons (pe_lst (pa_cons pe_int (pa_cons pe_int (pa_cons pe_int pa_nil)))) (pa_cons (pe_lst (pa_cons pe_int (pa_cons pe_int pa_nil))) (pa_cons (pe_lst (pa_cons pe_int (pa_cons pe_int (pa_cons pe_int pa_nil)))) (pa_cons (pe_lst (pa_cons pe_int pa_nil)) pa_nil))))))) (pe_call d_law_draw.G (hr.mono (by decide)) rfl d_law_draw.g d_law_draw.k d_law_draw.b .nil pass0 (pa_cons (pv 0) (pa_cons pe_int pa_nil))) (fun _ _ => rfl)))), ?_⟩
    walk_at "st"
    refine r_op ?_
    have dB := m_there M
    refine (show MkB K (B2 m g) _ _ H (.lst (termLists.map fun ns => .lst (ns.map D.int))) from ?m1) H Gr.rfl' _ fun v H1 s1 a1 => ?_
    case m1 =>
      show MkB K (B2 m g) _ _ H (.lst [.lst [.int 1, .int 2, .int 3, .int 4, .int 6], .lst [.int 1, .int 2, .int 3], .lst [.int 1, .int 2, .int 4], .lst [.int 1, .int 5], .lst [.int 2, .int 3, .int 3], .lst [.int 1]])
      walk_at "kb"
    refine r_call (r_cons (r_v rfl (r_cons (r_c (r_nil ?_)))))
    refine ⟨m, c, g, r, 6, rfl, by decide, by decide, M.same s1, fun n H2 p0 p1 M2 k2 => ?_⟩
    obtain ⟨i, rfl⟩ : ∃ i : Nat, n = (i : Int) := ⟨n.toNat, by omega⟩
    have li : i < termLists.length := by show i < 6; omega
    have a2 := Ap.kp a1 k2
    cases a2 with
    | @lst p xs _ e aa =>
    have hi : (termLists.map fun ns => D.lst (ns.map D.int))[i]? = some (.lst (termLists[i].map D.int)) := by rw [List.getElem?_map, List.getElem?_eq_getElem li]; rfl
    obtain ⟨x, hx, ax⟩ := aa.nth hi
    refine ⟨p, xs, (i : Int), x, rfl, rfl, SqL.of (wo_le _ _ e), atI_nat hx, ?_⟩
    exact k x H2 _ (List.getElem_mem li) ax M2 ((Kp.of s1).tr k2)
theorem ok_WY {f fD : Addr} {fd fdD : FuncData} (F : L2.Fun K "_law_way" "_law_way" sWY f fd) (d_law_draw : Dok P w K mg base 2 "_law_draw" ["m", "limit"] spDraw fD fdD) : FnOk P w K mg base CX0 3 f fd ["m", "bodies", "wards"] (spWay K) := by
  refine F.ok scWY (fun vs H Q E h => ?_) (fun cdv A outer s H vs Q E hr h => ?_)
  · obtain ⟨m, c, g, r, n, wd, rfl, _⟩ := h
    rfl
  · obtain ⟨m, c, g, r, n, wd, rfl, n1, n2, w2, M, k⟩ := h
    refine ⟨_, (pss_cons (ps_par (i := 3) (j := 4) (by rfl) scWY.nd rfl rfl (by decide) rfl rfl (pa_cons (pe_call d_law_draw.G (hr.mono (by decide)) rfl d_law_draw.g d_law_draw.k d_law_draw.b .nil pass0 (pa_cons (pv 0) (pa_cons pe_int pa_nil))) (pa_cons (pe_ix ix_list (pe_lst (pa_cons pe_str (pa_cons pe_str (pa_cons pe_str pa_nil)))) (pe_call d_law_draw.G (hr.mono (by decide)) rfl d_law_draw.g d_law_draw.k d_law_draw.b .nil pass0 (pa_cons (pv 0) (pa_cons pe_int pa_nil))) (fun _ _ => rfl)) pa_nil)) (by rfl))
  (pss_cons (ps_if (PW.pt (pw_and (pt_cmpR op_lt (pv 3) pe_int (nomark _)) (pw_and1 (pt_cmpR op_gt (pv 2) pe_int (nomark _))))) (pss_one (ps_ret (pe_tup (pa_cons pe_str (pa_cons (pe_call d_law_draw.G (hr.mono (by decide)) rfl d_law_draw.g d_law_draw.k d_law_draw.b .nil pass0 (pa_cons (pv 0) (pa_cons (pv 2) pa_nil))) pa_nil))))) pss_nil)
  (pss_cons (ps_if (pt_cmpR op_eq (pv 3) pe_int (nomark _)) (pss_one (ps_ret (pe_tup (pa_cons pe_str pa_nil)))) pss_nil)
  (pss_one (ps_ret (pe_tup (pa_cons (pe_ix ix_list (pe_lst (pa_cons pe_str (pa_cons pe_str pa_nil))) (pe_call d_law_draw.G (hr.mono (by decide)) rfl d_law_draw.g d_law_draw.k d_law_draw.b .nil pass0 (pa_cons (pv 0) (pa_cons pe_int pa_nil))) (fun _ _ => rfl)) (pa_cons (pe_call d_law_draw.G (hr.mono (by decide)) rfl d_law_draw.g d_law_draw.k d_law_draw.b .nil pass0 (pa_cons (pv 0) (pa_cons (pv 1) pa_nil))) (pa_cons (pv 4) pa_nil))))))))), ?_⟩
    walk_at "st"
    refine r_cons (r_call (r_cons (r_v rfl (r_cons (r_c (r_nil ?_))))))
    refine ⟨m, c, g, r + 3, 6, rfl, by decide, by decide, M, fun pick H1 p0 p1 M1 k1 => ?_⟩
    refine r_cons ?_
    refine r_pick (K := K) (ss := ["a", "b", "kept"]) (r := r + 2) rfl M1 (by decide) (by decide) rfl fun t H2 ht M2 k2 => ?_
    refine r_nil ⟨_, _, rfl, ?_⟩
    walk_at "st"
    have k12 := k1.tr k2
    -- pick < 3 and wards > 0
    have fin2 : ∀ H3, Same H2 H3 → tSeq (tIfS (tTest (tOp rEq (tVar 3) (tC (.int 5)))) (tRet (tTup (tCons (tC (.str "kept")) tNil))) tNext) (tRet (tTup (tCons (tOp (rIxL K) (tLst (tCons (tC (.str "body")) (tCons (tC (.str "rest")) tNil))) (tCall spDraw [] E0 (tCons (tVar 0) (tCons (tC (.int 2)) tNil)))) (tCons (tCall spDraw [] E0 (tCons (tVar 0) (tCons (tVar 1) tNil))) (tCons (tVar 4) tNil)))))
        { nx := fun _ H' => Q .non H', rt := Q } [some (.ref m), some (.int n), some (.int wd), some (.int pick), some (.str t)] H3 := by
      intro H3 s3
      walk_at "st"
      refine (mt_test (mk_eqI (K := K) (mk_var (n := 3) rfl (.int pick)) mk_int) : MkT _ _ H3 (decide (pick = 5))) H3 Gr.rfl' _ fun H4 s4 => ?_
      have s34 := s3.trans s4
      have M4 := (M2.same s34)
      have kA := k12.tr (Kp.of s34)
      by_cases z : pick = 5
      · refine r_ifT (decide_eq_true z) ?_
        walk_at "rd"
        refine ⟨sz1 (show 1 ≤ 100000 by decide), fun p np => ?_⟩
        obtain ⟨pm, pg⟩ := new_m M4 np
        exact k _ _ .kept trivial (.tup (SqT.of (by rw [wo_at (B2_no pm pg), upd_same])) (.cons (.str _) .nil)) ((M4.same (same_new np)).less (by omega)) (kA.tr (Kp.of (same_new np)))
      · refine r_ifF (decide_eq_false z) ?_
        walk_at "st"
        refine r_tup (r_cons ?_)
        refine r_pick (K := K) (ss := ["body", "rest"]) (r := r + 1) rfl M4 (by decide) (by decide) rfl fun wd' H5 hw M5 k5 => ?_
        refine r_cons (r_call (r_cons (r_v rfl (r_cons (r_v rfl (r_nil ?_))))))
        refine ⟨m, c, g, r, n, rfl, by omega, by omega, M5, fun b H6 b0 b1 M6 k6 => ?_⟩
        obtain ⟨i, rfl⟩ : ∃ i : Nat, b = (i : Int) := ⟨b.toNat, by omega⟩
        refine r_cons (r_v rfl (r_nil ?_))
        refine ⟨sz1 (show 3 ≤ 100000 by decide), fun p np => ?_⟩
        obtain ⟨pm, pg⟩ := new_m M6 np
        have kB := ((kA.tr k5).tr k6).tr (Kp.of (same_new (o := .tup [.str wd', .int i, .str t]) np))
        have at_ : SqT K (wo (B2 m g) (upd H6 p (.tup [.str wd', .int i, .str t]))) p [.str wd', .int i, .str t] := SqT.of (by rw [wo_at (B2_no pm pg), upd_same])
        simp only [List.mem_cons, List.not_mem_nil, or_false] at hw
        rcases hw with rfl | rfl
        · exact k _ _ (.body i t) ⟨by omega, ht⟩ (.tup at_ (.cons (.str _) (.cons (.int _) (.cons (.str _) .nil)))) (M6.same (same_new np)) kB
        · exact k _ _ (.rest i t) ⟨by omega, ht⟩ (.tup at_ (.cons (.str _) (.cons (.int _) (.cons (.str _) .nil)))) (M6.same (same_new np)) kB
    have t1 := mt_test (mk_I0b (K := K) (g := fun i j => decide (i < j)) (σ := [some (.ref m), some (.int n), some (.int wd), some (.int pick), some (.str t)]) (H := H2) (mk_var (n := 3) rfl (.int pick)) (mk_int (i := 3)))
    refine t1 H2 Gr.rfl' _ fun H3 s3 => ?_
    by_cases z : pick < 3
    · refine r_ifT (decide_eq_true z) ?_
      have t2 := mt_test (mk_I0b (K := K) (g := fun i j => decide (i > j)) (σ := [some (.ref m), some (.int n), some (.int wd), some (.int pick), some (.str t)]) (H := H3) (mk_var (n := 2) rfl (.int wd)) (mk_int (i := 0)))
      refine t2 H3 Gr.rfl' _ fun H4 s4 => ?_
      by_cases z2 : (wd : Int) > 0
      · refine r_ifT (decide_eq_true z2) ?_
        walk_at "st"
        have s34 := s3.trans s4
        have M4 := M2.same s34
        refine r_tup (r_cons (r_c (r_cons (r_call (r_cons (r_v rfl (r_cons (r_v rfl (r_nil ?_)))))))))
        refine ⟨m, c, g, r + 1, wd, rfl, z2, by omega, M4, fun b H6 b0 b1 M6 k6 => ?_⟩
        obtain ⟨i, rfl⟩ : ∃ i : Nat, b = (i : Int) := ⟨b.toNat, by omega⟩
        refine r_nil ⟨sz1 (show 2 ≤ 100000 by decide), fun p np => ?_⟩
        obtain ⟨pm, pg⟩ := new_m M6 np
        exact k _ _ (.ward i) (show i < wd by omega) (.tup (SqT.of (by rw [wo_at (B2_no pm pg), upd_same])) (.cons (.str _) (.cons (.int _) .nil))) ((M6.same (same_new np)).less (by omega)) (((k12.tr (Kp.of s34)).tr k6).tr (Kp.of (same_new np)))
      · refine r_ifF (decide_eq_false z2) ?_
        exact fin2 H4 (s3.trans s4)
    · refine r_ifF (decide_eq_false z) ?_
      exact fin2 H3 s3
end
end TSx

namespace TSx
open PySem L2
local macro_rules | `(tactic| walk_at "rd") => `(tactic| repeat (first
  | ((with_reducible show tVar _ _ _ _); refine r_v rfl ?_)
  | with_reducible refine r_c ?_
  | with_reducible refine r_op ?_
  | with_reducible refine r_I0 ?_
  | with_reducible refine r_cb ?_
  | with_reducible refine r_nil ?_
  | with_reducible refine r_cons ?_
  | with_reducible refine r_seq ?_
  | with_reducible refine r_next ?_
  | with_reducible refine r_asg ?_
  | with_reducible refine r_name ?_
  | with_reducible refine r_ret ?_
  | with_reducible refine r_drop ?_
  | with_reducible refine r_if ?_
  | with_reducible refine r_test ?_
  | with_reducible refine r_bl ?_
  | with_reducible refine r_call ?_))
local macro_rules | `(tactic| walk_at "st") => `(tactic| repeat (first
  | with_reducible refine r_seq ?_
  | with_reducible refine r_next ?_
  | with_reducible refine r_asg ?_
  | with_reducible refine r_name ?_
  | with_reducible refine r_ret ?_
  | with_reducible refine r_drop ?_
  | with_reducible refine r_if ?_))
local macro_rules | `(tactic| walk_at "mk") => `(tactic| repeat (first
  | with_reducible exact mk_non
  | with_reducible exact mk_int
  | with_reducible exact mk_str
  | with_reducible exact mk_bl
  | with_reducible exact mk_dic
  | with_reducible exact mka_nil
  | with_reducible refine mka_cons ?_ ?_
  | ((with_reducible refine mk_tup ?_ ?hz); (case hz => decide))
  | ((with_reducible refine mk_lst ?_ ?hz); (case hz => decide))
  | with_reducible refine mk_neg ?_))
/-! ### tuples stay where other things are written -/
def KT (H H' : Hp) : Prop := ∀ (b : Addr) (xs : List V), (H b = some (.tup xs) → H' b = some (.tup xs)) ∧ ∀ u, H b = some (.frz u (.tup xs)) → H' b = some (.frz u (.tup xs))
theorem KT.of {H H' : Hp} (s : Same H H') : KT H H' := fun b xs => ⟨s b _, fun u => s b _⟩
theorem KT.tr {H H1 H2 : Hp} (a : KT H H1) (b : KT H1 H2) : KT H H2 := fun x xs => ⟨fun e => (b x xs).1 ((a x xs).1 e), fun u e => (b x xs).2 u ((a x xs).2 u e)⟩
theorem KT.updL {H : Hp} {p : Addr} {xs : List V} {o : HO} (hp : H p = some (.lst xs)) : KT H (upd H p o) := fun b ys => ⟨fun e => by rw [upd_ne (fun z => by rw [z, hp] at e; cases e)]; exact e, fun u e => by rw [upd_ne (fun z => by rw [z, hp] at e; cases e)]; exact e⟩
theorem KT.kp {m c g : Addr} {H H' : Hp} {r : Nat} (M : MAt m c g H r) (k : Kp m g H H') : KT H H' := by
  obtain ⟨⟨n, cs, gs, h1, h2, h3, _⟩, _⟩ := M
  exact fun b xs => ⟨fun e => k b _ (fun z => by rw [z, h1] at e; cases e) (fun z => by rw [z, h3] at e; cases e) e, fun u e => k b _ (fun z => by rw [z, h1] at e; cases e) (fun z => by rw [z, h3] at e; cases e) e⟩
mutual
theorem Dt.kt {K : PySem.W.Frag} {H H' : Hp} (k : KT H H') : ∀ {d : D} {v : V}, Dt K H v d → d.nl = true → Dt K H' v d
  | .non, _, h, _ => by cases h; exact .non
  | .bl b, _, h, _ => by cases h; exact .bl b
  | .int i, _, h, _ => by cases h; exact .int i
  | .str x, _, h, _ => by cases h; exact .str x
  | .lst _, _, _, f => by cases f
  | .dic _, _, _, f => by cases f
  | .exc _ _, _, _, f => by cases f
  | .tup ds, _, h, f => by
    cases h with
    | @tup a xs _ e aa =>
    refine .tup ?_ (DtA.kt k aa f)
    rcases e with (e | ⟨u, e⟩) | e
    · exact Or.inl (Or.inl ((k a xs).1 e))
    · exact Or.inl (Or.inr ⟨u, (k a xs).2 u e⟩)
    · exact Or.inr e
theorem DtA.kt {K : PySem.W.Frag} {H H' : Hp} (k : KT H H') : ∀ {ds : List D} {vs : List V}, DtA K H vs ds → nlA ds = true → DtA K H' vs ds
  | [], _, h, _ => by cases h; exact .nil
  | d :: ds, _, h, f => by
    cases h with
    | cons a b =>
    simp only [nlA, Bool.and_eq_true] at f
    exact .cons (Dt.kt k a f.1) (DtA.kt k b f.2)
end
theorem MAt.upd' {m c g p : Addr} {H : Hp} {r : Nat} {o : HO} (M : MAt m c g H r) (h1 : p ≠ m) (h2 : p ≠ c) (h3 : p ≠ g) : MAt m c g (upd H p o) r := by
  obtain ⟨⟨n, cs, gs, a1, a2, a3, a4⟩, ne⟩ := M
  exact ⟨⟨n, cs, gs, by rw [upd_ne (Ne.symm h1)]; exact a1, by rw [upd_ne (Ne.symm h2)]; exact a2, by rw [upd_ne (Ne.symm h3)]; exact a3, a4⟩, ne⟩
theorem new_m3 {m c g : Addr} {H : Hp} {r : Nat} (M : MAt m c g H r) {p : Addr} (np : H p = none) : p ≠ m ∧ p ≠ c ∧ p ≠ g := by
  obtain ⟨⟨n, cs, gs, h1, h2, h3, _⟩, _⟩ := M
  exact ⟨(fun z => by rw [z, h1] at np; cases np), (fun z => by rw [z, h2] at np; cases np), (fun z => by rw [z, h3] at np; cases np)⟩
/-! ### the houses that are drawn -/
def common (ns : List Int) : Nat := if ns = [1, 2, 3, 4, 6] then 12 else if ns = [1, 2, 3] then 6 else if ns = [1, 2, 4] then 4 else if ns = [1, 5] then 5 else if ns = [2, 3, 3] then 6 else 1
theorem common_ok : ∀ ns ∈ termLists, common ns ≤ 12 ∧ ∀ n ∈ ns, 1 ≤ n ∧ n ≤ 6 ∧ n.toNat ∣ common ns := by decide +kernel
structure DrawnS (ns : List Int) (n wards : Nat) (s : Seat) : Prop where
  t : (s.term : Int) ∈ ns
  p : s.phase < s.term
  w : s.way.ok n wards
theorem lcmB_dvd {L : Nat} {b : List Seat} : ∀ {c : Nat}, c ∣ L → (∀ s ∈ b, s.term ∣ L) → lcmB c b ∣ L := by
  induction b with
  | nil => intro c h _; exact h
  | cons s l ih =>
    intro c h a
    refine ih (c := (Nat.lcm 1 c).lcm s.term) ?_ fun x hx => a x (List.mem_cons_of_mem _ hx)
    rw [Nat.lcm_one_left]
    exact Nat.lcm_dvd h (a s (List.mem_cons_self ..))
theorem drawn_ok {ns : List Int} {bs : List (List Seat)} {wards : Nat} (hn : ns ∈ termLists) (w4 : wards ≤ 4) (l1 : 1 ≤ bs.length) (l3 : bs.length ≤ 3) (hb : ∀ b ∈ bs, 1 ≤ b.length ∧ b.length ≤ 3 ∧ ∀ s ∈ b, DrawnS ns bs.length wards s) : House.ok ⟨bs, wards⟩ := by
  obtain ⟨c12, cn⟩ := common_ok ns hn
  have tt : ∀ b ∈ bs, ∀ s ∈ b, 1 ≤ s.term ∧ s.term ≤ 6 ∧ s.term ∣ common ns := fun b hb' s hs => by
    have := cn _ ((hb b hb').2.2 s hs).t
    exact ⟨by omega, by omega, this.2.2⟩
  refine ⟨w4, l1, l3, fun b hb' => ⟨(hb b hb').1, by have := (hb b hb').2.1; omega⟩, ?_, fun b hb' s hs => ⟨(tt b hb' s hs).1, (tt b hb' s hs).2.1, ((hb b hb').2.2 s hs).p, ((hb b hb').2.2 s hs).w⟩, ?_⟩
  · have : ∀ l : List (List Seat), (∀ b ∈ l, b.length ≤ 3) → (l.map fun b => (b.length : Int)).sum ≤ 3 * (l.length : Int) := by
      intro l
      induction l with
      | nil => intro _; decide
      | cons b l ih =>
        intro h
        have q := ih fun x hx => h x (List.mem_cons_of_mem _ hx)
        have q2 := h b (List.mem_cons_self ..)
        rw [List.map_cons, List.sum_cons, List.length_cons]
        push_cast
        omega
    have q := this bs fun b hb' => (hb b hb').2.1
    show (bs.map fun b => (b.length : Int)).sum ≤ 9
    omega
  · have : lcmH ⟨bs, wards⟩ ∣ common ns := by
      have gen : ∀ (l : List (List Seat)) (c : Nat), c ∣ common ns → (∀ b ∈ l, ∀ s ∈ b, s.term ∣ common ns) → l.foldl lcmB c ∣ common ns := by
        intro l
        induction l with
        | nil => intro c h _; exact h
        | cons b l ih => intro c h a; exact ih _ (lcmB_dvd h (a b (List.mem_cons_self ..))) fun x hx => a x (List.mem_cons_of_mem _ hx)
      exact gen bs 1 (Nat.one_dvd _) fun b hb' s hs => (tt b hb' s hs).2.2
    have pos : 0 < common ns := by unfold common; split <;> (try split) <;> (try split) <;> (try split) <;> (try split) <;> omega
    exact Nat.le_trans (Nat.le_of_dvd pos this) c12
theorem nl_house (h : House) : h.d.nl = true := by
  show (nlA (h.bodies.map bodyD) && (true && true)) = true
  rw [nlA_map nl_body]; rfl
def spHome (K : PySem.W.Frag) : Sp := fun vs H Q _ => ∃ (m c g : Addr) (r : Nat), vs = [.ref m, .int 3, .int 3, .int 4] ∧ MAt m c g H (r + 100) ∧ ∀ v H' (h : House), h.ok → Dt K H' v h.d → MAt m c g H' r → Kp m g H H' → Q v H'
abbrev sHO : Stmt := top 60
theorem scHO : FnScope ["m", "bodies", "each", "most", "k", "terms", "wards", "many", "found", "row", "spot", "term"] ["m", "bodies", "each", "most"] (defScope sHO) := ⟨rfl, rfl, rfl, by decide +kernel, rfl, by decide +kernel, by decide +kernel⟩
end TSx

namespace TSx
open PySem L2
local macro_rules | `(tactic| walk_at "rd") => `(tactic| repeat (first
  | ((with_reducible show tVar _ _ _ _); refine r_v rfl ?_)
  | with_reducible refine r_c ?_
  | with_reducible refine r_op ?_
  | with_reducible refine r_I0 ?_
  | with_reducible refine r_cb ?_
  | with_reducible refine r_nil ?_
  | with_reducible refine r_cons ?_
  | with_reducible refine r_seq ?_
  | with_reducible refine r_next ?_
  | with_reducible refine r_asg ?_
  | with_reducible refine r_name ?_
  | with_reducible refine r_ret ?_
  | with_reducible refine r_drop ?_
  | with_reducible refine r_if ?_
  | with_reducible refine r_test ?_
  | with_reducible refine r_bl ?_
  | with_reducible refine r_call ?_))
local macro_rules | `(tactic| walk_at "st") => `(tactic| repeat (first
  | with_reducible refine r_seq ?_
  | with_reducible refine r_next ?_
  | with_reducible refine r_asg ?_
  | with_reducible refine r_name ?_
  | with_reducible refine r_ret ?_
  | with_reducible refine r_drop ?_
  | with_reducible refine r_if ?_))
local macro_rules | `(tactic| walk_at "mk") => `(tactic| repeat (first
  | with_reducible exact mk_non
  | with_reducible exact mk_int
  | with_reducible exact mk_str
  | with_reducible exact mk_bl
  | with_reducible exact mk_dic
  | with_reducible exact mka_nil
  | with_reducible refine mka_cons ?_ ?_
  | ((with_reducible refine mk_tup ?_ ?hz); (case hz => decide))
  | ((with_reducible refine mk_lst ?_ ?hz); (case hz => decide))
  | with_reducible refine mk_neg ?_))
theorem r_for {wi : TI} {gg : TG} {tb : TS} {D : Ends} {σ : Sg} {H : Hp} (q : wi σ H fun J H1 => ∃ W : Nat → Nat → Sg → Hp → Prop, (∃ m, W 0 m σ H1) ∧ ∀ i m σ H, W i m σ H →
    (J.stop i H ∧ D.nx σ H) ∨ (J.go i H ∧ ∃ N : Sg → Hp → Prop, (∀ σ' H', N σ' H' → ∃ m', m' < m ∧ W (i + 1) m' σ' H') ∧ ∀ x H', J.yld i H x H' → gg x σ H' fun σ2 H2 => tb { D with nx := N, ct := N, bk := D.nx } σ2 H2)) : tFor wi gg tb D σ H := q
theorem r_rng1 {ta : TA} {σ : Sg} {H : Hp} {R : It → Hp → Prop} (q : ta σ H fun vs H1 => ∃ j : Int, vs = [.int j] ∧ -(2 ^ 62) ≤ j ∧ j < 2 ^ 62 ∧ R (Itr 0 j.toNat) H1) : iRng1 ta σ H R := q
theorem len_terms : ∀ ns ∈ termLists, 0 < ns.length ∧ ns.length ≤ 5 := by decide
section
variable {P : Program} {w : World} {K : PySem.W.Frag} {mg : Str → Option Value} {base : Heap} {pT : Addr}
theorem ok_HO {f fD fT fO fW : Addr} {fd fdD fdT fdO fdW : FuncData} (F : L2.Fun K "_law_home" "_law_home" sHO f fd) (B : Blt mg) (Z : Blt2 mg) (d_law_draw : Dok P w K mg base 2 "_law_draw" ["m", "limit"] spDraw fD fdD)
    (d_law_terms : Dok P w K mg base 3 "_law_terms" ["m"] (spTerms K) fT fdT) (d_law_of : Dok P w K mg base 3 "_law_of" ["m", "some"] (spOf K) fO fdO) (d_law_way : Dok P w K mg base 3 "_law_way" ["m", "bodies", "wards"] (spWay K) fW fdW) :
    FnOk P w K mg base CX0 4 f fd ["m", "bodies", "each", "most"] (spHome K) := by
  refine F.ok scHO (fun vs H Q E h => ?_) (fun cdv A outer s H vs Q E hr h => ?_)
  · obtain ⟨m, c, g, r, rfl, _⟩ := h
    rfl
  · obtain ⟨m, c, g, r, rfl, M, k⟩ := h
    refine ⟨_, (pss_cons (ps_asg (pe_tup (pa_cons (pe_call d_law_terms.G (hr.mono (by decide)) rfl d_law_terms.g d_law_terms.k d_law_terms.b .nil pass0 (pa_cons (pv 0) pa_nil)) (pa_cons (pe_call d_law_draw.G (hr.mono (by decide)) rfl d_law_draw.g d_law_draw.k d_law_draw.b .nil pass0 (pa_cons (pv 0) (pa_cons (pe_op op_add (pv 3) pe_int) pa_nil))) (pa_cons (pe_op op_add pe_int (pe_call d_law_draw.G (hr.mono (by decide)) rfl d_law_draw.g d_law_draw.k d_law_draw.b .nil pass0 (pa_cons (pv 0) (pa_cons (pv 1) pa_nil)))) (pa_cons (pe_lst pa_nil) pa_nil))))) (pg_tup rfl (pgs_cons (pg_name (i := 5) scHO.nd rfl (Or.inl rfl)) (pgs_cons (pg_name (i := 6) scHO.nd rfl (Or.inl rfl)) (pgs_cons (pg_name (i := 7) scHO.nd rfl (Or.inl rfl)) (pgs_cons (pg_name (i := 8) scHO.nd rfl (Or.inl rfl)) pgs_nil))))))
  (pss_cons (ps_for PassesOwn.never rfl (pi_range1 rfl B.range (pa_cons (pv 7) pa_nil)) (pg_name (i := 4) scHO.nd rfl (Or.inl rfl))
  (pss_cons (ps_set (i := 9) scHO.nd rfl (Or.inl rfl) (pe_lst pa_nil))
  (pss_cons (ps_for PassesOwn.never rfl (pi_range1 rfl B.range (pa_cons (pe_op op_add pe_int (pe_call d_law_draw.G (hr.mono (by decide)) rfl d_law_draw.g d_law_draw.k d_law_draw.b .nil pass0 (pa_cons (pv 0) (pa_cons (pv 2) pa_nil)))) pa_nil)) (pg_name (i := 10) scHO.nd rfl (Or.inl rfl))
  (pss_cons (ps_set (i := 11) scHO.nd rfl (Or.inl rfl) (pe_call d_law_of.G (hr.mono (by decide)) rfl d_law_of.g d_law_of.k d_law_of.b .nil pass0 (pa_cons (pv 0) (pa_cons (pv 5) pa_nil))))
  (pss_one (ps_expr (pe_bm PySem.F.plainAttrs_list PySem.F.slot_list_append PySem.F.type_list_append mt_append (pv 9) (pa_cons (pe_tup (pa_cons (pv 11) (pa_cons (pe_call d_law_draw.G (hr.mono (by decide)) rfl d_law_draw.g d_law_draw.k d_law_draw.b .nil pass0 (pa_cons (pv 0) (pa_cons (pv 11) pa_nil))) (pa_cons (pe_call d_law_way.G (hr.mono (by decide)) rfl d_law_way.g d_law_way.k d_law_way.b .nil pass0 (pa_cons (pv 0) (pa_cons (pv 7) (pa_cons (pv 6) pa_nil)))) pa_nil)))) pa_nil))))))
  (pss_one (ps_expr (pe_bm PySem.F.plainAttrs_list PySem.F.slot_list_append PySem.F.type_list_append mt_append (pv 8) (pa_cons (pe_callTy call_tuple_of (by rfl) Z.tuple (by decide +kernel) (pa_cons (pv 9) pa_nil)) pa_nil)))))))
  (pss_one (ps_ret (pe_tup (pa_cons (pe_callTy call_tuple_of (by rfl) Z.tuple (by decide +kernel) (pa_cons (pv 8) pa_nil)) (pa_cons (pv 6) pa_nil))))))), ?_⟩
    walk_at "st"
    refine r_tup (r_cons (r_call (r_cons (r_v rfl (r_nil ?_)))))
    refine ⟨m, c, g, r + 99, rfl, M, fun vt H1 ns hns at1 M1 k1 => ?_⟩
    refine r_cons (r_call (r_cons (r_v rfl (r_cons (r_op (r_v rfl (r_c (r_I0 (r_nil ?_)))))))))
    refine ⟨m, c, g, r + 98, _, rfl, by decide, by decide, M1, fun wd H2 w0 w1 M2 k2 => ?_⟩
    refine r_cons (r_op (r_c (r_call (r_cons (r_v rfl (r_cons (r_v rfl (r_nil ?_))))))))
    refine ⟨m, c, g, r + 97, 3, rfl, by decide, by decide, M2, fun mb H3 b0 b1 M3 k3 => ?_⟩
    refine r_I0 ?_
    refine r_cons (r_lst (r_nil ⟨Nat.zero_le _, fun p np => ?_⟩))
    refine r_nil ⟨sz1 (show 4 ≤ 100000 by decide), fun T nT => ?_⟩
    refine ⟨T, _, rfl, SqT.of upd_same, rfl, _, _, rfl, r_name ⟨_, _, rfl, r_name ⟨_, _, rfl, r_name ⟨_, _, rfl, r_name ⟨rfl, ?_⟩⟩⟩⟩⟩
    obtain ⟨wn, rfl⟩ : ∃ i : Nat, wd = (i : Int) := ⟨wd.toNat, by omega⟩
    obtain ⟨mn, emn⟩ : ∃ i : Nat, 1 + mb = (i : Int) := ⟨(1 + mb).toNat, by omega⟩
    rw [emn]
    have w4 : wn ≤ 4 := by omega
    have m1 : 1 ≤ mn := by omega
    have m3 : mn ≤ 3 := by omega
    have at3 := Ap.kp (Ap.kp at1 k2) k3
    obtain ⟨lt0, lt5⟩ := len_terms ns hns
    obtain ⟨_, cn⟩ := common_ok ns hns
    cases at3 with
    | @lst pt ts _ et aat =>
    have := aat.ints
    subst this
    have ptm : pt ≠ m ∧ pt ≠ g := by
      refine ⟨fun z => ?_, fun z => ?_⟩
      · have : wo (B2 m g) H3 pt = none := by unfold wo; rw [z, if_pos B2_m]
        rw [this] at et; cases et
      · have : wo (B2 m g) H3 pt = none := by unfold wo; rw [z, if_pos B2_g]
        rw [this] at et; cases et
    have pp : pt ≠ p := fun z => by have q := wo_le _ _ et; rw [z, np] at q; cases q
    have s5 : Same H3 (upd (upd H3 p (.lst [])) T (.tup [.ref pt, .int (wn : Nat), .int (mn : Nat), .ref p])) := (same_new np).trans (same_new nT)
    have Tp : p ≠ T := fun z => by rw [← z, upd_same] at nT; cases nT
    have hp5 : (upd (upd H3 p (.lst [])) T (.tup [.ref pt, .int (wn : Nat), .int (mn : Nat), .ref p])) p = some (.lst []) := by rw [upd_ne Tp, upd_same]
    have hpt5 := s5 _ _ (wo_le _ _ et)
    have M5 := M3.same s5
    obtain ⟨pm, pc, pg⟩ := new_m3 M3 np
    have kp5 : Kp m g H (upd (upd H3 p (.lst [])) T (.tup [.ref pt, .int (wn : Nat), .int (mn : Nat), .ref p])) := ((k1.tr k2).tr k3).tr (Kp.of s5)
    have npH : H p = none := by
      cases q : H p with
      | none => rfl
      | some o => have := ((k1.tr k2).tr k3) p o pm pg q; rw [this] at np; cases np
    generalize upd (upd H3 p (.lst [])) T (.tup [.ref pt, .int (wn : Nat), .int (mn : Nat), .ref p]) = H5 at hp5 hpt5 M5 kp5 ⊢
    walk_at "st"
    refine r_for (r_rng1 (r_cons (r_v rfl (r_nil ⟨(mn : Int), rfl, by omega, by omega, for_range (lo := 0) (n := (mn : Int).toNat)
      (fun i σ H' => ∃ (o4 o9 o10 o11 : Option V) (xs : List V) (bs : List (List Seat)), σ = [some (.ref m), some (.int 3), some (.int 3), some (.int 4), o4, some (.ref pt), some (.int (wn : Nat)), some (.int (mn : Nat)), some (.ref p), o9, o10, o11] ∧ H' p = some (.lst xs) ∧ xs.length = i ∧ bs.length = i ∧ DtA K H' xs (bs.map bodyD) ∧
        (∀ b ∈ bs, 1 ≤ b.length ∧ b.length ≤ 3 ∧ ∀ s ∈ b, DrawnS ns mn wn s) ∧ MAt m c g H' (r + (97 - 19 * i)) ∧ H' pt = some (.lst (ns.map V.int)) ∧ Kp m g H H')
      ⟨_, _, _, _, [], [], rfl, hp5, rfl, rfl, .nil, (fun _ z => nomatch z), M5, hpt5, kp5⟩ ?_ ?_⟩))))
    · rintro i σ H6 hi ⟨o4, o9, o10, o11, xs, bs, rfl, hp6, lx, lb, ax, gb, M6, hpt6, kp6⟩
      rw [Int.toNat_natCast] at hi
      walk_at "st"
      refine r_lst (r_nil ⟨Nat.zero_le _, fun q nq => ?_⟩)
      walk_at "st"
      have s7 : Same H6 (upd H6 q (.lst [])) := same_new nq
      obtain ⟨qm, qc, qg⟩ := new_m3 M6 nq
      have qp : p ≠ q := fun z => by rw [z, nq] at hp6; cases hp6
      have qt : pt ≠ q := fun z => by rw [z, nq] at hpt6; cases hpt6
      have nqH : H q = none := by
        cases z : H q with
        | none => rfl
        | some o => have := kp6 q o qm qg z; rw [this] at nq; cases nq
      refine r_for (r_rng1 (r_cons (r_op (r_c (r_call (r_cons (r_v rfl (r_cons (r_v rfl (r_nil ?_))))))))))
      refine ⟨m, c, g, r + (96 - 19 * i), 3, rfl, by decide, by decide, (M6.same s7).less (by omega), fun sp H8 sp0 sp1 M8 k8 => ?_⟩
      refine r_I0 (r_nil ?_)
      obtain ⟨sn, esn⟩ : ∃ i : Nat, 1 + sp = (i : Int) := ⟨(1 + sp).toNat, by omega⟩
      rw [esn]
      have hp8 := k8 _ _ pm pg (s7 _ _ hp6)
      have hpt8 := k8 _ _ ptm.1 ptm.2 (s7 _ _ hpt6)
      have hq8 := k8 _ _ qm qg (upd_same (H := H6) (a := q) (o := .lst []))
      have kt8 : KT H6 H8 := (KT.of s7).tr (KT.kp (M6.same s7) k8)
      refine ⟨(sn : Int), rfl, by omega, by omega, for_range (lo := 0) (n := (sn : Int).toNat)
        (fun j σ H' => ∃ (o10 o11 : Option V) (ys : List V) (b : List Seat), σ = [some (.ref m), some (.int 3), some (.int 3), some (.int 4), some (.int (0 + (i : Int))), some (.ref pt), some (.int (wn : Nat)), some (.int (mn : Nat)), some (.ref p), some (.ref q), o10, o11] ∧ H' q = some (.lst ys) ∧ ys.length = j ∧ b.length = j ∧ DtA K H' ys (b.map Seat.d) ∧
          (∀ s ∈ b, DrawnS ns mn wn s) ∧ MAt m c g H' (r + (96 - 19 * i - 6 * j)) ∧ H' pt = some (.lst (ns.map V.int)) ∧ H' p = some (.lst xs) ∧ KT H6 H' ∧ Kp m g H H')
        ⟨_, _, [], [], rfl, hq8, rfl, rfl, .nil, (fun _ z => nomatch z), M8, hpt8, hp8, kt8, (kp6.tr (Kp.of s7)).tr k8⟩ ?_ ?_⟩
      · rintro j σ H9 hj ⟨o10, o11, ys, b, rfl, hq9, ly, lb2, ay, gs, M9, hpt9, hp9, kt9, kp9⟩
        rw [Int.toNat_natCast] at hj
        walk_at "st"
        refine r_call (r_cons (r_v rfl (r_cons (r_v rfl (r_nil ?_)))))
        refine ⟨m, c, g, r + (95 - 19 * i - 6 * j), .ref pt, rfl, M9.less (by omega), Or.inl ⟨ns, .lst (by rw [wo_at (B2_no ptm.1 ptm.2)]; exact hpt9) (dts ns), lt0, by omega, fun tm H10 htm M10 k10 => ?_⟩⟩
        have tm6 := cn tm htm
        walk_at "st"
        have hq10 := k10 _ _ qm qg hq9
        refine ⟨_, rfl, Or.inl ⟨rfl, _, SqL.of hq10⟩, ?_⟩
        refine r_cons (r_tup (r_cons (r_v rfl (r_cons (r_call (r_cons (r_v rfl (r_cons (r_v rfl (r_nil ?_)))))))))) 
        refine ⟨m, c, g, r + (94 - 19 * i - 6 * j), tm, rfl, by omega, by omega, M10.less (by omega), fun ph H11 ph0 ph1 M11 k11 => ?_⟩
        refine r_cons (r_call (r_cons (r_v rfl (r_cons (r_v rfl (r_cons (r_v rfl (r_nil ?_))))))))
        refine ⟨m, c, g, r + (90 - 19 * i - 6 * j), mn, wn, rfl, m1, by omega, by omega, M11.less (by omega), fun vw H12 wy hwy aw M12 k12 => ?_⟩
        refine r_nil ⟨sz1 (show 3 ≤ 100000 by decide), fun T2 nT2 => ?_⟩
        refine r_nil ?_
        have s13 : Same H12 (upd H12 T2 (.tup [.int tm, .int ph, vw])) := same_new nT2
        have kq : Kp m g H9 (upd H12 T2 (.tup [.int tm, .int ph, vw])) := ((k10.tr k11).tr k12).tr (Kp.of s13)
        have hq13 := kq _ _ qm qg hq9
        have hp13 := kq _ _ pm pg hp9
        have hpt13 := kq _ _ ptm.1 ptm.2 hpt9
        have kt13 : KT H9 (upd H12 T2 (.tup [.int tm, .int ph, vw])) := (((KT.kp M9 k10).tr (KT.kp M10 k11)).tr (KT.kp M11 k12)).tr (KT.of s13)
        have M13 := M12.same s13
        obtain ⟨tn, rfl⟩ : ∃ i : Nat, tm = (i : Int) := ⟨tm.toNat, by omega⟩
        obtain ⟨pn, rfl⟩ : ∃ i : Nat, ph = (i : Int) := ⟨ph.toNat, by omega⟩
        have aT : Dt K (upd H12 T2 (.tup [.int (tn : Int), .int (pn : Int), vw])) (.ref T2) (Seat.d ⟨tn, pn, wy⟩) := .tup (SqT.of upd_same) (.cons (.int _) (.cons (.int _) (.cons ((aw.dt).gr s13) .nil)))
        generalize upd H12 T2 (.tup [.int (tn : Int), .int (pn : Int), vw]) = H13 at hq13 hp13 hpt13 kt13 M13 aT kq ⊢
        refine ⟨q, ys, .ref T2, rfl, rfl, hq13, sz2 (by omega), ?_⟩
        walk_at "st"
        have ktE : KT H13 (upd H13 q (.lst (ys ++ [.ref T2]))) := KT.updL hq13
        refine ⟨_, _, ys ++ [.ref T2], b ++ [⟨tn, pn, wy⟩], rfl, upd_same, by rw [List.length_append, ly]; rfl, by rw [List.length_append, lb2]; rfl, ?_, fun s hs => ?_, (M13.upd' qm qc qg).less (by omega), by rw [upd_ne qt]; exact hpt13, by rw [upd_ne qp]; exact hp13, (kt9.tr kt13).tr ktE, fun a o h1 h2 e => ?_⟩
        · rw [List.map_append]
          exact DtA.app (DtA.kt (kt13.tr ktE) ay (nlA_map nl_seat b)) (.cons (Dt.kt ktE aT (nl_seat _)) .nil)
        · rcases List.mem_append.mp hs with hs | hs
          · exact gs s hs
          · rw [List.mem_singleton] at hs
            subst hs
            exact ⟨htm, show pn < tn by omega, hwy⟩
        · rw [upd_ne (fun z => by rw [z, nqH] at e; cases e)]
          exact kq _ _ h1 h2 (kp9 _ _ h1 h2 e)
      · rintro σ H9 ⟨o10, o11, ys, b, rfl, hq9, ly, lb2, ay, gs, M9, hpt9, hp9, kt9, kp9⟩
        rw [Int.toNat_natCast] at ly lb2 M9
        walk_at "st"
        have mkT := mk_tupL (K := K) (σ := [some (.ref m), some (.int 3), some (.int 3), some (.int 4), some (.int (0 + (i : Int))), some (.ref pt), some (.int (wn : Nat)), some (.int (mn : Nat)), some (.ref p), some (.ref q), o10, o11]) (mk_var (n := 9) rfl (.lst hq9 ay))
        refine r_app (K := K) (d := bodyD b) rfl hp9 (by omega) mkT fun v H10 s10 a => ?_
        walk_at "st"
        have hp10 := s10 _ _ hp9
        have ktE : KT H10 (upd H10 p (.lst (xs ++ [v]))) := KT.updL hp10
        refine ⟨_, _, _, _, xs ++ [v], bs ++ [b], rfl, upd_same, by rw [List.length_append, lx]; rfl, by rw [List.length_append, lb]; rfl, ?_, fun b' hb' => ?_, ((M9.same s10).upd' pm pc pg).less (by omega), by rw [upd_ne pp]; exact s10 _ _ hpt9, fun a' o h1 h2 e => ?_⟩
        · rw [List.map_append]
          exact DtA.app (DtA.kt ((kt9.tr (KT.of s10)).tr ktE) ax (nlA_map nl_body bs)) (.cons (Dt.kt ktE a (nl_body b)) .nil)
        · rcases List.mem_append.mp hb' with hb' | hb'
          · exact gb b' hb'
          · rw [List.mem_singleton] at hb'
            subst hb'
            exact ⟨by omega, by omega, gs⟩
        · rw [upd_ne (fun z => by rw [z, npH] at e; cases e)]
          exact s10 _ _ (kp9 _ _ h1 h2 e)
    · rintro σ H6 ⟨o4, o9, o10, o11, xs, bs, rfl, hp6, lx, lb, ax, gb, M6, hpt6, kp6⟩
      rw [Int.toNat_natCast] at lx lb M6
      walk_at "st"
      subst lb
      have okH := drawn_ok hns w4 m1 m3 gb
      have res := mk_tup (K := K) (σ := [some (.ref m), some (.int 3), some (.int 3), some (.int 4), o4, some (.ref pt), some (.int (wn : Nat)), some (.int (bs.length : Nat)), some (.ref p), o9, o10, o11]) (mka_cons (mk_tupL (mk_var (n := 8) rfl (.lst hp6 ax))) (mka_cons (mk_var (n := 6) rfl (.int (wn : Int))) mka_nil)) (show 2 ≤ 100000 by decide)
      exact res H6 Gr.rfl' _ fun v H7 s7 a => k v H7 ⟨bs, wn⟩ okH a ((M6.same s7).less (by omega)) (kp6.tr (Kp.of s7))
end
end TSx

namespace TSx
open PySem L2
local macro_rules | `(tactic| walk_at "rd") => `(tactic| repeat (first
  | ((with_reducible show tVar _ _ _ _); refine r_v rfl ?_)
  | with_reducible refine r_c ?_
  | with_reducible refine r_op ?_
  | with_reducible refine r_I0 ?_
  | with_reducible refine r_cb ?_
  | with_reducible refine r_nil ?_
  | with_reducible refine r_cons ?_
  | with_reducible refine r_seq ?_
  | with_reducible refine r_next ?_
  | with_reducible refine r_asg ?_
  | with_reducible refine r_name ?_
  | with_reducible refine r_ret ?_
  | with_reducible refine r_drop ?_
  | with_reducible refine r_if ?_
  | with_reducible refine r_test ?_
  | with_reducible refine r_bl ?_
  | with_reducible refine r_call ?_))
local macro_rules | `(tactic| walk_at "st") => `(tactic| repeat (first
  | with_reducible refine r_seq ?_
  | with_reducible refine r_next ?_
  | with_reducible refine r_asg ?_
  | with_reducible refine r_name ?_
  | with_reducible refine r_ret ?_
  | with_reducible refine r_drop ?_
  | with_reducible refine r_if ?_))
local macro_rules | `(tactic| walk_at "mk") => `(tactic| repeat (first
  | with_reducible exact mk_non
  | with_reducible exact mk_int
  | with_reducible exact mk_str
  | with_reducible exact mk_bl
  | with_reducible exact mk_dic
  | with_reducible exact mka_nil
  | with_reducible refine mka_cons ?_ ?_
  | ((with_reducible refine mk_tup ?_ ?hz); (case hz => decide))
  | ((with_reducible refine mk_lst ?_ ?hz); (case hz => decide))
  | with_reducible refine mk_neg ?_))
abbrev sFS : Stmt := top 61
theorem scFS : FnScope ["m", "home", "row", "seat"] ["m", "home"] (defScope sFS) := ⟨rfl, rfl, rfl, by decide +kernel, rfl, by decide +kernel, by decide +kernel⟩
def spFirst (K : PySem.W.Frag) : Sp := fun vs H Q _ => ∃ (m c g : Addr) (r : Nat) (x : V) (h : House), vs = [.ref m, x] ∧ Dt K H x h.d ∧ h.ok ∧ MAt m c g H (r + 27) ∧ ∀ v H' s, Fits h s → Dt K H' v (standD s) → MAt m c g H' r → Kp m g H H' → Q v H'
/-- fLead: how many more a than b -/
def fLead (ds : List D) (r : D) : Prop := ∃ l : List Bool, (ds = [.str (sideS l)] ∨ ds = [sidesL l]) ∧ l.length ≤ 1000 ∧ r = .int (leadS l)
def fBig (ds : List D) (r : D) : Prop := ∃ x : Int, ds = [.int x] ∧ r = .str (moreStr (moreO x))
theorem sum_lead : ∀ l : List Bool, (l.map fun b => if b = true then (1 : Int) else -1).sum = leadS l
  | [] => rfl
  | b :: l => by
    rw [List.map_cons, List.sum_cons, sum_lead l]
    unfold leadS
    cases b <;> simp <;> omega
/-- [law_of(m, 'ab') for .. in ..] -/
theorem lc_letters {K : PySem.W.Frag} {J : It} {n : Nat} {G : Hp → Prop} {Y : Nat → Hp → V → Hp → Prop} (w : Walk J n G Y) (hY : ∀ i H x H', Y i H x H' → H' = H) {m c g L : Addr} {r i0 : Nat} {σ : Sg} {H : Hp} {Qd : Hp → Prop} (hG : ∀ H', KT H H' → G H') (hn : n ≤ 9)
    (hm : ∀ x, ((wipe σ [i0]).set i0 (some x))[0]? = some (some (.ref m))) (hw : ∀ x, wipe ((wipe σ [i0]).set i0 (some x)) [i0] = wipe σ [i0]) (M : MAt m c g H (r + n)) (nL : H L = none)
    (hd : ∀ H' (l : List Bool), l.length = n → H' L = some (.lst (l.map fun x => V.str (sideS [x]))) → MAt m c g H' r → Kp m g H H' → KT H H' → Qd H') :
    ∃ W : Nat → Nat → Hp → Prop, (∃ m, W 0 m (upd H L (.lst []))) ∧ ∀ i m H, W i m H →
      (J.stop i H ∧ Qd H) ∨ (J.go i H ∧ ∃ Nx : Hp → Prop, (∀ H', Nx H' → ∃ m', m' < m ∧ W (i + 1) m' H') ∧ ∀ x H', J.yld i H x H' → gName i0 x (wipe σ [i0]) H' fun σ2 H2 => wipe σ2 [i0] = wipe σ [i0] ∧ tYes σ2 H2 fun b H3 =>
        if b = true then tCall (spOf K) [] E0 (tCons (tVar 0) (tCons (tC (.str "ab")) tNil)) σ2 H3 fun y H4 => ∃ acc, H4 L = some (.lst acc) ∧ acc.length < sizeLine ∧ Nx (upd H4 L (.lst (acc ++ [y]))) else Nx H3) := by
  obtain ⟨Lm, Lc, Lg⟩ := new_m3 M nL
  refine lc_it w (fun j H' => ∃ l : List Bool, l.length = j ∧ H' L = some (.lst (l.map fun x => V.str (sideS [x]))) ∧ MAt m c g H' (r + (n - j)) ∧ Kp m g H H' ∧ KT H H') ⟨[], rfl, upd_same, M.same (same_new nL), Kp.of (same_new nL), KT.of (same_new nL)⟩ (fun j H' _ z => by obtain ⟨_, _, _, _, _, z⟩ := z; exact hG _ z) ?_ ?_
  · rintro j x H' H'' hj ⟨l, ll, hL, M', kp, kt⟩ y
    have := hY _ _ _ _ y
    subst this
    refine r_name ⟨hw x, r_yes ?_⟩
    refine r_call (r_cons (r_v (hm x) (r_cons (r_c (r_nil ?_)))))
    refine ⟨m, c, g, r + (n - (j + 1)), _, rfl, M'.less (by omega), Or.inr ⟨[true, false], by rw [show sideS [true, false] = Str.ofString "ab" by decide +kernel], by decide, by decide, fun b H3 _ M3 k3 => ?_⟩⟩
    have hL3 := k3 _ _ Lm Lg hL
    have kt3 : KT H'' H3 := KT.kp M' k3
    refine ⟨_, hL3, by rw [List.length_map, ll]; exact sz2 (by omega), l ++ [b], by rw [List.length_append, ll]; rfl, by rw [upd_same, List.map_append]; rfl, M3.upd' Lm Lc Lg, fun a o h1 h2 e => ?_, (kt.tr kt3).tr (KT.updL hL3)⟩
    rw [upd_ne (fun z => by rw [z, nL] at e; cases e)]
    exact k3 _ _ h1 h2 (kp _ _ h1 h2 e)
  · rintro H' ⟨l, ll, hL, M', kp, kt⟩
    exact hd H' l ll hL (M'.less (by omega)) kp kt
section
variable {P : Program} {w : World} {K : PySem.W.Frag} {mg : Str → Option Value} {base : Heap} {pT : Addr}
theorem ok_FS {f fO : Addr} {fd fdO : FuncData} (F : L2.Fun K "_law_first" "_law_first" sFS f fd) (Z : Blt2 mg) (d_law_of : Dok P w K mg base 3 "_law_of" ["m", "some"] (spOf K) fO fdO) : FnOk P w K mg base CX0 4 f fd ["m", "home"] (spFirst K) := by
  refine F.ok scFS (fun vs H Q E h => ?_) (fun cdv A outer s H vs Q E hr h => ?_)
  · obtain ⟨m, c, g, r, x, hh, rfl, _⟩ := h
    rfl
  · obtain ⟨m, c, g, r, x, hh, rfl, x1, ok, M, k⟩ := h
    have ok3 := ok.n3
    refine ⟨_, (pss_one (ps_ret (pe_callTy call_tuple_of (by rfl) Z.tuple (by decide +kernel) (pa_cons (pe_lc (own := [("row", 2)]) (g := gName 2) (tt := tYes) rfl scFS.nd (pi_tup (pe_ix ix_tup (pv 1) pe_int (fun _ _ => rfl))) (blkOk_by (N := ["m", "home", "row", "seat"]) (sc := defScope sFS) (by decide +kernel)) (fun _ _ _ _ _ => pg_name (i := 2) scFS.nd rfl (Or.inl rfl)) (fun _ _ _ _ _ => pts_nil) (fun _ _ _ _ _ => (pe_m1 PySem.F.slot_str_join PySem.F.type_str_join (mt_joinK (K := K) rfl) pe_str (pe_lc (own := [("seat", 3)]) (g := gName 3) (tt := tYes) rfl scFS.nd (pi_tupK (K := K) rfl (pv 2)) (blkOk_by (by rfl)) (fun _ _ _ _ _ => pg_name (i := 3) scFS.nd rfl (Or.inl rfl)) (fun _ _ _ _ _ => pts_nil) (fun _ _ _ _ _ => (pe_call d_law_of.G (hr.mono (by decide)) rfl d_law_of.g d_law_of.k d_law_of.b .nil pass0 (pa_cons (pv 0) (pa_cons pe_str pa_nil)))))))) pa_nil)))), ?_⟩
    walk_at "st"
    refine r_cb (r_cons ?_)
    cases x1 with
    | @tup q qs _ eq aq =>
    obtain ⟨u1, u2, rfl, au1, au2⟩ := aq.two
    cases au1 with
    | @tup p xs _ e aa =>
    have lx := aa.len
    rw [List.length_map] at lx
    refine ⟨_, rfl, q, _, 0, _, rfl, rfl, eq, rfl, p, rfl, ⟨xs, e⟩, fun L nL => ?_⟩
    obtain ⟨Lm, Lc, Lg⟩ := new_m3 M nL
    refine lc_it (walk_tup (K := K) (a := p) (xs := xs)) (fun j H' => ∃ ss : List (List Bool), ss.length = j ∧ ss.map List.length = (hh.bodies.take j).map List.length ∧ H' L = some (.lst (ss.map fun l => V.str (sideS l))) ∧ MAt m c g H' (r + (27 - 9 * j)) ∧ Kp m g H H' ∧ KT H H')
      ⟨[], rfl, rfl, upd_same, (M.same (same_new nL)).less (by omega), Kp.of (same_new nL), KT.of (same_new nL)⟩ (fun j H' _ z => ?_) ?_ ?_
    · obtain ⟨_, _, _, _, _, _, kt⟩ := z
      rcases e with (e | ⟨u, e⟩) | e
      · exact Or.inl (Or.inl ((kt p xs).1 e))
      · exact Or.inl (Or.inr ⟨u, (kt p xs).2 u e⟩)
      · exact Or.inr e
    · rintro j y H' H'' hj ⟨ss, lss, fss, hL, M', kp, kt⟩ ⟨rfl, hy⟩
      obtain ⟨z, hz, az⟩ := aa.at hy
      obtain ⟨b, hb, rfl⟩ := at_map hz
      have b9 := (ok.b b (List.mem_of_getElem? hb)).2
      have ay := Dt.kt kt az (nl_body b)
      refine r_name ⟨rfl, r_yes ?_⟩
      refine ⟨⟨_, rfl⟩, ?_⟩
      cases ay with
      | @tup pb ys _ eb ab =>
      have ly := ab.len
      rw [List.length_map] at ly
      refine ⟨_, rfl, ⟨pb, rfl, ⟨ys, eb⟩, fun L2 nL2 => lc_letters (K := K) (walk_tup (K := K) (a := pb) (xs := ys)) (fun i H x H' z => z.1) (r := r + (27 - 9 * (j + 1))) (fun H3 kt3 => ?_) (by omega) (fun _ => rfl) (fun _ => rfl) (M'.less (by omega)) nL2 fun H3 l ll hL2 M3 k3 kt3 => ?_⟩⟩
      · rcases eb with (eb | ⟨u, eb⟩) | eb
        · exact Or.inl (Or.inl ((kt3 pb ys).1 eb))
        · exact Or.inl (Or.inr ⟨u, (kt3 pb ys).2 u eb⟩)
        · exact Or.inr eb
      · refine ⟨_, L2, l.map fun x => sideS [x], rfl, rfl, Or.inl (SqL.of (by rw [List.map_map]; exact hL2)), join_ok (by omega), ?_⟩
        rw [join_side]
        have hL3 := k3 _ _ Lm Lg hL
        refine ⟨_, hL3, by rw [List.length_map, lss]; exact sz2 (by omega), ss ++ [l], by rw [List.length_append, lss]; rfl, ?_, by rw [upd_same, List.map_append]; rfl, M3.upd' Lm Lc Lg, fun a o h1 h2 e' => ?_, (kt.tr kt3).tr (KT.updL hL3)⟩
        · rw [List.take_add_one, hb, List.map_append, List.map_append, fss, Option.toList_some, List.map_cons, List.map_nil, List.map_cons, List.map_nil]
          congr 2
          omega
        · rw [upd_ne (fun z => by rw [z, nL] at e'; cases e')]
          exact k3 _ _ h1 h2 (kp _ _ h1 h2 e')
    · rintro H' ⟨ss, lss, fss, hL, M', kp, kt⟩
      refine r_nil ⟨L, _, rfl, Or.inl ⟨SqL.of hL, fun T nT => ?_⟩⟩
      rw [lx, List.take_length] at fss
      refine k _ _ ss fss (.tup (SqT.of upd_same) ?_) ((M'.same (same_new nT)).less (by omega)) (kp.tr (Kp.of (same_new nT)))
      have aux : ∀ {H' : Hp} (ls : List (List Bool)), DtA K H' (ls.map fun l => V.str (sideS l)) (ls.map fun l => D.str (sideS l)) := by
        intro H' ls
        induction ls with
        | nil => exact .nil
        | cons l ls ih => exact .cons (.str _) ih
      exact aux _
end
end TSx

namespace TSx
open PySem L2
local macro_rules | `(tactic| walk_at "rd") => `(tactic| repeat (first
  | ((with_reducible show tVar _ _ _ _); refine r_v rfl ?_)
  | with_reducible refine r_c ?_
  | with_reducible refine r_op ?_
  | with_reducible refine r_I0 ?_
  | with_reducible refine r_cb ?_
  | with_reducible refine r_nil ?_
  | with_reducible refine r_cons ?_
  | with_reducible refine r_seq ?_
  | with_reducible refine r_next ?_
  | with_reducible refine r_asg ?_
  | with_reducible refine r_name ?_
  | with_reducible refine r_ret ?_
  | with_reducible refine r_drop ?_
  | with_reducible refine r_if ?_
  | with_reducible refine r_test ?_
  | with_reducible refine r_bl ?_
  | with_reducible refine r_call ?_))
local macro_rules | `(tactic| walk_at "st") => `(tactic| repeat (first
  | with_reducible refine r_seq ?_
  | with_reducible refine r_next ?_
  | with_reducible refine r_asg ?_
  | with_reducible refine r_name ?_
  | with_reducible refine r_ret ?_
  | with_reducible refine r_drop ?_
  | with_reducible refine r_if ?_))
local macro_rules | `(tactic| walk_at "mk") => `(tactic| repeat (first
  | with_reducible exact mk_non
  | with_reducible exact mk_int
  | with_reducible exact mk_str
  | with_reducible exact mk_bl
  | with_reducible exact mk_dic
  | with_reducible exact mka_nil
  | with_reducible refine mka_cons ?_ ?_
  | ((with_reducible refine mk_tup ?_ ?hz); (case hz => decide))
  | ((with_reducible refine mk_lst ?_ ?hz); (case hz => decide))
  | with_reducible refine mk_neg ?_))
def fLater (ds : List D) (r : D) : Prop := ∃ (h : House) (s : List (List Bool)) (n : Int) (c : List Bool), ds = [h.d, standD s, .int n, .str (sideS c)] ∧ h.ok ∧ Fits h s ∧ c.length = h.wards ∧ r = standD (standBehind h s n c)
def selE (fb : List Seat) (n : Int) (w : Bool) (k : Nat) : Option D := match fb[k]? with
  | some s => if w || !comesUp s n then some (.int (k : Nat)) else none
  | none => none
def selK : List Seat → Int → Bool → Nat → List Nat
  | [], _, _, _ => []
  | s :: b, n, w, i => if w || !comesUp s n then i :: selK b n w (i + 1) else selK b n w (i + 1)
theorem selE_all : ∀ (fb : List Seat) (n : Int) (w : Bool) (i : Nat), (List.range fb.length).filterMap (fun k => (match fb[k]? with | some s => if w || !comesUp s n then some (D.int ((i + k : Nat) : Int)) else none | none => none)) = (selK fb n w i).map fun k => D.int (k : Nat)
  | [], _, _, _ => rfl
  | s :: b, n, w, i => by
    rw [List.length_cons, List.range_succ_eq_map, List.filterMap_cons, List.filterMap_map]
    have ih := selE_all b n w (i + 1)
    have e : ((fun k => (match (s :: b)[k]? with | some s => if w || !comesUp s n then some (D.int ((i + k : Nat) : Int)) else none | none => none)) ∘ Nat.succ) = fun k => (match b[k]? with | some s => if w || !comesUp s n then some (D.int (((i + 1) + k : Nat) : Int)) else none | none => none) := by
      funext k
      show (match (s :: b)[k + 1]? with | some s => if w || !comesUp s n then some (D.int ((i + (k + 1) : Nat) : Int)) else none | none => none) = _
      rw [List.getElem?_cons_succ, show i + (k + 1) = (i + 1) + k by omega]
    rw [e, ih]
    have sk : selK (s :: b) n w i = if w || !comesUp s n then i :: selK b n w (i + 1) else selK b n w (i + 1) := rfl
    rw [sk, List.getElem?_cons_zero]
    cases hb : (w || !comesUp s n) <;> simp [hb]
theorem selK_lt : ∀ (fb : List Seat) (n : Int) (w : Bool) (i : Nat), ∀ k ∈ selK fb n w i, i ≤ k ∧ k < i + fb.length
  | [], _, _, _ => fun k h => nomatch h
  | s :: b, n, w, i => fun k h => by
    have ih := selK_lt b n w (i + 1)
    unfold selK at h
    rw [List.length_cons]
    split at h
    · rcases List.mem_cons.mp h with rfl | h
      · omega
      · have := ih k h; omega
    · have := ih k h; omega
theorem selK_len : ∀ (fb : List Seat) (n : Int) (w : Bool) (i : Nat), (selK fb n w i).length ≤ fb.length
  | [], _, _, _ => Nat.le_refl _
  | s :: b, n, w, i => by
    have ih := selK_len b n w (i + 1)
    unfold selK
    split
    · rw [List.length_cons, List.length_cons]; omega
    · rw [List.length_cons]; omega
theorem sel_map : ∀ (fb : List Seat) (sb pre : List Bool) (n : Int) (w : Bool), fb.length = sb.length → (selK fb n w pre.length).map (fun k => (pre ++ sb).getD k false) = if w then sb else restL fb sb n
  | [], [], _, _, w, _ => by cases w <;> rfl
  | [], _ :: _, _, _, _, h => by cases h
  | _ :: _, [], _, _, _, h => by cases h
  | s :: b, x :: l, pre, n, w, h => by
    have ih := sel_map b l (pre ++ [x]) n w (by simpa using h)
    rw [List.length_append, List.length_singleton, List.append_assoc] at ih
    have g : (pre ++ (x :: l)).getD pre.length false = x := by simp [List.getD]
    have ih' : (selK b n w (pre.length + 1)).map (fun k => (pre ++ (x :: l)).getD k false) = if w then l else restL b l n := ih
    unfold selK restL
    rw [List.zip_cons_cons, List.filter_cons]
    cases w with
    | true =>
      show ((pre ++ (x :: l)).getD pre.length false :: (selK b n true (pre.length + 1)).map (fun k => (pre ++ (x :: l)).getD k false)) = x :: l
      rw [g, ih']; rfl
    | false =>
      cases hcu : comesUp s n with
      | true =>
        show (selK b n false (pre.length + 1)).map (fun k => (pre ++ (x :: l)).getD k false) = _
        rw [ih']; rfl
      | false =>
        show ((pre ++ (x :: l)).getD pre.length false :: (selK b n false (pre.length + 1)).map (fun k => (pre ++ (x :: l)).getD k false)) = _
        rw [g, ih']; rfl
section
variable {K : PySem.W.Frag} {σ : Sg} {H : Hp} {te ta tb : TE}
theorem mk_int1 {i : Int} (h : Mk K ta σ H (.int i)) : Mk K (tCB rInt (tCons ta tNil)) σ H (.int i) := fun H1 s Q q => h H1 s _ fun v H2 s2 a => by
  cases a
  exact ⟨i, rfl, q _ H2 s2 (.int _)⟩
theorem mt_or2 {tt uu : TT} {a b : Bool} (h : MkT tt σ H a) (h2 : MkT uu σ H b) : MkT (tOr tt uu) σ H (a || b) := fun H1 s Q q => by
  refine h H1 s _ fun H2 s2 => ?_
  cases a with
  | true => exact iteT (q H2 s2)
  | false => exact iteF (h2 H2 (s.trans s2) Q fun H3 s3 => q H3 (s2.trans s3))
/-- 'a' if lead > 0 else 'b' if lead < 0 else letter if tie == 'kept' else tie -/
theorem mk_fresh {ld : Int} {t : Str} {sd : Bool} {x12 x13 x8 : V} (h12 : σ[12]? = some (some x12)) (h13 : σ[13]? = some (some x13)) (h8 : σ[8]? = some (some x8)) (a12 : Dt K H x12 (.int ld)) (a13 : Dt K H x13 (.str t)) (a8 : Dt K H x8 (.str (sideS [sd]))) (ht : t ∈ tiesL) :
    Mk K (tIf (tTest (tOp (rI0 fun i j => .bl (decide (i > j))) (tVar 12) (tC (.int 0)))) (tC (.str "a")) (tIf (tTest (tOp (rI0 fun i j => .bl (decide (i < j))) (tVar 12) (tC (.int 0)))) (tC (.str "b")) (tIf (tTest (tOp rEq (tVar 13) (tC (.str "kept")))) (tVar 8) (tVar 13)))) σ H (.str (sideS [(moreO ld).getD (tieB t sd)])) := by
  have m := ifE (K := K) (σ := σ) (H := H) (mt_test (mk_I0b (g := fun i j => decide (i > j)) (mk_var h12 a12) (mk_int (i := 0)))) (fun _ => mk_str (x := "a")) (fun _ => ifE (mt_test (mk_I0b (g := fun i j => decide (i < j)) (mk_var h12 a12) (mk_int (i := 0)))) (fun _ => mk_str (x := "b")) (fun _ => ifE (mt_test (mk_eqS (mk_var h13 a13) (mk_str (x := "kept")))) (fun _ => mk_var h8 a8) (fun _ => mk_var h13 a13)))
  have e : (if decide (ld > 0) = true then D.str "a" else if decide (ld < 0) = true then D.str "b" else if decide (t = "kept") = true then D.str (sideS [sd]) else D.str t) = .str (sideS [(moreO ld).getD (tieB t sd)]) := by
    unfold moreO
    by_cases z : ld = 0
    · subst z
      rw [if_neg (by decide), if_neg (by decide), if_pos rfl]
      show _ = D.str (sideS [tieB t sd])
      unfold tieB
      simp only [tiesL, List.mem_cons, List.not_mem_nil, or_false] at ht
      rcases ht with rfl | rfl | rfl
      · rw [if_neg (by decide +kernel), if_neg (by decide +kernel), show decide ((Str.ofString "a") = "a") = true from decide_eq_true rfl, sd_a]
      · rw [if_neg (by decide +kernel), if_neg (by decide +kernel), show decide ((Str.ofString "b") = "a") = false by decide +kernel, sd_b]
      · rw [if_pos (by decide +kernel), if_pos rfl]
    · rw [if_neg z]
      by_cases p : ld > 0
      · rw [if_pos (decide_eq_true p), decide_eq_true p]; exact congrArg D.str sd_a.symm
      · rw [if_neg (by rw [decide_eq_false p]; decide), if_pos (decide_eq_true (by omega)), decide_eq_false p]; exact congrArg D.str sd_b.symm
  rw [← e]
  exact m
end
end TSx

namespace TSx
open PySem L2
local macro_rules | `(tactic| walk_at "rd") => `(tactic| repeat (first
  | ((with_reducible show tVar _ _ _ _); refine r_v rfl ?_)
  | with_reducible refine r_c ?_
  | with_reducible refine r_op ?_
  | with_reducible refine r_I0 ?_
  | with_reducible refine r_cb ?_
  | with_reducible refine r_nil ?_
  | with_reducible refine r_cons ?_
  | with_reducible refine r_seq ?_
  | with_reducible refine r_next ?_
  | with_reducible refine r_asg ?_
  | with_reducible refine r_name ?_
  | with_reducible refine r_ret ?_
  | with_reducible refine r_drop ?_
  | with_reducible refine r_if ?_
  | with_reducible refine r_test ?_
  | with_reducible refine r_bl ?_
  | with_reducible refine r_call ?_))
local macro_rules | `(tactic| walk_at "st") => `(tactic| repeat (first
  | with_reducible refine r_seq ?_
  | with_reducible refine r_next ?_
  | with_reducible refine r_asg ?_
  | with_reducible refine r_name ?_
  | with_reducible refine r_ret ?_
  | with_reducible refine r_drop ?_
  | with_reducible refine r_if ?_))
local macro_rules | `(tactic| walk_at "mk") => `(tactic| repeat (first
  | with_reducible exact mk_non
  | with_reducible exact mk_int
  | with_reducible exact mk_str
  | with_reducible exact mk_bl
  | with_reducible exact mk_dic
  | with_reducible exact mka_nil
  | with_reducible refine mka_cons ?_ ?_
  | ((with_reducible refine mk_tup ?_ ?hz); (case hz => decide))
  | ((with_reducible refine mk_lst ?_ ?hz); (case hz => decide))
  | with_reducible refine mk_neg ?_))
abbrev sLike : Stmt := top 56
theorem scLike : FnScope ["heard", "due"] ["heard", "due"] (defScope sLike) := ⟨rfl, rfl, rfl, by decide +kernel, rfl, by decide +kernel, by decide +kernel⟩
/-- two that are the same data -/
def spLike (K : PySem.W.Frag) : Sp := fun vs H Q _ => ∃ (x y : V) (d : D), vs = [x, y] ∧ Dt K H x d ∧ Dt K H y d ∧ d.rd ∧ Q (.bl true) H
section
variable {P : Program} {w : World} {K : PySem.W.Frag} {mg : Str → Option Value} {base : Heap}
theorem ok_like {f : Addr} {fd : FuncData} (F : L2.Fun K "_law_like" "_law_like" sLike f fd) (B : Blt mg) : FnG P w K mg base CX0 1 f fd ["heard", "due"] (spLike K) := by
  refine fnG_of0 F scLike (fun vs H Q E h => ?_) (fun cdv A outer s H vs Q E g hr h => ?_)
  · obtain ⟨x, y, d, rfl, _⟩ := h
    rfl
  · obtain ⟨x, y, d, rfl, hx, hy, hd, k⟩ := h
    have g2 := guards_deeper g (PyProof.Rows.envOfC "_law_like" (defScope sLike) s.heap.objs.size f cdv)
    refine ⟨_, (pss_one (ps_ret (pe_cmpR op_eq (pe_callB (call_reprD g2 hr.units) (by rfl) B.repr PyProof.Rows.boot_repr (pa_cons (pv 0) pa_nil)) (pe_callB (call_reprD g2 hr.units) (by rfl) B.repr PyProof.Rows.boot_repr (pa_cons (pv 1) pa_nil)) (nomark _)))), ?_⟩
    walk_at "rd"
    refine ⟨x, d, rfl, hx, hd, ?_⟩
    walk_at "rd"
    refine ⟨y, d, rfl, hy, hd, rfl, ?_⟩
    rw [decide_eq_true rfl]
    exact k
end
end TSx

namespace TSx
open PySem L2
/-- small enough to be shown -/
structure Sm (w k : Nat) (d : D) : Prop where
  sh : d.sh = true
  sw : d.pd.showable = true
  lf : d.pd.leavesShort 13 = true
  wt : d.pd.weight ≤ w
  dp : d.pd.depth ≤ k
structure SmA (w k : Nat) (ds : List D) : Prop where
  sh : shA ds = true
  sw : PyData.showableAll (pdA ds) = true
  lf : PyData.leavesShortAll 13 (pdA ds) = true
  wt : PyData.weightAll (pdA ds) ≤ (w + 1) * ds.length
  dp : PyData.depthAll (pdA ds) ≤ k
theorem Sm.rd {w k : Nat} {d : D} (h : Sm w k d) (hw : w ≤ 2 ^ 20) (hk : k ≤ 50) : d.rd :=
  ⟨h.sh, h.sw, PyData.shown_fits (B := 13) (by decide) (by decide) h.lf (Nat.le_trans h.wt hw), Nat.le_trans h.dp hk⟩
theorem Sm.up {w k w' k' : Nat} {d : D} (h : Sm w k d) (hw : w ≤ w') (hk : k ≤ k') : Sm w' k' d := ⟨h.sh, h.sw, h.lf, Nat.le_trans h.wt hw, Nat.le_trans h.dp hk⟩
theorem smA {w k : Nat} : ∀ {ds : List D}, (∀ d ∈ ds, Sm w k d) → SmA w k ds
  | [], _ => ⟨by simp only [shA], by simp only [pdA, PyData.showableAll], by simp only [pdA, PyData.leavesShortAll], by simp only [pdA, PyData.weightAll]; exact Nat.zero_le _, by simp only [pdA, PyData.depthAll]; exact Nat.zero_le _⟩
  | d :: ds, h => by
    have a := h d List.mem_cons_self
    have b := smA fun e he => h e (List.mem_cons_of_mem _ he)
    refine ⟨?_, ?_, ?_, ?_, ?_⟩
    · simp only [shA, a.sh, b.sh, Bool.and_true]
    · simp only [pdA, PyData.showableAll, a.sw, b.sw, Bool.and_true]
    · simp only [pdA, PyData.leavesShortAll, a.lf, b.lf, Bool.and_true]
    · simp only [pdA, PyData.weightAll, List.length_cons]
      have e : (w + 1) * (ds.length + 1) = (w + 1) * ds.length + (w + 1) := Nat.mul_succ _ _
      have := a.wt
      have := b.wt
      omega
    · simp only [pdA, PyData.depthAll]
      have := a.dp
      have := b.dp
      omega
theorem sm_tup {w k m : Nat} {ds : List D} (h : ∀ d ∈ ds, Sm w k d) (hm : ds.length ≤ m) : Sm ((w + 1) * m) (k + 1) (.tup ds) := by
  have a := smA h
  have := Nat.mul_le_mul_left (w + 1) hm
  have := a.wt
  have := a.dp
  refine ⟨?_, ?_, ?_, ?_, ?_⟩
  · simp only [D.sh, a.sh]
  · simp only [D.pd, PyData.showable, a.sw]
  · simp only [D.pd, PyData.leavesShort, a.lf]
  · simp only [D.pd, PyData.weight]; omega
  · simp only [D.pd, PyData.depth]; omega
theorem sm_lst {w k m : Nat} {ds : List D} (h : ∀ d ∈ ds, Sm w k d) (hm : ds.length ≤ m) : Sm ((w + 1) * m) (k + 1) (.lst ds) := by
  have a := smA h
  have := Nat.mul_le_mul_left (w + 1) hm
  have := a.wt
  have := a.dp
  refine ⟨?_, ?_, ?_, ?_, ?_⟩
  · simp only [D.sh, a.sh]
  · simp only [D.pd, PyData.showable, a.sw]
  · simp only [D.pd, PyData.leavesShort, a.lf]
  · simp only [D.pd, PyData.weight]; omega
  · simp only [D.pd, PyData.depth]; omega
theorem sm_int {i : Int} (h : i.natAbs < 1000000) : Sm 20 0 (.int i) := by
  have l2 : i.natAbs ≠ 0 → i.natAbs.log2 < 20 := fun z => (Nat.log2_lt z).2 (by omega)
  have l3 : i.natAbs.log2 < 20 := by
    by_cases z : i.natAbs = 0
    · rw [z]; decide
    · exact l2 z
  refine ⟨rfl, ?_, ?_, ?_, ?_⟩
  · simp only [D.pd, PyData.showable, decide_eq_true_eq]; omega
  · simp only [D.pd, PyData.leavesShort, decide_eq_true_eq]; exact PyData.shown_int_le (by omega)
  · simp only [D.pd, PyData.weight]; split <;> omega
  · simp only [D.pd, PyData.depth]; exact Nat.le_refl _
theorem sm_side {m : Nat} {l : List Bool} (h : l.length ≤ m) : Sm m 0 (.str (sideS l)) := by
  refine ⟨rfl, ?_, ?_, ?_, ?_⟩
  · simp only [D.pd, PyData.showable]
  · simp only [D.pd, PyData.leavesShort, List.all_eq_true, decide_eq_true_eq]
    intro c hc
    have hc' : c ∈ l.map sideC := by simpa [sideS] using hc
    obtain ⟨b, _, rfl⟩ := List.mem_map.1 hc'
    cases b <;> decide
  · simp only [D.pd, PyData.weight]
    have e : (sideS l).cps.size = l.length := by simp [sideS]
    omega
  · simp only [D.pd, PyData.depth]; exact Nat.le_refl _
theorem sm_stand {s : List (List Bool)} (h3 : s.length ≤ 3) (h9 : ∀ l ∈ s, l.length ≤ 9) : Sm 30 1 (standD s) := by
  refine (sm_tup (w := 9) (k := 0) (m := 3) (fun d hd => ?_) (by rw [List.length_map]; exact h3)).up (by decide) (by decide)
  obtain ⟨l, hl, rfl⟩ := List.mem_map.1 hd
  exact sm_side (h9 l hl)
end TSx

namespace TSx
open PySem L2
theorem sm_word {m : Nat} {x : Str} (h : x.cps.toList.all (fun c => decide (c < 16 ^ 8)) = true) (z : x.cps.size ≤ m) : Sm m 0 (.str x) := by
  refine ⟨rfl, ?_, ?_, ?_, ?_⟩
  · simp only [D.pd, PyData.showable]
  · simp only [D.pd, PyData.leavesShort]; exact h
  · simp only [D.pd, PyData.weight]; exact z
  · simp only [D.pd, PyData.depth]; exact Nat.le_refl _
theorem sm_w4 {x : Str} (h : x.cps.toList.all (fun c => decide (c < 16 ^ 8)) = true) (z : x.cps.size ≤ 4) : Sm 20 0 (.str x) := (sm_word h z).up (by decide) (Nat.le_refl _)
theorem sm_tie {t : Str} (h : t ∈ tiesL) : Sm 20 0 (.str t) := by
  simp only [tiesL, List.mem_cons, List.mem_nil_iff, or_false] at h
  rcases h with rfl | rfl | rfl
  · exact sm_w4 (by decide +kernel) (by decide +kernel)
  · exact sm_w4 (by decide +kernel) (by decide +kernel)
  · exact sm_w4 (by decide +kernel) (by decide +kernel)
theorem sm_nat {n : Nat} (h : n < 1000) : Sm 20 0 (.int n) := sm_int (by omega)
theorem sm_way {n k : Nat} {w : Way} (h : w.ok n k) (hn : n ≤ 3) (hk : k ≤ 4) : Sm 63 1 w.d := by
  cases w with
  | ward i =>
    have h' : i < k := h
    refine (sm_tup (w := 20) (k := 0) (m := 3) (fun d hd => ?_) (by simp)).up (by decide) (by decide)
    simp only [List.mem_cons, List.mem_nil_iff, or_false] at hd
    rcases hd with rfl | rfl
    · exact sm_w4 (by decide +kernel) (by decide +kernel)
    · exact sm_nat (by omega)
  | body b t =>
    obtain ⟨hb, ht⟩ : b < n ∧ t ∈ tiesL := h
    refine (sm_tup (w := 20) (k := 0) (m := 3) (fun d hd => ?_) (by simp)).up (by decide) (by decide)
    simp only [List.mem_cons, List.mem_nil_iff, or_false] at hd
    rcases hd with rfl | rfl | rfl
    · exact sm_w4 (by decide +kernel) (by decide +kernel)
    · exact sm_nat (by omega)
    · exact sm_tie ht
  | rest b t =>
    obtain ⟨hb, ht⟩ : b < n ∧ t ∈ tiesL := h
    refine (sm_tup (w := 20) (k := 0) (m := 3) (fun d hd => ?_) (by simp)).up (by decide) (by decide)
    simp only [List.mem_cons, List.mem_nil_iff, or_false] at hd
    rcases hd with rfl | rfl | rfl
    · exact sm_w4 (by decide +kernel) (by decide +kernel)
    · exact sm_nat (by omega)
    · exact sm_tie ht
  | kept =>
    refine (sm_tup (w := 20) (k := 0) (m := 3) (fun d hd => ?_) (by simp)).up (by decide) (by decide)
    simp only [List.mem_cons, List.mem_nil_iff, or_false] at hd
    subst hd
    exact sm_w4 (by decide +kernel) (by decide +kernel)
theorem sm_seat {n k : Nat} {s : Seat} (h : s.ok n k) (hn : n ≤ 3) (hk : k ≤ 4) : Sm 192 2 s.d := by
  have := h.t6
  have := h.p
  refine (sm_tup (w := 63) (k := 1) (m := 3) (fun d hd => ?_) (by simp)).up (by decide) (by decide)
  simp only [List.mem_cons, List.mem_nil_iff, or_false] at hd
  rcases hd with rfl | rfl | rfl
  · exact (sm_nat (by omega)).up (by decide) (by decide)
  · exact (sm_nat (by omega)).up (by decide) (by decide)
  · exact sm_way h.w hn hk
theorem sm_house {x : House} (ok : x.ok) : Sm 10430 5 x.d := by
  have h3 := ok.n3
  have h4 := ok.w
  refine (sm_tup (w := 5214) (k := 4) (m := 2) (fun d hd => ?_) (by simp)).up (by decide) (by decide)
  simp only [List.mem_cons, List.mem_nil_iff, or_false] at hd
  rcases hd with rfl | rfl
  · refine (sm_tup (w := 1737) (k := 3) (m := 3) (fun d hd => ?_) (by rw [List.length_map]; exact h3)).up (by decide) (by decide)
    obtain ⟨b, hb, rfl⟩ := List.mem_map.1 hd
    refine (sm_tup (w := 192) (k := 2) (m := 9) (fun d hd => ?_) (by rw [List.length_map]; exact (ok.b b hb).2)).up (by decide) (by decide)
    obtain ⟨s, hs, rfl⟩ := List.mem_map.1 hd
    exact sm_seat (ok.s b hb s hs) h3 h4
  · exact (sm_nat (by omega)).up (by decide) (by decide)
theorem fits_small {x : House} {s : List (List Bool)} (ok : x.ok) (f : Fits x s) : s.length ≤ 3 ∧ ∀ l ∈ s, l.length ≤ 9 := by
  have e : (s.map List.length).length = (x.bodies.map List.length).length := by rw [f]
  rw [List.length_map, List.length_map] at e
  refine ⟨by have := ok.n3; omega, fun l hl => ?_⟩
  have m : l.length ∈ x.bodies.map List.length := by rw [← f]; exact List.mem_map.2 ⟨l, hl, rfl⟩
  obtain ⟨b, hb, hbl⟩ := List.mem_map.1 m
  have := (ok.b b hb).2
  omega
theorem sm_fits {x : House} {s : List (List Bool)} (ok : x.ok) (f : Fits x s) : Sm 30 1 (standD s) := sm_stand (fits_small ok f).1 (fits_small ok f).2
/-- [home, first] -/
theorem rd_kept {x : House} {s : List (List Bool)} (ok : x.ok) (f : Fits x s) : (D.lst [x.d, standD s]).rd := by
  refine (sm_lst (w := 10430) (k := 5) (m := 2) (fun d hd => ?_) (by simp)).rd (by decide) (by decide)
  simp only [List.mem_cons, List.mem_nil_iff, or_false] at hd
  rcases hd with rfl | rfl
  · exact sm_house ok
  · exact (sm_fits ok f).up (by decide) (by decide)
/-- [due, due] -/
theorem rd_twice {x : House} {s : List (List Bool)} (ok : x.ok) (f : Fits x s) : (D.lst [standD s, standD s]).rd := by
  refine (sm_lst (w := 30) (k := 1) (m := 2) (fun d hd => ?_) (by simp)).rd (by decide) (by decide)
  simp only [List.mem_cons, List.mem_nil_iff, or_false] at hd
  rcases hd with rfl | rfl <;> exact sm_fits ok f
theorem sm_maj {x : House} {s : List (List Bool)} (ok : x.ok) (f : Fits x s) : Sm 30 1 (.tup (s.map fun l => .str (moreStr (moreO (leadS l))))) := by
  refine (sm_tup (w := 9) (k := 0) (m := 3) (fun d hd => ?_) (by rw [List.length_map]; exact (fits_small ok f).1)).up (by decide) (by decide)
  obtain ⟨l, _, rfl⟩ := List.mem_map.1 hd
  cases moreO (leadS l) with
  | none => exact (sm_word (m := 9) (by decide +kernel) (by decide +kernel))
  | some b => exact sm_side (by simp)
theorem flat_le {α : Type} {n : Nat} : ∀ {ls : List (List α)}, (∀ l ∈ ls, l.length ≤ n) → ls.flatten.length ≤ n * ls.length
  | [], _ => by simp
  | l :: ls, h => by
    have a := h l List.mem_cons_self
    have b := flat_le (ls := ls) fun e he => h e (List.mem_cons_of_mem _ he)
    rw [List.flatten_cons, List.length_append, List.length_cons, Nat.mul_succ]
    omega
theorem sm_due {x : House} {n : Int} (ok : x.ok) : Sm 1200 2 (.tup (dueL x.bodies n x.bodies.length)) := by
  have h3 := ok.n3
  refine (sm_tup (w := 42) (k := 1) (m := 27) (fun d hd => ?_) ?_).up (by decide) (by decide)
  · unfold dueL at hd
    obtain ⟨l, hl, hdl⟩ := List.mem_flatten.1 hd
    obtain ⟨i, hi, rfl⟩ := List.mem_map.1 hl
    have hi' := List.mem_range.1 hi
    rw [List.getElem?_eq_getElem hi'] at hdl
    dsimp only at hdl
    unfold dueB at hdl
    obtain ⟨j, hj, rfl⟩ := List.mem_map.1 hdl
    have hj' := List.mem_range.1 (List.mem_filter.1 hj).1
    have := (ok.b _ (List.getElem_mem hi')).2
    refine (sm_tup (w := 20) (k := 0) (m := 2) (fun d hd => ?_) (by simp)).up (by decide) (by decide)
    simp only [List.mem_cons, List.mem_nil_iff, or_false] at hd
    rcases hd with rfl | rfl
    · exact sm_nat (by omega)
    · exact sm_nat (by omega)
  · unfold dueL
    refine Nat.le_trans (flat_le (n := 9) fun l hl => ?_) (by rw [List.length_map, List.length_range]; omega)
    obtain ⟨i, hi, rfl⟩ := List.mem_map.1 hl
    have hi' := List.mem_range.1 hi
    rw [List.getElem?_eq_getElem hi']
    dsimp only
    unfold dueB
    rw [List.length_map]
    have c9 := (ok.b _ (List.getElem_mem hi')).2
    refine Nat.le_trans (List.length_filter_le _ _) ?_
    rw [List.length_range]
    exact c9
/-- [due_seats, majorities] -/
theorem rd_pair {x : House} {s : List (List Bool)} {n : Int} (ok : x.ok) (f : Fits x s) : (D.lst [.tup (dueL x.bodies n x.bodies.length), .tup (s.map fun l => .str (moreStr (moreO (leadS l))))]).rd := by
  refine (sm_lst (w := 1200) (k := 2) (m := 2) (fun d hd => ?_) (by simp)).rd (by decide) (by decide)
  simp only [List.mem_cons, List.mem_nil_iff, or_false] at hd
  rcases hd with rfl | rfl
  · exact sm_due ok
  · exact (sm_maj ok f).up (by decide) (by decide)
end TSx

namespace TSx
open PySem L2
theorem sm_run {x : House} {s cs : List (List Bool)} {j : Nat} (ok : x.ok) (f : Fits x s) (hj : j ≤ 40) : Sm 1240 2 (.tup (runL x s cs j)) := by
  refine (sm_tup (w := 30) (k := 1) (m := 40) (fun d hd => ?_) (by unfold runL; rw [List.length_map, List.length_range]; exact hj)).up (by decide) (by decide)
  unfold runL at hd
  obtain ⟨i, _, rfl⟩ := List.mem_map.1 hd
  exact sm_fits ok (fits_stAt f _)
/-- [run, run] -/
theorem rd_runs {x : House} {s cs : List (List Bool)} {j : Nat} (ok : x.ok) (f : Fits x s) (hj : j ≤ 40) : (D.lst [.tup (runL x s cs j), .tup (runL x s cs j)]).rd := by
  refine (sm_lst (w := 1240) (k := 2) (m := 2) (fun d hd => ?_) (by simp)).rd (by decide) (by decide)
  simp only [List.mem_cons, List.mem_nil_iff, or_false] at hd
  rcases hd with rfl | rfl <;> exact sm_run ok f hj
theorem rd_run {x : House} {s cs : List (List Bool)} {j : Nat} (ok : x.ok) (f : Fits x s) (hj : j ≤ 40) : (D.tup (runL x s cs j)).rd := (sm_run ok f hj).rd (by decide) (by decide)
end TSx

/-! Own layer, part L14: tools for the law itself. -/
namespace TSx
open PySem L2
theorem mk_like {K : PySem.W.Frag} {ta tb : TE} {σ : Sg} {H : Hp} {d : D} (h : Mk K ta σ H d) (h2 : Mk K tb σ H d) (r : d.rd) : Mk K (tCall (spLike K) [] E0 (tCons ta (tCons tb tNil))) σ H (.bl true) := fun H1 s Q q => h H1 s _ fun v H2 s2 b => h2 H2 (s.trans s2) _ fun u H3 s3 c =>
  ⟨v, u, d, rfl, b.gr s3, c, r, q _ H3 (s2.trans s3) (.bl true)⟩
theorem mk_reprD {K : PySem.W.Frag} {ta : TE} {σ : Sg} {H : Hp} {d : D} (h : Mk K ta σ H d) (r : d.rd) : Mk K (tCB (rReprD K) (tCons ta tNil)) σ H (.str d.pd.shown) := fun H1 s Q q => h H1 s _ fun v H2 s2 a => ⟨v, d, rfl, a, r, q _ H2 s2 (.str _)⟩
/-- a comprehension whose things are tuples, or have no parts: at turn k e k, or nothing -/
theorem lc_flatN {K : PySem.W.Frag} {σ : Sg} {te : TE} {g : TG} {J : It} {n : Nat} {G : Hp → Prop} {Y : Nat → Hp → V → Hp → Prop} (w : Walk J n G Y) {tt : TT} {vs : List Nat} {H1 : Hp} {L : Addr} {Qd : Hp → Prop} (e : Nat → Option D) (nl : ∀ k d, e k = some d → d.nl = true) (nL : H1 L = none) (hG : ∀ H', Same H1 H' → G H') (hn : n ≤ 1000)
    (step : ∀ k x H' H'', k < n → Same H1 H' → Y k H' x H'' → Same H' H'' ∧ ∀ R : Sg → Hp → Prop, (∀ σ2, wipe σ2 vs = wipe σ vs → (∀ d, e k = some d → MkT tt σ2 H'' true ∧ Mk K te σ2 H'' d) → (e k = none → MkT tt σ2 H'' false) → R σ2 H'') → g x (wipe σ vs) H'' R)
    (hd : ∀ H' xs, Same H1 H' → H' L = some (.lst xs) → DtA K H' xs ((List.range n).filterMap e) → Qd H') :
    ∃ W : Nat → Nat → Hp → Prop, (∃ m, W 0 m (upd H1 L (.lst []))) ∧ ∀ i m H, W i m H →
      (J.stop i H ∧ Qd H) ∨ (J.go i H ∧ ∃ Nx : Hp → Prop, (∀ H', Nx H' → ∃ m', m' < m ∧ W (i + 1) m' H') ∧ ∀ x H', J.yld i H x H' → g x (wipe σ vs) H' fun σ2 H2 => wipe σ2 vs = wipe σ vs ∧ tt σ2 H2 fun b H3 =>
        if b = true then te σ2 H3 fun y H4 => ∃ acc, H4 L = some (.lst acc) ∧ acc.length < sizeLine ∧ Nx (upd H4 L (.lst (acc ++ [y]))) else Nx H3) := by
  have flat : ∀ j, nlA ((List.range j).filterMap e) = true := fun j => by
    have gen : ∀ ks : List Nat, nlA (ks.filterMap e) = true := by
      intro ks
      induction ks with
      | nil => rfl
      | cons k ks ih =>
        rw [List.filterMap_cons]
        cases he : e k with
        | none => exact ih
        | some d =>
          show (d.nl && nlA (ks.filterMap e)) = true
          rw [nl k d he, ih]
          rfl
    exact gen _
  refine lc_it w (fun j H' => Same H1 H' ∧ ∃ xs : List V, H' L = some (.lst xs) ∧ xs.length ≤ j ∧ DtA K H' xs ((List.range j).filterMap e)) ⟨same_new nL, [], upd_same, Nat.le_refl _, .nil⟩ (fun j H' _ z => hG _ z.1) ?_ ?_
  · rintro k x H' H'' hk ⟨s', xs, ex, lx, ax⟩ y
    obtain ⟨s2, st⟩ := step k x H' H'' hk s' y
    refine st _ fun σ2 hw h1 h2 => ⟨hw, ?_⟩
    have rg : (List.range (k + 1)).filterMap e = (List.range k).filterMap e ++ (e k).toList := by
      rw [List.range_succ, List.filterMap_append]
      cases he : e k <;> simp [he]
    cases he : e k with
    | none =>
      refine h2 he H'' Gr.rfl' _ fun H3 s3 => ?_
      refine iteF ⟨s'.trans (s2.trans s3), xs, (s2.trans s3) _ _ ex, by omega, ?_⟩
      rw [rg, he]
      simpa using ax.gr (s2.trans s3)
    | some d =>
      obtain ⟨t1, m1⟩ := h1 d he
      refine t1 H'' Gr.rfl' _ fun H3 s3 => ?_
      refine iteT ?_
      refine m1 H3 s3 _ fun v H4 s4 av => ?_
      have sA := (s2.trans s3).trans s4
      have kt : KT H4 (upd H4 L (.lst (xs ++ [v]))) := KT.updL (sA _ _ ex)
      refine ⟨xs, sA _ _ ex, sz2 (by omega), same_mut (s'.trans sA) nL, xs ++ [v], upd_same, by rw [List.length_append]; simpa using lx, ?_⟩
      rw [rg, he]
      exact (DtA.kt kt (ax.gr sA) (flat k)).app (.cons (Dt.kt kt av (nl k d he)) .nil)
  · rintro H' ⟨s', xs, ex, lx, ax⟩
    exact hd H' xs s' ex ax
/-- [law_of(m, 'ab') for .. in ..], m at place 1 -/
theorem lc_letters1 {K : PySem.W.Frag} {J : It} {n : Nat} {G : Hp → Prop} {Y : Nat → Hp → V → Hp → Prop} (w : Walk J n G Y) (hY : ∀ i H x H', Y i H x H' → H' = H) {m c g L : Addr} {r i0 : Nat} {σ : Sg} {H : Hp} {Qd : Hp → Prop} (hG : ∀ H', KT H H' → G H') (hn : n ≤ 9)
    (hm : ∀ x, ((wipe σ [i0]).set i0 (some x))[1]? = some (some (.ref m))) (hw : ∀ x, wipe ((wipe σ [i0]).set i0 (some x)) [i0] = wipe σ [i0]) (M : MAt m c g H (r + n)) (nL : H L = none)
    (hd : ∀ H' (l : List Bool), l.length = n → H' L = some (.lst (l.map fun x => V.str (sideS [x]))) → MAt m c g H' r → Kp m g H H' → KT H H' → Qd H') :
    ∃ W : Nat → Nat → Hp → Prop, (∃ m, W 0 m (upd H L (.lst []))) ∧ ∀ i m H, W i m H →
      (J.stop i H ∧ Qd H) ∨ (J.go i H ∧ ∃ Nx : Hp → Prop, (∀ H', Nx H' → ∃ m', m' < m ∧ W (i + 1) m' H') ∧ ∀ x H', J.yld i H x H' → gName i0 x (wipe σ [i0]) H' fun σ2 H2 => wipe σ2 [i0] = wipe σ [i0] ∧ tYes σ2 H2 fun b H3 =>
        if b = true then tCall (spOf K) [] E0 (tCons (tVar 1) (tCons (tC (.str "ab")) tNil)) σ2 H3 fun y H4 => ∃ acc, H4 L = some (.lst acc) ∧ acc.length < sizeLine ∧ Nx (upd H4 L (.lst (acc ++ [y]))) else Nx H3) := by
  obtain ⟨Lm, Lc, Lg⟩ := new_m3 M nL
  refine lc_it w (fun j H' => ∃ l : List Bool, l.length = j ∧ H' L = some (.lst (l.map fun x => V.str (sideS [x]))) ∧ MAt m c g H' (r + (n - j)) ∧ Kp m g H H' ∧ KT H H') ⟨[], rfl, upd_same, M.same (same_new nL), Kp.of (same_new nL), KT.of (same_new nL)⟩ (fun j H' _ z => by obtain ⟨_, _, _, _, _, z⟩ := z; exact hG _ z) ?_ ?_
  · rintro j x H' H'' hj ⟨l, ll, hL, M', kp, kt⟩ y
    have := hY _ _ _ _ y
    subst this
    refine r_name ⟨hw x, r_yes ?_⟩
    refine r_call (r_cons (r_v (hm x) (r_cons (r_c (r_nil ?_)))))
    refine ⟨m, c, g, r + (n - (j + 1)), _, rfl, M'.less (by omega), Or.inr ⟨[true, false], by rw [show sideS [true, false] = Str.ofString "ab" by decide +kernel], by decide, by decide, fun b H3 _ M3 k3 => ?_⟩⟩
    have hL3 := k3 _ _ Lm Lg hL
    have kt3 : KT H'' H3 := KT.kp M' k3
    refine ⟨_, hL3, by rw [List.length_map, ll]; exact sz2 (by omega), l ++ [b], by rw [List.length_append, ll]; rfl, by rw [upd_same, List.map_append]; rfl, M3.upd' Lm Lc Lg, fun a o h1 h2 e => ?_, (kt.tr kt3).tr (KT.updL hL3)⟩
    rw [upd_ne (fun z => by rw [z, nL] at e; cases e)]
    exact k3 _ _ h1 h2 (kp _ _ h1 h2 e)
  · rintro H' ⟨l, ll, hL, M', kp, kt⟩
    exact hd H' l ll hL (M'.less (by omega)) kp kt
end TSx

namespace TSx
open PySem L2
local macro_rules | `(tactic| walk_at "rd") => `(tactic| repeat (first
  | ((with_reducible show tVar _ _ _ _); refine r_v rfl ?_)
  | with_reducible refine r_c ?_
  | with_reducible refine r_op ?_
  | with_reducible refine r_I0 ?_
  | with_reducible refine r_cb ?_
  | with_reducible refine r_nil ?_
  | with_reducible refine r_cons ?_
  | with_reducible refine r_seq ?_
  | with_reducible refine r_next ?_
  | with_reducible refine r_asg ?_
  | with_reducible refine r_name ?_
  | with_reducible refine r_ret ?_
  | with_reducible refine r_drop ?_
  | with_reducible refine r_if ?_
  | with_reducible refine r_test ?_
  | with_reducible refine r_bl ?_
  | with_reducible refine r_call ?_))
local macro_rules | `(tactic| walk_at "st") => `(tactic| repeat (first
  | with_reducible refine r_seq ?_
  | with_reducible refine r_next ?_
  | with_reducible refine r_asg ?_
  | with_reducible refine r_name ?_
  | with_reducible refine r_ret ?_
  | with_reducible refine r_drop ?_
  | with_reducible refine r_if ?_))
local macro_rules | `(tactic| walk_at "mk") => `(tactic| repeat (first
  | with_reducible exact mk_non
  | with_reducible exact mk_int
  | with_reducible exact mk_str
  | with_reducible exact mk_bl
  | with_reducible exact mk_dic
  | with_reducible exact mka_nil
  | with_reducible refine mka_cons ?_ ?_
  | ((with_reducible refine mk_tup ?_ ?hz); (case hz => decide))
  | ((with_reducible refine mk_lst ?_ ?hz); (case hz => decide))
  | with_reducible refine mk_neg ?_))
abbrev sLA : Stmt := top 39
theorem scLA : FnScope ["letters", "others", "letter", "other"] ["letters", "others"] (defScope sLA) := ⟨rfl, rfl, rfl, by decide +kernel, rfl, by decide +kernel, by decide +kernel⟩
abbrev sSA : Stmt := top 40
theorem scSA : FnScope ["stand", "other", "letters", "others"] ["stand", "other"] (defScope sSA) := ⟨rfl, rfl, rfl, by decide +kernel, rfl, by decide +kernel, by decide +kernel⟩
abbrev sBE : Stmt := top 41
theorem scBE : FnScope ["house", "body"] ["house"] (defScope sBE) := ⟨rfl, rfl, rfl, by decide +kernel, rfl, by decide +kernel, by decide +kernel⟩
abbrev sIA : Stmt := top 42
theorem scIA : FnScope ["house", "stand", "other"] ["house", "stand", "other"] (defScope sIA) := ⟨rfl, rfl, rfl, by decide +kernel, rfl, by decide +kernel, by decide +kernel⟩
abbrev sAA : Stmt := top 43
theorem scAA : FnScope ["house", "rows", "others", "choices", "other"] ["house", "rows", "others"] (defScope sAA) := ⟨rfl, rfl, rfl, by decide +kernel, rfl, by decide +kernel, by decide +kernel⟩
abbrev sIO : Stmt := top 44
theorem scIO : FnScope ["stand", "other", "side", "far", "letters", "others", "pair"] ["stand", "other", "side"] (defScope sIO) := ⟨rfl, rfl, rfl, by decide +kernel, rfl, by decide +kernel, by decide +kernel⟩
abbrev sLO : Stmt := top 45
theorem scLO : FnScope ["house", "stand", "other"] ["house", "stand", "other"] (defScope sLO) := ⟨rfl, rfl, rfl, by decide +kernel, rfl, by decide +kernel, by decide +kernel⟩
abbrev sUP : Stmt := top 46
theorem scUP : FnScope ["house", "stand", "other"] ["house", "stand", "other"] (defScope sUP) := ⟨rfl, rfl, rfl, by decide +kernel, rfl, by decide +kernel, by decide +kernel⟩
abbrev sEN : Stmt := top 47
theorem scEN : FnScope ["house"] ["house"] (defScope sEN) := ⟨rfl, rfl, rfl, by decide +kernel, rfl, by decide +kernel, by decide +kernel⟩
abbrev sMS : Stmt := top 48
theorem scMS : FnScope ["seat", "term", "phase", "way"] ["seat"] (defScope sMS) := ⟨rfl, rfl, rfl, by decide +kernel, rfl, by decide +kernel, by decide +kernel⟩
abbrev sMI : Stmt := top 49
theorem scMI : FnScope ["house", "bodies", "wards", "body", "seat"] ["house"] (defScope sMI) := ⟨rfl, rfl, rfl, by decide +kernel, rfl, by decide +kernel, by decide +kernel⟩
abbrev sMT : Stmt := top 50
theorem scMT : FnScope ["house", "stand", "letters", "side"] ["house", "stand"] (defScope sMT) := ⟨rfl, rfl, rfl, by decide +kernel, rfl, by decide +kernel, by decide +kernel⟩
structure CM (K : PySem.W.Frag) (w : World) (mg : Str → Option Value) (p : Addr) : Prop where
  MIRRORED : mg "MIRRORED" = some (.ref p)
  mir : Mir K w p
def geL (l m : List Bool) : Bool := ((l.zip m).map fun p => p.1 || !p.2).all id
def geS (s t : List (List Bool)) : Bool := ((s.zip t).map fun q => geL q.1 q.2).all id
def endS (h : House) (b : Bool) : List (List Bool) := h.bodies.map fun x => List.replicate x.length b
def mixL (l m : List Bool) (b : Bool) : List Bool := (l.zip m).map fun p => if p.1 == b || p.2 == b then b else !b
def mixS (s t : List (List Bool)) (b : Bool) : List (List Bool) := (s.zip t).map fun q => mixL q.1 q.2 b
def negS (s : List (List Bool)) : List (List Bool) := s.map fun l => l.map fun b => !b
def mirW : Way → Way
  | .kept => .kept
  | .ward i => .ward i
  | .body b t => .body b (mirT t)
  | .rest b t => .rest b (mirT t)
def mirSeat (s : Seat) : Seat := ⟨s.term, s.phase, mirW s.way⟩
def mirH (h : House) : House := ⟨h.bodies.map fun b => b.map mirSeat, h.wards⟩
def fAboveL (ds : List D) (r : D) : Prop := ∃ l m : List Bool, ds = [.str (sideS l), .str (sideS m)] ∧ l.length = m.length ∧ l.length ≤ 1000 ∧ r = .bl (geL l m)
def fAboveS (ds : List D) (r : D) : Prop := ∃ s t : List (List Bool), ds = [standD s, standD t] ∧ s.map List.length = t.map List.length ∧ s.length ≤ 1000 ∧ (∀ l ∈ s, l.length ≤ 1000) ∧ r = .bl (geS s t)
def fEnds (ds : List D) (r : D) : Prop := ∃ h : House, ds = [h.d] ∧ h.ok ∧ r = .tup [standD (endS h false), standD (endS h true)]
def fIsAbove (ds : List D) (r : D) : Prop := ∃ (h : House) (s t : List (List Bool)), ds = [h.d, standD s, standD t] ∧ h.ok ∧ Fits h s ∧ Fits h t ∧ r = .bl (geS s t)
def fAreAbove (ds : List D) (r : D) : Prop := ∃ (h : House) (tu : Bool) (cs es : List (List Bool)), ds = [h.d, rowsD false cs, rowsD tu es] ∧ h.ok ∧ rowsOk h cs ∧ rowsOk h es ∧ cs.length = es.length ∧ r = .bl (geS cs es)
def fInOne (ds : List D) (r : D) : Prop := ∃ (s t : List (List Bool)) (b : Bool), ds = [standD s, standD t, .str (sideS [b])] ∧ s.map List.length = t.map List.length ∧ s.length ≤ 1000 ∧ (∀ l ∈ s, l.length ≤ 1000) ∧ r = standD (mixS s t b)
def fMix (b : Bool) (ds : List D) (r : D) : Prop := ∃ (h : House) (s t : List (List Bool)), ds = [h.d, standD s, standD t] ∧ h.ok ∧ Fits h s ∧ Fits h t ∧ r = standD (mixS s t b)
def fMirSeat (ds : List D) (r : D) : Prop := ∃ (s : Seat) (n m : Nat), ds = [s.d] ∧ s.ok n m ∧ r = (mirSeat s).d
def fMirrored (ds : List D) (r : D) : Prop := ∃ h : House, ds = [h.d] ∧ h.ok ∧ r = (mirH h).d
def fMirStand (ds : List D) (r : D) : Prop := ∃ (h : House) (s : List (List Bool)), ds = [h.d, standD s] ∧ h.ok ∧ Fits h s ∧ r = standD (negS s)
theorem len_at {s t : List (List Bool)} (f : s.map List.length = t.map List.length) {i : Nat} {l m : List Bool} (h1 : s[i]? = some l) (h2 : t[i]? = some m) : l.length = m.length := by
  have e : (s.map List.length)[i]? = (t.map List.length)[i]? := by rw [f]
  rw [List.getElem?_map, List.getElem?_map, h1, h2] at e
  exact Option.some.inj e
theorem fits_two {h : House} {s t : List (List Bool)} (f : Fits h s) (g : Fits h t) : s.map List.length = t.map List.length := f.trans g.symm
/-- [e for x in tuple], the things tuples or without parts -/
theorem mk_lcN {K : PySem.W.Frag} {σ : Sg} {H : Hp} {te ti : TE} {α : Type} {i : Nat} {l : List α} {g f : α → D} (h : ∀ H1, Same H H1 → Ev K ti σ H1 (.tup (l.map g))) (hf : ∀ a, (f a).nl = true) (hl : l.length ≤ 1000) (step : ∀ a ∈ l, ∀ x H1, Same H H1 → Dt K H1 x (g a) → Mk K te ((σ.set i none).set i (some x)) H1 (f a)) :
    Mk K (tLc (iTup K ti) (gName i) tYes te [i]) σ H (.lst (l.map f)) := fun H1 s Q q => by
  obtain ⟨v, a, k⟩ := h H1 s
  refine k _ ?_
  cases a with
  | @tup p xs _ e aa =>
    have lx := aa.len
    rw [List.length_map] at lx
    refine ⟨p, rfl, ⟨xs, e⟩, fun L nL => lc_flatN (K := K) (walk_tup (K := K) (a := p) (xs := xs)) (fun k => (l[k]?).map f) (fun k d hk => ?_) nL (fun H' s' => gr_T s' e) (by omega) ?_ ?_⟩
    · cases hd : l[k]? with
      | none => rw [hd] at hk; cases hk
      | some y => rw [hd] at hk; cases hk; exact hf y
    · rintro k x H' H'' hk s' ⟨rfl, hx⟩
      obtain ⟨y, hy, ay⟩ := aa.at hx
      obtain ⟨b, hb, rfl⟩ := at_map hy
      refine ⟨Gr.rfl', fun R r => r_name (r _ ?_ (fun d hd => ⟨fun H2 s2 Q2 q2 => q2 H2 Gr.rfl', ?_⟩) fun hd => ?_)⟩
      · show ((σ.set i none).set i (some x)).set i none = σ.set i none
        rw [List.set_set, List.set_set]
      · rw [hb] at hd
        cases hd
        exact step b (List.mem_of_getElem? hb) x _ (s.trans s') (ay.gr s')
      · rw [hb] at hd; cases hd
    · intro H' ys s' e' a'
      refine q _ _ s' (.lst e' ?_)
      rw [lx, fm_get f l] at a'
      exact a'
theorem stand_e {α : Type} (l : List α) (f : α → List Bool) : D.tup (l.map fun a => .str (sideS (f a))) = standD (l.map f) := by
  unfold standD
  rw [List.map_map]
  rfl
theorem sides_e {α : Type} (l : List α) (f : α → Bool) : D.lst (l.map fun a => .str (sideS [f a])) = sidesL (l.map f) := by
  unfold sidesL
  rw [List.map_map]
  rfl
theorem in_pair (a c b : Bool) : (([sideS [a], sideS [c]] : List Str).any fun y => y == sideS [b]) = (a == b || c == b) := by cases a <;> cases b <;> cases c <;> decide +kernel
theorem pick_side (a b : Bool) : (if a = true then D.str (sideS [b]) else D.str (sideS [!b])) = D.str (sideS [if a then b else !b]) := by cases a <;> rfl
section
variable {P : Program} {w : World} {K : PySem.W.Frag} {mg : Str → Option Value} {base : Heap} {pT : Addr}
theorem ok_LA {f : Addr} {fd : FuncData} (F : L2.Fun K "letters_above" "letters_above" sLA f fd) (Z : Blt2 mg) : FnOk P w K mg base CX0 1 f fd ["letters", "others"] (spP K fAboveL) := by
  refine F.ok scLA (fun vs H Q E h => ?_) (fun cdv A outer s H vs Q E hr h => ?_)
  · obtain ⟨_, _, ha, ⟨l, m, rfl, _⟩, _⟩ := h
    exact ha.len
  · obtain ⟨_, _, ha, ⟨l, m, rfl, hlm, hl, rfl⟩, k⟩ := h
    obtain ⟨v1, v2, rfl, x1, x2⟩ := ha.two
    refine ⟨_, (pss_one (ps_ret (pe_callB (cr_all rfl) (by rfl) Z.all (by decide +kernel) (pa_cons (pe_lc (own := [("letter", 2), ("other", 3)]) (g := gTup K 2 (gCons (gName 2) (gCons (gName 3) gNil))) (tt := tYes) rfl scLA.nd (pi_zipSS (by rfl) Z.zip (pa_cons (pv 0) (pa_cons (pv 1) pa_nil))) (blkOk_by (N := ["letters", "others", "letter", "other"]) (sc := defScope sLA) (by decide +kernel)) (fun _ _ _ _ _ => pg_tup rfl (pgs_cons (pg_name (i := 2) scLA.nd rfl (Or.inl rfl)) (pgs_cons (pg_name (i := 3) scLA.nd rfl (Or.inl rfl)) pgs_nil))) (fun _ _ _ _ _ => pts_nil) (fun _ _ _ _ _ => (pe_or (pe_cmpR op_eq (pv 2) pe_str (nomark _)) (pe_one (pe_cmpR op_eq (pv 3) pe_str (nomark _)))))) pa_nil)))), ?_⟩
    walk_at "st"
    have lc := mk_lcSS (K := K) (σ := L2.start ["letters", "others", "letter", "other"] [v1, v2]) (H := H) (i := 2) (j := 3) (ta := tVar 0) (tc := tVar 1) (te := tOrV (tOp rEq (tVar 2) (tC (.str "a"))) (tOp rEq (tVar 3) (tC (.str "b")))) (l := l) (m := m) (f := fun a b => .bl (a || !b))
      (fun _ _ => rfl) (fun H1 s1 => ev_var rfl (x1.gr s1)) (fun H1 s1 => ev_var rfl (x2.gr s1)) hlm (fun _ _ => rfl) hl (fun n a b _ _ x y H1 s1 ax ay => by
        have m := mk_orV (K := K) (mk_eqS (mk_var (n := 2) (σ := ((wipe (L2.start ["letters", "others", "letter", "other"] [v1, v2]) [2, 3]).set 2 (some x)).set 3 (some y)) rfl ax) (mk_str (x := "a"))) (fun _ => mk_eqS (mk_var (n := 3) rfl ay) (mk_str (x := "b")))
        rw [show (decide (sideS [a] = "a") || decide (sideS [b] = "b")) = (a || !b) by cases a <;> cases b <;> decide +kernel] at m
        exact m)
    have al := mk_all (bs := (l.zip m).map fun p => p.1 || !p.2) (by rw [List.map_map]; exact lc)
    exact al H Gr.rfl' _ fun v H1 s1 a => k v H1 s1 a
theorem ok_SA {f fL : Addr} {fd fdL : FuncData} (F : L2.Fun K "stand_above" "stand_above" sSA f fd) (Z : Blt2 mg) (dletters_above : Dok P w K mg base 1 "letters_above" ["letters", "others"] (spP K fAboveL) fL fdL) : FnOk P w K mg base CX0 2 f fd ["stand", "other"] (spP K fAboveS) := by
  refine F.ok scSA (fun vs H Q E h => ?_) (fun cdv A outer s H vs Q E hr h => ?_)
  · obtain ⟨_, _, ha, ⟨l, m, rfl, _⟩, _⟩ := h
    exact ha.len
  · obtain ⟨_, _, ha, ⟨l, m, rfl, hlm, hl, h1, rfl⟩, k⟩ := h
    obtain ⟨v1, v2, rfl, x1, x2⟩ := ha.two
    have e2 := congrArg List.length hlm
    rw [List.length_map, List.length_map] at e2
    refine ⟨_, (pss_one (ps_ret (pe_callB (cr_all rfl) (by rfl) Z.all (by decide +kernel) (pa_cons (pe_lc (own := [("letters", 2), ("others", 3)]) (g := gTup K 2 (gCons (gName 2) (gCons (gName 3) gNil))) (tt := tYes) rfl scSA.nd (RZ.pi_zipA (by rfl) Z.zip (pa_cons (pv 0) (pa_cons (pv 1) pa_nil))) (blkOk_by (N := ["stand", "other", "letters", "others"]) (sc := defScope sSA) (by decide +kernel)) (fun _ _ _ _ _ => pg_tup rfl (pgs_cons (pg_name (i := 2) scSA.nd rfl (Or.inl rfl)) (pgs_cons (pg_name (i := 3) scSA.nd rfl (Or.inl rfl)) pgs_nil))) (fun _ _ _ _ _ => pts_nil) (fun _ _ _ _ _ => (pe_call dletters_above.G (hr.mono (by decide)) rfl dletters_above.g dletters_above.k dletters_above.b .nil pass0 (pa_cons (pv 2) (pa_cons (pv 3) pa_nil))))) pa_nil)))), ?_⟩
    walk_at "st"
    have lc := mk_lcZ (K := K) (σ := L2.start ["stand", "other", "letters", "others"] [v1, v2]) (H := H) (i := 2) (j := 3) (ta := tVar 0) (tc := tVar 1) (te := tCall (spP K fAboveL) [] E0 (tCons (tVar 2) (tCons (tVar 3) tNil))) (l := l) (m := m) (g1 := fun l => .str (sideS l)) (g2 := fun l => .str (sideS l)) (f := fun a b => .bl (geL a b))
      (fun _ _ => rfl) (fun H1 s1 => ev_var rfl (x1.gr s1)) (fun H1 s1 => ev_var rfl (x2.gr s1)) e2 (fun _ _ => rfl) hl (fun n a b ha hb x y H1 s1 ax ay => mk_call (mka_cons (mk_var (n := 2) rfl ax) (mka_cons (mk_var (n := 3) rfl ay) mka_nil)) ⟨a, b, rfl, len_at hlm ha hb, h1 a (List.mem_of_getElem? ha), rfl⟩)
    have al := mk_all (bs := (l.zip m).map fun q => geL q.1 q.2) (by rw [List.map_map]; exact lc)
    exact al H Gr.rfl' _ fun v H1 s1 a => k v H1 s1 a
theorem ok_BE {f : Addr} {fd : FuncData} (F : L2.Fun K "both_ends" "both_ends" sBE f fd) (B : Blt mg) (Z : Blt2 mg) : FnOk P w K mg base CX0 1 f fd ["house"] (spP K fEnds) := by
  refine F.ok scBE (fun vs H Q E h => ?_) (fun cdv A outer s H vs Q E hr h => ?_)
  · obtain ⟨_, _, ha, ⟨x, rfl, _⟩, _⟩ := h
    exact ha.len
  · obtain ⟨_, _, ha, ⟨x, rfl, ok, rfl⟩, k⟩ := h
    obtain ⟨v1, rfl, x1⟩ := ha.one
    have ok3 := ok.n3
    refine ⟨_, (pss_one (ps_ret (pe_tup (pa_cons (pe_callTy call_tuple_of (by rfl) Z.tuple (by decide +kernel) (pa_cons (pe_lc (own := [("body", 1)]) (g := gName 1) (tt := tYes) rfl scBE.nd (pi_tup (pe_ix ix_tup (pv 0) pe_int (fun _ _ => rfl))) (blkOk_by (N := ["house", "body"]) (sc := defScope sBE) (by decide +kernel)) (fun _ _ _ _ _ => pg_name (i := 1) scBE.nd rfl (Or.inl rfl)) (fun _ _ _ _ _ => pts_nil) (fun _ _ _ _ _ => (pe_op op_mulS pe_str (pe_callB (call_lenK (K := K) rfl) (by rfl) B.len PySem.boot_len (pa_cons (pv 1) pa_nil))))) pa_nil)) (pa_cons (pe_callTy call_tuple_of (by rfl) Z.tuple (by decide +kernel) (pa_cons (pe_lc (own := [("body", 1)]) (g := gName 1) (tt := tYes) rfl scBE.nd (pi_tup (pe_ix ix_tup (pv 0) pe_int (fun _ _ => rfl))) (blkOk_by (N := ["house", "body"]) (sc := defScope sBE) (by decide +kernel)) (fun _ _ _ _ _ => pg_name (i := 1) scBE.nd rfl (Or.inl rfl)) (fun _ _ _ _ _ => pts_nil) (fun _ _ _ _ _ => (pe_op op_mulS pe_str (pe_callB (call_lenK (K := K) rfl) (by rfl) B.len PySem.boot_len (pa_cons (pv 1) pa_nil))))) pa_nil)) pa_nil))))), ?_⟩
    walk_at "st"
    have one : ∀ (b : Bool) (z : Str), z = sideS [b] → Mk K _ (L2.start ["house", "body"] [v1]) H (standD (endS x b)) := fun b z hz => by
      have lc := mk_lcM (K := K) (σ := L2.start ["house", "body"] [v1]) (H := H) (i := 1) (ti := tOp (rIxT K) (tVar 0) (tC (.int 0))) (te := tOp rMulS (tC (.str z)) (tCB (fun xs H Q => ∃ p ys, xs = [.ref p] ∧ (SqL K H p ys ∨ SqT K H p ys) ∧ Q (.int ys.length) H) (tCons (tVar 1) tNil))) (l := x.bodies) (g := bodyD) (f := fun y => .str (sideS (List.replicate y.length b)))
        (fun H1 s1 => ev_ixT (i := 0) (ev_var rfl (x1.gr s1)) ev_int rfl) (fun _ => rfl) (by omega) (fun y hy u H1 s1 ay => by
          have b9 := ok.b y hy
          subst hz
          have ln := mk_lenT (mk_var (K := K) (n := 1) (σ := ((L2.start ["house", "body"] [v1]).set 1 none).set 1 (some u)) (H := H1) rfl ay)
          rw [List.length_map] at ln
          exact mk_mulS mk_str ln b9.1 (by omega))
      have q := mk_tupL lc
      rw [stand_e] at q
      exact q
    exact mk_tup (mka_cons (one false _ (by decide +kernel)) (mka_cons (one true _ (by decide +kernel)) mka_nil)) (show 2 ≤ 100000 by decide) H Gr.rfl' _ fun v H1 s1 a => k v H1 s1 a
theorem ok_IA {f fN fS : Addr} {fd fdN fdS : FuncData} (F : L2.Fun K "is_above" "is_above" sIA f fd) (dneed_stand : Dok P w K mg base 6 "need_stand" ["house", "stand"] (spP K fStand) fN fdN) (dstand_above : Dok P w K mg base 2 "stand_above" ["stand", "other"] (spP K fAboveS) fS fdS) : FnOk P w K mg base CX0 7 f fd ["house", "stand", "other"] (spP K fIsAbove) := by
  refine F.ok scIA (fun vs H Q E h => ?_) (fun cdv A outer s H vs Q E hr h => ?_)
  · obtain ⟨_, _, ha, ⟨x, s, t, rfl, _⟩, _⟩ := h
    exact ha.len
  · obtain ⟨_, _, ha, ⟨x, s, t, rfl, ok, fs, ft, rfl⟩, k⟩ := h
    obtain ⟨v1, v2, v3, rfl, x1, x2, x3⟩ := ha.three
    have ok3 := ok.n3
    have ls := fits_len fs
    refine ⟨_, (pss_cons (ps_expr (pe_call dneed_stand.G (hr.mono (by decide)) rfl dneed_stand.g dneed_stand.k dneed_stand.b .nil pass0 (pa_cons (pv 0) (pa_cons (pv 1) pa_nil))))
  (pss_cons (ps_expr (pe_call dneed_stand.G (hr.mono (by decide)) rfl dneed_stand.g dneed_stand.k dneed_stand.b .nil pass0 (pa_cons (pv 0) (pa_cons (pv 2) pa_nil))))
  (pss_one (ps_ret (pe_call dstand_above.G (hr.mono (by decide)) rfl dstand_above.g dstand_above.k dstand_above.b .nil pass0 (pa_cons (pv 1) (pa_cons (pv 2) pa_nil))))))), ?_⟩
    walk_at "st"
    refine (mk_call (mka_cons (mk_var rfl x1) (mka_cons (mk_var rfl x2) mka_nil)) ⟨x, s, rfl, ok, fs, rfl⟩ : Mk K _ _ H (standD s)) H Gr.rfl' _ fun _ H1 s1 _ => ?_
    walk_at "st"
    refine (mk_call (mka_cons (mk_var rfl (x1.gr s1)) (mka_cons (mk_var rfl (x3.gr s1)) mka_nil)) ⟨x, t, rfl, ok, ft, rfl⟩ : Mk K _ _ H1 (standD t)) H1 Gr.rfl' _ fun _ H2 s2 _ => ?_
    walk_at "st"
    have sX := s1.trans s2
    exact mk_call (mka_cons (mk_var rfl (x2.gr sX)) (mka_cons (mk_var rfl (x3.gr sX)) mka_nil)) ⟨s, t, rfl, fits_two fs ft, by omega, fun l hl => by have := fits_mem ok fs hl; omega, rfl⟩ H2 Gr.rfl' _ fun v H3 s3 a => k v H3 (sX.trans s3) a
theorem ok_IO {f : Addr} {fd : FuncData} (F : L2.Fun K "_in_one_at_least" "_in_one_at_least" sIO f fd) (Z : Blt2 mg) (C : CM K w mg pT) : FnOk P w K mg base CX0 1 f fd ["stand", "other", "side"] (spP K fInOne) := by
  refine F.ok scIO (fun vs H Q E h => ?_) (fun cdv A outer s H vs Q E hr h => ?_)
  · obtain ⟨_, _, ha, ⟨l, m, b, rfl, _⟩, _⟩ := h
    exact ha.len
  · obtain ⟨_, _, ha, ⟨l, m, b, rfl, hlm, hl, h1, rfl⟩, k⟩ := h
    obtain ⟨v1, v2, v3, rfl, x1, x2, x3⟩ := ha.three
    have e2 := congrArg List.length hlm
    rw [List.length_map, List.length_map] at e2
    refine ⟨_, (pss_cons (ps_set (i := 3) scIO.nd rfl (Or.inr rfl) (pe_ix ix_kdict (pe_cstR rfl C.MIRRORED) (pv 2) (fun _ _ => rfl)))
  (pss_one (ps_ret (pe_callTy call_tuple_of (by rfl) Z.tuple (by decide +kernel) (pa_cons (pe_lc (own := [("letters", 4), ("others", 5)]) (g := gTup K 2 (gCons (gName 4) (gCons (gName 5) gNil))) (tt := tYes) rfl scIO.nd (RZ.pi_zipA (by rfl) Z.zip (pa_cons (pv 0) (pa_cons (pv 1) pa_nil))) (blkOk_by (N := ["stand", "other", "side", "far", "letters", "others", "pair"]) (sc := defScope sIO) (by decide +kernel)) (fun _ _ _ _ _ => pg_tup rfl (pgs_cons (pg_name (i := 4) scIO.nd rfl (Or.inl rfl)) (pgs_cons (pg_name (i := 5) scIO.nd rfl (Or.inl rfl)) pgs_nil))) (fun _ _ _ _ _ => pts_nil) (fun _ _ _ _ _ => (pe_m1 PySem.F.slot_str_join PySem.F.type_str_join (mt_joinK (K := K) rfl) pe_str (pe_lc (own := [("pair", 6)]) (g := gName 6) (tt := tYes) rfl scIO.nd (pi_zipSSn (by rfl) Z.zip (pa_cons (pv 4) (pa_cons (pv 5) pa_nil))) (blkOk_by (by rfl)) (fun _ _ _ _ _ => pg_name (i := 6) scIO.nd rfl (Or.inl rfl)) (fun _ _ _ _ _ => pts_nil) (fun _ _ _ _ _ => (pe_ifExp (pt_cmpR (op_in_seqK (K := K) rfl) (pv 2) (pv 6) rfl) (pv 2) (pv 3))))))) pa_nil))))), ?_⟩
    walk_at "st"
    refine (show Mk K _ _ H (.str (sideS [!b])) from by rw [← mirT_side]; exact mk_mir C.mir (side_tie b) (mk_var rfl x3)) H Gr.rfl' _ fun vf H1 s1 af => ?_
    walk_at "st"
    have lc := mk_lcZ (K := K) (σ := [some v1, some v2, some v3, some vf, none, none, none]) (H := H1) (i := 4) (j := 5) (ta := tVar 0) (tc := tVar 1)
      (te := tM1 (rJoinK K) (tC (.str "")) (tLc (iZipSS (tCons (tVar 4) (tCons (tVar 5) tNil))) (gName 6) tYes (tIf (tTest (tOp (rIn K false) (tVar 2) (tVar 6))) (tVar 2) (tVar 3)) [6])) (l := l) (m := m) (g1 := fun l => .str (sideS l)) (g2 := fun l => .str (sideS l)) (f := fun p q => .str (sideS (mixL p q b)))
      (fun _ _ => rfl) (fun H2 s2 => ev_var rfl (x1.gr (s1.trans s2))) (fun H2 s2 => ev_var rfl (x2.gr (s1.trans s2))) e2 (fun _ _ => rfl) hl (fun n p q hp hq x y H2 s2 ax ay => by
        have hpq := len_at hlm hp hq
        have p1 := h1 p (List.mem_of_getElem? hp)
        have sX := s1.trans s2
        have inn := mk_lcSSn (K := K) (σ := ((wipe [some v1, some v2, some v3, some vf, none, none, none] [4, 5]).set 4 (some x)).set 5 (some y)) (H := H2) (i := 6) (ta := tVar 4) (tc := tVar 5) (te := tIf (tTest (tOp (rIn K false) (tVar 2) (tVar 6))) (tVar 2) (tVar 3)) (l := p) (m := q) (f := fun a c => .str (sideS [if a == b || c == b then b else !b]))
          (fun _ => rfl) (fun H3 s3 => ev_var rfl (ax.gr s3)) (fun H3 s3 => ev_var rfl (ay.gr s3)) hpq (fun _ _ => rfl) p1 (fun n a c _ _ z H3 s3 az => by
            have t := mt_test (mk_inT (K := K) (ws := [sideS [a], sideS [c]]) (mk_var (n := 2) (σ := (wipe (((wipe [some v1, some v2, some v3, some vf, none, none, none] [4, 5]).set 4 (some x)).set 5 (some y)) [6]).set 6 (some z)) rfl (x3.gr (sX.trans s3))) (mk_var (n := 6) rfl az))
            rw [in_pair] at t
            have m := ifE t (fun _ => mk_var (n := 2) rfl (x3.gr (sX.trans s3))) (fun _ => mk_var (n := 3) rfl (af.gr (s2.trans s3)))
            rw [pick_side] at m
            exact m)
        rw [sides_e] at inn
        exact mk_joinS inn (show (mixL p q b).length ≤ 1000 by unfold mixL; rw [List.length_map, List.length_zip]; omega))
    have q := mk_tupL lc
    rw [stand_e] at q
    exact q H1 Gr.rfl' _ fun v H2 s2 a => k v H2 (s1.trans s2) a
theorem ok_LO {f fN fS : Addr} {fd fdN fdS : FuncData} (F : L2.Fun K "lower" "lower" sLO f fd) (dneed_stand : Dok P w K mg base 6 "need_stand" ["house", "stand"] (spP K fStand) fN fdN) (d_in_one_at_least : Dok P w K mg base 1 "_in_one_at_least" ["stand", "other", "side"] (spP K fInOne) fS fdS) : FnOk P w K mg base CX0 7 f fd ["house", "stand", "other"] (spP K (fMix false)) := by
  refine F.ok scLO (fun vs H Q E h => ?_) (fun cdv A outer s H vs Q E hr h => ?_)
  · obtain ⟨_, _, ha, ⟨x, s, t, rfl, _⟩, _⟩ := h
    exact ha.len
  · obtain ⟨_, _, ha, ⟨x, s, t, rfl, ok, fs, ft, rfl⟩, k⟩ := h
    obtain ⟨v1, v2, v3, rfl, x1, x2, x3⟩ := ha.three
    have ok3 := ok.n3
    have ls := fits_len fs
    refine ⟨_, (pss_cons (ps_expr (pe_call dneed_stand.G (hr.mono (by decide)) rfl dneed_stand.g dneed_stand.k dneed_stand.b .nil pass0 (pa_cons (pv 0) (pa_cons (pv 1) pa_nil))))
  (pss_cons (ps_expr (pe_call dneed_stand.G (hr.mono (by decide)) rfl dneed_stand.g dneed_stand.k dneed_stand.b .nil pass0 (pa_cons (pv 0) (pa_cons (pv 2) pa_nil))))
  (pss_one (ps_ret (pe_call d_in_one_at_least.G (hr.mono (by decide)) rfl d_in_one_at_least.g d_in_one_at_least.k d_in_one_at_least.b .nil pass0 (pa_cons (pv 1) (pa_cons (pv 2) (pa_cons pe_str pa_nil)))))))), ?_⟩
    walk_at "st"
    refine (mk_call (mka_cons (mk_var rfl x1) (mka_cons (mk_var rfl x2) mka_nil)) ⟨x, s, rfl, ok, fs, rfl⟩ : Mk K _ _ H (standD s)) H Gr.rfl' _ fun _ H1 s1 _ => ?_
    walk_at "st"
    refine (mk_call (mka_cons (mk_var rfl (x1.gr s1)) (mka_cons (mk_var rfl (x3.gr s1)) mka_nil)) ⟨x, t, rfl, ok, ft, rfl⟩ : Mk K _ _ H1 (standD t)) H1 Gr.rfl' _ fun _ H2 s2 _ => ?_
    walk_at "st"
    have sX := s1.trans s2
    have sd : Mk K (tC (.str "b")) (L2.start ["house", "stand", "other"] [v1, v2, v3]) H2 (.str (sideS [false])) := by rw [show sideS [false] = Str.ofString "b" by decide +kernel]; exact mk_str
    exact mk_call (mka_cons (mk_var rfl (x2.gr sX)) (mka_cons (mk_var rfl (x3.gr sX)) (mka_cons sd mka_nil))) ⟨s, t, false, rfl, fits_two fs ft, by omega, fun l hl => by have := fits_mem ok fs hl; omega, rfl⟩ H2 Gr.rfl' _ fun v H3 s3 a => k v H3 (sX.trans s3) a
theorem ok_UP {f fN fS : Addr} {fd fdN fdS : FuncData} (F : L2.Fun K "upper" "upper" sUP f fd) (dneed_stand : Dok P w K mg base 6 "need_stand" ["house", "stand"] (spP K fStand) fN fdN) (d_in_one_at_least : Dok P w K mg base 1 "_in_one_at_least" ["stand", "other", "side"] (spP K fInOne) fS fdS) : FnOk P w K mg base CX0 7 f fd ["house", "stand", "other"] (spP K (fMix true)) := by
  refine F.ok scUP (fun vs H Q E h => ?_) (fun cdv A outer s H vs Q E hr h => ?_)
  · obtain ⟨_, _, ha, ⟨x, s, t, rfl, _⟩, _⟩ := h
    exact ha.len
  · obtain ⟨_, _, ha, ⟨x, s, t, rfl, ok, fs, ft, rfl⟩, k⟩ := h
    obtain ⟨v1, v2, v3, rfl, x1, x2, x3⟩ := ha.three
    have ok3 := ok.n3
    have ls := fits_len fs
    refine ⟨_, (pss_cons (ps_expr (pe_call dneed_stand.G (hr.mono (by decide)) rfl dneed_stand.g dneed_stand.k dneed_stand.b .nil pass0 (pa_cons (pv 0) (pa_cons (pv 1) pa_nil))))
  (pss_cons (ps_expr (pe_call dneed_stand.G (hr.mono (by decide)) rfl dneed_stand.g dneed_stand.k dneed_stand.b .nil pass0 (pa_cons (pv 0) (pa_cons (pv 2) pa_nil))))
  (pss_one (ps_ret (pe_call d_in_one_at_least.G (hr.mono (by decide)) rfl d_in_one_at_least.g d_in_one_at_least.k d_in_one_at_least.b .nil pass0 (pa_cons (pv 1) (pa_cons (pv 2) (pa_cons pe_str pa_nil)))))))), ?_⟩
    walk_at "st"
    refine (mk_call (mka_cons (mk_var rfl x1) (mka_cons (mk_var rfl x2) mka_nil)) ⟨x, s, rfl, ok, fs, rfl⟩ : Mk K _ _ H (standD s)) H Gr.rfl' _ fun _ H1 s1 _ => ?_
    walk_at "st"
    refine (mk_call (mka_cons (mk_var rfl (x1.gr s1)) (mka_cons (mk_var rfl (x3.gr s1)) mka_nil)) ⟨x, t, rfl, ok, ft, rfl⟩ : Mk K _ _ H1 (standD t)) H1 Gr.rfl' _ fun _ H2 s2 _ => ?_
    walk_at "st"
    have sX := s1.trans s2
    have sd : Mk K (tC (.str "a")) (L2.start ["house", "stand", "other"] [v1, v2, v3]) H2 (.str (sideS [true])) := by rw [show sideS [true] = Str.ofString "a" by decide +kernel]; exact mk_str
    exact mk_call (mka_cons (mk_var rfl (x2.gr sX)) (mka_cons (mk_var rfl (x3.gr sX)) (mka_cons sd mka_nil))) ⟨s, t, true, rfl, fits_two fs ft, by omega, fun l hl => by have := fits_mem ok fs hl; omega, rfl⟩ H2 Gr.rfl' _ fun v H3 s3 a => k v H3 (sX.trans s3) a
theorem ok_EN {f fH fB : Addr} {fd fdH fdB : FuncData} (F : L2.Fun K "ends" "ends" sEN f fd) (dneed_house : Dok P w K mg base 5 "need_house" ["house"] (spP K fHouse) fH fdH) (dboth_ends : Dok P w K mg base 1 "both_ends" ["house"] (spP K fEnds) fB fdB) : FnOk P w K mg base CX0 6 f fd ["house"] (spP K fEnds) := by
  refine F.ok scEN (fun vs H Q E h => ?_) (fun cdv A outer s H vs Q E hr h => ?_)
  · obtain ⟨_, _, ha, ⟨x, rfl, _⟩, _⟩ := h
    exact ha.len
  · obtain ⟨_, _, ha, ⟨x, rfl, ok, rfl⟩, k⟩ := h
    obtain ⟨v1, rfl, x1⟩ := ha.one
    refine ⟨_, (pss_cons (ps_expr (pe_call dneed_house.G (hr.mono (by decide)) rfl dneed_house.g dneed_house.k dneed_house.b .nil pass0 (pa_cons (pv 0) pa_nil)))
  (pss_one (ps_ret (pe_call dboth_ends.G (hr.mono (by decide)) rfl dboth_ends.g dboth_ends.k dboth_ends.b .nil pass0 (pa_cons (pv 0) pa_nil))))), ?_⟩
    walk_at "st"
    refine (mk_call (mka_cons (mk_var rfl x1) mka_nil) ⟨x, rfl, ok, rfl⟩ : Mk K _ _ H x.d) H Gr.rfl' _ fun _ H1 s1 _ => ?_
    walk_at "st"
    exact mk_call (mka_cons (mk_var rfl (x1.gr s1)) mka_nil) ⟨x, rfl, ok, rfl⟩ H1 Gr.rfl' _ fun v H2 s2 a => k v H2 (s1.trans s2) a
theorem ok_MS {f : Addr} {fd : FuncData} (F : L2.Fun K "_mirrored_seat" "_mirrored_seat" sMS f fd) (B : Blt mg) (C : CM K w mg pT) : FnOk P w K mg base CX0 1 f fd ["seat"] (spP K fMirSeat) := by
  refine F.ok scMS (fun vs H Q E h => ?_) (fun cdv A outer s H vs Q E hr h => ?_)
  · obtain ⟨_, _, ha, ⟨x, n, m, rfl, _⟩, _⟩ := h
    exact ha.len
  · obtain ⟨_, _, ha, ⟨x, n, m, rfl, ok, rfl⟩, k⟩ := h
    obtain ⟨v1, rfl, x1⟩ := ha.one
    refine ⟨_, (pss_cons (ps_asg (pv 0) (pg_tup rfl (pgs_cons (pg_name (i := 1) scMS.nd rfl (Or.inl rfl)) (pgs_cons (pg_name (i := 2) scMS.nd rfl (Or.inl rfl)) (pgs_cons (pg_name (i := 3) scMS.nd rfl (Or.inl rfl)) pgs_nil)))))
  (pss_cons (ps_if (pt_cmpR op_lt (pe_callB call_len_seq (by rfl) B.len PySem.boot_len (pa_cons (pv 3) pa_nil)) pe_int (nomark _)) (pss_one (ps_ret (pv 0))) pss_nil)
  (pss_one (ps_ret (pe_tup (pa_cons (pv 1) (pa_cons (pv 2) (pa_cons (pe_tup (pa_cons (pe_ix ix_tup (pv 3) pe_int (fun _ _ => rfl)) (pa_cons (pe_ix ix_tup (pv 3) pe_int (fun _ _ => rfl)) (pa_cons (pe_ix ix_kdict (pe_cstR rfl C.MIRRORED) (pe_ix ix_tup (pv 3) pe_int (fun _ _ => rfl)) (fun _ _ => rfl)) pa_nil)))) pa_nil)))))))), ?_⟩
    walk_at "rd"
    refine r_unp3 x1 fun w1 w2 w3 e1 e2 e3 => ?_
    walk_at "st"
    have tst : ∀ {xs : List D}, Dt K H w3 (.tup xs) → MkT (tTest (tOp (rI0 fun i j => .bl (decide (i < j))) (tCB (fun xs H Q => ∃ p ys, xs = [.ref p] ∧ (SqL K H p ys ∨ SqT K H p ys) ∧ Q (.int ys.length) H) (tCons (tVar 3) tNil)) (tC (.int 3)))) [some v1, some w1, some w2, some w3] H (decide ((xs.length : Int) < 3)) := fun a =>
      mt_test (mk_I0b (g := fun i j => decide (i < j)) (mk_lenT (mk_var rfl a)) mk_int)
    have own : ∀ {H1 : Hp} {wd : Str} {b : Nat} {t : Str}, Same H H1 → t ∈ tiesL → Dt K H w3 (.tup [.str wd, .int b, .str t]) → Mk K (tTup (tCons (tVar 1) (tCons (tVar 2) (tCons (tTup (tCons (tOp (rIxT K) (tVar 3) (tC (.int 0))) (tCons (tOp (rIxT K) (tVar 3) (tC (.int 1))) (tCons (tOp (rIxD K w) (tC (.ref pT)) (tOp (rIxT K) (tVar 3) (tC (.int 2)))) tNil)))) tNil)))) [some v1, some w1, some w2, some w3] H1 (.tup [.int x.term, .int x.phase, .tup [.str wd, .int b, .str (mirT t)]]) := fun s1 ht a =>
      mk_tup (mka_cons (mk_var (n := 1) rfl (e1.gr s1)) (mka_cons (mk_var (n := 2) rfl (e2.gr s1)) (mka_cons (mk_tup (mka_cons (mk_ixT (i := 0) (mk_var (n := 3) rfl (a.gr s1)) mk_int rfl) (mka_cons (mk_ixT (i := 1) (mk_var (n := 3) rfl (a.gr s1)) (mk_int (i := 1)) rfl) (mka_cons (mk_mir C.mir ht (mk_ixT (i := 2) (mk_var (n := 3) rfl (a.gr s1)) (mk_int (i := 2)) rfl)) mka_nil))) (show 3 ≤ 100000 by decide)) mka_nil))) (show 3 ≤ 100000 by decide)
    obtain ⟨tm, ph, wy⟩ := x
    have okw := ok.w
    cases wy with
    | kept =>
      refine tst (xs := [.str "kept"]) e3 H Gr.rfl' _ fun H1 s1 => iteT ?_
      walk_at "rd"
      exact k v1 H1 s1 (x1.gr s1)
    | ward i =>
      refine tst (xs := [.str "ward", .int i]) e3 H Gr.rfl' _ fun H1 s1 => iteT ?_
      walk_at "rd"
      exact k v1 H1 s1 (x1.gr s1)
    | body b t =>
      refine tst (xs := [.str "body", .int b, .str t]) e3 H Gr.rfl' _ fun H1 s1 => iteF ?_
      walk_at "st"
      exact own s1 okw.2 e3 H1 Gr.rfl' _ fun v H2 s2 a => k v H2 (s1.trans s2) a
    | rest b t =>
      refine tst (xs := [.str "rest", .int b, .str t]) e3 H Gr.rfl' _ fun H1 s1 => iteF ?_
      walk_at "st"
      exact own s1 okw.2 e3 H1 Gr.rfl' _ fun v H2 s2 a => k v H2 (s1.trans s2) a
theorem ok_MI {f fH fM : Addr} {fd fdH fdM : FuncData} (F : L2.Fun K "mirrored" "mirrored" sMI f fd) (Z : Blt2 mg) (dneed_house : Dok P w K mg base 5 "need_house" ["house"] (spP K fHouse) fH fdH) (d_mirrored_seat : Dok P w K mg base 1 "_mirrored_seat" ["seat"] (spP K fMirSeat) fM fdM) : FnOk P w K mg base CX0 6 f fd ["house"] (spP K fMirrored) := by
  refine F.ok scMI (fun vs H Q E h => ?_) (fun cdv A outer s H vs Q E hr h => ?_)
  · obtain ⟨_, _, ha, ⟨x, rfl, _⟩, _⟩ := h
    exact ha.len
  · obtain ⟨_, _, ha, ⟨x, rfl, ok, rfl⟩, k⟩ := h
    obtain ⟨v1, rfl, x1⟩ := ha.one
    have ok3 := ok.n3
    refine ⟨_, (pss_cons (ps_expr (pe_call dneed_house.G (hr.mono (by decide)) rfl dneed_house.g dneed_house.k dneed_house.b .nil pass0 (pa_cons (pv 0) pa_nil)))
  (pss_cons (ps_asg (pv 0) (pg_tup rfl (pgs_cons (pg_name (i := 1) scMI.nd rfl (Or.inl rfl)) (pgs_cons (pg_name (i := 2) scMI.nd rfl (Or.inl rfl)) pgs_nil))))
  (pss_one (ps_ret (pe_tup (pa_cons (pe_callTy call_tuple_of (by rfl) Z.tuple (by decide +kernel) (pa_cons (pe_lc (own := [("body", 3)]) (g := gName 3) (tt := tYes) rfl scMI.nd (pi_tup (pv 1)) (blkOk_by (N := ["house", "bodies", "wards", "body", "seat"]) (sc := defScope sMI) (by decide +kernel)) (fun _ _ _ _ _ => pg_name (i := 3) scMI.nd rfl (Or.inl rfl)) (fun _ _ _ _ _ => pts_nil) (fun _ _ _ _ _ => (pe_callTy (T := "tuple") (call_tuple_ofK (K := K) rfl) (by rfl) Z.tuple (by decide +kernel) (pa_cons (pe_lc (own := [("seat", 4)]) (g := gName 4) (tt := tYes) rfl scMI.nd (pi_tupK (K := K) rfl (pv 3)) (blkOk_by (by rfl)) (fun _ _ _ _ _ => pg_name (i := 4) scMI.nd rfl (Or.inl rfl)) (fun _ _ _ _ _ => pts_nil) (fun _ _ _ _ _ => (pe_call d_mirrored_seat.G (hr.mono (by decide)) rfl d_mirrored_seat.g d_mirrored_seat.k d_mirrored_seat.b .nil pass0 (pa_cons (pv 4) pa_nil)))) pa_nil)))) pa_nil)) (pa_cons (pv 2) pa_nil))))))), ?_⟩
    walk_at "st"
    refine (mk_call (mka_cons (mk_var rfl x1) mka_nil) ⟨x, rfl, ok, rfl⟩ : Mk K _ _ H x.d) H Gr.rfl' _ fun _ H1 s1 _ => ?_
    walk_at "rd"
    refine r_unp2 (x1.gr s1) fun w1 w2 e1 e2 => ?_
    walk_at "st"
    have lc := mk_lcN (K := K) (σ := [some v1, some w1, some w2, none, none]) (H := H1) (i := 3) (ti := tVar 1)
      (te := tCB (fun xs H Q => ∃ p ys, xs = [.ref p] ∧ ((SqL K H p ys ∧ ∀ l, H l = none → Q (.ref l) (upd H l (.tup ys))) ∨ (SqT K H p ys ∧ Q (.ref p) H))) (tCons (tLc (iTup K (tVar 3)) (gName 4) tYes (tCall (spP K fMirSeat) [] E0 (tCons (tVar 4) tNil)) [4]) tNil)) (l := x.bodies) (g := bodyD) (f := fun b => bodyD (b.map mirSeat))
      (fun H2 s2 => ev_var rfl (e1.gr s2)) (fun b => nl_body _) (by omega) (fun b hb y H2 s2 ay => by
        have b9 := (ok.b b hb).2
        have inn := mk_lcN (K := K) (σ := ([some v1, some w1, some w2, none, none].set 3 none).set 3 (some y)) (H := H2) (i := 4) (ti := tVar 3) (te := tCall (spP K fMirSeat) [] E0 (tCons (tVar 4) tNil)) (l := b) (g := Seat.d) (f := fun s => (mirSeat s).d)
          (fun H3 s3 => ev_var rfl (ay.gr s3)) (fun s => nl_seat _) (by omega) (fun st hst z H3 s3 az => mk_call (mka_cons (mk_var (n := 4) rfl az) mka_nil) ⟨st, _, _, rfl, ok.s b hb st hst, rfl⟩)
        have q := mk_tupL inn
        rw [show D.tup (b.map fun s => (mirSeat s).d) = bodyD (b.map mirSeat) by unfold bodyD; rw [List.map_map]; rfl] at q
        exact q)
    have q := mk_tupL lc
    rw [show D.tup (x.bodies.map fun b => bodyD (b.map mirSeat)) = .tup ((mirH x).bodies.map bodyD) by show _ = D.tup ((x.bodies.map fun b => b.map mirSeat).map bodyD); rw [List.map_map]; rfl] at q
    exact mk_tup (mka_cons q (mka_cons (mk_var rfl e2) mka_nil)) (show 2 ≤ 100000 by decide) H1 Gr.rfl' _ fun v H2 s2 a => k v H2 (s1.trans s2) a
theorem ok_MT {f fN : Addr} {fd fdN : FuncData} (F : L2.Fun K "mirrored_stand" "mirrored_stand" sMT f fd) (Z : Blt2 mg) (C : CM K w mg pT) (dneed_stand : Dok P w K mg base 6 "need_stand" ["house", "stand"] (spP K fStand) fN fdN) : FnOk P w K mg base CX0 7 f fd ["house", "stand"] (spP K fMirStand) := by
  refine F.ok scMT (fun vs H Q E h => ?_) (fun cdv A outer s H vs Q E hr h => ?_)
  · obtain ⟨_, _, ha, ⟨x, s, rfl, _⟩, _⟩ := h
    exact ha.len
  · obtain ⟨_, _, ha, ⟨x, s, rfl, ok, fs, rfl⟩, k⟩ := h
    obtain ⟨v1, v2, rfl, x1, x2⟩ := ha.two
    have ok3 := ok.n3
    have ls := fits_len fs
    refine ⟨_, (pss_cons (ps_expr (pe_call dneed_stand.G (hr.mono (by decide)) rfl dneed_stand.g dneed_stand.k dneed_stand.b .nil pass0 (pa_cons (pv 0) (pa_cons (pv 1) pa_nil))))
  (pss_one (ps_ret (pe_callTy call_tuple_of (by rfl) Z.tuple (by decide +kernel) (pa_cons (pe_lc (own := [("letters", 2)]) (g := gName 2) (tt := tYes) rfl scMT.nd (pi_tup (pv 1)) (blkOk_by (N := ["house", "stand", "letters", "side"]) (sc := defScope sMT) (by decide +kernel)) (fun _ _ _ _ _ => pg_name (i := 2) scMT.nd rfl (Or.inl rfl)) (fun _ _ _ _ _ => pts_nil) (fun _ _ _ _ _ => (pe_m1 PySem.F.slot_str_join PySem.F.type_str_join (mt_joinK (K := K) rfl) pe_str (pe_lc (own := [("side", 3)]) (g := gName 3) (tt := tYes) rfl scMT.nd (pi_str (pv 2)) (blkOk_by (by rfl)) (fun _ _ _ _ _ => pg_name (i := 3) scMT.nd rfl (Or.inl rfl)) (fun _ _ _ _ _ => pts_nil) (fun _ _ _ _ _ => (pe_ix (ix_kdictK (K := K) (w := w) rfl rfl) (pe_cstR rfl C.MIRRORED) (pv 3) (fun _ _ => rfl))))))) pa_nil))))), ?_⟩
    walk_at "st"
    refine (mk_call (mka_cons (mk_var rfl x1) (mka_cons (mk_var rfl x2) mka_nil)) ⟨x, s, rfl, ok, fs, rfl⟩ : Mk K _ _ H (standD s)) H Gr.rfl' _ fun _ H1 s1 _ => ?_
    walk_at "st"
    have lc := mk_lcM (K := K) (σ := L2.start ["house", "stand", "letters", "side"] [v1, v2]) (H := H1) (i := 2) (ti := tVar 1) (te := tM1 (rJoinK K) (tC (.str "")) (tLc (iStr (tVar 2)) (gName 3) tYes (tOp (rIxD K w) (tC (.ref pT)) (tVar 3)) [3])) (l := s) (g := fun l => .str (sideS l)) (f := fun l => .str (sideS (l.map fun b => !b)))
      (fun H2 s2 => ev_var rfl (x2.gr (s1.trans s2))) (fun _ => rfl) (by omega) (fun l hl y H2 s2 ay => by
        have l9 := fits_mem ok fs hl
        have inn := mk_lcS (K := K) (σ := ((L2.start ["house", "stand", "letters", "side"] [v1, v2]).set 2 none).set 2 (some y)) (H := H2) (i := 3) (ti := tVar 2) (te := tOp (rIxD K w) (tC (.ref pT)) (tVar 3)) (l := l) (g := fun b => .str (sideS [!b])) (fun _ => rfl) (mk_var (n := 2) rfl ay) (by omega) (fun b H3 s3 => by
          rw [← mirT_side]
          exact mk_mir C.mir (side_tie b) (mk_var (n := 3) rfl (.str (sideS [b]))))
        rw [sides_e] at inn
        exact mk_joinS inn (by rw [List.length_map]; omega))
    have q := mk_tupL lc
    rw [stand_e] at q
    exact q H1 Gr.rfl' _ fun v H2 s2 a => k v H2 (s1.trans s2) a
theorem ok_AA {f fH fN fL : Addr} {fd fdH fdN fdL : FuncData} (F : L2.Fun K "are_above" "are_above" sAA f fd) (B : Blt mg) (Z : Blt2 mg) (dneed_house : Dok P w K mg base 5 "need_house" ["house"] (spP K fHouse) fH fdH) (dneed_rows : Dok P w K mg base 2 "need_rows" ["house", "rows"] (spP K fRows) fN fdN) (dletters_above : Dok P w K mg base 1 "letters_above" ["letters", "others"] (spP K fAboveL) fL fdL) : FnOk P w K mg base CX0 6 f fd ["house", "rows", "others"] (spP K fAreAbove) := by
  refine F.ok scAA (fun vs H Q E h => ?_) (fun cdv A outer s H vs Q E hr h => ?_)
  · obtain ⟨_, _, ha, ⟨x, tu, cs, es, rfl, _⟩, _⟩ := h
    exact ha.len
  · obtain ⟨_, _, ha, ⟨x, tu, cs, es, rfl, ok, rc, re, hce, rfl⟩, k⟩ := h
    obtain ⟨v1, v2, v3, rfl, x1, x2, x3⟩ := ha.three
    have okw := ok.w
    have cl := rc.1
    have lm : ∀ l : List (List Bool), (l.map fun c => D.str (sideS c)).length = l.length := fun l => List.length_map ..
    have el : ∀ {H1 : Hp} {x' y : V} {a b : List Bool} {n : Nat}, cs[n]? = some a → es[n]? = some b → Dt K H1 x' (.str (sideS a)) → Dt K H1 y (.str (sideS b)) → Mk K (tCall (spP K fAboveL) [] E0 (tCons (tVar 3) (tCons (tVar 4) tNil))) [some v1, some v2, some v3, some x', some y] H1 (.bl (geL a b)) := fun ha hb ax ay =>
      mk_call (mka_cons (mk_var (n := 3) rfl ax) (mka_cons (mk_var (n := 4) rfl ay) mka_nil)) ⟨_, _, rfl, (rc.2 _ (List.mem_of_getElem? ha)).trans (re.2 _ (List.mem_of_getElem? hb)).symm, by rw [rc.2 _ (List.mem_of_getElem? ha)]; omega, rfl⟩
    cases tu with
    | false =>
      refine ⟨_, (pss_cons (ps_expr (pe_call dneed_house.G (hr.mono (by decide)) rfl dneed_house.g dneed_house.k dneed_house.b .nil pass0 (pa_cons (pv 0) pa_nil)))
  (pss_cons (ps_expr (pe_call dneed_rows.G (hr.mono (by decide)) rfl dneed_rows.g dneed_rows.k dneed_rows.b .nil pass0 (pa_cons (pv 0) (pa_cons (pv 1) pa_nil))))
  (pss_cons (ps_expr (pe_call dneed_rows.G (hr.mono (by decide)) rfl dneed_rows.g dneed_rows.k dneed_rows.b .nil pass0 (pa_cons (pv 0) (pa_cons (pv 2) pa_nil))))
  (pss_cons (ps_if (pt_cmpR op_ne (pe_callB call_len_seq (by rfl) B.len PySem.boot_len (pa_cons (pv 1) pa_nil)) (pe_callB call_len_seq (by rfl) B.len PySem.boot_len (pa_cons (pv 2) pa_nil)) (nomark _)) (pss_one ps_never) pss_nil)
  (pss_one (ps_ret (pe_callB (cr_all rfl) (by rfl) Z.all (by decide +kernel) (pa_cons (pe_lc (own := [("choices", 3), ("other", 4)]) (g := gTup K 2 (gCons (gName 3) (gCons (gName 4) gNil))) (tt := tYes) rfl scAA.nd (RZ.pi_zipA (by rfl) Z.zip (pa_cons (pv 1) (pa_cons (pv 2) pa_nil))) (blkOk_by (N := ["house", "rows", "others", "choices", "other"]) (sc := defScope sAA) (by decide +kernel)) (fun _ _ _ _ _ => pg_tup rfl (pgs_cons (pg_name (i := 3) scAA.nd rfl (Or.inl rfl)) (pgs_cons (pg_name (i := 4) scAA.nd rfl (Or.inl rfl)) pgs_nil))) (fun _ _ _ _ _ => pts_nil) (fun _ _ _ _ _ => (pe_call dletters_above.G (hr.mono (by decide)) rfl dletters_above.g dletters_above.k dletters_above.b .nil pass0 (pa_cons (pv 3) (pa_cons (pv 4) pa_nil))))) pa_nil)))))))), ?_⟩
      walk_at "st"
      refine (mk_call (mka_cons (mk_var rfl x1) mka_nil) ⟨x, rfl, ok, rfl⟩ : Mk K _ _ H x.d) H Gr.rfl' _ fun _ H1 s1 _ => ?_
      walk_at "st"
      refine (mk_call (mka_cons (mk_var rfl (x1.gr s1)) (mka_cons (mk_var rfl (x2.gr s1)) mka_nil)) ⟨x, false, cs, rfl, ok, rc, rfl⟩ : Mk K _ _ H1 (rowsD false cs)) H1 Gr.rfl' _ fun _ H2 s2 _ => ?_
      walk_at "st"
      refine (mk_call (mka_cons (mk_var rfl (x1.gr (s1.trans s2))) (mka_cons (mk_var rfl (x3.gr (s1.trans s2))) mka_nil)) ⟨x, false, es, rfl, ok, re, rfl⟩ : Mk K _ _ H2 (rowsD false es)) H2 Gr.rfl' _ fun _ H3 s3 _ => ?_
      have sX := (s1.trans s2).trans s3
      walk_at "st"
      have tn := mt_test (mk_neI (K := K) (σ := L2.start ["house", "rows", "others", "choices", "other"] [v1, v2, v3]) (H := H3) (mk_len (mk_var (n := 1) rfl (x2.gr sX))) (mk_len (mk_var (n := 2) rfl (x3.gr sX))))
      rw [lm, lm, hce, decide_eq_true rfl] at tn
      refine tn H3 Gr.rfl' _ fun H4 s4 => iteF ?_
      have sY := sX.trans s4
      walk_at "st"
      have lc := mk_lcZL (K := K) (σ := L2.start ["house", "rows", "others", "choices", "other"] [v1, v2, v3]) (H := H4) (i := 3) (j := 4) (ta := tVar 1) (tc := tVar 2) (te := tCall (spP K fAboveL) [] E0 (tCons (tVar 3) (tCons (tVar 4) tNil))) (l := cs) (m := es) (g1 := fun l => .str (sideS l)) (g2 := fun l => .str (sideS l)) (f := fun a b => .bl (geL a b))
        (fun _ _ => rfl) (fun H5 s5 => ev_var rfl (x2.gr (sY.trans s5))) (fun H5 s5 => ev_var rfl (x3.gr (sY.trans s5))) hce (fun _ _ => rfl) (by omega) (fun n a b ha hb x' y H5 s5 ax ay => el ha hb ax ay)
      have al := mk_all (bs := (cs.zip es).map fun q => geL q.1 q.2) (by rw [List.map_map]; exact lc)
      exact al H4 Gr.rfl' _ fun v H5 s5 a => k v H5 (sY.trans s5) a
    | true =>
      refine ⟨_, (pss_cons (ps_expr (pe_call dneed_house.G (hr.mono (by decide)) rfl dneed_house.g dneed_house.k dneed_house.b .nil pass0 (pa_cons (pv 0) pa_nil)))
  (pss_cons (ps_expr (pe_call dneed_rows.G (hr.mono (by decide)) rfl dneed_rows.g dneed_rows.k dneed_rows.b .nil pass0 (pa_cons (pv 0) (pa_cons (pv 1) pa_nil))))
  (pss_cons (ps_expr (pe_call dneed_rows.G (hr.mono (by decide)) rfl dneed_rows.g dneed_rows.k dneed_rows.b .nil pass0 (pa_cons (pv 0) (pa_cons (pv 2) pa_nil))))
  (pss_cons (ps_if (pt_cmpR op_ne (pe_callB call_len_seq (by rfl) B.len PySem.boot_len (pa_cons (pv 1) pa_nil)) (pe_callB call_len_seq (by rfl) B.len PySem.boot_len (pa_cons (pv 2) pa_nil)) (nomark _)) (pss_one ps_never) pss_nil)
  (pss_one (ps_ret (pe_callB (cr_all rfl) (by rfl) Z.all (by decide +kernel) (pa_cons (pe_lc (own := [("choices", 3), ("other", 4)]) (g := gTup K 2 (gCons (gName 3) (gCons (gName 4) gNil))) (tt := tYes) rfl scAA.nd (pi_zipLT (by rfl) Z.zip (pa_cons (pv 1) (pa_cons (pv 2) pa_nil))) (blkOk_by (N := ["house", "rows", "others", "choices", "other"]) (sc := defScope sAA) (by decide +kernel)) (fun _ _ _ _ _ => pg_tup rfl (pgs_cons (pg_name (i := 3) scAA.nd rfl (Or.inl rfl)) (pgs_cons (pg_name (i := 4) scAA.nd rfl (Or.inl rfl)) pgs_nil))) (fun _ _ _ _ _ => pts_nil) (fun _ _ _ _ _ => (pe_call dletters_above.G (hr.mono (by decide)) rfl dletters_above.g dletters_above.k dletters_above.b .nil pass0 (pa_cons (pv 3) (pa_cons (pv 4) pa_nil))))) pa_nil)))))))), ?_⟩
      walk_at "st"
      refine (mk_call (mka_cons (mk_var rfl x1) mka_nil) ⟨x, rfl, ok, rfl⟩ : Mk K _ _ H x.d) H Gr.rfl' _ fun _ H1 s1 _ => ?_
      walk_at "st"
      refine (mk_call (mka_cons (mk_var rfl (x1.gr s1)) (mka_cons (mk_var rfl (x2.gr s1)) mka_nil)) ⟨x, false, cs, rfl, ok, rc, rfl⟩ : Mk K _ _ H1 (rowsD false cs)) H1 Gr.rfl' _ fun _ H2 s2 _ => ?_
      walk_at "st"
      refine (mk_call (mka_cons (mk_var rfl (x1.gr (s1.trans s2))) (mka_cons (mk_var rfl (x3.gr (s1.trans s2))) mka_nil)) ⟨x, true, es, rfl, ok, re, rfl⟩ : Mk K _ _ H2 (rowsD true es)) H2 Gr.rfl' _ fun _ H3 s3 _ => ?_
      have sX := (s1.trans s2).trans s3
      walk_at "st"
      have tn := mt_test (mk_neI (K := K) (σ := L2.start ["house", "rows", "others", "choices", "other"] [v1, v2, v3]) (H := H3) (mk_len (mk_var (n := 1) rfl (x2.gr sX))) (mk_lenT (mk_var (n := 2) rfl (x3.gr sX))))
      rw [lm, lm, hce, decide_eq_true rfl] at tn
      refine tn H3 Gr.rfl' _ fun H4 s4 => iteF ?_
      have sY := sX.trans s4
      walk_at "st"
      have lc := mk_lcZLT (K := K) (σ := L2.start ["house", "rows", "others", "choices", "other"] [v1, v2, v3]) (H := H4) (i := 3) (j := 4) (ta := tVar 1) (tc := tVar 2) (te := tCall (spP K fAboveL) [] E0 (tCons (tVar 3) (tCons (tVar 4) tNil))) (l := cs) (m := es) (g1 := fun l => .str (sideS l)) (g2 := fun l => .str (sideS l)) (f := fun a b => .bl (geL a b))
        (fun _ _ => rfl) (fun H5 s5 => ev_var rfl (x2.gr (sY.trans s5))) (fun H5 s5 => ev_var rfl (x3.gr (sY.trans s5))) hce (fun _ _ => rfl) (by omega) (fun n a b ha hb x' y H5 s5 ax ay => el ha hb ax ay)
      have al := mk_all (bs := (cs.zip es).map fun q => geL q.1 q.2) (by rw [List.map_map]; exact lc)
      exact al H4 Gr.rfl' _ fun v H5 s5 a => k v H5 (sY.trans s5) a
end
end TSx

/-! Own layer, k40: what is above stays above; the mirrored house. -/
namespace TSx
open PySem L2
theorem geL_nil : geL [] [] = true := rfl
theorem geL_cons {a b : Bool} {l m : List Bool} : geL (a :: l) (b :: m) = ((a || !b) && geL l m) := rfl
theorem geS_cons {a b : List Bool} {l m : List (List Bool)} : geS (a :: l) (b :: m) = (geL a b && geS l m) := rfl
theorem geL_refl : ∀ l : List Bool, geL l l = true
  | [] => rfl
  | a :: l => by rw [geL_cons, geL_refl l]; cases a <;> rfl
theorem geS_refl : ∀ l : List (List Bool), geS l l = true
  | [] => rfl
  | a :: l => by rw [geS_cons, geS_refl l, geL_refl]; rfl
theorem geL_anti : ∀ {l m : List Bool}, l.length = m.length → geL l m = true → geL m l = decide (l = m)
  | [], [], _, _ => rfl
  | a :: l, b :: m, h, g => by
    rw [geL_cons, Bool.and_eq_true] at g
    have ih := geL_anti (l := l) (m := m) (by simpa using h) g.2
    rw [geL_cons, ih]
    have e : (a :: l = b :: m) ↔ (a = b ∧ l = m) := by simp
    by_cases z : l = m
    · rw [decide_eq_true z, Bool.and_true]
      cases a <;> cases b <;> simp [z] at g ⊢
    · rw [decide_eq_false z, Bool.and_false, decide_eq_false (fun q => z (e.mp q).2)]
theorem geS_anti : ∀ {l m : List (List Bool)}, l.map List.length = m.map List.length → geS l m = true → geS m l = decide (l = m)
  | [], [], _, _ => rfl
  | [], _ :: _, h, _ => by cases h
  | _ :: _, [], h, _ => by cases h
  | a :: l, b :: m, h, g => by
    rw [geS_cons, Bool.and_eq_true] at g
    rw [List.map_cons, List.map_cons, List.cons.injEq] at h
    have ih := geS_anti (l := l) (m := m) h.2 g.2
    rw [geS_cons, ih, geL_anti h.1 g.1]
    have e : (a :: l = b :: m) ↔ (a = b ∧ l = m) := by simp
    by_cases z : a = b
    · by_cases y : l = m
      · rw [decide_eq_true z, decide_eq_true y, decide_eq_true (e.mpr ⟨z, y⟩)]; rfl
      · rw [decide_eq_true z, decide_eq_false y, decide_eq_false (fun q => y (e.mp q).2)]; rfl
    · rw [decide_eq_false z, decide_eq_false (fun q => z (e.mp q).1)]; rfl
theorem geL_at {l m : List Bool} (g : geL l m = true) {i : Nat} {a b : Bool} (h1 : l[i]? = some a) (h2 : m[i]? = some b) : (a || !b) = true := by
  have := List.all_eq_true.mp g
  exact this _ (List.mem_map.mpr ⟨(a, b), List.mem_of_getElem? (i := i) ((List.getElem?_zip_eq_some (z := (a, b))).mpr ⟨h1, h2⟩), rfl⟩)
theorem geS_at {l m : List (List Bool)} (g : geS l m = true) {i : Nat} {a b : List Bool} (h1 : l[i]? = some a) (h2 : m[i]? = some b) : geL a b = true := by
  have := List.all_eq_true.mp g
  exact this _ (List.mem_map.mpr ⟨(a, b), List.mem_of_getElem? (i := i) ((List.getElem?_zip_eq_some (z := (a, b))).mpr ⟨h1, h2⟩), rfl⟩)
theorem geL_of {l m : List Bool} (h : ∀ (i : Nat) (a b : Bool), l[i]? = some a → m[i]? = some b → (a || !b) = true) : geL l m = true := by
  unfold geL
  refine List.all_eq_true.mpr fun x hx => ?_
  obtain ⟨⟨a, b⟩, hab, rfl⟩ := List.mem_map.mp hx
  obtain ⟨i, hi⟩ := List.mem_iff_getElem?.mp hab
  obtain ⟨h1, h2⟩ := List.getElem?_zip_eq_some.mp hi
  exact h i a b h1 h2
theorem geS_of {l m : List (List Bool)} (h : ∀ (i : Nat) (a b : List Bool), l[i]? = some a → m[i]? = some b → geL a b = true) : geS l m = true := by
  unfold geS
  refine List.all_eq_true.mpr fun x hx => ?_
  obtain ⟨⟨a, b⟩, hab, rfl⟩ := List.mem_map.mp hx
  obtain ⟨i, hi⟩ := List.mem_iff_getElem?.mp hab
  obtain ⟨h1, h2⟩ := List.getElem?_zip_eq_some.mp hi
  exact h i a b h1 h2
theorem leadS_cons (b : Bool) (l : List Bool) : leadS (b :: l) = (if b = true then 1 else -1) + leadS l := by
  unfold leadS
  cases b <;> simp <;> omega
theorem leadS_mono : ∀ {l m : List Bool}, l.length = m.length → geL l m = true → leadS m ≤ leadS l
  | [], [], _, _ => Int.le_refl _
  | a :: l, b :: m, h, g => by
    rw [geL_cons, Bool.and_eq_true] at g
    have ih := leadS_mono (l := l) (m := m) (by simpa using h) g.2
    rw [leadS_cons, leadS_cons]
    cases a <;> cases b <;> simp at g ⊢ <;> omega
theorem restL_cons {s : Seat} {b : List Seat} {a : Bool} {l : List Bool} {n : Int} : restL (s :: b) (a :: l) n = if comesUp s n then restL b l n else a :: restL b l n := by
  unfold restL
  rw [List.zip_cons_cons, List.filter_cons]
  cases comesUp s n <;> rfl
theorem restL_mono {n : Int} : ∀ {b : List Seat} {l m : List Bool}, l.length = m.length → geL l m = true → geL (restL b l n) (restL b m n) = true ∧ (restL b l n).length = (restL b m n).length
  | [], _, _, _, _ => ⟨rfl, rfl⟩
  | _ :: _, [], [], _, _ => ⟨rfl, rfl⟩
  | s :: b, a :: l, c :: m, h, g => by
    rw [geL_cons, Bool.and_eq_true] at g
    have ih := restL_mono (n := n) (b := b) (l := l) (m := m) (by simpa using h) g.2
    rw [restL_cons, restL_cons]
    cases comesUp s n with
    | true => exact ih
    | false =>
      show geL (a :: restL b l n) (c :: restL b m n) = true ∧ (a :: restL b l n).length = (c :: restL b m n).length
      rw [geL_cons, g.1, ih.1, List.length_cons, List.length_cons, ih.2]
      exact ⟨rfl, rfl⟩
theorem tie_mono {t : Str} {a b : Bool} (h : (a || !b) = true) : (tieB t a || !tieB t b) = true := by
  unfold tieB
  split
  · exact h
  · cases decide (t = "a") <;> rfl
theorem more_mono {x y : Int} {t : Str} {a b : Bool} (xy : y ≤ x) (h : (a || !b) = true) : ((moreO x).getD (tieB t a) || !(moreO y).getD (tieB t b)) = true := by
  unfold moreO
  by_cases hx : x = 0
  · by_cases hy : y = 0
    · rw [if_pos hx, if_pos hy]; exact tie_mono h
    · rw [if_pos hx, if_neg hy]
      show (tieB t a || !decide (y > 0)) = true
      rw [decide_eq_false (by omega)]; simp
  · by_cases hy : y = 0
    · rw [if_neg hx, if_pos hy]
      show (decide (x > 0) || !tieB t b) = true
      rw [decide_eq_true (by omega)]; rfl
    · rw [if_neg hx, if_neg hy]
      show (decide (x > 0) || !decide (y > 0)) = true
      by_cases p : y > 0
      · rw [decide_eq_true (show x > 0 by omega)]; rfl
      · rw [decide_eq_false p]; simp
theorem getD_map {α : Type} {f : α → Option Bool} {l : List α} {b : Nat} : (l.map f).getD b none = match l[b]? with | some x => f x | none => none := by
  rw [List.getD, List.getElem?_map]
  cases l[b]? <;> rfl
theorem wh_mono {s t : List (List Bool)} (e : s.map List.length = t.map List.length) (g : geS s t = true) {tt : Str} {a b : Bool} (h : (a || !b) = true) (i : Nat) : (((wholesOf s).getD i none).getD (tieB tt a) || !((wholesOf t).getD i none).getD (tieB tt b)) = true := by
  unfold wholesOf
  rw [getD_map, getD_map]
  have el : s.length = t.length := by simpa using congrArg List.length e
  cases hs : s[i]? with
  | none =>
    have : t[i]? = none := by rw [List.getElem?_eq_none_iff] at hs ⊢; omega
    rw [this]
    exact tie_mono h
  | some l =>
    have li : i < t.length := by have := (List.getElem?_eq_some_iff.mp hs).1; omega
    rw [List.getElem?_eq_getElem li]
    exact more_mono (leadS_mono (len_at e hs (List.getElem?_eq_getElem li)) (geS_at g hs (List.getElem?_eq_getElem li))) h
theorem re_mono {bs : List (List Seat)} {n : Int} {s t : List (List Bool)} (e : s.map List.length = t.map List.length) (g : geS s t = true) {tt : Str} {a b : Bool} (h : (a || !b) = true) (i : Nat) : (((restsOf bs s n).getD i none).getD (tieB tt a) || !((restsOf bs t n).getD i none).getD (tieB tt b)) = true := by
  unfold restsOf
  rw [getD_map, getD_map]
  have el : s.length = t.length := by simpa using congrArg List.length e
  cases hs : (bs.zip s)[i]? with
  | none =>
    have : (bs.zip t)[i]? = none := by
      rw [List.getElem?_eq_none_iff, List.length_zip] at hs ⊢
      omega
    rw [this]
    exact tie_mono h
  | some q =>
    obtain ⟨body, l⟩ := q
    obtain ⟨h1, h2⟩ := List.getElem?_zip_eq_some.mp hs
    have li : i < t.length := by have := (List.getElem?_eq_some_iff.mp h2).1; omega
    rw [(List.getElem?_zip_eq_some (z := (body, t[i]))).mpr ⟨h1, List.getElem?_eq_getElem li⟩]
    have r := restL_mono (n := n) (b := body) (len_at e h2 (List.getElem?_eq_getElem li)) (geS_at g h2 (List.getElem?_eq_getElem li))
    exact more_mono (leadS_mono r.2 r.1) h
theorem behind_mono {h : House} {s t : List (List Bool)} {n : Int} {c d : List Bool} (fs : Fits h s) (ft : Fits h t) (g : geS s t = true) (cd : c.length = d.length) (gc : geL c d = true) : geS (standBehind h s n c) (standBehind h t n d) = true := by
  have e := fits_two fs ft
  refine geS_of fun i a b ha hb => ?_
  unfold standBehind at ha hb
  rw [List.getElem?_map] at ha hb
  obtain ⟨⟨b1, l1⟩, q1, rfl⟩ := Option.map_eq_some_iff.mp ha
  obtain ⟨⟨b2, l2⟩, q2, rfl⟩ := Option.map_eq_some_iff.mp hb
  obtain ⟨p1, p2⟩ := List.getElem?_zip_eq_some.mp q1
  obtain ⟨p3, p4⟩ := List.getElem?_zip_eq_some.mp q2
  dsimp only at p1 p2 p3 p4
  rw [p1] at p3
  cases p3
  have gl := geS_at g p2 p4
  refine geL_of fun j x y hx hy => ?_
  unfold behindB at hx hy
  rw [List.getElem?_map] at hx hy
  obtain ⟨⟨s1, x1⟩, r1, rfl⟩ := Option.map_eq_some_iff.mp hx
  obtain ⟨⟨s2, y1⟩, r2, rfl⟩ := Option.map_eq_some_iff.mp hy
  obtain ⟨m1, m2⟩ := List.getElem?_zip_eq_some.mp r1
  obtain ⟨m3, m4⟩ := List.getElem?_zip_eq_some.mp r2
  dsimp only at m1 m2 m3 m4
  rw [m1] at m3
  cases m3
  have gx := geL_at gl m2 m4
  dsimp only
  cases comesUp s1 n with
  | false => exact gx
  | true =>
    show (filled s1.way x1 c _ _ || !filled s1.way y1 d _ _) = true
    unfold filled
    cases s1.way with
    | kept => exact gx
    | ward i =>
      show (c.getD i false || !d.getD i false) = true
      rw [List.getD, List.getD]
      cases hc : c[i]? with
      | none =>
        have : d[i]? = none := by rw [List.getElem?_eq_none_iff] at hc ⊢; omega
        rw [this]; rfl
      | some z =>
        have li : i < d.length := by have := (List.getElem?_eq_some_iff.mp hc).1; omega
        rw [List.getElem?_eq_getElem li]
        exact geL_at gc hc (List.getElem?_eq_getElem li)
    | body b t => exact wh_mono e g gx b
    | rest b t => exact re_mono e g gx b
theorem st_mono {h : House} {s t cs ds : List (List Bool)} (fs : Fits h s) (ft : Fits h t) (g : geS s t = true) (e : cs.map List.length = ds.map List.length) (gc : geS cs ds = true) : ∀ j, j ≤ cs.length → geS (stAt h s cs j) (stAt h t ds j) = true
  | 0, _ => g
  | j + 1, hj => by
    have el : cs.length = ds.length := by simpa using congrArg List.length e
    have h1 : cs[j]? = some cs[j] := List.getElem?_eq_getElem (by omega)
    have h2 : ds[j]? = some (ds[j]'(by omega)) := List.getElem?_eq_getElem (by omega)
    rw [show stAt h s cs (j + 1) = standBehind h (stAt h s cs j) (j : Int) cs[j] by show standBehind _ _ _ (cs.getD j []) = _; rw [List.getD, h1]; rfl]
    rw [show stAt h t ds (j + 1) = standBehind h (stAt h t ds j) (j : Int) (ds[j]'(by omega)) by show standBehind _ _ _ (ds.getD j []) = _; rw [List.getD, h2]; rfl]
    exact behind_mono (fits_stAt fs j) (fits_stAt ft j) (st_mono fs ft g e gc j (by omega)) (len_at e h1 h2) (geS_at gc h1 h2)
/-! the mirrored house -/
def negL (l : List Bool) : List Bool := l.map fun b => !b
theorem negS_e (s : List (List Bool)) : negS s = s.map negL := rfl
theorem lead_neg : ∀ l : List Bool, leadS (negL l) = - leadS l
  | [] => rfl
  | b :: l => by
    show leadS ((!b) :: negL l) = _
    rw [leadS_cons, leadS_cons, lead_neg l]
    cases b <;> simp <;> omega
theorem rest_neg {n : Int} : ∀ (b : List Seat) (l : List Bool), restL (b.map mirSeat) (negL l) n = negL (restL b l n)
  | [], _ => rfl
  | _ :: _, [] => rfl
  | s :: b, a :: l => by
    show restL (mirSeat s :: b.map mirSeat) ((!a) :: negL l) n = _
    rw [restL_cons, restL_cons, rest_neg b l]
    have : comesUp (mirSeat s) n = comesUp s n := rfl
    rw [this]
    cases comesUp s n <;> rfl
theorem more_neg (x : Int) : moreO (-x) = (moreO x).map fun b => !b := by
  unfold moreO
  by_cases z : x = 0
  · subst z; rfl
  · rw [if_neg z, if_neg (by omega)]
    show some _ = some _
    by_cases p : x > 0
    · rw [decide_eq_true p, decide_eq_false (show ¬ -x > 0 by omega)]; rfl
    · rw [decide_eq_false p, decide_eq_true (show -x > 0 by omega)]; rfl
theorem tie_neg {t : Str} (ht : t ∈ tiesL) (s : Bool) : tieB (mirT t) (!s) = !tieB t s := by
  simp only [tiesL, List.mem_cons, List.not_mem_nil, or_false] at ht
  rcases ht with rfl | rfl | rfl
  · rw [show mirT "a" = Str.ofString "b" from rfl]; cases s <;> decide +kernel
  · rw [show mirT "b" = Str.ofString "a" by decide +kernel]; cases s <;> decide +kernel
  · rw [show mirT "kept" = Str.ofString "kept" by decide +kernel]; cases s <;> decide +kernel
theorem opt_neg (o : Option Bool) (d : Bool) : (o.map fun b => !b).getD (!d) = !(o.getD d) := by cases o <;> rfl
theorem wh_neg (s : List (List Bool)) : wholesOf (negS s) = (wholesOf s).map fun o => o.map fun b => !b := by
  unfold wholesOf negS
  rw [List.map_map, List.map_map]
  refine List.map_congr_left fun l _ => ?_
  show moreO (leadS (negL l)) = _
  rw [lead_neg, more_neg]; rfl
theorem zip_map2 {α β γ δ : Type} (f : α → γ) (g : β → δ) : ∀ (l : List α) (m : List β), (l.map f).zip (m.map g) = (l.zip m).map fun p => (f p.1, g p.2)
  | [], _ => rfl
  | _ :: _, [] => rfl
  | a :: l, b :: m => by
    show (f a, g b) :: ((l.map f).zip (m.map g)) = _
    rw [zip_map2 f g l m]; rfl
theorem re_neg (bs : List (List Seat)) (s : List (List Bool)) (n : Int) : restsOf (bs.map fun b => b.map mirSeat) (negS s) n = (restsOf bs s n).map fun o => o.map fun b => !b := by
  unfold restsOf negS
  rw [zip_map2, List.map_map, List.map_map]
  refine List.map_congr_left fun q _ => ?_
  show moreO (leadS (restL (q.1.map mirSeat) (negL q.2) n)) = _
  rw [rest_neg, lead_neg, more_neg]; rfl
theorem getD_neg (wh : List (Option Bool)) (b : Nat) : (wh.map fun o => o.map fun b => !b).getD b none = (wh.getD b none).map fun b => !b := by
  rw [List.getD, List.getD, List.getElem?_map]
  cases wh[b]? <;> rfl
theorem filled_neg {w : Way} {s : Bool} {c : List Bool} {wh re : List (Option Bool)} {n m : Nat} (ok : w.ok n m) (hc : c.length = m) : filled (mirW w) (!s) (negL c) (wh.map fun o => o.map fun b => !b) (re.map fun o => o.map fun b => !b) = !filled w s c wh re := by
  cases w with
  | kept => rfl
  | ward i =>
    have hi : i < m := ok
    show (negL c).getD i false = !c.getD i false
    unfold negL
    rw [List.getD, List.getD, List.getElem?_map, List.getElem?_eq_getElem (by omega)]; rfl
  | body b t =>
    show ((wh.map fun o => o.map fun b => !b).getD b none).getD (tieB (mirT t) (!s)) = !((wh.getD b none).getD (tieB t s))
    rw [getD_neg, tie_neg ok.2, opt_neg]
  | rest b t =>
    show ((re.map fun o => o.map fun b => !b).getD b none).getD (tieB (mirT t) (!s)) = !((re.getD b none).getD (tieB t s))
    rw [getD_neg, tie_neg ok.2, opt_neg]
theorem behind_neg {h : House} {s : List (List Bool)} {n : Int} {c : List Bool} (ok : h.ok) (hc : c.length = h.wards) : standBehind (mirH h) (negS s) n (negL c) = negS (standBehind h s n c) := by
  unfold standBehind
  rw [wh_neg, show (mirH h).bodies = h.bodies.map fun b => b.map mirSeat from rfl, re_neg]
  rw [show (h.bodies.map fun b => b.map mirSeat).zip (negS s) = (h.bodies.zip s).map fun p => (p.1.map mirSeat, negL p.2) from zip_map2 _ _ _ _]
  rw [List.map_map]
  unfold negS
  rw [List.map_map]
  refine List.map_congr_left fun q hq => ?_
  obtain ⟨b, l⟩ := q
  obtain ⟨i, hi⟩ := List.mem_iff_getElem?.mp hq
  obtain ⟨hb, _⟩ := List.getElem?_zip_eq_some.mp hi
  show behindB (b.map mirSeat) (negL l) n (negL c) _ _ = (behindB b l n c _ _).map fun b => !b
  unfold behindB negL
  rw [zip_map2, List.map_map, List.map_map]
  refine List.map_congr_left fun p hp => ?_
  obtain ⟨st, a⟩ := p
  obtain ⟨j, hj⟩ := List.mem_iff_getElem?.mp hp
  obtain ⟨hst, _⟩ := List.getElem?_zip_eq_some.mp hj
  have okS := ok.s b (List.mem_of_getElem? hb) st (List.mem_of_getElem? hst)
  show (if comesUp (mirSeat st) n = true then filled (mirW st.way) (!a) (negL c) _ _ else !a) = !(if comesUp st n = true then filled st.way a c _ _ else a)
  rw [show comesUp (mirSeat st) n = comesUp st n from rfl]
  cases comesUp st n with
  | false => rfl
  | true =>
    rw [if_pos rfl, if_pos rfl]
    exact filled_neg okS.w hc
theorem mir_okW {w : Way} {n m : Nat} (h : w.ok n m) : (mirW w).ok n m := by
  cases w with
  | kept => trivial
  | ward i => exact h
  | body b t => exact ⟨h.1, (mirT_tie h.2).1⟩
  | rest b t => exact ⟨h.1, (mirT_tie h.2).1⟩
theorem lcm_mir : ∀ (c : Nat) (b : List Seat), lcmB c (b.map mirSeat) = lcmB c b
  | c, [] => rfl
  | c, s :: b => lcm_mir _ b
theorem lcmH_mir (h : House) : lcmH (mirH h) = lcmH h := by
  show (h.bodies.map fun b => b.map mirSeat).foldl lcmB 1 = h.bodies.foldl lcmB 1
  have gen : ∀ (l : List (List Seat)) (c : Nat), (l.map fun b => b.map mirSeat).foldl lcmB c = l.foldl lcmB c := by
    intro l
    induction l with
    | nil => intro c; rfl
    | cons b l ih =>
      intro c
      rw [List.map_cons, List.foldl_cons, List.foldl_cons, lcm_mir, ih]
  exact gen _ _
theorem mir_ok {h : House} (ok : h.ok) : (mirH h).ok := by
  have eb : (mirH h).bodies = h.bodies.map fun b => b.map mirSeat := rfl
  have el : (mirH h).bodies.length = h.bodies.length := by rw [eb, List.length_map]
  refine ⟨ok.w, by rw [el]; exact ok.n1, by rw [el]; exact ok.n3, fun b hb => ?_, ?_, fun b hb s hs => ?_, by rw [lcmH_mir]; exact ok.lc⟩
  · obtain ⟨x, hx, rfl⟩ := List.mem_map.mp hb
    rw [List.length_map]
    exact ok.b x hx
  · rw [eb, List.map_map]
    have : ((fun b : List Seat => (b.length : Int)) ∘ fun b : List Seat => b.map mirSeat) = fun b : List Seat => (b.length : Int) := by
      funext b
      show ((b.map mirSeat).length : Int) = _
      rw [List.length_map]
    rw [this]
    exact ok.sum
  · obtain ⟨x, hx, rfl⟩ := List.mem_map.mp hb
    obtain ⟨y, hy, rfl⟩ := List.mem_map.mp hs
    have q := ok.s x hx y hy
    exact ⟨q.t1, q.t6, q.p, by rw [el]; exact mir_okW q.w⟩
theorem mir_fits {h : House} {s : List (List Bool)} (f : Fits h s) : Fits (mirH h) (negS s) := by
  unfold Fits negS
  rw [show (mirH h).bodies = h.bodies.map fun b => b.map mirSeat from rfl, List.map_map, List.map_map]
  rw [show (List.length ∘ fun l : List Bool => l.map fun b => !b) = List.length by funext l; simp, show (List.length ∘ fun b : List Seat => b.map mirSeat) = List.length by funext l; simp]
  exact f
theorem mir_mir {h : House} (ok : h.ok) : mirH (mirH h) = h := by
  have w : ∀ (w : Way) (n m : Nat), w.ok n m → mirW (mirW w) = w := fun w n m h => by
    cases w with
    | kept => rfl
    | ward i => rfl
    | body b t => show Way.body b (mirT (mirT t)) = _; rw [(mirT_tie h.2).2]
    | rest b t => show Way.rest b (mirT (mirT t)) = _; rw [(mirT_tie h.2).2]
  obtain ⟨bs, wd⟩ := h
  show House.mk ((bs.map fun b => b.map mirSeat).map fun b => b.map mirSeat) wd = _
  rw [List.map_map]
  congr 1
  refine (List.map_congr_left fun b hb => ?_).trans (List.map_id bs)
  show (b.map mirSeat).map mirSeat = b
  rw [List.map_map]
  refine (List.map_congr_left fun s hs => ?_).trans (List.map_id b)
  have q := ok.s b hb s hs
  obtain ⟨t, p, wy⟩ := s
  show Seat.mk t p (mirW (mirW wy)) = _
  rw [w wy _ _ q.w]; rfl
theorem st_neg {h : House} {s cs : List (List Bool)} (ok : h.ok) (hc : ∀ c ∈ cs, c.length = h.wards) : ∀ j, j ≤ cs.length → stAt (mirH h) (negS s) (cs.map negL) j = negS (stAt h s cs j)
  | 0, _ => rfl
  | j + 1, hj => by
    have h1 : cs[j]? = some cs[j] := List.getElem?_eq_getElem (by omega)
    show standBehind (mirH h) (stAt (mirH h) (negS s) (cs.map negL) j) (j : Int) ((cs.map negL).getD j []) = negS (standBehind h (stAt h s cs j) (j : Int) (cs.getD j []))
    rw [st_neg ok hc j (by omega), List.getD, List.getD, List.getElem?_map, h1]
    exact behind_neg ok (hc _ (List.mem_of_getElem? h1))
end TSx

namespace TSx
open PySem L2
local macro_rules | `(tactic| walk_at "rd") => `(tactic| repeat (first
  | ((with_reducible show tVar _ _ _ _); refine r_v rfl ?_)
  | with_reducible refine r_c ?_
  | with_reducible refine r_op ?_
  | with_reducible refine r_I0 ?_
  | with_reducible refine r_cb ?_
  | with_reducible refine r_nil ?_
  | with_reducible refine r_cons ?_
  | with_reducible refine r_seq ?_
  | with_reducible refine r_next ?_
  | with_reducible refine r_asg ?_
  | with_reducible refine r_name ?_
  | with_reducible refine r_ret ?_
  | with_reducible refine r_drop ?_
  | with_reducible refine r_if ?_
  | with_reducible refine r_test ?_
  | with_reducible refine r_bl ?_
  | with_reducible refine r_call ?_))
local macro_rules | `(tactic| walk_at "st") => `(tactic| repeat (first
  | with_reducible refine r_seq ?_
  | with_reducible refine r_next ?_
  | with_reducible refine r_asg ?_
  | with_reducible refine r_name ?_
  | with_reducible refine r_ret ?_
  | with_reducible refine r_drop ?_
  | with_reducible refine r_if ?_))
local macro_rules | `(tactic| walk_at "mk") => `(tactic| repeat (first
  | with_reducible exact mk_non
  | with_reducible exact mk_int
  | with_reducible exact mk_str
  | with_reducible exact mk_bl
  | with_reducible exact mk_dic
  | with_reducible exact mka_nil
  | with_reducible refine mka_cons ?_ ?_
  | ((with_reducible refine mk_tup ?_ ?hz); (case hz => decide))
  | ((with_reducible refine mk_lst ?_ ?hz); (case hz => decide))
  | with_reducible refine mk_neg ?_))
abbrev sOV : Stmt := top 62
theorem scOV : FnScope ["one", "other", "k"] ["one", "other"] (defScope sOV) := ⟨rfl, rfl, rfl, by decide +kernel, rfl, by decide +kernel, by decide +kernel⟩
abbrev sAB : Stmt := top 63
theorem scAB : FnScope ["first", "other", "k"] ["first", "other"] (defScope sAB) := ⟨rfl, rfl, rfl, by decide +kernel, rfl, by decide +kernel, by decide +kernel⟩
abbrev sML : Stmt := top 64
theorem scML : FnScope ["one", "other", "word", "rest", "k"] ["one", "other", "word"] (defScope sML) := ⟨rfl, rfl, rfl, by decide +kernel, rfl, by decide +kernel, by decide +kernel⟩
abbrev sSW : Stmt := top 65
theorem scSW : FnScope ["letters", "letter"] ["letters"] (defScope sSW) := ⟨rfl, rfl, rfl, by decide +kernel, rfl, by decide +kernel, by decide +kernel⟩
def fOver (ds : List D) (r : D) : Prop := ∃ l m : List Bool, ds = [.str (sideS l), .str (sideS m)] ∧ l.length = m.length ∧ l.length ≤ 1000 ∧ r = .bl (geL l m)
def fAbove (ds : List D) (r : D) : Prop := ∃ s t : List (List Bool), ds = [standD s, standD t] ∧ s.map List.length = t.map List.length ∧ s.length ≤ 1000 ∧ (∀ l ∈ s, l.length ≤ 1000) ∧ r = .bl (geS s t)
def fMixL (ds : List D) (r : D) : Prop := ∃ (l m : List Bool) (b : Bool), ds = [.str (sideS l), .str (sideS m), .str (sideS [b])] ∧ l.length = m.length ∧ l.length ≤ 1000 ∧ r = .str (sideS (mixL l m b))
def fSwap (ds : List D) (r : D) : Prop := ∃ l : List Bool, ds = [.str (sideS l)] ∧ l.length ≤ 1000 ∧ r = .str (sideS (negL l))
theorem str_if {c : Bool} {x y z : Str} (h : (if c = true then x else y) = z) : (if c = true then D.str x else D.str y) = D.str z := by
  subst h
  cases c <;> rfl
theorem none_wrong {n : Nat} {p : Nat → Bool} {b : Bool} (h : b = true ↔ ∀ k, k < n → p k = false) : ((List.range n).filterMap fun k => if p k then some (k : Int) else none).isEmpty = b := by
  rw [Bool.eq_iff_iff, h, List.isEmpty_iff, List.filterMap_eq_nil_iff]
  constructor
  · intro q k hk
    have := q k (List.mem_range.mpr hk)
    cases e : p k with
    | false => rfl
    | true => rw [e] at this; cases this
  · intro q k hk
    rw [q k (List.mem_range.mp hk)]
    rfl
theorem fm_ints {n : Nat} {p : Nat → Bool} : (List.range n).filterMap (fun k => if p k then some (D.int (k : Nat)) else none) = ((List.range n).filterMap fun k => if p k then some (k : Int) else none).map D.int := by
  rw [List.map_filterMap]
  refine congrArg (fun f => (List.range n).filterMap f) (funext fun k => ?_)
  cases p k <;> rfl
theorem geL_iff {l m : List Bool} (h : l.length = m.length) : geL l m = true ↔ ∀ k, k < l.length → (!l.getD k false && m.getD k false) = false := by
  constructor
  · intro g k hk
    have h1 : l[k]? = some l[k] := List.getElem?_eq_getElem hk
    have h2 : m[k]? = some (m[k]'(by omega)) := List.getElem?_eq_getElem (by omega)
    have := geL_at g h1 h2
    rw [List.getD, List.getD, h1, h2]
    show (!l[k] && m[k]'(by omega)) = false
    revert this
    cases l[k] <;> cases m[k]'(by omega) <;> decide
  · intro q
    refine geL_of fun i a b ha hb => ?_
    have hi := (List.getElem?_eq_some_iff.mp ha).1
    have := q i hi
    rw [List.getD, List.getD, ha, hb] at this
    revert this
    show (!a && b) = false → _
    cases a <;> cases b <;> decide
theorem geS_iff {s t : List (List Bool)} (h : s.length = t.length) : geS s t = true ↔ ∀ k, k < s.length → (!geL (s.getD k []) (t.getD k [])) = false := by
  constructor
  · intro g k hk
    have h1 : s[k]? = some s[k] := List.getElem?_eq_getElem hk
    have h2 : t[k]? = some (t[k]'(by omega)) := List.getElem?_eq_getElem (by omega)
    have := geS_at g h1 h2
    rw [List.getD, List.getD, h1, h2]
    show (!geL s[k] (t[k]'(by omega))) = false
    rw [this]; rfl
  · intro q
    refine geS_of fun i a b ha hb => ?_
    have hi := (List.getElem?_eq_some_iff.mp ha).1
    have := q i hi
    rw [List.getD, List.getD, ha, hb] at this
    revert this
    show (!geL a b) = false → _
    cases geL a b <;> decide
theorem mix_range : ∀ (l m : List Bool) (b : Bool), l.length = m.length → (List.range l.length).map (fun k => if l.getD k false == b || m.getD k false == b then b else !b) = mixL l m b
  | [], _, _, _ => rfl
  | a :: l, [], _, h => by cases h
  | a :: l, c :: m, b, h => by
    have ih := mix_range l m b (by simpa using h)
    rw [List.length_cons, List.range_succ_eq_map, List.map_cons, List.map_map]
    show _ :: _ = (if a == b || c == b then b else !b) :: mixL l m b
    rw [← ih]
    rfl
section
variable {K : PySem.W.Frag} {σ : Sg} {H : Hp} {te ta tb tn : TE}
theorem mt_and2 {tt uu : TT} {a b : Bool} (h : MkT tt σ H a) (h2 : MkT uu σ H b) : MkT (tAnd tt uu) σ H (a && b) := fun H1 s Q q => by
  refine h H1 s _ fun H2 s2 => ?_
  cases a with
  | true => exact iteT (h2 H2 (s.trans s2) Q fun H3 s3 => q H3 (s2.trans s3))
  | false => exact iteF (q H2 s2)
/-- [e for k in range(n) if t] -/
theorem mk_lcRk {i n : Nat} {tt : TT} (h : Mk K tn σ H (.int (n : Int))) (hn : n ≤ 1000) (e : Nat → Option D) (sc : ∀ k d, e k = some d → d.sc = true) (ij : ∀ u, wipe ((wipe σ [i]).set i u) [i] = wipe σ [i])
    (step : ∀ k, k < n → ∀ H1, Same H H1 → (∀ d, e k = some d → MkT tt ((wipe σ [i]).set i (some (.int (k : Int)))) H1 true ∧ Mk K te ((wipe σ [i]).set i (some (.int (k : Int)))) H1 d) ∧ (e k = none → MkT tt ((wipe σ [i]).set i (some (.int (k : Int)))) H1 false)) :
    Mk K (tLc (iRng1 (tCons tn tNil)) (gName i) tt te [i]) σ H (.lst ((List.range n).filterMap e)) := fun H1 s Q q => h H1 s _ fun v H2 s2 a => by
  cases a
  refine ⟨(n : Int), rfl, by omega, by omega, fun L nL => ?_⟩
  rw [Int.toNat_natCast]
  refine lc_flat (K := K) (walk_range (lo := 0) (n := n)) e sc nL (fun _ _ => trivial) hn ?_ ?_
  · rintro k x H' H'' hk s' ⟨rfl, rfl⟩
    obtain ⟨s1, s3⟩ := step k hk H'' ((s.trans s2).trans s')
    refine ⟨Gr.rfl', fun R r => ?_⟩
    dsimp only
    rw [Int.zero_add]
    exact r_name (r _ (ij _) s1 s3)
  · intro H' ys s' e' a'
    exact q _ _ (s2.trans s') (.lst e' a')
theorem mk_emp {gs : List Int} (h : Mk K ta σ H (.lst (gs.map D.int))) : Mk K (tOp (rEqD K) ta (tLst tNil)) σ H (.bl gs.isEmpty) := by
  have m := mk_eqD (d := .lst (gs.map D.int)) (e := .lst []) h (mk_lst mka_nil (show 0 ≤ 100000 by decide)) (pl_ints gs) rfl (depth_ints gs) (show 1 ≤ 64 by decide)
  rw [show PyData.eqv (D.lst (gs.map D.int)).py (D.lst []).py = gs.isEmpty from eqv_nil gs] at m
  exact m
end
section
variable {P : Program} {w : World} {K : PySem.W.Frag} {mg : Str → Option Value} {base : Heap} {pT : Addr}
theorem ok_OV {f : Addr} {fd : FuncData} (F : L2.Fun K "_law_over" "_law_over" sOV f fd) (B : Blt mg) : FnOk P w K mg base CX0 1 f fd ["one", "other"] (spP K fOver) := by
  refine F.ok scOV (fun vs H Q E h => ?_) (fun cdv A outer s H vs Q E hr h => ?_)
  · obtain ⟨_, _, ha, ⟨l, m, rfl, _⟩, _⟩ := h
    exact ha.len
  · obtain ⟨_, _, ha, ⟨l, m, rfl, hlm, hl, rfl⟩, k⟩ := h
    obtain ⟨v1, v2, rfl, x1, x2⟩ := ha.two
    refine ⟨_, (pss_one (ps_ret (pe_cmpR (op_eqD hr.units) (pe_lc (own := [("k", 2)]) (g := gName 2) rfl scOV.nd (pi_range1 rfl B.range (pa_cons (pe_callB call_len_str (by rfl) B.len PySem.boot_len (pa_cons (pv 0) pa_nil)) pa_nil)) (blkOk_by (N := ["one", "other", "k"]) (sc := defScope sOV) (by decide +kernel)) (fun _ _ _ _ _ => pg_name (i := 2) scOV.nd rfl (Or.inl rfl)) (fun _ _ _ _ _ => (pts_one (PW.pt (pw_and (pt_cmpR op_eq (pe_ix ix_str (pv 0) (pv 2) (fun _ _ => rfl)) pe_str (nomark _)) (pw_and1 (pt_cmpR op_eq (pe_ix ix_str (pv 1) (pv 2) (fun _ _ => rfl)) pe_str (nomark _))))))) (fun _ _ _ _ _ => (pv 2))) (pe_lst pa_nil) (nomark _)))), ?_⟩
    walk_at "st"
    have ln := mk_lenS (K := K) (σ := L2.start ["one", "other", "k"] [v1, v2]) (H := H) (mk_var (n := 0) rfl x1) (by rw [sideS_len]; omega)
    rw [sideS_len] at ln
    have lc := mk_lcRk (i := 2) (tt := tAnd (tTest (tOp rEq (tOp rIxS (tVar 0) (tVar 2)) (tC (.str "b")))) (tTest (tOp rEq (tOp rIxS (tVar 1) (tVar 2)) (tC (.str "a"))))) (te := tVar 2) ln hl (fun k => if (!l.getD k false && m.getD k false) then some (.int (k : Nat)) else none) (fun k d hk => by split at hk <;> cases hk; rfl) (fun _ => rfl) (fun k hk H1 s1 => by
      have h1 : l[k]? = some (l.getD k false) := by rw [List.getD, List.getElem?_eq_getElem hk]; rfl
      have h2 : m[k]? = some (m.getD k false) := by rw [List.getD, List.getElem?_eq_getElem (show k < m.length by omega)]; rfl
      have t := mt_and2 (mt_test (mk_eqS (mk_ixS (K := K) (σ := (wipe (L2.start ["one", "other", "k"] [v1, v2]) [2]).set 2 (some (.int (k : Int)))) (mk_var (n := 0) rfl (x1.gr s1)) (mk_var (n := 2) rfl (.int (k : Int))) h1 (by omega)) (mk_str (x := "b"))))
        (mt_test (mk_eqS (mk_ixS (mk_var (n := 1) rfl (x2.gr s1)) (mk_var (n := 2) rfl (.int (k : Int))) h2 (by omega)) (mk_str (x := "a"))))
      rw [show (decide (sideS [l.getD k false] = "b") && decide (sideS [m.getD k false] = "a")) = (!l.getD k false && m.getD k false) by cases l.getD k false <;> cases m.getD k false <;> decide +kernel] at t
      cases e : (!l.getD k false && m.getD k false) with
      | true =>
        rw [e] at t
        refine ⟨fun d hd => ?_, fun hd => by rw [if_pos rfl] at hd; cases hd⟩
        rw [if_pos rfl] at hd
        cases hd
        exact ⟨t, mk_var rfl (.int (k : Int))⟩
      | false =>
        rw [e] at t
        exact ⟨fun d hd => (by rw [if_neg (by decide)] at hd; cases hd), fun _ => t⟩)
    rw [fm_ints] at lc
    have q := mk_emp lc
    rw [none_wrong (geL_iff hlm)] at q
    exact q H Gr.rfl' _ fun v H1 s1 a => k v H1 s1 a
theorem ok_AB {f fO : Addr} {fd fdO : FuncData} (F : L2.Fun K "_law_above" "_law_above" sAB f fd) (B : Blt mg) (d_law_over : Dok P w K mg base 1 "_law_over" ["one", "other"] (spP K fOver) fO fdO) : FnOk P w K mg base CX0 2 f fd ["first", "other"] (spP K fAbove) := by
  refine F.ok scAB (fun vs H Q E h => ?_) (fun cdv A outer s H vs Q E hr h => ?_)
  · obtain ⟨_, _, ha, ⟨l, m, rfl, _⟩, _⟩ := h
    exact ha.len
  · obtain ⟨_, _, ha, ⟨l, m, rfl, hlm, hl, h1, rfl⟩, k⟩ := h
    obtain ⟨v1, v2, rfl, x1, x2⟩ := ha.two
    have e2 : l.length = m.length := by simpa using congrArg List.length hlm
    refine ⟨_, (pss_one (ps_ret (pe_cmpR (op_eqD hr.units) (pe_lc (own := [("k", 2)]) (g := gName 2) rfl scAB.nd (pi_range1 rfl B.range (pa_cons (pe_callB call_len_seq (by rfl) B.len PySem.boot_len (pa_cons (pv 0) pa_nil)) pa_nil)) (blkOk_by (N := ["first", "other", "k"]) (sc := defScope sAB) (by decide +kernel)) (fun _ _ _ _ _ => pg_name (i := 2) scAB.nd rfl (Or.inl rfl)) (fun _ _ _ _ _ => (pts_one (pt_not (pt_val (pe_call d_law_over.G (hr.mono (by decide)) rfl d_law_over.g d_law_over.k d_law_over.b .nil pass0 (pa_cons (pe_ix (ix_tupK (K := K) rfl) (pv 0) (pv 2) (fun _ _ => rfl)) (pa_cons (pe_ix (ix_tupK (K := K) rfl) (pv 1) (pv 2) (fun _ _ => rfl)) pa_nil))))))) (fun _ _ _ _ _ => (pv 2))) (pe_lst pa_nil) (nomark _)))), ?_⟩
    walk_at "st"
    have ln := mk_lenT (K := K) (σ := L2.start ["first", "other", "k"] [v1, v2]) (H := H) (mk_var (n := 0) rfl x1)
    rw [List.length_map] at ln
    have lc := mk_lcRk (i := 2) (tt := tNot (tB (tCall (spP K fOver) [] E0 (tCons (tOp (rIxT K) (tVar 0) (tVar 2)) (tCons (tOp (rIxT K) (tVar 1) (tVar 2)) tNil))))) (te := tVar 2) ln hl (fun k => if !geL (l.getD k []) (m.getD k []) then some (.int (k : Nat)) else none) (fun k d hk => by split at hk <;> cases hk; rfl) (fun _ => rfl) (fun k hk H1 s1 => by
      have g1 : l[k]? = some (l.getD k []) := by rw [List.getD, List.getElem?_eq_getElem hk]; rfl
      have g2 : m[k]? = some (m.getD k []) := by rw [List.getD, List.getElem?_eq_getElem (show k < m.length by omega)]; rfl
      have t := mt_not (mt_B (mk_call (K := K) (f := fOver) (σ := (wipe (L2.start ["first", "other", "k"] [v1, v2]) [2]).set 2 (some (.int (k : Int)))) (H := H1) (r := .bl (geL (l.getD k []) (m.getD k [])))
        (mka_cons (mk_ixT (i := k) (mk_var (n := 0) rfl (x1.gr s1)) (mk_var (n := 2) rfl (.int (k : Int))) (d := .str (sideS (l.getD k []))) (by rw [List.getElem?_map, g1]; rfl)) (mka_cons (mk_ixT (i := k) (mk_var (n := 1) rfl (x2.gr s1)) (mk_var (n := 2) rfl (.int (k : Int))) (d := .str (sideS (m.getD k []))) (by rw [List.getElem?_map, g2]; rfl)) mka_nil))
        ⟨_, _, rfl, len_at hlm g1 g2, h1 _ (List.mem_of_getElem? g1), rfl⟩))
      cases e : (!geL (l.getD k []) (m.getD k [])) with
      | true =>
        rw [e] at t
        refine ⟨fun d hd => ?_, fun hd => by rw [if_pos rfl] at hd; cases hd⟩
        rw [if_pos rfl] at hd
        cases hd
        exact ⟨t, mk_var rfl (.int (k : Int))⟩
      | false =>
        rw [e] at t
        exact ⟨fun d hd => (by rw [if_neg (by decide)] at hd; cases hd), fun _ => t⟩)
    rw [fm_ints] at lc
    have q := mk_emp lc
    rw [none_wrong (geS_iff e2)] at q
    exact q H Gr.rfl' _ fun v H1 s1 a => k v H1 s1 a
theorem ok_ML {f : Addr} {fd : FuncData} (F : L2.Fun K "_law_mixed_letters" "_law_mixed_letters" sML f fd) (B : Blt mg) : FnOk P w K mg base CX0 1 f fd ["one", "other", "word"] (spP K fMixL) := by
  refine F.ok scML (fun vs H Q E h => ?_) (fun cdv A outer s H vs Q E hr h => ?_)
  · obtain ⟨_, _, ha, ⟨l, m, b, rfl, _⟩, _⟩ := h
    exact ha.len
  · obtain ⟨_, _, ha, ⟨l, m, b, rfl, hlm, hl, rfl⟩, k⟩ := h
    obtain ⟨v1, v2, v3, rfl, x1, x2, x3⟩ := ha.three
    refine ⟨_, (pss_cons (ps_set (i := 3) scML.nd rfl (Or.inr rfl) (pe_ifExp (pt_cmpR op_eq (pv 2) pe_str (nomark _)) pe_str pe_str))
  (pss_one (ps_ret (pe_join pe_str (pe_lc (own := [("k", 4)]) (g := gName 4) (tt := tYes) rfl scML.nd (pi_range1 rfl B.range (pa_cons (pe_callB call_len_str (by rfl) B.len PySem.boot_len (pa_cons (pv 0) pa_nil)) pa_nil)) (blkOk_by (N := ["one", "other", "word", "rest", "k"]) (sc := defScope sML) (by decide +kernel)) (fun _ _ _ _ _ => pg_name (i := 4) scML.nd rfl (Or.inl rfl)) (fun _ _ _ _ _ => pts_nil) (fun _ _ _ _ _ => (pe_ifExp (pt_cmpR (op_in_seqK (K := K) rfl) (pv 2) (pe_tup (pa_cons (pe_ix ix_str (pv 0) (pv 4) (fun _ _ => rfl)) (pa_cons (pe_ix ix_str (pv 1) (pv 4) (fun _ _ => rfl)) pa_nil))) rfl) (pv 2) (pv 3)))))))), ?_⟩
    walk_at "st"
    have rs := ifE (K := K) (σ := L2.start ["one", "other", "word", "rest", "k"] [v1, v2, v3]) (H := H) (mt_test (mk_eqS (mk_var (n := 2) rfl x3) (mk_str (x := "a")))) (fun _ => mk_str (x := "b")) (fun _ => mk_str (x := "a"))
    rw [show (if decide (sideS [b] = "a") = true then D.str "b" else D.str "a") = .str (sideS [!b]) from str_if (by cases b <;> decide +kernel)] at rs
    refine rs H Gr.rfl' _ fun vr H1 s1 ar => ?_
    walk_at "st"
    have ln := mk_lenS (K := K) (σ := [some v1, some v2, some v3, some vr, none]) (H := H1) (mk_var (n := 0) rfl (x1.gr s1)) (by rw [sideS_len]; omega)
    rw [sideS_len] at ln
    have lc := mk_lcRk (i := 4) (tt := tYes) (te := tIf (tTest (tOp (rIn K false) (tVar 2) (tTup (tCons (tOp rIxS (tVar 0) (tVar 4)) (tCons (tOp rIxS (tVar 1) (tVar 4)) tNil))))) (tVar 2) (tVar 3)) ln hl (fun k => some (.str (sideS [if l.getD k false == b || m.getD k false == b then b else !b]))) (fun k d hk => by cases hk; rfl) (fun _ => rfl) (fun k hk H2 s2 => by
      have h1 : l[k]? = some (l.getD k false) := by rw [List.getD, List.getElem?_eq_getElem hk]; rfl
      have h2 : m[k]? = some (m.getD k false) := by rw [List.getD, List.getElem?_eq_getElem (show k < m.length by omega)]; rfl
      have sX := s1.trans s2
      refine ⟨fun d hd => ⟨fun H3 s3 Q3 q3 => q3 H3 Gr.rfl', ?_⟩, fun hd => by cases hd⟩
      cases hd
      have t := mt_test (mk_inT (K := K) (σ := (wipe [some v1, some v2, some v3, some vr, none] [4]).set 4 (some (.int (k : Int)))) (H := H2) (ws := [sideS [l.getD k false], sideS [m.getD k false]]) (mk_var (n := 2) rfl (x3.gr sX)) (mk_tup (mka_cons (mk_ixS (mk_var (n := 0) rfl (x1.gr sX)) (mk_var (n := 4) rfl (.int (k : Int))) h1 (by omega)) (mka_cons (mk_ixS (mk_var (n := 1) rfl (x2.gr sX)) (mk_var (n := 4) rfl (.int (k : Int))) h2 (by omega)) mka_nil)) (show 2 ≤ 100000 by decide)))
      rw [in_pair] at t
      have mm := ifE t (fun _ => mk_var (n := 2) rfl (x3.gr sX)) (fun _ => mk_var (n := 3) rfl (ar.gr s2))
      rw [pick_side] at mm
      exact mm)
    have el : D.lst ((List.range l.length).filterMap fun k => some (.str (sideS [if l.getD k false == b || m.getD k false == b then b else !b]))) = sidesL (mixL l m b) := by
      rw [← mix_range l m b hlm, ← sides_e, ← List.filterMap_eq_map]
      rfl
    rw [el] at lc
    have q := mk_joinS lc (by unfold mixL; rw [List.length_map, List.length_zip]; omega)
    exact q H1 Gr.rfl' _ fun v H2 s2 a => k v H2 (s1.trans s2) a
theorem ok_SW {f : Addr} {fd : FuncData} (F : L2.Fun K "_law_swapped" "_law_swapped" sSW f fd) (B : Blt mg) : FnOk P w K mg base CX0 1 f fd ["letters"] (spP K fSwap) := by
  refine F.ok scSW (fun vs H Q E h => ?_) (fun cdv A outer s H vs Q E hr h => ?_)
  · obtain ⟨_, _, ha, ⟨l, rfl, _⟩, _⟩ := h
    exact ha.len
  · obtain ⟨_, _, ha, ⟨l, rfl, hl, rfl⟩, k⟩ := h
    obtain ⟨v1, rfl, x1⟩ := ha.one
    refine ⟨_, (pss_one (ps_ret (pe_join pe_str (pe_lc (own := [("letter", 1)]) (g := gName 1) (tt := tYes) rfl scSW.nd (pi_str (pv 0)) (blkOk_by (N := ["letters", "letter"]) (sc := defScope sSW) (by decide +kernel)) (fun _ _ _ _ _ => pg_name (i := 1) scSW.nd rfl (Or.inl rfl)) (fun _ _ _ _ _ => pts_nil) (fun _ _ _ _ _ => (pe_ifExp (pt_cmpR op_eq (pv 1) pe_str (nomark _)) pe_str pe_str)))))), ?_⟩
    walk_at "st"
    have lc := mk_lcS (K := K) (σ := L2.start ["letters", "letter"] [v1]) (H := H) (i := 1) (ti := tVar 0) (te := tIf (tTest (tOp rEq (tVar 1) (tC (.str "b")))) (tC (.str "a")) (tC (.str "b"))) (l := l) (g := fun b => .str (sideS [!b])) (fun _ => rfl) (mk_var (n := 0) rfl x1) hl (fun b H1 s1 => by
      have m := ifE (K := K) (σ := ((L2.start ["letters", "letter"] [v1]).set 1 none).set 1 (some (.str ⟨#[sideC b]⟩))) (H := H1) (mt_test (mk_eqS (K := K) (mk_var (n := 1) rfl (.str (sideS [b]))) (mk_str (x := "b")))) (fun _ => mk_str (x := "a")) (fun _ => mk_str (x := "b"))
      rw [show (if decide (sideS [b] = "b") = true then D.str "a" else D.str "b") = .str (sideS [!b]) from str_if (by cases b <;> decide +kernel)] at m
      exact m)
    rw [sides_e] at lc
    exact mk_joinS lc (by rw [List.length_map]; exact hl) H Gr.rfl' _ fun v H1 s1 a => k v H1 s1 a
end
end TSx

namespace TSx
open PySem L2
local macro_rules | `(tactic| walk_at "rd") => `(tactic| repeat (first
  | ((with_reducible show tVar _ _ _ _); refine r_v rfl ?_)
  | with_reducible refine r_c ?_
  | with_reducible refine r_op ?_
  | with_reducible refine r_I0 ?_
  | with_reducible refine r_cb ?_
  | with_reducible refine r_nil ?_
  | with_reducible refine r_cons ?_
  | with_reducible refine r_seq ?_
  | with_reducible refine r_next ?_
  | with_reducible refine r_asg ?_
  | with_reducible refine r_name ?_
  | with_reducible refine r_ret ?_
  | with_reducible refine r_drop ?_
  | with_reducible refine r_if ?_
  | with_reducible refine r_test ?_
  | with_reducible refine r_bl ?_
  | with_reducible refine r_call ?_))
local macro_rules | `(tactic| walk_at "st") => `(tactic| repeat (first
  | with_reducible refine r_seq ?_
  | with_reducible refine r_next ?_
  | with_reducible refine r_asg ?_
  | with_reducible refine r_name ?_
  | with_reducible refine r_ret ?_
  | with_reducible refine r_drop ?_
  | with_reducible refine r_if ?_))
local macro_rules | `(tactic| walk_at "mk") => `(tactic| repeat (first
  | with_reducible exact mk_non
  | with_reducible exact mk_int
  | with_reducible exact mk_str
  | with_reducible exact mk_bl
  | with_reducible exact mk_dic
  | with_reducible exact mka_nil
  | with_reducible refine mka_cons ?_ ?_
  | ((with_reducible refine mk_tup ?_ ?hz); (case hz => decide))
  | ((with_reducible refine mk_lst ?_ ?hz); (case hz => decide))
  | with_reducible refine mk_neg ?_))
abbrev sOH : Stmt := top 66
theorem scOH : FnScope ["home", "bodies", "row", "fresh", "term", "phase", "way", "tie"] ["home"] (defScope sOH) := ⟨rfl, rfl, rfl, by decide +kernel, rfl, by decide +kernel, by decide +kernel⟩
section
variable {K : PySem.W.Frag} {σ : Sg} {H H0 : Hp} {te ta tb tn ty : TE} {ds es : List D} {d : D}
theorem ev0_ix {v : V} {h : House} (s : Same H0 H) (hv : σ[0]? = some (some v)) (a : Dt K H0 v h.d) : Ev0 K (tOp (rIxT K) (tVar 0) (tC (.int 0))) σ H H0 (.tup (h.bodies.map bodyD)) := by
  cases a with
  | @tup q ys _ eq aq =>
    obtain ⟨u1, u2, rfl, au1, au2⟩ := aq.two
    exact ⟨u1, au1, fun Q q' => ⟨_, hv, _, _, 0, _, rfl, rfl, gr_T s eq, rfl, q'⟩⟩
/-- for a, b, .. in tuple -/
theorem r_forTg {g : TG} {b : TS} {E : Ends} (h : Ev0 K te σ H H0 (.tup ds)) (Pv : Nat → Sg → Hp → Prop) (h0 : Pv 0 σ H) (hG : ∀ k σ' H', Pv k σ' H' → Same H0 H')
    (step : ∀ k d x σ' H', ds[k]? = some d → Pv k σ' H' → Dt K H' x d → g x σ' H' fun σ2 H2 => b { E with nx := Pv (k + 1), ct := Pv (k + 1), bk := E.nx } σ2 H2)
    (hd : ∀ σ' H', Pv ds.length σ' H' → E.nx σ' H') : tFor (iTup K te) g b E σ H := by
  obtain ⟨v, a, k⟩ := h
  refine k _ ?_
  cases a with
  | @tup p xs _ e aa =>
    have lx := aa.len
    refine ⟨p, rfl, ⟨xs, gr_T (hG _ _ _ h0) e⟩, for_it (walk_tup (K := K) (a := p) (xs := xs)) Pv h0 (fun i σ' H' _ z => gr_T (hG _ _ _ z) e) ?_ (fun σ' H' z => hd σ' H' (by rw [← lx]; exact z))⟩
    rintro i x σ' H' H'' hi z ⟨rfl, hx⟩
    obtain ⟨y, hy, ay⟩ := aa.at hx
    exact step i y x σ' H'' hy z (ay.gr (hG _ _ _ z))
def mirKv : List (Key × V) := [(Sum.inr "a", .str "b"), (Sum.inr "b", .str "a"), (Sum.inr "kept", .str "kept")]
theorem mk_dispget {t : Str} (ht : t ∈ tiesL) (h : Mk K ty σ H (.str t)) : Mk K (tDGet (tDisp [(tC (.str "a"), tC (.str "b")), (tC (.str "b"), tC (.str "a")), (tC (.str "kept"), tC (.str "kept"))]) ty) σ H (.str (mirT t)) := fun H1 s Q q p np => by
  have h0 : (upd H1 p (.dK [])) p = some (.dK []) := upd_same
  refine ⟨h0, mirKv, rfl, (show 3 ≤ 15 by decide), ?_⟩
  rw [show mergeK [] mirKv = mirKv by decide +kernel]
  have s1 : Same H1 (upd (upd H1 p (.dK [])) p (.dK mirKv)) := same_mut (same_new np) np
  refine h _ (s.trans s1) _ fun v H3 s3 a => ?_
  cases a
  have hp : H3 p = some (.dK mirKv) := s3 _ _ upd_same
  refine ⟨p, .str (mirT t), rfl, ?_, q _ H3 (s1.trans s3) (.str _)⟩
  have e : valV mirKv (Sum.inr t) = some (.str (mirT t)) := by
    simp only [tiesL, List.mem_cons, List.not_mem_nil, or_false] at ht
    rcases ht with rfl | rfl | rfl <;> decide +kernel
  rw [← e]
  exact DGet.k (k := Sum.inr t) hp
theorem mt_isN {z : Str} (h : Mk K ta σ H (.str z)) : MkT (tTest (tOp (fun x y H Q => y = V.non ∧ Q (.bl (decide (x = V.non))) H) ta (tC .non))) σ H false := fun H1 s Q q => h H1 s _ fun v H2 s2 a => by
  cases a
  exact ⟨rfl, false, rfl, q H2 s2⟩
theorem mt_isNN (h : Mk K ta σ H .non) : MkT (tTest (tOp (fun x y H Q => y = V.non ∧ Q (.bl (decide (x = V.non))) H) ta (tC .non))) σ H true := fun H1 s Q q => h H1 s _ fun v H2 s2 a => by
  cases a
  exact ⟨rfl, true, rfl, q H2 s2⟩
theorem mk_sl2 {d1 d2 d3 : D} (h : Mk K ta σ H (.tup [d1, d2, d3])) : Mk K (tSl (rSlT K) ta tNoPart (tPart (tC (.int 2)))) σ H (.tup [d1, d2]) := fun H1 s Q q => h H1 s _ fun v H2 s2 a => by
  cases a with
  | @tup p xs _ e aa =>
    obtain ⟨v1, v2, v3, rfl, a1, a2, a3⟩ := aa.three
    refine ⟨2, rfl, p, _, rfl, e, (show ¬ (HT.sIx 3 0 none = 0 ∧ HT.sIx 3 3 (some 2) = 3) by decide), fun w nw => ?_⟩
    exact q _ _ (s2.trans (same_new nw)) (.tup (SqT.of upd_same) (.cons (a1.gr (same_new nw)) (.cons (a2.gr (same_new nw)) .nil)))
theorem mk_catT {d1 : D} {es : List D} (h : Mk K ta σ H (.tup (d1 :: ds))) (h2 : Mk K tb σ H (.tup (d :: es))) (z : ds.length + es.length ≤ 1000) : Mk K (tOp (rCatT K) ta tb) σ H (.tup ((d1 :: ds) ++ (d :: es))) := fun H1 s Q q => h H1 s _ fun v H2 s2 a => h2 H2 (s.trans s2) _ fun u H3 s3 b => by
  cases a with
  | @tup p xs _ e aa =>
  cases b with
  | @tup p2 ys _ e2 bb =>
    have l1 := aa.len
    have l2 := bb.len
    rw [List.length_cons] at l1 l2
    refine ⟨p, p2, xs, ys, rfl, rfl, gr_T s3 e, e2, (fun z => by rw [z] at l1; cases l1), sz1 (by omega), (fun z => by rw [z] at l2; cases l2), fun _ w nw => ?_⟩
    exact q _ _ ((s2.trans s3).trans (same_new nw)) (.tup (SqT.of upd_same) (((aa.gr s3).app bb).gr (same_new nw)))
end
section
variable {P : Program} {w : World} {K : PySem.W.Frag} {mg : Str → Option Value} {base : Heap} {pT : Addr}
theorem ok_OH {f : Addr} {fd : FuncData} (F : L2.Fun K "_law_other_home" "_law_other_home" sOH f fd) (B : Blt mg) (Z : Blt2 mg) : FnOk P w K mg base CX0 1 f fd ["home"] (spP K fMirrored) := by
  refine F.ok scOH (fun vs H Q E h => ?_) (fun cdv A outer s H vs Q E hr h => ?_)
  · obtain ⟨_, _, ha, ⟨x, rfl, _⟩, _⟩ := h
    exact ha.len
  · obtain ⟨_, _, ha, ⟨x, rfl, ok, rfl⟩, k⟩ := h
    obtain ⟨v1, rfl, x1⟩ := ha.one
    have ok3 := ok.n3
    have eb : (mirH x).bodies = x.bodies.map fun b => b.map mirSeat := rfl
    refine ⟨_, (pss_cons (ps_set (i := 1) scOH.nd rfl (Or.inl rfl) (pe_lst pa_nil))
  (pss_cons (ps_for PassesOwn.never rfl (pi_tup (pe_ix ix_tup (pv 0) pe_int (fun _ _ => rfl))) (pg_name (i := 2) scOH.nd rfl (Or.inl rfl))
  (pss_cons (ps_set (i := 3) scOH.nd rfl (Or.inl rfl) (pe_lst pa_nil))
  (pss_cons (ps_for PassesOwn.never rfl (pi_tup (pv 2)) (pg_tup rfl (pgs_cons (pg_name (i := 4) scOH.nd rfl (Or.inl rfl)) (pgs_cons (pg_name (i := 5) scOH.nd rfl (Or.inl rfl)) (pgs_cons (pg_name (i := 6) scOH.nd rfl (Or.inl rfl)) pgs_nil))))
  (pss_cons (ps_set (i := 7) scOH.nd rfl (Or.inl rfl) (pe_ifExp (pt_cmpR op_eq (pe_callB call_len_seq (by rfl) B.len PySem.boot_len (pa_cons (pv 6) pa_nil)) pe_int (nomark _)) (pe_dget (hu_of hr) (pe_disp (pps_cons pe_str pe_str (pps_cons pe_str pe_str (pps_cons pe_str pe_str pps_nil))) (by rfl) (by rfl) (fun z => by cases z) (by decide)) (pe_ix ix_tup (pv 6) pe_int (fun _ _ => rfl)) (fun _ _ => rfl)) pe_non))
  (pss_one (ps_expr (pe_bm PySem.F.plainAttrs_list PySem.F.slot_list_append PySem.F.type_list_append mt_append (pv 3) (pa_cons (pe_tup (pa_cons (pv 4) (pa_cons (pv 5) (pa_cons (pe_ifExp (pt_cmpR op_isN (pv 7) pe_non (nomark _)) (pv 6) (pe_op op_catT (pe_slice sl_tup (pv 6) po_none (po_some pe_int)) (pe_tup (pa_cons (pv 7) pa_nil)))) pa_nil)))) pa_nil))))))
  (pss_one (ps_expr (pe_bm PySem.F.plainAttrs_list PySem.F.slot_list_append PySem.F.type_list_append mt_append (pv 1) (pa_cons (pe_callTy call_tuple_of (by rfl) Z.tuple (by decide +kernel) (pa_cons (pv 3) pa_nil)) pa_nil)))))))
  (pss_one (ps_ret (pe_tup (pa_cons (pe_callTy call_tuple_of (by rfl) Z.tuple (by decide +kernel) (pa_cons (pv 1) pa_nil)) (pa_cons (pe_ix ix_tup (pv 0) pe_int (fun _ _ => rfl)) pa_nil))))))), ?_⟩
    walk_at "rd"
    refine ⟨Nat.zero_le _, fun p np => ?_⟩
    walk_at "st"
    have s1 : Same H (upd H p (.lst [])) := same_new np
    refine r_forT (H0 := H) (ds := x.bodies.map bodyD) (ev0_ix s1 rfl x1) (fun j σ H' => ∃ (o2 o3 o4 o5 o6 o7 : Option V) (xs : List V), σ = [some v1, some (.ref p), o2, o3, o4, o5, o6, o7] ∧ H' p = some (.lst xs) ∧ xs.length = j ∧ DtA K H' xs (((mirH x).bodies.take j).map bodyD) ∧ Same H H')
      ⟨_, _, _, _, _, _, [], rfl, upd_same, rfl, .nil, s1⟩ (fun j σ' H' z => by obtain ⟨_, _, _, _, _, _, _, _, _, _, _, z⟩ := z; exact z) ?_ ?_
    · rintro j d y σ H3 hj ⟨o2, o3, o4, o5, o6, o7, xs, rfl, hp, lx, ax, s3⟩ ay
      obtain ⟨b, hb, rfl⟩ := at_map hj
      have mb := List.mem_of_getElem? hb
      have b9 := (ok.b b mb).2
      have j3 : j < 3 := by have := (List.getElem?_eq_some_iff.mp hb).1; omega
      refine r_seq (r_asg (r_lst (r_nil ⟨Nat.zero_le _, fun q nq => ?_⟩)))
      walk_at "st"
      have s5 : Same H3 (upd H3 q (.lst [])) := same_new nq
      refine r_forTg (H0 := H3) (ds := b.map Seat.d) (ev0_var rfl ay) (fun i σ H' => ∃ (o4 o5 o6 o7 : Option V) (zs : List V), σ = [some v1, some (.ref p), some y, some (.ref q), o4, o5, o6, o7] ∧ H' q = some (.lst zs) ∧ zs.length = i ∧ DtA K H' zs (((b.map mirSeat).take i).map Seat.d) ∧ Same H3 H')
        ⟨_, _, _, _, [], rfl, upd_same, rfl, .nil, s5⟩ (fun j σ' H' z => by obtain ⟨_, _, _, _, _, _, _, _, _, z⟩ := z; exact z) ?_ ?_
      · rintro i d z σ H5 hi ⟨o4, o5, o6, o7, zs, rfl, hq, lz, az, s6⟩ ad
        obtain ⟨st, hst, rfl⟩ := at_map hi
        have okS := ok.s b mb st (List.mem_of_getElem? hst)
        have i9 : i < 9 := by have := (List.getElem?_eq_some_iff.mp hst).1; omega
        refine r_unp3 ad fun w1 w2 w3 e1 e2 e3 => ?_
        walk_at "st"
        have tst : ∀ {ds : List D}, Dt K H5 w3 (.tup ds) → MkT (tTest (tOp rEq (tCB (fun xs H Q => ∃ p ys, xs = [.ref p] ∧ (SqL K H p ys ∨ SqT K H p ys) ∧ Q (.int ys.length) H) (tCons (tVar 6) tNil)) (tC (.int 3)))) [some v1, some (.ref p), some y, some (.ref q), some w1, some w2, some w3, o7] H5 (decide ((ds.length : Int) = 3)) := fun a =>
          mt_test (mk_eqI (mk_lenT (mk_var rfl a)) mk_int)
        have hms : ((b.map mirSeat))[i]? = some (mirSeat st) := by rw [List.getElem?_map, hst]; rfl
        have tk : (b.map mirSeat).take (i + 1) = (b.map mirSeat).take i ++ [mirSeat st] := by rw [List.take_add_one, hms]; rfl
        -- the tie, and the seat put down
        have fin : ∀ {D0 : Ends} (hN : ∀ σ' H', (∃ (o4 o5 o6 o7 : Option V) (zs : List V), σ' = [some v1, some (.ref p), some y, some (.ref q), o4, o5, o6, o7] ∧ H' q = some (.lst zs) ∧ zs.length = i + 1 ∧ DtA K H' zs (((b.map mirSeat).take (i + 1)).map Seat.d) ∧ Same H3 H') → D0.nx σ' H') {te : TE} (H6 : Hp) (v7 : V), Same H5 H6 →
            Mk K te [some v1, some (.ref p), some y, some (.ref q), some w1, some w2, some w3, some v7] H6 (mirSeat st).d → tDrop (tBM K "list" rAppend (tVar 3) (tCons te tNil)) D0 [some v1, some (.ref p), some y, some (.ref q), some w1, some w2, some w3, some v7] H6 := by
          intro D0 hN te H6 v7 s7 m
          refine r_app (K := K) rfl (s7 _ _ hq) (by omega) m fun v H7 s8 a => ?_
          have hq7 := s8 _ _ (s7 _ _ hq)
          have kt : KT H7 (upd H7 q (.lst (zs ++ [v]))) := KT.updL hq7
          refine hN _ _ ⟨_, _, _, _, zs ++ [v], rfl, upd_same, by rw [List.length_append, lz]; rfl, ?_, same_mut ((s6.trans s7).trans s8) nq⟩
          rw [tk, List.map_append]
          exact (DtA.kt kt (az.gr (s7.trans s8)) (nlA_map nl_seat _)).app (.cons (Dt.kt kt a (nl_seat _)) .nil)
        obtain ⟨tm, ph, wy⟩ := st
        have okw := okS.w
        have one : ∀ {xs : List D}, Dt K H5 w3 (.tup xs) → decide ((xs.length : Int) = 3) = false → D.tup [.int tm, .int ph, .tup xs] = (mirSeat ⟨tm, ph, wy⟩).d → ∀ {D0 : Ends} (hN : ∀ σ' H', (∃ (o4 o5 o6 o7 : Option V) (zs : List V), σ' = [some v1, some (.ref p), some y, some (.ref q), o4, o5, o6, o7] ∧ H' q = some (.lst zs) ∧ zs.length = i + 1 ∧ DtA K H' zs (((b.map mirSeat).take (i + 1)).map Seat.d) ∧ Same H3 H') → D0.nx σ' H') (tb : TE) (tc : TE),
            tSeq (tAsg (tIf (tTest (tOp rEq (tCB (fun xs H Q => ∃ p ys, xs = [.ref p] ∧ (SqL K H p ys ∨ SqT K H p ys) ∧ Q (.int ys.length) H) (tCons (tVar 6) tNil)) (tC (.int 3)))) tb (tC .non)) (gName 7))
              (tDrop (tBM K "list" rAppend (tVar 3) (tCons (tTup (tCons (tVar 4) (tCons (tVar 5) (tCons (tIf (tTest (tOp (fun x y H Q => y = V.non ∧ Q (.bl (decide (x = V.non))) H) (tVar 7) (tC .non))) (tVar 6) tc) tNil)))) tNil))) D0 [some v1, some (.ref p), some y, some (.ref q), some w1, some w2, some w3, o7] H5 := by
          intro xs aw hx eq D0 hN tb tc
          walk_at "st"
          have m := ifE (K := K) (d1 := .non) (ta := tb) (tst aw) (fun h => by rw [hx] at h; cases h) (fun _ => mk_non)
          rw [ite_self] at m
          refine m H5 Gr.rfl' _ fun v7 H6 s7 a7 => ?_
          walk_at "st"
          have m3 := ifE (K := K) (ta := tVar 6) (tb := tc) (d1 := .tup xs) (d2 := .tup xs) (σ := [some v1, some (.ref p), some y, some (.ref q), some w1, some w2, some w3, some v7]) (mt_isNN (mk_var (n := 7) rfl a7)) (fun _ => mk_var (n := 6) rfl (aw.gr s7)) (fun h => by cases h)
          rw [ite_self] at m3
          refine fin hN H6 v7 s7 ?_
          rw [← eq]
          exact mk_tup (mka_cons (mk_var (n := 4) rfl (e1.gr s7)) (mka_cons (mk_var (n := 5) rfl (e2.gr s7)) (mka_cons m3 mka_nil))) (show 3 ≤ 100000 by decide)
        have two : ∀ {wd : Str} {b0 : Nat} {t : Str}, t ∈ tiesL → Dt K H5 w3 (.tup [.str wd, .int b0, .str t]) → D.tup [.int tm, .int ph, .tup [.str wd, .int b0, .str (mirT t)]] = (mirSeat ⟨tm, ph, wy⟩).d → ∀ {D0 : Ends} (hN : ∀ σ' H', (∃ (o4 o5 o6 o7 : Option V) (zs : List V), σ' = [some v1, some (.ref p), some y, some (.ref q), o4, o5, o6, o7] ∧ H' q = some (.lst zs) ∧ zs.length = i + 1 ∧ DtA K H' zs (((b.map mirSeat).take (i + 1)).map Seat.d) ∧ Same H3 H') → D0.nx σ' H'),
            tSeq (tAsg (tIf (tTest (tOp rEq (tCB (fun xs H Q => ∃ p ys, xs = [.ref p] ∧ (SqL K H p ys ∨ SqT K H p ys) ∧ Q (.int ys.length) H) (tCons (tVar 6) tNil)) (tC (.int 3)))) (tDGet (tDisp [(tC (.str "a"), tC (.str "b")), (tC (.str "b"), tC (.str "a")), (tC (.str "kept"), tC (.str "kept"))]) (tOp (rIxT K) (tVar 6) (tC (.int 2)))) (tC .non)) (gName 7))
              (tDrop (tBM K "list" rAppend (tVar 3) (tCons (tTup (tCons (tVar 4) (tCons (tVar 5) (tCons (tIf (tTest (tOp (fun x y H Q => y = V.non ∧ Q (.bl (decide (x = V.non))) H) (tVar 7) (tC .non))) (tVar 6) (tOp (rCatT K) (tSl (rSlT K) (tVar 6) tNoPart (tPart (tC (.int 2)))) (tTup (tCons (tVar 7) tNil)))) tNil)))) tNil))) D0 [some v1, some (.ref p), some y, some (.ref q), some w1, some w2, some w3, o7] H5 := by
          intro wd b0 t ht aw eq D0 hN
          walk_at "st"
          have m := ifE (K := K) (tb := tC .non) (d2 := .non) (tst aw) (fun _ => mk_dispget ht (mk_ixT (i := 2) (mk_var (n := 6) rfl aw) (mk_int (i := 2)) rfl)) (fun h => absurd h (show ¬ decide ((3 : Int) = 3) = false by decide))
          have m := (show (if decide (([D.str wd, D.int b0, D.str t].length : Int) = 3) = true then D.str (mirT t) else D.non) = D.str (mirT t) from if_pos rfl) ▸ m
          refine m H5 Gr.rfl' _ fun v7 H6 s7 a7 => ?_
          walk_at "st"
          have m3 := ifE (K := K) (ta := tVar 6) (d1 := .non) (σ := [some v1, some (.ref p), some y, some (.ref q), some w1, some w2, some w3, some v7]) (mt_isN (mk_var (n := 7) rfl a7)) (fun h => by cases h) (fun _ => mk_catT (mk_sl2 (mk_var (n := 6) rfl (aw.gr s7))) (mk_tup (mka_cons (mk_var (n := 7) rfl a7) mka_nil) (show 1 ≤ 100000 by decide)) (by simp))
          rw [if_neg (by decide)] at m3
          refine fin hN H6 v7 s7 ?_
          rw [← eq]
          exact mk_tup (mka_cons (mk_var (n := 4) rfl (e1.gr s7)) (mka_cons (mk_var (n := 5) rfl (e2.gr s7)) (mka_cons m3 mka_nil))) (show 3 ≤ 100000 by decide)
        cases wy with
        | kept => exact one (xs := [.str "kept"]) e3 (show decide ((1 : Int) = 3) = false by decide) rfl (fun _ _ z => z) _ _
        | ward w0 => exact one (xs := [.str "ward", .int w0]) e3 (show decide ((2 : Int) = 3) = false by decide) rfl (fun _ _ z => z) _ _
        | body b0 t => exact two okw.2 e3 rfl (fun _ _ z => z)
        | rest b0 t => exact two okw.2 e3 rfl (fun _ _ z => z)
      · rintro σ H5 ⟨o4, o5, o6, o7, zs, rfl, hq, lz, az, s6⟩
        rw [List.length_map, show (b.map mirSeat).take b.length = b.map mirSeat by rw [← List.length_map (f := mirSeat), List.take_length]] at az
        walk_at "st"
        refine r_app (K := K) (d := bodyD (b.map mirSeat)) rfl (s6 _ _ hp) (by omega) (mk_tupL (mk_var (n := 3) rfl (.lst hq az))) fun v H6 s7 a => ?_
        walk_at "st"
        have hp6 := s7 _ _ (s6 _ _ hp)
        have kt : KT H6 (upd H6 p (.lst (xs ++ [v]))) := KT.updL hp6
        refine ⟨_, _, _, _, _, _, xs ++ [v], rfl, upd_same, by rw [List.length_append, lx]; rfl, ?_, same_mut (s3.trans (s6.trans s7)) np⟩
        have hmb : (mirH x).bodies[j]? = some (b.map mirSeat) := by rw [eb, List.getElem?_map, hb]; rfl
        rw [List.take_add_one, hmb, List.map_append]
        exact (DtA.kt kt (ax.gr (s6.trans s7)) (nlA_map nl_body _)).app (.cons (Dt.kt kt a (nl_body _)) .nil)
    · rintro σ H3 ⟨o2, o3, o4, o5, o6, o7, xs, rfl, hp, lx, ax, s3⟩
      rw [List.length_map, show (mirH x).bodies.take x.bodies.length = (mirH x).bodies by rw [eb, ← List.length_map (f := fun b : List Seat => b.map mirSeat), List.take_length]] at ax
      walk_at "st"
      exact mk_tup (mka_cons (mk_tupL (mk_var (n := 1) rfl (.lst hp ax))) (mka_cons (mk_ixT (i := 1) (mk_var (n := 0) rfl (x1.gr s3)) (mk_int (i := 1)) (d := .int x.wards) rfl) mka_nil)) (show 2 ≤ 100000 by decide) H3 Gr.rfl' _ fun v H4 s4 a => k v H4 (s3.trans s4) a
end
end TSx

namespace TSx
open PySem L2
local macro_rules | `(tactic| walk_at "rd") => `(tactic| repeat (first
  | ((with_reducible show tVar _ _ _ _); refine r_v rfl ?_)
  | with_reducible refine r_c ?_
  | with_reducible refine r_op ?_
  | with_reducible refine r_I0 ?_
  | with_reducible refine r_cb ?_
  | with_reducible refine r_nil ?_
  | with_reducible refine r_cons ?_
  | with_reducible refine r_seq ?_
  | with_reducible refine r_next ?_
  | with_reducible refine r_asg ?_
  | with_reducible refine r_name ?_
  | with_reducible refine r_ret ?_
  | with_reducible refine r_drop ?_
  | with_reducible refine r_if ?_
  | with_reducible refine r_test ?_
  | with_reducible refine r_bl ?_
  | with_reducible refine r_call ?_))
local macro_rules | `(tactic| walk_at "st") => `(tactic| repeat (first
  | with_reducible refine r_seq ?_
  | with_reducible refine r_next ?_
  | with_reducible refine r_asg ?_
  | with_reducible refine r_name ?_
  | with_reducible refine r_ret ?_
  | with_reducible refine r_drop ?_
  | with_reducible refine r_if ?_))
local macro_rules | `(tactic| walk_at "mk") => `(tactic| repeat (first
  | with_reducible exact mk_non
  | with_reducible exact mk_int
  | with_reducible exact mk_str
  | with_reducible exact mk_bl
  | with_reducible exact mk_dic
  | with_reducible exact mka_nil
  | with_reducible refine mka_cons ?_ ?_
  | ((with_reducible refine mk_tup ?_ ?hz); (case hz => decide))
  | ((with_reducible refine mk_lst ?_ ?hz); (case hz => decide))
  | with_reducible refine mk_neg ?_))
abbrev sTR : Stmt := top 67
theorem scTR : FnScope ["home", "first", "other", "due", "told", "low", "high", "twice", "sides", "side", "k", "row"] ["home", "first", "other"] (defScope sTR) := ⟨rfl, rfl, rfl, by decide +kernel, rfl, by decide +kernel, by decide +kernel⟩
def fTwo (ds : List D) (r : D) : Prop := ∃ (h : House) (s t : List (List Bool)), ds = [h.d, standD s, standD t] ∧ h.ok ∧ Fits h s ∧ Fits h t ∧ r = .bl true
theorem mixS_range : ∀ (s t : List (List Bool)) (b : Bool), s.length = t.length → (List.range s.length).map (fun k => mixL (s.getD k []) (t.getD k []) b) = mixS s t b
  | [], _, _, _ => rfl
  | a :: l, [], _, h => by cases h
  | a :: l, c :: m, b, h => by
    have ih := mixS_range l m b (by simpa using h)
    rw [List.length_cons, List.range_succ_eq_map, List.map_cons, List.map_map]
    show _ :: _ = mixL a c b :: mixS l m b
    rw [← ih]
    rfl
theorem sm_bl {b : Bool} : Sm 20 0 (.bl b) := by
  cases b
  · exact ⟨rfl, by simp [D.pd, PyData.showable], by simp [D.pd, PyData.leavesShort], by simp [D.pd, PyData.weight], by simp [D.pd, PyData.depth]⟩
  · exact ⟨rfl, by simp [D.pd, PyData.showable], by simp [D.pd, PyData.leavesShort], by simp [D.pd, PyData.weight], by simp [D.pd, PyData.depth]⟩
theorem fits_mixS {x : House} {s t : List (List Bool)} (b : Bool) (f : Fits x s) (g : Fits x t) : Fits x (mixS s t b) := by
  have gen : ∀ (s t : List (List Bool)), s.map List.length = t.map List.length → (mixS s t b).map List.length = s.map List.length := by
    intro s
    induction s with
    | nil => intro t _; rfl
    | cons a s ih =>
      intro t h
      cases t with
      | nil => cases h
      | cons c t =>
        rw [List.map_cons, List.map_cons, List.cons.injEq] at h
        show (mixL a c b).length :: (mixS s t b).map List.length = a.length :: s.map List.length
        rw [ih t h.2]
        unfold mixL
        rw [List.length_map, List.length_zip, h.1, Nat.min_self]
  exact (gen s t (fits_two f g)).trans f
theorem fits_ends {x : House} (b : Bool) : Fits x (endS x b) := by
  unfold Fits endS
  rw [List.map_map]
  exact List.map_congr_left fun y _ => List.length_replicate
theorem rd_five {x : House} {s t : List (List Bool)} {a b c : Bool} (ok : x.ok) (f : Fits x s) (g : Fits x t) : (D.lst ([.bl a, .bl b, .bl c] ++ [standD s, standD t])).rd := by
  refine (sm_lst (w := 30) (k := 1) (m := 5) (fun d hd => ?_) (by simp)).rd (by decide) (by decide)
  simp only [List.cons_append, List.nil_append, List.mem_cons, List.mem_nil_iff, or_false] at hd
  rcases hd with rfl | rfl | rfl | rfl | rfl
  · exact sm_bl.up (by decide) (by decide)
  · exact sm_bl.up (by decide) (by decide)
  · exact sm_bl.up (by decide) (by decide)
  · exact sm_fits ok f
  · exact sm_fits ok g
theorem rd_ends {x : House} (ok : x.ok) : (D.tup [standD (endS x false), standD (endS x true)]).rd := by
  refine (sm_tup (w := 30) (k := 1) (m := 2) (fun d hd => ?_) (by simp)).rd (by decide) (by decide)
  simp only [List.mem_cons, List.mem_nil_iff, or_false] at hd
  rcases hd with rfl | rfl
  · exact sm_fits ok (fits_ends _)
  · exact sm_fits ok (fits_ends _)
section
variable {K : PySem.W.Frag} {σ : Sg} {H H0 : Hp} {te ta tb tc ti : TE} {α : Type}
/-- [e for x in tuple], the tuple made anew, results without parts -/
theorem mk_lcNM {i : Nat} {l : List α} {g f : α → D} (h : Mk K ti σ H (.tup (l.map g))) (hf : ∀ a, (f a).nl = true) (hl : l.length ≤ 1000) (step : ∀ a ∈ l, ∀ x H1, Same H H1 → Dt K H1 x (g a) → Mk K te ((σ.set i none).set i (some x)) H1 (f a)) :
    Mk K (tLc (iTup K ti) (gName i) tYes te [i]) σ H (.lst (l.map f)) := fun H0 s0 Q q => h H0 s0 _ fun v H1 s1 a => by
  have s := s0.trans s1
  cases a with
  | @tup p xs _ e aa =>
    have lx := aa.len
    rw [List.length_map] at lx
    refine ⟨p, rfl, ⟨xs, e⟩, fun L nL => lc_flatN (K := K) (walk_tup (K := K) (a := p) (xs := xs)) (fun k => (l[k]?).map f) (fun k d hk => ?_) nL (fun H' s' => gr_T s' e) (by omega) ?_ ?_⟩
    · cases hd : l[k]? with
      | none => rw [hd] at hk; cases hk
      | some y => rw [hd] at hk; cases hk; exact hf y
    · rintro k x H' H'' hk s' ⟨rfl, hx⟩
      obtain ⟨y, hy, ay⟩ := aa.at hx
      obtain ⟨b, hb, rfl⟩ := at_map hy
      refine ⟨Gr.rfl', fun R r => r_name (r _ ?_ (fun d hd => ⟨fun H2 s2 Q2 q2 => q2 H2 Gr.rfl', ?_⟩) fun hd => ?_)⟩
      · show ((σ.set i none).set i (some x)).set i none = σ.set i none
        rw [List.set_set, List.set_set]
      · rw [hb] at hd
        cases hd
        exact step b (List.mem_of_getElem? hb) x _ (s.trans s') (ay.gr s')
      · rw [hb] at hd; cases hd
    · intro H' ys s' e' a'
      refine q _ _ (s1.trans s') (.lst e' ?_)
      rw [lx, fm_get f l] at a'
      exact a'
end
section
variable {P : Program} {w : World} {K : PySem.W.Frag} {mg : Str → Option Value} {base : Heap} {pT : Addr}
theorem ok_TR {f fA fI fM fL fU fE fK : Addr} {fd fdA fdI fdM fdL fdU fdE fdK : FuncData} (F : L2.Fun K "_law_two_right" "_law_two_right" sTR f fd) (B : Blt mg) (Z : Blt2 mg)
    (d_law_above : Dok P w K mg base 2 "_law_above" ["first", "other"] (spP K fAbove) fA fdA) (dis_above : Dok P w K mg base 7 "is_above" ["house", "stand", "other"] (spP K fIsAbove) fI fdI)
    (d_law_mixed_letters : Dok P w K mg base 1 "_law_mixed_letters" ["one", "other", "word"] (spP K fMixL) fM fdM) (dlower : Dok P w K mg base 7 "lower" ["house", "stand", "other"] (spP K (fMix false)) fL fdL)
    (dupper : Dok P w K mg base 7 "upper" ["house", "stand", "other"] (spP K (fMix true)) fU fdU) (dends : Dok P w K mg base 6 "ends" ["house"] (spP K fEnds) fE fdE)
    (d_law_like : DoG P w K mg base 1 "_law_like" ["heard", "due"] (spLike K) fK fdK) : FnG P w K mg base CX0 8 f fd ["home", "first", "other"] (spP K fTwo) := by
  refine fnG_of0 F scTR (fun vs H Q E h => ?_) (fun cdv A outer s H vs Q E g hr h => ?_)
  · obtain ⟨_, _, ha, ⟨x, l, m, rfl, _⟩, _⟩ := h
    exact ha.len
  · obtain ⟨_, _, ha, ⟨x, l, m, rfl, ok, f1, f2, rfl⟩, k⟩ := h
    obtain ⟨v1, v2, v3, rfl, x1, x2, x3⟩ := ha.three
    have g2 := guards_deeper g (PyProof.Rows.envOfC "_law_two_right" (defScope sTR) s.heap.objs.size f cdv)
    have eq := fits_two f1 f2
    have e2 : l.length = m.length := by simpa using congrArg List.length eq
    have sm := fits_small ok f1
    have sn := fits_small ok f2
    have ok3 := ok.n3
    refine ⟨_, (pss_cons (ps_set (i := 3) scTR.nd rfl (Or.inl rfl) (pe_lst (pa_cons (pe_call d_law_above.G (hr.mono (by decide)) rfl d_law_above.g d_law_above.k d_law_above.b .nil pass0 (pa_cons (pv 1) (pa_cons (pv 2) pa_nil))) (pa_cons (pe_call d_law_above.G (hr.mono (by decide)) rfl d_law_above.g d_law_above.k d_law_above.b .nil pass0 (pa_cons (pv 2) (pa_cons (pv 1) pa_nil))) (pa_cons pe_bl pa_nil)))))
  (pss_cons (ps_set (i := 4) scTR.nd rfl (Or.inl rfl) (pe_lst (pa_cons (pe_call dis_above.G (hr.mono (by decide)) rfl dis_above.g dis_above.k dis_above.b .nil pass0 (pa_cons (pv 0) (pa_cons (pv 1) (pa_cons (pv 2) pa_nil)))) (pa_cons (pe_call dis_above.G (hr.mono (by decide)) rfl dis_above.g dis_above.k dis_above.b .nil pass0 (pa_cons (pv 0) (pa_cons (pv 2) (pa_cons (pv 1) pa_nil)))) (pa_cons (pe_call dis_above.G (hr.mono (by decide)) rfl dis_above.g dis_above.k dis_above.b .nil pass0 (pa_cons (pv 0) (pa_cons (pv 1) (pa_cons (pv 1) pa_nil)))) pa_nil)))))
  (pss_cons (ps_set (i := 5) scTR.nd rfl (Or.inl rfl) (pe_callTy call_tuple_of (by rfl) Z.tuple (by decide +kernel) (pa_cons (pe_lc (own := [("k", 10)]) (g := gName 10) (tt := tYes) rfl scTR.nd (pi_range1 rfl B.range (pa_cons (pe_callB call_len_seq (by rfl) B.len PySem.boot_len (pa_cons (pv 1) pa_nil)) pa_nil)) (blkOk_by (N := ["home", "first", "other", "due", "told", "low", "high", "twice", "sides", "side", "k", "row"]) (sc := defScope sTR) (by decide +kernel)) (fun _ _ _ _ _ => pg_name (i := 10) scTR.nd rfl (Or.inl rfl)) (fun _ _ _ _ _ => pts_nil) (fun _ _ _ _ _ => (pe_call d_law_mixed_letters.G (hr.mono (by decide)) rfl d_law_mixed_letters.g d_law_mixed_letters.k d_law_mixed_letters.b .nil pass0 (pa_cons (pe_ix (ix_tupK (K := K) rfl) (pv 1) (pv 10) (fun _ _ => rfl)) (pa_cons (pe_ix (ix_tupK (K := K) rfl) (pv 2) (pv 10) (fun _ _ => rfl)) (pa_cons pe_str pa_nil)))))) pa_nil)))
  (pss_cons (ps_set (i := 6) scTR.nd rfl (Or.inl rfl) (pe_callTy call_tuple_of (by rfl) Z.tuple (by decide +kernel) (pa_cons (pe_lc (own := [("k", 10)]) (g := gName 10) (tt := tYes) rfl scTR.nd (pi_range1 rfl B.range (pa_cons (pe_callB call_len_seq (by rfl) B.len PySem.boot_len (pa_cons (pv 1) pa_nil)) pa_nil)) (blkOk_by (N := ["home", "first", "other", "due", "told", "low", "high", "twice", "sides", "side", "k", "row"]) (sc := defScope sTR) (by decide +kernel)) (fun _ _ _ _ _ => pg_name (i := 10) scTR.nd rfl (Or.inl rfl)) (fun _ _ _ _ _ => pts_nil) (fun _ _ _ _ _ => (pe_call d_law_mixed_letters.G (hr.mono (by decide)) rfl d_law_mixed_letters.g d_law_mixed_letters.k d_law_mixed_letters.b .nil pass0 (pa_cons (pe_ix (ix_tupK (K := K) rfl) (pv 1) (pv 10) (fun _ _ => rfl)) (pa_cons (pe_ix (ix_tupK (K := K) rfl) (pv 2) (pv 10) (fun _ _ => rfl)) (pa_cons pe_str pa_nil)))))) pa_nil)))
  (pss_cons (ps_for PassesOwn.never rfl (pi_range1 rfl B.range (pa_cons pe_int pa_nil)) (pg_name (i := 7) scTR.nd rfl (Or.inl rfl))
  (pss_one (ps_if (pt_not (pt_val (pe_callG d_law_like.G g2 (hr.mono (by decide)) rfl d_law_like.g d_law_like.k d_law_like.b pass0 (pa_cons (pe_op op_cat (pv 4) (pe_lst (pa_cons (pe_call dlower.G (hr.mono (by decide)) rfl dlower.g dlower.k dlower.b .nil pass0 (pa_cons (pv 0) (pa_cons (pv 1) (pa_cons (pv 2) pa_nil)))) (pa_cons (pe_call dupper.G (hr.mono (by decide)) rfl dupper.g dupper.k dupper.b .nil pass0 (pa_cons (pv 0) (pa_cons (pv 1) (pa_cons (pv 2) pa_nil)))) pa_nil)))) (pa_cons (pe_op op_cat (pv 3) (pe_lst (pa_cons (pv 5) (pa_cons (pv 6) pa_nil)))) pa_nil))))) (pss_one (ps_ret pe_bl)) pss_nil)))
  (pss_cons (ps_setLc (i := 8) (own := [("side", 9)]) (g := gName 9) (tt := tYes) rfl scTR.nd rfl rfl (sw_true rfl rfl rfl (by decide +kernel)) (pi_tup (pe_tup (pa_cons pe_str (pa_cons pe_str pa_nil)))) (blkOk_by (N := ["home", "first", "other", "due", "told", "low", "high", "twice", "sides", "side", "k", "row"]) (sc := defScope sTR) (by decide +kernel)) (fun _ _ _ _ _ => pg_name (i := 9) scTR.nd rfl (Or.inr rfl)) (fun _ _ _ _ _ => pts_nil) (fun _ _ _ _ _ => (pe_callTy (T := "tuple") (call_tuple_ofK (K := K) rfl) (by rfl) Z.tuple (by decide +kernel) (pa_cons (pe_lc (own := [("row", 11)]) (g := gName 11) (tt := tYes) rfl scTR.nd (pi_tupK (K := K) rfl (pe_ix (ix_tupK (K := K) rfl) (pv 0) pe_int (fun _ _ => rfl))) (blkOk_by (by rfl)) (fun _ _ _ _ _ => pg_name (i := 11) scTR.nd rfl (Or.inl rfl)) (fun _ _ _ _ _ => pts_nil) (fun _ _ _ _ _ => (pe_op op_mulS (pv 9) (pe_callB (call_lenK (K := K) rfl) (by rfl) B.len PySem.boot_len (pa_cons (pv 11) pa_nil))))) pa_nil))))
  (pss_one (ps_ret (pe_callG d_law_like.G g2 (hr.mono (by decide)) rfl d_law_like.g d_law_like.k d_law_like.b pass0 (pa_cons (pe_call dends.G (hr.mono (by decide)) rfl dends.g dends.k dends.b .nil pass0 (pa_cons (pv 0) pa_nil)) (pa_cons (pe_callTy call_tuple_of (by rfl) Z.tuple (by decide +kernel) (pa_cons (pv 8) pa_nil)) pa_nil))))))))))), ?_⟩
    walk_at "st"
    refine (mk_lst (mka_cons (mk_call (mka_cons (mk_var (n := 1) rfl x2) (mka_cons (mk_var (n := 2) rfl x3) mka_nil)) ⟨l, m, rfl, eq, by omega, fun q hq => by have := sm.2 q hq; omega, rfl⟩) (mka_cons (mk_call (mka_cons (mk_var (n := 2) rfl x3) (mka_cons (mk_var (n := 1) rfl x2) mka_nil)) ⟨m, l, rfl, eq.symm, by omega, fun q hq => by have := sn.2 q hq; omega, rfl⟩) (mka_cons mk_bl mka_nil))) (show 3 ≤ 100000 by decide) : Mk K _ _ H (.lst [.bl (geS l m), .bl (geS m l), .bl true])) H Gr.rfl' _ fun v4 H1 s1 a4 => ?_
    walk_at "st"
    have y1 := x1.gr s1
    have y2 := x2.gr s1
    have y3 := x3.gr s1
    refine (mk_lst (mka_cons (mk_call (mka_cons (mk_var (n := 0) rfl y1) (mka_cons (mk_var (n := 1) rfl y2) (mka_cons (mk_var (n := 2) rfl y3) mka_nil))) ⟨x, l, m, rfl, ok, f1, f2, rfl⟩) (mka_cons (mk_call (mka_cons (mk_var (n := 0) rfl y1) (mka_cons (mk_var (n := 2) rfl y3) (mka_cons (mk_var (n := 1) rfl y2) mka_nil))) ⟨x, m, l, rfl, ok, f2, f1, rfl⟩) (mka_cons (mk_call (mka_cons (mk_var (n := 0) rfl y1) (mka_cons (mk_var (n := 1) rfl y2) (mka_cons (mk_var (n := 1) rfl y2) mka_nil))) ⟨x, l, l, rfl, ok, f1, f1, by rw [geS_refl]⟩) mka_nil))) (show 3 ≤ 100000 by decide) : Mk K _ _ H1 (.lst [.bl (geS l m), .bl (geS m l), .bl true])) H1 Gr.rfl' _ fun v5 H2 s2 a5 => ?_
    walk_at "st"
    have mixM : ∀ (o3 o4 o5 o6 : Option V) (H' : Hp) (b : Bool) (z : Str), z = sideS [b] → Same H1 H' → Mk K (tCB (fun xs H Q => ∃ p ys, xs = [.ref p] ∧ ((SqL K H p ys ∧ ∀ l, H l = none → Q (.ref l) (upd H l (.tup ys))) ∨ (SqT K H p ys ∧ Q (.ref p) H))) (tCons (tLc (iRng1 (tCons (tCB (fun xs H Q => ∃ p ys, xs = [.ref p] ∧ (SqL K H p ys ∨ SqT K H p ys) ∧ Q (.int ys.length) H) (tCons (tVar 1) tNil)) tNil)) (gName 10) tYes (tCall (spP K fMixL) [] E0 (tCons (tOp (rIxT K) (tVar 1) (tVar 10)) (tCons (tOp (rIxT K) (tVar 2) (tVar 10)) (tCons (tC (.str z)) tNil)))) [10]) tNil)) [some v1, some v2, some v3, o3, o4, o5, o6, none, none, none, none, none] H' (standD (mixS l m b)) := fun o3 o4 o5 o6 H' b z hz s' => by
      subst hz
      have ln := mk_lenT (K := K) (σ := [some v1, some v2, some v3, o3, o4, o5, o6, none, none, none, none, none]) (H := H') (mk_var (n := 1) rfl (y2.gr s'))
      rw [List.length_map] at ln
      have lc := mk_lcRk (i := 10) (tt := tYes) (te := tCall (spP K fMixL) [] E0 (tCons (tOp (rIxT K) (tVar 1) (tVar 10)) (tCons (tOp (rIxT K) (tVar 2) (tVar 10)) (tCons (tC (.str (sideS [b]))) tNil)))) ln (by omega) (fun k => some (.str (sideS (mixL (l.getD k []) (m.getD k []) b)))) (fun k d hk => by cases hk; rfl) (fun _ => rfl) (fun k hk H3 s3 => by
        have g1 : l[k]? = some (l.getD k []) := by rw [List.getD, List.getElem?_eq_getElem hk]; rfl
        have g2 : m[k]? = some (m.getD k []) := by rw [List.getD, List.getElem?_eq_getElem (show k < m.length by omega)]; rfl
        refine ⟨fun d hd => ⟨fun H4 s4 Q4 q4 => q4 H4 Gr.rfl', ?_⟩, fun hd => by cases hd⟩
        cases hd
        exact mk_call (K := K) (f := fMixL) (mka_cons (mk_ixT (i := k) (mk_var (n := 1) rfl (y2.gr (s'.trans s3))) (mk_var (n := 10) rfl (.int (k : Int))) (d := .str (sideS (l.getD k []))) (by rw [List.getElem?_map, g1]; rfl)) (mka_cons (mk_ixT (i := k) (mk_var (n := 2) rfl (y3.gr (s'.trans s3))) (mk_var (n := 10) rfl (.int (k : Int))) (d := .str (sideS (m.getD k []))) (by rw [List.getElem?_map, g2]; rfl)) (mka_cons mk_str mka_nil)))
          ⟨_, _, b, rfl, len_at eq g1 g2, by have := sm.2 _ (List.mem_of_getElem? g1); omega, rfl⟩)
      have q := mk_tupL lc
      rw [List.filterMap_eq_map' (f := fun k => D.str (sideS (mixL (l.getD k []) (m.getD k []) b))), stand_e, mixS_range l m b e2] at q
      exact q
    refine mixM _ _ _ _ H2 false _ (by decide +kernel) s2 H2 Gr.rfl' _ fun v6 H3 s3 a6 => ?_
    walk_at "st"
    refine mixM _ _ _ _ H3 true _ (by decide +kernel) (s2.trans s3) H3 Gr.rfl' _ fun v7 H4 s4 a7 => ?_
    walk_at "st"
    refine r_for (r_rng1 (r_cons ?_))
    walk_at "rd"
    have sA := (s2.trans s3).trans s4
    refine ⟨2, rfl, by decide, by decide, for_range (lo := 0) (n := 2) (fun i σ H' => ∃ o7 : Option V, σ = [some v1, some v2, some v3, some v4, some v5, some v6, some v7, o7, none, none, none, none] ∧ Same H4 H')
      ⟨_, rfl, Gr.rfl'⟩ ?_ ?_⟩
    · rintro i σ H5 hi ⟨o7, rfl, s5⟩
      walk_at "st"
      have sB := sA.trans s5
      have z1 := y1.gr sB
      have z2 := y2.gr sB
      have z3 := y3.gr sB
      refine (mt_not (mt_B (mk_like (d := .lst ([.bl (geS l m), .bl (geS m l), .bl true] ++ [standD (mixS l m false), standD (mixS l m true)]))
        (mk_cat (mk_var rfl (a5.gr ((s3.trans s4).trans s5))) (mk_lst (mka_cons (mk_call (mka_cons (mk_var (n := 0) rfl z1) (mka_cons (mk_var (n := 1) rfl z2) (mka_cons (mk_var (n := 2) rfl z3) mka_nil))) ⟨x, l, m, rfl, ok, f1, f2, rfl⟩) (mka_cons (mk_call (mka_cons (mk_var (n := 0) rfl z1) (mka_cons (mk_var (n := 1) rfl z2) (mka_cons (mk_var (n := 2) rfl z3) mka_nil))) ⟨x, l, m, rfl, ok, f1, f2, rfl⟩) mka_nil)) (show 2 ≤ 100000 by decide)) (show 3 + 2 ≤ 100000 by decide))
        (mk_cat (mk_var rfl (a4.gr (s2.trans ((s3.trans s4).trans s5)))) (mk_lst (mka_cons (mk_var rfl (a6.gr (s4.trans s5))) (mka_cons (mk_var rfl (a7.gr s5)) mka_nil)) (show 2 ≤ 100000 by decide)) (show 3 + 2 ≤ 100000 by decide))
        (rd_five ok (fits_mixS _ f1 f2) (fits_mixS _ f1 f2)))) : MkT _ _ H5 (!true)) H5 Gr.rfl' _ fun H6 s6 => iteF ?_
      walk_at "st"
      exact ⟨_, rfl, s5.trans s6⟩
    · rintro σ H5 ⟨o7, rfl, s5⟩
      walk_at "st"
      have sB := sA.trans s5
      have z1 := y1.gr sB
      have two : Mk K (tTup (tCons (tC (.str "b")) (tCons (tC (.str "a")) tNil))) [some v1, some v2, some v3, some v4, some v5, some v6, some v7, o7, none, none, none, none] H5 (.tup ([false, true].map fun b => .str (sideS [b]))) := by
        have q := mk_tup (K := K) (σ := [some v1, some v2, some v3, some v4, some v5, some v6, some v7, o7, none, none, none, none]) (H := H5) (mka_cons (mk_str (x := "b")) (mka_cons (mk_str (x := "a")) mka_nil)) (show 2 ≤ 100000 by decide)
        rw [show [false, true].map (fun b => D.str (sideS [b])) = [D.str "b", D.str "a"] by
          show [D.str (sideS [false]), D.str (sideS [true])] = _
          rw [show sideS [false] = Str.ofString "b" by decide +kernel, show sideS [true] = Str.ofString "a" by decide +kernel]]
        exact q
      refine (mk_lcNM (K := K) (i := 9) (l := [false, true]) (g := fun b => .str (sideS [b])) (f := fun b => standD (endS x b)) two (fun b => nlA_map (fun _ => rfl) _) (show 2 ≤ 1000 by decide) (fun b _ u H6 s6 au => by
        have lc := mk_lcM (K := K) (σ := [some v1, some v2, some v3, some v4, some v5, some v6, some v7, o7, none, some u, none, none]) (H := H6) (i := 11) (ti := tOp (rIxT K) (tVar 0) (tC (.int 0))) (te := tOp rMulS (tVar 9) (tCB (fun xs H Q => ∃ p ys, xs = [.ref p] ∧ (SqL K H p ys ∨ SqT K H p ys) ∧ Q (.int ys.length) H) (tCons (tVar 11) tNil))) (l := x.bodies) (g := bodyD) (f := fun y => .str (sideS (List.replicate y.length b)))
          (fun H1 s1 => ev_ixT (i := 0) (ev_var rfl (z1.gr (s6.trans s1))) ev_int rfl) (fun _ => rfl) (by omega) (fun y hy r H7 s7 ay => by
            have b9 := ok.b y hy
            have ln := mk_lenT (mk_var (K := K) (n := 11) (σ := [some v1, some v2, some v3, some v4, some v5, some v6, some v7, o7, none, some u, none, some r]) (H := H7) rfl ay)
            rw [List.length_map] at ln
            exact mk_mulS (mk_var (n := 9) rfl (au.gr s7)) ln b9.1 (by omega))
        have q := mk_tupL lc
        rw [stand_e] at q
        exact q) : Mk K _ _ H5 (.lst ([false, true].map fun b => standD (endS x b)))) H5 Gr.rfl' _ fun v9 H6 s6 a9 => ?_
      walk_at "st"
      exact mk_like (d := .tup [standD (endS x false), standD (endS x true)]) (mk_call (mka_cons (mk_var (n := 0) rfl (z1.gr s6)) mka_nil) ⟨x, rfl, ok, rfl⟩) (mk_tupL (mk_var (n := 8) rfl a9)) (rd_ends ok) H6 Gr.rfl' _ fun v H7 s7 a => k v H7 (((s1.trans sB).trans s6).trans s7) a
end
end TSx

namespace TSx
open PySem L2
local macro_rules | `(tactic| walk_at "rd") => `(tactic| repeat (first
  | ((with_reducible show tVar _ _ _ _); refine r_v rfl ?_)
  | with_reducible refine r_c ?_
  | with_reducible refine r_op ?_
  | with_reducible refine r_I0 ?_
  | with_reducible refine r_cb ?_
  | with_reducible refine r_nil ?_
  | with_reducible refine r_cons ?_
  | with_reducible refine r_seq ?_
  | with_reducible refine r_next ?_
  | with_reducible refine r_asg ?_
  | with_reducible refine r_name ?_
  | with_reducible refine r_ret ?_
  | with_reducible refine r_drop ?_
  | with_reducible refine r_if ?_
  | with_reducible refine r_test ?_
  | with_reducible refine r_bl ?_
  | with_reducible refine r_call ?_))
local macro_rules | `(tactic| walk_at "st") => `(tactic| repeat (first
  | with_reducible refine r_seq ?_
  | with_reducible refine r_next ?_
  | with_reducible refine r_asg ?_
  | with_reducible refine r_name ?_
  | with_reducible refine r_ret ?_
  | with_reducible refine r_drop ?_
  | with_reducible refine r_if ?_))
local macro_rules | `(tactic| walk_at "mk") => `(tactic| repeat (first
  | with_reducible exact mk_non
  | with_reducible exact mk_int
  | with_reducible exact mk_str
  | with_reducible exact mk_bl
  | with_reducible exact mk_dic
  | with_reducible exact mka_nil
  | with_reducible refine mka_cons ?_ ?_
  | ((with_reducible refine mk_tup ?_ ?hz); (case hz => decide))
  | ((with_reducible refine mk_lst ?_ ?hz); (case hz => decide))
  | with_reducible refine mk_neg ?_))
/-- plain, and not deep -/
structure Pl (k : Nat) (d : D) : Prop where
  p : d.pl = true
  dp : d.py.depth ≤ k
theorem Pl.up {k k' : Nat} {d : D} (h : Pl k d) (l : k ≤ k') : Pl k' d := ⟨h.p, Nat.le_trans h.dp l⟩
theorem pl_all {k : Nat} : ∀ {ds : List D}, (∀ d ∈ ds, Pl k d) → plA ds = true ∧ PyData.depthAll (pyA ds) ≤ k
  | [], _ => ⟨rfl, by simp only [pyA, PyData.depthAll]; exact Nat.zero_le _⟩
  | d :: ds, h => by
    have a := h d List.mem_cons_self
    have b := pl_all fun e he => h e (List.mem_cons_of_mem _ he)
    refine ⟨?_, ?_⟩
    · show (d.pl && plA ds) = true
      rw [a.p, b.1]; rfl
    · simp only [pyA, PyData.depthAll]
      have := a.dp
      have := b.2
      omega
theorem pl_tup {k : Nat} {ds : List D} (h : ∀ d ∈ ds, Pl k d) : Pl (k + 1) (.tup ds) := by
  have a := pl_all h
  refine ⟨a.1, ?_⟩
  have := a.2
  simp only [D.py, PyData.depth]; omega
theorem pl_lst {k : Nat} {ds : List D} (h : ∀ d ∈ ds, Pl k d) : Pl (k + 1) (.lst ds) := by
  have a := pl_all h
  refine ⟨a.1, ?_⟩
  have := a.2
  simp only [D.py, PyData.depth]; omega
theorem pl_int {i : Int} : Pl 0 (.int i) := ⟨rfl, by simp only [D.py, PyData.depth]; exact Nat.le_refl _⟩
theorem pl_str {x : Str} (h : PySem.PyData.strOk x = true) : Pl 0 (.str x) := ⟨h, by simp only [D.py, PyData.depth]; exact Nat.le_refl _⟩
theorem pl_side {l : List Bool} : Pl 0 (.str (sideS l)) := by
  refine pl_str ?_
  unfold PySem.PyData.strOk
  rw [Array.all_eq_true']
  intro c hc
  have hc' : c ∈ l.map sideC := by simpa [sideS] using hc
  obtain ⟨b, _, rfl⟩ := List.mem_map.1 hc'
  cases b <;> decide
theorem pl_texts {l : List (List Bool)} : Pl 1 (.lst (l.map fun c => .str (sideS c))) := pl_lst fun d hd => by
  obtain ⟨c, _, rfl⟩ := List.mem_map.1 hd
  exact pl_side
theorem pl_stand {s : List (List Bool)} : Pl 1 (standD s) := pl_tup fun d hd => by
  obtain ⟨c, _, rfl⟩ := List.mem_map.1 hd
  exact pl_side
theorem pl_run {x : House} {s cs : List (List Bool)} {j : Nat} : Pl 2 (.tup (runL x s cs j)) := pl_tup fun d hd => by
  unfold runL at hd
  obtain ⟨c, _, rfl⟩ := List.mem_map.1 hd
  exact pl_stand
theorem pl_tie {t : Str} (h : t ∈ tiesL) : Pl 0 (.str t) := by
  simp only [tiesL, List.mem_cons, List.mem_nil_iff, or_false] at h
  rcases h with rfl | rfl | rfl <;> exact pl_str (by decide +kernel)
theorem pl_way {n k : Nat} {w : Way} (h : w.ok n k) : Pl 1 w.d := by
  cases w with
  | ward i =>
    refine pl_tup fun d hd => ?_
    simp only [List.mem_cons, List.mem_nil_iff, or_false] at hd
    rcases hd with rfl | rfl
    · exact pl_str (by decide +kernel)
    · exact pl_int
  | body b t =>
    obtain ⟨_, ht⟩ : b < n ∧ t ∈ tiesL := h
    refine pl_tup fun d hd => ?_
    simp only [List.mem_cons, List.mem_nil_iff, or_false] at hd
    rcases hd with rfl | rfl | rfl
    · exact pl_str (by decide +kernel)
    · exact pl_int
    · exact pl_tie ht
  | rest b t =>
    obtain ⟨_, ht⟩ : b < n ∧ t ∈ tiesL := h
    refine pl_tup fun d hd => ?_
    simp only [List.mem_cons, List.mem_nil_iff, or_false] at hd
    rcases hd with rfl | rfl | rfl
    · exact pl_str (by decide +kernel)
    · exact pl_int
    · exact pl_tie ht
  | kept =>
    refine pl_tup fun d hd => ?_
    simp only [List.mem_cons, List.mem_nil_iff, or_false] at hd
    subst hd
    exact pl_str (by decide +kernel)
theorem pl_house {x : House} (ok : x.ok) : Pl 5 x.d := by
  refine pl_tup fun d hd => ?_
  simp only [List.mem_cons, List.mem_nil_iff, or_false] at hd
  rcases hd with rfl | rfl
  · refine pl_tup fun d hd => ?_
    obtain ⟨b, hb, rfl⟩ := List.mem_map.1 hd
    refine pl_tup fun d hd => ?_
    obtain ⟨s, hs, rfl⟩ := List.mem_map.1 hd
    refine pl_tup fun d hd => ?_
    simp only [List.mem_cons, List.mem_nil_iff, or_false] at hd
    rcases hd with rfl | rfl | rfl
    · exact pl_int.up (by decide)
    · exact pl_int.up (by decide)
    · exact pl_way (ok.s b hb s hs).w
  · exact pl_int.up (by decide)
theorem eqv_self {k : Nat} {d : D} (h : Pl k d) : PyData.eqv d.py d.py = true := PySem.SeqAt.eqv_refl _ (lay_pl d h.p)
theorem map_inj : ∀ {l m : List Bool}, l.map sideC = m.map sideC → l = m
  | [], [], _ => rfl
  | [], _ :: _, h => by cases h
  | _ :: _, [], h => by cases h
  | a :: l, b :: m, h => by
    rw [List.map_cons, List.map_cons, List.cons.injEq] at h
    rw [map_inj h.2, show a = b from (by have := h.1; revert this; cases a <;> cases b <;> decide)]
theorem sideS_inj : ∀ {l m : List Bool}, sideS l = sideS m → l = m := fun {l m} h => by
  have e : l.map sideC = m.map sideC := by
    have := congrArg (fun s : Str => s.cps.toList) h
    simpa [sideS] using this
  exact map_inj e
theorem eqv_texts : ∀ cs es : List (List Bool), PyData.eqvAll (pyA (cs.map fun c => D.str (sideS c))) (pyA (es.map fun c => D.str (sideS c))) = decide (cs = es)
  | [], [] => by simp [pyA, PyData.eqvAll]
  | [], _ :: _ => by simp [pyA, PyData.eqvAll]
  | _ :: _, [] => by simp [pyA, PyData.eqvAll]
  | c :: cs, e :: es => by
    show PyData.eqvAll (PyData.str (sideS c) :: pyA (cs.map fun c => D.str (sideS c))) (PyData.str (sideS e) :: pyA (es.map fun c => D.str (sideS c))) = _
    rw [PyData.eqvAll, eqv_texts cs es, PyData.eqv]
    by_cases h : c = e
    · subst h; simp
    · have h' : ¬ sideS c = sideS e := fun z => h (sideS_inj z)
      simp [h, h']
def spOfT (K : PySem.W.Frag) : Sp := fun vs H Q _ => ∃ (m c g : Addr) (r : Nat) (p : Addr) (l : List Bool), vs = [.ref m, .ref p] ∧ MAt m c g H (r + 1) ∧ H p = some (.lst (l.map fun b => V.str (sideS [b]))) ∧ p ≠ m ∧ p ≠ g ∧ 0 < l.length ∧ l.length ≤ 1000 ∧
  ∀ b H', b ∈ l → MAt m c g H' r → Kp m g H H' → Q (.str (sideS [b])) H'
def spOfB (K : PySem.W.Frag) : Sp := fun vs H Q E => spOf K vs H Q E ∨ spOfT K vs H Q E
section
variable {P : Program} {w : World} {K : PySem.W.Frag} {mg : Str → Option Value} {base : Heap} {pT : Addr}
theorem ok_OFB {f fD : Addr} {fd fdD : FuncData} (F : L2.Fun K "_law_of" "_law_of" sOF f fd) (B : Blt mg) (d_law_draw : Dok P w K mg base 2 "_law_draw" ["m", "limit"] spDraw fD fdD) : FnOk P w K mg base CX0 3 f fd ["m", "some"] (spOfB K) := by
  refine F.ok scOF (fun vs H Q E h => ?_) (fun cdv A outer s H vs Q E hr h => ?_)
  · rcases h with ⟨m, c, g, r, x, rfl, _⟩ | ⟨m, c, g, r, x, l, rfl, _⟩ <;> rfl
  · rcases h with ⟨m, c, g, r, x, rfl, M, (⟨ns, ax, l0, l1, k⟩ | ⟨l, rfl, l0, l1, k⟩)⟩ | ⟨m, c, g, r, p, l, rfl, M, hp, pm, pg, l0, l1, k⟩
    · cases ax with
      | @lst p xs _ e aa =>
      have := aa.ints
      subst this
      refine ⟨_, (pss_one (ps_ret (pe_ix ix_list (pv 1) (pe_call d_law_draw.G (hr.mono (by decide)) rfl d_law_draw.g d_law_draw.k d_law_draw.b .nil pass0 (pa_cons (pv 0) (pa_cons (pe_callB call_len_seq (by rfl) B.len PySem.boot_len (pa_cons (pv 1) pa_nil)) pa_nil))) (fun _ _ => rfl)))), ?_⟩
      walk_at "rd"
      refine ⟨p, _, rfl, Or.inl (SqL.of (wo_le _ _ e)), ?_⟩
      refine r_nil ⟨m, c, g, r, _, rfl, by rw [List.length_map]; omega, by rw [List.length_map]; omega, M, fun v H1 p0 p1 M1 k1 => ?_⟩
      rw [List.length_map] at p1
      obtain ⟨i, rfl⟩ : ∃ i : Nat, v = (i : Int) := ⟨v.toNat, by omega⟩
      have li : i < ns.length := by omega
      refine ⟨p, _, (i : Int), .int ns[i], rfl, rfl, SqL.of (wo_le _ _ (wo_kp k1 B2_m B2_g _ _ e)), atI_nat (by rw [List.getElem?_map, List.getElem?_eq_getElem li]; rfl), ?_⟩
      exact k _ H1 (List.getElem_mem li) M1 k1
    · refine ⟨_, (pss_one (ps_ret (pe_ix ix_str (pv 1) (pe_call d_law_draw.G (hr.mono (by decide)) rfl d_law_draw.g d_law_draw.k d_law_draw.b .nil pass0 (pa_cons (pv 0) (pa_cons (pe_callB call_len_str (by rfl) B.len PySem.boot_len (pa_cons (pv 1) pa_nil)) pa_nil))) (fun _ _ => rfl)))), ?_⟩
      walk_at "rd"
      refine ⟨_, rfl, by rw [sideS_len]; exact sz1 (by omega), ?_⟩
      refine r_nil ⟨m, c, g, r, _, rfl, by rw [sideS_len]; omega, by rw [sideS_len]; omega, M, fun v H1 p0 p1 M1 k1 => ?_⟩
      rw [sideS_len] at p1
      obtain ⟨i, rfl⟩ : ∃ i : Nat, v = (i : Int) := ⟨v.toNat, by omega⟩
      have li : i < l.length := by omega
      refine ⟨_, (i : Int), sideC l[i], rfl, rfl, by rw [sideS_len]; exact sz1 (by omega), atI_nat ?_, k _ H1 (List.getElem_mem li) M1 k1⟩
      show (l.map sideC)[i]? = _
      rw [List.getElem?_map, List.getElem?_eq_getElem li]
      rfl
    · refine ⟨_, (pss_one (ps_ret (pe_ix ix_list (pv 1) (pe_call d_law_draw.G (hr.mono (by decide)) rfl d_law_draw.g d_law_draw.k d_law_draw.b .nil pass0 (pa_cons (pv 0) (pa_cons (pe_callB call_len_seq (by rfl) B.len PySem.boot_len (pa_cons (pv 1) pa_nil)) pa_nil))) (fun _ _ => rfl)))), ?_⟩
      walk_at "rd"
      refine ⟨p, _, rfl, Or.inl (SqL.of hp), ?_⟩
      refine r_nil ⟨m, c, g, r, _, rfl, by rw [List.length_map]; omega, by rw [List.length_map]; omega, M, fun v H1 p0 p1 M1 k1 => ?_⟩
      rw [List.length_map] at p1
      obtain ⟨i, rfl⟩ : ∃ i : Nat, v = (i : Int) := ⟨v.toNat, by omega⟩
      have li : i < l.length := by omega
      refine ⟨p, _, (i : Int), .str (sideS [l[i]]), rfl, rfl, SqL.of (k1 _ _ pm pg hp), atI_nat (by rw [List.getElem?_map, List.getElem?_eq_getElem li]; rfl), ?_⟩
      exact k _ H1 (List.getElem_mem li) M1 k1
end
end TSx

namespace TSx
open PySem L2
local macro_rules | `(tactic| walk_at "rd") => `(tactic| repeat (first
  | ((with_reducible show tVar _ _ _ _); refine r_v rfl ?_)
  | with_reducible refine r_c ?_
  | with_reducible refine r_op ?_
  | with_reducible refine r_I0 ?_
  | with_reducible refine r_cb ?_
  | with_reducible refine r_nil ?_
  | with_reducible refine r_cons ?_
  | with_reducible refine r_seq ?_
  | with_reducible refine r_next ?_
  | with_reducible refine r_asg ?_
  | with_reducible refine r_name ?_
  | with_reducible refine r_ret ?_
  | with_reducible refine r_drop ?_
  | with_reducible refine r_if ?_
  | with_reducible refine r_test ?_
  | with_reducible refine r_bl ?_
  | with_reducible refine r_call ?_))
local macro_rules | `(tactic| walk_at "st") => `(tactic| repeat (first
  | with_reducible refine r_seq ?_
  | with_reducible refine r_next ?_
  | with_reducible refine r_asg ?_
  | with_reducible refine r_name ?_
  | with_reducible refine r_ret ?_
  | with_reducible refine r_drop ?_
  | with_reducible refine r_if ?_))
local macro_rules | `(tactic| walk_at "mk") => `(tactic| repeat (first
  | with_reducible exact mk_non
  | with_reducible exact mk_int
  | with_reducible exact mk_str
  | with_reducible exact mk_bl
  | with_reducible exact mk_dic
  | with_reducible exact mka_nil
  | with_reducible refine mka_cons ?_ ?_
  | ((with_reducible refine mk_tup ?_ ?hz); (case hz => decide))
  | ((with_reducible refine mk_lst ?_ ?hz); (case hz => decide))
  | with_reducible refine mk_neg ?_))
/-- [law_of(m, 'ab') for .. in ..], m at place mi -/
theorem lc_lettersB {K : PySem.W.Frag} {J : It} {n : Nat} {G : Hp → Prop} {Y : Nat → Hp → V → Hp → Prop} (w : Walk J n G Y) (hY : ∀ i H x H', Y i H x H' → H' = H) {m c g L : Addr} {r i0 mi : Nat} {σ : Sg} {H : Hp} {Qd : Hp → Prop} (hG : ∀ H', KT H H' → G H') (hn : n ≤ 9)
    (hm : ∀ x, ((wipe σ [i0]).set i0 (some x))[mi]? = some (some (.ref m))) (hw : ∀ x, wipe ((wipe σ [i0]).set i0 (some x)) [i0] = wipe σ [i0]) (M : MAt m c g H (r + n)) (nL : H L = none)
    (hd : ∀ H' (l : List Bool), l.length = n → H' L = some (.lst (l.map fun x => V.str (sideS [x]))) → MAt m c g H' r → Kp m g H H' → KT H H' → Qd H') :
    ∃ W : Nat → Nat → Hp → Prop, (∃ m, W 0 m (upd H L (.lst []))) ∧ ∀ i m H, W i m H →
      (J.stop i H ∧ Qd H) ∨ (J.go i H ∧ ∃ Nx : Hp → Prop, (∀ H', Nx H' → ∃ m', m' < m ∧ W (i + 1) m' H') ∧ ∀ x H', J.yld i H x H' → gName i0 x (wipe σ [i0]) H' fun σ2 H2 => wipe σ2 [i0] = wipe σ [i0] ∧ tYes σ2 H2 fun b H3 =>
        if b = true then tCall (spOfB K) [] E0 (tCons (tVar mi) (tCons (tC (.str "ab")) tNil)) σ2 H3 fun y H4 => ∃ acc, H4 L = some (.lst acc) ∧ acc.length < sizeLine ∧ Nx (upd H4 L (.lst (acc ++ [y]))) else Nx H3) := by
  obtain ⟨Lm, Lc, Lg⟩ := new_m3 M nL
  refine lc_it w (fun j H' => ∃ l : List Bool, l.length = j ∧ H' L = some (.lst (l.map fun x => V.str (sideS [x]))) ∧ MAt m c g H' (r + (n - j)) ∧ Kp m g H H' ∧ KT H H') ⟨[], rfl, upd_same, M.same (same_new nL), Kp.of (same_new nL), KT.of (same_new nL)⟩ (fun j H' _ z => by obtain ⟨_, _, _, _, _, z⟩ := z; exact hG _ z) ?_ ?_
  · rintro j x H' H'' hj ⟨l, ll, hL, M', kp, kt⟩ y
    have := hY _ _ _ _ y
    subst this
    refine r_name ⟨hw x, r_yes ?_⟩
    refine r_call (r_cons (r_v (hm x) (r_cons (r_c (r_nil ?_)))))
    refine Or.inl ⟨m, c, g, r + (n - (j + 1)), _, rfl, M'.less (by omega), Or.inr ⟨[true, false], by rw [show sideS [true, false] = Str.ofString "ab" by decide +kernel], by decide, by decide, fun b H3 _ M3 k3 => ?_⟩⟩
    have hL3 := k3 _ _ Lm Lg hL
    have kt3 : KT H'' H3 := KT.kp M' k3
    refine ⟨_, hL3, by rw [List.length_map, ll]; exact sz2 (by omega), l ++ [b], by rw [List.length_append, ll]; rfl, by rw [upd_same, List.map_append]; rfl, M3.upd' Lm Lc Lg, fun a o h1 h2 e => ?_, (kt.tr kt3).tr (KT.updL hL3)⟩
    rw [upd_ne (fun z => by rw [z, nL] at e; cases e)]
    exact k3 _ _ h1 h2 (kp _ _ h1 h2 e)
  · rintro H' ⟨l, ll, hL, M', kp, kt⟩
    exact hd H' l ll hL (M'.less (by omega)) kp kt
theorem nl_stand (s : List (List Bool)) : (standD s).nl = true := nlA_map (fun _ => rfl) s
theorem strs_of {K : PySem.W.Frag} {H : Hp} : ∀ cs : List (List Bool), DtA K H (cs.map fun l => V.str (sideS l)) (cs.map fun l => D.str (sideS l))
  | [] => .nil
  | _ :: cs => .cons (.str _) (strs_of cs)
theorem r_lettersB {K : PySem.W.Frag} {m c g : Addr} {r i0 mi hi : Nat} {σ : Sg} {H : Hp} {vh : V} {hh : House} {Q : VK} (h4 : σ[hi]? = some (some vh)) (ah : Dt K H vh hh.d) (w4 : hh.wards ≤ 4) (M : MAt m c g H (r + 4))
    (hm : ∀ x, ((wipe σ [i0]).set i0 (some x))[mi]? = some (some (.ref m))) (hw : ∀ x, wipe ((wipe σ [i0]).set i0 (some x)) [i0] = wipe σ [i0])
    (k : ∀ H' (l : List Bool), l.length = hh.wards → MAt m c g H' r → Kp m g H H' → KT H H' → Q (.str (sideS l)) H') :
    tM1 (rJoinK K) (tC (.str "")) (tLc (iRng1 (tCons (tOp (rIxT K) (tVar hi) (tC (.int 1))) tNil)) (gName i0) tYes (tCall (spOfB K) [] E0 (tCons (tVar mi) (tCons (tC (.str "ab")) tNil))) [i0]) σ H Q := by
  refine ⟨⟨_, rfl⟩, ?_⟩
  cases ah with
  | @tup q qs _ eq aq =>
  obtain ⟨u1, u2, rfl, au1, au2⟩ := aq.two
  cases au2
  refine ⟨_, h4, q, _, 1, .int (hh.wards : Int), rfl, rfl, eq, rfl, (hh.wards : Int), rfl, by omega, by omega, fun L nL => ?_⟩
  rw [show ((hh.wards : Nat) : Int).toNat = hh.wards by omega]
  refine lc_lettersB (K := K) (walk_range (lo := 0) (n := hh.wards)) (fun i H x H' z => z.1) (r := r) (fun H3 kt3 => trivial) (by omega) hm hw (M.less (by omega)) nL fun H3 l ll hL M3 k3 kt3 => ?_
  refine ⟨_, L, l.map fun x => sideS [x], rfl, rfl, Or.inl (SqL.of (by rw [List.map_map]; exact hL)), join_ok (by omega), ?_⟩
  rw [join_side]
  exact k H3 l ll M3 k3 kt3
theorem r_more {K : PySem.W.Frag} {m c g : Addr} {r : Nat} {σ : Sg} {H : Hp} {l : List Bool} {Q : VK} (hr : σ[14]? = some (some (.str (sideS l)))) (l4 : l.length ≤ 4) (M : MAt m c g H (r + 4))
    (hm : ∀ x, ((wipe σ [17]).set 17 (some x))[0]? = some (some (.ref m))) (h17 : ∀ x, ((wipe σ [17]).set 17 (some x))[17]? = some (some x)) (hw : ∀ x, wipe ((wipe σ [17]).set 17 (some x)) [17] = wipe σ [17])
    (k : ∀ H' (l' : List Bool), l'.length = l.length → geL l' l = true → MAt m c g H' r → Kp m g H H' → KT H H' → Q (.str (sideS l')) H') :
    tM1 (rJoinK K) (tC (.str "")) (tLc (iStr (tVar 14)) (gName 17) tYes (tCall (spOfB K) [] E0 (tCons (tVar 0) (tCons (tLst (tCons (tVar 17) (tCons (tC (.str "a")) tNil))) tNil))) [17]) σ H Q := by
  refine ⟨⟨_, rfl⟩, ?_⟩
  refine ⟨_, hr, _, rfl, fun L nL => ?_⟩
  obtain ⟨Lm, Lc, Lg⟩ := new_m3 M nL
  refine lc_it (walk_str (z := sideS l)) (fun j H' => ∃ l' : List Bool, l'.length = j ∧ (∀ (i : Nat) (a b : Bool), l'[i]? = some a → l[i]? = some b → (a || !b) = true) ∧ H' L = some (.lst (l'.map fun x => V.str (sideS [x]))) ∧ MAt m c g H' (r + (4 - j)) ∧ Kp m g H H' ∧ KT H H')
    ⟨[], rfl, (fun _ _ _ z => by cases z), upd_same, M.same (same_new nL), Kp.of (same_new nL), KT.of (same_new nL)⟩ (fun _ _ _ _ => trivial) ?_ ?_
  · rintro j x H' H'' hj ⟨l', ll, gg, hL, M', kp, kt⟩ ⟨rfl, cc, hc, rfl⟩
    obtain ⟨b, hb, rfl⟩ := sideS_at hc
    have jl := (List.getElem?_eq_some_iff.mp hb).1
    refine r_name ⟨hw _, r_yes ?_⟩
    refine r_call (r_cons (r_v (hm _) (r_cons (r_lst (r_cons (r_v (h17 _) (r_cons (r_c (r_nil ⟨sz1 (show 2 ≤ 100000 by decide), fun p np => ?_⟩)))))))))
    obtain ⟨pm, pc, pg⟩ := new_m3 M' np
    have s1 : Same H'' (upd H'' p (.lst [.str ⟨#[sideC b]⟩, .str "a"])) := same_new np
    refine r_nil (Or.inr ⟨m, c, g, r + (4 - (j + 1)), p, [b, true], rfl, (M'.same s1).less (by omega), ?_, pm, pg, (show 0 < 2 by decide), (show 2 ≤ 1000 by decide), fun b' H3 hb' M3 k3 => ?_⟩)
    · rw [upd_same]
      show _ = some (HO.lst [V.str (sideS [b]), V.str (sideS [true])])
      rw [show sideS [true] = Str.ofString "a" by decide +kernel]
      rfl
    · have hL3 := k3 _ _ Lm Lg (s1 _ _ hL)
      have kt3 : KT H'' H3 := (KT.of s1).tr (KT.kp (M'.same s1) k3)
      have bb : (b' || !b) = true := by
        simp only [List.mem_cons, List.mem_nil_iff, or_false] at hb'
        rcases hb' with rfl | rfl
        · cases b' <;> rfl
        · rfl
      refine ⟨_, hL3, by rw [List.length_map, ll]; exact sz2 (by omega), l' ++ [b'], by rw [List.length_append, ll]; rfl, fun i a b2 ha hb2 => ?_, by rw [upd_same, List.map_append]; rfl, M3.upd' Lm Lc Lg, fun a o h1 h2 e => ?_, (kt.tr kt3).tr (KT.updL hL3)⟩
      · by_cases hi : i < l'.length
        · rw [List.getElem?_append_left hi] at ha
          exact gg i a b2 ha hb2
        · have hi2 := (List.getElem?_eq_some_iff.mp ha).1
          rw [List.length_append] at hi2
          have hi3 : i = j := by simp at hi2; omega
          subst hi3
          rw [hb] at hb2
          cases hb2
          rw [← ll, List.getElem?_append_right (Nat.le_refl _), Nat.sub_self] at ha
          cases ha
          exact bb
      · rw [upd_ne (fun z => by rw [z, nL] at e; cases e)]
        exact k3 _ _ h1 h2 (s1 _ _ (kp _ _ h1 h2 e))
  · rintro H' ⟨l', ll, gg, hL, M', kp, kt⟩
    rw [sideS_size] at ll
    refine ⟨_, L, l'.map fun x => sideS [x], rfl, rfl, Or.inl (SqL.of (by rw [List.map_map]; exact hL)), join_ok (by omega), ?_⟩
    rw [join_side]
    exact k H' l' ll (geL_of gg) (M'.less (by omega)) kp kt
end TSx

namespace TSx
open PySem L2
local macro_rules | `(tactic| walk_at "rd") => `(tactic| repeat (first
  | ((with_reducible show tVar _ _ _ _); refine r_v rfl ?_)
  | with_reducible refine r_c ?_
  | with_reducible refine r_op ?_
  | with_reducible refine r_I0 ?_
  | with_reducible refine r_cb ?_
  | with_reducible refine r_nil ?_
  | with_reducible refine r_cons ?_
  | with_reducible refine r_seq ?_
  | with_reducible refine r_next ?_
  | with_reducible refine r_asg ?_
  | with_reducible refine r_name ?_
  | with_reducible refine r_ret ?_
  | with_reducible refine r_drop ?_
  | with_reducible refine r_if ?_
  | with_reducible refine r_test ?_
  | with_reducible refine r_bl ?_
  | with_reducible refine r_call ?_))
local macro_rules | `(tactic| walk_at "st") => `(tactic| repeat (first
  | with_reducible refine r_seq ?_
  | with_reducible refine r_next ?_
  | with_reducible refine r_asg ?_
  | with_reducible refine r_name ?_
  | with_reducible refine r_ret ?_
  | with_reducible refine r_drop ?_
  | with_reducible refine r_if ?_))
local macro_rules | `(tactic| walk_at "mk") => `(tactic| repeat (first
  | with_reducible exact mk_non
  | with_reducible exact mk_int
  | with_reducible exact mk_str
  | with_reducible exact mk_bl
  | with_reducible exact mk_dic
  | with_reducible exact mka_nil
  | with_reducible refine mka_cons ?_ ?_
  | ((with_reducible refine mk_tup ?_ ?hz); (case hz => decide))
  | ((with_reducible refine mk_lst ?_ ?hz); (case hz => decide))
  | with_reducible refine mk_neg ?_))
abbrev sRR : Stmt := top 68
theorem scRR : FnScope ["m", "home", "first", "other", "rows", "more", "due", "low", "high", "near", "far", "glass", "image", "n", "row", "k", "one", "letter"] ["m", "home", "first", "other"] (defScope sRR) := ⟨rfl, rfl, rfl, by decide +kernel, rfl, by decide +kernel, by decide +kernel⟩
def spRuns (K : PySem.W.Frag) : Sp := fun vs H Q _ => ∃ (m c g : Addr) (r : Nat) (v1 v2 v3 : V) (x : House) (s t : List (List Bool)), vs = [.ref m, v1, v2, v3] ∧ Dt K H v1 x.d ∧ x.ok ∧ Dt K H v2 (standD s) ∧ Dt K H v3 (standD t) ∧ Fits x s ∧ Fits x t ∧ MAt m c g H (r + 200) ∧ ∀ H', MAt m c g H' r → KT H H' → Q (.bl true) H'
theorem mix_ge : ∀ l m : List Bool, geL (mixL l m true) (mixL l m false) = true
  | [], _ => rfl
  | _ :: _, [] => rfl
  | a :: l, c :: m => by
    have ih := mix_ge l m
    show (((if a == true || c == true then true else !true) || !(if a == false || c == false then false else !false)) && geL (mixL l m true) (mixL l m false)) = true
    rw [ih]
    cases a <;> cases c <;> rfl
theorem mixS_ge : ∀ s t : List (List Bool), geS (mixS s t true) (mixS s t false) = true
  | [], _ => rfl
  | _ :: _, [] => rfl
  | a :: l, c :: m => by
    have ih := mixS_ge l m
    show (geL (mixL a c true) (mixL a c false) && geS (mixS l m true) (mixS l m false)) = true
    rw [ih, mix_ge]
    rfl
theorem rd_bls {a b : Bool} : (D.lst [.bl a, .bl b]).rd := by
  refine (sm_lst (w := 20) (k := 0) (m := 2) (fun d hd => ?_) (by simp)).rd (by decide) (by decide)
  simp only [List.mem_cons, List.mem_nil_iff, or_false] at hd
  rcases hd with rfl | rfl <;> exact sm_bl
theorem runL_at {x : House} {s cs : List (List Bool)} {j k : Nat} (h : k < j) : (runL x s cs j)[k]? = some (standD (stAt x s cs (k + 1))) := by
  unfold runL
  rw [List.getElem?_map, List.getElem?_range h]
  rfl
theorem rows_neg (cs : List (List Bool)) : D.lst (cs.map fun l => .str (sideS (negL l))) = rowsD false (cs.map negL) := by
  unfold rowsD
  rw [if_neg (by decide), List.map_map]
  rfl
theorem run_neg {x : House} {s cs : List (List Bool)} (ok : x.ok) (hc : ∀ c ∈ cs, c.length = x.wards) : runL (mirH x) (negS s) (cs.map negL) (cs.map negL).length = (List.range cs.length).map fun j => standD (negS (stAt x s cs (j + 1))) := by
  unfold runL
  rw [List.length_map]
  refine List.map_congr_left fun j hj => ?_
  rw [st_neg ok hc (j + 1) (by have := List.mem_range.mp hj; omega)]
theorem len_eq {x : House} : ∀ {es cs : List (List Bool)}, es.length = cs.length → (∀ c ∈ es, c.length = x.wards) → (∀ c ∈ cs, c.length = x.wards) → es.map List.length = cs.map List.length
  | [], [], _, _, _ => rfl
  | [], _ :: _, h, _, _ => by cases h
  | _ :: _, [], h, _, _ => by cases h
  | e :: es, c :: cs, h, h1, h2 => by
    rw [List.map_cons, List.map_cons, h1 e List.mem_cons_self, h2 c List.mem_cons_self, len_eq (by simpa using h) (fun q hq => h1 q (List.mem_cons_of_mem _ hq)) (fun q hq => h2 q (List.mem_cons_of_mem _ hq))]
theorem mk_neE {K : PySem.W.Frag} {σ : Sg} {H : Hp} {ta : TE} (h : Mk K ta σ H (.lst [])) : Mk K (tOp (rNeD K) ta (tLst tNil)) σ H (.bl false) :=
  mk_neD (d := .lst []) (e := .lst []) h (mk_lst mka_nil (show 0 ≤ 100000 by decide)) rfl rfl (show 1 ≤ 64 by decide) (show 1 ≤ 64 by decide)
section
variable {P : Program} {w : World} {K : PySem.W.Frag} {mg : Str → Option Value} {base : Heap} {pT : Addr}
theorem ok_RR {f fL fU fD fO fA fI fR fM fT fH fS fK : Addr} {fd fdL fdU fdD fdO fdA fdI fdR fdM fdT fdH fdS fdK : FuncData} (F : L2.Fun K "_law_runs_right" "_law_runs_right" sRR f fd) (B : Blt mg) (Z : Blt2 mg)
    (dlower : Dok P w K mg base 7 "lower" ["house", "stand", "other"] (spP K (fMix false)) fL fdL) (dupper : Dok P w K mg base 7 "upper" ["house", "stand", "other"] (spP K (fMix true)) fU fdU)
    (d_law_draw : Dok P w K mg base 2 "_law_draw" ["m", "limit"] spDraw fD fdD) (d_law_of : Dok P w K mg base 3 "_law_of" ["m", "some"] (spOfB K) fO fdO)
    (dare_above : Dok P w K mg base 6 "are_above" ["house", "rows", "others"] (spP K fAreAbove) fA fdA) (dis_above : Dok P w K mg base 7 "is_above" ["house", "stand", "other"] (spP K fIsAbove) fI fdI)
    (drun : Dok P w K mg base 7 "run" ["house", "stand", "rows"] (spP K fRun) fR fdR) (dmirrored : Dok P w K mg base 6 "mirrored" ["house"] (spP K fMirrored) fM fdM)
    (dmirrored_stand : Dok P w K mg base 7 "mirrored_stand" ["house", "stand"] (spP K fMirStand) fT fdT) (d_law_other_home : Dok P w K mg base 1 "_law_other_home" ["home"] (spP K fMirrored) fH fdH)
    (d_law_swapped : Dok P w K mg base 1 "_law_swapped" ["letters"] (spP K fSwap) fS fdS) (d_law_like : DoG P w K mg base 1 "_law_like" ["heard", "due"] (spLike K) fK fdK) : FnG P w K mg base CX0 8 f fd ["m", "home", "first", "other"] (spRuns K) := by
  refine fnG_of0 F scRR (fun vs H Q E h => ?_) (fun cdv A outer sh H vs Q E gd hr h => ?_)
  · obtain ⟨_, _, _, _, _, _, _, _, _, _, rfl, _⟩ := h
    rfl
  · obtain ⟨m, c, g, r, v1, v2, v3, x, s, t, rfl, x1, ok, x2, x3, f1, f2, M, k⟩ := h
    have g2 := guards_deeper gd (PyProof.Rows.envOfC "_law_runs_right" (defScope sRR) sh.heap.objs.size f cdv)
    have w4 := ok.w
    have ok3 := ok.n3
    refine ⟨_, (pss_cons (ps_par (i := 7) (j := 8) (by rfl) scRR.nd rfl rfl (by decide) rfl rfl (pa_cons (pe_call dlower.G (hr.mono (by decide)) rfl dlower.g dlower.k dlower.b .nil pass0 (pa_cons (pv 1) (pa_cons (pv 2) (pa_cons (pv 3) pa_nil)))) (pa_cons (pe_call dupper.G (hr.mono (by decide)) rfl dupper.g dupper.k dupper.b .nil pass0 (pa_cons (pv 1) (pa_cons (pv 2) (pa_cons (pv 3) pa_nil)))) pa_nil)) (by rfl))
  (pss_cons (ps_setLc (i := 4) (own := [("n", 13)]) (g := gName 13) (tt := tYes) rfl scRR.nd rfl rfl (sw_true rfl rfl rfl (by decide +kernel)) (pi_range1 rfl B.range (pa_cons (pe_call d_law_draw.G (hr.mono (by decide)) rfl d_law_draw.g d_law_draw.k d_law_draw.b .nil pass0 (pa_cons (pv 0) (pa_cons pe_int pa_nil))) pa_nil)) (blkOk_by (N := ["m", "home", "first", "other", "rows", "more", "due", "low", "high", "near", "far", "glass", "image", "n", "row", "k", "one", "letter"]) (sc := defScope sRR) (by decide +kernel)) (fun _ _ _ _ _ => pg_name (i := 13) scRR.nd rfl (Or.inl rfl)) (fun _ _ _ _ _ => pts_nil) (fun _ _ _ _ _ => (pe_m1 PySem.F.slot_str_join PySem.F.type_str_join (mt_joinK (K := K) rfl) pe_str (pe_lc (own := [("k", 15)]) (g := gName 15) (tt := tYes) rfl scRR.nd (pi_range1 rfl B.range (pa_cons (pe_ix (ix_tupK (K := K) rfl) (pv 1) pe_int (fun _ _ => rfl)) pa_nil)) (blkOk_by (by rfl)) (fun _ _ _ _ _ => pg_name (i := 15) scRR.nd rfl (Or.inl rfl)) (fun _ _ _ _ _ => pts_nil) (fun _ _ _ _ _ => (pe_call d_law_of.G (hr.mono (by decide)) rfl d_law_of.g d_law_of.k d_law_of.b .nil pass0 (pa_cons (pv 0) (pa_cons pe_str pa_nil))))))))
  (pss_cons (ps_setLc (i := 5) (own := [("row", 14)]) (g := gName 14) (tt := tYes) rfl scRR.nd rfl rfl (sw_true rfl rfl rfl (by decide +kernel)) (pi_list (pv 4)) (blkOk_by (N := ["m", "home", "first", "other", "rows", "more", "due", "low", "high", "near", "far", "glass", "image", "n", "row", "k", "one", "letter"]) (sc := defScope sRR) (by decide +kernel)) (fun _ _ _ _ _ => pg_name (i := 14) scRR.nd rfl (Or.inl rfl)) (fun _ _ _ _ _ => pts_nil) (fun _ _ _ _ _ => (pe_m1 PySem.F.slot_str_join PySem.F.type_str_join (mt_joinK (K := K) rfl) pe_str (pe_lc (own := [("letter", 17)]) (g := gName 17) (tt := tYes) rfl scRR.nd (pi_str (pv 14)) (blkOk_by (by rfl)) (fun _ _ _ _ _ => pg_name (i := 17) scRR.nd rfl (Or.inl rfl)) (fun _ _ _ _ _ => pts_nil) (fun _ _ _ _ _ => (pe_call d_law_of.G (hr.mono (by decide)) rfl d_law_of.g d_law_of.k d_law_of.b .nil pass0 (pa_cons (pv 0) (pa_cons (pe_lst (pa_cons (pv 17) (pa_cons pe_str pa_nil))) pa_nil))))))))
  (pss_cons (ps_if (pt_not (pt_val (pe_callG d_law_like.G g2 (hr.mono (by decide)) rfl d_law_like.g d_law_like.k d_law_like.b pass0 (pa_cons (pe_lst (pa_cons (pe_call dare_above.G (hr.mono (by decide)) rfl dare_above.g dare_above.k dare_above.b .nil pass0 (pa_cons (pv 1) (pa_cons (pv 5) (pa_cons (pv 4) pa_nil)))) (pa_cons (pe_call dare_above.G (hr.mono (by decide)) rfl dare_above.g dare_above.k dare_above.b .nil pass0 (pa_cons (pv 1) (pa_cons (pv 4) (pa_cons (pv 5) pa_nil)))) pa_nil))) (pa_cons (pe_lst (pa_cons pe_bl (pa_cons (pe_cmpR (op_eqD hr.units) (pv 5) (pv 4) (nomark _)) pa_nil))) pa_nil))))) (pss_one (ps_ret pe_bl)) pss_nil)
  (pss_cons (ps_asg (pe_tup (pa_cons (pe_call drun.G (hr.mono (by decide)) rfl drun.g drun.k drun.b .nil pass0 (pa_cons (pv 1) (pa_cons (pv 7) (pa_cons (pv 4) pa_nil)))) (pa_cons (pe_call drun.G (hr.mono (by decide)) rfl drun.g drun.k drun.b .nil pass0 (pa_cons (pv 1) (pa_cons (pv 8) (pa_cons (pv 5) pa_nil)))) pa_nil))) (pg_tup rfl (pgs_cons (pg_name (i := 9) scRR.nd rfl (Or.inr rfl)) (pgs_cons (pg_name (i := 10) scRR.nd rfl (Or.inr rfl)) pgs_nil))))
  (pss_cons (ps_if (pt_cmpR (op_neD hr.units) (pe_lc (own := [("k", 15)]) (g := gName 15) rfl scRR.nd (pi_range1 rfl B.range (pa_cons (pe_callB call_len_seq (by rfl) B.len PySem.boot_len (pa_cons (pv 4) pa_nil)) pa_nil)) (blkOk_by (N := ["m", "home", "first", "other", "rows", "more", "due", "low", "high", "near", "far", "glass", "image", "n", "row", "k", "one", "letter"]) (sc := defScope sRR) (by decide +kernel)) (fun _ _ _ _ _ => pg_name (i := 15) scRR.nd rfl (Or.inl rfl)) (fun _ _ _ _ _ => (pts_one (pt_not (pt_val (pe_call dis_above.G (hr.mono (by decide)) rfl dis_above.g dis_above.k dis_above.b .nil pass0 (pa_cons (pv 1) (pa_cons (pe_ix (ix_tupK (K := K) rfl) (pv 10) (pv 15) (fun _ _ => rfl)) (pa_cons (pe_ix (ix_tupK (K := K) rfl) (pv 9) (pv 15) (fun _ _ => rfl)) pa_nil)))))))) (fun _ _ _ _ _ => (pv 15))) (pe_lst pa_nil) (nomark _)) (pss_one (ps_ret pe_bl)) pss_nil)
  (pss_cons (ps_par (i := 11) (j := 12) (by rfl) scRR.nd rfl rfl (by decide) rfl rfl (pa_cons (pe_call dmirrored.G (hr.mono (by decide)) rfl dmirrored.g dmirrored.k dmirrored.b .nil pass0 (pa_cons (pv 1) pa_nil)) (pa_cons (pe_call dmirrored_stand.G (hr.mono (by decide)) rfl dmirrored_stand.g dmirrored_stand.k dmirrored_stand.b .nil pass0 (pa_cons (pv 1) (pa_cons (pv 2) pa_nil))) pa_nil)) (by rfl))
  (pss_cons (ps_if (pt_not (pt_val (pe_callG d_law_like.G g2 (hr.mono (by decide)) rfl d_law_like.g d_law_like.k d_law_like.b pass0 (pa_cons (pe_lst (pa_cons (pv 11) (pa_cons (pv 12) pa_nil))) (pa_cons (pe_lst (pa_cons (pe_call d_law_other_home.G (hr.mono (by decide)) rfl d_law_other_home.g d_law_other_home.k d_law_other_home.b .nil pass0 (pa_cons (pv 1) pa_nil)) (pa_cons (pe_callTy call_tuple_of (by rfl) Z.tuple (by decide +kernel) (pa_cons (pe_lc (own := [("row", 14)]) (g := gName 14) (tt := tYes) rfl scRR.nd (pi_tup (pv 2)) (blkOk_by (N := ["m", "home", "first", "other", "rows", "more", "due", "low", "high", "near", "far", "glass", "image", "n", "row", "k", "one", "letter"]) (sc := defScope sRR) (by decide +kernel)) (fun _ _ _ _ _ => pg_name (i := 14) scRR.nd rfl (Or.inl rfl)) (fun _ _ _ _ _ => pts_nil) (fun _ _ _ _ _ => (pe_call d_law_swapped.G (hr.mono (by decide)) rfl d_law_swapped.g d_law_swapped.k d_law_swapped.b .nil pass0 (pa_cons (pv 14) pa_nil)))) pa_nil)) pa_nil))) pa_nil))))) (pss_one (ps_ret pe_bl)) pss_nil)
  (pss_cons (ps_set (i := 6) scRR.nd rfl (Or.inl rfl) (pe_callTy call_tuple_of (by rfl) Z.tuple (by decide +kernel) (pa_cons (pe_lc (own := [("one", 16)]) (g := gName 16) (tt := tYes) rfl scRR.nd (pi_tup (pe_call drun.G (hr.mono (by decide)) rfl drun.g drun.k drun.b .nil pass0 (pa_cons (pv 1) (pa_cons (pv 2) (pa_cons (pv 4) pa_nil))))) (blkOk_by (N := ["m", "home", "first", "other", "rows", "more", "due", "low", "high", "near", "far", "glass", "image", "n", "row", "k", "one", "letter"]) (sc := defScope sRR) (by decide +kernel)) (fun _ _ _ _ _ => pg_name (i := 16) scRR.nd rfl (Or.inl rfl)) (fun _ _ _ _ _ => pts_nil) (fun _ _ _ _ _ => (pe_call dmirrored_stand.G (hr.mono (by decide)) rfl dmirrored_stand.g dmirrored_stand.k dmirrored_stand.b .nil pass0 (pa_cons (pv 1) (pa_cons (pv 16) pa_nil))))) pa_nil)))
  (pss_one (ps_ret (pe_and (pe_cmpR (op_eqD hr.units) (pe_call drun.G (hr.mono (by decide)) rfl drun.g drun.k drun.b .nil pass0 (pa_cons (pv 11) (pa_cons (pv 12) (pa_cons (pe_lc (own := [("row", 14)]) (g := gName 14) (tt := tYes) rfl scRR.nd (pi_list (pv 4)) (blkOk_by (N := ["m", "home", "first", "other", "rows", "more", "due", "low", "high", "near", "far", "glass", "image", "n", "row", "k", "one", "letter"]) (sc := defScope sRR) (by decide +kernel)) (fun _ _ _ _ _ => pg_name (i := 14) scRR.nd rfl (Or.inl rfl)) (fun _ _ _ _ _ => pts_nil) (fun _ _ _ _ _ => (pe_call d_law_swapped.G (hr.mono (by decide)) rfl d_law_swapped.g d_law_swapped.k d_law_swapped.b .nil pass0 (pa_cons (pv 14) pa_nil)))) pa_nil)))) (pv 6) (nomark _)) (pe_one (pe_cmpR (op_eqD hr.units) (pe_call dmirrored.G (hr.mono (by decide)) rfl dmirrored.g dmirrored.k dmirrored.b .nil pass0 (pa_cons (pv 11) pa_nil)) (pv 1) (nomark _))))))))))))))), ?_⟩
    walk_at "st"
    -- low, high
    refine (show MkA K _ _ H [standD (mixS s t false), standD (mixS s t true)] from
      mka_cons (mk_call (mka_cons (mk_var (n := 1) rfl x1) (mka_cons (mk_var (n := 2) rfl x2) (mka_cons (mk_var (n := 3) rfl x3) mka_nil))) ⟨x, s, t, rfl, ok, f1, f2, rfl⟩) (mka_cons (mk_call (mka_cons (mk_var (n := 1) rfl x1) (mka_cons (mk_var (n := 2) rfl x2) (mka_cons (mk_var (n := 3) rfl x3) mka_nil))) ⟨x, s, t, rfl, ok, f1, f2, rfl⟩) mka_nil)) H Gr.rfl' _ fun vs Ha sa av => ?_
    obtain ⟨v7, v8, rfl, a7, a8⟩ := av.two
    refine ⟨_, _, rfl, ?_⟩
    walk_at "st"
    -- rows
    have Ma := M.same sa
    refine ⟨_, rfl, m, c, g, r + 199, 13, rfl, by decide, by decide, Ma.less (by omega), fun nr H4 p0 p1 M4 k4 => ?_⟩
    have kt4 := KT.kp Ma k4
    refine ⟨nr, rfl, by omega, by omega, fun L nL => ?_⟩
    obtain ⟨nn, rfl⟩ : ∃ q : Nat, nr = (q : Int) := ⟨nr.toNat, by omega⟩
    rw [Int.toNat_natCast]
    obtain ⟨Lm, Lc, Lg⟩ := new_m3 M4 nL
    refine lc_it (walk_range (lo := 0) (n := nn)) (fun j H' => ∃ cs : List (List Bool), cs.length = j ∧ (∀ rw_ ∈ cs, rw_.length = x.wards) ∧ H' L = some (.lst (cs.map fun l => V.str (sideS l))) ∧ MAt m c g H' (r + 199 - 4 * j) ∧ Kp m g H4 H' ∧ KT H4 H')
      ⟨[], rfl, (fun _ z => nomatch z), upd_same, (M4.same (same_new nL)).less (by omega), Kp.of (same_new nL), KT.of (same_new nL)⟩ (fun _ _ _ _ => trivial) ?_ ?_
    · rintro j y H' H'' hj ⟨cs, lcs, gcs, hL, M', kp, kt⟩ ⟨rfl, rfl⟩
      refine r_name ⟨rfl, r_yes ?_⟩
      refine r_lettersB (K := K) (r := r + 199 - 4 * (j + 1)) rfl (Dt.kt (kt4.tr kt) (x1.gr sa) (nl_house x)) w4 (M'.less (by omega)) (fun _ => rfl) (fun _ => rfl) fun H6 l ll M6 k6 kt6 => ?_
      have hL6 := k6 _ _ Lm Lg hL
      refine ⟨_, hL6, by rw [List.length_map, lcs]; exact sz2 (by omega), cs ++ [l], by rw [List.length_append, lcs]; rfl, fun q hq => ?_, by rw [upd_same, List.map_append]; rfl, M6.upd' Lm Lc Lg, fun a o h1 h2 e => ?_, (kt.tr kt6).tr (KT.updL hL6)⟩
      · rcases List.mem_append.mp hq with hq | hq
        · exact gcs q hq
        · rw [List.mem_singleton.mp hq]; exact ll
      · rw [upd_ne (fun z => by rw [z, nL] at e; cases e)]
        exact k6 _ _ h1 h2 (kp _ _ h1 h2 e)
    · rintro H5 ⟨cs, lcs, gcs, hL, M5, kp5, kt5⟩
      refine r_name ?_
      walk_at "st"
      -- more
      refine ⟨_, rfl, L, rfl, ⟨_, SqL.of hL⟩, fun L2 nL2 => ?_⟩
      obtain ⟨L2m, L2c, L2g⟩ := new_m3 M5 nL2
      refine lc_it (walk_list (K := K) (a := L) (xs := cs.map fun l => V.str (sideS l))) (fun j H' => ∃ es : List (List Bool), es.length = j ∧ (∀ (i : Nat) (a b : List Bool), es[i]? = some a → cs[i]? = some b → a.length = b.length ∧ geL a b = true) ∧ H' L2 = some (.lst (es.map fun l => V.str (sideS l))) ∧ MAt m c g H' (r + 140 - 4 * j) ∧ Kp m g H5 H' ∧ KT H5 H')
        ⟨[], rfl, (fun _ _ _ z => by cases z), upd_same, (M5.same (same_new nL2)).less (by omega), Kp.of (same_new nL2), KT.of (same_new nL2)⟩ (fun _ _ _ z => by obtain ⟨_, _, _, _, _, z, _⟩ := z; exact SqL.of (z _ _ Lm Lg hL)) ?_ ?_
      · rintro j y H' H'' hj ⟨es, les, ges, hL2, M', kp, kt⟩ ⟨rfl, hx⟩
        rw [List.length_map] at hj
        rw [List.getElem?_map] at hx
        obtain ⟨l, hl, rfl⟩ := Option.map_eq_some_iff.mp hx
        have lw := gcs l (List.mem_of_getElem? hl)
        refine r_name ⟨rfl, r_yes ?_⟩
        refine r_more (K := K) (r := r + 140 - 4 * (j + 1)) rfl (by omega) (M'.less (by omega)) (fun _ => rfl) (fun _ => rfl) (fun _ => rfl) fun H6 l' ll gl M6 k6 kt6 => ?_
        have hL6 := k6 _ _ L2m L2g hL2
        refine ⟨_, hL6, by rw [List.length_map, les]; exact sz2 (by omega), es ++ [l'], by rw [List.length_append, les]; rfl, fun i a b ha hb => ?_, by rw [upd_same, List.map_append]; rfl, M6.upd' L2m L2c L2g, fun a o h1 h2 e => ?_, (kt.tr kt6).tr (KT.updL hL6)⟩
        · by_cases hi : i < es.length
          · rw [List.getElem?_append_left hi] at ha
            exact ges i a b ha hb
          · have hi2 := (List.getElem?_eq_some_iff.mp ha).1
            rw [List.length_append] at hi2
            have hi3 : i = j := by simp at hi2; omega
            subst hi3
            rw [hl] at hb
            cases hb
            rw [← les, List.getElem?_append_right (Nat.le_refl _), Nat.sub_self] at ha
            cases ha
            exact ⟨ll, gl⟩
        · rw [upd_ne (fun z => by rw [z, nL2] at e; cases e)]
          exact k6 _ _ h1 h2 (kp _ _ h1 h2 e)
      · rintro H6 ⟨es, les, ges, hL2, M6, kp6, kt6⟩
        rw [List.length_map] at les M6
        refine r_name ?_
        walk_at "st"
        have kt : KT Ha H6 := (kt4.tr kt5).tr kt6
        have y1 := Dt.kt kt (x1.gr sa) (nl_house x)
        have y2 := Dt.kt kt (x2.gr sa) (nl_stand s)
        have b7 := Dt.kt kt a7 (nl_stand _)
        have b8 := Dt.kt kt a8 (nl_stand _)
        have ktH : KT H H6 := (KT.of sa).tr kt
        have rows : Dt K H6 (.ref L) (rowsD false cs) := .lst (kp6 _ _ Lm Lg hL) (strs_of cs)
        have more : Dt K H6 (.ref L2) (rowsD false es) := .lst hL2 (strs_of es)
        have ges' : ∀ e ∈ es, e.length = x.wards := fun e he => by
          obtain ⟨i, hi, rfl⟩ := List.getElem_of_mem he
          have hc : cs[i]? = some (cs[i]'(by omega)) := List.getElem?_eq_getElem (by omega)
          rw [(ges i _ _ (List.getElem?_eq_getElem hi) hc).1]
          exact gcs _ (List.getElem_mem _)
        have roc : rowsOk x cs := ⟨by omega, gcs⟩
        have roe : rowsOk x es := ⟨by omega, ges'⟩
        have lq : es.map List.length = cs.map List.length := len_eq les ges' gcs
        have ge : geS es cs = true := geS_of fun i a b ha hb => (ges i a b ha hb).2
        have gf := geS_anti lq ge
        clear x1 x2 x3 a7 a8 kt4 kt5 kt6 kp5 kp6 k4 M4 M5 Ma M kt
        -- the first look
        have eqE : Mk K (tOp (rEqD K) (tVar 5) (tVar 4)) [some (.ref m), some v1, some v2, some v3, some (.ref L), some (.ref L2), none, some v7, some v8, none, none, none, none, none, none, none, none, none] H6 (.bl (decide (es = cs))) := by
          have q := mk_eqD (K := K) (σ := [some (.ref m), some v1, some v2, some v3, some (.ref L), some (.ref L2), none, some v7, some v8, none, none, none, none, none, none, none, none, none]) (H := H6) (mk_var (n := 5) rfl more) (mk_var (n := 4) rfl rows) pl_texts.p pl_texts.p (Nat.le_trans pl_texts.dp (by decide)) (Nat.le_trans pl_texts.dp (by decide))
          rw [show PyData.eqv (rowsD false es).py (rowsD false cs).py = decide (es = cs) from by
            show PyData.eqv (.list (pyA (es.map fun c => D.str (sideS c)))) (.list (pyA (cs.map fun c => D.str (sideS c)))) = _
            rw [PyData.eqv, eqv_texts]] at q
          exact q
        refine (mt_not (mt_B (mk_like (d := .lst [.bl true, .bl (decide (es = cs))])
          (mk_lst (mka_cons (mk_call (mka_cons (mk_var rfl y1) (mka_cons (mk_var rfl more) (mka_cons (mk_var rfl rows) mka_nil))) ⟨x, false, es, cs, rfl, ok, roe, roc, les, by rw [ge]⟩) (mka_cons (mk_call (mka_cons (mk_var rfl y1) (mka_cons (mk_var rfl rows) (mka_cons (mk_var rfl more) mka_nil))) ⟨x, false, cs, es, rfl, ok, roc, roe, les.symm, by rw [gf]⟩) mka_nil)) (show 2 ≤ 100000 by decide))
          (mk_lst (mka_cons mk_bl (mka_cons eqE mka_nil)) (show 2 ≤ 100000 by decide)) rd_bls)) : MkT _ _ H6 (!true)) H6 Gr.rfl' _ fun H7 s7 => iteF ?_
        walk_at "st"
        -- near, far
        refine (mk_tup (mka_cons (mk_call (mka_cons (mk_var rfl (y1.gr s7)) (mka_cons (mk_var rfl (b7.gr s7)) (mka_cons (mk_var rfl (rows.gr s7)) mka_nil))) ⟨x, mixS s t false, false, cs, rfl, ok, fits_mixS _ f1 f2, roc, rfl⟩) (mka_cons (mk_call (mka_cons (mk_var rfl (y1.gr s7)) (mka_cons (mk_var rfl (b8.gr s7)) (mka_cons (mk_var rfl (more.gr s7)) mka_nil))) ⟨x, mixS s t true, false, es, rfl, ok, fits_mixS _ f1 f2, roe, rfl⟩) mka_nil)) (show 2 ≤ 100000 by decide) : Mk K _ _ H7 (.tup [.tup (runL x (mixS s t false) cs cs.length), .tup (runL x (mixS s t true) es es.length)])) H7 Gr.rfl' _ fun v H8 s8 a => ?_
        refine r_unp2 a fun w1 w2 e1 e2 => ?_
        walk_at "st"
        have s68 := s7.trans s8
        have ln := mk_len (K := K) (σ := [some (.ref m), some v1, some v2, some v3, some (.ref L), some (.ref L2), none, some v7, some v8, some w1, some w2, none, none, none, none, none, none, none]) (H := H8) (mk_var (n := 4) rfl (rows.gr s68))
        rw [List.length_map] at ln
        have lc := mk_lcRk (i := 15) (tt := tNot (tB (tCall (spP K fIsAbove) [] E0 (tCons (tVar 1) (tCons (tOp (rIxT K) (tVar 10) (tVar 15)) (tCons (tOp (rIxT K) (tVar 9) (tVar 15)) tNil)))))) (te := tVar 15) ln (by omega) (fun _ => none) (fun _ _ h => by cases h) (fun _ => rfl) (fun i hi H9 s9 => ⟨(fun d hd => nomatch hd), fun _ =>
          mt_not (mt_B (b := true) (mk_call (K := K) (f := fIsAbove) (σ := (wipe [some (.ref m), some v1, some v2, some v3, some (.ref L), some (.ref L2), none, some v7, some v8, some w1, some w2, none, none, none, none, none, none, none] [15]).set 15 (some (.int (i : Int)))) (H := H9) (mka_cons (mk_var (n := 1) rfl (y1.gr (s68.trans s9))) (mka_cons (mk_ixT (i := i) (mk_var (n := 10) rfl (e2.gr s9)) (mk_var (n := 15) rfl (.int (i : Int))) (runL_at (by omega))) (mka_cons (mk_ixT (i := i) (mk_var (n := 9) rfl (e1.gr s9)) (mk_var (n := 15) rfl (.int (i : Int))) (runL_at hi)) mka_nil)))
            ⟨x, stAt x (mixS s t true) es (i + 1), stAt x (mixS s t false) cs (i + 1), rfl, ok, fits_stAt (fits_mixS _ f1 f2) _, fits_stAt (fits_mixS _ f1 f2) _, by rw [st_mono (fits_mixS _ f1 f2) (fits_mixS _ f1 f2) (mixS_ge s t) lq ge (i + 1) (by omega)]⟩))⟩)
        rw [show ((List.range cs.length).filterMap fun _ => (none : Option D)) = [] from by rw [List.filterMap_eq_nil_iff]; intros; rfl] at lc
        refine (mt_test (mk_neE lc)) H8 Gr.rfl' _ fun H9 s9 => iteF ?_
        walk_at "st"
        have s69 := s68.trans s9
        -- glass, image
        refine (show MkA K _ _ H9 [(mirH x).d, standD (negS s)] from
          mka_cons (mk_call (mka_cons (mk_var rfl (y1.gr s69)) mka_nil) ⟨x, rfl, ok, rfl⟩) (mka_cons (mk_call (mka_cons (mk_var rfl (y1.gr s69)) (mka_cons (mk_var rfl (y2.gr s69)) mka_nil)) ⟨x, s, rfl, ok, f1, rfl⟩) mka_nil)) H9 Gr.rfl' _ fun vs Hb sb bv => ?_
        obtain ⟨v11, v12, rfl, b11, b12⟩ := bv.two
        refine ⟨_, _, rfl, ?_⟩
        walk_at "st"
        have s6b := s69.trans sb
        have fl := fits_len f1
        have sw := mk_tupL (mk_lcM (K := K) (σ := [some (.ref m), some v1, some v2, some v3, some (.ref L), some (.ref L2), none, some v7, some v8, some w1, some w2, some v11, some v12, none, none, none, none, none]) (H := Hb) (i := 14) (ti := tVar 2) (te := tCall (spP K fSwap) [] E0 (tCons (tVar 14) tNil)) (l := s) (g := fun l => .str (sideS l)) (f := fun l => .str (sideS (negL l))) (fun H1 s1 => ev_var rfl (y2.gr (s6b.trans s1))) (fun _ => rfl) (by omega) (fun l hl u H1 s1 ay => mk_call (mka_cons (mk_var (n := 14) rfl ay) mka_nil) ⟨l, rfl, by have := fits_mem ok f1 hl; omega, rfl⟩))
        rw [stand_e, ← negS_e] at sw
        refine (mt_not (mt_B (mk_like (d := .lst [(mirH x).d, standD (negS s)]) (mk_lst (mka_cons (mk_var rfl b11) (mka_cons (mk_var rfl b12) mka_nil)) (show 2 ≤ 100000 by decide)) (mk_lst (mka_cons (mk_call (mka_cons (mk_var rfl (y1.gr s6b)) mka_nil) ⟨x, rfl, ok, rfl⟩) (mka_cons sw mka_nil)) (show 2 ≤ 100000 by decide)) (rd_kept (mir_ok ok) (mir_fits f1)))) : MkT _ _ Hb (!true)) Hb Gr.rfl' _ fun Hc sc => iteF ?_
        walk_at "st"
        have s6c := s6b.trans sc
        -- due
        refine (mk_tupL (mk_lcNM (K := K) (i := 16) (l := List.range cs.length) (g := fun j => standD (stAt x s cs (j + 1))) (f := fun j => standD (negS (stAt x s cs (j + 1)))) (mk_call (mka_cons (mk_var rfl (y1.gr s6c)) (mka_cons (mk_var rfl (y2.gr s6c)) (mka_cons (mk_var rfl (rows.gr s6c)) mka_nil))) ⟨x, s, false, cs, rfl, ok, f1, roc, rfl⟩) (fun _ => nl_stand _) (by rw [List.length_range]; omega) (fun j hj u H1 s1 au => mk_call (mka_cons (mk_var (n := 1) rfl (y1.gr (s6c.trans s1))) (mka_cons (mk_var (n := 16) rfl au) mka_nil)) ⟨x, stAt x s cs (j + 1), rfl, ok, fits_stAt f1 _, rfl⟩)) : Mk K _ _ Hc (.tup ((List.range cs.length).map fun j => standD (negS (stAt x s cs (j + 1)))))) Hc Gr.rfl' _ fun v6 Hd sd a6 => ?_
        walk_at "st"
        have s6d := s6c.trans sd
        have swr := mk_lcML (K := K) (σ := [some (.ref m), some v1, some v2, some v3, some (.ref L), some (.ref L2), some v6, some v7, some v8, some w1, some w2, some v11, some v12, none, none, none, none, none]) (H := Hd) (i := 14) (ti := tVar 4) (te := tCall (spP K fSwap) [] E0 (tCons (tVar 14) tNil)) (l := cs) (g := fun l => .str (sideS l)) (f := fun l => .str (sideS (negL l))) (fun H1 s1 => ev_var rfl (rows.gr (s6d.trans s1))) (fun _ => rfl) (by omega) (fun l hl u H1 s1 ay => mk_call (mka_cons (mk_var (n := 14) rfl ay) mka_nil) ⟨l, rfl, by have := gcs l hl; omega, rfl⟩)
        rw [rows_neg] at swr
        have pr : Pl 2 (.tup ((List.range cs.length).map fun j => standD (negS (stAt x s cs (j + 1))))) := pl_tup fun d hd => by
          obtain ⟨j, _, rfl⟩ := List.mem_map.1 hd
          exact pl_stand
        have q1 := mk_eqD (mk_call (K := K) (f := fRun) (σ := [some (.ref m), some v1, some v2, some v3, some (.ref L), some (.ref L2), some v6, some v7, some v8, some w1, some w2, some v11, some v12, none, none, none, none, none]) (H := Hd) (r := .tup ((List.range cs.length).map fun j => standD (negS (stAt x s cs (j + 1))))) (mka_cons (mk_var (n := 11) rfl (b11.gr (sc.trans sd))) (mka_cons (mk_var (n := 12) rfl (b12.gr (sc.trans sd))) (mka_cons swr mka_nil))) ⟨mirH x, negS s, false, cs.map negL, rfl, mir_ok ok, mir_fits f1, ⟨by rw [List.length_map]; omega, fun q hq => by
            obtain ⟨l, hl, rfl⟩ := List.mem_map.mp hq
            show (negL l).length = x.wards
            unfold negL
            rw [List.length_map]
            exact gcs l hl⟩, by rw [run_neg ok gcs]⟩) (mk_var (n := 6) rfl a6) pr.p pr.p (Nat.le_trans pr.dp (by decide)) (Nat.le_trans pr.dp (by decide))
        rw [eqv_self pr] at q1
        have ph := pl_house ok
        have q2 := mk_eqD (mk_call (K := K) (f := fMirrored) (σ := [some (.ref m), some v1, some v2, some v3, some (.ref L), some (.ref L2), some v6, some v7, some v8, some w1, some w2, some v11, some v12, none, none, none, none, none]) (H := Hd) (r := x.d) (mka_cons (mk_var (n := 11) rfl (b11.gr (sc.trans sd))) mka_nil) ⟨mirH x, rfl, mir_ok ok, by rw [mir_mir ok]⟩) (mk_var (n := 1) rfl (y1.gr s6d)) ph.p ph.p (Nat.le_trans ph.dp (by decide)) (Nat.le_trans ph.dp (by decide))
        rw [eqv_self ph] at q2
        exact mk_andV q1 (fun _ => q2) Hd Gr.rfl' _ fun v He se a => by
          cases a
          exact k He (((M6.same s6d).same se).less (by omega)) (ktH.tr (KT.of (s6d.trans se)))
end
end TSx

namespace TSx
open PySem L2
local macro_rules | `(tactic| walk_at "rd") => `(tactic| repeat (first
  | ((with_reducible show tVar _ _ _ _); refine r_v rfl ?_)
  | with_reducible refine r_c ?_
  | with_reducible refine r_op ?_
  | with_reducible refine r_I0 ?_
  | with_reducible refine r_cb ?_
  | with_reducible refine r_nil ?_
  | with_reducible refine r_cons ?_
  | with_reducible refine r_seq ?_
  | with_reducible refine r_next ?_
  | with_reducible refine r_asg ?_
  | with_reducible refine r_name ?_
  | with_reducible refine r_ret ?_
  | with_reducible refine r_drop ?_
  | with_reducible refine r_if ?_
  | with_reducible refine r_test ?_
  | with_reducible refine r_bl ?_
  | with_reducible refine r_call ?_))
local macro_rules | `(tactic| walk_at "st") => `(tactic| repeat (first
  | with_reducible refine r_seq ?_
  | with_reducible refine r_next ?_
  | with_reducible refine r_asg ?_
  | with_reducible refine r_name ?_
  | with_reducible refine r_ret ?_
  | with_reducible refine r_drop ?_
  | with_reducible refine r_if ?_))
local macro_rules | `(tactic| walk_at "mk") => `(tactic| repeat (first
  | with_reducible exact mk_non
  | with_reducible exact mk_int
  | with_reducible exact mk_str
  | with_reducible exact mk_bl
  | with_reducible exact mk_dic
  | with_reducible exact mka_nil
  | with_reducible refine mka_cons ?_ ?_
  | ((with_reducible refine mk_tup ?_ ?hz); (case hz => decide))
  | ((with_reducible refine mk_lst ?_ ?hz); (case hz => decide))
  | with_reducible refine mk_neg ?_))
abbrev sLaw : Stmt := top 69
theorem scLaw : FnScope ["script", "m", "turn", "home", "told", "glass", "kept_so", "first", "other"] ["script"] (defScope sLaw) := ⟨rfl, rfl, rfl, by decide +kernel, rfl, by decide +kernel, by decide +kernel⟩
def spLaw (K : PySem.W.Frag) : Sp := fun vs H Q _ => ∃ (a : Addr) (ns : List Int), vs = [.ref a] ∧ SqL K H a (ns.map V.int) ∧ ns.length ≤ 63 ∧ ∀ H', Q (.bl true) H'
def houseX : House := ⟨[[⟨1, 0, .body 0 "a"⟩, ⟨2, 1, .ward 0⟩]], 2⟩
theorem okX : houseX.ok := by
  refine ⟨by decide, by decide, by decide, fun b hb => ?_, by decide, fun b hb s hs => ?_, by decide +kernel⟩
  · simp only [houseX, List.mem_cons, List.mem_nil_iff, or_false] at hb
    subst hb
    decide
  · simp only [houseX, List.mem_cons, List.mem_nil_iff, or_false] at hb
    subst hb
    simp only [List.mem_cons, List.mem_nil_iff, or_false] at hs
    rcases hs with rfl | rfl
    · exact ⟨by decide, by decide, by decide, (by decide : 0 < 1), by simp [tiesL]⟩
    · exact ⟨by decide, by decide, by decide, (by decide : 0 < 2)⟩
theorem rd_three {x : House} {s t : List (List Bool)} (ok : x.ok) (f : Fits x s) (g : Fits x t) : (D.lst [x.d, standD s, standD t]).rd := by
  refine (sm_lst (w := 10430) (k := 5) (m := 3) (fun d hd => ?_) (by simp)).rd (by decide) (by decide)
  simp only [List.mem_cons, List.mem_nil_iff, or_false] at hd
  rcases hd with rfl | rfl | rfl
  · exact sm_house ok
  · exact (sm_fits ok f).up (by decide) (by decide)
  · exact (sm_fits ok g).up (by decide) (by decide)
theorem rd_last : (D.lst ([standD [[false, false]], standD [[true, true]], .bl false] ++ [.bl true, .bl false, (mirH houseX).d])).rd := by
  refine (sm_lst (w := 10430) (k := 5) (m := 6) (fun d hd => ?_) (by simp)).rd (by decide) (by decide)
  simp only [List.cons_append, List.nil_append, List.mem_cons, List.mem_nil_iff, or_false] at hd
  rcases hd with rfl | rfl | rfl | rfl | rfl | rfl
  · exact (sm_stand (by decide) (by decide)).up (by decide) (by decide)
  · exact (sm_stand (by decide) (by decide)).up (by decide) (by decide)
  · exact sm_bl.up (by decide) (by decide)
  · exact sm_bl.up (by decide) (by decide)
  · exact sm_bl.up (by decide) (by decide)
  · exact sm_house (mir_ok okX)
theorem mk_st1 {K : PySem.W.Frag} {σ : Sg} {H : Hp} (l : List Bool) (z : Str) (hz : z = sideS l) : Mk K (tTup (tCons (tC (.str z)) tNil)) σ H (standD [l]) := by
  subst hz
  exact mk_tup (mka_cons mk_str mka_nil) (show 1 ≤ 100000 by decide)
theorem mk_rw1 {K : PySem.W.Frag} {σ : Sg} {H : Hp} (l : List Bool) (z : Str) (hz : z = sideS l) : Mk K (tLst (tCons (tC (.str z)) tNil)) σ H (rowsD false [l]) := by
  subst hz
  exact mk_lst (mka_cons mk_str mka_nil) (show 1 ≤ 100000 by decide)
theorem mk_rw2 {K : PySem.W.Frag} {σ : Sg} {H : Hp} (l m : List Bool) (z y : Str) (hz : z = sideS l) (hy : y = sideS m) : Mk K (tLst (tCons (tC (.str z)) (tCons (tC (.str y)) tNil))) σ H (rowsD false [l, m]) := by
  subst hz hy
  exact mk_lst (mka_cons mk_str (mka_cons mk_str mka_nil)) (show 2 ≤ 100000 by decide)
theorem mk_rt2 {K : PySem.W.Frag} {σ : Sg} {H : Hp} (l m : List Bool) (z y : Str) (hz : z = sideS l) (hy : y = sideS m) : Mk K (tTup (tCons (tC (.str z)) (tCons (tC (.str y)) tNil))) σ H (rowsD true [l, m]) := by
  subst hz hy
  exact mk_tup (mka_cons mk_str (mka_cons mk_str mka_nil)) (show 2 ≤ 100000 by decide)
section
variable {P : Program} {w : World} {K : PySem.W.Frag} {mg : Str → Option Value} {base : Heap} {pT : Addr}
theorem ok_law {f fB fH fF fT fR fL fU fI fA fM fK : Addr} {fd fdB fdH fdF fdT fdR fdL fdU fdI fdA fdM fdK : FuncData} (F : L2.Fun K "law" "law" sLaw f fd) (B : Blt mg) (Z : Blt2 mg)
    (d_law_begun : Dok P w K mg base 2 "_law_begun" ["script"] (spBegun K) fB fdB) (d_law_home : Dok P w K mg base 4 "_law_home" ["m", "bodies", "each", "most"] (spHome K) fH fdH)
    (d_law_first : Dok P w K mg base 4 "_law_first" ["m", "home"] (spFirst K) fF fdF) (d_law_two_right : DoG P w K mg base 8 "_law_two_right" ["home", "first", "other"] (spP K fTwo) fT fdT)
    (d_law_runs_right : DoG P w K mg base 8 "_law_runs_right" ["m", "home", "first", "other"] (spRuns K) fR fdR) (dlower : Dok P w K mg base 7 "lower" ["house", "stand", "other"] (spP K (fMix false)) fL fdL)
    (dupper : Dok P w K mg base 7 "upper" ["house", "stand", "other"] (spP K (fMix true)) fU fdU) (dis_above : Dok P w K mg base 7 "is_above" ["house", "stand", "other"] (spP K fIsAbove) fI fdI)
    (dare_above : Dok P w K mg base 6 "are_above" ["house", "rows", "others"] (spP K fAreAbove) fA fdA) (dmirrored : Dok P w K mg base 6 "mirrored" ["house"] (spP K fMirrored) fM fdM)
    (d_law_like : DoG P w K mg base 1 "_law_like" ["heard", "due"] (spLike K) fK fdK) : FnG P w K mg base CX0 9 f fd ["script"] (spLaw K) := by
  refine fnG_of0 F scLaw (fun vs H Q E h => ?_) (fun cdv A outer sh H vs Q E gd hr h => ?_)
  · obtain ⟨o, ns, rfl, _⟩ := h
    rfl
  · obtain ⟨o, ns, rfl, hS, hz, k⟩ := h
    have g2 := guards_deeper gd (PyProof.Rows.envOfC "law" (defScope sLaw) sh.heap.objs.size f cdv)
    refine ⟨_, (pss_cons (ps_set (i := 1) scLaw.nd rfl (Or.inl rfl) (pe_call d_law_begun.G (hr.mono (by decide)) rfl d_law_begun.g d_law_begun.k d_law_begun.b .nil pass0 (pa_cons (pv 0) pa_nil)))
  (pss_cons (ps_for PassesOwn.never rfl (pi_range1 rfl B.range (pa_cons pe_int pa_nil)) (pg_name (i := 2) scLaw.nd rfl (Or.inl rfl))
  (pss_cons (ps_set (i := 3) scLaw.nd rfl (Or.inl rfl) (pe_call d_law_home.G (hr.mono (by decide)) rfl d_law_home.g d_law_home.k d_law_home.b .nil pass0 (pa_cons (pv 1) (pa_cons pe_int (pa_cons pe_int (pa_cons pe_int pa_nil))))))
  (pss_cons (ps_par (i := 7) (j := 8) (by rfl) scLaw.nd rfl rfl (by decide) rfl rfl (pa_cons (pe_call d_law_first.G (hr.mono (by decide)) rfl d_law_first.g d_law_first.k d_law_first.b .nil pass0 (pa_cons (pv 1) (pa_cons (pv 3) pa_nil))) (pa_cons (pe_call d_law_first.G (hr.mono (by decide)) rfl d_law_first.g d_law_first.k d_law_first.b .nil pass0 (pa_cons (pv 1) (pa_cons (pv 3) pa_nil))) pa_nil)) (by rfl))
  (pss_cons (ps_set (i := 6) scLaw.nd rfl (Or.inl rfl) (pe_callB (call_reprD g2 hr.units) (by rfl) B.repr PyProof.Rows.boot_repr (pa_cons (pe_lst (pa_cons (pv 3) (pa_cons (pv 7) (pa_cons (pv 8) pa_nil)))) pa_nil)))
  (pss_cons (ps_if (PW.pt (pw_or (pt_not (pt_val (pe_callG d_law_two_right.G g2 (hr.mono (by decide)) rfl d_law_two_right.g d_law_two_right.k d_law_two_right.b pass0 (pa_cons (pv 3) (pa_cons (pv 7) (pa_cons (pv 8) pa_nil)))))) (pw_or1 (pt_not (pt_val (pe_callG d_law_runs_right.G g2 (hr.mono (by decide)) rfl d_law_runs_right.g d_law_runs_right.k d_law_runs_right.b pass0 (pa_cons (pv 1) (pa_cons (pv 3) (pa_cons (pv 7) (pa_cons (pv 8) pa_nil)))))))))) (pss_one (ps_ret pe_bl)) pss_nil)
  (pss_one (ps_if (pt_cmpR op_ne (pe_callB (call_reprD g2 hr.units) (by rfl) B.repr PyProof.Rows.boot_repr (pa_cons (pe_lst (pa_cons (pv 3) (pa_cons (pv 7) (pa_cons (pv 8) pa_nil)))) pa_nil)) (pv 6) (nomark _)) (pss_one (ps_ret pe_bl)) pss_nil)))))))
  (pss_cons (ps_set (i := 3) scLaw.nd rfl (Or.inl rfl) (pe_tup (pa_cons (pe_tup (pa_cons (pe_tup (pa_cons (pe_tup (pa_cons pe_int (pa_cons pe_int (pa_cons (pe_tup (pa_cons pe_str (pa_cons pe_int (pa_cons pe_str pa_nil)))) pa_nil)))) (pa_cons (pe_tup (pa_cons pe_int (pa_cons pe_int (pa_cons (pe_tup (pa_cons pe_str (pa_cons pe_int pa_nil))) pa_nil)))) pa_nil))) pa_nil)) (pa_cons pe_int pa_nil))))
  (pss_cons (ps_set (i := 4) scLaw.nd rfl (Or.inl rfl) (pe_lst (pa_cons (pe_call dlower.G (hr.mono (by decide)) rfl dlower.g dlower.k dlower.b .nil pass0 (pa_cons (pv 3) (pa_cons (pe_tup (pa_cons pe_str pa_nil)) (pa_cons (pe_tup (pa_cons pe_str pa_nil)) pa_nil)))) (pa_cons (pe_call dupper.G (hr.mono (by decide)) rfl dupper.g dupper.k dupper.b .nil pass0 (pa_cons (pv 3) (pa_cons (pe_tup (pa_cons pe_str pa_nil)) (pa_cons (pe_tup (pa_cons pe_str pa_nil)) pa_nil)))) (pa_cons (pe_call dis_above.G (hr.mono (by decide)) rfl dis_above.g dis_above.k dis_above.b .nil pass0 (pa_cons (pv 3) (pa_cons (pe_tup (pa_cons pe_str pa_nil)) (pa_cons (pe_tup (pa_cons pe_str pa_nil)) pa_nil)))) pa_nil)))))
  (pss_cons (ps_set (i := 4) scLaw.nd rfl (Or.inl rfl) (pe_op op_cat (pv 4) (pe_lst (pa_cons (pe_call dare_above.G (hr.mono (by decide)) rfl dare_above.g dare_above.k dare_above.b .nil pass0 (pa_cons (pv 3) (pa_cons (pe_lst (pa_cons pe_str (pa_cons pe_str pa_nil))) (pa_cons (pe_tup (pa_cons pe_str (pa_cons pe_str pa_nil))) pa_nil)))) (pa_cons (pe_call dare_above.G (hr.mono (by decide)) rfl dare_above.g dare_above.k dare_above.b .nil pass0 (pa_cons (pv 3) (pa_cons (pe_lst (pa_cons pe_str pa_nil)) (pa_cons (pe_lst (pa_cons pe_str pa_nil)) pa_nil)))) (pa_cons (pe_call dmirrored.G (hr.mono (by decide)) rfl dmirrored.g dmirrored.k dmirrored.b .nil pass0 (pa_cons (pv 3) pa_nil)) pa_nil))))))
  (pss_cons (ps_set (i := 5) scLaw.nd rfl (Or.inl rfl) (pe_tup (pa_cons (pe_tup (pa_cons (pe_tup (pa_cons (pe_tup (pa_cons pe_int (pa_cons pe_int (pa_cons (pe_tup (pa_cons pe_str (pa_cons pe_int (pa_cons pe_str pa_nil)))) pa_nil)))) (pa_cons (pe_tup (pa_cons pe_int (pa_cons pe_int (pa_cons (pe_tup (pa_cons pe_str (pa_cons pe_int pa_nil))) pa_nil)))) pa_nil))) pa_nil)) (pa_cons pe_int pa_nil))))
  (pss_one (ps_ret (pe_callG d_law_like.G g2 (hr.mono (by decide)) rfl d_law_like.g d_law_like.k d_law_like.b pass0 (pa_cons (pv 4) (pa_cons (pe_lst (pa_cons (pe_tup (pa_cons pe_str pa_nil)) (pa_cons (pe_tup (pa_cons pe_str pa_nil)) (pa_cons pe_bl (pa_cons pe_bl (pa_cons pe_bl (pa_cons (pv 5) pa_nil))))))) pa_nil))))))))))), ?_⟩
    walk_at "rd"
    refine ⟨o, ns, rfl, hS, hz, fun H1 m c g s1 nm nc ng M => ?_⟩
    walk_at "rd"
    refine r_for (r_rng1 (r_cons ?_))
    walk_at "rd"
    refine ⟨10, rfl, by decide, by decide, for_range (lo := 0) (n := 10) (fun i σ H' => ∃ o2 o3 o4 o5 o6 o7 o8 : Option V, σ = [some (.ref o), some (.ref m), o2, o3, o4, o5, o6, o7, o8] ∧ MAt m c g H' (536870912 - 1000 * i))
      ⟨_, _, _, _, _, _, _, rfl, M.less (by omega)⟩ ?_ ?_⟩
    · rintro i σ H1 hi ⟨o2, o3, o4, o5, o6, o7, o8, rfl, M1⟩
      generalize hR : 536870912 - 1000 * i = R at M1
      have hR2 : R ≥ 2000 := by omega
      walk_at "st"
      refine r_call (r_cons (r_v rfl (r_cons (r_c (r_cons (r_c (r_cons (r_c (r_nil ?_)))))))))
      refine ⟨m, c, g, R - 100, rfl, M1.less (by omega), fun vh H2 hh ok ah M2 k2 => ?_⟩
      walk_at "st"
      refine r_cons (r_call (r_cons (r_v rfl (r_cons (r_v rfl (r_nil ?_))))))
      refine ⟨m, c, g, R - 127, vh, hh, rfl, ah, ok, M2.less (by omega), fun v7 H3 s f1 a7 M3 k3 => ?_⟩
      have ah3 := Dt.kt (KT.kp M2 k3) ah (nl_house hh)
      refine r_cons (r_call (r_cons (r_v rfl (r_cons (r_v rfl (r_nil ?_))))))
      refine ⟨m, c, g, R - 154, vh, hh, rfl, ah3, ok, M3.less (by omega), fun v8 H4 t f2 a8 M4 k4 => ?_⟩
      have ah4 := Dt.kt (KT.kp M3 k4) ah3 (nl_house hh)
      have b7 := Dt.kt (KT.kp M3 k4) a7 (nl_stand s)
      refine r_nil ⟨_, _, rfl, ?_⟩
      walk_at "st"
      refine (mk_reprD (mk_lst (mka_cons (mk_var rfl ah4) (mka_cons (mk_var rfl b7) (mka_cons (mk_var rfl a8) mka_nil))) (show 3 ≤ 100000 by decide)) (rd_three ok f1 f2) : Mk K _ _ H4 (.str (D.lst [hh.d, standD s, standD t]).pd.shown)) H4 Gr.rfl' _ fun v6 H5 s5 a6 => ?_
      walk_at "st"
      have ah5 := ah4.gr s5
      have b5 := b7.gr s5
      have c5 := a8.gr s5
      have M5 := M4.same s5
      refine (mt_not (mt_B (mk_call (mka_cons (mk_var rfl ah5) (mka_cons (mk_var rfl b5) (mka_cons (mk_var rfl c5) mka_nil))) ⟨hh, s, t, rfl, ok, f1, f2, rfl⟩)) : MkT _ _ H5 (!true)) H5 Gr.rfl' _ fun H6 s6 => ?_
      refine iteF ?_
      refine r_call (r_cons (r_v rfl (r_cons (r_v rfl (r_cons (r_v rfl (r_cons (r_v rfl (r_nil ?_)))))))))
      refine ⟨m, c, g, R - 354, vh, v7, v8, hh, s, t, rfl, ah5.gr s6, ok, b5.gr s6, c5.gr s6, f1, f2, (M5.same s6).less (by omega), fun H7 M7 kt7 => ?_⟩
      refine ⟨true, rfl, ?_⟩
      refine iteF ?_
      walk_at "st"
      have ah7 := Dt.kt kt7 (ah5.gr s6) (nl_house hh)
      have b8 := Dt.kt kt7 (b5.gr s6) (nl_stand s)
      have c8 := Dt.kt kt7 (c5.gr s6) (nl_stand t)
      have e6 : v6 = .str (D.lst [hh.d, standD s, standD t]).pd.shown := by cases a6; rfl
      subst e6
      have t9 := mt_test (mk_neS (K := K) (σ := [some (.ref o), some (.ref m), some (.int (0 + (i : Int))), some vh, o4, o5, some (.str (D.lst [hh.d, standD s, standD t]).pd.shown), some v7, some v8]) (H := H7) (mk_reprD (mk_lst (mka_cons (mk_var (n := 3) rfl ah7) (mka_cons (mk_var (n := 7) rfl b8) (mka_cons (mk_var (n := 8) rfl c8) mka_nil))) (show 3 ≤ 100000 by decide)) (rd_three ok f1 f2)) (mk_var (n := 6) rfl (.str _)))
      rw [decide_eq_true rfl] at t9
      refine t9 H7 Gr.rfl' _ fun H8 s8 => iteF ?_
      walk_at "st"
      exact ⟨_, _, _, _, _, _, _, rfl, (M7.same s8).less (by omega)⟩
    · rintro σ H1 ⟨o2, o3, o4, o5, o6, o7, o8, rfl, M1⟩
      walk_at "st"
      refine (show Mk K _ _ H1 houseX.d from
        mk_tup (mka_cons (mk_tup (mka_cons (mk_tup (mka_cons (mk_tup (mka_cons mk_int (mka_cons mk_int (mka_cons (mk_tup (mka_cons mk_str (mka_cons mk_int (mka_cons mk_str mka_nil))) (show 3 ≤ 100000 by decide)) mka_nil))) (show 3 ≤ 100000 by decide)) (mka_cons (mk_tup (mka_cons mk_int (mka_cons mk_int (mka_cons (mk_tup (mka_cons mk_str (mka_cons mk_int mka_nil)) (show 2 ≤ 100000 by decide)) mka_nil))) (show 3 ≤ 100000 by decide)) mka_nil)) (show 2 ≤ 100000 by decide)) mka_nil) (show 1 ≤ 100000 by decide)) (mka_cons mk_int mka_nil)) (show 2 ≤ 100000 by decide)) H1 Gr.rfl' _ fun v3 H2 s2 a3 => ?_
      walk_at "st"
      have f1 : Fits houseX [[true, false]] := by unfold Fits; decide
      have f2 : Fits houseX [[false, true]] := by unfold Fits; decide
      refine (mk_lst (mka_cons (mk_call (mka_cons (mk_var rfl a3) (mka_cons (mk_st1 [true, false] _ (by decide +kernel)) (mka_cons (mk_st1 [false, true] _ (by decide +kernel)) mka_nil))) ⟨houseX, _, _, rfl, okX, f1, f2, rfl⟩)
        (mka_cons (mk_call (mka_cons (mk_var rfl a3) (mka_cons (mk_st1 [true, false] _ (by decide +kernel)) (mka_cons (mk_st1 [false, true] _ (by decide +kernel)) mka_nil))) ⟨houseX, _, _, rfl, okX, f1, f2, rfl⟩)
        (mka_cons (mk_call (mka_cons (mk_var rfl a3) (mka_cons (mk_st1 [true, false] _ (by decide +kernel)) (mka_cons (mk_st1 [false, true] _ (by decide +kernel)) mka_nil))) ⟨houseX, _, _, rfl, okX, f1, f2, rfl⟩) mka_nil))) (show 3 ≤ 100000 by decide) : Mk K _ _ H2 (.lst [standD [[false, false]], standD [[true, true]], .bl false])) H2 Gr.rfl' _ fun v4 H3 s3 a4 => ?_
      walk_at "st"
      have a33 := a3.gr s3
      refine (mk_cat (mk_var rfl a4) (mk_lst (mka_cons (mk_call (mka_cons (mk_var rfl a33) (mka_cons (mk_rw2 [true, false] [false, false] _ _ (by decide +kernel) (by decide +kernel)) (mka_cons (mk_rt2 [false, false] [false, false] _ _ (by decide +kernel) (by decide +kernel)) mka_nil))) ⟨houseX, true, _, _, rfl, okX, ⟨by decide, by decide⟩, ⟨by decide, by decide⟩, rfl, rfl⟩)
        (mka_cons (mk_call (mka_cons (mk_var rfl a33) (mka_cons (mk_rw1 [true, false] _ (by decide +kernel)) (mka_cons (mk_rw1 [false, true] _ (by decide +kernel)) mka_nil))) ⟨houseX, false, _, _, rfl, okX, ⟨by decide, by decide⟩, ⟨by decide, by decide⟩, rfl, rfl⟩)
        (mka_cons (mk_call (mka_cons (mk_var rfl a33) mka_nil) ⟨houseX, rfl, okX, rfl⟩) mka_nil))) (show 3 ≤ 100000 by decide)) (show 3 + 3 ≤ 100000 by decide) : Mk K _ _ H3 (.lst ([standD [[false, false]], standD [[true, true]], .bl false] ++ [.bl true, .bl false, (mirH houseX).d]))) H3 Gr.rfl' _ fun v4' H4 s4 a44 => ?_
      walk_at "st"
      refine (show Mk K _ _ H4 (mirH houseX).d from
        mk_tup (mka_cons (mk_tup (mka_cons (mk_tup (mka_cons (mk_tup (mka_cons mk_int (mka_cons mk_int (mka_cons (mk_tup (mka_cons mk_str (mka_cons mk_int (mka_cons mk_str mka_nil))) (show 3 ≤ 100000 by decide)) mka_nil))) (show 3 ≤ 100000 by decide)) (mka_cons (mk_tup (mka_cons mk_int (mka_cons mk_int (mka_cons (mk_tup (mka_cons mk_str (mka_cons mk_int mka_nil)) (show 2 ≤ 100000 by decide)) mka_nil))) (show 3 ≤ 100000 by decide)) mka_nil)) (show 2 ≤ 100000 by decide)) mka_nil) (show 1 ≤ 100000 by decide)) (mka_cons mk_int mka_nil)) (show 2 ≤ 100000 by decide)) H4 Gr.rfl' _ fun v5 H5 s5 a5 => ?_
      walk_at "st"
      exact mk_like (d := .lst ([standD [[false, false]], standD [[true, true]], .bl false] ++ [.bl true, .bl false, (mirH houseX).d])) (mk_var rfl (a44.gr s5)) (mk_lst (mka_cons (mk_st1 [false, false] _ (by decide +kernel)) (mka_cons (mk_st1 [true, true] _ (by decide +kernel)) (mka_cons mk_bl (mka_cons mk_bl (mka_cons mk_bl (mka_cons (mk_var rfl a5) mka_nil)))))) (show 6 ≤ 100000 by decide)) rd_last H5 Gr.rfl' _ fun v H6 s6 a => by
        cases a
        exact k H6
end
end TSx

namespace TSx
open PySem L2
local macro_rules | `(tactic| walk_at "rd") => `(tactic| repeat (first
  | ((with_reducible show tVar _ _ _ _); refine r_v rfl ?_)
  | with_reducible refine r_c ?_
  | with_reducible refine r_op ?_
  | with_reducible refine r_I0 ?_
  | with_reducible refine r_cb ?_
  | with_reducible refine r_nil ?_
  | with_reducible refine r_cons ?_
  | with_reducible refine r_seq ?_
  | with_reducible refine r_next ?_
  | with_reducible refine r_asg ?_
  | with_reducible refine r_name ?_
  | with_reducible refine r_ret ?_
  | with_reducible refine r_drop ?_
  | with_reducible refine r_if ?_
  | with_reducible refine r_test ?_
  | with_reducible refine r_bl ?_
  | with_reducible refine r_call ?_))
local macro_rules | `(tactic| walk_at "st") => `(tactic| repeat (first
  | with_reducible refine r_seq ?_
  | with_reducible refine r_next ?_
  | with_reducible refine r_asg ?_
  | with_reducible refine r_name ?_
  | with_reducible refine r_ret ?_
  | with_reducible refine r_drop ?_
  | with_reducible refine r_if ?_))
local macro_rules | `(tactic| walk_at "mk") => `(tactic| repeat (first
  | with_reducible exact mk_non
  | with_reducible exact mk_int
  | with_reducible exact mk_str
  | with_reducible exact mk_bl
  | with_reducible exact mk_dic
  | with_reducible exact mka_nil
  | with_reducible refine mka_cons ?_ ?_
  | ((with_reducible refine mk_tup ?_ ?hz); (case hz => decide))
  | ((with_reducible refine mk_lst ?_ ?hz); (case hz => decide))
  | with_reducible refine mk_neg ?_))

/-! ### the end: what the top has written -/
theorem all_mk {l : PySem.W.OpenLaw} {w : World} {K : PySem.W.Frag} {h : Heap} {mg : Str → Option Value} {fa pT pM f_mixed f_folded f_draw f_begun f_whole f_tup f_word f_sides f_way f_seat f_NB f_CT f_NH f_IS f_NS f_NR f_CU f_SM f_RE f_SO f_SS f_HS f_SF f_SB f_RU f_LA f_SA f_BE f_IA f_AA f_IO f_LO f_UP f_EN f_MS f_MI f_MT f_like f_OF f_TE f_WY f_HO f_FS f_OV f_AB f_ML f_SW f_OH f_TR f_RR f_law : Addr} (X : K.In h) (G : h.Ns mainGlobals mg) (hfa : mg "law" = some (.ref fa))
    {t_MOST_WARDS : Tok}
    {t_MOST_BODIES : Tok}
    {t_MOST_SEATS : Tok}
    {t_MOST_TERM : Tok}
    {t_MOST_ROUND : Tok}
    {t_MOST_ROWS : Tok}
    {t_SIDES ta tb tk : Tok} {nT : Nat} {odT : Option Addr} {slT : Array (Option Value)}
    {esM : Array DictEntry} {nM : Nat} {tba tbb tbk : Tok}
    {od_mixed an_mixed : Option Addr} {sl_mixed : Array (Option Value)} {oc_mixed kV_mixed dc_mixed pm_mixed cd_mixed ct_mixed : Value}
    {od_folded an_folded : Option Addr} {sl_folded : Array (Option Value)} {oc_folded kV_folded dc_folded pm_folded cd_folded ct_folded : Value}
    {od_draw an_draw : Option Addr} {sl_draw : Array (Option Value)} {oc_draw kV_draw dc_draw pm_draw cd_draw ct_draw : Value}
    {od_begun an_begun : Option Addr} {sl_begun : Array (Option Value)} {oc_begun kV_begun dc_begun pm_begun cd_begun ct_begun : Value}
    {od_whole an_whole : Option Addr} {sl_whole : Array (Option Value)} {oc_whole kV_whole dc_whole pm_whole cd_whole ct_whole : Value}
    {od_tup an_tup : Option Addr} {sl_tup : Array (Option Value)} {oc_tup kV_tup dc_tup pm_tup cd_tup ct_tup : Value}
    {od_word an_word : Option Addr} {sl_word : Array (Option Value)} {oc_word kV_word dc_word pm_word cd_word ct_word : Value}
    {od_sides an_sides : Option Addr} {sl_sides : Array (Option Value)} {oc_sides kV_sides dc_sides pm_sides cd_sides ct_sides : Value}
    {od_way an_way : Option Addr} {sl_way : Array (Option Value)} {oc_way kV_way dc_way pm_way cd_way ct_way : Value}
    {od_seat an_seat : Option Addr} {sl_seat : Array (Option Value)} {oc_seat kV_seat dc_seat pm_seat cd_seat ct_seat : Value}
    {od_NB an_NB : Option Addr} {sl_NB : Array (Option Value)} {oc_NB kV_NB dc_NB pm_NB cd_NB ct_NB : Value}
    {od_CT an_CT : Option Addr} {sl_CT : Array (Option Value)} {oc_CT kV_CT dc_CT pm_CT cd_CT ct_CT : Value}
    {od_NH an_NH : Option Addr} {sl_NH : Array (Option Value)} {oc_NH kV_NH dc_NH pm_NH cd_NH ct_NH : Value}
    {od_IS an_IS : Option Addr} {sl_IS : Array (Option Value)} {oc_IS kV_IS dc_IS pm_IS cd_IS ct_IS : Value}
    {od_NS an_NS : Option Addr} {sl_NS : Array (Option Value)} {oc_NS kV_NS dc_NS pm_NS cd_NS ct_NS : Value}
    {od_NR an_NR : Option Addr} {sl_NR : Array (Option Value)} {oc_NR kV_NR dc_NR pm_NR cd_NR ct_NR : Value}
    {od_CU an_CU : Option Addr} {sl_CU : Array (Option Value)} {oc_CU kV_CU dc_CU pm_CU cd_CU ct_CU : Value}
    {od_SM an_SM : Option Addr} {sl_SM : Array (Option Value)} {oc_SM kV_SM dc_SM pm_SM cd_SM ct_SM : Value}
    {od_RE an_RE : Option Addr} {sl_RE : Array (Option Value)} {oc_RE kV_RE dc_RE pm_RE cd_RE ct_RE : Value}
    {od_SO an_SO : Option Addr} {sl_SO : Array (Option Value)} {oc_SO kV_SO dc_SO pm_SO cd_SO ct_SO : Value}
    {od_SS an_SS : Option Addr} {sl_SS : Array (Option Value)} {oc_SS kV_SS dc_SS pm_SS cd_SS ct_SS : Value}
    {od_HS an_HS : Option Addr} {sl_HS : Array (Option Value)} {oc_HS kV_HS dc_HS pm_HS cd_HS ct_HS : Value}
    {od_SF an_SF : Option Addr} {sl_SF : Array (Option Value)} {oc_SF kV_SF dc_SF pm_SF cd_SF ct_SF : Value}
    {od_SB an_SB : Option Addr} {sl_SB : Array (Option Value)} {oc_SB kV_SB dc_SB pm_SB cd_SB ct_SB : Value}
    {od_RU an_RU : Option Addr} {sl_RU : Array (Option Value)} {oc_RU kV_RU dc_RU pm_RU cd_RU ct_RU : Value}
    {od_LA an_LA : Option Addr} {sl_LA : Array (Option Value)} {oc_LA kV_LA dc_LA pm_LA cd_LA ct_LA : Value}
    {od_SA an_SA : Option Addr} {sl_SA : Array (Option Value)} {oc_SA kV_SA dc_SA pm_SA cd_SA ct_SA : Value}
    {od_BE an_BE : Option Addr} {sl_BE : Array (Option Value)} {oc_BE kV_BE dc_BE pm_BE cd_BE ct_BE : Value}
    {od_IA an_IA : Option Addr} {sl_IA : Array (Option Value)} {oc_IA kV_IA dc_IA pm_IA cd_IA ct_IA : Value}
    {od_AA an_AA : Option Addr} {sl_AA : Array (Option Value)} {oc_AA kV_AA dc_AA pm_AA cd_AA ct_AA : Value}
    {od_IO an_IO : Option Addr} {sl_IO : Array (Option Value)} {oc_IO kV_IO dc_IO pm_IO cd_IO ct_IO : Value}
    {od_LO an_LO : Option Addr} {sl_LO : Array (Option Value)} {oc_LO kV_LO dc_LO pm_LO cd_LO ct_LO : Value}
    {od_UP an_UP : Option Addr} {sl_UP : Array (Option Value)} {oc_UP kV_UP dc_UP pm_UP cd_UP ct_UP : Value}
    {od_EN an_EN : Option Addr} {sl_EN : Array (Option Value)} {oc_EN kV_EN dc_EN pm_EN cd_EN ct_EN : Value}
    {od_MS an_MS : Option Addr} {sl_MS : Array (Option Value)} {oc_MS kV_MS dc_MS pm_MS cd_MS ct_MS : Value}
    {od_MI an_MI : Option Addr} {sl_MI : Array (Option Value)} {oc_MI kV_MI dc_MI pm_MI cd_MI ct_MI : Value}
    {od_MT an_MT : Option Addr} {sl_MT : Array (Option Value)} {oc_MT kV_MT dc_MT pm_MT cd_MT ct_MT : Value}
    {od_like an_like : Option Addr} {sl_like : Array (Option Value)} {oc_like kV_like dc_like pm_like cd_like ct_like : Value}
    {od_OF an_OF : Option Addr} {sl_OF : Array (Option Value)} {oc_OF kV_OF dc_OF pm_OF cd_OF ct_OF : Value}
    {od_TE an_TE : Option Addr} {sl_TE : Array (Option Value)} {oc_TE kV_TE dc_TE pm_TE cd_TE ct_TE : Value}
    {od_WY an_WY : Option Addr} {sl_WY : Array (Option Value)} {oc_WY kV_WY dc_WY pm_WY cd_WY ct_WY : Value}
    {od_HO an_HO : Option Addr} {sl_HO : Array (Option Value)} {oc_HO kV_HO dc_HO pm_HO cd_HO ct_HO : Value}
    {od_FS an_FS : Option Addr} {sl_FS : Array (Option Value)} {oc_FS kV_FS dc_FS pm_FS cd_FS ct_FS : Value}
    {od_OV an_OV : Option Addr} {sl_OV : Array (Option Value)} {oc_OV kV_OV dc_OV pm_OV cd_OV ct_OV : Value}
    {od_AB an_AB : Option Addr} {sl_AB : Array (Option Value)} {oc_AB kV_AB dc_AB pm_AB cd_AB ct_AB : Value}
    {od_ML an_ML : Option Addr} {sl_ML : Array (Option Value)} {oc_ML kV_ML dc_ML pm_ML cd_ML ct_ML : Value}
    {od_SW an_SW : Option Addr} {sl_SW : Array (Option Value)} {oc_SW kV_SW dc_SW pm_SW cd_SW ct_SW : Value}
    {od_OH an_OH : Option Addr} {sl_OH : Array (Option Value)} {oc_OH kV_OH dc_OH pm_OH cd_OH ct_OH : Value}
    {od_TR an_TR : Option Addr} {sl_TR : Array (Option Value)} {oc_TR kV_TR dc_TR pm_TR cd_TR ct_TR : Value}
    {od_RR an_RR : Option Addr} {sl_RR : Array (Option Value)} {oc_RR kV_RR dc_RR pm_RR cd_RR ct_RR : Value}
    {od_law an_law : Option Addr} {sl_law : Array (Option Value)} {oc_law kV_law dc_law pm_law cd_law ct_law : Value}
    (a_MOST_WARDS : PySem.W.nsIn K mainGlobals "MOST_WARDS" = some (some (.int 4 t_MOST_WARDS)))
    (a_MOST_BODIES : PySem.W.nsIn K mainGlobals "MOST_BODIES" = some (some (.int 3 t_MOST_BODIES)))
    (a_MOST_SEATS : PySem.W.nsIn K mainGlobals "MOST_SEATS" = some (some (.int 9 t_MOST_SEATS)))
    (a_MOST_TERM : PySem.W.nsIn K mainGlobals "MOST_TERM" = some (some (.int 6 t_MOST_TERM)))
    (a_MOST_ROUND : PySem.W.nsIn K mainGlobals "MOST_ROUND" = some (some (.int 12 t_MOST_ROUND)))
    (a_MOST_ROWS : PySem.W.nsIn K mainGlobals "MOST_ROWS" = some (some (.int 400 t_MOST_ROWS)))
    (a_SIDES : PySem.W.nsIn K mainGlobals "SIDES" = some (some (.str "ab" t_SIDES)))
    (a_TIES : PySem.W.nsIn K mainGlobals "TIES" = some (some (.ref pT)))
    (x_TIES : K.lookup pT = some ⟨.type "tuple", odT, .seq #[.str "a" ta, .str "b" tb, .str "kept" tk] nT, slT⟩)
    (a_MIRRORED : PySem.W.nsIn K mainGlobals "MIRRORED" = some (some (.ref pM)))
    (x_MIRRORED : K.lookup pM = some ⟨.type "dict", none, .dict esM nM, #[]⟩)
    (y_MIRRORED : PySem.W.KeysLit w.params esM.toList)
    (v_a : PySem.W.nsIn K pM "a" = some (some (.str "b" tba)))
    (v_b : PySem.W.nsIn K pM "b" = some (some (.str "a" tbb)))
    (v_k : PySem.W.nsIn K pM "kept" = some (some (.str "kept" tbk)))
    (a_lcm : PySem.W.nsIn K mainGlobals "lcm" = some (some (.builtin "math.lcm")))
    (a_mixed : PySem.W.nsIn K mainGlobals "_law_mixed" = some (some (.ref f_mixed)))
    (l_mixed : K.lookup f_mixed = some ⟨oc_mixed, od_mixed, .func (PySem.W.fnOf "_law_mixed" "_law_mixed" (defArgs sMixed) (defBody sMixed) (defScope sMixed) .none kV_mixed dc_mixed pm_mixed an_mixed cd_mixed ct_mixed), sl_mixed⟩)
    (cd_of_mixed : PySem.W.codeIn K cd_mixed "_law_mixed" = true)
    (k_mixed : PySem.W.keepIn K (.ref f_mixed) = true)
    (a_folded : PySem.W.nsIn K mainGlobals "_law_folded" = some (some (.ref f_folded)))
    (l_folded : K.lookup f_folded = some ⟨oc_folded, od_folded, .func (PySem.W.fnOf "_law_folded" "_law_folded" (defArgs sFolded) (defBody sFolded) (defScope sFolded) .none kV_folded dc_folded pm_folded an_folded cd_folded ct_folded), sl_folded⟩)
    (cd_of_folded : PySem.W.codeIn K cd_folded "_law_folded" = true)
    (k_folded : PySem.W.keepIn K (.ref f_folded) = true)
    (a_draw : PySem.W.nsIn K mainGlobals "_law_draw" = some (some (.ref f_draw)))
    (l_draw : K.lookup f_draw = some ⟨oc_draw, od_draw, .func (PySem.W.fnOf "_law_draw" "_law_draw" (defArgs sDraw) (defBody sDraw) (defScope sDraw) .none kV_draw dc_draw pm_draw an_draw cd_draw ct_draw), sl_draw⟩)
    (cd_of_draw : PySem.W.codeIn K cd_draw "_law_draw" = true)
    (k_draw : PySem.W.keepIn K (.ref f_draw) = true)
    (a_begun : PySem.W.nsIn K mainGlobals "_law_begun" = some (some (.ref f_begun)))
    (l_begun : K.lookup f_begun = some ⟨oc_begun, od_begun, .func (PySem.W.fnOf "_law_begun" "_law_begun" (defArgs sBegun) (defBody sBegun) (defScope sBegun) .none kV_begun dc_begun pm_begun an_begun cd_begun ct_begun), sl_begun⟩)
    (cd_of_begun : PySem.W.codeIn K cd_begun "_law_begun" = true)
    (k_begun : PySem.W.keepIn K (.ref f_begun) = true)
    (a_whole : PySem.W.nsIn K mainGlobals "is_whole" = some (some (.ref f_whole)))
    (l_whole : K.lookup f_whole = some ⟨oc_whole, od_whole, .func (PySem.W.fnOf "is_whole" "is_whole" (defArgs sWhole) (defBody sWhole) (defScope sWhole) .none kV_whole dc_whole pm_whole an_whole cd_whole ct_whole), sl_whole⟩)
    (cd_of_whole : PySem.W.codeIn K cd_whole "is_whole" = true)
    (k_whole : PySem.W.keepIn K (.ref f_whole) = true)
    (a_tup : PySem.W.nsIn K mainGlobals "is_tuple" = some (some (.ref f_tup)))
    (l_tup : K.lookup f_tup = some ⟨oc_tup, od_tup, .func (PySem.W.fnOf "is_tuple" "is_tuple" (defArgs sTup) (defBody sTup) (defScope sTup) .none kV_tup dc_tup pm_tup an_tup cd_tup ct_tup), sl_tup⟩)
    (cd_of_tup : PySem.W.codeIn K cd_tup "is_tuple" = true)
    (k_tup : PySem.W.keepIn K (.ref f_tup) = true)
    (a_word : PySem.W.nsIn K mainGlobals "is_word" = some (some (.ref f_word)))
    (l_word : K.lookup f_word = some ⟨oc_word, od_word, .func (PySem.W.fnOf "is_word" "is_word" (defArgs sWord) (defBody sWord) (defScope sWord) .none kV_word dc_word pm_word an_word cd_word ct_word), sl_word⟩)
    (cd_of_word : PySem.W.codeIn K cd_word "is_word" = true)
    (k_word : PySem.W.keepIn K (.ref f_word) = true)
    (a_sides : PySem.W.nsIn K mainGlobals "is_sides" = some (some (.ref f_sides)))
    (l_sides : K.lookup f_sides = some ⟨oc_sides, od_sides, .func (PySem.W.fnOf "is_sides" "is_sides" (defArgs sSides) (defBody sSides) (defScope sSides) .none kV_sides dc_sides pm_sides an_sides cd_sides ct_sides), sl_sides⟩)
    (cd_of_sides : PySem.W.codeIn K cd_sides "is_sides" = true)
    (k_sides : PySem.W.keepIn K (.ref f_sides) = true)
    (a_way : PySem.W.nsIn K mainGlobals "is_way" = some (some (.ref f_way)))
    (l_way : K.lookup f_way = some ⟨oc_way, od_way, .func (PySem.W.fnOf "is_way" "is_way" (defArgs sWay) (defBody sWay) (defScope sWay) .none kV_way dc_way pm_way an_way cd_way ct_way), sl_way⟩)
    (cd_of_way : PySem.W.codeIn K cd_way "is_way" = true)
    (k_way : PySem.W.keepIn K (.ref f_way) = true)
    (a_seat : PySem.W.nsIn K mainGlobals "is_seat" = some (some (.ref f_seat)))
    (l_seat : K.lookup f_seat = some ⟨oc_seat, od_seat, .func (PySem.W.fnOf "is_seat" "is_seat" (defArgs sSeat) (defBody sSeat) (defScope sSeat) .none kV_seat dc_seat pm_seat an_seat cd_seat ct_seat), sl_seat⟩)
    (cd_of_seat : PySem.W.codeIn K cd_seat "is_seat" = true)
    (k_seat : PySem.W.keepIn K (.ref f_seat) = true)
    (a_NB : PySem.W.nsIn K mainGlobals "_need_seats" = some (some (.ref f_NB)))
    (l_NB : K.lookup f_NB = some ⟨oc_NB, od_NB, .func (PySem.W.fnOf "_need_seats" "_need_seats" (defArgs sNB) (defBody sNB) (defScope sNB) .none kV_NB dc_NB pm_NB an_NB cd_NB ct_NB), sl_NB⟩)
    (cd_of_NB : PySem.W.codeIn K cd_NB "_need_seats" = true)
    (k_NB : PySem.W.keepIn K (.ref f_NB) = true)
    (a_CT : PySem.W.nsIn K mainGlobals "common_term" = some (some (.ref f_CT)))
    (l_CT : K.lookup f_CT = some ⟨oc_CT, od_CT, .func (PySem.W.fnOf "common_term" "common_term" (defArgs sCT) (defBody sCT) (defScope sCT) .none kV_CT dc_CT pm_CT an_CT cd_CT ct_CT), sl_CT⟩)
    (cd_of_CT : PySem.W.codeIn K cd_CT "common_term" = true)
    (k_CT : PySem.W.keepIn K (.ref f_CT) = true)
    (a_NH : PySem.W.nsIn K mainGlobals "need_house" = some (some (.ref f_NH)))
    (l_NH : K.lookup f_NH = some ⟨oc_NH, od_NH, .func (PySem.W.fnOf "need_house" "need_house" (defArgs sNH) (defBody sNH) (defScope sNH) .none kV_NH dc_NH pm_NH an_NH cd_NH ct_NH), sl_NH⟩)
    (cd_of_NH : PySem.W.codeIn K cd_NH "need_house" = true)
    (k_NH : PySem.W.keepIn K (.ref f_NH) = true)
    (a_IS : PySem.W.nsIn K mainGlobals "is_stand" = some (some (.ref f_IS)))
    (l_IS : K.lookup f_IS = some ⟨oc_IS, od_IS, .func (PySem.W.fnOf "is_stand" "is_stand" (defArgs sIS) (defBody sIS) (defScope sIS) .none kV_IS dc_IS pm_IS an_IS cd_IS ct_IS), sl_IS⟩)
    (cd_of_IS : PySem.W.codeIn K cd_IS "is_stand" = true)
    (k_IS : PySem.W.keepIn K (.ref f_IS) = true)
    (a_NS : PySem.W.nsIn K mainGlobals "need_stand" = some (some (.ref f_NS)))
    (l_NS : K.lookup f_NS = some ⟨oc_NS, od_NS, .func (PySem.W.fnOf "need_stand" "need_stand" (defArgs sNS) (defBody sNS) (defScope sNS) .none kV_NS dc_NS pm_NS an_NS cd_NS ct_NS), sl_NS⟩)
    (cd_of_NS : PySem.W.codeIn K cd_NS "need_stand" = true)
    (k_NS : PySem.W.keepIn K (.ref f_NS) = true)
    (a_NR : PySem.W.nsIn K mainGlobals "need_rows" = some (some (.ref f_NR)))
    (l_NR : K.lookup f_NR = some ⟨oc_NR, od_NR, .func (PySem.W.fnOf "need_rows" "need_rows" (defArgs sNR) (defBody sNR) (defScope sNR) .none kV_NR dc_NR pm_NR an_NR cd_NR ct_NR), sl_NR⟩)
    (cd_of_NR : PySem.W.codeIn K cd_NR "need_rows" = true)
    (k_NR : PySem.W.keepIn K (.ref f_NR) = true)
    (a_CU : PySem.W.nsIn K mainGlobals "comes_up" = some (some (.ref f_CU)))
    (l_CU : K.lookup f_CU = some ⟨oc_CU, od_CU, .func (PySem.W.fnOf "comes_up" "comes_up" (defArgs sCU) (defBody sCU) (defScope sCU) .none kV_CU dc_CU pm_CU an_CU cd_CU ct_CU), sl_CU⟩)
    (cd_of_CU : PySem.W.codeIn K cd_CU "comes_up" = true)
    (k_CU : PySem.W.keepIn K (.ref f_CU) = true)
    (a_SM : PySem.W.nsIn K mainGlobals "side_with_more" = some (some (.ref f_SM)))
    (l_SM : K.lookup f_SM = some ⟨oc_SM, od_SM, .func (PySem.W.fnOf "side_with_more" "side_with_more" (defArgs sSM) (defBody sSM) (defScope sSM) .none kV_SM dc_SM pm_SM an_SM cd_SM ct_SM), sl_SM⟩)
    (cd_of_SM : PySem.W.codeIn K cd_SM "side_with_more" = true)
    (k_SM : PySem.W.keepIn K (.ref f_SM) = true)
    (a_RE : PySem.W.nsIn K mainGlobals "_resting" = some (some (.ref f_RE)))
    (l_RE : K.lookup f_RE = some ⟨oc_RE, od_RE, .func (PySem.W.fnOf "_resting" "_resting" (defArgs sRE) (defBody sRE) (defScope sRE) .none kV_RE dc_RE pm_RE an_RE cd_RE ct_RE), sl_RE⟩)
    (cd_of_RE : PySem.W.codeIn K cd_RE "_resting" = true)
    (k_RE : PySem.W.keepIn K (.ref f_RE) = true)
    (a_SO : PySem.W.nsIn K mainGlobals "_source" = some (some (.ref f_SO)))
    (l_SO : K.lookup f_SO = some ⟨oc_SO, od_SO, .func (PySem.W.fnOf "_source" "_source" (defArgs sSO) (defBody sSO) (defScope sSO) .none kV_SO dc_SO pm_SO an_SO cd_SO ct_SO), sl_SO⟩)
    (cd_of_SO : PySem.W.codeIn K cd_SO "_source" = true)
    (k_SO : PySem.W.keepIn K (.ref f_SO) = true)
    (a_SS : PySem.W.nsIn K mainGlobals "sources" = some (some (.ref f_SS)))
    (l_SS : K.lookup f_SS = some ⟨oc_SS, od_SS, .func (PySem.W.fnOf "sources" "sources" (defArgs sSS) (defBody sSS) (defScope sSS) .none kV_SS dc_SS pm_SS an_SS cd_SS ct_SS), sl_SS⟩)
    (cd_of_SS : PySem.W.codeIn K cd_SS "sources" = true)
    (k_SS : PySem.W.keepIn K (.ref f_SS) = true)
    (a_HS : PySem.W.nsIn K mainGlobals "_house_sources" = some (some (.ref f_HS)))
    (l_HS : K.lookup f_HS = some ⟨oc_HS, od_HS, .func (PySem.W.fnOf "_house_sources" "_house_sources" (defArgs sHS) (defBody sHS) (defScope sHS) .none kV_HS dc_HS pm_HS an_HS cd_HS ct_HS), sl_HS⟩)
    (cd_of_HS : PySem.W.codeIn K cd_HS "_house_sources" = true)
    (k_HS : PySem.W.keepIn K (.ref f_HS) = true)
    (a_SF : PySem.W.nsIn K mainGlobals "stand_of" = some (some (.ref f_SF)))
    (l_SF : K.lookup f_SF = some ⟨oc_SF, od_SF, .func (PySem.W.fnOf "stand_of" "stand_of" (defArgs sSF) (defBody sSF) (defScope sSF) .none kV_SF dc_SF pm_SF an_SF cd_SF ct_SF), sl_SF⟩)
    (cd_of_SF : PySem.W.codeIn K cd_SF "stand_of" = true)
    (k_SF : PySem.W.keepIn K (.ref f_SF) = true)
    (a_SB : PySem.W.nsIn K mainGlobals "stand_behind" = some (some (.ref f_SB)))
    (l_SB : K.lookup f_SB = some ⟨oc_SB, od_SB, .func (PySem.W.fnOf "stand_behind" "stand_behind" (defArgs sSB) (defBody sSB) (defScope sSB) .none kV_SB dc_SB pm_SB an_SB cd_SB ct_SB), sl_SB⟩)
    (cd_of_SB : PySem.W.codeIn K cd_SB "stand_behind" = true)
    (k_SB : PySem.W.keepIn K (.ref f_SB) = true)
    (a_RU : PySem.W.nsIn K mainGlobals "run" = some (some (.ref f_RU)))
    (l_RU : K.lookup f_RU = some ⟨oc_RU, od_RU, .func (PySem.W.fnOf "run" "run" (defArgs sRU) (defBody sRU) (defScope sRU) .none kV_RU dc_RU pm_RU an_RU cd_RU ct_RU), sl_RU⟩)
    (cd_of_RU : PySem.W.codeIn K cd_RU "run" = true)
    (k_RU : PySem.W.keepIn K (.ref f_RU) = true)
    (a_LA : PySem.W.nsIn K mainGlobals "letters_above" = some (some (.ref f_LA)))
    (l_LA : K.lookup f_LA = some ⟨oc_LA, od_LA, .func (PySem.W.fnOf "letters_above" "letters_above" (defArgs sLA) (defBody sLA) (defScope sLA) .none kV_LA dc_LA pm_LA an_LA cd_LA ct_LA), sl_LA⟩)
    (cd_of_LA : PySem.W.codeIn K cd_LA "letters_above" = true)
    (k_LA : PySem.W.keepIn K (.ref f_LA) = true)
    (a_SA : PySem.W.nsIn K mainGlobals "stand_above" = some (some (.ref f_SA)))
    (l_SA : K.lookup f_SA = some ⟨oc_SA, od_SA, .func (PySem.W.fnOf "stand_above" "stand_above" (defArgs sSA) (defBody sSA) (defScope sSA) .none kV_SA dc_SA pm_SA an_SA cd_SA ct_SA), sl_SA⟩)
    (cd_of_SA : PySem.W.codeIn K cd_SA "stand_above" = true)
    (k_SA : PySem.W.keepIn K (.ref f_SA) = true)
    (a_BE : PySem.W.nsIn K mainGlobals "both_ends" = some (some (.ref f_BE)))
    (l_BE : K.lookup f_BE = some ⟨oc_BE, od_BE, .func (PySem.W.fnOf "both_ends" "both_ends" (defArgs sBE) (defBody sBE) (defScope sBE) .none kV_BE dc_BE pm_BE an_BE cd_BE ct_BE), sl_BE⟩)
    (cd_of_BE : PySem.W.codeIn K cd_BE "both_ends" = true)
    (k_BE : PySem.W.keepIn K (.ref f_BE) = true)
    (a_IA : PySem.W.nsIn K mainGlobals "is_above" = some (some (.ref f_IA)))
    (l_IA : K.lookup f_IA = some ⟨oc_IA, od_IA, .func (PySem.W.fnOf "is_above" "is_above" (defArgs sIA) (defBody sIA) (defScope sIA) .none kV_IA dc_IA pm_IA an_IA cd_IA ct_IA), sl_IA⟩)
    (cd_of_IA : PySem.W.codeIn K cd_IA "is_above" = true)
    (k_IA : PySem.W.keepIn K (.ref f_IA) = true)
    (a_AA : PySem.W.nsIn K mainGlobals "are_above" = some (some (.ref f_AA)))
    (l_AA : K.lookup f_AA = some ⟨oc_AA, od_AA, .func (PySem.W.fnOf "are_above" "are_above" (defArgs sAA) (defBody sAA) (defScope sAA) .none kV_AA dc_AA pm_AA an_AA cd_AA ct_AA), sl_AA⟩)
    (cd_of_AA : PySem.W.codeIn K cd_AA "are_above" = true)
    (k_AA : PySem.W.keepIn K (.ref f_AA) = true)
    (a_IO : PySem.W.nsIn K mainGlobals "_in_one_at_least" = some (some (.ref f_IO)))
    (l_IO : K.lookup f_IO = some ⟨oc_IO, od_IO, .func (PySem.W.fnOf "_in_one_at_least" "_in_one_at_least" (defArgs sIO) (defBody sIO) (defScope sIO) .none kV_IO dc_IO pm_IO an_IO cd_IO ct_IO), sl_IO⟩)
    (cd_of_IO : PySem.W.codeIn K cd_IO "_in_one_at_least" = true)
    (k_IO : PySem.W.keepIn K (.ref f_IO) = true)
    (a_LO : PySem.W.nsIn K mainGlobals "lower" = some (some (.ref f_LO)))
    (l_LO : K.lookup f_LO = some ⟨oc_LO, od_LO, .func (PySem.W.fnOf "lower" "lower" (defArgs sLO) (defBody sLO) (defScope sLO) .none kV_LO dc_LO pm_LO an_LO cd_LO ct_LO), sl_LO⟩)
    (cd_of_LO : PySem.W.codeIn K cd_LO "lower" = true)
    (k_LO : PySem.W.keepIn K (.ref f_LO) = true)
    (a_UP : PySem.W.nsIn K mainGlobals "upper" = some (some (.ref f_UP)))
    (l_UP : K.lookup f_UP = some ⟨oc_UP, od_UP, .func (PySem.W.fnOf "upper" "upper" (defArgs sUP) (defBody sUP) (defScope sUP) .none kV_UP dc_UP pm_UP an_UP cd_UP ct_UP), sl_UP⟩)
    (cd_of_UP : PySem.W.codeIn K cd_UP "upper" = true)
    (k_UP : PySem.W.keepIn K (.ref f_UP) = true)
    (a_EN : PySem.W.nsIn K mainGlobals "ends" = some (some (.ref f_EN)))
    (l_EN : K.lookup f_EN = some ⟨oc_EN, od_EN, .func (PySem.W.fnOf "ends" "ends" (defArgs sEN) (defBody sEN) (defScope sEN) .none kV_EN dc_EN pm_EN an_EN cd_EN ct_EN), sl_EN⟩)
    (cd_of_EN : PySem.W.codeIn K cd_EN "ends" = true)
    (k_EN : PySem.W.keepIn K (.ref f_EN) = true)
    (a_MS : PySem.W.nsIn K mainGlobals "_mirrored_seat" = some (some (.ref f_MS)))
    (l_MS : K.lookup f_MS = some ⟨oc_MS, od_MS, .func (PySem.W.fnOf "_mirrored_seat" "_mirrored_seat" (defArgs sMS) (defBody sMS) (defScope sMS) .none kV_MS dc_MS pm_MS an_MS cd_MS ct_MS), sl_MS⟩)
    (cd_of_MS : PySem.W.codeIn K cd_MS "_mirrored_seat" = true)
    (k_MS : PySem.W.keepIn K (.ref f_MS) = true)
    (a_MI : PySem.W.nsIn K mainGlobals "mirrored" = some (some (.ref f_MI)))
    (l_MI : K.lookup f_MI = some ⟨oc_MI, od_MI, .func (PySem.W.fnOf "mirrored" "mirrored" (defArgs sMI) (defBody sMI) (defScope sMI) .none kV_MI dc_MI pm_MI an_MI cd_MI ct_MI), sl_MI⟩)
    (cd_of_MI : PySem.W.codeIn K cd_MI "mirrored" = true)
    (k_MI : PySem.W.keepIn K (.ref f_MI) = true)
    (a_MT : PySem.W.nsIn K mainGlobals "mirrored_stand" = some (some (.ref f_MT)))
    (l_MT : K.lookup f_MT = some ⟨oc_MT, od_MT, .func (PySem.W.fnOf "mirrored_stand" "mirrored_stand" (defArgs sMT) (defBody sMT) (defScope sMT) .none kV_MT dc_MT pm_MT an_MT cd_MT ct_MT), sl_MT⟩)
    (cd_of_MT : PySem.W.codeIn K cd_MT "mirrored_stand" = true)
    (k_MT : PySem.W.keepIn K (.ref f_MT) = true)
    (a_like : PySem.W.nsIn K mainGlobals "_law_like" = some (some (.ref f_like)))
    (l_like : K.lookup f_like = some ⟨oc_like, od_like, .func (PySem.W.fnOf "_law_like" "_law_like" (defArgs sLike) (defBody sLike) (defScope sLike) .none kV_like dc_like pm_like an_like cd_like ct_like), sl_like⟩)
    (cd_of_like : PySem.W.codeIn K cd_like "_law_like" = true)
    (k_like : PySem.W.keepIn K (.ref f_like) = true)
    (a_OF : PySem.W.nsIn K mainGlobals "_law_of" = some (some (.ref f_OF)))
    (l_OF : K.lookup f_OF = some ⟨oc_OF, od_OF, .func (PySem.W.fnOf "_law_of" "_law_of" (defArgs sOF) (defBody sOF) (defScope sOF) .none kV_OF dc_OF pm_OF an_OF cd_OF ct_OF), sl_OF⟩)
    (cd_of_OF : PySem.W.codeIn K cd_OF "_law_of" = true)
    (k_OF : PySem.W.keepIn K (.ref f_OF) = true)
    (a_TE : PySem.W.nsIn K mainGlobals "_law_terms" = some (some (.ref f_TE)))
    (l_TE : K.lookup f_TE = some ⟨oc_TE, od_TE, .func (PySem.W.fnOf "_law_terms" "_law_terms" (defArgs sTE) (defBody sTE) (defScope sTE) .none kV_TE dc_TE pm_TE an_TE cd_TE ct_TE), sl_TE⟩)
    (cd_of_TE : PySem.W.codeIn K cd_TE "_law_terms" = true)
    (k_TE : PySem.W.keepIn K (.ref f_TE) = true)
    (a_WY : PySem.W.nsIn K mainGlobals "_law_way" = some (some (.ref f_WY)))
    (l_WY : K.lookup f_WY = some ⟨oc_WY, od_WY, .func (PySem.W.fnOf "_law_way" "_law_way" (defArgs sWY) (defBody sWY) (defScope sWY) .none kV_WY dc_WY pm_WY an_WY cd_WY ct_WY), sl_WY⟩)
    (cd_of_WY : PySem.W.codeIn K cd_WY "_law_way" = true)
    (k_WY : PySem.W.keepIn K (.ref f_WY) = true)
    (a_HO : PySem.W.nsIn K mainGlobals "_law_home" = some (some (.ref f_HO)))
    (l_HO : K.lookup f_HO = some ⟨oc_HO, od_HO, .func (PySem.W.fnOf "_law_home" "_law_home" (defArgs sHO) (defBody sHO) (defScope sHO) .none kV_HO dc_HO pm_HO an_HO cd_HO ct_HO), sl_HO⟩)
    (cd_of_HO : PySem.W.codeIn K cd_HO "_law_home" = true)
    (k_HO : PySem.W.keepIn K (.ref f_HO) = true)
    (a_FS : PySem.W.nsIn K mainGlobals "_law_first" = some (some (.ref f_FS)))
    (l_FS : K.lookup f_FS = some ⟨oc_FS, od_FS, .func (PySem.W.fnOf "_law_first" "_law_first" (defArgs sFS) (defBody sFS) (defScope sFS) .none kV_FS dc_FS pm_FS an_FS cd_FS ct_FS), sl_FS⟩)
    (cd_of_FS : PySem.W.codeIn K cd_FS "_law_first" = true)
    (k_FS : PySem.W.keepIn K (.ref f_FS) = true)
    (a_OV : PySem.W.nsIn K mainGlobals "_law_over" = some (some (.ref f_OV)))
    (l_OV : K.lookup f_OV = some ⟨oc_OV, od_OV, .func (PySem.W.fnOf "_law_over" "_law_over" (defArgs sOV) (defBody sOV) (defScope sOV) .none kV_OV dc_OV pm_OV an_OV cd_OV ct_OV), sl_OV⟩)
    (cd_of_OV : PySem.W.codeIn K cd_OV "_law_over" = true)
    (k_OV : PySem.W.keepIn K (.ref f_OV) = true)
    (a_AB : PySem.W.nsIn K mainGlobals "_law_above" = some (some (.ref f_AB)))
    (l_AB : K.lookup f_AB = some ⟨oc_AB, od_AB, .func (PySem.W.fnOf "_law_above" "_law_above" (defArgs sAB) (defBody sAB) (defScope sAB) .none kV_AB dc_AB pm_AB an_AB cd_AB ct_AB), sl_AB⟩)
    (cd_of_AB : PySem.W.codeIn K cd_AB "_law_above" = true)
    (k_AB : PySem.W.keepIn K (.ref f_AB) = true)
    (a_ML : PySem.W.nsIn K mainGlobals "_law_mixed_letters" = some (some (.ref f_ML)))
    (l_ML : K.lookup f_ML = some ⟨oc_ML, od_ML, .func (PySem.W.fnOf "_law_mixed_letters" "_law_mixed_letters" (defArgs sML) (defBody sML) (defScope sML) .none kV_ML dc_ML pm_ML an_ML cd_ML ct_ML), sl_ML⟩)
    (cd_of_ML : PySem.W.codeIn K cd_ML "_law_mixed_letters" = true)
    (k_ML : PySem.W.keepIn K (.ref f_ML) = true)
    (a_SW : PySem.W.nsIn K mainGlobals "_law_swapped" = some (some (.ref f_SW)))
    (l_SW : K.lookup f_SW = some ⟨oc_SW, od_SW, .func (PySem.W.fnOf "_law_swapped" "_law_swapped" (defArgs sSW) (defBody sSW) (defScope sSW) .none kV_SW dc_SW pm_SW an_SW cd_SW ct_SW), sl_SW⟩)
    (cd_of_SW : PySem.W.codeIn K cd_SW "_law_swapped" = true)
    (k_SW : PySem.W.keepIn K (.ref f_SW) = true)
    (a_OH : PySem.W.nsIn K mainGlobals "_law_other_home" = some (some (.ref f_OH)))
    (l_OH : K.lookup f_OH = some ⟨oc_OH, od_OH, .func (PySem.W.fnOf "_law_other_home" "_law_other_home" (defArgs sOH) (defBody sOH) (defScope sOH) .none kV_OH dc_OH pm_OH an_OH cd_OH ct_OH), sl_OH⟩)
    (cd_of_OH : PySem.W.codeIn K cd_OH "_law_other_home" = true)
    (k_OH : PySem.W.keepIn K (.ref f_OH) = true)
    (a_TR : PySem.W.nsIn K mainGlobals "_law_two_right" = some (some (.ref f_TR)))
    (l_TR : K.lookup f_TR = some ⟨oc_TR, od_TR, .func (PySem.W.fnOf "_law_two_right" "_law_two_right" (defArgs sTR) (defBody sTR) (defScope sTR) .none kV_TR dc_TR pm_TR an_TR cd_TR ct_TR), sl_TR⟩)
    (cd_of_TR : PySem.W.codeIn K cd_TR "_law_two_right" = true)
    (k_TR : PySem.W.keepIn K (.ref f_TR) = true)
    (a_RR : PySem.W.nsIn K mainGlobals "_law_runs_right" = some (some (.ref f_RR)))
    (l_RR : K.lookup f_RR = some ⟨oc_RR, od_RR, .func (PySem.W.fnOf "_law_runs_right" "_law_runs_right" (defArgs sRR) (defBody sRR) (defScope sRR) .none kV_RR dc_RR pm_RR an_RR cd_RR ct_RR), sl_RR⟩)
    (cd_of_RR : PySem.W.codeIn K cd_RR "_law_runs_right" = true)
    (k_RR : PySem.W.keepIn K (.ref f_RR) = true)
    (a_law : PySem.W.nsIn K mainGlobals "law" = some (some (.ref f_law)))
    (l_law : K.lookup f_law = some ⟨oc_law, od_law, .func (PySem.W.fnOf "law" "law" (defArgs sLaw) (defBody sLaw) (defScope sLaw) .none kV_law dc_law pm_law an_law cd_law ct_law), sl_law⟩)
    (cd_of_law : PySem.W.codeIn K cd_law "law" = true)
    (k_law : PySem.W.keepIn K (.ref f_law) = true)
    (z_int : PySem.W.nsIn K mainGlobals "int" = some none)
    (z_len : PySem.W.nsIn K mainGlobals "len" = some none)
    (z_range : PySem.W.nsIn K mainGlobals "range" = some none)
    (z_enumerate : PySem.W.nsIn K mainGlobals "enumerate" = some none)
    (z_repr : PySem.W.nsIn K mainGlobals "repr" = some none)
    (z_isinstance : PySem.W.nsIn K mainGlobals "isinstance" = some none)
    (z_list : PySem.W.nsIn K mainGlobals "list" = some none)
    (z_bool : PySem.W.nsIn K mainGlobals "bool" = some none)
    (z_str : PySem.W.nsIn K mainGlobals "str" = some none)
    (z_tuple : PySem.W.nsIn K mainGlobals "tuple" = some none)
    (z_zip : PySem.W.nsIn K mainGlobals "zip" = some none)
    (z_sum : PySem.W.nsIn K mainGlobals "sum" = some none)
    (z_all : PySem.W.nsIn K mainGlobals "all" = some none)
    : ∃ fd : FuncData, (∀ (s : Shared) (v : Value), BindsTo s fd ⟨[v], []⟩ [("script", v)]) ∧ ∀ base : Heap, K.In base → base.Ns mainGlobals mg → FnG l.prog w K mg base CX0 9 fa fd ["script"] (spLaw K) := by
  have e := hfa.symm.trans (PySem.W.mg_of X G a_law)
  cases e
  have B : Blt mg := ⟨PySem.W.mg_none_of X G z_int, PySem.W.mg_none_of X G z_len, PySem.W.mg_none_of X G z_range, PySem.W.mg_none_of X G z_enumerate, PySem.W.mg_none_of X G z_repr, PySem.W.mg_none_of X G z_isinstance, PySem.W.mg_none_of X G z_list⟩
  have Z : Blt2 mg := ⟨PySem.W.mg_none_of X G z_int, PySem.W.mg_none_of X G z_bool, PySem.W.mg_none_of X G z_str, PySem.W.mg_none_of X G z_tuple, PySem.W.mg_none_of X G z_list, PySem.W.mg_none_of X G z_zip, PySem.W.mg_none_of X G z_sum, PySem.W.mg_none_of X G z_all⟩
  have tis : Dt K (fun _ => none) (.ref pT) (.tup (tiesL.map D.str)) := .tup (xs := [.str "a", .str "b", .str "kept"]) (Or.inr ⟨_, _, _, x_TIES, rfl, rfl, sz1 (show 3 ≤ 100000 by decide), .cons ⟨_, rfl⟩ (.cons ⟨_, rfl⟩ (.cons ⟨_, rfl⟩ .nil))⟩) (.cons (.str _) (.cons (.str _) (.cons (.str _) .nil)))
  have C : Cst K mg pT := ⟨PySem.W.mg_of X G a_TIES, tis, ⟨_, PySem.W.mg_of X G a_MOST_WARDS⟩, ⟨_, PySem.W.mg_of X G a_MOST_BODIES⟩, ⟨_, PySem.W.mg_of X G a_MOST_SEATS⟩, ⟨_, PySem.W.mg_of X G a_MOST_TERM⟩, ⟨_, PySem.W.mg_of X G a_MOST_ROUND⟩, ⟨_, PySem.W.mg_of X G a_MOST_ROWS⟩, ⟨_, PySem.W.mg_of X G a_SIDES, ⟨_, rfl⟩⟩⟩
  have CMx : CM K w mg pM := ⟨PySem.W.mg_of X G a_MIRRORED, ⟨_, _, _, x_MIRRORED, y_MIRRORED, v_a, ⟨_, rfl⟩⟩, ⟨_, _, _, x_MIRRORED, y_MIRRORED, v_b, ⟨_, rfl⟩⟩, ⟨_, _, _, x_MIRRORED, y_MIRRORED, v_k, ⟨_, rfl⟩⟩⟩
  have glcm := PySem.W.mg_of X G a_lcm
  have F_mixed := fun_mk (st := sMixed) l_mixed cd_of_mixed k_mixed
  have b_mixed := F_mixed.binds (ps := ["cell", "n"]) fun _ _ _ _ _ _ us hl => match us, hl with | [_, _], _ => rfl
  have g_mixed := PySem.W.mg_of X G a_mixed
  have F_folded := fun_mk (st := sFolded) l_folded cd_of_folded k_folded
  have b_folded := F_folded.binds (ps := ["script"]) fun _ _ _ _ _ _ us hl => match us, hl with | [_], _ => rfl
  have g_folded := PySem.W.mg_of X G a_folded
  have F_draw := fun_mk (st := sDraw) l_draw cd_of_draw k_draw
  have b_draw := F_draw.binds (ps := ["m", "limit"]) fun _ _ _ _ _ _ us hl => match us, hl with | [_, _], _ => rfl
  have g_draw := PySem.W.mg_of X G a_draw
  have F_begun := fun_mk (st := sBegun) l_begun cd_of_begun k_begun
  have b_begun := F_begun.binds (ps := ["script"]) fun _ _ _ _ _ _ us hl => match us, hl with | [_], _ => rfl
  have g_begun := PySem.W.mg_of X G a_begun
  have F_whole := fun_mk (st := sWhole) l_whole cd_of_whole k_whole
  have b_whole := F_whole.binds (ps := ["value", "least", "most"]) fun _ _ _ _ _ _ us hl => match us, hl with | [_, _, _], _ => rfl
  have g_whole := PySem.W.mg_of X G a_whole
  have F_tup := fun_mk (st := sTup) l_tup cd_of_tup k_tup
  have b_tup := F_tup.binds (ps := ["value", "least", "most"]) fun _ _ _ _ _ _ us hl => match us, hl with | [_, _, _], _ => rfl
  have g_tup := PySem.W.mg_of X G a_tup
  have F_word := fun_mk (st := sWord) l_word cd_of_word k_word
  have b_word := F_word.binds (ps := ["value", "words"]) fun _ _ _ _ _ _ us hl => match us, hl with | [_, _], _ => rfl
  have g_word := PySem.W.mg_of X G a_word
  have F_sides := fun_mk (st := sSides) l_sides cd_of_sides k_sides
  have b_sides := F_sides.binds (ps := ["value", "many"]) fun _ _ _ _ _ _ us hl => match us, hl with | [_, _], _ => rfl
  have g_sides := PySem.W.mg_of X G a_sides
  have F_way := fun_mk (st := sWay) l_way cd_of_way k_way
  have b_way := F_way.binds (ps := ["value", "many_bodies", "wards"]) fun _ _ _ _ _ _ us hl => match us, hl with | [_, _, _], _ => rfl
  have g_way := PySem.W.mg_of X G a_way
  have F_seat := fun_mk (st := sSeat) l_seat cd_of_seat k_seat
  have b_seat := F_seat.binds (ps := ["value", "many_bodies", "wards"]) fun _ _ _ _ _ _ us hl => match us, hl with | [_, _, _], _ => rfl
  have g_seat := PySem.W.mg_of X G a_seat
  have F_NB := fun_mk (st := sNB) l_NB cd_of_NB k_NB
  have b_NB := F_NB.binds (ps := ["body", "number", "many_bodies", "wards"]) fun _ _ _ _ _ _ us hl => match us, hl with | [_, _, _, _], _ => rfl
  have g_NB := PySem.W.mg_of X G a_NB
  have F_CT := fun_mk (st := sCT) l_CT cd_of_CT k_CT
  have b_CT := F_CT.binds (ps := ["bodies"]) fun _ _ _ _ _ _ us hl => match us, hl with | [_], _ => rfl
  have g_CT := PySem.W.mg_of X G a_CT
  have F_NH := fun_mk (st := sNH) l_NH cd_of_NH k_NH
  have b_NH := F_NH.binds (ps := ["house"]) fun _ _ _ _ _ _ us hl => match us, hl with | [_], _ => rfl
  have g_NH := PySem.W.mg_of X G a_NH
  have F_IS := fun_mk (st := sIS) l_IS cd_of_IS k_IS
  have b_IS := F_IS.binds (ps := ["house", "value"]) fun _ _ _ _ _ _ us hl => match us, hl with | [_, _], _ => rfl
  have g_IS := PySem.W.mg_of X G a_IS
  have F_NS := fun_mk (st := sNS) l_NS cd_of_NS k_NS
  have b_NS := F_NS.binds (ps := ["house", "stand"]) fun _ _ _ _ _ _ us hl => match us, hl with | [_, _], _ => rfl
  have g_NS := PySem.W.mg_of X G a_NS
  have F_NR := fun_mk (st := sNR) l_NR cd_of_NR k_NR
  have b_NR := F_NR.binds (ps := ["house", "rows"]) fun _ _ _ _ _ _ us hl => match us, hl with | [_, _], _ => rfl
  have g_NR := PySem.W.mg_of X G a_NR
  have F_CU := fun_mk (st := sCU) l_CU cd_of_CU k_CU
  have b_CU := F_CU.binds (ps := ["seat", "number"]) fun _ _ _ _ _ _ us hl => match us, hl with | [_, _], _ => rfl
  have g_CU := PySem.W.mg_of X G a_CU
  have F_SM := fun_mk (st := sSM) l_SM cd_of_SM k_SM
  have b_SM := F_SM.binds (ps := ["letters"]) fun _ _ _ _ _ _ us hl => match us, hl with | [_], _ => rfl
  have g_SM := PySem.W.mg_of X G a_SM
  have F_RE := fun_mk (st := sRE) l_RE cd_of_RE k_RE
  have b_RE := F_RE.binds (ps := ["body", "letters", "number"]) fun _ _ _ _ _ _ us hl => match us, hl with | [_, _, _], _ => rfl
  have g_RE := PySem.W.mg_of X G a_RE
  have F_SO := fun_mk (st := sSO) l_SO cd_of_SO k_SO
  have b_SO := F_SO.binds (ps := ["way", "side", "wholes", "rests"]) fun _ _ _ _ _ _ us hl => match us, hl with | [_, _, _, _], _ => rfl
  have g_SO := PySem.W.mg_of X G a_SO
  have F_SS := fun_mk (st := sSS) l_SS cd_of_SS k_SS
  have b_SS := F_SS.binds (ps := ["bodies", "stand", "number", "wholes", "rests"]) fun _ _ _ _ _ _ us hl => match us, hl with | [_, _, _, _, _], _ => rfl
  have g_SS := PySem.W.mg_of X G a_SS
  have F_HS := fun_mk (st := sHS) l_HS cd_of_HS k_HS
  have b_HS := F_HS.binds (ps := ["house", "stand", "number"]) fun _ _ _ _ _ _ us hl => match us, hl with | [_, _, _], _ => rfl
  have g_HS := PySem.W.mg_of X G a_HS
  have F_SF := fun_mk (st := sSF) l_SF cd_of_SF k_SF
  have b_SF := F_SF.binds (ps := ["places", "choices"]) fun _ _ _ _ _ _ us hl => match us, hl with | [_, _], _ => rfl
  have g_SF := PySem.W.mg_of X G a_SF
  have F_SB := fun_mk (st := sSB) l_SB cd_of_SB k_SB
  have b_SB := F_SB.binds (ps := ["house", "stand", "number", "choices"]) fun _ _ _ _ _ _ us hl => match us, hl with | [_, _, _, _], _ => rfl
  have g_SB := PySem.W.mg_of X G a_SB
  have F_RU := fun_mk (st := sRU) l_RU cd_of_RU k_RU
  have b_RU := F_RU.binds (ps := ["house", "stand", "rows"]) fun _ _ _ _ _ _ us hl => match us, hl with | [_, _, _], _ => rfl
  have g_RU := PySem.W.mg_of X G a_RU
  have F_LA := fun_mk (st := sLA) l_LA cd_of_LA k_LA
  have b_LA := F_LA.binds (ps := ["letters", "others"]) fun _ _ _ _ _ _ us hl => match us, hl with | [_, _], _ => rfl
  have g_LA := PySem.W.mg_of X G a_LA
  have F_SA := fun_mk (st := sSA) l_SA cd_of_SA k_SA
  have b_SA := F_SA.binds (ps := ["stand", "other"]) fun _ _ _ _ _ _ us hl => match us, hl with | [_, _], _ => rfl
  have g_SA := PySem.W.mg_of X G a_SA
  have F_BE := fun_mk (st := sBE) l_BE cd_of_BE k_BE
  have b_BE := F_BE.binds (ps := ["house"]) fun _ _ _ _ _ _ us hl => match us, hl with | [_], _ => rfl
  have g_BE := PySem.W.mg_of X G a_BE
  have F_IA := fun_mk (st := sIA) l_IA cd_of_IA k_IA
  have b_IA := F_IA.binds (ps := ["house", "stand", "other"]) fun _ _ _ _ _ _ us hl => match us, hl with | [_, _, _], _ => rfl
  have g_IA := PySem.W.mg_of X G a_IA
  have F_AA := fun_mk (st := sAA) l_AA cd_of_AA k_AA
  have b_AA := F_AA.binds (ps := ["house", "rows", "others"]) fun _ _ _ _ _ _ us hl => match us, hl with | [_, _, _], _ => rfl
  have g_AA := PySem.W.mg_of X G a_AA
  have F_IO := fun_mk (st := sIO) l_IO cd_of_IO k_IO
  have b_IO := F_IO.binds (ps := ["stand", "other", "side"]) fun _ _ _ _ _ _ us hl => match us, hl with | [_, _, _], _ => rfl
  have g_IO := PySem.W.mg_of X G a_IO
  have F_LO := fun_mk (st := sLO) l_LO cd_of_LO k_LO
  have b_LO := F_LO.binds (ps := ["house", "stand", "other"]) fun _ _ _ _ _ _ us hl => match us, hl with | [_, _, _], _ => rfl
  have g_LO := PySem.W.mg_of X G a_LO
  have F_UP := fun_mk (st := sUP) l_UP cd_of_UP k_UP
  have b_UP := F_UP.binds (ps := ["house", "stand", "other"]) fun _ _ _ _ _ _ us hl => match us, hl with | [_, _, _], _ => rfl
  have g_UP := PySem.W.mg_of X G a_UP
  have F_EN := fun_mk (st := sEN) l_EN cd_of_EN k_EN
  have b_EN := F_EN.binds (ps := ["house"]) fun _ _ _ _ _ _ us hl => match us, hl with | [_], _ => rfl
  have g_EN := PySem.W.mg_of X G a_EN
  have F_MS := fun_mk (st := sMS) l_MS cd_of_MS k_MS
  have b_MS := F_MS.binds (ps := ["seat"]) fun _ _ _ _ _ _ us hl => match us, hl with | [_], _ => rfl
  have g_MS := PySem.W.mg_of X G a_MS
  have F_MI := fun_mk (st := sMI) l_MI cd_of_MI k_MI
  have b_MI := F_MI.binds (ps := ["house"]) fun _ _ _ _ _ _ us hl => match us, hl with | [_], _ => rfl
  have g_MI := PySem.W.mg_of X G a_MI
  have F_MT := fun_mk (st := sMT) l_MT cd_of_MT k_MT
  have b_MT := F_MT.binds (ps := ["house", "stand"]) fun _ _ _ _ _ _ us hl => match us, hl with | [_, _], _ => rfl
  have g_MT := PySem.W.mg_of X G a_MT
  have F_like := fun_mk (st := sLike) l_like cd_of_like k_like
  have b_like := F_like.binds (ps := ["heard", "due"]) fun _ _ _ _ _ _ us hl => match us, hl with | [_, _], _ => rfl
  have g_like := PySem.W.mg_of X G a_like
  have F_OF := fun_mk (st := sOF) l_OF cd_of_OF k_OF
  have b_OF := F_OF.binds (ps := ["m", "some"]) fun _ _ _ _ _ _ us hl => match us, hl with | [_, _], _ => rfl
  have g_OF := PySem.W.mg_of X G a_OF
  have F_TE := fun_mk (st := sTE) l_TE cd_of_TE k_TE
  have b_TE := F_TE.binds (ps := ["m"]) fun _ _ _ _ _ _ us hl => match us, hl with | [_], _ => rfl
  have g_TE := PySem.W.mg_of X G a_TE
  have F_WY := fun_mk (st := sWY) l_WY cd_of_WY k_WY
  have b_WY := F_WY.binds (ps := ["m", "bodies", "wards"]) fun _ _ _ _ _ _ us hl => match us, hl with | [_, _, _], _ => rfl
  have g_WY := PySem.W.mg_of X G a_WY
  have F_HO := fun_mk (st := sHO) l_HO cd_of_HO k_HO
  have b_HO := F_HO.binds (ps := ["m", "bodies", "each", "most"]) fun _ _ _ _ _ _ us hl => match us, hl with | [_, _, _, _], _ => rfl
  have g_HO := PySem.W.mg_of X G a_HO
  have F_FS := fun_mk (st := sFS) l_FS cd_of_FS k_FS
  have b_FS := F_FS.binds (ps := ["m", "home"]) fun _ _ _ _ _ _ us hl => match us, hl with | [_, _], _ => rfl
  have g_FS := PySem.W.mg_of X G a_FS
  have F_OV := fun_mk (st := sOV) l_OV cd_of_OV k_OV
  have b_OV := F_OV.binds (ps := ["one", "other"]) fun _ _ _ _ _ _ us hl => match us, hl with | [_, _], _ => rfl
  have g_OV := PySem.W.mg_of X G a_OV
  have F_AB := fun_mk (st := sAB) l_AB cd_of_AB k_AB
  have b_AB := F_AB.binds (ps := ["first", "other"]) fun _ _ _ _ _ _ us hl => match us, hl with | [_, _], _ => rfl
  have g_AB := PySem.W.mg_of X G a_AB
  have F_ML := fun_mk (st := sML) l_ML cd_of_ML k_ML
  have b_ML := F_ML.binds (ps := ["one", "other", "word"]) fun _ _ _ _ _ _ us hl => match us, hl with | [_, _, _], _ => rfl
  have g_ML := PySem.W.mg_of X G a_ML
  have F_SW := fun_mk (st := sSW) l_SW cd_of_SW k_SW
  have b_SW := F_SW.binds (ps := ["letters"]) fun _ _ _ _ _ _ us hl => match us, hl with | [_], _ => rfl
  have g_SW := PySem.W.mg_of X G a_SW
  have F_OH := fun_mk (st := sOH) l_OH cd_of_OH k_OH
  have b_OH := F_OH.binds (ps := ["home"]) fun _ _ _ _ _ _ us hl => match us, hl with | [_], _ => rfl
  have g_OH := PySem.W.mg_of X G a_OH
  have F_TR := fun_mk (st := sTR) l_TR cd_of_TR k_TR
  have b_TR := F_TR.binds (ps := ["home", "first", "other"]) fun _ _ _ _ _ _ us hl => match us, hl with | [_, _, _], _ => rfl
  have g_TR := PySem.W.mg_of X G a_TR
  have F_RR := fun_mk (st := sRR) l_RR cd_of_RR k_RR
  have b_RR := F_RR.binds (ps := ["m", "home", "first", "other"]) fun _ _ _ _ _ _ us hl => match us, hl with | [_, _, _, _], _ => rfl
  have g_RR := PySem.W.mg_of X G a_RR
  have F_law := fun_mk (st := sLaw) l_law cd_of_law k_law
  have b_law := F_law.binds (ps := ["script"]) fun _ _ _ _ _ _ us hl => match us, hl with | [_], _ => rfl
  have g_law := PySem.W.mg_of X G a_law
  refine ⟨PySem.W.fnOf "law" "law" (defArgs sLaw) (defBody sLaw) (defScope sLaw) .none kV_law dc_law pm_law an_law cd_law ct_law, fun s v => .of_eq rfl, fun base _ _ => ?_⟩
  have D_begun : Dok l.prog w K mg base 2 "_law_begun" ["script"] (spBegun K) f_begun _ := ⟨ok_begun F_begun B F_folded g_folded b_folded, g_begun, k_begun, b_begun⟩
  have D_draw : Dok l.prog w K mg base 2 "_law_draw" ["m", "limit"] spDraw f_draw _ := ⟨ok_draw F_draw B F_mixed g_mixed b_mixed, g_draw, k_draw, b_draw⟩
  have D_whole : Dok l.prog w K mg base 1 "is_whole" ["value", "least", "most"] (spP K fWhole) f_whole _ := ⟨ok_whole F_whole B Z, g_whole, k_whole, b_whole⟩
  have D_tup : Dok l.prog w K mg base 1 "is_tuple" ["value", "least", "most"] (spP K fTuple) f_tup _ := ⟨ok_tup F_tup B Z, g_tup, k_tup, b_tup⟩
  have D_word : Dok l.prog w K mg base 1 "is_word" ["value", "words"] (spP K fWord) f_word _ := ⟨ok_word F_word B Z, g_word, k_word, b_word⟩
  have D_sides : Dok l.prog w K mg base 1 "is_sides" ["value", "many"] (spP K fSides) f_sides _ := ⟨ok_sides F_sides B Z, g_sides, k_sides, b_sides⟩
  have D_way : Dok l.prog w K mg base 2 "is_way" ["value", "many_bodies", "wards"] (spP K fWay) f_way _ := ⟨ok_way F_way B Z C D_tup D_word D_whole, g_way, k_way, b_way⟩
  have D_seat : Dok l.prog w K mg base 3 "is_seat" ["value", "many_bodies", "wards"] (spP K fSeat) f_seat _ := ⟨ok_seat F_seat C D_tup D_way D_whole, g_seat, k_seat, b_seat⟩
  have D_NB : Dok l.prog w K mg base 4 "_need_seats" ["body", "number", "many_bodies", "wards"] (spP K fNeedBody) f_NB _ := ⟨ok_NB F_NB B C D_tup D_seat, g_NB, k_NB, b_NB⟩
  have D_CT : Dok l.prog w K mg base 1 "common_term" ["bodies"] (spP K fCommon) f_CT _ := ⟨ok_CT F_CT glcm, g_CT, k_CT, b_CT⟩
  have D_NH : Dok l.prog w K mg base 5 "need_house" ["house"] (spP K fHouse) f_NH _ := ⟨ok_NH F_NH B Z C D_tup D_whole D_NB D_CT, g_NH, k_NH, b_NH⟩
  have D_IS : Dok l.prog w K mg base 2 "is_stand" ["house", "value"] (spP K fIsStand) f_IS _ := ⟨ok_IS F_IS B Z D_tup D_sides, g_IS, k_IS, b_IS⟩
  have D_NS : Dok l.prog w K mg base 6 "need_stand" ["house", "stand"] (spP K fStand) f_NS _ := ⟨ok_NS F_NS D_NH D_IS, g_NS, k_NS, b_NS⟩
  have D_NR : Dok l.prog w K mg base 2 "need_rows" ["house", "rows"] (spP K fRows) f_NR _ := ⟨ok_NR F_NR B Z C D_sides, g_NR, k_NR, b_NR⟩
  have D_CU : Dok l.prog w K mg base 1 "comes_up" ["seat", "number"] (spP K fComes) f_CU _ := ⟨ok_CU F_CU, g_CU, k_CU, b_CU⟩
  have D_SM : Dok l.prog w K mg base 1 "side_with_more" ["letters"] (spP K fMore) f_SM _ := ⟨ok_SM F_SM, g_SM, k_SM, b_SM⟩
  have D_RE : Dok l.prog w K mg base 2 "_resting" ["body", "letters", "number"] (spP K fResting) f_RE _ := ⟨ok_RE F_RE Z D_CU, g_RE, k_RE, b_RE⟩
  have D_SO : Dok l.prog w K mg base 1 "_source" ["way", "side", "wholes", "rests"] (spP K fSource) f_SO _ := ⟨ok_SO F_SO B C, g_SO, k_SO, b_SO⟩
  have D_SS : Dok l.prog w K mg base 2 "sources" ["bodies", "stand", "number", "wholes", "rests"] (spP K fSourcesB) f_SS _ := ⟨ok_SS F_SS B Z C D_SO D_CU, g_SS, k_SS, b_SS⟩
  have D_HS : Dok l.prog w K mg base 3 "_house_sources" ["house", "stand", "number"] (spP K fSources) f_HS _ := ⟨ok_HS F_HS B Z C D_SM D_RE D_SS, g_HS, k_HS, b_HS⟩
  have D_SF : Dok l.prog w K mg base 1 "stand_of" ["places", "choices"] (spP K fStandOf) f_SF _ := ⟨ok_SF F_SF Z C, g_SF, k_SF, b_SF⟩
  have D_SB : Dok l.prog w K mg base 4 "stand_behind" ["house", "stand", "number", "choices"] (spP K fBehind) f_SB _ := ⟨ok_SB F_SB D_HS D_SF, g_SB, k_SB, b_SB⟩
  have D_RU : Dok l.prog w K mg base 7 "run" ["house", "stand", "rows"] (spP K fRun) f_RU _ := ⟨ok_RU F_RU B Z D_NS D_NR D_SB, g_RU, k_RU, b_RU⟩
  have D_like : DoG l.prog w K mg base 1 "_law_like" ["heard", "due"] (spLike K) f_like _ := ⟨ok_like F_like B, g_like, k_like, b_like⟩
  have D_OF : Dok l.prog w K mg base 3 "_law_of" ["m", "some"] (spOf K) f_OF _ := ⟨ok_OF F_OF B D_draw, g_OF, k_OF, b_OF⟩
  have D_TE : Dok l.prog w K mg base 3 "_law_terms" ["m"] (spTerms K) f_TE _ := ⟨ok_TE F_TE D_draw, g_TE, k_TE, b_TE⟩
  have D_WY : Dok l.prog w K mg base 3 "_law_way" ["m", "bodies", "wards"] (spWay K) f_WY _ := ⟨ok_WY F_WY D_draw, g_WY, k_WY, b_WY⟩
  have D_HO : Dok l.prog w K mg base 4 "_law_home" ["m", "bodies", "each", "most"] (spHome K) f_HO _ := ⟨ok_HO F_HO B Z D_draw D_TE D_OF D_WY, g_HO, k_HO, b_HO⟩
  have D_FS : Dok l.prog w K mg base 4 "_law_first" ["m", "home"] (spFirst K) f_FS _ := ⟨ok_FS F_FS Z D_OF, g_FS, k_FS, b_FS⟩
  have D_LA : Dok l.prog w K mg base 1 "letters_above" ["letters", "others"] (spP K fAboveL) f_LA _ := ⟨ok_LA F_LA Z, g_LA, k_LA, b_LA⟩
  have D_SA : Dok l.prog w K mg base 2 "stand_above" ["stand", "other"] (spP K fAboveS) f_SA _ := ⟨ok_SA F_SA Z D_LA, g_SA, k_SA, b_SA⟩
  have D_BE : Dok l.prog w K mg base 1 "both_ends" ["house"] (spP K fEnds) f_BE _ := ⟨ok_BE F_BE B Z, g_BE, k_BE, b_BE⟩
  have D_IA : Dok l.prog w K mg base 7 "is_above" ["house", "stand", "other"] (spP K fIsAbove) f_IA _ := ⟨ok_IA F_IA D_NS D_SA, g_IA, k_IA, b_IA⟩
  have D_AA : Dok l.prog w K mg base 6 "are_above" ["house", "rows", "others"] (spP K fAreAbove) f_AA _ := ⟨ok_AA F_AA B Z D_NH D_NR D_LA, g_AA, k_AA, b_AA⟩
  have D_IO : Dok l.prog w K mg base 1 "_in_one_at_least" ["stand", "other", "side"] (spP K fInOne) f_IO _ := ⟨ok_IO F_IO Z CMx, g_IO, k_IO, b_IO⟩
  have D_LO : Dok l.prog w K mg base 7 "lower" ["house", "stand", "other"] (spP K (fMix false)) f_LO _ := ⟨ok_LO F_LO D_NS D_IO, g_LO, k_LO, b_LO⟩
  have D_UP : Dok l.prog w K mg base 7 "upper" ["house", "stand", "other"] (spP K (fMix true)) f_UP _ := ⟨ok_UP F_UP D_NS D_IO, g_UP, k_UP, b_UP⟩
  have D_EN : Dok l.prog w K mg base 6 "ends" ["house"] (spP K fEnds) f_EN _ := ⟨ok_EN F_EN D_NH D_BE, g_EN, k_EN, b_EN⟩
  have D_MS : Dok l.prog w K mg base 1 "_mirrored_seat" ["seat"] (spP K fMirSeat) f_MS _ := ⟨ok_MS F_MS B CMx, g_MS, k_MS, b_MS⟩
  have D_MI : Dok l.prog w K mg base 6 "mirrored" ["house"] (spP K fMirrored) f_MI _ := ⟨ok_MI F_MI Z D_NH D_MS, g_MI, k_MI, b_MI⟩
  have D_MT : Dok l.prog w K mg base 7 "mirrored_stand" ["house", "stand"] (spP K fMirStand) f_MT _ := ⟨ok_MT F_MT Z CMx D_NS, g_MT, k_MT, b_MT⟩
  have D_OV : Dok l.prog w K mg base 1 "_law_over" ["one", "other"] (spP K fOver) f_OV _ := ⟨ok_OV F_OV B, g_OV, k_OV, b_OV⟩
  have D_AB : Dok l.prog w K mg base 2 "_law_above" ["first", "other"] (spP K fAbove) f_AB _ := ⟨ok_AB F_AB B D_OV, g_AB, k_AB, b_AB⟩
  have D_ML : Dok l.prog w K mg base 1 "_law_mixed_letters" ["one", "other", "word"] (spP K fMixL) f_ML _ := ⟨ok_ML F_ML B, g_ML, k_ML, b_ML⟩
  have D_SW : Dok l.prog w K mg base 1 "_law_swapped" ["letters"] (spP K fSwap) f_SW _ := ⟨ok_SW F_SW B, g_SW, k_SW, b_SW⟩
  have D_OH : Dok l.prog w K mg base 1 "_law_other_home" ["home"] (spP K fMirrored) f_OH _ := ⟨ok_OH F_OH B Z, g_OH, k_OH, b_OH⟩
  have D_OFB : Dok l.prog w K mg base 3 "_law_of" ["m", "some"] (spOfB K) f_OF _ := ⟨ok_OFB F_OF B D_draw, g_OF, k_OF, b_OF⟩
  have D_TR : DoG l.prog w K mg base 8 "_law_two_right" ["home", "first", "other"] (spP K fTwo) f_TR _ := ⟨ok_TR F_TR B Z D_AB D_IA D_ML D_LO D_UP D_EN D_like, g_TR, k_TR, b_TR⟩
  have D_RR : DoG l.prog w K mg base 8 "_law_runs_right" ["m", "home", "first", "other"] (spRuns K) f_RR _ := ⟨ok_RR F_RR B Z D_LO D_UP D_draw D_OFB D_AA D_IA D_RU D_MI D_MT D_OH D_SW D_like, g_RR, k_RR, b_RR⟩
  exact ok_law F_law B Z D_begun D_HO D_FS D_TR D_RR D_LO D_UP D_IA D_AA D_MI D_like
end TSx
open PySem PySem.W PyProof.Rows
set_option maxRecDepth 100000 in
set_option maxHeartbeats 0 in
theorem PySem.Challenge.cw_termseats_k40_whole_order_of_stands_holds : PySem.Challenge.rw_termseats_k40_whole_order_of_stands.Holds := by
  w_on; o_law; k_head; (case hw => w_witness2)
  k_fill
  refine TSx.walkG (l := PySem.Challenge.rw_termseats_k40_whole_order_of_stands) (n := 63) (k := 9) (x := "script") (sp := TSx.spLaw) rfl (by decide) rfl ⟨rfl, by decide, by decide⟩ (fun w h Y => PySem.W.kIn_of Y) ?F (fun w H a ns hl _ hS => ⟨a, ns, rfl, hS, hl, fun _ => rfl⟩)
  case F =>
    intro w mg fa h KX G hmg
    refine' TSx.all_mk KX G hmg ?a_MOST_WARDS ?a_MOST_BODIES ?a_MOST_SEATS ?a_MOST_TERM ?a_MOST_ROUND ?a_MOST_ROWS ?a_SIDES ?a_TIES ?x_TIES ?a_MIRRORED ?x_MIRRORED ?y_MIRRORED ?v_a ?v_b ?v_k ?a_lcm ?a_mixed ?l_mixed ?cd_of_mixed ?k_mixed ?a_folded ?l_folded ?cd_of_folded ?k_folded ?a_draw ?l_draw ?cd_of_draw ?k_draw ?a_begun ?l_begun ?cd_of_begun ?k_begun ?a_whole ?l_whole ?cd_of_whole ?k_whole ?a_tup ?l_tup ?cd_of_tup ?k_tup ?a_word ?l_word ?cd_of_word ?k_word ?a_sides ?l_sides ?cd_of_sides ?k_sides ?a_way ?l_way ?cd_of_way ?k_way ?a_seat ?l_seat ?cd_of_seat ?k_seat ?a_NB ?l_NB ?cd_of_NB ?k_NB ?a_CT ?l_CT ?cd_of_CT ?k_CT ?a_NH ?l_NH ?cd_of_NH ?k_NH ?a_IS ?l_IS ?cd_of_IS ?k_IS ?a_NS ?l_NS ?cd_of_NS ?k_NS ?a_NR ?l_NR ?cd_of_NR ?k_NR ?a_CU ?l_CU ?cd_of_CU ?k_CU ?a_SM ?l_SM ?cd_of_SM ?k_SM ?a_RE ?l_RE ?cd_of_RE ?k_RE ?a_SO ?l_SO ?cd_of_SO ?k_SO ?a_SS ?l_SS ?cd_of_SS ?k_SS ?a_HS ?l_HS ?cd_of_HS ?k_HS ?a_SF ?l_SF ?cd_of_SF ?k_SF ?a_SB ?l_SB ?cd_of_SB ?k_SB ?a_RU ?l_RU ?cd_of_RU ?k_RU ?a_LA ?l_LA ?cd_of_LA ?k_LA ?a_SA ?l_SA ?cd_of_SA ?k_SA ?a_BE ?l_BE ?cd_of_BE ?k_BE ?a_IA ?l_IA ?cd_of_IA ?k_IA ?a_AA ?l_AA ?cd_of_AA ?k_AA ?a_IO ?l_IO ?cd_of_IO ?k_IO ?a_LO ?l_LO ?cd_of_LO ?k_LO ?a_UP ?l_UP ?cd_of_UP ?k_UP ?a_EN ?l_EN ?cd_of_EN ?k_EN ?a_MS ?l_MS ?cd_of_MS ?k_MS ?a_MI ?l_MI ?cd_of_MI ?k_MI ?a_MT ?l_MT ?cd_of_MT ?k_MT ?a_like ?l_like ?cd_of_like ?k_like ?a_OF ?l_OF ?cd_of_OF ?k_OF ?a_TE ?l_TE ?cd_of_TE ?k_TE ?a_WY ?l_WY ?cd_of_WY ?k_WY ?a_HO ?l_HO ?cd_of_HO ?k_HO ?a_FS ?l_FS ?cd_of_FS ?k_FS ?a_OV ?l_OV ?cd_of_OV ?k_OV ?a_AB ?l_AB ?cd_of_AB ?k_AB ?a_ML ?l_ML ?cd_of_ML ?k_ML ?a_SW ?l_SW ?cd_of_SW ?k_SW ?a_OH ?l_OH ?cd_of_OH ?k_OH ?a_TR ?l_TR ?cd_of_TR ?k_TR ?a_RR ?l_RR ?cd_of_RR ?k_RR ?a_law ?l_law ?cd_of_law ?k_law ?z_int ?z_len ?z_range ?z_enumerate ?z_repr ?z_isinstance ?z_list ?z_bool ?z_str ?z_tuple ?z_zip ?z_sum ?z_all
    (case a_MOST_WARDS => k_is)
    (case a_MOST_BODIES => k_is)
    (case a_MOST_SEATS => k_is)
    (case a_MOST_TERM => k_is)
    (case a_MOST_ROUND => k_is)
    (case a_MOST_ROWS => k_is)
    (case a_SIDES => k_is)
    (case a_TIES => k_is)
    (case x_TIES => k_is)
    (case a_MIRRORED => k_is)
    (case x_MIRRORED => k_is)
    (case y_MIRRORED => first | k_keys | exact ⟨⟨_, _, rfl, rfl⟩, ⟨_, _, rfl, rfl⟩, ⟨_, _, rfl, rfl⟩, trivial⟩)
    (case v_a => k_is)
    (case v_b => k_is)
    (case v_k => k_is)
    (case a_lcm => k_is)
    (case a_mixed => k_is)
    (case l_mixed => k_is)
    (case cd_of_mixed => k_is)
    (case k_mixed => k_is)
    (case a_folded => k_is)
    (case l_folded => k_is)
    (case cd_of_folded => k_is)
    (case k_folded => k_is)
    (case a_draw => k_is)
    (case l_draw => k_is)
    (case cd_of_draw => k_is)
    (case k_draw => k_is)
    (case a_begun => k_is)
    (case l_begun => k_is)
    (case cd_of_begun => k_is)
    (case k_begun => k_is)
    (case a_whole => k_is)
    (case l_whole => k_is)
    (case cd_of_whole => k_is)
    (case k_whole => k_is)
    (case a_tup => k_is)
    (case l_tup => k_is)
    (case cd_of_tup => k_is)
    (case k_tup => k_is)
    (case a_word => k_is)
    (case l_word => k_is)
    (case cd_of_word => k_is)
    (case k_word => k_is)
    (case a_sides => k_is)
    (case l_sides => k_is)
    (case cd_of_sides => k_is)
    (case k_sides => k_is)
    (case a_way => k_is)
    (case l_way => k_is)
    (case cd_of_way => k_is)
    (case k_way => k_is)
    (case a_seat => k_is)
    (case l_seat => k_is)
    (case cd_of_seat => k_is)
    (case k_seat => k_is)
    (case a_NB => k_is)
    (case l_NB => k_is)
    (case cd_of_NB => k_is)
    (case k_NB => k_is)
    (case a_CT => k_is)
    (case l_CT => k_is)
    (case cd_of_CT => k_is)
    (case k_CT => k_is)
    (case a_NH => k_is)
    (case l_NH => k_is)
    (case cd_of_NH => k_is)
    (case k_NH => k_is)
    (case a_IS => k_is)
    (case l_IS => k_is)
    (case cd_of_IS => k_is)
    (case k_IS => k_is)
    (case a_NS => k_is)
    (case l_NS => k_is)
    (case cd_of_NS => k_is)
    (case k_NS => k_is)
    (case a_NR => k_is)
    (case l_NR => k_is)
    (case cd_of_NR => k_is)
    (case k_NR => k_is)
    (case a_CU => k_is)
    (case l_CU => k_is)
    (case cd_of_CU => k_is)
    (case k_CU => k_is)
    (case a_SM => k_is)
    (case l_SM => k_is)
    (case cd_of_SM => k_is)
    (case k_SM => k_is)
    (case a_RE => k_is)
    (case l_RE => k_is)
    (case cd_of_RE => k_is)
    (case k_RE => k_is)
    (case a_SO => k_is)
    (case l_SO => k_is)
    (case cd_of_SO => k_is)
    (case k_SO => k_is)
    (case a_SS => k_is)
    (case l_SS => k_is)
    (case cd_of_SS => k_is)
    (case k_SS => k_is)
    (case a_HS => k_is)
    (case l_HS => k_is)
    (case cd_of_HS => k_is)
    (case k_HS => k_is)
    (case a_SF => k_is)
    (case l_SF => k_is)
    (case cd_of_SF => k_is)
    (case k_SF => k_is)
    (case a_SB => k_is)
    (case l_SB => k_is)
    (case cd_of_SB => k_is)
    (case k_SB => k_is)
    (case a_RU => k_is)
    (case l_RU => k_is)
    (case cd_of_RU => k_is)
    (case k_RU => k_is)
    (case a_LA => k_is)
    (case l_LA => k_is)
    (case cd_of_LA => k_is)
    (case k_LA => k_is)
    (case a_SA => k_is)
    (case l_SA => k_is)
    (case cd_of_SA => k_is)
    (case k_SA => k_is)
    (case a_BE => k_is)
    (case l_BE => k_is)
    (case cd_of_BE => k_is)
    (case k_BE => k_is)
    (case a_IA => k_is)
    (case l_IA => k_is)
    (case cd_of_IA => k_is)
    (case k_IA => k_is)
    (case a_AA => k_is)
    (case l_AA => k_is)
    (case cd_of_AA => k_is)
    (case k_AA => k_is)
    (case a_IO => k_is)
    (case l_IO => k_is)
    (case cd_of_IO => k_is)
    (case k_IO => k_is)
    (case a_LO => k_is)
    (case l_LO => k_is)
    (case cd_of_LO => k_is)
    (case k_LO => k_is)
    (case a_UP => k_is)
    (case l_UP => k_is)
    (case cd_of_UP => k_is)
    (case k_UP => k_is)
    (case a_EN => k_is)
    (case l_EN => k_is)
    (case cd_of_EN => k_is)
    (case k_EN => k_is)
    (case a_MS => k_is)
    (case l_MS => k_is)
    (case cd_of_MS => k_is)
    (case k_MS => k_is)
    (case a_MI => k_is)
    (case l_MI => k_is)
    (case cd_of_MI => k_is)
    (case k_MI => k_is)
    (case a_MT => k_is)
    (case l_MT => k_is)
    (case cd_of_MT => k_is)
    (case k_MT => k_is)
    (case a_like => k_is)
    (case l_like => k_is)
    (case cd_of_like => k_is)
    (case k_like => k_is)
    (case a_OF => k_is)
    (case l_OF => k_is)
    (case cd_of_OF => k_is)
    (case k_OF => k_is)
    (case a_TE => k_is)
    (case l_TE => k_is)
    (case cd_of_TE => k_is)
    (case k_TE => k_is)
    (case a_WY => k_is)
    (case l_WY => k_is)
    (case cd_of_WY => k_is)
    (case k_WY => k_is)
    (case a_HO => k_is)
    (case l_HO => k_is)
    (case cd_of_HO => k_is)
    (case k_HO => k_is)
    (case a_FS => k_is)
    (case l_FS => k_is)
    (case cd_of_FS => k_is)
    (case k_FS => k_is)
    (case a_OV => k_is)
    (case l_OV => k_is)
    (case cd_of_OV => k_is)
    (case k_OV => k_is)
    (case a_AB => k_is)
    (case l_AB => k_is)
    (case cd_of_AB => k_is)
    (case k_AB => k_is)
    (case a_ML => k_is)
    (case l_ML => k_is)
    (case cd_of_ML => k_is)
    (case k_ML => k_is)
    (case a_SW => k_is)
    (case l_SW => k_is)
    (case cd_of_SW => k_is)
    (case k_SW => k_is)
    (case a_OH => k_is)
    (case l_OH => k_is)
    (case cd_of_OH => k_is)
    (case k_OH => k_is)
    (case a_TR => k_is)
    (case l_TR => k_is)
    (case cd_of_TR => k_is)
    (case k_TR => k_is)
    (case a_RR => k_is)
    (case l_RR => k_is)
    (case cd_of_RR => k_is)
    (case k_RR => k_is)
    (case a_law => k_is)
    (case l_law => k_is)
    (case cd_of_law => k_is)
    (case k_law => k_is)
    (case z_int => k_is)
    (case z_len => k_is)
    (case z_range => k_is)
    (case z_enumerate => k_is)
    (case z_repr => k_is)
    (case z_isinstance => k_is)
    (case z_list => k_is)
    (case z_bool => k_is)
    (case z_str => k_is)
    (case z_tuple => k_is)
    (case z_zip => k_is)
    (case z_sum => k_is)
    (case z_all => k_is)
#print axioms PySem.Challenge.cw_termseats_k40_whole_order_of_stands_holds

