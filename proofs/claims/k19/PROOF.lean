import PyProof.Rows.All
import Wide.All
import OpenK.AllK
import Wide.FinOn
import HandS.ForMost
import HandS.Exc
import HandS.ExcOwn
import HandS.ExcInit
import HandS.ExcIs
import HandS.ExcField
import HandS.IsInst
import HandS.WordsExc
import KE.KeyNested
import KE.KExcIs
import KE.KExcInit
import HandS.Wide
import HandS.Walk
import KE.GoesZip
import KE.GoesMore
import KE.GoesEnum
import KE.KMathG
import HandS.Zip
import HandS.Iter
import HandS.Gcd
import HandS.Text
import HandS.SetFor
import PyProof.ReprLen
import HandS.TupAny
import HandS.TupMul
import HandS.Style
import HandS.Lambda
import KE.KDflt
import HandS.EndTab
import KE.KNestM
import PyProof.ListStr
import HandS.Conv
import PyProof.TupleOfStr
import HandS.More
import HandS.Property
import HandS.NamedTupGet
import HandS.Deep
import HandS.DictComp
import HandS.TupLen
import KE.KDictDisplayH
import PyProof.ZipIter
import PyProof.TupleOfSeq
import PyProof.CollectIter
import KE.SortData
import HandS.SortRule
import KE.DataCmp
import KE.KTupSum
import KE.KDictWalk
import KE.KIndexOf
import KE.DataMinMax
import PyProof.P3Eq
import PyProof.SumAnyB
import PyProof.Rows.SumGenD
import HandS.FStr
import HandS.RaiseMore
import HandS.TryOnly
import HandS.CallLocal
import HandS.WrittenGet
import PyProof.Rows.StrJoinStr
import HandS.OwnEq
import HandS.Codes
import KE.KExcMake
import PySem.Challenge.RW_termseats_k19_errors_of_the_first_part
set_option Elab.async false
set_option linter.all false
set_option maxRecDepth 100000
set_option maxHeartbeats 4000000
/-! Own layer, part 1: defs that may ask repr of data. Such a def must know that no repr is under way around it (guards), which the library's FnOk does not say; so FnG says it beside. -/
namespace TSx
open PySem L2 PySem.Spec PyProof.Rows

/-- a def's promise where no repr is under way -/
structure FnG (P : Program) (w : World) (K : PySem.W.Frag) (mg : Str → Option Value) (base : Heap) (CX : CXT) (k : Nat) (f : Addr) (fd : FuncData) (ps : List Str) (sp : Sp) : Prop where
  sized : ∀ vs H Q E, sp vs H Q E → vs.length = ps.length
  go : ∀ (A : Around) (outer : List Env) (s : Shared) (H : Hp) (args : Args) (us : List Value) (vs : List V) (Q : VK) (E : XK),
    A.guards = some [] → Room k A → Env0 P w K mg base A outer s H → BindsTo s fd args (ps.zip us) → Vals vs us → sp vs H Q E →
    codeAny (model P w) A (.call (.ref f) args) (CR CX outer P w H s Q E) s

section
variable {P : Program} {w : World} {K : PySem.W.Frag} {mg : Str → Option Value} {base : Heap} {CX : CXT} {k : Nat} {f : Addr} {fd : FuncData} {ps : List Str} {sp : Sp}
theorem FnG.of (F : FnOk P w K mg base CX k f fd ps sp) : FnG P w K mg base CX k f fd ps sp :=
  ⟨F.len, fun A o s H a us vs Q E _ r e b v h => F.run A o s H a us vs Q E r e b v h⟩
theorem FnG.up {j : Nat} (F : FnG P w K mg base CX j f fd ps sp) (h : j ≤ k) : FnG P w K mg base CX k f fd ps sp :=
  ⟨F.sized, fun A o s H a us vs Q E g r e b v x => F.go A o s H a us vs Q E g (r.mono h) e b v x⟩
end

theorem guards_deeper {A : Around} (g : A.guards = some []) (env : Env) : (A.deeper env).guards = some [] := by
  unfold Around.deeper
  first
    | exact g
    | simp [Around.under, g]

/-- a def by its body, the guards known -/
theorem fnG_of {CX : CXT} {P : Program} {w : World} {K : PySem.W.Frag} {mg : Str → Option Value} {base : Heap} {k : Nat} {f : Addr} {x qual : Str} {st : Stmt} {fd : FuncData} {N ps : List Str} {sp : Sp}
    (F : L2.Fun K x qual st f fd) (S : FnScope N ps (defScope st)) (sz : ∀ vs H Q E, sp vs H Q E → vs.length = ps.length)
    (B : ∀ (cdv : Value) (A : Around) (outer : List Env) (s : Shared) (H : Hp) (vs : List V) (Q : VK) (E : XK), A.guards = some [] → Room k (A.deeper (envOfC qual (defScope st) s.heap.objs.size f cdv)) → sp vs H Q E →
      ∃ t, PSs (cxOf CX P w K mg base N qual (defScope st) f cdv A outer s H E) (defBody st) t ∧ t { nx := fun _ H' => Q .non H', rt := Q } (start N vs) H) :
    FnG P w K mg base CX (k + 1) f fd ps sp := by
  obtain ⟨oc, od, kV, doc, pm, an, cdv, ct, osl, rfl, lk, hcd⟩ := F.ex
  refine ⟨sz, fun A outer s H args us vs Q E g hr e0 hb r hsp => ?_⟩
  -- the same def, its promise cut down to this very call: then the library's rule serves
  obtain ⟨t, ht, hq⟩ := B cdv A outer s H vs Q E g (hr.deeper _) hsp
  have KX : K.In s.heap := e0.mod.kin.keeps fun b o e => (e0.bs b o e).1
  refine codeAny_call_function hr.depth (KX _ _ lk) rfl S.co S.gen rfl (PySem.W.codeRec_of KX hcd) (hb _ _ _ _ ?_)
  have kinds : ∀ y ∈ ps.zip us, (defScope st).names.lookup y.1 = some .local ∨ ((defScope st).names.lookup y.1 = some .cell ∧ ((cellsFrom (s.heap.objs.size + 1) (defScope st).names []).lookup y.1).isSome = true) := by
    intro y hy
    obtain ⟨n, v⟩ := y
    cases S.par n (List.of_mem_zip hy).1 with
    | inl q => exact Or.inl q
    | inr q => exact Or.inr ⟨q, PySem.W.cellsFrom_some _ _ _ (Or.inl q)⟩
  refine wpAny_newFunctionEnv_cells S.kind kinds fun env he s1 ic => ?_
  subst he
  have nolim : s.heap.NoLimit := e0.mod.nolimit.keeps fun b o e => (e0.bs b o e).1
  refine ⟨nolim.keeps ic.toInCall.keep, codeAny_func ?_⟩
  have J := inv_start (CX := CX) (E := E) S hr.hd e0 (sz _ _ _ _ hsp) r ic
  refine wpAny_mono (ht.run [] s1 (start N vs) H _ J hq) (fun fl s' z => ?_) fun _ _ z => z
  match fl, z with
  | .ret u, z =>
    obtain ⟨v, σ', H', I, rv, q⟩ := z
    exact ⟨v, H', I.os, I.bare, I.base, I.hok, rv, q⟩
  | .next, z =>
    obtain ⟨σ', H', I, q⟩ := z
    exact ⟨V.non, H', I.os, I.bare, I.base, I.hok, rfl, q⟩
  | .brk, z =>
    obtain ⟨_, _, _, q⟩ := z
    exact q.elim
  | .cont, z =>
    obtain ⟨_, _, _, q⟩ := z
    exact q.elim

/-- .. no exception leaves it -/
theorem fnG_of0 {P : Program} {w : World} {K : PySem.W.Frag} {mg : Str → Option Value} {base : Heap} {k : Nat} {f : Addr} {x qual : Str} {st : Stmt} {fd : FuncData} {N ps : List Str} {sp : Sp}
    (F : L2.Fun K x qual st f fd) (S : FnScope N ps (defScope st)) (sz : ∀ vs H Q E, sp vs H Q E → vs.length = ps.length)
    (B : ∀ (cdv : Value) (A : Around) (outer : List Env) (s : Shared) (H : Hp) (vs : List V) (Q : VK) (E : XK), A.guards = some [] → Room k (A.deeper (envOfC qual (defScope st) s.heap.objs.size f cdv)) → sp vs H Q E →
      ∃ t, PSs (cxOf CX0 P w K mg base N qual (defScope st) f cdv A outer s H E).nox (defBody st) t ∧ t { nx := fun _ H' => Q .non H', rt := Q } (start N vs) H) :
    FnG P w K mg base CX0 (k + 1) f fd ps sp := fnG_of F S sz fun cdv A outer s H vs Q E g hr h => by
  obtain ⟨t, h1, h2⟩ := B cdv A outer s H vs Q E g hr h
  exact ⟨t, h1.nox, h2⟩

section
variable {X : Cx} {CX : CXT} {k : Nat} {f : Addr} {fd : FuncData} {ps : List Str} {sp : Sp} {E : XK} {x : Str} {p pos : Pos} {e : Expr} {es : List Expr} {t : TA}
theorem runG {pins : List (Addr × Obj)} {σ : L2.St} {H : Hp} {s : Shared} {Q : VK} {us : List Value} {vs : List V} {EE : XK} (F : FnG X.prog X.w X.K X.mg X.base CX k f fd ps sp) (g : X.A.guards = some []) (hr : Room k X.A) (hb : Binds X.K fd ps [])
    (hx : ∀ e s', CX X.stack H s EE e s' → X.xe e s') (I : Inv X pins σ H s) (r : Vals vs us) (h : sp vs H Q EE) : wpAny (model X.prog X.w) X.A (call (.ref f) us) (EP X pins σ Q) X.xe s := by
  have hl : us.length = ps.length := by rw [← r.length]; exact F.sized _ _ _ _ h
  have bb : BindsTo s fd ⟨us, []⟩ (ps.zip us) := by
    have q := hb s us I.kIn (by rw [List.append_nil]; exact hl)
    rw [List.append_nil] at q
    exact q
  refine wpAny_call (codeAny_mono (F.go X.A X.stack s H ⟨us, []⟩ us vs Q EE g hr I.env0 bb r h) fun o s' z => ?_)
  match o, z with
  | .error y, z => exact hx y s' z
  | .ok (.ret u), z => exact I.after z
  | .ok .next, z => exact False.elim z
  | .ok .brk, z => exact False.elim z
  | .ok .cont, z => exact False.elim z
/-- f(e, ..) -/
theorem pe_callG (F : FnG X.prog X.w X.K X.mg X.base CX k f fd ps sp) (g : X.A.guards = some []) (hr : Room k X.A) (hg : Gl X x) (hm : X.mg x = some (.ref f)) (hk : PySem.W.keepIn X.K (.ref f) = true) (hb : Binds X.K fd ps []) (hx : Passes CX X E)
    (ha : PA X (e :: es) t) (hdb : (x == ("__debug__" : Str)) = false := by decide) (he : starEach (e :: es) X.env = (false, eval e X.env) :: starEach es X.env := by rfl) (hpl : (backTo pos (starEach es X.env)).any (·.1) = false := by rfl) :
    PE X (.Call (.Name x p) (e :: es) [] pos) (tCall sp [] E t) := by
  constructor
  intro pins s σ H Q I h
  refine wpAny_Call_Name_kw (ld_glob I hg hm ?_ hdb)
  refine PySem.W.callWith_K (h₀ := X.base) I.ok.mod.kin hk (thn (ha.run pos pins s σ H _ I h) fun us s1 z => ?_) he hpl
  obtain ⟨vs, H1, I1, r, q⟩ := z
  have q' : sp vs H1 Q E := by
    have := q
    rw [List.append_nil] at this
    exact this
  exact ⟨I1.kIn, runG F g hr hb (fun y s' c => hx pins σ H1 s1 y s' I1 c) I1 r q'⟩
theorem pe_callG0 (F : FnG X.prog X.w X.K X.mg X.base CX k f fd ps sp) (g : X.A.guards = some []) (hr : Room k X.A) (hg : Gl X x) (hm : X.mg x = some (.ref f)) (hk : PySem.W.keepIn X.K (.ref f) = true) (hb : Binds X.K fd ps []) (hx : Passes CX X E)
    (hdb : (x == ("__debug__" : Str)) = false := by decide) : PE X (.Call (.Name x p) [] [] pos) (tCall sp [] E tNil) := by
  constructor
  intro pins s σ H Q I h
  refine wpAny_Call_Name_kw (ld_glob I hg hm ?_ hdb)
  exact PySem.W.callWith_K0 I.kIn hk (runG (us := []) F g hr hb (fun y s' c => hx pins σ H s y s' I c) I .nil h)
end

/-! ### the law's own end: the script alone is tracked (or it stands in the written part) -/
end TSx

/-! Own layer, part 2: data of any depth (exceptions among them), what evaluates to which data, repr. -/
namespace TSx
open PySem L2 PySem.Spec PyProof.Rows
abbrev Sg := L2.St

/-- data: what stands below a value, all of it -/
inductive D where
  | non | bl (b : Bool) | int (i : Int) | str (x : Str)
  | lst (xs : List D) | tup (xs : List D) | dic (kvs : List (Key × D)) | exc (C : Addr) (fs : List (Str × D)) | ob (a : Addr) | frd (kvs : List (Key × D)) | frn (w : World) (kvs : List (D × D)) | tpb (xs : List D) | fnv (f c : Addr) (o : HO) (dv : Option (Addr × Int)) (vs : List V) (ds : List D)

abbrev NE := NestedKey × Addr × V
mutual
def nkey : D → Option NestedKey
  | .non => some .none
  | .int i => some (.num i)
  | .str x => some (.text x)
  | .tup ds => (nkeys ds).map .tup
  | _ => none
def nkeys : List D → Option (List NestedKey)
  | [] => some []
  | d :: ds => (nkey d).bind fun k => (nkeys ds).map (k :: ·)
end
/-- a dict whose keys are tuples, nested -/
def DnO (w : World) (a : Addr) (es : List NE) : HO := .ext fun h => es.length ≤ sizeLine ∧ (a == sysModules) = false ∧
  ∃ xs : List (NestedKey × Addr × Value), Paired (fun (p : NestedKey × Addr × V) (q : NestedKey × Addr × Value) => p.1 = q.1 ∧ p.2.1 = q.2.1 ∧ RelV p.2.2 q.2.2) es xs ∧
  ∃ o ds ep, h.get? a = some o ∧ o.ExactDict ∧ o.data = .dict ds ep ∧ ds.toList = xs.map (fun x => ⟨x.1.hash w, .ref x.2.1, x.2.2⟩) ∧ (xs.map (·.1)).Nodup
/-- at a: an exception of the class at C, its own dict at d -/
def exq (a C d : Addr) : HO := .ext fun h => ∃ oe vs, h.get? a = some oe ∧ Zc (.ref C) (some d) oe ∧ oe.data = .fields vs

mutual
inductive Dt (K : PySem.W.Frag) (H : Hp) : V → D → Prop
  | non : Dt K H .non .non
  | bl (b : Bool) : Dt K H (.bl b) (.bl b)
  | int (i : Int) : Dt K H (.int i) (.int i)
  | str (x : Str) : Dt K H (.str x) (.str x)
  | lst {a : Addr} {xs : List V} {ds : List D} : H a = some (.lst xs) → DtA K H xs ds → Dt K H (.ref a) (.lst ds)
  | tup {a : Addr} {xs : List V} {ds : List D} : SqT K H a xs → DtA K H xs ds → Dt K H (.ref a) (.tup ds)
  | dic {a : Addr} {xs : List (Key × V)} {ds : List (Key × D)} : H a = some (.dK xs) → DtK K H xs ds → Dt K H (.ref a) (.dic ds)
  | exc {a C d : Addr} {xs : List (Str × V)} {ds : List (Str × D)} : H a = some (exq a C d) → H d = some (.xd xs) → DtF K H xs ds → Dt K H (.ref a) (.exc C ds)
  | ob (a : Addr) : Dt K H (.ref a) (.ob a)
  | frd {a : Addr} {o : Obj} {xs : List (Key × V)} {ds : List (Key × D)} : H a = some (.frz o (.dK xs)) → DtK K H xs ds → Dt K H (.ref a) (.frd ds)
  | tpb {a : Addr} {o : Obj} {xs : List V} {ds : List D} : H a = some (.frz o (.tup xs)) → o.dict = none → DtA K H xs ds → Dt K H (.ref a) (.tpb ds)
  | frn {a : Addr} {o : Obj} {w : World} {es : List NE} {ds : List (D × D)} : H a = some (.frz o (DnO w a es)) → DtN K H es ds → Dt K H (.ref a) (.frn w ds)
  | fnv {f c : Addr} {o : HO} {dv : Option (Addr × Int)} {vs : List V} {ds : List D} : (∀ ps, o ≠ .tbl ps) → H c = some o → (∀ t i, dv = some (t, i) → H t = some (.tup [.int i])) → DtA K H vs ds → Dt K H (.ref f) (.fnv f c o dv vs ds)
inductive DtA (K : PySem.W.Frag) (H : Hp) : List V → List D → Prop
  | nil : DtA K H [] []
  | cons {v : V} {vs : List V} {d : D} {ds : List D} : Dt K H v d → DtA K H vs ds → DtA K H (v :: vs) (d :: ds)
inductive DtK (K : PySem.W.Frag) (H : Hp) : List (Key × V) → List (Key × D) → Prop
  | nil : DtK K H [] []
  | cons {k : Key} {v : V} {vs : List (Key × V)} {d : D} {ds : List (Key × D)} : Dt K H v d → DtK K H vs ds → DtK K H ((k, v) :: vs) ((k, d) :: ds)
inductive DtN (K : PySem.W.Frag) (H : Hp) : List NE → List (D × D) → Prop
  | nil : DtN K H [] []
  | cons {k : NestedKey} {b : Addr} {v : V} {vs : List NE} {d e : D} {ds : List (D × D)} : nkey d = some k → k.depth ≤ 8 → Dt K H (.ref b) d → Dt K H v e → DtN K H vs ds → DtN K H ((k, b, v) :: vs) ((d, e) :: ds)
inductive DtF (K : PySem.W.Frag) (H : Hp) : List (Str × V) → List (Str × D) → Prop
  | nil : DtF K H [] []
  | cons {k : Str} {v : V} {vs : List (Str × V)} {d : D} {ds : List (Str × D)} : Dt K H v d → DtF K H vs ds → DtF K H ((k, v) :: vs) ((k, d) :: ds)
end

/-- H' has all that H has -/
abbrev Gr (H H' : Hp) : Prop := Same H H'
theorem Gr.rfl' {H : Hp} : Gr H H := fun _ _ e => e
theorem Gr.tr {H H1 H2 : Hp} (a : Gr H H1) (b : Gr H1 H2) : Gr H H2 := fun x o e => b x o (a x o e)
theorem gr_new {H : Hp} {p : Addr} {o : HO} (n : H p = none) : Gr H (upd H p o) := fun a u e => by rw [upd_ne (ne_of_none e n)]; exact e
theorem gr_none {H H' : Hp} {p : Addr} (g : Gr H H') (n : H' p = none) : H p = none := by
  cases e : H p with
  | none => rfl
  | some o => rw [g p o e] at n; cases n
theorem gr_T {K : PySem.W.Frag} {H H' : Hp} {a : Addr} {xs : List V} (g : Gr H H') (h : SqT K H a xs) : SqT K H' a xs := by
  rcases h with (h | ⟨o, h⟩) | h
  · exact Or.inl (Or.inl (g _ _ h))
  · exact Or.inl (Or.inr ⟨o, g _ _ h⟩)
  · exact Or.inr h

section
variable {K : PySem.W.Frag} {H H' : Hp}
mutual
theorem Dt.gr (g : Gr H H') : ∀ {v : V} {d : D}, Dt K H v d → Dt K H' v d
  | _, _, .non => .non
  | _, _, .bl b => .bl b
  | _, _, .int i => .int i
  | _, _, .str x => .str x
  | _, _, .lst e a => .lst (g _ _ e) (DtA.gr g a)
  | _, _, .tup e a => .tup (gr_T g e) (DtA.gr g a)
  | _, _, .dic e a => .dic (g _ _ e) (DtK.gr g a)
  | _, _, .exc e f a => .exc (g _ _ e) (g _ _ f) (DtF.gr g a)
  | _, _, .ob a => .ob a
  | _, _, .frd e a => .frd (g _ _ e) (DtK.gr g a)
  | _, _, .frn e a => .frn (g _ _ e) (DtN.gr g a)
  | _, _, .tpb e n a => .tpb (g _ _ e) n (DtA.gr g a)
  | _, _, .fnv n e q a => .fnv n (g _ _ e) (fun t i z => g _ _ (q t i z)) (DtA.gr g a)
theorem DtN.gr (g : Gr H H') : ∀ {v : List NE} {d : List (D × D)}, DtN K H v d → DtN K H' v d
  | _, _, .nil => .nil
  | _, _, .cons k n a b t => .cons k n (Dt.gr g a) (Dt.gr g b) (DtN.gr g t)
theorem DtA.gr (g : Gr H H') : ∀ {v : List V} {d : List D}, DtA K H v d → DtA K H' v d
  | _, _, .nil => .nil
  | _, _, .cons a b => .cons (Dt.gr g a) (DtA.gr g b)
theorem DtK.gr (g : Gr H H') : ∀ {v : List (Key × V)} {d : List (Key × D)}, DtK K H v d → DtK K H' v d
  | _, _, .nil => .nil
  | _, _, .cons a b => .cons (Dt.gr g a) (DtK.gr g b)
theorem DtF.gr (g : Gr H H') : ∀ {v : List (Str × V)} {d : List (Str × D)}, DtF K H v d → DtF K H' v d
  | _, _, .nil => .nil
  | _, _, .cons a b => .cons (Dt.gr g a) (DtF.gr g b)
end
theorem DtA.len {v : List V} {d : List D} (h : DtA K H v d) : v.length = d.length := by
  induction d generalizing v with
  | nil => cases h; rfl
  | cons x d ih => cases h with | cons a b => simp [ih b]
theorem DtA.app : ∀ {v w : List V} {d e : List D}, DtA K H v d → DtA K H w e → DtA K H (v ++ w) (d ++ e)
  | _, _, _, _, .nil, h => h
  | _, _, _, _, .cons a b, h => .cons a (DtA.app b h)
theorem DtA.at : ∀ {v : List V} {d : List D} {i : Nat} {x : V}, DtA K H v d → v[i]? = some x → ∃ y, d[i]? = some y ∧ Dt K H x y
  | _, _, i, x, .nil, e => by simp at e
  | _, _, 0, x, .cons a b, e => by simp at e; subst e; exact ⟨_, rfl, a⟩
  | _, _, i + 1, x, .cons a b, e => by
    obtain ⟨y, h1, h2⟩ := DtA.at (i := i) (x := x) b (by simpa using e)
    exact ⟨y, by simpa using h1, h2⟩
theorem DtF.look {f : Str} : ∀ {v : List (Str × V)} {d : List (Str × D)} {y : D}, DtF K H v d → d.lookup f = some y → ∃ x, v.lookup f = some x ∧ Dt K H x y
  | _, _, y, .nil, e => by simp at e
  | _, _, y, .cons (k := k) a b, e => by
    simp only [List.lookup] at e ⊢
    split at e
    · cases e; exact ⟨_, rfl, a⟩
    · exact DtF.look b e
end

/-! ### as the library's data -/
mutual
def D.py : D → PyData
  | .non => .none
  | .bl b => .bool b
  | .int i => .int i
  | .str x => .str x
  | .lst xs => .list (pyA xs)
  | .tup xs => .tuple (pyA xs)
  | .dic _ => .dict []
  | .exc _ _ => .none
  | .ob _ => .none
  | .frd _ => .none
  | .tpb _ => .none
  | .frn _ _ => .none
  | .fnv _ _ _ _ _ _ => .none
def pyA : List D → List PyData
  | [] => []
  | x :: xs => x.py :: pyA xs
end
mutual
/-- no dict, no exception in it -/
def D.pl : D → Bool
  | .lst xs => plA xs
  | .tup xs => plA xs
  | .dic _ => false
  | .exc _ _ => false
  | .ob _ => false
  | .frd _ => false
  | .tpb _ => false
  | .frn _ _ => false
  | .fnv _ _ _ _ _ _ => false
  | .str x => PySem.PyData.strOk x
  | _ => true
def plA : List D → Bool
  | [] => true
  | x :: xs => x.pl && plA xs
end
section
variable {X : Cx} {pins : List (Addr × Obj)} {σ : Sg} {H : Hp} {s : Shared}
mutual
theorem Dt.dp {K : PySem.W.Frag} {H : Hp} : ∀ {v : V} {d : D}, Dt K H v d → d.pl = true → Dp K H v d.py
  | _, _, .non, _ => .non
  | _, _, .bl b, _ => .bl b
  | _, _, .int i, _ => .int i
  | _, _, .str x, _ => .str x
  | _, _, .lst e a, h => .lst (SqL.of e) (DtA.dp a h)
  | _, _, .tup e a, h => .tup e (DtA.dp a h)
  | _, _, .dic e a, h => by cases h
  | _, _, .exc e f a, h => by cases h
  | _, _, .ob a, h => by cases h
  | _, _, .frd e a, h => by cases h
  | _, _, .tpb e n a, h => by cases h
  | _, _, .frn e a, h => by cases h
  | _, _, .fnv _ _ _ _, h => by cases h
theorem DtA.dp {K : PySem.W.Frag} {H : Hp} : ∀ {v : List V} {d : List D}, DtA K H v d → plA d = true → DpAll K H v (pyA d)
  | _, _, .nil, _ => .nil
  | _, _, .cons a b, h => by
    simp only [plA, Bool.and_eq_true] at h
    exact .cons (Dt.dp a h.1) (DtA.dp b h.2)
end
mutual
theorem nodict : ∀ d : D, d.pl = true → d.py.hasDict = false
  | .non, _ => rfl
  | .bl _, _ => rfl
  | .int _, _ => rfl
  | .str _, _ => rfl
  | .lst xs, h => by show PyData.hasDictAll (pyA xs) = false; exact nodictA xs h
  | .tup xs, h => by show PyData.hasDictAll (pyA xs) = false; exact nodictA xs h
  | .dic _, h => by cases h
  | .exc _ _, h => by cases h
  | .ob _, h => by cases h
  | .frd _, h => by cases h
  | .tpb _, h => by cases h
  | .frn _ _, h => by cases h
  | .fnv _ _ _ _ _ _, h => by cases h
theorem nodictA : ∀ d : List D, plA d = true → PyData.hasDictAll (pyA d) = false
  | [], _ => rfl
  | x :: xs, h => by
    simp only [plA, Bool.and_eq_true] at h
    show (x.py.hasDict || PyData.hasDictAll (pyA xs)) = false
    rw [nodict x h.1, nodictA xs h.2]; rfl
end
end

end TSx

/-! Own layer, part 3: exceptions with an own __init__ as values: made, read, asked for their class, caught and kept. -/
namespace TSx
open PySem L2 PySem.Spec PyProof.Rows
section
variable {X : Cx} {pins : List (Addr × Obj)} {σ : Sg} {H : Hp} {s : Shared}
theorem exq_ok {P : Program} {w : World} {h : Heap} {a C d : Addr} {oe : Obj} {fv : Array Value} (e : h.get? a = some oe) (z : Zc (.ref C) (some d) oe) (f : oe.data = .fields fv) : ObjOk P w H h a (exq a C d) :=
  ⟨⟨oe, fv, e, z, f⟩, ⟨oe, e⟩, fun _ _ y k => by
    obtain ⟨o, v, e, r⟩ := y
    exact ⟨o, v, k o e, r⟩⟩
theorem exq_at (ok : HOk X.prog X.w H s.heap) {a C d : Addr} (e : H a = some (exq a C d)) : ∃ oe fv, s.heap.get? a = some oe ∧ Zc (.ref C) (some d) oe ∧ oe.data = .fields fv := by
  have x : ObjOk X.prog X.w H s.heap a (.ext fun h => ∃ oe vs, h.get? a = some oe ∧ Zc (.ref C) (some d) oe ∧ oe.data = .fields vs) := ok a _ e
  exact x.1
/-- an object that is not of this frame, nor tracked, becomes tracked -/
theorem Inv.track {a : Addr} {o : HO} (I : L2.Inv X pins σ H s) (na : H a = none) (n0 : X.s_0.heap.get? a = none) (nL : a ≠ X.env.locals) (nC : ∀ x c, X.env.cells.lookup x = some c → c ≠ a) (nP : ∀ p ∈ X.pn ++ pins, p.1 ≠ a)
    (new : ObjOk X.prog X.w (upd H a o) s.heap a o) : L2.Inv X pins σ (upd H a o) s := by
  have old : ∀ {b : Addr} {u : HO}, H b = some u → upd H a o b = some u := fun {b u} e => by rw [upd_ne (ne_of_none e na)]; exact e
  have un : ∀ {b : Addr}, b ≠ a → H b = none → upd H a o b = none := fun {b} h e => by rw [upd_ne h]; exact e
  refine ⟨I.ok, I.os, I.bare, ⟨fun b u e n hb hx => I.base.keep b u e n hb hx, fun b u e n hb hx => I.base.slot b u e n hb hx, fun b u e n hx => un (fun z => by rw [z, n0] at e; cases e) (I.base.free b u e n hx), I.base.there,
    fun b xs e => old (I.base.tups b xs e), fun b u v e => old (I.base.frzs b u v e), fun b ps e => ?_⟩, I.loc, I.cell, un (Ne.symm nL) I.free, fun x c e => un (nC x c e) (I.freeC x c e), fun p hp => ?_, fun b u e => ?_, I.len⟩
  · obtain ⟨m, e1⟩ := I.base.tbls b ps e
    exact ⟨m, old e1⟩
  · obtain ⟨h1, h2, h3⟩ := I.pin p hp
    exact ⟨h1, un (nP p hp) h2, h3⟩
  · by_cases hb : b = a
    · subst hb
      rw [upd_same] at e
      cases e
      exact new
    · rw [upd_ne hb] at e
      exact (I.hok b u e).stay (fun _ _ _ q => q) (fun _ q => old q) fun _ _ q => old q
/-- another description of a tracked thing, of those that may change -/
theorem Inv.retell {a : Addr} {o u : HO} (I : L2.Inv X pins σ H s) (e : H a = some u) (mu : Mut (some u)) (new : ObjOk X.prog X.w (upd H a o) s.heap a o) : L2.Inv X pins σ (upd H a o) s := by
  have m : Mut (H a) := by rw [e]; exact mu
  have th : ∃ ob, s.heap.get? a = some ob := by
    have q := I.hok a u e
    exact objOk_get q
  have J := I.write (h' := s.heap) (t' := s.toks) (x := a) (e := a) (o := o) m (Or.inl rfl) (fun _ _ _ q => q) th new
  exact J
end

section
variable {X : Cx} {CX : CXT} {x : Str} {C fI : Addr} {k : Nat} {fd : FuncData} {ps : List Str} {sp : Sp} {p pos : Pos} {e : Expr} {es : List Expr} {ta : TA}
/-- C(e, ..) as a value -/
def tMkX (C : Addr) (sp : Sp) (ta : TA) : TE := fun σ H Q => ta σ H fun vs H1 => vs.length ≤ 1000 ∧ ∀ a, H1 a = none → sp (.ref a :: vs) (upd H1 a (exo a C none))
  (fun v H2 => v = .non ∧ ∃ (d : Addr) (fs : List (Str × V)), H2 a = some (exo a C (some d)) ∧ H2 d = some (exd d fs) ∧ Q (.ref a) (upd (upd H2 a (exq a C d)) d (.xd fs))) (fun _ _ _ => False)
theorem made {pins : List (Addr × Obj)} {σ : Sg} {H1 : Hp} {s : Shared} {Q : VK} {us : List Value} {vs : List V} (T : OexC X.K C) (iC : PySem.W.findIn X.K (.ref C) "__init__" = some (some (.ref fI))) (tI : PySem.W.typeIn X.K (.ref fI) = some (.type "function"))
    (F1 : FnOk X.prog X.w X.K X.mg X.base CX k fI fd ps sp) (hr : Room (k + 1) X.A) (hb : Binds X.K fd ps []) (hx : Passes CX X (fun _ _ _ => False)) (I1 : L2.Inv X pins σ H1 s) (r1 : Vals vs us) (hz : vs.length ≤ 1000)
    (q1 : ∀ a, H1 a = none → sp (.ref a :: vs) (upd H1 a (exo a C none)) (fun v H2 => v = .non ∧ ∃ (d : Addr) (fs : List (Str × V)), H2 a = some (exo a C (some d)) ∧ H2 d = some (exd d fs) ∧ Q (.ref a) (upd (upd H2 a (exq a C d)) d (.xd fs))) (fun _ _ _ => False)) :
    wpAny (model X.prog X.w) X.A (call (.ref C) us) (EP X pins σ Q) X.xe s := by
  obtain ⟨nm, q, N, bs, bm, sn, sub, ab, col, dd, k0, k1, k2, k3, k5, hC, hbm⟩ := T.cls
  obtain ⟨hp, g, dr, tk, os⟩ := s
  have nw : H1 (hp.objs.size + 1) = none := I1.hok.fresh (Nat.le_succ _)
  have want := q1 _ nw
  have keep2 : ∀ b o, hp.get? b = some o → ((hp.push (PySem.W.kdv_tup us)).push (PySem.HandSPX.excO C hp.objs.size)).get? b = some o := by
    intro b o e
    exact Heap.get?_push_of_some _ (Heap.get?_push_of_some _ e)
  have there : ((hp.push (PySem.W.kdv_tup us)).push (PySem.HandSPX.excO C hp.objs.size)).get? (hp.objs.size + 1) = some (PySem.HandSPX.excO C hp.objs.size) := by heap_get
  have I2 : L2.Inv X pins σ (upd H1 (hp.objs.size + 1) (exo (hp.objs.size + 1) C none)) ⟨(hp.push (PySem.W.kdv_tup us)).push (PySem.HandSPX.excO C hp.objs.size), g, dr, tk, os⟩ :=
    I1.laid (t' := tk) keep2 (Nat.le_succ _) (exo_ok there)
  have r2 : Vals (V.ref (hp.objs.size + 1) :: vs) (Value.ref (hp.objs.size + 1) :: us) := .cons rfl r1
  have cnt : (Value.ref (hp.objs.size + 1) :: us).length = ps.length := by rw [← r2.length]; exact F1.len _ _ _ _ want
  have few : us.length ≤ sizeLine := by
    have := Paired.length r1
    rw [sizeLine_eq]
    omega
  have bd := hb _ (Value.ref (hp.objs.size + 1) :: us) I2.kIn (by rw [List.append_nil]; exact cnt)
  rw [List.append_nil] at bd
  refine wpAny_call (PySem.HandSPX.call_own F.excBase_ValueError (fun Y => PySem.HandSPX.refsVE_contains Y bm hbm) (I1.kIn _ _ hC) (PySem.W.looks_findIn I1.kIn iC) (fun self => PySem.W.bind_fn I1.kIn self tI) few ?_)
  refine codeAny_mono (F1.run _ X.stack _ _ ⟨Value.ref (hp.objs.size + 1) :: us, []⟩ (Value.ref (hp.objs.size + 1) :: us) _ _ (fun _ _ _ => False) (hr.make C us []) (I2.env0.make C us []) bd r2 want) fun o s' z => ?_
  match o, z with
  | .error er, z => exact hx pins σ _ _ er s' I2 z
  | .ok .next, z => exact False.elim z
  | .ok .brk, z => exact False.elim z
  | .ok .cont, z => exact False.elim z
  | .ok (.ret u), z =>
    obtain ⟨v, H2, os2, bare2, un2, ok2, rv, ev, d, fs, ea, ed, qq⟩ := z
    subst ev
    refine ⟨rv, ?_⟩
    obtain ⟨h2, g2, d2, t2, os'⟩ := s'
    have os2' : os' = os := os2
    subst os2'
    have J : L2.Inv X pins σ H2 ⟨h2, g2, d2, t2, os'⟩ := I2.call (h' := h2) (g' := g2) (d' := d2) (t' := t2) (ch := []) un2 ok2 bare2 (fun b z => absurd z (by simp))
    obtain ⟨t0, hoe⟩ := exo_at J.hok ea
    obtain ⟨mA, hns, rel⟩ := exd_at J.hok ed
    have nd : d ≠ hp.objs.size + 1 := fun z => by
      obtain ⟨o, es', ep, e1, e2, _⟩ := hns
      rw [z] at e1
      have e3 := hoe.symm.trans e1
      cases e3
      cases e2
    have J2 := Inv.retell (o := exq (hp.objs.size + 1) C d) J ea True.intro (exq_ok hoe ⟨rfl, rfl⟩ rfl)
    have J3 := Inv.retell (o := .xd fs) (u := exd d fs) J2 (by rw [upd_ne nd]; exact ed) True.intro ⟨mA, hns, rel⟩
    exact ⟨.ref _, _, J3, rfl, qq⟩
theorem pe_mkX (T : OexC X.K C) (iC : PySem.W.findIn X.K (.ref C) "__init__" = some (some (.ref fI))) (tI : PySem.W.typeIn X.K (.ref fI) = some (.type "function"))
    (F1 : FnOk X.prog X.w X.K X.mg X.base CX k fI fd ps sp) (hr : Room (k + 1) X.A) (hb : Binds X.K fd ps []) (hx : Passes CX X (fun _ _ _ => False)) (hm : X.mg x = some (.ref C)) (ha : PA X (e :: es) ta) (hg : Gl X x := by rfl)
    (hdb : (x == ("__debug__" : Str)) = false := by decide) (he : starEach (e :: es) X.env = (false, eval e X.env) :: starEach es X.env := by rfl) (hpl : (backTo pos (starEach es X.env)).any (·.1) = false := by rfl) :
    PE X (.Call (.Name x p) (e :: es) [] pos) (tMkX C sp ta) := by
  constructor
  intro pins s σ H Q I h
  refine wpAny_Call_Name_kw (ld_glob I hg hm ?_ hdb)
  refine PySem.W.callWith_K (h₀ := X.base) I.ok.mod.kin T.kC (thn (ha.run pos pins s σ H _ I h) fun us s1 z => ?_) he hpl
  obtain ⟨vs, H1, I1, r1, hz, q1⟩ := z
  exact ⟨I1.kIn, made T iC tI F1 hr hb hx I1 r1 hz q1⟩
/-- e.f, e an exception that is tracked -/
def tXa (K : PySem.W.Frag) (f : Str) (te : TE) : TE := fun σ H Q => te σ H fun v H1 => ∃ (a C d : Addr) (fs : List (Str × V)) (y : V), v = .ref a ∧ H1 a = some (exq a C d) ∧ H1 d = some (.xd fs) ∧ ExcC K C ∧ PySem.W.findIn K (.ref C) f = some none ∧ fs.lookup f = some y ∧ Q y H1
theorem pe_xa {te : TE} {f : Str} (he : PE X e te) (hb : attributeBase e f X.env (eval e X.env) = eval e X.env := by rfl) : PE X (.Attribute e f pos) (tXa X.K f te) := by
  constructor
  intro pins s σ H Q I h
  refine attr_of hb (thn (he.run pins s σ H _ I h) fun u s1 z => ?_)
  obtain ⟨v, H1, I1, rv, a, C, d, fs, y, rfl, ea, ed, T, hno, l, q⟩ := z
  obtain rfl : u = Value.ref a := rv
  obtain ⟨oe, fv, h1, hz, hf⟩ := exq_at I1.hok ea
  have hx : ObjOk X.prog X.w H1 s1.heap d (.xd fs) := I1.hok d _ ed
  obtain ⟨mA, hns, rel⟩ := hx
  obtain ⟨od, ho, hl⟩ := lookIn_ns hns
  obtain ⟨u, hu, ru⟩ := RelO.some_of (v := y) (o := mA f) (by rw [← l]; exact rel f)
  have J : PySem.W.InstAt s1.heap a oe C (some od) := { at_ := h1, cls := hz.1, no := by unfold PySem.W.notCls; rw [hf] <;> rfl, dict := by rw [hz.2]; exact ho }
  exact HandSPX.exc_get I1.kIn J T.hg T.hk T.hs (PySem.W.findObj_own T.hd hno rfl (by rw [hl, hu])) (handed_of ru) ⟨y, H1, I1.tok _, ru, q⟩
end
end TSx

/-! Own layer, part 3k: an exception class called by keywords. -/
namespace TSx
open PySem PySem.HandSPX PySem.Spec Builtin Builtin.ObjectAttr
section
variable {prog : Program} {w : World} {A : Around} {E : Value → Shared → Prop} {R : Result → Shared → Prop} {h : Heap} {g : Array GenState} {d : Drawn} {t : Nat} {os : OsState}
variable {nm q : Str} {C N : Addr} {bs bm bmB : List Value} {sn : List Str} {sub : List Value} {ab : Bool} {col : Option Bool} {dd : Option Addr} {k0 k1 k2 k3 k5 : Option Value} {B newId initId : String} {kw : List (Str × Value)}
theorem kw_check_new {M : Model} (F : ExcBaseFacts B newId initId bmB) (hT : ∀ X : String, bm.contains (.type X) = bmB.contains (.type X)) {Q : Unit → Shared → Prop}
    (hC : h.get? C = some (excClassObj nm q C N bs bm true sn sub ab col dd k0 k1 k2 k3 k5 newId)) (hq : Q () ⟨h, g, d, t, os⟩) :
    wpAny M A (checkBuiltinCall newId ⟨[.ref C], kw⟩) Q E ⟨h, g, d, t, os⟩ := by
  have c1 : (Value.ref C :: bm).contains (.type B) = true := by rw [List.contains_cons, hT, F.hasB, Bool.or_true]
  have c2 := F.noStar
  simp only [checkBuiltinCall, F.newKind, F.newSplit, F.newRow]
  repeat (first
    | refine wpAny_loadPart_at hC ?_
    | (refine wpAny_isSubtype_exc hC ?_; rw [c1])
    | refine wpAny_staticBase_exc hC ?_
    | refine wpAny_madeBy_exc hC ?_
    | simp only [bne_self_eq_false, Bool.false_eq_true, if_false]
    | wp_step)
  exact hq
theorem kw_new (F : ExcBaseFacts B newId initId bmB) (hT : ∀ X : String, bm.contains (.type X) = bmB.contains (.type X))
    (hC : h.get? C = some (excClassObj nm q C N bs bm true sn sub ab col dd k0 k1 k2 k3 k5 newId))
    (hq : R (.ok (.ret (.ref (h.objs.size + 1)))) ⟨(h.push (W.kdv_tup [])).push (excO C h.objs.size), g, d, t, os⟩) :
    codeAny (model prog w) A (.builtin newId ⟨[.ref C], kw⟩) R ⟨h, g, d, t, os⟩ := by
  have e1 := F.ends
  have c1 : (Value.ref C :: bm).contains (.type B) = true := by rw [List.contains_cons, hT, F.hasB, Bool.or_true]
  have c2 : (Value.ref C :: bm).contains (.type "AttributeError") = false := by rw [List.contains_cons, hT, F.noAttr]; rfl
  have c3 : (Value.ref C :: bm).contains (.type "NameError") = false := by rw [List.contains_cons, hT, F.noName]; rfl
  have few : ([] : List Value).length ≤ sizeLine := Nat.zero_le _
  refine codeAny_builtinAt F.entry ?_
  unfold Builtin.«BaseException.__new__»
  refine wpAt_bind ?_
  show wpAt _ _ _ (stack >>= _) _ _ _
  refine wpAt_bind (wpAt_stack fun p below => wpAt_of_wpAny ?_)
  wp_walk
  refine wpAt_of_wpAny ?_
  rw [F.owner]
  repeat (first
    | with_reducible refine wpAny_madeHere_exc F.canon hC ?_
    | with_reducible refine wpAny_loadPart_at hC ?_
    | (with_reducible refine wpAny_isSubtype_exc hC ?_; first | rw [c1] | rw [c2] | rw [c3])
    | wp_step)
  show R _ _
  rw [Heap.size_push]
  exact hq
theorem kw_type_call (F : ExcBaseFacts B newId initId bmB) (hT : ∀ X : String, bm.contains (.type X) = bmB.contains (.type X)) {fI : Addr} {Q : Fin → Shared → Prop}
    (hC : h.get? C = some (excClassObj nm q C N bs bm true sn sub ab col dd k0 k1 k2 k3 k5 newId))
    (hi : W.Looks (model prog w) h (typeLookup (.ref C) "__init__") (some (.ref fI))) (hb : ∀ self, W.Looks (model prog w) h (bindSpecial (.ref fI) self) (.ref fI, [self]))
    (hq : codeAny (model prog w) A (.call (.ref fI) ⟨[.ref (h.objs.size + 1)], kw⟩)
      (fun r s' => match r with | .ok (.ret v) => v = .none ∧ Q (.done (.ret (.ref (h.objs.size + 1)))) s' | .ok _ => False | .error e => E e s')
      ⟨(h.push (W.kdv_tup [])).push (excO C h.objs.size), g, d, t, os⟩) :
    wpAny (model prog w) A (Builtin.«type.__call__» ⟨[.ref C], kw⟩) Q E ⟨h, g, d, t, os⟩ := by
  repeat (first
    | with_reducible refine wpAny_loadPart_at hC ?_
    | with_reducible refine wpAny_madeBy_exc hC ?_
    | wp_step)
  refine codeAny_call_builtin_code (Code.quiet_builtin _ F.quiet) (kw_check_new F hT hC ?_)
  refine kw_new F hT hC ?_
  show wpAny _ _ _ _ _ _
  have k : ∀ b o, h.get? b = some o → ((h.push (W.kdv_tup [])).push (excO C h.objs.size)).get? b = some o := fun b o e => Heap.get?_push_of_some _ (Heap.get?_push_of_some _ e)
  have hC1 := k _ _ hC
  have at1 : ((h.push (W.kdv_tup [])).push (excO C h.objs.size)).get? (h.objs.size + 1) = some (excO C h.objs.size) := by heap_get
  have own : (Value.ref C :: bm).contains (.ref C) = true := by simp
  have i1 := hi.keeps k
  have b1 := (hb (.ref (h.objs.size + 1))).keeps k
  unfold isInstance
  repeat (first
    | with_reducible refine wpAny_loadPart_at at1 ?_
    | (with_reducible refine wpAny_isSubtype_exc hC1 ?_; rw [own])
    | wp_step)
  show wpAny _ _ (typeLookup (.ref C) _) _ _ _
  refine i1.at (wpAny_holding (wpAny_bind (b1.at (wpAny_bind (wpAny_call (codeAny_mono hq fun r s' z => ?_))))))
  match r, z with
  | .error _, z => exact z
  | .ok .next, z => exact z.elim
  | .ok .brk, z => exact z.elim
  | .ok .cont, z => exact z.elim
  | .ok (.ret v), z =>
    obtain ⟨rfl, z⟩ := z
    first
      | exact wpAny_pure (wpAny_pure z)
      | (wp_walk; exact z)
theorem kw_check_call {M : Model} {Q : Unit → Shared → Prop} (hC : h.get? C = some (excClassObj nm q C N bs bm true sn sub ab col dd k0 k1 k2 k3 k5 newId)) (hq : Q () ⟨h, g, d, t, os⟩) :
    wpAny M A (checkBuiltinCall "type.__call__" ⟨[.ref C], kw⟩) Q E ⟨h, g, d, t, os⟩ := by
  have f3 := tc_sub
  have ty : (⟨h, g, d, t, os⟩ : Shared).TypeIs (.ref C) "type" := ⟨_, hC, rfl⟩
  simp only [checkBuiltinCall, tc_kind, tc_split]
  repeat (any_goals (first
    | assumption
    | with_reducible refine wpAny_loadPart_at hC ?_
    | with_reducible refine wpAny_onRaise ?_
    | with_reducible refine wpAny_map ?_
    | wp_step))
theorem kw_call (F : ExcBaseFacts B newId initId bmB) (hT : ∀ X : String, bm.contains (.type X) = bmB.contains (.type X)) {fI : Addr}
    (hC : h.get? C = some (excClassObj nm q C N bs bm true sn sub ab col dd k0 k1 k2 k3 k5 newId))
    (hi : W.Looks (model prog w) h (typeLookup (.ref C) "__init__") (some (.ref fI))) (hb : ∀ self, W.Looks (model prog w) h (bindSpecial (.ref fI) self) (.ref fI, [self]))
    (hq : codeAny (model prog w) (A.under (.builtin "type.__call__" ⟨[.ref C], kw⟩)) (.call (.ref fI) ⟨[.ref (h.objs.size + 1)], kw⟩) (W.InitBack (h.objs.size + 1) R)
      ⟨(h.push (W.kdv_tup [])).push (excO C h.objs.size), g, d, t, os⟩) :
    codeAny (model prog w) A (.call (.ref C) ⟨[], kw⟩) R ⟨h, g, d, t, os⟩ := by
  have f1 := tc_lookup
  have f2 := tc_bind (.ref C)
  have ty : (⟨h, g, d, t, os⟩ : Shared).TypeIs (.ref C) "type" := ⟨_, hC, rfl⟩
  refine codeAny_of_tree ?_
  show wpAny _ _ (callAny (.ref C) _) _ _ _
  repeat (any_goals (first
    | assumption
    | with_reducible refine wpAny_loadPart_at hC ?_
    | wp_step))
  refine ⟨rfl, ?_⟩
  refine codeAny_call_builtin_at (Code.quiet_builtin _ (by decide +kernel)) entry_typeCall (kw_check_call hC (kw_type_call F hT hC hi hb ?_))
  refine codeAny_mono hq fun r s' z => ?_
  rcases r with e | (v | _ | _ | _) <;> exact z
end
end TSx

/-! Own layer, part 4: exceptions by keywords, isinstance of them, a try that keeps what it caught. -/
namespace TSx
open PySem L2 PySem.Spec PyProof.Rows
/-- how keywords alone bind behind self -/
structure KwB (fd : FuncData) (ps ks : List Str) (g : List Value → List Value) (gV : List V → List V) : Prop where
  to : ∀ (s : Shared) (self : Value) (ws : List Value), ws.length = ks.length → BindsTo s fd ⟨[self], ks.zip ws⟩ (ps.zip (self :: g ws))
  rel : ∀ {zs : List V} {ws : List Value}, Vals zs ws → Vals (gV zs) (g ws)
section
variable {X : Cx} {CX : CXT} {x : Str} {C fI : Addr} {k : Nat} {fd : FuncData} {ps ks : List Str} {sp : Sp} {p pos : Pos} {kws : List Keyword} {tk : TA} {g : List Value → List Value} {gV : List V → List V}
/-- C(f = e, ..) as a value -/
def tMkK (C : Addr) (m : Nat) (sp : Sp) (gV : List V → List V) (tk : TA) : TE := fun σ H Q => tk σ H fun zs H1 => zs.length = m ∧ ∀ a, H1 a = none → sp (.ref a :: gV zs) (upd H1 a (exo a C none))
  (fun v H2 => v = .non ∧ ∃ (d : Addr) (fs : List (Str × V)), H2 a = some (exo a C (some d)) ∧ H2 d = some (exd d fs) ∧ Q (.ref a) (upd (upd H2 a (exq a C d)) d (.xd fs))) (fun _ _ _ => False)
theorem madeK {pins : List (Addr × Obj)} {σ : Sg} {H1 : Hp} {s : Shared} {Q : VK} {ws : List Value} {zs : List V} (T : OexC X.K C) (iC : PySem.W.findIn X.K (.ref C) "__init__" = some (some (.ref fI))) (tI : PySem.W.typeIn X.K (.ref fI) = some (.type "function"))
    (F1 : FnOk X.prog X.w X.K X.mg X.base CX k fI fd ps sp) (hr : Room (k + 1) X.A) (hb : KwB fd ps ks g gV) (hx : Passes CX X (fun _ _ _ => False)) (I1 : L2.Inv X pins σ H1 s) (r1 : Vals zs ws) (hz : zs.length = ks.length)
    (q1 : ∀ a, H1 a = none → sp (.ref a :: gV zs) (upd H1 a (exo a C none)) (fun v H2 => v = .non ∧ ∃ (d : Addr) (fs : List (Str × V)), H2 a = some (exo a C (some d)) ∧ H2 d = some (exd d fs) ∧ Q (.ref a) (upd (upd H2 a (exq a C d)) d (.xd fs))) (fun _ _ _ => False)) :
    wpAny (model X.prog X.w) X.A (call (.ref C) [] (ks.zip ws)) (EP X pins σ Q) X.xe s := by
  obtain ⟨nm, q, N, bs, bm, sn, sub, ab, col, dd, k0, k1, k2, k3, k5, hC, hbm⟩ := T.cls
  obtain ⟨hp, gs, dr, tk, os⟩ := s
  have nw : H1 (hp.objs.size + 1) = none := I1.hok.fresh (Nat.le_succ _)
  have want := q1 _ nw
  have keep2 : ∀ b o, hp.get? b = some o → ((hp.push (PySem.W.kdv_tup [])).push (PySem.HandSPX.excO C hp.objs.size)).get? b = some o := by
    intro b o e
    exact Heap.get?_push_of_some _ (Heap.get?_push_of_some _ e)
  have there : ((hp.push (PySem.W.kdv_tup [])).push (PySem.HandSPX.excO C hp.objs.size)).get? (hp.objs.size + 1) = some (PySem.HandSPX.excO C hp.objs.size) := by heap_get
  have I2 : L2.Inv X pins σ (upd H1 (hp.objs.size + 1) (exo (hp.objs.size + 1) C none)) ⟨(hp.push (PySem.W.kdv_tup [])).push (PySem.HandSPX.excO C hp.objs.size), gs, dr, tk, os⟩ :=
    I1.laid (t' := tk) keep2 (Nat.le_succ _) (exo_ok there)
  have r2 : Vals (V.ref (hp.objs.size + 1) :: gV zs) (Value.ref (hp.objs.size + 1) :: g ws) := .cons rfl (hb.rel r1)
  have bd := hb.to ⟨(hp.push (PySem.W.kdv_tup [])).push (PySem.HandSPX.excO C hp.objs.size), gs, dr, tk, os⟩ (Value.ref (hp.objs.size + 1)) ws (by rw [← r1.length]; exact hz)
  refine wpAny_call (kw_call F.excBase_ValueError (fun Y => PySem.HandSPX.refsVE_contains Y bm hbm) (I1.kIn _ _ hC) (PySem.W.looks_findIn I1.kIn iC) (fun self => PySem.W.bind_fn I1.kIn self tI) ?_)
  refine codeAny_mono (F1.run _ X.stack _ _ ⟨[Value.ref (hp.objs.size + 1)], ks.zip ws⟩ (Value.ref (hp.objs.size + 1) :: g ws) _ _ (fun _ _ _ => False) (hr.make C [] (ks.zip ws)) (I2.env0.make C [] (ks.zip ws)) bd r2 want) fun o s' z => ?_
  match o, z with
  | .error er, z => exact hx pins σ _ _ er s' I2 z
  | .ok .next, z => exact False.elim z
  | .ok .brk, z => exact False.elim z
  | .ok .cont, z => exact False.elim z
  | .ok (.ret u), z =>
    obtain ⟨v, H2, os2, bare2, un2, ok2, rv, ev, d, fs, ea, ed, qq⟩ := z
    subst ev
    refine ⟨rv, ?_⟩
    obtain ⟨h2, g2, d2, t2, os'⟩ := s'
    have os2' : os' = os := os2
    subst os2'
    have J : L2.Inv X pins σ H2 ⟨h2, g2, d2, t2, os'⟩ := I2.call (h' := h2) (g' := g2) (d' := d2) (t' := t2) (ch := []) un2 ok2 bare2 (fun b z => absurd z (by simp))
    obtain ⟨t0, hoe⟩ := exo_at J.hok ea
    obtain ⟨mA, hns, rel⟩ := exd_at J.hok ed
    have nd : d ≠ hp.objs.size + 1 := fun z => by
      obtain ⟨o, es', ep, e1, e2, _⟩ := hns
      rw [z] at e1
      have e3 := hoe.symm.trans e1
      cases e3
      cases e2
    have J2 := Inv.retell (o := exq (hp.objs.size + 1) C d) J ea True.intro (exq_ok hoe ⟨rfl, rfl⟩ rfl)
    have J3 := Inv.retell (o := .xd fs) (u := exd d fs) J2 (by rw [upd_ne nd]; exact ed) True.intro ⟨mA, hns, rel⟩
    exact ⟨.ref _, _, J3, rfl, qq⟩
theorem pe_mkK (T : OexC X.K C) (iC : PySem.W.findIn X.K (.ref C) "__init__" = some (some (.ref fI))) (tI : PySem.W.typeIn X.K (.ref fI) = some (.type "function"))
    (F1 : FnOk X.prog X.w X.K X.mg X.base CX k fI fd ps sp) (hr : Room (k + 1) X.A) (hb : KwB fd ps ks g gV) (hx : Passes CX X (fun _ _ _ => False)) (hm : X.mg x = some (.ref C)) (hkw : PK X kws tk) (hg : Gl X x := by rfl)
    (hall : (backToKw pos (keywordEach kws X.env)).all (·.1.isSome) = true := by rfl) (hks : (backToKw pos (keywordEach kws X.env)).filterMap (·.1) = ks := by rfl) (hdb : (x == ("__debug__" : Str)) = false := by decide)
    (hpl : ((backTo pos (starEach [] X.env)).any (·.1) || (backToKw pos (keywordEach kws X.env)).any (·.1.isNone)) = false := by rfl) :
    PE X (.Call (.Name x p) [] kws pos) (tMkK C ks.length sp gV tk) := by
  constructor
  intro pins s σ H Q I h
  refine wpAny_Call_Name_kw (ld_glob I hg hm ?_ hdb)
  refine PySem.W.callWith_KW0 (h₀ := X.base) I.ok.mod.kin T.kC hall ?_ hpl
  refine thn (hkw.run pos pins s σ H _ I h) fun ws s2 z => ?_
  obtain ⟨zs, H2, I2, rz, l, q2⟩ := z
  refine ⟨I2.kIn, ?_⟩
  rw [hks]
  exact madeK T iC tI F1 hr hb hx I2 rz l q2
end

/-- isinstance(e, c), e a tracked exception -/
def rIsX (K : PySem.W.Frag) : List V → Hp → VK → Prop := fun xs H Q => ∃ (a C d : Addr) (fs : List (Str × V)) (c : V) (cv : Value) (b : Bool), xs = [.ref a, c] ∧ H a = some (exq a C d) ∧ H d = some (.xd fs) ∧ ExcC K C ∧ (∀ u, RelV c u → u = cv) ∧ PySem.W.kitOne K (.ref C) cv = some b ∧ Q (.bl b) H
theorem call_isX {X : Cx} : CallR X (.builtin "isinstance") (rIsX X.K) := by
  intro pins s σ H xs us Q I r h
  obtain ⟨a, C, d, fs, c, cv, b, rfl, ea, ed, T, hc, e, q⟩ := h
  obtain ⟨u1, u2, rfl, r1, r2⟩ := vals2 r
  cases (show u1 = Value.ref a from r1)
  have e2 := hc _ r2
  subst e2
  obtain ⟨oe, fv, h1, hz, hf⟩ := exq_at I.hok ea
  have hx : ObjOk X.prog X.w H s.heap d (.xd fs) := I.hok d _ ed
  obtain ⟨mA, hns, rel⟩ := hx
  obtain ⟨od, ho, hl⟩ := lookIn_ns hns
  have J : PySem.W.InstAt s.heap a oe C (some od) := { at_ := h1, cls := hz.1, no := by unfold PySem.W.notCls; rw [hf] <;> rfl, dict := by rw [hz.2]; exact ho }
  have isC : (PySem.W.clsIn X.K C).isSome = true := by
    obtain ⟨cd, hcd, _⟩ := PySem.W.any_some T.hd
    rw [hcd]
    rfl
  exact PySem.W.kia_one (PySem.W.kitx_exc isC T.hg T.hk T.hs T.ha T.hn T.ht T.hm) I.kIn J e (fun z => nomatch z) fun tk => ⟨.bl b, H, I.kept (t' := tk) fun _ _ z => z, rfl, q⟩
end TSx

/-! Own layer, part 5: try .. except C as n: the caught exception stays tracked behind the suite. -/
namespace TSx
open PySem L2 PySem.Spec PyProof.Rows
/-- what the clauses wish of an exception of the body: (class, slot of the name, suite) one after the other -/
def wT (K : PySem.W.Frag) (Wout : WX) (D : Ends) : List (Value × Nat × TS) → WX
  | [] => Wout
  | (c, i, ts) :: r => fun cls d σ H => ∃ b, PySem.W.exmOne K cls c = some b ∧
      (b = true → ∃ (C dd : Addr), cls = .ref C ∧ d = some dd ∧ ∀ a, H a = none → ts { nx := fun σ' H' => D.nx (σ'.set i none) H', rt := D.rt, bk := fun σ' H' => D.bk (σ'.set i none) H', ct := fun σ' H' => D.ct (σ'.set i none) H' } (σ.set i (some (.ref a))) (upd H a (exq a C dd))) ∧
      (b = false → wT K Wout D r cls d σ H)
inductive Hds (X : Cx) : List ExceptHandler → List (Value × Nat × TS) → Prop
  | nil : Hds X [] []
  | cons {x n : Str} {c : Value} {i : Nat} {ts : TS} {b₀ : Stmt} {suite : List Stmt} {np pos' : Pos} {hds : List ExceptHandler} {l : List (Value × Nat × TS)} (hc : Names X x c) (hi : X.N[i]? = some n) (hln : X.env.kindOf n = some .local)
      (hsu : ∀ (a : Addr) (pn : List (Addr × Obj)), PSs (X.suite a pn) (b₀ :: suite) ts) (r : Hds X hds l) :
      Hds X (.ExceptHandler (some (.Name x np)) (some n) (b₀ :: suite) pos' :: hds) ((c, i, ts) :: l)
theorem suite_in {X : Cx} {pins : List (Addr × Obj)} {σ : Sg} {H : Hp} {s : Shared} (I : L2.Inv X pins σ H s) (a : Addr) : L2.Inv (X.suite a (X.pn ++ pins)) [] σ H s :=
  ⟨I.ok.suite _ _, I.os, I.bare, I.base, I.loc, I.cell, I.free, I.freeC, fun p hp => I.pin p (by rw [List.append_nil] at hp; exact hp), I.hok, I.len⟩
theorem suite_out {X : Cx} {pins pn' : List (Addr × Obj)} {σ : Sg} {H : Hp} {s : Shared} {a : Addr} (I : L2.Inv (X.suite a (X.pn ++ pins)) pn' σ H s) (ok : X.Ok) : L2.Inv X pins σ H s :=
  ⟨ok, I.os, I.bare, I.base, I.loc, I.cell, I.free, I.freeC, fun p hp => I.pin p (List.mem_append_left _ hp), I.hok, I.len⟩
section
variable {X : Cx} {body : List Stmt} {h₀ : ExceptHandler} {hds : List ExceptHandler} {l : List (Value × Nat × TS)} {pos : Pos} {tb : WX → TS} {Wout : WX}
theorem ps_tryT (hs : X.stack = X.env :: X.outer) (hf : X.env.frame = some X.env.locals) (hN : X.N.Nodup) (hex : X.ex = []) (tk : Takes X Wout)
    (hb : ∀ (W : WX) (pn : List (Addr × Obj)) (xe : Value → Shared → Prop), Takes (X.tr pn xe) W → PassesOwn (model X.prog X.w) X.A X.env xe → PSs (X.tr pn xe) body (tb W))
    (hh : Hds X (h₀ :: hds) l) : PS X (.Try body (h₀ :: hds) [] [] pos) (fun D σ H => tb (wT X.K Wout D l) D σ H) := by
  constructor
  intro pins s σ H D I h
  have ok := I.ok
  have fr : X.A.frames = some (X.env :: X.outer) := by rw [ok.frames, hs]
  refine wpAny_Try_except ?_
  refine wpAny_mono ((hb (wT X.K Wout D l) (X.pn ++ pins) (fun e s₁ => wpAny (model X.prog X.w) X.A (noteFrame e X.env) (fun _ s₂ => wpAny (model X.prog X.w) X.A (setFlight e none) (fun _ s₃ =>
    wpAny (model X.prog X.w) X.A (handleBy e X.env (h₀ :: hds)) (SP X pins D) X.xe s₃) X.xe s₂) X.xe s₁) (fun u s' xx => ?_) PassesOwn.looking).run [] s σ H D (I.toTry _) h) (fun f s1 hsp => ?_) (fun e s1 he => he)
  · obtain ⟨a, B, sI, pins', σ', H', cls, d, rfl, J', nb, up, sky, na, os, ag, w⟩ := xx
    have J : L2.Inv X pins σ' H' sI := J'.ofTry ok
    have sky2 : Sky B (X.env :: X.outer) a (Zc cls d) X.env.locals s'.heap := by rw [← hs]; exact sky
    show wpAny (model X.prog X.w) X.A (noteFrame (.ref a) X.env) _ _ _
    refine Sky.land Zc.steady fr hf sky2 fun h3 fl3 up3 => ?_
    have J3 : L2.Inv X pins σ' H' { s' with heap := h3 } := J.landed nb fl3.1 (up.trans up3) os ag
    obtain ⟨oe3, vs3, he3, hz3, hd3⟩ := fl3.there
    have nfr : a ∉ frs (X.env :: X.outer) := fun hm => by
      obtain ⟨_, o', e', hnf⟩ := fl3.2.2.1.mem hm
      rw [he3] at e'
      cases e'
      exact hnf _ hd3
    have nL : a ≠ X.env.locals := fun z => nfr (List.mem_filterMap.mpr ⟨X.env, List.mem_cons_self, by rw [hf, z]⟩)
    have nI : sI.heap.get? a = none := by
      cases q : sI.heap.get? a with
      | none => rfl
      | some o =>
        have z := nb a o q (by rw [hs]; exact nfr)
        rw [fl3.2.1] at z
        cases z
    have n0 : X.s_0.heap.get? a = none := by
      cases q : X.s_0.heap.get? a with
      | none => rfl
      | some o =>
        obtain ⟨o', z⟩ := J.base.there a o q (by rw [hex]; simp)
        rw [nI] at z
        cases z
    have nP : ∀ p ∈ X.pn ++ pins, p.1 ≠ a := fun p hp z => by
      have q := (J.pin p hp).1
      rw [z, nI] at q
      cases q
    have S3 := suite_in J3 a
    have go : ∀ {hds' : List ExceptHandler} {l' : List (Value × Nat × TS)}, Hds X hds' l' → wT X.K Wout D l' cls d σ' H' →
        wpAny (model X.prog X.w) X.A (handleBy (.ref a) X.env hds') (SP X pins D) X.xe { s' with heap := h3 } := by
      intro hds' l' hk
      induction hk with
      | nil =>
        intro w
        refine wpAny_handleBy_nil ?_
        obtain ⟨k1, k2, k3, oe, vs, T, oT, ts', he, hz, hd, h1, hr⟩ := id fl3
        unfold PySem.passOn
        refine wpAny_bind (wpAny_field he hd h1 ?_)
        rw [if_neg (show ¬ ((Value.ref T == Value.none) = true) from by simp)]
        have last : wpAny (model X.prog X.w) X.A (setFlight (.ref a) X.env.frame) (fun _ s4 => wpAny (model X.prog X.w) X.A (throw (.ref a) : Sem Flow) (SP X pins D) X.xe s4) X.xe { s' with heap := h3 } := by
          rw [hf]
          refine HandSPX.setFlight_upZ fl3 fun h4 hh4 up4 => wpAny_throw (tk _ _ ?_)
          exact ⟨a, B, sI, pins, σ', H', cls, d, rfl, J, nb, (up.trans up3).trans up4, .inr (.inr (by rw [hs]; exact hh4)), na, os, ag, w⟩
        first
          | exact wpAny_bind (wpAny_pure (wpAny_bind last))
          | exact wpAny_bind last
      | @cons x n c i ts b₀ suite np pos' hds2 l2 hc hi hln hsu r ih =>
        intro w
        obtain ⟨b, hb1, hyes, hno⟩ := w
        refine wpAny_handleBy_cons (codeAny_handlers_test ?_) (by intro q; cases q)
        have LT : PySem.W.Looks (model X.prog X.w) h3 (typeOf (.ref a)) cls := fun A Q E s k q => wpAny_typeOf_ref (k _ _ he3) (by rw [hz3.1]; exact q)
        have LM := PySem.W.exm_one (M := model X.prog X.w) (J3.kIn) LT hb1
        have ask : ∀ {Q : Value → Shared → Prop} {E : Value → Shared → Prop}, Q c { s' with heap := h3 } → wpAny (model X.prog X.w) (X.A.mark (some (.ref a))) (eval (.Name x np) X.env) Q E { s' with heap := h3 } := fun {Q E} q => by
          obtain ⟨hg, hdbg, hm | ⟨hm, hv, hnn⟩⟩ := hc
          · exact ld_glob (X := X.suite a (X.pn ++ pins)) S3 hg hm q hdbg
          · exact ld_blt (X := X.suite a (X.pn ++ pins)) S3 hg hm hv q hnn hdbg
        refine ask (LM.here ?_)
        cases b with
        | true =>
          obtain ⟨C, dd, rfl, rfl, want⟩ := hyes rfl
          refine codeAny_handlers_suite_as ?_
          refine HandSPX.lands_againZ fl3 fun h4 fl4 up4 => ?_
          have J4 : L2.Inv X pins σ' H' { s' with heap := h4 } := J.landed nb fl4.1 ((up.trans up3).trans up4) os ag
          obtain ⟨oe4, vs4, he4, hz4, hd4⟩ := fl4.there
          have nC : ∀ y c', X.env.cells.lookup y = some c' → c' ≠ a := fun y c' e z => by
            obtain ⟨v, o, ho, hdat⟩ := J4.cell y c' e
            rw [z] at ho
            have ho' : h4.get? a = some o := ho
            rw [he4] at ho'
            cases ho'
            rw [hd4] at hdat
            cases hdat
          have J5 := Inv.track J4 na n0 nL nC nP (exq_ok (C := C) (d := dd) he4 hz4 hd4)
          have S5 := suite_in J5 a
          refine store_ok (X := X.suite a (X.pn ++ pins)) (v := .ref a) S5 hN hi (.inl hln) rfl (fun s6 S6 => ?_) (.inr hln)
          refine wpAny_mono ((hsu a (X.pn ++ pins)).run [] s6 _ _ _ S6 (want a na)) (fun f s7 hsp => ?_) (fun _ _ z => False.elim z)
          have close : ∀ {σ7 : Sg} {H7 : Hp} {Q : Shared → Prop}, L2.Inv (X.suite a (X.pn ++ pins)) [] σ7 H7 s7 → (∀ s8, L2.Inv X pins (σ7.set i none) H7 s8 → Q s8) →
              wpAny (model X.prog X.w) X.A (do bindName X.env n .none; unbindBehindTheSuite X.env n pos') (fun _ s8 => Q s8) X.xe s7 := fun {σ7 H7 Q} S7 hq => gone_ok (suite_out S7 ok) hN hi hln hq
          cases f with
          | next =>
            obtain ⟨σ7, H7, S7, q7⟩ := hsp
            exact close S7 fun s8 J8 => ⟨_, _, J8, q7⟩
          | brk =>
            obtain ⟨σ7, H7, S7, q7⟩ := hsp
            exact close S7 fun s8 J8 => ⟨_, _, J8, q7⟩
          | cont =>
            obtain ⟨σ7, H7, S7, q7⟩ := hsp
            exact close S7 fun s8 J8 => ⟨_, _, J8, q7⟩
          | ret u =>
            obtain ⟨v7, σ7, H7, S7, r7, q7⟩ := hsp
            exact close S7 fun s8 J8 => ⟨_, _, _, J8, r7, q7⟩
        | false =>
          show wpAny _ X.A (handleBy (.ref a) X.env hds2) _ _ _
          exact ih (hno rfl)
    exact go hh w
  · cases f with
    | next =>
      obtain ⟨σ', H', J', q⟩ := hsp
      exact wpAny_execs_nil ⟨σ', H', J'.ofTry ok, q⟩
    | brk =>
      obtain ⟨σ', H', J', q⟩ := hsp
      exact ⟨σ', H', J'.ofTry ok, q⟩
    | cont =>
      obtain ⟨σ', H', J', q⟩ := hsp
      exact ⟨σ', H', J'.ofTry ok, q⟩
    | ret u =>
      obtain ⟨v, σ', H', J', r, q⟩ := hsp
      exact ⟨v, σ', H', J'.ofTry ok, r, q⟩
end
end TSx

/-! Own layer, part 6: repr of data among which dicts stand (their values without parts). -/
namespace TSx
open PySem L2 PySem.Spec PyProof.Rows
/-- a thing without parts, as the library's data -/
def D.s0 : D → PyData
  | .bl b => .bool b
  | .int i => .int i
  | .str x => .str x
  | _ => .none
def pdKey : Key → PyData
  | .inl i => .int i
  | .inr x => .str x
mutual
def D.pd : D → PyData
  | .non => .none
  | .bl b => .bool b
  | .int i => .int i
  | .str x => .str x
  | .lst xs => .list (pdA xs)
  | .tup xs => .tuple (pdA xs)
  | .dic kvs => .dict (kvs.map fun p => (pdKey p.1, p.2.s0))
  | .exc _ _ => .none
  | .ob _ => .none
  | .frd _ => .none
  | .tpb _ => .none
  | .frn _ _ => .none
  | .fnv _ _ _ _ _ _ => .none
def pdA : List D → List PyData
  | [] => []
  | x :: xs => x.pd :: pdA xs
end
def D.flat : D → Bool
  | .non => true
  | .bl _ => true
  | .int _ => true
  | .str _ => true
  | _ => false
mutual
/-- no exception in it, dicts hold things without parts -/
def D.sh : D → Bool
  | .lst xs => shA xs
  | .tup xs => shA xs
  | .dic kvs => kvs.all fun p => p.2.flat
  | .exc _ _ => false
  | .ob _ => false
  | .frd _ => false
  | .tpb _ => false
  | .frn _ _ => false
  | .fnv _ _ _ _ _ _ => false
  | _ => true
def shA : List D → Bool
  | [] => true
  | x :: xs => x.sh && shA xs
end
section
variable {P : Program} {w : World} {h : Heap}
/-- the value reads as p and shows as p -/
def Rp (P : Program) (w : World) (h : Heap) (u : Value) (p : PyData) : Prop := (∃ as, Reads h u p as) ∧ ∃ bs, ReadAtMost h p.depth bs ∧ ReprK P w bs h p.depth u p.shown
def RpA (P : Program) (w : World) (h : Heap) (us : List Value) (ps : List PyData) : Prop := (∃ as, ReadsAll h us ps as) ∧ ∃ bs, ReadAtMost h (PyData.depthAll ps) bs ∧ ReprAllK P w bs h (PyData.depthAll ps) us (PyData.shownAll ps)
theorem rpA_nil : RpA P w h [] [] := ⟨⟨_, .nil⟩, [], (fun _ z => nomatch z), by simp only [PyData.shownAll]; exact .nil⟩
theorem rpA_cons {u : Value} {us : List Value} {p : PyData} {ps : List PyData} (a : Rp P w h u p) (b : RpA P w h us ps) : RpA P w h (u :: us) (p :: ps) := by
  obtain ⟨⟨_, r1⟩, xs, m1, k1⟩ := a
  obtain ⟨⟨_, r2⟩, ys, m2, k2⟩ := b
  have e : PyData.depthAll (p :: ps) = max p.depth (PyData.depthAll ps) := by simp only [PyData.depthAll]
  have e2 : PyData.shownAll (p :: ps) = p.shown :: PyData.shownAll ps := by simp only [PyData.shownAll]
  unfold RpA
  rw [e, e2]
  exact ⟨⟨_, .cons r1 r2⟩, xs ++ ys, (m1.mono (Nat.le_max_left ..)).append (m2.mono (Nat.le_max_right ..)), .cons ((k1.more fun b hb => List.mem_append_left _ hb).level_le (Nat.le_max_left ..)) (k2.more_le (fun b hb => List.mem_append_right _ hb) (Nat.le_max_right ..))⟩
/-- what a list's (tuple's, dict's) node wants of its parts -/
theorem rp_node {a : Addr} {p : PyData} {n : Nat} (r : ∃ as, Reads h (.ref a) p as) (e : p.depth = n + 1) {bs : List Addr} (m : ReadAtMost h n bs) : a ∉ bs ∧ ReadAtMost h p.depth (a :: bs) := by
  obtain ⟨_, r⟩ := r
  exact ⟨not_mem_of_deeper r (by rw [e]; exact Nat.lt_succ_self _) m, ReadAtMost.cons r (by rw [e]; exact Nat.le_succ _) m⟩
theorem rp_list {a : Addr} {o : Obj} {its : List Value} {n : Nat} {ps : List PyData} (h1 : h.get? a = some o) (h2 : o.cls = .type "list") (h3 : o.data = .seq its.toArray n) (q : RpA P w h its ps) : Rp P w h (.ref a) (.list ps) := by
  obtain ⟨⟨_, ra⟩, bs, m, k⟩ := q
  have r : ∃ as, Reads h (.ref a) (.list ps) as := ⟨_, .list h1 h2 h3 (by simpa using ra)⟩
  obtain ⟨hn, hm⟩ := rp_node r (by simp only [PyData.depth]) m
  refine ⟨r, a :: bs, hm, ?_⟩
  simp only [PyData.depth, PyData.shown]
  cases its with
  | nil =>
    cases ra
    simp only [PyData.shownAll, listText_nil]
    exact ReprK.listEmpty h1 h2 h3
  | cons x l => exact ReprK.list h1 h2 h3 hn (by have := k.length_eq; simpa using this) fun i y e => k.item i y (by simpa using e)
theorem rp_tuple {a : Addr} {o : Obj} {its : List Value} {n : Nat} {ps : List PyData} (h1 : h.get? a = some o) (h2 : o.cls = .type "tuple") (h3 : o.data = .seq its.toArray n) (q : RpA P w h its ps) : Rp P w h (.ref a) (.tuple ps) := by
  obtain ⟨⟨_, ra⟩, bs, m, k⟩ := q
  have r : ∃ as, Reads h (.ref a) (.tuple ps) as := ⟨_, .tuple h1 h2 h3 (by simpa using ra)⟩
  obtain ⟨hn, hm⟩ := rp_node r (by simp only [PyData.depth]) m
  refine ⟨r, a :: bs, hm, ?_⟩
  simp only [PyData.depth, PyData.shown]
  exact ReprK.tuple h1 h2 h3 hn (by simpa using k)
/-- a dict's entries, keys and values one by one -/
structure RpD (P : Program) (w : World) (h : Heap) (es : List DictEntry) (kvs : List (PyData × PyData)) : Prop where
  r1 : ∃ as, ReadsAll h (es.map (·.key)) (kvs.map (·.1)) as
  r2 : ∃ as, ReadsAll h (es.map (·.val)) (kvs.map (·.2)) as
  k : ∃ bs, ReadAtMost h (PyData.depthKv kvs) bs ∧ ReprEntriesK P w bs h (PyData.depthKv kvs) es (PyData.shownKv kvs)
theorem rpD_nil : RpD P w h [] [] := ⟨⟨_, .nil⟩, ⟨_, .nil⟩, [], (fun _ z => nomatch z), by simp only [PyData.shownKv]; exact .nil⟩
theorem rp_dict {a : Addr} {o : Obj} {es : Array DictEntry} {n : Nat} {kvs : List (PyData × PyData)} (h1 : h.get? a = some o) (h2 : o.cls = .type "dict") (h3 : o.data = .dict es n) (hs : (a == sysModules) = false) (q : RpD P w h es.toList kvs) : Rp P w h (.ref a) (.dict kvs) := by
  obtain ⟨⟨_, r1⟩, ⟨_, r2⟩, bs, m, k⟩ := q
  have r : ∃ as, Reads h (.ref a) (.dict kvs) as := ⟨_, .dict h1 h2 h3 r1 r2⟩
  obtain ⟨hn, hm⟩ := rp_node r (by simp only [PyData.depth]) m
  refine ⟨r, a :: bs, hm, ?_⟩
  simp only [PyData.depth, PyData.shown]
  exact ReprK.dict h1 h2 h3 hs hn k
theorem rp_flat {p : PyData} {u : Value} (r : Reads h u p []) (k : ReprK P w [] h 0 u p.shown) : Rp P w h u p := ⟨⟨_, r⟩, [], (fun _ z => nomatch z), k.level_le (Nat.zero_le _)⟩
end
section
variable {X : Cx} {pins : List (Addr × Obj)} {σ : Sg} {H : Hp} {s : Shared}
theorem rp_non : Rp X.prog X.w s.heap .none .none := rp_flat .none (by simp only [PyData.shown]; exact .of_is ReprIs.none _ _ _)
theorem rp_bl (b : Bool) : Rp X.prog X.w s.heap (.bool b) (.bool b) := rp_flat (.bool b) (by simp only [PyData.shown]; exact .of_is (ReprIs.bool b) _ _ _)
theorem rp_int (i : Int) (t : Tok) (z : (PyData.int i).showable = true) : Rp X.prog X.w s.heap (.int i t) (.int i) := rp_flat (.int i t) (by simp only [PyData.shown]; exact .of_is (ReprIs.int t (by simpa [PyData.showable] using z)) _ _ _)
theorem rp_str (x : Str) (t : Tok) (z : (PyData.str x).shown.length ≤ sizeLine) : Rp X.prog X.w s.heap (.str x t) (.str x) := rp_flat (.str x t) (by simp only [PyData.shown]; exact .of_is (ReprIs.str x t (by simpa only [PyData.shown] using z)) _ _ _)
theorem rp_s0 {d : D} {v : V} {u : Value} (hd : Dt X.K H v d) (r : RelV v u) (f : d.flat = true) (z : d.s0.showable = true) (l : d.s0.shown.length ≤ sizeLine) : Rp X.prog X.w s.heap u d.s0 := by
  cases hd with
  | non => cases r; exact rp_non
  | bl b => cases r; exact rp_bl b
  | int i => obtain ⟨t, rfl⟩ := r; exact rp_int i t z
  | str x => obtain ⟨t, rfl⟩ := r; exact rp_str x t l
  | lst _ _ => cases f
  | tup _ _ => cases f
  | dic _ _ => cases f
  | exc _ _ _ => cases f
  | ob _ => cases f
  | frd _ => cases f
  | tpb _ => cases f
  | frn _ _ => cases f
  | fnv _ _ _ _ => cases f
theorem rp_key {k : Key} {u : Value} (r : (mixKind X.prog X.w).is k u = true) (z : (pdKey k).showable = true) (l : (pdKey k).shown.length ≤ sizeLine) : Rp X.prog X.w s.heap u (pdKey k) := by
  rcases keyIs_shape (k := k) (v := u) r with ⟨i, t, rfl, rfl⟩ | ⟨x, t, rfl, rfl⟩
  · exact rp_int i t z
  · exact rp_str x t l
theorem rp_ents : ∀ (ds : List (Key × D)) (xs : List (Key × V)) (vs : List (Key × Value)) (es : List DictEntry), DtK X.K H xs ds → KV xs vs → Pairs (mixKind X.prog X.w) es vs → ds.all (fun p => p.2.flat) = true →
    PyData.showableKv (ds.map fun p => (pdKey p.1, p.2.s0)) = true → (∀ t ∈ PyData.shownKv (ds.map fun p => (pdKey p.1, p.2.s0)), t.length ≤ sizeLine) → RpD X.prog X.w s.heap es (ds.map fun p => (pdKey p.1, p.2.s0))
  | [], _, _, _, a, b, c, _, _, _ => by
    cases a
    cases b
    cases c
    exact rpD_nil
  | (k, d) :: ds, _, _, _, a, b, c, f, z, l => by
    cases a with
    | @cons _ v xs _ _ ad ak =>
    cases b with
    | @cons _ y _ ys bd bk =>
    obtain ⟨y1, y2⟩ := y
    obtain ⟨rfl, ry⟩ := bd
    cases c with
    | @cons e _ es _ ck cv cr =>
    simp only [List.all_cons, Bool.and_eq_true] at f
    simp only [List.map_cons, PyData.showableKv, Bool.and_eq_true] at z
    simp only [List.map_cons, PyData.shownKv, List.mem_cons, forall_eq_or_imp] at l
    have lt : ((pdKey k).shown ++ ": " ++ d.s0.shown).length = (pdKey k).shown.length + 2 + d.s0.shown.length := by rw [strLen_append, strLen_append]; rfl
    have l1 : (pdKey k).shown.length ≤ sizeLine := by have := l.1; omega
    have l2 : d.s0.shown.length ≤ sizeLine := by have := l.1; omega
    obtain ⟨⟨_, p1⟩, b1, m1, k1⟩ := rp_key (s := s) (k := k) ck z.1.1 l1
    obtain ⟨⟨_, p2⟩, b2, m2, k2⟩ := rp_s0 (s := s) (u := e.val) ad (by rw [cv]; exact ry) f.1 z.1.2 l2
    obtain ⟨⟨_, r1⟩, ⟨_, r2⟩, b3, m3, k3⟩ := rp_ents ds xs ys es ak bk cr f.2 z.2 l.2
    have dp : PyData.depthKv ((pdKey k, d.s0) :: ds.map fun p => (pdKey p.1, p.2.s0)) = max (max (pdKey k).depth d.s0.depth) (PyData.depthKv (ds.map fun p => (pdKey p.1, p.2.s0))) := by simp only [PyData.depthKv]
    refine ⟨⟨_, .cons p1 r1⟩, ⟨_, .cons p2 r2⟩, b1 ++ (b2 ++ b3), ?_, ?_⟩
    · show ReadAtMost _ (PyData.depthKv ((pdKey k, d.s0) :: ds.map fun p => (pdKey p.1, p.2.s0))) _
      rw [dp]
      exact (m1.mono (by omega)).append ((m2.mono (by omega)).append (m3.mono (by omega)))
    · show ReprEntriesK _ _ _ _ (PyData.depthKv ((pdKey k, d.s0) :: ds.map fun p => (pdKey p.1, p.2.s0))) _ (PyData.shownKv ((pdKey k, d.s0) :: ds.map fun p => (pdKey p.1, p.2.s0)))
      rw [dp]
      simp only [PyData.shownKv]
      refine .cons ((k1.more fun b hb => List.mem_append_left _ hb).level_le (by omega)) ((k2.more fun b hb => List.mem_append_right _ (List.mem_append_left _ hb)).level_le (by omega)) ?_
      have up : ∀ {es : List DictEntry} {ps : List Str}, ReprEntriesK X.prog X.w b3 s.heap (PyData.depthKv (ds.map fun p => (pdKey p.1, p.2.s0))) es ps → ReprEntriesK X.prog X.w (b1 ++ (b2 ++ b3)) s.heap (max (max (pdKey k).depth d.s0.depth) (PyData.depthKv (ds.map fun p => (pdKey p.1, p.2.s0)))) es ps := by
        intro es ps q
        induction q with
        | nil => exact .nil
        | cons x y _ ih => exact .cons ((x.more fun b hb => List.mem_append_right _ (List.mem_append_right _ hb)).level_le (by omega)) ((y.more fun b hb => List.mem_append_right _ (List.mem_append_right _ hb)).level_le (by omega)) ih
      exact up k3
mutual
theorem rpDt (I : L2.Inv X pins σ H s) : ∀ (d : D) (v : V) (u : Value), Dt X.K H v d → RelV v u → d.sh = true → d.pd.showable = true → d.pd.shown.length ≤ sizeLine → Rp X.prog X.w s.heap u d.pd
  | .non, _, _, h, r, _, _, _ => by cases h; cases r; exact rp_non
  | .bl b, _, _, h, r, _, _, _ => by cases h; cases r; exact rp_bl b
  | .int i, _, _, h, r, _, z, _ => by cases h; obtain ⟨t, rfl⟩ := r; exact rp_int i t z
  | .str x, _, _, h, r, _, _, l => by cases h; obtain ⟨t, rfl⟩ := r; exact rp_str x t l
  | .exc _ _, _, _, _, _, f, _, _ => by cases f
  | .ob _, _, _, _, _, f, _, _ => by cases f
  | .frd _, _, _, _, _, f, _, _ => by cases f
  | .tpb _, _, _, _, _, f, _, _ => by cases f
  | .frn _ _, _, _, _, _, f, _, _ => by cases f
  | .fnv _ _ _ _ _ _, _, _, _, _, f, _, _ => by cases f
  | .lst ds, _, _, h, r, f, z, l => by
    cases h with
    | @lst a xs _ e aa =>
    cases r
    obtain ⟨its, rv, ⟨o, n, ho, hc, _, hd⟩, _⟩ := I.list (SqL.of e)
    have l' : (listText (PyData.shownAll (pdA ds))).length ≤ sizeLine := l
    exact rp_list ho hc hd (rpDtA I ds xs its aa rv f z fun t ht => Nat.le_trans (listText_mem_le ht) l')
  | .tup ds, _, _, h, r, f, z, l => by
    cases h with
    | @tup a xs _ e aa =>
    cases r
    obtain ⟨its, rv, ⟨o, ho, hc, n, hd⟩, _⟩ := I.tuple e
    have l' : (tupleText (PyData.shownAll (pdA ds))).length ≤ sizeLine := l
    exact rp_tuple ho hc hd (rpDtA I ds xs its aa rv f z fun t ht => Nat.le_trans (tupleText_mem_le ht) l')
  | .dic ds, _, _, h, r, f, z, l => by
    cases h with
    | @dic a xs _ e aa =>
    cases r
    obtain ⟨_, lo, vs, rel, o, es, ep, h1, h2, h3, h4, h5, _⟩ := dk_of I.hok e
    have l' : (dictText (PyData.shownKv (ds.map fun p => (pdKey p.1, p.2.s0)))).length ≤ sizeLine := l
    exact rp_dict h1 h2.1 h3 lo (rp_ents ds xs vs es.toList aa rel h5 f z fun t ht => Nat.le_trans (dictText_mem_le ht) l')
theorem rpDtA (I : L2.Inv X pins σ H s) : ∀ (ds : List D) (vs : List V) (us : List Value), DtA X.K H vs ds → Vals vs us → shA ds = true → PyData.showableAll (pdA ds) = true → (∀ t ∈ PyData.shownAll (pdA ds), t.length ≤ sizeLine) → RpA X.prog X.w s.heap us (pdA ds)
  | [], _, _, h, r, _, _, _ => by cases h; cases r; exact rpA_nil
  | d :: ds, _, _, h, r, f, z, l => by
    cases h with
    | cons h1 h2 =>
    cases r with
    | cons r1 r2 =>
    simp only [shA, Bool.and_eq_true] at f
    simp only [pdA, PyData.showableAll, Bool.and_eq_true] at z
    simp only [pdA, PyData.shownAll, List.mem_cons, forall_eq_or_imp] at l
    exact rpA_cons (rpDt I d _ _ h1 r1 f.1 z.1 l.1) (rpDtA I ds _ _ h2 r2 f.2 z.2 l.2)
end
end
/-- what repr can be asked of -/
def D.rd (d : D) : Prop := d.sh = true ∧ d.pd.showable = true ∧ d.pd.shown.length ≤ sizeLine ∧ d.pd.depth ≤ 50
def rReprD (K : PySem.W.Frag) : List V → Hp → VK → Prop := fun xs H Q => ∃ v d, xs = [v] ∧ Dt K H v d ∧ d.rd ∧ Q (.str d.pd.shown) H
theorem call_reprD {X : Cx} (g : X.A.guards = some []) (hu : X.A.units + 64 < cLine) : CallR X (.builtin "repr") (rReprD X.K) := by
  intro pins s σ H xs us Q I r h
  obtain ⟨v, d, rfl, hd, ⟨hp, hs, hz, hdp⟩, q⟩ := h
  obtain ⟨u, rfl, ru⟩ := vals1 r
  have hu2 : X.A.units + (d.pd.depth + 1) < cLine := by omega
  have fin : ∀ h' tk u', (∀ b o, s.heap.get? b = some o → h'.get? b = some o) → EP X pins σ Q (.str d.pd.shown u') { s with heap := h', toks := tk } := fun h' tk u' k => ⟨.str d.pd.shown, H, I.kept k, ⟨u', rfl⟩, q⟩
  have finT : EP X pins σ Q (.str d.pd.shown s.toks) { s with toks := s.toks + 1 } := ⟨.str d.pd.shown, H, I.tok _, ⟨_, rfl⟩, q⟩
  cases hd with
  | non => cases ru; exact PySem.P.repr_of_none finT
  | bl b => cases ru; exact PySem.P.repr_of_bool finT
  | int i =>
    obtain ⟨t, rfl⟩ := ru
    exact PySem.P.repr_of_int (of_decide_eq_true hs) finT
  | str x =>
    obtain ⟨t, rfl⟩ := ru
    exact PySem.P.repr_of_str finT hz
  | @lst a xs ds e aa =>
    cases ru
    obtain ⟨its, rv, ⟨o, n, ho, hc, _, hdt⟩, _⟩ := I.list (SqL.of e)
    have l' : (listText (PyData.shownAll (pdA ds))).length ≤ sizeLine := hz
    obtain ⟨⟨_, ra⟩, bs, m, k⟩ := rpDtA I ds xs its aa rv hp hs fun t ht => Nat.le_trans (listText_mem_le ht) l'
    have rr : ∃ as, Reads s.heap (.ref a) (.list (pdA ds)) as := ⟨_, .list ho hc hdt (by simpa using ra)⟩
    obtain ⟨hn, _⟩ := rp_node rr (by simp only [PyData.depth]) m
    have hu3 : X.A.units + (PyData.depthAll (pdA ds) + 1 + 1) < cLine := hu2
    refine call_repr_slot (by omega) ⟨o, ho, hc⟩ PySem.F.slot_list_repr.toG ?_
    cases its with
    | nil =>
      have e0 : ds = [] := by
        cases ds with
        | nil => rfl
        | cons x y => cases aa with | cons _ _ => cases rv
      subst e0
      exact call_list_repr_empty ⟨o, ho, hc⟩ ho hdt ⟨_, _, rfl, fin s.heap _ _ fun _ _ e => e⟩
    | cons x l =>
      exact call_list_reprK ho hc hdt hn (by have := k.length_eq; simpa using this) (fun i y e => k.item i y (by simpa using e)) g (fun b _ => Clear.nil b) (show X.A.units + 1 + (PyData.depthAll (pdA ds) + 1) < cLine by omega) (fun _ _ e => e) (fun h' u tk kk => ⟨_, _, rfl, fin h' tk u kk⟩) l'
  | @tup a xs ds e aa =>
    cases ru
    obtain ⟨its, rv, ⟨o, ho, hc, n, hdt⟩, _⟩ := I.tuple e
    have l' : (tupleText (PyData.shownAll (pdA ds))).length ≤ sizeLine := hz
    obtain ⟨⟨_, ra⟩, bs, m, k⟩ := rpDtA I ds xs its aa rv hp hs fun t ht => Nat.le_trans (tupleText_mem_le ht) l'
    have rr : ∃ as, Reads s.heap (.ref a) (.tuple (pdA ds)) as := ⟨_, .tuple ho hc hdt (by simpa using ra)⟩
    obtain ⟨hn, _⟩ := rp_node rr (by simp only [PyData.depth]) m
    have hu3 : X.A.units + (PyData.depthAll (pdA ds) + 1 + 1) < cLine := hu2
    refine call_repr_slot (by omega) ⟨o, ho, hc⟩ PySem.F.slot_tuple_repr ?_
    exact call_tuple_reprK ho hc hdt hn (by simpa using k) g (fun b _ => Clear.nil b) (show X.A.units + 1 + (PyData.depthAll (pdA ds) + 1) < cLine by omega) (fun _ _ e => e) (fun h' u tk kk => ⟨_, _, rfl, fin h' tk u kk⟩) l'
  | @dic a xs ds e aa =>
    cases ru
    obtain ⟨_, lo, vs, rel, o, es, ep, h1, h2, h3, h4, h5, _⟩ := dk_of I.hok e
    have l' : (dictText (PyData.shownKv (ds.map fun p => (pdKey p.1, p.2.s0)))).length ≤ sizeLine := hz
    obtain ⟨⟨_, r1⟩, ⟨_, r2⟩, bs, m, k⟩ := rp_ents (s := s) ds xs vs es.toList aa rel h5 hp hs fun t ht => Nat.le_trans (dictText_mem_le ht) l'
    have rr : ∃ as, Reads s.heap (.ref a) (.dict (ds.map fun p => (pdKey p.1, p.2.s0))) as := ⟨_, .dict h1 h2.1 h3 r1 r2⟩
    obtain ⟨hn, _⟩ := rp_node rr (by simp only [PyData.depth]) m
    have hu3 : X.A.units + (PyData.depthKv (ds.map fun p => (pdKey p.1, p.2.s0)) + 1 + 1) < cLine := hu2
    refine call_repr_slot (by omega) ⟨o, h1, h2.1⟩ PySem.F.slot_dict_repr ?_
    exact call_dict_reprK h1 h2.1 h3 lo hn k g (fun b _ => Clear.nil b) (show X.A.units + 1 + (PyData.depthKv (ds.map fun p => (pdKey p.1, p.2.s0)) + 1) < cLine by omega) (fun _ _ e => e) (fun h' u tk kk => ⟨_, _, rfl, fin h' tk u kk⟩) l'
  | ob a => cases hp
  | frd _ _ => cases hp
  | tpb _ _ => cases hp
  | frn _ _ => cases hp
  | fnv _ _ _ _ => cases hp
  | exc _ _ _ => cases hp
end TSx

/-! Own layer, part 7: an own class over OverflowError, made as a value. -/
namespace TSx
open PySem L2 PySem.Spec PyProof.Rows
abbrev ofTail : List Value := [.type "OverflowError", .type "ArithmeticError", .type "Exception", .type "BaseException", .type "object"]
structure OofC (K : PySem.W.Frag) (C : Addr) : Prop where
  cls : ∃ nm q N bs bm sn sub ab col dd k0 k1 k2 k3 k5, K.lookup C = some (excClassObj nm q C N bs bm true sn sub ab col dd k0 k1 k2 k3 k5 "OverflowError.__new__") ∧ PySem.W.excTail ofTail bm = true
  sa : PySem.W.findIn K (.ref C) "__setattr__" = some (some (.builtin "object.__setattr__"))
  kC : PySem.W.keepIn K (.ref C) = true
section
open Builtin Builtin.ObjectAttr
variable {prog : Program} {w : World} {A : Around} {R : Result → Shared → Prop} {hp : Heap} {g : Array GenState} {d : Drawn} {t : Nat} {os : OsState}
theorem of_store {K : PySem.W.Frag} {f : Str} {tk : Tok} {u : Value} {x C : Addr} {fv : Array Value} (T : OofC K C) (X : K.In hp) (at1 : hp.get? x = some { cls := .ref C, data := .fields fv }) (no : PySem.W.findIn K (.ref C) f = some none)
    (k : ∀ h' tk' dx, (∀ b o, b ≠ x → hp.get? b = some o → h'.get? b = some o) → hp.objs.size ≤ dx → dx ≠ x → h'.get? x = some { cls := .ref C, dict := some dx, data := .fields fv } →
      h'.Ns1 dx (fun y => if y = f then some u else none) → R (.ok (.ret .none)) ⟨h', g, d, tk', os⟩) :
    codeAny (model prog w) A (.call (.builtin "object.__setattr__") ⟨[.ref x, .str f tk, u], []⟩) R ⟨hp, g, d, t, os⟩ := by
  obtain ⟨nm, q, N, bs, bm, sn, sub, ab, col, dd, k0, k1, k2, k3, k5, hC, hbm⟩ := T.cls
  have hcl : PySem.W.clsIn K C = some { name := nm, bases := bs, mro := .ref C :: bm, ns := N, qualname := q, hasDict := true, slotNames := sn, subclasses := sub, abstract := ab, collection := col, hasDel := false } := by unfold PySem.W.clsIn; rw [hC] <;> rfl
  have over : PySem.W.excOver K C ofTail = true := by
    unfold PySem.W.excOver
    rw [hcl]
    show (C == C && PySem.W.excTail ofTail bm) = true
    rw [hbm, beq_self_eq_true]
    rfl
  have I : PySem.W.InstAt hp x { cls := .ref C, data := .fields fv } C none := ⟨at1, rfl, rfl, trivial⟩
  have look : PySem.W.Looks (model prog w) hp (classData C) _ := PySem.W.looks_clsIn X hcl
  have ne : x ≠ hp.objs.size := Nat.ne_of_lt (Heap.lt_size at1)
  refine PySem.W.osa_openX PySem.F.store_OverflowError X I over (r := none) (by unfold PySem.W.takerIn; rw [no]; rfl) fun b => ?_
  show wpAny _ _ (storeInOwnDict (.ref x) (.ref C) (.str f tk) f u b) _ _ _
  unfold storeInOwnDict ownDictForStores
  cases b
  all_goals
    repeat (first
      | with_reducible refine PySem.HandSPX.store_in_new ?_ ?_
      | with_reducible refine wpAny_loadPart_at at1 ?_
      | with_reducible refine look.at ?_
      | wp_step)
  all_goals first
    | exact ⟨_, #[], _, (Heap.get?_update_ne _ _ _ _ ne.symm).trans (Heap.get?_push_at rfl rfl), rfl, fun e he => absurd he (by simp), fun _ => rfl⟩
    | (intro h' tk' hn' hs
       have a2 : (hp.push { cls := .type "dict", data := .dict #[] }).get? x = some { cls := .ref C, data := .fields fv } := Heap.get?_push_of_some _ at1
       refine k h' tk' hp.objs.size (fun b o hb ho => ?_) (Nat.le_refl _) ne.symm ?_ hn'
       · exact (hs.2 b (Nat.ne_of_lt (Heap.lt_size ho))).trans ((Heap.get?_update_ne _ _ _ _ hb).trans (Heap.get?_push_of_some _ ho))
       · exact (hs.2 x ne).trans (Heap.get?_update_self _ a2 rfl))
end
section
variable {X : Cx} {pins : List (Addr × Obj)} {σ : Sg} {H : Hp} {s : Shared} {a C dx : Addr} {f : Str} {y : V} {u : Value} {fs : List (Str × V)} {Q : Unit → Shared → Prop} {E : Value → Shared → Prop} {A : Around}
/-- self.f = y, the first field -/
theorem of_new (T : OofC X.K C) (I : L2.Inv X pins σ H s) (e : H a = some (exo a C none)) (no : PySem.W.findIn X.K (.ref C) f = some none) (ry : RelV y u)
    (k : ∀ dx s', H dx = none → dx ≠ a → L2.Inv X pins σ (upd (upd H dx (exd dx [(f, y)])) a (exo a C (some dx))) s' → Q () s') : wpAny (model X.prog X.w) A (setAttr (.ref a) f u) Q E s := by
  obtain ⟨t1, ho⟩ := exo_at I.hok e
  obtain ⟨hp, g, d, t, os⟩ := s
  refine PySem.W.set_plain I.kIn (ox := { cls := .ref C, dict := none, data := .fields #[.ref t1, .none, .none, .none, .bool false, .none] }) (od := none) ⟨ho, rfl, rfl, trivial⟩ T.sa ?_
  refine of_store T I.kIn ho no fun h' tk' dx keep dn dne hx hn => ?_
  have free : H dx = none := I.hok.fresh dn
  have far : ∀ {b : Addr} {o : Obj}, hp.get? b = some o → b ≠ dx := fun {b o} q => Nat.ne_of_lt (Nat.lt_of_lt_of_le (Heap.lt_size q) dn)
  have away : ∀ {b : Addr}, H b = none → b ≠ a := fun {b} n z => by rw [z, e] at n; cases n
  have U : Un X.fs [] H (upd (upd H dx (exd dx [(f, y)])) a (exo a C (some dx))) hp h' := {
    keep := fun b o q n _ _ => keep b o (away n) q
    slot := fun b o q n _ _ => ⟨o.slots, keep b o (away n) q⟩
    free := fun b o q n _ => by rw [upd_ne (away n), upd_ne (far q)]; exact n
    there := fun b o q _ => by
      by_cases hb : b = a
      · rw [hb]; exact ⟨_, hx⟩
      · exact ⟨o, keep b o hb q⟩
    tups := fun b xs q => by rw [upd_ne (at_ne e q exo_tup), upd_ne (ne_of_none q free)]; exact q
    frzs := fun b o v q => by rw [upd_ne (at_ne e q exo_frz), upd_ne (ne_of_none q free)]; exact q
    tbls := fun b ps q => ⟨#[], by rw [upd_ne (at_ne e q exo_tbl), upd_ne (ne_of_none q free), q]; simp⟩ }
  refine k dx _ free dne (I.un (t' := tk') U fun b o q => ?_)
  by_cases hb : b = a
  · subst hb
    rw [upd_same] at q
    cases q
    exact exo_ok hx
  rw [upd_ne hb] at q
  by_cases hd : b = dx
  · subst hd
    rw [upd_same] at q
    cases q
    exact exd_ok hn (relO_put (fs := []) ry fun g => True.intro)
  rw [upd_ne hd] at q
  refine (I.hok b o q).stay (fun c v hc z => keep c v ?_ z) (fun c hc => ?_) (fun c xs hc => ?_)
  · rcases hc with hc | hc
    · rw [hc]; exact hb
    · exact at_ne e hc exo_own
  · rw [upd_ne (at_ne e hc exo_own), upd_ne (ne_of_none hc free)]; exact hc
  · rw [upd_ne (at_ne e hc exo_tup), upd_ne (ne_of_none hc free)]; exact hc
end
/-- self.f = e in such a class's __init__ -/
def tOfS (K : PySem.W.Frag) (f : Str) (to te : TE) : TS := fun D σ H => te σ H fun y H1 => to σ H1 fun x H2 => ∃ a C : Addr, x = .ref a ∧ OofC K C ∧ PySem.W.findIn K (.ref C) f = some none ∧
  H2 a = some (exo a C none) ∧ ∀ dx, H2 dx = none → dx ≠ a → D.nx σ (upd (upd H2 dx (exd dx [(f, y)])) a (exo a C (some dx)))
section
variable {X : Cx} {CX : CXT} {x : Str} {C fI : Addr} {k : Nat} {fd : FuncData} {ps : List Str} {sp : Sp} {p p' pos : Pos} {o e : Expr} {es : List Expr} {ta : TA} {to te : TE} {f : Str}
theorem ps_ofS (ho : PE X o to) (he : PE X e te) (hs : swapsWith e (some (.Attribute o f p')) pos.line X.env = pure false := by rfl) : PS X (.Assign [.Attribute o f p'] e pos) (tOfS X.K f to te) := by
  constructor
  intro pins s σ H D I h
  refine plainObj_wpAny_Assign_Attribute (thn (he.run pins s σ H _ I h) fun v s1 z => ?_) hs
  obtain ⟨y, H1, I1, r1, q1⟩ := z
  refine thn (ho.run pins s1 σ H1 _ I1 q1) fun u s2 z => ?_
  obtain ⟨x, H2, I2, r2, a, C, ex, T, no, ea, q⟩ := z
  subst ex
  obtain rfl : u = Value.ref a := r2
  exact of_new T I2 ea no r1 fun dx s' n ne J => ⟨σ, _, J, q dx n ne⟩
theorem madeO {pins : List (Addr × Obj)} {σ : Sg} {H1 : Hp} {s : Shared} {Q : VK} {us : List Value} {vs : List V} (T : OofC X.K C) (iC : PySem.W.findIn X.K (.ref C) "__init__" = some (some (.ref fI))) (tI : PySem.W.typeIn X.K (.ref fI) = some (.type "function"))
    (F1 : FnOk X.prog X.w X.K X.mg X.base CX k fI fd ps sp) (hr : Room (k + 1) X.A) (hb : Binds X.K fd ps []) (hx : Passes CX X (fun _ _ _ => False)) (I1 : L2.Inv X pins σ H1 s) (r1 : Vals vs us) (hz : vs.length ≤ 1000)
    (q1 : ∀ a, H1 a = none → sp (.ref a :: vs) (upd H1 a (exo a C none)) (fun v H2 => v = .non ∧ ∃ (d : Addr) (fs : List (Str × V)), H2 a = some (exo a C (some d)) ∧ H2 d = some (exd d fs) ∧ Q (.ref a) (upd (upd H2 a (exq a C d)) d (.xd fs))) (fun _ _ _ => False)) :
    wpAny (model X.prog X.w) X.A (call (.ref C) us) (EP X pins σ Q) X.xe s := by
  obtain ⟨nm, q, N, bs, bm, sn, sub, ab, col, dd, k0, k1, k2, k3, k5, hC, hbm⟩ := T.cls
  obtain ⟨hp, g, dr, tk, os⟩ := s
  have nw : H1 (hp.objs.size + 1) = none := I1.hok.fresh (Nat.le_succ _)
  have want := q1 _ nw
  have keep2 : ∀ b o, hp.get? b = some o → ((hp.push (PySem.W.kdv_tup us)).push (PySem.HandSPX.excO C hp.objs.size)).get? b = some o := by
    intro b o e
    exact Heap.get?_push_of_some _ (Heap.get?_push_of_some _ e)
  have there : ((hp.push (PySem.W.kdv_tup us)).push (PySem.HandSPX.excO C hp.objs.size)).get? (hp.objs.size + 1) = some (PySem.HandSPX.excO C hp.objs.size) := by heap_get
  have I2 : L2.Inv X pins σ (upd H1 (hp.objs.size + 1) (exo (hp.objs.size + 1) C none)) ⟨(hp.push (PySem.W.kdv_tup us)).push (PySem.HandSPX.excO C hp.objs.size), g, dr, tk, os⟩ :=
    I1.laid (t' := tk) keep2 (Nat.le_succ _) (exo_ok there)
  have r2 : Vals (V.ref (hp.objs.size + 1) :: vs) (Value.ref (hp.objs.size + 1) :: us) := .cons rfl r1
  have cnt : (Value.ref (hp.objs.size + 1) :: us).length = ps.length := by rw [← r2.length]; exact F1.len _ _ _ _ want
  have few : us.length ≤ sizeLine := by
    have := Paired.length r1
    rw [sizeLine_eq]
    omega
  have bd := hb _ (Value.ref (hp.objs.size + 1) :: us) I2.kIn (by rw [List.append_nil]; exact cnt)
  rw [List.append_nil] at bd
  refine wpAny_call (PySem.HandSPX.call_own PySem.F.excBase_OverflowError (fun Y => PySem.W.excTail_contains Y bm hbm) (I1.kIn _ _ hC) (PySem.W.looks_findIn I1.kIn iC) (fun self => PySem.W.bind_fn I1.kIn self tI) few ?_)
  refine codeAny_mono (F1.run _ X.stack _ _ ⟨Value.ref (hp.objs.size + 1) :: us, []⟩ (Value.ref (hp.objs.size + 1) :: us) _ _ (fun _ _ _ => False) (hr.make C us []) (I2.env0.make C us []) bd r2 want) fun o s' z => ?_
  match o, z with
  | .error er, z => exact hx pins σ _ _ er s' I2 z
  | .ok .next, z => exact False.elim z
  | .ok .brk, z => exact False.elim z
  | .ok .cont, z => exact False.elim z
  | .ok (.ret u), z =>
    obtain ⟨v, H2, os2, bare2, un2, ok2, rv, ev, d, fs, ea, ed, qq⟩ := z
    subst ev
    refine ⟨rv, ?_⟩
    obtain ⟨h2, g2, d2, t2, os'⟩ := s'
    have os2' : os' = os := os2
    subst os2'
    have J : L2.Inv X pins σ H2 ⟨h2, g2, d2, t2, os'⟩ := I2.call (h' := h2) (g' := g2) (d' := d2) (t' := t2) (ch := []) un2 ok2 bare2 (fun b z => absurd z (by simp))
    obtain ⟨t0, hoe⟩ := exo_at J.hok ea
    obtain ⟨mA, hns, rel⟩ := exd_at J.hok ed
    have nd : d ≠ hp.objs.size + 1 := fun z => by
      obtain ⟨o, es', ep, e1, e2, _⟩ := hns
      rw [z] at e1
      have e3 := hoe.symm.trans e1
      cases e3
      cases e2
    have J2 := Inv.retell (o := exq (hp.objs.size + 1) C d) J ea True.intro (exq_ok hoe ⟨rfl, rfl⟩ rfl)
    have J3 := Inv.retell (o := .xd fs) (u := exd d fs) J2 (by rw [upd_ne nd]; exact ed) True.intro ⟨mA, hns, rel⟩
    exact ⟨.ref _, _, J3, rfl, qq⟩
theorem pe_mkO (T : OofC X.K C) (iC : PySem.W.findIn X.K (.ref C) "__init__" = some (some (.ref fI))) (tI : PySem.W.typeIn X.K (.ref fI) = some (.type "function"))
    (F1 : FnOk X.prog X.w X.K X.mg X.base CX k fI fd ps sp) (hr : Room (k + 1) X.A) (hb : Binds X.K fd ps []) (hx : Passes CX X (fun _ _ _ => False)) (hm : X.mg x = some (.ref C)) (ha : PA X (e :: es) ta) (hg : Gl X x := by rfl)
    (hdb : (x == ("__debug__" : Str)) = false := by decide) (he : starEach (e :: es) X.env = (false, eval e X.env) :: starEach es X.env := by rfl) (hpl : (backTo pos (starEach es X.env)).any (·.1) = false := by rfl) :
    PE X (.Call (.Name x p) (e :: es) [] pos) (tMkX C sp ta) := by
  constructor
  intro pins s σ H Q I h
  refine wpAny_Call_Name_kw (ld_glob I hg hm ?_ hdb)
  refine PySem.W.callWith_K (h₀ := X.base) I.ok.mod.kin T.kC (thn (ha.run pos pins s σ H _ I h) fun us s1 z => ?_) he hpl
  obtain ⟨vs, H1, I1, r1, hz, q1⟩ := z
  exact ⟨I1.kIn, madeO T iC tI F1 hr hb hx I1 r1 hz q1⟩
end
end TSx

/-! Own layer, part R: one step of a reading each, by name. -/
namespace TSx
open PySem L2
section
variable {σ : Sg} {H : Hp} {Q : VK} {ta tb : TE} {v : V} {i j : Int} {n : Nat}
theorem r_v (h : σ[n]? = some (some v)) (q : Q v H) : tVar n σ H Q := ⟨v, h, q⟩
theorem r_c (q : Q v H) : tC v σ H Q := q
theorem r_op {r : R2} (q : ta σ H fun x H1 => tb σ H1 fun y H2 => r x y H2 Q) : tOp r ta tb σ H Q := q
theorem r_I0 {g : Int → Int → V} (q : Q (g i j) H) : rI0 g (.int i) (.int j) H Q := ⟨i, j, rfl, rfl, q⟩
theorem r_cb {r : List V → Hp → VK → Prop} {t : TA} (q : t σ H fun vs H1 => r vs H1 Q) : tCB r t σ H Q := q
theorem r_nil {Q : List V → Hp → Prop} (q : Q [] H) : tNil σ H Q := q
theorem r_cons {Q : List V → Hp → Prop} {tr : TA} (q : ta σ H fun x H1 => tr σ H1 fun xs H2 => Q (x :: xs) H2) : tCons ta tr σ H Q := q
theorem r_seq {t u : TS} {D : Ends} (q : t { D with nx := u D } σ H) : tSeq t u D σ H := q
theorem r_next {D : Ends} (q : D.nx σ H) : tNext D σ H := q
theorem r_asg {D : Ends} {te : TE} {g : TG} (q : te σ H fun x H1 => g x σ H1 D.nx) : tAsg te g D σ H := q
theorem r_name {Q : Sg → Hp → Prop} (q : Q (σ.set n (some v)) H) : gName n v σ H Q := q
theorem r_ret {D : Ends} {te : TE} (q : te σ H D.rt) : tRet te D σ H := q
theorem r_drop {D : Ends} {te : TE} (q : te σ H fun _ H1 => D.nx σ H1) : tDrop te D σ H := q
theorem r_if {D : Ends} {c : TT} {t u : TS} (q : c σ H fun b H1 => if b = true then t D σ H1 else u D σ H1) : tIfS c t u D σ H := q
theorem r_test {Q : Bool → Hp → Prop} {te : TE} (q : te σ H fun x H' => ∃ k, x = .bl k ∧ Q k H') : tTest te σ H Q := q
theorem r_lst {t : TA} (q : t σ H fun xs H1 => xs.length ≤ sizeLine ∧ ∀ p, H1 p = none → Q (.ref p) (upd H1 p (.lst xs))) : tLst t σ H Q := q
theorem r_bl {b : Bool} {P : Bool → Prop} (q : P b) : ∃ k, V.bl b = .bl k ∧ P k := ⟨b, rfl, q⟩
theorem r_call {sp : Sp} {E : XK} {t : TA} (q : t σ H fun vs H1 => sp (vs ++ []) H1 Q E) : tCall sp [] E t σ H Q := q
end
theorem r_yes {σ : Sg} {H : Hp} {A B : Bool → Hp → Prop} (q : A true H) : tYes σ H (fun b H3 => if b = true then A b H3 else B b H3) := by
  show if true = true then A true H else B true H
  exact iteT q
theorem r_ixL {K : PySem.W.Frag} {p : Addr} {xs : List V} {i : Int} {v : V} {H : Hp} {Q : VK} (h : H p = some (.lst xs)) (a : atI xs i = some v) (q : Q v H) : rIxL K (.ref p) (.int i) H Q := ⟨p, xs, i, v, rfl, rfl, SqL.of h, a, q⟩
theorem r_setL {p : Addr} {xs : List V} {i : Int} {j : Nat} {v : V} {H : Hp} {Q : Hp → Prop} (h : H p = some (.lst xs)) (a : ixN xs.length i = some j) (q : Q (upd H p (.lst (xs.set j v)))) : rSetL (.ref p) (.int i) v H Q := ⟨p, xs, i, j, rfl, rfl, h, a, q⟩
theorem r_sub {to ti : TE} {t : TSet} {v : V} {σ : Sg} {H : Hp} {Q : Sg → Hp → Prop} (q : to σ H fun o H1 => ti σ H1 fun i H2 => t o i v H2 fun H3 => Q σ H3) : gSub to ti t v σ H Q := q
/-- int(i), i an int -/
def rInt : List V → Hp → VK → Prop := fun xs H Q => ∃ i, xs = [.int i] ∧ Q (.int i) H
theorem call_intI {X : Cx} : CallR X (.type "int") rInt := fun pins s σ H xs us Q I r h => by
  obtain ⟨i, e, q⟩ := h
  exact call_int1 pins s σ H xs us Q I r (Or.inl ⟨i, e, q⟩)
theorem r_int1 {H : Hp} {Q : VK} {i : Int} (q : Q (.int i) H) : rInt [.int i] H Q := ⟨i, rfl, q⟩
theorem r_mul {i j : Int} {g : Int → Int → V} {H : Hp} {Q : VK} (h : CMul i j) (q : Q (g i j) H) : rI CMul g (.int i) (.int j) H Q := ⟨i, j, rfl, rfl, h, q⟩
theorem r_div {i j : Int} {g : Int → Int → V} {H : Hp} {Q : VK} (h : CDiv i j) (q : Q (g i j) H) : rI CDiv g (.int i) (.int j) H Q := ⟨i, j, rfl, rfl, h, q⟩
theorem r_mod {i j : Int} {g : Int → Int → V} {H : Hp} {Q : VK} (h : 0 < j) (q : Q (g i j) H) : rI (fun _ j => 0 < j) g (.int i) (.int j) H Q := ⟨i, j, rfl, rfl, h, q⟩
theorem cmL {i j : Int} (h1 : -(2 ^ 64) < i) (h2 : i < 2 ^ 64) : CMul i j := Or.inl ⟨h1, h2⟩
theorem cmR {i j : Int} (h1 : -(2 ^ 64) < j) (h2 : j < 2 ^ 64) : CMul i j := Or.inr ⟨h1, h2⟩
theorem cdv {i j : Int} (h1 : 0 < j) (h2 : j < 1073741824) : CDiv i j := ⟨h1, h2⟩
theorem sz1 {n : Nat} (h : n ≤ 100000) : n ≤ sizeLine := Nat.le_trans h (by decide)
theorem sz2 {n : Nat} (h : n < 100000) : n < sizeLine := Nat.lt_of_lt_of_le h (by decide)
end TSx

/-! Own layer, part R2: the law's drawn state: a dict with two lists of ints and a count. -/
namespace TSx
open PySem L2
/-- 64 ints, each below the great number -/
structure Cells (cs : List Int) : Prop where
  len : cs.length = 64
  low : ∀ c ∈ cs, 0 ≤ c ∧ c < 2147483647
theorem Cells.set {cs : List Int} (h : Cells cs) (i : Nat) {x : Int} (h0 : 0 ≤ x) (h1 : x < 2147483647) : Cells (cs.set i x) := ⟨by rw [List.length_set]; exact h.len, fun c hc => by
  rcases List.mem_or_eq_of_mem_set hc with z | z
  · exact h.low c z
  · subst z; exact ⟨h0, h1⟩⟩
theorem map_set {cs : List Int} {i : Nat} {x : Int} : (cs.map V.int).set i (.int x) = (cs.set i x).map V.int := by rw [List.map_set]
theorem at_int {cs : List Int} {i : Nat} (h : i < cs.length) : ∃ c, c ∈ cs ∧ atI (cs.map V.int) (i : Int) = some (.int c) := by
  refine ⟨cs[i], List.getElem_mem h, atI_nat ?_⟩
  rw [List.getElem?_map, List.getElem?_eq_getElem h]
  rfl
theorem ixN_int {n i : Nat} (h : i < n) : ixN n (i : Int) = some i := by
  unfold ixN
  rw [if_pos (by omega), if_pos (by omega)]
  simp
theorem same_new {H : Hp} {p : Addr} {o : HO} (n : H p = none) : Same H (upd H p o) := gr_new n
theorem same_mut {H H' : Hp} {p : Addr} {o : HO} (s : Same H H') (n : H p = none) : Same H (upd H' p o) := fun b u e => by rw [upd_ne (ne_of_none e n)]; exact s b u e

def kvM (c g : Addr) (n : Int) : List (Key × V) := [(Sum.inr "cells", .ref c), (Sum.inr "great", .ref g), (Sum.inr "spot", .int n)]
theorem kvM_cells {c g : Addr} {n : Int} : valV (kvM c g n) (Sum.inr "cells") = some (.ref c) := by rfl
theorem kvM_great {c g : Addr} {n : Int} : valV (kvM c g n) (Sum.inr "great") = some (.ref g) := by rfl
theorem kvM_spot {c g : Addr} {n : Int} : valV (kvM c g n) (Sum.inr "spot") = some (.int n) := by rfl
theorem kvM_put {c g : Addr} {n k : Int} : putK (kvM c g n) (Sum.inr "spot") (.int k) = kvM c g k := by rfl
/-- at m the law's state: r draws may come yet -/
structure MAt (m c g : Addr) (H : Hp) (r : Nat) : Prop where
  ex : ∃ (n : Nat) (cs gs : List Int), H m = some (.dK (kvM c g n)) ∧ H c = some (.lst (cs.map V.int)) ∧ H g = some (.lst (gs.map V.int)) ∧ Cells cs ∧ gs.length ≤ 63 ∧ n + r ≤ 536870912
  ne : c ≠ g
/-- all but m and g stays -/
def Kp (m g : Addr) (H H' : Hp) : Prop := ∀ b o, b ≠ m → b ≠ g → H b = some o → H' b = some o
theorem Kp.rf {m g : Addr} {H : Hp} : Kp m g H H := fun _ _ _ _ e => e
theorem Kp.tr {m g : Addr} {H H1 H2 : Hp} (a : Kp m g H H1) (b : Kp m g H1 H2) : Kp m g H H2 := fun x o h1 h2 e => b x o h1 h2 (a x o h1 h2 e)
theorem Kp.of {m g : Addr} {H H' : Hp} (a : Same H H') : Kp m g H H' := fun b o _ _ e => a b o e
theorem MAt.same {m c g : Addr} {H H' : Hp} {r : Nat} (h : MAt m c g H r) (s : Same H H') : MAt m c g H' r := by
  obtain ⟨⟨n, cs, gs, h1, h2, h3, h4⟩, ne⟩ := h
  exact ⟨⟨n, cs, gs, s _ _ h1, s _ _ h2, s _ _ h3, h4⟩, ne⟩
theorem MAt.less {m c g : Addr} {H : Hp} {r q : Nat} (h : MAt m c g H r) (l : q ≤ r) : MAt m c g H q := by
  obtain ⟨⟨n, cs, gs, h1, h2, h3, h4, h5, h6⟩, ne⟩ := h
  exact ⟨⟨n, cs, gs, h1, h2, h3, h4, h5, by omega⟩, ne⟩
theorem r_dget {td ty : TE} {σ : Sg} {H : Hp} {Q : VK} (q : td σ H fun x H1 => ty σ H1 fun y H2 => ∃ a v, x = .ref a ∧ DGet H2 a y (some v) ∧ Q v H2) : tDGet td ty σ H Q := q
theorem r_dput {td ty tv : TE} {D : Ends} {σ : Sg} {H : Hp} (q : tv σ H fun v H1 => td σ H1 fun x H2 => ty σ H2 fun y H3 => ∃ a H4, x = .ref a ∧ DPut H3 a y v H4 ∧ D.nx σ H4) : sDPut td ty tv D σ H := q
theorem r_ifT {A B : Prop} {b : Bool} (h : b = true) (q : A) : if b = true then A else B := by rw [if_pos h]; exact q
theorem r_ifF {A B : Prop} {b : Bool} (h : b = false) (q : B) : if b = true then A else B := by rw [h]; exact iteF q
theorem dg_cells {m c g : Addr} {n : Int} {H : Hp} (h : H m = some (.dK (kvM c g n))) : DGet H m (.str "cells") (some (.ref c)) := by rw [← kvM_cells (c := c) (g := g) (n := n)]; exact DGet.k (k := Sum.inr "cells") h
theorem dg_great {m c g : Addr} {n : Int} {H : Hp} (h : H m = some (.dK (kvM c g n))) : DGet H m (.str "great") (some (.ref g)) := by rw [← kvM_great (c := c) (g := g) (n := n)]; exact DGet.k (k := Sum.inr "great") h
theorem dg_spot {m c g : Addr} {n : Int} {H : Hp} (h : H m = some (.dK (kvM c g n))) : DGet H m (.str "spot") (some (.int n)) := by rw [← kvM_spot (c := c) (g := g) (n := n)]; exact DGet.k (k := Sum.inr "spot") h
theorem dp_spot {m c g : Addr} {n k : Int} {H : Hp} (h : H m = some (.dK (kvM c g n))) : DPut H m (.str "spot") (.int k) (upd H m (.dK (kvM c g k))) := by
  rw [← kvM_put (c := c) (g := g) (n := n) (k := k)]
  exact DPut.k (k := Sum.inr "spot") h (show 3 < sizeLine by decide)
/-- a draw below a limit -/
def spDraw : Sp := fun vs H Q _ => ∃ (m c g : Addr) (r : Nat) (limit : Int), vs = [.ref m, .int limit] ∧ 0 < limit ∧ limit < 1073741824 ∧ MAt m c g H (r + 1) ∧
  ∀ (v : Int) (H' : Hp), 0 ≤ v → v < limit → MAt m c g H' r → Kp m g H H' → Q (.int v) H'
def spMixed : Sp := fun vs H Q _ => ∃ c n : Int, vs = [.int c, .int n] ∧ 0 ≤ c ∧ c < 2 ^ 40 ∧ 0 ≤ n ∧ n < 2 ^ 30 ∧ ∀ v : Int, 0 ≤ v → v < 2 ^ 31 → Q (.int v) H
def spFolded (K : PySem.W.Frag) : Sp := fun vs H Q _ => ∃ (a : Addr) (ns : List Int), vs = [.ref a] ∧ SqL K H a (ns.map V.int) ∧ ns.length ≤ 63 ∧
  ∀ (H' : Hp) (p : Addr) (cs : List Int), H p = none → Same H H' → Cells cs → H' p = some (.lst (cs.map V.int)) → Q (.ref p) H'
def spBegun (K : PySem.W.Frag) : Sp := fun vs H Q _ => ∃ (a : Addr) (ns : List Int), vs = [.ref a] ∧ SqL K H a (ns.map V.int) ∧ ns.length ≤ 63 ∧
  ∀ (H' : Hp) (m c g : Addr), Same H H' → H m = none → H c = none → H g = none → MAt m c g H' 536870912 → Q (.ref m) H'
/-- names of the built-ins that the prelude calls, none of them stored over -/
structure Blt (mg : Str → Option Value) : Prop where
  int : mg "int" = none
  len : mg "len" = none
  range : mg "range" = none
  enumerate : mg "enumerate" = none
  repr : mg "repr" = none
  isinstance : mg "isinstance" = none
  list : mg "list" = none
/-- what == finds of a list of ints and the empty one -/
theorem eqv_nil (gs : List Int) : PyData.eqv (.list (pyA (gs.map D.int))) (.list []) = gs.isEmpty := by
  cases gs with
  | nil => rfl
  | cons a l => rfl
theorem dts {K : PySem.W.Frag} {H : Hp} : ∀ gs : List Int, DtA K H (gs.map V.int) (gs.map D.int)
  | [] => .nil
  | n :: l => .cons (.int n) (dts l)
theorem pl_ints : ∀ gs : List Int, plA (gs.map D.int) = true
  | [] => rfl
  | n :: l => pl_ints l
mutual
theorem lay_pl : ∀ d : D, d.pl = true → d.py.canLay0 = true
  | .non, _ => rfl
  | .bl _, _ => rfl
  | .int _, _ => rfl
  | .str _, h => h
  | .lst xs, h => layA_pl xs h
  | .tup xs, h => layA_pl xs h
  | .dic _, h => by cases h
  | .exc _ _, h => by cases h
  | .ob _, h => by cases h
  | .frd _, h => by cases h
  | .tpb _, h => by cases h
  | .frn _ _, h => by cases h
  | .fnv _ _ _ _ _ _, h => by cases h
theorem layA_pl : ∀ d : List D, plA d = true → PyData.canLayAll0 (pyA d) = true
  | [], _ => rfl
  | x :: xs, h => by
    simp only [plA, Bool.and_eq_true] at h
    show (x.py.canLay0 && PyData.canLayAll0 (pyA xs)) = true
    rw [lay_pl x h.1, layA_pl xs h.2]; rfl
end
theorem shaped_pl (d : D) (h : d.pl = true) (z : d.py.depth ≤ 64) : SeqAt.shaped d.py = true := by
  unfold SeqAt.shaped
  rw [lay_pl d h, decide_eq_true z]
  rfl
theorem depth_ints : ∀ gs : List Int, (D.lst (gs.map D.int)).py.depth ≤ 64 := fun gs => by
  have h : ∀ gs : List Int, PyData.depthAll (pyA (gs.map D.int)) = 0 := fun gs => by
    induction gs with
    | nil => rfl
    | cons a l ih => show max 0 (PyData.depthAll (pyA (l.map D.int))) = 0; rw [ih]; rfl
  show PyData.depthAll (pyA (gs.map D.int)) + 1 ≤ 64
  rw [h gs]
  decide
theorem r_neD {K : PySem.W.Frag} {H : Hp} {x y : V} {d e : D} {Q : VK} (hx : Dt K H x d) (hy : Dt K H y e) (px : d.pl = true) (py : e.pl = true) (zx : d.py.depth ≤ 64) (zy : e.py.depth ≤ 64) (q : Q (.bl (!PyData.eqv d.py e.py)) H) : rNeD K x y H Q :=
  ⟨_, _, hx.dp px, hy.dp py, shaped_pl d px zx, shaped_pl e py zy, q⟩
theorem r_eqD {K : PySem.W.Frag} {H : Hp} {x y : V} {d e : D} {Q : VK} (hx : Dt K H x d) (hy : Dt K H y e) (px : d.pl = true) (py : e.pl = true) (zx : d.py.depth ≤ 64) (zy : e.py.depth ≤ 64) (q : Q (.bl (PyData.eqv d.py e.py)) H) : rEqD K x y H Q :=
  ⟨_, _, hx.dp px, hy.dp py, shaped_pl d px zx, shaped_pl e py zy, q⟩
end TSx

/-! Own layer, part R3: what makes which data, the heap only growing. -/
namespace TSx
open PySem L2
def Mk (K : PySem.W.Frag) (te : TE) (σ : Sg) (H : Hp) (d : D) : Prop := ∀ H1, Same H H1 → ∀ Q : VK, (∀ v H2, Same H1 H2 → Dt K H2 v d → Q v H2) → te σ H1 Q
def MkA (K : PySem.W.Frag) (ta : TA) (σ : Sg) (H : Hp) (ds : List D) : Prop := ∀ H1, Same H H1 → ∀ Q : List V → Hp → Prop, (∀ vs H2, Same H1 H2 → DtA K H2 vs ds → Q vs H2) → ta σ H1 Q
section
variable {K : PySem.W.Frag} {σ : Sg} {H : Hp} {te ta tb : TE} {t : TA} {d : D} {ds es : List D}
theorem Mk.mono {H' : Hp} (h : Mk K te σ H d) (s : Same H H') : Mk K te σ H' d := fun H1 s1 => h H1 (s.trans s1)
theorem mk_non : Mk K (tC .non) σ H .non := fun H1 _ Q q => q _ H1 Gr.rfl' .non
theorem mk_int {i : Int} : Mk K (tC (.int i)) σ H (.int i) := fun H1 _ Q q => q _ H1 Gr.rfl' (.int i)
theorem mk_str {x : Str} : Mk K (tC (.str x)) σ H (.str x) := fun H1 _ Q q => q _ H1 Gr.rfl' (.str x)
theorem mk_bl {b : Bool} : Mk K (tC (.bl b)) σ H (.bl b) := fun H1 _ Q q => q _ H1 Gr.rfl' (.bl b)
theorem mk_neg {i : Int} (h : Mk K ta σ H (.int i)) : Mk K (tUn (rU fun i => .int (-i)) ta) σ H (.int (-i)) := fun H1 s Q q => h H1 s _ fun v H2 s2 a => by
  cases a
  exact ⟨i, rfl, q _ H2 s2 (.int _)⟩
theorem mka_nil : MkA K tNil σ H [] := fun H1 _ Q q => q _ H1 Gr.rfl' .nil
theorem mka_cons (h : Mk K ta σ H d) (r : MkA K t σ H ds) : MkA K (tCons ta t) σ H (d :: ds) := fun H1 s Q q => h H1 s _ fun v H2 s2 a => r H2 (s.trans s2) _ fun vs H3 s3 b => q _ H3 (s2.trans s3) (.cons (a.gr s3) b)
theorem mk_tup (h : MkA K t σ H ds) (z : ds.length ≤ 100000) : Mk K (tTup t) σ H (.tup ds) := fun H1 s Q q => h H1 s _ fun vs H2 s2 a => by
  refine ⟨by rw [a.len]; exact sz1 z, fun p np => ?_⟩
  exact q _ _ (s2.trans (same_new np)) (.tup (SqT.of upd_same) (a.gr (same_new np)))
theorem mk_lst (h : MkA K t σ H ds) (z : ds.length ≤ 100000) : Mk K (tLst t) σ H (.lst ds) := fun H1 s Q q => h H1 s _ fun vs H2 s2 a => by
  refine ⟨by rw [a.len]; exact sz1 z, fun p np => ?_⟩
  exact q _ _ (s2.trans (same_new np)) (.lst upd_same (a.gr (same_new np)))
theorem mk_dic : Mk K tDNewK σ H (.dic []) := fun H1 s Q q p np => q _ _ (same_new np) (.dic upd_same .nil)
end
end TSx

/-! Own layer, part R4: exceptions among the data; what is known of a def and of a class. -/
namespace TSx
open PySem L2
/-- an own __init__ with one field -/
def spIni (C : Addr) (f : Str) : Sp := fun vs H Q _ => ∃ (a : Addr) (x : V), vs = [.ref a, x] ∧ H a = some (exo a C none) ∧ ∀ d, H d = none → d ≠ a → Q .non (upd (upd H d (exd d [(f, x)])) a (exo a C (some d)))
/-- an own exception class of the text, its one field -/
structure Xc (P : Program) (w : World) (K : PySem.W.Frag) (mg : Str → Option Value) (base : Heap) (nm fld : Str) (C fI : Addr) (fd : FuncData) : Prop where
  o : OexC K C
  a : ExcC K C
  iC : PySem.W.findIn K (.ref C) "__init__" = some (some (.ref fI))
  tI : PySem.W.typeIn K (.ref fI) = some (.type "function")
  F : FnOk P w K mg base CX0 1 fI fd ["self", fld] (spIni C fld)
  b : Binds K fd ["self", fld] []
  kw : KwB fd ["self", fld] [fld] id id
  g : mg nm = some (.ref C)
  no : PySem.W.findIn K (.ref C) fld = some none
/-- a def that is ready to be called -/
structure Dok (P : Program) (w : World) (K : PySem.W.Frag) (mg : Str → Option Value) (base : Heap) (k : Nat) (nm : Str) (ps : List Str) (sp : Sp) (f : Addr) (fd : FuncData) : Prop where
  G : FnOk P w K mg base CX0 k f fd ps sp
  g : mg nm = some (.ref f)
  k : PySem.W.keepIn K (.ref f) = true
  b : Binds K fd ps []
structure DoX (P : Program) (w : World) (K : PySem.W.Frag) (mg : Str → Option Value) (base : Heap) (k : Nat) (nm : Str) (ps : List Str) (sp : Sp) (f : Addr) (fd : FuncData) : Prop where
  G : FnOk P w K mg base (L2.CX P w) k f fd ps sp
  g : mg nm = some (.ref f)
  k : PySem.W.keepIn K (.ref f) = true
  b : Binds K fd ps []
structure DoG (P : Program) (w : World) (K : PySem.W.Frag) (mg : Str → Option Value) (base : Heap) (k : Nat) (nm : Str) (ps : List Str) (sp : Sp) (f : Addr) (fd : FuncData) : Prop where
  G : FnG P w K mg base CX0 k f fd ps sp
  g : mg nm = some (.ref f)
  k : PySem.W.keepIn K (.ref f) = true
  b : Binds K fd ps []
section
variable {K : PySem.W.Frag} {σ : Sg} {H : Hp} {te ta tb : TE} {t : TA} {d : D} {ds es : List D} {C : Addr} {f : Str}
/-- the heap behind a made exception -/
theorem made_gr {H1 : Hp} {a dd : Addr} {x : V} (na : H1 a = none) (nd : (upd H1 a (exo a C none)) dd = none) (ne : dd ≠ a) :
    Same H1 (upd (upd (upd (upd (upd H1 a (exo a C none)) dd (exd dd [(f, x)])) a (exo a C (some dd))) a (exq a C dd)) dd (.xd [(f, x)])) := fun b o e => by
  have hb : b ≠ a := ne_of_none e na
  have hd : b ≠ dd := fun z => by rw [z] at e; rw [upd_ne ne, e] at nd; cases nd
  rw [upd_ne hd, upd_ne hb, upd_ne hb, upd_ne hd, upd_ne hb]
  exact e
end
/-- a class (or a def) of the text, by its name -/
theorem pe_cls {X : Cx} {x : Str} {C : Addr} {pos : Pos} (hg : Gl X x) (hm : X.mg x = some (.ref C)) (hd : (x == ("__debug__" : Str)) = false := by decide) : PE X (.Name x pos) (tC (.ref C)) := pe_glob hg hm rfl hd
/-- a thing without parts -/
def D.sc : D → Bool
  | .non => true
  | .bl _ => true
  | .int _ => true
  | .str _ => true
  | _ => false
theorem Dt.any {K : PySem.W.Frag} {H H' : Hp} {v : V} {d : D} (h : Dt K H v d) (s : d.sc = true) : Dt K H' v d := by
  cases h with
  | non => exact .non
  | bl b => exact .bl b
  | int i => exact .int i
  | str x => exact .str x
  | lst _ _ => cases s
  | tup _ _ => cases s
  | dic _ _ => cases s
  | exc _ _ _ => cases s
  | ob _ => cases s
  | frd _ => cases s
  | tpb _ => cases s
  | frn _ _ => cases s
  | fnv _ _ _ _ => cases s
theorem DtA.any {K : PySem.W.Frag} {H H' : Hp} : ∀ {v : List V} {d : List D}, DtA K H v d → (∀ x ∈ d, x.sc = true) → DtA K H' v d
  | _, _, .nil, _ => .nil
  | _, _, .cons a b, h => .cons (a.any (h _ (List.mem_cons_self ..))) (b.any fun x hx => h x (List.mem_cons_of_mem _ hx))
theorem ini_reading {K : PySem.W.Frag} {C : Addr} {f : Str} {H : Hp} {Q : VK} {vs : List V} {E : XK} (T : OexC K C) (no : PySem.W.findIn K (.ref C) f = some none) (h : spIni C f vs H Q E) :
    tOst K f (tVar 0) (tVar 1) { nx := fun _ H' => Q .non H', rt := Q } (L2.start ["self", f] vs) H := by
  obtain ⟨a, x, rfl, e, k⟩ := h
  exact ⟨x, rfl, .ref a, rfl, a, C, rfl, T, no, Or.inl ⟨e, fun d n ne => k d n ne⟩⟩
end TSx

/-! Own layer, part R5: data that stand apart from some addresses. -/
namespace TSx
open PySem L2
/-- the heap without the addresses of B -/
def wo (B : Addr → Bool) (H : Hp) : Hp := fun b => if B b = true then none else H b
def dom (H : Hp) : Addr → Bool := fun b => (H b).isSome
theorem wo_le {B : Addr → Bool} {H : Hp} : Same (wo B H) H := fun b o e => by
  unfold wo at e
  by_cases h : B b = true
  · rw [if_pos h] at e; cases e
  · rw [if_neg h] at e; exact e
theorem wo_at {B : Addr → Bool} {H : Hp} {b : Addr} (h : B b = false) : wo B H b = H b := by
  unfold wo
  rw [h]
  rfl
theorem wo_same {B : Addr → Bool} {H H' : Hp} (s : Same H H') : Same (wo B H) (wo B H') := fun b o e => by
  unfold wo at e ⊢
  by_cases h : B b = true
  · rw [if_pos h] at e; cases e
  · rw [if_neg h] at e ⊢; exact s b o e
theorem wo_kp {B : Addr → Bool} {H H' : Hp} {m g : Addr} (s : Kp m g H H') (hm : B m = true) (hg : B g = true) : Same (wo B H) (wo B H') := fun b o e => by
  unfold wo at e ⊢
  by_cases h : B b = true
  · rw [if_pos h] at e; cases e
  · rw [if_neg h] at e ⊢
    exact s b o (fun z => h (by rw [z]; exact hm)) (fun z => h (by rw [z]; exact hg)) e
theorem dom_no {H : Hp} {b : Addr} (h : H b = none) : dom H b = false := by unfold dom; rw [h]; rfl
/-- te makes the data d, apart from B -/
def MkB (K : PySem.W.Frag) (B : Addr → Bool) (te : TE) (σ : Sg) (H : Hp) (d : D) : Prop := ∀ H1, Same H H1 → ∀ Q : VK, (∀ v H2, Same H1 H2 → Dt K (wo B H2) v d → Q v H2) → te σ H1 Q
def MkBA (K : PySem.W.Frag) (B : Addr → Bool) (ta : TA) (σ : Sg) (H : Hp) (ds : List D) : Prop := ∀ H1, Same H H1 → ∀ Q : List V → Hp → Prop, (∀ vs H2, Same H1 H2 → DtA K (wo B H2) vs ds → Q vs H2) → ta σ H1 Q
section
variable {K : PySem.W.Frag} {B : Addr → Bool} {σ : Sg} {H : Hp} {te ta tb : TE} {t : TA} {d : D} {ds es : List D}
theorem kb_non : MkB K B (tC .non) σ H .non := fun H1 _ Q q => q _ H1 Gr.rfl' .non
theorem kb_int {i : Int} : MkB K B (tC (.int i)) σ H (.int i) := fun H1 _ Q q => q _ H1 Gr.rfl' (.int i)
theorem kb_str {x : Str} : MkB K B (tC (.str x)) σ H (.str x) := fun H1 _ Q q => q _ H1 Gr.rfl' (.str x)
theorem kb_bl {b : Bool} : MkB K B (tC (.bl b)) σ H (.bl b) := fun H1 _ Q q => q _ H1 Gr.rfl' (.bl b)
theorem kb_var {n : Nat} {v : V} (h : σ[n]? = some (some v)) (a : Dt K (wo B H) v d) : MkB K B (tVar n) σ H d := fun H1 s Q q => ⟨v, h, q v H1 Gr.rfl' (a.gr (wo_same s))⟩
theorem kb_neg {i : Int} (h : MkB K B ta σ H (.int i)) : MkB K B (tUn (rU fun i => .int (-i)) ta) σ H (.int (-i)) := fun H1 s Q q => h H1 s _ fun v H2 s2 a => by
  cases a
  exact ⟨i, rfl, q _ H2 s2 (.int _)⟩
theorem kb_I {i j : Int} {C : Int → Int → Prop} {g : Int → Int → Int} (h : MkB K B ta σ H (.int i)) (h2 : MkB K B tb σ H (.int j)) (c : C i j) : MkB K B (tOp (rI C fun i j => .int (g i j)) ta tb) σ H (.int (g i j)) := fun H1 s Q q => h H1 s _ fun v H2 s2 a => h2 H2 (s.trans s2) _ fun u H3 s3 b => by
  cases a
  cases b
  exact ⟨i, j, rfl, rfl, c, q _ H3 (s2.trans s3) (.int _)⟩
theorem kba_nil : MkBA K B tNil σ H [] := fun H1 _ Q q => q _ H1 Gr.rfl' .nil
theorem kba_cons (h : MkB K B ta σ H d) (r : MkBA K B t σ H ds) : MkBA K B (tCons ta t) σ H (d :: ds) := fun H1 s Q q => h H1 s _ fun v H2 s2 a => r H2 (s.trans s2) _ fun vs H3 s3 b => q _ H3 (s2.trans s3) (.cons (a.gr (wo_same s3)) b)
/-- a free place is none of B's, where B's are all taken -/
theorem apart {H1 : Hp} {p : Addr} (hB : ∀ b, B b = true → H b ≠ none) (s : Same H H1) (n : H1 p = none) : B p = false := by
  cases e : B p with
  | false => rfl
  | true => exact absurd (gr_none s n) (hB p e)
theorem kb_tup (hB : ∀ b, B b = true → H b ≠ none) (h : MkBA K B t σ H ds) (z : ds.length ≤ 100000) : MkB K B (tTup t) σ H (.tup ds) := fun H1 s Q q => h H1 s _ fun vs H2 s2 a => by
  refine ⟨by rw [a.len]; exact sz1 z, fun p np => ?_⟩
  refine q _ _ (s2.trans (same_new np)) (.tup (SqT.of ?_) (a.gr (wo_same (same_new np))))
  rw [wo_at (apart hB (s.trans s2) np), upd_same]
theorem kb_lst (hB : ∀ b, B b = true → H b ≠ none) (h : MkBA K B t σ H ds) (z : ds.length ≤ 100000) : MkB K B (tLst t) σ H (.lst ds) := fun H1 s Q q => h H1 s _ fun vs H2 s2 a => by
  refine ⟨by rw [a.len]; exact sz1 z, fun p np => ?_⟩
  refine q _ _ (s2.trans (same_new np)) (.lst ?_ (a.gr (wo_same (same_new np))))
  rw [wo_at (apart hB (s.trans s2) np), upd_same]
theorem kb_dic (hB : ∀ b, B b = true → H b ≠ none) : MkB K B tDNewK σ H (.dic []) := fun H1 s Q q p np => q _ _ (same_new np) (.dic (by rw [wo_at (apart hB s np), upd_same]) .nil)
theorem kb_cat (hB : ∀ b, B b = true → H b ≠ none) (h : MkB K B ta σ H (.lst ds)) (h2 : MkB K B tb σ H (.lst es)) (z : ds.length + es.length ≤ 100000) : MkB K B (tOp rCat ta tb) σ H (.lst (ds ++ es)) := fun H1 s Q q => h H1 s _ fun v H2 s2 a => h2 H2 (s.trans s2) _ fun u H3 s3 b => by
  cases a with
  | @lst p xs ds ea aa =>
    cases b with
    | @lst r ys es eb bb =>
      refine ⟨p, r, xs, ys, rfl, rfl, s3 _ _ (wo_le _ _ ea), wo_le _ _ eb, by rw [aa.len, bb.len]; exact sz1 z, fun w nw => ?_⟩
      refine q _ _ ((s2.trans s3).trans (same_new nw)) (.lst ?_ (((aa.gr (wo_same s3)).app bb).gr (wo_same (same_new nw))))
      rw [wo_at (apart hB ((s.trans s2).trans s3) nw), upd_same]
end
end TSx

/-! Own layer, part R6: classes over OverflowError, two fields, lists times a number, a list's place, a comprehension over pairs. -/
namespace TSx
open PySem L2
structure Xo (P : Program) (w : World) (K : PySem.W.Frag) (mg : Str → Option Value) (base : Heap) (nm fld : Str) (C fI : Addr) (fd : FuncData) : Prop where
  o : OofC K C
  a : ExcC K C
  iC : PySem.W.findIn K (.ref C) "__init__" = some (some (.ref fI))
  tI : PySem.W.typeIn K (.ref fI) = some (.type "function")
  F : FnOk P w K mg base CX0 1 fI fd ["self", fld] (spIni C fld)
  b : Binds K fd ["self", fld] []
  g : mg nm = some (.ref C)
  no : PySem.W.findIn K (.ref C) fld = some none
section
variable {K : PySem.W.Frag} {σ : Sg} {H : Hp} {te ta tb : TE} {t : TA} {d d1 d2 : D} {ds es : List D} {C : Addr} {f g : Str}
theorem ofi_reading {Q : VK} {vs : List V} {E : XK} (T : OofC K C) (no : PySem.W.findIn K (.ref C) f = some none) (h : spIni C f vs H Q E) :
    tOfS K f (tVar 0) (tVar 1) { nx := fun _ H' => Q .non H', rt := Q } (L2.start ["self", f] vs) H := by
  obtain ⟨a, x, rfl, e, k⟩ := h
  exact ⟨x, rfl, .ref a, rfl, a, C, rfl, T, no, e, fun d n ne => k d n ne⟩
theorem DtA.rep {vs : List V} (h : DtA K H vs ds) : ∀ n : Nat, DtA K H (List.replicate n vs).flatten (List.replicate n ds).flatten
  | 0 => .nil
  | n + 1 => by
    rw [List.replicate_succ, List.replicate_succ, List.flatten_cons, List.flatten_cons]
    exact h.app (DtA.rep h n)
theorem DtA.nth {vs : List V} {i : Nat} {y : D} (h : DtA K H vs ds) (e : ds[i]? = some y) : ∃ x, vs[i]? = some x ∧ Dt K H x y := by
  induction ds generalizing vs i with
  | nil => simp at e
  | cons z l ih =>
    cases h with
    | @cons v ws _ _ a b =>
    cases i with
    | zero => simp at e; subst e; exact ⟨v, rfl, a⟩
    | succ i =>
      obtain ⟨x, h1, h2⟩ := ih b (by simpa using e)
      exact ⟨x, by simpa using h1, h2⟩
end
end TSx

/-! Own layer, part Z1: zip of a tuple and a text, enumerate of a tuple, lcm. -/
namespace TSx
open PySem L2 PySem.Spec PyProof.Rows
/-! ### enumerate(tuple) -/
def IteT (K : PySem.W.Frag) (a : Addr) : It :=
  ⟨fun i H => ∃ (xs : List V) (x : V), SqT K H a xs ∧ xs[i]? = some x, fun i H v H' => ∃ (T : Addr) (x : V), v = .ref T ∧ H T = none ∧ H' = upd H T (.tup [.int (i : Nat), x]) ∧ ∀ xs, SqT K H a xs → xs[i]? = some x, fun i H => ∃ xs : List V, SqT K H a xs ∧ i = xs.length⟩
theorem turn_enumT {P : Program} {w : World} {K : PySem.W.Frag} {elts : List Expr} {kk : Nat} {tpos : Pos} (a e it : Addr) :
    Turn P w K (.Tuple elts kk tpos) (IteT K a) [e, it] e (fun i h => (∃ old, IsEnum h e it ((i : Nat) : Int) old) ∧ h.IsTupleIter it a i ∧ e ≠ it) where
  mem := by simp
  obj := fun i h st b hb => by
    obtain ⟨⟨old, he⟩, ⟨o, ho, hc, hd⟩, _⟩ := st
    have e' : b = e ∨ b = it := by simpa using hb
    rcases e' with z | z
    · rw [z]; exact ⟨_, he, fun v q => nomatch q⟩
    · rw [z]; exact ⟨o, ho, fun v q => by rw [hd] at q; cases q⟩
  keep := fun i h h' st k => by
    obtain ⟨⟨old, he⟩, ⟨o, ho, r⟩, hne⟩ := st
    exact ⟨⟨old, k e (by simp) _ he⟩, ⟨o, k it (by simp) _ ho, r⟩, hne⟩
  item := by
    intro X hP hw hK hc i pins s σ H E I hf st hg
    subst hP hw hK
    obtain ⟨⟨old, he⟩, hit, hne⟩ := st
    obtain ⟨xs, x, hq, hx⟩ := hg
    obtain ⟨its, rv, pt, _⟩ := I.tuple hq
    obtain ⟨u, hu, ru⟩ := rv.get hx
    have ne1 : a ≠ it := fun e => by
      obtain ⟨o, ho, hcl, _⟩ := pt
      obtain ⟨o1, e1, c1, _⟩ := hit
      rw [e] at ho
      rw [e1] at ho
      cases ho
      rw [hcl] at c1
      exact absurd (Value.type.inj c1) (by decide)
    have nea : e ≠ a := fun z => by
      obtain ⟨o, ho, hcl, _⟩ := pt
      rw [← z] at ho
      have he' : s.heap.get? e = some _ := he
      rw [he'] at ho
      cases ho
      exact absurd (Value.type.inj hcl) (by decide)
    have hel : e < s.heap.objs.size := Heap.lt_size he
    have hil : it < s.heap.objs.size := by obtain ⟨_, q, _⟩ := hit; exact Heap.lt_size q
    have D1 := Draws.tuple (prog := X.prog) (w := X.w) (A := X.A.in1) (I.ok.hd hc) it a ne1 its.toArray
    have l1 : i < its.toArray.size := by
      have : i < its.length := (List.getElem?_eq_some_iff.mp (by simpa using hu)).1
      simpa using this
    refine wpAny_pyNext_enum_itemD D1 he ⟨hit, pt⟩ l1 hne (by simp [hne, nea]) fun x1 h' tk y1 ho hit' hT hsz hk => ?_
    have e1 : x1 = u := by
      have hu' : its.toArray[i]? = some u := by simpa using hu
      rw [hu'] at y1
      exact (Option.some.inj y1).symm
    subst e1
    refine ⟨_, rfl, wpAny_letOwnedTupleGo_enum (s := { s with heap := h', toks := tk + 1 }) ho fun h'' he' sb => ?_⟩
    have T2 : h''.get? s.heap.objs.size = some { cls := .type "tuple", data := .seq #[.int i tk, x1] } := (sb.2 _ (Nat.ne_of_gt hel)).trans hT
    have new : ObjOk X.prog X.w (upd H s.heap.objs.size (.tup [.int (i : Nat), x])) h'' s.heap.objs.size (.tup [.int (i : Nat), x]) :=
      ⟨by show 2 ≤ sizeLine; decide, [.int i tk, x1], .cons ⟨_, rfl⟩ (.cons ru .nil), ⟨_, T2, rfl, _, rfl⟩⟩
    have I1 : Inv X pins σ (upd H s.heap.objs.size (.tup [.int (i : Nat), x])) { s with heap := h'', toks := tk + 1 } :=
      I.turnedNew (ch := [e, it]) (fun b ob hb q => (sb.2 b (fun z => hb (by simp [z]))).trans (hk b ob (fun z => hb (by simp [z])) (fun z => hb (by simp [z])) q)) hf (Nat.le_refl _) new
    refine ⟨.ref s.heap.objs.size, _, I1, rfl, ⟨_, x, rfl, I.hok.fresh (Nat.le_refl _), rfl, fun ys hy => by rw [I.tuple_inj hy hq]; exact hx⟩, ⟨⟨x1, ?_⟩, ?_, hne⟩, fun b hb => ?_⟩
    · have e1 : ((i + 1 : Nat) : Int) = (i : Int) + 1 := by omega
      rw [e1]; exact he'
    · obtain ⟨⟨o, q, r⟩, _⟩ := hit'
      exact ⟨o, (sb.2 it (Ne.symm hne)).trans q, r⟩
    · have lt : b < s.heap.objs.size := by
        have e' : b = e ∨ b = it := by simpa using hb
        rcases e' with z | z <;> rw [z] <;> assumption
      rw [upd_ne (Nat.ne_of_lt lt)]
      exact (hf b hb).1
  done := by
    intro X hP hw hK hc i pins s σ H E I hf st hg
    subst hP hw hK
    obtain ⟨⟨old, he⟩, hit, hne⟩ := st
    obtain ⟨xs, hq, hx⟩ := hg
    obtain ⟨its, rv, pt, _⟩ := I.tuple hq
    obtain ⟨f0, f1, f2, f3, f4, f5⟩ := hf it (by simp)
    have ne1 : a ≠ it := fun e => by
      obtain ⟨o, ho, hcl, _⟩ := pt
      obtain ⟨o1, e1, c1, _⟩ := hit
      rw [e] at ho
      rw [e1] at ho
      cases ho
      rw [hcl] at c1
      exact absurd (Value.type.inj c1) (by decide)
    have D1 := Draws.tuple (prog := X.prog) (w := X.w) (A := X.A.in1) (I.ok.hd hc) it a ne1 its.toArray
    have sz : i = its.toArray.size := by rw [List.size_toArray, hx]; exact rv.length
    subst sz
    exact wpAny_pyNext_enum_endD D1 he ⟨hit, pt⟩ fun h' eb => ⟨rfl, I.turned (t' := s.toks) (fun b o hb q => eb b o hb q) f0 f1 f3 f4 f5⟩
  self := fun A i s Q E st h => let ⟨⟨_, he⟩, _⟩ := st; wpAny_pyIter_enum he h
set_option maxHeartbeats 4000000 in
theorem meets_enumB {v : Value} {o : Obj} {H : Heap → Prop} (B : Begins v o H) :
    Meets (Builtin.«enumerate.__new__» ⟨[.type "enumerate", v], []⟩) (fun _ R s => H s.heap ∧
      R (.ok (.ret (.ref (s.heap.push o).objs.size))) { s with heap := (s.heap.push o).push { cls := .type "enumerate", data := .fields #[.none, .bool false, .ref s.heap.objs.size, rawInt 0, .none, .none] } }) :=
  .of_wp fun prog w A R s h => by
    obtain ⟨hp, g, d, tk, os⟩ := s
    obtain ⟨h1, h⟩ := h
    have hsub := sub_enumerate
    have go : ∀ {A' : Around} {E : Value → Shared → Prop} {Q : Value → Shared → Prop}, Q (.ref hp.objs.size) ⟨hp.push o, g, d, tk, os⟩ → wpAny (model prog w) A' (pyIter v) Q E ⟨hp, g, d, tk, os⟩ :=
      fun q => B.iter prog w _ _ ⟨hp, g, d, tk, os⟩ _ h1 q
    wp_walk using go
    refine wpAny_stack_any fun st => wpAny_pure ?_
    split
    case h_1 =>
      rename_i c _ _ _ _ _
      cases (c == Value.type "enumerate")
      all_goals
        wp_walk using go
        exact ⟨_, rfl, h⟩
    all_goals
      wp_walk using go
      exact ⟨_, rfl, h⟩
theorem enumB {prog : Program} {w : World} {A : Around} {E : Value → Shared → Prop} {s : Shared} {v : Value} {o : Obj} {H : Heap → Prop} {Q : Value → Shared → Prop} (B : Begins v o H) (h1 : H s.heap)
    (h : ∀ h', IsEnum h' (s.heap.objs.size + 1) s.heap.objs.size 0 .none → h'.get? s.heap.objs.size = some o → h'.objs.size = s.heap.objs.size + 2 →
      (∀ b o, s.heap.get? b = some o → h'.get? b = some o) → Q (.ref (s.heap.objs.size + 1)) { s with heap := h' }) :
    wpAny (model prog w) A (call (.type "enumerate") [v]) Q E s := by
  refine callType_new PySem.F.called_enumerate (by decide) (PySem.F.typeCall_enumerate_1 _) (PySem.F.newCall_enumerate_1 _) (fun obj => PySem.F.args_object_init_2 obj _) PySem.F.entry_enumerate_new (meets_enumB B) ⟨h1, ?_⟩
  have hz : (s.heap.push o).objs.size = s.heap.objs.size + 1 := Heap.size_push ..
  have he := Heap.get?_push_size (s.heap.push o) (o := { cls := .type "enumerate", data := .fields #[.none, .bool false, .ref s.heap.objs.size, rawInt 0, .none, .none] }) rfl
  show _ ∧ _
  rw [hz] at he ⊢
  exact ⟨⟨_, he, rfl⟩, h _ he (Heap.get?_push_of_some _ (Heap.get?_push_size _ B.free)) (by rw [Heap.size_push, hz]) fun b o x => Heap.get?_push_of_some _ (Heap.get?_push_of_some _ x)⟩
def iEnumT (K : PySem.W.Frag) (ta : TA) : TI := fun σ H R => ta σ H fun vs H1 => ∃ (a : Addr) (xs : List V), vs = [.ref a] ∧ SqT K H1 a xs ∧ R (IteT K a) H1
theorem pi_enumT {X : Cx} {e : Expr} {ta : TA} {p pos tpos : Pos} {elts : List Expr} {kk : Nat} (hg : Gl X "enumerate") (hm : X.mg "enumerate" = none) (ha : PA X [e] ta) (hs : starEach [e] X.env = [(false, eval e X.env)] := by rfl) :
    PI X (.Tuple elts kk tpos) (.Call (.Name "enumerate" p) [e] [] pos) (iEnumT X.K ta) := by
  constructor
  intro pins s σ H R I h
  refine Call_ (ld_blt I hg hm boot_enumerate (PyProof.Rows.callWith_type1 (thn (ha.run pos pins s σ H _ I h) fun us s1 z => ?_) hs rfl))
  obtain ⟨vs, H1, I1, r1, a, xs, ex, hq, q⟩ := z
  subst ex
  obtain ⟨u1, rfl, ra⟩ := vals1 r1
  cases (show u1 = Value.ref a from ra)
  obtain ⟨its, rv, pt, _⟩ := I1.tuple hq
  refine enumB (begins_tuple a its.toArray) pt fun h' he g1 hsz hk => wpAny_pyIter_enum he ?_
  have I2 : Inv X pins σ H1 { s1 with heap := h' } := I1.kept (t' := s1.toks) hk
  refine ⟨s1.heap.objs.size + 1, [s1.heap.objs.size + 1, s1.heap.objs.size], _, _, H1, rfl, I2, turn_enumT a (s1.heap.objs.size + 1) s1.heap.objs.size, ⟨⟨.none, he⟩, ⟨_, g1, rfl, rfl⟩, Nat.succ_ne_self _⟩, fun b hb => ?_, q⟩
  have e' : b = s1.heap.objs.size + 1 ∨ b = s1.heap.objs.size := by simpa using hb
  have hle : s1.heap.objs.size ≤ b := by
    rcases e' with z | z <;> rw [z] <;> first | exact Nat.le_add_right _ _ | exact Nat.le_refl _
  exact I1.fpOk hle (I1.hok.fresh hle)
/-! ### lcm -/
def rLcm : List V → Hp → VK → Prop := fun vs H Q => ∃ a b : Int, vs = [.int a, .int b] ∧ a.natAbs < 2 ^ 64 ∧ b.natAbs < 2 ^ 64 ∧ (((Nat.lcm 1 a.natAbs).lcm b.natAbs : Nat) : Int).natAbs.log2 < bitsLine ∧ Q (.int (((Nat.lcm 1 a.natAbs).lcm b.natAbs : Nat) : Int)) H
theorem cr_lcm {X : Cx} : CallR X (.builtin "math.lcm") rLcm := by
  intro pins s σ H vs us Q I r h
  obtain ⟨a, b, rfl, h1, h2, h3, q⟩ := h
  obtain ⟨t, u, rfl⟩ := Vals.int2 r
  exact PySem.W.mg_lcm h1 h2 h3 ⟨.int _, H, I.tok _, ⟨_, rfl⟩, q⟩
end TSx

/-! Own layer, part R7: defs that only tell a value; isinstance of data, chains, texts of sides. -/
namespace TSx
open PySem L2
structure Blt2 (mg : Str → Option Value) : Prop where
  int : mg "int" = none
  bool : mg "bool" = none
  str : mg "str" = none
  tuple : mg "tuple" = none
  list : mg "list" = none
  zip : mg "zip" = none
  sum : mg "sum" = none
  all : mg "all" = none
def D.ty : D → String
  | .non => "NoneType"
  | .bl _ => "bool"
  | .int _ => "int"
  | .str _ => "str"
  | .lst _ => "list"
  | .tup _ => "tuple"
  | .dic _ => "dict"
  | .exc _ _ => ""
  | .ob _ => ""
  | .frd _ => ""
  | .tpb _ => ""
  | .frn _ _ => ""
  | .fnv _ _ _ _ _ _ => ""
def D.isE : D → Bool
  | .exc _ _ => true
  | .ob _ => true
  | .frd _ => true
  | .tpb _ => true
  | .frn _ _ => true
  | .fnv _ _ _ _ _ _ => true
  | _ => false
section
variable {K : PySem.W.Frag} {σ : Sg} {H : Hp} {te ta tb tc : TE} {t : TA} {d r : D} {ds es : List D} {f : List D → D → Prop}
theorem ty_of {v : V} (h : Dt K H v d) (e : d.isE = false) : TyX K H v (.type d.ty) := by
  cases h with
  | non => exact .base .non
  | bl b => exact .base (.bl b)
  | int i => exact .base (.int i)
  | str x => exact .base (.str x)
  | lst h _ => exact .base (.lst h)
  | tup h _ =>
    rcases h with (h | ⟨o, h⟩) | h
    · exact .base (.tup h)
    · exact .fTuple h
    · obtain ⟨o, _, _, h1, h2, _⟩ := h
      exact .kTuple h1 h2
  | dic h _ => exact .base (.dK h)
  | exc _ _ _ => cases e
  | ob _ => cases e
  | frd _ => cases e
  | tpb _ => cases e
  | frn _ _ => cases e
  | fnv _ _ _ _ => cases e
/-- a text among written ones -/
theorem inV_str (x : Str) : ∀ {vs : List V} {ws : List Str}, DtA K H vs (ws.map D.str) → inV (.str x) vs = ws.any (fun y => y == x) ∧ vs.all flatV = true := by
  intro vs ws h
  induction ws generalizing vs with
  | nil => cases h; exact ⟨rfl, rfl⟩
  | cons w ws ih =>
    cases h with
    | @cons v vs _ _ a b =>
    cases a
    obtain ⟨h1, h2⟩ := ih b
    refine ⟨?_, ?_⟩
    · show (eqV (.str w) (.str x) || inV (.str x) vs) = _
      rw [h1]
      rfl
    · show (true && vs.all flatV) = true
      rw [h2]; rfl
end
/-- a constant of the module -/
theorem pe_cst {X : Cx} {x : Str} {n : Int} {t : Tok} {pos : Pos} (hg : Gl X x) (hm : X.mg x = some (.int n t)) (hd : (x == ("__debug__" : Str)) = false := by decide) : PE X (.Name x pos) (tC (.int n)) := pe_glob hg hm ⟨t, rfl⟩ hd
theorem pe_cstR {X : Cx} {x : Str} {p : Addr} {pos : Pos} (hg : Gl X x) (hm : X.mg x = some (.ref p)) (hd : (x == ("__debug__" : Str)) = false := by decide) : PE X (.Name x pos) (tC (.ref p)) := pe_glob hg hm rfl hd
end TSx

/-! Own layer, part RC: counts of sides. -/
namespace TSx
open PySem L2
end TSx

/-! Own layer, part R8: the houses. -/
namespace TSx
open PySem L2
inductive Way where
  | ward (w : Nat) | body (b : Nat) (t : Str) | rest (b : Nat) (t : Str) | kept
structure Seat where
  term : Nat
  phase : Nat
  way : Way
def Way.d : Way → D
  | .ward w => .tup [.str "ward", .int w]
  | .body b t => .tup [.str "body", .int b, .str t]
  | .rest b t => .tup [.str "rest", .int b, .str t]
  | .kept => .tup [.str "kept"]
def tiesL : List Str := ["a", "b", "kept"]
def Way.ok (n wards : Nat) : Way → Prop
  | .ward w => w < wards
  | .body b t => b < n ∧ t ∈ tiesL
  | .rest b t => b < n ∧ t ∈ tiesL
  | .kept => True
def Seat.d (s : Seat) : D := .tup [.int s.term, .int s.phase, s.way.d]
structure Seat.ok (n wards : Nat) (s : Seat) : Prop where
  t1 : 1 ≤ s.term
  t6 : s.term ≤ 6
  p : s.phase < s.term
  w : s.way.ok n wards
def bodyD (b : List Seat) : D := .tup (b.map Seat.d)
structure House where
  bodies : List (List Seat)
  wards : Nat
def House.d (h : House) : D := .tup [.tup (h.bodies.map bodyD), .int h.wards]
def lcmB (c : Nat) (b : List Seat) : Nat := b.foldl (fun c s => (Nat.lcm 1 c).lcm s.term) c
def lcmH (h : House) : Nat := h.bodies.foldl lcmB 1
structure House.ok (h : House) : Prop where
  w : h.wards ≤ 4
  n1 : 1 ≤ h.bodies.length
  n3 : h.bodies.length ≤ 3
  b : ∀ b ∈ h.bodies, 1 ≤ b.length ∧ b.length ≤ 9
  sum : (h.bodies.map (fun b => (b.length : Int))).sum ≤ 9
  s : ∀ b ∈ h.bodies, ∀ s ∈ b, s.ok h.bodies.length h.wards
  lc : lcmH h ≤ 12
/-! what the small looks are asked, and tell: all true here -/
def fTuple (ds : List D) (r : D) : Prop := ∃ (xs : List D) (a b : Int), ds = [.tup xs, .int a, .int b] ∧ a ≤ xs.length ∧ (xs.length : Int) ≤ b ∧ r = .bl true
section
variable {K : PySem.W.Frag} {σ : Sg} {H : Hp} {te ta tb tc ti : TE} {t : TA} {d r d1 d2 d3 d4 d5 : D} {ds es : List D} {f : List D → D → Prop}
theorem DtA.one {vs : List V} (h : DtA K H vs [d1]) : ∃ v1, vs = [v1] ∧ Dt K H v1 d1 := by
  cases h with | cons a h => cases h; exact ⟨_, rfl, a⟩
theorem DtA.two {vs : List V} (h : DtA K H vs [d1, d2]) : ∃ v1 v2, vs = [v1, v2] ∧ Dt K H v1 d1 ∧ Dt K H v2 d2 := by
  cases h with | cons a h => obtain ⟨v2, rfl, b⟩ := DtA.one h; exact ⟨_, _, rfl, a, b⟩
theorem kInt : kitB "int" "int" = some true := by decide +kernel
theorem kIntB : kitB "int" "bool" = some false := by decide +kernel
theorem kTup : kitB "tuple" "tuple" = some true := by decide +kernel
theorem kStr : kitB "str" "str" = some true := by decide +kernel
theorem DtA.ints : ∀ {vs : List V} {bs : List Int}, DtA K H vs (bs.map D.int) → vs = bs.map V.int
  | _, [], h => by cases h; rfl
  | _, b :: bs, h => by
    cases h with
    | cons a h => cases a; rw [DtA.ints h]; rfl
end
end TSx

/-! Own layer, part R9: loops over data. -/
namespace TSx
open PySem L2
/-- te finds data that stand already -/
def Ev0 (K : PySem.W.Frag) (te : TE) (σ : Sg) (H H0 : Hp) (d : D) : Prop := ∃ v, Dt K H0 v d ∧ ∀ Q : VK, Q v H → te σ H Q
abbrev Ev (K : PySem.W.Frag) (te : TE) (σ : Sg) (H : Hp) (d : D) : Prop := Ev0 K te σ H H d
section
variable {K : PySem.W.Frag} {σ : Sg} {H H0 : Hp} {te ta tb tc ti : TE} {t : TA} {d r : D} {ds es : List D} {g : TG} {b : TS} {E : Ends}
theorem Ev.mk (h : ∀ H1, Same H H1 → Ev K te σ H1 d) : Mk K te σ H d := fun H1 s Q q => by
  obtain ⟨v, a, k⟩ := h H1 s
  exact k _ (q v H1 Gr.rfl' a)
theorem DtA.get {vs : List V} (h : DtA K H vs ds) {i : Nat} {x : V} (e : vs[i]? = some x) : ∃ y, ds[i]? = some y ∧ Dt K H x y := h.at e
theorem walk_enumT {a : Addr} {xs : List V} : Walk (IteT K a) xs.length (fun H => SqT K H a xs) (YPair (fun i => some (.int (i : Nat))) (fun i => xs[i]?)) :=
  ⟨fun i H hi h => ⟨xs, xs[i], h, List.getElem?_eq_getElem hi⟩, fun H h => ⟨xs, h, rfl⟩, fun i H x H' hi h y => by
    obtain ⟨T, u, rfl, hT, rfl, f⟩ := y
    exact ⟨T, _, u, rfl, hT, rfl, rfl, f xs h⟩⟩
theorem walk_zipT {a c : Addr} {xs ys : List V} (hl : xs.length = ys.length) : Walk (RZ.ItzT K a c) xs.length (fun H => SqT K H a xs ∧ SqT K H c ys) (YPair (fun i => xs[i]?) (fun i => ys[i]?)) :=
  ⟨fun i H hi h => ⟨xs, ys, xs[i], ys[i]'(by omega), h.1, h.2, List.getElem?_eq_getElem hi, List.getElem?_eq_getElem _⟩, fun H h => ⟨xs, ys, h.1, h.2, Or.inl (Nat.le_refl _)⟩, fun i H x H' hi h y => by
    obtain ⟨T, u, w, rfl, hT, rfl, f1, f2⟩ := y
    exact ⟨T, u, w, rfl, hT, rfl, f1 xs h.1, f2 ys h.2⟩⟩
theorem call_lenK {X : Cx} {K : PySem.W.Frag} (h : X.K = K) : CallR X (.builtin "len") (fun xs H Q => ∃ p ys, xs = [.ref p] ∧ (SqL K H p ys ∨ SqT K H p ys) ∧ Q (.int ys.length) H) := by
  subst h
  exact call_len_seq
end
end TSx

/-! Own layer, part R10: counts, joins. -/
namespace TSx
open PySem L2 TL
end TSx

/-! Own layer, part R11: appends, comprehensions over mapped data, texts compared. -/
namespace TSx
open PySem L2
section
variable {K : PySem.W.Frag} {σ : Sg} {H H0 : Hp} {te ta tb tc ti : TE} {t : TA} {d r : D} {ds es : List D} {α β : Type}
end
end TSx

/-! Own layer, part R12: data apart from the drawn state. -/
namespace TSx
open PySem L2
def B2 (m g : Addr) : Addr → Bool := fun b => decide (b = m) || decide (b = g)
theorem B2_m {m g : Addr} : B2 m g m = true := by simp [B2]
theorem B2_g {m g : Addr} : B2 m g g = true := by simp [B2]
abbrev Ap (K : PySem.W.Frag) (m g : Addr) (H : Hp) (v : V) (d : D) : Prop := Dt K (wo (B2 m g) H) v d
section
variable {K : PySem.W.Frag} {m c g : Addr} {H H' : Hp} {v : V} {d : D} {ds : List D} {σ : Sg} {r : Nat}
theorem Ap.kp (h : Ap K m g H v d) (k : Kp m g H H') : Ap K m g H' v d := h.gr (wo_kp k B2_m B2_g)
theorem Ap.sm (h : Ap K m g H v d) (k : Same H H') : Ap K m g H' v d := h.gr (wo_same k)
end
end TSx

/-! Own layer, part N1: data of any kind, judged by plain functions; promises with an answer or an exception. -/
namespace TSx
open PySem L2
mutual
/-- no exception within, no full dict, no long text -/
def D.nx : D → Bool
  | .non => true
  | .bl _ => true
  | .int _ => true
  | .str x => decide (x.length ≤ 1000)
  | .lst xs => nxA xs
  | .tup xs => nxA xs
  | .dic kvs => kvs.isEmpty
  | .exc _ _ => false
  | .ob _ => false
  | .frd _ => false
  | .tpb _ => false
  | .frn _ _ => false
  | .fnv _ _ _ _ _ _ => false
def nxA : List D → Bool
  | [] => true
  | d :: ds => d.nx && nxA ds
end
/-! ### the plain looks -/
/-! ### promises: an answer, or an exception of an own class with one field -/
inductive Out where
  | ret (d : D) | exc (C : Addr) (f : Str) (d : D)
def Out.said (K : PySem.W.Frag) (H : Hp) (Q : VK) (E : XK) : Out → Prop
  | .ret r => ∀ v H', Same H H' → Dt K H' v r → Q v H'
  | .exc C f r => ∀ e v H', Same H H' → H e = none → H' e = some (.xd [(f, v)]) → Dt K H' v r → E (.ref C) (some e) H'
section
variable {K : PySem.W.Frag} {σ : Sg} {H : Hp} {te ta tb tc ti : TE} {t : TA} {d r : D} {ds es : List D} {X : Cx} {k : Nat} {ff : Addr} {fd : FuncData} {ps : List Str}
theorem Out.said.sm {Q : VK} {E : XK} {o : Out} {H1 : Hp} (h : o.said K H Q E) (s : Same H H1) : o.said K H1 Q E := by
  cases o with
  | ret r => exact fun v H' s' a => h v H' (s.trans s') a
  | exc C f r => exact fun e v H' s' n x a => h e v H' (s.trans s') (s.free n) x a
end
end TSx

/-! Own layer, part N1c: the houses' constants. -/
namespace TSx
open PySem L2
theorem pe_cstE {X : Cx} {x : Str} {n : Int} {pos : Pos} (hg : Gl X x) (hm : ∃ t, X.mg x = some (.int n t)) (hd : (x == ("__debug__" : Str)) = false := by decide) : PE X (.Name x pos) (tC (.int n)) := by
  obtain ⟨t, hm⟩ := hm
  exact pe_cst hg hm hd
section
variable {K : PySem.W.Frag} {σ : Sg} {H : Hp} {ta tb : TE} {tt uu : TT} {d : D} {a b : Bool} {t : TA} {ds : List D} {r : D} {f : List D → D → Prop}
end
end TSx

/-! Own layer, part N3m: the mathematics of the first wrong part. -/
namespace TSx
open PySem L2
/-! ### the houses without a wrong part -/
end TSx

/-! Own layer, part S1: how great data are; what is small enough to be shown. -/
namespace TSx
open PySem L2 PySem.Spec PyProof.Rows
mutual
/-- ints of at most 10 ^ 30 + n, short texts, no full dict, no exception -/
def D.gd (n : Nat) : D → Bool
  | .non => true
  | .bl _ => true
  | .int i => decide (i.natAbs ≤ 10 ^ 30 + n)
  | .str x => decide (x.length ≤ 1000) && x.cps.toList.all fun c => decide (c < 16 ^ 8)
  | .lst xs => gdA n xs
  | .tup xs => gdA n xs
  | .dic kvs => kvs.isEmpty
  | .exc _ _ => false
  | .ob _ => false
  | .frd _ => false
  | .tpb _ => false
  | .frn _ _ => false
  | .fnv _ _ _ _ _ _ => false
def gdA (n : Nat) : List D → Bool
  | [] => true
  | d :: ds => d.gd n && gdA n ds
end
mutual
def D.wg : D → Nat
  | .int _ => 150
  | .str x => x.cps.size + 1
  | .lst xs => wgA xs + 1
  | .tup xs => wgA xs + 1
  | _ => 1
def wgA : List D → Nat
  | [] => 0
  | d :: ds => d.wg + 1 + wgA ds
end
mutual
def D.dg : D → Nat
  | .lst xs => dgA xs + 1
  | .tup xs => dgA xs + 1
  | .dic _ => 1
  | _ => 0
def dgA : List D → Nat
  | [] => 0
  | d :: ds => max d.dg (dgA ds)
end
theorem gdA_mem {n : Nat} : ∀ {ds : List D}, gdA n ds = true ↔ ∀ d ∈ ds, d.gd n = true
  | [] => by simp [gdA]
  | x :: xs => by simp only [gdA, Bool.and_eq_true, List.mem_cons, forall_eq_or_imp, gdA_mem (ds := xs)]
theorem wgA_mem : ∀ {ds : List D} {d : D}, d ∈ ds → d.wg + 1 ≤ wgA ds
  | x :: xs, d, h => by
    simp only [wgA]
    rcases List.mem_cons.mp h with rfl | h
    · omega
    · have := wgA_mem h; omega
theorem dgA_le {k : Nat} : ∀ {ds : List D}, dgA ds ≤ k ↔ ∀ d ∈ ds, d.dg ≤ k
  | [] => by simp [dgA]
  | x :: xs => by simp only [dgA, List.mem_cons, forall_eq_or_imp, Nat.max_le, dgA_le (ds := xs)]
mutual
theorem gd_mono {n m : Nat} (h : n ≤ m) : ∀ {d : D}, d.gd n = true → d.gd m = true
  | .non, _ => rfl
  | .bl _, _ => rfl
  | .int i, e => by simp only [D.gd, decide_eq_true_eq] at e ⊢; omega
  | .str x, e => e
  | .lst xs, e => gdA_mono h (ds := xs) e
  | .tup xs, e => gdA_mono h (ds := xs) e
  | .dic _, e => e
  | .exc _ _, e => e
  | .ob _, e => e
  | .frd _, e => e
  | .tpb _, e => e
  | .frn _ _, e => e
  | .fnv _ _ _ _ _ _, e => e
theorem gdA_mono {n m : Nat} (h : n ≤ m) : ∀ {ds : List D}, gdA n ds = true → gdA m ds = true
  | [], _ => rfl
  | x :: xs, e => by
    simp only [gdA, Bool.and_eq_true] at e ⊢
    exact ⟨gd_mono h e.1, gdA_mono h e.2⟩
end
mutual
theorem gd_nx {n : Nat} : ∀ {d : D}, d.gd n = true → d.nx = true
  | .non, _ => rfl
  | .bl _, _ => rfl
  | .int i, e => rfl
  | .str x, e => by simp only [D.gd, Bool.and_eq_true] at e; exact e.1
  | .lst xs, e => gdA_nx (ds := xs) e
  | .tup xs, e => gdA_nx (ds := xs) e
  | .dic _, e => e
  | .exc _ _, e => e
  | .ob _, e => e
  | .frd _, e => e
  | .tpb _, e => e
  | .frn _ _, e => e
  | .fnv _ _ _ _ _ _, e => e
theorem gdA_nx {n : Nat} : ∀ {ds : List D}, gdA n ds = true → nxA ds = true
  | [], _ => rfl
  | x :: xs, e => by
    simp only [gdA, nxA, Bool.and_eq_true] at e ⊢
    exact ⟨gd_nx e.1, gdA_nx e.2⟩
end
theorem int_ok {n : Nat} {i : Int} (hn : n ≤ 1000) (h : i.natAbs ≤ 10 ^ 30 + n) : i.natAbs.log2 < 130 ∧ (PyData.shown (.int i)).length ≤ 50 := by
  have lt : i.natAbs < 10 ^ 31 := by omega
  refine ⟨?_, ?_⟩
  · by_cases z : i.natAbs = 0
    · rw [z]; decide
    · exact (Nat.log2_lt z).2 (Nat.lt_trans lt (by decide))
  · have e := int_text_length_le10 (k := 31) (by decide) lt
    show (Str.ofString (toString i)).length ≤ 50
    rw [PySem.ofString_length]
    omega
mutual
theorem gd_sh {n : Nat} (hn : n ≤ 1000) : ∀ {d : D}, d.gd n = true → d.sh = true ∧ d.pd.showable = true ∧ d.pd.leavesShort 50 = true ∧ d.pd.weight ≤ d.wg ∧ d.pd.depth ≤ d.dg
  | .non, _ => ⟨rfl, rfl, rfl, by simp [D.pd, PyData.weight], by simp [D.pd, PyData.depth]⟩
  | .bl _, _ => ⟨rfl, rfl, rfl, by simp [D.pd, PyData.weight], by simp [D.pd, PyData.depth]⟩
  | .int i, e => by
    simp only [D.gd, decide_eq_true_eq] at e
    obtain ⟨h1, h2⟩ := int_ok hn e
    refine ⟨rfl, ?_, ?_, ?_, by simp [D.pd, PyData.depth]⟩
    · simp only [D.pd, PyData.showable, decide_eq_true_eq]; omega
    · simp only [D.pd, PyData.leavesShort, decide_eq_true_eq]; exact h2
    · simp only [D.pd, PyData.weight, D.wg]; split <;> omega
  | .str x, e => by
    simp only [D.gd, Bool.and_eq_true] at e
    refine ⟨rfl, rfl, ?_, ?_, by simp [D.pd, PyData.depth]⟩
    · simp only [D.pd, PyData.leavesShort]; exact e.2
    · simp only [D.pd, PyData.weight, D.wg]; omega
  | .lst xs, e => by
    obtain ⟨h1, h2, h3, h4, h5⟩ := gdA_sh hn (ds := xs) e
    refine ⟨by simp only [D.sh, h1], by simp only [D.pd, PyData.showable, h2], by simp only [D.pd, PyData.leavesShort, h3], ?_, ?_⟩
    · simp only [D.pd, PyData.weight, D.wg]; omega
    · simp only [D.pd, PyData.depth, D.dg]; omega
  | .tup xs, e => by
    obtain ⟨h1, h2, h3, h4, h5⟩ := gdA_sh hn (ds := xs) e
    refine ⟨by simp only [D.sh, h1], by simp only [D.pd, PyData.showable, h2], by simp only [D.pd, PyData.leavesShort, h3], ?_, ?_⟩
    · simp only [D.pd, PyData.weight, D.wg]; omega
    · simp only [D.pd, PyData.depth, D.dg]; omega
  | .dic [], _ => ⟨rfl, rfl, rfl, by simp [D.pd, PyData.weight, PyData.weightKv], by simp [D.pd, D.dg, PyData.depth, PyData.depthKv]⟩
  | .dic (_ :: _), e => by cases e
  | .exc _ _, e => by cases e
  | .ob _, e => by cases e
  | .frd _, e => by cases e
  | .tpb _, e => by cases e
  | .frn _ _, e => by cases e
  | .fnv _ _ _ _ _ _, e => by cases e
theorem gdA_sh {n : Nat} (hn : n ≤ 1000) : ∀ {ds : List D}, gdA n ds = true → shA ds = true ∧ PyData.showableAll (pdA ds) = true ∧ PyData.leavesShortAll 50 (pdA ds) = true ∧ PyData.weightAll (pdA ds) ≤ wgA ds ∧ PyData.depthAll (pdA ds) ≤ dgA ds
  | [], _ => ⟨rfl, rfl, rfl, Nat.le_refl _, Nat.le_refl _⟩
  | x :: xs, e => by
    simp only [gdA, Bool.and_eq_true] at e
    obtain ⟨h1, h2, h3, h4, h5⟩ := gd_sh hn e.1
    obtain ⟨g1, g2, g3, g4, g5⟩ := gdA_sh hn (ds := xs) e.2
    refine ⟨by simp only [shA, h1, g1, Bool.and_true], by simp only [pdA, PyData.showableAll, h2, g2, Bool.and_true], by simp only [pdA, PyData.leavesShortAll, h3, g3, Bool.and_true], ?_, ?_⟩
    · simp only [pdA, PyData.weightAll, wgA]; omega
    · simp only [pdA, PyData.depthAll, dgA]; omega
end
/-- how great a thing is: ints, weight, depth -/
structure Gd (n w k : Nat) (d : D) : Prop where
  g : d.gd n = true
  w : d.wg ≤ w
  k : d.dg ≤ k
theorem Gd.up {n w k n' w' k' : Nat} {d : D} (h : Gd n w k d) (hn : n ≤ n') (hw : w ≤ w') (hk : k ≤ k') : Gd n' w' k' d := ⟨gd_mono hn h.g, Nat.le_trans h.w hw, Nat.le_trans h.k hk⟩
theorem Gd.nx {n w k : Nat} {d : D} (h : Gd n w k d) : d.nx = true := gd_nx h.g
theorem Gd.rd {n w k : Nat} {d : D} (h : Gd n w k d) (hn : n ≤ 1000) (hw : w ≤ 2 ^ 18) (hk : k ≤ 50) : d.rd := by
  obtain ⟨h1, h2, h3, h4, h5⟩ := gd_sh hn h.g
  refine ⟨h1, h2, ?_, Nat.le_trans h5 (Nat.le_trans h.k hk)⟩
  have l := PyData.shown_le 50 (by decide) d.pd h3
  have e : (2 : Nat) ^ 18 = 262144 := by decide
  have w1 := h.w
  have l2 : (50 + 2) * d.pd.weight ≤ 52 * 262144 := Nat.mul_le_mul (by omega) (by omega)
  rw [sizeLine_eq]
  omega
theorem Gd.part {n w k : Nat} {ds : List D} (h : Gd n w k (.tup ds)) {d : D} (m : d ∈ ds) : Gd n w (k - 1) d := by
  have a := h.w
  have b := h.k
  simp only [D.wg, D.dg] at a b
  have := wgA_mem m
  exact ⟨gdA_mem.mp h.g d m, by omega, by have := dgA_le.mp (Nat.le_refl (dgA ds)) d m; omega⟩
end TSx

/-! Own layer, part T1: tuples: == of the empty one, the whole of it backwards, +, slices, *. -/
namespace TSx
open PySem L2 PySem.Spec PyProof.Rows HT
section
variable {prog : Program} {w : World} {A : Around} {E : Value → Shared → Prop} {s : Shared}
end
section
variable {K : PySem.W.Frag} {σ : Sg} {H : Hp} {te ta tb tc ti : TE} {tl th : TO} {t : TA} {d r : D} {ds es : List D} {B : Addr → Bool}
def cutD (xs : List D) (lo hi : Option Int) : List D := (xs.drop (HT.sIx xs.length 0 lo)).take (HT.sIx xs.length xs.length hi - HT.sIx xs.length 0 lo)
theorem DtA.drop {vs : List V} : ∀ {ds : List D}, DtA K H vs ds → ∀ n, DtA K H (vs.drop n) (ds.drop n) := by
  induction vs with
  | nil => intro ds h n; cases h; simpa using DtA.nil
  | cons v vs ih =>
    intro ds h n
    cases h with
    | cons a b =>
      cases n with
      | zero => exact .cons a b
      | succ n => exact ih b n
theorem DtA.take {vs : List V} : ∀ {ds : List D}, DtA K H vs ds → ∀ n, DtA K H (vs.take n) (ds.take n) := by
  induction vs with
  | nil => intro ds h n; cases h; simpa using DtA.nil
  | cons v vs ih =>
    intro ds h n
    cases h with
    | cons a b =>
      cases n with
      | zero => exact .nil
      | succ n => exact .cons a (ih b n)
theorem MkB.mk (h : MkB K B ta σ H d) : Mk K ta σ H d := fun H1 s Q q => h H1 s _ fun v H2 s2 a => q v H2 s2 (a.gr wo_le)
end
end TSx

/-! Own layer, part T2: more readings over data. -/
namespace TSx
open PySem L2
section
variable {K : PySem.W.Frag} {σ : Sg} {H : Hp} {te ta tb tc ti : TE} {tt uu : TT} {t : TA} {d r : D} {ds es : List D} {B : Addr → Bool}
end
end TSx

/-! Own layer, part M1: a lambda, with one written default or none, handed to a def that calls it. -/
namespace TSx
open PySem L2 PySem.Spec PyProof.Rows LamX
/-- the words of a lambda: its default, if it has one, is a written int of a name of its own -/
structure LW where
  params : Arguments
  body : Expr
  scope : Scope
  dflt : Option (Str × Int)
/-- how its call without arguments binds -/
structure LW.Ok (l : LW) (N : List Str) (sc : Scope) : Prop where
  kind : l.scope.kind = .function
  co : l.scope.isCoroutine = false
  gen : l.scope.isGenerator = false
  cell : ∀ y ∈ l.scope.names, y.2 ≠ .cell
  loc : ∀ y, l.scope.names.lookup y = some .local → y ∉ N
  free : ∀ y ∈ l.scope.names, y.2 = .free → sc.names.lookup y.1 = some .cell ∨ sc.names.lookup y.1 = some .free
  kwd : l.params.kw_defaults = []
  dfl : match l.dflt with
    | none => l.params.defaults = [] ∧ ∀ fd : FuncData, fd.params = l.params → fd.defaults = .none → bindArgs fd ⟨[], []⟩ = pure []
    | some (x, i) => (∃ k p, l.params.defaults = [.Constant (.int i) k p]) ∧ l.scope.names.lookup x = some .local ∧
        ∀ fd : FuncData, fd.params = l.params → ∃ kk, bindArgs fd ⟨[], []⟩ = seqItems? fd.defaults >>= kk ∧ ∀ u : Value, kk (some #[u]) = pure [(x, u)]
/-- what is known of its default's place: a tuple of it -/
def LW.Dv (l : LW) (H : Hp) (dV : Value) : Prop := match l.dflt with
  | none => dV = .none
  | some (_, i) => ∃ t : Addr, dV = .ref t ∧ H t = some (.tup [.int i])
theorem LW.Dv.ext {l : LW} {H H' : Hp} {dV : Value} (d : l.Dv H dV) (e : ExtN H H') : l.Dv H' dV := by
  unfold LW.Dv at d ⊢
  cases q : l.dflt with
  | none => rw [q] at d; exact d
  | some p =>
    rw [q] at d
    obtain ⟨t, h1, h2⟩ := d
    exact ⟨t, h1, e _ _ h2 (fun _ z => by cases z)⟩
abbrev LW.obj (l : LW) (q : Str) (cl : List (Str × Addr)) (dV doc pm : Value) (c' : Addr) (ctv : Value) : Obj := PySem.W.kdv_obj "<lambda>" q l.params (.expr l.body) l.scope cl dV doc pm c' ctv
section
variable {X : Cx} {pins : List (Addr × Obj)} {σ : Sg} {H : Hp} {s : Shared} {l : LW}
end
end TSx

/-! Own layer, part M2: a lambda is called by the def that got it. -/
namespace TSx
open PySem L2 PySem.Spec PyProof.Rows LamX
section
variable {X : Cx} {pins : List (Addr × Obj)} {σ : Sg} {H HZ : Hp} {s s1 : Shared} {l : LW}
theorem LW.Ok.has (L : l.Ok X.N X.env.scope) (ok : X.Ok) : ∀ y ∈ l.scope.names, y.2 = .free → ∃ c, X.env.cells.lookup y.1 = some c := fun y hy e => by
  rcases L.free y hy e with k | k
  · exact ok.has _ (.inl k)
  · exact ok.has _ (.inr k)
/-- what the called def must keep of it -/
def Kn (X : Cx) (l : LW) (c' : Addr) (dV : Value) (HZ : Hp) : Prop := HZ c' = some (CodeO c' (X.env.qual ++ "<lambda>")) ∧ l.Dv HZ dV
theorem Kn.ext {c' : Addr} {dV : Value} {H H' : Hp} (k : Kn X l c' dV H) (e : ExtN H H') : Kn X l c' dV H' := ⟨e _ _ k.1 codeO_ne, k.2.ext e⟩
end
/-! ### a def that calls what it got -/
section
variable {X : Cx}
end
end TSx

/-! Own layer, part M3: the law's own end where defs make lambdas: their tables are tracked from the start. -/
namespace TSx
open PySem L2 PySem.Spec PyProof.Rows LamX
theorem law_endT {P : Program} {w : World} {K : PySem.W.Frag} {mg mb : Str → Option Value} {CX : CXT} {k : Nat} {fa a : Addr} {cs : List (Addr × Addr)} {fd : FuncData} {x : Str} {sp : Sp} {s₁ : Shared} {vs : List Value} {ns : List Int}
    (KX : K.In s₁.heap) (hns : s₁.heap.Ns mainGlobals mg) (hb : s₁.heap.Ns builtinsNs mb) (hbb : ∀ x : Str, x ≠ "__name__" → mb x = bootBuiltins x) (hlim : s₁.heap.NoLimit) (hg : s₁.gens = #[])
    (hT : ∀ p ∈ cs, s₁.heap.get? p.2 = some { cls := .none, data := .fields #[] }) (nT : ∀ p ∈ cs, K.lookup p.2 = none) (C : ∀ p ∈ cs, PySem.W.CodeHd s₁.heap p.1 p.2)
    (hbm : ∃ (bm : Addr) (ob : Obj), mg "__builtins__" = some (.ref bm) ∧ bm ≠ builtinsNs ∧ s₁.heap.get? bm = some ob ∧ ob.cls = .type "module" ∧ ob.dict = some builtinsNs ∧ ob.data = .plain)
    (ha : s₁.heap.get? a = some { cls := .type "list", data := .seq vs.toArray }) (hi : IntsAre vs ns) (hl : ns.length ≤ sizeLine) (hr : Room k callerA)
    (F : ∀ base : Heap, K.In base → base.Ns mainGlobals mg → (∀ p ∈ cs, TabB base mg p.1 p.2) → FnG P w K mg base CX k fa fd [x] sp) (hbind : ∀ (s : Shared) (u : Value), BindsTo s fd ⟨[u], []⟩ [(x, u)])
    (hsp : ∀ H : Hp, (∀ p ∈ cs, H p.2 = some (.tbl #[])) → SqL K H a (ns.map V.int) → sp [.ref a] H (fun v _ => v = .bl true) fun _ _ _ => False)
    (hCX : ∀ H e s', CX [] H s₁ (fun _ _ _ => False) e s' → False) :
    codeAny (model P w) callerA (.call (.ref fa) ⟨[.ref a], []⟩) (fun r s' => r = .ok (.ret (.bool true)) ∧ OldK s₁.heap s'.heap ∧ s'.os = s₁.os ∧ AllBare s'.gens) s₁ := by
  classical
  have rv := vals_ints hi
  have size_eq : vs.length = ns.length := hi.length
  let tabs : List Addr := cs.map (·.2)
  have tab_ : ∀ b ∈ tabs, s₁.heap.get? b = some { cls := .none, data := .fields #[] } ∧ K.lookup b = none := fun b hb => by
    obtain ⟨p, hp, e⟩ := List.mem_map.mp hb
    rw [← e]
    exact ⟨hT p hp, nT p hp⟩
  have a_no : a ∉ tabs := fun z => by
    have q := (tab_ a z).1
    rw [ha] at q
    cases q
  -- what is tracked: the tables, and the script if it is not written
  let H : Hp := fun b => if b ∈ tabs then some (.tbl #[]) else if b = a ∧ K.lookup a = none then some (.frz { cls := .type "list", data := .seq vs.toArray } (.lst (ns.map V.int))) else none
  have cases_ : ∀ b u, H b = some u → (b ∈ tabs ∧ u = .tbl #[]) ∨ (b = a ∧ K.lookup a = none ∧ u = .frz { cls := .type "list", data := .seq vs.toArray } (.lst (ns.map V.int))) := fun b u e => by
    have e' : (if b ∈ tabs then some (HO.tbl #[]) else if b = a ∧ K.lookup a = none then some (HO.frz { cls := .type "list", data := .seq vs.toArray } (.lst (ns.map V.int))) else none) = some u := e
    split at e'
    · exact .inl ⟨by assumption, (Option.some.inj e').symm⟩
    · split at e'
      · rename_i c
        exact .inr ⟨c.1, c.2, (Option.some.inj e').symm⟩
      · cases e'
  have atT : ∀ b ∈ tabs, H b = some (.tbl #[]) := fun b hb => if_pos hb
  have atA : K.lookup a = none → H a = some (.frz { cls := .type "list", data := .seq vs.toArray } (.lst (ns.map V.int))) := fun hk => by
    show (if a ∈ tabs then some (HO.tbl #[]) else _) = _
    rw [if_neg a_no, if_pos ⟨rfl, hk⟩]
  have script : SqL K H a (ns.map V.int) := by
    cases hk : K.lookup a with
    | none => exact Or.inl (Or.inr ⟨_, atA hk⟩)
    | some o =>
      have e := KX a o hk
      rw [ha] at e
      cases e
      exact Or.inr ⟨_, vs.toArray, _, hk, rfl, rfl, rfl, by rw [List.size_toArray, size_eq]; exact hl, by simpa using rv⟩
  have ok : HOk P w H s₁.heap := fun b u z => by
    rcases cases_ b u z with ⟨m, rfl⟩ | ⟨rfl, _, rfl⟩
    · exact (tab_ b m).1
    · exact ⟨ha, by rw [List.length_map]; exact hl, vs, _, rv, ha⟩
  have shown : ∀ {b : Addr} {o : Obj}, s₁.heap.get? b = some o → H b = none → (hidT s₁.heap H).get? b = some o := fun e n => hidT_get e n
  have open_ : ∀ {b : Addr} {o : Obj}, s₁.heap.get? b = some o → (∀ us n, o.data ≠ .seq us n) → o.data ≠ .fields #[] → H b = none := fun {b o} e h1 h2 => by
    cases q : H b with
    | none => rfl
    | some u =>
      rcases cases_ b u q with ⟨m, _⟩ | ⟨rfl, _, _⟩
      · rw [(tab_ b m).1] at e
        cases e
        exact (h2 rfl).elim
      · rw [ha] at e
        cases e
        exact (h1 _ _ rfl).elim
  have dicts : ∀ {b : Addr} {m : Str → Option Value}, s₁.heap.Ns b m → (hidT s₁.heap H).Ns b m := fun {b m} z => by
    obtain ⟨o, es, ep, e, d, r⟩ := z
    exact ⟨o, es, ep, shown e (open_ e (fun us n z => by rw [d] at z; cases z) fun z => by rw [d] at z; cases z), d, r⟩
  have Kb : K.In (hidT s₁.heap H) := fun b o e => shown (KX b o e) (by
    cases q : H b with
    | none => rfl
    | some u =>
      rcases cases_ b u q with ⟨m, _⟩ | ⟨rfl, hk, _⟩
      · rw [(tab_ b m).2] at e; cases e
      · rw [hk] at e; cases e)
  have M : Mod K mg (hidT s₁.heap H) := by
    refine ⟨Kb, dicts hns, ⟨mb, dicts hb, hbb⟩, ?_⟩
    obtain ⟨mc, h1, h2⟩ := hlim
    exact ⟨mc, dicts h1, h2⟩
  have TB : ∀ p ∈ cs, TabB (hidT s₁.heap H) mg p.1 p.2 := fun p hp => by
    have here := hT p hp
    refine ⟨?_, ?_, fun z => ?_⟩
    · obtain ⟨o, us, file, tf, flags, tg, inF, text, tt, e1, r1, r2, r3, rest⟩ := C p hp
      refine ⟨o, us, file, tf, flags, tg, inF, text, tt, shown e1 (open_ e1 (fun vs n z => by rw [r2] at z; cases z) fun z => ?_), r1, r2, r3, rest⟩
      rw [r2] at z
      cases z
      simp at r3
    · obtain ⟨bm, ob, b1, b2, b3, b4, b5, b6⟩ := hbm
      refine ⟨bm, ob, b1, b2, fun q => ?_, fun q => ?_, shown b3 (open_ b3 (fun vs n z => by rw [b6] at z; cases z) fun z => by rw [b6] at z; cases z), b4, b5, b6⟩
      · obtain ⟨o, es, ep, e, hd, _⟩ := hns
        rw [q, e] at b3
        cases b3
        rw [hd] at b6
        cases b6
      · rw [q, here] at b3
        cases b3
        cases b6
    · obtain ⟨o, es, ep, e, hd, _⟩ := hns
      rw [z, here] at e
      cases e
      cases hd
  have E0 : Env0 P w K mg (hidT s₁.heap H) callerA [] s₁ H := {
    frames := rfl
    mod := M
    bs := fun b o e => of_hidT e
    bsz := Nat.le_of_eq (hidT_size _ _)
    funs := trivial
    frf := fun b hb => by cases hb
    hok := ok
    bare := .of_eq hg }
  refine codeAny_mono ((F _ Kb (dicts hns) TB).go callerA [] s₁ H ⟨[.ref a], []⟩ [.ref a] [.ref a] _ _ rfl hr E0 (hbind s₁ (.ref a)) (.cons rfl .nil) (hsp H (fun p hp => atT p.2 (List.mem_map.mpr ⟨p, hp, rfl⟩)) script)) fun r s' h => ?_
  match r, h with
  | .error e, h => exact (hCX H e s' h).elim
  | .ok .next, h => exact False.elim h
  | .ok .brk, h => exact False.elim h
  | .ok .cont, h => exact False.elim h
  | .ok (.ret u), h =>
    obtain ⟨v, H', os, bare, un, ok', rel, q⟩ := h
    have q' : v = .bl true := q
    subst q'
    obtain rfl : u = Value.bool true := rel
    have kept : ∀ b o, b ∉ tabs → s₁.heap.get? b = some o → s'.heap.get? b = some o := fun b o nb e => by
      cases q : H b with
      | none => exact un.keep b o e q (fun z => by cases z) (fun z => by cases z)
      | some u =>
        rcases cases_ b u q with ⟨m, _⟩ | ⟨rfl, _, rfl⟩
        · exact absurd m nb
        · obtain ⟨e1, _⟩ := ok b _ q
          obtain ⟨e2, _⟩ := ok' b _ (un.frzs b _ _ q)
          rw [e] at e1
          cases e1
          exact e2
    have more : ∀ p ∈ cs, ∃ us : Array Value, s'.heap.get? p.2 = some { cls := .none, data := .fields us } := fun p hp => by
      obtain ⟨us, z⟩ := un.tbls p.2 #[] (atT p.2 (List.mem_map.mpr ⟨p, hp, rfl⟩))
      exact ⟨_, ok' p.2 _ z⟩
    refine ⟨rfl, ⟨fun b o e => ?_, fun b o e => ?_⟩, os, bare⟩
    · by_cases hb : b ∈ tabs
      · obtain ⟨p, hp, rfl⟩ := List.mem_map.mp hb
        obtain ⟨us, hm⟩ := more p hp
        have e0 := hT p hp
        rw [e] at e0
        cases e0
        exact .inr (.inl ⟨((C p hp).tab (hT p hp)).isCodeTable, rfl, #[], us, rfl, by rw [Array.empty_append]; exact hm⟩)
      · exact .inl (kept b o hb e)
    · by_cases hb : b ∈ tabs
      · obtain ⟨p, hp, rfl⟩ := List.mem_map.mp hb
        obtain ⟨us, hm⟩ := more p hp
        exact ⟨_, hm⟩
      · exact ⟨o, kept b o hb e⟩
/-- where the tables stand: the maker's code object, its table among the empty ones -/
def TabIn (ts : List Addr) (K : PySem.W.Frag) (p : Addr × Addr) : Prop := p.2 ∈ ts ∧ PySem.W.codeHdIn K p.1 p.2 = true ∧ K.lookup p.2 = none
theorem walkT {l : PySem.W.OpenLaw} {n k : Nat} {q : Program} {loose : List Str} {XP : (Str → Option Value) → Heap → Prop} {YP : World → Heap → Prop} {d : DefRec} {K : Params → PySem.W.Frag} {sp : PySem.W.Frag → List (Addr × Addr) → Sp} {x : Str} {ts : List Addr}
    (hn : l.most = some n) (hn2 : n ≤ sizeLine) (hdf : d.params.defaults = []) (hr : Room k callerA)
    (hY : ∀ (w : World) (h : Heap), YP w h → (K w.params).In h) (hts : ∀ (w : World) (h : Heap), YP w h → ∀ P ∈ ts, h.get? P = some (PySem.W.tabObj #[]))
    (F : ∀ (w : World) (mg : Str → Option Value) (fa : Addr) (h : Heap), (K w.params).In h → h.Ns mainGlobals mg → mg d.name = some (.ref fa) →
      ∃ (fd : FuncData) (cs : List (Addr × Addr)), (∀ p ∈ cs, TabIn ts (K w.params) p) ∧ (∀ (s : Shared) (u : Value), BindsTo s fd ⟨[u], []⟩ [(x, u)]) ∧
        ∀ base : Heap, (K w.params).In base → base.Ns mainGlobals mg → (∀ p ∈ cs, TabB base mg p.1 p.2) → FnG l.prog w (K w.params) mg base CX0 k fa fd [x] (sp (K w.params) cs))
    (hsp : ∀ (w : World) (H : Hp) (a : Addr) (ns : List Int) (cs : List (Addr × Addr)), ns.length ≤ n → (∀ p ∈ cs, H p.2 = some (.tbl #[])) → SqL (K w.params) H a (ns.map V.int) → sp (K w.params) cs [.ref a] H (fun v _ => v = .bl true) fun _ _ _ => False) :
    PySem.W.WalkO q loose XP YP l.row.toRowW d [] (fun f vs => PySem.call f vs) := by
  refine Att.attach_callB hn hdf fun w s₀ s₁ mg mb fa o pm cd doc a vs ns G Y ho hd hcd hmg hobj hints hlen hbits hg => ?_
  have KX := hY w _ Y
  obtain ⟨fd, cs, ht, hb, hF⟩ := F w mg fa _ KX G.T.g hmg
  exact law_endT KX G.T.g G.T.b G.T.builtins G.T.nolimit hg (fun p hp => hts w _ Y _ (ht p hp).1) (fun p hp => (ht p hp).2.2) (fun p hp => PySem.W.codeHd_of_K KX (ht p hp).2.1) G.T.bmain hobj hints (Nat.le_trans hlen hn2) hr hF hb
    (fun H hT hS => hsp w H a ns cs hlen hT hS) fun _ _ _ z => z
end TSx

/-! Own layer, part X1: what stays where tables grow. -/
namespace TSx
open PySem L2 LamX
section
variable {K : PySem.W.Frag} {H H' : Hp}
theorem ext_T {a : Addr} {xs : List V} (g : ExtN H H') (h : SqT K H a xs) : SqT K H' a xs := by
  rcases h with (h | ⟨o, h⟩) | h
  · exact Or.inl (Or.inl (g _ _ h (fun _ z => by cases z)))
  · exact Or.inl (Or.inr ⟨o, g _ _ h (fun _ z => by cases z)⟩)
  · exact Or.inr h
theorem exq_nt {a C d : Addr} (ps : Array Value) : exq a C d ≠ .tbl ps := fun z => by
  unfold exq at z
  cases z
mutual
theorem Dt.ext (g : ExtN H H') : ∀ {v : V} {d : D}, Dt K H v d → Dt K H' v d
  | _, _, .non => .non
  | _, _, .bl b => .bl b
  | _, _, .int i => .int i
  | _, _, .str x => .str x
  | _, _, .lst e a => .lst (g _ _ e (fun _ z => by cases z)) (DtA.ext g a)
  | _, _, .tup e a => .tup (ext_T g e) (DtA.ext g a)
  | _, _, .dic e a => .dic (g _ _ e (fun _ z => by cases z)) (DtK.ext g a)
  | _, _, .exc e f a => .exc (g _ _ e exq_nt) (g _ _ f (fun _ z => by cases z)) (DtF.ext g a)
  | _, _, .ob a => .ob a
  | _, _, .frd e a => .frd (g _ _ e (fun _ z => by cases z)) (DtK.ext g a)
  | _, _, .tpb e n a => .tpb (g _ _ e (fun _ z => by cases z)) n (DtA.ext g a)
  | _, _, .frn e a => .frn (g _ _ e (fun _ z => by cases z)) (DtN.ext g a)
  | _, _, .fnv n e q a => .fnv n (g _ _ e n) (fun t i z => g _ _ (q t i z) (fun _ z => by cases z)) (DtA.ext g a)
theorem DtN.ext (g : ExtN H H') : ∀ {v : List NE} {d : List (D × D)}, DtN K H v d → DtN K H' v d
  | _, _, .nil => .nil
  | _, _, .cons k n a b t => .cons k n (Dt.ext g a) (Dt.ext g b) (DtN.ext g t)
theorem DtA.ext (g : ExtN H H') : ∀ {v : List V} {d : List D}, DtA K H v d → DtA K H' v d
  | _, _, .nil => .nil
  | _, _, .cons a b => .cons (Dt.ext g a) (DtA.ext g b)
theorem DtK.ext (g : ExtN H H') : ∀ {v : List (Key × V)} {d : List (Key × D)}, DtK K H v d → DtK K H' v d
  | _, _, .nil => .nil
  | _, _, .cons a b => .cons (Dt.ext g a) (DtK.ext g b)
theorem DtF.ext (g : ExtN H H') : ∀ {v : List (Str × V)} {d : List (Str × D)}, DtF K H v d → DtF K H' v d
  | _, _, .nil => .nil
  | _, _, .cons a b => .cons (Dt.ext g a) (DtF.ext g b)
end
theorem wo_ext {B : Addr → Bool} (g : ExtN H H') : ExtN (wo B H) (wo B H') := fun b o e n => by
  unfold wo at e ⊢
  by_cases c : B b = true
  · rw [if_pos c] at e; cases e
  · rw [if_neg c] at e ⊢; exact g b o e n
variable {m c g : Addr} {r : Nat} {v : V} {d : D}
theorem Ap.ext (h : Ap K m g H v d) (e : ExtN H H') : Ap K m g H' v d := Dt.ext (wo_ext e) h
theorem MAt.ext (h : MAt m c g H r) (e : ExtN H H') : MAt m c g H' r := by
  obtain ⟨⟨n, cs, gs, h1, h2, h3, h4⟩, ne⟩ := h
  exact ⟨⟨n, cs, gs, e _ _ h1 (fun _ z => by cases z), e _ _ h2 (fun _ z => by cases z), e _ _ h3 (fun _ z => by cases z), h4⟩, ne⟩
theorem Tabs.kp {T : List (Addr × Str)} (t : Tabs T H) (M : MAt m c g H r) (k : Kp m g H H') : Tabs T H' := fun p hp => by
  obtain ⟨ps, h1, h2, h3⟩ := t p hp
  obtain ⟨⟨n, cs, gs, e1, e2, e3, _⟩, _⟩ := M
  refine ⟨ps, k _ _ (fun z => ?_) (fun z => ?_) h1, h2, fun pos cv hc => ?_⟩
  · rw [z, e1] at h1; cases h1
  · rw [z, e3] at h1; cases h1
  · obtain ⟨c0, q1, q2⟩ := h3 pos cv hc
    refine ⟨c0, q1, k _ _ (fun z => ?_) (fun z => ?_) q2⟩
    · rw [z, e1] at q2; unfold CodeO at q2; cases q2
    · rw [z, e3] at q2; unfold CodeO at q2; cases q2
theorem Tabs.sm {T : List (Addr × Str)} (t : Tabs T H) (s : Same H H') : Tabs T H' := t.ext s
end
end TSx

/-! Own layer, part A8: except (C1, C2) as n. -/
namespace TSx
open PySem L2 PySem.Spec PyProof.Rows
/-- what the one clause wishes -/
def w2 (K : PySem.W.Frag) (D : Ends) (c1 c2 : Value) (i : Nat) (ts : TS) : WX := fun cls d σ H => PySem.W.exmAny K cls [c1, c2] = some true ∧ ∃ (C dd : Addr), cls = .ref C ∧ d = some dd ∧ ∀ a, H a = none → ts { nx := fun σ' H' => D.nx (σ'.set i none) H', rt := D.rt, bk := fun σ' H' => D.bk (σ'.set i none) H', ct := fun σ' H' => D.ct (σ'.set i none) H' } (σ.set i (some (.ref a))) (upd H a (exq a C dd))
section
variable {X : Cx} {body : List Stmt} {x1 x2 n : Str} {c1 c2 : Value} {p1 p2 tpos pos pos' : Pos} {kk i : Nat} {b₀ : Stmt} {suite : List Stmt} {ts : TS} {tb : WX → TS} {Wout : WX}
end
end TSx

/-! Own layer, part W1: a def whose code object is known (it makes lambdas); a callee that lets none out; how a written lambda stands. -/
namespace TSx
open PySem L2 PySem.Spec PyProof.Rows LamX
structure FunC (K : PySem.W.Frag) (x : Str) (st : Stmt) (f : Addr) (fd : FuncData) (c : Addr) : Prop where
  ex : ∃ (oc : Value) (od : Option Addr) (kV doc pm : Value) (an : Option Addr) (ct : Value) (osl : Array (Option Value)),
    fd = PySem.W.fnOf x x (defArgs st) (defBody st) (defScope st) .none kV doc pm an (.ref c) ct ∧ K.lookup f = some ⟨oc, od, .func fd, osl⟩ ∧ PySem.W.codeIn K (.ref c) x = true
  kp : PySem.W.keepIn K (.ref f) = true
theorem FunC.fun {K : PySem.W.Frag} {x : Str} {st : Stmt} {f : Addr} {fd : FuncData} {c : Addr} (F : FunC K x st f fd c) : L2.Fun K x x st f fd := by
  obtain ⟨⟨oc, od, kV, doc, pm, an, ct, osl, h⟩, kp⟩ := F
  exact ⟨⟨oc, od, kV, doc, pm, an, _, ct, osl, h⟩, kp⟩
theorem funC_mk {K : PySem.W.Frag} {x : Str} {st : Stmt} {f c : Addr} {oc : Value} {od an : Option Addr} {osl : Array (Option Value)} {kV doc pm ct : Value} (l : K.lookup f = some ⟨oc, od, .func (PySem.W.fnOf x x (defArgs st) (defBody st) (defScope st) .none kV doc pm an (.ref c) ct), osl⟩)
    (cd : PySem.W.codeIn K (.ref c) x = true) (k : PySem.W.keepIn K (.ref f) = true) : FunC K x st f (PySem.W.fnOf x x (defArgs st) (defBody st) (defScope st) .none kV doc pm an (.ref c) ct) c := ⟨⟨oc, od, kV, doc, pm, an, ct, osl, rfl, l, cd⟩, k⟩
theorem fnG_ofC {P : Program} {w : World} {K : PySem.W.Frag} {mg : Str → Option Value} {base : Heap} {k : Nat} {f : Addr} {x : Str} {c : Addr} {st : Stmt} {fd : FuncData} {N ps : List Str} {sp : Sp}
    (F : FunC K x st f fd c) (S : FnScope N ps (defScope st)) (sz : ∀ vs H Q E, sp vs H Q E → vs.length = ps.length)
    (B : ∀ (A : Around) (outer : List Env) (s : Shared) (H : Hp) (vs : List V) (Q : VK) (E : XK), A.guards = some [] → Room k (A.deeper (envOfC x (defScope st) s.heap.objs.size f (.ref c))) → sp vs H Q E →
      ∃ t, PSs (cxOf CX0 P w K mg base N x (defScope st) f (.ref c) A outer s H E).nox (defBody st) t ∧ t { nx := fun _ H' => Q .non H', rt := Q } (start N vs) H) :
    FnG P w K mg base CX0 (k + 1) f fd ps sp := by
  obtain ⟨oc, od, kV, doc, pm, an, ct, osl, rfl, lk, hcd⟩ := F.ex
  refine ⟨sz, fun A outer s H args us vs Q E g hr e0 hb r hsp => ?_⟩
  -- the same def, its promise cut down to this very call: then the library's rule serves
  obtain ⟨t, ht', hq⟩ := B A outer s H vs Q E g (hr.deeper _) hsp
  have ht := ht'.nox
  have KX : K.In s.heap := e0.mod.kin.keeps fun b o e => (e0.bs b o e).1
  refine codeAny_call_function hr.depth (KX _ _ lk) rfl S.co S.gen rfl (PySem.W.codeRec_of KX hcd) (hb _ _ _ _ ?_)
  have kinds : ∀ y ∈ ps.zip us, (defScope st).names.lookup y.1 = some .local ∨ ((defScope st).names.lookup y.1 = some .cell ∧ ((cellsFrom (s.heap.objs.size + 1) (defScope st).names []).lookup y.1).isSome = true) := by
    intro y hy
    obtain ⟨n, v⟩ := y
    cases S.par n (List.of_mem_zip hy).1 with
    | inl q => exact Or.inl q
    | inr q => exact Or.inr ⟨q, PySem.W.cellsFrom_some _ _ _ (Or.inl q)⟩
  refine wpAny_newFunctionEnv_cells S.kind kinds fun env he s1 ic => ?_
  subst he
  have nolim : s.heap.NoLimit := e0.mod.nolimit.keeps fun b o e => (e0.bs b o e).1
  refine ⟨nolim.keeps ic.toInCall.keep, codeAny_func ?_⟩
  have J := inv_start (CX := CX0) (E := E) S hr.hd e0 (sz _ _ _ _ hsp) r ic
  refine wpAny_mono (ht.run [] s1 (start N vs) H _ J hq) (fun fl s' z => ?_) fun _ _ z => z
  match fl, z with
  | .ret u, z =>
    obtain ⟨v, σ', H', I, rv, q⟩ := z
    exact ⟨v, H', I.os, I.bare, I.base, I.hok, rv, q⟩
  | .next, z =>
    obtain ⟨σ', H', I, q⟩ := z
    exact ⟨V.non, H', I.os, I.bare, I.base, I.hok, rfl, q⟩
  | .brk, z =>
    obtain ⟨_, _, _, q⟩ := z
    exact q.elim
  | .cont, z =>
    obtain ⟨_, _, _, q⟩ := z
    exact q.elim
theorem loc_of {names : List (Str × NameKind)} {N : List Str} (h : ∀ p ∈ names, p.2 = .local → p.1 ∉ N) : ∀ y, names.lookup y = some .local → y ∉ N := fun y e => h _ (PySem.mem_of_lookup e) rfl
end TSx

/-! Own layer, part U1: list of a text, a tuple times one, what stays where a list of refs is written; growing with tables. -/
namespace TSx
open PySem L2 PySem.Spec PyProof.Rows LamX
/-! ### what stays where a list of refs is written -/
mutual
/-- each list in it is one of texts, and not empty; no dict -/
def D.sl : D → Bool
  | .non => true
  | .bl _ => true
  | .int _ => true
  | .str _ => true
  | .lst xs => !xs.isEmpty && xs.all fun d => match d with | .str _ => true | _ => false
  | .tup xs => slA xs
  | .dic _ => false
  | .exc _ _ => false
  | .ob _ => false
  | .frd _ => false
  | .tpb _ => false
  | .frn _ _ => false
  | .fnv _ _ _ _ _ _ => false
def slA : List D → Bool
  | [] => true
  | d :: ds => d.sl && slA ds
end
section
variable {K : PySem.W.Frag} {H H' : Hp} {L : Addr} {ys : List V} {o : HO}
mutual
theorem Dt.ovr (hL : H L = some (.lst ys)) (hy : ∀ y ∈ ys, ∃ a, y = V.ref a) : ∀ {v : V} {d : D}, Dt K H v d → d.sl = true → Dt K (upd H L o) v d
  | _, _, .non, _ => .non
  | _, _, .bl b, _ => .bl b
  | _, _, .int i, _ => .int i
  | _, _, .str x, _ => .str x
  | .ref p, .lst ds, @Dt.lst _ _ _ xs _ e aa, h => by
    simp only [D.sl, Bool.and_eq_true, List.all_eq_true] at h
    have fl : ∀ d ∈ ds, d.sc = true := fun d hd => by
      have := h.2 d hd
      cases d <;> first | rfl | cases this
    have ne : p ≠ L := fun z => by
      subst z
      rw [hL] at e
      cases e
      cases aa with
      | nil => exact absurd h.1 (by simp)
      | @cons v vs d ds a b =>
        obtain ⟨c, rfl⟩ := hy v (List.mem_cons_self ..)
        have q := h.2 d (List.mem_cons_self ..)
        cases a <;> cases q
    exact .lst (by rw [upd_ne ne]; exact e) (aa.any fl)
  | _, _, .tup e aa, h => by
    refine .tup ?_ (DtA.ovr hL hy aa h)
    rcases e with (e | ⟨u, e⟩) | e
    · exact Or.inl (Or.inl (by rw [upd_ne (fun z => by rw [z, hL] at e; cases e)]; exact e))
    · exact Or.inl (Or.inr ⟨u, by rw [upd_ne (fun z => by rw [z, hL] at e; cases e)]; exact e⟩)
    · exact Or.inr e
  | _, _, .dic e aa, h => by cases h
  | _, _, .exc e f aa, h => by cases h
  | _, _, .ob _, h => by cases h
  | _, _, .frd e aa, h => by cases h
  | _, _, .tpb e n aa, h => by cases h
  | _, _, .frn e aa, h => by cases h
  | _, _, .fnv _ _ _ _, h => by cases h
theorem DtA.ovr (hL : H L = some (.lst ys)) (hy : ∀ y ∈ ys, ∃ a, y = V.ref a) : ∀ {v : List V} {d : List D}, DtA K H v d → slA d = true → DtA K (upd H L o) v d
  | _, _, .nil, _ => .nil
  | _, _, .cons a b, h => by
    simp only [slA, Bool.and_eq_true] at h
    exact .cons (Dt.ovr hL hy a h.1) (DtA.ovr hL hy b h.2)
end
/-! ### the memo changed, tables grown -/
def Kt (m g : Addr) (H H' : Hp) : Prop := ∀ b o, b ≠ m → b ≠ g → H b = some o → (∀ ps, o ≠ .tbl ps) → H' b = some o
variable {m c g : Addr} {v : V} {d : D} {H1 H2 : Hp}
theorem Kt.rf : Kt m g H H := fun _ _ _ _ e _ => e
theorem Kt.kp (h : Kp m g H H') : Kt m g H H' := fun b o h1 h2 e _ => h b o h1 h2 e
theorem Kt.ext (h : ExtN H H') : Kt m g H H' := fun b o _ _ e n => h b o e n
theorem wo_kt (s : Kt m g H H') : ExtN (wo (B2 m g) H) (wo (B2 m g) H') := fun b o e n => by
  unfold wo at e ⊢
  by_cases z : B2 m g b = true
  · rw [if_pos z] at e; cases e
  · rw [if_neg z] at e ⊢
    exact s b o (fun y => z (by rw [y]; exact B2_m)) (fun y => z (by rw [y]; exact B2_g)) e n
theorem Ap.kt (h : Ap K m g H v d) (k : Kt m g H H') : Ap K m g H' v d := Dt.ext (wo_kt k) h
theorem Kt.tr (a : Kt m g H H1) (b : Kt m g H1 H2) : Kt m g H H2 := fun x o h1 h2 e n => b x o h1 h2 (a x o h1 h2 e n) n
end
end TSx

/-! Own layer, part J0: what the drawn houses and stands need. -/
namespace TSx
open PySem L2
mutual
def D.nl : D → Bool
  | .tup xs => nlA xs
  | .non => true
  | .bl _ => true
  | .int _ => true
  | .str _ => true
  | _ => false
def nlA : List D → Bool
  | [] => true
  | x :: xs => x.nl && nlA xs
end
/-! ### tuples stay where other things are written -/
def KT (H H' : Hp) : Prop := ∀ (b : Addr) (xs : List V), (H b = some (.tup xs) → H' b = some (.tup xs)) ∧ ∀ u, H b = some (.frz u (.tup xs)) → H' b = some (.frz u (.tup xs))
theorem KT.of {H H' : Hp} (s : Same H H') : KT H H' := fun b xs => ⟨s b _, fun u => s b _⟩
theorem KT.tr {H H1 H2 : Hp} (a : KT H H1) (b : KT H1 H2) : KT H H2 := fun x xs => ⟨fun e => (b x xs).1 ((a x xs).1 e), fun u e => (b x xs).2 u ((a x xs).2 u e)⟩
theorem KT.kp {m c g : Addr} {H H' : Hp} {r : Nat} (M : MAt m c g H r) (k : Kp m g H H') : KT H H' := by
  obtain ⟨⟨n, cs, gs, h1, h2, h3, _⟩, _⟩ := M
  exact fun b xs => ⟨fun e => k b _ (fun z => by rw [z, h1] at e; cases e) (fun z => by rw [z, h3] at e; cases e) e, fun u e => k b _ (fun z => by rw [z, h1] at e; cases e) (fun z => by rw [z, h3] at e; cases e) e⟩
mutual
theorem Dt.kt {K : PySem.W.Frag} {H H' : Hp} (k : KT H H') : ∀ {d : D} {v : V}, Dt K H v d → d.nl = true → Dt K H' v d
  | .non, _, h, _ => by cases h; exact .non
  | .bl b, _, h, _ => by cases h; exact .bl b
  | .int i, _, h, _ => by cases h; exact .int i
  | .str x, _, h, _ => by cases h; exact .str x
  | .lst _, _, _, f => by cases f
  | .dic _, _, _, f => by cases f
  | .exc _ _, _, _, f => by cases f
  | .ob _, _, _, f => by cases f
  | .frd _, _, _, f => by cases f
  | .tpb _, _, _, f => by cases f
  | .frn _ _, _, _, f => by cases f
  | .fnv _ _ _ _ _ _, _, _, f => by cases f
  | .tup ds, _, h, f => by
    cases h with
    | @tup a xs _ e aa =>
    refine .tup ?_ (DtA.kt k aa f)
    rcases e with (e | ⟨u, e⟩) | e
    · exact Or.inl (Or.inl ((k a xs).1 e))
    · exact Or.inl (Or.inr ⟨u, (k a xs).2 u e⟩)
    · exact Or.inr e
theorem DtA.kt {K : PySem.W.Frag} {H H' : Hp} (k : KT H H') : ∀ {ds : List D} {vs : List V}, DtA K H vs ds → nlA ds = true → DtA K H' vs ds
  | [], _, h, _ => by cases h; exact .nil
  | d :: ds, _, h, f => by
    cases h with
    | cons a b =>
    simp only [nlA, Bool.and_eq_true] at f
    exact .cons (Dt.kt k a f.1) (DtA.kt k b f.2)
end
/-! ### the houses that are drawn -/
def common (ns : List Int) : Nat := if ns = [1, 2, 3, 4, 6] then 12 else if ns = [1, 2, 3] then 6 else if ns = [1, 2, 4] then 4 else if ns = [1, 5] then 5 else if ns = [2, 3, 3] then 6 else 1
end TSx

/-! Own layer, part Z5: zip of a text and a tuple. -/
namespace TSx
open PySem L2 PySem.Spec PyProof.Rows
end TSx

/-! Own layer, part V0: comprehensions whose things are tuples; a few rules with K given; zip of a text and a tuple. -/
namespace TSx
open PySem L2
section
variable {K : PySem.W.Frag} {σ : Sg} {H H0 : Hp} {te ta tb tc ti : TE} {α : Type}
end
end TSx

/-! Own layer, part Y0: readings over data alone. A def's own lists and the law's drawn state stand hidden (Vw.Z); each reading of the heap is tied to one over data (EV, TV, ..), draws being any value below their limit. -/
namespace TSx
open PySem L2
/-- what a slot holds -/
inductive Sl where
  | d (x : D) | own (xs : List D) | memo | scr (ns : List Int)
abbrev SD := List (Option Sl)
def Sl.no : Sl → Bool
  | .own _ => false
  | _ => true
structure Vw where
  Z : Addr → Bool
  mm : Option (Addr × Addr × Addr)
def Vw.mut (U : Vw) (b : Addr) : Prop := ∃ m c g, U.mm = some (m, c, g) ∧ (b = m ∨ b = g)
def Vw.see (U : Vw) (H : Hp) : Hp := wo U.Z H
def Step (U : Vw) (H H' : Hp) : Prop := ∀ b o, ¬ U.mut b → H b = some o → H' b = some o
structure Ok (U : Vw) (H : Hp) (r : Nat) : Prop where
  dom : ∀ b, U.Z b = true → H b ≠ none
  memo : ∀ m c g, U.mm = some (m, c, g) → U.Z m = true ∧ U.Z c = true ∧ U.Z g = true ∧ MAt m c g H r
section
variable {U : Vw} {H H' H1 H2 : Hp} {r : Nat} {K : PySem.W.Frag}
theorem Ok.mutZ (h : Ok U H r) {b : Addr} (m : U.mut b) : U.Z b = true := by
  obtain ⟨m, c, g, e, z⟩ := m
  obtain ⟨h1, h2, h3, _⟩ := h.memo _ _ _ e
  rcases z with rfl | rfl
  · exact h1
  · exact h3
theorem Step.rf : Step U H H := fun _ _ _ e => e
theorem Step.tr (a : Step U H H1) (b : Step U H1 H2) : Step U H H2 := fun x o n e => b x o n (a x o n e)
theorem Step.of (s : Same H H') : Step U H H' := fun b o _ e => s b o e
theorem see_at {b : Addr} (h : U.Z b = false) : U.see H b = H b := wo_at h
theorem see_of {b : Addr} {o : HO} (h : U.see H b = some o) : U.Z b = false ∧ H b = some o := by
  unfold Vw.see wo at h
  by_cases z : U.Z b = true
  · rw [if_pos z] at h; cases h
  · rw [if_neg z] at h; exact ⟨by simpa using z, h⟩
theorem see_le : Same (U.see H) H := wo_le
theorem Step.see (s : Step U H H') (ok : Ok U H r) : Same (U.see H) (U.see H') := fun b o e => by
  obtain ⟨z, e⟩ := see_of e
  rw [see_at z]
  exact s b o (fun m => by rw [ok.mutZ m] at z; cases z) e
theorem Ok.same (ok : Ok U H r) (s : Same H H') : Ok U H' r := ⟨fun b z n => ok.dom b z (gr_none s n), fun m c g e => by
  obtain ⟨a1, a2, a3, a4⟩ := ok.memo m c g e
  exact ⟨a1, a2, a3, a4.same s⟩⟩
theorem Ok.apart (ok : Ok U H r) {p : Addr} (n : H p = none) : U.Z p = false := by
  cases e : U.Z p with
  | false => rfl
  | true => exact absurd n (ok.dom p e)
theorem see_new (ok : Ok U H r) {p : Addr} {o : HO} (n : H p = none) : U.see (upd H p o) p = some o := by rw [see_at (ok.apart n), upd_same]
theorem see_same (s : Same H H') : Same (U.see H) (U.see H') := wo_same s
theorem see_hid {p : Addr} {o : HO} (h : U.Z p = true) : U.see (upd H p o) = U.see H := by
  funext b
  unfold Vw.see wo
  by_cases z : U.Z b = true
  · rw [if_pos z, if_pos z]
  · rw [if_neg z, if_neg z, upd_ne (fun e => z (by rw [e]; exact h))]
theorem gr_L {a : Addr} {xs : List V} (g : Gr H H') (h : SqL K H a xs) : SqL K H' a xs := by
  rcases h with (h | ⟨o, h⟩) | h
  · exact Or.inl (Or.inl (g _ _ h))
  · exact Or.inl (Or.inr ⟨o, g _ _ h⟩)
  · exact Or.inr h
end
def SlOk (K : PySem.W.Frag) (U : Vw) (H : Hp) : Sl → V → Prop
  | .d x, v => Dt K (U.see H) v x
  | .own xs, v => ∃ p vs, v = .ref p ∧ U.Z p = true ∧ ¬ U.mut p ∧ H p = some (.lst vs) ∧ DtA K (U.see H) vs xs
  | .memo, v => ∃ m c g, U.mm = some (m, c, g) ∧ v = .ref m
  | .scr ns, v => ∃ a, v = .ref a ∧ SqL K (U.see H) a (ns.map V.int)
/-- a wider view: more hidden, all that was seen stands -/
structure Wid (U : Vw) (H : Hp) (U' : Vw) (H' : Hp) : Prop where
  see : Same (U.see H) (U'.see H')
  z : ∀ b, U.Z b = true → U'.Z b = true
  mm : U'.mm = U.mm
  st : Step U H H'
theorem Wid.of {U : Vw} {H H' : Hp} {r : Nat} (ok : Ok U H r) (s : Step U H H') : Wid U H U H' := ⟨s.see ok, fun _ z => z, rfl, s⟩
theorem SlOk.wid {K : PySem.W.Frag} {U U' : Vw} {H H' : Hp} (w : Wid U H U' H') : ∀ {s : Sl} {v : V}, SlOk K U H s v → SlOk K U' H' s v
  | .d x, v, h => Dt.gr w.see h
  | .own xs, v, h => by
    obtain ⟨p, vs, e, z, n, hp, a⟩ := h
    refine ⟨p, vs, e, w.z p z, fun m => n ?_, w.st p _ n hp, a.gr w.see⟩
    obtain ⟨m, c, g, e, q⟩ := m
    exact ⟨m, c, g, by rw [← w.mm]; exact e, q⟩
  | .memo, v, h => by
    obtain ⟨m, c, g, e, q⟩ := h
    exact ⟨m, c, g, by rw [w.mm]; exact e, q⟩
  | .scr ns, v, h => by
    obtain ⟨a, e, q⟩ := h
    exact ⟨a, e, gr_L w.see q⟩
structure RelE (K : PySem.W.Frag) (U : Vw) (H : Hp) (σ : Sg) (δ : SD) : Prop where
  len : σ.length = δ.length
  at' : ∀ (i : Nat) (s : Sl), δ[i]? = some (some s) → ∃ v, σ[i]? = some (some v) ∧ SlOk K U H s v
theorem RelE.wid {K : PySem.W.Frag} {U U' : Vw} {H H' : Hp} {σ : Sg} {δ : SD} (h : RelE K U H σ δ) (w : Wid U H U' H') : RelE K U' H' σ δ := ⟨h.len, fun i s e => by
  obtain ⟨v, e1, a⟩ := h.at' i s e
  exact ⟨v, e1, a.wid w⟩⟩
theorem RelE.step {K : PySem.W.Frag} {U : Vw} {H H' : Hp} {σ : Sg} {δ : SD} {r : Nat} (h : RelE K U H σ δ) (ok : Ok U H r) (s : Step U H H') : RelE K U H' σ δ := h.wid (Wid.of ok s)
theorem RelE.set {K : PySem.W.Frag} {U : Vw} {H : Hp} {σ : Sg} {δ : SD} (h : RelE K U H σ δ) {i : Nat} {s : Sl} {v : V} (a : SlOk K U H s v) : RelE K U H (σ.set i (some v)) (δ.set i (some s)) := ⟨by rw [List.length_set, List.length_set]; exact h.len, fun j t e => by
  by_cases z : i = j
  · subst z
    rw [List.getElem?_set_self' ] at e
    cases q : δ[i]? with
    | none => rw [q] at e; cases e
    | some x =>
      rw [q] at e
      cases e
      have l : i < σ.length := by rw [h.len]; exact (List.getElem?_eq_some_iff.mp q).1
      exact ⟨v, by rw [List.getElem?_set_self l], a⟩
  · rw [List.getElem?_set_ne z] at e ⊢
    exact h.at' j t e⟩
def SlsOk (K : PySem.W.Frag) (U : Vw) (H : Hp) : List Sl → List V → Prop
  | [], [] => True
  | s :: ss, v :: vs => (SlOk K U H s v ∧ s.no = true) ∧ SlsOk K U H ss vs
  | _, _ => False
theorem SlsOk.wid {K : PySem.W.Frag} {U U' : Vw} {H H' : Hp} (w : Wid U H U' H') : ∀ {ss : List Sl} {vs : List V}, SlsOk K U H ss vs → SlsOk K U' H' ss vs
  | [], [], _ => trivial
  | s :: ss, v :: vs, h => ⟨⟨h.1.1.wid w, h.1.2⟩, SlsOk.wid w h.2⟩
  | [], _ :: _, h => h.elim
  | _ :: _, [], h => h.elim
theorem SlsOk.len {K : PySem.W.Frag} {U : Vw} {H : Hp} : ∀ {ss : List Sl} {vs : List V}, SlsOk K U H ss vs → vs.length = ss.length
  | [], [], _ => rfl
  | s :: ss, v :: vs, h => by rw [List.length_cons, List.length_cons, SlsOk.len h.2]
  | [], _ :: _, h => h.elim
  | _ :: _, [], h => h.elim
/-! ### readings over data -/
abbrev EV := SD → Nat → (D → Nat → Prop) → Prop
abbrev TV := SD → Nat → (Bool → Nat → Prop) → Prop
abbrev AV := SD → Nat → (List Sl → Nat → Prop) → Prop
abbrev IV := SD → Nat → (List D → Nat → Prop) → Prop
abbrev GV := D → SD → Option SD
abbrev SPEC := List Sl → Nat → (D → Nat → Prop) → Prop
def SndE (K : PySem.W.Frag) (te : TE) (ev : EV) : Prop := ∀ (U : Vw) (σ : Sg) (δ : SD) (H : Hp) (r : Nat) (P : D → Nat → Prop) (Q : VK), Ok U H r → RelE K U H σ δ → ev δ r P →
  (∀ d r' v H', P d r' → Step U H H' → Ok U H' r' → Dt K (U.see H') v d → Q v H') → te σ H Q
def SndT (K : PySem.W.Frag) (tt : TT) (tv : TV) : Prop := ∀ (U : Vw) (σ : Sg) (δ : SD) (H : Hp) (r : Nat) (P : Bool → Nat → Prop) (Q : Bool → Hp → Prop), Ok U H r → RelE K U H σ δ → tv δ r P →
  (∀ b r' H', P b r' → Step U H H' → Ok U H' r' → Q b H') → tt σ H Q
def SndA (K : PySem.W.Frag) (ta : TA) (av : AV) : Prop := ∀ (U : Vw) (σ : Sg) (δ : SD) (H : Hp) (r : Nat) (P : List Sl → Nat → Prop) (Q : List V → Hp → Prop), Ok U H r → RelE K U H σ δ → av δ r P →
  (∀ ss r' vs H', P ss r' → Step U H H' → Ok U H' r' → SlsOk K U H' ss vs → Q vs H') → ta σ H Q
/-- a def's promise -/
def spW (K : PySem.W.Frag) (S : SPEC) : Sp := fun vs H Q _ => ∃ (U : Vw) (r : Nat) (ss : List Sl) (P : D → Nat → Prop), Ok U H r ∧ SlsOk K U H ss vs ∧ S ss r P ∧
  ∀ d r' v H', P d r' → Step U H H' → Ok U H' r' → Dt K (U.see H') v d → Q v H'
/-! ### expressions -/
def eVar (n : Nat) : EV := fun δ r P => match δ[n]? with
  | some (some (.d x)) => P x r
  | _ => False
def eC (d : D) : EV := fun _ r P => P d r
def eOp (op : D → D → Option D) (a b : EV) : EV := fun δ r P => a δ r fun d r1 => b δ r1 fun e r2 => ∃ z, op d e = some z ∧ P z r2
def eUn (op : D → Option D) (a : EV) : EV := fun δ r P => a δ r fun d r1 => ∃ z, op d = some z ∧ P z r1
def eCB (f : List Sl → Option D) (a : AV) : EV := fun δ r P => a δ r fun ss r1 => ∃ z, f ss = some z ∧ P z r1
def eM1 (f : D → D → Option D) (a b : EV) : EV := fun δ r P => a δ r fun d r1 => (∃ s, d = .str s) ∧ b δ r1 fun e r2 => ∃ z, f d e = some z ∧ P z r2
def eCall (S : SPEC) (a : AV) : EV := fun δ r P => a δ r fun ss r1 => S ss r1 P
def eIf (t : TV) (a b : EV) : EV := fun δ r P => t δ r fun c r1 => cond c (a δ r1 P) (b δ r1 P)
def eAnd (a b : EV) : EV := fun δ r P => a δ r fun d r1 => ∃ c, d = .bl c ∧ cond c (b δ r1 P) (P (.bl false) r1)
def eOr (a b : EV) : EV := fun δ r P => a δ r fun d r1 => ∃ c, d = .bl c ∧ cond c (P (.bl true) r1) (b δ r1 P)
def eNot (a : EV) : EV := fun δ r P => a δ r fun d r1 => ∃ c, d = .bl c ∧ P (.bl (!c)) r1
def datas : List Sl → Option (List D)
  | [] => some []
  | .d x :: ss => (datas ss).map (x :: ·)
  | _ :: _ => none
def eTup (a : AV) : EV := eCB (fun ss => match datas ss with | some ds => if ds.length ≤ 100000 then some (.tup ds) else none | none => none) a
def eLst (a : AV) : EV := eCB (fun ss => match datas ss with | some ds => if ds.length ≤ 100000 then some (.lst ds) else none | none => none) a
def eChain (f g : D → D → Option D) (a b c : EV) : EV := fun δ r P => a δ r fun x r1 => b δ r1 fun y r2 => ∃ z, f x y = some z ∧ ∃ k, z = .bl k ∧ cond k (c δ r2 fun w r3 => ∃ z, g y w = some z ∧ P z r3) (P (.bl false) r2)
def aNil : AV := fun _ r P => P [] r
def aCons (e : EV) (a : AV) : AV := fun δ r P => e δ r fun d r1 => a δ r1 fun ss r2 => P (.d d :: ss) r2
def aMemo (n : Nat) (a : AV) : AV := fun δ r P => match δ[n]? with
  | some (some .memo) => a δ r fun ss r2 => P (.memo :: ss) r2
  | _ => False
def aScr (n : Nat) (a : AV) : AV := fun δ r P => match δ[n]? with
  | some (some (.scr ns)) => a δ r fun ss r2 => P (.scr ns :: ss) r2
  | _ => False
def vE (e : EV) : TV := fun δ r P => e δ r fun d r1 => ∃ b, d = .bl b ∧ P b r1
def vNot (t : TV) : TV := fun δ r P => t δ r fun b r1 => P (!b) r1
def vAnd (t u : TV) : TV := fun δ r P => t δ r fun b r1 => cond b (u δ r1 P) (P false r1)
def vOr (t u : TV) : TV := fun δ r P => t δ r fun b r1 => cond b (P true r1) (u δ r1 P)
def vYes : TV := fun _ r P => P true r
section
variable {K : PySem.W.Frag} {ta tb tc te : TE} {ea eb ec ee : EV} {t u : TT} {tv uv : TV} {tA : TA} {av : AV}
def OpS (K : PySem.W.Frag) (rd : R2) (op : D → D → Option D) : Prop := ∀ (U : Vw) (H : Hp) (r : Nat) (x y : V) (d e z : D) (Q : VK), Ok U H r → Dt K (U.see H) x d → Dt K (U.see H) y e → op d e = some z → (∀ v H', Same H H' → Dt K (U.see H') v z → Q v H') → rd x y H Q
def CbS (K : PySem.W.Frag) (rd : List V → Hp → VK → Prop) (f : List Sl → Option D) : Prop := ∀ (U : Vw) (H : Hp) (r : Nat) (ss : List Sl) (vs : List V) (z : D) (Q : VK), Ok U H r → SlsOk K U H ss vs → f ss = some z → (∀ v H', Same H H' → Dt K (U.see H') v z → Q v H') → rd vs H Q
theorem snd_var {n : Nat} : SndE K (tVar n) (eVar n) := fun U σ δ H r P Q ok rel h k => by
  unfold eVar at h
  split at h
  · rename_i x e
    obtain ⟨v, e1, a⟩ := rel.at' n _ e
    exact ⟨v, e1, k _ _ _ _ h Step.rf ok a⟩
  · exact h.elim
theorem snd_c {v : V} {d : D} (a : Dt K (fun _ => none) v d) : SndE K (tC v) (eC d) := fun U σ δ H r P Q ok rel h k => k _ _ _ _ h Step.rf ok (a.gr fun _ _ e => by cases e)
theorem snd_non : SndE K (tC .non) (eC .non) := snd_c .non
theorem snd_int {i : Int} : SndE K (tC (.int i)) (eC (.int i)) := snd_c (.int i)
theorem snd_str {x : Str} : SndE K (tC (.str x)) (eC (.str x)) := snd_c (.str x)
theorem snd_bl {b : Bool} : SndE K (tC (.bl b)) (eC (.bl b)) := snd_c (.bl b)
theorem snd_op {rd : R2} {op : D → D → Option D} (o : OpS K rd op) (ha : SndE K ta ea) (hb : SndE K tb eb) : SndE K (tOp rd ta tb) (eOp op ea eb) := fun U σ δ H r P Q ok rel h k =>
  ha U σ δ H r _ _ ok rel h fun d r1 x H1 h1 s1 ok1 a1 => hb U σ δ H1 r1 _ _ ok1 (rel.step ok s1) h1 fun e r2 y H2 h2 s2 ok2 a2 => by
    obtain ⟨z, hz, p⟩ := h2
    exact o U H2 r2 x y d e z Q ok2 (a1.gr (s2.see ok1)) a2 hz fun v H' s a => k z r2 v H' p ((s1.tr s2).tr (Step.of s)) (ok2.same s) a
theorem snd_cb {rd : List V → Hp → VK → Prop} {f : List Sl → Option D} (o : CbS K rd f) (ha : SndA K tA av) : SndE K (tCB rd tA) (eCB f av) := fun U σ δ H r P Q ok rel h k =>
  ha U σ δ H r _ _ ok rel h fun ss r1 vs H1 h1 s1 ok1 a1 => by
    obtain ⟨z, hz, p⟩ := h1
    exact o U H1 r1 ss vs z Q ok1 a1 hz fun v H' s a => k z r1 v H' p (s1.tr (Step.of s)) (ok1.same s) a
theorem snd_call {S : SPEC} (ha : SndA K tA av) : SndE K (tCall (spW K S) [] E0 tA) (eCall S av) := fun U σ δ H r P Q ok rel h k =>
  ha U σ δ H r _ _ ok rel h fun ss r1 vs H1 h1 s1 ok1 a1 => by
    show spW K S (vs ++ []) H1 Q E0
    rw [List.append_nil]
    exact ⟨U, r1, ss, P, ok1, a1, h1, fun d r' v H' p s o a => k d r' v H' p (s1.tr s) o a⟩
theorem snd_and (ha : SndE K ta ea) (hb : SndE K tb eb) : SndE K (tAndV ta tb) (eAnd ea eb) := fun U σ δ H r P Q ok rel h k =>
  ha U σ δ H r _ _ ok rel h fun d r1 x H1 h1 s1 ok1 a1 => by
    obtain ⟨c, rfl, h1⟩ := h1
    cases a1
    refine ⟨c, rfl, ?_⟩
    cases c with
    | true => exact iteT (hb U σ δ H1 r1 P Q ok1 (rel.step ok s1) h1 fun d r' v H' p s o a => k d r' v H' p (s1.tr s) o a)
    | false => exact iteF (k _ _ _ _ h1 s1 ok1 (.bl _))
theorem snd_or (ha : SndE K ta ea) (hb : SndE K tb eb) : SndE K (tOrV ta tb) (eOr ea eb) := fun U σ δ H r P Q ok rel h k =>
  ha U σ δ H r _ _ ok rel h fun d r1 x H1 h1 s1 ok1 a1 => by
    obtain ⟨c, rfl, h1⟩ := h1
    cases a1
    refine ⟨c, rfl, ?_⟩
    cases c with
    | true => exact iteT (k _ _ _ _ h1 s1 ok1 (.bl _))
    | false => exact iteF (hb U σ δ H1 r1 P Q ok1 (rel.step ok s1) h1 fun d r' v H' p s o a => k d r' v H' p (s1.tr s) o a)
theorem snd_not (ha : SndE K ta ea) : SndE K (tNotV ta) (eNot ea) := fun U σ δ H r P Q ok rel h k =>
  ha U σ δ H r _ _ ok rel h fun d r1 x H1 h1 s1 ok1 a1 => by
    obtain ⟨c, rfl, h1⟩ := h1
    cases a1
    exact ⟨c, rfl, k _ _ _ _ h1 s1 ok1 (.bl _)⟩
theorem datas_ok {U : Vw} {H : Hp} : ∀ {ss : List Sl} {vs : List V} {ds : List D}, SlsOk K U H ss vs → datas ss = some ds → DtA K (U.see H) vs ds
  | [], [], ds, _, e => by cases e; exact .nil
  | .d x :: ss, v :: vs, ds, h, e => by
    unfold datas at e
    cases q : datas ss with
    | none => rw [q] at e; cases e
    | some l => rw [q] at e; cases e; exact .cons h.1.1 (datas_ok h.2 q)
  | .own _ :: _, _ :: _, _, _, e => by cases e
  | .memo :: _, _ :: _, _, _, e => by cases e
  | .scr _ :: _, _ :: _, _, _, e => by cases e
  | [], _ :: _, _, h, _ => h.elim
  | _ :: _, [], _, h, _ => h.elim
theorem snd_tup (ha : SndA K tA av) : SndE K (tTup tA) (eTup av) := fun U σ δ H r P Q ok rel h k =>
  ha U σ δ H r _ _ ok rel h fun ss r1 vs H1 h1 s1 ok1 a1 => by
    obtain ⟨z, hz, p⟩ := h1
    dsimp only at hz
    split at hz
    · rename_i ds e
      split at hz
      · rename_i l
        cases hz
        have a := datas_ok a1 e
        refine ⟨by rw [a.len]; exact sz1 l, fun q nq => k _ _ _ _ p (s1.tr (Step.of (same_new nq))) (ok1.same (same_new nq)) (.tup (SqT.of (see_new ok1 nq)) (a.gr (see_same (same_new nq))))⟩
      · cases hz
    · cases hz
theorem snd_lst (ha : SndA K tA av) : SndE K (tLst tA) (eLst av) := fun U σ δ H r P Q ok rel h k =>
  ha U σ δ H r _ _ ok rel h fun ss r1 vs H1 h1 s1 ok1 a1 => by
    obtain ⟨z, hz, p⟩ := h1
    dsimp only at hz
    split at hz
    · rename_i ds e
      split at hz
      · rename_i l
        cases hz
        have a := datas_ok a1 e
        refine ⟨by rw [a.len]; exact sz1 l, fun q nq => k _ _ _ _ p (s1.tr (Step.of (same_new nq))) (ok1.same (same_new nq)) (.lst (see_new ok1 nq) (a.gr (see_same (same_new nq))))⟩
      · cases hz
    · cases hz
theorem snd_chain {rf rg : R2} {f g : D → D → Option D} (of : OpS K rf f) (og : OpS K rg g) (ha : SndE K ta ea) (hb : SndE K tb eb) (hc : SndE K tc ec) : SndE K (tChain rf rg ta tb tc) (eChain f g ea eb ec) := fun U σ δ H r P Q ok rel h k =>
  ha U σ δ H r _ _ ok rel h fun d r1 x H1 h1 s1 ok1 a1 => hb U σ δ H1 r1 _ _ ok1 (rel.step ok s1) h1 fun e r2 y H2 h2 s2 ok2 a2 => by
    obtain ⟨z, hz, c, rfl, p⟩ := h2
    refine of U H2 r2 x y d e _ _ ok2 (a1.gr (s2.see ok1)) a2 hz fun v H3 s a => ?_
    cases a
    refine ⟨c, rfl, ?_⟩
    have sA := (s1.tr s2).tr (Step.of s)
    cases c with
    | false => exact iteF (k _ _ _ _ p sA (ok2.same s) (.bl _))
    | true =>
      refine iteT ?_
      refine hc U σ δ H3 r2 _ _ (ok2.same s) (rel.step ok sA) p fun w r3 u H4 h4 s4 ok4 a4 => ?_
      obtain ⟨z, hz, p⟩ := h4
      exact og U H4 r3 y u e w z Q ok4 ((a2.gr (see_same s)).gr (s4.see (ok2.same s))) a4 hz fun v H' s5 a => k z r3 v H' p ((sA.tr s4).tr (Step.of s5)) (ok4.same s5) a
theorem snd_nil : SndA K tNil aNil := fun U σ δ H r P Q ok rel h k => k _ _ _ _ h Step.rf ok trivial
theorem snd_cons (ha : SndE K te ee) (hr : SndA K tA av) : SndA K (tCons te tA) (aCons ee av) := fun U σ δ H r P Q ok rel h k =>
  ha U σ δ H r _ _ ok rel h fun d r1 x H1 h1 s1 ok1 a1 => hr U σ δ H1 r1 _ _ ok1 (rel.step ok s1) h1 fun ss r2 vs H2 h2 s2 ok2 a2 =>
    k _ _ _ _ h2 (s1.tr s2) ok2 ⟨⟨Dt.gr (s2.see ok1) a1, rfl⟩, a2⟩
theorem snd_memo {n : Nat} (hr : SndA K tA av) : SndA K (tCons (tVar n) tA) (aMemo n av) := fun U σ δ H r P Q ok rel h k => by
  unfold aMemo at h
  split at h
  · rename_i e
    obtain ⟨v, e1, a⟩ := rel.at' n _ e
    exact ⟨v, e1, hr U σ δ H r _ _ ok rel h fun ss r2 vs H2 h2 s2 ok2 a2 => k _ _ _ _ h2 s2 ok2 ⟨⟨a.wid (Wid.of ok s2), rfl⟩, a2⟩⟩
  · exact h.elim
theorem snd_scr {n : Nat} (hr : SndA K tA av) : SndA K (tCons (tVar n) tA) (aScr n av) := fun U σ δ H r P Q ok rel h k => by
  unfold aScr at h
  split at h
  · rename_i e
    obtain ⟨v, e1, a⟩ := rel.at' n _ e
    exact ⟨v, e1, hr U σ δ H r _ _ ok rel h fun ss r2 vs H2 h2 s2 ok2 a2 => k _ _ _ _ h2 s2 ok2 ⟨⟨a.wid (Wid.of ok s2), rfl⟩, a2⟩⟩
  · exact h.elim
theorem snd_test (ha : SndE K te ee) : SndT K (tTest te) (vE ee) := fun U σ δ H r P Q ok rel h k =>
  ha U σ δ H r _ _ ok rel h fun d r1 x H1 h1 s1 ok1 a1 => by
    obtain ⟨b, rfl, p⟩ := h1
    cases a1
    exact ⟨b, rfl, k _ _ _ p s1 ok1⟩
theorem snd_tb (ha : SndE K te ee) : SndT K (tB te) (vE ee) := fun U σ δ H r P Q ok rel h k =>
  ha U σ δ H r _ _ ok rel h fun d r1 x H1 h1 s1 ok1 a1 => by
    obtain ⟨b, rfl, p⟩ := h1
    cases a1
    exact ⟨b, rfl, k _ _ _ p s1 ok1⟩
theorem snd_tnot (ht : SndT K t tv) : SndT K (tNot t) (vNot tv) := fun U σ δ H r P Q ok rel h k => ht U σ δ H r _ _ ok rel h fun b r1 H1 h1 s1 ok1 => k _ _ _ h1 s1 ok1
theorem snd_tand (ht : SndT K t tv) (hu : SndT K u uv) : SndT K (tAnd t u) (vAnd tv uv) := fun U σ δ H r P Q ok rel h k => ht U σ δ H r _ _ ok rel h fun b r1 H1 h1 s1 ok1 => by
  cases b with
  | true => exact iteT (hu U σ δ H1 r1 _ _ ok1 (rel.step ok s1) h1 fun b r' H' p s o => k b r' H' p (s1.tr s) o)
  | false => exact iteF (k _ _ _ h1 s1 ok1)
theorem snd_tor (ht : SndT K t tv) (hu : SndT K u uv) : SndT K (tOr t u) (vOr tv uv) := fun U σ δ H r P Q ok rel h k => ht U σ δ H r _ _ ok rel h fun b r1 H1 h1 s1 ok1 => by
  cases b with
  | true => exact iteT (k _ _ _ h1 s1 ok1)
  | false => exact iteF (hu U σ δ H1 r1 _ _ ok1 (rel.step ok s1) h1 fun b r' H' p s o => k b r' H' p (s1.tr s) o)
theorem snd_yes : SndT K tYes vYes := fun U σ δ H r P Q ok rel h k => k _ _ _ h Step.rf ok
end
end TSx

/-! Own layer, part Z2: zip of two, the pair kept by one name. -/
namespace TSx
open PySem PySem.Spec PyProof.Rows
abbrev IsZipN (h : Heap) (z TI TO T : Addr) (b : Bool) : Prop := h.get? z = some { cls := .type "zip", data := .fields #[rawInt ↑T, .bool b, .bool false, .ref TI, .ref TO] }
section
variable {prog : Program} {w : World} {A : Around} {E : Value → Shared → Prop} {s : Shared} {z TI TO i1 i2 T : Addr} {fp1 fp2 : List Addr} {n1 n2 i : Nat} {P1 P2 : Nat → Value → Prop} {St1 St2 : Nat → Heap → Prop} {b : Bool}
end
end TSx

/-! Own layer, part Z2: zip of two, the pair kept by one name. -/
namespace TSx
open PySem PySem.Spec PyProof.Rows
section
variable {prog : Program} {w : World} {A : Around} {E : Value → Shared → Prop} {s : Shared} {z TI TO i1 i2 T : Addr} {fp1 fp2 : List Addr} {n1 n2 i : Nat} {P1 P2 : Nat → Value → Prop} {St1 St2 : Nat → Heap → Prop} {b : Bool} {a1 a2 : Value}
end
end TSx

/-! Own layer, part Z3: zip of two texts (the pair by one name or two), of a list and a tuple. -/
namespace TSx
open PySem L2 PySem.Spec PyProof.Rows
/-- the same, the pair kept by one name -/
def ZipSt (h : Heap) (z TI TO : Addr) : Prop := IsZip h z TI TO .none ∨ ∃ T b, IsZipN h z TI TO T b
theorem ZipSt.get {h : Heap} {z TI TO : Addr} (s : ZipSt h z TI TO) : ∃ f0 b, h.get? z = some { cls := .type "zip", data := .fields #[f0, .bool b, .bool false, .ref TI, .ref TO] } := by
  rcases s with s | ⟨T, b, s⟩
  · exact ⟨_, _, s⟩
  · exact ⟨_, _, s⟩
section
variable {X : Cx} {e e2 : Expr} {ta : TA} {p pos tpos : Pos} {elts : List Expr} {kk : Nat}
end
end TSx

/-! Own layer, part Z4: zip of a list and a tuple. -/
namespace TSx
open PySem L2 PySem.Spec PyProof.Rows
end TSx

/-! Own layer, part Y1: what is gone through, what is stored to, comprehensions, over data. -/
namespace TSx
open PySem L2
def YD (K : PySem.W.Frag) (G H : Hp) (x : V) (H' : Hp) (d : D) : Prop := (H' = H ∧ Dt K G x d) ∨ ∃ (T : Addr) (vs : List V) (es : List D), x = .ref T ∧ H T = none ∧ H' = upd H T (.tup vs) ∧ d = .tup es ∧ DtA K G vs es
structure ItD (K : PySem.W.Frag) (G : Hp) (J : It) (ds : List D) : Prop where
  go : ∀ i H, i < ds.length → Same G H → J.go i H
  stop : ∀ H, Same G H → J.stop ds.length H
  yld : ∀ i H x H', i < ds.length → Same G H → J.yld i H x H' → ∃ d, ds[i]? = some d ∧ YD K G H x H' d
theorem YD.use {K : PySem.W.Frag} {G H H' : Hp} {x : V} {d : D} {U : Vw} {r : Nat} (y : YD K G H x H' d) (ok : Ok U H r) (s : Same G (U.see H)) : Same H H' ∧ Dt K (U.see H') x d := by
  rcases y with ⟨rfl, a⟩ | ⟨T, vs, es, rfl, nT, rfl, rfl, a⟩
  · exact ⟨Gr.rfl', a.gr s⟩
  · have s2 : Same H (upd H T (.tup vs)) := same_new nT
    exact ⟨s2, .tup (SqT.of (see_new ok nT)) ((a.gr s).gr (see_same s2))⟩
theorem ItD.of {K : PySem.W.Frag} {G : Hp} {J : It} {ds : List D} {n : Nat} {G' : Hp → Prop} {Y : Nat → Hp → V → Hp → Prop} (w : Walk J n G' Y) (hn : n = ds.length) (hG : ∀ H, Same G H → G' H) (hY : ∀ i H x H', i < n → Y i H x H' → ∃ d, ds[i]? = some d ∧ YD K G H x H' d) : ItD K G J ds :=
  ⟨fun i H hi s => w.goes i H (by omega) (hG H s), fun H s => hn ▸ w.stops H (hG H s), fun i H x H' hi s y => hY i H x H' (by omega) (w.yields i H x H' (by omega) (hG H s) y)⟩
def SndI (K : PySem.W.Frag) (wi : TI) (iv : IV) : Prop := ∀ (U : Vw) (σ : Sg) (δ : SD) (H : Hp) (r : Nat) (P : List D → Nat → Prop) (R : It → Hp → Prop), Ok U H r → RelE K U H σ δ → iv δ r P →
  (∀ ds r' J H', P ds r' → Step U H H' → Ok U H' r' → ItD K (U.see H') J ds → R J H') → wi σ H R
def chars (x : Str) : List D := x.cps.toList.map fun c => .str ⟨#[c]⟩
def pairsD (xs ys : List D) : List D := (xs.zip ys).map fun p => .tup [p.1, p.2]
def enumD (xs : List D) : List D := xs.zipIdx.map fun p => .tup [.int (p.2 : Nat), p.1]
def rangeD (a : Int) (n : Nat) : List D := (List.range n).map fun k => .int (a + (k : Nat))
def iTupD (e : EV) : IV := fun δ r P => e δ r fun d r1 => ∃ ds, d = .tup ds ∧ P ds r1
def iLstD (e : EV) : IV := fun δ r P => e δ r fun d r1 => ∃ ds, d = .lst ds ∧ P ds r1
def iStrD (e : EV) : IV := fun δ r P => e δ r fun d r1 => ∃ x, d = .str x ∧ P (chars x) r1
def iR1 (a : AV) : IV := fun δ r P => a δ r fun ss r1 => ∃ j : Int, ss = [.d (.int j)] ∧ (-(2 ^ 62) ≤ j ∧ j < 2 ^ 62) ∧ P (rangeD 0 j.toNat) r1
def iR2 (a : AV) : IV := fun δ r P => a δ r fun ss r1 => ∃ i j : Int, ss = [.d (.int i), .d (.int j)] ∧ (-(2 ^ 62) ≤ i ∧ i < 2 ^ 62 ∧ -(2 ^ 62) ≤ j ∧ j < 2 ^ 62) ∧ P (rangeD i (j - i).toNat) r1
def iEnD (a : AV) : IV := fun δ r P => a δ r fun ss r1 => ∃ xs, ss = [.d (.tup xs)] ∧ P (enumD xs) r1
def iEnL (a : AV) : IV := fun δ r P => a δ r fun ss r1 => ∃ xs, ss = [.d (.lst xs)] ∧ P (enumD xs) r1
def iZTT (a : AV) : IV := fun δ r P => a δ r fun ss r1 => ∃ xs ys, ss = [.d (.tup xs), .d (.tup ys)] ∧ xs.length = ys.length ∧ P (pairsD xs ys) r1
def iZLL (a : AV) : IV := fun δ r P => a δ r fun ss r1 => ∃ xs ys, ss = [.d (.lst xs), .d (.lst ys)] ∧ xs.length = ys.length ∧ P (pairsD xs ys) r1
def iZLT (a : AV) : IV := fun δ r P => a δ r fun ss r1 => ∃ xs ys, ss = [.d (.lst xs), .d (.tup ys)] ∧ xs.length = ys.length ∧ P (pairsD xs ys) r1
def iZST (a : AV) : IV := fun δ r P => a δ r fun ss r1 => ∃ x ys, ss = [.d (.str x), .d (.tup ys)] ∧ x.cps.size = ys.length ∧ P (pairsD (chars x) ys) r1
def iZTS (a : AV) : IV := fun δ r P => a δ r fun ss r1 => ∃ xs y, ss = [.d (.tup xs), .d (.str y)] ∧ xs.length = y.cps.size ∧ P (pairsD xs (chars y)) r1
def iZSS (a : AV) : IV := fun δ r P => a δ r fun ss r1 => ∃ x y, ss = [.d (.str x), .d (.str y)] ∧ x.cps.size = y.cps.size ∧ P (pairsD (chars x) (chars y)) r1
section
variable {K : PySem.W.Frag} {te : TE} {ee : EV} {tA : TA} {av : AV} {U : Vw} {H : Hp}
theorem SlsOk.one {s : Sl} {vs : List V} (h : SlsOk K U H [s] vs) : ∃ v, vs = [v] ∧ SlOk K U H s v := by
  match vs, h with
  | [v], h => exact ⟨v, rfl, h.1.1⟩
  | v :: w :: vs, h => exact h.2.elim
theorem SlsOk.two {s t : Sl} {vs : List V} (h : SlsOk K U H [s, t] vs) : ∃ v w, vs = [v, w] ∧ SlOk K U H s v ∧ SlOk K U H t w := by
  match vs, h with
  | v :: vs, h =>
    obtain ⟨w, rfl, a⟩ := SlsOk.one h.2
    exact ⟨v, w, rfl, h.1.1, a⟩
theorem chars_at {x : Str} {i c : Nat} (h : x.cps[i]? = some c) : (chars x)[i]? = some (.str ⟨#[c]⟩) := by
  unfold chars
  rw [List.getElem?_map, Array.getElem?_toList, h]
  rfl
theorem chars_len (x : Str) : (chars x).length = x.cps.size := by
  unfold chars
  rw [List.length_map, Array.length_toList]
theorem pairs_at {xs ys : List D} {i : Nat} {x y : D} (h : xs[i]? = some x) (h2 : ys[i]? = some y) : (pairsD xs ys)[i]? = some (.tup [x, y]) := by
  unfold pairsD
  rw [List.getElem?_map, (List.getElem?_zip_eq_some (z := (x, y))).mpr ⟨h, h2⟩]
  rfl
theorem pairs_len {xs ys : List D} (h : xs.length = ys.length) : (pairsD xs ys).length = xs.length := by
  unfold pairsD
  rw [List.length_map, List.length_zip, h, Nat.min_self]
theorem enum_at {xs : List D} {i : Nat} {x : D} (h : xs[i]? = some x) : (enumD xs)[i]? = some (.tup [.int (i : Nat), x]) := by
  unfold enumD
  rw [List.getElem?_map, List.getElem?_zipIdx, h]
  simp
theorem enum_len (xs : List D) : (enumD xs).length = xs.length := by
  unfold enumD
  rw [List.length_map, List.length_zipIdx]
theorem range_at {a : Int} {n i : Nat} (h : i < n) : (rangeD a n)[i]? = some (.int (a + (i : Nat))) := by
  unfold rangeD
  rw [List.getElem?_map, List.getElem?_range h]
  rfl
theorem range_len {a : Int} {n : Nat} : (rangeD a n).length = n := by
  unfold rangeD
  rw [List.length_map, List.length_range]
theorem snd_iTup (h : SndE K te ee) : SndI K (iTup K te) (iTupD ee) := fun U σ δ H r P R ok rel h0 k => h U σ δ H r _ _ ok rel h0 fun d r1 v H1 h1 s1 ok1 a1 => by
  obtain ⟨ds, rfl, p⟩ := h1
  cases a1 with
  | @tup q xs _ e aa =>
    exact ⟨q, rfl, ⟨xs, gr_T see_le e⟩, k _ _ _ _ p s1 ok1 (ItD.of walk_tup aa.len (fun H' s => gr_T s e) fun i H' x H'' hi y => by
      obtain ⟨rfl, hx⟩ := y
      obtain ⟨z, hz, az⟩ := aa.at hx
      exact ⟨z, hz, Or.inl ⟨rfl, az⟩⟩)⟩
theorem snd_iLst (h : SndE K te ee) : SndI K (iList K te) (iLstD ee) := fun U σ δ H r P R ok rel h0 k => h U σ δ H r _ _ ok rel h0 fun d r1 v H1 h1 s1 ok1 a1 => by
  obtain ⟨ds, rfl, p⟩ := h1
  cases a1 with
  | @lst q xs _ e aa =>
    have e' := see_le _ _ e
    exact ⟨q, rfl, ⟨xs, SqL.of e'⟩, k _ _ _ _ p s1 ok1 (ItD.of walk_list aa.len (fun H' s => SqL.of (s _ _ e)) fun i H' x H'' hi y => by
      obtain ⟨rfl, hx⟩ := y
      obtain ⟨z, hz, az⟩ := aa.at hx
      exact ⟨z, hz, Or.inl ⟨rfl, az⟩⟩)⟩
theorem snd_iStr (h : SndE K te ee) : SndI K (iStr te) (iStrD ee) := fun U σ δ H r P R ok rel h0 k => h U σ δ H r _ _ ok rel h0 fun d r1 v H1 h1 s1 ok1 a1 => by
  obtain ⟨x, rfl, p⟩ := h1
  cases a1
  exact ⟨x, rfl, k _ _ _ _ p s1 ok1 (ItD.of walk_str (chars_len x).symm (fun _ _ => trivial) fun i H' v H'' hi y => by
    obtain ⟨rfl, c, hc, rfl⟩ := y
    exact ⟨_, chars_at hc, Or.inl ⟨rfl, .str _⟩⟩)⟩
theorem it_range {G : Hp} {a : Int} {n : Nat} : ItD K G (Itr a n) (rangeD a n) := ItD.of walk_range range_len.symm (fun _ _ => trivial) fun i H' v H'' hi y => by
  obtain ⟨rfl, rfl⟩ := y
  exact ⟨_, range_at hi, Or.inl ⟨rfl, .int _⟩⟩
theorem snd_iR1 (h : SndA K tA av) : SndI K (iRng1 tA) (iR1 av) := fun U σ δ H r P R ok rel h0 k => h U σ δ H r _ _ ok rel h0 fun ss r1 vs H1 h1 s1 ok1 a1 => by
  obtain ⟨j, rfl, ⟨l1, l2⟩, p⟩ := h1
  obtain ⟨v, rfl, a⟩ := a1.one
  cases a
  exact ⟨j, rfl, l1, l2, k _ _ _ _ p s1 ok1 it_range⟩
theorem snd_iEnT (h : SndA K tA av) : SndI K (iEnumT K tA) (iEnD av) := fun U σ δ H r P R ok rel h0 k => h U σ δ H r _ _ ok rel h0 fun ss r1 vs H1 h1 s1 ok1 a1 => by
  obtain ⟨ds, rfl, p⟩ := h1
  obtain ⟨v, rfl, a⟩ := a1.one
  cases (show Dt K (U.see H1) v (.tup ds) from a) with
  | @tup q xs _ e aa =>
    refine ⟨q, xs, rfl, gr_T see_le e, k _ _ _ _ p s1 ok1 (ItD.of walk_enumT (by rw [enum_len]; exact aa.len) (fun H' s => gr_T s e) fun i H' x H'' hi y => ?_)⟩
    obtain ⟨T, u1, u2, rfl, nT, rfl, e1, e2⟩ := y
    cases e1
    obtain ⟨z, hz, az⟩ := aa.at e2
    exact ⟨_, enum_at hz, Or.inr ⟨T, _, _, rfl, nT, rfl, rfl, .cons (.int _) (.cons (az) .nil)⟩⟩
theorem snd_iEnL (h : SndA K tA av) : SndI K (iEnum K tA) (iEnL av) := fun U σ δ H r P R ok rel h0 k => h U σ δ H r _ _ ok rel h0 fun ss r1 vs H1 h1 s1 ok1 a1 => by
  obtain ⟨ds, rfl, p⟩ := h1
  obtain ⟨v, rfl, a⟩ := a1.one
  cases (show Dt K (U.see H1) v (.lst ds) from a) with
  | @lst q xs _ e aa =>
    refine ⟨q, xs, rfl, SqL.of (see_le _ _ e), k _ _ _ _ p s1 ok1 (ItD.of walk_enum (by rw [enum_len]; exact aa.len) (fun H' s => SqL.of (s _ _ e)) fun i H' x H'' hi y => ?_)⟩
    obtain ⟨T, u1, u2, rfl, nT, rfl, e1, e2⟩ := y
    cases e1
    obtain ⟨z, hz, az⟩ := aa.at e2
    exact ⟨_, enum_at hz, Or.inr ⟨T, _, _, rfl, nT, rfl, rfl, .cons (.int _) (.cons (az) .nil)⟩⟩
theorem snd_iZTT (h : SndA K tA av) : SndI K (RZ.iZipA K tA) (iZTT av) := fun U σ δ H r P R ok rel h0 k => h U σ δ H r _ _ ok rel h0 fun ss r1 vs H1 h1 s1 ok1 a1 => by
  obtain ⟨ds, es, rfl, hl, p⟩ := h1
  obtain ⟨v, w, rfl, a, b⟩ := a1.two
  cases (show Dt K (U.see H1) v (.tup ds) from a) with
  | @tup q xs _ e aa =>
  cases (show Dt K (U.see H1) w (.tup es) from b) with
  | @tup q2 ys _ e2 bb =>
    have lx := aa.len
    have ly := bb.len
    refine ⟨q, q2, xs, ys, rfl, Or.inr ⟨gr_T see_le e, gr_T see_le e2, k _ _ _ _ p s1 ok1 (ItD.of (walk_zipT (by omega)) (by rw [pairs_len hl]; exact lx) (fun H' s => ⟨gr_T s e, gr_T s e2⟩) fun i H' x H'' hi y => ?_)⟩⟩
    obtain ⟨T, u1, u2, rfl, nT, rfl, e1, e2⟩ := y
    obtain ⟨z, hz, az⟩ := aa.at e1
    obtain ⟨z2, hz2, az2⟩ := bb.at e2
    exact ⟨_, pairs_at hz hz2, Or.inr ⟨T, _, _, rfl, nT, rfl, rfl, .cons (az) (.cons (az2) .nil)⟩⟩
end
/-! ### what is stored to -/
def Off (ns : List Nat) (σ' σ : Sg) : Prop := σ'.length = σ.length ∧ ∀ i : Nat, i ∉ ns → σ'[i]? = σ[i]?
def OwnK (σ : Sg) (δ : SD) (σ' : Sg) (δ' : SD) : Prop := ∀ (i : Nat) (xs : List D), δ'[i]? = some (some (.own xs)) → δ[i]? = some (some (.own xs)) ∧ σ'[i]? = σ[i]?
def SndG (K : PySem.W.Frag) (g : TG) (gv : GV) (ns : List Nat) : Prop := ∀ (U : Vw) (σ : Sg) (δ : SD) (H : Hp) (r : Nat) (v : V) (d : D) (δ' : SD) (Q : Sg → Hp → Prop), Ok U H r → RelE K U H σ δ → Dt K (U.see H) v d → gv d δ = some δ' →
  (∀ σ', RelE K U H σ' δ' → Off ns σ' σ → OwnK σ δ σ' δ' → Q σ' H) → g v σ H Q
def SndGs (K : PySem.W.Frag) (g : TGs) (gv : List D → SD → Option SD) (ns : List Nat) : Prop := ∀ (U : Vw) (σ : Sg) (δ : SD) (H : Hp) (r : Nat) (vs : List V) (ds : List D) (δ' : SD) (Q : Sg → Hp → Prop), Ok U H r → RelE K U H σ δ → DtA K (U.see H) vs ds → gv ds δ = some δ' →
  (∀ σ', RelE K U H σ' δ' → Off ns σ' σ → OwnK σ δ σ' δ' → Q σ' H) → g vs σ H Q
def gvName (n : Nat) : GV := fun d δ => some (δ.set n (some (.d d)))
def gvNil : List D → SD → Option SD := fun ds δ => match ds with
  | [] => some δ
  | _ => none
def gvCons (g : GV) (gs : List D → SD → Option SD) : List D → SD → Option SD := fun ds δ => match ds with
  | d :: ds => (g d δ).bind (gs ds)
  | [] => none
def gvTup (n : Nat) (gs : List D → SD → Option SD) : GV := fun d δ => match d with
  | .tup ds => if ds.length = n then gs ds δ else none
  | _ => none
section
variable {K : PySem.W.Frag} {g : TG} {gs : TGs} {gv : GV} {gvs : List D → SD → Option SD} {ns ms : List Nat}
theorem Off.rf {σ : Sg} : Off ns σ σ := ⟨rfl, fun _ _ => rfl⟩
theorem Off.tr {σ σ1 σ2 : Sg} (a : Off ms σ2 σ1) (b : Off ns σ1 σ) : Off (ns ++ ms) σ2 σ := ⟨a.1.trans b.1, fun i h => by
  rw [a.2 i fun z => h (List.mem_append_right _ z), b.2 i fun z => h (List.mem_append_left _ z)]⟩
theorem OwnK.tr {σ σ1 σ2 : Sg} {δ δ1 δ2 : SD} (a : OwnK σ δ σ1 δ1) (b : OwnK σ1 δ1 σ2 δ2) : OwnK σ δ σ2 δ2 := fun i xs h => by
  obtain ⟨h1, e1⟩ := b i xs h
  obtain ⟨h2, e2⟩ := a i xs h1
  exact ⟨h2, e1.trans e2⟩
theorem own_set {σ : Sg} {δ : SD} {n : Nat} {v : V} {s : Sl} (hs : s.no = true) : OwnK σ δ (σ.set n (some v)) (δ.set n (some s)) := fun i xs h => by
  by_cases z : n = i
  · subst z
    rw [List.getElem?_set_self'] at h
    cases q : δ[n]? with
    | none => rw [q] at h; cases h
    | some x => rw [q] at h; cases h; cases hs
  · rw [List.getElem?_set_ne z] at h ⊢
    exact ⟨h, rfl⟩
theorem sndg_name {n : Nat} : SndG K (gName n) (gvName n) [n] := fun U σ δ H r v d δ' Q ok rel a e k => by
  cases e
  refine k _ (rel.set a) ⟨List.length_set .., fun i h => ?_⟩ (own_set rfl)
  rw [List.getElem?_set_ne (fun z => h (by rw [z]; exact List.mem_singleton_self _))]
theorem sndg_nil : SndGs K gNil gvNil [] := fun U σ δ H r vs ds δ' Q ok rel a e k => by
  cases a with
  | nil => cases e; exact ⟨rfl, k _ rel Off.rf fun i xs h => ⟨h, rfl⟩⟩
  | cons _ _ => cases e
theorem sndg_cons (h : SndG K g gv ns) (hs : SndGs K gs gvs ms) : SndGs K (gCons g gs) (gvCons gv gvs) (ns ++ ms) := fun U σ δ H r vs ds δ' Q ok rel a e k => by
  cases a with
  | nil => cases e
  | @cons v vs d ds a b =>
    obtain ⟨δ1, h1, h2⟩ := Option.bind_eq_some_iff.mp e
    exact ⟨v, vs, rfl, h U σ δ H r v d δ1 _ ok rel a h1 fun σ1 rel1 o1 w1 => hs U σ1 δ1 H r vs ds δ' _ ok rel1 b h2 fun σ2 rel2 o2 w2 => k σ2 rel2 (o2.tr o1) (w1.tr w2)⟩
theorem sndg_tup {n : Nat} (hs : SndGs K gs gvs ns) : SndG K (gTup K n gs) (gvTup n gvs) ns := fun U σ δ H r v d δ' Q ok rel a e k => by
  unfold gvTup at e
  split at e
  · rename_i ds
    split at e
    · rename_i l
      cases a with
      | @tup p xs _ et aa => exact ⟨p, xs, rfl, gr_T see_le et, by rw [aa.len]; exact l, hs U σ δ H r xs ds δ' Q ok rel aa e k⟩
    · cases e
  · cases e
end
def wipeD (δ : SD) : List Nat → SD
  | [] => δ
  | v :: vs => (wipeD δ vs).set v none
theorem RelE.wipe {K : PySem.W.Frag} {U : Vw} {H : Hp} {σ : Sg} {δ : SD} (h : RelE K U H σ δ) : ∀ vs : List Nat, RelE K U H (wipe σ vs) (wipeD δ vs)
  | [] => h
  | v :: vs => by
    have ih := RelE.wipe h vs
    refine ⟨by show ((L2.wipe σ vs).set v none).length = ((wipeD δ vs).set v none).length; rw [List.length_set, List.length_set]; exact ih.len, fun i s e => ?_⟩
    have e' : ((wipeD δ vs).set v none)[i]? = some (some s) := e
    show ∃ w, ((L2.wipe σ vs).set v none)[i]? = some (some w) ∧ _
    by_cases z : v = i
    · subst z
      rw [List.getElem?_set_self'] at e'
      cases q : (wipeD δ vs)[v]? with
      | none => rw [q] at e'; cases e'
      | some x => rw [q] at e'; cases e'
    · rw [List.getElem?_set_ne z] at e' ⊢
      exact ih.at' i s e'
theorem wipe_in {σ : Sg} {i : Nat} : ∀ {vs : List Nat}, i ∈ vs → (wipe σ vs)[i]? = (σ[i]?).map fun _ => none
  | v :: vs, h => by
    show ((wipe σ vs).set v none)[i]? = _
    by_cases z : v = i
    · subst z
      rw [List.getElem?_set_self']
      have l : (wipe σ vs).length = σ.length := wipe_length σ vs
      by_cases hv : v < σ.length
      · rw [List.getElem?_eq_getElem hv, List.getElem?_eq_getElem (by omega)]
        rfl
      · rw [List.getElem?_eq_none (by omega), List.getElem?_eq_none (by omega)]
        rfl
    · rw [List.getElem?_set_ne z]
      refine wipe_in ?_
      rcases List.mem_cons.mp h with q | q
      · exact absurd q.symm z
      · exact q
theorem wipe_off {ns vs : List Nat} {σ σ2 : Sg} (o : Off ns σ2 (wipe σ vs)) (h : ∀ i ∈ ns, i ∈ vs) : wipe σ2 vs = wipe σ vs := by
  refine List.ext_getElem? fun i => ?_
  by_cases z : i ∈ vs
  · rw [wipe_in z, wipe_in z]
    have l1 : σ2.length = σ.length := by rw [o.1, wipe_length]
    by_cases hv : i < σ.length
    · rw [List.getElem?_eq_getElem hv, List.getElem?_eq_getElem (by omega)]
      rfl
    · rw [List.getElem?_eq_none (by omega), List.getElem?_eq_none (by omega)]
  · rw [wipe_out z, o.2 i fun q => z (h i q)]
end TSx

/-! Own layer, part Y2: comprehensions over data. -/
namespace TSx
open PySem L2
def compD (g : GV) (t : TV) (e : EV) (δ0 : SD) : List D → List D → Nat → (D → Nat → Prop) → Prop
  | [], acc, r, P => P (.lst acc) r
  | x :: xs, acc, r, P => ∃ δ', g x δ0 = some δ' ∧ t δ' r fun b r1 => cond b (e δ' r1 fun y r2 => acc.length < 100000 ∧ compD g t e δ0 xs (acc ++ [y]) r2 P) (compD g t e δ0 xs acc r1 P)
def eLc (i : IV) (g : GV) (t : TV) (e : EV) (vs : List Nat) : EV := fun δ r P => i δ r fun ds r1 => compD g t e (wipeD δ vs) ds [] r1 P
def compD2 (g : GV) (t : TV) (i1 : IV) (g1 : GV) (t1 : TV) (e : EV) (vs1 : List Nat) (δ0 : SD) : List D → List D → Nat → (D → Nat → Prop) → Prop
  | [], acc, r, P => P (.lst acc) r
  | x :: xs, acc, r, P => ∃ δ', g x δ0 = some δ' ∧ t δ' r fun b r1 => cond b (i1 δ' r1 fun ds r2 => compD g1 t1 e (wipeD δ' vs1) ds acc r2 fun d r3 => ∃ acc', d = .lst acc' ∧ compD2 g t i1 g1 t1 e vs1 δ0 xs acc' r3 P) (compD2 g t i1 g1 t1 e vs1 δ0 xs acc r1 P)
def eLc2 (i : IV) (g : GV) (t : TV) (i1 : IV) (g1 : GV) (t1 : TV) (e : EV) (vs vs1 : List Nat) : EV := fun δ r P => i δ r fun ds r1 => compD2 g t i1 g1 t1 e vs1 (wipeD δ vs) ds [] r1 P
/-- all but what may change, and L, stays -/
def StepL (U : Vw) (L : Addr) (H H' : Hp) : Prop := ∀ b o, ¬ U.mut b → b ≠ L → H b = some o → H' b = some o
/-- L is hidden, and none of the drawn state's -/
structure Apt (U : Vw) (L : Addr) : Prop where
  z : U.Z L = true
  n : ¬ U.mut L
  c : ∀ m c g, U.mm = some (m, c, g) → c ≠ L
def NoL (L : Addr) (σ : Sg) (δ : SD) : Prop := ∀ (i : Nat) (xs : List D), δ[i]? = some (some (.own xs)) → σ[i]? ≠ some (some (.ref L))
section
variable {K : PySem.W.Frag} {U : Vw} {L : Addr} {H H' H1 : Hp} {r : Nat} {σ : Sg} {δ : SD}
theorem StepL.tr {H2 : Hp} (a : StepL U L H H1) (b : StepL U L H1 H2) : StepL U L H H2 := fun x o n e h => b x o n e (a x o n e h)
theorem StepL.of (s : Step U H H') : StepL U L H H' := fun b o n _ e => s b o n e
theorem StepL.see (s : StepL U L H H') (ok : Ok U H r) (a : Apt U L) : Same (U.see H) (U.see H') := fun b o e => by
  obtain ⟨z, e⟩ := see_of e
  rw [see_at z]
  exact s b o (fun m => by rw [ok.mutZ m] at z; cases z) (fun q => by rw [q, a.z] at z; cases z) e
theorem RelE.stepL (h : RelE K U H σ δ) (ok : Ok U H r) (a : Apt U L) (n : NoL L σ δ) (s : StepL U L H H') : RelE K U H' σ δ := ⟨h.len, fun i x e => by
  obtain ⟨v, e1, w⟩ := h.at' i x e
  refine ⟨v, e1, ?_⟩
  have ss := s.see ok a
  match x, w with
  | .d x, w => exact Dt.gr ss w
  | .own xs, w =>
    obtain ⟨p, vs, rfl, z, m, hp, aa⟩ := w
    exact ⟨p, vs, rfl, z, m, s p _ m (fun q => n i xs e (by rw [e1, q])) hp, aa.gr ss⟩
  | .memo, w => exact w
  | .scr ns, w =>
    obtain ⟨b, e2, q⟩ := w
    exact ⟨b, e2, gr_L ss q⟩⟩
theorem Ok.upd (ok : Ok U H r) (a : Apt U L) {o : HO} : Ok U (upd H L o) r := ⟨fun b z => by
  by_cases q : b = L
  · rw [q, upd_same]; simp
  · rw [upd_ne q]; exact ok.dom b z, fun m c g e => by
  obtain ⟨a1, a2, a3, M⟩ := ok.memo m c g e
  refine ⟨a1, a2, a3, ?_⟩
  have n1 : m ≠ L := fun q => a.n ⟨m, c, g, e, Or.inl q.symm⟩
  have n2 : c ≠ L := a.c m c g e
  have n3 : g ≠ L := fun q => a.n ⟨m, c, g, e, Or.inr q.symm⟩
  obtain ⟨⟨n, cs, gs, h1, h2, h3, h4⟩, ne⟩ := M
  exact ⟨⟨n, cs, gs, by rw [upd_ne n1]; exact h1, by rw [upd_ne n2]; exact h2, by rw [upd_ne n3]; exact h3, h4⟩, ne⟩⟩
theorem YD.up {G G' : Hp} {x : V} {d : D} (s : Same G G') (y : YD K G H x H' d) : YD K G' H x H' d := by
  rcases y with ⟨e, a⟩ | ⟨T, vs, es, e, nT, e2, e3, a⟩
  · exact Or.inl ⟨e, a.gr s⟩
  · exact Or.inr ⟨T, vs, es, e, nT, e2, e3, a.gr s⟩
theorem ItD.up {G G' : Hp} {J : It} {ds : List D} (it : ItD K G J ds) (s : Same G G') : ItD K G' J ds := ⟨fun i H hi z => it.go i H hi (Gr.tr s z), fun H z => it.stop H (Gr.tr s z), fun i H x H' hi z y => by
  obtain ⟨d, hd, yd⟩ := it.yld i H x H' hi (Gr.tr s z) y
  exact ⟨d, hd, yd.up s⟩⟩
/-- one clause's loop: from the list acc at L to what P is told of -/
theorem comp_core {g : TG} {gv : GV} {ns vs : List Nat} {tt : TT} {tv : TV} {te : TE} {ev : EV} {J : It} {ds : List D} (hg : SndG K g gv ns) (hns : ∀ i ∈ ns, i ∈ vs) (ht : SndT K tt tv) (he : SndE K te ev)
    (a : Apt U L) (ok : Ok U H1 r) (it : ItD K (U.see H1) J ds) (rel : RelE K U H1 σ δ) (nL : NoL L (wipe σ vs) (wipeD δ vs)) {acc : List V} {accD : List D} (hL : H1 L = some (.lst acc)) (aa : DtA K (U.see H1) acc accD) {P : D → Nat → Prop}
    (h : compD gv tv ev (wipeD δ vs) ds accD r P) {Qd : Hp → Prop}
    (hd : ∀ H' r' acc' accD', P (.lst accD') r' → StepL U L H1 H' → Ok U H' r' → H' L = some (.lst acc') → DtA K (U.see H') acc' accD' → Qd H') :
    ∃ W : Nat → Nat → Hp → Prop, (∃ m, W 0 m H1) ∧ ∀ i m H, W i m H →
      (J.stop i H ∧ Qd H) ∨ (J.go i H ∧ ∃ Nx : Hp → Prop, (∀ H', Nx H' → ∃ m', m' < m ∧ W (i + 1) m' H') ∧ ∀ x H', J.yld i H x H' → g x (wipe σ vs) H' fun σ2 H2 => wipe σ2 vs = wipe σ vs ∧ tt σ2 H2 fun b H3 =>
        if b = true then te σ2 H3 fun y H4 => ∃ acc, H4 L = some (.lst acc) ∧ acc.length < sizeLine ∧ Nx (upd H4 L (.lst (acc ++ [y]))) else Nx H3) := by
  refine ⟨fun i m H' => m = ds.length - i ∧ i ≤ ds.length ∧ ∃ r' acc accD, StepL U L H1 H' ∧ Ok U H' r' ∧ H' L = some (.lst acc) ∧ DtA K (U.see H') acc accD ∧ compD gv tv ev (wipeD δ vs) (ds.drop i) accD r' P,
    ⟨ds.length, by omega, Nat.zero_le _, r, acc, accD, fun _ _ _ _ e => e, ok, hL, aa, h⟩, ?_⟩
  rintro i m H' ⟨rfl, hi, r', acc, accD, st, ok', hL', aa', hc⟩
  have sm : Same (U.see H1) (U.see H') := st.see ok a
  have sm' : Same (U.see H1) H' := Gr.tr sm see_le
  by_cases hlt : i < ds.length
  · refine Or.inr ⟨it.go i H' hlt sm', fun H3 => (fun m H' => m = ds.length - (i + 1) ∧ (i + 1) ≤ ds.length ∧ ∃ r' acc accD, StepL U L H1 H' ∧ Ok U H' r' ∧ H' L = some (.lst acc) ∧ DtA K (U.see H') acc accD ∧ compD gv tv ev (wipeD δ vs) (ds.drop (i + 1)) accD r' P) (ds.length - (i + 1)) H3, fun H3 h3 => ⟨ds.length - (i + 1), by omega, h3⟩, fun x H'' y => ?_⟩
    obtain ⟨d, hd', y⟩ := it.yld i H' x H'' hlt sm' y
    obtain ⟨s2, ax⟩ := y.use ok' sm
    have ok2 := ok'.same s2
    have rel2 : RelE K U H'' (wipe σ vs) (wipeD δ vs) := (rel.wipe vs).stepL ok a nL (st.tr (StepL.of (Step.of s2)))
    have dr : ds.drop i = d :: ds.drop (i + 1) := by
      rw [List.drop_eq_getElem_cons hlt]
      rw [List.getElem?_eq_getElem hlt] at hd'
      cases hd'
      rfl
    rw [dr] at hc
    obtain ⟨δ', hg', hc⟩ := hc
    refine hg U _ _ H'' r' x d δ' _ ok2 rel2 ax hg' fun σ2 rel3 off ow => ⟨wipe_off off hns, ?_⟩
    refine ht U σ2 δ' H'' r' _ _ ok2 rel3 hc fun b r1 H3 h3 st3 ok3 => ?_
    have nm : ¬ U.mut L := a.n
    have hL3 : H3 L = some (.lst acc) := st3 L _ nm (s2 _ _ hL')
    have aa3 := (aa'.gr (see_same s2)).gr (st3.see ok2)
    have stA : StepL U L H1 H3 := (st.tr (StepL.of (Step.of s2))).tr (StepL.of st3)
    cases b with
    | false => exact iteF ⟨rfl, by omega, r1, acc, accD, stA, ok3, hL3, aa3, h3⟩
    | true =>
      refine iteT ?_
      refine he U σ2 δ' H3 r1 _ _ ok3 (rel3.step ok2 st3) h3 fun y r2 v H4 h4 st4 ok4 av => ?_
      obtain ⟨l4, h4⟩ := h4
      refine ⟨acc, st4 L _ nm hL3, sz2 (by rw [aa'.len]; exact l4), rfl, by omega, r2, acc ++ [v], accD ++ [y], ?_, ok4.upd a, upd_same, ?_, h4⟩
      · exact (stA.tr (StepL.of st4)).tr fun b o _ n e => by rw [upd_ne n]; exact e
      · rw [see_hid a.z]
        exact (aa3.gr (st4.see ok3)).app (.cons av .nil)
  · have e : i = ds.length := by omega
    subst e
    rw [List.drop_length] at hc
    exact Or.inl ⟨it.stop H' sm', hd H' r' acc accD hc st ok' hL' aa'⟩
/-- the view with one more hidden -/
def Vw.hide (U : Vw) (L : Addr) : Vw := ⟨fun b => U.Z b || decide (b = L), U.mm⟩
theorem hide_L : (U.hide L).Z L = true := by simp [Vw.hide]
theorem hide_of {b : Addr} (h : U.Z b = true) : (U.hide L).Z b = true := by simp [Vw.hide, h]
theorem hide_ne {b : Addr} (h : U.Z b = false) (n : b ≠ L) : (U.hide L).Z b = false := by simp [Vw.hide, h, n]
theorem hide_no {b : Addr} (h : (U.hide L).Z b = false) : U.Z b = false := by
  cases e : U.Z b with
  | false => rfl
  | true => rw [hide_of e] at h; cases h
/-- a new thing at L, hidden -/
theorem hide_new (ok : Ok U H r) (n : H L = none) {o : HO} : Ok (U.hide L) (upd H L o) r ∧ Apt (U.hide L) L ∧ Same (U.see H) ((U.hide L).see (upd H L o)) := by
  have zL := ok.apart n
  have nm : ¬ U.mut L := fun m => by rw [ok.mutZ m] at zL; cases zL
  have nc : ∀ m c g, U.mm = some (m, c, g) → c ≠ L := fun m c g e q => by
    obtain ⟨_, a2, _, _⟩ := ok.memo m c g e
    rw [q, zL] at a2
    cases a2
  refine ⟨⟨fun b z => ?_, fun m c g e => ?_⟩, ⟨hide_L, nm, nc⟩, fun b o e => ?_⟩
  · by_cases q : b = L
    · rw [q, upd_same]; simp
    · rw [upd_ne q]
      refine ok.dom b ?_
      simpa [Vw.hide, q] using z
  · obtain ⟨a1, a2, a3, M⟩ := ok.memo m c g e
    exact ⟨hide_of a1, hide_of a2, hide_of a3, M.same (same_new n)⟩
  · obtain ⟨z, e⟩ := see_of e
    have q : b ≠ L := ne_of_none e n
    rw [see_at (hide_ne z q), upd_ne q]
    exact e
theorem hide_back {H' : Hp} {r' : Nat} (ok1 : Ok U H r) (n : H L = none) (s : StepL (U.hide L) L H H') (ok : Ok (U.hide L) H' r') : Step U H H' ∧ Ok U H' r' ∧ Same ((U.hide L).see H') (U.see H') := by
  refine ⟨fun b o m e => s b o m (ne_of_none e n) e, ⟨fun b z => ok.dom b (hide_of z), fun m c g e => ?_⟩, fun b o e => ?_⟩
  · obtain ⟨a1, a2, a3, _⟩ := ok1.memo m c g e
    obtain ⟨_, _, _, M⟩ := ok.memo m c g e
    exact ⟨a1, a2, a3, M⟩
  · obtain ⟨z, e⟩ := see_of e
    rw [see_at (hide_no z)]
    exact e
theorem hide_wid (ok : Ok U H r) (n : H L = none) {o : HO} : Wid U H (U.hide L) (upd H L o) := ⟨(hide_new ok n).2.2, fun _ z => hide_of z, rfl, Step.of (same_new n)⟩
theorem noL_new (rel : RelE K U H σ δ) (n : H L = none) (ok : Ok U H r) (vs : List Nat) : NoL L (wipe σ vs) (wipeD δ vs) := fun i xs e q => by
  obtain ⟨v, e1, p, ws, rfl, z, _, _, _⟩ := (rel.wipe vs).at' i _ e
  rw [e1] at q
  cases q
  rw [ok.apart n] at z
  cases z
theorem snd_lc {wi : TI} {iv : IV} {g : TG} {gv : GV} {ns vs : List Nat} {tt : TT} {tv : TV} {te : TE} {ev : EV} (hi : SndI K wi iv) (hg : SndG K g gv ns) (ht : SndT K tt tv) (he : SndE K te ev) (hns : ∀ i ∈ ns, i ∈ vs) : SndE K (tLc wi g tt te vs) (eLc iv gv tv ev vs) := fun U σ δ H r P Q ok rel h k =>
  hi U σ δ H r _ _ ok rel h fun ds r1 J H1 h1 s1 ok1 it L nL => by
    obtain ⟨okh, apt, sm⟩ := hide_new (o := .lst []) ok1 nL
    refine comp_core (U := U.hide L) (r := r1) hg hns ht he apt okh (it.up sm) ((rel.step ok s1).wid (hide_wid ok1 nL)) (noL_new (rel.step ok s1) nL ok1 vs) (upd_same) .nil h1 ?_
    intro H' r' acc' accD' p st ok' hL' aa'
    have st2 : StepL (U.hide L) L H1 H' := StepL.tr (fun b o _ n e => by rw [upd_ne n]; exact e) st
    obtain ⟨q1, q2, q3⟩ := hide_back ok1 nL st2 ok'
    exact k _ _ _ _ p (s1.tr q1) q2 (.lst (by rw [see_at (ok1.apart nL)]; exact hL') (aa'.gr q3))
theorem snd_lc2 {wi wi1 : TI} {iv iv1 : IV} {g g1 : TG} {gv gv1 : GV} {ns ns1 vs vs1 : List Nat} {tt tt1 : TT} {tv tv1 : TV} {te : TE} {ev : EV} (hi : SndI K wi iv) (hg : SndG K g gv ns) (ht : SndT K tt tv) (hi1 : SndI K wi1 iv1) (hg1 : SndG K g1 gv1 ns1) (ht1 : SndT K tt1 tv1) (he : SndE K te ev) (hns : ∀ i ∈ ns, i ∈ vs) (hns1 : ∀ i ∈ ns1, i ∈ vs1) :
    SndE K (tLc2 wi g tt wi1 g1 tt1 te vs vs1) (eLc2 iv gv tv iv1 gv1 tv1 ev vs vs1) := fun U σ δ H r P Q ok rel h k =>
  hi U σ δ H r _ _ ok rel h fun ds r1 J H1 h1 s1 ok1 it L nL => by
    obtain ⟨okh, apt, sm⟩ := hide_new (o := .lst []) ok1 nL
    have itu := it.up sm
    have relh := (rel.step ok s1).wid (hide_wid (o := .lst []) ok1 nL)
    have nLh := noL_new (rel.step ok s1) nL ok1 vs
    refine ⟨fun i m H' => m = ds.length - i ∧ i ≤ ds.length ∧ ∃ r' acc accD, StepL (U.hide L) L (upd H1 L (.lst [])) H' ∧ Ok (U.hide L) H' r' ∧ H' L = some (.lst acc) ∧ DtA K ((U.hide L).see H') acc accD ∧ compD2 gv tv iv1 gv1 tv1 ev vs1 (wipeD δ vs) (ds.drop i) accD r' P,
      ⟨ds.length, by omega, Nat.zero_le _, r1, [], [], fun _ _ _ _ e => e, okh, upd_same, .nil, h1⟩, ?_⟩
    rintro i m H' ⟨rfl, hil, r', acc, accD, st, ok', hL', aa', hc⟩
    have sm1 : Same ((U.hide L).see (upd H1 L (.lst []))) ((U.hide L).see H') := st.see okh apt
    have sm' : Same ((U.hide L).see (upd H1 L (.lst []))) H' := Gr.tr sm1 see_le
    by_cases hlt : i < ds.length
    · refine Or.inr ⟨itu.go i H' hlt sm', fun H3 => (fun m H' => m = ds.length - (i + 1) ∧ (i + 1) ≤ ds.length ∧ ∃ r' acc accD, StepL (U.hide L) L (upd H1 L (.lst [])) H' ∧ Ok (U.hide L) H' r' ∧ H' L = some (.lst acc) ∧ DtA K ((U.hide L).see H') acc accD ∧ compD2 gv tv iv1 gv1 tv1 ev vs1 (wipeD δ vs) (ds.drop (i + 1)) accD r' P) (ds.length - (i + 1)) H3, fun H3 h3 => ⟨ds.length - (i + 1), by omega, h3⟩, fun x H'' y => ?_⟩
      obtain ⟨d, hd', y⟩ := itu.yld i H' x H'' hlt sm' y
      obtain ⟨s2, ax⟩ := y.use ok' sm1
      have ok2 := ok'.same s2
      have rel2 := (relh.wipe vs).stepL okh apt nLh (st.tr (StepL.of (Step.of s2)))
      have dr : ds.drop i = d :: ds.drop (i + 1) := by
        rw [List.drop_eq_getElem_cons hlt]
        rw [List.getElem?_eq_getElem hlt] at hd'
        cases hd'
        rfl
      rw [dr] at hc
      obtain ⟨δ', hg', hc⟩ := hc
      refine hg _ _ _ H'' r' x d δ' _ ok2 rel2 ax hg' fun σ2 rel3 off ow => ⟨wipe_off off hns, ?_⟩
      refine ht _ σ2 δ' H'' r' _ _ ok2 rel3 hc fun b r1 H3 h3 st3 ok3 => ?_
      have nm : ¬ (U.hide L).mut L := apt.n
      have hL3 : H3 L = some (.lst acc) := st3 L _ nm (s2 _ _ hL')
      have aa3 := (aa'.gr (see_same s2)).gr (st3.see ok2)
      have stA : StepL (U.hide L) L (upd H1 L (.lst [])) H3 := (st.tr (StepL.of (Step.of s2))).tr (StepL.of st3)
      cases b with
      | false => exact iteF ⟨rfl, by omega, r1, acc, accD, stA, ok3, hL3, aa3, h3⟩
      | true =>
        refine iteT ?_
        have rel4 := rel3.step ok2 st3
        have nL2 : NoL L σ2 δ' := fun j xs e => by
          obtain ⟨e0, e1⟩ := ow j xs e
          rw [e1]
          exact nLh j xs e0
        refine hi1 _ σ2 δ' H3 r1 _ _ ok3 rel4 h3 fun ds1 r2 J1 H4 h4 st4 ok4 it1 => ?_
        have nL3 : NoL L (wipe σ2 vs1) (wipeD δ' vs1) := fun j xs e q => by
          have e1 := (wipe_some q)
          have wd : ∀ vs : List Nat, (wipeD δ' vs)[j]? = some (some (.own xs)) → δ'[j]? = some (some (.own xs)) := by
            intro vs
            induction vs with
            | nil => exact id
            | cons v vs ih =>
              intro e
              have e' : ((wipeD δ' vs).set v none)[j]? = some (some (.own xs)) := e
              by_cases z : v = j
              · subst z
                rw [List.getElem?_set_self'] at e'
                cases q : (wipeD δ' vs)[v]? with
                | none => rw [q] at e'; cases e'
                | some x => rw [q] at e'; cases e'
              · rw [List.getElem?_set_ne z] at e'
                exact ih e'
          exact nL2 j xs (wd vs1 e) e1.1
        refine comp_core (U := U.hide L) (r := r2) hg1 hns1 ht1 he apt ok4 it1 (rel4.step ok3 st4) nL3 (st4 L _ nm hL3) (aa3.gr (st4.see ok3)) h4 ?_
        intro H5 r5 acc5 accD5 p5 st5 ok5 hL5 aa5
        obtain ⟨acc6, e6, p6⟩ := p5
        cases e6
        exact ⟨rfl, by omega, r5, acc5, accD5, (stA.tr (StepL.of st4)).tr st5, ok5, hL5, aa5, p6⟩
    · have e : i = ds.length := by omega
      subst e
      rw [List.drop_length] at hc
      have st2 : StepL (U.hide L) L H1 H' := StepL.tr (fun b o _ n e => by rw [upd_ne n]; exact e) st
      obtain ⟨q1, q2, q3⟩ := hide_back ok1 nL st2 ok'
      exact Or.inl ⟨itu.stop H' sm', k _ _ _ _ hc (s1.tr q1) q2 (.lst (by rw [see_at (ok1.apart nL)]; exact hL') (aa'.gr q3))⟩
end
end TSx

/-! Own layer, part Y3: statements over data. -/
namespace TSx
open PySem L2
structure EndsD where
  nx : SD → Nat → Prop
  rt : D → Nat → Prop
  bk : SD → Nat → Prop := fun _ _ => False
  ct : SD → Nat → Prop := fun _ _ => False
  rz : Addr → Str → D → Nat → Prop := fun _ _ _ _ => False
abbrev SV := EndsD → SD → Nat → Prop
/-- from the entry (U0, H0) on -/
structure InvS (K : PySem.W.Frag) (U0 : Vw) (H0 : Hp) (U : Vw) (H : Hp) (r : Nat) (σ : Sg) (δ : SD) : Prop where
  ok : Ok U H r
  rel : RelE K U H σ δ
  st : Step U0 H0 H
  mm : U.mm = U0.mm
  z1 : ∀ b, U0.Z b = true → U.Z b = true
  z2 : ∀ b, U.Z b = true → U0.Z b = true ∨ H0 b = none
  d0 : ∀ b, U0.Z b = true → H0 b ≠ none
  m0 : ∀ m c g, U0.mm = some (m, c, g) → U0.Z m = true ∧ U0.Z c = true ∧ U0.Z g = true
  own : ∀ (i : Nat) (xs : List D) (p : Addr), δ[i]? = some (some (.own xs)) → σ[i]? = some (some (.ref p)) → H0 p = none
  dis : ∀ (i j : Nat) (xs ys : List D) (p : Addr), i ≠ j → δ[i]? = some (some (.own xs)) → δ[j]? = some (some (.own ys)) → σ[i]? = some (some (.ref p)) → σ[j]? ≠ some (some (.ref p))
structure EndR (K : PySem.W.Frag) (EX : XK) (U0 : Vw) (H0 : Hp) (ED : EndsD) (E : Ends) : Prop where
  nx : ∀ U σ δ H r, InvS K U0 H0 U H r σ δ → ED.nx δ r → E.nx σ H
  bk : ∀ U σ δ H r, InvS K U0 H0 U H r σ δ → ED.bk δ r → E.bk σ H
  ct : ∀ U σ δ H r, InvS K U0 H0 U H r σ δ → ED.ct δ r → E.ct σ H
  rt : ∀ H r v d, Step U0 H0 H → Ok U0 H r → Dt K (U0.see H) v d → ED.rt d r → E.rt v H
  rz : ∀ H r C f d e v, Step U0 H0 H → Ok U0 H r → H0 e = none → H e = some (.xd [(f, v)]) → Dt K (U0.see H) v d → ED.rz C f d r → EX (.ref C) (some e) H
def SndS (K : PySem.W.Frag) (EX : XK) (ts : TS) (sv : SV) : Prop := ∀ (U0 : Vw) (H0 : Hp) (U : Vw) (σ : Sg) (δ : SD) (H : Hp) (r : Nat) (E : Ends) (ED : EndsD), InvS K U0 H0 U H r σ δ → EndR K EX U0 H0 ED E → sv ED δ r → ts E σ H
def sSeq (a b : SV) : SV := fun E => a { E with nx := b E }
def sNext : SV := fun E δ r => E.nx δ r
def sBrk : SV := fun E δ r => E.bk δ r
def sCnt : SV := fun E δ r => E.ct δ r
def sAsg (e : EV) (g : GV) : SV := fun E δ r => e δ r fun d r1 => ∃ δ', g d δ = some δ' ∧ E.nx δ' r1
def sRet (e : EV) : SV := fun E δ r => e δ r E.rt
def sRetN : SV := fun E _ r => E.rt .non r
def sDrop (e : EV) : SV := fun E δ r => e δ r fun _ r1 => E.nx δ r1
def sIf (t : TV) (a b : SV) : SV := fun E δ r => t δ r fun c r1 => cond c (a E δ r1) (b E δ r1)
def forD (g : GV) (b : SV) (E : EndsD) : List D → SD → Nat → Prop
  | [], δ, r => E.nx δ r
  | x :: xs, δ, r => ∃ δ', g x δ = some δ' ∧ b { E with nx := fun δ r => forD g b E xs δ r, ct := fun δ r => forD g b E xs δ r, bk := E.nx } δ' r
def sFor (i : IV) (g : GV) (b : SV) : SV := fun E δ r => i δ r fun ds r1 => forD g b E ds δ r1
/-- x = [], x the def's own -/
def sNew (n : Nat) : SV := fun E δ r => E.nx (δ.set n (some (.own []))) r
def sApp (n : Nat) (e : EV) : SV := fun E δ r => ∃ xs, δ[n]? = some (some (.own xs)) ∧ e δ r fun d r1 => xs.length < 100000 ∧ E.nx (δ.set n (some (.own (xs ++ [d])))) r1
/-- the own list in slot n is one's own no more -/
def sFrz (n : Nat) (s : SV) : SV := fun E δ r => match δ[n]? with
  | some (some (.own xs)) => s E (δ.set n (some (.d (.lst xs)))) r
  | _ => s E δ r
def sPar (i j : Nat) (a : AV) : SV := fun E δ r => a δ r fun ss r1 => ∃ s t, ss = [s, t] ∧ E.nx ((δ.set i (some s)).set j (some t)) r1
section
variable {EX : XK} {K : PySem.W.Frag} {U0 U : Vw} {H0 H H' : Hp} {r r' : Nat} {σ σ' : Sg} {δ δ' : SD} {te : TE} {ee : EV} {ta tb : TS} {sa sb : SV} {E : Ends} {ED : EndsD}
theorem InvS.step (I : InvS K U0 H0 U H r σ δ) (s : Step U H H') (ok : Ok U H' r') : InvS K U0 H0 U H' r' σ δ :=
  { ok := ok, rel := I.rel.step I.ok s, st := I.st.tr fun b o n e => s b o (fun m => n (by obtain ⟨m, c, g, e, q⟩ := m; exact ⟨m, c, g, by rw [← I.mm]; exact e, q⟩)) e, mm := I.mm, z1 := I.z1, z2 := I.z2, d0 := I.d0, m0 := I.m0, own := I.own, dis := I.dis }
theorem InvS.to (I : InvS K U0 H0 U H r σ δ) (rel : RelE K U H σ' δ') (ow : OwnK σ δ σ' δ') : InvS K U0 H0 U H r σ' δ' :=
  ⟨I.ok, rel, I.st, I.mm, I.z1, I.z2, I.d0, I.m0, fun i xs p e q => by
      obtain ⟨e1, e2⟩ := ow i xs e
      rw [e2] at q
      exact I.own i xs p e1 q, fun i j xs ys p n e e' q => by
      obtain ⟨e1, e2⟩ := ow i xs e
      obtain ⟨e3, e4⟩ := ow j ys e'
      rw [e2] at q
      rw [e4]
      exact I.dis i j xs ys p n e1 e3 q⟩
theorem sett {α : Type} {l : List (Option α)} {n i : Nat} {a b : α} (h : (l.set n (some a))[i]? = some (some b)) : (i = n ∧ b = a) ∨ (i ≠ n ∧ l[i]? = some (some b)) := by
  by_cases z : n = i
  · subst z
    have l1 : n < l.length := by
      have := (List.getElem?_eq_some_iff.mp h).1
      rwa [List.length_set] at this
    rw [List.getElem?_set_self l1] at h
    cases h
    exact Or.inl ⟨rfl, rfl⟩
  · rw [List.getElem?_set_ne z] at h
    exact Or.inr ⟨fun q => z q.symm, h⟩
theorem InvS.mut (I : InvS K U0 H0 U H r σ δ) {b : Addr} : U.mut b ↔ U0.mut b := by
  unfold Vw.mut
  rw [I.mm]
theorem InvS.back (I : InvS K U0 H0 U H r σ δ) : Ok U0 H r ∧ Same (U.see H) (U0.see H) := by
  refine ⟨⟨fun b z => I.ok.dom b (I.z1 b z), fun m c g e => ?_⟩, fun b o e => ?_⟩
  · obtain ⟨a1, a2, a3⟩ := I.m0 m c g e
    obtain ⟨_, _, _, M⟩ := I.ok.memo m c g (by rw [I.mm]; exact e)
    exact ⟨a1, a2, a3, M⟩
  · obtain ⟨z, e⟩ := see_of e
    rw [see_at]
    · exact e
    · cases q : U0.Z b with
      | false => rfl
      | true => rw [I.z1 b q] at z; cases z
theorem EndR.nxOf {f : SD → Nat → Prop} {g : Sg → Hp → Prop} (R : EndR K EX U0 H0 ED E) (h : ∀ U σ δ H r, InvS K U0 H0 U H r σ δ → f δ r → g σ H) : EndR K EX U0 H0 { ED with nx := f } { E with nx := g } := ⟨h, R.bk, R.ct, R.rt, R.rz⟩
theorem snd_next : SndS K EX tNext sNext := fun U0 H0 U σ δ H r E ED I R h => R.nx _ _ _ _ _ I h
theorem snd_seq (ha : SndS K EX ta sa) (hb : SndS K EX tb sb) : SndS K EX (tSeq ta tb) (sSeq sa sb) := fun U0 H0 U σ δ H r E ED I R h =>
  ha U0 H0 U σ δ H r _ _ I (R.nxOf fun U σ δ H r I h => hb U0 H0 U σ δ H r E ED I R h) h
theorem snd_asg {g : TG} {gv : GV} {ns : List Nat} (he : SndE K te ee) (hg : SndG K g gv ns) : SndS K EX (tAsg te g) (sAsg ee gv) := fun U0 H0 U σ δ H r E ED I R h =>
  he U σ δ H r _ _ I.ok I.rel h fun d r1 v H1 h1 s1 ok1 a1 => by
    obtain ⟨δ', e, h1⟩ := h1
    have I1 := I.step s1 ok1
    exact hg U σ δ H1 r1 v d δ' _ ok1 I1.rel a1 e fun σ' rel' off ow => R.nx _ _ _ _ _ (I1.to rel' ow) h1
theorem snd_ret (he : SndE K te ee) : SndS K EX (tRet te) (sRet ee) := fun U0 H0 U σ δ H r E ED I R h =>
  he U σ δ H r _ _ I.ok I.rel h fun d r1 v H1 h1 s1 ok1 a1 => by
    have I1 := I.step s1 ok1
    exact R.rt _ _ _ _ I1.st I1.back.1 (a1.gr I1.back.2) h1
theorem snd_ifS {t : TT} {tv : TV} (ht : SndT K t tv) (ha : SndS K EX ta sa) (hb : SndS K EX tb sb) : SndS K EX (tIfS t ta tb) (sIf tv sa sb) := fun U0 H0 U σ δ H r E ED I R h =>
  ht U σ δ H r _ _ I.ok I.rel h fun c r1 H1 h1 s1 ok1 => by
    have I1 := I.step s1 ok1
    cases c with
    | true => exact iteT (ha U0 H0 U σ δ H1 r1 E ED I1 R h1)
    | false => exact iteF (hb U0 H0 U σ δ H1 r1 E ED I1 R h1)
/-- what an own list's place is not -/
theorem InvS.apt (I : InvS K U0 H0 U H r σ δ) {n : Nat} {xs : List D} {p : Addr} (e : δ[n]? = some (some (.own xs))) (q : σ[n]? = some (some (.ref p))) : Apt U p := by
  obtain ⟨v, e1, p', ws, rfl, z, m, _, _⟩ := I.rel.at' n _ e
  rw [e1] at q
  cases q
  refine ⟨z, m, fun m' c g e2 q => ?_⟩
  obtain ⟨a1, a2, a3⟩ := I.m0 m' c g (by rw [← I.mm]; exact e2)
  exact I.d0 c a2 (by rw [q]; exact I.own n xs p e e1)
/-- from here on: all that is seen now stays -/
theorem InvS.rebase (I : InvS K U0 H0 U H r σ δ) : ∃ HB : Hp, InvS K U0 HB U H r σ δ ∧ Same (U.see H) HB ∧ (∀ b o, HB b = some o → U0.Z b = true ∨ U.Z b = false) ∧ ∀ {ED : EndsD} {E : Ends}, EndR K EX U0 H0 ED E → EndR K EX U0 HB ED E := by
  let HB : Hp := fun b => if U.Z b = true ∧ U0.Z b = false then none else H b
  have hB : ∀ b o, HB b = some o → H b = some o ∧ (U.Z b = true → U0.Z b = true) := fun b o e => by
    by_cases q : U.Z b = true ∧ U0.Z b = false
    · have : HB b = none := if_pos q
      rw [this] at e; cases e
    · have : HB b = H b := if_neg q
      rw [this] at e
      refine ⟨e, fun z => ?_⟩
      cases q2 : U0.Z b with
      | true => rfl
      | false => exact absurd ⟨z, q2⟩ q
  have hN : ∀ b, U.Z b = true → U0.Z b = false → HB b = none := fun b z z2 => if_pos ⟨z, z2⟩
  have own0 : ∀ p, H0 p = none → U.Z p = true → HB p = none := fun p e z => hN p z (by
    cases q : U0.Z p with
    | false => rfl
    | true => exact absurd e (I.d0 p q))
  -- what was there at the entry is there now, and none of the def's own
  have from0 : ∀ b o, ¬ U0.mut b → H0 b = some o → HB b = some o := fun b o m e => by
    have e1 := I.st b o m e
    have : HB b = H b := if_neg fun ⟨z, z2⟩ => by
      rcases I.z2 b z with q | q
      · rw [q] at z2; cases z2
      · rw [q] at e; cases e
    rw [this]; exact e1
  have from1 : ∀ {b : Addr}, HB b = none → H0 b = none := fun {b} e => by
    by_cases m : U0.mut b
    · obtain ⟨m', c, g, e2, q⟩ := m
      obtain ⟨a1, a2, a3⟩ := I.m0 m' c g e2
      have zb : U0.Z b = true := by rcases q with rfl | rfl <;> assumption
      have : HB b = H b := if_neg fun ⟨_, z2⟩ => by rw [zb] at z2; cases z2
      rw [this] at e
      exact absurd e (I.ok.dom b (I.z1 b zb))
    · cases e0 : H0 b with
      | none => rfl
      | some o => rw [from0 b o m e0] at e; cases e
  refine ⟨HB, ⟨I.ok, I.rel, fun b o _ e => (hB b o e).1, I.mm, I.z1, fun b z => ?_, fun b z => ?_, I.m0, fun i xs p e q => ?_, I.dis⟩, fun b o e => ?_, fun b o e => ?_, fun {ED E} R => ?_⟩
  · cases q : U0.Z b with
    | true => exact Or.inl rfl
    | false => exact Or.inr (hN b z q)
  · have : HB b = H b := if_neg fun ⟨_, z2⟩ => by rw [z] at z2; cases z2
    rw [this]
    exact I.ok.dom b (I.z1 b z)
  · exact own0 p (I.own i xs p e q) (I.apt e q).z
  · obtain ⟨z, e⟩ := see_of e
    have : HB b = H b := if_neg fun ⟨z2, _⟩ => by rw [z] at z2; cases z2
    rw [this]; exact e
  · have := (hB b o e).2
    cases q : U.Z b with
    | false => exact Or.inr rfl
    | true => exact Or.inl (this q)
  · have conv : ∀ {U' : Vw} {σ' : Sg} {δ' : SD} {H' : Hp} {r' : Nat}, InvS K U0 HB U' H' r' σ' δ' → InvS K U0 H0 U' H' r' σ' δ' := fun {U' σ' δ' H' r'} J =>
      ⟨J.ok, J.rel, fun b o m e => J.st b o m (from0 b o m e), J.mm, J.z1, fun b z => by
        rcases J.z2 b z with q | q
        · exact Or.inl q
        · by_cases m : U0.mut b
          · obtain ⟨m', c, g, e, q⟩ := m
            obtain ⟨a1, a2, a3⟩ := I.m0 m' c g e
            rcases q with rfl | rfl
            · exact Or.inl a1
            · exact Or.inl a3
          · cases e : H0 b with
            | none => exact Or.inr rfl
            | some o =>
              rw [from0 b o m e] at q
              exact absurd q (by simp), I.d0, J.m0, fun i xs p e q => by
        have pB := J.own i xs p e q
        by_cases m : U0.mut p
        · exact absurd ((show U'.mut p from (by unfold Vw.mut at m ⊢; rw [J.mm]; exact m))) (J.apt e q).n
        · cases e0 : H0 p with
          | none => rfl
          | some o =>
            rw [from0 p o m e0] at pB
            exact absurd pB (by simp), J.dis⟩
    exact ⟨fun U' σ' δ' H' r' J => R.nx _ _ _ _ _ (conv J), fun U' σ' δ' H' r' J => R.bk _ _ _ _ _ (conv J), fun U' σ' δ' H' r' J => R.ct _ _ _ _ _ (conv J), fun H' r' v d st => R.rt H' r' v d fun b o m e => st b o m (from0 b o m e), fun H' r' C f d e v st ok n => R.rz H' r' C f d e v (fun b o m e => st b o m (from0 b o m e)) ok (from1 n)⟩
theorem snd_for {wi : TI} {iv : IV} {g : TG} {gv : GV} {ns : List Nat} {tb : TS} {sb : SV} (hi : SndI K wi iv) (hg : SndG K g gv ns) (hb : SndS K EX tb sb) : SndS K EX (tFor wi g tb) (sFor iv gv sb) := fun U0 H0 U σ δ H r E ED I R h =>
  hi U σ δ H r _ _ I.ok I.rel h fun ds r1 J H1 h1 s1 ok1 it => by
    have I1 := I.step s1 ok1
    obtain ⟨HB, IB, sB, zB, RB⟩ := I1.rebase
    have R' := RB R
    -- what is gone through stays seen
    have stay : ∀ {U' : Vw} {σ' : Sg} {δ' : SD} {H' : Hp} {r' : Nat}, InvS K U0 HB U' H' r' σ' δ' → Same (U.see H1) (U'.see H') := fun {U' σ' δ' H' r'} J b o e => by
      have e1 := sB b o e
      have n0 : U0.Z b = false := by
        obtain ⟨z, _⟩ := see_of e
        cases q : U0.Z b with
        | false => rfl
        | true => rw [I1.z1 b q] at z; cases z
      have nm : ¬ U0.mut b := fun m => by
        obtain ⟨m', c, g, e2, q⟩ := m
        obtain ⟨a1, a2, a3⟩ := I.m0 m' c g e2
        rcases q with rfl | rfl
        · rw [a1] at n0; cases n0
        · rw [a3] at n0; cases n0
      rw [see_at]
      · exact J.st b o nm e1
      · cases q : U'.Z b with
        | false => rfl
        | true =>
          rcases J.z2 b q with z | z
          · rw [z] at n0; cases n0
          · rw [e1] at z; cases z
    refine ⟨fun i m σ' H' => m = ds.length - i ∧ i ≤ ds.length ∧ ∃ U' δ' r', InvS K U0 HB U' H' r' σ' δ' ∧ forD gv sb ED (ds.drop i) δ' r', ⟨ds.length, by omega, Nat.zero_le _, U, δ, r1, IB, h1⟩, ?_⟩
    rintro i m σ' H' ⟨rfl, hil, U', δ', r', J', hf⟩
    have sm := stay J'
    have sm' : Same (U.see H1) H' := Gr.tr sm see_le
    by_cases hlt : i < ds.length
    · refine Or.inr ⟨it.go i H' hlt sm', fun σ3 H3 => ∃ U' δ' r', InvS K U0 HB U' H3 r' σ3 δ' ∧ forD gv sb ED (ds.drop (i + 1)) δ' r', fun σ3 H3 h3 => ⟨ds.length - (i + 1), by omega, rfl, by omega, h3⟩, fun x H'' y => ?_⟩
      obtain ⟨d, hd', y⟩ := it.yld i H' x H'' hlt sm' y
      obtain ⟨s2, ax⟩ := y.use J'.ok sm
      have J2 := J'.step (Step.of s2) (J'.ok.same s2)
      have dr : ds.drop i = d :: ds.drop (i + 1) := by
        rw [List.drop_eq_getElem_cons hlt]
        rw [List.getElem?_eq_getElem hlt] at hd'
        cases hd'
        rfl
      rw [dr] at hf
      obtain ⟨δ2, e2, hf⟩ := hf
      refine hg U' σ' δ' H'' r' x d δ2 _ J2.ok J2.rel ax e2 fun σ2 rel2 off ow => ?_
      exact hb U0 HB U' σ2 δ2 H'' r' _ { nx := fun δ r => forD gv sb ED (ds.drop (i + 1)) δ r, rt := ED.rt, bk := ED.nx, ct := fun δ r => forD gv sb ED (ds.drop (i + 1)) δ r, rz := ED.rz } (J2.to rel2 ow) ⟨fun U3 σ3 δ3 H3 r3 J3 h3 => ⟨U3, δ3, r3, J3, h3⟩, fun U3 σ3 δ3 H3 r3 J3 h3 => R'.nx _ _ _ _ _ J3 h3, fun U3 σ3 δ3 H3 r3 J3 h3 => ⟨U3, δ3, r3, J3, h3⟩, R'.rt, R'.rz⟩ hf
    · have e : i = ds.length := by omega
      subst e
      rw [List.drop_length] at hf
      exact Or.inl ⟨it.stop H' sm', R'.nx _ _ _ _ _ J' hf⟩
/-- from a def's reading to its promise -/
def runD (np nn : Nat) (s : SV) : SPEC := fun ss r P => ss.length = np ∧ s { nx := fun _ r' => P .non r', rt := P } (ss.map some ++ List.replicate (nn - np) none) r
theorem run_of {N : List Str} {np nn : Nat} {t : TS} {s : SV} {vs : List V} {Q : VK} {EE : XK} (hs : SndS K EE t s) (hN : N.length = nn) (h : spW K (runD np nn s) vs H Q EE) : t { nx := fun _ H' => Q .non H', rt := Q } (L2.start N vs) H := by
  obtain ⟨U, r, ss, P, ok, a, ⟨l, h⟩, k⟩ := h
  have lv := a.len
  have no : ∀ (i : Nat) (xs : List D), (ss.map some ++ List.replicate (nn - np) none)[i]? ≠ some (some (.own xs)) := fun i xs e => by
    have mem := List.mem_of_getElem? e
    rw [List.mem_append] at mem
    rcases mem with q | q
    · obtain ⟨s, hs, e⟩ := List.mem_map.mp q
      cases e
      have : ∀ {ss : List Sl} {vs : List V}, SlsOk K U H ss vs → Sl.own xs ∈ ss → False := by
        intro ss
        induction ss with
        | nil => intro vs _ m; cases m
        | cons s ss ih =>
          intro vs h m
          match vs, h with
          | v :: vs, h =>
            rcases List.mem_cons.mp m with rfl | m
            · cases h.1.2
            · exact ih h.2 m
          | [], h => exact h
      exact this a hs
    · have := (List.mem_replicate.mp q).2
      cases this
  have at' : ∀ {ss : List Sl} {vs : List V}, SlsOk K U H ss vs → ∀ (i : Nat) (s : Sl), ss[i]? = some s → ∃ v, vs[i]? = some v ∧ SlOk K U H s v := by
    intro ss
    induction ss with
    | nil => intro vs _ i s e; simp at e
    | cons s ss ih =>
      intro vs h i t e
      match vs, h with
      | v :: vs, h =>
        cases i with
        | zero => cases e; exact ⟨v, rfl, h.1.1⟩
        | succ i => exact ih h.2 i t e
      | [], h => exact h.elim
  have rel : RelE K U H (L2.start N vs) (ss.map some ++ List.replicate (nn - np) none) := by
    refine ⟨?_, fun i s e => ?_⟩
    · unfold L2.start
      rw [List.length_append, List.length_append, List.length_map, List.length_map, List.length_replicate, List.length_replicate, lv, hN, l]
    · have hi : i < ss.length := by
        have mem := List.getElem?_eq_some_iff.mp e
        obtain ⟨_, e'⟩ := mem
        by_cases q : i < ss.length
        · exact q
        · rw [List.getElem_append_right (by rw [List.length_map]; omega), List.getElem_replicate] at e'
          cases e'
      rw [List.getElem?_append_left (by rw [List.length_map]; exact hi), List.getElem?_map] at e
      obtain ⟨s', e', es⟩ := Option.map_eq_some_iff.mp e
      cases es
      obtain ⟨v, ev, av⟩ := at' a i s e'
      refine ⟨v, ?_, av⟩
      unfold L2.start
      rw [List.getElem?_append_left (by rw [List.length_map, lv]; exact hi), List.getElem?_map, ev]
      rfl
  refine hs U H U _ _ H r _ _ ⟨ok, rel, Step.rf, rfl, fun _ z => z, fun _ z => Or.inl z, ok.dom, fun m c g e => ?_, fun i xs p e => absurd e (no i xs), fun i j xs ys p _ e => absurd e (no i xs)⟩ ⟨fun U' σ' δ' H' r' I h => ?_, fun _ _ _ _ _ _ h => h, fun _ _ _ _ _ _ h => h, fun H' r' v d st ok' a h => k d r' v H' h st ok' a, fun _ _ _ _ _ _ _ _ _ _ _ _ z => by exact z.elim⟩ h
  · obtain ⟨a1, a2, a3, _⟩ := ok.memo m c g e
    exact ⟨a1, a2, a3⟩
  · exact k _ _ _ _ h I.st I.back.1 .non
theorem spW_len {np nn : Nat} {s : SV} {vs : List V} {Q : VK} {EE : XK} {ps : List Str} (hp : ps.length = np) (h : spW K (runD np nn s) vs H Q EE) : vs.length = ps.length := by
  obtain ⟨U, r, ss, P, ok, a, ⟨l, h⟩, k⟩ := h
  rw [a.len, l, hp]
end
end TSx

/-! Own layer, part Y4: operators and builtins over data. -/
namespace TSx
open PySem L2 TL
def opI (g : Int → Int → Int) : D → D → Option D
  | .int i, .int j => some (.int (g i j))
  | _, _ => none
def opB (g : Int → Int → Bool) : D → D → Option D
  | .int i, .int j => some (.bl (g i j))
  | _, _ => none
instance (i j : Int) : Decidable (CMul i j) := by unfold CMul; infer_instance
instance (i j : Int) : Decidable (CDiv i j) := by unfold CDiv; infer_instance
def opIC (C : Int → Int → Prop) [∀ i j, Decidable (C i j)] (g : Int → Int → Int) : D → D → Option D
  | .int i, .int j => if C i j then some (.int (g i j)) else none
  | _, _ => none
def opAdd : D → D → Option D := opI fun i j => i + j
def opSub : D → D → Option D := opI fun i j => i - j
def opMul : D → D → Option D := opIC CMul fun i j => i * j
def opMod : D → D → Option D := opIC (fun _ j => 0 < j) fun i j => i % j
def opFdiv : D → D → Option D := opIC CDiv fun i j => i / j
def opLt : D → D → Option D := opB fun i j => decide (i < j)
def opLe : D → D → Option D := opB fun i j => decide (i ≤ j)
def opGt : D → D → Option D := opB fun i j => decide (j < i)
def opGe : D → D → Option D := opB fun i j => decide (j ≤ i)
def opNeg : D → Option D
  | .int i => some (.int (-i))
  | _ => none
def opCatL : D → D → Option D
  | .lst xs, .lst ys => if xs.length + ys.length ≤ 100000 then some (.lst (xs ++ ys)) else none
  | _, _ => none
def opCatT : D → D → Option D
  | .tup xs, .tup ys => if xs.length + ys.length ≤ 100000 then some (.tup (xs ++ ys)) else none
  | _, _ => none
def opCatS : D → D → Option D
  | .str x, .str y => if x.length + y.length ≤ 100000 then some (.str (x ++ y)) else none
  | _, _ => none
def opRepL : D → D → Option D
  | .lst xs, .int k => if 0 ≤ k ∧ k < 1000 ∧ xs.length ≤ 100 then some (.lst (List.replicate k.toNat xs).flatten) else none
  | _, _ => none
def eqSc : D → D → Option Bool
  | .non, .non => some true
  | .non, .int _ => some false
  | .int _, .non => some false
  | .non, .bl _ => some false
  | .bl _, .non => some false
  | .non, .str _ => some false
  | .str _, .non => some false
  | .int i, .int j => some (decide (i = j))
  | .bl i, .bl j => some (decide (i = j))
  | .str i, .str j => some (decide (i = j))
  | .int _, .str _ => some false
  | .str _, .int _ => some false
  | .bl _, .str _ => some false
  | .str _, .bl _ => some false
  | _, _ => none
def opEq (d e : D) : Option D := (eqSc d e).map .bl
def opNe (d e : D) : Option D := (eqSc d e).map fun b => .bl (!b)
def opEqD (d e : D) : Option D := if d.pl = true ∧ e.pl = true ∧ d.py.depth ≤ 64 ∧ e.py.depth ≤ 64 then some (.bl (PyData.eqv d.py e.py)) else none
def opNeD (d e : D) : Option D := if d.pl = true ∧ e.pl = true ∧ d.py.depth ≤ 64 ∧ e.py.depth ≤ 64 then some (.bl (!PyData.eqv d.py e.py)) else none
def opInS : D → D → Option D
  | .str ⟨⟨[c]⟩⟩, .str z => some (.bl (decide (c ∈ z.cps.toList)))
  | _, _ => none
def opIsN : D → D → Option D
  | d, .non => some (.bl (match d with | .non => true | _ => false))
  | _, _ => none
def opNotN : D → D → Option D
  | d, .non => some (.bl (match d with | .non => false | _ => true))
  | _, _ => none
def atD (xs : List D) (i : Int) : Option D := if 0 ≤ i then xs[i.toNat]? else if -(xs.length : Int) ≤ i then xs[(xs.length + i).toNat]? else none
def opIxL : D → D → Option D
  | .lst xs, .int i => atD xs i
  | _, _ => none
def opIxT : D → D → Option D
  | .tup xs, .int i => atD xs i
  | _, _ => none
def opIxS : D → D → Option D
  | .str x, .int i => if x.length ≤ 100000 ∧ 0 ≤ i then (x.cps[i.toNat]?).map fun c => .str ⟨#[c]⟩ else none
  | _, _ => none
def cLen : List Sl → Option D
  | [.d (.lst xs)] => some (.int xs.length)
  | [.d (.tup xs)] => some (.int xs.length)
  | [.scr ns] => some (.int ns.length)
  | _ => none
def cLenS : List Sl → Option D
  | [.d (.str x)] => if x.length ≤ 100000 then some (.int x.length) else none
  | _ => none
def cTup : List Sl → Option D
  | [.d (.lst xs)] => some (.tup xs)
  | [.d (.tup xs)] => some (.tup xs)
  | _ => none
def cLst : List Sl → Option D
  | [.d (.lst xs)] => some (.lst xs)
  | [.d (.tup xs)] => some (.lst xs)
  | _ => none
def intsD : List D → Option (List Int)
  | [] => some []
  | .int i :: ds => (intsD ds).map (i :: ·)
  | _ :: _ => none
def blsD : List D → Option (List Bool)
  | [] => some []
  | .bl i :: ds => (blsD ds).map (i :: ·)
  | _ :: _ => none
def strsD : List D → Option (List Str)
  | [] => some []
  | .str i :: ds => (strsD ds).map (i :: ·)
  | _ :: _ => none
def seqD : D → Option (List D)
  | .lst xs => some xs
  | .tup xs => some xs
  | _ => none
def lstD : List Sl → Option (List D)
  | [.d (.lst xs)] => some xs
  | _ => none
def cSum (ss : List Sl) : Option D := (lstD ss).bind fun xs => (intsD xs).map fun ns => .int ns.sum
def cAll (ss : List Sl) : Option D := (lstD ss).bind fun xs => (blsD xs).map fun ns => .bl (ns.all id)
def cAny (ss : List Sl) : Option D := (lstD ss).bind fun xs => (blsD xs).map fun ns => .bl (ns.any id)
def maxI : List Int → Int
  | [] => 0
  | [x] => x
  | x :: xs => max x (maxI xs)
def cMax (ss : List Sl) : Option D := (lstD ss).bind fun xs => (intsD xs).bind fun ns => if ns = [] then none else some (.int (maxI ns))
def cMin2 : List Sl → Option D
  | [.d (.int i), .d (.int j)] => some (.int (if j < i then j else i))
  | _ => none
def cInt : List Sl → Option D
  | [.d (.int i)] => some (.int i)
  | _ => none
def cIntB : List Sl → Option D
  | [.d (.bl k)] => some (.int (if k then 1 else 0))
  | _ => none
def cLcm : List Sl → Option D
  | [.d (.int a), .d (.int b)] => if a.natAbs < 2 ^ 64 ∧ b.natAbs < 2 ^ 64 ∧ (((Nat.lcm 1 a.natAbs).lcm b.natAbs : Nat) : Int).natAbs.log2 < bitsLine then some (.int (((Nat.lcm 1 a.natAbs).lcm b.natAbs : Nat) : Int)) else none
  | _ => none
def mJoin (d e : D) : Option D := match d with
  | .str a => ((seqD e).bind strsD).bind fun ys => if (ys.map (·.length)).sum + ys.length * a.length ≤ 16777216 then some (.str (Txt.join a ys)) else none
  | _ => none
def mCount : D → D → Option D
  | .str a, .str b => some (.int (Txt.count a b))
  | _, _ => none
def mFind : D → D → Option D
  | .str a, .str b => some (.int (Txt.find a b))
  | _, _ => none
def opRev : D → Option D
  | .tup xs => some (.tup xs.reverse)
  | _ => none
def eIsi (T : String) (a : EV) : EV := fun δ r P => a δ r fun d r1 => d.isE = false ∧ ∃ b, kitB d.ty T = some b ∧ P (.bl b) r1
abbrev OV := SD → Nat → (Option Int → Nat → Prop) → Prop
def oNo : OV := fun _ r P => P none r
def oPart (e : EV) : OV := fun δ r P => e δ r fun d r1 => ∃ i, d = .int i ∧ P (some i) r1
def eSl (f : D → Option Int → Option Int → Option D) (a : EV) (l u : OV) : EV := fun δ r P => a δ r fun d r1 => l δ r1 fun i r2 => u δ r2 fun j r3 => ∃ z, f d i j = some z ∧ P z r3
def slT : D → Option Int → Option Int → Option D
  | .tup xs, lo, hi => some (.tup (cutD xs lo hi))
  | _, _, _ => none
def slL : D → Option Int → Option Int → Option D
  | .lst xs, lo, hi => some (.lst (cutD xs lo hi))
  | _, _, _ => none
def slS : D → Option Int → Option Int → Option D
  | .str x, lo, hi => if x.length ≤ 100000 then some (.str (cutS x lo hi)) else none
  | _, _, _ => none
def eOwnTup (n : Nat) : EV := fun δ r P => ∃ xs, δ[n]? = some (some (.own xs)) ∧ P (.tup xs) r
def eOwnLen (n : Nat) : EV := fun δ r P => ∃ xs : List D, δ[n]? = some (some (.own xs)) ∧ P (.int xs.length) r
section
variable {K : PySem.W.Frag}
theorem o_I {g : Int → Int → Int} : OpS K (rI0 fun i j => .int (g i j)) (opI g) := fun U H r x y d e z Q ok a b h k => by
  unfold opI at h
  split at h
  · cases h; cases a; cases b; exact ⟨_, _, rfl, rfl, k _ _ Gr.rfl' (.int _)⟩
  · cases h
theorem o_B {g : Int → Int → Bool} : OpS K (rI0 fun i j => .bl (g i j)) (opB g) := fun U H r x y d e z Q ok a b h k => by
  unfold opB at h
  split at h
  · cases h; cases a; cases b; exact ⟨_, _, rfl, rfl, k _ _ Gr.rfl' (.bl _)⟩
  · cases h
theorem o_add : OpS K (rI0 fun i j => .int (i + j)) opAdd := o_I
theorem o_sub : OpS K (rI0 fun i j => .int (i - j)) opSub := o_I
theorem o_lt : OpS K (rI0 fun i j => .bl (decide (i < j))) opLt := o_B
theorem o_le : OpS K (rI0 fun i j => .bl (decide (i ≤ j))) opLe := o_B
theorem o_gt : OpS K (rI0 fun i j => .bl (decide (j < i))) opGt := o_B
theorem o_catL : OpS K rCat opCatL := fun U H r x y d e z Q ok a b h k => by
  unfold opCatL at h
  split at h
  · split at h
    · rename_i l
      cases h
      cases a with
      | @lst p xs _ e1 aa =>
      cases b with
      | @lst q ys _ e2 bb =>
        exact ⟨p, q, xs, ys, rfl, rfl, see_le _ _ e1, see_le _ _ e2, by rw [aa.len, bb.len]; exact sz1 l, fun w nw => k _ _ (same_new nw) (.lst (see_new ok nw) ((aa.app bb).gr (see_same (same_new nw))))⟩
    · cases h
  · cases h
theorem o_catS : OpS K (fun x y H Q => ∃ i j, x = .str i ∧ y = .str j ∧ i.length + j.length ≤ sizeLine ∧ Q (.str (i ++ j)) H) opCatS := fun U H r x y d e z Q ok a b h k => by
  unfold opCatS at h
  split at h
  · split at h
    · rename_i l
      cases h; cases a; cases b; exact ⟨_, _, rfl, rfl, sz1 l, k _ _ Gr.rfl' (.str _)⟩
    · cases h
  · cases h
theorem o_repL : OpS K rRep opRepL := fun U H r x y d e z Q ok a b h k => by
  unfold opRepL at h
  split at h
  · split at h
    · rename_i l
      obtain ⟨l1, l2, l3⟩ := l
      cases h
      cases b
      cases a with
      | @lst p xs _ e1 aa =>
        refine ⟨p, _, xs, rfl, rfl, see_le _ _ e1, by omega, by omega, ?_, fun w nw => k _ _ (same_new nw) (.lst (see_new ok nw) ((aa.rep _).gr (see_same (same_new nw))))⟩
        refine sz1 (Nat.le_trans (Nat.mul_le_mul (show xs.length ≤ 100 by rw [aa.len]; exact l3) (show Int.toNat _ ≤ 1000 by omega)) (by decide))
    · cases h
  · cases h
theorem eqSc_ok {G : Hp} {x y : V} {d e : D} {b : Bool} (a : Dt K G x d) (c : Dt K G y e) (h : eqSc d e = some b) : scal x y = true ∧ decide (x = y) = b := by
  have inj : ∀ {p : Prop} [Decidable p] {b : Bool}, some (decide p) = some b → decide p = b := fun h => by cases h; rfl
  cases a <;> cases c <;> first | (cases h; done) | (cases h; exact ⟨rfl, by simp⟩) | (cases h; refine ⟨rfl, ?_⟩; simp)
theorem o_eq : OpS K rEq opEq := fun U H r x y d e z Q ok a b h k => by
  obtain ⟨c, hc, rfl⟩ := Option.map_eq_some_iff.mp h
  obtain ⟨h1, h2⟩ := eqSc_ok a b hc
  exact ⟨h1, by rw [h2]; exact k _ _ Gr.rfl' (.bl _)⟩
theorem o_ne : OpS K rNe opNe := fun U H r x y d e z Q ok a b h k => by
  obtain ⟨c, hc, rfl⟩ := Option.map_eq_some_iff.mp h
  obtain ⟨h1, h2⟩ := eqSc_ok a b hc
  exact ⟨h1, by rw [h2]; exact k _ _ Gr.rfl' (.bl _)⟩
theorem o_eqD : OpS K (rEqD K) opEqD := fun U H r x y d e z Q ok a b h k => by
  unfold opEqD at h
  split at h
  · rename_i c
    cases h
    exact r_eqD (a.gr see_le) (b.gr see_le) c.1 c.2.1 c.2.2.1 c.2.2.2 (k _ _ Gr.rfl' (.bl _))
  · cases h
theorem o_neD : OpS K (rNeD K) opNeD := fun U H r x y d e z Q ok a b h k => by
  unfold opNeD at h
  split at h
  · rename_i c
    cases h
    exact r_neD (a.gr see_le) (b.gr see_le) c.1 c.2.1 c.2.2.1 c.2.2.2 (k _ _ Gr.rfl' (.bl _))
  · cases h
theorem o_inS : OpS K (fun x y H Q => ∃ (c : Nat) (z : Str), x = .str ⟨#[c]⟩ ∧ y = .str z ∧ Q (.bl (decide (c ∈ z.cps.toList))) H) opInS := fun U H r x y d e z Q ok a b h k => by
  unfold opInS at h
  split at h
  · cases h; cases a; cases b; exact ⟨_, _, rfl, rfl, k _ _ Gr.rfl' (.bl _)⟩
  · cases h
theorem o_notN : OpS K (fun x y H Q => y = .non ∧ Q (.bl (!decide (x = .non))) H) opNotN := fun U H r x y d e z Q ok a b h k => by
  unfold opNotN at h
  split at h
  · cases b
    cases h
    refine ⟨rfl, ?_⟩
    cases a <;> exact k _ _ Gr.rfl' (.bl _)
  · cases h
theorem atD_ok {G : Hp} {vs : List V} {ds : List D} {i : Int} {z : D} (a : DtA K G vs ds) (h : atD ds i = some z) : ∃ v, atI vs i = some v ∧ Dt K G v z := by
  have l := a.len
  unfold atD at h
  split at h
  · rename_i p
    obtain ⟨v, hv, av⟩ := a.nth h
    refine ⟨v, ?_, av⟩
    have := atI_nat hv
    rwa [Int.toNat_of_nonneg p] at this
  · split at h
    · rename_i n p
      obtain ⟨v, hv, av⟩ := a.nth h
      refine ⟨v, ?_, av⟩
      unfold atI ixN
      rw [if_neg n, l, if_pos p, Int.add_comm]
      exact hv
    · cases h
theorem o_ixL : OpS K (rIxL K) opIxL := fun U H r x y d e z Q ok a b h k => by
  unfold opIxL at h
  split at h
  · cases b
    cases a with
    | @lst p xs _ e1 aa =>
      obtain ⟨v, hv, av⟩ := atD_ok aa h
      exact ⟨p, xs, _, v, rfl, rfl, SqL.of (see_le _ _ e1), hv, k v H Gr.rfl' av⟩
  · cases h
theorem o_ixT : OpS K (rIxT K) opIxT := fun U H r x y d e z Q ok a b h k => by
  unfold opIxT at h
  split at h
  · cases b
    cases a with
    | @tup p xs _ e1 aa =>
      obtain ⟨v, hv, av⟩ := atD_ok aa h
      exact ⟨p, xs, _, v, rfl, rfl, gr_T see_le e1, hv, k v H Gr.rfl' av⟩
  · cases h
theorem c_len : CbS K (fun xs H Q => ∃ p ys, xs = [.ref p] ∧ (SqL K H p ys ∨ SqT K H p ys) ∧ Q (.int ys.length) H) cLen := fun U H r ss vs z Q ok a h k => by
  unfold cLen at h
  split at h
  · cases h
    obtain ⟨v, rfl, a'⟩ := a.one
    cases (show Dt K (U.see H) v (.lst _) from a') with
    | @lst p xs _ e aa => exact ⟨p, xs, rfl, Or.inl (SqL.of (see_le _ _ e)), by rw [aa.len]; exact k _ _ Gr.rfl' (.int _)⟩
  · cases h
    obtain ⟨v, rfl, a'⟩ := a.one
    cases (show Dt K (U.see H) v (.tup _) from a') with
    | @tup p xs _ e aa => exact ⟨p, xs, rfl, Or.inr (gr_T see_le e), by rw [aa.len]; exact k _ _ Gr.rfl' (.int _)⟩
  · cases h
    obtain ⟨v, rfl, p, rfl, a'⟩ := a.one
    exact ⟨p, _, rfl, Or.inl (gr_L see_le a'), by rw [List.length_map]; exact k _ _ Gr.rfl' (.int _)⟩
  · cases h
theorem c_lenS : CbS K (fun xs H Q => ∃ z, xs = [.str z] ∧ z.length ≤ sizeLine ∧ Q (.int z.length) H) cLenS := fun U H r ss vs z Q ok a h k => by
  unfold cLenS at h
  split at h
  · split at h
    · rename_i l
      cases h
      obtain ⟨v, rfl, a'⟩ := a.one
      cases (show Dt K (U.see H) v (.str _) from a')
      exact ⟨_, rfl, sz1 l, k _ _ Gr.rfl' (.int _)⟩
    · cases h
  · cases h
theorem ints_of {G : Hp} : ∀ {ds : List D} {ns : List Int} {vs : List V}, intsD ds = some ns → DtA K G vs ds → vs = ns.map V.int
  | [], ns, vs, h, a => by cases h; cases a; rfl
  | d :: ds, ns, vs, h, a => by
    cases a with
    | @cons v vs _ _ a b =>
    cases d with
    | int i =>
      obtain ⟨l, hl, rfl⟩ := Option.map_eq_some_iff.mp (show (intsD ds).map (i :: ·) = some ns from h)
      cases a
      rw [ints_of hl b]; rfl
    | _ => cases h
theorem bls_of {G : Hp} : ∀ {ds : List D} {ns : List Bool} {vs : List V}, blsD ds = some ns → DtA K G vs ds → vs = ns.map V.bl
  | [], ns, vs, h, a => by cases h; cases a; rfl
  | d :: ds, ns, vs, h, a => by
    cases a with
    | @cons v vs _ _ a b =>
    cases d with
    | bl i =>
      obtain ⟨l, hl, rfl⟩ := Option.map_eq_some_iff.mp (show (blsD ds).map (i :: ·) = some ns from h)
      cases a
      rw [bls_of hl b]; rfl
    | _ => cases h
theorem lst_seq {U : Vw} {H : Hp} {ss : List Sl} {vs : List V} {xs : List D} (a : SlsOk K U H ss vs) (h : lstD ss = some xs) : ∃ p ws, vs = [.ref p] ∧ DtA K (U.see H) ws xs ∧ SqL K H p ws := by
  unfold lstD at h
  split at h
  · cases h
    obtain ⟨v, rfl, a'⟩ := a.one
    cases (show Dt K (U.see H) v (.lst _) from a') with
    | @lst p ws _ e aa => exact ⟨p, ws, rfl, aa, SqL.of (see_le _ _ e)⟩
  · cases h
theorem c_sum : CbS K (rSum K) cSum := fun U H r ss vs z Q ok a h k => by
  obtain ⟨xs, h1, h⟩ := Option.bind_eq_some_iff.mp h
  obtain ⟨ns, h2, rfl⟩ := Option.map_eq_some_iff.mp h
  obtain ⟨p, ws, rfl, aa, q⟩ := lst_seq a h1
  exact ⟨p, ns, rfl, by rw [← ints_of h2 aa]; exact q, k _ _ Gr.rfl' (.int _)⟩
theorem c_all : CbS K (rAll K) cAll := fun U H r ss vs z Q ok a h k => by
  obtain ⟨xs, h1, h⟩ := Option.bind_eq_some_iff.mp h
  obtain ⟨ns, h2, rfl⟩ := Option.map_eq_some_iff.mp h
  obtain ⟨p, ws, rfl, aa, q⟩ := lst_seq a h1
  exact ⟨p, ns, rfl, by rw [← bls_of h2 aa]; exact q, k _ _ Gr.rfl' (.bl _)⟩
theorem c_min2 : CbS K (fun xs H Q => ∃ i j, xs = [.int i, .int j] ∧ Q (.int (if j < i then j else i)) H) cMin2 := fun U H r ss vs z Q ok a h k => by
  unfold cMin2 at h
  split at h
  · cases h
    obtain ⟨v, w, rfl, a', b'⟩ := a.two
    cases (show Dt K (U.see H) v (.int _) from a')
    cases (show Dt K (U.see H) w (.int _) from b')
    exact ⟨_, _, rfl, k _ _ Gr.rfl' (.int _)⟩
  · cases h
theorem c_lcm : CbS K rLcm cLcm := fun U H r ss vs z Q ok a h k => by
  unfold cLcm at h
  split at h
  · split at h
    · rename_i l
      cases h
      obtain ⟨v, w, rfl, a', b'⟩ := a.two
      cases (show Dt K (U.see H) v (.int _) from a')
      cases (show Dt K (U.see H) w (.int _) from b')
      exact ⟨_, _, rfl, l.1, l.2.1, l.2.2, k _ _ Gr.rfl' (.int _)⟩
    · cases h
  · cases h
theorem snd_isi {T : String} {ta : TE} {ea : EV} (ha : SndE K ta ea) : SndE K (tCB (rIsi K) (tCons ta (tCons (tC (.ty T)) tNil))) (eIsi T ea) := fun U σ δ H r P Q ok rel h k =>
  ha U σ δ H r _ _ ok rel h fun d r1 x H1 h1 s1 ok1 a1 => by
    obtain ⟨e, b, hb, p⟩ := h1
    exact ⟨x, .ty T, _, _, b, rfl, .ty T, ty_of (a1.gr see_le) e, kit_ty hb, k _ _ _ _ p s1 ok1 (.bl b)⟩
/-! slices -/
def eBack (a : EV) : EV := eUn opRev a
/-! methods of texts -/
theorem snd_ownT {n : Nat} : SndE K (tCB (fun xs H Q => ∃ p ys, xs = [V.ref p] ∧ ((SqL K H p ys ∧ ∀ l, H l = none → Q (V.ref l) (upd H l (HO.tup ys))) ∨ (SqT K H p ys ∧ Q (V.ref p) H))) (tCons (tVar n) tNil)) (eOwnTup n) := fun U σ δ H r P Q ok rel h k => by
  obtain ⟨xs, e, h⟩ := h
  obtain ⟨v, e1, p, ws, rfl, z, m, hp, aa⟩ := rel.at' n _ e
  exact ⟨_, e1, p, ws, rfl, Or.inl ⟨SqL.of hp, fun l nl => k _ _ _ _ h (Step.of (same_new nl)) (ok.same (same_new nl)) (.tup (SqT.of (see_new ok nl)) (aa.gr (see_same (same_new nl))))⟩⟩
end
end TSx

/-! Own layer, part Y5: draws, repr, powers over data; the law's beginning. -/
namespace TSx
open PySem L2 TL
structure Blt3 (mg : Str → Option Value) : Prop where
  max : mg "max" = none
  min : mg "min" = none
  any : mg "any" = none
  sorted : mg "sorted" = none
instance (i j : Int) : Decidable (CPow i j) := by unfold CPow; infer_instance
def opPow : D → D → Option D := opIC CPow fun i j => i ^ j.toNat
def eRepr (a : EV) : EV := fun δ r P => a δ r fun d r1 => d.rd ∧ P (.str d.pd.shown) r1
def Sdraw : SPEC := fun ss r P => ∃ n : Int, ss = [.memo, .d (.int n)] ∧ (0 < n ∧ n < 1073741824) ∧ 0 < r ∧ ∀ v : Int, 0 ≤ v → v < n → P (.int v) (r - 1)
section
variable {K : PySem.W.Frag} {H : Hp}
theorem snd_repr {ta : TE} {ea : EV} (ha : SndE K ta ea) : SndE K (tCB (rReprD K) (tCons ta tNil)) (eRepr ea) := fun U σ δ H r P Q ok rel h k =>
  ha U σ δ H r _ _ ok rel h fun d r1 x H1 h1 s1 ok1 a1 => ⟨x, d, rfl, a1.gr see_le, h1.1, k _ _ _ _ h1.2 s1 ok1 (.str _)⟩
theorem fnok_mono {P : Program} {w : World} {mg : Str → Option Value} {base : Heap} {k : Nat} {f : Addr} {fd : FuncData} {ps : List Str} {sp sp' : Sp} {CX : CXT} (F : FnOk P w K mg base CX k f fd ps sp) (m : ∀ vs H Q E, sp' vs H Q E → sp vs H Q E) : FnOk P w K mg base CX k f fd ps sp' :=
  ⟨fun vs H Q E h => F.len vs H Q E (m vs H Q E h), fun A o s H a us vs Q E r e b v h => F.run A o s H a us vs Q E r e b v (m vs H Q E h)⟩
theorem kp_step {U : Vw} {m c g : Addr} {H' : Hp} (e : U.mm = some (m, c, g)) (k : Kp m g H H') : Step U H H' := fun b o n h => k b o (fun z => n ⟨m, c, g, e, Or.inl z⟩) (fun z => n ⟨m, c, g, e, Or.inr z⟩) h
theorem kp_ok {U : Vw} {m c g : Addr} {H' : Hp} {r r' : Nat} (ok : Ok U H r) (e : U.mm = some (m, c, g)) (k : Kp m g H H') (M : MAt m c g H' r') : Ok U H' r' := by
  refine ⟨fun b z => ?_, fun m' c' g' e' => ?_⟩
  · obtain ⟨⟨n, cs, gs, h1, h2, h3, _⟩, _⟩ := M
    by_cases q : b = m
    · rw [q, h1]; simp
    · by_cases q2 : b = g
      · rw [q2, h3]; simp
      · cases q3 : H b with
        | none => exact absurd q3 (ok.dom b z)
        | some o => rw [k b o q q2 q3]; simp
  · rw [e] at e'
    cases e'
    obtain ⟨a1, a2, a3, _⟩ := ok.memo m c g e
    exact ⟨a1, a2, a3, M⟩
theorem draw_of {vs : List V} {Q : VK} {E : XK} (h : spW K Sdraw vs H Q E) : spDraw vs H Q E := by
  obtain ⟨U, r, ss, P, ok, a, ⟨n, rfl, ⟨n0, n1⟩, r0, h⟩, k⟩ := h
  obtain ⟨v, w, rfl, ⟨m, c, g, e, rfl⟩, b⟩ := a.two
  cases (show Dt K (U.see H) w (.int n) from b)
  obtain ⟨_, _, _, M⟩ := ok.memo m c g e
  obtain ⟨q, rfl⟩ : ∃ q, r = q + 1 := ⟨r - 1, by omega⟩
  exact ⟨m, c, g, q, n, rfl, n0, n1, M, fun v H' v0 v1 M' kp => k _ _ _ _ (h v v0 v1) (kp_step e kp) (kp_ok ok e kp M') (.int v)⟩
def opInQ (d e : D) : Option D := match d with
  | .str x => ((seqD e).bind strsD).map fun ws => .bl (ws.any fun y => y == x)
  | _ => none
theorem in_of {U : Vw} {H : Hp} {x : Str} {y : V} {e : D} {ws : List Str} (b : Dt K (U.see H) y e) (h : (seqD e).bind strsD = some ws) : ∃ p vs, y = .ref p ∧ (SqL K H p vs ∨ SqT K H p vs) ∧ inV (.str x) vs = ws.any (fun y => y == x) ∧ vs.all flatV = true := by
  obtain ⟨xs, h1, h2⟩ := Option.bind_eq_some_iff.mp h
  unfold seqD at h1
  have mp : ∀ {ds : List D} {ws : List Str}, strsD ds = some ws → ds = ws.map D.str := by
    intro ds
    induction ds with
    | nil => intro ws h; cases h; rfl
    | cons d ds ih =>
      intro ws h
      cases d with
      | str i =>
        obtain ⟨l, hl, rfl⟩ := Option.map_eq_some_iff.mp (show (strsD ds).map (i :: ·) = some ws from h)
        rw [ih hl]; rfl
      | _ => cases h
  have e2 := mp h2
  split at h1
  · cases h1
    cases b with
    | @lst p vs _ e aa =>
      rw [e2] at aa
      exact ⟨p, vs, rfl, Or.inl (SqL.of (see_le _ _ e)), inV_str x aa⟩
  · cases h1
    cases b with
    | @tup p vs _ e aa =>
      rw [e2] at aa
      exact ⟨p, vs, rfl, Or.inr (gr_T see_le e), inV_str x aa⟩
  · cases h1
theorem o_inQ : OpS K (rIn K false) opInQ := fun U H r x y d e z Q ok a b h k => by
  unfold opInQ at h
  split at h
  · obtain ⟨ws, h1, rfl⟩ := Option.map_eq_some_iff.mp h
    cases a
    rename_i s
    obtain ⟨p, vs, rfl, q, i, f⟩ := in_of (x := s) b h1
    refine ⟨p, vs, rfl, q, rfl, f, ?_⟩
    rw [if_neg (by decide), i]
    exact k _ _ Gr.rfl' (.bl _)
  · cases h
def opIx : D → D → Option D
  | .lst xs, .int i => atD xs i
  | .tup xs, .int i => atD xs i
  | .str x, .int i => opIxS (.str x) (.int i)
  | _, _ => none
end
end TSx

/-! Own layer, part Y6: how readings over data are gone through. -/
namespace TSx
open PySem L2 TL
section
variable {α β : Type} {g : GV} {t : TV} {e : EV} {δ0 δ : SD} {acc ds : List D} {r : Nat} {P : D → Nat → Prop}
theorem ex_some {α : Type} {a : α} {P : α → Prop} : (∃ z, some a = some z ∧ P z) ↔ P a := ⟨fun ⟨_, e, p⟩ => by cases e; exact p, fun p => ⟨a, rfl, p⟩⟩
theorem ex_if {α : Type} {c : Prop} [Decidable c] {a : α} {P : α → Prop} : (∃ z, (if c then some a else none) = some z ∧ P z) ↔ c ∧ P a := by
  constructor
  · rintro ⟨z, e, p⟩
    split at e
    · cases e; exact ⟨by assumption, p⟩
    · cases e
  · rintro ⟨h, p⟩
    exact ⟨a, if_pos h, p⟩
theorem ex_tup {ds : List D} {P : List D → Prop} : (∃ xs, D.tup ds = .tup xs ∧ P xs) ↔ P ds := ⟨fun ⟨_, e, p⟩ => by cases e; exact p, fun p => ⟨ds, rfl, p⟩⟩
theorem ex_lst {ds : List D} {P : List D → Prop} : (∃ xs, D.lst ds = .lst xs ∧ P xs) ↔ P ds := ⟨fun ⟨_, e, p⟩ => by cases e; exact p, fun p => ⟨ds, rfl, p⟩⟩
theorem ex_bl {b : Bool} {P : Bool → Prop} : (∃ c, D.bl b = .bl c ∧ P c) ↔ P b := ⟨fun ⟨_, e, p⟩ => by cases e; exact p, fun p => ⟨b, rfl, p⟩⟩
theorem ex_str {b : Str} {P : Str → Prop} : (∃ c, D.str b = .str c ∧ P c) ↔ P b := ⟨fun ⟨_, e, p⟩ => by cases e; exact p, fun p => ⟨b, rfl, p⟩⟩
theorem ex_str0 {b : Str} : (∃ c, D.str b = .str c) ↔ True := ⟨fun _ => trivial, fun _ => ⟨b, rfl⟩⟩
theorem ex_int {b : Int} {P : Int → Prop} : (∃ c, D.int b = .int c ∧ P c) ↔ P b := ⟨fun ⟨_, e, p⟩ => by cases e; exact p, fun p => ⟨b, rfl, p⟩⟩
theorem ex_i1 {b : Int} {P : Int → Prop} : (∃ c, [Sl.d (D.int b)] = [.d (.int c)] ∧ P c) ↔ P b := ⟨fun ⟨_, e, p⟩ => by cases e; exact p, fun p => ⟨b, rfl, p⟩⟩
theorem ex_i2 {a b : Int} {P : Int → Int → Prop} : (∃ c d, [Sl.d (D.int a), .d (.int b)] = [.d (.int c), .d (.int d)] ∧ P c d) ↔ P a b := ⟨fun ⟨_, _, e, p⟩ => by cases e; exact p, fun p => ⟨a, b, rfl, p⟩⟩
theorem ex_t1 {xs : List D} {P : List D → Prop} : (∃ c, [Sl.d (D.tup xs)] = [.d (.tup c)] ∧ P c) ↔ P xs := ⟨fun ⟨_, e, p⟩ => by cases e; exact p, fun p => ⟨xs, rfl, p⟩⟩
theorem ex_l1 {xs : List D} {P : List D → Prop} : (∃ c, [Sl.d (D.lst xs)] = [.d (.lst c)] ∧ P c) ↔ P xs := ⟨fun ⟨_, e, p⟩ => by cases e; exact p, fun p => ⟨xs, rfl, p⟩⟩
theorem ex_tt {a b : List D} {P : List D → List D → Prop} : (∃ c d, [Sl.d (D.tup a), .d (.tup b)] = [.d (.tup c), .d (.tup d)] ∧ P c d) ↔ P a b := ⟨fun ⟨_, _, e, p⟩ => by cases e; exact p, fun p => ⟨a, b, rfl, p⟩⟩
theorem ex_ll {a b : List D} {P : List D → List D → Prop} : (∃ c d, [Sl.d (D.lst a), .d (.lst b)] = [.d (.lst c), .d (.lst d)] ∧ P c d) ↔ P a b := ⟨fun ⟨_, _, e, p⟩ => by cases e; exact p, fun p => ⟨a, b, rfl, p⟩⟩
theorem ex_lt {a b : List D} {P : List D → List D → Prop} : (∃ c d, [Sl.d (D.lst a), .d (.tup b)] = [.d (.lst c), .d (.tup d)] ∧ P c d) ↔ P a b := ⟨fun ⟨_, _, e, p⟩ => by cases e; exact p, fun p => ⟨a, b, rfl, p⟩⟩
theorem ex_st {a : Str} {b : List D} {P : Str → List D → Prop} : (∃ c d, [Sl.d (D.str a), .d (.tup b)] = [.d (.str c), .d (.tup d)] ∧ P c d) ↔ P a b := ⟨fun ⟨_, _, e, p⟩ => by cases e; exact p, fun p => ⟨a, b, rfl, p⟩⟩
theorem ex_ts {a : List D} {b : Str} {P : List D → Str → Prop} : (∃ c d, [Sl.d (D.tup a), .d (.str b)] = [.d (.tup c), .d (.str d)] ∧ P c d) ↔ P a b := ⟨fun ⟨_, _, e, p⟩ => by cases e; exact p, fun p => ⟨a, b, rfl, p⟩⟩
theorem ex_ss {a b : Str} {P : Str → Str → Prop} : (∃ c d, [Sl.d (D.str a), .d (.str b)] = [.d (.str c), .d (.str d)] ∧ P c d) ↔ P a b := ⟨fun ⟨_, _, e, p⟩ => by cases e; exact p, fun p => ⟨a, b, rfl, p⟩⟩
theorem ex_own {xs : List D} {P : List D → Prop} : (∃ c, some (some (Sl.own xs)) = some (some (Sl.own c)) ∧ P c) ↔ P xs := ⟨fun ⟨_, e, p⟩ => by cases e; exact p, fun p => ⟨xs, rfl, p⟩⟩
theorem ex_own2 {xs : List D} {P : List D → Prop} : (∃ c, Sl.own xs = Sl.own c ∧ P c) ↔ P xs := ⟨fun ⟨_, e, p⟩ => by cases e; exact p, fun p => ⟨xs, rfl, p⟩⟩
theorem ex_par {a b : Sl} {P : Sl → Sl → Prop} : (∃ s t, [a, b] = [s, t] ∧ P s t) ↔ P a b := ⟨fun ⟨_, _, e, p⟩ => by cases e; exact p, fun p => ⟨a, b, rfl, p⟩⟩
theorem ex_draw {n : Int} {Q : Int → Prop} : (∃ k : Int, [Sl.memo, .d (.int n)] = [Sl.memo, .d (.int k)] ∧ Q k) ↔ Q n := ⟨fun ⟨_, e, p⟩ => by cases e; exact p, fun p => ⟨n, rfl, p⟩⟩
theorem kIS : kitB "str" "tuple" = some false := by decide +kernel
theorem kTI : kitB "tuple" "int" = some false := by decide +kernel
theorem kTB : kitB "tuple" "bool" = some false := by decide +kernel
theorem kTS : kitB "tuple" "str" = some false := by decide +kernel
theorem kIT : kitB "int" "tuple" = some false := by decide +kernel
theorem kISt : kitB "int" "str" = some false := by decide +kernel
theorem kBI : kitB "bool" "int" = some true := by decide +kernel
theorem kBB : kitB "bool" "bool" = some true := by decide +kernel
theorem kL1 : kitB "list" "tuple" = some false := by decide +kernel
theorem kL2 : kitB "list" "int" = some false := by decide +kernel
theorem kL3 : kitB "list" "str" = some false := by decide +kernel
theorem kS1 : kitB "str" "int" = some false := by decide +kernel
theorem kS2 : kitB "str" "bool" = some false := by decide +kernel
theorem kN1 : kitB "NoneType" "tuple" = some false := by decide +kernel
theorem kN2 : kitB "NoneType" "int" = some false := by decide +kernel
theorem kN3 : kitB "NoneType" "str" = some false := by decide +kernel
/-! all of a comprehension at once -/
/-! loops: I by the place -/
end
/-! the words by which a reading is laid open -/
end TSx

/-! Own layer, part Y7: what == and repr ask of data, by their making. -/
namespace TSx
open PySem L2 TL
/-- plain, and not deep -/
structure Yl (k : Nat) (d : D) : Prop where
  p : d.pl = true
  dp : d.py.depth ≤ k
theorem Yl.up {k k' : Nat} {d : D} (h : Yl k d) (l : k ≤ k') : Yl k' d := ⟨h.p, Nat.le_trans h.dp l⟩
/-- small enough to be shown -/
structure Ym (w k : Nat) (d : D) : Prop where
  sh : d.sh = true
  sw : d.pd.showable = true
  lf : d.pd.leavesShort 13 = true
  wt : d.pd.weight ≤ w
  dp : d.pd.depth ≤ k
theorem Ym.rd {w k : Nat} {d : D} (h : Ym w k d) (hw : w ≤ 2 ^ 20) (hk : k ≤ 50) : d.rd :=
  ⟨h.sh, h.sw, PyData.shown_fits (B := 13) (by decide) (by decide) h.lf (Nat.le_trans h.wt hw), Nat.le_trans h.dp hk⟩
theorem Ym.up {w k w' k' : Nat} {d : D} (h : Ym w k d) (hw : w ≤ w') (hk : k ≤ k') : Ym w' k' d := ⟨h.sh, h.sw, h.lf, Nat.le_trans h.wt hw, Nat.le_trans h.dp hk⟩
/-! data in which == is the very same -/
mutual
def D.ck : D → Bool
  | .int _ => true
  | .str _ => true
  | .lst xs => ckA xs
  | .tup xs => ckA xs
  | _ => false
def ckA : List D → Bool
  | [] => true
  | x :: xs => x.ck && ckA xs
end
mutual
theorem eqv_ck : ∀ {d e : D}, d.ck = true → e.ck = true → PyData.eqv d.py e.py = true → d = e
  | .int i, .int j, _, _, h => by
    have h' : (i == j) = true := h
    rw [eq_of_beq h']
  | .int _, .str _, _, _, h => by cases h
  | .int _, .lst _, _, _, h => by cases h
  | .int _, .tup _, _, _, h => by cases h
  | .str x, .str y, _, _, h => by
    have h' : (x == y) = true := h
    rw [eq_of_beq h']
  | .str _, .int _, _, _, h => by cases h
  | .str _, .lst _, _, _, h => by cases h
  | .str _, .tup _, _, _, h => by cases h
  | .lst xs, .lst ys, h1, h2, h => by rw [eqvA_ck (show ckA xs = true from h1) (show ckA ys = true from h2) h]
  | .lst _, .int _, _, _, h => by cases h
  | .lst _, .str _, _, _, h => by cases h
  | .lst _, .tup _, _, _, h => by cases h
  | .tup xs, .tup ys, h1, h2, h => by rw [eqvA_ck (show ckA xs = true from h1) (show ckA ys = true from h2) h]
  | .tup _, .int _, _, _, h => by cases h
  | .tup _, .str _, _, _, h => by cases h
  | .tup _, .lst _, _, _, h => by cases h
  | .non, _, h, _, _ => by cases h
  | .bl _, _, h, _, _ => by cases h
  | .dic _, _, h, _, _ => by cases h
  | .exc _ _, _, h, _, _ => by cases h
  | .ob _, _, h, _, _ => by cases h
  | .frd _, _, h, _, _ => by cases h
  | .tpb _, _, h, _, _ => by cases h
  | .frn _ _, _, h, _, _ => by cases h
  | .fnv _ _ _ _ _ _, _, h, _, _ => by cases h
  | .int _, .non, _, h, _ => by cases h
  | .int _, .bl _, _, h, _ => by cases h
  | .int _, .dic _, _, h, _ => by cases h
  | .int _, .exc _ _, _, h, _ => by cases h
  | .int _, .ob _, _, h, _ => by cases h
  | .int _, .frd _, _, h, _ => by cases h
  | .int _, .tpb _, _, h, _ => by cases h
  | .int _, .frn _ _, _, h, _ => by cases h
  | .int _, .fnv _ _ _ _ _ _, _, h, _ => by cases h
  | .str _, .non, _, h, _ => by cases h
  | .str _, .bl _, _, h, _ => by cases h
  | .str _, .dic _, _, h, _ => by cases h
  | .str _, .exc _ _, _, h, _ => by cases h
  | .str _, .ob _, _, h, _ => by cases h
  | .str _, .frd _, _, h, _ => by cases h
  | .str _, .tpb _, _, h, _ => by cases h
  | .str _, .frn _ _, _, h, _ => by cases h
  | .str _, .fnv _ _ _ _ _ _, _, h, _ => by cases h
  | .lst _, .non, _, h, _ => by cases h
  | .lst _, .bl _, _, h, _ => by cases h
  | .lst _, .dic _, _, h, _ => by cases h
  | .lst _, .exc _ _, _, h, _ => by cases h
  | .lst _, .ob _, _, h, _ => by cases h
  | .lst _, .frd _, _, h, _ => by cases h
  | .lst _, .tpb _, _, h, _ => by cases h
  | .lst _, .frn _ _, _, h, _ => by cases h
  | .lst _, .fnv _ _ _ _ _ _, _, h, _ => by cases h
  | .tup _, .non, _, h, _ => by cases h
  | .tup _, .bl _, _, h, _ => by cases h
  | .tup _, .dic _, _, h, _ => by cases h
  | .tup _, .exc _ _, _, h, _ => by cases h
  | .tup _, .ob _, _, h, _ => by cases h
  | .tup _, .frd _, _, h, _ => by cases h
  | .tup _, .tpb _, _, h, _ => by cases h
  | .tup _, .frn _ _, _, h, _ => by cases h
  | .tup _, .fnv _ _ _ _ _ _, _, h, _ => by cases h
theorem eqvA_ck : ∀ {d e : List D}, ckA d = true → ckA e = true → PyData.eqvAll (pyA d) (pyA e) = true → d = e
  | [], [], _, _, _ => rfl
  | [], _ :: _, _, _, h => by cases h
  | _ :: _, [], _, _, h => by cases h
  | x :: xs, y :: ys, h1, h2, h => by
    have h1' : (x.ck && ckA xs) = true := h1
    have h2' : (y.ck && ckA ys) = true := h2
    have h' : (PyData.eqv x.py y.py && PyData.eqvAll (pyA xs) (pyA ys)) = true := h
    rw [Bool.and_eq_true] at h1' h2' h'
    rw [eqv_ck h1'.1 h2'.1 h'.1, eqvA_ck h1'.2 h2'.2 h'.2]
end
/-! some of the numbers -/
theorem atD_nat {xs : List D} {i : Nat} : atD xs (i : Int) = xs[i]? := by
  unfold atD
  rw [if_pos (by omega)]
  simp
theorem at0 {a : D} {l : List D} : atD (a :: l) 0 = some a := rfl
theorem at1 {a b : D} {l : List D} : atD (a :: b :: l) 1 = some b := rfl
theorem at2 {a b c : D} {l : List D} : atD (a :: b :: c :: l) 2 = some c := rfl
theorem at3 {a b c d : D} {l : List D} : atD (a :: b :: c :: d :: l) 3 = some d := rfl
section
variable {α β : Type} {g g1 : GV} {t : TV} {e : EV} {δ0 δ : SD} {acc ds : List D} {r : Nat} {P : D → Nat → Prop}
end
end TSx

/-! Own layer, part R15: a side repeated, a written dict asked, pairs looked into. -/
namespace TSx
open PySem L2 TL
end TSx

/-! Own layer, part Y8: more over data: tuple and list of a text, kinds, a list's place changed, counts, a text repeated. -/
namespace TSx
open PySem L2 PySem.Spec PyProof.Rows LamX
section
variable {K : PySem.W.Frag}
/-- isinstance(x, (A, B)) -/
def kit2 (t A B : String) : Option Bool := match kitB t A with
  | some true => some true
  | some false => kitB t B
  | none => none
def eIsi2 (A B : String) (a : EV) : EV := fun δ r P => a δ r fun d r1 => d.isE = false ∧ ∃ b, kit2 d.ty A B = some b ∧ P (.bl b) r1
theorem snd_isi2 {A B : String} {ta : TE} {ea : EV} (ha : SndE K ta ea) : SndE K (tCB (rIsiT K) (tCons ta (tCons (tTup (tCons (tC (.ty A)) (tCons (tC (.ty B)) tNil))) tNil))) (eIsi2 A B ea) := fun U σ δ H r P Q ok rel h k =>
  ha U σ δ H r _ _ ok rel h fun d r1 x H1 h1 s1 ok1 a1 => by
    obtain ⟨e, b, hb, p⟩ := h1
    refine ⟨sz1 (show 2 ≤ 100000 by decide), fun tp np => ?_⟩
    have sm : Same H1 (upd H1 tp (.tup [.ty A, .ty B])) := same_new np
    refine ⟨x, tp, [.ty A, .ty B], _, [.type A, .type B], b, rfl, upd_same, .cons (.ty A) (.cons (.ty B) .nil), ty_of ((a1.gr see_le).gr sm) e, ?_, k _ _ _ _ p (s1.tr (Step.of sm)) (ok1.same sm) (.bl b)⟩
    unfold kit2 at hb
    split at hb
    · rename_i q
      cases hb
      exact kitAny_cons (kit_ty q) (fun z => by cases z) fun _ => rfl
    · rename_i q
      exact kitAny_cons (kit_ty q) (fun _ => kitAny_cons (kit_ty hb) (fun z => by rw [z]; rfl) fun z => z) fun z => by cases z
    · cases hb
variable {U0 U : Vw} {H0 H H' : Hp} {r r' : Nat} {σ σ' : Sg} {δ δ' : SD}
/-- a new list is one's own -/
theorem InvS.fresh (I : InvS K U0 H0 U H r σ δ) {n : Nat} {p : Addr} (np : H p = none) {ws : List V} {xs : List D} (a : DtA K (U.see H) ws xs) : InvS K U0 H0 (U.hide p) (upd H p (.lst ws)) r (σ.set n (some (.ref p))) (δ.set n (some (.own xs))) := by
  have I1 := I.step (Step.of (same_new (o := .lst ws) np)) (I.ok.same (same_new np))
  have np0 : H0 p = none := by
    cases e : H0 p with
    | none => rfl
    | some o =>
      by_cases m : U0.mut p
      · exact absurd np (I.ok.dom p (I.z1 p (by
          obtain ⟨m', c, g, e, q⟩ := m
          obtain ⟨a1, a2, a3⟩ := I.m0 m' c g e
          rcases q with rfl | rfl
          · exact a1
          · exact a3)))
      · rw [I.st p o m e] at np; cases np
  obtain ⟨okh, apt, sm⟩ := hide_new (o := .lst ws) I.ok np
  have relh := I.rel.wid (hide_wid (o := .lst ws) I.ok np)
  have old : ∀ (i : Nat) (xs : List D), δ[i]? = some (some (.own xs)) → σ[i]? ≠ some (some (.ref p)) := fun i xs e q => by
    obtain ⟨v, e1, p', ws, rfl, z, _, _, _⟩ := I.rel.at' i _ e
    rw [e1] at q
    cases q
    rw [I.ok.apart np] at z
    cases z
  refine ⟨okh, relh.set (s := .own xs) ⟨p, ws, rfl, apt.z, apt.n, upd_same, a.gr sm⟩, I1.st, I.mm, fun b z => hide_of (I.z1 b z), fun b z => ?_, I.d0, I.m0, fun i xs' q e e2 => ?_, fun i j xs' ys q ij e1 e2 e3 e4 => ?_⟩
  · by_cases q : b = p
    · rw [q]; exact Or.inr np0
    · exact I.z2 b (by simpa [Vw.hide, q] using z)
  · rcases sett e2 with ⟨rfl, z⟩ | ⟨z, e2⟩
    · cases z; exact np0
    · rw [List.getElem?_set_ne (Ne.symm z)] at e
      exact I.own i xs' q e e2
  · rcases sett e3 with ⟨rfl, z⟩ | ⟨z, e5⟩
    · cases z
      rcases sett e4 with ⟨z, _⟩ | ⟨z, e4⟩
      · exact ij z.symm
      · rw [List.getElem?_set_ne (Ne.symm z)] at e2
        exact old j ys e2 e4
    · rw [List.getElem?_set_ne (Ne.symm z)] at e1
      rcases sett e4 with ⟨rfl, z2⟩ | ⟨z2, e4⟩
      · cases z2; exact old i xs' e1 e5
      · rw [List.getElem?_set_ne (Ne.symm z2)] at e2
        exact I.dis i j xs' ys q ij e1 e2 e5 e4
/-- one's own list changed -/
theorem InvS.put (I : InvS K U0 H0 U H r σ δ) {n : Nat} {p : Addr} {xs xs' : List D} {ws : List V} (e : δ[n]? = some (some (.own xs))) (e1 : σ[n]? = some (some (.ref p))) (a : DtA K (U.see H) ws xs') : InvS K U0 H0 U (upd H p (.lst ws)) r σ (δ.set n (some (.own xs'))) := by
  have apt := I.apt e e1
  have ok2 : Ok U (upd H p (.lst ws)) r := I.ok.upd apt
  have p0 := I.own n xs p e e1
  refine ⟨ok2, ?_, fun b o m' e' => ?_, I.mm, I.z1, I.z2, I.d0, I.m0, fun i ys q e' q' => ?_, fun i j ys zs q ij e2 e3 q2 q3 => ?_⟩
  · refine ⟨by rw [List.length_set]; exact I.rel.len, fun i s e' => ?_⟩
    rcases sett e' with ⟨rfl, rfl⟩ | ⟨z', e'⟩
    · exact ⟨_, e1, p, ws, rfl, apt.z, apt.n, upd_same, by rw [see_hid apt.z]; exact a⟩
    · obtain ⟨v, e4, w4⟩ := I.rel.at' i s e'
      refine ⟨v, e4, ?_⟩
      match s, w4, e' with
      | .d x, w4, _ => show Dt K _ _ _; rw [see_hid apt.z]; exact w4
      | .own ys, w4, e' =>
        obtain ⟨p', vs', rfl, z3, m3, hp3, aa3⟩ := w4
        refine ⟨p', vs', rfl, z3, m3, ?_, by rw [see_hid apt.z]; exact aa3⟩
        rw [upd_ne (fun q => I.dis i n ys xs p' z' e' e e4 (by rw [e1, q]))]
        exact hp3
      | .memo, w4, _ => exact w4
      | .scr ns, w4, _ =>
        obtain ⟨a, q, w5⟩ := w4
        exact ⟨a, q, by rw [see_hid apt.z]; exact w5⟩
  · have nb : b ≠ p := ne_of_none e' p0
    rw [upd_ne nb]
    exact I.st b o m' e'
  · rcases sett e' with ⟨rfl, _⟩ | ⟨z', e'⟩
    · rw [e1] at q'; cases q'; exact p0
    · exact I.own i ys q e' q'
  · rcases sett e2 with ⟨rfl, _⟩ | ⟨z1, e2'⟩
    · rcases sett e3 with ⟨rfl, _⟩ | ⟨z2, e3'⟩
      · exact ij rfl
      · exact I.dis i j xs zs q ij e e3' q2 q3
    · rcases sett e3 with ⟨rfl, _⟩ | ⟨z2, e3'⟩
      · exact I.dis i j ys xs q ij e2' e q2 q3
      · exact I.dis i j ys zs q ij e2' e3' q2 q3
end
end TSx

/-! Own layer, part Z6: zip of a list and a text. -/
namespace TSx
open PySem L2 PySem.Spec PyProof.Rows
end TSx

/-! Own layer, part Y9: zip of a list and a text. -/
namespace TSx
open PySem L2
end TSx

/-! Own layer, part Y10: defs that may raise an exception of an own class with one field. -/
namespace TSx
open PySem L2
section
variable {EX : XK} {K : PySem.W.Frag} {U0 U : Vw} {H0 H H' : Hp} {r r' : Nat} {σ σ' : Sg} {δ δ' : SD} {te : TE} {ee : EV} {tA : TA} {av : AV}
/-- what is new now was not there at the entry -/
theorem InvS.new0 (I : InvS K U0 H0 U H r σ δ) {p : Addr} (np : H p = none) : H0 p = none := by
  cases e : H0 p with
  | none => rfl
  | some o =>
    by_cases m : U0.mut p
    · exact absurd np (I.ok.dom p (I.z1 p (by
        obtain ⟨m', c, g, e, q⟩ := m
        obtain ⟨a1, a2, a3⟩ := I.m0 m' c g e
        rcases q with rfl | rfl
        · exact a1
        · exact a3)))
    · rw [I.st p o m e] at np; cases np
end
end TSx

/-! Own layer, part Y11: try: one call, except C as n: .. -/
namespace TSx
open PySem L2
def SD.off (i : Nat) (δ : SD) : SD := δ.set i none
section
variable {EX : XK} {K : PySem.W.Frag} {U0 U : Vw} {H0 H H' : Hp} {r r' : Nat} {σ σ' : Sg} {δ δ' : SD} {te : TE} {ee : EV} {tA : TA} {av : AV}
theorem InvS.off (I : InvS K U0 H0 U H r σ δ) (i : Nat) : InvS K U0 H0 U H r (σ.set i none) (SD.off i δ) := by
  refine I.to ⟨by unfold SD.off; rw [List.length_set, List.length_set]; exact I.rel.len, fun j s e => ?_⟩ fun j xs e => ?_
  · unfold SD.off at e
    by_cases z : i = j
    · subst z
      rw [List.getElem?_set_self'] at e
      cases q : δ[i]? with
      | none => rw [q] at e; cases e
      | some x => rw [q] at e; cases e
    · rw [List.getElem?_set_ne z] at e ⊢
      exact I.rel.at' j s e
  · unfold SD.off at e
    by_cases z : i = j
    · subst z
      rw [List.getElem?_set_self'] at e
      cases q : δ[i]? with
      | none => rw [q] at e; cases e
      | some x => rw [q] at e; cases e
    · rw [List.getElem?_set_ne z] at e ⊢
      exact ⟨e, rfl⟩
theorem dtF_at {G : Hp} {xs : List (Str × V)} : ∀ {ds : List (Str × D)}, DtF K G xs ds → ∀ {f : Str} {z : D}, ds.lookup f = some z → ∃ y, xs.lookup f = some y ∧ Dt K G y z := by
  induction xs with
  | nil => intro ds h f z e; cases h; cases e
  | cons x xs ih =>
    intro ds h f z e
    cases h with
    | cons a t =>
      rw [List.lookup_cons] at e ⊢
      split at e
      · cases e
        exact ⟨_, rfl, a⟩
      · exact ih t e
end
end TSx

/-! Own layer, part Y12: while. -/
namespace TSx
open PySem L2
section
variable {EX : XK} {K : PySem.W.Frag} {tt : TT} {tv : TV} {tb : TS} {sb : SV}
end
end TSx

/-! Own layer, part Q0: readings over data beside a store of objects that change (instances, dicts); what is raised goes to Z. -/
namespace TSx
open PySem L2
/-- what changes: an instance, a dict of ints and texts, a dict of tuples, a table of code objects, a list -/
inductive Ob where
  | ins (C : Addr) (fs : List (Str × D))
  | dk (kvs : List (Key × D))
  | dn (kvs : List (D × D))
  | tb (q : Str)
  | ls (xs : List D)
  | bx (C : Addr)
structure Rs where
  n : Nat
  μ : Addr → Option Ob
def Rs.at (r : Rs) (n : Nat) : Rs := ⟨n, r.μ⟩
def Rs.put (r : Rs) (a : Addr) (o : Ob) : Rs := ⟨r.n, fun b => if b = a then some o else r.μ b⟩
theorem put_same {r : Rs} {a : Addr} {o : Ob} : (r.put a o).μ a = some o := if_pos rfl
theorem put_ne {r : Rs} {a b : Addr} {o : Ob} (h : b ≠ a) : (r.put a o).μ b = r.μ b := if_neg h
def ObOk (w : World) (K : PySem.W.Frag) (S H : Hp) (a : Addr) : Ob → Prop
  | .ins C fs => ∃ dx xs, H a = some (.ins C dx xs) ∧ DtF K S xs fs
  | .dk kvs => ∃ xs, H a = some (.dK xs) ∧ DtK K S xs kvs
  | .dn kvs => ∃ es, H a = some (DnO w a es) ∧ Paired (fun (p : D × D) (e : NestedKey × Addr × V) => nkey p.1 = some e.1 ∧ e.1.depth ≤ 8 ∧ Dt K S (.ref e.2.1) p.1 ∧ Dt K S e.2.2 p.2) kvs es
  | .tb q => ∃ ps : Array Value, H a = some (.tbl ps) ∧ TriplesOk ps.toList ∧ ∀ (pos : Pos) (cv : Value), codeAmong pos ps.toList = some cv → ∃ c, cv = .ref c ∧ S c = some (LamX.CodeO c q)
  | .ls xs => ∃ vs, H a = some (.lst vs) ∧ DtA K S vs xs
  | .bx C => H a = some (exo a C none)
def Vw.ext (U : Vw) (r : Rs) : Vw := ⟨fun b => U.Z b || (r.μ b).isSome, U.mm⟩
abbrev Vw.se (U : Vw) (r : Rs) (H : Hp) : Hp := (U.ext r).see H
structure OkW (w : World) (K : PySem.W.Frag) (U : Vw) (H : Hp) (r : Rs) : Prop where
  base : Ok (U.ext r) H r.n
  dj : ∀ b, U.Z b = true → r.μ b = none
  mz : ∀ m c g, U.mm = some (m, c, g) → U.Z m = true ∧ U.Z c = true ∧ U.Z g = true
  st : ∀ a o, r.μ a = some o → ObOk w K (U.se r H) H a o
structure StW (U : Vw) (r : Rs) (H : Hp) (r' : Rs) (H' : Hp) : Prop where
  keep : ∀ b o, ¬ U.mut b → r.μ b = none → H b = some o → H' b = some o ∧ r'.μ b = none
  dom : ∀ b, H b ≠ none → H' b ≠ none
structure RelW (K : PySem.W.Frag) (U : Vw) (r : Rs) (H : Hp) (σ : Sg) (δ : SD) : Prop where
  rel : RelE K (U.ext r) H σ δ
  own : ∀ (i : Nat) (xs : List D) (p : Addr), δ[i]? = some (some (.own xs)) → σ[i]? = some (some (.ref p)) → U.Z p = true
section
variable {w : World} {K : PySem.W.Frag} {U : Vw} {H H' H1 H2 : Hp} {r r' r1 r2 : Rs} {σ : Sg} {δ : SD}
theorem ext_Z {b : Addr} (h : U.Z b = true) : (U.ext r).Z b = true := by show (U.Z b || _) = true; rw [h]; rfl
theorem ext_μ {b : Addr} {o : Ob} (h : r.μ b = some o) : (U.ext r).Z b = true := by show (U.Z b || (r.μ b).isSome) = true; rw [h]; simp
theorem ext_no {b : Addr} (h : U.Z b = false) (m : r.μ b = none) : (U.ext r).Z b = false := by show (U.Z b || (r.μ b).isSome) = false; rw [h, m]; rfl
theorem of_ext {b : Addr} (h : (U.ext r).Z b = false) : U.Z b = false ∧ r.μ b = none := by
  have h' : (U.Z b || (r.μ b).isSome) = false := h
  rw [Bool.or_eq_false_iff] at h'
  exact ⟨h'.1, by cases q : r.μ b with | none => rfl | some x => rw [q] at h'; cases h'.2⟩
theorem se_of {b : Addr} {o : HO} (h : U.se r H b = some o) : U.Z b = false ∧ r.μ b = none ∧ H b = some o := by
  obtain ⟨z, e⟩ := see_of h
  exact ⟨(of_ext z).1, (of_ext z).2, e⟩
theorem se_at {b : Addr} (h : U.Z b = false) (m : r.μ b = none) : U.se r H b = H b := see_at (ext_no h m)
theorem ObOk.mono {S S' : Hp} {a : Addr} {o : Ob} (h : ObOk w K S H a o) (s : Same S S') (e : ∀ u, H a = some u → H' a = some u) : ObOk w K S' H' a o := by
  cases o with
  | ins C fs => obtain ⟨dx, xs, h1, h2⟩ := h; exact ⟨dx, xs, e _ h1, h2.gr s⟩
  | dk kvs => obtain ⟨xs, h1, h2⟩ := h; exact ⟨xs, e _ h1, h2.gr s⟩
  | dn kvs => obtain ⟨es, h1, h2⟩ := h; exact ⟨es, e _ h1, Paired.mapP h2 fun _ _ z => ⟨z.1, z.2.1, z.2.2.1.gr s, z.2.2.2.gr s⟩⟩
  | tb q => obtain ⟨ps, h1, h2, h3⟩ := h; exact ⟨ps, e _ h1, h2, fun pos cv z => by
      obtain ⟨c, e1, e2⟩ := h3 pos cv z
      exact ⟨c, e1, s _ _ e2⟩⟩
  | ls xs => obtain ⟨vs, h1, h2⟩ := h; exact ⟨vs, e _ h1, h2.gr s⟩
  | bx C => exact e _ h
theorem ObOk.there {S : Hp} {a : Addr} {o : Ob} (h : ObOk w K S H a o) : ∃ u, H a = some u := by
  cases o with
  | ins C fs => obtain ⟨dx, xs, h1, h2⟩ := h; exact ⟨_, h1⟩
  | dk kvs => obtain ⟨xs, h1, h2⟩ := h; exact ⟨_, h1⟩
  | dn kvs => obtain ⟨es, h1, h2⟩ := h; exact ⟨_, h1⟩
  | tb q => obtain ⟨ps, h1, _⟩ := h; exact ⟨_, h1⟩
  | ls xs => obtain ⟨vs, h1, _⟩ := h; exact ⟨_, h1⟩
  | bx C => exact ⟨_, h⟩
theorem OkW.mutz (ok : OkW w K U H r) {b : Addr} (m : U.mut b) : U.Z b = true := by
  obtain ⟨m, c, g, e, z⟩ := m
  obtain ⟨h1, h2, h3⟩ := ok.mz _ _ _ e
  rcases z with rfl | rfl
  · exact h1
  · exact h3
theorem OkW.free (ok : OkW w K U H r) {p : Addr} (n : H p = none) : U.Z p = false ∧ r.μ p = none := of_ext (ok.base.apart n)
theorem OkW.nmut (ok : OkW w K U H r) {a : Addr} {o : Ob} (h : r.μ a = some o) : ¬ U.mut a := fun m => by
  rw [ok.dj a (ok.mutz m)] at h; cases h
theorem StW.rf : StW U r H r H := ⟨fun _ _ _ m e => ⟨e, m⟩, fun _ h => h⟩
theorem StW.tr (a : StW U r H r1 H1) (b : StW U r1 H1 r2 H2) : StW U r H r2 H2 := ⟨fun x o n m e => by
  obtain ⟨e1, m1⟩ := a.keep x o n m e
  exact b.keep x o n m1 e1, fun x h => b.dom x (a.dom x h)⟩
theorem StW.same (s : Same H H') : StW U r H r H' := ⟨fun b o _ m e => ⟨s b o e, m⟩, fun b h => by
  cases e : H b with
  | none => exact absurd e h
  | some o => rw [s b o e]; simp⟩
theorem StW.see (s : StW U r H r' H') (ok : OkW w K U H r) : Same (U.se r H) (U.se r' H') := fun b o e => by
  obtain ⟨z, m, e⟩ := se_of e
  obtain ⟨e', m'⟩ := s.keep b o (fun q => by rw [ok.mutz q] at z; cases z) m e
  rw [se_at z m']; exact e'
theorem StW.of {n' : Nat} (s : Step (U.ext r) H H') (ok' : Ok (U.ext r) H' n') : StW U r H (r.at n') H' := ⟨fun b o nm m e => ⟨s b o nm e, m⟩, fun b h => by
  by_cases m : U.mut b
  · exact ok'.dom b (ok'.mutZ m)
  · cases e : H b with
    | none => exact absurd e h
    | some o => rw [s b o m e]; simp⟩
theorem OkW.of {n' : Nat} (ok : OkW w K U H r) (s : Step (U.ext r) H H') (ok' : Ok (U.ext r) H' n') : OkW w K U H' (r.at n') := ⟨ok', ok.dj, ok.mz, fun a o h => (ok.st a o h).mono (s.see ok.base) fun u e => s a u (ok.nmut h) e⟩
theorem OkW.same (ok : OkW w K U H r) (s : Same H H') : OkW w K U H' r := ok.of (Step.of s) (ok.base.same s)
theorem RelW.step (h : RelW K U r H σ δ) (ok : OkW w K U H r) (s : StW U r H r' H') : RelW K U r' H' σ δ := ⟨⟨h.rel.len, fun i x e => by
  obtain ⟨v, e1, a⟩ := h.rel.at' i x e
  refine ⟨v, e1, ?_⟩
  have sm := s.see ok
  match x, a, e with
  | .d x, a, _ => exact Dt.gr sm a
  | .own xs, a, e =>
    obtain ⟨p, vs, rfl, z, m, hp, aa⟩ := a
    have zp := h.own i xs p e e1
    exact ⟨p, vs, rfl, ext_Z zp, m, (s.keep p _ m (ok.dj p zp) hp).1, aa.gr sm⟩
  | .memo, a, _ => exact a
  | .scr ns, a, _ =>
    obtain ⟨b, e2, q⟩ := a
    exact ⟨b, e2, gr_L sm q⟩⟩, h.own⟩
theorem SlOk.stp {s : Sl} {v : V} (h : SlOk K (U.ext r) H s v) (hn : s.no = true) (sm : Same (U.se r H) (U.se r' H')) : SlOk K (U.ext r') H' s v := by
  match s, h, hn with
  | .d x, a, _ => exact Dt.gr sm a
  | .own xs, a, hn => cases hn
  | .memo, a, _ => exact a
  | .scr ns, a, _ =>
    obtain ⟨b, e2, q⟩ := a
    exact ⟨b, e2, gr_L sm q⟩
theorem SlsOk.stp (sm : Same (U.se r H) (U.se r' H')) : ∀ {ss : List Sl} {vs : List V}, SlsOk K (U.ext r) H ss vs → SlsOk K (U.ext r') H' ss vs
  | [], [], _ => trivial
  | s :: ss, v :: vs, h => ⟨⟨h.1.1.stp h.1.2 sm, h.1.2⟩, SlsOk.stp sm h.2⟩
  | [], _ :: _, h => h.elim
  | _ :: _, [], h => h.elim
end
/-! ### readings -/
abbrev ZC := Addr → List (Str × D) → Rs → Prop
def noX : ZC := fun _ _ _ => False
abbrev EW := ZC → SD → Rs → (D → Rs → Prop) → Prop
abbrev TW := ZC → SD → Rs → (Bool → Rs → Prop) → Prop
abbrev AW := ZC → SD → Rs → (List Sl → Rs → Prop) → Prop
abbrev JW := ZC → SD → Rs → (List D → Rs → Prop) → Prop
abbrev SPN := List Sl → Rs → (D → Rs → Prop) → ZC → Prop
/-- what is raised is wished for -/
def XR (w : World) (K : PySem.W.Frag) (EX : XK) (U : Vw) (H : Hp) (r : Rs) (Z : ZC) : Prop := ∀ C fs r' e xs H', Z C fs r' → StW U r H r' H' → OkW w K U H' r' → H e = none → H' e = some (.xd xs) → r'.μ e = none → DtF K (U.se r' H') xs fs → EX (.ref C) (some e) H'
theorem noXR {w : World} {K : PySem.W.Frag} {EX : XK} {U : Vw} {H : Hp} {r : Rs} : XR w K EX U H r noX := fun _ _ _ _ _ _ z => z.elim
theorem XR.step {w : World} {K : PySem.W.Frag} {EX : XK} {U : Vw} {H H1 : Hp} {r r1 : Rs} {Z : ZC} (x : XR w K EX U H r Z) (s : StW U r H r1 H1) : XR w K EX U H1 r1 Z := fun C fs r' e xs H' z st ok n h m a => x C fs r' e xs H' z (s.tr st) ok (by
  cases q : H e with
  | none => rfl
  | some o => exact absurd n (s.dom e (by rw [q]; simp))) h m a
def SndEW (w : World) (K : PySem.W.Frag) (EX : XK) (te : TE) (ev : EW) : Prop := ∀ (U : Vw) (σ : Sg) (δ : SD) (H : Hp) (r : Rs) (Z : ZC) (P : D → Rs → Prop) (Q : VK), OkW w K U H r → RelW K U r H σ δ → XR w K EX U H r Z → ev Z δ r P →
  (∀ d r' v H', P d r' → StW U r H r' H' → OkW w K U H' r' → Dt K (U.se r' H') v d → Q v H') → te σ H Q
def SndTW (w : World) (K : PySem.W.Frag) (EX : XK) (tt : TT) (tv : TW) : Prop := ∀ (U : Vw) (σ : Sg) (δ : SD) (H : Hp) (r : Rs) (Z : ZC) (P : Bool → Rs → Prop) (Q : Bool → Hp → Prop), OkW w K U H r → RelW K U r H σ δ → XR w K EX U H r Z → tv Z δ r P →
  (∀ b r' H', P b r' → StW U r H r' H' → OkW w K U H' r' → Q b H') → tt σ H Q
def SndAW (w : World) (K : PySem.W.Frag) (EX : XK) (ta : TA) (av : AW) : Prop := ∀ (U : Vw) (σ : Sg) (δ : SD) (H : Hp) (r : Rs) (Z : ZC) (P : List Sl → Rs → Prop) (Q : List V → Hp → Prop), OkW w K U H r → RelW K U r H σ δ → XR w K EX U H r Z → av Z δ r P →
  (∀ ss r' vs H', P ss r' → StW U r H r' H' → OkW w K U H' r' → SlsOk K (U.ext r') H' ss vs → Q vs H') → ta σ H Q
def SndIW (w : World) (K : PySem.W.Frag) (EX : XK) (wi : TI) (iv : JW) : Prop := ∀ (U : Vw) (σ : Sg) (δ : SD) (H : Hp) (r : Rs) (Z : ZC) (P : List D → Rs → Prop) (R : It → Hp → Prop), OkW w K U H r → RelW K U r H σ δ → XR w K EX U H r Z → iv Z δ r P →
  (∀ ds r' J H', P ds r' → StW U r H r' H' → OkW w K U H' r' → ItD K (U.se r' H') J ds → R J H') → wi σ H R
/-- a def's promise -/
def spS (w : World) (K : PySem.W.Frag) (S : SPN) : Sp := fun vs H Q E => ∃ (U : Vw) (r : Rs) (ss : List Sl) (P : D → Rs → Prop) (Z : ZC), OkW w K U H r ∧ SlsOk K (U.ext r) H ss vs ∧ S ss r P Z ∧
  (∀ d r' v H', P d r' → StW U r H r' H' → OkW w K U H' r' → Dt K (U.se r' H') v d → Q v H') ∧ XR w K E U H r Z
/-! what the older readings say, beside a store -/
def lE (e : EV) : EW := fun _ δ r P => e δ r.n fun d n' => P d (r.at n')
def lT (e : TV) : TW := fun _ δ r P => e δ r.n fun d n' => P d (r.at n')
def lA (e : AV) : AW := fun _ δ r P => e δ r.n fun d n' => P d (r.at n')
def lI (e : IV) : JW := fun _ δ r P => e δ r.n fun d n' => P d (r.at n')
section
variable {w : World} {K : PySem.W.Frag} {EX : XK} {te ta tb tc : TE} {tt tu : TT} {tA : TA} {wi : TI}
theorem lf_E {ev : EV} (h : SndE K te ev) : SndEW w K EX te (lE ev) := fun U σ δ H r Z P Q ok rel x h0 k =>
  h (U.ext r) σ δ H r.n _ _ ok.base rel.rel h0 fun d n' v H' p s o a => k d (r.at n') v H' p (StW.of s o) (ok.of s o) a
theorem lf_T {ev : TV} (h : SndT K tt ev) : SndTW w K EX tt (lT ev) := fun U σ δ H r Z P Q ok rel x h0 k =>
  h (U.ext r) σ δ H r.n _ _ ok.base rel.rel h0 fun d n' H' p s o => k d (r.at n') H' p (StW.of s o) (ok.of s o)
theorem lf_A {ev : AV} (h : SndA K tA ev) : SndAW w K EX tA (lA ev) := fun U σ δ H r Z P Q ok rel x h0 k =>
  h (U.ext r) σ δ H r.n _ _ ok.base rel.rel h0 fun d n' v H' p s o a => k d (r.at n') v H' p (StW.of s o) (ok.of s o) a
theorem lf_I {ev : IV} (h : SndI K wi ev) : SndIW w K EX wi (lI ev) := fun U σ δ H r Z P Q ok rel x h0 k =>
  h (U.ext r) σ δ H r.n _ _ ok.base rel.rel h0 fun d n' v H' p s o a => k d (r.at n') v H' p (StW.of s o) (ok.of s o) a
end
/-! ### expressions -/
def eOpW (op : D → D → Option D) (a b : EW) : EW := fun Z δ r P => a Z δ r fun d r1 => b Z δ r1 fun e r2 => ∃ z, op d e = some z ∧ P z r2
def eUnW (op : D → Option D) (a : EW) : EW := fun Z δ r P => a Z δ r fun d r1 => ∃ z, op d = some z ∧ P z r1
def eCBW (f : List Sl → Option D) (a : AW) : EW := fun Z δ r P => a Z δ r fun ss r1 => ∃ z, f ss = some z ∧ P z r1
def eM1W (f : D → D → Option D) (a b : EW) : EW := fun Z δ r P => a Z δ r fun d r1 => (∃ s, d = .str s) ∧ b Z δ r1 fun e r2 => ∃ z, f d e = some z ∧ P z r2
/-- f(..), f may raise: to Z -/
def eCallW (S : SPN) (a : AW) : EW := fun Z δ r P => a Z δ r fun ss r1 => S ss r1 P Z
/-- f(..), f raises nothing here -/
def eCall0 (S : SPN) (a : AW) : EW := fun Z δ r P => a Z δ r fun ss r1 => S ss r1 P noX
/-- f(..) of the older readings -/
def eCallO (S : SPEC) (a : AW) : EW := fun Z δ r P => a Z δ r fun ss r1 => S ss r1.n fun d n' => P d (r1.at n')
def eIfW (t : TW) (a b : EW) : EW := fun Z δ r P => t Z δ r fun c r1 => cond c (a Z δ r1 P) (b Z δ r1 P)
def eAndW (a b : EW) : EW := fun Z δ r P => a Z δ r fun d r1 => ∃ c, d = .bl c ∧ cond c (b Z δ r1 P) (P (.bl false) r1)
def eOrW (a b : EW) : EW := fun Z δ r P => a Z δ r fun d r1 => ∃ c, d = .bl c ∧ cond c (P (.bl true) r1) (b Z δ r1 P)
def eNotW (a : EW) : EW := fun Z δ r P => a Z δ r fun d r1 => ∃ c, d = .bl c ∧ P (.bl (!c)) r1
def eTupW (a : AW) : EW := eCBW (fun ss => match datas ss with | some ds => if ds.length ≤ 100000 then some (.tup ds) else none | none => none) a
def eLstW (a : AW) : EW := eCBW (fun ss => match datas ss with | some ds => if ds.length ≤ 100000 then some (.lst ds) else none | none => none) a
def aNilW : AW := fun _ _ r P => P [] r
def aConsW (e : EW) (a : AW) : AW := fun Z δ r P => e Z δ r fun d r1 => a Z δ r1 fun ss r2 => P (.d d :: ss) r2
def aMemoW (n : Nat) (a : AW) : AW := fun Z δ r P => match δ[n]? with
  | some (some .memo) => a Z δ r fun ss r2 => P (.memo :: ss) r2
  | _ => False
def vEW (e : EW) : TW := fun Z δ r P => e Z δ r fun d r1 => ∃ b, d = .bl b ∧ P b r1
def vNotW (t : TW) : TW := fun Z δ r P => t Z δ r fun b r1 => P (!b) r1
def vAndW (t u : TW) : TW := fun Z δ r P => t Z δ r fun b r1 => cond b (u Z δ r1 P) (P false r1)
def vOrW (t u : TW) : TW := fun Z δ r P => t Z δ r fun b r1 => cond b (P true r1) (u Z δ r1 P)
/-- e.f, e an instance of the class at C -/
def eFldW (C : Addr) (f : Str) (a : EW) : EW := fun Z δ r P => a Z δ r fun d r1 => ∃ x fs z, d = .ob x ∧ r1.μ x = some (.ins C fs) ∧ fs.lookup f = some z ∧ P z r1
/-- o.m(..) -/
def eMethW (C : Addr) (m : Str) (S : SPN) (a : EW) (t : AW) : EW := fun Z δ r P => a Z δ r fun d r1 => ∃ x fs, d = .ob x ∧ r1.μ x = some (.ins C fs) ∧ fs.lookup m = none ∧ t Z δ r1 fun ss r2 => S (.d (.ob x) :: ss) r2 P Z
def eMeth0 (C : Addr) (m : Str) (S : SPN) (a : EW) (t : AW) : EW := fun Z δ r P => a Z δ r fun d r1 => ∃ x fs, d = .ob x ∧ r1.μ x = some (.ins C fs) ∧ fs.lookup m = none ∧ t Z δ r1 fun ss r2 => S (.d (.ob x) :: ss) r2 P noX
/-- e.f, a property -/
def ePropW (C : Addr) (S : SPN) (a : EW) : EW := fun Z δ r P => a Z δ r fun d r1 => ∃ x fs, d = .ob x ∧ r1.μ x = some (.ins C fs) ∧ S [.d (.ob x)] r1 P noX
/-- C(..) -/
def eMakeW (C : Addr) (S : SPN) (t : AW) : EW := fun Z δ r P => t Z δ r fun ss r1 => ∀ x, r1.μ x = none → S (.d (.ob x) :: ss) (r1.put x (.ins C [])) (fun v r2 => v = .non ∧ P (.ob x) r2) Z
def eMake0 (C : Addr) (S : SPN) (t : AW) : EW := fun Z δ r P => t Z δ r fun ss r1 => ∀ x, r1.μ x = none → S (.d (.ob x) :: ss) (r1.put x (.ins C [])) (fun v r2 => v = .non ∧ P (.ob x) r2) noX
section
variable {w : World} {K : PySem.W.Frag} {EX : XK} {te ta tb tc : TE} {ea eb ec ee : EW} {t u : TT} {tv uv : TW} {tA : TA} {av : AW}
theorem sw_op {rd : R2} {op : D → D → Option D} (o : OpS K rd op) (ha : SndEW w K EX ta ea) (hb : SndEW w K EX tb eb) : SndEW w K EX (tOp rd ta tb) (eOpW op ea eb) := fun U σ δ H r Z P Q ok rel x h k =>
  ha U σ δ H r Z _ _ ok rel x h fun d r1 v H1 h1 s1 ok1 a1 => hb U σ δ H1 r1 Z _ _ ok1 (rel.step ok s1) (x.step s1) h1 fun e r2 y H2 h2 s2 ok2 a2 => by
    obtain ⟨z, hz, p⟩ := h2
    exact o (U.ext r2) H2 r2.n v y d e z Q ok2.base (a1.gr (s2.see ok1)) a2 hz fun v H' s a => k z r2 v H' p ((s1.tr s2).tr (StW.same s)) (ok2.same s) a
theorem sw_call {S : SPN} (ha : SndAW w K EX tA av) : SndEW w K EX (tCall (spS w K S) [] EX tA) (eCallW S av) := fun U σ δ H r Z P Q ok rel x h k =>
  ha U σ δ H r Z _ _ ok rel x h fun ss r1 vs H1 h1 s1 ok1 a1 => by
    show spS w K S (vs ++ []) H1 Q EX
    rw [List.append_nil]
    exact ⟨U, r1, ss, P, Z, ok1, a1, h1, fun d r' v H' p s o a => k d r' v H' p (s1.tr s) o a, x.step s1⟩
theorem sw_call0 {S : SPN} (ha : SndAW w K EX tA av) : SndEW w K EX (tCall (spS w K S) [] E0 tA) (eCall0 S av) := fun U σ δ H r Z P Q ok rel x h k =>
  ha U σ δ H r Z _ _ ok rel x h fun ss r1 vs H1 h1 s1 ok1 a1 => by
    show spS w K S (vs ++ []) H1 Q E0
    rw [List.append_nil]
    exact ⟨U, r1, ss, P, noX, ok1, a1, h1, fun d r' v H' p s o a => k d r' v H' p (s1.tr s) o a, noXR⟩
theorem sw_and (ha : SndEW w K EX ta ea) (hb : SndEW w K EX tb eb) : SndEW w K EX (tAndV ta tb) (eAndW ea eb) := fun U σ δ H r Z P Q ok rel x h k =>
  ha U σ δ H r Z _ _ ok rel x h fun d r1 v H1 h1 s1 ok1 a1 => by
    obtain ⟨c, rfl, h1⟩ := h1
    cases a1
    refine ⟨c, rfl, ?_⟩
    cases c with
    | true => exact iteT (hb U σ δ H1 r1 Z P Q ok1 (rel.step ok s1) (x.step s1) h1 fun d r' v H' p s o a => k d r' v H' p (s1.tr s) o a)
    | false => exact iteF (k _ _ _ _ h1 s1 ok1 (.bl _))
theorem sw_tup (ha : SndAW w K EX tA av) : SndEW w K EX (tTup tA) (eTupW av) := fun U σ δ H r Z P Q ok rel x h k =>
  ha U σ δ H r Z _ _ ok rel x h fun ss r1 vs H1 h1 s1 ok1 a1 => by
    obtain ⟨z, hz, p⟩ := h1
    dsimp only at hz
    split at hz
    · rename_i ds e
      split at hz
      · rename_i l
        cases hz
        have a := datas_ok a1 e
        refine ⟨by rw [a.len]; exact sz1 l, fun q nq => k _ _ _ _ p (s1.tr (StW.same (same_new nq))) (ok1.same (same_new nq)) (.tup (SqT.of (see_new ok1.base nq)) (a.gr (see_same (same_new nq))))⟩
      · cases hz
    · cases hz
theorem sw_lst (ha : SndAW w K EX tA av) : SndEW w K EX (tLst tA) (eLstW av) := fun U σ δ H r Z P Q ok rel x h k =>
  ha U σ δ H r Z _ _ ok rel x h fun ss r1 vs H1 h1 s1 ok1 a1 => by
    obtain ⟨z, hz, p⟩ := h1
    dsimp only at hz
    split at hz
    · rename_i ds e
      split at hz
      · rename_i l
        cases hz
        have a := datas_ok a1 e
        refine ⟨by rw [a.len]; exact sz1 l, fun q nq => k _ _ _ _ p (s1.tr (StW.same (same_new nq))) (ok1.same (same_new nq)) (.lst (see_new ok1.base nq) (a.gr (see_same (same_new nq))))⟩
      · cases hz
    · cases hz
theorem sw_nil : SndAW w K EX tNil aNilW := fun U σ δ H r Z P Q ok rel x h k => k _ _ _ _ h StW.rf ok trivial
theorem sw_cons (ha : SndEW w K EX te ee) (hr : SndAW w K EX tA av) : SndAW w K EX (tCons te tA) (aConsW ee av) := fun U σ δ H r Z P Q ok rel x h k =>
  ha U σ δ H r Z _ _ ok rel x h fun d r1 v H1 h1 s1 ok1 a1 => hr U σ δ H1 r1 Z _ _ ok1 (rel.step ok s1) (x.step s1) h1 fun ss r2 vs H2 h2 s2 ok2 a2 =>
    k _ _ _ _ h2 (s1.tr s2) ok2 ⟨⟨Dt.gr (s2.see ok1) a1, rfl⟩, a2⟩
theorem sw_test (ha : SndEW w K EX te ee) : SndTW w K EX (tTest te) (vEW ee) := fun U σ δ H r Z P Q ok rel x h k =>
  ha U σ δ H r Z _ _ ok rel x h fun d r1 v H1 h1 s1 ok1 a1 => by
    obtain ⟨b, rfl, p⟩ := h1
    cases a1
    exact ⟨b, rfl, k _ _ _ p s1 ok1⟩
theorem sw_tb (ha : SndEW w K EX te ee) : SndTW w K EX (tB te) (vEW ee) := fun U σ δ H r Z P Q ok rel x h k =>
  ha U σ δ H r Z _ _ ok rel x h fun d r1 v H1 h1 s1 ok1 a1 => by
    obtain ⟨b, rfl, p⟩ := h1
    cases a1
    exact ⟨b, rfl, k _ _ _ p s1 ok1⟩
theorem sw_tnot (ht : SndTW w K EX t tv) : SndTW w K EX (tNot t) (vNotW tv) := fun U σ δ H r Z P Q ok rel x h k => ht U σ δ H r Z _ _ ok rel x h fun b r1 H1 h1 s1 ok1 => k _ _ _ h1 s1 ok1
theorem sw_tor (ht : SndTW w K EX t tv) (hu : SndTW w K EX u uv) : SndTW w K EX (tOr t u) (vOrW tv uv) := fun U σ δ H r Z P Q ok rel x h k => ht U σ δ H r Z _ _ ok rel x h fun b r1 H1 h1 s1 ok1 => by
  cases b with
  | true => exact iteT (k _ _ _ h1 s1 ok1)
  | false => exact iteF (hu U σ δ H1 r1 Z _ _ ok1 (rel.step ok s1) (x.step s1) h1 fun b r' H' p s o => k b r' H' p (s1.tr s) o)
/-! objects -/
theorem OkW.ins {U : Vw} {H : Hp} {r : Rs} (ok : OkW w K U H r) {x C : Addr} {fs : List (Str × D)} (h : r.μ x = some (.ins C fs)) : ∃ dx xs, H x = some (.ins C dx xs) ∧ DtF K (U.se r H) xs fs := ok.st x _ h
/-- a new instance -/
theorem made_ok {U : Vw} {H : Hp} {r : Rs} (ok : OkW w K U H r) {C x dx : Addr} (nx : H x = none) (nd : H dx = none) (ne : dx ≠ x) : OkW w K U (upd (upd H dx (.own x)) x (.ins C dx [])) (r.put x (.ins C [])) ∧ StW U r H (r.put x (.ins C [])) (upd (upd H dx (.own x)) x (.ins C dx [])) := by
  have hk : ∀ b o, H b = some o → b ≠ x ∧ (upd (upd H dx (.own x)) x (.ins C dx [])) b = some o := fun b o e => by
    have n1 : b ≠ x := ne_of_none e nx
    exact ⟨n1, by rw [upd_ne n1, upd_ne (ne_of_none e nd)]; exact e⟩
  have hd : ∀ b, H b ≠ none → (upd (upd H dx (.own x)) x (.ins C dx [])) b ≠ none := fun b h => by
    cases e : H b with
    | none => exact absurd e h
    | some o => rw [(hk b o e).2]; simp
  have st : StW U r H (r.put x (.ins C [])) (upd (upd H dx (.own x)) x (.ins C dx [])) := ⟨fun b o _ m e => ⟨(hk b o e).2, by rw [put_ne (hk b o e).1]; exact m⟩, hd⟩
  have zx := ok.free nx
  refine ⟨⟨⟨fun b z => ?_, fun m c g e => ?_⟩, fun b z => ?_, ok.mz, fun a o h => ?_⟩, st⟩
  · by_cases q : b = x
    · rw [q, upd_same]; simp
    · refine hd b (ok.base.dom b ?_)
      have z' : (U.Z b || ((r.put x (.ins C [])).μ b).isSome) = true := z
      rw [put_ne q] at z'
      exact z'
  · obtain ⟨a1, a2, a3, M⟩ := ok.base.memo m c g e
    obtain ⟨z1, z2, z3⟩ := ok.mz m c g e
    refine ⟨ext_Z z1, ext_Z z2, ext_Z z3, M.same fun b o e => (hk b o e).2⟩
  · rw [put_ne (fun q => by rw [q, zx.1] at z; cases z)]
    exact ok.dj b z
  · by_cases q : a = x
    · subst q
      rw [put_same] at h
      cases h
      exact ⟨dx, [], upd_same, .nil⟩
    · rw [put_ne q] at h
      exact (ok.st a o h).mono (st.see ok) fun u e => (hk a u e).2
theorem sw_make0 {C : Addr} {S : SPN} (ht : SndAW w K EX tA av) : SndEW w K EX (tMake C (spS w K S) [] E0 tA) (eMake0 C S av) := fun U σ δ H r Z P Q ok rel x h k =>
  ht U σ δ H r Z _ _ ok rel x h fun ss r1 vs H1 h1 s1 ok1 a1 y dx ny nd ne => by
    obtain ⟨ok2, s2⟩ := made_ok (C := C) ok1 ny nd ne
    show spS w K S (.ref y :: (vs ++ [])) _ _ E0
    rw [List.append_nil]
    exact ⟨U, _, .d (.ob y) :: ss, _, noX, ok2, ⟨⟨.ob y, rfl⟩, a1.stp (s2.see ok1)⟩, h1 y (ok1.free ny).2, fun d r' v H' p s o a => by
      obtain ⟨rfl, p⟩ := p
      cases a
      exact ⟨rfl, k _ _ _ _ p ((s1.tr s2).tr s) o (.ob y)⟩, noXR⟩
end
end TSx

/-! Own layer, part Q1: comprehensions, chains, slices, iterators beside a store. -/
namespace TSx
open PySem L2
def compW (g : GV) (t : TW) (e : EW) (δ0 : SD) : List D → List D → Rs → (D → Rs → Prop) → Prop
  | [], acc, r, P => P (.lst acc) r
  | x :: xs, acc, r, P => ∃ δ', g x δ0 = some δ' ∧ t noX δ' r fun b r1 => cond b (e noX δ' r1 fun y r2 => acc.length < 100000 ∧ compW g t e δ0 xs (acc ++ [y]) r2 P) (compW g t e δ0 xs acc r1 P)
def eLcW (i : JW) (g : GV) (t : TW) (e : EW) (vs : List Nat) : EW := fun Z δ r P => i Z δ r fun ds r1 => compW g t e (wipeD δ vs) ds [] r1 P
structure StLW (U : Vw) (L : Addr) (r : Rs) (H : Hp) (r' : Rs) (H' : Hp) : Prop where
  keep : ∀ b o, ¬ U.mut b → b ≠ L → r.μ b = none → H b = some o → H' b = some o ∧ r'.μ b = none
  dom : ∀ b, H b ≠ none → H' b ≠ none
section
variable {w : World} {K : PySem.W.Frag} {EX : XK} {U : Vw} {L : Addr} {H H' H1 H2 : Hp} {r r' r1 r2 : Rs} {σ : Sg} {δ : SD}
theorem StLW.tr (a : StLW U L r H r1 H1) (b : StLW U L r1 H1 r2 H2) : StLW U L r H r2 H2 := ⟨fun x o n q m e => by
  obtain ⟨e1, m1⟩ := a.keep x o n q m e
  exact b.keep x o n q m1 e1, fun x h => b.dom x (a.dom x h)⟩
theorem StLW.of (s : StW U r H r' H') : StLW U L r H r' H' := ⟨fun b o n _ m e => s.keep b o n m e, s.dom⟩
theorem StLW.see (s : StLW U L r H r' H') (ok : OkW w K U H r) (a : Apt U L) : Same (U.se r H) (U.se r' H') := fun b o e => by
  obtain ⟨z, m, e⟩ := se_of e
  obtain ⟨e', m'⟩ := s.keep b o (fun q => by rw [ok.mutz q] at z; cases z) (fun q => by rw [q, a.z] at z; cases z) m e
  rw [se_at z m']; exact e'
theorem RelW.stepL (h : RelW K U r H σ δ) (ok : OkW w K U H r) (a : Apt U L) (n : NoL L σ δ) (s : StLW U L r H r' H') : RelW K U r' H' σ δ := ⟨⟨h.rel.len, fun i x e => by
  obtain ⟨v, e1, c⟩ := h.rel.at' i x e
  refine ⟨v, e1, ?_⟩
  have sm := s.see ok a
  match x, c, e with
  | .d x, c, _ => exact Dt.gr sm c
  | .own xs, c, e =>
    obtain ⟨p, vs, rfl, z, m, hp, aa⟩ := c
    have zp := h.own i xs p e e1
    exact ⟨p, vs, rfl, ext_Z zp, m, (s.keep p _ m (fun q => n i xs e (by rw [e1, q])) (ok.dj p zp) hp).1, aa.gr sm⟩
  | .memo, c, _ => exact c
  | .scr ns, c, _ =>
    obtain ⟨b, e2, q⟩ := c
    exact ⟨b, e2, gr_L sm q⟩⟩, h.own⟩
theorem Apt.ext (a : Apt U L) : Apt (U.ext r) L := ⟨ext_Z a.z, a.n, a.c⟩
theorem OkW.upd (ok : OkW w K U H r) (a : Apt U L) {o : HO} : OkW w K U (upd H L o) r := ⟨ok.base.upd a.ext, ok.dj, ok.mz, fun x ob h => by
  have n : x ≠ L := fun q => by rw [q, ok.dj L a.z] at h; cases h
  have e : U.se r (L2.upd H L o) = U.se r H := see_hid (ext_Z a.z)
  rw [e]
  exact (ok.st x ob h).mono (fun _ _ z => z) fun u z => by rw [upd_ne n]; exact z⟩
theorem RelW.to {σ' : Sg} {δ' : SD} (h : RelW K U r H σ δ) (rel : RelE K (U.ext r) H σ' δ') (ow : OwnK σ δ σ' δ') : RelW K U r H σ' δ' := ⟨rel, fun i xs p e q => by
  obtain ⟨e1, e2⟩ := ow i xs e
  rw [e2] at q
  exact h.own i xs p e1 q⟩
theorem wipeD_own {j : Nat} {s : Sl} : ∀ {vs : List Nat}, (wipeD δ vs)[j]? = some (some s) → δ[j]? = some (some s)
  | [], e => e
  | v :: vs, e => by
    have e' : ((wipeD δ vs).set v none)[j]? = some (some s) := e
    by_cases z : v = j
    · subst z
      rw [List.getElem?_set_self'] at e'
      cases q : (wipeD δ vs)[v]? with
      | none => rw [q] at e'; cases e'
      | some x => rw [q] at e'; cases e'
    · rw [List.getElem?_set_ne z] at e'
      exact wipeD_own e'
theorem RelW.wipe (h : RelW K U r H σ δ) (vs : List Nat) : RelW K U r H (wipe σ vs) (wipeD δ vs) := ⟨h.rel.wipe vs, fun i xs p e q => h.own i xs p (wipeD_own e) (wipe_some q).1⟩
theorem hide_ext : (U.hide L).ext r = (U.ext r).hide L := by
  unfold Vw.ext Vw.hide
  congr 1
  funext b
  show ((U.Z b || decide (b = L)) || (r.μ b).isSome) = ((U.Z b || (r.μ b).isSome) || decide (b = L))
  cases U.Z b <;> cases decide (b = L) <;> cases (r.μ b).isSome <;> rfl
/-- a new thing at L, hidden -/
theorem hideW_new (ok : OkW w K U H r) (n : H L = none) {o : HO} : OkW w K (U.hide L) (upd H L o) r ∧ Apt (U.hide L) L ∧ Same (U.se r H) ((U.hide L).se r (upd H L o)) := by
  obtain ⟨o1, a1, s1⟩ := hide_new (o := o) ok.base n
  have s2 : Same (U.se r H) ((U.hide L).se r (upd H L o)) := by
    show Same (U.se r H) (((U.hide L).ext r).see (upd H L o))
    rw [hide_ext]; exact s1
  have hk : ∀ b u, H b = some u → upd H L o b = some u := fun b u e => by rw [upd_ne (ne_of_none e n)]; exact e
  refine ⟨⟨by rw [hide_ext]; exact o1, fun b z => ?_, fun m c g e => ?_, fun a ob h => (ok.st a ob h).mono s2 fun u e => hk a u e⟩, ⟨hide_L, a1.n, fun m c g e => a1.c m c g e⟩, s2⟩
  · by_cases q : b = L
    · rw [q]; exact (ok.free n).2
    · exact ok.dj b (by simpa [Vw.hide, q] using z)
  · obtain ⟨z1, z2, z3⟩ := ok.mz m c g e
    exact ⟨hide_of z1, hide_of z2, hide_of z3⟩
theorem RelW.hide (h : RelW K U r H σ δ) (ok : OkW w K U H r) (n : H L = none) {o : HO} : RelW K (U.hide L) r (upd H L o) σ δ := ⟨by
  show RelE K ((U.hide L).ext r) _ _ _
  rw [hide_ext]
  exact h.rel.wid (hide_wid ok.base n), fun i xs p e q => hide_of (h.own i xs p e q)⟩
theorem hideW_back (ok1 : OkW w K U H r) (n : H L = none) (s : StLW (U.hide L) L r H r' H') (ok : OkW w K (U.hide L) H' r') : StW U r H r' H' ∧ OkW w K U H' r' ∧ Same ((U.hide L).se r' H') (U.se r' H') := by
  have st : StW U r H r' H' := ⟨fun b o m q e => s.keep b o m (ne_of_none e n) q e, s.dom⟩
  have sm : Same ((U.hide L).se r' H') (U.se r' H') := fun b o e => by
    obtain ⟨z, m, e⟩ := se_of e
    rw [se_at (hide_no z) m]; exact e
  have m0 : ∀ b, U.Z b = true → r'.μ b = none := fun b z => ok.dj b (hide_of z)
  refine ⟨st, ⟨⟨fun b z => ok.base.dom b ?_, fun m c g e => ?_⟩, m0, ok1.mz, fun a ob h => (ok.st a ob h).mono sm fun _ z => z⟩, sm⟩
  · have z' : (U.Z b || (r'.μ b).isSome) = true := z
    show ((U.Z b || decide (b = L)) || (r'.μ b).isSome) = true
    cases q : U.Z b with
    | true => rfl
    | false =>
      rw [q] at z'
      rw [show (r'.μ b).isSome = true from z']
      cases decide (b = L) <;> rfl
  · obtain ⟨a1, a2, a3⟩ := ok1.mz m c g e
    obtain ⟨_, _, _, M⟩ := ok.base.memo m c g e
    exact ⟨ext_Z a1, ext_Z a2, ext_Z a3, M⟩
end
/-! slices, chains, iterators whose parts are of the new kind -/
abbrev OW := ZC → SD → Rs → (Option Int → Rs → Prop) → Prop
def oNoW : OW := fun _ _ r P => P none r
def oPartW (e : EW) : OW := fun Z δ r P => e Z δ r fun d r1 => ∃ i, d = .int i ∧ P (some i) r1
def eSlW (f : D → Option Int → Option Int → Option D) (a : EW) (l u : OW) : EW := fun Z δ r P => a Z δ r fun d r1 => l Z δ r1 fun i r2 => u Z δ r2 fun j r3 => ∃ z, f d i j = some z ∧ P z r3
def jTup (e : EW) : JW := fun Z δ r P => e Z δ r fun d r1 => ∃ ds, d = .tup ds ∧ P ds r1
def jLst (e : EW) : JW := fun Z δ r P => e Z δ r fun d r1 => ∃ ds, d = .lst ds ∧ P ds r1
def jStr (e : EW) : JW := fun Z δ r P => e Z δ r fun d r1 => ∃ x, d = .str x ∧ P (chars x) r1
def jR1 (a : AW) : JW := fun Z δ r P => a Z δ r fun ss r1 => ∃ j : Int, ss = [.d (.int j)] ∧ (-(2 ^ 62) ≤ j ∧ j < 2 ^ 62) ∧ P (rangeD 0 j.toNat) r1
def jR2 (a : AW) : JW := fun Z δ r P => a Z δ r fun ss r1 => ∃ i j : Int, ss = [.d (.int i), .d (.int j)] ∧ (-(2 ^ 62) ≤ i ∧ i < 2 ^ 62 ∧ -(2 ^ 62) ≤ j ∧ j < 2 ^ 62) ∧ P (rangeD i (j - i).toNat) r1
section
variable {w : World} {K : PySem.W.Frag} {EX : XK} {te ta tb tc : TE} {ea eb ec ee : EW} {tA : TA} {av : AW}
theorem sw_iTup (h : SndEW w K EX te ee) : SndIW w K EX (iTup K te) (jTup ee) := fun U σ δ H r Z P R ok rel x h0 k => h U σ δ H r Z _ _ ok rel x h0 fun d r1 v H1 h1 s1 ok1 a1 => by
  obtain ⟨ds, rfl, p⟩ := h1
  cases a1 with
  | @tup q xs _ e aa =>
    exact ⟨q, rfl, ⟨xs, gr_T see_le e⟩, k _ _ _ _ p s1 ok1 (ItD.of walk_tup aa.len (fun H' s => gr_T s e) fun i H' x H'' hi y => by
      obtain ⟨rfl, hx⟩ := y
      obtain ⟨z, hz, az⟩ := aa.at hx
      exact ⟨z, hz, Or.inl ⟨rfl, az⟩⟩)⟩
end
end TSx

/-! Own layer, part Q2: statements beside a store. -/
namespace TSx
open PySem L2
structure EndsW where
  nx : SD → Rs → Prop
  rt : D → Rs → Prop
  bk : SD → Rs → Prop := fun _ _ => False
  ct : SD → Rs → Prop := fun _ _ => False
  rz : ZC := noX
abbrev SW := EndsW → SD → Rs → Prop
structure InvW (w : World) (K : PySem.W.Frag) (U0 : Vw) (H0 : Hp) (r0 : Rs) (U : Vw) (H : Hp) (r : Rs) (σ : Sg) (δ : SD) : Prop where
  ok : OkW w K U H r
  rel : RelW K U r H σ δ
  st : StW U0 r0 H0 r H
  mm : U.mm = U0.mm
  z1 : ∀ b, U0.Z b = true → U.Z b = true
  z2 : ∀ b, U.Z b = true → U0.Z b = true ∨ H0 b = none
  d0 : ∀ b, U0.Z b = true → H0 b ≠ none
  m0 : ∀ m c g, U0.mm = some (m, c, g) → U0.Z m = true ∧ U0.Z c = true ∧ U0.Z g = true
  own : ∀ (i : Nat) (xs : List D) (p : Addr), δ[i]? = some (some (.own xs)) → σ[i]? = some (some (.ref p)) → H0 p = none
  dis : ∀ (i j : Nat) (xs ys : List D) (p : Addr), i ≠ j → δ[i]? = some (some (.own xs)) → δ[j]? = some (some (.own ys)) → σ[i]? = some (some (.ref p)) → σ[j]? ≠ some (some (.ref p))
structure EndRW (w : World) (K : PySem.W.Frag) (EX : XK) (U0 : Vw) (H0 : Hp) (r0 : Rs) (ED : EndsW) (E : Ends) : Prop where
  nx : ∀ U σ δ H r, InvW w K U0 H0 r0 U H r σ δ → ED.nx δ r → E.nx σ H
  bk : ∀ U σ δ H r, InvW w K U0 H0 r0 U H r σ δ → ED.bk δ r → E.bk σ H
  ct : ∀ U σ δ H r, InvW w K U0 H0 r0 U H r σ δ → ED.ct δ r → E.ct σ H
  rt : ∀ H r v d, StW U0 r0 H0 r H → OkW w K U0 H r → Dt K (U0.se r H) v d → ED.rt d r → E.rt v H
  rz : XR w K EX U0 H0 r0 ED.rz
def SndSW (w : World) (K : PySem.W.Frag) (EX : XK) (ts : TS) (sv : SW) : Prop := ∀ (U0 : Vw) (H0 : Hp) (r0 : Rs) (U : Vw) (σ : Sg) (δ : SD) (H : Hp) (r : Rs) (E : Ends) (ED : EndsW), InvW w K U0 H0 r0 U H r σ δ → EndRW w K EX U0 H0 r0 ED E → sv ED δ r → ts E σ H
def sSeqW (a b : SW) : SW := fun E => a { E with nx := b E }
def sNextW : SW := fun E δ r => E.nx δ r
def sBrkW : SW := fun E δ r => E.bk δ r
def sCntW : SW := fun E δ r => E.ct δ r
def sAsgW (e : EW) (g : GV) : SW := fun E δ r => e E.rz δ r fun d r1 => ∃ δ', g d δ = some δ' ∧ E.nx δ' r1
def sRetW (e : EW) : SW := fun E δ r => e E.rz δ r E.rt
def sRetNW : SW := fun E _ r => E.rt .non r
def sDropW (e : EW) : SW := fun E δ r => e E.rz δ r fun _ r1 => E.nx δ r1
def sIfW (t : TW) (a b : SW) : SW := fun E δ r => t E.rz δ r fun c r1 => cond c (a E δ r1) (b E δ r1)
def forW (g : GV) (b : SW) (E : EndsW) : List D → SD → Rs → Prop
  | [], δ, r => E.nx δ r
  | x :: xs, δ, r => ∃ δ', g x δ = some δ' ∧ b { E with nx := fun δ r => forW g b E xs δ r, ct := fun δ r => forW g b E xs δ r, bk := E.nx } δ' r
def sForW (i : JW) (g : GV) (b : SW) : SW := fun E δ r => i E.rz δ r fun ds r1 => forW g b E ds δ r1
def sNewW (n : Nat) : SW := fun E δ r => E.nx (δ.set n (some (.own []))) r
def sAppW (n : Nat) (e : EW) : SW := fun E δ r => ∃ xs, δ[n]? = some (some (.own xs)) ∧ e E.rz δ r fun d r1 => xs.length < 100000 ∧ E.nx (δ.set n (some (.own (xs ++ [d])))) r1
def sFrzW (n : Nat) (s : SW) : SW := fun E δ r => match δ[n]? with
  | some (some (.own xs)) => s E (δ.set n (some (.d (.lst xs)))) r
  | _ => s E δ r
def sParW (i j : Nat) (a : AW) : SW := fun E δ r => a E.rz δ r fun ss r1 => ∃ s t, ss = [s, t] ∧ E.nx ((δ.set i (some s)).set j (some t)) r1
def sAugW (i : Nat) (op : D → D → Option D) (e : EW) : SW := fun E δ r => ∃ x, δ[i]? = some (some (.d x)) ∧ e E.rz δ r fun y r1 => ∃ z, op x y = some z ∧ E.nx (δ.set i (some (.d z))) r1
section
variable {EX : XK} {w : World} {K : PySem.W.Frag} {U0 U : Vw} {H0 H H' : Hp} {r0 r r' : Rs} {σ σ' : Sg} {δ δ' : SD} {te : TE} {ee : EW} {ta tb : TS} {sa sb : SW} {E : Ends} {ED : EndsW} {tA : TA} {av : AW}
theorem InvW.mut (I : InvW w K U0 H0 r0 U H r σ δ) {b : Addr} : U.mut b ↔ U0.mut b := by
  unfold Vw.mut
  rw [I.mm]
theorem StW.view (e : U.mm = U0.mm) (s : StW U r H r' H') : StW U0 r H r' H' := ⟨fun b o n m h => s.keep b o (fun q => n (by unfold Vw.mut at q ⊢; rw [← e]; exact q)) m h, s.dom⟩
theorem InvW.step (I : InvW w K U0 H0 r0 U H r σ δ) (s : StW U r H r' H') (ok : OkW w K U H' r') : InvW w K U0 H0 r0 U H' r' σ δ :=
  { ok := ok, rel := I.rel.step I.ok s, st := I.st.tr (s.view I.mm), mm := I.mm, z1 := I.z1, z2 := I.z2, d0 := I.d0, m0 := I.m0, own := I.own, dis := I.dis }
theorem InvW.to (I : InvW w K U0 H0 r0 U H r σ δ) (rel : RelE K (U.ext r) H σ' δ') (ow : OwnK σ δ σ' δ') : InvW w K U0 H0 r0 U H r σ' δ' :=
  ⟨I.ok, I.rel.to rel ow, I.st, I.mm, I.z1, I.z2, I.d0, I.m0, fun i xs p e q => by
      obtain ⟨e1, e2⟩ := ow i xs e
      rw [e2] at q
      exact I.own i xs p e1 q, fun i j xs ys p n e e' q => by
      obtain ⟨e1, e2⟩ := ow i xs e
      obtain ⟨e3, e4⟩ := ow j ys e'
      rw [e2] at q
      rw [e4]
      exact I.dis i j xs ys p n e1 e3 q⟩
/-- what the caller sees -/
theorem OkW.back (ok : OkW w K U H r) (mm : U.mm = U0.mm) (z1 : ∀ b, U0.Z b = true → U.Z b = true) (m0 : ∀ m c g, U0.mm = some (m, c, g) → U0.Z m = true ∧ U0.Z c = true ∧ U0.Z g = true) : OkW w K U0 H r ∧ Same (U.se r H) (U0.se r H) := by
  have sm : Same (U.se r H) (U0.se r H) := fun b o e => by
    obtain ⟨z, m, e⟩ := se_of e
    rw [se_at _ m]
    · exact e
    · cases q : U0.Z b with
      | false => rfl
      | true => rw [z1 b q] at z; cases z
  refine ⟨⟨⟨fun b z => ok.base.dom b ?_, fun m c g e => ?_⟩, fun b z => ok.dj b (z1 b z), m0, fun a o h => (ok.st a o h).mono sm fun _ z => z⟩, sm⟩
  · have z' : (U0.Z b || (r.μ b).isSome) = true := z
    show (U.Z b || (r.μ b).isSome) = true
    cases q : U0.Z b with
    | true => rw [z1 b q]; rfl
    | false => rw [q] at z'; rw [show (r.μ b).isSome = true from z']; cases U.Z b <;> rfl
  · obtain ⟨a1, a2, a3⟩ := m0 m c g e
    obtain ⟨_, _, _, M⟩ := ok.base.memo m c g (by show U.mm = _; rw [mm]; exact e)
    exact ⟨ext_Z a1, ext_Z a2, ext_Z a3, M⟩
theorem InvW.back (I : InvW w K U0 H0 r0 U H r σ δ) : OkW w K U0 H r ∧ Same (U.se r H) (U0.se r H) := I.ok.back I.mm I.z1 I.m0
theorem InvW.new0 (I : InvW w K U0 H0 r0 U H r σ δ) {p : Addr} (np : H p = none) : H0 p = none := by
  cases e : H0 p with
  | none => rfl
  | some o => exact absurd np (I.st.dom p (by rw [e]; simp))
theorem InvW.xr (I : InvW w K U0 H0 r0 U H r σ δ) (R : EndRW w K EX U0 H0 r0 ED E) : XR w K EX U H r ED.rz := fun C fs r' e xs H' z s ok n h m a => by
  obtain ⟨o0, sm⟩ := ok.back I.mm I.z1 I.m0
  exact R.rz C fs r' e xs H' z (I.st.tr (s.view I.mm)) o0 (I.new0 n) h m (a.gr sm)
theorem EndRW.nxOf {f : SD → Rs → Prop} {g : Sg → Hp → Prop} (R : EndRW w K EX U0 H0 r0 ED E) (h : ∀ U σ δ H r, InvW w K U0 H0 r0 U H r σ δ → f δ r → g σ H) : EndRW w K EX U0 H0 r0 { ED with nx := f } { E with nx := g } := ⟨h, R.bk, R.ct, R.rt, R.rz⟩
theorem sw_next : SndSW w K EX tNext sNextW := fun U0 H0 r0 U σ δ H r E ED I R h => R.nx _ _ _ _ _ I h
theorem sw_seq (ha : SndSW w K EX ta sa) (hb : SndSW w K EX tb sb) : SndSW w K EX (tSeq ta tb) (sSeqW sa sb) := fun U0 H0 r0 U σ δ H r E ED I R h =>
  ha U0 H0 r0 U σ δ H r _ _ I (R.nxOf fun U σ δ H r I h => hb U0 H0 r0 U σ δ H r E ED I R h) h
theorem sw_asg {g : TG} {gv : GV} {ns : List Nat} (he : SndEW w K EX te ee) (hg : SndG K g gv ns) : SndSW w K EX (tAsg te g) (sAsgW ee gv) := fun U0 H0 r0 U σ δ H r E ED I R h =>
  he U σ δ H r _ _ _ I.ok I.rel (I.xr R) h fun d r1 v H1 h1 s1 ok1 a1 => by
    obtain ⟨δ', e, h1⟩ := h1
    have I1 := I.step s1 ok1
    exact hg (U.ext r1) σ δ H1 r1.n v d δ' _ ok1.base I1.rel.rel a1 e fun σ' rel' off ow => R.nx _ _ _ _ _ (I1.to rel' ow) h1
theorem sw_ret (he : SndEW w K EX te ee) : SndSW w K EX (tRet te) (sRetW ee) := fun U0 H0 r0 U σ δ H r E ED I R h =>
  he U σ δ H r _ _ _ I.ok I.rel (I.xr R) h fun d r1 v H1 h1 s1 ok1 a1 => by
    have I1 := I.step s1 ok1
    exact R.rt _ _ _ _ I1.st I1.back.1 (a1.gr I1.back.2) h1
theorem sw_drop (he : SndEW w K EX te ee) : SndSW w K EX (tDrop te) (sDropW ee) := fun U0 H0 r0 U σ δ H r E ED I R h =>
  he U σ δ H r _ _ _ I.ok I.rel (I.xr R) h fun d r1 v H1 h1 s1 ok1 a1 => R.nx _ _ _ _ _ (I.step s1 ok1) h1
theorem sw_ifS {t : TT} {tv : TW} (ht : SndTW w K EX t tv) (ha : SndSW w K EX ta sa) (hb : SndSW w K EX tb sb) : SndSW w K EX (tIfS t ta tb) (sIfW tv sa sb) := fun U0 H0 r0 U σ δ H r E ED I R h =>
  ht U σ δ H r _ _ _ I.ok I.rel (I.xr R) h fun c r1 H1 h1 s1 ok1 => by
    have I1 := I.step s1 ok1
    cases c with
    | true => exact iteT (ha U0 H0 r0 U σ δ H1 r1 E ED I1 R h1)
    | false => exact iteF (hb U0 H0 r0 U σ δ H1 r1 E ED I1 R h1)
theorem InvW.apt (I : InvW w K U0 H0 r0 U H r σ δ) {n : Nat} {xs : List D} {p : Addr} (e : δ[n]? = some (some (.own xs))) (q : σ[n]? = some (some (.ref p))) : Apt U p := by
  obtain ⟨v, e1, p', ws, rfl, z, m, _, _⟩ := I.rel.rel.at' n _ e
  rw [e1] at q
  cases q
  refine ⟨I.rel.own n xs p e e1, m, fun m' c g e2 q => ?_⟩
  obtain ⟨a1, a2, a3⟩ := I.m0 m' c g (by rw [← I.mm]; exact e2)
  exact I.d0 c a2 (by rw [q]; exact I.own n xs p e e1)
/-- a new list is one's own -/
theorem InvW.fresh (I : InvW w K U0 H0 r0 U H r σ δ) {n : Nat} {p : Addr} (np : H p = none) {ws : List V} {xs : List D} (a : DtA K (U.se r H) ws xs) : InvW w K U0 H0 r0 (U.hide p) (upd H p (.lst ws)) r (σ.set n (some (.ref p))) (δ.set n (some (.own xs))) := by
  have np0 := I.new0 np
  obtain ⟨okh, apt, sm⟩ := hideW_new (o := .lst ws) I.ok np
  have relh := I.rel.hide (o := .lst ws) I.ok np
  have old : ∀ (i : Nat) (xs : List D), δ[i]? = some (some (.own xs)) → σ[i]? ≠ some (some (.ref p)) := fun i xs e q => by
    have z := I.rel.own i xs p e q
    rw [(I.ok.free np).1] at z
    cases z
  have st1 : StW U0 r0 H0 r (upd H p (.lst ws)) := I.st.tr (StW.same (same_new np))
  refine ⟨okh, ⟨relh.rel.set (s := .own xs) ⟨p, ws, rfl, ext_Z apt.z, apt.n, upd_same, a.gr sm⟩, fun i xs' q e e2 => ?_⟩, st1, I.mm, fun b z => hide_of (I.z1 b z), fun b z => ?_, I.d0, I.m0, fun i xs' q e e2 => ?_, fun i j xs' ys q ij e1 e2 e3 e4 => ?_⟩
  · rcases sett e2 with ⟨rfl, z⟩ | ⟨z, e2⟩
    · cases z; exact apt.z
    · rw [List.getElem?_set_ne (Ne.symm z)] at e
      exact relh.own i xs' q e e2
  · by_cases q : b = p
    · rw [q]; exact Or.inr np0
    · exact I.z2 b (by simpa [Vw.hide, q] using z)
  · rcases sett e2 with ⟨rfl, z⟩ | ⟨z, e2⟩
    · cases z; exact np0
    · rw [List.getElem?_set_ne (Ne.symm z)] at e
      exact I.own i xs' q e e2
  · rcases sett e3 with ⟨rfl, z⟩ | ⟨z, e5⟩
    · cases z
      rcases sett e4 with ⟨z, _⟩ | ⟨z, e4⟩
      · exact ij z.symm
      · rw [List.getElem?_set_ne (Ne.symm z)] at e2
        exact old j ys e2 e4
    · rw [List.getElem?_set_ne (Ne.symm z)] at e1
      rcases sett e4 with ⟨rfl, z2⟩ | ⟨z2, e4⟩
      · cases z2; exact old i xs' e1 e5
      · rw [List.getElem?_set_ne (Ne.symm z2)] at e2
        exact I.dis i j xs' ys q ij e1 e2 e5 e4
/-- one's own list changed -/
theorem InvW.put (I : InvW w K U0 H0 r0 U H r σ δ) {n : Nat} {p : Addr} {xs xs' : List D} {ws : List V} (e : δ[n]? = some (some (.own xs))) (e1 : σ[n]? = some (some (.ref p))) (a : DtA K (U.se r H) ws xs') : InvW w K U0 H0 r0 U (upd H p (.lst ws)) r σ (δ.set n (some (.own xs'))) := by
  have apt := I.apt e e1
  have ok2 : OkW w K U (upd H p (.lst ws)) r := I.ok.upd apt
  have p0 := I.own n xs p e e1
  have zp : (U.ext r).Z p = true := ext_Z apt.z
  refine ⟨ok2, ⟨⟨by rw [List.length_set]; exact I.rel.rel.len, fun i s e' => ?_⟩, fun i ys q e' q' => ?_⟩, ⟨fun b o m' m e' => ?_, fun b h => ?_⟩, I.mm, I.z1, I.z2, I.d0, I.m0, fun i ys q e' q' => ?_, fun i j ys zs q ij e2 e3 q2 q3 => ?_⟩
  · rcases sett e' with ⟨rfl, rfl⟩ | ⟨z', e'⟩
    · exact ⟨_, e1, p, ws, rfl, zp, apt.n, upd_same, by rw [see_hid zp]; exact a⟩
    · obtain ⟨v, e4, w4⟩ := I.rel.rel.at' i s e'
      refine ⟨v, e4, ?_⟩
      match s, w4, e' with
      | .d x, w4, _ => show Dt K _ _ _; rw [see_hid zp]; exact w4
      | .own ys, w4, e' =>
        obtain ⟨p', vs', rfl, z3, m3, hp3, aa3⟩ := w4
        refine ⟨p', vs', rfl, z3, m3, ?_, by rw [see_hid zp]; exact aa3⟩
        rw [upd_ne (fun q => I.dis i n ys xs p' z' e' e e4 (by rw [e1, q]))]
        exact hp3
      | .memo, w4, _ => exact w4
      | .scr ns, w4, _ =>
        obtain ⟨a, q, w5⟩ := w4
        exact ⟨a, q, by rw [see_hid zp]; exact w5⟩
  · rcases sett e' with ⟨rfl, _⟩ | ⟨z', e'⟩
    · rw [e1] at q'; cases q'; exact apt.z
    · exact I.rel.own i ys q e' q'
  · obtain ⟨e2, m2⟩ := I.st.keep b o m' m e'
    exact ⟨by rw [upd_ne (ne_of_none e' p0)]; exact e2, m2⟩
  · by_cases q : b = p
    · rw [q, upd_same]; simp
    · rw [upd_ne q]; exact I.st.dom b h
  · rcases sett e' with ⟨rfl, _⟩ | ⟨z', e'⟩
    · rw [e1] at q'; cases q'; exact p0
    · exact I.own i ys q e' q'
  · rcases sett e2 with ⟨rfl, _⟩ | ⟨z1, e2'⟩
    · rcases sett e3 with ⟨rfl, _⟩ | ⟨z2, e3'⟩
      · exact ij rfl
      · exact I.dis i j xs zs q ij e e3' q2 q3
    · rcases sett e3 with ⟨rfl, _⟩ | ⟨z2, e3'⟩
      · exact I.dis i j ys xs q ij e2' e q2 q3
      · exact I.dis i j ys zs q ij e2' e3' q2 q3
theorem sw_new {n : Nat} : SndSW w K EX (tAsg (tLst tNil) (gName n)) (sNewW n) := fun U0 H0 r0 U σ δ H r E ED I R h =>
  ⟨Nat.zero_le _, fun p np => R.nx _ _ _ _ _ (I.fresh np .nil) h⟩
theorem sw_app {n : Nat} (he : SndEW w K EX te ee) : SndSW w K EX (tDrop (tBM K "list" rAppend (tVar n) (tCons te tNil))) (sAppW n ee) := fun U0 H0 r0 U σ δ H r E ED I R h => by
  obtain ⟨xs, e, h⟩ := h
  obtain ⟨v, e1, p, ws, rfl, z, m, hp, aa⟩ := I.rel.rel.at' n _ e
  have apt := I.apt e e1
  refine ⟨_, e1, Or.inl ⟨rfl, ws, SqL.of hp⟩, ?_⟩
  refine he U σ δ H r _ _ _ I.ok I.rel (I.xr R) h fun d r1 u H1 h1 s1 ok1 a1 => ?_
  obtain ⟨l, h1⟩ := h1
  have I1 := I.step s1 ok1
  have hp1 := (s1.keep p _ m (I.ok.dj p apt.z) hp).1
  have aa1 := aa.gr (s1.see I.ok)
  exact ⟨p, ws, u, rfl, rfl, hp1, sz2 (by rw [aa.len]; exact l), R.nx _ _ _ _ _ (I1.put e e1 (aa1.app (.cons a1 .nil))) h1⟩
theorem sw_frz {n : Nat} {t : TS} {s : SW} (h : SndSW w K EX t s) : SndSW w K EX t (sFrzW n s) := fun U0 H0 r0 U σ δ H r E ED I R h0 => by
  unfold sFrzW at h0
  split at h0
  · rename_i xs e
    obtain ⟨v, e1, p, ws, rfl, z, m, hp, aa⟩ := I.rel.rel.at' n _ e
    have apt := I.apt e e1
    have p0 := I.own n xs p e e1
    have mp : r.μ p = none := I.ok.dj p apt.z
    have U'0 : ∃ U' : Vw, U'.mm = U.mm ∧ U'.Z p = false ∧ (∀ b, b ≠ p → U'.Z b = U.Z b) := ⟨⟨fun b => U.Z b && !decide (b = p), U.mm⟩, rfl, by simp, fun b hb => by simp [hb]⟩
    obtain ⟨U', emm, ep, eb⟩ := U'0
    have zU : ∀ b, U'.Z b = true → U.Z b = true ∧ b ≠ p := fun b hb => by
      have : b ≠ p := fun q => by rw [q, ep] at hb; cases hb
      exact ⟨by rw [← eb b this]; exact hb, this⟩
    have sm : Same (U.se r H) (U'.se r H) := fun b o e => by
      obtain ⟨z, m, e⟩ := se_of e
      rw [se_at _ m]
      · exact e
      · cases q : U'.Z b with
        | false => rfl
        | true => rw [(zU b q).1] at z; cases z
    have mut' : ∀ b, U'.mut b ↔ U.mut b := fun b => by unfold Vw.mut; rw [emm]
    have nz : ∀ b, U.Z b = true → b ≠ p → U'.Z b = true := fun b hb n => by rw [eb b n]; exact hb
    have mz' : ∀ m' c g, U'.mm = some (m', c, g) → U'.Z m' = true ∧ U'.Z c = true ∧ U'.Z g = true := fun m' c g e2 => by
      rw [emm] at e2
      obtain ⟨a1, a2, a3⟩ := I.ok.mz m' c g e2
      exact ⟨nz _ a1 fun q => apt.n ⟨m', c, g, e2, Or.inl q.symm⟩, nz _ a2 (apt.c _ _ _ e2), nz _ a3 fun q => apt.n ⟨m', c, g, e2, Or.inr q.symm⟩⟩
    have ok' : OkW w K U' H r := ⟨⟨fun b hb => I.ok.base.dom b (by
      have z' : (U'.Z b || (r.μ b).isSome) = true := hb
      show (U.Z b || (r.μ b).isSome) = true
      cases q : U'.Z b with
      | true => rw [(zU b q).1]; rfl
      | false => rw [q] at z'; rw [show (r.μ b).isSome = true from z']; cases U.Z b <;> rfl), fun m' c g e2 => by
      obtain ⟨z1, z2, z3⟩ := mz' m' c g e2
      have e3 : U.mm = some (m', c, g) := by rw [← emm]; exact e2
      obtain ⟨a1, a2, a3, M⟩ := I.ok.base.memo m' c g e3
      exact ⟨ext_Z z1, ext_Z z2, ext_Z z3, M⟩⟩, fun b hb => I.ok.dj b (zU b hb).1, mz', fun a o ha => (I.ok.st a o ha).mono sm fun _ z => z⟩
    have stay : ∀ b, U.Z b = true → U0.Z b = true → U'.Z b = true := fun b hb h0b => nz b hb fun q => I.d0 b h0b (by rw [q]; exact p0)
    refine h U0 H0 r0 U' σ _ H r E ED ⟨ok', ⟨⟨by rw [List.length_set]; exact I.rel.rel.len, fun i s e' => ?_⟩, fun i ys q e' q' => ?_⟩, I.st, emm.trans I.mm, fun b hb => stay b (I.z1 b hb) hb, fun b hb => I.z2 b (zU b hb).1, I.d0, I.m0, fun i ys q e' q' => ?_, fun i j ys zs q ij e2 e3 q2 q3 => ?_⟩ R h0
    · rcases sett e' with ⟨rfl, rfl⟩ | ⟨z', e'⟩
      · exact ⟨_, e1, .lst ((se_at ep mp).trans hp) (aa.gr sm)⟩
      · obtain ⟨v, e4, w4⟩ := I.rel.rel.at' i s e'
        refine ⟨v, e4, ?_⟩
        match s, w4, e' with
        | .d x, w4, _ => exact Dt.gr sm w4
        | .own ys, w4, e' =>
          obtain ⟨p', vs', rfl, z3, m3, hp3, aa3⟩ := w4
          have zp' := I.rel.own i ys p' e' e4
          exact ⟨p', vs', rfl, ext_Z (nz _ zp' (fun q => I.dis i n ys xs p' z' e' e e4 (by rw [e1, q]))), fun q => m3 ((mut' _).mp q), hp3, aa3.gr sm⟩
        | .memo, w4, _ =>
          obtain ⟨m', c, g, e2, q⟩ := w4
          exact ⟨m', c, g, by show U'.mm = _; rw [emm]; exact e2, q⟩
        | .scr ns, w4, _ =>
          obtain ⟨a, q, w5⟩ := w4
          exact ⟨a, q, gr_L sm w5⟩
    · rcases sett e' with ⟨rfl, z'⟩ | ⟨z', e'⟩
      · cases z'
      · exact nz _ (I.rel.own i ys q e' q') (fun qq => I.dis i n ys xs q z' e' e q' (by rw [e1, qq]))
    · rcases sett e' with ⟨rfl, z'⟩ | ⟨z', e'⟩
      · cases z'
      · exact I.own i ys q e' q'
    · rcases sett e2 with ⟨rfl, z1⟩ | ⟨z1, e2'⟩
      · cases z1
      · rcases sett e3 with ⟨rfl, z3⟩ | ⟨z2, e3'⟩
        · cases z3
        · exact I.dis i j ys zs q ij e2' e3' q2 q3
  · exact h U0 H0 r0 U σ δ H r E ED I R h0
/-- from here on: all that is seen now stays -/
theorem InvW.rebase (I : InvW w K U0 H0 r0 U H r σ δ) : ∃ HB : Hp, InvW w K U0 HB r U H r σ δ ∧ Same (U.se r H) HB ∧ (∀ b o, HB b = some o → U0.Z b = true ∨ U.Z b = false) ∧ ∀ {ED : EndsW} {E : Ends}, EndRW w K EX U0 H0 r0 ED E → EndRW w K EX U0 HB r ED E := by
  let HB : Hp := fun b => if U.Z b = true ∧ U0.Z b = false then none else H b
  have hB : ∀ b o, HB b = some o → H b = some o ∧ (U.Z b = true → U0.Z b = true) := fun b o e => by
    by_cases q : U.Z b = true ∧ U0.Z b = false
    · have : HB b = none := if_pos q
      rw [this] at e; cases e
    · have : HB b = H b := if_neg q
      rw [this] at e
      refine ⟨e, fun z => ?_⟩
      cases q2 : U0.Z b with
      | true => rfl
      | false => exact absurd ⟨z, q2⟩ q
  have hN : ∀ b, U.Z b = true → U0.Z b = false → HB b = none := fun b z z2 => if_pos ⟨z, z2⟩
  have same : ∀ b, (H0 b ≠ none) → HB b = H b := fun b h => if_neg fun ⟨z, z2⟩ => by
    rcases I.z2 b z with q | q
    · rw [q] at z2; cases z2
    · exact h q
  have own0 : ∀ p, H0 p = none → U.Z p = true → HB p = none := fun p e z => hN p z (by
    cases q : U0.Z p with
    | false => rfl
    | true => exact absurd e (I.d0 p q))
  have from1 : ∀ {b : Addr}, HB b = none → H0 b = none := fun {b} e => by
    cases q : H0 b with
    | none => rfl
    | some o =>
      have h : H0 b ≠ none := by rw [q]; simp
      rw [same b h] at e
      exact absurd e (I.st.dom b h)
  refine ⟨HB, ⟨I.ok, I.rel, ⟨fun b o _ m e => ⟨(hB b o e).1, m⟩, fun b h => by
    cases q : HB b with
    | none => exact absurd q h
    | some o => rw [(hB b o q).1]; simp⟩, I.mm, I.z1, fun b z => ?_, fun b z => ?_, I.m0, fun i xs p e q => ?_, I.dis⟩, fun b o e => ?_, fun b o e => ?_, fun {ED E} R => ?_⟩
  · cases q : U0.Z b with
    | true => exact Or.inl rfl
    | false => exact Or.inr (hN b z q)
  · rw [same b (I.d0 b z)]
    exact I.st.dom b (I.d0 b z)
  · exact own0 p (I.own i xs p e q) (I.rel.own i xs p e q)
  · obtain ⟨z, m, e⟩ := se_of e
    have : HB b = H b := if_neg fun ⟨z2, _⟩ => by rw [z] at z2; cases z2
    rw [this]; exact e
  · have := (hB b o e).2
    cases q : U.Z b with
    | false => exact Or.inr rfl
    | true => exact Or.inl (this q)
  · have cst : ∀ {r' : Rs} {H' : Hp}, StW U0 r HB r' H' → StW U0 r0 H0 r' H' := fun {r' H'} s => ⟨fun b o n m e => by
      obtain ⟨e1, m1⟩ := I.st.keep b o n m e
      exact s.keep b o n m1 (by rw [same b (by rw [e]; simp)]; exact e1), fun b h => s.dom b (by rw [same b h]; exact I.st.dom b h)⟩
    have conv : ∀ {U' : Vw} {σ' : Sg} {δ' : SD} {H' : Hp} {r' : Rs}, InvW w K U0 HB r U' H' r' σ' δ' → InvW w K U0 H0 r0 U' H' r' σ' δ' := fun {U' σ' δ' H' r'} J =>
      ⟨J.ok, J.rel, cst J.st, J.mm, J.z1, fun b z => by
        rcases J.z2 b z with q | q
        · exact Or.inl q
        · exact Or.inr (from1 q), I.d0, J.m0, fun i xs p e q => from1 (J.own i xs p e q), J.dis⟩
    exact ⟨fun U' σ' δ' H' r' J => R.nx _ _ _ _ _ (conv J), fun U' σ' δ' H' r' J => R.bk _ _ _ _ _ (conv J), fun U' σ' δ' H' r' J => R.ct _ _ _ _ _ (conv J), fun H' r' v d st => R.rt H' r' v d (cst st), fun C fs r' e xs H' z st ok n h m a => R.rz C fs r' e xs H' z (cst st) ok (from1 n) h m a⟩
theorem sw_for {wi : TI} {iv : JW} {g : TG} {gv : GV} {ns : List Nat} (hi : SndIW w K EX wi iv) (hg : SndG K g gv ns) (hb : SndSW w K EX tb sb) : SndSW w K EX (tFor wi g tb) (sForW iv gv sb) := fun U0 H0 r0 U σ δ H r E ED I R h =>
  hi U σ δ H r _ _ _ I.ok I.rel (I.xr R) h fun ds r1 J H1 h1 s1 ok1 it => by
    have I1 := I.step s1 ok1
    obtain ⟨HB, IB, sB, zB, RB⟩ := I1.rebase (EX := EX)
    have R' := RB R
    have stay : ∀ {U' : Vw} {σ' : Sg} {δ' : SD} {H' : Hp} {r' : Rs}, InvW w K U0 HB r1 U' H' r' σ' δ' → Same (U.se r1 H1) (U'.se r' H') := fun {U' σ' δ' H' r'} J b o e => by
      have e1 := sB b o e
      obtain ⟨z, m, _⟩ := se_of e
      have n0 : U0.Z b = false := by
        cases q : U0.Z b with
        | false => rfl
        | true => rw [I1.z1 b q] at z; cases z
      have nm : ¬ U0.mut b := fun mm => by
        obtain ⟨m', c, g, e2, q⟩ := mm
        obtain ⟨a1, a2, a3⟩ := I.m0 m' c g e2
        rcases q with rfl | rfl
        · rw [a1] at n0; cases n0
        · rw [a3] at n0; cases n0
      obtain ⟨e2, m2⟩ := J.st.keep b o nm m e1
      rw [se_at _ m2]
      · exact e2
      · cases q : U'.Z b with
        | false => rfl
        | true =>
          rcases J.z2 b q with z | z
          · rw [z] at n0; cases n0
          · rw [e1] at z; cases z
    refine ⟨fun i m σ' H' => m = ds.length - i ∧ i ≤ ds.length ∧ ∃ U' δ' r', InvW w K U0 HB r1 U' H' r' σ' δ' ∧ forW gv sb ED (ds.drop i) δ' r', ⟨ds.length, by omega, Nat.zero_le _, U, δ, r1, IB, h1⟩, ?_⟩
    rintro i m σ' H' ⟨rfl, hil, U', δ', r', J', hf⟩
    have sm := stay J'
    have sm' : Same (U.se r1 H1) H' := Gr.tr sm see_le
    by_cases hlt : i < ds.length
    · refine Or.inr ⟨it.go i H' hlt sm', fun σ3 H3 => ∃ U' δ' r', InvW w K U0 HB r1 U' H3 r' σ3 δ' ∧ forW gv sb ED (ds.drop (i + 1)) δ' r', fun σ3 H3 h3 => ⟨ds.length - (i + 1), by omega, rfl, by omega, h3⟩, fun x H'' y => ?_⟩
      obtain ⟨d, hd', y⟩ := it.yld i H' x H'' hlt sm' y
      obtain ⟨s2, ax⟩ := y.use J'.ok.base sm
      have J2 := J'.step (StW.same s2) (J'.ok.same s2)
      have dr : ds.drop i = d :: ds.drop (i + 1) := by
        rw [List.drop_eq_getElem_cons hlt]
        rw [List.getElem?_eq_getElem hlt] at hd'
        cases hd'
        rfl
      rw [dr] at hf
      obtain ⟨δ2, e2, hf⟩ := hf
      refine hg (U'.ext r') σ' δ' H'' r'.n x d δ2 _ J2.ok.base J2.rel.rel ax e2 fun σ2 rel2 off ow => ?_
      exact hb U0 HB r1 U' σ2 δ2 H'' r' _ { nx := fun δ r => forW gv sb ED (ds.drop (i + 1)) δ r, rt := ED.rt, bk := ED.nx, ct := fun δ r => forW gv sb ED (ds.drop (i + 1)) δ r, rz := ED.rz } (J2.to rel2 ow) ⟨fun U3 σ3 δ3 H3 r3 J3 h3 => ⟨U3, δ3, r3, J3, h3⟩, fun U3 σ3 δ3 H3 r3 J3 h3 => R'.nx _ _ _ _ _ J3 h3, fun U3 σ3 δ3 H3 r3 J3 h3 => ⟨U3, δ3, r3, J3, h3⟩, R'.rt, R'.rz⟩ hf
    · have e : i = ds.length := by omega
      subst e
      rw [List.drop_length] at hf
      exact Or.inl ⟨it.stop H' sm', R'.nx _ _ _ _ _ J' hf⟩
/-- some of the store is forgotten -/
def fgt (p : Rs → Prop) (r : Rs) : Prop := ∃ μ' : Addr → Option Ob, (∀ a o, μ' a = some o → r.μ a = some o) ∧ p ⟨r.n, μ'⟩
theorem fgt_ok {μ' : Addr → Option Ob} (ok : OkW w K U H r) (h : ∀ a o, μ' a = some o → r.μ a = some o) : OkW w K U H ⟨r.n, μ'⟩ ∧ Same (U.se r H) (U.se ⟨r.n, μ'⟩ H) ∧ StW U r H ⟨r.n, μ'⟩ H := by
  have no : ∀ b, r.μ b = none → μ' b = none := fun b e => by
    cases q : μ' b with
    | none => rfl
    | some o => rw [h b o q] at e; cases e
  have sm : Same (U.se r H) (U.se ⟨r.n, μ'⟩ H) := fun b o e => by
    obtain ⟨z, m, e⟩ := se_of e
    rw [se_at z (show (⟨r.n, μ'⟩ : Rs).μ b = none from no b m)]; exact e
  refine ⟨⟨⟨fun b z => ok.base.dom b ?_, fun m c g e => ?_⟩, fun b z => no b (ok.dj b z), ok.mz, fun a o e => (ok.st a o (h a o e)).mono sm fun _ z => z⟩, sm, ⟨fun b o _ m e => ⟨e, no b m⟩, fun _ h => h⟩⟩
  · have z' : (U.Z b || (μ' b).isSome) = true := z
    show (U.Z b || (r.μ b).isSome) = true
    cases q : U.Z b with
    | true => rfl
    | false =>
      rw [q] at z'
      obtain ⟨o, e⟩ := Option.isSome_iff_exists.mp z'
      rw [h b o e]; rfl
  · obtain ⟨a1, a2, a3⟩ := ok.mz m c g e
    obtain ⟨_, _, _, M⟩ := ok.base.memo m c g e
    exact ⟨ext_Z a1, ext_Z a2, ext_Z a3, M⟩
/-- from a def's reading to its promise -/
def runW (np nn : Nat) (s : SW) : SPN := fun ss r P Z => ss.length = np ∧ s { nx := fun _ => fgt (P .non), rt := fun d => fgt (P d), rz := fun C fs => fgt (Z C fs) } (ss.map some ++ List.replicate (nn - np) none) r
theorem run_ofW {N : List Str} {np nn : Nat} {t : TS} {s : SW} {vs : List V} {Q : VK} {EE : XK} (hs : SndSW w K EE t s) (hN : N.length = nn) (h : spS w K (runW np nn s) vs H Q EE) : t { nx := fun _ H' => Q .non H', rt := Q } (L2.start N vs) H := by
  obtain ⟨U, r, ss, P, Z, ok, a, ⟨l, h⟩, k, xz⟩ := h
  have lv := a.len
  have no : ∀ (i : Nat) (xs : List D), (ss.map some ++ List.replicate (nn - np) none)[i]? ≠ some (some (.own xs)) := fun i xs e => by
    have mem := List.mem_of_getElem? e
    rw [List.mem_append] at mem
    rcases mem with q | q
    · obtain ⟨s, hs, e⟩ := List.mem_map.mp q
      cases e
      have : ∀ {ss : List Sl} {vs : List V}, SlsOk K (U.ext r) H ss vs → Sl.own xs ∈ ss → False := by
        intro ss
        induction ss with
        | nil => intro vs _ m; cases m
        | cons s ss ih =>
          intro vs h m
          match vs, h with
          | v :: vs, h =>
            rcases List.mem_cons.mp m with rfl | m
            · cases h.1.2
            · exact ih h.2 m
          | [], h => exact h
      exact this a hs
    · have := (List.mem_replicate.mp q).2
      cases this
  have at' : ∀ {ss : List Sl} {vs : List V}, SlsOk K (U.ext r) H ss vs → ∀ (i : Nat) (s : Sl), ss[i]? = some s → ∃ v, vs[i]? = some v ∧ SlOk K (U.ext r) H s v := by
    intro ss
    induction ss with
    | nil => intro vs _ i s e; simp at e
    | cons s ss ih =>
      intro vs h i t e
      match vs, h with
      | v :: vs, h =>
        cases i with
        | zero => cases e; exact ⟨v, rfl, h.1.1⟩
        | succ i => exact ih h.2 i t e
      | [], h => exact h.elim
  have rel : RelE K (U.ext r) H (L2.start N vs) (ss.map some ++ List.replicate (nn - np) none) := by
    refine ⟨?_, fun i s e => ?_⟩
    · unfold L2.start
      rw [List.length_append, List.length_append, List.length_map, List.length_map, List.length_replicate, List.length_replicate, lv, hN, l]
    · have hi : i < ss.length := by
        have mem := List.getElem?_eq_some_iff.mp e
        obtain ⟨_, e'⟩ := mem
        by_cases q : i < ss.length
        · exact q
        · rw [List.getElem_append_right (by rw [List.length_map]; omega), List.getElem_replicate] at e'
          cases e'
      rw [List.getElem?_append_left (by rw [List.length_map]; exact hi), List.getElem?_map] at e
      obtain ⟨s', e', es⟩ := Option.map_eq_some_iff.mp e
      cases es
      obtain ⟨v, ev, av⟩ := at' a i s e'
      refine ⟨v, ?_, av⟩
      unfold L2.start
      rw [List.getElem?_append_left (by rw [List.length_map, lv]; exact hi), List.getElem?_map, ev]
      rfl
  refine hs U H r U _ _ H r _ _ ⟨ok, ⟨rel, fun i xs p e => absurd e (no i xs)⟩, StW.rf, rfl, fun _ z => z, fun _ z => Or.inl z, fun b z => ok.base.dom b (ext_Z z), ok.mz, fun i xs p e => absurd e (no i xs), fun i j xs ys p _ e => absurd e (no i xs)⟩ ⟨fun U' σ' δ' H' r' I h => ?_, fun _ _ _ _ _ _ h => h, fun _ _ _ _ _ _ h => h, fun H' r' v d st ok' a h => ?_, fun C fs r' e xs H' z st ok' n h m a => ?_⟩ h
  · obtain ⟨μ', hm, p⟩ := h
    obtain ⟨o2, sm, s2⟩ := fgt_ok I.back.1 hm
    exact k _ _ _ _ p (I.st.tr s2) o2 .non
  · obtain ⟨μ', hm, p⟩ := h
    obtain ⟨o2, sm, s2⟩ := fgt_ok ok' hm
    exact k d _ v H' p (st.tr s2) o2 (a.gr sm)
  · obtain ⟨μ', hm, p⟩ := z
    obtain ⟨o2, sm, s2⟩ := fgt_ok ok' hm
    exact xz C fs _ e xs H' p (st.tr s2) o2 n h (s2.keep e (.xd xs) (fun q => by
      have := ok.base.dom e (ok.base.mutZ q)
      exact this n) m h).2 (a.gr sm)
theorem spS_len {np nn : Nat} {s : SW} {vs : List V} {Q : VK} {EE : XK} {ps : List Str} (hp : ps.length = np) (h : spS w K (runW np nn s) vs H Q EE) : vs.length = ps.length := by
  obtain ⟨U, r, ss, P, Z, ok, a, ⟨l, h⟩, k, z⟩ := h
  rw [a.len, l, hp]
end
end TSx

/-! Own layer, part Q3: len of an own instance; raising of a class over OverflowError. -/
namespace TSx
open PySem L2 PySem.Spec PyProof.Rows
section
variable {X : Cx} {CX : CXT} {x : Str} {C fI f : Addr} {k : Nat} {fd : FuncData} {ps : List Str} {sp : Sp} {p p' pos : Pos} {o e : Expr} {es : List Expr} {ta : TA}
end
end TSx

/-! Own layer, part Q4: what is stored to objects, dicts of texts, raise, len of an instance, beside a store. -/
namespace TSx
open PySem L2
def putFD (f : Str) (v : D) : List (Str × D) → List (Str × D)
  | [] => [(f, v)]
  | (g, x) :: r => if g = f then (g, v) :: r else (g, x) :: putFD f v r
def valD (kvs : List (Key × D)) (k : Key) : Option D := (kvs.find? fun kv => decide (kv.1 = k)).map (·.2)
def putKD (kvs : List (Key × D)) (k : Key) (v : D) : List (Key × D) := if (kvs.any fun kv => decide (kv.1 = k)) = true then kvs.map (fun kv => if kv.1 = k then (kv.1, v) else kv) else kvs ++ [(k, v)]
def keyD : D → Option Key
  | .int i => some (.inl i)
  | .str x => some (.inr x)
  | _ => none
/-! readings -/
def sFldW (C : Addr) (f : Str) (eo e : EW) : SW := fun E δ r => e E.rz δ r fun d r1 => eo E.rz δ r1 fun o r2 => ∃ x fs, o = .ob x ∧ r2.μ x = some (.ins C fs) ∧ fs.length < 1000 ∧ E.nx δ (r2.put x (.ins C (putFD f d fs)))
def sFldAugW (C : Addr) (f : Str) (op : D → D → Option D) (eo e : EW) : SW := fun E δ r => eo E.rz δ r fun o r1 => ∃ x fs v, o = .ob x ∧ r1.μ x = some (.ins C fs) ∧ fs.lookup f = some v ∧ e E.rz δ r1 fun y r2 => ∃ z fs', op v y = some z ∧ r2.μ x = some (.ins C fs') ∧ fs'.length < 1000 ∧ E.nx δ (r2.put x (.ins C (putFD f z fs')))
def eDGetW (ed ek : EW) : EW := fun Z δ r P => ed Z δ r fun o r1 => ek Z δ r1 fun y r2 => ∃ p kvs k v, o = .ob p ∧ r2.μ p = some (.dk kvs) ∧ keyD y = some k ∧ valD kvs k = some v ∧ P v r2
def sDPutW (ed ek ev : EW) : SW := fun E δ r => ev E.rz δ r fun v r1 => ed E.rz δ r1 fun o r2 => ek E.rz δ r2 fun y r3 => ∃ p kvs k, o = .ob p ∧ r3.μ p = some (.dk kvs) ∧ keyD y = some k ∧ kvs.length < 100000 ∧ E.nx δ (r3.put p (.dk (putKD kvs k v)))
/-- the values of a display whose keys are written texts -/
def disps : List (Str × EW) → ZC → SD → Rs → (List (Key × D) → Rs → Prop) → Prop
  | [], _, _, r, P => P [] r
  | (k, e) :: l, Z, δ, r, P => e Z δ r fun d r1 => disps l Z δ r1 fun kvs r2 => P ((.inr k, d) :: kvs) r2
def eDispW (l : List (Str × EW)) : EW := fun Z δ r P => disps l Z δ r fun kvs r1 => l.length ≤ 15 ∧ ∀ p, r1.μ p = none → P (.ob p) (r1.put p (.dk (kvs.foldl (fun acc kv => putKD acc kv.1 kv.2) [])))
def eLenO (C : Addr) (S : SPN) (a : EW) : EW := fun Z δ r P => a Z δ r fun d r1 => ∃ x fs, d = .ob x ∧ r1.μ x = some (.ins C fs) ∧ S [.d (.ob x)] r1 (fun v r2 => ∃ n : Int, v = .int n ∧ 0 ≤ n ∧ n < 2 ^ 63 ∧ P (.int n) r2) noX
def sRaiseW (C : Addr) (f : Str) (e : EW) : SW := fun E δ r => e E.rz δ r fun d r1 => E.rz C [(f, d)] r1
def sRaise2W (C : Addr) (f g : Str) (e1 e2 : EW) : SW := fun E δ r => e1 E.rz δ r fun d1 r1 => e2 E.rz δ r1 fun d2 r2 => E.rz C [(g, d2), (f, d1)] r2
section
variable {EX : XK} {w : World} {K : PySem.W.Frag} {U0 U : Vw} {H0 H H' : Hp} {r0 r r' : Rs} {σ σ' : Sg} {δ δ' : SD} {te to tk : TE} {ee eo ek : EW}
theorem putF_dt {G : Hp} {f : Str} {v : V} {d : D} (a : Dt K G v d) : ∀ {xs : List (Str × V)} {fs : List (Str × D)}, DtF K G xs fs → DtF K G (putF f v xs) (putFD f d fs)
  | _, _, .nil => .cons a .nil
  | _, _, .cons (k := g) b t => by
    show DtF K G (if g = f then (g, v) :: _ else (g, _) :: putF f v _) (if g = f then (g, d) :: _ else (g, _) :: putFD f d _)
    by_cases h : g = f
    · rw [if_pos h, if_pos h]; exact .cons a t
    · rw [if_neg h, if_neg h]; exact .cons b (putF_dt a t)
theorem dtF_len {G : Hp} : ∀ {xs : List (Str × V)} {fs : List (Str × D)}, DtF K G xs fs → xs.length = fs.length
  | _, _, .nil => rfl
  | _, _, .cons _ t => by rw [List.length_cons, List.length_cons, dtF_len t]
theorem ext_put {x : Addr} {o o' : Ob} (h : r.μ x = some o) : U.ext (r.put x o') = U.ext r := by
  unfold Vw.ext
  congr 1
  funext b
  by_cases q : b = x
  · rw [q, put_same, h]; rfl
  · rw [put_ne q]
/-- a tracked object is changed -/
theorem OkW.put (ok : OkW w K U H r) {x : Addr} {o o' : Ob} {ho : HO} (h : r.μ x = some o) (n : ObOk w K (U.se r H) (L2.upd H x ho) x o') : OkW w K U (L2.upd H x ho) (r.put x o') ∧ StW U r H (r.put x o') (L2.upd H x ho) ∧ U.se (r.put x o') (L2.upd H x ho) = U.se r H := by
  have zx : (U.ext r).Z x = true := ext_μ h
  have e : U.se (r.put x o') (L2.upd H x ho) = U.se r H := by
    show (U.ext (r.put x o')).see _ = _
    rw [ext_put h]
    exact see_hid zx
  have apt : Apt (U.ext r) x := ⟨zx, ok.nmut h, fun m c g e q => by
    have := ok.dj c (ok.mz m c g e).2.1
    rw [q, h] at this; cases this⟩
  refine ⟨⟨?_, fun b z => ?_, ok.mz, fun a ob ha => ?_⟩, ⟨fun b o2 _ m e2 => ?_, fun b hb => ?_⟩, e⟩
  · show Ok (U.ext (r.put x o')) _ _
    rw [ext_put h]
    exact ok.base.upd apt
  · rw [put_ne (fun q => by rw [q] at z; rw [ok.dj x z] at h; cases h)]
    exact ok.dj b z
  · rw [e]
    by_cases q : a = x
    · subst q
      rw [put_same] at ha
      cases ha
      exact n
    · rw [put_ne q] at ha
      exact (ok.st a ob ha).mono (fun _ _ z => z) fun u z => by rw [upd_ne q]; exact z
  · have nb : b ≠ x := fun q => by rw [q, h] at m; cases m
    exact ⟨by rw [upd_ne nb]; exact e2, by rw [put_ne nb]; exact m⟩
  · by_cases q : b = x
    · rw [q, upd_same]; simp
    · rw [upd_ne q]; exact hb
theorem sw_fldS {C : Addr} {f : Str} (c : Cls K C) (n : NoAttr K C f) (ho : SndEW w K EX to eo) (he : SndEW w K EX te ee) : SndSW w K EX (sFld K to te f) (sFldW C f eo ee) := fun U0 H0 r0 U σ δ H r E ED I R h =>
  he U σ δ H r _ _ _ I.ok I.rel (I.xr R) h fun d r1 y H1 h1 s1 ok1 a1 => ho U σ δ H1 r1 _ _ _ ok1 (I.step s1 ok1).rel ((I.step s1 ok1).xr R) h1 fun o r2 u H2 h2 s2 ok2 a2 => by
    obtain ⟨x, fs, rfl, m, l, h2⟩ := h2
    cases a2
    obtain ⟨dx, xs, e, a⟩ := ok2.ins m
    have I2 := (I.step s1 ok1).step s2 ok2
    obtain ⟨ok3, s3, _⟩ := ok2.put (ho := .ins C dx (putF f y xs)) (o' := .ins C (putFD f d fs)) m ⟨dx, _, upd_same, putF_dt (a1.gr (s2.see ok1)) a⟩
    exact ⟨x, C, dx, xs, rfl, e, c, n, by rw [dtF_len a]; exact l, R.nx _ _ _ _ _ (I2.step s3 ok3) h2⟩
/-- a new thing is tracked -/
theorem OkW.track (ok : OkW w K U H r) {p : Addr} (np : H p = none) {ho : HO} {o : Ob} (n : ∀ G, Same (U.se r H) G → ObOk w K G (L2.upd H p ho) p o) : OkW w K U (L2.upd H p ho) (r.put p o) ∧ StW U r H (r.put p o) (L2.upd H p ho) := by
  have hk : ∀ b u, H b = some u → b ≠ p ∧ L2.upd H p ho b = some u := fun b u e => by
    have n1 : b ≠ p := ne_of_none e np
    exact ⟨n1, by rw [upd_ne n1]; exact e⟩
  have zp := ok.free np
  have st : StW U r H (r.put p o) (L2.upd H p ho) := ⟨fun b u _ m e => ⟨(hk b u e).2, by rw [put_ne (hk b u e).1]; exact m⟩, fun b h => by
    cases e : H b with
    | none => exact absurd e h
    | some u => rw [(hk b u e).2]; simp⟩
  refine ⟨⟨⟨fun b z => ?_, fun m c g e => ?_⟩, fun b z => ?_, ok.mz, fun a ob h => ?_⟩, st⟩
  · by_cases q : b = p
    · rw [q, upd_same]; simp
    · refine st.dom b (ok.base.dom b ?_)
      have z' : (U.Z b || ((r.put p o).μ b).isSome) = true := z
      rw [put_ne q] at z'
      exact z'
  · obtain ⟨a1, a2, a3, M⟩ := ok.base.memo m c g e
    obtain ⟨z1, z2, z3⟩ := ok.mz m c g e
    exact ⟨ext_Z z1, ext_Z z2, ext_Z z3, M.same fun b u e => (hk b u e).2⟩
  · rw [put_ne (fun q => by rw [q, zp.1] at z; cases z)]
    exact ok.dj b z
  · by_cases q : a = p
    · subst q
      rw [put_same] at h
      cases h
      exact n _ (st.see ok)
    · rw [put_ne q] at h
      exact (ok.st a ob h).mono (st.see ok) fun u e => (hk a u e).2
theorem sw_raise1 {C : Addr} {f : Str} (he : SndEW w K EX te ee) : SndSW w K EX (fun _ σ H => tMkO C (spIni C f) [] (tCons te tNil) σ H EX) (sRaiseW C f ee) := fun U0 H0 r0 U σ δ H r E ED I R h =>
  he U σ δ H r _ _ _ I.ok I.rel (I.xr R) h fun d r1 x H1 h1 s1 ok1 a1 => by
    have I1 := I.step s1 ok1
    refine ⟨(show 1 ≤ 1000 by decide), fun p np => ⟨p, x, rfl, upd_same, fun dd nd ne => ⟨rfl, dd, [(f, x)], upd_same, ?_, ?_, ?_⟩⟩⟩
    · rw [upd_ne ne, upd_same]
    · rw [upd_ne ne] at nd; exact nd
    · have hn : H1 dd = none := by rw [upd_ne ne] at nd; exact nd
      have e : (upd (L2.del (upd (upd (upd H1 p (exo p C none)) dd (exd dd [(f, x)])) p (exo p C (some dd))) p) dd (.xd [(f, x)])) = upd H1 dd (.xd [(f, x)]) := by
        funext b
        by_cases hb : b = dd
        · rw [hb, upd_same, upd_same]
        · rw [upd_ne hb, upd_ne hb]
          by_cases hp : b = p
          · rw [hp, del_same, np]
          · rw [del_ne hp, upd_ne hp, upd_ne hb, upd_ne hp]
      rw [e]
      have sm : Same H1 (upd H1 dd (.xd [(f, x)])) := same_new hn
      have ok2 := ok1.same sm
      exact I1.xr R C _ r1 dd _ _ h1 (StW.same sm) ok2 hn upd_same (ok1.free hn).2 (.cons (a1.gr (see_same sm)) .nil)
end
end TSx

/-! Own layer, part Q5: t += u of tuples. -/
namespace TSx
open PySem L2 PySem.Spec PyProof.Rows HT
section
variable {prog : Program} {w : World} {A : Around} {E : Value → Shared → Prop} {s : Shared}
end
end TSx

/-! Own layer, part Q6: truth of data, what is known of methods. -/
namespace TSx
open PySem L2
def truD : D → Option Bool
  | .non => some false
  | .bl b => some b
  | .int i => some (i != 0)
  | .str x => if x.length ≤ 100000 then some ((x.length : Int) != 0) else none
  | .lst xs => some (!xs.isEmpty)
  | .tup xs => some (!xs.isEmpty)
  | _ => none
def vTruW (e : EW) : TW := fun Z δ r P => e Z δ r fun d r1 => ∃ b, truD d = some b ∧ P b r1
section
variable {w : World} {K : PySem.W.Frag} {EX : XK} {te : TE} {ee : EW} {ev : EV}
end
structure DoI (CXv : CXT) (P : Program) (w : World) (K : PySem.W.Frag) (mg : Str → Option Value) (base : Heap) (k : Nat) (C : Addr) (ps : List Str) (sp : Sp) (f : Addr) (fd : FuncData) : Prop where
  G : FnOk P w K mg base CXv k f fd ps sp
  M : L2.Mk K C f
  b : Binds K fd ps []
end TSx

/-! Own layer, part Q7: the law's beginning, beside a store; a class over OverflowError that is raised. -/
namespace TSx
open PySem L2 TL
structure Xg (P : Program) (w : World) (K : PySem.W.Frag) (mg : Str → Option Value) (base : Heap) (nm fld : Str) (C fI : Addr) (fd : FuncData) : Prop where
  x : Xo P w K mg base nm fld C fI fd
  eC : PySem.W.subIn K (.ref C) (.type "BaseException") = some true
  tC : PySem.W.typeIn K (.ref C) = some (.type "type")
section
variable {w : World} {K : PySem.W.Frag} {H : Hp}
end
end TSx

/-! Own layer, part Q8: is of truth values; rules of pure mathematics for readings beside a store. -/
namespace TSx
open PySem L2
def opIsB : D → D → Option D
  | .bl a, .bl b => some (.bl (decide (a = b)))
  | _, _ => none
def opNotB : D → D → Option D
  | .bl a, .bl b => some (.bl (!decide (a = b)))
  | _, _ => none
section
variable {K : PySem.W.Frag}
end
/-! the state -/
theorem at_n {r : Rs} : r.at r.n = r := rfl
theorem at_at {r : Rs} {a b : Nat} : (r.at a).at b = r.at b := rfl
theorem n_at {r : Rs} {a : Nat} : (r.at a).n = a := rfl
theorem m_at {r : Rs} {a : Nat} : (r.at a).μ = r.μ := rfl
theorem n_put {r : Rs} {a : Addr} {o : Ob} : (r.put a o).n = r.n := rfl
theorem put_at {r : Rs} {a : Addr} {o : Ob} {n : Nat} : (r.at n).put a o = (r.put a o).at n := rfl
theorem put_put {r : Rs} {a : Addr} {o o' : Ob} : (r.put a o).put a o' = r.put a o' := by
  unfold Rs.put
  congr 1
  funext b
  by_cases h : b = a
  · simp [h]
  · simp [h]
theorem mput_same {r : Rs} {a : Addr} {o : Ob} : (r.put a o).μ a = some o := put_same
theorem fgt_all {p : Rs → Prop} {r : Rs} (h : p r) : fgt p r := ⟨r.μ, fun _ _ e => e, h⟩
theorem ex_ob {a : Addr} {P : Addr → Prop} : (∃ c, D.ob a = .ob c ∧ P c) ↔ P a := ⟨fun ⟨_, e, p⟩ => by cases e; exact p, fun p => ⟨a, rfl, p⟩⟩
theorem ex_ob2 {a : Addr} {α : Type} {P : Addr → α → Prop} : (∃ c fs, D.ob a = .ob c ∧ P c fs) ↔ ∃ fs, P a fs := ⟨fun ⟨_, fs, e, p⟩ => by cases e; exact ⟨fs, p⟩, fun ⟨fs, p⟩ => ⟨a, fs, rfl, p⟩⟩
theorem ex_ob3 {a : Addr} {α β : Type} {P : Addr → α → β → Prop} : (∃ c x y, D.ob a = .ob c ∧ P c x y) ↔ ∃ x y, P a x y := ⟨fun ⟨_, x, y, e, p⟩ => by cases e; exact ⟨x, y, p⟩, fun ⟨x, y, p⟩ => ⟨a, x, y, rfl, p⟩⟩
theorem ex_ob4 {a : Addr} {α β γ : Type} {P : Addr → α → β → γ → Prop} : (∃ c x y z, D.ob a = .ob c ∧ P c x y z) ↔ ∃ x y z, P a x y z := ⟨fun ⟨_, x, y, z, e, p⟩ => by cases e; exact ⟨x, y, z, p⟩, fun ⟨x, y, z, p⟩ => ⟨a, x, y, z, rfl, p⟩⟩
/-! all of a comprehension at once -/
section
variable {α : Type} {g : GV} {t : TW} {e : EW} {δ0 : SD} {acc : List D} {r : Rs} {P : D → Rs → Prop} {δ : SD}
/-! loops: I by the place -/
theorem forw_inv {l : List α} {φ : α → D} {b : SW} {E : EndsW} (I : Nat → SD → Rs → Prop) (h0 : I 0 δ r)
    (h : ∀ (i : Nat) (a : α) (δ : SD) (r : Rs), l[i]? = some a → I i δ r → ∀ N : SD → Rs → Prop, (∀ δ r, I (i + 1) δ r → N δ r) → ∃ δ', g (φ a) δ = some δ' ∧ b { E with nx := N, ct := N, bk := E.nx } δ' r)
    (p : ∀ δ r, I l.length δ r → E.nx δ r) : forW g b E (l.map φ) δ r := by
  suffices H : ∀ (k : Nat) (δ : SD) (r : Rs), k ≤ l.length → I (l.length - k) δ r → forW g b E ((l.drop (l.length - k)).map φ) δ r by
    have := H l.length δ r (Nat.le_refl _) (by rw [Nat.sub_self]; exact h0)
    rwa [Nat.sub_self, List.drop_zero] at this
  intro k
  induction k with
  | zero =>
    intro δ r _ hi
    rw [Nat.sub_zero] at hi ⊢
    rw [List.drop_length]
    exact p δ r hi
  | succ k ih =>
    intro δ r hk hi
    have hlt : l.length - (k + 1) < l.length := by omega
    rw [List.drop_eq_getElem_cons hlt, List.map_cons]
    have e : l.length - (k + 1) + 1 = l.length - k := by omega
    rw [e]
    exact h _ _ δ r (List.getElem?_eq_getElem hlt) hi _ fun δ r x => ih δ r (by omega) (by rw [← e]; exact x)
end
end TSx

/-! Own layer, part Q9: dicts whose keys are tuples (nested): the heap's rules. -/
namespace TSx
open PySem L2
mutual
def NkV (K : PySem.W.Frag) (H : Hp) : NestedKey → V → Prop
  | .none, v => v = .non
  | .num i, v => v = .int i
  | .text x, v => v = .str x
  | .tup ks, v => ∃ a xs, v = .ref a ∧ SqT K H a xs ∧ NkVs K H ks xs
def NkVs (K : PySem.W.Frag) (H : Hp) : List NestedKey → List V → Prop
  | [], vs => vs = []
  | k :: ks, vs => ∃ v r, vs = v :: r ∧ NkV K H k v ∧ NkVs K H ks r
end
section
variable {X : Cx} {pins : List (Addr × Obj)} {σ : St} {H : Hp} {s : Shared}
mutual
theorem nk_is (I : Inv X pins σ H s) : ∀ (k : NestedKey) (v : V) (u : Value), NkV X.K H k v → RelV v u → NestedIs s.heap k u
  | .none, v, u, h, r => by
    unfold NkV at h; subst h
    cases (show u = Value.none from r)
    exact .none
  | .num i, v, u, h, r => by
    unfold NkV at h; subst h
    obtain ⟨t, rfl⟩ := r
    exact .int i t
  | .text x, v, u, h, r => by
    unfold NkV at h; subst h
    obtain ⟨t, rfl⟩ := r
    exact .text x t
  | .tup ks, v, u, h, r => by
    unfold NkV at h
    obtain ⟨a, xs, rfl, hq, hk⟩ := h
    cases (show u = Value.ref a from r)
    obtain ⟨its, rel, ⟨o, e, c, n, d⟩, _⟩ := I.tuple hq
    exact .tup e c d (nks_is I ks xs its hk rel)
theorem nks_is (I : Inv X pins σ H s) : ∀ (ks : List NestedKey) (vs : List V) (us : List Value), NkVs X.K H ks vs → Vals vs us → NestedAll s.heap ks us
  | [], vs, us, h, r => by
    unfold NkVs at h; subst h
    cases r
    exact .nil
  | k :: ks, vs, us, h, r => by
    unfold NkVs at h
    obtain ⟨v, t, rfl, h1, h2⟩ := h
    cases r with
    | cons a b => exact .cons (nk_is I k v _ h1 a) (nks_is I ks t _ h2 b)
end
end
section
variable {X : Cx} {pins : List (Addr × Obj)} {σ : St} {H : Hp} {s : Shared} {a b : Addr} {es : List NE} {k : NestedKey} {v : V} {r u : Value} {A : Around} {E : Value → Shared → Prop}
end
end TSx

/-! Own layer, part Q10: dicts with tuples as keys, their rules and what they tell beside a store. -/
namespace TSx
open PySem L2
def tNNew (w : World) : TE := fun _ H Q => ∀ p, H p = none → Q (.ref p) (upd H p (DnO w p []))
section
variable {X : Cx} {K : PySem.W.Frag} {w : World} {o i value : Expr} {pos pos' : Pos} {td ty tv : TE} {k : Nat}
theorem dn_empty {P : Program} {w : World} {H : Hp} (h : Heap) (hb : sysModules < h.objs.size) : ObjOk P w H (h.push { cls := .type "dict", data := .dict #[] }) h.objs.size (DnO w h.objs.size []) := by
  have g : (h.push { cls := .type "dict", data := .dict #[] }).get? h.objs.size = some { cls := .type "dict", data := .dict #[] } := Heap.get?_push_size _ rfl
  refine ⟨⟨Nat.zero_le _, beq_eq_false_iff_ne.mpr (Ne.symm (Nat.ne_of_lt hb)), [], .nil, _, #[], 0, g, ⟨rfl, rfl, rfl⟩, rfl, rfl, List.nodup_nil⟩, ⟨_, g⟩, fun g1 g2 ⟨z1, z2, ys, z3, o, ds', ep', e1, e2⟩ st => ⟨z1, z2, ys, z3, o, ds', ep', st _ e1, e2⟩⟩
theorem pe_nnew (hw : X.w = w) : PE X (.Dict [] [] pos) (tNNew w) := by
  subst hw
  exact ⟨fun pins s σ H Q I h => wpAny_Dict_empty ⟨.ref s.heap.objs.size, _, I.laid (a := s.heap.objs.size) (o := DnO X.w s.heap.objs.size []) (t' := s.toks) (fun _ _ q => Heap.get?_push_of_some _ q) (Nat.le_refl _) (dn_empty s.heap I.big), rfl, h _ (I.hok.fresh (Nat.le_refl _))⟩⟩
end
/-! ### what they tell -/
def keyN (y : D) : Prop := ∃ ys k, y = .tup ys ∧ nkey y = some k ∧ k.depth ≤ 8
def eNNewW : EW := fun _ _ r P => ∀ p, r.μ p = none → P (.ob p) (r.put p (.dn []))
section
variable {w : World} {K : PySem.W.Frag} {U : Vw} {S H : Hp} {r : Rs}
mutual
theorem nkv_of (s : Same S H) : ∀ (d : D) (v : V) (k : NestedKey), Dt K S v d → nkey d = some k → NkV K H k v
  | .non, v, k, a, h => by
    cases a
    unfold nkey at h; cases h
    unfold NkV; rfl
  | .int i, v, k, a, h => by
    cases a
    unfold nkey at h; cases h
    unfold NkV; rfl
  | .str x, v, k, a, h => by
    cases a
    unfold nkey at h; cases h
    unfold NkV; rfl
  | .tup ds, v, k, a, h => by
    cases a with
    | tup q t =>
      unfold nkey at h
      obtain ⟨ks, hk, rfl⟩ := Option.map_eq_some_iff.mp h
      unfold NkV
      exact ⟨_, _, rfl, gr_T s q, nkvs_of s ds _ ks t hk⟩
  | .bl b, v, k, a, h => by unfold nkey at h; cases h
  | .lst b, v, k, a, h => by unfold nkey at h; cases h
  | .dic b, v, k, a, h => by unfold nkey at h; cases h
  | .exc b c, v, k, a, h => by unfold nkey at h; cases h
  | .ob b, v, k, a, h => by unfold nkey at h; cases h
  | .frd _, v, k, a, h => by unfold nkey at h; cases h
  | .tpb _, v, k, a, h => by unfold nkey at h; cases h
  | .frn _ _, v, k, a, h => by unfold nkey at h; cases h
  | .fnv _ _ _ _ _ _, v, k, a, h => by unfold nkey at h; cases h
theorem nkvs_of (s : Same S H) : ∀ (ds : List D) (vs : List V) (ks : List NestedKey), DtA K S vs ds → nkeys ds = some ks → NkVs K H ks vs
  | [], vs, ks, a, h => by
    cases a
    unfold nkeys at h; cases h
    unfold NkVs; rfl
  | d :: ds, vs, ks, a, h => by
    cases a with
    | cons b t =>
      unfold nkeys at h
      obtain ⟨k, hk, h⟩ := Option.bind_eq_some_iff.mp h
      obtain ⟨ks', hk', rfl⟩ := Option.map_eq_some_iff.mp h
      unfold NkVs
      exact ⟨_, _, rfl, nkv_of s d _ k b hk, nkvs_of s ds _ ks' t hk'⟩
end
end
section
variable {EX : XK} {w : World} {K : PySem.W.Frag} {te to tk : TE} {ee eo ek : EW}
theorem se_le {U : Vw} {r : Rs} {H : Hp} : Same (U.se r H) H := see_le
theorem sw_nnew : SndEW w K EX (tNNew w) eNNewW := fun U σ δ H r Z P Q ok rel x h q p np => by
  obtain ⟨ok1, s1⟩ := ok.track np (ho := DnO w p []) (o := .dn []) fun G _ => ⟨[], upd_same, .nil⟩
  exact q _ _ _ _ (h p (ok.free np).2) s1 ok1 (.ob p)
end
end TSx

/-! Own layer, part Q11: try with one call in it, beside a store. -/
namespace TSx
open PySem L2
def endsOffW (i : Nat) (E : EndsW) : EndsW := { nx := fun δ r => E.nx (SD.off i δ) r, rt := E.rt, bk := fun δ r => E.bk (SD.off i δ) r, ct := fun δ r => E.ct (SD.off i δ) r, rz := E.rz }
/-- clause after clause; what none takes goes on -/
def pickW (K : PySem.W.Frag) (E : EndsW) (δ : SD) (C : Addr) (fs : List (Str × D)) : List (Value × Nat × SW) → Rs → Prop
  | [], r => E.rz C fs r
  | (c, i, sv) :: l, r => (PySem.W.exmOne K (.ref C) c = some true ∧ sv (endsOffW i E) (δ.set i (some (.d (.exc C fs)))) r) ∨ (PySem.W.exmOne K (.ref C) c = some false ∧ pickW K E δ C fs l r)
inductive ClW (w : World) (K : PySem.W.Frag) (EX : XK) : List (Value × Nat × TS) → List (Value × Nat × SW) → Prop
  | nil : ClW w K EX [] []
  | cons {c : Value} {i : Nat} {ts : TS} {sv : SW} {l : List (Value × Nat × TS)} {m : List (Value × Nat × SW)} : SndSW w K EX ts sv → ClW w K EX l m → ClW w K EX ((c, i, ts) :: l) ((c, i, sv) :: m)
section
variable {EX : XK} {w : World} {K : PySem.W.Frag} {U0 U : Vw} {H0 H H' : Hp} {r0 r r' : Rs} {σ σ' : Sg} {δ δ' : SD} {te : TE} {ee : EW} {tA : TA} {av : AW}
theorem InvW.off (I : InvW w K U0 H0 r0 U H r σ δ) (i : Nat) : InvW w K U0 H0 r0 U H r (σ.set i none) (SD.off i δ) := by
  refine I.to ⟨by unfold SD.off; rw [List.length_set, List.length_set]; exact I.rel.rel.len, fun j s e => ?_⟩ fun j xs e => ?_
  · unfold SD.off at e
    by_cases z : i = j
    · subst z
      rw [List.getElem?_set_self'] at e
      cases q : δ[i]? with
      | none => rw [q] at e; cases e
      | some x => rw [q] at e; cases e
    · rw [List.getElem?_set_ne z] at e ⊢
      exact I.rel.rel.at' j s e
  · unfold SD.off at e
    by_cases z : i = j
    · subst z
      rw [List.getElem?_set_self'] at e
      cases q : δ[i]? with
      | none => rw [q] at e; cases e
      | some x => rw [q] at e; cases e
    · rw [List.getElem?_set_ne z] at e ⊢
      exact ⟨e, rfl⟩
theorem pickW_ok {E : Ends} {ED : EndsW} (R : EndRW w K EX U0 H0 r0 ED E) {C e : Addr} {fs : List (Str × D)} {xs : List (Str × V)} (I : InvW w K U0 H0 r0 U H r σ δ) (n : H0 e = none) (x : H e = some (.xd xs)) (mm : r.μ e = none) (zz : U.Z e = false) (a : DtF K (U.se r H) xs fs) {l : List (Value × Nat × TS)} {m : List (Value × Nat × SW)} (h : ClW w K EX l m)
    (p : pickW K ED δ C fs m r) : wT K (fun cls d _ H => EX cls d H) E l (.ref C) (some e) σ H := by
  induction h with
  | nil => exact R.rz C fs r e xs H p I.st I.back.1 n x mm (a.gr I.back.2)
  | @cons c i ts sv l m hs hm ih =>
    rcases p with ⟨hx, p⟩ | ⟨hx, p⟩
    · refine ⟨true, hx, fun _ => ⟨C, e, rfl, rfl, fun a' na => ?_⟩, fun q => by cases q⟩
      have sm : Same H (upd H a' (exq a' C e)) := same_new na
      have ok2 := I.ok.same sm
      have I2 := I.step (StW.same sm) ok2
      have sms : Same (U.se r H) (U.se r (upd H a' (exq a' C e))) := see_same sm
      have za : (U.ext r).Z a' = false := ext_no (I.ok.free na).1 (I.ok.free na).2
      have ax : Dt K (U.se r (upd H a' (exq a' C e))) (.ref a') (.exc C fs) := .exc (by rw [se_at (I.ok.free na).1 (I.ok.free na).2, upd_same]) (sms _ _ (by rw [se_at zz mm]; exact x)) (a.gr sms)
      exact hs U0 H0 r0 U _ _ _ r _ (endsOffW i ED) (I2.to (I2.rel.rel.set (s := .d (.exc C fs)) ax) (own_set rfl)) ⟨fun U' σ' δ' H2 r2 J q => R.nx _ _ _ _ _ (J.off i) q, fun U' σ' δ' H2 r2 J q => R.bk _ _ _ _ _ (J.off i) q, fun U' σ' δ' H2 r2 J q => R.ct _ _ _ _ _ (J.off i) q, R.rt, R.rz⟩ p
    · exact ⟨false, hx, (fun q => nomatch q), fun _ => ih p⟩
/-- e.f of a caught exception -/
def eXFldW (K : PySem.W.Frag) (f : Str) (a : EW) : EW := fun Z δ r P => a Z δ r fun d r1 => ∃ C fs z, d = .exc C fs ∧ ExcC K C ∧ PySem.W.findIn K (.ref C) f = some none ∧ fs.lookup f = some z ∧ P z r1
theorem sw_xfld {f : Str} (he : SndEW w K EX te ee) : SndEW w K EX (tXa K f te) (eXFldW K f ee) := fun U σ δ H r Z P Q ok rel x h k =>
  he U σ δ H r Z _ _ ok rel x h fun d r1 v H1 h1 s1 ok1 a1 => by
    obtain ⟨C, fs, z, rfl, hC, hf, e, p⟩ := h1
    cases a1 with
    | exc e1 e2 t =>
      obtain ⟨y, hy, ay⟩ := dtF_at t e
      exact ⟨_, _, _, _, y, rfl, se_le _ _ e1, se_le _ _ e2, hC, hf, hy, k _ _ _ _ p s1 ok1 ay⟩
end
end TSx

/-! Own layer, part Q12: name op= e; a new list bound beside other things. -/
namespace TSx
open PySem L2
section
variable {EX : XK} {w : World} {K : PySem.W.Frag} {te t1 t2 t3 : TE} {ee e1 e2 e3 : EW}
end
end TSx

/-! Own layer, part Q13: in, not in: data among the things of a list or a tuple. -/
namespace TSx
open PySem L2 PySem.Spec PyProof.Rows
end TSx

/-! Own layer, part Q14: a dict made by a comprehension and sealed: data from then on. -/
namespace TSx
open PySem L2
section
variable {w : World} {K : PySem.W.Frag} {EX : XK} {U : Vw} {L : Addr} {H H' H1 H2 : Hp} {r r' r1 r2 : Rs} {σ : Sg} {δ : SD}
end
end TSx

/-! Own layer, part Q15: what a sealed dict tells: d[k], k in d, its items, keys and values walked. -/
namespace TSx
open PySem L2
section
variable {EX : XK} {w : World} {K : PySem.W.Frag} {te to tk : TE} {ee eo ek : EW}
end
end TSx

/-! Own layer, part Q16: a tuple so many times (once at least). -/
namespace TSx
open PySem L2
end TSx

/-! Own layer, part Q17: len of a dict with tuples as keys. -/
namespace TSx
open PySem L2 PySem.Spec PyProof.Rows
end TSx

/-! Own layer, part Q18: {k: v} with a tuple as its key. -/
namespace TSx
open PySem L2
def eNDisp1W (ek ev : EW) : EW := fun Z δ r P => ek Z δ r fun y r1 => ev Z δ r1 fun v r2 => keyN y ∧ ∀ p, r2.μ p = none → P (.ob p) (r2.put p (.dn [(y, v)]))
end TSx

/-! Own layer, part Q19: a lambda beside a store: made, and called by the def that got it. -/
namespace TSx
open PySem L2 PySem.Spec PyProof.Rows LamX
/-- caps: the names that it reads of its maker; par: its parameters -/
structure LW.Okc (l : LW) (caps par : List Str) (sc : Scope) : Prop where
  kind : l.scope.kind = .function
  co : l.scope.isCoroutine = false
  gen : l.scope.isGenerator = false
  cell : ∀ y ∈ l.scope.names, y.2 ≠ .cell
  loc : ∀ y, l.scope.names.lookup y = some .local → y ∉ caps
  parL : ∀ y ∈ par, l.scope.names.lookup y = some .local
  par1 : par.length ≤ 1
  free : ∀ y ∈ l.scope.names, y.2 = .free → sc.names.lookup y.1 = some .cell ∨ sc.names.lookup y.1 = some .free
  kwd : l.params.kw_defaults = []
  dfl : match l.dflt with
    | none => l.params.defaults = [] ∧ ∀ (us : List Value) (fd : FuncData), us.length = par.length → fd.params = l.params → fd.defaults = .none → bindArgs fd ⟨us, []⟩ = pure (par.zip us)
    | some (x, i) => par = [] ∧ (∃ k p, l.params.defaults = [.Constant (.int i) k p]) ∧ l.scope.names.lookup x = some .local ∧
        ∀ fd : FuncData, fd.params = l.params → ∃ kk, bindArgs fd ⟨[], []⟩ = seqItems? fd.defaults >>= kk ∧ ∀ u : Value, kk (some #[u]) = pure [(x, u)]
/-- a table, its code objects among what V lets by -/
def TabV (V : Addr → Prop) (H : Hp) (P : Addr) (q : Str) : Prop := ∃ ps : Array Value, H P = some (.tbl ps) ∧ TriplesOk ps.toList ∧ ∀ (pos : Pos) (cv : Value), codeAmong pos ps.toList = some cv → ∃ c, cv = .ref c ∧ V c ∧ H c = some (CodeO c q)
/-- all but P stays -/
def ButP (P : Addr) (H H' : Hp) : Prop := ∀ b o, b ≠ P → H b = some o → H' b = some o
theorem ButP.refl {P : Addr} {H : Hp} : ButP P H H := fun _ _ _ h => h
theorem ButP.trans {P : Addr} {H H1 H2 : Hp} (a : ButP P H H1) (b : ButP P H1 H2) : ButP P H H2 := fun c o n h => b c o n (a c o n h)
/-- what is known of its default's place -/
def LW.DvV (l : LW) (V : Addr → Prop) (H : Hp) (dV : Value) : Prop := match l.dflt with
  | none => dV = .none
  | some (_, i) => ∃ t : Addr, dV = .ref t ∧ V t ∧ H t = some (.tup [.int i])
def LW.dvo (l : LW) (dV : Value) : Option (Addr × Int) := match l.dflt, dV with
  | some (_, i), .ref t => some (t, i)
  | _, _ => none
section
variable {X : Cx} {pins : List (Addr × Obj)} {σ : Sg} {H HZ : Hp} {s s1 : Shared} {l : LW} {caps par : List Str}
theorem LW.Okc.has (L : l.Okc caps par X.env.scope) (ok : X.Ok) : ∀ y ∈ l.scope.names, y.2 = .free → ∃ c, X.env.cells.lookup y.1 = some c := fun y hy e => by
  rcases L.free y hy e with k | k
  · exact ok.has _ (.inl k)
  · exact ok.has _ (.inr k)
/-- what the maker knows behind the making -/
def LamV (X : Cx) (l : LW) (V : Addr → Prop) (H : Hp) (h : Heap) (f c' : Addr) (dV doc pm ctv : Value) : Prop := l.DvV V H dV ∧ h.get? f = some (l.obj (X.env.qual ++ "<lambda>") (cloFrom X.env.cells l.scope.names []) dV doc pm c' ctv) ∧ H f = none ∧ f ∉ frs X.stack ∧ V c' ∧ H c' = some (CodeO c' (X.env.qual ++ "<lambda>"))
theorem lam_tailV {V : Addr → Prop} {c P : Addr} {dV : Value} {pos : Pos} {E : Value → Shared → Prop} {Q : Value → Shared → Prop} (I : L2.Inv X pins σ H s) (TB : TabB X.base X.mg c P) (hcode : X.env.code = .ref c)
    (hT : TabV V H P (X.env.qual ++ "<lambda>")) (hV : ∀ c, H c = none → V c) (hfree : ∀ y ∈ l.scope.names, y.2 = .free → ∃ c, X.env.cells.lookup y.1 = some c) (hd : ∀ H1, ButP P H H1 → l.DvV V H1 dV)
    (h : ∀ (f c' : Addr) (doc pm ctv : Value) (H1 : Hp) (s' : Shared), L2.Inv X pins σ H1 s' → ButP P H H1 → TabV V H1 P (X.env.qual ++ "<lambda>") → LamV X l V H1 s'.heap f c' dV doc pm ctv → Q (.ref f) s') :
    wpAny (model X.prog X.w) X.A (makeTail "<lambda>" (X.env.qual ++ "<lambda>") l.params (.expr l.body) l.scope X.env dV .none none pos pos.line) Q E s := by
  obtain ⟨ps, hP, tr, am⟩ := hT
  have bP : s.heap.BuiltinsAt X.mg P := TB.bm.keeps I.bk
  have atP : s.heap.get? P = some (PySem.W.tabObj ps) := I.hok P _ hP
  have away : ∀ f, s.heap.objs.size ≤ f → f ∉ frs X.stack := fun f hf z => by
    rcases List.mem_cons.mp (I.stkSub _ z) with e | e
    · have low := I.lt
      rw [← e] at low
      exact absurd (Nat.lt_of_lt_of_le low hf) (Nat.lt_irrefl _)
    · exact I.nofs hf e
  cases hit : codeAmong pos ps.toList with
  | some cv =>
    obtain ⟨c', rfl, vc, known⟩ := am pos cv hit
    refine PySem.W.kdv_makeTailHit (mg := X.mg) (c := c) (P := P) (ps := ps) (closure_ok hfree) I.ok.glob (I.mod.glob.keeps I.bk) hcode (TB.code.keeps I.bk) atP tr hit bP fun ctv doc h' tk grows big => ?_
    have J : L2.Inv X pins σ H { s with heap := h'.push (l.obj (X.env.qual ++ "<lambda>") (cloFrom X.env.cells l.scope.names []) dV doc ((X.mg "__name__").getD .none) c' ctv), toks := tk } := I.kept fun b o e => Heap.get?_push_of_some _ (grows b o e)
    exact h h'.objs.size c' doc _ ctv H _ J ButP.refl ⟨ps, hP, tr, am⟩ ⟨hd H ButP.refl, Heap.get?_push_size _ rfl, I.hok.fresh big, away _ big, vc, known⟩
  | none =>
    refine PySem.W.kdv_makeTail (mg := X.mg) (c := c) (P := P) (ps := ps) (closure_ok hfree) I.ok.glob (I.mod.glob.keeps I.bk) hcode (TB.code.keeps I.bk) atP tr hit TB.gP bP fun c' ctv doc h' tk grows low less rec_ atP2 => ?_
    obtain ⟨c2, oc, vs, t, e2, hoc, hdat, hname⟩ := rec_
    cases e2
    have big : s.heap.objs.size ≤ h'.objs.size := Nat.le_trans low (Nat.le_of_lt less)
    have newC : H c' = none := I.hok.fresh low
    have J := inv_table (t' := tk) (more := #[rawInt pos.line, rawInt pos.col, .ref c']) (q := X.env.qual ++ "<lambda>") (h' := h'.push (l.obj (X.env.qual ++ "<lambda>") (cloFrom X.env.cells l.scope.names []) dV doc ((X.mg "__name__").getD .none) c' ctv)) I hP
      (fun b o hb e => Heap.get?_push_of_some _ (grows b o hb e)) (Heap.get?_push_of_some _ atP2) low ⟨oc, vs, t, Heap.get?_push_of_some _ hoc, hdat, hname⟩
    have ext : ButP P H (upd (upd H P (.tbl (ps ++ #[rawInt pos.line, rawInt pos.col, .ref c']))) c' (CodeO c' (X.env.qual ++ "<lambda>"))) := fun b o nP e => by
      rw [upd_ne (ne_of_none e newC), upd_ne nP]
      exact e
    have asL : (ps ++ #[rawInt pos.line, rawInt pos.col, .ref c']).toList = ps.toList ++ [rawInt pos.line, rawInt pos.col, .ref c'] := by simp
    have nf1 : h'.objs.size ≠ c' := Nat.ne_of_gt less
    have nf2 : h'.objs.size ≠ P := Nat.ne_of_gt (Nat.lt_of_lt_of_le (Heap.lt_size atP) big)
    refine h h'.objs.size c' _ _ _ _ _ J ext ⟨_, by rw [upd_ne (ne_of_none hP newC), upd_same], by rw [asL]; exact PySem.TriplesOk_snoc _ _ _ _ tr, fun p' cv look => ?_⟩ ⟨hd _ ext, Heap.get?_push_size _ rfl, by rw [upd_ne nf1, upd_ne nf2]; exact I.hok.fresh big, away _ big, hV _ newC, upd_same⟩
    rw [asL] at look
    rcases among_app _ tr look with z | z
    · obtain ⟨c0, e1, v1, e2⟩ := am p' cv z
      exact ⟨c0, e1, v1, ext _ _ (fun z => by rw [z, hP] at e2; cases e2) e2⟩
    · exact ⟨c', z, hV _ newC, upd_same⟩
/-- the lambda is made -/
theorem lam_mkV {V : Addr → Prop} {c P : Addr} {pos : Pos} {E : Value → Shared → Prop} {Q : Value → Shared → Prop} (I : L2.Inv X pins σ H s) (L : l.Okc caps par X.env.scope) (TB : TabB X.base X.mg c P) (hcode : X.env.code = .ref c)
    (hT : TabV V H P (X.env.qual ++ "<lambda>")) (hV : ∀ c, H c = none → V c)
    (h : ∀ (f c' : Addr) (dV doc pm ctv : Value) (H1 : Hp) (s' : Shared), L2.Inv X pins σ H1 s' → ButP P H H1 → TabV V H1 P (X.env.qual ++ "<lambda>") → LamV X l V H1 s'.heap f c' dV doc pm ctv → Q (.ref f) s') :
    wpAny (model X.prog X.w) X.A (eval (.Lambda l.params l.body l.scope pos) X.env) Q E s := by
  have hfree := L.has I.ok
  have dfl := L.dfl
  cases q : l.dflt with
  | none =>
    rw [q] at dfl
    have none_ : defaultsOf l.params X.env = ([], []) := by rw [defaultsOf_eq, L.kwd, dfl.1]; rfl
    refine PySem.W.kla_eval none_ ?_
    rw [makeFunction_eq]
    simp only [List.zip_nil_right, List.filterMap_nil, List.isEmpty_nil, if_true, pure_bind]
    exact lam_tailV I TB hcode hT hV hfree (fun _ _ => by unfold LW.DvV; rw [q]) fun f c' doc pm ctv => h f c' _ doc pm ctv
  | some xi =>
    obtain ⟨x, i⟩ := xi
    rw [q] at dfl
    obtain ⟨_, ⟨k, p, e1⟩, _, _⟩ := dfl
    refine PySem.W.kdv_lam (by rw [e1]; rfl) L.kwd ?_
    rw [e1]
    refine PySem.W.kdv_all1 (wpAny_Constant_int (PySem.W.kdv_all0 ?_))
    rw [makeFunction_eq]
    simp only [List.zip_nil_right, List.filterMap_nil, List.isEmpty_nil, List.isEmpty_cons, Bool.false_eq_true, if_false, if_true, pure_bind]
    refine wpAny_bind (wpAny_newTextTuple ?_)
    have I1 := I.tok (s.toks + 1)
    have I2 := Inv.laid (a := s.heap.objs.size) (o := .tup [.int i]) (t' := s.toks + 1) I (h' := s.heap.push { cls := .type "tuple", data := .seq [Value.int i s.toks].toArray }) (fun b u e => Heap.get?_push_of_some _ e) (Nat.le_refl _)
      ⟨(show 1 ≤ sizeLine by decide), [Value.int i s.toks], .cons ⟨_, rfl⟩ .nil, _, Heap.get?_push_size _ rfl, rfl, 0, rfl⟩
    have new : H s.heap.objs.size = none := I.hok.fresh (Nat.le_refl _)
    have ext : ButP P H (upd H s.heap.objs.size (.tup [.int i])) := fun b o _ e => by rw [upd_ne (ne_of_none e new)]; exact e
    have hT2 : TabV V (upd H s.heap.objs.size (.tup [.int i])) P (X.env.qual ++ "<lambda>") := by
      obtain ⟨ps, hP, tr, am⟩ := hT
      refine ⟨ps, by rw [upd_ne (ne_of_none hP new)]; exact hP, tr, fun pos cv z => ?_⟩
      obtain ⟨c0, e1, v1, e2⟩ := am pos cv z
      exact ⟨c0, e1, v1, by rw [upd_ne (ne_of_none e2 new)]; exact e2⟩
    have nP : s.heap.objs.size ≠ P := fun z => by
      obtain ⟨ps, hP, _⟩ := hT
      rw [← z, new] at hP; cases hP
    refine lam_tailV I2 TB hcode hT2 (fun c e => hV c ?_) hfree (fun H1 b1 => by unfold LW.DvV; rw [q]; exact ⟨_, rfl, hV _ new, b1 _ _ nP upd_same⟩) fun f c' doc pm ctv H1 s' J e2 T2 at_ => h f c' _ doc pm ctv H1 s' J (ext.trans e2) T2 at_
    by_cases z : c = s.heap.objs.size
    · rw [z]; exact new
    · rw [upd_ne z] at e; exact e
/-- the context of its body: the slots are what it reads of its maker, then its parameters -/
def lamCxN (X : Cx) (N' : List Str) (A : Around) (outer : List Env) (s : Shared) (H : Hp) (E : XK) (scope : Scope) (f c' : Addr) : Cx := { lamCx X A outer s H E scope f c' with N := N' }
/-- what it reads of its maker -/
structure CapV (N : List Str) (σ : Sg) (caps : List Str) (vs : List V) : Prop where
  len : vs.length = caps.length
  at' : ∀ (i : Nat) (y : Str), caps[i]? = some y → ∃ (j : Nat) (v : V), N[j]? = some y ∧ σ[j]? = some (some v) ∧ vs[i]? = some v
theorem zip_look {par : List Str} {us : List Value} {ex : List (Str × Value)} (h1 : par.length ≤ 1) (hl : us.length = par.length) (hx : par ≠ [] → ex = []) {i : Nat} {y : Str} (e : par[i]? = some y) : ∃ u, us[i]? = some u ∧ (par.zip us ++ ex).reverse.lookup y = some u := by
  match par, us, h1, hl, e with
  | [p], [u], _, _, e =>
    have ex0 := hx (by simp)
    subst ex0
    cases i with
    | zero =>
      cases e
      exact ⟨u, rfl, by simp [List.zip, List.zipWith, List.lookup]⟩
    | succ i => simp at e
  | [], _, _, _, e => simp at e
/-- at its entry -/
theorem lam_inV {vs ws : List V} {us : List Value} {ex : List (Str × Value)} {A : Around} {outer : List Env} {E : XK} {f c' : Addr} {h₁ : Heap} {tk : Nat} (I : L2.Inv X pins σ H s) (L : l.Okc caps par X.env.scope) (cp : CapV X.N σ caps vs) (e0 : Env0 X.prog X.w X.K X.mg X.base A outer s1 HZ) (hd : A.handled = none)
    (un : Un (frs X.stack) [] H HZ s.heap s1.heap) (hns : h₁.Ns s1.heap.objs.size fun y => (par.zip us ++ ex).reverse.lookup y) (hx : par ≠ [] → ex = []) (rv : Vals ws us) (hl : us.length = par.length) (kp : ∀ b o, s1.heap.get? b = some o → h₁.get? b = some o) :
    L2.Inv (lamCxN X (caps ++ par) A outer s1 HZ E l.scope f c') [] ((vs ++ ws).map some) HZ { s1 with heap := h₁, toks := tk } := by
  have hfree := L.has I.ok
  have same : ∀ {y c}, (cloFrom X.env.cells l.scope.names []).lookup y = some c → X.env.cells.lookup y = some c := fun {y c} e => by
    rcases cloFrom_mem (PySem.mem_of_lookup e) with hm | ⟨h1, h2⟩
    · cases hm
    · obtain ⟨c1, hc⟩ := hfree _ h1 rfl
      have hc : X.env.cells.lookup y = some c1 := hc
      have : c = c1 := by rw [h2, hc] <;> rfl
      rw [this]; exact hc
  have found : ∀ {y}, l.scope.names.lookup y = some .free → ∃ c, (cloFrom X.env.cells l.scope.names []).lookup y = some c := fun {y} hl =>
    mem_lookup (cloFrom_has (cells := X.env.cells) (acc := []) (show (y, NameKind.free) ∈ l.scope.names from PySem.mem_of_lookup hl))
  have cellK : ∀ {c : Addr} {v : Option Value}, H c = none → s.heap.IsCell c v → h₁.IsCell c v := fun {c v} n ⟨o, ho, hd⟩ => by
    obtain ⟨sl, q⟩ := un.any ho n (by simp)
    exact ⟨_, kp _ _ q, hd⟩
  have noA : ∀ b : Addr, b ∉ (lamCxN X (caps ++ par) A outer s1 HZ E l.scope f c').ex := fun b z => absurd (show b ∈ ([] : List Addr) from z) (by simp)
  have wl := rv.length
  have seen : ∀ (i : Nat) (y : Str) (v : V), (caps ++ par)[i]? = some y → ((vs ++ ws).map some)[i]? = some (some v) → Vis l.scope y → ∃ u, L2.RelV v u ∧ Look (lamEnv X l.scope s1.heap.objs.size f c') h₁ (fun y => (par.zip us ++ ex).reverse.lookup y) y u := fun i y v e1 e2 vis => by
    rw [List.getElem?_map] at e2
    have e2 : (vs ++ ws)[i]? = some v := by
      cases q : (vs ++ ws)[i]? with
      | none => rw [q] at e2; cases e2
      | some z => rw [q] at e2; cases e2; rfl
    by_cases hi : i < caps.length
    · rw [List.getElem?_append_left hi] at e1
      rw [List.getElem?_append_left (by rw [cp.len]; exact hi)] at e2
      have kf : l.scope.names.lookup y = some .free := by
        rcases vis with k | k | k
        · exact absurd (List.mem_of_getElem? e1) (L.loc y k)
        · exact absurd rfl (L.cell _ (PySem.mem_of_lookup k))
        · exact k
      obtain ⟨j, v', n1, n2, n3⟩ := cp.at' i y e1
      rw [e2] at n3
      cases n3
      obtain ⟨m, hn, hlk⟩ := I.loc
      have hvis : Vis X.env.scope y := (L.free _ (PySem.mem_of_lookup kf) rfl).elim (fun k => .inr (.inl k)) (fun k => .inr (.inr k))
      obtain ⟨w', r, q⟩ := hlk j y v n1 n2 hvis
      obtain ⟨c2, h2⟩ := found kf
      refine ⟨w', r, .inr ⟨.inr kf, c2, h2, ?_⟩⟩
      have c1 := same h2
      rcases q with ⟨k', _⟩ | ⟨_, c3, e', z⟩
      · have k' : X.env.scope.names.lookup y = some .local := k'
        rcases L.free _ (PySem.mem_of_lookup kf) rfl with k2 | k2 <;> rw [show X.env.scope.names.lookup y = _ from k2] at k' <;> cases k'
      · rw [c1] at e'
        cases e'
        exact cellK (I.freeC y _ c1) z
    · rw [List.getElem?_append_right (by omega)] at e1
      rw [List.getElem?_append_right (by rw [cp.len]; omega), cp.len] at e2
      have ky := L.parL y (List.mem_of_getElem? e1)
      obtain ⟨u, u1, u2⟩ := zip_look L.par1 hl hx e1
      obtain ⟨u', u3, r⟩ := rv.get e2
      rw [u1] at u3
      cases u3
      exact ⟨u, r, .inl ⟨ky, u2⟩⟩
  have ok : (lamCxN X (caps ++ par) A outer s1 HZ E l.scope f c').Ok := by
    refine ⟨e0.mod, L.kind, rfl, rfl, Nat.le_refl _, fun y z c e1 e2 => I.ok.inj y z c (same e1) (same e2), fun y hy => ?_, fun y c z _ => ?_, fun _ => hd, Around.frames_deeper e0.frames, .inr ⟨rfl, rfl⟩, fun b z => absurd z (noA b), e0.bs, e0.bsz, fun b _ _ => noA b,
      fun b z => absurd z (noA b), e0.funs, e0.frf⟩
    · rcases (show l.scope.names.lookup y = some .cell ∨ l.scope.names.lookup y = some .free from hy) with hy | hy
      · exact absurd rfl (L.cell _ (PySem.mem_of_lookup hy))
      · exact found hy
    · have z : false = true := z
      cases z
  refine ⟨ok, rfl, e0.bare, Un.kept kp, ⟨_, hns, seen⟩, fun y c e => ?_, e0.hok.fresh (Nat.le_refl _), fun y c e => ?_, fun q hq => absurd (show q ∈ ([] : List (Addr × Obj)) ++ [] from hq) (by simp), e0.hok.kept kp, by show ((vs ++ ws).map some).length = (caps ++ par).length; rw [List.length_map, List.length_append, List.length_append, cp.len]; omega⟩
  · obtain ⟨w', z⟩ := I.cell y c (same e)
    exact ⟨w', cellK (I.freeC y c (same e)) z⟩
  · obtain ⟨v, o, ho, hd⟩ := I.cell y c (same e)
    exact un.free c o ho (I.freeC y c (same e)) (by simp)
/-- what the called def must keep of it -/
def KnV (q : Str) (l : LW) (c' : Addr) (dV : Value) (HZ : Hp) : Prop := HZ c' = some (CodeO c' q) ∧ l.Dv HZ dV
/-- from the reading of its body: what a call tells -/
def tellV (q : Str) (l : LW) (np : Nat) (c' : Addr) (dV : Value) (vs : List V) (tb : XK → TE) : XK → List V → Hp → VK → Prop := fun E ws H Q => ws.length = np ∧ KnV q l c' dV H ∧ tb E ((vs ++ ws).map some) H Q
section
variable {CXg : CXT} {Eg : XK} {Ng : List Str} {qg : Str} {sg : Scope} {g f c' : Addr} {cdg dV doc pm ctv : Value} {k i : Nat} {a : Str} {pn : List (Addr × Obj)} {xe : Value → Shared → Prop} {W : WX} {tb : XK → TE} {p1 p2 : Pos} {vs : List V}
theorem act_core {pinsZ : List (Addr × Obj)} {σZ : Sg} {H1 : Hp} {us : List Value} {ws : List V} {Q : VK} (I : L2.Inv X pins σ H s) (L : l.Okc caps par X.env.scope) (cp : CapV X.N σ caps vs) (hf : s.heap.get? f = some (l.obj (X.env.qual ++ "<lambda>") (cloFrom X.env.cells l.scope.names []) dV doc pm c' ctv)) (hfn : H f = none) (hfr : f ∉ frs X.stack)
    (tk : Takes ((cxOf CXg X.prog X.w X.K X.mg X.base Ng qg sg g cdg X.A X.stack s H Eg).tr pn xe) W) (hr : Room (k + 1) (X.A.deeper (envOfC qg sg s.heap.objs.size g cdg)))
    (gd : X.A.guards = some []) (hbody : ∀ (A : Around) (outer : List Env) (s : Shared) (H : Hp) (E : XK) (f c' : Addr), A.guards = some [] → Room k (A.deeper (lamEnv X l.scope s.heap.objs.size f c')) → PE (lamCxN X (caps ++ par) A outer s H E l.scope f c') l.body (tb E))
    (I1 : L2.Inv ((cxOf CXg X.prog X.w X.K X.mg X.base Ng qg sg g cdg X.A X.stack s H Eg).tr pn xe) pinsZ σZ H1 s1) (rv : Vals ws us) (ht : tellV (X.env.qual ++ "<lambda>") l par.length c' dV vs tb (WE W σZ) ws H1 Q) :
    wpAny (model X.prog X.w) (X.A.deeper (envOfC qg sg s.heap.objs.size g cdg)) (call (.ref f) us) (EP ((cxOf CXg X.prog X.w X.K X.mg X.base Ng qg sg g cdg X.A X.stack s H Eg).tr pn xe) pinsZ σZ Q) xe s1 := by
  obtain ⟨wl, ⟨hc, dv⟩, ht⟩ := ht
  have hl : us.length = par.length := by rw [← rv.length]; exact wl
  have there : s1.heap.get? f = some (l.obj (X.env.qual ++ "<lambda>") (cloFrom X.env.cells l.scope.names []) dV doc pm c' ctv) := I1.base.keep f _ hf hfn hfr (fun z => nomatch (show f ∈ ([] : List Addr) from z))
  have un : Un (frs X.stack) [] H H1 s.heap s1.heap := I1.base
  obtain ⟨⟨oc, vs', t, hoc, hdc, hvc⟩, _, _⟩ := I1.hok c' _ hc
  have bind : ∃ ex : List (Str × Value), (par ≠ [] → ex = []) ∧ (∀ y ∈ par.zip us ++ ex, l.scope.names.lookup y.1 = some .local) ∧ BindsTo s1 (PySem.W.kdv_fn "<lambda>" (X.env.qual ++ "<lambda>") l.params (.expr l.body) l.scope (cloFrom X.env.cells l.scope.names []) dV doc pm (.ref c') ctv) ⟨us, []⟩ (par.zip us ++ ex) := by
    have dfl := L.dfl
    unfold LW.Dv at dv
    cases q : l.dflt with
    | none =>
      rw [q] at dfl dv
      refine ⟨[], fun _ => rfl, fun y hy => ?_, ?_⟩
      · rw [List.append_nil] at hy
        exact L.parL _ (List.of_mem_zip hy).1
      · rw [List.append_nil]
        exact .of_eq (dfl.2 us _ hl rfl dv)
    | some xi =>
      obtain ⟨x, j⟩ := xi
      rw [q] at dfl dv
      obtain ⟨t, rfl, et⟩ := dv
      obtain ⟨p0, _, isL, hb⟩ := dfl
      subst p0
      obtain rfl : us = [] := List.length_eq_zero_iff.mp hl
      obtain ⟨_, its, rv', ob, eo, cl, n, en⟩ := I1.hok t _ et
      obtain ⟨u, rfl, _⟩ : ∃ u, its = [u] ∧ L2.RelV (.int j) u := by
        cases rv' with
        | cons r1 r2 => cases r2; exact ⟨_, rfl, r1⟩
      obtain ⟨kk, b1, b2⟩ := hb (PySem.W.kdv_fn "<lambda>" (X.env.qual ++ "<lambda>") l.params (.expr l.body) l.scope (cloFrom X.env.cells l.scope.names []) (.ref t) doc pm (.ref c') ctv) rfl
      exact ⟨[(x, u)], fun z => absurd rfl z, fun y hy => by
        have hy : y ∈ [(x, u)] := by simpa using hy
        rw [List.mem_singleton.mp hy]; exact isL, BindsTo.of_defaults rfl eo en b1 (b2 u)⟩
  obtain ⟨ex, hx, isLoc, bd⟩ := bind
  have rc : codeAny (model X.prog X.w) (X.A.deeper (envOfC qg sg s.heap.objs.size g cdg)) (.call (.ref f) ⟨us, []⟩) (CR (L2.CX X.prog X.w) (envOfC qg sg s.heap.objs.size g cdg :: X.stack) X.prog X.w H1 s1 Q (WE W σZ)) s1 := by
    refine PySem.W.kla_callFunE hr.depth there rfl L.co L.gen rfl ⟨c', oc, vs', t, rfl, hoc, hdc, hvc⟩ (bd _ _ _ _ ?_)
    refine wpAny_newFunctionEnv L.cell isLoc (fun h₁ hns hsb => ⟨I1.nolimit.fresh _ hsb, ?_⟩) L.kind
    show codeAny _ _ (.expr l.body (lamEnv X l.scope s1.heap.objs.size f c')) _ _
    have kp : ∀ b o, s1.heap.get? b = some o → h₁.get? b = some o := fun b o e => hsb.extBut b o (Nat.ne_of_lt (Heap.lt_size e)) (Heap.get?_push_of_some _ e)
    have J : L2.Inv (lamCxN X (caps ++ par) (X.A.deeper (envOfC qg sg s.heap.objs.size g cdg)) (envOfC qg sg s.heap.objs.size g cdg :: X.stack) s1 H1 (WE W σZ) l.scope f c') [] ((vs ++ ws).map some) H1 { s1 with heap := h₁, toks := s1.toks + (par.zip us ++ ex).length } :=
      lam_inV I L cp I1.env0 hr.hd un hns hx rv hl kp
    refine PySem.W.kla_codeExpr (wpAny_mono ((hbody _ _ s1 H1 (WE W σZ) f c' (guards_deeper gd _) (hr.deeper _)).run [] _ _ H1 Q J ht) (fun v s' hq => ?_) fun e s' hq => hq)
    obtain ⟨w', H', J', rv, q⟩ := hq
    exact ⟨w', H', J'.os, J'.bare, J'.base, J'.hok, rv, q⟩
  have hx := passAt tk σZ
  refine wpAny_call (codeAny_mono rc fun r s' hq => ?_)
  match r, hq with
  | .error e, hq => exact hx pinsZ H1 s1 e s' I1 hq
  | .ok (.ret u), hq => exact I1.after hq
  | .ok .next, hq => exact False.elim hq
  | .ok .brk, hq => exact False.elim hq
  | .ok .cont, hq => exact False.elim hq
end
end
end TSx

/-! Own layer, part Q20: readings of a lambda: where it is called, where it is made and handed over. -/
namespace TSx
open PySem L2 PySem.Spec PyProof.Rows LamX
/-- a(..) in the def that got the lambda -/
def tActW (i : Nat) (f : Addr) (tl : List V → Hp → VK → Prop) (ta : TA) : TE := fun σ H Q => σ[i]? = some (some (.ref f)) ∧ ta σ H fun ws H1 => tl ws H1 Q
def eActW (i : Nat) (fd : D) (SF : SPN) (av : AW) : EW := fun Z δ r P => δ[i]? = some (some (.d fd)) ∧ av Z δ r fun ss r1 => SF ss r1 P Z
/-- what is called as SF tells -/
def TellS (w : World) (K : PySem.W.Frag) (f : Addr) (fd : D) (SF : SPN) (tl : XK → List V → Hp → VK → Prop) : Prop :=
  ∀ (EX : XK) (U : Vw) (r : Rs) (ws : List V) (ss : List Sl) (H : Hp) (Q : VK) (P : D → Rs → Prop) (Z : ZC), OkW w K U H r → SlsOk K (U.ext r) H ss ws → Dt K (U.se r H) (.ref f) fd → SF ss r P Z →
    (∀ d r' v H', P d r' → StW U r H r' H' → OkW w K U H' r' → Dt K (U.se r' H') v d → Q v H') → XR w K EX U H r Z → tl EX ws H Q
structure IsF (K : PySem.W.Frag) (f : Addr) (fd : D) : Prop where
  ref : ∀ S v, Dt K S v fd → v = .ref f
theorem sw_act {w : World} {K : PySem.W.Frag} {EX : XK} {i : Nat} {f : Addr} {fd : D} {SF : SPN} {tl : XK → List V → Hp → VK → Prop} {ta : TA} {av : AW} (hF : IsF K f fd) (hs : TellS w K f fd SF tl) (ha : SndAW w K EX ta av) :
    SndEW w K EX (tActW i f (tl EX) ta) (eActW i fd SF av) := fun U σ δ H r Z P Q ok rel x h k => by
  obtain ⟨e, h⟩ := h
  obtain ⟨v, e1, a⟩ := rel.rel.at' i _ e
  have a' : Dt K (U.se r H) v fd := a
  have := hF.ref _ _ a'
  subst this
  refine ⟨e1, ha U σ δ H r Z _ _ ok rel x h fun ss r1 ws H1 p s1 ok1 a1 => ?_⟩
  exact hs EX U r1 ws ss H1 Q P Z ok1 a1 (a'.gr (s1.see ok)) p (fun d r' v H' p s o a => k d r' v H' p (s1.tr s) o a) (x.step s1)
/-- how its call is told in the def at g (frame entered at s) -/
structure ActR (P : Program) (w : World) (K : PySem.W.Frag) (mg : Str → Option Value) (base : Heap) (N : List Str) (a x : Str) (sg : Scope) (g : Addr) (cdg : Value) (A : Around) (stack : List Env) (s : Shared) (H : Hp) (i : Nat) (f : Addr) (tl : XK → List V → Hp → VK → Prop) : Prop where
  zero : ∀ (W : WX) (pn : List (Addr × Obj)) (xe : Value → Shared → Prop) (p1 p2 : Pos), Takes ((cxOf CX0 P w K mg base N x sg g cdg A stack s H E0).tr pn xe) W →
    PE ((cxOf CX0 P w K mg base N x sg g cdg A stack s H E0).tr pn xe) (.Call (.Name a p1) [] [] p2) (fun σZ HZ Q => tActW i f (tl (WE W σZ)) tNil σZ HZ Q)
  one : ∀ (W : WX) (pn : List (Addr × Obj)) (xe : Value → Shared → Prop) (p1 p2 : Pos) (e : Expr) (te : TE), Takes ((cxOf CX0 P w K mg base N x sg g cdg A stack s H E0).tr pn xe) W → PE ((cxOf CX0 P w K mg base N x sg g cdg A stack s H E0).tr pn xe) e te →
    (starEach [e] (envOfC x sg s.heap.objs.size g cdg) = (false, eval e (envOfC x sg s.heap.objs.size g cdg)) :: starEach [] (envOfC x sg s.heap.objs.size g cdg)) →
      PE ((cxOf CX0 P w K mg base N x sg g cdg A stack s H E0).tr pn xe) (.Call (.Name a p1) [e] [] p2) (fun σZ HZ Q => tActW i f (tl (WE W σZ)) (tCons te tNil) σZ HZ Q)
/-- the def at g keeps this promise, whatever thing it gets in its slot i -/
def GivesW (P : Program) (w : World) (K : PySem.W.Frag) (mg : Str → Option Value) (base : Heap) (k : Nat) (N ps : List Str) (i : Nat) (a x : Str) (sg : Scope) (bg : List Stmt) (g : Addr) (cdg : Value) (SB : D → SPN → SPN) : Prop :=
  ∀ (A : Around) (stack : List Env) (f : Addr) (s : Shared) (H : Hp) (us : List V) (Q : VK) (fd : D) (SF : SPN) (tl : XK → List V → Hp → VK → Prop), us.length = ps.length → A.guards = some [] → Room k (A.deeper (envOfC x sg s.heap.objs.size g cdg)) → IsF K f fd → TellS w K f fd SF tl →
    ActR P w K mg base N a x sg g cdg A stack s H i f tl → spS w K (SB fd SF) us H Q E0 →
    ∃ t, PSs (cxOf CX0 P w K mg base N x sg g cdg A stack s H E0).nox bg t ∧ t { nx := fun _ H' => Q .non H', rt := Q } (L2.start N us) H
/-- captured slots -/
def capD (δ : SD) : List Nat → Option (List D)
  | [] => some []
  | i :: is => match δ[i]? with
    | some (some (.d x)) => (capD δ is).map (x :: ·)
    | _ => none
def eLamR (P : Addr) (q : Str) (cs : List Nat) (np : Nat) (SG : D → SPN → SPN) (eb : EW) (ss : List Sl) : EW := fun Z δ r1 Pp => r1.μ P = some (.tb q) ∧ ∃ ds, capD δ cs = some ds ∧
  ∀ fd : D, SG fd (fun ss' r' P' Z' => ss'.length = np ∧ eb Z' ((ds.map Sl.d ++ ss').map some) r' P') (ss ++ [.d fd]) r1 Pp noX
def eLam0W (P : Addr) (q : Str) (cs : List Nat) (np : Nat) (SG : D → SPN → SPN) (eb : EW) : EW := eLamR P q cs np SG eb []
/-- the lambda made, then x called -/
def tLamR (w : World) (K : PySem.W.Frag) (P : Addr) (q : Str) (l : LW) (N caps : List Str) (np : Nat) (SG : D → SPN → SPN) (tb : XK → TE) (ws0 : List V) : TE := fun σ H1 Q => ∃ V : Addr → Prop, TabV V H1 P q ∧ (∀ c, H1 c = none → V c) ∧ ∃ vs, CapV N σ caps vs ∧
  ∀ (f c' : Addr) (dV : Value) (H2 : Hp), ButP P H1 H2 → TabV V H2 P q → V c' → H2 c' = some (CodeO c' q) → l.DvV V H2 dV → H2 f = none →
    ∃ (fd : D) (SF : SPN), IsF K f fd ∧ TellS w K f fd SF (tellV q l np c' dV vs tb) ∧ spS w K (SG fd SF) (ws0 ++ [.ref f]) H2 Q E0
section
variable {X : Cx} {l : LW} {caps par : List Str}
theorem LW.DvV.dv {V : Addr → Prop} {H : Hp} {dV : Value} (h : l.DvV V H dV) : l.Dv H dV := by
  unfold LW.DvV at h
  unfold LW.Dv
  cases q : l.dflt with
  | none => rw [q] at h; exact h
  | some p =>
    rw [q] at h
    obtain ⟨t, e, _, h⟩ := h
    exact ⟨t, e, h⟩
/-- what is asked of the def that gets it, and of the lambda's words -/
structure LamG (X : Cx) (l : LW) (caps par : List Str) (SG : D → SPN → SPN) (tb : XK → TE) (x a : Str) (g c P : Addr) (k i : Nat) (st : Stmt) (fd : FuncData) (Ng ps : List Str) : Prop where
  F : L2.Fun X.K x x st g fd
  gl : Gl X x
  m : X.mg x = some (.ref g)
  b : L2.Binds X.K fd ps []
  S : FnScope Ng ps (defScope st)
  ix : Ng[i]? = some a
  vis : Vis (defScope st) a
  G : ∀ cdv : Value, GivesW X.prog X.w X.K X.mg X.base (k + 1) Ng ps i a x (defScope st) (defBody st) g cdv SG
  gd : X.A.guards = some []
  TB : TabB X.base X.mg c P
  code : X.env.code = .ref c
  room : Room (k + 2) X.A
  L : l.Okc caps par X.env.scope
  len : ∀ fd SF ws H Q E, spS X.w X.K (SG fd SF) ws H Q E → ws.length = ps.length
  body : ∀ (A : Around) (outer : List Env) (s : Shared) (H : Hp) (E : XK) (f c' : Addr), A.guards = some [] → Room k (A.deeper (lamEnv X l.scope s.heap.objs.size f c')) → PE (lamCxN X (caps ++ par) A outer s H E l.scope f c') l.body (tb E)
  db : (x == ("__debug__" : Str)) = false
  da : (a == ("__debug__" : Str)) = false
  dc : (a == ("__classdict__" : Str)) = false
theorem lam_core {SG : D → SPN → SPN} {x a : Str} {g c P : Addr} {k i : Nat} {st : Stmt} {fd : FuncData} {Ng ps : List Str} {tb : XK → TE} {lpos : Pos} {pins : List (Addr × Obj)} {s1 : Shared} {σ : Sg} {H1 : Hp} {Q : VK} {ws0 : List V} {us0 : List Value} (G : LamG X l caps par SG tb x a g c P k i st fd Ng ps)
    (I : L2.Inv X pins σ H1 s1) (rv : Vals ws0 us0) (h : tLamR X.w X.K P (X.env.qual ++ "<lambda>") l X.N caps par.length SG tb ws0 σ H1 Q) :
    wpAny (model X.prog X.w) X.A (eval (.Lambda l.params l.body l.scope lpos) X.env) (fun v s2 => X.K.In s2.heap ∧ wpAny (model X.prog X.w) X.A (call (.ref g) (us0 ++ [v])) (EP X pins σ Q) X.xe s2) X.xe s1 := by
  obtain ⟨oc, od, kV, doc, pm, an, cdv, ct, osl, rfl, lk, hcg⟩ := G.F.ex
  obtain ⟨V, hT, hV, vs, cp, h⟩ := h
  refine lam_mkV I G.L G.TB G.code hT hV fun f c' dV doc2 pm2 ctv H2 s2 J bp T2 at_ => ⟨J.kIn, ?_⟩
  obtain ⟨dv, hf, hfn, hfr, vc, hco⟩ := at_
  obtain ⟨fd, SF, isF, tell, hsp⟩ := h f c' dV H2 bp T2 vc hco dv hfn
  have rv2 : Vals (ws0 ++ [L2.V.ref f]) (us0 ++ [Value.ref f]) := rv.append (.cons rfl .nil)
  have hlen := G.len _ _ _ _ _ _ hsp
  have rc : codeAny (model X.prog X.w) X.A (.call (.ref g) ⟨us0 ++ [.ref f], []⟩) (CR CX0 X.stack X.prog X.w H2 s2 Q E0) s2 := by
    refine run_ofS (N := Ng) (ps := ps) lk hcg G.S G.room J.env0 (G.b s2 (us0 ++ [.ref f]) J.kIn (by rw [List.append_nil, ← rv2.length]; exact hlen)) (by rw [List.append_nil]; exact rv2) hlen fun hr' => ?_
    have there : ∀ {pn : List (Addr × Obj)} {xe : Value → Shared → Prop} {pinsZ : List (Addr × Obj)} {σZ : Sg} {s4 : Shared} {H4 : Hp}, L2.Inv ((cxOf CX0 X.prog X.w X.K X.mg X.base Ng x (defScope st) g cdv X.A X.stack s2 H2 E0).tr pn xe) pinsZ σZ H4 s4 → s4.heap.get? f = some (l.obj (X.env.qual ++ "<lambda>") (cloFrom X.env.cells l.scope.names []) dV doc2 pm2 c' ctv) := fun I4 => I4.base.keep f _ hf hfn hfr (fun z => nomatch (show f ∈ ([] : List Addr) from z))
    have act : ActR X.prog X.w X.K X.mg X.base Ng a x (defScope st) g cdv X.A X.stack s2 H2 i f (tellV (X.env.qual ++ "<lambda>") l par.length c' dV vs tb) := by
      refine ⟨fun W pn xe p1 p2 tk => ?_, fun W pn xe p1 p2 e te tk he hst => ?_⟩
      · constructor
        intro pinsZ sZ σZ HZ Q' IZ h'
        obtain ⟨at0, h'⟩ := h'
        refine wpAny_Call_Name_kw (thn ((pe_var (pos := p1) (i := i) G.ix G.vis G.da G.dc).run pinsZ sZ σZ HZ (fun v H1 => v = .ref f ∧ H1 = HZ) IZ ⟨.ref f, at0, rfl, rfl⟩) fun u s3 z => ?_)
        obtain ⟨v, H3, I3, r3, rfl, rfl⟩ := z
        obtain rfl : u = Value.ref f := r3
        exact PySem.W.callWith_F0 ⟨_, _, _, _, there I3⟩ (act_core J G.L cp hf hfn hfr tk hr' G.gd G.body I3 .nil h')
      · constructor
        intro pinsZ sZ σZ HZ Q' IZ h'
        obtain ⟨at0, h'⟩ := h'
        refine wpAny_Call_Name_kw (thn ((pe_var (pos := p1) (i := i) G.ix G.vis G.da G.dc).run pinsZ sZ σZ HZ (fun v H1 => v = .ref f ∧ H1 = HZ) IZ ⟨.ref f, at0, rfl, rfl⟩) fun u s3 z => ?_)
        obtain ⟨v, H3, I3, r3, rfl, rfl⟩ := z
        obtain rfl : u = Value.ref f := r3
        refine PySem.W.callWith_F ⟨_, _, _, _, there I3⟩ (thn ((pa_cons he pa_nil hst).run p2 pinsZ s3 σZ _ _ I3 h') fun us s4 z => ?_) hst rfl
        obtain ⟨ws, H4, I4, rv4, h4⟩ := z
        exact ⟨⟨_, _, _, _, there I4⟩, act_core J G.L cp hf hfn hfr tk hr' G.gd G.body I4 rv4 h4⟩
    obtain ⟨t', ht', hq'⟩ := G.G cdv X.A X.stack f s2 H2 (ws0 ++ [.ref f]) Q fd SF _ hlen G.gd hr' isF tell act hsp
    exact ⟨t', ht'.nox, hq'⟩
  refine wpAny_call (codeAny_mono rc fun r s3 hq => ?_)
  match r, hq with
  | .error e, hq => exact (show False from hq).elim
  | .ok (.ret u), hq => exact J.after hq
  | .ok .next, hq => exact False.elim hq
  | .ok .brk, hq => exact False.elim hq
  | .ok .cont, hq => exact False.elim hq
theorem pe_lam0 {SG : D → SPN → SPN} {x a : Str} {g c P : Addr} {k i : Nat} {st : Stmt} {fd : FuncData} {Ng ps : List Str} {tb : XK → TE} {p lpos pos : Pos} (G : LamG X l caps par SG tb x a g c P k i st fd Ng ps) :
    PE X (.Call (.Name x p) [.Lambda l.params l.body l.scope lpos] [] pos) (tLamR X.w X.K P (X.env.qual ++ "<lambda>") l X.N caps par.length SG tb []) := by
  constructor
  intro pins s σ H Q I h
  refine wpAny_Call_Name_kw (ld_glob I G.gl G.m ?_ G.db)
  refine PySem.W.callWith_K (h₀ := X.base) I.ok.mod.kin G.F.kp ?_ (by rfl) (by rfl)
  show wpAny _ _ (spliced ((false, eval (.Lambda l.params l.body l.scope lpos) X.env) :: backTo pos (starEach [] X.env))) _ _ s
  refine Calls.spliced_cons (thn (lam_core G I .nil h) fun v s2 q => ?_)
  exact Calls.spliced_nil q
end
end TSx

/-! Own layer, part Q21: a lambda handed over: its reading holds. -/
namespace TSx
open PySem L2 LamX
section
variable {EX : XK} {w : World} {K : PySem.W.Frag} {U : Vw} {H H1 H2 : Hp} {r r1 : Rs} {σ : Sg} {δ : SD}
theorem SlsOk.app : ∀ {ss tt : List Sl} {vs ws : List V}, SlsOk K U H ss vs → SlsOk K U H tt ws → SlsOk K U H (ss ++ tt) (vs ++ ws)
  | [], _, [], _, _, b => b
  | _ :: _, _, _ :: _, _, a, b => ⟨a.1, SlsOk.app a.2 b⟩
  | [], _, _ :: _, _, a, _ => a.elim
  | _ :: _, _, [], _, a, _ => a.elim
theorem sls_data : ∀ {ds : List D} {vs : List V}, DtA K (U.see H) vs ds → SlsOk K U H (ds.map Sl.d) vs
  | _, _, .nil => trivial
  | _, _, .cons a b => ⟨⟨a, rfl⟩, sls_data b⟩
theorem sls_rel {ss : List Sl} {vs : List V} (a : SlsOk K (U.ext r) H ss vs) : RelW K U r H (vs.map some) (ss.map some) := by
  have at' : ∀ {ss : List Sl} {vs : List V}, SlsOk K (U.ext r) H ss vs → ∀ (i : Nat) (s : Sl), ss[i]? = some s → s.no = true ∧ ∃ v, vs[i]? = some v ∧ SlOk K (U.ext r) H s v := by
    intro ss
    induction ss with
    | nil => intro vs _ i s e; simp at e
    | cons s ss ih =>
      intro vs h i t e
      match vs, h with
      | v :: vs, h =>
        cases i with
        | zero => cases e; exact ⟨h.1.2, v, rfl, h.1.1⟩
        | succ i => exact ih h.2 i t e
      | [], h => exact h.elim
  have un : ∀ (i : Nat) (s : Sl), (ss.map some)[i]? = some (some s) → ss[i]? = some s := fun i s e => by
    rw [List.getElem?_map] at e
    cases q : ss[i]? with
    | none => rw [q] at e; cases e
    | some z => rw [q] at e; cases e; rfl
  refine ⟨⟨by rw [List.length_map, List.length_map, a.len], fun i s e => ?_⟩, fun i xs p e _ => ?_⟩
  · obtain ⟨_, v, e1, e2⟩ := at' a i s (un i s e)
    exact ⟨v, by rw [List.getElem?_map, e1]; rfl, e2⟩
  · obtain ⟨q, _⟩ := at' a i _ (un i _ e)
    cases q
theorem capD_ok (rel : RelE K (U.ext r) H σ δ) : ∀ (cs : List Nat) (ds : List D), capD δ cs = some ds → ∃ vs, vs.length = cs.length ∧ (∀ (i j : Nat), cs[i]? = some j → ∃ v, σ[j]? = some (some v) ∧ vs[i]? = some v) ∧ DtA K (U.se r H) vs ds
  | [], ds, h => by cases h; exact ⟨[], rfl, fun i j e => by simp at e, .nil⟩
  | i :: cs, ds, h => by
    unfold capD at h
    split at h
    · rename_i x hx
      cases q : capD δ cs with
      | none => rw [q] at h; cases h
      | some ds' =>
        rw [q] at h
        cases h
        obtain ⟨vs, l, hv, a⟩ := capD_ok rel cs ds' q
        obtain ⟨v, e1, av⟩ := rel.at' i _ hx
        refine ⟨v :: vs, by simp [l], fun k j e => ?_, .cons av a⟩
        cases k with
        | zero => cases e; exact ⟨v, e1, rfl⟩
        | succ k => exact hv k j e
    · cases h
theorem tab_step {P : Addr} {q : Str} (ok : OkW w K U H1 r) (m : r.μ P = some (.tb q)) (bp : ButP P H1 H2) (T2 : TabV (fun c => U.Z c = false ∧ r.μ c = none) H2 P q) : OkW w K U H2 r ∧ StW U r H1 r H2 := by
  obtain ⟨ps, hP, tr, am⟩ := T2
  obtain ⟨ps1, hP1, _, _⟩ := (ok.st P _ m)
  have dom : ∀ b, H1 b ≠ none → H2 b ≠ none := fun b h => by
    by_cases z : b = P
    · rw [z, hP]; simp
    · cases e : H1 b with
      | none => exact absurd e h
      | some o => rw [bp b o z e]; simp
  have st : StW U r H1 r H2 := ⟨fun b o _ mb e => ⟨bp b o (fun z => by rw [z, m] at mb; cases mb) e, mb⟩, dom⟩
  have ext : ExtN H1 H2 := fun b o e n => bp b o (fun z => by rw [z, hP1] at e; exact n ps1 (Option.some.inj e).symm) e
  have sm := st.see ok
  refine ⟨⟨⟨fun b z => dom b (ok.base.dom b z), fun m' c g e => ?_⟩, ok.dj, ok.mz, fun a o h => ?_⟩, st⟩
  · obtain ⟨a1, a2, a3, M⟩ := ok.base.memo m' c g e
    exact ⟨a1, a2, a3, M.ext ext⟩
  · by_cases z : a = P
    · subst z
      rw [m] at h
      cases h
      refine ⟨ps, hP, tr, fun pos cv l => ?_⟩
      obtain ⟨c, e1, ⟨v1, v2⟩, e2⟩ := am pos cv l
      exact ⟨c, e1, by rw [se_at v1 v2]; exact e2⟩
    · exact (ok.st a o h).mono sm fun u e => bp a u z e
theorem isF_fnv {f c : Addr} {o : HO} {dv : Option (Addr × Int)} {vs : List V} {ds : List D} : IsF K f (.fnv f c o dv vs ds) := ⟨fun S v a => by cases a; rfl⟩
theorem lamR_ok {P : Addr} {q : Str} {l : LW} {N caps : List Str} {cs : List Nat} {np : Nat} {SG : D → SPN → SPN} {tb : XK → TE} {eb : EW} {ss0 : List Sl} {ws0 : List V} {Z : ZC} {Pp : D → Rs → Prop} {Q : VK} (hb : ∀ EX, SndEW w K EX (tb EX) eb) (hcs : cs.map (fun j => N[j]?) = caps.map some)
    (ok : OkW w K U H1 r) (rel : RelW K U r H1 σ δ) (a0 : SlsOk K (U.ext r) H1 ss0 ws0) (h : eLamR P q cs np SG eb ss0 Z δ r Pp)
    (k : ∀ d r' v H', Pp d r' → StW U r H1 r' H' → OkW w K U H' r' → Dt K (U.se r' H') v d → Q v H') : tLamR w K P q l N caps np SG tb ws0 σ H1 Q := by
  obtain ⟨m, ds, hd, h⟩ := h
  obtain ⟨ps, hP, tr, am⟩ := ok.st P _ m
  obtain ⟨vs, l1, hv, ad⟩ := capD_ok rel.rel cs ds hd
  have lc : caps.length = cs.length := by have := congrArg List.length hcs; simpa using this.symm
  refine ⟨fun c => U.Z c = false ∧ r.μ c = none, ⟨ps, hP, tr, fun pos cv z => ?_⟩, fun c n => ok.free n, vs, ⟨by rw [l1, lc], fun i y e => ?_⟩, fun f c' dV H2 bp T2 vc hco dvv nf => ?_⟩
  · obtain ⟨c, e1, e2⟩ := am pos cv z
    obtain ⟨z1, z2, z3⟩ := se_of e2
    exact ⟨c, e1, ⟨z1, z2⟩, z3⟩
  · have e' : (caps.map some)[i]? = some (some y) := by rw [List.getElem?_map, e]; rfl
    rw [← hcs, List.getElem?_map] at e'
    cases q : cs[i]? with
    | none => rw [q] at e'; cases e'
    | some j =>
      rw [q] at e'
      obtain ⟨v, e1, e2⟩ := hv i j q
      exact ⟨j, v, Option.some.inj e', e1, e2⟩
  · obtain ⟨ok2, st2⟩ := tab_step ok m bp T2
    have sm := st2.see ok
    refine ⟨.fnv f c' (CodeO c' q) (l.dvo dV) vs ds, fun ss' r' P' Z' => ss'.length = np ∧ eb Z' ((ds.map Sl.d ++ ss').map some) r' P', isF_fnv, ?_, ?_⟩
    · intro EX U' r' ws ss H' Q' P' Z' ok' a' af h' k' x'
      obtain ⟨ln, h'⟩ := h'
      cases af with
      | fnv n e dq aa =>
        refine ⟨by rw [a'.len]; exact ln, ⟨se_le _ _ e, ?_⟩, hb EX U' _ _ H' r' Z' P' Q' ok' (sls_rel ((sls_data aa).app a')) x' h' k'⟩
        unfold LW.DvV at dvv
        unfold LW.Dv
        unfold LW.dvo at dq
        cases ql : l.dflt with
        | none => rw [ql] at dvv; exact dvv
        | some xi =>
          obtain ⟨x, i⟩ := xi
          rw [ql] at dvv dq
          obtain ⟨t, rfl, _, _⟩ := dvv
          exact ⟨t, rfl, se_le _ _ (dq t i rfl)⟩
    · have af : Dt K (U.se r H2) (.ref f) (.fnv f c' (CodeO c' q) (l.dvo dV) vs ds) := by
        refine .fnv codeO_ne (by rw [se_at vc.1 vc.2]; exact hco) (fun t i e => ?_) (ad.gr sm)
        unfold LW.DvV at dvv
        unfold LW.dvo at e
        cases ql : l.dflt with
        | none => rw [ql] at e; cases e
        | some xi =>
          obtain ⟨x, j⟩ := xi
          rw [ql] at dvv e
          obtain ⟨t', rfl, vt, ht⟩ := dvv
          cases e
          rw [se_at vt.1 vt.2]; exact ht
      exact ⟨U, r, ss0 ++ [.d _], Pp, noX, ok2, (a0.stp sm).app (show SlsOk K (U.ext r) H2 [.d (.fnv f c' (CodeO c' q) (l.dvo dV) vs ds)] [.ref f] from ⟨⟨af, rfl⟩, trivial⟩), h _, fun d r' v H' p s o a => k d r' v H' p (st2.tr s) o a, noXR⟩
theorem sw_lam0 {P : Addr} {q : Str} {l : LW} {N caps : List Str} {cs : List Nat} {np : Nat} {SG : D → SPN → SPN} {tb : XK → TE} {eb : EW} (hb : ∀ EX, SndEW w K EX (tb EX) eb) (hcs : cs.map (fun j => N[j]?) = caps.map some) : SndEW w K EX (tLamR w K P q l N caps np SG tb []) (eLam0W P q cs np SG eb) := fun U σ δ H r Z P Q ok rel x h k =>
  lamR_ok hb hcs ok rel (show SlsOk K (U.ext r) H [] [] from trivial) h k
end
end TSx

/-! Own layer, part Q22: try over one expression, stored, told or dropped. -/
namespace TSx
open PySem L2 PySem.Spec PyProof.Rows
def pickZ (K : PySem.W.Frag) (E : EndsW) (δ : SD) (m : List (Value × Nat × SW)) : ZC := fun C fs r => pickW K E δ C fs m r
def sTryED (K : PySem.W.Frag) (e : EW) (m : List (Value × Nat × SW)) : SW := fun E δ r => e (pickZ K E δ m) δ r fun _ r1 => E.nx δ r1
/-- an expression whose exceptions go to what the slots' state tells -/
def tAtW (te : XK → TE) (W : WX) : TE := fun σ H Q => te (WE W σ) σ H Q
section
variable {EX : XK} {w : World} {K : PySem.W.Frag} {U0 U : Vw} {H0 H : Hp} {r0 r : Rs} {σ : Sg} {δ : SD} {te : XK → TE} {ee : EW} {l : List (Value × Nat × TS)} {m : List (Value × Nat × SW)}
theorem pick_xr {E : Ends} {ED : EndsW} (R : EndRW w K EX U0 H0 r0 ED E) (I : InvW w K U0 H0 r0 U H r σ δ) (hm : ClW w K EX l m) : XR w K (WE (wT K (fun cls d _ H => EX cls d H) E l) σ) U H r (pickZ K ED δ m) := fun C fs r' e xs H' z st ok n x mm a => by
  have I' := I.step st ok
  refine pickW_ok R I' (I.new0 n) x mm ?_ a hm z
  exact (I.ok.free n).1
theorem sw_tryED (he : ∀ EX, SndEW w K EX (te EX) ee) (hm : ClW w K EX l m) : SndSW w K EX (fun D σ H => tDrop (tAtW te (wT K (fun cls d _ H => EX cls d H) D l)) D σ H) (sTryED K ee m) := fun U0 H0 r0 U σ δ H r E ED I R h =>
  he _ U σ δ H r _ _ _ I.ok I.rel (pick_xr R I hm) h fun d r1 v H1 h1 s1 ok1 a1 => R.nx _ _ _ _ _ (I.step s1 ok1) h1
end
end TSx

/-! Own layer, part Q23: the law's beginning where tables stand in the store. -/
namespace TSx
open PySem L2 TL
/-- the tables at the beginning -/
def μT (T : List (Addr × Str)) : Addr → Option Ob := fun b => (T.lookup b).map Ob.tb
theorem μT_at {T : List (Addr × Str)} {b : Addr} {q : Str} (h : T.lookup b = some q) : μT T b = some (.tb q) := by unfold μT; rw [h]; rfl
theorem look_mem {b : Addr} {q : Str} : ∀ {T : List (Addr × Str)}, T.lookup b = some q → (b, q) ∈ T
  | [], h => by simp at h
  | (a, p) :: T, h => by
    rw [List.lookup_cons] at h
    split at h
    · rename_i e
      have e := eq_of_beq e
      cases h
      rw [e]; exact List.mem_cons_self
    · exact List.mem_cons_of_mem _ (look_mem h)
def spLawT (K : PySem.W.Frag) (T : List Addr) : Sp := fun vs H Q _ => ∃ (a : Addr) (ns : List Int), vs = [.ref a] ∧ SqL K H a (ns.map V.int) ∧ ns.length ≤ 63 ∧ (∀ P ∈ T, H P = some (.tbl #[])) ∧ ∀ H', Q (.bl true) H'
/-- a lambda's qualified name in a def -/
def lamQ (x : Str) (sg : Scope) : Str := (PyProof.Rows.envOfC x sg 0 0 .none).qual ++ "<lambda>"
theorem takes_no {X : Cx} : Takes X (fun _ _ _ _ => False) := fun u s' ⟨_, _, _, _, _, _, _, _, _, _, _, _, _, _, _, _, w⟩ => w.elim
theorem free_of {names : List (Str × NameKind)} {sc : Scope} (h : ∀ y ∈ names, y.2 = .free → sc.names.lookup y.1 = some .cell ∨ sc.names.lookup y.1 = some .free) : ∀ y ∈ names, y.2 = .free → sc.names.lookup y.1 = some .cell ∨ sc.names.lookup y.1 = some .free := h
section
variable {w : World} {K : PySem.W.Frag} {H : Hp}
theorem begun_thenT {rest : TS} {sv : SW} {N : List Str} {nn : Nat} {a : Addr} {ns : List Int} {Q : VK} {T : List (Addr × Str)} (hs : SndSW w K E0 rest sv) (hN : N.length = nn) (hS : SqL K H a (ns.map V.int)) (hz : ns.length ≤ 63) (hT : ∀ P ∈ T.map (·.1), H P = some (.tbl #[]))
    (hQ : ∀ H', Q (.bl true) H')
    (h : sv { nx := fun _ _ => False, rt := fun d _ => d = .bl true } ((([some (.scr ns)] ++ List.replicate (nn - 1) none) : SD).set 1 (some .memo)) ⟨536870912, μT T⟩) :
    tSeq (tAsg (tCall (spBegun K) [] E0 (tCons (tVar 0) tNil)) (gName 1)) rest { nx := fun _ H' => Q .non H', rt := Q } (L2.start N [.ref a]) H := by
  refine ⟨.ref a, rfl, ?_⟩
  have go : spBegun K [V.ref a] H (fun x H1 => gName 1 x (L2.start N [V.ref a]) H1 (rest { nx := fun _ H' => Q .non H', rt := Q })) E0 → spBegun K ([V.ref a] ++ []) H (fun x H1 => gName 1 x (L2.start N [V.ref a]) H1 (rest { nx := fun _ H' => Q .non H', rt := Q })) E0 := fun h => by rw [List.append_nil]; exact h
  refine go ?_
  refine ⟨a, ns, rfl, hS, hz, fun H' m c g s nm nc ng M => ?_⟩
  let U : Vw := ⟨fun b => decide (b = m) || decide (b = c) || decide (b = g), some (m, c, g)⟩
  have zU : ∀ b, U.Z b = true ↔ (b = m ∨ b = c ∨ b = g) := fun b => by simp [U, or_assoc]
  obtain ⟨⟨n, cs, gs, h1, h2, h3, h4⟩, ne⟩ := id M
  have inT : ∀ b o, μT T b = some o → H b = some (.tbl #[]) ∧ ∃ q, o = .tb q := fun b o e => by
    unfold μT at e
    cases q : T.lookup b with
    | none => rw [q] at e; cases e
    | some x =>
      rw [q] at e
      cases e
      exact ⟨hT b (List.mem_map.mpr ⟨(b, x), look_mem q, rfl⟩), x, rfl⟩
  have noT : ∀ b, H b ≠ some (.tbl #[]) → μT T b = none := fun b e => by
    cases q : μT T b with
    | none => rfl
    | some o => exact absurd (inT b o q).1 e
  have zn : ∀ b, U.Z b = true → H b = none := fun b z => by
    rcases (zU b).mp z with rfl | rfl | rfl
    · exact nm
    · exact nc
    · exact ng
  have ok : Ok (U.ext ⟨536870912, μT T⟩) H' 536870912 := ⟨fun b z => by
    cases q : μT T b with
    | some o =>
      have := s b _ (inT b o q).1
      rw [this]; simp
    | none =>
      have z' : U.Z b = true := by
        have z2 : (U.Z b || (μT T b).isSome) = true := z
        rw [q] at z2
        simpa using z2
      rcases (zU b).mp z' with rfl | rfl | rfl
      · rw [h1]; simp
      · rw [h2]; simp
      · rw [h3]; simp, fun m' c' g' e => by
    cases e
    exact ⟨ext_Z ((zU _).mpr (Or.inl rfl)), ext_Z ((zU _).mpr (Or.inr (Or.inl rfl))), ext_Z ((zU _).mpr (Or.inr (Or.inr rfl))), M⟩⟩
  have seeN : ∀ b o, H b = some o → o ≠ .tbl #[] → U.se ⟨536870912, μT T⟩ H' b = some o := fun b o e n => by
    have z : U.Z b = false := by
      cases q : U.Z b with
      | false => rfl
      | true => rw [zn b q] at e; cases e
    rw [se_at z (noT b (by rw [e]; exact fun z => n (Option.some.inj z)))]
    exact s b o e
  have hS' : SqL K (U.se ⟨536870912, μT T⟩ H') a (ns.map V.int) := by
    rcases hS with (e | ⟨o, e⟩) | e
    · exact Or.inl (Or.inl (seeN _ _ e (by simp)))
    · exact Or.inl (Or.inr ⟨o, seeN _ _ e (by simp)⟩)
    · exact Or.inr e
  have l : ((L2.start N [V.ref a]).set 1 (some (.ref m))).length = ((([some (.scr ns)] ++ List.replicate (nn - 1) none) : SD).set 1 (some .memo)).length := by
    rw [List.length_set, List.length_set]
    unfold L2.start
    rw [List.length_append, List.length_append, List.length_map, List.length_replicate, List.length_replicate, hN]
    rfl
  have at0 : ∀ (i : Nat) (s : Sl), ((([some (.scr ns)] ++ List.replicate (nn - 1) none) : SD).set 1 (some .memo))[i]? = some (some s) → (i = 0 ∧ s = .scr ns) ∨ (i = 1 ∧ s = .memo) := fun i s e => by
    rcases sett e with ⟨rfl, rfl⟩ | ⟨z, e⟩
    · exact Or.inr ⟨rfl, rfl⟩
    · cases i with
      | zero => cases e; exact Or.inl ⟨rfl, rfl⟩
      | succ i =>
        have e' : (List.replicate (nn - 1) (none : Option Sl))[i]? = some (some s) := by
          rw [List.getElem?_append_right (by simp)] at e
          simpa using e
        have := (List.mem_replicate.mp (List.mem_of_getElem? e')).2
        cases this
  have rel : RelE K (U.ext ⟨536870912, μT T⟩) H' ((L2.start N [V.ref a]).set 1 (some (.ref m))) ((([some (.scr ns)] ++ List.replicate (nn - 1) none) : SD).set 1 (some .memo)) := by
    refine ⟨l, fun i s e => ?_⟩
    have hi := (List.getElem?_eq_some_iff.mp e).1
    rcases at0 i s e with ⟨rfl, rfl⟩ | ⟨rfl, rfl⟩
    · exact ⟨.ref a, by rw [List.getElem?_set_ne (by decide)]; rfl, a, rfl, hS'⟩
    · refine ⟨.ref m, ?_, m, c, g, rfl, rfl⟩
      rw [← l] at hi
      rw [List.length_set] at hi
      exact List.getElem?_set_self hi
  have okW : OkW w K U H' ⟨536870912, μT T⟩ := ⟨ok, fun b z => noT b (by rw [zn b z]; simp), fun m' c' g' e => by
    cases e
    exact ⟨(zU _).mpr (Or.inl rfl), (zU _).mpr (Or.inr (Or.inl rfl)), (zU _).mpr (Or.inr (Or.inr rfl))⟩, fun a o h => by
    obtain ⟨e, q, rfl⟩ := inT a o h
    exact ⟨#[], s _ _ e, trivial, fun pos cv z => by
      have z : codeAmong pos [] = some cv := z
      simp [codeAmong] at z⟩⟩
  refine hs U H' ⟨536870912, μT T⟩ U _ _ H' ⟨536870912, μT T⟩ _ { nx := fun _ _ => False, rt := fun d _ => d = .bl true } ⟨okW, ⟨rel, fun i xs p e => ?_⟩, StW.rf, rfl, fun _ z => z, fun _ z => Or.inl z, fun b z => ok.dom b (ext_Z z), okW.mz, fun i xs p e => ?_, fun i j xs ys p _ e => ?_⟩ ⟨fun _ _ _ _ _ _ h => h.elim, fun _ _ _ _ _ _ h => h, fun _ _ _ _ _ _ h => h, fun H2 r2 v d _ _ ad hd => ?_, fun _ _ _ _ _ _ z => z.elim⟩ h
  · rcases at0 i _ e with ⟨_, z⟩ | ⟨_, z⟩ <;> cases z
  · rcases at0 i _ e with ⟨_, z⟩ | ⟨_, z⟩ <;> cases z
  · rcases at0 i _ e with ⟨_, z⟩ | ⟨_, z⟩ <;> cases z
  · subst hd
    cases ad
    exact hQ H2
end
end TSx
namespace TSx
open PySem L2
/-- a def that gets a lambda -/
structure Giv (P : Program) (w : World) (K : PySem.W.Frag) (mg : Str → Option Value) (base : Heap) (x : Str) (st : Stmt) (k : Nat) (Ng ps : List Str) (i : Nat) (a : Str) (SB : D → SPN → SPN) (g : Addr) (fd : FuncData) : Prop where
  F : L2.Fun K x x st g fd
  gm : mg x = some (.ref g)
  b : Binds K fd ps []
  G : ∀ cdv : Value, GivesW P w K mg base k Ng ps i a x (defScope st) (defBody st) g cdv SB
end TSx

/-! Own layer, part Q24: an own list that begins with some. -/
namespace TSx
open PySem L2
def sNewAW (n : Nat) (a : AW) : SW := fun E δ r => a E.rz δ r fun ss r1 => ∃ ds, datas ss = some ds ∧ ds.length ≤ 100000 ∧ E.nx (δ.set n (some (.own ds))) r1
theorem sw_newA {EX : XK} {w : World} {K : PySem.W.Frag} {tA : TA} {av : AW} {n : Nat} (ha : SndAW w K EX tA av) : SndSW w K EX (tAsg (tLst tA) (gName n)) (sNewAW n av) := fun U0 H0 r0 U σ δ H r E ED I R h =>
  ha U σ δ H r _ _ _ I.ok I.rel (I.xr R) h fun ss r1 vs H1 h1 s1 ok1 a1 => by
    obtain ⟨ds, e, l, h1⟩ := h1
    have I1 := I.step s1 ok1
    have aa := datas_ok a1 e
    exact ⟨sz1 (by rw [aa.len]; exact l), fun p np => R.nx _ _ _ _ _ (I1.fresh np aa) h1⟩
end TSx
namespace TSx
open PySem L2
/-- {} as data -/
def eDic0W : EW := fun _ _ r P => P (.dic []) r
theorem sw_dic0 {EX : XK} {w : World} {K : PySem.W.Frag} : SndEW w K EX tDNewK eDic0W := fun U σ δ H r Z P Q ok rel x h k p np => by
  have ok2 := ok.same (same_new (o := .dK []) np)
  exact k _ r _ _ h (StW.same (same_new np)) ok2 (.dic (by rw [se_at (ok.free np).1 (ok.free np).2, upd_same]) .nil)
end TSx

/-! Own layer, part Q25: one sign * int, nought too. -/
namespace TSx
open PySem L2 TL
end TSx

/-! Own layer, part Q26: combinations(list, int), its facts and its making. -/
namespace TSx
open PySem L2 PySem.Spec PyProof.Rows
namespace FC
theorem slot_init : Slot "itertools.combinations" "__init__" "object.__init__" :=
  .of (owner := "object") (n := "__init__") (by rw [typeLookup_type, builtinLookup_eq_fast]; kernel_rfl) (by decide +kernel) (by decide +kernel) (by decide +kernel)
    (by first | exact .inl (by decide +kernel) | exact .inr (by decide +kernel)) (by rw [isSubtype_type]; kernel_rfl)
theorem mro : mroOf (.type "itertools.combinations") = pure [.type "itertools.combinations", .type "object"] := by rw [mroOf_type]; kernel_rfl
theorem lookup_new : typeLookup (.type "itertools.combinations") "__new__" = pure (some (.builtin "itertools.combinations.__new__")) := by rw [typeLookup_type, builtinLookup_eq_fast]; kernel_rfl
theorem called : TypeCalled "itertools.combinations" "itertools.combinations.__new__" "object.__init__" :=
  ⟨by decide +kernel, by decide +kernel, ⟨_, _, mro⟩, madeBy_type mro lookup_new (by decide +kernel), by decide +kernel, by rw [isSubtype_type]; kernel_rfl, slot_init⟩
theorem sub : isSubtype (.type "itertools.combinations") (.type "itertools.combinations") = pure true := by rw [isSubtype_type]; kernel_rfl
end FC
end TSx

namespace TSx
open PySem L2 PySem.Spec PyProof.Rows
section
variable {prog : Program} {w : World} {A : Around} {E : Value → Shared → Prop} {s : Shared}
end
end TSx

/-! Own layer, part Q28: combinations, one step. -/
namespace TSx
open PySem L2 PySem.Spec PyProof.Rows
/-- the places behind these -/
def nextC (n : Nat) (is : List Nat) : Option (List Nat) :=
  match (List.range is.length).reverse.find? fun i => is.getD i 0 != i + n - is.length with
  | none => none
  | some i => some (is.take i ++ (List.range (is.length - i)).map (is.getD i 0 + 1 + ·))
section
variable {prog : Program} {w : World} {A : Around} {E : Value → Shared → Prop} {s : Shared}
end
end TSx

/-! Own layer, part Q29: combinations(list, int) walked. -/
namespace TSx
open PySem L2 PySem.Spec PyProof.Rows
/-- the places at turn i -/
def idxC (n r : Nat) : Nat → Option (List Nat)
  | 0 => if r > n then none else some (List.range r)
  | i + 1 => (idxC n r i).bind (nextC n)
section
variable {X : Cx} {tg : Expr}
end
end TSx

/-! Own layer, part Q30: the reading of combinations(list, int); lists of the places for small sizes. -/
namespace TSx
open PySem L2
/-- L lists the places of all choices of r of n, in their order -/
def Combs (n r : Nat) (L : List (List Nat)) : Prop := ∀ i, idxC n r i = L[i]?
theorem idxC_none {n r : Nat} : ∀ {i j : Nat}, idxC n r i = none → i ≤ j → idxC n r j = none := by
  intro i j h hj
  induction hj with
  | refl => exact h
  | step _ ih => show (idxC n r _).bind (nextC n) = none; rw [ih]; rfl
theorem Combs.of {n r : Nat} {L : List (List Nat)} (h1 : (List.range (L.length + 1)).all (fun i => idxC n r i == L[i]?) = true) : Combs n r L := fun i => by
  have h2 : ∀ j ≤ L.length, idxC n r j = L[j]? := fun j hj => by
    have := List.all_eq_true.mp h1 j (List.mem_range.mpr (by omega))
    simpa using this
  by_cases hi : i ≤ L.length
  · exact h2 i hi
  · rw [idxC_none (i := L.length) (by rw [h2 _ (Nat.le_refl _)]; exact List.getElem?_eq_none (Nat.le_refl _)) (by omega), List.getElem?_eq_none (by omega)]
section
variable {EX : XK} {w : World} {K : PySem.W.Frag} {tA : TA} {av : AW}
end
end TSx

/-! Own layer, part Q31: sorted of a list of data (ints, texts, tuples of them, any depth). -/
namespace TSx
open PySem L2 PySem.Spec PyProof.Rows PySem.W
mutual
def skD : D → Option PyData
  | .non => some .none
  | .bl b => some (.bool b)
  | .int i => some (.int i)
  | .str x => some (.str x)
  | .tup ds => (skA ds).map .tuple
  | _ => none
def skA : List D → Option (List PyData)
  | [] => some []
  | d :: ds => (skD d).bind fun e => (skA ds).map (e :: ·)
end
section
variable {X : Cx} {K : PySem.W.Frag} {pins : List (Addr × Obj)} {σ : L2.St} {H : Hp} {s : Shared}
mutual
theorem reads_d (I : Inv X pins σ H s) : ∀ {v : V} {d : D} {e : PyData} {u : Value}, Dt X.K H v d → skD d = some e → RelV v u → ∃ as, Reads s.heap u e as
  | _, _, _, _, .non, h, r => by cases h; cases r; exact ⟨_, .none⟩
  | _, _, _, _, .bl b, h, r => by cases h; cases r; exact ⟨_, .bool b⟩
  | _, _, _, _, .int i, h, r => by cases h; obtain ⟨t, rfl⟩ := r; exact ⟨_, .int i t⟩
  | _, _, _, _, .str x, h, r => by cases h; obtain ⟨t, rfl⟩ := r; exact ⟨_, .str x t⟩
  | _, _, _, _, .tup hq a, h, r => by
    obtain ⟨es, he, rfl⟩ := Option.map_eq_some_iff.mp (show (skA _).map PyData.tuple = some _ from h)
    obtain ⟨its, rv, ⟨o, ho, hc, n, hd⟩, _⟩ := I.tuple hq
    obtain ⟨as, ra⟩ := reads_a I a he rv
    cases r
    exact ⟨as, .tuple ho hc hd (by simpa using ra)⟩
  | _, _, _, _, .lst _ _, h, r => by simp [skD] at h
  | _, _, _, _, .dic _ _, h, r => by simp [skD] at h
  | _, _, _, _, .exc _ _ _, h, r => by simp [skD] at h
  | _, _, _, _, .ob _, h, r => by simp [skD] at h
  | _, _, _, _, .frd _ _, h, r => by simp [skD] at h
  | _, _, _, _, .tpb _ _ _, h, r => by simp [skD] at h
  | _, _, _, _, .frn _ _, h, r => by simp [skD] at h
  | _, _, _, _, .fnv _ _ _ _, h, r => by simp [skD] at h
theorem reads_a (I : Inv X pins σ H s) : ∀ {vs : List V} {ds : List D} {es : List PyData} {us : List Value}, DtA X.K H vs ds → skA ds = some es → Vals vs us → ∃ as, ReadsAll s.heap us es as
  | _, _, _, _, .nil, h, .nil => by cases h; exact ⟨_, .nil⟩
  | _, _, _, _, .cons a t, h, .cons r rs => by
    obtain ⟨e, he, h2⟩ := Option.bind_eq_some_iff.mp (show (skD _).bind _ = some _ from h)
    obtain ⟨es, hs, rfl⟩ := Option.map_eq_some_iff.mp h2
    obtain ⟨as, ra⟩ := reads_d I a he r
    obtain ⟨bs, rb⟩ := reads_a I t hs rs
    exact ⟨_, .cons ra rb⟩
end
abbrev RB (K : PySem.W.Frag) (H : Hp) (u : Value) (b : V × D) : Prop := RelV b.1 u ∧ Dt K H b.1 b.2
end
end TSx

/-! Own layer, part Q32: the reading of sorted(list of data). -/
namespace TSx
open PySem L2 PySem.Spec PySem.W
end TSx

/-! Own layer, part Q33: an own list read as data by an old reading that tells a truth value. -/
namespace TSx
open PySem L2
end TSx

/-! Own layer, part Q34: a < b of tuples (data that are alike). -/
namespace TSx
open PySem L2 PySem.Spec PyProof.Rows PySem.W
section
variable {X : Cx}
end
end TSx

/-! Own layer, part Q35: zip of two tuples of any lengths. -/
namespace TSx
open PySem L2
end TSx

/-! Own layer, part Q36: list(range(n)); a, b, c, d = ({}, [], e, f). -/
namespace TSx
open PySem L2
end TSx

/-! Own layer, part Q37: sum of a tuple of ints. -/
namespace TSx
open PySem L2 PySem.Spec PyProof.Rows
section
variable {prog : Program} {w : World} {A : Around} {E : Value → Shared → Prop} {s : Shared} {l : Addr} {its : List Value} {ns : List Int} {Q : Value → Shared → Prop}
end
end TSx

/-! Own layer, part Q38: sorted(xs, key=lambda x: (sum(x), x)): the key's call, and what is kept. -/
namespace TSx
open PySem L2 PySem.Spec PyProof.Rows LamX
section
variable {X : Cx} {pins : List (Addr × Obj)} {σ : Sg} {H : Hp} {s : Shared}
end
end TSx

/-! Own layer, part Q39: sorted(xs, key=lambda x: (sum(x), x)) as a call. -/
namespace TSx
open PySem L2 PySem.Spec PyProof.Rows LamX
section
variable {X : Cx} {pins : List (Addr × Obj)} {σ : Sg} {H G : Hp} {s : Shared}
end
end TSx

/-! Own layer, part Q40: sorted(xs, key=lambda x: (sum(x), x)), told and read. -/
namespace TSx
open PySem L2 PySem.Spec PyProof.Rows LamX
section
variable {X : Cx}
end
end TSx

/-! Own layer, part Q41: a def that may raise and must know that no repr is under way; its call in a try. -/
namespace TSx
open PySem L2 PySem.Spec PyProof.Rows LamX
section
variable {X : Cx} {CX : CXT} {k : Nat} {f : Addr} {fd : FuncData} {ps : List Str} {sp : Sp} {W : WX} {x : Str} {p pos : Pos} {e : Expr} {es : List Expr} {t : TA}
end
end TSx

/-! Own layer, part Q42: a dict with tuples as keys, sealed: data from then on; its items, keys, values walked, its things told; {k: v} with a tuple as key. -/
namespace TSx
open PySem L2 PySem.Spec PyProof.Rows
section
variable {K : PySem.W.Frag} {S G : Hp}
end
/-! ### the heap -/
section
variable {X : Cx} {pins : List (Addr × Obj)} {σ : L2.St} {H : Hp} {s : Shared} {d : Addr} {o : Obj}
end
section
variable {P : Program} {w w' : World} {K : PySem.W.Frag} {tg : Expr} {d : Addr} {o : Obj} {ds : Array DictEntry} {ep : Nat} {es : List NE}
end
section
variable {X : Cx} {tg e : Expr} {td : TE} {apos cpos : Pos}
end
/-! ### seal -/
def Rs.del (r : Rs) (a : Addr) : Rs := ⟨r.n, fun b => if b = a then none else r.μ b⟩
theorem del_same {r : Rs} {a : Addr} : (r.del a).μ a = none := if_pos rfl
theorem del_ne {r : Rs} {a b : Addr} (h : b ≠ a) : (r.del a).μ b = r.μ b := if_neg h
/-- the dict at hand is changed no more -/
def eSealNW (w : World) (e : EW) : EW := fun Z δ r P => e Z δ r fun d r1 => ∃ p kvs, d = .ob p ∧ r1.μ p = some (.dn kvs) ∧ P (.frn w kvs) (r1.del p)
/-! ### walks and what is told -/
def jNItemsW (ed : EW) : JW := fun Z δ r P => ed Z δ r fun o r1 => ∃ w kvs, o = .frn w kvs ∧ P (kvs.map fun p => .tup [p.1, p.2]) r1
def jNKeysW (ed : EW) : JW := fun Z δ r P => ed Z δ r fun o r1 => ∃ w kvs, o = .frn w kvs ∧ P (kvs.map fun p => p.1) r1
def jNValsW (ed : EW) : JW := fun Z δ r P => ed Z δ r fun o r1 => ∃ w kvs, o = .frn w kvs ∧ P (kvs.map fun p => p.2) r1
section
variable {EX : XK} {w : World} {K : PySem.W.Frag} {te to tk : TE} {ee eo ek : EW}
end
/-! ### {k: v} with a tuple as key: the heap's rule -/
end TSx

/-! Own layer, part Q43: a tuple made just now, known to the end (its methods may be asked): t.index(n); an int and a truth value added; min of a list of data. -/
namespace TSx
open PySem L2 PySem.Spec PyProof.Rows PySem.W
/-! ### a tuple that is known -/
def D.wk : D → D
  | .tpb ds => .tup ds
  | d => d
theorem Dt.wk {K : PySem.W.Frag} {H : Hp} {v : V} {d : D} (h : Dt K H v d) : Dt K H v d.wk := by
  cases h with
  | tpb e n a => exact .tup (.inl (.inr ⟨_, e⟩)) a
  | non => exact .non
  | bl b => exact .bl b
  | int i => exact .int i
  | str x => exact .str x
  | lst e a => exact .lst e a
  | tup e a => exact .tup e a
  | dic e a => exact .dic e a
  | exc e f a => exact .exc e f a
  | ob a => exact .ob a
  | frd e a => exact .frd e a
  | frn e a => exact .frn e a
  | fnv n e q a => exact .fnv n e q a
def eWk (a : EV) : EV := fun δ r P => a δ r fun d r1 => P d.wk r1
section
variable {K : PySem.W.Frag}
def cTupB : List Sl → Option D
  | [.d (.lst ds)] => some (.tpb ds)
  | _ => none
def eOwnTupB (n : Nat) : EV := fun δ r P => ∃ xs, δ[n]? = some (some (.own xs)) ∧ P (.tpb xs) r
end
/-! ### t.index(n) -/
def opTIx : D → D → Option D
  | .tpb ds, .int i => (intsD ds).bind fun ns => if i ∈ ns then some (.int (ns.idxOf i : Nat)) else none
  | _, _ => none
def eTIx (a b : EV) : EV := fun δ r P => a δ r fun d r1 => (∃ ds, d = .tpb ds) ∧ b δ r1 fun e r2 => ∃ z, opTIx d e = some z ∧ P z r2
section
variable {K : PySem.W.Frag}
/-! ### an int and a truth value -/
def opAddIB : D → D → Option D
  | .int i, .bl b => some (.int (i + b2i b))
  | _, _ => none
end
/-! ### min of a list of data -/
mutual
theorem skD_inj : ∀ {a b : D} {e : PyData}, skD a = some e → skD b = some e → a = b
  | .non, b, e, h, h' => by
    cases h
    cases b <;> simp [skD] at h' ⊢
  | .bl x, b, e, h, h' => by
    cases h
    cases b <;> simp [skD] at h' ⊢
    exact h'.symm
  | .int x, b, e, h, h' => by
    cases h
    cases b <;> simp [skD] at h' ⊢
    exact h'.symm
  | .str x, b, e, h, h' => by
    cases h
    cases b <;> simp [skD] at h' ⊢
    exact h'.symm
  | .tup ds, b, e, h, h' => by
    obtain ⟨es, he, rfl⟩ := Option.map_eq_some_iff.mp (show (skA ds).map PyData.tuple = some _ from h)
    cases b with
    | tup ds' =>
      obtain ⟨es', he', e1⟩ := Option.map_eq_some_iff.mp (show (skA ds').map PyData.tuple = some _ from h')
      cases e1
      rw [skA_inj he he']
    | _ => simp [skD] at h'
  | .lst _, _, _, h, _ => by simp [skD] at h
  | .dic _, _, _, h, _ => by simp [skD] at h
  | .exc _ _, _, _, h, _ => by simp [skD] at h
  | .ob _, _, _, h, _ => by simp [skD] at h
  | .frd _, _, _, h, _ => by simp [skD] at h
  | .frn _ _, _, _, h, _ => by simp [skD] at h
  | .tpb _, _, _, h, _ => by simp [skD] at h
  | .fnv _ _ _ _ _ _, _, _, h, _ => by simp [skD] at h
theorem skA_inj : ∀ {a b : List D} {e : List PyData}, skA a = some e → skA b = some e → a = b
  | [], b, e, h, h' => by
    cases h
    cases b with
    | nil => rfl
    | cons d ds =>
      obtain ⟨x, hx, h2⟩ := Option.bind_eq_some_iff.mp (show (skD d).bind _ = some _ from h')
      obtain ⟨es, hs, e1⟩ := Option.map_eq_some_iff.mp h2
      cases e1
  | d :: ds, b, e, h, h' => by
    obtain ⟨x, hx, h2⟩ := Option.bind_eq_some_iff.mp (show (skD d).bind _ = some _ from h)
    obtain ⟨es, hs, rfl⟩ := Option.map_eq_some_iff.mp h2
    cases b with
    | nil => cases h'
    | cons d' ds' =>
      obtain ⟨x', hx', h2⟩ := Option.bind_eq_some_iff.mp (show (skD d').bind _ = some _ from h')
      obtain ⟨es', hs', e1⟩ := Option.map_eq_some_iff.mp h2
      cases e1
      rw [skD_inj hx hx', skA_inj hs hs']
end
end TSx

/-! Own layer, part Q44: max of a tuple of ints; sum of a list of truth values. -/
namespace TSx
open PySem L2 PySem.Spec PyProof.Rows PySem.W
end TSx

/-! Own layer, part Q45: an own list that begins as the sum of two lists. -/
namespace TSx
open PySem L2
def sNewCatW (n : Nat) (ea eb : EW) : SW := fun E δ r => ea E.rz δ r fun d r1 => eb E.rz δ r1 fun e r2 => ∃ z, opCatL d e = some (.lst z) ∧ E.nx (δ.set n (some (.own z))) r2
theorem sw_newCat {EX : XK} {w : World} {K : PySem.W.Frag} {ta tb : TE} {ea eb : EW} {n : Nat} (ha : SndEW w K EX ta ea) (hb : SndEW w K EX tb eb) : SndSW w K EX (tAsg (tOp rCat ta tb) (gName n)) (sNewCatW n ea eb) := fun U0 H0 r0 U σ δ H r E ED I R h =>
  ha U σ δ H r _ _ _ I.ok I.rel (I.xr R) h fun d r1 v H1 h1 s1 ok1 a1 => hb U σ δ H1 r1 _ _ _ ok1 (I.rel.step I.ok s1) ((I.xr R).step s1) h1 fun e r2 y H2 h2 s2 ok2 a2 => by
    obtain ⟨z, hz, h2⟩ := h2
    have I1 := I.step s1 ok1
    have I2 := I1.step s2 ok2
    have a1' := a1.gr (s2.see ok1)
    unfold opCatL at hz
    split at hz
    · split at hz
      · rename_i l
        cases hz
        cases a1' with
        | @lst p xs _ e1 aa =>
          cases a2 with
          | @lst q ys _ e2 bb =>
            exact ⟨p, q, xs, ys, rfl, rfl, see_le _ _ e1, see_le _ _ e2, by rw [aa.len, bb.len]; exact sz1 l, fun w nw => R.nx _ _ _ _ _ (I2.fresh nw (aa.app bb)) h2⟩
      · cases hz
    · cases hz
end TSx

/-! Own layer, part Q46: text.split(sep). -/
namespace TSx
open PySem L2
def mSplit : D → D → Option D
  | .str a, .str b => if b.length ≠ 0 ∧ a.length + 2 ≤ 100000 then some (.lst ((Txt.split a b).map .str)) else none
  | _, _ => none
section
variable {K : PySem.W.Frag}
end
end TSx

/-! Own layer, part Q47: `a if t else b` as a test. -/
namespace TSx
open PySem L2
section
variable {K : PySem.W.Frag} {t ta tb : TT} {tv av bv : TV}
end
end TSx

/-! Own layer, part Q48: a list comprehension whose element may raise. -/
namespace TSx
open PySem L2 PySem.Spec PyProof.Rows
/-! the block's dict is taken out of the ground -/
end TSx

/-! Own layer, part Q49: the reading of a list comprehension whose element may raise. -/
namespace TSx
open PySem L2
section
variable {w : World} {K : PySem.W.Frag} {EX : XK} {U : Vw} {L : Addr} {H H' H1 H2 : Hp} {r r' r1 r2 : Rs} {σ : Sg} {δ : SD}
theorem XR.hide {Z : ZC} (x : XR w K EX U H r Z) (ok : OkW w K U H r) (n : H L = none) (s : StLW (U.hide L) L r H r' H') : XR w K EX (U.hide L) H' r' Z := fun C fs r2 e xs H2 z st ok2 ne he m a => by
  obtain ⟨q1, q2, q3⟩ := hideW_back ok n (s.tr (StLW.of st)) ok2
  refine x C fs r2 e xs H2 z q1 q2 ?_ he m (a.gr q3)
  cases q : H e with
  | none => rfl
  | some o => exact absurd ne (s.dom e (by rw [q]; simp))
end
end TSx

/-! Own layer, part Q50: an iterator over what is a list or a tuple. -/
namespace TSx
open PySem L2
def tiOr (a b : TI) : TI := fun σ H R => a σ H R ∨ b σ H R
theorem pi_or {X : Cx} {tg iter : Expr} {a b : TI} (ha : PI X tg iter a) (hb : PI X tg iter b) : PI X tg iter (tiOr a b) := ⟨fun pins s σ H R I h => h.elim (ha.run pins s σ H R I) (hb.run pins s σ H R I)⟩
def iOr (a b : IV) : IV := fun δ r P => a δ r P ∨ b δ r P
theorem snd_iOr {K : PySem.W.Frag} {ta tb : TI} {ia ib : IV} (ha : SndI K ta ia) (hb : SndI K tb ib) : SndI K (tiOr ta tb) (iOr ia ib) := fun U σ δ H r P R ok rel h k =>
  h.elim (fun h => Or.inl (ha U σ δ H r P R ok rel h k)) fun h => Or.inr (hb U σ δ H r P R ok rel h k)
end TSx

/-! Own layer, part Q51: text * int, twice at least. -/
namespace TSx
open PySem L2 TL
end TSx

/-! Own layer, part Q52: lists of the store (lists within lists that are appended to). -/
namespace TSx
open PySem L2
section
variable {EX : XK} {w : World} {K : PySem.W.Frag} {te to : TE} {ee eo : EW}
end
end TSx

/-! Own layer, part Q53: str of ints and texts, int of a text, f-strings, list.extend. -/
namespace TSx
open PySem L2
section
variable {K : PySem.W.Frag} {w : World} {EX : XK} {te : TE} {ee : EW}
/-! f-strings -/
/-! list.extend of an own list -/
end
end TSx

/-! Own layer, part Q54: lists within lists read as data: for a truth value, or once and for all (sealed). -/
namespace TSx
open PySem L2
section
variable {w : World} {K : PySem.W.Frag} {EX : XK} {U : Vw} {H : Hp} {r : Rs}
end
end TSx

/-! Own layer, part Q55: an item of an own list (a thing of the store among them); `n, j = [], k`. -/
namespace TSx
open PySem L2
section
variable {w : World} {K : PySem.W.Frag} {EX : XK} {ti : TE} {ei : EW}
end
end TSx

/-! Own layer, part A9: except (C1, C2): without a name, where one of them is met. -/
namespace TSx
open PySem L2 PySem.Spec PyProof.Rows
section
variable {X : Cx} {body : List Stmt} {x1 x2 : Str} {c1 c2 : Value} {p1 p2 tpos pos pos' : Pos} {kk : Nat} {b₀ : Stmt} {suite : List Stmt} {ts : TS} {tb : WX → TS}
end
end TSx

/-! Own layer, part Q56: a written dict of defs: its keys as a list, a def by its key, the call of a local name that holds one of them; except (C1, C2) without a name. -/
namespace TSx
open PySem L2 PySem.Spec PyProof.Rows
def Named : List DictEntry → List Str → Prop
  | [], [] => True
  | e :: es, k :: ks => (∃ t, e.key = .str k t) ∧ Named es ks
  | _, _ => False
theorem Named.len : ∀ {es : List DictEntry} {ks : List Str}, Named es ks → es.length = ks.length
  | [], [], _ => rfl
  | _ :: _, _ :: _, h => by rw [List.length_cons, List.length_cons, h.2.len]
  | [], _ :: _, h => h.elim
  | _ :: _, [], h => h.elim
theorem Named.at' : ∀ {es : List DictEntry} {ks : List Str}, Named es ks → ∀ {j : Nat} {e : DictEntry} {k : Str}, es[j]? = some e → ks[j]? = some k → ∃ t, e.key = .str k t
  | _ :: _, _ :: _, h, 0, _, _, h1, h2 => by cases h1; cases h2; exact h.1
  | _ :: _, _ :: _, h, j + 1, _, _, h1, h2 => h.2.at' (j := j) (by simpa using h1) (by simpa using h2)
  | [], _, _, _, _, _, h1, _ => by simp at h1
  | _ :: _, [], h, _, _, _, _, _ => h.elim
section
variable {w : World} {K : PySem.W.Frag} {EX : XK} {tA : TA} {av : AW}
/-! except (C1, C2) -/
end
end TSx

/-! Own layer, part Q57: sep.join(a text): its signs, one by one. -/
namespace TSx
open PySem L2
end TSx

/-! Own layer, part Q58: == of two instances of an own class by its own __eq__, which tells a truth value. -/
namespace TSx
open PySem L2
end TSx

/-! Own layer, part Q59: isinstance(x, C) where x is an instance of the own class C. -/
namespace TSx
open PySem L2
end TSx

/-! Own layer, part Q60: len of a name that holds a list, its own or one read as data. -/
namespace TSx
open PySem L2
end TSx

/-! Own layer, part Q61: exceptions made as values (by place, by keyword, bare), isinstance of them. -/
namespace TSx
open PySem L2 PySem.Spec PyProof.Rows
section
variable {X : Cx} {CX : CXT} {x : Str} {C fI : Addr} {k : Nat} {fd : FuncData} {ps ks : List Str} {sp : Sp} {p pos : Pos} {e : Expr} {es : List Expr} {kws : List Keyword} {ta tk : TA} {g : List Value → List Value} {gV : List V → List V}
theorem madeOK {pins : List (Addr × Obj)} {σ : Sg} {H1 : Hp} {s : Shared} {Q : VK} {ws : List Value} {zs : List V} (T : OofC X.K C) (iC : PySem.W.findIn X.K (.ref C) "__init__" = some (some (.ref fI))) (tI : PySem.W.typeIn X.K (.ref fI) = some (.type "function"))
    (F1 : FnOk X.prog X.w X.K X.mg X.base CX k fI fd ps sp) (hr : Room (k + 1) X.A) (hb : KwB fd ps ks g gV) (hx : Passes CX X (fun _ _ _ => False)) (I1 : L2.Inv X pins σ H1 s) (r1 : Vals zs ws) (hz : zs.length = ks.length)
    (q1 : ∀ a, H1 a = none → sp (.ref a :: gV zs) (upd H1 a (exo a C none)) (fun v H2 => v = .non ∧ ∃ (d : Addr) (fs : List (Str × V)), H2 a = some (exo a C (some d)) ∧ H2 d = some (exd d fs) ∧ Q (.ref a) (upd (upd H2 a (exq a C d)) d (.xd fs))) (fun _ _ _ => False)) :
    wpAny (model X.prog X.w) X.A (call (.ref C) [] (ks.zip ws)) (EP X pins σ Q) X.xe s := by
  obtain ⟨nm, q, N, bs, bm, sn, sub, ab, col, dd, k0, k1, k2, k3, k5, hC, hbm⟩ := T.cls
  obtain ⟨hp, gs, dr, tk, os⟩ := s
  have nw : H1 (hp.objs.size + 1) = none := I1.hok.fresh (Nat.le_succ _)
  have want := q1 _ nw
  have keep2 : ∀ b o, hp.get? b = some o → ((hp.push (PySem.W.kdv_tup [])).push (PySem.HandSPX.excO C hp.objs.size)).get? b = some o := by
    intro b o e
    exact Heap.get?_push_of_some _ (Heap.get?_push_of_some _ e)
  have there : ((hp.push (PySem.W.kdv_tup [])).push (PySem.HandSPX.excO C hp.objs.size)).get? (hp.objs.size + 1) = some (PySem.HandSPX.excO C hp.objs.size) := by heap_get
  have I2 : L2.Inv X pins σ (upd H1 (hp.objs.size + 1) (exo (hp.objs.size + 1) C none)) ⟨(hp.push (PySem.W.kdv_tup [])).push (PySem.HandSPX.excO C hp.objs.size), gs, dr, tk, os⟩ :=
    I1.laid (t' := tk) keep2 (Nat.le_succ _) (exo_ok there)
  have r2 : Vals (V.ref (hp.objs.size + 1) :: gV zs) (Value.ref (hp.objs.size + 1) :: g ws) := .cons rfl (hb.rel r1)
  have bd := hb.to ⟨(hp.push (PySem.W.kdv_tup [])).push (PySem.HandSPX.excO C hp.objs.size), gs, dr, tk, os⟩ (Value.ref (hp.objs.size + 1)) ws (by rw [← r1.length]; exact hz)
  refine wpAny_call (kw_call PySem.F.excBase_OverflowError (fun Y => PySem.W.excTail_contains Y bm hbm) (I1.kIn _ _ hC) (PySem.W.looks_findIn I1.kIn iC) (fun self => PySem.W.bind_fn I1.kIn self tI) ?_)
  refine codeAny_mono (F1.run _ X.stack _ _ ⟨[Value.ref (hp.objs.size + 1)], ks.zip ws⟩ (Value.ref (hp.objs.size + 1) :: g ws) _ _ (fun _ _ _ => False) (hr.make C [] (ks.zip ws)) (I2.env0.make C [] (ks.zip ws)) bd r2 want) fun o s' z => ?_
  match o, z with
  | .error er, z => exact hx pins σ _ _ er s' I2 z
  | .ok .next, z => exact False.elim z
  | .ok .brk, z => exact False.elim z
  | .ok .cont, z => exact False.elim z
  | .ok (.ret u), z =>
    obtain ⟨v, H2, os2, bare2, un2, ok2, rv, ev, d, fs, ea, ed, qq⟩ := z
    subst ev
    refine ⟨rv, ?_⟩
    obtain ⟨h2, g2, d2, t2, os'⟩ := s'
    have os2' : os' = os := os2
    subst os2'
    have J : L2.Inv X pins σ H2 ⟨h2, g2, d2, t2, os'⟩ := I2.call (h' := h2) (g' := g2) (d' := d2) (t' := t2) (ch := []) un2 ok2 bare2 (fun b z => absurd z (by simp))
    obtain ⟨t0, hoe⟩ := exo_at J.hok ea
    obtain ⟨mA, hns, rel⟩ := exd_at J.hok ed
    have nd : d ≠ hp.objs.size + 1 := fun z => by
      obtain ⟨o, es', ep, e1, e2, _⟩ := hns
      rw [z] at e1
      have e3 := hoe.symm.trans e1
      cases e3
      cases e2
    have J2 := Inv.retell (o := exq (hp.objs.size + 1) C d) J ea True.intro (exq_ok hoe ⟨rfl, rfl⟩ rfl)
    have J3 := Inv.retell (o := .xd fs) (u := exd d fs) J2 (by rw [upd_ne nd]; exact ed) True.intro ⟨mA, hns, rel⟩
    exact ⟨.ref _, _, J3, rfl, qq⟩
theorem pe_mkOK (T : OofC X.K C) (iC : PySem.W.findIn X.K (.ref C) "__init__" = some (some (.ref fI))) (tI : PySem.W.typeIn X.K (.ref fI) = some (.type "function"))
    (F1 : FnOk X.prog X.w X.K X.mg X.base CX k fI fd ps sp) (hr : Room (k + 1) X.A) (hb : KwB fd ps ks g gV) (hx : Passes CX X (fun _ _ _ => False)) (hm : X.mg x = some (.ref C)) (hkw : PK X kws tk) (hg : Gl X x := by rfl)
    (hall : (backToKw pos (keywordEach kws X.env)).all (·.1.isSome) = true := by rfl) (hks : (backToKw pos (keywordEach kws X.env)).filterMap (·.1) = ks := by rfl) (hdb : (x == ("__debug__" : Str)) = false := by decide)
    (hpl : ((backTo pos (starEach [] X.env)).any (·.1) || (backToKw pos (keywordEach kws X.env)).any (·.1.isNone)) = false := by rfl) :
    PE X (.Call (.Name x p) [] kws pos) (tMkK C ks.length sp gV tk) := by
  constructor
  intro pins s σ H Q I h
  refine wpAny_Call_Name_kw (ld_glob I hg hm ?_ hdb)
  refine PySem.W.callWith_KW0 (h₀ := X.base) I.ok.mod.kin T.kC hall ?_ hpl
  refine thn (hkw.run pos pins s σ H _ I h) fun ws s2 z => ?_
  obtain ⟨zs, H2, I2, rz, l, q2⟩ := z
  refine ⟨I2.kIn, ?_⟩
  rw [hks]
  exact madeOK T iC tI F1 hr hb hx I2 rz l q2
/-- C(e, ..), C without an __init__ of its own -/
def tMkB (C : Addr) (ta : TA) : TE := fun σ H Q => ta σ H fun vs H1 => vs.length ≤ 1000 ∧ ∀ a, H1 a = none → Q (.ref a) (upd H1 a (exo a C none))
theorem pe_mkB (T : OexC X.K C) (iC : PySem.W.findIn X.K (.ref C) "__init__" = some (some (.builtin "ValueError.__init__")))
    (hm : X.mg x = some (.ref C)) (ha : PA X (e :: es) ta) (hg : Gl X x := by rfl)
    (hdb : (x == ("__debug__" : Str)) = false := by decide) (he : starEach (e :: es) X.env = (false, eval e X.env) :: starEach es X.env := by rfl) (hpl : (backTo pos (starEach es X.env)).any (·.1) = false := by rfl) :
    PE X (.Call (.Name x p) (e :: es) [] pos) (tMkB C ta) := by
  constructor
  intro pins s σ H Q I h
  refine wpAny_Call_Name_kw (ld_glob I hg hm ?_ hdb)
  refine PySem.W.callWith_K (h₀ := X.base) I.ok.mod.kin T.kC (thn (ha.run pos pins s σ H _ I h) fun us s1 z => ?_) he hpl
  obtain ⟨vs, H1, I1, r1, hz, q1⟩ := z
  refine ⟨I1.kIn, ?_⟩
  obtain ⟨nm, q, N, bs, bm, sn, sub, ab, col, dd, k0, k1, k2, k3, k5, hC, hbm⟩ := T.cls
  have few : us.length ≤ sizeLine := by
    have := Paired.length r1
    rw [sizeLine_eq]
    omega
  obtain ⟨hp, gs, dr, tk', os⟩ := s1
  have nw : H1 (hp.objs.size + 1) = none := I1.hok.fresh (Nat.le_succ _)
  refine PySem.W.call_B PySem.F.excBase_ValueError (fun Y => PySem.HandSPX.refsVE_contains Y bm hbm) (I1.kIn _ _ hC) (PySem.W.looks_findIn I1.kIn iC) few fun h' kp he' ht => ?_
  exact ⟨.ref _, _, I1.laid (t' := tk') kp (Nat.le_succ _) (exo_ok he'), rfl, q1 _ nw⟩
end
/-- isinstance(e, c), e a bare exception -/
def rIsB (K : PySem.W.Frag) : List V → Hp → VK → Prop := fun xs H Q => ∃ (a C : Addr) (c : V) (cv : Value) (b : Bool), xs = [.ref a, c] ∧ H a = some (exo a C none) ∧ ExcC K C ∧ (∀ u, RelV c u → u = cv) ∧ PySem.W.kitOne K (.ref C) cv = some b ∧ Q (.bl b) H
theorem call_isB {X : Cx} : CallR X (.builtin "isinstance") (rIsB X.K) := by
  intro pins s σ H xs us Q I r h
  obtain ⟨a, C, c, cv, b, rfl, ea, T, hc, e, q⟩ := h
  obtain ⟨u1, u2, rfl, r1, r2⟩ := vals2 r
  cases (show u1 = Value.ref a from r1)
  have e2 := hc _ r2
  subst e2
  obtain ⟨t1, h1⟩ := exo_at I.hok ea
  have J : PySem.W.InstAt s.heap a _ C none := { at_ := h1, cls := rfl, no := by unfold PySem.W.notCls; rfl, dict := trivial }
  have isC : (PySem.W.clsIn X.K C).isSome = true := by
    obtain ⟨cd, hcd, _⟩ := PySem.W.any_some T.hd
    rw [hcd]
    rfl
  exact PySem.W.kia_one (PySem.W.kitx_exc isC T.hg T.hk T.hs T.ha T.hn T.ht T.hm) I.kIn J e (fun z => nomatch z) fun tk => ⟨.bl b, H, I.kept (t' := tk) fun _ _ z => z, rfl, q⟩
def rIsY (K : PySem.W.Frag) : List V → Hp → VK → Prop := fun xs H Q => rIsX K xs H Q ∨ rIsB K xs H Q
theorem call_isY {X : Cx} : CallR X (.builtin "isinstance") (rIsY X.K) := by
  intro pins s σ H xs us Q I r h
  rcases h with h | h
  · exact call_isX pins s σ H xs us Q I r h
  · exact call_isB pins s σ H xs us Q I r h
theorem call_isYK {X : Cx} {K : PySem.W.Frag} (hK : X.K = K) : CallR X (.builtin "isinstance") (rIsY K) := by
  subst hK
  exact call_isY
/-! readings -/
/-- what is an exception of the class C -/
def isEx (r : Rs) (d : D) (C : Addr) : Prop := (∃ fs, d = .exc C fs) ∨ ∃ a, d = .ob a ∧ r.μ a = some (.bx C)
def eIsYW (K : PySem.W.Frag) (c : V) (e : EW) : EW := fun Z δ r P => e Z δ r fun d r1 => ∃ C cv b, isEx r1 d C ∧ ExcC K C ∧ (∀ u, RelV c u → u = cv) ∧ PySem.W.kitOne K (.ref C) cv = some b ∧ P (.bl b) r1
def eMkXW (C : Addr) (f : Str) (e : EW) : EW := fun Z δ r P => e Z δ r fun d r1 => P (.exc C [(f, d)]) r1
def eMkBW (C : Addr) (e : EW) : EW := fun Z δ r P => e Z δ r fun _ r1 => ∀ a, r1.μ a = none → P (.ob a) (r1.put a (.bx C))
section
variable {w : World} {K : PySem.W.Frag} {EX : XK} {te : TE} {ee : EW} {C : Addr} {f : Str}
theorem sw_isY {c : V} (ha : SndEW w K EX te ee) : SndEW w K EX (tCB (rIsY K) (tCons te (tCons (tC c) tNil))) (eIsYW K c ee) := fun U σ δ H r Z P Q ok rel x h k =>
  ha U σ δ H r Z _ _ ok rel x h fun d r1 v H1 h1 s1 ok1 a1 => by
    obtain ⟨C, cv, b, hd, T, hc, hk, p⟩ := h1
    rcases hd with ⟨fs, rfl⟩ | ⟨a, rfl, hm⟩
    · cases a1 with
      | @exc p' C dd xs ds e1 e2 e3 => exact Or.inl ⟨p', C, dd, xs, c, cv, b, rfl, (se_of e1).2.2, (se_of e2).2.2, T, hc, hk, k _ _ _ _ p s1 ok1 (.bl b)⟩
    · cases a1
      have e : H1 a = some (exo a C none) := ok1.st a _ hm
      exact Or.inr ⟨a, C, c, cv, b, rfl, e, T, hc, hk, k _ _ _ _ p s1 ok1 (.bl b)⟩
theorem made_in {U : Vw} {H1 : Hp} {r1 : Rs} {p dd : Addr} {v : V} {d : D} {Q : VK} {P : D → Rs → Prop} {σ0 : Unit} (ok1 : OkW w K U H1 r1) (a1 : Dt K (U.se r1 H1) v d) (np : H1 p = none) (nd : (upd H1 p (exo p C none)) dd = none) (ne : dd ≠ p)
    (k : ∀ H', Same H1 H' → OkW w K U H' r1 → Dt K (U.se r1 H') (.ref p) (.exc C [(f, d)]) → Q (.ref p) H') :
    Q (.ref p) (upd (upd (upd (upd (upd H1 p (exo p C none)) dd (exd dd [(f, v)])) p (exo p C (some dd))) p (exq p C dd)) dd (.xd [(f, v)])) := by
  have g := made_gr (C := C) (f := f) (x := v) np nd ne
  have ok2 := ok1.same g
  have nd' : H1 dd = none := by rw [upd_ne ne] at nd; exact nd
  have zp := ok1.free np
  have zd := ok1.free nd'
  refine k _ g ok2 (.exc (d := dd) (xs := [(f, v)]) ?_ ?_ (.cons (a1.gr (see_same g)) .nil))
  · rw [se_at zp.1 zp.2, upd_ne (Ne.symm ne), upd_same]
  · rw [se_at zd.1 zd.2, upd_same]
theorem sw_mkX (ha : SndEW w K EX te ee) : SndEW w K EX (tMkX C (spIni C f) (tCons te tNil)) (eMkXW C f ee) := fun U σ δ H r Z P Q ok rel x h k =>
  ha U σ δ H r Z _ _ ok rel x h fun d r1 v H1 h1 s1 ok1 a1 =>
    ⟨(show 1 ≤ 1000 by decide), fun p np => ⟨p, v, rfl, upd_same, fun dd nd ne => ⟨rfl, dd, [(f, v)], upd_same, by rw [upd_ne ne, upd_same], made_in (σ0 := ()) (P := P) ok1 a1 np nd ne fun H' sm ok' a' => k _ _ _ _ h1 (s1.tr (StW.same sm)) ok' a'⟩⟩⟩
theorem sw_mkK (ha : SndEW w K EX te ee) : SndEW w K EX (tMkK C 1 (spIni C f) id (tCons te tNil)) (eMkXW C f ee) := fun U σ δ H r Z P Q ok rel x h k =>
  ha U σ δ H r Z _ _ ok rel x h fun d r1 v H1 h1 s1 ok1 a1 =>
    ⟨rfl, fun p np => ⟨p, v, rfl, upd_same, fun dd nd ne => ⟨rfl, dd, [(f, v)], upd_same, by rw [upd_ne ne, upd_same], made_in (σ0 := ()) (P := P) ok1 a1 np nd ne fun H' sm ok' a' => k _ _ _ _ h1 (s1.tr (StW.same sm)) ok' a'⟩⟩⟩
theorem sw_mkB (ha : SndEW w K EX te ee) : SndEW w K EX (tMkB C (tCons te tNil)) (eMkBW C ee) := fun U σ δ H r Z P Q ok rel x h k =>
  ha U σ δ H r Z _ _ ok rel x h fun d r1 v H1 h1 s1 ok1 a1 => ⟨(show 1 ≤ 1000 by decide), fun p np => by
    obtain ⟨ok2, s2⟩ := ok1.track np (ho := exo p C none) (o := .bx C) fun G _ => upd_same
    exact k _ _ _ _ (h1 p (ok1.free np).2) (s1.tr s2) ok2 (.ob p)⟩
end
/-! what is never come to -/
def tNev : TE := fun _ _ _ => False
def eNevW : EW := fun _ _ _ _ => False
theorem pe_nev {X : Cx} {e : Expr} : PE X e tNev := by
  constructor
  intro pins s σ H Q I h
  exact h.elim
theorem sw_nev {w : World} {K : PySem.W.Frag} {EX : XK} : SndEW w K EX tNev eNevW := by
  intro U σ δ H r Z P Q ok rel x h k
  exact h.elim
end TSx

/-! Own layer, part Q62: a def that raises nothing, called where an exception is handled. -/
namespace TSx
open PySem L2 PySem.Spec PyProof.Rows
/-- a def's promise beside a handled exception -/
structure FnQ (P : Program) (w : World) (K : PySem.W.Frag) (mg : Str → Option Value) (base : Heap) (k : Nat) (f : Addr) (fd : FuncData) (ps : List Str) (sp : Sp) : Prop where
  sized : ∀ vs H Q E, sp vs H Q E → vs.length = ps.length
  go : ∀ (A : Around) (a : Addr) (outer : List Env) (s : Shared) (H : Hp) (args : Args) (us : List Value) (vs : List V) (Q : VK) (E : XK),
    Room k A → Env0 P w K mg base A outer s H → BindsTo s fd args (ps.zip us) → Vals vs us → sp vs H Q E →
    codeAny (model P w) (A.mark (some (.ref a))) (.call (.ref f) args) (CR CX0 outer P w H s Q E) s
theorem fnq_of {P : Program} {w : World} {K : PySem.W.Frag} {mg : Str → Option Value} {base : Heap} {k : Nat} {f : Addr} {x qual : Str} {st : Stmt} {fd : FuncData} {N ps : List Str} {sp : Sp}
    (F : L2.Fun K x qual st f fd) (S : FnScope N ps (defScope st)) (sz : ∀ vs H Q E, sp vs H Q E → vs.length = ps.length)
    (B : ∀ (cdv : Value) (A : Around) (a : Addr) (outer : List Env) (s : Shared) (H : Hp) (vs : List V) (Q : VK) (E : XK), Room k (A.deeper (envOfC qual (defScope st) s.heap.objs.size f cdv)) → sp vs H Q E →
      ∃ t, PSs ((cxOf CX0 P w K mg base N qual (defScope st) f cdv A outer s H E).suite a []) (defBody st) t ∧ t { nx := fun _ H' => Q .non H', rt := Q } (start N vs) H) :
    FnQ P w K mg base (k + 1) f fd ps sp := by
  obtain ⟨oc, od, kV, doc, pm, an, cdv, ct, osl, rfl, lk, hcd⟩ := F.ex
  refine ⟨sz, fun A a outer s H args us vs Q E hr e0 hb r hsp => ?_⟩
  obtain ⟨t, ht, hq⟩ := B cdv A a outer s H vs Q E (hr.deeper _) hsp
  have KX : K.In s.heap := e0.mod.kin.keeps fun b o e => (e0.bs b o e).1
  refine codeAny_call_function (show (A.mark (some (.ref a))).depth < _ from hr.depth) (KX _ _ lk) rfl S.co S.gen rfl (PySem.W.codeRec_of KX hcd) (hb _ _ _ _ ?_)
  have kinds : ∀ y ∈ ps.zip us, (defScope st).names.lookup y.1 = some .local ∨ ((defScope st).names.lookup y.1 = some .cell ∧ ((cellsFrom (s.heap.objs.size + 1) (defScope st).names []).lookup y.1).isSome = true) := by
    intro y hy
    obtain ⟨n, v⟩ := y
    cases S.par n (List.of_mem_zip hy).1 with
    | inl q => exact Or.inl q
    | inr q => exact Or.inr ⟨q, PySem.W.cellsFrom_some _ _ _ (Or.inl q)⟩
  refine wpAny_newFunctionEnv_cells S.kind kinds fun env he s1 ic => ?_
  subst he
  have nolim : s.heap.NoLimit := e0.mod.nolimit.keeps fun b o e => (e0.bs b o e).1
  refine ⟨nolim.keeps ic.toInCall.keep, codeAny_func ?_⟩
  have J := suite_in (inv_start (CX := CX0) (E := E) S hr.hd e0 (sz _ _ _ _ hsp) r ic) a
  refine wpAny_mono (ht.run [] s1 (start N vs) H _ J hq) (fun fl s' z => ?_) fun _ _ z => False.elim z
  match fl, z with
  | .ret u, z =>
    obtain ⟨v, σ', H', I, rv, q⟩ := z
    exact ⟨v, H', I.os, I.bare, I.base, I.hok, rv, q⟩
  | .next, z =>
    obtain ⟨σ', H', I, q⟩ := z
    exact ⟨V.non, H', I.os, I.bare, I.base, I.hok, rfl, q⟩
  | .brk, z =>
    obtain ⟨_, _, _, q⟩ := z
    exact q.elim
  | .cont, z =>
    obtain ⟨_, _, _, q⟩ := z
    exact q.elim
/-- a def that is ready to be called there -/
structure DoQ (P : Program) (w : World) (K : PySem.W.Frag) (mg : Str → Option Value) (base : Heap) (k : Nat) (nm : Str) (ps : List Str) (sp : Sp) (f : Addr) (fd : FuncData) : Prop where
  G : FnQ P w K mg base k f fd ps sp
  g : mg nm = some (.ref f)
  k : PySem.W.keepIn K (.ref f) = true
  b : Binds K fd ps []
section
variable {X : Cx} {a : Addr} {pn : List (Addr × Obj)} {k : Nat} {f : Addr} {fd : FuncData} {ps : List Str} {sp : Sp} {x : Str} {p pos : Pos} {e : Expr} {es : List Expr} {t : TA}
theorem runQ {pins : List (Addr × Obj)} {σ : L2.St} {H : Hp} {s : Shared} {Q : VK} {us : List Value} {vs : List V} {EE : XK} (F : FnQ X.prog X.w X.K X.mg X.base k f fd ps sp) (hr : Room k X.A) (hb : Binds X.K fd ps [])
    (I : Inv (X.suite a pn) pins σ H s) (r : Vals vs us) (h : sp vs H Q EE) : wpAny (model X.prog X.w) (X.suite a pn).A (call (.ref f) us) (EP (X.suite a pn) pins σ Q) (X.suite a pn).xe s := by
  have hl : us.length = ps.length := by rw [← r.length]; exact F.sized _ _ _ _ h
  have bb : BindsTo s fd ⟨us, []⟩ (ps.zip us) := by
    have q := hb s us I.kIn (by rw [List.append_nil]; exact hl)
    rw [List.append_nil] at q
    exact q
  have e0 := I.env0
  have e1 : Env0 X.prog X.w X.K X.mg X.base X.A X.stack s H := ⟨e0.frames, e0.mod, e0.bs, e0.bsz, e0.funs, e0.frf, e0.hok, e0.bare⟩
  refine wpAny_call (codeAny_mono (F.go X.A a X.stack s H ⟨us, []⟩ us vs Q EE hr e1 bb r h) fun o s' z => ?_)
  match o, z with
  | .error y, z => exact z
  | .ok (.ret u), z => exact I.after z
  | .ok .next, z => exact False.elim z
  | .ok .brk, z => exact False.elim z
  | .ok .cont, z => exact False.elim z
theorem pe_callQ (F : FnQ X.prog X.w X.K X.mg X.base k f fd ps sp) (hr : Room k X.A) (hg : Gl (X.suite a pn) x) (hm : X.mg x = some (.ref f)) (hk : PySem.W.keepIn X.K (.ref f) = true) (hb : Binds X.K fd ps [])
    (ha : PA (X.suite a pn) (e :: es) t) (hdb : (x == ("__debug__" : Str)) = false := by decide) (he : starEach (e :: es) (X.suite a pn).env = (false, eval e (X.suite a pn).env) :: starEach es (X.suite a pn).env := by rfl) (hpl : (backTo pos (starEach es (X.suite a pn).env)).any (·.1) = false := by rfl) :
    PE (X.suite a pn) (.Call (.Name x p) (e :: es) [] pos) (tCall sp [] E0 t) := by
  constructor
  intro pins s σ H Q I h
  refine wpAny_Call_Name_kw (ld_glob I hg hm ?_ hdb)
  refine PySem.W.callWith_K (h₀ := X.base) I.ok.mod.kin hk (thn (ha.run pos pins s σ H _ I h) fun us s1 z => ?_) he hpl
  obtain ⟨vs, H1, I1, r, q⟩ := z
  have q' : sp vs H1 Q E0 := by
    have := q
    rw [List.append_nil] at this
    exact this
  exact ⟨I1.kIn, runQ (X := X) F hr hb I1 r q'⟩
end
end TSx

namespace TSx
open PySem L2
local macro_rules | `(tactic| walk_at "rd") => `(tactic| repeat (first
  | ((with_reducible show tVar _ _ _ _); refine r_v rfl ?_)
  | with_reducible refine r_c ?_
  | with_reducible refine r_op ?_
  | with_reducible refine r_I0 ?_
  | with_reducible refine r_cb ?_
  | with_reducible refine r_nil ?_
  | with_reducible refine r_cons ?_
  | with_reducible refine r_seq ?_
  | with_reducible refine r_next ?_
  | with_reducible refine r_asg ?_
  | with_reducible refine r_name ?_
  | with_reducible refine r_ret ?_
  | with_reducible refine r_drop ?_
  | with_reducible refine r_if ?_
  | with_reducible refine r_test ?_
  | with_reducible refine r_bl ?_
  | with_reducible refine r_int1 ?_
  | ((with_reducible refine r_mul ?hm ?_); (case hm => first | exact cmR (by omega) (by omega) | exact cmL (by omega) (by omega)))
  | ((with_reducible refine r_div ?hm ?_); (case hm => exact cdv (by omega) (by omega)))
  | ((with_reducible refine r_mod ?hm ?_); (case hm => omega))
  | with_reducible refine r_sub ?_
  | with_reducible refine r_dget ?_
  | with_reducible refine r_dput ?_
  | with_reducible refine r_lst ?_
  | with_reducible refine r_call ?_))
section
def top (i : Nat) : Stmt := PySem.Challenge.pw_termseats_k19_errors_of_the_first_part.main.body.getD i (.Pass ⟨0, 0, 0, 0⟩)
abbrev sMixed : Stmt := top 72
theorem scMixed : FnScope ["cell", "n", "blend"] ["cell", "n"] (defScope sMixed) := ⟨rfl, rfl, rfl, by decide +kernel, rfl, by decide +kernel, by decide +kernel⟩
section
variable {P : Program} {w : World} {K : PySem.W.Frag} {mg : Str → Option Value} {base : Heap}
theorem ok_mixed {f : Addr} {fd : FuncData} (F : L2.Fun K "_law_mixed" "_law_mixed" sMixed f fd) (T : Blt mg) : FnOk P w K mg base CX0 1 f fd ["cell", "n"] spMixed := by
  refine F.ok scMixed (fun vs H Q E h => ?_) (fun cdv A outer s H vs Q E hr h => ?_)
  · obtain ⟨c, n, rfl, _⟩ := h
    rfl
  · obtain ⟨c, n, rfl, c0, c1, n0, n1, k⟩ := h
    refine ⟨_, pss_cons (ps_set (i := 2) scMixed.nd rfl (Or.inl rfl)
        (pe_op op_add (pe_op op_add (pe_op op_mod (pe_callTy call_intI (by rfl) T.int PyProof.Rows.boot_int (pa_cons (pe_op op_mul (pe_op op_mul (pv 0) (pe_op op_add pe_int (pe_op op_mul pe_int (pv 1)))) pe_int) pa_nil)) pe_int)
          (pe_op op_mul (pe_op op_mul pe_int (pv 1)) (pv 1))) (pe_op op_mul pe_int (pv 1))))
      (pss_one (ps_ret (pe_op op_fdiv (pe_op op_mod (pe_callTy call_intI (by rfl) T.int PyProof.Rows.boot_int (pa_cons (pe_op op_mul (pv 2) pe_int) pa_nil)) pe_int) pe_int))), ?_⟩
    walk_at "rd"
    exact k _ (by omega) (by omega)
abbrev sFolded : Stmt := top 73
theorem scFolded : FnScope ["script", "found", "n", "cell"] ["script"] (defScope sFolded) := ⟨rfl, rfl, rfl, by decide +kernel, rfl, by decide +kernel, by decide +kernel⟩
theorem ok_folded {f : Addr} {fd : FuncData} (F : L2.Fun K "_law_folded" "_law_folded" sFolded f fd) (T : Blt mg) : FnOk P w K mg base CX0 1 f fd ["script"] (spFolded K) := by
  refine F.ok scFolded (fun vs H Q E h => ?_) (fun cdv A outer s H vs Q E hr h => ?_)
  · obtain ⟨a, ns, rfl, _⟩ := h
    rfl
  · obtain ⟨a, ns, rfl, hS, hz, k⟩ := h
    refine ⟨_, pss_cons (ps_setLc (i := 1) (own := [("n", 2)]) (g := gName 2) (tt := tYes) rfl scFolded.nd rfl rfl (sw_true rfl rfl rfl (by decide +kernel)) (pi_range1 rfl T.range (pa_cons pe_int pa_nil)) (blkOk_by (N := ["script", "found", "n", "cell"]) (sc := defScope sFolded) (by decide +kernel))
        (fun _ _ _ _ _ => pg_name (i := 2) scFolded.nd rfl (Or.inl rfl)) (fun _ _ _ _ _ => pts_nil) (fun _ _ _ _ _ => pe_op op_add pe_int (pv 2)))
      (pss_cons (ps_for PassesOwn.never rfl (pi_enum (by rfl) T.enumerate (pa_cons (pv 0) pa_nil)) (pg_tup rfl (pgs_cons (pg_name (i := 2) scFolded.nd rfl (Or.inl rfl)) (pgs_cons (pg_name (i := 3) scFolded.nd rfl (Or.inl rfl)) pgs_nil)))
        (pss_one (ps_asg (pe_op op_mod (pe_callTy call_intI (by rfl) T.int PyProof.Rows.boot_int (pa_cons (pe_op op_add (pe_op op_mul (pe_ix ix_list (pv 1) (pe_op op_mod (pe_callTy call_intI (by rfl) T.int PyProof.Rows.boot_int (pa_cons (pv 2) pa_nil)) pe_int) (fun _ _ => rfl)) pe_int) (pv 3)) pa_nil)) pe_int)
          (pg_sub (pv 1) (pe_op op_mod (pe_callTy call_intI (by rfl) T.int PyProof.Rows.boot_int (pa_cons (pv 2) pa_nil)) pe_int) set_list))))
      (pss_cons (ps_for PassesOwn.never rfl (pi_range2 rfl T.range (pa_cons pe_int (pa_cons pe_int pa_nil))) (pg_name (i := 2) scFolded.nd rfl (Or.inl rfl))
        (pss_one (ps_asg (pe_op op_mod (pe_callTy call_intI (by rfl) T.int PyProof.Rows.boot_int (pa_cons (pe_op op_add (pe_ix ix_list (pv 1) (pv 2) (fun _ _ => rfl)) (pe_op op_mul (pe_ix ix_list (pv 1) (pe_op op_sub (pv 2) pe_int) (fun _ _ => rfl)) pe_int)) pa_nil)) pe_int)
          (pg_sub (pv 1) (pv 2) set_list))))
      (pss_one (ps_ret (pv 1))))), ?_⟩
    walk_at "rd"
    refine ⟨64, rfl, by decide, by decide, fun D hD => lc_range (lo := 0) (n := 64) (fun i H' => ∃ cs : List Int, cs.length = i ∧ (∀ c ∈ cs, 0 ≤ c ∧ c < 2147483647) ∧ H' D = some (.lst (cs.map V.int)) ∧ Same H H')
      ⟨[], rfl, by simp, upd_same, same_new hD⟩ ?_ ?_⟩
    · rintro i H' hi ⟨cs, hl, hc, hD', hs⟩
      refine ⟨rfl, r_yes ?_⟩
      walk_at "rd"
      refine ⟨_, hD', ?_, ?_⟩
      · rw [List.length_map]; exact sz2 (by omega)
      · refine ⟨cs ++ [17 + (0 + (i : Int))], by rw [List.length_append, hl]; rfl, fun c hm => ?_, ?_, same_mut hs hD⟩
        · rcases List.mem_append.mp hm with z | z
          · exact hc c z
          · rw [List.mem_singleton.mp z]; omega
        · rw [upd_same, List.map_append]; rfl
    · rintro H' ⟨cs, hl, hc, hD', hs⟩
      walk_at "rd"
      refine ⟨_, rfl, a, _, rfl, hs.seq hS, for_it (walk_enum (K := K) (a := a) (xs := ns.map V.int)) (fun i σ H2 => ∃ (cs : List Int) (x y : Option V), σ = [some (.ref a), some (.ref D), x, y] ∧ Cells cs ∧ H2 D = some (.lst (cs.map V.int)) ∧ Same H H2)
        ⟨cs, _, _, rfl, ⟨hl, hc⟩, hD', hs⟩ (fun i σ H2 _ z => by obtain ⟨_, _, _, _, _, _, z⟩ := z; exact z.seq hS) ?_ ?_⟩
      · rintro i v σ H2 H3 hi ⟨cs, x, y, rfl, hC, hD2, s2⟩ ⟨T, x', y', rfl, nT, rfl, e1, e2⟩
        cases e1
        replace e2 : (List.map V.int ns)[i]? = some y' := e2
        obtain ⟨z, rfl⟩ : ∃ z, y' = V.int z := by
          rw [List.getElem?_map] at e2
          cases q : ns[i]? with
          | none => rw [q] at e2; cases e2
          | some z => rw [q] at e2; cases e2; exact ⟨z, rfl⟩
        have hT : ∀ {u : HO}, (upd H2 T u) D = some (.lst (cs.map V.int)) := fun {u} => by rw [upd_ne (ne_of_none hD2 nT)]; exact hD2
        have sT : ∀ {u : HO}, Same H (upd H2 T u) := fun {u} => s2.trans (same_new nT)
        have hlt : i % 64 < cs.length := by rw [hC.len]; omega
        obtain ⟨c, hc1, hc2⟩ := at_int hlt
        have hb := hC.low c hc1
        refine ⟨T, _, rfl, SqT.of upd_same, rfl, _, _, rfl, _, _, rfl, rfl, ?_⟩
        walk_at "rd"
        refine r_ixL hT (by rw [show ((i : Int) % 64) = ((i % 64 : Nat) : Int) by omega]; exact hc2) ?_
        walk_at "rd"
        refine r_setL hT (j := i % 64) (by rw [List.length_map, show ((i : Int) % 64) = ((i % 64 : Nat) : Int) by omega]; exact ixN_int hlt) ?_
        rw [map_set]
        exact ⟨_, _, _, rfl, hC.set _ (by omega) (by omega), upd_same, same_mut sT hD⟩
      · rintro σ H2 ⟨cs, x, y, rfl, hC, hD2, s2⟩
        walk_at "rd"
        refine ⟨1, 64, rfl, ⟨by decide, by decide, by decide, by decide⟩, for_range (lo := 1) (n := 63) (fun i σ H2 => ∃ (cs : List Int) (x y : Option V), σ = [some (.ref a), some (.ref D), x, y] ∧ Cells cs ∧ H2 D = some (.lst (cs.map V.int)) ∧ Same H H2)
          ⟨cs, _, _, rfl, hC, hD2, s2⟩ ?_ ?_⟩
        · rintro i σ H2 hi ⟨cs, x, y, rfl, hC, hD2, s2⟩
          have l1 : i + 1 < cs.length := by rw [hC.len]; omega
          have l2 : i < cs.length := by rw [hC.len]; omega
          obtain ⟨c, hc1, hc2⟩ := at_int l1
          obtain ⟨d, hd1, hd2⟩ := at_int l2
          have hb := hC.low c hc1
          have hb2 := hC.low d hd1
          walk_at "rd"
          refine r_ixL hD2 (by rw [show ((1 : Int) + (i : Int)) = ((i + 1 : Nat) : Int) by omega]; exact hc2) ?_
          walk_at "rd"
          refine r_ixL hD2 (by rw [show ((1 : Int) + (i : Int) - 1) = ((i : Nat) : Int) by omega]; exact hd2) ?_
          walk_at "rd"
          refine r_setL hD2 (j := i + 1) (by rw [List.length_map, show ((1 : Int) + (i : Int)) = ((i + 1 : Nat) : Int) by omega]; exact ixN_int l1) ?_
          rw [map_set]
          exact ⟨_, _, _, rfl, hC.set _ (by omega) (by omega), upd_same, same_mut s2 hD⟩
        · rintro σ H2 ⟨cs, x, y, rfl, hC, hD2, s2⟩
          walk_at "rd"
          exact k _ D cs hD s2 hC hD2
abbrev sDraw : Stmt := top 74
theorem scDraw : FnScope ["m", "limit", "n", "lot", "here", "cell"] ["m", "limit"] (defScope sDraw) := ⟨rfl, rfl, rfl, by decide +kernel, rfl, by decide +kernel, by decide +kernel⟩
theorem ok_draw {f fM : Addr} {fd fdM : FuncData} (F : L2.Fun K "_law_draw" "_law_draw" sDraw f fd) (T : Blt mg) (FM : L2.Fun K "_law_mixed" "_law_mixed" sMixed fM fdM) (gM : mg "_law_mixed" = some (.ref fM)) (bM : Binds K fdM ["cell", "n"] []) : FnOk P w K mg base CX0 2 f fd ["m", "limit"] spDraw := by
  have GM : FnOk P w K mg base CX0 1 fM fdM ["cell", "n"] spMixed := ok_mixed FM T
  refine F.ok scDraw (fun vs H Q E h => ?_) (fun cdv A outer s H vs Q E hr h => ?_)
  · obtain ⟨m, c, g, r, l, rfl, _⟩ := h
    rfl
  · obtain ⟨m, c, g, r, l, rfl, l0, l1, ⟨⟨n, cs, gs, h1, h2, h3, hC, hg, hn⟩, ne⟩, k⟩ := h
    have hu := hu_of hr
    have kpM : PySem.W.keepIn K (.ref fM) = true := FM.kp
    refine ⟨_, pss_cons (ps_set (i := 2) scDraw.nd rfl (Or.inl rfl) (pe_dget hu (pv 0) pe_str (fun _ _ => rfl)))
      (pss_cons (ps_dput hu (pv 0) pe_str (pe_op op_add (pv 2) pe_int) rfl)
      (pss_cons (ps_if (pt_cmpR (op_neD hr.units) (pe_dget hu (pv 0) pe_str (fun _ _ => rfl)) (pe_lst pa_nil) (nomark _))
        (pss_cons (ps_set (i := 3) scDraw.nd rfl (Or.inl rfl) (pe_dget hu (pv 0) pe_str (fun _ _ => rfl)))
        (pss_cons (ps_set (i := 4) scDraw.nd rfl (Or.inl rfl) (pe_op op_mod (pe_callTy call_intI (by rfl) T.int PyProof.Rows.boot_int (pa_cons (pv 2) pa_nil)) (pe_callB call_len_seq (by rfl) T.len PySem.boot_len (pa_cons (pv 3) pa_nil))))
        (pss_cons (ps_set (i := 5) scDraw.nd rfl (Or.inl rfl) (pe_ix ix_list (pv 3) (pv 4) (fun _ _ => rfl)))
        (pss_one (ps_if (pt_cmpR op_gt (pv 5) pe_int (nomark _))
          (pss_cons (ps_asg (pe_op op_fdiv (pv 5) (pv 1)) (pg_sub (pv 3) (pv 4) set_list))
          (pss_one (ps_ret (pe_op op_mod (pe_callTy call_intI (by rfl) T.int PyProof.Rows.boot_int (pa_cons (pv 5) pa_nil)) (pv 1))))) pss_nil))))) pss_nil)
      (pss_cons (ps_set (i := 3) scDraw.nd rfl (Or.inl rfl) (pe_dget hu (pv 0) pe_str (fun _ _ => rfl)))
      (pss_one (ps_ret (pe_op op_mod (pe_callTy call_intI (by rfl) T.int PyProof.Rows.boot_int (pa_cons
        (pe_call GM hr rfl gM kpM bM .nil pass0 (pa_cons (pe_call GM hr rfl gM kpM bM .nil pass0 (pa_cons (pe_op op_add (pe_ix ix_list (pv 3) (pe_op op_mod (pe_callTy call_intI (by rfl) T.int PyProof.Rows.boot_int (pa_cons (pv 2) pa_nil)) pe_int) (fun _ _ => rfl)) (pe_op op_mul pe_int (pe_op op_fdiv (pv 2) pe_int))) (pa_cons (pv 2) pa_nil)))
          (pa_cons (pe_op op_add (pv 2) pe_int) pa_nil))) pa_nil)) (pv 1))))))), ?_⟩
    -- n = m["spot"]; m["spot"] = n + 1
    have mc : c ≠ m := fun e => by rw [e, h1] at h2; cases h2
    have mg' : g ≠ m := fun e => by rw [e, h1] at h3; cases h3
    have c2 : ∀ u, (upd H m u) c = some (.lst (cs.map V.int)) := fun u => by rw [upd_ne mc]; exact h2
    have g2 : ∀ u, (upd H m u) g = some (.lst (gs.map V.int)) := fun u => by rw [upd_ne mg']; exact h3
    walk_at "rd"
    refine ⟨m, _, rfl, dg_spot h1, ?_⟩
    walk_at "rd"
    refine ⟨m, _, rfl, dp_spot h1, ?_⟩
    have hm : (upd H m (.dK (kvM c g ((n : Int) + 1)))) m = some (.dK (kvM c g ((n : Int) + 1))) := upd_same
    generalize hH1 : upd H m (.dK (kvM c g ((n : Int) + 1))) = H1
    have c3 : H1 c = some (.lst (cs.map V.int)) := by rw [← hH1]; exact c2 _
    have g3 : H1 g = some (.lst (gs.map V.int)) := by rw [← hH1]; exact g2 _
    rw [hH1] at hm
    have kp1 : Kp m g H H1 := fun b o b1 b2 e => by rw [← hH1, upd_ne b1]; exact e
    have cast1 : ((n : Int) + 1) = ((n + 1 : Nat) : Int) := by omega
    -- if m["great"] != []
    walk_at "rd"
    refine ⟨m, _, rfl, dg_great hm, ?_⟩
    walk_at "rd"
    refine ⟨Nat.zero_le _, fun p np => ?_⟩
    have sp : Same H1 (upd H1 p (.lst [])) := same_new np
    refine r_neD (d := .lst (gs.map D.int)) (e := .lst []) (.lst (sp _ _ g3) (dts gs)) (.lst upd_same .nil) (pl_ints gs) rfl (depth_ints gs) (by decide) ?_
    refine r_bl ?_
    have hm2 := sp _ _ hm
    have g4 := sp _ _ g3
    have c4 := sp _ _ c3
    have kp2 : Kp m g H (upd H1 p (.lst [])) := kp1.tr (Kp.of sp)
    generalize upd H1 p (.lst []) = H2 at hm2 g4 c4 kp2 ⊢
    have e0 : PyData.eqv (D.lst (gs.map D.int)).py (D.lst []).py = gs.isEmpty := eqv_nil gs
    rw [e0]
    have fin : ∀ (v : Int) (H3 : Hp) (gs' : List Int), 0 ≤ v → v < l → H3 m = some (.dK (kvM c g ((n : Int) + 1))) → H3 c = some (.lst (cs.map V.int)) → H3 g = some (.lst (gs'.map V.int)) → gs'.length ≤ 63 → Kp m g H H3 → Q (.int v) H3 := fun v H3 gs' v0 v1 a1 a2 a3 a4 a5 =>
      k v H3 v0 v1 ⟨⟨n + 1, cs, gs', by rw [a1, cast1], a2, a3, hC, a4, by omega⟩, ne⟩ a5
    cases gs with
    | nil =>
      refine r_ifF rfl ?_
      walk_at "rd"
      refine ⟨m, _, rfl, dg_cells hm2, ?_⟩
      walk_at "rd"
      have hlt : n % 64 < cs.length := by rw [hC.len]; omega
      obtain ⟨x, hx1, hx2⟩ := at_int hlt
      have hb := hC.low x hx1
      refine r_ixL c4 (by rw [show ((n : Int) % 64) = ((n % 64 : Nat) : Int) by omega]; exact hx2) ?_
      walk_at "rd"
      refine ⟨_, _, rfl, by omega, by omega, by omega, by omega, fun v v0 v1 => ?_⟩
      walk_at "rd"
      refine ⟨_, _, rfl, by omega, by omega, by omega, by omega, fun v' v0' v1' => ?_⟩
      walk_at "rd"
      exact fin _ H2 [] (Int.emod_nonneg _ (by omega)) (Int.emod_lt_of_pos _ l0) hm2 c4 g4 hg kp2
    | cons a0 gs0 =>
      refine r_ifT rfl ?_
      walk_at "rd"
      refine ⟨m, _, rfl, dg_great hm2, ?_⟩
      walk_at "rd"
      refine ⟨g, _, rfl, Or.inl (SqL.of g4), ?_⟩
      have len0 : ((List.map V.int (a0 :: gs0)).length : Int) = ((gs0.length + 1 : Nat) : Int) := by simp
      rw [len0]
      walk_at "rd"
      have hlt : n % (gs0.length + 1) < (a0 :: gs0).length := Nat.mod_lt _ (Nat.succ_pos _)
      have em : ((n : Int) % ((gs0.length + 1 : Nat) : Int)) = ((n % (gs0.length + 1) : Nat) : Int) := by simp
      obtain ⟨x, hx1, hx2⟩ := at_int hlt
      refine r_ixL g4 (by rw [em]; exact hx2) ?_
      walk_at "rd"
      by_cases xp : 0 < x
      · refine r_ifT (decide_eq_true xp) ?_
        walk_at "rd"
        refine r_setL g4 (j := n % (gs0.length + 1)) (by rw [List.length_map, em]; exact ixN_int hlt) ?_
        walk_at "rd"
        rw [map_set]
        have gm : ∀ u, (upd H2 g u) m = some (.dK (kvM c g ((n : Int) + 1))) := fun u => by rw [upd_ne (Ne.symm mg')]; exact hm2
        have gc : ∀ u, (upd H2 g u) c = some (.lst (cs.map V.int)) := fun u => by rw [upd_ne ne]; exact c4
        exact fin _ _ _ (Int.emod_nonneg _ (by omega)) (Int.emod_lt_of_pos _ l0) (gm _) (gc _) upd_same (by rw [List.length_set]; exact hg) fun b o b1 b2 e => by rw [upd_ne b2]; exact kp2 b o b1 b2 e
      · refine r_ifF (decide_eq_false xp) ?_
        walk_at "rd"
        refine ⟨m, _, rfl, dg_cells hm2, ?_⟩
        walk_at "rd"
        have hlt : n % 64 < cs.length := by rw [hC.len]; omega
        obtain ⟨x, hx1, hx2⟩ := at_int hlt
        have hb := hC.low x hx1
        refine r_ixL c4 (by rw [show ((n : Int) % 64) = ((n % 64 : Nat) : Int) by omega]; exact hx2) ?_
        walk_at "rd"
        refine ⟨_, _, rfl, by omega, by omega, by omega, by omega, fun v v0 v1 => ?_⟩
        walk_at "rd"
        refine ⟨_, _, rfl, by omega, by omega, by omega, by omega, fun v' v0' v1' => ?_⟩
        walk_at "rd"
        exact fin _ H2 _ (Int.emod_nonneg _ (by omega)) (Int.emod_lt_of_pos _ l0) hm2 c4 g4 hg kp2
abbrev sBegun : Stmt := top 75
theorem scBegun : FnScope ["script", "m", "cell"] ["script"] (defScope sBegun) := ⟨rfl, rfl, rfl, by decide +kernel, rfl, by decide +kernel, by decide +kernel⟩
theorem ok_begun {f fF : Addr} {fd fdF : FuncData} (F : L2.Fun K "_law_begun" "_law_begun" sBegun f fd) (T : Blt mg) (FF : L2.Fun K "_law_folded" "_law_folded" sFolded fF fdF) (gF : mg "_law_folded" = some (.ref fF)) (bF : Binds K fdF ["script"] []) : FnOk P w K mg base CX0 2 f fd ["script"] (spBegun K) := by
  have GF : FnOk P w K mg base CX0 1 fF fdF ["script"] (spFolded K) := ok_folded FF T
  refine F.ok scBegun (fun vs H Q E h => ?_) (fun cdv A outer s H vs Q E hr h => ?_)
  · obtain ⟨a, ns, rfl, _⟩ := h
    rfl
  · obtain ⟨a, ns, rfl, hS, hz, k⟩ := h
    have hu := hu_of hr
    have kpF : PySem.W.keepIn K (.ref fF) = true := FF.kp
    refine ⟨_, pss_cons (ps_set (i := 1) scBegun.nd rfl (Or.inl rfl) (pe_disp (pps_cons pe_str (pe_call GF hr rfl gF kpF bF .nil pass0 (pa_cons (pv 0) pa_nil)) (pps_cons pe_str (pe_lst pa_nil) (pps_cons pe_str pe_int pps_nil))) (by rfl) (by rfl) (fun z => by cases z) (by decide)))
      (pss_cons (ps_dput hu (pv 1) pe_str (pe_lc (own := [("cell", 2)]) (g := gName 2) (tt := tYes) rfl scBegun.nd (pi_list (pv 0)) (blkOk_by (N := ["script", "m", "cell"]) (sc := defScope sBegun) (by decide +kernel))
        (fun _ _ _ _ _ => pg_name (i := 2) scBegun.nd rfl (Or.inl rfl)) (fun _ _ _ _ _ => pts_nil) (fun _ _ _ _ _ => pe_ifExp (pt_cmpR op_ge (pv 2) (pe_op op_pow pe_int pe_int) (nomark _)) (pv 2) pe_int)) rfl)
      (pss_one (ps_ret (pv 1)))), ?_⟩
    walk_at "rd"
    intro p np
    have hp : (upd H p (.dK [])) p = some (.dK []) := upd_same
    have s0 : Same H (upd H p (.dK [])) := same_new np
    refine ⟨_, rfl, a, ns, rfl, s0.seq hS, hz, fun H1 c cs nc s1 hC hc => ?_⟩
    refine ⟨Nat.zero_le _, fun g ng => ?_⟩
    have gp : g ≠ p := fun e => by rw [e, s1 _ _ hp] at ng; cases ng
    have gc : g ≠ c := fun e => by rw [e, hc] at ng; cases ng
    have pc : p ≠ c := fun e => by rw [← e, hp] at nc; cases nc
    have h0p : (upd H1 g (.lst [])) p = some (.dK []) := by rw [upd_ne (Ne.symm gp)]; exact s1 _ _ hp
    have h0c : (upd H1 g (.lst [])) c = some (.lst (cs.map V.int)) := by rw [upd_ne (Ne.symm gc)]; exact hc
    have h0g : (upd H1 g (.lst [])) g = some (.lst []) := upd_same
    have s2 : Same H (upd H1 g (.lst [])) := (s0.trans s1).trans (same_new ng)
    have fg : H g = none := (s0.trans s1).free ng
    have fc : H c = none := s0.free nc
    generalize upd H1 g (.lst []) = H2 at h0p h0c h0g s2 ⊢
    refine ⟨h0p, [(Sum.inr "cells", .ref c), (Sum.inr "great", .ref g), (Sum.inr "spot", .int 0)], rfl, (show 3 ≤ 15 by decide), ?_⟩

    have s3 : Same H (upd H2 p (.dK (kvM c g 0))) := same_mut s2 np
    have h3p : (upd H2 p (.dK (kvM c g 0))) p = some (.dK (kvM c g 0)) := upd_same
    have h3c : (upd H2 p (.dK (kvM c g 0))) c = some (.lst (cs.map V.int)) := by rw [upd_ne (Ne.symm pc)]; exact h0c
    change gName 1 (V.ref p) _ (upd H2 p (.dK (kvM c g 0))) _
    generalize upd H2 p (.dK (kvM c g 0)) = H3 at s3 h3p h3c ⊢
    walk_at "rd"
    refine ⟨_, rfl, a, rfl, ⟨_, s3.seq hS⟩, fun D hD => lc_list (K := K) (a := a) (xs := ns.map V.int) (fun i H' => ∃ gs : List Int, gs.length = i ∧ H' D = some (.lst (gs.map V.int)) ∧ Same H3 H')
      ⟨[], rfl, upd_same, same_new hD⟩ (fun i H' _ z => by obtain ⟨_, _, _, z⟩ := z; exact (s3.trans z).seq hS) ?_ ?_⟩
    · rintro i v H' hi ⟨gs, hl, hD', hs⟩
      obtain ⟨z, rfl⟩ : ∃ z, v = V.int z := by
        rw [List.getElem?_map] at hi
        cases q : ns[i]? with
        | none => rw [q] at hi; cases hi
        | some z => rw [q] at hi; cases hi; exact ⟨z, rfl⟩
      have il : i < 63 := by
        have := (List.getElem?_eq_some_iff.mp hi).1
        rw [List.length_map] at this
        omega
      refine ⟨rfl, r_yes ?_⟩
      have fin : ∀ y : Int, ∃ acc, H' D = some (.lst acc) ∧ acc.length < sizeLine ∧ ∃ gs : List Int, gs.length = i + 1 ∧ (upd H' D (.lst (acc ++ [V.int y]))) D = some (.lst (gs.map V.int)) ∧ Same H3 (upd H' D (.lst (acc ++ [V.int y]))) := fun y =>
        ⟨_, hD', by rw [List.length_map]; exact sz2 (by omega), gs ++ [y], by rw [List.length_append, hl]; rfl, by rw [upd_same, List.map_append]; rfl, same_mut hs hD⟩
      refine ⟨_, rfl, _, _, rfl, rfl, ⟨by decide, by decide, by decide⟩, _, _, rfl, rfl, _, rfl, ?_⟩
      refine ite2 (fun _ => ?_) (fun _ => ?_)
      · walk_at "rd"
        exact fin z
      · walk_at "rd"
        exact fin 0
    · rintro H' ⟨gs, hl, hD', hs⟩
      walk_at "rd"
      have h4p := hs _ _ h3p
      have h4c := hs _ _ h3c
      refine ⟨p, _, rfl, DPut.k (k := Sum.inr "great") h4p (show 3 < sizeLine by decide), ?_⟩
      walk_at "rd"
      have Dp : D ≠ p := fun e => by rw [e, h3p] at hD; cases hD
      have Dc : c ≠ D := fun e => by rw [← e, h3c] at hD; cases hD
      refine k _ p c D (same_mut (s3.trans hs) np) np fc (s3.free hD) ⟨⟨0, cs, gs, ?_, ?_, ?_, hC, ?_, by omega⟩, Dc⟩
      · exact upd_same
      · rw [upd_ne (Ne.symm pc)]; exact h4c
      · rw [upd_ne Dp]; exact hD'
      · have : gs.length = ns.length := by rw [hl, List.length_map]
        omega
end
end

end TSx
namespace TSx
open PySem L2
open LamX
abbrev S__law_draw : SPEC := Sdraw
/-- things that are none of anything -/
def oddsD : List D := [.non, .int 0, .int 1, .int (-1), .int 5, .bl true, .str "", .str "a", .str "ab", .str "aa", .str "c", .str "A", .tup [], .tup [.str "a"], .tup [.int 0], .tup [.tup []], .lst [], .dic [], .tup [.str "kept"], .tup [.non, .int 1], .int (10 ^ 30), .tup [.str "ward", .int 0], .tup [.str "body", .int 0, .str "a"], .tup [.int 1, .int 0, .tup [.str "kept"]]]
def S__law_odds : SPEC := fun ss r P => ss = [] ∧ P (.lst oddsD) r
def cANY : D := (.tup [.non, (.int 1)])
def cTIES : D := (.tup [(.str "a"), (.str "b"), (.str "kept")])
structure XF (K : PySem.W.Frag) (pT : String → Addr) : Prop where
  a_BadHouse : ExcC K (pT "BadHouse")
  n_BadHouse_place : PySem.W.findIn K (.ref (pT "BadHouse")) "place" = some none
  e_BadHouse_SeatError : PySem.W.exmOne K (.ref (pT "BadHouse")) (.ref (pT "SeatError")) = some true
  a_BadStand : ExcC K (pT "BadStand")
  n_BadStand_value : PySem.W.findIn K (.ref (pT "BadStand")) "value" = some none
  e_BadStand_SeatError : PySem.W.exmOne K (.ref (pT "BadStand")) (.ref (pT "SeatError")) = some true
  a_BadChoices : ExcC K (pT "BadChoices")
  n_BadChoices_place : PySem.W.findIn K (.ref (pT "BadChoices")) "place" = some none
  e_BadChoices_SeatError : PySem.W.exmOne K (.ref (pT "BadChoices")) (.ref (pT "SeatError")) = some true
  a_BadBand : ExcC K (pT "BadBand")
  n_BadBand_part : PySem.W.findIn K (.ref (pT "BadBand")) "part" = some none
  e_BadBand_SeatError : PySem.W.exmOne K (.ref (pT "BadBand")) (.ref (pT "SeatError")) = some true
  a_BadNumber : ExcC K (pT "BadNumber")
  n_BadNumber_value : PySem.W.findIn K (.ref (pT "BadNumber")) "value" = some none
  e_BadNumber_SeatError : PySem.W.exmOne K (.ref (pT "BadNumber")) (.ref (pT "SeatError")) = some true
  a_BadPaper : ExcC K (pT "BadPaper")
  n_BadPaper_word : PySem.W.findIn K (.ref (pT "BadPaper")) "word" = some none
  e_BadPaper_SeatError : PySem.W.exmOne K (.ref (pT "BadPaper")) (.ref (pT "SeatError")) = some true
  a_TooGreat : ExcC K (pT "TooGreat")
  n_TooGreat_most : PySem.W.findIn K (.ref (pT "TooGreat")) "most" = some none
  e_TooGreat_SeatError : PySem.W.exmOne K (.ref (pT "TooGreat")) (.ref (pT "SeatError")) = some false
  e_TooGreat_TooGreat : PySem.W.exmOne K (.ref (pT "TooGreat")) (.ref (pT "TooGreat")) = some true
  k_BadHouse_SeatError : PySem.W.kitOne K (.ref (pT "BadHouse")) (.ref (pT "SeatError")) = some true
  k_BadHouse_BadHouse : PySem.W.kitOne K (.ref (pT "BadHouse")) (.ref (pT "BadHouse")) = some true
  k_BadHouse_BadStand : PySem.W.kitOne K (.ref (pT "BadHouse")) (.ref (pT "BadStand")) = some false
  k_BadHouse_BadChoices : PySem.W.kitOne K (.ref (pT "BadHouse")) (.ref (pT "BadChoices")) = some false
  k_BadHouse_BadBand : PySem.W.kitOne K (.ref (pT "BadHouse")) (.ref (pT "BadBand")) = some false
  k_BadHouse_BadNumber : PySem.W.kitOne K (.ref (pT "BadHouse")) (.ref (pT "BadNumber")) = some false
  k_BadHouse_BadPaper : PySem.W.kitOne K (.ref (pT "BadHouse")) (.ref (pT "BadPaper")) = some false
  k_BadHouse_TooGreat : PySem.W.kitOne K (.ref (pT "BadHouse")) (.ref (pT "TooGreat")) = some false
  t_BadHouse_ValueError : PySem.W.kitOne K (.ref (pT "BadHouse")) (.type "ValueError") = some true
  t_BadHouse_OverflowError : PySem.W.kitOne K (.ref (pT "BadHouse")) (.type "OverflowError") = some false
  t_BadHouse_LookupError : PySem.W.kitOne K (.ref (pT "BadHouse")) (.type "LookupError") = some false
  t_BadHouse_RuntimeError : PySem.W.kitOne K (.ref (pT "BadHouse")) (.type "RuntimeError") = some false
  t_BadHouse_TypeError : PySem.W.kitOne K (.ref (pT "BadHouse")) (.type "TypeError") = some false
  k_BadStand_SeatError : PySem.W.kitOne K (.ref (pT "BadStand")) (.ref (pT "SeatError")) = some true
  k_BadStand_BadHouse : PySem.W.kitOne K (.ref (pT "BadStand")) (.ref (pT "BadHouse")) = some false
  k_BadStand_BadStand : PySem.W.kitOne K (.ref (pT "BadStand")) (.ref (pT "BadStand")) = some true
  k_BadStand_BadChoices : PySem.W.kitOne K (.ref (pT "BadStand")) (.ref (pT "BadChoices")) = some false
  k_BadStand_BadBand : PySem.W.kitOne K (.ref (pT "BadStand")) (.ref (pT "BadBand")) = some false
  k_BadStand_BadNumber : PySem.W.kitOne K (.ref (pT "BadStand")) (.ref (pT "BadNumber")) = some false
  k_BadStand_BadPaper : PySem.W.kitOne K (.ref (pT "BadStand")) (.ref (pT "BadPaper")) = some false
  k_BadStand_TooGreat : PySem.W.kitOne K (.ref (pT "BadStand")) (.ref (pT "TooGreat")) = some false
  t_BadStand_ValueError : PySem.W.kitOne K (.ref (pT "BadStand")) (.type "ValueError") = some true
  t_BadStand_OverflowError : PySem.W.kitOne K (.ref (pT "BadStand")) (.type "OverflowError") = some false
  t_BadStand_LookupError : PySem.W.kitOne K (.ref (pT "BadStand")) (.type "LookupError") = some false
  t_BadStand_RuntimeError : PySem.W.kitOne K (.ref (pT "BadStand")) (.type "RuntimeError") = some false
  t_BadStand_TypeError : PySem.W.kitOne K (.ref (pT "BadStand")) (.type "TypeError") = some false
  k_BadChoices_SeatError : PySem.W.kitOne K (.ref (pT "BadChoices")) (.ref (pT "SeatError")) = some true
  k_BadChoices_BadHouse : PySem.W.kitOne K (.ref (pT "BadChoices")) (.ref (pT "BadHouse")) = some false
  k_BadChoices_BadStand : PySem.W.kitOne K (.ref (pT "BadChoices")) (.ref (pT "BadStand")) = some false
  k_BadChoices_BadChoices : PySem.W.kitOne K (.ref (pT "BadChoices")) (.ref (pT "BadChoices")) = some true
  k_BadChoices_BadBand : PySem.W.kitOne K (.ref (pT "BadChoices")) (.ref (pT "BadBand")) = some false
  k_BadChoices_BadNumber : PySem.W.kitOne K (.ref (pT "BadChoices")) (.ref (pT "BadNumber")) = some false
  k_BadChoices_BadPaper : PySem.W.kitOne K (.ref (pT "BadChoices")) (.ref (pT "BadPaper")) = some false
  k_BadChoices_TooGreat : PySem.W.kitOne K (.ref (pT "BadChoices")) (.ref (pT "TooGreat")) = some false
  t_BadChoices_ValueError : PySem.W.kitOne K (.ref (pT "BadChoices")) (.type "ValueError") = some true
  t_BadChoices_OverflowError : PySem.W.kitOne K (.ref (pT "BadChoices")) (.type "OverflowError") = some false
  t_BadChoices_LookupError : PySem.W.kitOne K (.ref (pT "BadChoices")) (.type "LookupError") = some false
  t_BadChoices_RuntimeError : PySem.W.kitOne K (.ref (pT "BadChoices")) (.type "RuntimeError") = some false
  t_BadChoices_TypeError : PySem.W.kitOne K (.ref (pT "BadChoices")) (.type "TypeError") = some false
  k_BadBand_SeatError : PySem.W.kitOne K (.ref (pT "BadBand")) (.ref (pT "SeatError")) = some true
  k_BadBand_BadHouse : PySem.W.kitOne K (.ref (pT "BadBand")) (.ref (pT "BadHouse")) = some false
  k_BadBand_BadStand : PySem.W.kitOne K (.ref (pT "BadBand")) (.ref (pT "BadStand")) = some false
  k_BadBand_BadChoices : PySem.W.kitOne K (.ref (pT "BadBand")) (.ref (pT "BadChoices")) = some false
  k_BadBand_BadBand : PySem.W.kitOne K (.ref (pT "BadBand")) (.ref (pT "BadBand")) = some true
  k_BadBand_BadNumber : PySem.W.kitOne K (.ref (pT "BadBand")) (.ref (pT "BadNumber")) = some false
  k_BadBand_BadPaper : PySem.W.kitOne K (.ref (pT "BadBand")) (.ref (pT "BadPaper")) = some false
  k_BadBand_TooGreat : PySem.W.kitOne K (.ref (pT "BadBand")) (.ref (pT "TooGreat")) = some false
  t_BadBand_ValueError : PySem.W.kitOne K (.ref (pT "BadBand")) (.type "ValueError") = some true
  t_BadBand_OverflowError : PySem.W.kitOne K (.ref (pT "BadBand")) (.type "OverflowError") = some false
  t_BadBand_LookupError : PySem.W.kitOne K (.ref (pT "BadBand")) (.type "LookupError") = some false
  t_BadBand_RuntimeError : PySem.W.kitOne K (.ref (pT "BadBand")) (.type "RuntimeError") = some false
  t_BadBand_TypeError : PySem.W.kitOne K (.ref (pT "BadBand")) (.type "TypeError") = some false
  k_BadNumber_SeatError : PySem.W.kitOne K (.ref (pT "BadNumber")) (.ref (pT "SeatError")) = some true
  k_BadNumber_BadHouse : PySem.W.kitOne K (.ref (pT "BadNumber")) (.ref (pT "BadHouse")) = some false
  k_BadNumber_BadStand : PySem.W.kitOne K (.ref (pT "BadNumber")) (.ref (pT "BadStand")) = some false
  k_BadNumber_BadChoices : PySem.W.kitOne K (.ref (pT "BadNumber")) (.ref (pT "BadChoices")) = some false
  k_BadNumber_BadBand : PySem.W.kitOne K (.ref (pT "BadNumber")) (.ref (pT "BadBand")) = some false
  k_BadNumber_BadNumber : PySem.W.kitOne K (.ref (pT "BadNumber")) (.ref (pT "BadNumber")) = some true
  k_BadNumber_BadPaper : PySem.W.kitOne K (.ref (pT "BadNumber")) (.ref (pT "BadPaper")) = some false
  k_BadNumber_TooGreat : PySem.W.kitOne K (.ref (pT "BadNumber")) (.ref (pT "TooGreat")) = some false
  t_BadNumber_ValueError : PySem.W.kitOne K (.ref (pT "BadNumber")) (.type "ValueError") = some true
  t_BadNumber_OverflowError : PySem.W.kitOne K (.ref (pT "BadNumber")) (.type "OverflowError") = some false
  t_BadNumber_LookupError : PySem.W.kitOne K (.ref (pT "BadNumber")) (.type "LookupError") = some false
  t_BadNumber_RuntimeError : PySem.W.kitOne K (.ref (pT "BadNumber")) (.type "RuntimeError") = some false
  t_BadNumber_TypeError : PySem.W.kitOne K (.ref (pT "BadNumber")) (.type "TypeError") = some false
  k_BadPaper_SeatError : PySem.W.kitOne K (.ref (pT "BadPaper")) (.ref (pT "SeatError")) = some true
  k_BadPaper_BadHouse : PySem.W.kitOne K (.ref (pT "BadPaper")) (.ref (pT "BadHouse")) = some false
  k_BadPaper_BadStand : PySem.W.kitOne K (.ref (pT "BadPaper")) (.ref (pT "BadStand")) = some false
  k_BadPaper_BadChoices : PySem.W.kitOne K (.ref (pT "BadPaper")) (.ref (pT "BadChoices")) = some false
  k_BadPaper_BadBand : PySem.W.kitOne K (.ref (pT "BadPaper")) (.ref (pT "BadBand")) = some false
  k_BadPaper_BadNumber : PySem.W.kitOne K (.ref (pT "BadPaper")) (.ref (pT "BadNumber")) = some false
  k_BadPaper_BadPaper : PySem.W.kitOne K (.ref (pT "BadPaper")) (.ref (pT "BadPaper")) = some true
  k_BadPaper_TooGreat : PySem.W.kitOne K (.ref (pT "BadPaper")) (.ref (pT "TooGreat")) = some false
  t_BadPaper_ValueError : PySem.W.kitOne K (.ref (pT "BadPaper")) (.type "ValueError") = some true
  t_BadPaper_OverflowError : PySem.W.kitOne K (.ref (pT "BadPaper")) (.type "OverflowError") = some false
  t_BadPaper_LookupError : PySem.W.kitOne K (.ref (pT "BadPaper")) (.type "LookupError") = some false
  t_BadPaper_RuntimeError : PySem.W.kitOne K (.ref (pT "BadPaper")) (.type "RuntimeError") = some false
  t_BadPaper_TypeError : PySem.W.kitOne K (.ref (pT "BadPaper")) (.type "TypeError") = some false
  k_TooGreat_SeatError : PySem.W.kitOne K (.ref (pT "TooGreat")) (.ref (pT "SeatError")) = some false
  k_TooGreat_BadHouse : PySem.W.kitOne K (.ref (pT "TooGreat")) (.ref (pT "BadHouse")) = some false
  k_TooGreat_BadStand : PySem.W.kitOne K (.ref (pT "TooGreat")) (.ref (pT "BadStand")) = some false
  k_TooGreat_BadChoices : PySem.W.kitOne K (.ref (pT "TooGreat")) (.ref (pT "BadChoices")) = some false
  k_TooGreat_BadBand : PySem.W.kitOne K (.ref (pT "TooGreat")) (.ref (pT "BadBand")) = some false
  k_TooGreat_BadNumber : PySem.W.kitOne K (.ref (pT "TooGreat")) (.ref (pT "BadNumber")) = some false
  k_TooGreat_BadPaper : PySem.W.kitOne K (.ref (pT "TooGreat")) (.ref (pT "BadPaper")) = some false
  k_TooGreat_TooGreat : PySem.W.kitOne K (.ref (pT "TooGreat")) (.ref (pT "TooGreat")) = some true
  t_TooGreat_ValueError : PySem.W.kitOne K (.ref (pT "TooGreat")) (.type "ValueError") = some false
  t_TooGreat_OverflowError : PySem.W.kitOne K (.ref (pT "TooGreat")) (.type "OverflowError") = some true
  t_TooGreat_LookupError : PySem.W.kitOne K (.ref (pT "TooGreat")) (.type "LookupError") = some false
  t_TooGreat_RuntimeError : PySem.W.kitOne K (.ref (pT "TooGreat")) (.type "RuntimeError") = some false
  t_TooGreat_TypeError : PySem.W.kitOne K (.ref (pT "TooGreat")) (.type "TypeError") = some false
  a_SeatError : ExcC K (pT "SeatError")
  k_SeatError_SeatError : PySem.W.kitOne K (.ref (pT "SeatError")) (.ref (pT "SeatError")) = some true
  k_SeatError_BadHouse : PySem.W.kitOne K (.ref (pT "SeatError")) (.ref (pT "BadHouse")) = some false
  k_SeatError_BadStand : PySem.W.kitOne K (.ref (pT "SeatError")) (.ref (pT "BadStand")) = some false
  k_SeatError_BadChoices : PySem.W.kitOne K (.ref (pT "SeatError")) (.ref (pT "BadChoices")) = some false
  k_SeatError_BadBand : PySem.W.kitOne K (.ref (pT "SeatError")) (.ref (pT "BadBand")) = some false
  k_SeatError_BadNumber : PySem.W.kitOne K (.ref (pT "SeatError")) (.ref (pT "BadNumber")) = some false
  k_SeatError_BadPaper : PySem.W.kitOne K (.ref (pT "SeatError")) (.ref (pT "BadPaper")) = some false
  k_SeatError_TooGreat : PySem.W.kitOne K (.ref (pT "SeatError")) (.ref (pT "TooGreat")) = some false
  t_SeatError_ValueError : PySem.W.kitOne K (.ref (pT "SeatError")) (.type "ValueError") = some true
  t_SeatError_OverflowError : PySem.W.kitOne K (.ref (pT "SeatError")) (.type "OverflowError") = some false
  t_SeatError_LookupError : PySem.W.kitOne K (.ref (pT "SeatError")) (.type "LookupError") = some false
  t_SeatError_RuntimeError : PySem.W.kitOne K (.ref (pT "SeatError")) (.type "RuntimeError") = some false
  t_SeatError_TypeError : PySem.W.kitOne K (.ref (pT "SeatError")) (.type "TypeError") = some false
structure Cst (K : PySem.W.Frag) (mg : Str → Option Value) (pT : String → Addr) : Prop where
  ANY : mg "ANY" = some (.ref (pT "ANY"))
  dANY : Dt K (fun _ => none) (.ref (pT "ANY")) cANY
  LAST_YEAR : ∃ t, mg "LAST_YEAR" = some (.int 1000000000000000000000000000000 t)
  MOST_BODIES : ∃ t, mg "MOST_BODIES" = some (.int 3 t)
  MOST_GAP : ∃ t, mg "MOST_GAP" = some (.int 4 t)
  MOST_ROUND : ∃ t, mg "MOST_ROUND" = some (.int 12 t)
  MOST_ROWS : ∃ t, mg "MOST_ROWS" = some (.int 400 t)
  MOST_SEATS : ∃ t, mg "MOST_SEATS" = some (.int 9 t)
  MOST_TERM : ∃ t, mg "MOST_TERM" = some (.int 6 t)
  MOST_WARDS : ∃ t, mg "MOST_WARDS" = some (.int 4 t)
  TIES : mg "TIES" = some (.ref (pT "TIES"))
  dTIES : Dt K (fun _ => none) (.ref (pT "TIES")) cTIES
structure Ctx (K : PySem.W.Frag) (mg : Str → Option Value) (pT : String → Addr) : Prop where
  B : Blt mg
  Z : Blt2 mg
  Y : Blt3 mg
  C : Cst K mg pT
  glcm : mg "lcm" = some (.builtin "math.lcm")
  hmin : mg "min" = none
  c_Stands : Cls K (pT "Stands")
  g_Stands : mg "Stands" = some (.ref (pT "Stands"))
  c_Steps : Cls K (pT "Steps")
  g_Steps : mg "Steps" = some (.ref (pT "Steps"))
  c_Turns : Cls K (pT "Turns")
  g_Turns : mg "Turns" = some (.ref (pT "Turns"))
  n_Stands_given_house : NoAttr K (pT "Stands") "given_house"
  n_Stands_known : NoAttr K (pT "Stands") "known"
  n_Stands_known_more : NoAttr K (pT "Stands") "known_more"
  n_Stands_rows : NoAttr K (pT "Stands") "rows"
  n_Stands_years : NoAttr K (pT "Stands") "years"
  n_Steps_band : NoAttr K (pT "Steps") "band"
  n_Steps_full : NoAttr K (pT "Steps") "full"
  n_Steps_given_house : NoAttr K (pT "Steps") "given_house"
  n_Steps_stands : NoAttr K (pT "Steps") "stands"
  n_Steps_turns : NoAttr K (pT "Steps") "turns"
  n_Steps_years : NoAttr K (pT "Steps") "years"
  n_Turns_band : NoAttr K (pT "Turns") "band"
  n_Turns_known : NoAttr K (pT "Turns") "known"
  n_Turns_rows : NoAttr K (pT "Turns") "rows"
  n_Turns_telling : NoAttr K (pT "Turns") "telling"
  nb_ValueError : mg "ValueError" = none
  nb_OverflowError : mg "OverflowError" = none
  nb_LookupError : mg "LookupError" = none
  nb_RuntimeError : mg "RuntimeError" = none
  nb_TypeError : mg "TypeError" = none
  o_SeatError : OexC K (pT "SeatError")
  ib_SeatError : PySem.W.findIn K (.ref (pT "SeatError")) "__init__" = some (some (.builtin "ValueError.__init__"))
  y_BadBand : mg "BadBand" = some (.ref (pT "BadBand"))
  y_BadChoices : mg "BadChoices" = some (.ref (pT "BadChoices"))
  y_BadHouse : mg "BadHouse" = some (.ref (pT "BadHouse"))
  y_BadNumber : mg "BadNumber" = some (.ref (pT "BadNumber"))
  y_BadPaper : mg "BadPaper" = some (.ref (pT "BadPaper"))
  y_BadStand : mg "BadStand" = some (.ref (pT "BadStand"))
  y_SeatError : mg "SeatError" = some (.ref (pT "SeatError"))
  y_TooGreat : mg "TooGreat" = some (.ref (pT "TooGreat"))
local macro_rules | `(tactic| walk_at "df") => `(tactic| first
  | exact ⟨rfl, fun us fd hl h1 h2 => by match us, hl with | [], _ => rcases fd with ⟨⟩; simp only at h1 h2; subst h1; subst h2; rfl⟩
  | exact ⟨rfl, ⟨_, _, rfl⟩, by decide +kernel, fun fd h1 => by rcases fd with ⟨⟩; simp only at h1; subst h1; exact ⟨_, rfl, fun u => rfl⟩⟩)
local macro_rules | `(tactic| walk_at "df1") => `(tactic| exact ⟨rfl, fun us fd hl h1 h2 => by match us, hl with | [u], _ => rcases fd with ⟨⟩; simp only at h1 h2; subst h1; subst h2; rfl⟩)
section
variable {P : Program} {w : World} {K : PySem.W.Frag} {mg : Str → Option Value} {base : Heap} {pT : String → Addr}
abbrev s__law_like : Stmt := top 76
theorem sc__law_like : FnScope ["heard", "due"] ["heard", "due"] (defScope s__law_like) := ⟨rfl, rfl, rfl, by decide +kernel, rfl, by decide +kernel, by decide +kernel⟩
def B__law_like : SV := (sRet (eOp opEq (eRepr (eVar 0)) (eRepr (eVar 1))))
def S__law_like : SPEC := runD 2 2 B__law_like
theorem ok__law_like {f : Addr} {fd : FuncData} (F : L2.Fun K "_law_like" "_law_like" s__law_like f fd) (X : Ctx K mg pT) : FnG P w K mg base CX0 1 f fd ["heard", "due"] (spW K S__law_like) :=
  fnG_of0 F sc__law_like (fun vs H Q E h => spW_len rfl h) (fun cdv A outer s H vs Q E g hr h => by
  have g2 := guards_deeper g (PyProof.Rows.envOfC "_law_like" (defScope s__law_like) s.heap.objs.size f cdv)
  exact ⟨_, (pss_one (ps_ret (pe_cmpR op_eq (pe_callB (call_reprD g2 hr.units) (by rfl) X.B.repr PyProof.Rows.boot_repr (pa_cons (pv 0) pa_nil)) (pe_callB (call_reprD g2 hr.units) (by rfl) X.B.repr PyProof.Rows.boot_repr (pa_cons (pv 1) pa_nil)) (nomark _)))), run_of (s := B__law_like) (snd_ret (snd_op o_eq (snd_repr snd_var) (snd_repr snd_var))) rfl h⟩)
abbrev s__law_of : Stmt := top 77
theorem sc__law_of : FnScope ["m", "some"] ["m", "some"] (defScope s__law_of) := ⟨rfl, rfl, rfl, by decide +kernel, rfl, by decide +kernel, by decide +kernel⟩
def B__law_of : SV := (sRet (eOp opIxL (eVar 1) (eCall S__law_draw (aMemo 0 (aCons (eCB cLen (aCons (eVar 1) aNil)) aNil)))))
def S__law_of : SPEC := runD 2 2 B__law_of
theorem ok__law_of {f : Addr} {fd : FuncData} (F : L2.Fun K "_law_of" "_law_of" s__law_of f fd) (X : Ctx K mg pT) {f__law_draw : Addr} {fd__law_draw : FuncData} (d__law_draw : Dok P w K mg base 2 "_law_draw" ["m", "limit"] (spW K S__law_draw) f__law_draw fd__law_draw) : FnOk P w K mg base CX0 3 f fd ["m", "some"] (spW K S__law_of) :=
  F.ok sc__law_of (fun vs H Q E h => spW_len rfl h) (fun cdv A outer s H vs Q E hr h => ⟨_, (pss_one (ps_ret (pe_ix ix_list (pv 1) (pe_call d__law_draw.G (hr.mono (by decide)) rfl d__law_draw.g d__law_draw.k d__law_draw.b .nil pass0 (pa_cons (pv 0) (pa_cons (pe_callB call_len_seq (by rfl) X.B.len PySem.boot_len (pa_cons (pv 1) pa_nil)) pa_nil))) (fun _ _ => rfl)))), run_of (s := B__law_of) (snd_ret (snd_op o_ixL snd_var (snd_call (snd_memo (snd_cons (snd_cb c_len (snd_cons snd_var snd_nil)) snd_nil))))) rfl h⟩)
abbrev s_is_whole : Stmt := top 19
theorem sc_is_whole : FnScope ["value", "least", "most"] ["value", "least", "most"] (defScope s_is_whole) := ⟨rfl, rfl, rfl, by decide +kernel, rfl, by decide +kernel, by decide +kernel⟩
def B_is_whole : SV := (sRet (eAnd (eIsi "int" (eVar 0)) (eAnd (eNot (eIsi "bool" (eVar 0))) (eChain opLe opLe (eVar 1) (eVar 0) (eVar 2)))))
def S_is_whole : SPEC := runD 3 3 B_is_whole
theorem ok_is_whole {f : Addr} {fd : FuncData} (F : L2.Fun K "is_whole" "is_whole" s_is_whole f fd) (X : Ctx K mg pT) : FnOk P w K mg base CX0 1 f fd ["value", "least", "most"] (spW K S_is_whole) :=
  F.ok sc_is_whole (fun vs H Q E h => spW_len rfl h) (fun cdv A outer s H vs Q E hr h => ⟨_, (pss_one (ps_ret (pe_and (pe_callB call_isi (by rfl) X.B.isinstance PyProof.Rows.boot_isinstance (pa_cons (pv 0) (pa_cons (pe_bltn (v := .ty "int") (by rfl) X.Z.int (by decide +kernel) rfl) pa_nil))) (pe_and (pe_not (pe_callB call_isi (by rfl) X.B.isinstance PyProof.Rows.boot_isinstance (pa_cons (pv 0) (pa_cons (pe_bltn (v := .ty "bool") (by rfl) X.Z.bool (by decide +kernel) rfl) pa_nil)))) (pe_one (pe_chain op_le op_le (pv 1) (pv 0) (pv 2))))))), run_of (s := B_is_whole) (snd_ret (snd_and (snd_isi snd_var) (snd_and (snd_not (snd_isi snd_var)) (snd_chain o_le o_le snd_var snd_var snd_var)))) rfl h⟩)
abbrev s_is_tuple : Stmt := top 20
theorem sc_is_tuple : FnScope ["value", "least", "most"] ["value", "least", "most"] (defScope s_is_tuple) := ⟨rfl, rfl, rfl, by decide +kernel, rfl, by decide +kernel, by decide +kernel⟩
def B_is_tuple : SV := (sRet (eAnd (eIsi "tuple" (eVar 0)) (eChain opLe opLe (eVar 1) (eCB cLen (aCons (eVar 0) aNil)) (eVar 2))))
def S_is_tuple : SPEC := runD 3 3 B_is_tuple
theorem ok_is_tuple {f : Addr} {fd : FuncData} (F : L2.Fun K "is_tuple" "is_tuple" s_is_tuple f fd) (X : Ctx K mg pT) : FnOk P w K mg base CX0 1 f fd ["value", "least", "most"] (spW K S_is_tuple) :=
  F.ok sc_is_tuple (fun vs H Q E h => spW_len rfl h) (fun cdv A outer s H vs Q E hr h => ⟨_, (pss_one (ps_ret (pe_and (pe_callB call_isi (by rfl) X.B.isinstance PyProof.Rows.boot_isinstance (pa_cons (pv 0) (pa_cons (pe_bltn (v := .ty "tuple") (by rfl) X.Z.tuple (by decide +kernel) rfl) pa_nil))) (pe_one (pe_chain op_le op_le (pv 1) (pe_callB call_len_seq (by rfl) X.B.len PySem.boot_len (pa_cons (pv 0) pa_nil)) (pv 2)))))), run_of (s := B_is_tuple) (snd_ret (snd_and (snd_isi snd_var) (snd_chain o_le o_le snd_var (snd_cb c_len (snd_cons snd_var snd_nil)) snd_var))) rfl h⟩)
abbrev s_is_word : Stmt := top 21
theorem sc_is_word : FnScope ["value", "words"] ["value", "words"] (defScope s_is_word) := ⟨rfl, rfl, rfl, by decide +kernel, rfl, by decide +kernel, by decide +kernel⟩
def B_is_word : SV := (sRet (eAnd (eIsi "str" (eVar 0)) (eOp opInQ (eVar 0) (eVar 1))))
def S_is_word : SPEC := runD 2 2 B_is_word
theorem ok_is_word {f : Addr} {fd : FuncData} (F : L2.Fun K "is_word" "is_word" s_is_word f fd) (X : Ctx K mg pT) : FnOk P w K mg base CX0 1 f fd ["value", "words"] (spW K S_is_word) :=
  F.ok sc_is_word (fun vs H Q E h => spW_len rfl h) (fun cdv A outer s H vs Q E hr h => ⟨_, (pss_one (ps_ret (pe_and (pe_callB call_isi (by rfl) X.B.isinstance PyProof.Rows.boot_isinstance (pa_cons (pv 0) (pa_cons (pe_bltn (v := .ty "str") (by rfl) X.Z.str (by decide +kernel) rfl) pa_nil))) (pe_one (pe_cmpR op_in_seq (pv 0) (pv 1) rfl))))), run_of (s := B_is_word) (snd_ret (snd_and (snd_isi snd_var) (snd_op o_inQ snd_var snd_var))) rfl h⟩)
abbrev s_is_way : Stmt := top 23
theorem sc_is_way : FnScope ["value", "many_bodies", "wards", "word", "body", "tie"] ["value", "many_bodies", "wards"] (defScope s_is_way) := ⟨rfl, rfl, rfl, by decide +kernel, rfl, by decide +kernel, by decide +kernel⟩
def B_is_way : SV := (sSeq (sIf (vNot (vE (eCall S_is_tuple (aCons (eVar 0) (aCons (eC (.int 1)) (aCons (eC (.int 3)) aNil)))))) (sRet (eC (.bl false))) sNext)
  (sSeq (sIf (vE (eOp opEq (eCB cLen (aCons (eVar 0) aNil)) (eC (.int 1)))) (sRet (eCall S_is_word (aCons (eOp opIxT (eVar 0) (eC (.int 0))) (aCons (eTup (aCons (eC (.str "kept")) aNil)) aNil)))) sNext)
  (sSeq (sIf (vE (eOp opEq (eCB cLen (aCons (eVar 0) aNil)) (eC (.int 2)))) (sRet (eAnd (eCall S_is_word (aCons (eOp opIxT (eVar 0) (eC (.int 0))) (aCons (eTup (aCons (eC (.str "ward")) aNil)) aNil))) (eCall S_is_whole (aCons (eOp opIxT (eVar 0) (eC (.int 1))) (aCons (eC (.int 0)) (aCons (eOp opSub (eVar 2) (eC (.int 1))) aNil)))))) sNext)
  (sSeq (sAsg (eVar 0) (gvTup 3 (gvCons (gvName 3) (gvCons (gvName 4) (gvCons (gvName 5) gvNil)))))
  (sSeq (sIf (vOr (vNot (vE (eCall S_is_word (aCons (eVar 3) (aCons (eTup (aCons (eC (.str "body")) (aCons (eC (.str "rest")) aNil))) aNil))))) (vNot (vE (eCall S_is_word (aCons (eVar 5) (aCons (eC cTIES) aNil)))))) (sRet (eC (.bl false))) sNext)
  (sRet (eCall S_is_whole (aCons (eVar 4) (aCons (eC (.int 0)) (aCons (eOp opSub (eVar 1) (eC (.int 1))) aNil))))))))))
def S_is_way : SPEC := runD 3 6 B_is_way
theorem ok_is_way {f : Addr} {fd : FuncData} (F : L2.Fun K "is_way" "is_way" s_is_way f fd) (X : Ctx K mg pT) {f_is_whole : Addr} {fd_is_whole : FuncData} (d_is_whole : Dok P w K mg base 1 "is_whole" ["value", "least", "most"] (spW K S_is_whole) f_is_whole fd_is_whole) {f_is_tuple : Addr} {fd_is_tuple : FuncData} (d_is_tuple : Dok P w K mg base 1 "is_tuple" ["value", "least", "most"] (spW K S_is_tuple) f_is_tuple fd_is_tuple) {f_is_word : Addr} {fd_is_word : FuncData} (d_is_word : Dok P w K mg base 1 "is_word" ["value", "words"] (spW K S_is_word) f_is_word fd_is_word) : FnOk P w K mg base CX0 2 f fd ["value", "many_bodies", "wards"] (spW K S_is_way) :=
  F.ok sc_is_way (fun vs H Q E h => spW_len rfl h) (fun cdv A outer s H vs Q E hr h => ⟨_, (pss_cons (ps_if (pt_not (pt_val (pe_call d_is_tuple.G (hr.mono (by decide)) rfl d_is_tuple.g d_is_tuple.k d_is_tuple.b .nil pass0 (pa_cons (pv 0) (pa_cons pe_int (pa_cons pe_int pa_nil)))))) (pss_one (ps_ret pe_bl)) pss_nil)
  (pss_cons (ps_if (pt_cmpR op_eq (pe_callB call_len_seq (by rfl) X.B.len PySem.boot_len (pa_cons (pv 0) pa_nil)) pe_int (nomark _)) (pss_one (ps_ret (pe_call d_is_word.G (hr.mono (by decide)) rfl d_is_word.g d_is_word.k d_is_word.b .nil pass0 (pa_cons (pe_ix ix_tup (pv 0) pe_int (fun _ _ => rfl)) (pa_cons (pe_tup (pa_cons pe_str pa_nil)) pa_nil))))) pss_nil)
  (pss_cons (ps_if (pt_cmpR op_eq (pe_callB call_len_seq (by rfl) X.B.len PySem.boot_len (pa_cons (pv 0) pa_nil)) pe_int (nomark _)) (pss_one (ps_ret (pe_and (pe_call d_is_word.G (hr.mono (by decide)) rfl d_is_word.g d_is_word.k d_is_word.b .nil pass0 (pa_cons (pe_ix ix_tup (pv 0) pe_int (fun _ _ => rfl)) (pa_cons (pe_tup (pa_cons pe_str pa_nil)) pa_nil))) (pe_one (pe_call d_is_whole.G (hr.mono (by decide)) rfl d_is_whole.g d_is_whole.k d_is_whole.b .nil pass0 (pa_cons (pe_ix ix_tup (pv 0) pe_int (fun _ _ => rfl)) (pa_cons pe_int (pa_cons (pe_op op_sub (pv 2) pe_int) pa_nil)))))))) pss_nil)
  (pss_cons (ps_asg (pv 0) (pg_tup rfl (pgs_cons (pg_name (i := 3) sc_is_way.nd rfl (Or.inl rfl)) (pgs_cons (pg_name (i := 4) sc_is_way.nd rfl (Or.inl rfl)) (pgs_cons (pg_name (i := 5) sc_is_way.nd rfl (Or.inl rfl)) pgs_nil)))))
  (pss_cons (ps_if (PW.pt (pw_or (pt_not (pt_val (pe_call d_is_word.G (hr.mono (by decide)) rfl d_is_word.g d_is_word.k d_is_word.b .nil pass0 (pa_cons (pv 3) (pa_cons (pe_tup (pa_cons pe_str (pa_cons pe_str pa_nil))) pa_nil))))) (pw_or1 (pt_not (pt_val (pe_call d_is_word.G (hr.mono (by decide)) rfl d_is_word.g d_is_word.k d_is_word.b .nil pass0 (pa_cons (pv 5) (pa_cons (pe_cstR rfl X.C.TIES) pa_nil)))))))) (pss_one (ps_ret pe_bl)) pss_nil)
  (pss_one (ps_ret (pe_call d_is_whole.G (hr.mono (by decide)) rfl d_is_whole.g d_is_whole.k d_is_whole.b .nil pass0 (pa_cons (pv 4) (pa_cons pe_int (pa_cons (pe_op op_sub (pv 1) pe_int) pa_nil))))))))))), run_of (s := B_is_way) (snd_seq (snd_ifS (snd_tnot (snd_tb (snd_call (snd_cons snd_var (snd_cons snd_int (snd_cons snd_int snd_nil)))))) (snd_ret snd_bl) snd_next)
  (snd_seq (snd_ifS (snd_test (snd_op o_eq (snd_cb c_len (snd_cons snd_var snd_nil)) snd_int)) (snd_ret (snd_call (snd_cons (snd_op o_ixT snd_var snd_int) (snd_cons (snd_tup (snd_cons snd_str snd_nil)) snd_nil)))) snd_next)
  (snd_seq (snd_ifS (snd_test (snd_op o_eq (snd_cb c_len (snd_cons snd_var snd_nil)) snd_int)) (snd_ret (snd_and (snd_call (snd_cons (snd_op o_ixT snd_var snd_int) (snd_cons (snd_tup (snd_cons snd_str snd_nil)) snd_nil))) (snd_call (snd_cons (snd_op o_ixT snd_var snd_int) (snd_cons snd_int (snd_cons (snd_op o_sub snd_var snd_int) snd_nil)))))) snd_next)
  (snd_seq (snd_asg snd_var (sndg_tup (sndg_cons sndg_name (sndg_cons sndg_name (sndg_cons sndg_name sndg_nil)))))
  (snd_seq (snd_ifS (snd_tor (snd_tnot (snd_tb (snd_call (snd_cons snd_var (snd_cons (snd_tup (snd_cons snd_str (snd_cons snd_str snd_nil))) snd_nil))))) (snd_tnot (snd_tb (snd_call (snd_cons snd_var (snd_cons (snd_c X.C.dTIES) snd_nil)))))) (snd_ret snd_bl) snd_next)
  (snd_ret (snd_call (snd_cons snd_var (snd_cons snd_int (snd_cons (snd_op o_sub snd_var snd_int) snd_nil)))))))))) rfl h⟩)
abbrev s_is_seat : Stmt := top 24
theorem sc_is_seat : FnScope ["value", "many_bodies", "wards", "term", "phase", "way"] ["value", "many_bodies", "wards"] (defScope s_is_seat) := ⟨rfl, rfl, rfl, by decide +kernel, rfl, by decide +kernel, by decide +kernel⟩
def B_is_seat : SV := (sSeq (sIf (vNot (vE (eCall S_is_tuple (aCons (eVar 0) (aCons (eC (.int 3)) (aCons (eC (.int 3)) aNil)))))) (sRet (eC (.bl false))) sNext)
  (sSeq (sAsg (eVar 0) (gvTup 3 (gvCons (gvName 3) (gvCons (gvName 4) (gvCons (gvName 5) gvNil)))))
  (sSeq (sIf (vOr (vNot (vE (eCall S_is_whole (aCons (eVar 3) (aCons (eC (.int 1)) (aCons (eC (.int 6)) aNil)))))) (vNot (vE (eCall S_is_whole (aCons (eVar 4) (aCons (eC (.int 0)) (aCons (eOp opSub (eVar 3) (eC (.int 1))) aNil))))))) (sRet (eC (.bl false))) sNext)
  (sRet (eCall S_is_way (aCons (eVar 5) (aCons (eVar 1) (aCons (eVar 2) aNil))))))))
def S_is_seat : SPEC := runD 3 6 B_is_seat
theorem ok_is_seat {f : Addr} {fd : FuncData} (F : L2.Fun K "is_seat" "is_seat" s_is_seat f fd) (X : Ctx K mg pT) {f_is_way : Addr} {fd_is_way : FuncData} (d_is_way : Dok P w K mg base 2 "is_way" ["value", "many_bodies", "wards"] (spW K S_is_way) f_is_way fd_is_way) {f_is_tuple : Addr} {fd_is_tuple : FuncData} (d_is_tuple : Dok P w K mg base 1 "is_tuple" ["value", "least", "most"] (spW K S_is_tuple) f_is_tuple fd_is_tuple) {f_is_whole : Addr} {fd_is_whole : FuncData} (d_is_whole : Dok P w K mg base 1 "is_whole" ["value", "least", "most"] (spW K S_is_whole) f_is_whole fd_is_whole) : FnOk P w K mg base CX0 3 f fd ["value", "many_bodies", "wards"] (spW K S_is_seat) :=
  F.ok sc_is_seat (fun vs H Q E h => spW_len rfl h) (fun cdv A outer s H vs Q E hr h => ⟨_, (pss_cons (ps_if (pt_not (pt_val (pe_call d_is_tuple.G (hr.mono (by decide)) rfl d_is_tuple.g d_is_tuple.k d_is_tuple.b .nil pass0 (pa_cons (pv 0) (pa_cons pe_int (pa_cons pe_int pa_nil)))))) (pss_one (ps_ret pe_bl)) pss_nil)
  (pss_cons (ps_asg (pv 0) (pg_tup rfl (pgs_cons (pg_name (i := 3) sc_is_seat.nd rfl (Or.inl rfl)) (pgs_cons (pg_name (i := 4) sc_is_seat.nd rfl (Or.inl rfl)) (pgs_cons (pg_name (i := 5) sc_is_seat.nd rfl (Or.inl rfl)) pgs_nil)))))
  (pss_cons (ps_if (PW.pt (pw_or (pt_not (pt_val (pe_call d_is_whole.G (hr.mono (by decide)) rfl d_is_whole.g d_is_whole.k d_is_whole.b .nil pass0 (pa_cons (pv 3) (pa_cons pe_int (pa_cons (pe_cstE rfl X.C.MOST_TERM) pa_nil)))))) (pw_or1 (pt_not (pt_val (pe_call d_is_whole.G (hr.mono (by decide)) rfl d_is_whole.g d_is_whole.k d_is_whole.b .nil pass0 (pa_cons (pv 4) (pa_cons pe_int (pa_cons (pe_op op_sub (pv 3) pe_int) pa_nil))))))))) (pss_one (ps_ret pe_bl)) pss_nil)
  (pss_one (ps_ret (pe_call d_is_way.G (hr.mono (by decide)) rfl d_is_way.g d_is_way.k d_is_way.b .nil pass0 (pa_cons (pv 5) (pa_cons (pv 1) (pa_cons (pv 2) pa_nil))))))))), run_of (s := B_is_seat) (snd_seq (snd_ifS (snd_tnot (snd_tb (snd_call (snd_cons snd_var (snd_cons snd_int (snd_cons snd_int snd_nil)))))) (snd_ret snd_bl) snd_next)
  (snd_seq (snd_asg snd_var (sndg_tup (sndg_cons sndg_name (sndg_cons sndg_name (sndg_cons sndg_name sndg_nil)))))
  (snd_seq (snd_ifS (snd_tor (snd_tnot (snd_tb (snd_call (snd_cons snd_var (snd_cons snd_int (snd_cons snd_int snd_nil)))))) (snd_tnot (snd_tb (snd_call (snd_cons snd_var (snd_cons snd_int (snd_cons (snd_op o_sub snd_var snd_int) snd_nil))))))) (snd_ret snd_bl) snd_next)
  (snd_ret (snd_call (snd_cons snd_var (snd_cons snd_var (snd_cons snd_var snd_nil)))))))) rfl h⟩)
abbrev s_is_sides : Stmt := top 22
theorem sc_is_sides : FnScope ["value", "many", "letter"] ["value", "many"] (defScope s_is_sides) := ⟨rfl, rfl, rfl, by decide +kernel, rfl, by decide +kernel, by decide +kernel⟩
def B_is_sides : SV := (sSeq (sIf (vOr (vNot (vE (eIsi "str" (eVar 0)))) (vE (eOp opNe (eCB cLenS (aCons (eVar 0) aNil)) (eVar 1)))) (sRet (eC (.bl false))) sNext)
  (sRet (eCB cAll (aCons (eLc (iStrD (eVar 0)) (gvName 2) vYes (eOp opInS (eVar 2) (eC (.str "ab"))) [2]) aNil))))
def S_is_sides : SPEC := runD 2 3 B_is_sides
theorem ok_is_sides {f : Addr} {fd : FuncData} (F : L2.Fun K "is_sides" "is_sides" s_is_sides f fd) (X : Ctx K mg pT) : FnOk P w K mg base CX0 1 f fd ["value", "many"] (spW K S_is_sides) :=
  F.ok sc_is_sides (fun vs H Q E h => spW_len rfl h) (fun cdv A outer s H vs Q E hr h => ⟨_, (pss_cons (ps_if (PW.pt (pw_or (pt_not (pt_val (pe_callB call_isi (by rfl) X.B.isinstance PyProof.Rows.boot_isinstance (pa_cons (pv 0) (pa_cons (pe_bltn (v := .ty "str") (by rfl) X.Z.str (by decide +kernel) rfl) pa_nil))))) (pw_or1 (pt_cmpR op_ne (pe_callB call_len_str (by rfl) X.B.len PySem.boot_len (pa_cons (pv 0) pa_nil)) (pv 1) (nomark _))))) (pss_one (ps_ret pe_bl)) pss_nil)
  (pss_one (ps_ret (pe_callB (cr_all rfl) (by rfl) X.Z.all (by decide +kernel) (pa_cons (pe_lc (own := [("letter", 2)]) (g := gName 2) (tt := tYes) rfl sc_is_sides.nd (pi_str (pv 0)) (blkOk_by (N := ["value", "many", "letter"]) (sc := defScope s_is_sides) (by decide +kernel)) (fun _ _ _ _ _ => pg_name (i := 2) sc_is_sides.nd rfl (Or.inl rfl)) (fun _ _ _ _ _ => pts_nil) (fun _ _ _ _ _ => (pe_cmpR op_in_sign (pv 2) pe_str rfl))) pa_nil))))), run_of (s := B_is_sides) (snd_seq (snd_ifS (snd_tor (snd_tnot (snd_tb (snd_isi snd_var))) (snd_test (snd_op o_ne (snd_cb c_lenS (snd_cons snd_var snd_nil)) snd_var))) (snd_ret snd_bl) snd_next)
  (snd_ret (snd_cb c_all (snd_cons (snd_lc (snd_iStr snd_var) sndg_name snd_yes (snd_op o_inS snd_var snd_str) (by decide)) snd_nil)))) rfl h⟩)
abbrev s_is_stand : Stmt := top 28
theorem sc_is_stand : FnScope ["house", "value", "bodies", "body", "letters"] ["house", "value"] (defScope s_is_stand) := ⟨rfl, rfl, rfl, by decide +kernel, rfl, by decide +kernel, by decide +kernel⟩
def B_is_stand : SV := (sSeq (sAsg (eOp opIxT (eVar 0) (eC (.int 0))) (gvName 2))
  (sSeq (sIf (vNot (vE (eCall S_is_tuple (aCons (eVar 1) (aCons (eCB cLen (aCons (eVar 2) aNil)) (aCons (eCB cLen (aCons (eVar 2) aNil)) aNil)))))) (sRet (eC (.bl false))) sNext)
  (sRet (eCB cAll (aCons (eLc (iZTT (aCons (eVar 2) (aCons (eVar 1) aNil))) (gvTup 2 (gvCons (gvName 3) (gvCons (gvName 4) gvNil))) vYes (eCall S_is_sides (aCons (eVar 4) (aCons (eCB cLen (aCons (eVar 3) aNil)) aNil))) [3, 4]) aNil)))))
def S_is_stand : SPEC := runD 2 5 B_is_stand
theorem ok_is_stand {f : Addr} {fd : FuncData} (F : L2.Fun K "is_stand" "is_stand" s_is_stand f fd) (X : Ctx K mg pT) {f_is_tuple : Addr} {fd_is_tuple : FuncData} (d_is_tuple : Dok P w K mg base 1 "is_tuple" ["value", "least", "most"] (spW K S_is_tuple) f_is_tuple fd_is_tuple) {f_is_sides : Addr} {fd_is_sides : FuncData} (d_is_sides : Dok P w K mg base 1 "is_sides" ["value", "many"] (spW K S_is_sides) f_is_sides fd_is_sides) : FnOk P w K mg base CX0 2 f fd ["house", "value"] (spW K S_is_stand) :=
  F.ok sc_is_stand (fun vs H Q E h => spW_len rfl h) (fun cdv A outer s H vs Q E hr h => ⟨_, (pss_cons (ps_set (i := 2) sc_is_stand.nd rfl (Or.inl rfl) (pe_ix ix_tup (pv 0) pe_int (fun _ _ => rfl)))
  (pss_cons (ps_if (pt_not (pt_val (pe_call d_is_tuple.G (hr.mono (by decide)) rfl d_is_tuple.g d_is_tuple.k d_is_tuple.b .nil pass0 (pa_cons (pv 1) (pa_cons (pe_callB call_len_seq (by rfl) X.B.len PySem.boot_len (pa_cons (pv 2) pa_nil)) (pa_cons (pe_callB call_len_seq (by rfl) X.B.len PySem.boot_len (pa_cons (pv 2) pa_nil)) pa_nil)))))) (pss_one (ps_ret pe_bl)) pss_nil)
  (pss_one (ps_ret (pe_callB (cr_all rfl) (by rfl) X.Z.all (by decide +kernel) (pa_cons (pe_lc (own := [("body", 3), ("letters", 4)]) (g := gTup K 2 (gCons (gName 3) (gCons (gName 4) gNil))) (tt := tYes) rfl sc_is_stand.nd (RZ.pi_zipA (by rfl) X.Z.zip (pa_cons (pv 2) (pa_cons (pv 1) pa_nil))) (blkOk_by (N := ["house", "value", "bodies", "body", "letters"]) (sc := defScope s_is_stand) (by decide +kernel)) (fun _ _ _ _ _ => pg_tup rfl (pgs_cons (pg_name (i := 3) sc_is_stand.nd rfl (Or.inl rfl)) (pgs_cons (pg_name (i := 4) sc_is_stand.nd rfl (Or.inl rfl)) pgs_nil))) (fun _ _ _ _ _ => pts_nil) (fun _ _ _ _ _ => (pe_call d_is_sides.G (hr.mono (by decide)) rfl d_is_sides.g d_is_sides.k d_is_sides.b .nil pass0 (pa_cons (pv 4) (pa_cons (pe_callB (call_lenK (K := K) rfl) (by rfl) X.B.len PySem.boot_len (pa_cons (pv 3) pa_nil)) pa_nil))))) pa_nil)))))), run_of (s := B_is_stand) (snd_seq (snd_asg (snd_op o_ixT snd_var snd_int) sndg_name)
  (snd_seq (snd_ifS (snd_tnot (snd_tb (snd_call (snd_cons snd_var (snd_cons (snd_cb c_len (snd_cons snd_var snd_nil)) (snd_cons (snd_cb c_len (snd_cons snd_var snd_nil)) snd_nil)))))) (snd_ret snd_bl) snd_next)
  (snd_ret (snd_cb c_all (snd_cons (snd_lc (snd_iZTT (snd_cons snd_var (snd_cons snd_var snd_nil))) (sndg_tup (sndg_cons sndg_name (sndg_cons sndg_name sndg_nil))) snd_yes (snd_call (snd_cons snd_var (snd_cons (snd_cb c_len (snd_cons snd_var snd_nil)) snd_nil))) (by decide)) snd_nil))))) rfl h⟩)
abbrev s_common_term : Stmt := top 27
theorem sc_common_term : FnScope ["bodies", "common", "body", "seat"] ["bodies"] (defScope s_common_term) := ⟨rfl, rfl, rfl, by decide +kernel, rfl, by decide +kernel, by decide +kernel⟩
def B_common_term : SV := (sSeq (sAsg (eC (.int 1)) (gvName 1))
  (sSeq (sFor (iTupD (eVar 0)) (gvName 2)
  (sFor (iTupD (eVar 2)) (gvName 3)
  (sAsg (eCB cLcm (aCons (eVar 1) (aCons (eOp opIxT (eVar 3) (eC (.int 0))) aNil))) (gvName 1))))
  (sRet (eVar 1))))
def S_common_term : SPEC := runD 1 4 B_common_term
theorem ok_common_term {f : Addr} {fd : FuncData} (F : L2.Fun K "common_term" "common_term" s_common_term f fd) (X : Ctx K mg pT) : FnOk P w K mg base CX0 1 f fd ["bodies"] (spW K S_common_term) :=
  F.ok sc_common_term (fun vs H Q E h => spW_len rfl h) (fun cdv A outer s H vs Q E hr h => ⟨_, (pss_cons (ps_set (i := 1) sc_common_term.nd rfl (Or.inl rfl) pe_int)
  (pss_cons (ps_for PassesOwn.never rfl (pi_tup (pv 0)) (pg_name (i := 2) sc_common_term.nd rfl (Or.inl rfl))
  (pss_one (ps_for PassesOwn.never rfl (pi_tup (pv 2)) (pg_name (i := 3) sc_common_term.nd rfl (Or.inl rfl))
  (pss_one (ps_set (i := 1) sc_common_term.nd rfl (Or.inl rfl) (pe_callBfun cr_lcm rfl X.glcm (pa_cons (pv 1) (pa_cons (pe_ix ix_tup (pv 3) pe_int (fun _ _ => rfl)) pa_nil))))))))
  (pss_one (ps_ret (pv 1))))), run_of (s := B_common_term) (snd_seq (snd_asg snd_int sndg_name)
  (snd_seq (snd_for (snd_iTup snd_var) sndg_name
  (snd_for (snd_iTup snd_var) sndg_name
  (snd_asg (snd_cb c_lcm (snd_cons snd_var (snd_cons (snd_op o_ixT snd_var snd_int) snd_nil))) sndg_name)))
  (snd_ret snd_var))) rfl h⟩)
abbrev s_all_choices : Stmt := top 37
theorem sc_all_choices : FnScope ["wards", "rows", "_", "row", "side"] ["wards"] (defScope s_all_choices) := ⟨rfl, rfl, rfl, by decide +kernel, rfl, by decide +kernel, by decide +kernel⟩
def B_all_choices : SV := (sSeq (sAsg (eLst (aCons (eC (.str "")) aNil)) (gvName 1))
  (sSeq (sFor (iR1 (aCons (eVar 0) aNil)) (gvName 2)
  (sAsg (eLc2 (iLstD (eVar 1)) (gvName 3) vYes (iStrD (eC (.str "ab"))) (gvName 4) vYes (eOp opCatS (eVar 3) (eVar 4)) [3, 4] [4]) (gvName 1)))
  (sRet (eVar 1))))
def S_all_choices : SPEC := runD 1 5 B_all_choices
theorem ok_all_choices {f : Addr} {fd : FuncData} (F : L2.Fun K "all_choices" "all_choices" s_all_choices f fd) (X : Ctx K mg pT) : FnOk P w K mg base CX0 1 f fd ["wards"] (spW K S_all_choices) :=
  F.ok sc_all_choices (fun vs H Q E h => spW_len rfl h) (fun cdv A outer s H vs Q E hr h => ⟨_, (pss_cons (ps_set (i := 1) sc_all_choices.nd rfl (Or.inl rfl) (pe_lst (pa_cons pe_str pa_nil)))
  (pss_cons (ps_for PassesOwn.never rfl (pi_range1 rfl X.B.range (pa_cons (pv 0) pa_nil)) (pg_name (i := 2) sc_all_choices.nd rfl (Or.inl rfl))
  (pss_one (ps_setLc2 (i := 1) (own := [("row", 3), ("side", 4)]) (vs1 := [4]) (g := gName 3) (tt := tYes) (g1 := gName 4) (tt1 := tYes) rfl sc_all_choices.nd rfl rfl (sw_true rfl rfl rfl (by decide +kernel)) (pi_list (pv 1)) (blkOk_by (N := ["wards", "rows", "_", "row", "side"]) (sc := defScope s_all_choices) (by decide +kernel)) (by decide) (fun _ _ _ _ _ => pg_name (i := 3) sc_all_choices.nd rfl (Or.inl rfl)) (fun _ _ _ _ _ => pts_nil) (fun _ _ _ _ _ => (pi_str pe_str)) (fun _ _ _ _ _ => pg_name (i := 4) sc_all_choices.nd rfl (Or.inl rfl)) (fun _ _ _ _ _ => pts_nil) (fun _ _ _ _ _ => (pe_op op_add_str (pv 3) (pv 4))))))
  (pss_one (ps_ret (pv 1))))), run_of (s := B_all_choices) (snd_seq (snd_asg (snd_lst (snd_cons snd_str snd_nil)) sndg_name)
  (snd_seq (snd_for (snd_iR1 (snd_cons snd_var snd_nil)) sndg_name
  (snd_asg (snd_lc2 (snd_iLst snd_var) sndg_name snd_yes (snd_iStr snd_str) sndg_name snd_yes (snd_op o_catS snd_var snd_var) (by decide) (by decide)) sndg_name))
  (snd_ret snd_var))) rfl h⟩)
abbrev s_first_state : Stmt := top 61
theorem sc_first_state : FnScope ["stand"] ["stand"] (defScope s_first_state) := ⟨rfl, rfl, rfl, by decide +kernel, rfl, by decide +kernel, by decide +kernel⟩
def B_first_state : SV := (sRet (eTup (aCons (eVar 0) (aCons (eC (.int 0)) (aCons (eC (.str "")) (aCons (eTup aNil) aNil))))))
def S_first_state : SPEC := runD 1 1 B_first_state
theorem ok_first_state {f : Addr} {fd : FuncData} (F : L2.Fun K "first_state" "first_state" s_first_state f fd) (X : Ctx K mg pT) : FnOk P w K mg base CX0 1 f fd ["stand"] (spW K S_first_state) :=
  F.ok sc_first_state (fun vs H Q E h => spW_len rfl h) (fun cdv A outer s H vs Q E hr h => ⟨_, (pss_one (ps_ret (pe_tup (pa_cons (pv 0) (pa_cons pe_int (pa_cons pe_str (pa_cons (pe_tup pa_nil) pa_nil))))))), run_of (s := B_first_state) (snd_ret (snd_tup (snd_cons snd_var (snd_cons snd_int (snd_cons snd_str (snd_cons (snd_tup snd_nil) snd_nil)))))) rfl h⟩)
abbrev s__law_marks : Stmt := top 79
theorem sc__law_marks : FnScope ["error", "found"] ["error"] (defScope s__law_marks) := ⟨rfl, rfl, rfl, by decide +kernel, rfl, by decide +kernel, by decide +kernel⟩
def B__law_marks (K : PySem.W.Frag) (pT : String → Addr) : SW := (sSeqW (sAsgW (eLstW (aConsW (eIsYW K (.ref (pT "BadHouse")) (lE (eVar 0))) (aConsW (eIsYW K (.ref (pT "BadStand")) (lE (eVar 0))) (aConsW (eIsYW K (.ref (pT "BadChoices")) (lE (eVar 0))) aNilW)))) (gvName 1))
  (sSeqW (sAsgW (eOpW opCatL (lE (eVar 1)) (eLstW (aConsW (eIsYW K (.ref (pT "BadBand")) (lE (eVar 0))) (aConsW (eIsYW K (.ref (pT "BadNumber")) (lE (eVar 0))) (aConsW (eIsYW K (.ref (pT "BadPaper")) (lE (eVar 0))) aNilW))))) (gvName 1))
  (sRetW (eOpW opCatL (lE (eVar 1)) (eLstW (aConsW (eIsYW K (.ref (pT "TooGreat")) (lE (eVar 0))) aNilW))))))
def S__law_marks (K : PySem.W.Frag) (pT : String → Addr) : SPN := runW 1 2 (B__law_marks K pT)
theorem ok__law_marks {f : Addr} {fd : FuncData} (F : L2.Fun K "_law_marks" "_law_marks" s__law_marks f fd) (X : Ctx K mg pT) : FnOk P w K mg base CX0 1 f fd ["error"] (spS w K (S__law_marks K pT)) :=
  F.ok sc__law_marks (fun vs H Q E h => spS_len rfl h) (fun cdv A outer s H vs Q E hr h => ⟨_, (pss_cons (ps_set (i := 1) sc__law_marks.nd rfl (Or.inl rfl) (pe_lst (pa_cons (pe_callB (call_isYK rfl) (by rfl) X.B.isinstance PyProof.Rows.boot_isinstance (pa_cons (pv 0) (pa_cons (pe_cls rfl X.y_BadHouse) pa_nil))) (pa_cons (pe_callB (call_isYK rfl) (by rfl) X.B.isinstance PyProof.Rows.boot_isinstance (pa_cons (pv 0) (pa_cons (pe_cls rfl X.y_BadStand) pa_nil))) (pa_cons (pe_callB (call_isYK rfl) (by rfl) X.B.isinstance PyProof.Rows.boot_isinstance (pa_cons (pv 0) (pa_cons (pe_cls rfl X.y_BadChoices) pa_nil))) pa_nil)))))
  (pss_cons (ps_set (i := 1) sc__law_marks.nd rfl (Or.inl rfl) (pe_op op_cat (pv 1) (pe_lst (pa_cons (pe_callB (call_isYK rfl) (by rfl) X.B.isinstance PyProof.Rows.boot_isinstance (pa_cons (pv 0) (pa_cons (pe_cls rfl X.y_BadBand) pa_nil))) (pa_cons (pe_callB (call_isYK rfl) (by rfl) X.B.isinstance PyProof.Rows.boot_isinstance (pa_cons (pv 0) (pa_cons (pe_cls rfl X.y_BadNumber) pa_nil))) (pa_cons (pe_callB (call_isYK rfl) (by rfl) X.B.isinstance PyProof.Rows.boot_isinstance (pa_cons (pv 0) (pa_cons (pe_cls rfl X.y_BadPaper) pa_nil))) pa_nil))))))
  (pss_one (ps_ret (pe_op op_cat (pv 1) (pe_lst (pa_cons (pe_callB (call_isYK rfl) (by rfl) X.B.isinstance PyProof.Rows.boot_isinstance (pa_cons (pv 0) (pa_cons (pe_cls rfl X.y_TooGreat) pa_nil))) pa_nil))))))), run_ofW (s := (B__law_marks K pT)) (sw_seq (sw_asg (sw_lst (sw_cons (sw_isY (lf_E snd_var)) (sw_cons (sw_isY (lf_E snd_var)) (sw_cons (sw_isY (lf_E snd_var)) sw_nil)))) sndg_name)
  (sw_seq (sw_asg (sw_op o_catL (lf_E snd_var) (sw_lst (sw_cons (sw_isY (lf_E snd_var)) (sw_cons (sw_isY (lf_E snd_var)) (sw_cons (sw_isY (lf_E snd_var)) sw_nil))))) sndg_name)
  (sw_ret (sw_op o_catL (lf_E snd_var) (sw_lst (sw_cons (sw_isY (lf_E snd_var)) sw_nil)))))) rfl h⟩)
theorem okQ__law_marks {f : Addr} {fd : FuncData} (F : L2.Fun K "_law_marks" "_law_marks" s__law_marks f fd) (X : Ctx K mg pT) : FnQ P w K mg base 1 f fd ["error"] (spS w K (S__law_marks K pT)) :=
  fnq_of F sc__law_marks (fun vs H Q E h => spS_len rfl h) (fun cdv A a outer s H vs Q E hr h => ⟨_, (pss_cons (ps_set (i := 1) sc__law_marks.nd rfl (Or.inl rfl) (pe_lst (pa_cons (pe_callB (call_isYK rfl) (by rfl) X.B.isinstance PyProof.Rows.boot_isinstance (pa_cons (pv 0) (pa_cons (pe_cls rfl X.y_BadHouse) pa_nil))) (pa_cons (pe_callB (call_isYK rfl) (by rfl) X.B.isinstance PyProof.Rows.boot_isinstance (pa_cons (pv 0) (pa_cons (pe_cls rfl X.y_BadStand) pa_nil))) (pa_cons (pe_callB (call_isYK rfl) (by rfl) X.B.isinstance PyProof.Rows.boot_isinstance (pa_cons (pv 0) (pa_cons (pe_cls rfl X.y_BadChoices) pa_nil))) pa_nil)))))
  (pss_cons (ps_set (i := 1) sc__law_marks.nd rfl (Or.inl rfl) (pe_op op_cat (pv 1) (pe_lst (pa_cons (pe_callB (call_isYK rfl) (by rfl) X.B.isinstance PyProof.Rows.boot_isinstance (pa_cons (pv 0) (pa_cons (pe_cls rfl X.y_BadBand) pa_nil))) (pa_cons (pe_callB (call_isYK rfl) (by rfl) X.B.isinstance PyProof.Rows.boot_isinstance (pa_cons (pv 0) (pa_cons (pe_cls rfl X.y_BadNumber) pa_nil))) (pa_cons (pe_callB (call_isYK rfl) (by rfl) X.B.isinstance PyProof.Rows.boot_isinstance (pa_cons (pv 0) (pa_cons (pe_cls rfl X.y_BadPaper) pa_nil))) pa_nil))))))
  (pss_one (ps_ret (pe_op op_cat (pv 1) (pe_lst (pa_cons (pe_callB (call_isYK rfl) (by rfl) X.B.isinstance PyProof.Rows.boot_isinstance (pa_cons (pv 0) (pa_cons (pe_cls rfl X.y_TooGreat) pa_nil))) pa_nil))))))), run_ofW (s := (B__law_marks K pT)) (sw_seq (sw_asg (sw_lst (sw_cons (sw_isY (lf_E snd_var)) (sw_cons (sw_isY (lf_E snd_var)) (sw_cons (sw_isY (lf_E snd_var)) sw_nil)))) sndg_name)
  (sw_seq (sw_asg (sw_op o_catL (lf_E snd_var) (sw_lst (sw_cons (sw_isY (lf_E snd_var)) (sw_cons (sw_isY (lf_E snd_var)) (sw_cons (sw_isY (lf_E snd_var)) sw_nil))))) sndg_name)
  (sw_ret (sw_op o_catL (lf_E snd_var) (sw_lst (sw_cons (sw_isY (lf_E snd_var)) sw_nil)))))) rfl h⟩)
abbrev s__law_above : Stmt := top 80
theorem sc__law_above : FnScope ["error", "found"] ["error"] (defScope s__law_above) := ⟨rfl, rfl, rfl, by decide +kernel, rfl, by decide +kernel, by decide +kernel⟩
def B__law_above (K : PySem.W.Frag) (pT : String → Addr) : SW := (sSeqW (sAsgW (eLstW (aConsW (eIsYW K (.ref (pT "SeatError")) (lE (eVar 0))) (aConsW (eIsYW K (.ty "ValueError") (lE (eVar 0))) (aConsW (eIsYW K (.ty "OverflowError") (lE (eVar 0))) aNilW)))) (gvName 1))
  (sRetW (eOpW opCatL (lE (eVar 1)) (eLstW (aConsW (eIsYW K (.ty "LookupError") (lE (eVar 0))) (aConsW (eIsYW K (.ty "RuntimeError") (lE (eVar 0))) (aConsW (eIsYW K (.ty "TypeError") (lE (eVar 0))) aNilW)))))))
def S__law_above (K : PySem.W.Frag) (pT : String → Addr) : SPN := runW 1 2 (B__law_above K pT)
theorem ok__law_above {f : Addr} {fd : FuncData} (F : L2.Fun K "_law_above" "_law_above" s__law_above f fd) (X : Ctx K mg pT) : FnOk P w K mg base CX0 1 f fd ["error"] (spS w K (S__law_above K pT)) :=
  F.ok sc__law_above (fun vs H Q E h => spS_len rfl h) (fun cdv A outer s H vs Q E hr h => ⟨_, (pss_cons (ps_set (i := 1) sc__law_above.nd rfl (Or.inl rfl) (pe_lst (pa_cons (pe_callB (call_isYK rfl) (by rfl) X.B.isinstance PyProof.Rows.boot_isinstance (pa_cons (pv 0) (pa_cons (pe_cls rfl X.y_SeatError) pa_nil))) (pa_cons (pe_callB (call_isYK rfl) (by rfl) X.B.isinstance PyProof.Rows.boot_isinstance (pa_cons (pv 0) (pa_cons (pe_bltn (v := .ty "ValueError") (by rfl) X.nb_ValueError (by decide +kernel) rfl) pa_nil))) (pa_cons (pe_callB (call_isYK rfl) (by rfl) X.B.isinstance PyProof.Rows.boot_isinstance (pa_cons (pv 0) (pa_cons (pe_bltn (v := .ty "OverflowError") (by rfl) X.nb_OverflowError (by decide +kernel) rfl) pa_nil))) pa_nil)))))
  (pss_one (ps_ret (pe_op op_cat (pv 1) (pe_lst (pa_cons (pe_callB (call_isYK rfl) (by rfl) X.B.isinstance PyProof.Rows.boot_isinstance (pa_cons (pv 0) (pa_cons (pe_bltn (v := .ty "LookupError") (by rfl) X.nb_LookupError (by decide +kernel) rfl) pa_nil))) (pa_cons (pe_callB (call_isYK rfl) (by rfl) X.B.isinstance PyProof.Rows.boot_isinstance (pa_cons (pv 0) (pa_cons (pe_bltn (v := .ty "RuntimeError") (by rfl) X.nb_RuntimeError (by decide +kernel) rfl) pa_nil))) (pa_cons (pe_callB (call_isYK rfl) (by rfl) X.B.isinstance PyProof.Rows.boot_isinstance (pa_cons (pv 0) (pa_cons (pe_bltn (v := .ty "TypeError") (by rfl) X.nb_TypeError (by decide +kernel) rfl) pa_nil))) pa_nil)))))))), run_ofW (s := (B__law_above K pT)) (sw_seq (sw_asg (sw_lst (sw_cons (sw_isY (lf_E snd_var)) (sw_cons (sw_isY (lf_E snd_var)) (sw_cons (sw_isY (lf_E snd_var)) sw_nil)))) sndg_name)
  (sw_ret (sw_op o_catL (lf_E snd_var) (sw_lst (sw_cons (sw_isY (lf_E snd_var)) (sw_cons (sw_isY (lf_E snd_var)) (sw_cons (sw_isY (lf_E snd_var)) sw_nil))))))) rfl h⟩)
abbrev s__law_made_right : Stmt := top 81
theorem sc__law_made_right : FnScope ["thing", "some", "more", "row", "told", "at", "error", "k"] ["thing"] (defScope s__law_made_right) := ⟨rfl, rfl, rfl, by decide +kernel, rfl, by decide +kernel, by decide +kernel⟩
def B__law_made_right (K : PySem.W.Frag) (pT : String → Addr) : SW := (sSeqW (sAsgW (eLstW (aConsW (eMkXW (pT "BadHouse") "place" (lE (eVar 0))) (aConsW (eMkXW (pT "BadStand") "value" (lE (eVar 0))) (aConsW (eMkXW (pT "BadChoices") "place" (lE (eVar 0))) (aConsW (eMkXW (pT "BadBand") "part" (lE (eVar 0))) (aConsW (eMkXW (pT "BadNumber") "value" (lE (eVar 0))) (aConsW (eMkXW (pT "BadPaper") "word" (lE (eVar 0))) aNilW))))))) (gvName 1))
  (sSeqW (sAsgW (eLstW (aConsW (eMkXW (pT "BadHouse") "place" (lE (eVar 0))) (aConsW (eMkXW (pT "BadStand") "value" (lE (eVar 0))) (aConsW (eMkXW (pT "BadChoices") "place" (lE (eVar 0))) (aConsW (eMkXW (pT "BadBand") "part" (lE (eVar 0))) aNilW))))) (gvName 2))
  (sSeqW (sAsgW (eOpW opCatL (lE (eVar 2)) (eLstW (aConsW (eMkXW (pT "BadNumber") "value" (lE (eVar 0))) (aConsW (eMkXW (pT "BadPaper") "word" (lE (eVar 0))) (aConsW (eMkXW (pT "TooGreat") "most" (lE (eVar 0))) aNilW))))) (gvName 2))
  (sSeqW (sForW (jTup (eTupW (aConsW (eOpW opCatL (lE (eVar 1)) (eLstW (aConsW (eMkXW (pT "TooGreat") "most" (lE (eVar 0))) aNilW))) (aConsW (lE (eVar 2)) aNilW)))) (gvName 3)
  (sSeqW (sAsgW (eLstW (aConsW (eXFldW K "place" (lE (eOp opIxL (eVar 3) (eC (.int 0))))) (aConsW (eXFldW K "value" (lE (eOp opIxL (eVar 3) (eC (.int 1))))) (aConsW (eXFldW K "place" (lE (eOp opIxL (eVar 3) (eC (.int 2))))) (aConsW (eXFldW K "part" (lE (eOp opIxL (eVar 3) (eC (.int 3))))) (aConsW (eXFldW K "value" (lE (eOp opIxL (eVar 3) (eC (.int 4))))) (aConsW (eXFldW K "word" (lE (eOp opIxL (eVar 3) (eC (.int 5))))) (aConsW (eXFldW K "most" (lE (eOp opIxL (eVar 3) (eC (.int 6))))) aNilW)))))))) (gvName 4))
  (sSeqW (sIfW (lT (vNot (vE (eCall S__law_like (aCons (eVar 4) (aCons (eOp opRepL (eLst (aCons (eVar 0) aNil)) (eC (.int 7))) aNil)))))) (sRetW (lE (eC (.bl false)))) sNextW)
  (sForW (lI (iEnL (aCons (eVar 3) aNil))) (gvTup 2 (gvCons (gvName 5) (gvCons (gvName 6) gvNil)))
  (sSeqW (sIfW (vEW (eOpW opNeD (eCall0 (S__law_marks K pT) (lA (aCons (eVar 6) aNil))) (lE (eLc (iR1 (aCons (eC (.int 7)) aNil)) (gvName 7) vYes (eOp opEq (eVar 7) (eVar 5)) [7])))) (sRetW (lE (eC (.bl false)))) sNextW)
  (sIfW (vEW (eOpW opNeD (eCall0 (S__law_above K pT) (lA (aCons (eVar 6) aNil))) (lE (eLst (aCons (eOp opLt (eVar 5) (eC (.int 6))) (aCons (eOp opLt (eVar 5) (eC (.int 6))) (aCons (eOp opEq (eVar 5) (eC (.int 6))) (aCons (eC (.bl false)) (aCons (eC (.bl false)) (aCons (eC (.bl false)) aNil)))))))))) (sRetW (lE (eC (.bl false)))) sNextW))))))
  (sRetW (lE (eC (.bl true))))))))
def S__law_made_right (K : PySem.W.Frag) (pT : String → Addr) : SPN := runW 1 8 (B__law_made_right K pT)
theorem ok__law_made_right {f : Addr} {fd : FuncData} (F : L2.Fun K "_law_made_right" "_law_made_right" s__law_made_right f fd) (X : Ctx K mg pT) {i_BadHouse : Addr} {fd_BadHouse : FuncData} (xBadHouse : Xc P w K mg base "BadHouse" "place" (pT "BadHouse") i_BadHouse fd_BadHouse) {i_BadStand : Addr} {fd_BadStand : FuncData} (xBadStand : Xc P w K mg base "BadStand" "value" (pT "BadStand") i_BadStand fd_BadStand) {i_BadChoices : Addr} {fd_BadChoices : FuncData} (xBadChoices : Xc P w K mg base "BadChoices" "place" (pT "BadChoices") i_BadChoices fd_BadChoices) {i_BadBand : Addr} {fd_BadBand : FuncData} (xBadBand : Xc P w K mg base "BadBand" "part" (pT "BadBand") i_BadBand fd_BadBand) {i_BadNumber : Addr} {fd_BadNumber : FuncData} (xBadNumber : Xc P w K mg base "BadNumber" "value" (pT "BadNumber") i_BadNumber fd_BadNumber) {i_BadPaper : Addr} {fd_BadPaper : FuncData} (xBadPaper : Xc P w K mg base "BadPaper" "word" (pT "BadPaper") i_BadPaper fd_BadPaper) {i_TooGreat : Addr} {fd_TooGreat : FuncData} (xTooGreat : Xg P w K mg base "TooGreat" "most" (pT "TooGreat") i_TooGreat fd_TooGreat) (kTooGreat : KwB fd_TooGreat ["self", "most"] ["most"] id id) {f__law_like : Addr} {fd__law_like : FuncData} (d__law_like : DoG P w K mg base 1 "_law_like" ["heard", "due"] (spW K S__law_like) f__law_like fd__law_like) {f__law_marks : Addr} {fd__law_marks : FuncData} (d__law_marks : Dok P w K mg base 1 "_law_marks" ["error"] (spS w K (S__law_marks K pT)) f__law_marks fd__law_marks) {f__law_above : Addr} {fd__law_above : FuncData} (d__law_above : Dok P w K mg base 1 "_law_above" ["error"] (spS w K (S__law_above K pT)) f__law_above fd__law_above) : FnG P w K mg base CX0 3 f fd ["thing"] (spS w K (S__law_made_right K pT)) :=
  fnG_of0 F sc__law_made_right (fun vs H Q E h => spS_len rfl h) (fun cdv A outer s H vs Q E g hr h => by
  have g2 := guards_deeper g (PyProof.Rows.envOfC "_law_made_right" (defScope s__law_made_right) s.heap.objs.size f cdv)
  exact ⟨_, (pss_cons (ps_set (i := 1) sc__law_made_right.nd rfl (Or.inl rfl) (pe_lst (pa_cons (pe_mkX xBadHouse.o xBadHouse.iC xBadHouse.tI xBadHouse.F (hr.mono (by decide)) xBadHouse.b pass0 xBadHouse.g (pa_cons (pv 0) pa_nil)) (pa_cons (pe_mkX xBadStand.o xBadStand.iC xBadStand.tI xBadStand.F (hr.mono (by decide)) xBadStand.b pass0 xBadStand.g (pa_cons (pv 0) pa_nil)) (pa_cons (pe_mkX xBadChoices.o xBadChoices.iC xBadChoices.tI xBadChoices.F (hr.mono (by decide)) xBadChoices.b pass0 xBadChoices.g (pa_cons (pv 0) pa_nil)) (pa_cons (pe_mkX xBadBand.o xBadBand.iC xBadBand.tI xBadBand.F (hr.mono (by decide)) xBadBand.b pass0 xBadBand.g (pa_cons (pv 0) pa_nil)) (pa_cons (pe_mkX xBadNumber.o xBadNumber.iC xBadNumber.tI xBadNumber.F (hr.mono (by decide)) xBadNumber.b pass0 xBadNumber.g (pa_cons (pv 0) pa_nil)) (pa_cons (pe_mkX xBadPaper.o xBadPaper.iC xBadPaper.tI xBadPaper.F (hr.mono (by decide)) xBadPaper.b pass0 xBadPaper.g (pa_cons (pv 0) pa_nil)) pa_nil))))))))
  (pss_cons (ps_set (i := 2) sc__law_made_right.nd rfl (Or.inl rfl) (pe_lst (pa_cons (pe_mkK xBadHouse.o xBadHouse.iC xBadHouse.tI xBadHouse.F (hr.mono (by decide)) xBadHouse.kw pass0 xBadHouse.g (pk_cons (pv 0) pk_nil)) (pa_cons (pe_mkK xBadStand.o xBadStand.iC xBadStand.tI xBadStand.F (hr.mono (by decide)) xBadStand.kw pass0 xBadStand.g (pk_cons (pv 0) pk_nil)) (pa_cons (pe_mkK xBadChoices.o xBadChoices.iC xBadChoices.tI xBadChoices.F (hr.mono (by decide)) xBadChoices.kw pass0 xBadChoices.g (pk_cons (pv 0) pk_nil)) (pa_cons (pe_mkK xBadBand.o xBadBand.iC xBadBand.tI xBadBand.F (hr.mono (by decide)) xBadBand.kw pass0 xBadBand.g (pk_cons (pv 0) pk_nil)) pa_nil))))))
  (pss_cons (ps_set (i := 2) sc__law_made_right.nd rfl (Or.inl rfl) (pe_op op_cat (pv 2) (pe_lst (pa_cons (pe_mkK xBadNumber.o xBadNumber.iC xBadNumber.tI xBadNumber.F (hr.mono (by decide)) xBadNumber.kw pass0 xBadNumber.g (pk_cons (pv 0) pk_nil)) (pa_cons (pe_mkK xBadPaper.o xBadPaper.iC xBadPaper.tI xBadPaper.F (hr.mono (by decide)) xBadPaper.kw pass0 xBadPaper.g (pk_cons (pv 0) pk_nil)) (pa_cons (pe_mkOK xTooGreat.x.o xTooGreat.x.iC xTooGreat.x.tI xTooGreat.x.F (hr.mono (by decide)) kTooGreat pass0 xTooGreat.x.g (pk_cons (pv 0) pk_nil)) pa_nil))))))
  (pss_cons (ps_for PassesOwn.never rfl (pi_tup (pe_tup (pa_cons (pe_op op_cat (pv 1) (pe_lst (pa_cons (pe_mkO xTooGreat.x.o xTooGreat.x.iC xTooGreat.x.tI xTooGreat.x.F (hr.mono (by decide)) xTooGreat.x.b pass0 xTooGreat.x.g (pa_cons (pv 0) pa_nil)) pa_nil))) (pa_cons (pv 2) pa_nil)))) (pg_name (i := 3) sc__law_made_right.nd rfl (Or.inl rfl))
  (pss_cons (ps_set (i := 4) sc__law_made_right.nd rfl (Or.inl rfl) (pe_lst (pa_cons (pe_xa (pe_ix ix_list (pv 3) pe_int (fun _ _ => rfl))) (pa_cons (pe_xa (pe_ix ix_list (pv 3) pe_int (fun _ _ => rfl))) (pa_cons (pe_xa (pe_ix ix_list (pv 3) pe_int (fun _ _ => rfl))) (pa_cons (pe_xa (pe_ix ix_list (pv 3) pe_int (fun _ _ => rfl))) (pa_cons (pe_xa (pe_ix ix_list (pv 3) pe_int (fun _ _ => rfl))) (pa_cons (pe_xa (pe_ix ix_list (pv 3) pe_int (fun _ _ => rfl))) (pa_cons (pe_xa (pe_ix ix_list (pv 3) pe_int (fun _ _ => rfl))) pa_nil)))))))))
  (pss_cons (ps_if (pt_not (pt_val (pe_callG d__law_like.G g2 (hr.mono (by decide)) rfl d__law_like.g d__law_like.k d__law_like.b pass0 (pa_cons (pv 4) (pa_cons (pe_op op_rep (pe_lst (pa_cons (pv 0) pa_nil)) pe_int) pa_nil))))) (pss_one (ps_ret pe_bl)) pss_nil)
  (pss_one (ps_for PassesOwn.never rfl (pi_enum (by rfl) X.B.enumerate (pa_cons (pv 3) pa_nil)) (pg_tup rfl (pgs_cons (pg_name (i := 5) sc__law_made_right.nd rfl (Or.inr rfl)) (pgs_cons (pg_name (i := 6) sc__law_made_right.nd rfl (Or.inl rfl)) pgs_nil)))
  (pss_cons (ps_if (pt_cmpR (op_neD hr.units) (pe_call d__law_marks.G (hr.mono (by decide)) rfl d__law_marks.g d__law_marks.k d__law_marks.b .nil pass0 (pa_cons (pv 6) pa_nil)) (pe_lc (own := [("k", 7)]) (g := gName 7) (tt := tYes) rfl sc__law_made_right.nd (pi_range1 rfl X.B.range (pa_cons pe_int pa_nil)) (blkOk_by (N := ["thing", "some", "more", "row", "told", "at", "error", "k"]) (sc := defScope s__law_made_right) (by decide +kernel)) (fun _ _ _ _ _ => pg_name (i := 7) sc__law_made_right.nd rfl (Or.inl rfl)) (fun _ _ _ _ _ => pts_nil) (fun _ _ _ _ _ => (pe_cmpR op_eq (pv 7) (pv 5) (nomark _)))) (nomark _)) (pss_one (ps_ret pe_bl)) pss_nil)
  (pss_one (ps_if (pt_cmpR (op_neD hr.units) (pe_call d__law_above.G (hr.mono (by decide)) rfl d__law_above.g d__law_above.k d__law_above.b .nil pass0 (pa_cons (pv 6) pa_nil)) (pe_lst (pa_cons (pe_cmpR op_lt (pv 5) pe_int (nomark _)) (pa_cons (pe_cmpR op_lt (pv 5) pe_int (nomark _)) (pa_cons (pe_cmpR op_eq (pv 5) pe_int (nomark _)) (pa_cons pe_bl (pa_cons pe_bl (pa_cons pe_bl pa_nil))))))) (nomark _)) (pss_one (ps_ret pe_bl)) pss_nil))))))))
  (pss_one (ps_ret pe_bl)))))), run_ofW (s := (B__law_made_right K pT)) (sw_seq (sw_asg (sw_lst (sw_cons (sw_mkX (lf_E snd_var)) (sw_cons (sw_mkX (lf_E snd_var)) (sw_cons (sw_mkX (lf_E snd_var)) (sw_cons (sw_mkX (lf_E snd_var)) (sw_cons (sw_mkX (lf_E snd_var)) (sw_cons (sw_mkX (lf_E snd_var)) sw_nil))))))) sndg_name)
  (sw_seq (sw_asg (sw_lst (sw_cons (sw_mkK (lf_E snd_var)) (sw_cons (sw_mkK (lf_E snd_var)) (sw_cons (sw_mkK (lf_E snd_var)) (sw_cons (sw_mkK (lf_E snd_var)) sw_nil))))) sndg_name)
  (sw_seq (sw_asg (sw_op o_catL (lf_E snd_var) (sw_lst (sw_cons (sw_mkK (lf_E snd_var)) (sw_cons (sw_mkK (lf_E snd_var)) (sw_cons (sw_mkK (lf_E snd_var)) sw_nil))))) sndg_name)
  (sw_seq (sw_for (sw_iTup (sw_tup (sw_cons (sw_op o_catL (lf_E snd_var) (sw_lst (sw_cons (sw_mkX (lf_E snd_var)) sw_nil))) (sw_cons (lf_E snd_var) sw_nil)))) sndg_name
  (sw_seq (sw_asg (sw_lst (sw_cons (sw_xfld (lf_E (snd_op o_ixL snd_var snd_int))) (sw_cons (sw_xfld (lf_E (snd_op o_ixL snd_var snd_int))) (sw_cons (sw_xfld (lf_E (snd_op o_ixL snd_var snd_int))) (sw_cons (sw_xfld (lf_E (snd_op o_ixL snd_var snd_int))) (sw_cons (sw_xfld (lf_E (snd_op o_ixL snd_var snd_int))) (sw_cons (sw_xfld (lf_E (snd_op o_ixL snd_var snd_int))) (sw_cons (sw_xfld (lf_E (snd_op o_ixL snd_var snd_int))) sw_nil)))))))) sndg_name)
  (sw_seq (sw_ifS (lf_T (snd_tnot (snd_tb (snd_call (snd_cons snd_var (snd_cons (snd_op o_repL (snd_lst (snd_cons snd_var snd_nil)) snd_int) snd_nil)))))) (sw_ret (lf_E snd_bl)) sw_next)
  (sw_for (lf_I (snd_iEnL (snd_cons snd_var snd_nil))) (sndg_tup (sndg_cons sndg_name (sndg_cons sndg_name sndg_nil)))
  (sw_seq (sw_ifS (sw_test (sw_op o_neD (sw_call0 (lf_A (snd_cons snd_var snd_nil))) (lf_E (snd_lc (snd_iR1 (snd_cons snd_int snd_nil)) sndg_name snd_yes (snd_op o_eq snd_var snd_var) (by decide))))) (sw_ret (lf_E snd_bl)) sw_next)
  (sw_ifS (sw_test (sw_op o_neD (sw_call0 (lf_A (snd_cons snd_var snd_nil))) (lf_E (snd_lst (snd_cons (snd_op o_lt snd_var snd_int) (snd_cons (snd_op o_lt snd_var snd_int) (snd_cons (snd_op o_eq snd_var snd_int) (snd_cons snd_bl (snd_cons snd_bl (snd_cons snd_bl snd_nil)))))))))) (sw_ret (lf_E snd_bl)) sw_next))))))
  (sw_ret (lf_E snd_bl)))))) rfl h⟩)
abbrev s__law_raised : Stmt := top 82
theorem sc__law_raised : FnScope ["call", "found", "error"] ["call"] (defScope s__law_raised) := ⟨rfl, rfl, rfl, by decide +kernel, rfl, by decide +kernel, by decide +kernel⟩
def B__law_raised (K : PySem.W.Frag) (pT : String → Addr) (fd : D) (SF : SPN) : SW := (sSeqW (sAsgW (lE (eLst aNil)) (gvName 1))
  (sSeqW (sTryED K (eActW 0 fd SF (lA aNil)) [(.ref (pT "SeatError"), 2, (sAsgW (eOpW opCatL (lE (eLst (aCons (eC (.str "seat")) aNil))) (eCall0 (S__law_marks K pT) (lA (aCons (eVar 2) aNil)))) (gvName 1))), (.ref (pT "TooGreat"), 2, (sAsgW (eOpW opCatL (lE (eLst (aCons (eC (.str "great")) aNil))) (eCall0 (S__law_marks K pT) (lA (aCons (eVar 2) aNil)))) (gvName 1)))])
  (sRetW (lE (eVar 1)))))
def S__law_raised (K : PySem.W.Frag) (pT : String → Addr) (fd : D) (SF : SPN) : SPN := runW 1 3 (B__law_raised K pT fd SF)
theorem ok__law_raised {f : Addr} {fd : FuncData} (F : L2.Fun K "_law_raised" "_law_raised" s__law_raised f fd) (X : Ctx K mg pT) {f__law_marks : Addr} {fd__law_marks : FuncData} (d__law_marks : Dok P w K mg base 1 "_law_marks" ["error"] (spS w K (S__law_marks K pT)) f__law_marks fd__law_marks) (q__law_marks : DoQ P w K mg base 1 "_law_marks" ["error"] (spS w K (S__law_marks K pT)) f__law_marks fd__law_marks) : ∀ cdv : Value, GivesW P w K mg base 20 ["call", "found", "error"] ["call"] 0 "call" "_law_raised" (defScope s__law_raised) (defBody s__law_raised) f cdv (S__law_raised K pT) := fun cdv A stack f' s H us Q fd SF tl hl gd hr isF tell act h => by
  have g2 := guards_deeper gd (PyProof.Rows.envOfC "_law_raised" (defScope s__law_raised) s.heap.objs.size f cdv)
  exact ⟨_, (pss_cons (ps_set (i := 1) sc__law_raised.nd rfl (Or.inl rfl) (pe_lst pa_nil))
  (pss_cons (ps_tryT rfl rfl sc__law_raised.nd rfl takes_no (fun W pn xe tk _ => pss_one (ps_expr (act.zero W pn xe _ _ tk))) (Hds.cons (c := .ref (pT "SeatError")) (i := 2) ⟨rfl, by decide, Or.inl X.y_SeatError⟩ rfl rfl (fun a pn => (pss_one (ps_set (i := 1) sc__law_raised.nd rfl (Or.inl rfl) (pe_op op_cat (pe_lst (pa_cons pe_str pa_nil)) (pe_callQ q__law_marks.G (hr.mono (by decide)) rfl q__law_marks.g q__law_marks.k q__law_marks.b (pa_cons (pv 2) pa_nil)))))) (Hds.cons (c := .ref (pT "TooGreat")) (i := 2) ⟨rfl, by decide, Or.inl X.y_TooGreat⟩ rfl rfl (fun a pn => (pss_one (ps_set (i := 1) sc__law_raised.nd rfl (Or.inl rfl) (pe_op op_cat (pe_lst (pa_cons pe_str pa_nil)) (pe_callQ q__law_marks.G (hr.mono (by decide)) rfl q__law_marks.g q__law_marks.k q__law_marks.b (pa_cons (pv 2) pa_nil)))))) Hds.nil)))
  (pss_one (ps_ret (pv 1))))), run_ofW (s := (B__law_raised K pT fd SF)) (sw_seq (sw_asg (lf_E (snd_lst snd_nil)) sndg_name)
  (sw_seq (sw_tryED (fun _ => (sw_act isF tell (lf_A snd_nil))) (ClW.cons (sw_asg (sw_op o_catL (lf_E (snd_lst (snd_cons snd_str snd_nil))) (sw_call0 (lf_A (snd_cons snd_var snd_nil)))) sndg_name) (ClW.cons (sw_asg (sw_op o_catL (lf_E (snd_lst (snd_cons snd_str snd_nil))) (sw_call0 (lf_A (snd_cons snd_var snd_nil)))) sndg_name) ClW.nil)))
  (sw_ret (lf_E snd_var)))) rfl h⟩
abbrev s__need_seats : Stmt := top 26
theorem sc__need_seats : FnScope ["body", "number", "many_bodies", "wards", "place", "seat"] ["body", "number", "many_bodies", "wards"] (defScope s__need_seats) := ⟨rfl, rfl, rfl, by decide +kernel, rfl, by decide +kernel, by decide +kernel⟩
def B__need_seats (pT : String → Addr) : SW := (sSeqW (sIfW (lT (vNot (vE (eCall S_is_tuple (aCons (eVar 0) (aCons (eC (.int 1)) (aCons (eC (.int 9)) aNil))))))) (sRaiseW (pT "BadHouse") "place" (lE (eTup (aCons (eVar 1) aNil)))) sNextW)
  (sForW (lI (iEnD (aCons (eVar 0) aNil))) (gvTup 2 (gvCons (gvName 4) (gvCons (gvName 5) gvNil)))
  (sIfW (lT (vNot (vE (eCall S_is_seat (aCons (eVar 5) (aCons (eVar 2) (aCons (eVar 3) aNil))))))) (sRaiseW (pT "BadHouse") "place" (lE (eTup (aCons (eVar 1) (aCons (eVar 4) aNil))))) sNextW)))
def S__need_seats (pT : String → Addr) : SPN := runW 4 6 (B__need_seats pT)
theorem ok__need_seats {f : Addr} {fd : FuncData} (F : L2.Fun K "_need_seats" "_need_seats" s__need_seats f fd) (X : Ctx K mg pT) {i_BadHouse : Addr} {fd_BadHouse : FuncData} (xBadHouse : Xc P w K mg base "BadHouse" "place" (pT "BadHouse") i_BadHouse fd_BadHouse) {f_is_tuple : Addr} {fd_is_tuple : FuncData} (d_is_tuple : Dok P w K mg base 1 "is_tuple" ["value", "least", "most"] (spW K S_is_tuple) f_is_tuple fd_is_tuple) {f_is_seat : Addr} {fd_is_seat : FuncData} (d_is_seat : Dok P w K mg base 3 "is_seat" ["value", "many_bodies", "wards"] (spW K S_is_seat) f_is_seat fd_is_seat) : FnOk P w K mg base (L2.CX P w) 4 f fd ["body", "number", "many_bodies", "wards"] (spS w K (S__need_seats pT)) :=
  F.okX sc__need_seats (fun vs H Q E h => spS_len rfl h) (fun cdv A outer s H vs Q E hr h => ⟨_, (pss_cons (ps_if (pt_not (pt_val (pe_call d_is_tuple.G (hr.mono (by decide)) rfl d_is_tuple.g d_is_tuple.k d_is_tuple.b .nil pass0 (pa_cons (pv 0) (pa_cons pe_int (pa_cons (pe_cstE rfl X.C.MOST_SEATS) pa_nil)))))) (pss_one (ps_raise rfl (takes_of rfl rfl rfl rfl) (pmk_oex xBadHouse.o xBadHouse.iC xBadHouse.tI xBadHouse.F (hr.mono (by decide)) xBadHouse.b .nil pass0 rfl xBadHouse.g (pa_cons (pe_tup (pa_cons (pv 1) pa_nil)) pa_nil)))) pss_nil)
  (pss_one (ps_for (passes_of rfl) rfl (pi_enumT (by rfl) X.B.enumerate (pa_cons (pv 0) pa_nil)) (pg_tup rfl (pgs_cons (pg_name (i := 4) sc__need_seats.nd rfl (Or.inl rfl)) (pgs_cons (pg_name (i := 5) sc__need_seats.nd rfl (Or.inl rfl)) pgs_nil)))
  (pss_one (ps_if (pt_not (pt_val (pe_call d_is_seat.G (hr.mono (by decide)) rfl d_is_seat.g d_is_seat.k d_is_seat.b .nil pass0 (pa_cons (pv 5) (pa_cons (pv 2) (pa_cons (pv 3) pa_nil)))))) (pss_one (ps_raise rfl (takes_of rfl rfl rfl rfl) (pmk_oex xBadHouse.o xBadHouse.iC xBadHouse.tI xBadHouse.F (hr.mono (by decide)) xBadHouse.b .nil pass0 rfl xBadHouse.g (pa_cons (pe_tup (pa_cons (pv 1) (pa_cons (pv 4) pa_nil))) pa_nil)))) pss_nil))))), run_ofW (s := (B__need_seats pT)) (sw_seq (sw_ifS (lf_T (snd_tnot (snd_tb (snd_call (snd_cons snd_var (snd_cons snd_int (snd_cons snd_int snd_nil))))))) (sw_raise1 (lf_E (snd_tup (snd_cons snd_var snd_nil)))) sw_next)
  (sw_for (lf_I (snd_iEnT (snd_cons snd_var snd_nil))) (sndg_tup (sndg_cons sndg_name (sndg_cons sndg_name sndg_nil)))
  (sw_ifS (lf_T (snd_tnot (snd_tb (snd_call (snd_cons snd_var (snd_cons snd_var (snd_cons snd_var snd_nil))))))) (sw_raise1 (lf_E (snd_tup (snd_cons snd_var (snd_cons snd_var snd_nil))))) sw_next))) rfl h⟩)
abbrev s_need_house : Stmt := top 25
theorem sc_need_house : FnScope ["house", "bodies", "wards", "number", "body"] ["house"] (defScope s_need_house) := ⟨rfl, rfl, rfl, by decide +kernel, rfl, by decide +kernel, by decide +kernel⟩
def B_need_house (pT : String → Addr) : SW := (sSeqW (sIfW (lT (vNot (vE (eCall S_is_tuple (aCons (eVar 0) (aCons (eC (.int 2)) (aCons (eC (.int 2)) aNil))))))) (sRaiseW (pT "BadHouse") "place" (lE (eC (.str "form")))) sNextW)
  (sSeqW (sAsgW (lE (eVar 0)) (gvTup 2 (gvCons (gvName 1) (gvCons (gvName 2) gvNil))))
  (sSeqW (sIfW (lT (vNot (vE (eCall S_is_whole (aCons (eVar 2) (aCons (eC (.int 0)) (aCons (eC (.int 4)) aNil))))))) (sRaiseW (pT "BadHouse") "place" (lE (eC (.str "wards")))) sNextW)
  (sSeqW (sIfW (lT (vNot (vE (eCall S_is_tuple (aCons (eVar 1) (aCons (eC (.int 1)) (aCons (eC (.int 3)) aNil))))))) (sRaiseW (pT "BadHouse") "place" (lE (eC (.str "bodies")))) sNextW)
  (sSeqW (sForW (lI (iEnD (aCons (eVar 1) aNil))) (gvTup 2 (gvCons (gvName 3) (gvCons (gvName 4) gvNil)))
  (sDropW (eCallW (S__need_seats pT) (lA (aCons (eVar 4) (aCons (eVar 3) (aCons (eCB cLen (aCons (eVar 1) aNil)) (aCons (eVar 2) aNil))))))))
  (sSeqW (sIfW (lT (vE (eOp opGt (eCB cSum (aCons (eLc (iTupD (eVar 1)) (gvName 4) vYes (eCB cLen (aCons (eVar 4) aNil)) [4]) aNil)) (eC (.int 9))))) (sRaiseW (pT "BadHouse") "place" (lE (eC (.str "seats")))) sNextW)
  (sSeqW (sIfW (lT (vE (eOp opGt (eCall S_common_term (aCons (eVar 1) aNil)) (eC (.int 12))))) (sRaiseW (pT "BadHouse") "place" (lE (eC (.str "round")))) sNextW)
  (sRetW (lE (eVar 0))))))))))
def S_need_house (pT : String → Addr) : SPN := runW 1 5 (B_need_house pT)
theorem ok_need_house {f : Addr} {fd : FuncData} (F : L2.Fun K "need_house" "need_house" s_need_house f fd) (X : Ctx K mg pT) {i_BadHouse : Addr} {fd_BadHouse : FuncData} (xBadHouse : Xc P w K mg base "BadHouse" "place" (pT "BadHouse") i_BadHouse fd_BadHouse) {f_is_tuple : Addr} {fd_is_tuple : FuncData} (d_is_tuple : Dok P w K mg base 1 "is_tuple" ["value", "least", "most"] (spW K S_is_tuple) f_is_tuple fd_is_tuple) {f_is_whole : Addr} {fd_is_whole : FuncData} (d_is_whole : Dok P w K mg base 1 "is_whole" ["value", "least", "most"] (spW K S_is_whole) f_is_whole fd_is_whole) {f__need_seats : Addr} {fd__need_seats : FuncData} (d__need_seats : DoX P w K mg base 4 "_need_seats" ["body", "number", "many_bodies", "wards"] (spS w K (S__need_seats pT)) f__need_seats fd__need_seats) {f_common_term : Addr} {fd_common_term : FuncData} (d_common_term : Dok P w K mg base 1 "common_term" ["bodies"] (spW K S_common_term) f_common_term fd_common_term) : FnOk P w K mg base (L2.CX P w) 5 f fd ["house"] (spS w K (S_need_house pT)) :=
  F.okX sc_need_house (fun vs H Q E h => spS_len rfl h) (fun cdv A outer s H vs Q E hr h => ⟨_, (pss_cons (ps_if (pt_not (pt_val (pe_call d_is_tuple.G (hr.mono (by decide)) rfl d_is_tuple.g d_is_tuple.k d_is_tuple.b .nil pass0 (pa_cons (pv 0) (pa_cons pe_int (pa_cons pe_int pa_nil)))))) (pss_one (ps_raise rfl (takes_of rfl rfl rfl rfl) (pmk_oex xBadHouse.o xBadHouse.iC xBadHouse.tI xBadHouse.F (hr.mono (by decide)) xBadHouse.b .nil pass0 rfl xBadHouse.g (pa_cons pe_str pa_nil)))) pss_nil)
  (pss_cons (ps_asg (pv 0) (pg_tup rfl (pgs_cons (pg_name (i := 1) sc_need_house.nd rfl (Or.inl rfl)) (pgs_cons (pg_name (i := 2) sc_need_house.nd rfl (Or.inl rfl)) pgs_nil))))
  (pss_cons (ps_if (pt_not (pt_val (pe_call d_is_whole.G (hr.mono (by decide)) rfl d_is_whole.g d_is_whole.k d_is_whole.b .nil pass0 (pa_cons (pv 2) (pa_cons pe_int (pa_cons (pe_cstE rfl X.C.MOST_WARDS) pa_nil)))))) (pss_one (ps_raise rfl (takes_of rfl rfl rfl rfl) (pmk_oex xBadHouse.o xBadHouse.iC xBadHouse.tI xBadHouse.F (hr.mono (by decide)) xBadHouse.b .nil pass0 rfl xBadHouse.g (pa_cons pe_str pa_nil)))) pss_nil)
  (pss_cons (ps_if (pt_not (pt_val (pe_call d_is_tuple.G (hr.mono (by decide)) rfl d_is_tuple.g d_is_tuple.k d_is_tuple.b .nil pass0 (pa_cons (pv 1) (pa_cons pe_int (pa_cons (pe_cstE rfl X.C.MOST_BODIES) pa_nil)))))) (pss_one (ps_raise rfl (takes_of rfl rfl rfl rfl) (pmk_oex xBadHouse.o xBadHouse.iC xBadHouse.tI xBadHouse.F (hr.mono (by decide)) xBadHouse.b .nil pass0 rfl xBadHouse.g (pa_cons pe_str pa_nil)))) pss_nil)
  (pss_cons (ps_for (passes_of rfl) rfl (pi_enumT (by rfl) X.B.enumerate (pa_cons (pv 1) pa_nil)) (pg_tup rfl (pgs_cons (pg_name (i := 3) sc_need_house.nd rfl (Or.inl rfl)) (pgs_cons (pg_name (i := 4) sc_need_house.nd rfl (Or.inl rfl)) pgs_nil)))
  (pss_one (ps_expr (pe_call d__need_seats.G (hr.mono (by decide)) rfl d__need_seats.g d__need_seats.k d__need_seats.b .nil (passes_call (takes_of rfl rfl rfl rfl) (fun _ _ _ _ z => z)) (pa_cons (pv 4) (pa_cons (pv 3) (pa_cons (pe_callB call_len_seq (by rfl) X.B.len PySem.boot_len (pa_cons (pv 1) pa_nil)) (pa_cons (pv 2) pa_nil))))))))
  (pss_cons (ps_if (pt_cmpR op_gt (pe_callB (cr_sum rfl) (by rfl) X.Z.sum (by decide +kernel) (pa_cons (pe_lc (own := [("body", 4)]) (g := gName 4) (tt := tYes) rfl sc_need_house.nd (pi_tup (pv 1)) (blkOk_by (N := ["house", "bodies", "wards", "number", "body"]) (sc := defScope s_need_house) (by decide +kernel)) (fun _ _ _ _ _ => pg_name (i := 4) sc_need_house.nd rfl (Or.inl rfl)) (fun _ _ _ _ _ => pts_nil) (fun _ _ _ _ _ => (pe_callB (call_lenK (K := K) rfl) (by rfl) X.B.len PySem.boot_len (pa_cons (pv 4) pa_nil)))) pa_nil)) (pe_cstE rfl X.C.MOST_SEATS) (nomark _)) (pss_one (ps_raise rfl (takes_of rfl rfl rfl rfl) (pmk_oex xBadHouse.o xBadHouse.iC xBadHouse.tI xBadHouse.F (hr.mono (by decide)) xBadHouse.b .nil pass0 rfl xBadHouse.g (pa_cons pe_str pa_nil)))) pss_nil)
  (pss_cons (ps_if (pt_cmpR op_gt (pe_call d_common_term.G (hr.mono (by decide)) rfl d_common_term.g d_common_term.k d_common_term.b .nil pass0 (pa_cons (pv 1) pa_nil)) (pe_cstE rfl X.C.MOST_ROUND) (nomark _)) (pss_one (ps_raise rfl (takes_of rfl rfl rfl rfl) (pmk_oex xBadHouse.o xBadHouse.iC xBadHouse.tI xBadHouse.F (hr.mono (by decide)) xBadHouse.b .nil pass0 rfl xBadHouse.g (pa_cons pe_str pa_nil)))) pss_nil)
  (pss_one (ps_ret (pv 0)))))))))), run_ofW (s := (B_need_house pT)) (sw_seq (sw_ifS (lf_T (snd_tnot (snd_tb (snd_call (snd_cons snd_var (snd_cons snd_int (snd_cons snd_int snd_nil))))))) (sw_raise1 (lf_E snd_str)) sw_next)
  (sw_seq (sw_asg (lf_E snd_var) (sndg_tup (sndg_cons sndg_name (sndg_cons sndg_name sndg_nil))))
  (sw_seq (sw_ifS (lf_T (snd_tnot (snd_tb (snd_call (snd_cons snd_var (snd_cons snd_int (snd_cons snd_int snd_nil))))))) (sw_raise1 (lf_E snd_str)) sw_next)
  (sw_seq (sw_ifS (lf_T (snd_tnot (snd_tb (snd_call (snd_cons snd_var (snd_cons snd_int (snd_cons snd_int snd_nil))))))) (sw_raise1 (lf_E snd_str)) sw_next)
  (sw_seq (sw_for (lf_I (snd_iEnT (snd_cons snd_var snd_nil))) (sndg_tup (sndg_cons sndg_name (sndg_cons sndg_name sndg_nil)))
  (sw_drop (sw_call (lf_A (snd_cons snd_var (snd_cons snd_var (snd_cons (snd_cb c_len (snd_cons snd_var snd_nil)) (snd_cons snd_var snd_nil))))))))
  (sw_seq (sw_ifS (lf_T (snd_test (snd_op o_gt (snd_cb c_sum (snd_cons (snd_lc (snd_iTup snd_var) sndg_name snd_yes (snd_cb c_len (snd_cons snd_var snd_nil)) (by decide)) snd_nil)) snd_int))) (sw_raise1 (lf_E snd_str)) sw_next)
  (sw_seq (sw_ifS (lf_T (snd_test (snd_op o_gt (snd_call (snd_cons snd_var snd_nil)) snd_int))) (sw_raise1 (lf_E snd_str)) sw_next)
  (sw_ret (lf_E snd_var))))))))) rfl h⟩)
abbrev s_need_stand : Stmt := top 29
theorem sc_need_stand : FnScope ["house", "stand"] ["house", "stand"] (defScope s_need_stand) := ⟨rfl, rfl, rfl, by decide +kernel, rfl, by decide +kernel, by decide +kernel⟩
def B_need_stand (pT : String → Addr) : SW := (sSeqW (sDropW (eCallW (S_need_house pT) (lA (aCons (eVar 0) aNil))))
  (sSeqW (sIfW (lT (vNot (vE (eCall S_is_stand (aCons (eVar 0) (aCons (eVar 1) aNil)))))) (sRaiseW (pT "BadStand") "value" (lE (eVar 1))) sNextW)
  (sRetW (lE (eVar 1)))))
def S_need_stand (pT : String → Addr) : SPN := runW 2 2 (B_need_stand pT)
theorem ok_need_stand {f : Addr} {fd : FuncData} (F : L2.Fun K "need_stand" "need_stand" s_need_stand f fd) (X : Ctx K mg pT) {f_need_house : Addr} {fd_need_house : FuncData} (d_need_house : DoX P w K mg base 5 "need_house" ["house"] (spS w K (S_need_house pT)) f_need_house fd_need_house) {i_BadStand : Addr} {fd_BadStand : FuncData} (xBadStand : Xc P w K mg base "BadStand" "value" (pT "BadStand") i_BadStand fd_BadStand) {f_is_stand : Addr} {fd_is_stand : FuncData} (d_is_stand : Dok P w K mg base 2 "is_stand" ["house", "value"] (spW K S_is_stand) f_is_stand fd_is_stand) : FnOk P w K mg base (L2.CX P w) 6 f fd ["house", "stand"] (spS w K (S_need_stand pT)) :=
  F.okX sc_need_stand (fun vs H Q E h => spS_len rfl h) (fun cdv A outer s H vs Q E hr h => ⟨_, (pss_cons (ps_expr (pe_call d_need_house.G (hr.mono (by decide)) rfl d_need_house.g d_need_house.k d_need_house.b .nil (passes_call (takes_of rfl rfl rfl rfl) (fun _ _ _ _ z => z)) (pa_cons (pv 0) pa_nil)))
  (pss_cons (ps_if (pt_not (pt_val (pe_call d_is_stand.G (hr.mono (by decide)) rfl d_is_stand.g d_is_stand.k d_is_stand.b .nil pass0 (pa_cons (pv 0) (pa_cons (pv 1) pa_nil))))) (pss_one (ps_raise rfl (takes_of rfl rfl rfl rfl) (pmk_oex xBadStand.o xBadStand.iC xBadStand.tI xBadStand.F (hr.mono (by decide)) xBadStand.b .nil pass0 rfl xBadStand.g (pa_cons (pv 1) pa_nil)))) pss_nil)
  (pss_one (ps_ret (pv 1))))), run_ofW (s := (B_need_stand pT)) (sw_seq (sw_drop (sw_call (lf_A (snd_cons snd_var snd_nil))))
  (sw_seq (sw_ifS (lf_T (snd_tnot (snd_tb (snd_call (snd_cons snd_var (snd_cons snd_var snd_nil)))))) (sw_raise1 (lf_E snd_var)) sw_next)
  (sw_ret (lf_E snd_var)))) rfl h⟩)
abbrev s_need_number : Stmt := top 47
theorem sc_need_number : FnScope ["number"] ["number"] (defScope s_need_number) := ⟨rfl, rfl, rfl, by decide +kernel, rfl, by decide +kernel, by decide +kernel⟩
def B_need_number (pT : String → Addr) : SW := (sSeqW (sIfW (lT (vNot (vE (eCall S_is_whole (aCons (eVar 0) (aCons (eC (.int 0)) (aCons (eC (.int 1000000000000000000000000000000)) aNil))))))) (sRaiseW (pT "BadNumber") "value" (lE (eVar 0))) sNextW)
  (sRetW (lE (eVar 0))))
def S_need_number (pT : String → Addr) : SPN := runW 1 1 (B_need_number pT)
theorem ok_need_number {f : Addr} {fd : FuncData} (F : L2.Fun K "need_number" "need_number" s_need_number f fd) (X : Ctx K mg pT) {i_BadNumber : Addr} {fd_BadNumber : FuncData} (xBadNumber : Xc P w K mg base "BadNumber" "value" (pT "BadNumber") i_BadNumber fd_BadNumber) {f_is_whole : Addr} {fd_is_whole : FuncData} (d_is_whole : Dok P w K mg base 1 "is_whole" ["value", "least", "most"] (spW K S_is_whole) f_is_whole fd_is_whole) : FnOk P w K mg base (L2.CX P w) 3 f fd ["number"] (spS w K (S_need_number pT)) :=
  F.okX sc_need_number (fun vs H Q E h => spS_len rfl h) (fun cdv A outer s H vs Q E hr h => ⟨_, (pss_cons (ps_if (pt_not (pt_val (pe_call d_is_whole.G (hr.mono (by decide)) rfl d_is_whole.g d_is_whole.k d_is_whole.b .nil pass0 (pa_cons (pv 0) (pa_cons pe_int (pa_cons (pe_cstE rfl X.C.LAST_YEAR) pa_nil)))))) (pss_one (ps_raise rfl (takes_of rfl rfl rfl rfl) (pmk_oex xBadNumber.o xBadNumber.iC xBadNumber.tI xBadNumber.F (hr.mono (by decide)) xBadNumber.b .nil pass0 rfl xBadNumber.g (pa_cons (pv 0) pa_nil)))) pss_nil)
  (pss_one (ps_ret (pv 0)))), run_ofW (s := (B_need_number pT)) (sw_seq (sw_ifS (lf_T (snd_tnot (snd_tb (snd_call (snd_cons snd_var (snd_cons snd_int (snd_cons snd_int snd_nil))))))) (sw_raise1 (lf_E snd_var)) sw_next)
  (sw_ret (lf_E snd_var))) rfl h⟩)
abbrev s_due_seats : Stmt := top 59
theorem sc_due_seats : FnScope ["house", "number", "due", "at", "body", "place", "seat"] ["house", "number"] (defScope s_due_seats) := ⟨rfl, rfl, rfl, by decide +kernel, rfl, by decide +kernel, by decide +kernel⟩
def B_due_seats (pT : String → Addr) : SW := (sSeqW (sDropW (eCallW (S_need_house pT) (lA (aCons (eVar 0) aNil))))
  (sSeqW (sDropW (eCallW (S_need_number pT) (lA (aCons (eVar 1) aNil))))
  (sSeqW (sNewW 2)
  (sSeqW (sForW (lI (iEnD (aCons (eOp opIxT (eVar 0) (eC (.int 0))) aNil))) (gvTup 2 (gvCons (gvName 3) (gvCons (gvName 4) gvNil)))
  (sForW (lI (iEnD (aCons (eVar 4) aNil))) (gvTup 2 (gvCons (gvName 5) (gvCons (gvName 6) gvNil)))
  (sIfW (vEW eNevW) (sAppW 2 (lE (eTup (aCons (eVar 3) (aCons (eVar 5) aNil))))) sNextW)))
  (sRetW (lE (eOwnTup 2)))))))
def S_due_seats (pT : String → Addr) : SPN := runW 2 7 (B_due_seats pT)
theorem ok_due_seats {f : Addr} {fd : FuncData} (F : L2.Fun K "due_seats" "due_seats" s_due_seats f fd) (X : Ctx K mg pT) {f_need_house : Addr} {fd_need_house : FuncData} (d_need_house : DoX P w K mg base 5 "need_house" ["house"] (spS w K (S_need_house pT)) f_need_house fd_need_house) {f_need_number : Addr} {fd_need_number : FuncData} (d_need_number : DoX P w K mg base 3 "need_number" ["number"] (spS w K (S_need_number pT)) f_need_number fd_need_number) : FnOk P w K mg base (L2.CX P w) 6 f fd ["house", "number"] (spS w K (S_due_seats pT)) :=
  F.okX sc_due_seats (fun vs H Q E h => spS_len rfl h) (fun cdv A outer s H vs Q E hr h => ⟨_, (pss_cons (ps_expr (pe_call d_need_house.G (hr.mono (by decide)) rfl d_need_house.g d_need_house.k d_need_house.b .nil (passes_call (takes_of rfl rfl rfl rfl) (fun _ _ _ _ z => z)) (pa_cons (pv 0) pa_nil)))
  (pss_cons (ps_expr (pe_call d_need_number.G (hr.mono (by decide)) rfl d_need_number.g d_need_number.k d_need_number.b .nil (passes_call (takes_of rfl rfl rfl rfl) (fun _ _ _ _ z => z)) (pa_cons (pv 1) pa_nil)))
  (pss_cons (ps_set (i := 2) sc_due_seats.nd rfl (Or.inl rfl) (pe_lst pa_nil))
  (pss_cons (ps_for (passes_of rfl) rfl (pi_enumT (by rfl) X.B.enumerate (pa_cons (pe_ix ix_tup (pv 0) pe_int (fun _ _ => rfl)) pa_nil)) (pg_tup rfl (pgs_cons (pg_name (i := 3) sc_due_seats.nd rfl (Or.inl rfl)) (pgs_cons (pg_name (i := 4) sc_due_seats.nd rfl (Or.inl rfl)) pgs_nil)))
  (pss_one (ps_for (passes_of rfl) rfl (pi_enumT (by rfl) X.B.enumerate (pa_cons (pv 4) pa_nil)) (pg_tup rfl (pgs_cons (pg_name (i := 5) sc_due_seats.nd rfl (Or.inl rfl)) (pgs_cons (pg_name (i := 6) sc_due_seats.nd rfl (Or.inl rfl)) pgs_nil)))
  (pss_one (ps_if (pt_val pe_nev) (pss_one (ps_expr (pe_bm PySem.F.plainAttrs_list PySem.F.slot_list_append PySem.F.type_list_append mt_append (pv 2) (pa_cons (pe_tup (pa_cons (pv 3) (pa_cons (pv 5) pa_nil))) pa_nil)))) pss_nil)))))
  (pss_one (ps_ret (pe_callTy call_tuple_of (by rfl) X.Z.tuple (by decide +kernel) (pa_cons (pv 2) pa_nil)))))))), run_ofW (s := (B_due_seats pT)) (sw_seq (sw_drop (sw_call (lf_A (snd_cons snd_var snd_nil))))
  (sw_seq (sw_drop (sw_call (lf_A (snd_cons snd_var snd_nil))))
  (sw_seq sw_new
  (sw_seq (sw_for (lf_I (snd_iEnT (snd_cons (snd_op o_ixT snd_var snd_int) snd_nil))) (sndg_tup (sndg_cons sndg_name (sndg_cons sndg_name sndg_nil)))
  (sw_for (lf_I (snd_iEnT (snd_cons snd_var snd_nil))) (sndg_tup (sndg_cons sndg_name (sndg_cons sndg_name sndg_nil)))
  (sw_ifS (sw_tb sw_nev) (sw_app (lf_E (snd_tup (snd_cons snd_var (snd_cons snd_var snd_nil))))) sw_next)))
  (sw_ret (lf_E snd_ownT)))))) rfl h⟩)
abbrev s_need_band : Stmt := top 31
theorem sc_need_band : FnScope ["band", "turn", "gap"] ["band"] (defScope s_need_band) := ⟨rfl, rfl, rfl, by decide +kernel, rfl, by decide +kernel, by decide +kernel⟩
def B_need_band (pT : String → Addr) : SW := (sSeqW (sIfW (lT (vNot (vE (eCall S_is_tuple (aCons (eVar 0) (aCons (eC (.int 2)) (aCons (eC (.int 2)) aNil))))))) (sRaiseW (pT "BadBand") "part" (lE (eC (.str "form")))) sNextW)
  (sSeqW (sAsgW (lE (eVar 0)) (gvTup 2 (gvCons (gvName 1) (gvCons (gvName 2) gvNil))))
  (sSeqW (sIfW (lT (vAnd (vE (eOp opNotN (eVar 1) (eC .non))) (vNot (vE (eCall S_is_whole (aCons (eVar 1) (aCons (eC (.int 0)) (aCons (eC (.int 4)) aNil)))))))) (sRaiseW (pT "BadBand") "part" (lE (eC (.str "turn")))) sNextW)
  (sSeqW (sIfW (lT (vNot (vE (eCall S_is_whole (aCons (eVar 2) (aCons (eC (.int 1)) (aCons (eC (.int 4)) aNil))))))) (sRaiseW (pT "BadBand") "part" (lE (eC (.str "gap")))) sNextW)
  (sRetW (lE (eVar 0)))))))
def S_need_band (pT : String → Addr) : SPN := runW 1 3 (B_need_band pT)
theorem ok_need_band {f : Addr} {fd : FuncData} (F : L2.Fun K "need_band" "need_band" s_need_band f fd) (X : Ctx K mg pT) {i_BadBand : Addr} {fd_BadBand : FuncData} (xBadBand : Xc P w K mg base "BadBand" "part" (pT "BadBand") i_BadBand fd_BadBand) {f_is_tuple : Addr} {fd_is_tuple : FuncData} (d_is_tuple : Dok P w K mg base 1 "is_tuple" ["value", "least", "most"] (spW K S_is_tuple) f_is_tuple fd_is_tuple) {f_is_whole : Addr} {fd_is_whole : FuncData} (d_is_whole : Dok P w K mg base 1 "is_whole" ["value", "least", "most"] (spW K S_is_whole) f_is_whole fd_is_whole) : FnOk P w K mg base (L2.CX P w) 3 f fd ["band"] (spS w K (S_need_band pT)) :=
  F.okX sc_need_band (fun vs H Q E h => spS_len rfl h) (fun cdv A outer s H vs Q E hr h => ⟨_, (pss_cons (ps_if (pt_not (pt_val (pe_call d_is_tuple.G (hr.mono (by decide)) rfl d_is_tuple.g d_is_tuple.k d_is_tuple.b .nil pass0 (pa_cons (pv 0) (pa_cons pe_int (pa_cons pe_int pa_nil)))))) (pss_one (ps_raise rfl (takes_of rfl rfl rfl rfl) (pmk_oex xBadBand.o xBadBand.iC xBadBand.tI xBadBand.F (hr.mono (by decide)) xBadBand.b .nil pass0 rfl xBadBand.g (pa_cons pe_str pa_nil)))) pss_nil)
  (pss_cons (ps_asg (pv 0) (pg_tup rfl (pgs_cons (pg_name (i := 1) sc_need_band.nd rfl (Or.inl rfl)) (pgs_cons (pg_name (i := 2) sc_need_band.nd rfl (Or.inl rfl)) pgs_nil))))
  (pss_cons (ps_if (PW.pt (pw_and (pt_cmpR op_notN (pv 1) pe_non (nomark _)) (pw_and1 (pt_not (pt_val (pe_call d_is_whole.G (hr.mono (by decide)) rfl d_is_whole.g d_is_whole.k d_is_whole.b .nil pass0 (pa_cons (pv 1) (pa_cons pe_int (pa_cons (pe_cstE rfl X.C.MOST_WARDS) pa_nil))))))))) (pss_one (ps_raise rfl (takes_of rfl rfl rfl rfl) (pmk_oex xBadBand.o xBadBand.iC xBadBand.tI xBadBand.F (hr.mono (by decide)) xBadBand.b .nil pass0 rfl xBadBand.g (pa_cons pe_str pa_nil)))) pss_nil)
  (pss_cons (ps_if (pt_not (pt_val (pe_call d_is_whole.G (hr.mono (by decide)) rfl d_is_whole.g d_is_whole.k d_is_whole.b .nil pass0 (pa_cons (pv 2) (pa_cons pe_int (pa_cons (pe_cstE rfl X.C.MOST_GAP) pa_nil)))))) (pss_one (ps_raise rfl (takes_of rfl rfl rfl rfl) (pmk_oex xBadBand.o xBadBand.iC xBadBand.tI xBadBand.F (hr.mono (by decide)) xBadBand.b .nil pass0 rfl xBadBand.g (pa_cons pe_str pa_nil)))) pss_nil)
  (pss_one (ps_ret (pv 0))))))), run_ofW (s := (B_need_band pT)) (sw_seq (sw_ifS (lf_T (snd_tnot (snd_tb (snd_call (snd_cons snd_var (snd_cons snd_int (snd_cons snd_int snd_nil))))))) (sw_raise1 (lf_E snd_str)) sw_next)
  (sw_seq (sw_asg (lf_E snd_var) (sndg_tup (sndg_cons sndg_name (sndg_cons sndg_name sndg_nil))))
  (sw_seq (sw_ifS (lf_T (snd_tand (snd_test (snd_op o_notN snd_var snd_non)) (snd_tnot (snd_tb (snd_call (snd_cons snd_var (snd_cons snd_int (snd_cons snd_int snd_nil)))))))) (sw_raise1 (lf_E snd_str)) sw_next)
  (sw_seq (sw_ifS (lf_T (snd_tnot (snd_tb (snd_call (snd_cons snd_var (snd_cons snd_int (snd_cons snd_int snd_nil))))))) (sw_raise1 (lf_E snd_str)) sw_next)
  (sw_ret (lf_E snd_var)))))) rfl h⟩)
abbrev s_need_body : Stmt := top 30
theorem sc_need_body : FnScope ["house", "body"] ["house", "body"] (defScope s_need_body) := ⟨rfl, rfl, rfl, by decide +kernel, rfl, by decide +kernel, by decide +kernel⟩
def B_need_body (pT : String → Addr) : SW := (sSeqW (sIfW (lT (vNot (vE (eCall S_is_whole (aCons (eVar 1) (aCons (eC (.int 0)) (aCons (eOp opSub (eCB cLen (aCons (eOp opIxT (eVar 0) (eC (.int 0))) aNil)) (eC (.int 1))) aNil))))))) (sRaiseW (pT "BadNumber") "value" (lE (eVar 1))) sNextW)
  (sRetW (lE (eVar 1))))
def S_need_body (pT : String → Addr) : SPN := runW 2 2 (B_need_body pT)
theorem ok_need_body {f : Addr} {fd : FuncData} (F : L2.Fun K "need_body" "need_body" s_need_body f fd) (X : Ctx K mg pT) {i_BadNumber : Addr} {fd_BadNumber : FuncData} (xBadNumber : Xc P w K mg base "BadNumber" "value" (pT "BadNumber") i_BadNumber fd_BadNumber) {f_is_whole : Addr} {fd_is_whole : FuncData} (d_is_whole : Dok P w K mg base 1 "is_whole" ["value", "least", "most"] (spW K S_is_whole) f_is_whole fd_is_whole) : FnOk P w K mg base (L2.CX P w) 3 f fd ["house", "body"] (spS w K (S_need_body pT)) :=
  F.okX sc_need_body (fun vs H Q E h => spS_len rfl h) (fun cdv A outer s H vs Q E hr h => ⟨_, (pss_cons (ps_if (pt_not (pt_val (pe_call d_is_whole.G (hr.mono (by decide)) rfl d_is_whole.g d_is_whole.k d_is_whole.b .nil pass0 (pa_cons (pv 1) (pa_cons pe_int (pa_cons (pe_op op_sub (pe_callB call_len_seq (by rfl) X.B.len PySem.boot_len (pa_cons (pe_ix ix_tup (pv 0) pe_int (fun _ _ => rfl)) pa_nil)) pe_int) pa_nil)))))) (pss_one (ps_raise rfl (takes_of rfl rfl rfl rfl) (pmk_oex xBadNumber.o xBadNumber.iC xBadNumber.tI xBadNumber.F (hr.mono (by decide)) xBadNumber.b .nil pass0 rfl xBadNumber.g (pa_cons (pv 1) pa_nil)))) pss_nil)
  (pss_one (ps_ret (pv 1)))), run_ofW (s := (B_need_body pT)) (sw_seq (sw_ifS (lf_T (snd_tnot (snd_tb (snd_call (snd_cons snd_var (snd_cons snd_int (snd_cons (snd_op o_sub (snd_cb c_len (snd_cons (snd_op o_ixT snd_var snd_int) snd_nil)) snd_int) snd_nil))))))) (sw_raise1 (lf_E snd_var)) sw_next)
  (sw_ret (lf_E snd_var))) rfl h⟩)
abbrev s_need_question : Stmt := top 32
theorem sc_need_question : FnScope ["house", "stand", "band", "body"] ["house", "stand", "band", "body"] (defScope s_need_question) := ⟨rfl, rfl, rfl, by decide +kernel, rfl, by decide +kernel, by decide +kernel⟩
def B_need_question (pT : String → Addr) : SW := (sSeqW (sDropW (eCallW (S_need_stand pT) (lA (aCons (eVar 0) (aCons (eVar 1) aNil)))))
  (sSeqW (sDropW (eCallW (S_need_band pT) (lA (aCons (eVar 2) aNil))))
  (sDropW (eCallW (S_need_body pT) (lA (aCons (eVar 0) (aCons (eVar 3) aNil)))))))
def S_need_question (pT : String → Addr) : SPN := runW 4 4 (B_need_question pT)
theorem ok_need_question {f : Addr} {fd : FuncData} (F : L2.Fun K "need_question" "need_question" s_need_question f fd) (X : Ctx K mg pT) {f_need_stand : Addr} {fd_need_stand : FuncData} (d_need_stand : DoX P w K mg base 6 "need_stand" ["house", "stand"] (spS w K (S_need_stand pT)) f_need_stand fd_need_stand) {f_need_band : Addr} {fd_need_band : FuncData} (d_need_band : DoX P w K mg base 3 "need_band" ["band"] (spS w K (S_need_band pT)) f_need_band fd_need_band) {f_need_body : Addr} {fd_need_body : FuncData} (d_need_body : DoX P w K mg base 3 "need_body" ["house", "body"] (spS w K (S_need_body pT)) f_need_body fd_need_body) : FnOk P w K mg base (L2.CX P w) 7 f fd ["house", "stand", "band", "body"] (spS w K (S_need_question pT)) :=
  F.okX sc_need_question (fun vs H Q E h => spS_len rfl h) (fun cdv A outer s H vs Q E hr h => ⟨_, (pss_cons (ps_expr (pe_call d_need_stand.G (hr.mono (by decide)) rfl d_need_stand.g d_need_stand.k d_need_stand.b .nil (passes_call (takes_of rfl rfl rfl rfl) (fun _ _ _ _ z => z)) (pa_cons (pv 0) (pa_cons (pv 1) pa_nil))))
  (pss_cons (ps_expr (pe_call d_need_band.G (hr.mono (by decide)) rfl d_need_band.g d_need_band.k d_need_band.b .nil (passes_call (takes_of rfl rfl rfl rfl) (fun _ _ _ _ z => z)) (pa_cons (pv 2) pa_nil)))
  (pss_one (ps_expr (pe_call d_need_body.G (hr.mono (by decide)) rfl d_need_body.g d_need_body.k d_need_body.b .nil (passes_call (takes_of rfl rfl rfl rfl) (fun _ _ _ _ z => z)) (pa_cons (pv 0) (pa_cons (pv 3) pa_nil))))))), run_ofW (s := (B_need_question pT)) (sw_seq (sw_drop (sw_call (lf_A (snd_cons snd_var (snd_cons snd_var snd_nil)))))
  (sw_seq (sw_drop (sw_call (lf_A (snd_cons snd_var snd_nil))))
  (sw_drop (sw_call (lf_A (snd_cons snd_var (snd_cons snd_var snd_nil))))))) rfl h⟩)
abbrev s_Turns___init__ : Stmt := inClass (top 42) 0
theorem sc_Turns___init__ : FnScope ["self", "wards", "band", "telling"] ["self", "wards", "band", "telling"] (defScope s_Turns___init__) := ⟨rfl, rfl, rfl, by decide +kernel, rfl, by decide +kernel, by decide +kernel⟩
def B_Turns___init__ (pT : String → Addr) : SW := (sSeqW (sFldW (pT "Turns") "band" (lE (eVar 0)) (lE (eVar 2)))
  (sSeqW (sFldW (pT "Turns") "telling" (lE (eVar 0)) (lE (eVar 3)))
  (sSeqW (sFldW (pT "Turns") "rows" (lE (eVar 0)) (lE (eCall S_all_choices (aCons (eVar 1) aNil))))
  (sFldW (pT "Turns") "known" (lE (eVar 0)) eNNewW))))
def S_Turns___init__ (pT : String → Addr) : SPN := runW 4 4 (B_Turns___init__ pT)
theorem ok_Turns___init__ {f : Addr} {fd : FuncData} (F : L2.Fun K "__init__" "Turns.__init__" s_Turns___init__ f fd) (X : Ctx K mg pT) {f_all_choices : Addr} {fd_all_choices : FuncData} (d_all_choices : Dok P w K mg base 1 "all_choices" ["wards"] (spW K S_all_choices) f_all_choices fd_all_choices) : FnOk P w K mg base CX0 2 f fd ["self", "wards", "band", "telling"] (spS w K (S_Turns___init__ pT)) :=
  F.ok sc_Turns___init__ (fun vs H Q E h => spS_len rfl h) (fun cdv A outer s H vs Q E hr h => ⟨_, (pss_cons (ps_fld (pv 0) (pv 2) rfl)
  (pss_cons (ps_fld (pv 0) (pv 3) rfl)
  (pss_cons (ps_fld (pv 0) (pe_call d_all_choices.G (hr.mono (by decide)) rfl d_all_choices.g d_all_choices.k d_all_choices.b .nil pass0 (pa_cons (pv 1) pa_nil)) rfl)
  (pss_one (ps_fld (pv 0) (pe_nnew (w := w) rfl) rfl))))), run_ofW (s := (B_Turns___init__ pT)) (sw_seq (sw_fldS X.c_Turns X.n_Turns_band (lf_E snd_var) (lf_E snd_var))
  (sw_seq (sw_fldS X.c_Turns X.n_Turns_telling (lf_E snd_var) (lf_E snd_var))
  (sw_seq (sw_fldS X.c_Turns X.n_Turns_rows (lf_E snd_var) (lf_E (snd_call (snd_cons snd_var snd_nil))))
  (sw_fldS X.c_Turns X.n_Turns_known (lf_E snd_var) sw_nnew)))) rfl h⟩)
abbrev s_Stands___init__ : Stmt := inClass (top 57) 0
theorem sc_Stands___init__ : FnScope ["self", "house"] ["self", "house"] (defScope s_Stands___init__) := ⟨rfl, rfl, rfl, by decide +kernel, rfl, by decide +kernel, by decide +kernel⟩
def B_Stands___init__ (pT : String → Addr) : SW := (sSeqW (sFldW (pT "Stands") "given_house" (lE (eVar 0)) (lE (eVar 1)))
  (sSeqW (sFldW (pT "Stands") "years" (lE (eVar 0)) (lE (eCall S_common_term (aCons (eOp opIxT (eVar 1) (eC (.int 0))) aNil))))
  (sSeqW (sFldW (pT "Stands") "rows" (lE (eVar 0)) (lE (eCall S_all_choices (aCons (eOp opIxT (eVar 1) (eC (.int 1))) aNil))))
  (sSeqW (sFldW (pT "Stands") "known" (lE (eVar 0)) eNNewW)
  (sFldW (pT "Stands") "known_more" (lE (eVar 0)) eDic0W)))))
def S_Stands___init__ (pT : String → Addr) : SPN := runW 2 2 (B_Stands___init__ pT)
theorem ok_Stands___init__ {f : Addr} {fd : FuncData} (F : L2.Fun K "__init__" "Stands.__init__" s_Stands___init__ f fd) (X : Ctx K mg pT) {f_common_term : Addr} {fd_common_term : FuncData} (d_common_term : Dok P w K mg base 1 "common_term" ["bodies"] (spW K S_common_term) f_common_term fd_common_term) {f_all_choices : Addr} {fd_all_choices : FuncData} (d_all_choices : Dok P w K mg base 1 "all_choices" ["wards"] (spW K S_all_choices) f_all_choices fd_all_choices) : FnOk P w K mg base CX0 2 f fd ["self", "house"] (spS w K (S_Stands___init__ pT)) :=
  F.ok sc_Stands___init__ (fun vs H Q E h => spS_len rfl h) (fun cdv A outer s H vs Q E hr h => ⟨_, (pss_cons (ps_fld (pv 0) (pv 1) rfl)
  (pss_cons (ps_fld (pv 0) (pe_call d_common_term.G (hr.mono (by decide)) rfl d_common_term.g d_common_term.k d_common_term.b .nil pass0 (pa_cons (pe_ix ix_tup (pv 1) pe_int (fun _ _ => rfl)) pa_nil)) rfl)
  (pss_cons (ps_fld (pv 0) (pe_call d_all_choices.G (hr.mono (by decide)) rfl d_all_choices.g d_all_choices.k d_all_choices.b .nil pass0 (pa_cons (pe_ix ix_tup (pv 1) pe_int (fun _ _ => rfl)) pa_nil)) rfl)
  (pss_cons (ps_fld (pv 0) (pe_nnew (w := w) rfl) rfl)
  (pss_one (ps_fld (pv 0) pe_dnewK rfl)))))), run_ofW (s := (B_Stands___init__ pT)) (sw_seq (sw_fldS X.c_Stands X.n_Stands_given_house (lf_E snd_var) (lf_E snd_var))
  (sw_seq (sw_fldS X.c_Stands X.n_Stands_years (lf_E snd_var) (lf_E (snd_call (snd_cons (snd_op o_ixT snd_var snd_int) snd_nil))))
  (sw_seq (sw_fldS X.c_Stands X.n_Stands_rows (lf_E snd_var) (lf_E (snd_call (snd_cons (snd_op o_ixT snd_var snd_int) snd_nil))))
  (sw_seq (sw_fldS X.c_Stands X.n_Stands_known (lf_E snd_var) sw_nnew)
  (sw_fldS X.c_Stands X.n_Stands_known_more (lf_E snd_var) sw_dic0))))) rfl h⟩)
abbrev s_Steps___init__ : Stmt := inClass (top 62) 0
theorem sc_Steps___init__ : FnScope ["self", "house", "band", "full"] ["self", "house", "band", "full"] (defScope s_Steps___init__) := ⟨rfl, rfl, rfl, by decide +kernel, rfl, by decide +kernel, by decide +kernel⟩
def B_Steps___init__ (pT : String → Addr) : SW := (sSeqW (sFldW (pT "Steps") "given_house" (lE (eVar 0)) (lE (eVar 1)))
  (sSeqW (sFldW (pT "Steps") "band" (lE (eVar 0)) (lE (eVar 2)))
  (sSeqW (sFldW (pT "Steps") "full" (lE (eVar 0)) (lE (eVar 3)))
  (sSeqW (sFldW (pT "Steps") "years" (lE (eVar 0)) (lE (eCall S_common_term (aCons (eOp opIxT (eVar 1) (eC (.int 0))) aNil))))
  (sSeqW (sFldW (pT "Steps") "turns" (lE (eVar 0)) (eMake0 (pT "Turns") (S_Turns___init__ pT) (lA (aCons (eOp opIxT (eVar 1) (eC (.int 1))) (aCons (eVar 2) (aCons (eOr (eVar 3) (eOp opNeD (eVar 2) (eC cANY))) aNil))))))
  (sFldW (pT "Steps") "stands" (lE (eVar 0)) (eMake0 (pT "Stands") (S_Stands___init__ pT) (lA (aCons (eVar 1) aNil)))))))))
def S_Steps___init__ (pT : String → Addr) : SPN := runW 4 4 (B_Steps___init__ pT)
theorem ok_Steps___init__ {f : Addr} {fd : FuncData} (F : L2.Fun K "__init__" "Steps.__init__" s_Steps___init__ f fd) (X : Ctx K mg pT) {f_common_term : Addr} {fd_common_term : FuncData} (d_common_term : Dok P w K mg base 1 "common_term" ["bodies"] (spW K S_common_term) f_common_term fd_common_term) {f_Turns___init__ : Addr} {fd_Turns___init__ : FuncData} (i_Turns___init__ : DoI CX0 P w K mg base 2 (pT "Turns") ["self", "wards", "band", "telling"] (spS w K (S_Turns___init__ pT)) f_Turns___init__ fd_Turns___init__) {f_Stands___init__ : Addr} {fd_Stands___init__ : FuncData} (i_Stands___init__ : DoI CX0 P w K mg base 2 (pT "Stands") ["self", "house"] (spS w K (S_Stands___init__ pT)) f_Stands___init__ fd_Stands___init__) : FnOk P w K mg base CX0 4 f fd ["self", "house", "band", "full"] (spS w K (S_Steps___init__ pT)) :=
  F.ok sc_Steps___init__ (fun vs H Q E h => spS_len rfl h) (fun cdv A outer s H vs Q E hr h => ⟨_, (pss_cons (ps_fld (pv 0) (pv 1) rfl)
  (pss_cons (ps_fld (pv 0) (pv 2) rfl)
  (pss_cons (ps_fld (pv 0) (pv 3) rfl)
  (pss_cons (ps_fld (pv 0) (pe_call d_common_term.G (hr.mono (by decide)) rfl d_common_term.g d_common_term.k d_common_term.b .nil pass0 (pa_cons (pe_ix ix_tup (pv 1) pe_int (fun _ _ => rfl)) pa_nil)) rfl)
  (pss_cons (ps_fld (pv 0) (pe_make i_Turns___init__.M i_Turns___init__.G (hr.mono (by decide)) rfl X.g_Turns i_Turns___init__.b .nil pass0 (pa_cons (pe_ix ix_tup (pv 1) pe_int (fun _ _ => rfl)) (pa_cons (pv 2) (pa_cons (pe_or (pv 3) (pe_one (pe_cmpR (op_neD hr.units) (pv 2) (pe_cstR rfl X.C.ANY) (nomark _)))) pa_nil)))) rfl)
  (pss_one (ps_fld (pv 0) (pe_make i_Stands___init__.M i_Stands___init__.G (hr.mono (by decide)) rfl X.g_Stands i_Stands___init__.b .nil pass0 (pa_cons (pv 1) pa_nil)) rfl))))))), run_ofW (s := (B_Steps___init__ pT)) (sw_seq (sw_fldS X.c_Steps X.n_Steps_given_house (lf_E snd_var) (lf_E snd_var))
  (sw_seq (sw_fldS X.c_Steps X.n_Steps_band (lf_E snd_var) (lf_E snd_var))
  (sw_seq (sw_fldS X.c_Steps X.n_Steps_full (lf_E snd_var) (lf_E snd_var))
  (sw_seq (sw_fldS X.c_Steps X.n_Steps_years (lf_E snd_var) (lf_E (snd_call (snd_cons (snd_op o_ixT snd_var snd_int) snd_nil))))
  (sw_seq (sw_fldS X.c_Steps X.n_Steps_turns (lf_E snd_var) (sw_make0 (lf_A (snd_cons (snd_op o_ixT snd_var snd_int) (snd_cons snd_var (snd_cons (snd_or snd_var (snd_op o_neD snd_var (snd_c X.C.dANY))) snd_nil))))))
  (sw_fldS X.c_Steps X.n_Steps_stands (lf_E snd_var) (sw_make0 (lf_A (snd_cons snd_var snd_nil))))))))) rfl h⟩)
abbrev s_check_outlive : Stmt := top 66
theorem sc_check_outlive : FnScope ["house", "stand", "band", "body", "paper", "steps", "first"] ["house", "stand", "band", "body", "paper"] (defScope s_check_outlive) := ⟨rfl, rfl, rfl, by decide +kernel, rfl, by decide +kernel, by decide +kernel⟩
def B_check_outlive (pT : String → Addr) : SW := (sSeqW (sDropW (eCallW (S_need_question pT) (lA (aCons (eVar 0) (aCons (eVar 1) (aCons (eVar 2) (aCons (eVar 3) aNil)))))))
  (sSeqW (sAsgW (eMake0 (pT "Steps") (S_Steps___init__ pT) (lA (aCons (eVar 0) (aCons (eVar 2) (aCons (eC (.bl false)) aNil))))) (gvName 5))
  (sSeqW (sAsgW (lE (eCall S_first_state (aCons (eVar 1) aNil))) (gvName 6))
  (sSeqW (sIfW (lT (vAnd (vE (eCall S_is_tuple (aCons (eVar 4) (aCons (eC (.int 4)) (aCons (eC (.int 4)) aNil))))) (vE (eCall S_is_word (aCons (eOp opIxT (eVar 4) (eC (.int 0))) (aCons (eTup (aCons (eC (.str "bounded")) aNil)) aNil)))))) (sSeqW (sIfW (vNotW (vEW eNevW)) (sRaiseW (pT "BadPaper") "word" (lE (eC (.str "bounded")))) sNextW)
  (sRetW (lE (eOp opIxT (eVar 4) (eC (.int 1)))))) sNextW)
  (sSeqW (sIfW (lT (vAnd (vE (eCall S_is_tuple (aCons (eVar 4) (aCons (eC (.int 3)) (aCons (eC (.int 3)) aNil))))) (vE (eCall S_is_word (aCons (eOp opIxT (eVar 4) (eC (.int 0))) (aCons (eTup (aCons (eC (.str "endless")) aNil)) aNil)))))) (sSeqW (sIfW (vNotW (vEW eNevW)) (sRaiseW (pT "BadPaper") "word" (lE (eC (.str "endless")))) sNextW)
  (sRetW (lE (eC .non)))) sNextW)
  (sRaiseW (pT "BadPaper") "word" (lE (eC (.str "form")))))))))
def S_check_outlive (pT : String → Addr) : SPN := runW 5 7 (B_check_outlive pT)
theorem ok_check_outlive {f : Addr} {fd : FuncData} (F : L2.Fun K "check_outlive" "check_outlive" s_check_outlive f fd) (X : Ctx K mg pT) {i_BadPaper : Addr} {fd_BadPaper : FuncData} (xBadPaper : Xc P w K mg base "BadPaper" "word" (pT "BadPaper") i_BadPaper fd_BadPaper) {f_need_question : Addr} {fd_need_question : FuncData} (d_need_question : DoX P w K mg base 7 "need_question" ["house", "stand", "band", "body"] (spS w K (S_need_question pT)) f_need_question fd_need_question) {f_Steps___init__ : Addr} {fd_Steps___init__ : FuncData} (i_Steps___init__ : DoI CX0 P w K mg base 4 (pT "Steps") ["self", "house", "band", "full"] (spS w K (S_Steps___init__ pT)) f_Steps___init__ fd_Steps___init__) {f_first_state : Addr} {fd_first_state : FuncData} (d_first_state : Dok P w K mg base 1 "first_state" ["stand"] (spW K S_first_state) f_first_state fd_first_state) {f_is_tuple : Addr} {fd_is_tuple : FuncData} (d_is_tuple : Dok P w K mg base 1 "is_tuple" ["value", "least", "most"] (spW K S_is_tuple) f_is_tuple fd_is_tuple) {f_is_word : Addr} {fd_is_word : FuncData} (d_is_word : Dok P w K mg base 1 "is_word" ["value", "words"] (spW K S_is_word) f_is_word fd_is_word) : FnOk P w K mg base (L2.CX P w) 8 f fd ["house", "stand", "band", "body", "paper"] (spS w K (S_check_outlive pT)) :=
  F.okX sc_check_outlive (fun vs H Q E h => spS_len rfl h) (fun cdv A outer s H vs Q E hr h => ⟨_, (pss_cons (ps_expr (pe_call d_need_question.G (hr.mono (by decide)) rfl d_need_question.g d_need_question.k d_need_question.b .nil (passes_call (takes_of rfl rfl rfl rfl) (fun _ _ _ _ z => z)) (pa_cons (pv 0) (pa_cons (pv 1) (pa_cons (pv 2) (pa_cons (pv 3) pa_nil))))))
  (pss_cons (ps_set (i := 5) sc_check_outlive.nd rfl (Or.inl rfl) (pe_make i_Steps___init__.M i_Steps___init__.G (hr.mono (by decide)) rfl X.g_Steps i_Steps___init__.b .nil pass0 (pa_cons (pv 0) (pa_cons (pv 2) (pa_cons pe_bl pa_nil)))))
  (pss_cons (ps_set (i := 6) sc_check_outlive.nd rfl (Or.inl rfl) (pe_call d_first_state.G (hr.mono (by decide)) rfl d_first_state.g d_first_state.k d_first_state.b .nil pass0 (pa_cons (pv 1) pa_nil)))
  (pss_cons (ps_if (PW.pt (pw_and (pt_val (pe_call d_is_tuple.G (hr.mono (by decide)) rfl d_is_tuple.g d_is_tuple.k d_is_tuple.b .nil pass0 (pa_cons (pv 4) (pa_cons pe_int (pa_cons pe_int pa_nil))))) (pw_and1 (pt_val (pe_call d_is_word.G (hr.mono (by decide)) rfl d_is_word.g d_is_word.k d_is_word.b .nil pass0 (pa_cons (pe_ix ix_tup (pv 4) pe_int (fun _ _ => rfl)) (pa_cons (pe_tup (pa_cons pe_str pa_nil)) pa_nil))))))) (pss_cons (ps_if (pt_not (pt_val pe_nev)) (pss_one (ps_raise rfl (takes_of rfl rfl rfl rfl) (pmk_oex xBadPaper.o xBadPaper.iC xBadPaper.tI xBadPaper.F (hr.mono (by decide)) xBadPaper.b .nil pass0 rfl xBadPaper.g (pa_cons pe_str pa_nil)))) pss_nil)
  (pss_one (ps_ret (pe_ix ix_tup (pv 4) pe_int (fun _ _ => rfl))))) pss_nil)
  (pss_cons (ps_if (PW.pt (pw_and (pt_val (pe_call d_is_tuple.G (hr.mono (by decide)) rfl d_is_tuple.g d_is_tuple.k d_is_tuple.b .nil pass0 (pa_cons (pv 4) (pa_cons pe_int (pa_cons pe_int pa_nil))))) (pw_and1 (pt_val (pe_call d_is_word.G (hr.mono (by decide)) rfl d_is_word.g d_is_word.k d_is_word.b .nil pass0 (pa_cons (pe_ix ix_tup (pv 4) pe_int (fun _ _ => rfl)) (pa_cons (pe_tup (pa_cons pe_str pa_nil)) pa_nil))))))) (pss_cons (ps_if (pt_not (pt_val pe_nev)) (pss_one (ps_raise rfl (takes_of rfl rfl rfl rfl) (pmk_oex xBadPaper.o xBadPaper.iC xBadPaper.tI xBadPaper.F (hr.mono (by decide)) xBadPaper.b .nil pass0 rfl xBadPaper.g (pa_cons pe_str pa_nil)))) pss_nil)
  (pss_one (ps_ret pe_non))) pss_nil)
  (pss_one (ps_raise rfl (takes_of rfl rfl rfl rfl) (pmk_oex xBadPaper.o xBadPaper.iC xBadPaper.tI xBadPaper.F (hr.mono (by decide)) xBadPaper.b .nil pass0 rfl xBadPaper.g (pa_cons pe_str pa_nil))))))))), run_ofW (s := (B_check_outlive pT)) (sw_seq (sw_drop (sw_call (lf_A (snd_cons snd_var (snd_cons snd_var (snd_cons snd_var (snd_cons snd_var snd_nil)))))))
  (sw_seq (sw_asg (sw_make0 (lf_A (snd_cons snd_var (snd_cons snd_var (snd_cons snd_bl snd_nil))))) sndg_name)
  (sw_seq (sw_asg (lf_E (snd_call (snd_cons snd_var snd_nil))) sndg_name)
  (sw_seq (sw_ifS (lf_T (snd_tand (snd_tb (snd_call (snd_cons snd_var (snd_cons snd_int (snd_cons snd_int snd_nil))))) (snd_tb (snd_call (snd_cons (snd_op o_ixT snd_var snd_int) (snd_cons (snd_tup (snd_cons snd_str snd_nil)) snd_nil)))))) (sw_seq (sw_ifS (sw_tnot (sw_tb sw_nev)) (sw_raise1 (lf_E snd_str)) sw_next)
  (sw_ret (lf_E (snd_op o_ixT snd_var snd_int)))) sw_next)
  (sw_seq (sw_ifS (lf_T (snd_tand (snd_tb (snd_call (snd_cons snd_var (snd_cons snd_int (snd_cons snd_int snd_nil))))) (snd_tb (snd_call (snd_cons (snd_op o_ixT snd_var snd_int) (snd_cons (snd_tup (snd_cons snd_str snd_nil)) snd_nil)))))) (sw_seq (sw_ifS (sw_tnot (sw_tb sw_nev)) (sw_raise1 (lf_E snd_str)) sw_next)
  (sw_ret (lf_E snd_non))) sw_next)
  (sw_raise1 (lf_E snd_str))))))) rfl h⟩)
abbrev s_need_rows : Stmt := top 48
theorem sc_need_rows : FnScope ["house", "rows", "place", "choices"] ["house", "rows"] (defScope s_need_rows) := ⟨rfl, rfl, rfl, by decide +kernel, rfl, by decide +kernel, by decide +kernel⟩
def B_need_rows (pT : String → Addr) : SW := (sSeqW (sIfW (lT (vOr (vNot (vE (eIsi2 "list" "tuple" (eVar 1)))) (vE (eOp opGt (eCB cLen (aCons (eVar 1) aNil)) (eC (.int 400)))))) (sRaiseW (pT "BadChoices") "place" (lE (eC .non))) sNextW)
  (sSeqW (sForW (lI (iOr (iEnL (aCons (eVar 1) aNil)) (iEnD (aCons (eVar 1) aNil)))) (gvTup 2 (gvCons (gvName 2) (gvCons (gvName 3) gvNil)))
  (sIfW (lT (vNot (vE (eCall S_is_sides (aCons (eVar 3) (aCons (eOp opIxT (eVar 0) (eC (.int 1))) aNil)))))) (sRaiseW (pT "BadChoices") "place" (lE (eVar 2))) sNextW))
  (sRetW (lE (eVar 1)))))
def S_need_rows (pT : String → Addr) : SPN := runW 2 4 (B_need_rows pT)
theorem ok_need_rows {f : Addr} {fd : FuncData} (F : L2.Fun K "need_rows" "need_rows" s_need_rows f fd) (X : Ctx K mg pT) {i_BadChoices : Addr} {fd_BadChoices : FuncData} (xBadChoices : Xc P w K mg base "BadChoices" "place" (pT "BadChoices") i_BadChoices fd_BadChoices) {f_is_sides : Addr} {fd_is_sides : FuncData} (d_is_sides : Dok P w K mg base 1 "is_sides" ["value", "many"] (spW K S_is_sides) f_is_sides fd_is_sides) : FnOk P w K mg base (L2.CX P w) 3 f fd ["house", "rows"] (spS w K (S_need_rows pT)) :=
  F.okX sc_need_rows (fun vs H Q E h => spS_len rfl h) (fun cdv A outer s H vs Q E hr h => ⟨_, (pss_cons (ps_if (PW.pt (pw_or (pt_not (pt_val (pe_callB call_isiT (by rfl) X.B.isinstance PyProof.Rows.boot_isinstance (pa_cons (pv 1) (pa_cons (pe_tup (pa_cons (pe_bltn (v := .ty "list") (by rfl) X.Z.list (by decide +kernel) rfl) (pa_cons (pe_bltn (v := .ty "tuple") (by rfl) X.Z.tuple (by decide +kernel) rfl) pa_nil))) pa_nil))))) (pw_or1 (pt_cmpR op_gt (pe_callB call_len_seq (by rfl) X.B.len PySem.boot_len (pa_cons (pv 1) pa_nil)) (pe_cstE rfl X.C.MOST_ROWS) (nomark _))))) (pss_one (ps_raise rfl (takes_of rfl rfl rfl rfl) (pmk_oex xBadChoices.o xBadChoices.iC xBadChoices.tI xBadChoices.F (hr.mono (by decide)) xBadChoices.b .nil pass0 rfl xBadChoices.g (pa_cons pe_non pa_nil)))) pss_nil)
  (pss_cons (ps_for (passes_of rfl) rfl (pi_or (pi_enum (by rfl) X.B.enumerate (pa_cons (pv 1) pa_nil)) (pi_enumT (by rfl) X.B.enumerate (pa_cons (pv 1) pa_nil))) (pg_tup rfl (pgs_cons (pg_name (i := 2) sc_need_rows.nd rfl (Or.inl rfl)) (pgs_cons (pg_name (i := 3) sc_need_rows.nd rfl (Or.inl rfl)) pgs_nil)))
  (pss_one (ps_if (pt_not (pt_val (pe_call d_is_sides.G (hr.mono (by decide)) rfl d_is_sides.g d_is_sides.k d_is_sides.b .nil pass0 (pa_cons (pv 3) (pa_cons (pe_ix ix_tup (pv 0) pe_int (fun _ _ => rfl)) pa_nil))))) (pss_one (ps_raise rfl (takes_of rfl rfl rfl rfl) (pmk_oex xBadChoices.o xBadChoices.iC xBadChoices.tI xBadChoices.F (hr.mono (by decide)) xBadChoices.b .nil pass0 rfl xBadChoices.g (pa_cons (pv 2) pa_nil)))) pss_nil)))
  (pss_one (ps_ret (pv 1))))), run_ofW (s := (B_need_rows pT)) (sw_seq (sw_ifS (lf_T (snd_tor (snd_tnot (snd_tb (snd_isi2 snd_var))) (snd_test (snd_op o_gt (snd_cb c_len (snd_cons snd_var snd_nil)) snd_int)))) (sw_raise1 (lf_E snd_non)) sw_next)
  (sw_seq (sw_for (lf_I (snd_iOr (snd_iEnL (snd_cons snd_var snd_nil)) (snd_iEnT (snd_cons snd_var snd_nil)))) (sndg_tup (sndg_cons sndg_name (sndg_cons sndg_name sndg_nil)))
  (sw_ifS (lf_T (snd_tnot (snd_tb (snd_call (snd_cons snd_var (snd_cons (snd_op o_ixT snd_var snd_int) snd_nil)))))) (sw_raise1 (lf_E snd_var)) sw_next))
  (sw_ret (lf_E snd_var)))) rfl h⟩)
abbrev s_run : Stmt := top 58
theorem sc_run : FnScope ["house", "stand", "rows", "stands", "now", "number", "choices"] ["house", "stand", "rows"] (defScope s_run) := ⟨rfl, rfl, rfl, by decide +kernel, rfl, by decide +kernel, by decide +kernel⟩
def B_run (pT : String → Addr) : SW := (sSeqW (sDropW (eCallW (S_need_stand pT) (lA (aCons (eVar 0) (aCons (eVar 1) aNil)))))
  (sSeqW (sDropW (eCallW (S_need_rows pT) (lA (aCons (eVar 0) (aCons (eVar 2) aNil)))))
  (sSeqW (sNewW 3)
  (sSeqW (sAsgW (lE (eVar 1)) (gvName 4))
  (sSeqW (sForW (lI (iOr (iEnL (aCons (eVar 2) aNil)) (iEnD (aCons (eVar 2) aNil)))) (gvTup 2 (gvCons (gvName 5) (gvCons (gvName 6) gvNil)))
  (sSeqW (sAsgW eNevW (gvName 4))
  (sAppW 3 (lE (eVar 4)))))
  (sRetW (lE (eOwnTup 3))))))))
def S_run (pT : String → Addr) : SPN := runW 3 7 (B_run pT)
theorem ok_run {f : Addr} {fd : FuncData} (F : L2.Fun K "run" "run" s_run f fd) (X : Ctx K mg pT) {f_need_stand : Addr} {fd_need_stand : FuncData} (d_need_stand : DoX P w K mg base 6 "need_stand" ["house", "stand"] (spS w K (S_need_stand pT)) f_need_stand fd_need_stand) {f_need_rows : Addr} {fd_need_rows : FuncData} (d_need_rows : DoX P w K mg base 3 "need_rows" ["house", "rows"] (spS w K (S_need_rows pT)) f_need_rows fd_need_rows) : FnOk P w K mg base (L2.CX P w) 7 f fd ["house", "stand", "rows"] (spS w K (S_run pT)) :=
  F.okX sc_run (fun vs H Q E h => spS_len rfl h) (fun cdv A outer s H vs Q E hr h => ⟨_, (pss_cons (ps_expr (pe_call d_need_stand.G (hr.mono (by decide)) rfl d_need_stand.g d_need_stand.k d_need_stand.b .nil (passes_call (takes_of rfl rfl rfl rfl) (fun _ _ _ _ z => z)) (pa_cons (pv 0) (pa_cons (pv 1) pa_nil))))
  (pss_cons (ps_expr (pe_call d_need_rows.G (hr.mono (by decide)) rfl d_need_rows.g d_need_rows.k d_need_rows.b .nil (passes_call (takes_of rfl rfl rfl rfl) (fun _ _ _ _ z => z)) (pa_cons (pv 0) (pa_cons (pv 2) pa_nil))))
  (pss_cons (ps_set (i := 3) sc_run.nd rfl (Or.inl rfl) (pe_lst pa_nil))
  (pss_cons (ps_set (i := 4) sc_run.nd rfl (Or.inl rfl) (pv 1))
  (pss_cons (ps_for (passes_of rfl) rfl (pi_or (pi_enum (by rfl) X.B.enumerate (pa_cons (pv 2) pa_nil)) (pi_enumT (by rfl) X.B.enumerate (pa_cons (pv 2) pa_nil))) (pg_tup rfl (pgs_cons (pg_name (i := 5) sc_run.nd rfl (Or.inl rfl)) (pgs_cons (pg_name (i := 6) sc_run.nd rfl (Or.inl rfl)) pgs_nil)))
  (pss_cons (ps_set (i := 4) sc_run.nd rfl (Or.inl rfl) pe_nev)
  (pss_one (ps_expr (pe_bm PySem.F.plainAttrs_list PySem.F.slot_list_append PySem.F.type_list_append mt_append (pv 3) (pa_cons (pv 4) pa_nil))))))
  (pss_one (ps_ret (pe_callTy call_tuple_of (by rfl) X.Z.tuple (by decide +kernel) (pa_cons (pv 3) pa_nil))))))))), run_ofW (s := (B_run pT)) (sw_seq (sw_drop (sw_call (lf_A (snd_cons snd_var (snd_cons snd_var snd_nil)))))
  (sw_seq (sw_drop (sw_call (lf_A (snd_cons snd_var (snd_cons snd_var snd_nil)))))
  (sw_seq sw_new
  (sw_seq (sw_asg (lf_E snd_var) sndg_name)
  (sw_seq (sw_for (lf_I (snd_iOr (snd_iEnL (snd_cons snd_var snd_nil)) (snd_iEnT (snd_cons snd_var snd_nil)))) (sndg_tup (sndg_cons sndg_name (sndg_cons sndg_name sndg_nil)))
  (sw_seq (sw_asg sw_nev sndg_name)
  (sw_app (lf_E snd_var))))
  (sw_ret (lf_E snd_ownT))))))) rfl h⟩)
abbrev s__law_raised_right : Stmt := top 83
theorem sc__law_raised_right : FnScope ["home", "heard", "at", "k"] [] (defScope s__law_raised_right) := ⟨rfl, rfl, rfl, by decide +kernel, rfl, by decide +kernel, by decide +kernel⟩
def B__law_raised_right (K : PySem.W.Frag) (pT : String → Addr) : SW := (sSeqW (sAsgW (lE (eTup (aCons (eTup (aCons (eTup (aCons (eTup (aCons (eC (.int 1)) (aCons (eC (.int 0)) (aCons (eTup (aCons (eC (.str "ward")) (aCons (eC (.int 0)) aNil))) aNil)))) aNil)) aNil)) (aCons (eC (.int 1)) aNil)))) (gvName 0))
  (sSeqW (sNewAW 1 (aConsW (eLam0W (pT "#_law_raised_right") (lamQ "_law_raised_right" (defScope s__law_raised_right)) [] 0 (S__law_raised K pT) (eCallW (S_need_house pT) (lA (aCons (eC .non) aNil)))) (aConsW (eLam0W (pT "#_law_raised_right") (lamQ "_law_raised_right" (defScope s__law_raised_right)) [0] 0 (S__law_raised K pT) (eCallW (S_need_stand pT) (lA (aCons (eVar 0) (aCons (eC .non) aNil))))) aNilW)))
  (sSeqW (sFrzW 1 (sNewCatW 1 (lE (eVar 1)) (eLstW (aConsW (eLam0W (pT "#_law_raised_right") (lamQ "_law_raised_right" (defScope s__law_raised_right)) [0] 0 (S__law_raised K pT) (eCallW (S_run pT) (lA (aCons (eVar 0) (aCons (eTup (aCons (eC (.str "a")) aNil)) (aCons (eC .non) aNil)))))) (aConsW (eLam0W (pT "#_law_raised_right") (lamQ "_law_raised_right" (defScope s__law_raised_right)) [] 0 (S__law_raised K pT) (eCallW (S_need_band pT) (lA (aCons (eC .non) aNil)))) aNilW)))))
  (sSeqW (sAppW 1 (eLam0W (pT "#_law_raised_right") (lamQ "_law_raised_right" (defScope s__law_raised_right)) [0] 0 (S__law_raised K pT) (eCallW (S_due_seats pT) (lA (aCons (eVar 0) (aCons (eC .non) aNil))))))
  (sSeqW (sAppW 1 (eLam0W (pT "#_law_raised_right") (lamQ "_law_raised_right" (defScope s__law_raised_right)) [0] 0 (S__law_raised K pT) (eCallW (S_check_outlive pT) (lA (aCons (eVar 0) (aCons (eTup (aCons (eC (.str "a")) aNil)) (aCons (eTup (aCons (eC (.int 0)) (aCons (eC (.int 1)) aNil))) (aCons (eC (.int 0)) (aCons (eC .non) aNil)))))))))
  (sFrzW 1 (sRetW (lE (eOp opEqD (eVar 1) (eLc (iR1 (aCons (eC (.int 6)) aNil)) (gvName 2) vYes (eOp opCatL (eLst (aCons (eC (.str "seat")) aNil)) (eLc (iR1 (aCons (eC (.int 7)) aNil)) (gvName 3) vYes (eOp opEq (eVar 3) (eVar 2)) [3])) [2]))))))))))
def S__law_raised_right (K : PySem.W.Frag) (pT : String → Addr) : SPN := runW 0 4 (B__law_raised_right K pT)
theorem ok__law_raised_right {f : Addr} {fd : FuncData} {c : Addr} (F : FunC K "_law_raised_right" s__law_raised_right f fd c) (TB : TabB base mg c (pT "#_law_raised_right")) (X : Ctx K mg pT) {f__law_raised : Addr} {fd__law_raised : FuncData} (d__law_raised : Giv P w K mg base "_law_raised" s__law_raised 20 ["call", "found", "error"] ["call"] 0 "call" (S__law_raised K pT) f__law_raised fd__law_raised) {f_need_house : Addr} {fd_need_house : FuncData} (d_need_house : DoX P w K mg base 5 "need_house" ["house"] (spS w K (S_need_house pT)) f_need_house fd_need_house) {f_need_stand : Addr} {fd_need_stand : FuncData} (d_need_stand : DoX P w K mg base 6 "need_stand" ["house", "stand"] (spS w K (S_need_stand pT)) f_need_stand fd_need_stand) {f_due_seats : Addr} {fd_due_seats : FuncData} (d_due_seats : DoX P w K mg base 6 "due_seats" ["house", "number"] (spS w K (S_due_seats pT)) f_due_seats fd_due_seats) {f_check_outlive : Addr} {fd_check_outlive : FuncData} (d_check_outlive : DoX P w K mg base 8 "check_outlive" ["house", "stand", "band", "body", "paper"] (spS w K (S_check_outlive pT)) f_check_outlive fd_check_outlive) {f_run : Addr} {fd_run : FuncData} (d_run : DoX P w K mg base 7 "run" ["house", "stand", "rows"] (spS w K (S_run pT)) f_run fd_run) {f_need_band : Addr} {fd_need_band : FuncData} (d_need_band : DoX P w K mg base 3 "need_band" ["band"] (spS w K (S_need_band pT)) f_need_band fd_need_band) : FnG P w K mg base CX0 22 f fd [] (spS w K (S__law_raised_right K pT)) :=
  fnG_ofC F sc__law_raised_right (fun vs H Q E h => spS_len rfl h) (fun A outer s H vs Q E g hr h => by
  have g2 := guards_deeper g (PyProof.Rows.envOfC "_law_raised_right" (defScope s__law_raised_right) s.heap.objs.size f (.ref c))
  exact ⟨_, (pss_cons (ps_set (i := 0) sc__law_raised_right.nd rfl (Or.inr rfl) (pe_tup (pa_cons (pe_tup (pa_cons (pe_tup (pa_cons (pe_tup (pa_cons pe_int (pa_cons pe_int (pa_cons (pe_tup (pa_cons pe_str (pa_cons pe_int pa_nil))) pa_nil)))) pa_nil)) pa_nil)) (pa_cons pe_int pa_nil))))
  (pss_cons (ps_set (i := 1) sc__law_raised_right.nd rfl (Or.inl rfl) (pe_lst (pa_cons (pe_lam0 (l := LW.mk _ _ _ none) (caps := []) (par := []) ⟨d__law_raised.F, rfl, d__law_raised.gm, d__law_raised.b, sc__law_raised, rfl, Or.inl rfl, d__law_raised.G, g2, TB, rfl, hr.mono (by decide), ⟨rfl, rfl, rfl, by decide +kernel, loc_of (N := []) (by decide +kernel), (fun _ h => nomatch h), by decide, free_of (sc := (defScope s__law_raised_right)) (by decide +kernel), rfl, by walk_at "df"⟩, (fun _ _ _ _ _ _ h => spS_len rfl h), (fun A outer s H E f c2 gA hr => (pe_call d_need_house.G (hr.mono (by decide)) rfl d_need_house.g d_need_house.k d_need_house.b .nil (passes_call (takes_of rfl rfl rfl rfl) (fun _ _ _ _ z => z)) (pa_cons pe_non pa_nil))), by decide, by decide, by decide⟩) (pa_cons (pe_lam0 (l := LW.mk _ _ _ (some ("y", 0))) (caps := ["home"]) (par := []) ⟨d__law_raised.F, rfl, d__law_raised.gm, d__law_raised.b, sc__law_raised, rfl, Or.inl rfl, d__law_raised.G, g2, TB, rfl, hr.mono (by decide), ⟨rfl, rfl, rfl, by decide +kernel, loc_of (N := ["home"]) (by decide +kernel), (fun _ h => nomatch h), by decide, free_of (sc := (defScope s__law_raised_right)) (by decide +kernel), rfl, by walk_at "df"⟩, (fun _ _ _ _ _ _ h => spS_len rfl h), (fun A outer s H E f c2 gA hr => (pe_call d_need_stand.G (hr.mono (by decide)) rfl d_need_stand.g d_need_stand.k d_need_stand.b .nil (passes_call (takes_of rfl rfl rfl rfl) (fun _ _ _ _ z => z)) (pa_cons (pv 0) (pa_cons pe_non pa_nil)))), by decide, by decide, by decide⟩) pa_nil))))
  (pss_cons (ps_set (i := 1) sc__law_raised_right.nd rfl (Or.inl rfl) (pe_op op_cat (pv 1) (pe_lst (pa_cons (pe_lam0 (l := LW.mk _ _ _ none) (caps := ["home"]) (par := []) ⟨d__law_raised.F, rfl, d__law_raised.gm, d__law_raised.b, sc__law_raised, rfl, Or.inl rfl, d__law_raised.G, g2, TB, rfl, hr.mono (by decide), ⟨rfl, rfl, rfl, by decide +kernel, loc_of (N := ["home"]) (by decide +kernel), (fun _ h => nomatch h), by decide, free_of (sc := (defScope s__law_raised_right)) (by decide +kernel), rfl, by walk_at "df"⟩, (fun _ _ _ _ _ _ h => spS_len rfl h), (fun A outer s H E f c2 gA hr => (pe_call d_run.G (hr.mono (by decide)) rfl d_run.g d_run.k d_run.b .nil (passes_call (takes_of rfl rfl rfl rfl) (fun _ _ _ _ z => z)) (pa_cons (pv 0) (pa_cons (pe_tup (pa_cons pe_str pa_nil)) (pa_cons pe_non pa_nil))))), by decide, by decide, by decide⟩) (pa_cons (pe_lam0 (l := LW.mk _ _ _ (some ("y", 0))) (caps := []) (par := []) ⟨d__law_raised.F, rfl, d__law_raised.gm, d__law_raised.b, sc__law_raised, rfl, Or.inl rfl, d__law_raised.G, g2, TB, rfl, hr.mono (by decide), ⟨rfl, rfl, rfl, by decide +kernel, loc_of (N := []) (by decide +kernel), (fun _ h => nomatch h), by decide, free_of (sc := (defScope s__law_raised_right)) (by decide +kernel), rfl, by walk_at "df"⟩, (fun _ _ _ _ _ _ h => spS_len rfl h), (fun A outer s H E f c2 gA hr => (pe_call d_need_band.G (hr.mono (by decide)) rfl d_need_band.g d_need_band.k d_need_band.b .nil (passes_call (takes_of rfl rfl rfl rfl) (fun _ _ _ _ z => z)) (pa_cons pe_non pa_nil))), by decide, by decide, by decide⟩) pa_nil)))))
  (pss_cons (ps_expr (pe_bm PySem.F.plainAttrs_list PySem.F.slot_list_append PySem.F.type_list_append mt_append (pv 1) (pa_cons (pe_lam0 (l := LW.mk _ _ _ none) (caps := ["home"]) (par := []) ⟨d__law_raised.F, rfl, d__law_raised.gm, d__law_raised.b, sc__law_raised, rfl, Or.inl rfl, d__law_raised.G, g2, TB, rfl, hr.mono (by decide), ⟨rfl, rfl, rfl, by decide +kernel, loc_of (N := ["home"]) (by decide +kernel), (fun _ h => nomatch h), by decide, free_of (sc := (defScope s__law_raised_right)) (by decide +kernel), rfl, by walk_at "df"⟩, (fun _ _ _ _ _ _ h => spS_len rfl h), (fun A outer s H E f c2 gA hr => (pe_call d_due_seats.G (hr.mono (by decide)) rfl d_due_seats.g d_due_seats.k d_due_seats.b .nil (passes_call (takes_of rfl rfl rfl rfl) (fun _ _ _ _ z => z)) (pa_cons (pv 0) (pa_cons pe_non pa_nil)))), by decide, by decide, by decide⟩) pa_nil)))
  (pss_cons (ps_expr (pe_bm PySem.F.plainAttrs_list PySem.F.slot_list_append PySem.F.type_list_append mt_append (pv 1) (pa_cons (pe_lam0 (l := LW.mk _ _ _ none) (caps := ["home"]) (par := []) ⟨d__law_raised.F, rfl, d__law_raised.gm, d__law_raised.b, sc__law_raised, rfl, Or.inl rfl, d__law_raised.G, g2, TB, rfl, hr.mono (by decide), ⟨rfl, rfl, rfl, by decide +kernel, loc_of (N := ["home"]) (by decide +kernel), (fun _ h => nomatch h), by decide, free_of (sc := (defScope s__law_raised_right)) (by decide +kernel), rfl, by walk_at "df"⟩, (fun _ _ _ _ _ _ h => spS_len rfl h), (fun A outer s H E f c2 gA hr => (pe_call d_check_outlive.G (hr.mono (by decide)) rfl d_check_outlive.g d_check_outlive.k d_check_outlive.b .nil (passes_call (takes_of rfl rfl rfl rfl) (fun _ _ _ _ z => z)) (pa_cons (pv 0) (pa_cons (pe_tup (pa_cons pe_str pa_nil)) (pa_cons (pe_tup (pa_cons pe_int (pa_cons pe_int pa_nil))) (pa_cons pe_int (pa_cons pe_non pa_nil))))))), by decide, by decide, by decide⟩) pa_nil)))
  (pss_one (ps_ret (pe_cmpR (op_eqD hr.units) (pv 1) (pe_lc (own := [("at", 2)]) (g := gName 2) (tt := tYes) rfl sc__law_raised_right.nd (pi_range1 rfl X.B.range (pa_cons pe_int pa_nil)) (blkOk_by (N := ["home", "heard", "at", "k"]) (sc := defScope s__law_raised_right) (by decide +kernel)) (fun _ _ _ _ _ => pg_name (i := 2) sc__law_raised_right.nd rfl (Or.inr rfl)) (fun _ _ _ _ _ => pts_nil) (fun _ _ _ _ _ => (pe_op op_cat (pe_lst (pa_cons pe_str pa_nil)) (pe_lc (own := [("k", 3)]) (g := gName 3) (tt := tYes) rfl sc__law_raised_right.nd (pi_range1 rfl X.B.range (pa_cons pe_int pa_nil)) (blkOk_by (by rfl)) (fun _ _ _ _ _ => pg_name (i := 3) sc__law_raised_right.nd rfl (Or.inl rfl)) (fun _ _ _ _ _ => pts_nil) (fun _ _ _ _ _ => (pe_cmpR op_eq (pv 3) (pv 2) (nomark _))))))) (nomark _))))))))), run_ofW (s := (B__law_raised_right K pT)) (sw_seq (sw_asg (lf_E (snd_tup (snd_cons (snd_tup (snd_cons (snd_tup (snd_cons (snd_tup (snd_cons snd_int (snd_cons snd_int (snd_cons (snd_tup (snd_cons snd_str (snd_cons snd_int snd_nil))) snd_nil)))) snd_nil)) snd_nil)) (snd_cons snd_int snd_nil)))) sndg_name)
  (sw_seq (sw_newA (sw_cons (sw_lam0 (fun _ => (sw_call (lf_A (snd_cons snd_non snd_nil)))) rfl) (sw_cons (sw_lam0 (fun _ => (sw_call (lf_A (snd_cons snd_var (snd_cons snd_non snd_nil))))) rfl) sw_nil)))
  (sw_seq (sw_frz (sw_newCat (lf_E snd_var) (sw_lst (sw_cons (sw_lam0 (fun _ => (sw_call (lf_A (snd_cons snd_var (snd_cons (snd_tup (snd_cons snd_str snd_nil)) (snd_cons snd_non snd_nil)))))) rfl) (sw_cons (sw_lam0 (fun _ => (sw_call (lf_A (snd_cons snd_non snd_nil)))) rfl) sw_nil)))))
  (sw_seq (sw_app (sw_lam0 (fun _ => (sw_call (lf_A (snd_cons snd_var (snd_cons snd_non snd_nil))))) rfl))
  (sw_seq (sw_app (sw_lam0 (fun _ => (sw_call (lf_A (snd_cons snd_var (snd_cons (snd_tup (snd_cons snd_str snd_nil)) (snd_cons (snd_tup (snd_cons snd_int (snd_cons snd_int snd_nil))) (snd_cons snd_int (snd_cons snd_non snd_nil)))))))) rfl))
  (sw_frz (sw_ret (lf_E (snd_op o_eqD snd_var (snd_lc (snd_iR1 (snd_cons snd_int snd_nil)) sndg_name snd_yes (snd_op o_catL (snd_lst (snd_cons snd_str snd_nil)) (snd_lc (snd_iR1 (snd_cons snd_int snd_nil)) sndg_name snd_yes (snd_op o_eq snd_var snd_var) (by decide))) (by decide))))))))))) rfl h⟩)
abbrev s_law : Stmt := top 84
theorem sc_law : FnScope ["script", "m", "turn", "bare"] ["script"] (defScope s_law) := ⟨rfl, rfl, rfl, by decide +kernel, rfl, by decide +kernel, by decide +kernel⟩
def B_law (K : PySem.W.Frag) (pT : String → Addr) : SW := (sSeqW (sForW (lI (iR1 (aCons (eOp opAdd (eC (.int 2)) (eCB cMin2 (aCons (eC (.int 5)) (aCons (eCB cLen (aScr 0 aNil)) aNil)))) aNil))) (gvName 2)
  (sIfW (vNotW (vEW (eCall0 (S__law_made_right K pT) (lA (aCons (eCall S__law_of (aMemo 1 (aCons (eCall S__law_odds aNil) aNil))) aNil))))) (sRetW (lE (eC (.bl false)))) sNextW))
  (sSeqW (sAsgW (eMkBW (pT "SeatError") (lE (eC (.str "no house")))) (gvName 3))
  (sSeqW (sIfW (vOrW (vEW (eOpW opNeD (eCall0 (S__law_marks K pT) (lA (aCons (eVar 3) aNil))) (lE (eOp opRepL (eLst (aCons (eC (.bl false)) aNil)) (eC (.int 7)))))) (vEW (eOpW opNeD (eCall0 (S__law_above K pT) (lA (aCons (eVar 3) aNil))) (lE (eLst (aCons (eC (.bl true)) (aCons (eC (.bl true)) (aCons (eC (.bl false)) (aCons (eC (.bl false)) (aCons (eC (.bl false)) (aCons (eC (.bl false)) aNil))))))))))) (sRetW (lE (eC (.bl false)))) sNextW)
  (sRetW (eAndW (eCall0 (S__law_made_right K pT) (lA (aCons (eTup (aCons (eC (.int 1)) (aCons (eTup (aCons (eC (.int 2)) (aCons (eC .non) aNil))) aNil))) aNil))) (eCall0 (S__law_raised_right K pT) (lA aNil)))))))
def tabs (pT : String → Addr) : List (Addr × Str) := [(pT "#_law_raised_right", lamQ "_law_raised_right" (defScope s__law_raised_right))]
theorem ok_law {f : Addr} {fd : FuncData} (F : L2.Fun K "law" "law" s_law f fd) (X : Ctx K mg pT) {f__law_begun : Addr} {fd__law_begun : FuncData} (d__law_begun : Dok P w K mg base 2 "_law_begun" ["script"] (spBegun K) f__law_begun fd__law_begun) {f__law_made_right : Addr} {fd__law_made_right : FuncData} (d__law_made_right : DoG P w K mg base 3 "_law_made_right" ["thing"] (spS w K (S__law_made_right K pT)) f__law_made_right fd__law_made_right) {f__law_raised_right : Addr} {fd__law_raised_right : FuncData} (d__law_raised_right : DoG P w K mg base 22 "_law_raised_right" [] (spS w K (S__law_raised_right K pT)) f__law_raised_right fd__law_raised_right) {f__law_marks : Addr} {fd__law_marks : FuncData} (d__law_marks : Dok P w K mg base 1 "_law_marks" ["error"] (spS w K (S__law_marks K pT)) f__law_marks fd__law_marks) {f__law_above : Addr} {fd__law_above : FuncData} (d__law_above : Dok P w K mg base 1 "_law_above" ["error"] (spS w K (S__law_above K pT)) f__law_above fd__law_above) {f__law_of : Addr} {fd__law_of : FuncData} (d__law_of : Dok P w K mg base 3 "_law_of" ["m", "some"] (spW K S__law_of) f__law_of fd__law_of) {f__law_odds : Addr} {fd__law_odds : FuncData} (d__law_odds : Dok P w K mg base 1 "_law_odds" [] (spW K S__law_odds) f__law_odds fd__law_odds) (hl : ∀ ns : List Int, ns.length ≤ 63 → B_law K pT { nx := fun _ _ => False, rt := fun d _ => d = .bl true } ((([some (.scr ns)] ++ List.replicate (4 - 1) none) : SD).set 1 (some .memo)) ⟨536870912, μT (tabs pT)⟩) : FnG P w K mg base CX0 23 f fd ["script"] (spLawT K ((tabs pT).map (·.1))) := by
  refine fnG_of0 F sc_law (fun vs H Q E h => by obtain ⟨a, ns, rfl, _⟩ := h; rfl) (fun cdv A outer s H vs Q E gd hr h => ?_)
  obtain ⟨a, ns, rfl, hS, hz, hT, hQ⟩ := h
  have g2 := guards_deeper gd (PyProof.Rows.envOfC "law" (defScope s_law) s.heap.objs.size f cdv)
  exact ⟨_, (pss_cons (ps_set (i := 1) sc_law.nd rfl (Or.inl rfl) (pe_call d__law_begun.G (hr.mono (by decide)) rfl d__law_begun.g d__law_begun.k d__law_begun.b .nil pass0 (pa_cons (pv 0) pa_nil)))
  (pss_cons (ps_for PassesOwn.never rfl (pi_range1 rfl X.B.range (pa_cons (pe_op op_add pe_int (pe_callB (call_min2 rfl) (by rfl) X.hmin PyProof.Rows.boot_min (pa_cons pe_int (pa_cons (pe_callB call_len_seq (by rfl) X.B.len PySem.boot_len (pa_cons (pv 0) pa_nil)) pa_nil)))) pa_nil)) (pg_name (i := 2) sc_law.nd rfl (Or.inl rfl))
  (pss_one (ps_if (pt_not (pt_val (pe_callG d__law_made_right.G g2 (hr.mono (by decide)) rfl d__law_made_right.g d__law_made_right.k d__law_made_right.b pass0 (pa_cons (pe_call d__law_of.G (hr.mono (by decide)) rfl d__law_of.g d__law_of.k d__law_of.b .nil pass0 (pa_cons (pv 1) (pa_cons (pe_call0 d__law_odds.G (hr.mono (by decide)) rfl d__law_odds.g d__law_odds.k d__law_odds.b .nil pass0) pa_nil))) pa_nil)))) (pss_one (ps_ret pe_bl)) pss_nil)))
  (pss_cons (ps_set (i := 3) sc_law.nd rfl (Or.inl rfl) (pe_mkB X.o_SeatError X.ib_SeatError X.y_SeatError (pa_cons pe_str pa_nil)))
  (pss_cons (ps_if (PW.pt (pw_or (pt_cmpR (op_neD hr.units) (pe_call d__law_marks.G (hr.mono (by decide)) rfl d__law_marks.g d__law_marks.k d__law_marks.b .nil pass0 (pa_cons (pv 3) pa_nil)) (pe_op op_rep (pe_lst (pa_cons pe_bl pa_nil)) pe_int) (nomark _)) (pw_or1 (pt_cmpR (op_neD hr.units) (pe_call d__law_above.G (hr.mono (by decide)) rfl d__law_above.g d__law_above.k d__law_above.b .nil pass0 (pa_cons (pv 3) pa_nil)) (pe_lst (pa_cons pe_bl (pa_cons pe_bl (pa_cons pe_bl (pa_cons pe_bl (pa_cons pe_bl (pa_cons pe_bl pa_nil))))))) (nomark _))))) (pss_one (ps_ret pe_bl)) pss_nil)
  (pss_one (ps_ret (pe_and (pe_callG d__law_made_right.G g2 (hr.mono (by decide)) rfl d__law_made_right.g d__law_made_right.k d__law_made_right.b pass0 (pa_cons (pe_tup (pa_cons pe_int (pa_cons (pe_tup (pa_cons pe_int (pa_cons pe_non pa_nil))) pa_nil))) pa_nil)) (pe_one (pe_callG0 d__law_raised_right.G g2 (hr.mono (by decide)) rfl d__law_raised_right.g d__law_raised_right.k d__law_raised_right.b pass0))))))))), begun_thenT (w := w) (sv := B_law K pT) (sw_seq (sw_for (lf_I (snd_iR1 (snd_cons (snd_op o_add snd_int (snd_cb c_min2 (snd_cons snd_int (snd_cons (snd_cb c_len (snd_scr snd_nil)) snd_nil)))) snd_nil))) sndg_name
  (sw_ifS (sw_tnot (sw_tb (sw_call0 (lf_A (snd_cons (snd_call (snd_memo (snd_cons (snd_call snd_nil) snd_nil))) snd_nil))))) (sw_ret (lf_E snd_bl)) sw_next))
  (sw_seq (sw_asg (sw_mkB (lf_E snd_str)) sndg_name)
  (sw_seq (sw_ifS (sw_tor (sw_test (sw_op o_neD (sw_call0 (lf_A (snd_cons snd_var snd_nil))) (lf_E (snd_op o_repL (snd_lst (snd_cons snd_bl snd_nil)) snd_int)))) (sw_test (sw_op o_neD (sw_call0 (lf_A (snd_cons snd_var snd_nil))) (lf_E (snd_lst (snd_cons snd_bl (snd_cons snd_bl (snd_cons snd_bl (snd_cons snd_bl (snd_cons snd_bl (snd_cons snd_bl snd_nil))))))))))) (sw_ret (lf_E snd_bl)) sw_next)
  (sw_ret (sw_and (sw_call0 (lf_A (snd_cons (snd_tup (snd_cons snd_int (snd_cons (snd_tup (snd_cons snd_int (snd_cons snd_non snd_nil))) snd_nil))) snd_nil))) (sw_call0 (lf_A snd_nil))))))) rfl hS hz hT hQ (hl ns hz)⟩
end
end TSx

namespace TSx
open PySem L2
local macro_rules | `(tactic| walk_at "rd") => `(tactic| repeat (first
  | ((with_reducible show tVar _ _ _ _); refine r_v rfl ?_)
  | with_reducible refine r_c ?_
  | with_reducible refine r_op ?_
  | with_reducible refine r_I0 ?_
  | with_reducible refine r_cb ?_
  | with_reducible refine r_nil ?_
  | with_reducible refine r_cons ?_
  | with_reducible refine r_seq ?_
  | with_reducible refine r_next ?_
  | with_reducible refine r_asg ?_
  | with_reducible refine r_name ?_
  | with_reducible refine r_ret ?_
  | with_reducible refine r_drop ?_
  | with_reducible refine r_if ?_
  | with_reducible refine r_test ?_
  | with_reducible refine r_bl ?_
  | with_reducible refine r_call ?_))
local macro_rules | `(tactic| walk_at "st") => `(tactic| repeat (first
  | with_reducible refine r_seq ?_
  | with_reducible refine r_next ?_
  | with_reducible refine r_asg ?_
  | with_reducible refine r_name ?_
  | with_reducible refine r_ret ?_
  | with_reducible refine r_drop ?_
  | with_reducible refine r_if ?_))
local macro_rules | `(tactic| walk_at "mk") => `(tactic| repeat (first
  | with_reducible exact mk_non
  | with_reducible exact mk_int
  | with_reducible exact mk_str
  | with_reducible exact mk_bl
  | with_reducible exact mk_dic
  | with_reducible exact mka_nil
  | with_reducible refine mka_cons ?_ ?_
  | ((with_reducible refine mk_tup ?_ ?hz); (case hz => decide))
  | ((with_reducible refine mk_lst ?_ ?hz); (case hz => decide))
  | with_reducible refine mk_neg ?_))
local macro_rules | `(tactic| walk_at "kb") => `(tactic| repeat (first
  | with_reducible exact kb_non
  | with_reducible exact kb_int
  | with_reducible exact kb_str
  | with_reducible exact kb_bl
  | with_reducible exact kb_dic (by assumption)
  | with_reducible exact kba_nil
  | with_reducible refine kba_cons ?_ ?_
  | ((with_reducible refine kb_tup (by assumption) ?_ ?hz); (case hz => decide))
  | ((with_reducible refine kb_lst (by assumption) ?_ ?hz); (case hz => decide))
  | with_reducible refine kb_neg ?_))
section
abbrev sOdds : Stmt := top 78
theorem scOdds : FnScope ["some"] [] (defScope sOdds) := ⟨rfl, rfl, rfl, by decide +kernel, rfl, by decide +kernel, by decide +kernel⟩
def odds1 : List D := [.non, .int 0, .int 1, .int (-1), .int 5, .bl true, .str "", .str "a", .str "ab", .str "aa", .str "c", .str "A", .tup [], .tup [.str "a"], .tup [.int 0], .tup [.tup []], .lst [], .dic [], .tup [.str "kept"]]
def odds2 : List D := [.tup [.non, .int 1], .int (10 ^ (30 : Int).toNat), .tup [.str "ward", .int 0], .tup [.str "body", .int 0, .str "a"], .tup [.int 1, .int 0, .tup [.str "kept"]]]
def spOdds (K : PySem.W.Frag) : Sp := fun vs H Q _ => vs = [] ∧ ∀ v H', Same H H' → Dt K (wo (dom H) H') v (.lst (odds1 ++ odds2)) → Q v H'
section
variable {P : Program} {w : World} {K : PySem.W.Frag} {mg : Str → Option Value} {base : Heap}
theorem ok_odds {f : Addr} {fd : FuncData} (F : L2.Fun K "_law_odds" "_law_odds" sOdds f fd) : FnOk P w K mg base CX0 1 f fd [] (spOdds K) := by
  refine F.ok scOdds (fun vs H Q E h => by obtain ⟨rfl, _⟩ := h; rfl) (fun cdv A outer s H vs Q E hr h => ?_)
  obtain ⟨rfl, k⟩ := h
  refine ⟨_, (pss_cons (ps_set (i := 0) scOdds.nd rfl (Or.inl rfl) (pe_lst (pa_cons pe_non (pa_cons pe_int (pa_cons pe_int (pa_cons (pe_un un_neg pe_int) (pa_cons pe_int (pa_cons pe_bl (pa_cons pe_str (pa_cons pe_str (pa_cons pe_str (pa_cons pe_str (pa_cons pe_str (pa_cons pe_str (pa_cons (pe_tup pa_nil) (pa_cons (pe_tup (pa_cons pe_str pa_nil)) (pa_cons (pe_tup (pa_cons pe_int pa_nil)) (pa_cons (pe_tup (pa_cons (pe_tup pa_nil) pa_nil)) (pa_cons (pe_lst pa_nil) (pa_cons pe_dnewK (pa_cons (pe_tup (pa_cons pe_str pa_nil)) pa_nil)))))))))))))))))))))
  (pss_one (ps_ret (pe_op op_cat (pv 0) (pe_lst (pa_cons (pe_tup (pa_cons pe_non (pa_cons pe_int pa_nil))) (pa_cons (pe_op op_pow pe_int pe_int) (pa_cons (pe_tup (pa_cons pe_str (pa_cons pe_int pa_nil))) (pa_cons (pe_tup (pa_cons pe_str (pa_cons pe_int (pa_cons pe_str pa_nil)))) (pa_cons (pe_tup (pa_cons pe_int (pa_cons pe_int (pa_cons (pe_tup (pa_cons pe_str pa_nil)) pa_nil)))) pa_nil)))))))))), ?_⟩
  walk_at "st"
  have dB : ∀ b, dom H b = true → H b ≠ none := fun b e z => by rw [dom_no z] at e; cases e
  refine (show MkB K (dom H) _ _ H (.lst odds1) from ?m1) H Gr.rfl' _ fun v H1 s1 a1 => ?_
  case m1 =>
    unfold odds1
    walk_at "kb"
  walk_at "st"
  have dB : ∀ b, dom H b = true → H1 b ≠ none := fun b e z => by
    cases q : H b with
    | none => rw [dom_no q] at e; cases e
    | some o => rw [s1 _ _ q] at z; cases z
  refine (show MkB K (dom H) (tOp rCat (tVar 0) (tLst _)) [some v] H1 (.lst (odds1 ++ odds2)) from ?m2) H1 Gr.rfl' _ fun v2 H2 s2 a2 => ?_
  case m2 =>
    refine kb_cat dB (kb_var rfl a1) ?_ (by decide)
    unfold odds2
    walk_at "kb"
    · exact kb_I kb_int kb_int ⟨by decide, by decide, by decide⟩
    walk_at "kb"
  exact k v2 H2 (s1.trans s2) a2
theorem odds_eq : D.lst (odds1 ++ odds2) = .lst oddsD := rfl
theorem odds_of {vs : List V} {H : Hp} {Q : VK} {E : XK} (h : spW K S__law_odds vs H Q E) : spOdds K vs H Q E := by
  obtain ⟨U, n, ss, p, ok, hs, h, k⟩ := h
  obtain ⟨rfl, p0⟩ := h
  match vs, hs with
  | [], _ => ?_
  refine ⟨rfl, fun v H' s a => ?_⟩
  rw [odds_eq] at a
  have sm : Same (wo (dom H) H') (U.see H') := fun b o e => by
    unfold wo at e
    split at e
    · cases e
    · rename_i nd
      cases z : U.Z b with
      | true =>
        have := ok.dom b z
        exfalso
        apply nd
        show (H b).isSome = true
        cases q : H b with
        | none => exact absurd q this
        | some o => rfl
      | false => rw [see_at z]; exact e
  exact k _ _ _ _ p0 (Step.of s) (ok.same s) (a.gr sm)
end
theorem cnd_t {c : Bool} {a b : Prop} (h : c = true) (p : a) : cond c a b := by rw [h]; exact p
theorem cnd_f {c : Bool} {a b : Prop} (h : c = false) (p : b) : cond c a b := by rw [h]; exact p
end

end TSx
namespace TSx
open PySem L2
local macro_rules | `(tactic| walk_at "sx") => `(tactic| try simp only [eWk, eTIx, eOwnTupB, cTupB, opAddIB, D.wk, runD, sSeq, sNext, sBrk, sCnt, sIf, sRet, sRetN, sDrop, sNew, sApp, sFrz, sPar, sFor, sAsg, eVar, eC, eOp, eUn, eCB, eM1, eCall, eIf, eAnd, eOr, eNot, eTup, eLst, eChain, eLc, eLc2, eIsi, eSl, oNo, oPart, eOwnTup, eOwnLen, eBack, eRepr, aNil, aCons, aMemo, aScr, vE, vNot, vAnd, vOr, vYes, iTupD, iLstD, iStrD, iR1, iR2, iEnD, iEnL, iZTT, iZLL, iZLT, iZST, iZTS, iZSS, gvTup, gvCons, gvName, gvNil, wipeD, datas, opAdd, opSub, opMul, opMod, opFdiv, opPow, opLt, opLe, opGt, opGe, opNeg, opI, opB, opIC, opCatL, opCatT, opCatS, opRepL, opEq, opNe, eqSc, opIsN, opNotN, opIxL, opIxT, opIx, cLen, cLenS, cTup, cLst, cMin2, cInt, cIntB, cLcm, lstD, cSum, cAll, cAny, cMax, slT, slL, slS, opRev, mCount, mFind, mJoin, seqD, atD_nat, at0, at1, at2, at3, Int.cast_ofNat_Int, Int.reduceEq, Int.reduceLE, Int.reduceLT, decide_true, decide_false, D.ty, D.isE, kInt, kIntB, kTup, kStr, kIS, kTI, kTB, kTS, kIT, kISt, kBI, kBB, kL1, kL2, kL3, kS1, kS2, kN1, kN2, kN3, ex_tup, ex_lst, ex_bl, ex_str, ex_str0, ex_int, ex_i1, ex_i2, ex_t1, ex_l1, ex_tt, ex_ll, ex_lt, ex_st, ex_ts, ex_ss, ex_own, ex_own2, ex_par, ex_draw, ex_some, ex_if, Option.some.injEq, exists_eq_left', Option.map_some, Option.bind_some, Option.map_none, List.map_cons, List.map_nil, List.cons_append, List.nil_append, List.replicate, List.length_cons, List.length_nil, List.getElem?_cons_zero, List.getElem?_cons_succ, List.set_cons_zero, List.set_cons_succ, cond_true, cond_false, Bool.not_true, Bool.not_false, true_and, and_true, Nat.reduceAdd, Nat.reduceLeDiff, if_true, ite_true, Bool.and_true, Bool.true_and])
local macro_rules | `(tactic| walk_at "sw") => `(tactic| try simp only [eWk, eTIx, eOwnTupB, cTupB, opAddIB, D.wk, runD, sSeq, sNext, sBrk, sCnt, sIf, sRet, sRetN, sDrop, sNew, sApp, sFrz, sPar, sFor, sAsg, eVar, eC, eOp, eUn, eCB, eM1, eCall, eIf, eAnd, eOr, eNot, eTup, eLst, eChain, eLc, eLc2, eIsi, eSl, oNo, oPart, eOwnTup, eOwnLen, eBack, eRepr, aNil, aCons, aMemo, aScr, vE, vNot, vAnd, vOr, vYes, iTupD, iLstD, iStrD, iR1, iR2, iEnD, iEnL, iZTT, iZLL, iZLT, iZST, iZTS, iZSS, gvTup, gvCons, gvName, gvNil, wipeD, datas, opAdd, opSub, opMul, opMod, opFdiv, opPow, opLt, opLe, opGt, opGe, opNeg, opI, opB, opIC, opCatL, opCatT, opCatS, opRepL, opEq, opNe, eqSc, opIsN, opNotN, opIxL, opIxT, opIx, cLen, cLenS, cTup, cLst, cMin2, cInt, cIntB, cLcm, lstD, cSum, cAll, cAny, cMax, slT, slL, slS, opRev, mCount, mFind, mJoin, seqD, atD_nat, at0, at1, at2, at3, Int.cast_ofNat_Int, Int.reduceEq, Int.reduceLE, Int.reduceLT, decide_true, decide_false, D.ty, D.isE, kInt, kIntB, kTup, kStr, kIS, kTI, kTB, kTS, kIT, kISt, kBI, kBB, kL1, kL2, kL3, kS1, kS2, kN1, kN2, kN3, ex_tup, ex_lst, ex_bl, ex_str, ex_str0, ex_int, ex_i1, ex_i2, ex_t1, ex_l1, ex_tt, ex_ll, ex_lt, ex_st, ex_ts, ex_ss, ex_own, ex_own2, ex_par, ex_draw, ex_some, ex_if, Option.some.injEq, exists_eq_left', Option.map_some, Option.bind_some, Option.map_none, List.map_cons, List.map_nil, List.cons_append, List.nil_append, List.replicate, List.length_cons, List.length_nil, List.getElem?_cons_zero, List.getElem?_cons_succ, List.set_cons_zero, List.set_cons_succ, cond_true, cond_false, Bool.not_true, Bool.not_false, true_and, and_true, Nat.reduceAdd, Nat.reduceLeDiff, if_true, ite_true, Bool.and_true, Bool.true_and, sSeqW, sNextW, sBrkW, sCntW, sAsgW, sRetW, sRetNW, sDropW, sIfW, sForW, sNewW, sAppW, sFrzW, sParW, sFldW, sFldAugW, sDPutW, lE, lT, lA, lI, eOpW, eUnW, eCBW, eM1W, eCall0, eCallO, eIfW, eAndW, eOrW, eNotW, eTupW, eLstW, aNilW, aConsW, aMemoW, vEW, vNotW, vAndW, vOrW, vTruW, truD, eFldW, eMeth0, ePropW, eMake0, eDGetW, eDispW, disps, eLenO, eSlW, oNoW, oPartW, jTup, jLst, jStr, jR1, jR2, opIsB, opNotB, keyD, at_n, at_at, n_at, m_at, n_put, put_at, put_put, mput_same, ex_ob, ex_ob2, ex_ob3, ex_ob4, exists_and_left, eCallW, eMethW, eMakeW, sRaiseW, sNewAW, eLam0W, eLamR, eDic0W, eSealNW, eNDisp1W, eLcW, sAugW, jNItemsW, jNKeysW, jNValsW, mSplit, sRaise2W, eSl])
local macro_rules | `(tactic| walk_at "cc") => `(tactic| repeat (first
  | refine Exists.intro _ (And.intro rfl ?_)
  | refine Exists.intro _ (Exists.intro _ (And.intro rfl ?_))
  | refine And.intro (by decide) ?_
  | refine cnd_f (by decide) ?_
  | refine cnd_t (by decide) ?_
  | refine fgt_all ?_))
section

def bodyX : D := .tup [.tup [.int 1, .int 0, .tup [.str "ward", .int 0]]]
def homeX : D := .tup [.tup [bodyX], .int 1]
section
variable {r : Nat} {P : D → Nat → Prop}
theorem e_common (p : P (.int 1) r) : S_common_term [.d (.tup [bodyX])] r P := by
  unfold S_common_term B_common_term bodyX
  walk_at "sx"
  walk_at "cc"
  exact p
theorem e_choices (p : P (.lst [.str "a", .str "b"]) r) : S_all_choices [.d (.int 1)] r P := by
  unfold S_all_choices B_all_choices
  walk_at "sx"
  refine And.intro (by decide) ?_
  walk_at "cc"
  exact p
end
section
variable {pT : String → Addr} {r : Rs} {P : D → Rs → Prop} {Z : ZC}
theorem w_house (p : P homeX r) : S_need_house pT [.d homeX] r P Z := by
  unfold S_need_house B_need_house runW
  walk_at "cc"
  simp only [at_n, at_at, n_at]
  exact p
theorem w_houseN (p : Z (pT "BadHouse") [("place", .str "form")] r) : S_need_house pT [.d .non] r P Z := by
  unfold S_need_house B_need_house runW
  walk_at "cc"
  simp only [at_n, at_at, n_at]
  exact p
theorem w_stand (p : P (.tup [.str "a"]) r) : S_need_stand pT [.d homeX, .d (.tup [.str "a"])] r P Z := by
  unfold S_need_stand B_need_stand runW
  refine And.intro (by decide) ?_
  refine w_house ?_
  walk_at "cc"
  simp only [at_n, at_at, n_at]
  exact p
theorem w_standN (p : Z (pT "BadStand") [("value", .non)] r) : S_need_stand pT [.d homeX, .d .non] r P Z := by
  unfold S_need_stand B_need_stand runW
  refine And.intro (by decide) ?_
  refine w_house ?_
  walk_at "cc"
  simp only [at_n, at_at, n_at]
  exact p
theorem w_band (p : P (.tup [.int 0, .int 1]) r) : S_need_band pT [.d (.tup [.int 0, .int 1])] r P Z := by
  unfold S_need_band B_need_band runW
  walk_at "cc"
  simp only [at_n, at_at, n_at]
  exact p
theorem w_bandN (p : Z (pT "BadBand") [("part", .str "form")] r) : S_need_band pT [.d .non] r P Z := by
  unfold S_need_band B_need_band runW
  walk_at "cc"
  simp only [at_n, at_at, n_at]
  exact p
theorem w_body (p : P (.int 0) r) : S_need_body pT [.d homeX, .d (.int 0)] r P Z := by
  unfold S_need_body B_need_body runW
  walk_at "cc"
  simp only [at_n, at_at, n_at]
  exact p
theorem w_numberN (p : Z (pT "BadNumber") [("value", .non)] r) : S_need_number pT [.d .non] r P Z := by
  unfold S_need_number B_need_number runW
  walk_at "cc"
  simp only [at_n, at_at, n_at]
  exact p
theorem w_rowsN (p : Z (pT "BadChoices") [("place", .non)] r) : S_need_rows pT [.d homeX, .d .non] r P Z := by
  unfold S_need_rows B_need_rows runW
  walk_at "cc"
  simp only [at_n, at_at, n_at]
  exact p
theorem w_question (p : P .non r) : S_need_question pT [.d homeX, .d (.tup [.str "a"]), .d (.tup [.int 0, .int 1]), .d (.int 0)] r P Z := by
  unfold S_need_question B_need_question runW
  refine And.intro (by decide) ?_
  refine w_stand ?_
  refine w_band ?_
  refine w_body ?_
  refine fgt_all ?_
  exact p
theorem w_runN (p : Z (pT "BadChoices") [("place", .non)] r) : S_run pT [.d homeX, .d (.tup [.str "a"]), .d .non] r P Z := by
  unfold S_run B_run runW
  refine And.intro (by decide) ?_
  refine w_stand ?_
  refine w_rowsN ?_
  refine fgt_all ?_
  exact p
theorem w_dueN (p : Z (pT "BadNumber") [("value", .non)] r) : S_due_seats pT [.d homeX, .d .non] r P Z := by
  unfold S_due_seats B_due_seats runW
  refine And.intro (by decide) ?_
  refine w_house ?_
  refine w_numberN ?_
  refine fgt_all ?_
  exact p
end
end

section

/-- what isinstance tells of an exception of the class C -/
structure Seven (K : PySem.W.Frag) (pT : String → Addr) (C : Addr) (b : Fin 7 → Bool) : Prop where
  a : ExcC K C
  h0 : PySem.W.kitOne K (.ref C) (.ref (pT "BadHouse")) = some (b 0)
  h1 : PySem.W.kitOne K (.ref C) (.ref (pT "BadStand")) = some (b 1)
  h2 : PySem.W.kitOne K (.ref C) (.ref (pT "BadChoices")) = some (b 2)
  h3 : PySem.W.kitOne K (.ref C) (.ref (pT "BadBand")) = some (b 3)
  h4 : PySem.W.kitOne K (.ref C) (.ref (pT "BadNumber")) = some (b 4)
  h5 : PySem.W.kitOne K (.ref C) (.ref (pT "BadPaper")) = some (b 5)
  h6 : PySem.W.kitOne K (.ref C) (.ref (pT "TooGreat")) = some (b 6)
structure Above (K : PySem.W.Frag) (pT : String → Addr) (C : Addr) (s g : Bool) : Prop where
  a : ExcC K C
  h0 : PySem.W.kitOne K (.ref C) (.ref (pT "SeatError")) = some s
  h1 : PySem.W.kitOne K (.ref C) (.type "ValueError") = some s
  h2 : PySem.W.kitOne K (.ref C) (.type "OverflowError") = some g
  h3 : PySem.W.kitOne K (.ref C) (.type "LookupError") = some false
  h4 : PySem.W.kitOne K (.ref C) (.type "RuntimeError") = some false
  h5 : PySem.W.kitOne K (.ref C) (.type "TypeError") = some false
section
variable {K : PySem.W.Frag} {pT : String → Addr} {r : Rs} {P : D → Rs → Prop} {Z : ZC} {C : Addr} {d : D}
theorem w_marks {b : Fin 7 → Bool} (h : isEx r d C) (M : Seven K pT C b) (p : P (.lst [.bl (b 0), .bl (b 1), .bl (b 2), .bl (b 3), .bl (b 4), .bl (b 5), .bl (b 6)]) r) : S__law_marks K pT [.d d] r P Z := by
  unfold S__law_marks B__law_marks runW
  refine And.intro rfl ?_
  refine Exists.intro C (Exists.intro _ (Exists.intro _ (And.intro h (And.intro M.a (And.intro (fun u e => e) (And.intro M.h0 ?_))))))
  refine Exists.intro C (Exists.intro _ (Exists.intro _ (And.intro h (And.intro M.a (And.intro (fun u e => e) (And.intro M.h1 ?_))))))
  refine Exists.intro C (Exists.intro _ (Exists.intro _ (And.intro h (And.intro M.a (And.intro (fun u e => e) (And.intro M.h2 ?_))))))
  refine Exists.intro _ (And.intro rfl ?_)
  refine Exists.intro _ (And.intro rfl ?_)
  refine Exists.intro C (Exists.intro _ (Exists.intro _ (And.intro h (And.intro M.a (And.intro (fun u e => e) (And.intro M.h3 ?_))))))
  refine Exists.intro C (Exists.intro _ (Exists.intro _ (And.intro h (And.intro M.a (And.intro (fun u e => e) (And.intro M.h4 ?_))))))
  refine Exists.intro C (Exists.intro _ (Exists.intro _ (And.intro h (And.intro M.a (And.intro (fun u e => e) (And.intro M.h5 ?_))))))
  refine Exists.intro _ (And.intro rfl ?_)
  refine Exists.intro _ (And.intro rfl ?_)
  refine Exists.intro _ (And.intro rfl ?_)
  refine Exists.intro C (Exists.intro _ (Exists.intro _ (And.intro h (And.intro M.a (And.intro (fun u e => e) (And.intro M.h6 ?_))))))
  walk_at "cc"
  simp only [at_n, at_at, n_at]
  exact p
theorem w_above {s g : Bool} (h : isEx r d C) (M : Above K pT C s g) (p : P (.lst [.bl s, .bl s, .bl g, .bl false, .bl false, .bl false]) r) : S__law_above K pT [.d d] r P Z := by
  unfold S__law_above B__law_above runW
  refine And.intro rfl ?_
  refine Exists.intro C (Exists.intro _ (Exists.intro _ (And.intro h (And.intro M.a (And.intro (fun u e => e) (And.intro M.h0 ?_))))))
  refine Exists.intro C (Exists.intro _ (Exists.intro _ (And.intro h (And.intro M.a (And.intro (fun u e => e) (And.intro M.h1 ?_))))))
  refine Exists.intro C (Exists.intro _ (Exists.intro _ (And.intro h (And.intro M.a (And.intro (fun u e => e) (And.intro M.h2 ?_))))))
  refine Exists.intro _ (And.intro rfl ?_)
  refine Exists.intro _ (And.intro rfl ?_)
  refine Exists.intro C (Exists.intro _ (Exists.intro _ (And.intro h (And.intro M.a (And.intro (fun u e => e) (And.intro M.h3 ?_))))))
  refine Exists.intro C (Exists.intro _ (Exists.intro _ (And.intro h (And.intro M.a (And.intro (fun u e => e) (And.intro M.h4 ?_))))))
  refine Exists.intro C (Exists.intro _ (Exists.intro _ (And.intro h (And.intro M.a (And.intro (fun u e => e) (And.intro M.h5 ?_))))))
  walk_at "cc"
  simp only [at_n, at_at, n_at]
  exact p
end
end

section

def inB (K : PySem.W.Frag) (pT : String → Addr) : SW := (sSeqW (sIfW (vEW (eOpW opNeD (eCall0 (S__law_marks K pT) (lA (aCons (eVar 6) aNil))) (lE (eLc (iR1 (aCons (eC (.int 7)) aNil)) (gvName 7) vYes (eOp opEq (eVar 7) (eVar 5)) [7])))) (sRetW (lE (eC (.bl false)))) sNextW)
  (sIfW (vEW (eOpW opNeD (eCall0 (S__law_above K pT) (lA (aCons (eVar 6) aNil))) (lE (eLst (aCons (eOp opLt (eVar 5) (eC (.int 6))) (aCons (eOp opLt (eVar 5) (eC (.int 6))) (aCons (eOp opEq (eVar 5) (eC (.int 6))) (aCons (eC (.bl false)) (aCons (eC (.bl false)) (aCons (eC (.bl false)) aNil)))))))))) (sRetW (lE (eC (.bl false)))) sNextW))
def rowB (K : PySem.W.Frag) (pT : String → Addr) : SW := (sSeqW (sAsgW (eLstW (aConsW (eXFldW K "place" (lE (eOp opIxL (eVar 3) (eC (.int 0))))) (aConsW (eXFldW K "value" (lE (eOp opIxL (eVar 3) (eC (.int 1))))) (aConsW (eXFldW K "place" (lE (eOp opIxL (eVar 3) (eC (.int 2))))) (aConsW (eXFldW K "part" (lE (eOp opIxL (eVar 3) (eC (.int 3))))) (aConsW (eXFldW K "value" (lE (eOp opIxL (eVar 3) (eC (.int 4))))) (aConsW (eXFldW K "word" (lE (eOp opIxL (eVar 3) (eC (.int 5))))) (aConsW (eXFldW K "most" (lE (eOp opIxL (eVar 3) (eC (.int 6))))) aNilW)))))))) (gvName 4))
  (sSeqW (sIfW (lT (vNot (vE (eCall S__law_like (aCons (eVar 4) (aCons (eOp opRepL (eLst (aCons (eVar 0) aNil)) (eC (.int 7))) aNil)))))) (sRetW (lE (eC (.bl false)))) sNextW)
  (sForW (lI (iEnL (aCons (eVar 3) aNil))) (gvTup 2 (gvCons (gvName 5) (gvCons (gvName 6) gvNil)))
  (inB K pT))))
def exD (pT : String → Addr) (d : D) : List D := [.exc (pT "BadHouse") [("place", d)], .exc (pT "BadStand") [("value", d)], .exc (pT "BadChoices") [("place", d)], .exc (pT "BadBand") [("part", d)], .exc (pT "BadNumber") [("value", d)], .exc (pT "BadPaper") [("word", d)], .exc (pT "TooGreat") [("most", d)]]
def mkD (i : Fin 7) : List D := [.bl (decide ((0 : Fin 7) = i)), .bl (decide ((1 : Fin 7) = i)), .bl (decide ((2 : Fin 7) = i)), .bl (decide ((3 : Fin 7) = i)), .bl (decide ((4 : Fin 7) = i)), .bl (decide ((5 : Fin 7) = i)), .bl (decide ((6 : Fin 7) = i))]
def eqD (i : Fin 7) : List D := [.bl (decide (((0 : Nat) : Int) = (i.val : Int))), .bl (decide (((1 : Nat) : Int) = (i.val : Int))), .bl (decide (((2 : Nat) : Int) = (i.val : Int))), .bl (decide (((3 : Nat) : Int) = (i.val : Int))), .bl (decide (((4 : Nat) : Int) = (i.val : Int))), .bl (decide (((5 : Nat) : Int) = (i.val : Int))), .bl (decide (((6 : Nat) : Int) = (i.val : Int)))]
def abD (i : Fin 7) : List D := [.bl (decide (i ≠ 6)), .bl (decide (i ≠ 6)), .bl (decide (i = 6)), .bl false, .bl false, .bl false]
def agD (i : Fin 7) : List D := [.bl (decide ((i.val : Int) < 6)), .bl (decide ((i.val : Int) < 6)), .bl (decide ((i.val : Int) = 6)), .bl false, .bl false, .bl false]
theorem ne_mk : ∀ i : Fin 7, opNeD (.lst (mkD i)) (.lst (eqD i)) = some (.bl false) := fun i => by
  have h : ∀ i : Fin 7, ((D.lst (mkD i)).pl = true ∧ (D.lst (eqD i)).pl = true ∧ (D.lst (mkD i)).py.depth ≤ 64 ∧ (D.lst (eqD i)).py.depth ≤ 64) ∧ PyData.eqv (D.lst (mkD i)).py (D.lst (eqD i)).py = true := by decide +kernel
  unfold opNeD
  rw [if_pos (h i).1, (h i).2]
  rfl
theorem ne_ab : ∀ i : Fin 7, opNeD (.lst (abD i)) (.lst (agD i)) = some (.bl false) := fun i => by
  have h : ∀ i : Fin 7, ((D.lst (abD i)).pl = true ∧ (D.lst (agD i)).pl = true ∧ (D.lst (abD i)).py.depth ≤ 64 ∧ (D.lst (agD i)).py.depth ≤ 64) ∧ PyData.eqv (D.lst (abD i)).py (D.lst (agD i)).py = true := by decide +kernel
  unfold opNeD
  rw [if_pos (h i).1, (h i).2]
  rfl
section
variable {K : PySem.W.Frag} {pT : String → Addr} {r : Rs} {P : D → Rs → Prop} {Z : ZC} {d : D}
theorem q_like {n : Nat} {Q : D → Nat → Prop} {e : D} (h : e.rd) (p : Q (.bl true) n) : S__law_like [.d e, .d e] n Q := by
  unfold S__law_like B__law_like
  walk_at "sx"
  exact ⟨h, h, p⟩
theorem in_ok {C : Addr} {fs : List (Str × D)} (i : Fin 7) (S : Seven K pT C fun j => decide (j = i)) (A : Above K pT C (decide (i ≠ 6)) (decide (i = 6))) {E : EndsW} {x0 x1 x2 x3 x4 o7 : Option Sl}
    (p : E.nx [x0, x1, x2, x3, x4, some (.d (.int (i.val : Int))), some (.d (.exc C fs)), o7] r) : inB K pT E [x0, x1, x2, x3, x4, some (.d (.int (i.val : Int))), some (.d (.exc C fs)), o7] r := by
  unfold inB
  refine w_marks (Or.inl ⟨fs, rfl⟩) S ?_
  refine Exists.intro _ (And.intro rfl ?_)
  refine And.intro (by decide) ?_
  iterate 7
    refine Exists.intro _ (And.intro rfl ?_)
    refine Exists.intro _ (And.intro rfl ?_)
    refine And.intro (by simp) ?_
  refine Exists.intro _ (And.intro (ne_mk i) ?_)
  refine Exists.intro _ (And.intro rfl ?_)
  refine w_above (Or.inl ⟨fs, rfl⟩) A ?_
  iterate 4 refine Exists.intro _ (And.intro rfl ?_)
  refine Exists.intro _ (And.intro (ne_ab i) ?_)
  refine Exists.intro _ (And.intro rfl ?_)
  simp only [at_n, at_at, n_at]
  exact p
theorem row_ok (hd : (D.lst [d, d, d, d, d, d, d]).rd) (S : ∀ i : Fin 7, ∃ C f, (exD pT d)[i.val]? = some (.exc C [(f, d)]) ∧ PySem.W.findIn K (.ref C) f = some none ∧ Seven K pT C (fun j => decide (j = i)) ∧ Above K pT C (decide (i ≠ 6)) (decide (i = 6))) {E : EndsW} {x1 x2 o4 o5 o6 o7 : Option Sl}
    (p : ∀ o4 o5 o6 o7 : Option Sl, E.nx [some (.d d), x1, x2, some (.d (.lst (exD pT d))), o4, o5, o6, o7] r) : rowB K pT E [some (.d d), x1, x2, some (.d (.lst (exD pT d))), o4, o5, o6, o7] r := by
  obtain ⟨C0, f0, e0, n0, S0, A0⟩ := S 0
  obtain ⟨C1, f1, e1, n1, S1, A1⟩ := S 1
  obtain ⟨C2, f2, e2, n2, S2, A2⟩ := S 2
  obtain ⟨C3, f3, e3, n3, S3, A3⟩ := S 3
  obtain ⟨C4, f4, e4, n4, S4, A4⟩ := S 4
  obtain ⟨C5, f5, e5, n5, S5, A5⟩ := S 5
  obtain ⟨C6, f6, e6, n6, S6, A6⟩ := S 6
  cases e0; cases e1; cases e2; cases e3; cases e4; cases e5; cases e6
  unfold rowB exD
  refine Exists.intro _ (And.intro rfl ?_)
  refine Exists.intro _ (Exists.intro _ (Exists.intro _ (And.intro rfl (And.intro S0.a (And.intro n0 (And.intro rfl ?_))))))
  refine Exists.intro _ (And.intro rfl ?_)
  refine Exists.intro _ (Exists.intro _ (Exists.intro _ (And.intro rfl (And.intro S1.a (And.intro n1 (And.intro rfl ?_))))))
  refine Exists.intro _ (And.intro rfl ?_)
  refine Exists.intro _ (Exists.intro _ (Exists.intro _ (And.intro rfl (And.intro S2.a (And.intro n2 (And.intro rfl ?_))))))
  refine Exists.intro _ (And.intro rfl ?_)
  refine Exists.intro _ (Exists.intro _ (Exists.intro _ (And.intro rfl (And.intro S3.a (And.intro n3 (And.intro rfl ?_))))))
  refine Exists.intro _ (And.intro rfl ?_)
  refine Exists.intro _ (Exists.intro _ (Exists.intro _ (And.intro rfl (And.intro S4.a (And.intro n4 (And.intro rfl ?_))))))
  refine Exists.intro _ (And.intro rfl ?_)
  refine Exists.intro _ (Exists.intro _ (Exists.intro _ (And.intro rfl (And.intro S5.a (And.intro n5 (And.intro rfl ?_))))))
  refine Exists.intro _ (And.intro rfl ?_)
  refine Exists.intro _ (Exists.intro _ (Exists.intro _ (And.intro rfl (And.intro S6.a (And.intro n6 (And.intro rfl ?_))))))
  refine Exists.intro _ (And.intro rfl ?_)
  refine Exists.intro _ (And.intro rfl ?_)
  simp only [at_n, at_at, n_at]
  refine Exists.intro _ (And.intro rfl ?_)
  refine Exists.intro _ (And.intro rfl ?_)
  refine q_like (e := .lst [d, d, d, d, d, d, d]) hd ?_
  refine Exists.intro _ (And.intro rfl ?_)
  simp only [at_n, at_at, n_at]
  refine Exists.intro _ (And.intro rfl ?_)
  refine Exists.intro _ (And.intro rfl ?_)
  refine in_ok 0 S0 A0 ?_
  refine Exists.intro _ (And.intro rfl ?_)
  refine in_ok 1 S1 A1 ?_
  refine Exists.intro _ (And.intro rfl ?_)
  refine in_ok 2 S2 A2 ?_
  refine Exists.intro _ (And.intro rfl ?_)
  refine in_ok 3 S3 A3 ?_
  refine Exists.intro _ (And.intro rfl ?_)
  refine in_ok 4 S4 A4 ?_
  refine Exists.intro _ (And.intro rfl ?_)
  refine in_ok 5 S5 A5 ?_
  refine Exists.intro _ (And.intro rfl ?_)
  refine in_ok 6 S6 A6 ?_
  exact p _ _ _ _
theorem rows7 (X : XF K pT) (d : D) : ∀ i : Fin 7, ∃ C f, (exD pT d)[i.val]? = some (.exc C [(f, d)]) ∧ PySem.W.findIn K (.ref C) f = some none ∧ Seven K pT C (fun j => decide (j = i)) ∧ Above K pT C (decide (i ≠ 6)) (decide (i = 6)) := fun i => by
  match i with
  | 0 => exact ⟨pT "BadHouse", "place", rfl, X.n_BadHouse_place, ⟨X.a_BadHouse, X.k_BadHouse_BadHouse, X.k_BadHouse_BadStand, X.k_BadHouse_BadChoices, X.k_BadHouse_BadBand, X.k_BadHouse_BadNumber, X.k_BadHouse_BadPaper, X.k_BadHouse_TooGreat⟩, ⟨X.a_BadHouse, X.k_BadHouse_SeatError, X.t_BadHouse_ValueError, X.t_BadHouse_OverflowError, X.t_BadHouse_LookupError, X.t_BadHouse_RuntimeError, X.t_BadHouse_TypeError⟩⟩
  | 1 => exact ⟨pT "BadStand", "value", rfl, X.n_BadStand_value, ⟨X.a_BadStand, X.k_BadStand_BadHouse, X.k_BadStand_BadStand, X.k_BadStand_BadChoices, X.k_BadStand_BadBand, X.k_BadStand_BadNumber, X.k_BadStand_BadPaper, X.k_BadStand_TooGreat⟩, ⟨X.a_BadStand, X.k_BadStand_SeatError, X.t_BadStand_ValueError, X.t_BadStand_OverflowError, X.t_BadStand_LookupError, X.t_BadStand_RuntimeError, X.t_BadStand_TypeError⟩⟩
  | 2 => exact ⟨pT "BadChoices", "place", rfl, X.n_BadChoices_place, ⟨X.a_BadChoices, X.k_BadChoices_BadHouse, X.k_BadChoices_BadStand, X.k_BadChoices_BadChoices, X.k_BadChoices_BadBand, X.k_BadChoices_BadNumber, X.k_BadChoices_BadPaper, X.k_BadChoices_TooGreat⟩, ⟨X.a_BadChoices, X.k_BadChoices_SeatError, X.t_BadChoices_ValueError, X.t_BadChoices_OverflowError, X.t_BadChoices_LookupError, X.t_BadChoices_RuntimeError, X.t_BadChoices_TypeError⟩⟩
  | 3 => exact ⟨pT "BadBand", "part", rfl, X.n_BadBand_part, ⟨X.a_BadBand, X.k_BadBand_BadHouse, X.k_BadBand_BadStand, X.k_BadBand_BadChoices, X.k_BadBand_BadBand, X.k_BadBand_BadNumber, X.k_BadBand_BadPaper, X.k_BadBand_TooGreat⟩, ⟨X.a_BadBand, X.k_BadBand_SeatError, X.t_BadBand_ValueError, X.t_BadBand_OverflowError, X.t_BadBand_LookupError, X.t_BadBand_RuntimeError, X.t_BadBand_TypeError⟩⟩
  | 4 => exact ⟨pT "BadNumber", "value", rfl, X.n_BadNumber_value, ⟨X.a_BadNumber, X.k_BadNumber_BadHouse, X.k_BadNumber_BadStand, X.k_BadNumber_BadChoices, X.k_BadNumber_BadBand, X.k_BadNumber_BadNumber, X.k_BadNumber_BadPaper, X.k_BadNumber_TooGreat⟩, ⟨X.a_BadNumber, X.k_BadNumber_SeatError, X.t_BadNumber_ValueError, X.t_BadNumber_OverflowError, X.t_BadNumber_LookupError, X.t_BadNumber_RuntimeError, X.t_BadNumber_TypeError⟩⟩
  | 5 => exact ⟨pT "BadPaper", "word", rfl, X.n_BadPaper_word, ⟨X.a_BadPaper, X.k_BadPaper_BadHouse, X.k_BadPaper_BadStand, X.k_BadPaper_BadChoices, X.k_BadPaper_BadBand, X.k_BadPaper_BadNumber, X.k_BadPaper_BadPaper, X.k_BadPaper_TooGreat⟩, ⟨X.a_BadPaper, X.k_BadPaper_SeatError, X.t_BadPaper_ValueError, X.t_BadPaper_OverflowError, X.t_BadPaper_LookupError, X.t_BadPaper_RuntimeError, X.t_BadPaper_TypeError⟩⟩
  | 6 => exact ⟨pT "TooGreat", "most", rfl, X.n_TooGreat_most, ⟨X.a_TooGreat, X.k_TooGreat_BadHouse, X.k_TooGreat_BadStand, X.k_TooGreat_BadChoices, X.k_TooGreat_BadBand, X.k_TooGreat_BadNumber, X.k_TooGreat_BadPaper, X.k_TooGreat_TooGreat⟩, ⟨X.a_TooGreat, X.k_TooGreat_SeatError, X.t_TooGreat_ValueError, X.t_TooGreat_OverflowError, X.t_TooGreat_LookupError, X.t_TooGreat_RuntimeError, X.t_TooGreat_TypeError⟩⟩
theorem bare7 (X : XF K pT) : Seven K pT (pT "SeatError") (fun _ => false) ∧ Above K pT (pT "SeatError") true false :=
  ⟨⟨X.a_SeatError, X.k_SeatError_BadHouse, X.k_SeatError_BadStand, X.k_SeatError_BadChoices, X.k_SeatError_BadBand, X.k_SeatError_BadNumber, X.k_SeatError_BadPaper, X.k_SeatError_TooGreat⟩, ⟨X.a_SeatError, X.k_SeatError_SeatError, X.t_SeatError_ValueError, X.t_SeatError_OverflowError, X.t_SeatError_LookupError, X.t_SeatError_RuntimeError, X.t_SeatError_TypeError⟩⟩
theorem w_made (X : XF K pT) (hd : (D.lst [d, d, d, d, d, d, d]).rd) (p : P (.bl true) r) : S__law_made_right K pT [.d d] r P Z := by
  have S := rows7 X d
  unfold S__law_made_right B__law_made_right runW
  refine And.intro rfl ?_
  iterate 4 refine Exists.intro _ (And.intro rfl ?_)
  iterate 2 refine Exists.intro _ (And.intro rfl ?_)
  iterate 6 refine Exists.intro _ (And.intro rfl ?_)
  refine row_ok (x1 := some (.d (.lst [.exc (pT "BadHouse") [("place", d)], .exc (pT "BadStand") [("value", d)], .exc (pT "BadChoices") [("place", d)], .exc (pT "BadBand") [("part", d)], .exc (pT "BadNumber") [("value", d)], .exc (pT "BadPaper") [("word", d)]]))) (x2 := some (.d (.lst (exD pT d)))) hd S fun o4 o5 o6 o7 => ?_
  refine Exists.intro _ (And.intro rfl ?_)
  refine row_ok hd S fun o4 o5 o6 o7 => ?_
  refine fgt_all ?_
  exact p
end
end

section

theorem q_dropcall {S : SPN} {a : AW} {rest : SW} {E : EndsW} {δ : SD} {r : Rs} {ss : List Sl} (ha : ∀ Q : List Sl → Rs → Prop, Q ss r → a E.rz δ r Q) (h : S ss r (fun _ r2 => rest E δ r2) E.rz) : sSeqW (sDropW (eCallW S a)) rest E δ r := ha _ h
theorem q_make {C : Addr} {S : SPN} {a : AW} {rest : SW} {E : EndsW} {δ : SD} {r : Rs} {ss : List Sl} {n : Nat} (ha : ∀ Q : List Sl → Rs → Prop, Q ss r → a E.rz δ r Q)
    (h : ∀ x, r.μ x = none → S (.d (.ob x) :: ss) (r.put x (.ins C [])) (fun v r2 => v = .non ∧ ∃ δ', gvName n (.ob x) δ = some δ' ∧ rest E δ' r2) noX) : sSeqW (sAsgW (eMake0 C S a) (gvName n)) rest E δ r := ha _ h
theorem q_fld {C : Addr} {f : Str} {e : EW} {rest : SW} {E : EndsW} {δ : SD} {r : Rs} {x : Addr} {fs : List (Str × D)} {d : D} (hδ : δ[0]? = some (some (.d (.ob x)))) (he : ∀ Q : D → Rs → Prop, Q d r → e E.rz δ r Q) (hm : r.μ x = some (.ins C fs)) (hl : fs.length < 1000)
    (h : rest E δ (r.put x (.ins C (putFD f d fs)))) : sSeqW (sFldW C f (lE (eVar 0)) e) rest E δ r := by
  refine he _ ?_
  unfold lE eVar
  rw [hδ]
  exact ⟨x, fs, rfl, hm, hl, h⟩
/-- a field that is made: what follows is told for what is made -/
theorem q_fldM {C : Addr} {f : Str} {e : EW} {rest : SW} {E : EndsW} {δ : SD} {r : Rs} {x : Addr} (hδ : δ[0]? = some (some (.d (.ob x)))) (he : e E.rz δ r fun d r1 => ∃ x' fs, D.ob x = .ob x' ∧ r1.μ x' = some (.ins C fs) ∧ fs.length < 1000 ∧ rest E δ (r1.put x' (.ins C (putFD f d fs)))) :
    sSeqW (sFldW C f (lE (eVar 0)) e) rest E δ r := by
  unfold sSeqW sFldW lE eVar
  simp only [hδ]
  exact he
theorem q_fldL {C : Addr} {f : Str} {e : EW} {E : EndsW} {δ : SD} {r : Rs} {x : Addr} (hδ : δ[0]? = some (some (.d (.ob x)))) (he : e E.rz δ r fun d r1 => ∃ x' fs, D.ob x = .ob x' ∧ r1.μ x' = some (.ins C fs) ∧ fs.length < 1000 ∧ E.nx δ (r1.put x' (.ins C (putFD f d fs)))) :
    sFldW C f (lE (eVar 0)) e E δ r := by
  unfold sFldW lE eVar
  simp only [hδ]
  exact he
/-- what stood stays, but at x -/
def Kx (x : Addr) (r r' : Rs) : Prop := r'.n = r.n ∧ ∀ a o, a ≠ x → r.μ a = some o → r'.μ a = some o
theorem kx_put {x : Addr} {r : Rs} {o : Ob} : Kx x r (r.put x o) := ⟨rfl, fun a _ n h => by rw [put_ne n]; exact h⟩
theorem kx_new {x y : Addr} {r r0 : Rs} {o : Ob} (k : Kx x r0 r) (h : r.μ y = none) : Kx x r0 (r.put y o) := ⟨k.1, fun a _ n e => by
  have e1 := k.2 a _ n e
  rw [put_ne (fun z => by rw [z, h] at e1; cases e1)]; exact e1⟩
theorem kx_tr {x : Addr} {r0 r1 r2 : Rs} (a : Kx x r0 r1) (b : Kx x r1 r2) : Kx x r0 r2 := ⟨b.1.trans a.1, fun y _ n e => b.2 y _ n (a.2 y _ n e)⟩
theorem kx_obj {x y : Addr} {r0 r r1 : Rs} {o : Ob} (k : Kx x r0 r) (h : r.μ y = none) (k1 : Kx y (r.put y o) r1) : Kx x r0 r1 := ⟨k1.1.trans k.1, fun a _ n e => by
  have e1 := k.2 a _ n e
  have ne : a ≠ y := fun z => by rw [z, h] at e1; cases e1
  exact k1.2 a _ ne (by rw [put_ne ne]; exact e1)⟩
section
variable {pT : String → Addr} {r : Rs} {P : D → Rs → Prop} {Z : ZC}
theorem w_turns {x : Addr} (hm : r.μ x = some (.ins (pT "Turns") [])) (p : ∀ r', Kx x r r' → P .non r') : S_Turns___init__ pT [.d (.ob x), .d (.int 1), .d (.tup [.int 0, .int 1]), .d (.bl true)] r P Z := by
  unfold S_Turns___init__ B_Turns___init__ runW
  refine And.intro rfl ?_
  refine q_fld rfl (fun Q h => h) hm (by decide) ?_
  refine q_fld rfl (fun Q h => h) put_same (by decide) ?_
  refine q_fldM rfl (e_choices ?_)
  refine ⟨_, _, rfl, put_same, by decide, ?_⟩
  refine q_fldL rfl ?_
  intro y hy
  have n1 : x ≠ y := fun z => by
    rw [← z] at hy
    erw [put_same] at hy
    cases hy
  refine ⟨_, _, rfl, (put_ne n1).trans put_same, by decide, ?_⟩
  refine fgt_all (p _ ?_)
  exact kx_tr (kx_new (kx_tr (kx_tr kx_put kx_put) kx_put) hy) kx_put
theorem w_stands {x : Addr} (hm : r.μ x = some (.ins (pT "Stands") [])) (p : ∀ r', Kx x r r' → P .non r') : S_Stands___init__ pT [.d (.ob x), .d homeX] r P Z := by
  unfold S_Stands___init__ B_Stands___init__ runW
  refine And.intro rfl ?_
  refine q_fld rfl (fun Q h => h) hm (by decide) ?_
  refine q_fldM rfl ?_
  refine Exists.intro _ (And.intro rfl ?_)
  refine e_common ?_
  refine ⟨_, _, rfl, put_same, by decide, ?_⟩
  refine q_fldM rfl ?_
  refine Exists.intro _ (And.intro rfl ?_)
  refine e_choices ?_
  refine ⟨_, _, rfl, put_same, by decide, ?_⟩
  refine q_fldM rfl ?_
  intro y hy
  have n1 : x ≠ y := fun z => by
    rw [← z] at hy
    erw [put_same] at hy
    cases hy
  refine ⟨_, _, rfl, (put_ne n1).trans put_same, by decide, ?_⟩
  refine q_fldL rfl ?_
  refine ⟨_, _, rfl, put_same, (show 4 < 1000 by decide), ?_⟩
  refine fgt_all (p _ ?_)
  exact kx_tr (kx_tr (kx_new (kx_tr (kx_tr kx_put kx_put) kx_put) hy) kx_put) kx_put
theorem opne : opNeD (.tup [.int 0, .int 1]) cANY = some (.bl true) := by
  unfold opNeD cANY
  rw [if_pos ⟨by decide +kernel, by decide +kernel, by decide +kernel, by decide +kernel⟩, show PyData.eqv (D.tup [.int 0, .int 1]).py (D.tup [.non, .int 1]).py = false by decide +kernel]
  rfl
theorem w_steps {x : Addr} (hm : r.μ x = some (.ins (pT "Steps") [])) (p : ∀ r', Kx x r r' → P .non r') : S_Steps___init__ pT [.d (.ob x), .d homeX, .d (.tup [.int 0, .int 1]), .d (.bl false)] r P Z := by
  unfold S_Steps___init__ B_Steps___init__ runW
  refine And.intro rfl ?_
  refine q_fld rfl (fun Q h => h) hm (by decide) ?_
  refine q_fld rfl (fun Q h => h) put_same (by decide) ?_
  refine q_fld rfl (fun Q h => h) put_same (by decide) ?_
  refine q_fldM rfl ?_
  refine Exists.intro _ (And.intro rfl ?_)
  refine e_common ?_
  refine ⟨_, _, rfl, put_same, by decide, ?_⟩
  refine q_fldM rfl ?_
  refine Exists.intro _ (And.intro rfl ?_)
  refine Exists.intro _ (And.intro rfl ?_)
  refine Exists.intro _ (And.intro opne ?_)
  intro y hy
  have n1 : x ≠ y := fun z => by
    rw [← z] at hy
    erw [put_same] at hy
    cases hy
  refine w_turns put_same fun r1 k1 => ?_
  refine ⟨rfl, ?_⟩
  refine ⟨_, _, rfl, k1.2 _ _ n1 ((put_ne n1).trans put_same), by decide, ?_⟩
  refine q_fldL rfl ?_
  intro y2 hy2
  have n2 : x ≠ y2 := fun z => by
    rw [← z] at hy2
    erw [put_same] at hy2
    cases hy2
  refine w_stands put_same fun r2 k2 => ?_
  refine ⟨rfl, ?_⟩
  refine ⟨_, _, rfl, k2.2 _ _ n2 ((put_ne n2).trans put_same), (show 5 < 1000 by decide), ?_⟩
  refine fgt_all (p _ ?_)
  exact kx_tr (kx_obj (kx_tr (kx_obj (kx_tr (kx_tr (kx_tr kx_put kx_put) kx_put) kx_put) hy k1) kx_put) hy2 k2) kx_put
theorem w_checkN (p : ∀ r', r'.n = r.n → (∀ a o, r.μ a = some o → r'.μ a = some o) → Z (pT "BadPaper") [("word", .str "form")] r') : S_check_outlive pT [.d homeX, .d (.tup [.str "a"]), .d (.tup [.int 0, .int 1]), .d (.int 0), .d .non] r P Z := by
  unfold S_check_outlive B_check_outlive runW
  refine And.intro rfl ?_
  refine q_dropcall (ss := [.d homeX, .d (.tup [.str "a"]), .d (.tup [.int 0, .int 1]), .d (.int 0)]) (fun Q h => h) ?_
  refine w_question ?_
  refine q_make (ss := [.d homeX, .d (.tup [.int 0, .int 1]), .d (.bl false)]) (fun Q h => h) fun x hx => ?_
  refine w_steps put_same fun r1 k1 => ?_
  refine ⟨rfl, _, rfl, ?_⟩
  have keep : ∀ a o, r.μ a = some o → r1.μ a = some o := fun a o e => by
    have ne : a ≠ x := fun z => by rw [z, hx] at e; cases e
    exact k1.2 a o ne (by rw [put_ne ne]; exact e)
  have hn : r1.n = r.n := k1.1
  clear k1 hx
  walk_at "cc"
  simp only [at_n, at_at, n_at]
  exact p _ hn keep
end
end

section

def seenD (i : Fin 7) : D := .lst (.str "seat" :: mkD i)
section
variable {K : PySem.W.Frag} {pT : String → Addr} {r : Rs} {P : D → Rs → Prop} {Z : ZC} {SF : SPN} {fd : D} {C : Addr}
theorem w_raised (i : Fin 7) (S : Seven K pT C fun j => decide (j = i)) (e : PySem.W.exmOne K (.ref C) (.ref (pT "SeatError")) = some true)
    (h : ∀ (A : D → Rs → Prop) (B : ZC), (∀ fs r1, P (seenD i) r1 → B C fs r1) → SF [] r A B) : S__law_raised K pT fd SF [.d fd] r P Z := by
  unfold S__law_raised B__law_raised runW
  refine ⟨rfl, ?_⟩
  refine Exists.intro _ (And.intro rfl ?_)
  refine Exists.intro _ (And.intro rfl ?_)
  refine And.intro rfl (h _ _ fun fs r1 p => ?_)
  refine Or.inl (And.intro e ?_)
  refine Exists.intro _ (And.intro rfl ?_)
  refine w_marks (Or.inl ⟨fs, rfl⟩) S ?_
  refine Exists.intro _ (And.intro rfl ?_)
  refine Exists.intro _ (And.intro rfl ?_)
  refine fgt_all ?_
  exact p
theorem lam_raised (i : Fin 7) (S : Seven K pT C fun j => decide (j = i)) (e : PySem.W.exmOne K (.ref C) (.ref (pT "SeatError")) = some true) {A0 : Addr} {Q0 : Str} {cs : List Nat} {ds : List D} {eb : EW} {δ : SD} (hT : r.μ A0 = some (.tb Q0)) (hc : capD δ cs = some ds)
    (h : ∀ (A : D → Rs → Prop) (B : ZC), (∀ fs r1, P (seenD i) r1 → B C fs r1) → eb B ((ds.map Sl.d).map some) r A) : eLam0W A0 Q0 cs 0 (S__law_raised K pT) eb Z δ r P :=
  ⟨hT, ds, hc, fun fd => w_raised i S e fun A B hB => ⟨rfl, by
    have := h A B hB
    rw [List.append_nil]
    exact this⟩⟩
theorem q_frz {n : Nat} {s : SW} {E : EndsW} {δ : SD} {xs : List D} (h : δ[n]? = some (some (.own xs))) (k : s E (δ.set n (some (.d (.lst xs)))) r) : sFrzW n s E δ r := by
  unfold sFrzW
  rw [h]
  exact k
theorem q_var {n : Nat} {d : D} {δ : SD} (h : δ[n]? = some (some (.d d))) (k : P d r) : lE (eVar n) Z δ r P := by
  unfold lE eVar
  rw [h]
  exact k
def dueL : List D := [seenD 0, seenD 1, seenD 2, seenD 3, seenD 4, seenD 5]
theorem q_due {n : Nat} {Q : D → Nat → Prop} {x0 x1 : Option Sl} (p : Q (.lst dueL) n) : eLc (iR1 (aCons (eC (.int 6)) aNil)) (gvName 2) vYes (eOp opCatL (eLst (aCons (eC (.str "seat")) aNil)) (eLc (iR1 (aCons (eC (.int 7)) aNil)) (gvName 3) vYes (eOp opEq (eVar 3) (eVar 2)) [3])) [2] [x0, x1, none, none] n Q := by
  walk_at "cc"
  exact p
theorem due_eq : opEqD (.lst dueL) (.lst dueL) = some (.bl true) := by
  unfold opEqD
  rw [if_pos ⟨by decide +kernel, by decide +kernel, by decide +kernel, by decide +kernel⟩, show PyData.eqv (D.lst dueL).py (D.lst dueL).py = true by decide +kernel]
theorem q_end {E : EndsW} {x0 : Option Sl} (k : E.rt (.bl true) r) : sRetW (lE (eOp opEqD (eVar 1) (eLc (iR1 (aCons (eC (.int 6)) aNil)) (gvName 2) vYes (eOp opCatL (eLst (aCons (eC (.str "seat")) aNil)) (eLc (iR1 (aCons (eC (.int 7)) aNil)) (gvName 3) vYes (eOp opEq (eVar 3) (eVar 2)) [3])) [2]))) E [x0, some (.d (.lst dueL)), none, none] r := by
  have q := q_due (n := r.n) (x0 := x0) (x1 := some (.d (.lst dueL))) (Q := fun e n' => ∃ z, opEqD (.lst dueL) e = some z ∧ E.rt z (r.at n')) ⟨_, due_eq, k⟩
  exact q
theorem w_allraised (X : XF K pT) (hT : r.μ (pT "#_law_raised_right") = some (.tb (lamQ "_law_raised_right" (defScope s__law_raised_right)))) (p : ∀ r', r'.n = r.n → (∀ a o, r.μ a = some o → r'.μ a = some o) → P (.bl true) r') : S__law_raised_right K pT [] r P Z := by
  have S := rows7 X (.non)
  unfold S__law_raised_right B__law_raised_right runW
  refine And.intro rfl ?_
  iterate 6 refine Exists.intro _ (And.intro rfl ?_)
  dsimp only [sSeqW, sNewAW, aConsW]
  obtain ⟨C0, f0, e0, n0, S0, A0⟩ := S 0
  obtain ⟨C1, f1, e1, n1, S1, A1⟩ := S 1
  obtain ⟨C2, f2, e2, n2, S2, A2⟩ := S 2
  obtain ⟨C3, f3, e3, n3, S3, A3⟩ := S 3
  obtain ⟨C4, f4, e4, n4, S4, A4⟩ := S 4
  obtain ⟨C5, f5, e5, n5, S5, A5⟩ := S 5
  cases e0; cases e1; cases e2; cases e3; cases e4; cases e5
  refine lam_raised 0 S0 X.e_BadHouse_SeatError hT rfl (fun A B hB => w_houseN (hB _ _ ?_))
  refine lam_raised 1 S1 X.e_BadStand_SeatError hT rfl (fun A B hB => w_standN (hB _ _ ?_))
  refine Exists.intro _ (And.intro rfl (And.intro (by simp) ?_))
  refine q_frz rfl ?_
  refine q_var rfl ?_
  dsimp only [eLstW, eCBW, aConsW]
  refine lam_raised 2 S2 X.e_BadChoices_SeatError hT rfl (fun A B hB => ?_)
  refine Exists.intro _ (And.intro rfl ?_)
  refine w_runN (hB _ _ ?_)
  clear hB
  refine lam_raised 3 S3 X.e_BadBand_SeatError hT rfl (fun A B hB => w_bandN (hB _ _ ?_))
  clear hB
  refine Exists.intro _ (And.intro rfl ?_)
  refine Exists.intro _ (And.intro rfl ?_)
  dsimp only [sAppW]
  refine Exists.intro _ (And.intro rfl ?_)
  refine lam_raised 4 S4 X.e_BadNumber_SeatError hT rfl (fun A B hB => w_dueN (hB _ _ ?_))
  clear hB
  refine And.intro (by simp) ?_
  refine Exists.intro _ (And.intro rfl ?_)
  refine lam_raised 5 S5 X.e_BadPaper_SeatError hT rfl (fun A B hB => ?_)
  refine Exists.intro _ (And.intro rfl ?_)
  refine Exists.intro _ (And.intro rfl ?_)
  refine w_checkN fun r' hn hk => hB _ _ ?_
  clear hB
  refine And.intro (by simp) ?_
  refine q_frz rfl ?_
  refine q_end ?_
  refine fgt_all ?_
  exact p _ hn hk
end
end

section

theorem odds_rd : ∀ d ∈ oddsD ++ [.tup [.int 1, .tup [.int 2, .non]]], (D.lst [d, d, d, d, d, d, d]).rd := by
  intro d hd
  simp only [oddsD, List.cons_append, List.nil_append, List.mem_cons, List.not_mem_nil, or_false] at hd
  rcases hd with rfl | rfl | rfl | rfl | rfl | rfl | rfl | rfl | rfl | rfl | rfl | rfl | rfl | rfl | rfl | rfl | rfl | rfl | rfl | rfl | rfl | rfl | rfl | rfl | rfl
  all_goals exact ⟨by decide +kernel, by decide +kernel, by decide +kernel, by decide +kernel⟩
theorem q_draw {n : Int} {r : Nat} {P : D → Nat → Prop} (n0 : 0 < n) (n1 : n < 1073741824) (hr : 0 < r) (p : ∀ v : Int, 0 ≤ v → v < n → P (.int v) (r - 1)) : S__law_draw [.memo, .d (.int n)] r P := ⟨n, rfl, ⟨n0, n1⟩, hr, p⟩
theorem atD_mem0 {xs : List D} {v : Int} (v0 : 0 ≤ v) (v1 : v < (xs.length : Int)) : ∃ d ∈ xs, atD xs v = some d := by
  obtain ⟨k, rfl⟩ : ∃ k : Nat, v = (k : Int) := ⟨v.toNat, by omega⟩
  have hk : k < xs.length := by omega
  exact ⟨xs[k], List.getElem_mem hk, by rw [atD_nat]; exact List.getElem?_eq_getElem hk⟩
theorem q_of {n : Nat} {Q : D → Nat → Prop} (hr : 0 < n) (p : ∀ d ∈ oddsD, Q d (n - 1)) : S__law_of [.memo, .d (.lst oddsD)] n Q := by
  unfold S__law_of B__law_of
  walk_at "sx"
  refine q_draw (by decide) (by decide) hr fun v v0 v1 => ?_
  obtain ⟨d, hd, e⟩ := atD_mem0 v0 v1
  exact ⟨d, e, p d hd⟩
theorem ne_bare : opNeD (.lst [.bl false, .bl false, .bl false, .bl false, .bl false, .bl false, .bl false]) (.lst [.bl false, .bl false, .bl false, .bl false, .bl false, .bl false, .bl false]) = some (.bl false) := by
  unfold opNeD
  rw [if_pos ⟨by decide +kernel, by decide +kernel, by decide +kernel, by decide +kernel⟩, show PyData.eqv (D.lst [.bl false, .bl false, .bl false, .bl false, .bl false, .bl false, .bl false]).py (D.lst [.bl false, .bl false, .bl false, .bl false, .bl false, .bl false, .bl false]).py = true by decide +kernel]
  rfl
theorem ne_bare2 : opNeD (.lst [.bl true, .bl true, .bl false, .bl false, .bl false, .bl false]) (.lst [.bl true, .bl true, .bl false, .bl false, .bl false, .bl false]) = some (.bl false) := by
  unfold opNeD
  rw [if_pos ⟨by decide +kernel, by decide +kernel, by decide +kernel, by decide +kernel⟩, show PyData.eqv (D.lst [.bl true, .bl true, .bl false, .bl false, .bl false, .bl false]).py (D.lst [.bl true, .bl true, .bl false, .bl false, .bl false, .bl false]).py = true by decide +kernel]
  rfl
theorem law_body {K : PySem.W.Frag} {pT : String → Addr} (X : XF K pT) (tD : ∀ e ∈ tabs pT, (tabs pT).lookup e.1 = some e.2) (ns : List Int) (hz : ns.length ≤ 63) : B_law K pT { nx := fun _ _ => False, rt := fun d _ => d = .bl true } ((([some (.scr ns)] ++ List.replicate (4 - 1) none) : SD).set 1 (some .memo)) ⟨536870912, μT (tabs pT)⟩ := by
  have tb0 : (⟨536870912, μT (tabs pT)⟩ : Rs).μ (pT "#_law_raised_right") = some (.tb (lamQ "_law_raised_right" (defScope s__law_raised_right))) := μT_at (tD (pT "#_law_raised_right", _) List.mem_cons_self)
  have nr0 : (⟨536870912, μT (tabs pT)⟩ : Rs).n = 536870912 := rfl
  generalize (⟨536870912, μT (tabs pT)⟩ : Rs) = r0 at tb0 nr0
  unfold B_law
  walk_at "sw"
  have el : 2 + (if (ns.length : Int) < 5 then (ns.length : Int) else 5) ≤ 7 ∧ 0 ≤ 2 + (if (ns.length : Int) < 5 then (ns.length : Int) else 5) := by split <;> omega
  generalize 2 + (if (ns.length : Int) < 5 then (ns.length : Int) else 5) = T at el
  refine ⟨by omega, forw_inv (fun i δ r' => 536870912 - 10 * i ≤ r'.n ∧ r'.μ (pT "#_law_raised_right") = some (.tb (lamQ "_law_raised_right" (defScope s__law_raised_right))) ∧ ∃ o2 : Option Sl, δ = [some (.scr ns), some .memo, o2, none]) ⟨by omega, tb0, _, rfl⟩ ?_ ?_⟩
  · rintro i a δ r1 hi ⟨hr1, tb, o2, rfl⟩ N hN
    have il : i < 7 := by
      have := (List.getElem?_eq_some_iff.mp hi).1
      rw [List.length_range] at this
      omega
    refine Exists.intro _ (And.intro rfl ?_)
    refine And.intro rfl ?_
    refine q_of (by omega) fun d hd => ?_
    refine w_made X (odds_rd d (List.mem_append_left _ hd)) ?_
    refine Exists.intro _ (And.intro rfl ?_)
    refine hN _ _ ⟨?_, tb, _, rfl⟩
    show 536870912 - 10 * (i + 1) ≤ r1.n - 1
    omega
  · rintro δ r1 ⟨hr1, tb, o2, rfl⟩
    intro a ha
    have tb2 : (r1.put a (.bx (pT "SeatError"))).μ (pT "#_law_raised_right") = some (.tb (lamQ "_law_raised_right" (defScope s__law_raised_right))) := by
      rw [put_ne (fun z => by rw [z] at tb; rw [show r1.μ a = none from ha] at tb; cases tb)]
      exact tb
    have at2 : (r1.put a (.bx (pT "SeatError"))).μ a = some (.bx (pT "SeatError")) := put_same
    refine Exists.intro _ (And.intro rfl ?_)
    refine w_marks (b := fun _ => false) (Or.inr ⟨a, rfl, at2⟩) (bare7 X).1 ?_
    iterate 2 refine Exists.intro _ (And.intro rfl ?_)
    refine Exists.intro _ (And.intro ne_bare ?_)
    refine Exists.intro _ (And.intro rfl ?_)
    refine w_above (Or.inr ⟨a, rfl, at2⟩) (bare7 X).2 ?_
    refine Exists.intro _ (And.intro rfl ?_)
    refine Exists.intro _ (And.intro ne_bare2 ?_)
    refine Exists.intro _ (And.intro rfl ?_)
    iterate 2 refine Exists.intro _ (And.intro rfl ?_)
    refine w_made X (odds_rd _ (List.mem_append_right _ List.mem_cons_self)) ?_
    refine Exists.intro _ (And.intro rfl ?_)
    refine w_allraised X tb2 fun r' _ _ => ?_
    rfl
end

end TSx
namespace TSx
open PySem L2
open LamX
/-! ### the end: what the top has written -/
theorem kit_ref {K : PySem.W.Frag} {C E : Addr} {b : Bool} (ic : PySem.W.isClsIn K E = true) (ty : PySem.W.typeIn K (.ref E) = some (.type "type")) (s : PySem.W.subIn K (.ref C) (.ref E) = some b) (self : PySem.W.subIn K (.ref C) (.ref C) = some true) : PySem.W.kitOne K (.ref C) (.ref E) = some b := by
  have e2 : ((PySem.W.clsIn K E).isSome && PySem.W.typeIn K (.ref E) == some (.type "type")) = true := by
    have ic' : (PySem.W.clsIn K E).isSome = true := ic
    rw [ic', ty] <;> rfl
  show (if (Value.ref C == Value.ref E) = true then some true else (if ((PySem.W.clsIn K E).isSome && PySem.W.typeIn K (.ref E) == some (.type "type")) = true then PySem.W.subIn K (.ref C) (.ref E) else none)) = some b
  by_cases h : (Value.ref C == Value.ref E) = true
  · rw [if_pos h]
    have e : C = E := Value.ref.inj (beq_iff_eq.mp h)
    rw [← e, self] at s
    exact s
  · rw [if_neg h, if_pos e2]
    exact s
theorem kit_type {K : PySem.W.Frag} {C : Addr} {T : String} {b : Bool} (m : PySem.W.kitMeta T = true) (s : PySem.W.subIn K (.ref C) (.type T) = some b) : PySem.W.kitOne K (.ref C) (.type T) = some b := by
  show (if (Value.ref C == Value.type T) = true then some true else (if PySem.W.kitMeta T = true then PySem.W.subIn K (.ref C) (.type T) else none)) = some b
  have h : ¬ (Value.ref C == Value.type T) = true := by
    intro z
    cases beq_iff_eq.mp z
  rw [if_neg h, if_pos m]
  exact s
abbrev sIniBadBand : Stmt := inClass (top 7) 0
theorem scIniBadBand : FnScope ["self", "part"] ["self", "part"] (defScope sIniBadBand) := ⟨rfl, rfl, rfl, by decide +kernel, rfl, by decide +kernel, by decide +kernel⟩
theorem ok_iniBadBand {P : Program} {w : World} {K : PySem.W.Frag} {mg : Str → Option Value} {base : Heap} {C f : Addr} {fd : FuncData} (F : L2.Fun K "__init__" "BadBand.__init__" sIniBadBand f fd) (T : OexC K C) (no : PySem.W.findIn K (.ref C) "part" = some none) : FnOk P w K mg base CX0 1 f fd ["self", "part"] (spIni C "part") := by
  refine F.ok scIniBadBand (fun vs H Q E h => by obtain ⟨a, x, rfl, _⟩ := h; rfl) (fun cdv A outer s H vs Q E hr h => ?_)
  exact ⟨_, pss_one (ps_ost (pv 0) (pv 1)), ini_reading T no h⟩
abbrev sIniBadChoices : Stmt := inClass (top 6) 0
theorem scIniBadChoices : FnScope ["self", "place"] ["self", "place"] (defScope sIniBadChoices) := ⟨rfl, rfl, rfl, by decide +kernel, rfl, by decide +kernel, by decide +kernel⟩
theorem ok_iniBadChoices {P : Program} {w : World} {K : PySem.W.Frag} {mg : Str → Option Value} {base : Heap} {C f : Addr} {fd : FuncData} (F : L2.Fun K "__init__" "BadChoices.__init__" sIniBadChoices f fd) (T : OexC K C) (no : PySem.W.findIn K (.ref C) "place" = some none) : FnOk P w K mg base CX0 1 f fd ["self", "place"] (spIni C "place") := by
  refine F.ok scIniBadChoices (fun vs H Q E h => by obtain ⟨a, x, rfl, _⟩ := h; rfl) (fun cdv A outer s H vs Q E hr h => ?_)
  exact ⟨_, pss_one (ps_ost (pv 0) (pv 1)), ini_reading T no h⟩
abbrev sIniBadHouse : Stmt := inClass (top 4) 0
theorem scIniBadHouse : FnScope ["self", "place"] ["self", "place"] (defScope sIniBadHouse) := ⟨rfl, rfl, rfl, by decide +kernel, rfl, by decide +kernel, by decide +kernel⟩
theorem ok_iniBadHouse {P : Program} {w : World} {K : PySem.W.Frag} {mg : Str → Option Value} {base : Heap} {C f : Addr} {fd : FuncData} (F : L2.Fun K "__init__" "BadHouse.__init__" sIniBadHouse f fd) (T : OexC K C) (no : PySem.W.findIn K (.ref C) "place" = some none) : FnOk P w K mg base CX0 1 f fd ["self", "place"] (spIni C "place") := by
  refine F.ok scIniBadHouse (fun vs H Q E h => by obtain ⟨a, x, rfl, _⟩ := h; rfl) (fun cdv A outer s H vs Q E hr h => ?_)
  exact ⟨_, pss_one (ps_ost (pv 0) (pv 1)), ini_reading T no h⟩
abbrev sIniBadNumber : Stmt := inClass (top 8) 0
theorem scIniBadNumber : FnScope ["self", "value"] ["self", "value"] (defScope sIniBadNumber) := ⟨rfl, rfl, rfl, by decide +kernel, rfl, by decide +kernel, by decide +kernel⟩
theorem ok_iniBadNumber {P : Program} {w : World} {K : PySem.W.Frag} {mg : Str → Option Value} {base : Heap} {C f : Addr} {fd : FuncData} (F : L2.Fun K "__init__" "BadNumber.__init__" sIniBadNumber f fd) (T : OexC K C) (no : PySem.W.findIn K (.ref C) "value" = some none) : FnOk P w K mg base CX0 1 f fd ["self", "value"] (spIni C "value") := by
  refine F.ok scIniBadNumber (fun vs H Q E h => by obtain ⟨a, x, rfl, _⟩ := h; rfl) (fun cdv A outer s H vs Q E hr h => ?_)
  exact ⟨_, pss_one (ps_ost (pv 0) (pv 1)), ini_reading T no h⟩
abbrev sIniBadPaper : Stmt := inClass (top 9) 0
theorem scIniBadPaper : FnScope ["self", "word"] ["self", "word"] (defScope sIniBadPaper) := ⟨rfl, rfl, rfl, by decide +kernel, rfl, by decide +kernel, by decide +kernel⟩
theorem ok_iniBadPaper {P : Program} {w : World} {K : PySem.W.Frag} {mg : Str → Option Value} {base : Heap} {C f : Addr} {fd : FuncData} (F : L2.Fun K "__init__" "BadPaper.__init__" sIniBadPaper f fd) (T : OexC K C) (no : PySem.W.findIn K (.ref C) "word" = some none) : FnOk P w K mg base CX0 1 f fd ["self", "word"] (spIni C "word") := by
  refine F.ok scIniBadPaper (fun vs H Q E h => by obtain ⟨a, x, rfl, _⟩ := h; rfl) (fun cdv A outer s H vs Q E hr h => ?_)
  exact ⟨_, pss_one (ps_ost (pv 0) (pv 1)), ini_reading T no h⟩
abbrev sIniBadStand : Stmt := inClass (top 5) 0
theorem scIniBadStand : FnScope ["self", "value"] ["self", "value"] (defScope sIniBadStand) := ⟨rfl, rfl, rfl, by decide +kernel, rfl, by decide +kernel, by decide +kernel⟩
theorem ok_iniBadStand {P : Program} {w : World} {K : PySem.W.Frag} {mg : Str → Option Value} {base : Heap} {C f : Addr} {fd : FuncData} (F : L2.Fun K "__init__" "BadStand.__init__" sIniBadStand f fd) (T : OexC K C) (no : PySem.W.findIn K (.ref C) "value" = some none) : FnOk P w K mg base CX0 1 f fd ["self", "value"] (spIni C "value") := by
  refine F.ok scIniBadStand (fun vs H Q E h => by obtain ⟨a, x, rfl, _⟩ := h; rfl) (fun cdv A outer s H vs Q E hr h => ?_)
  exact ⟨_, pss_one (ps_ost (pv 0) (pv 1)), ini_reading T no h⟩
abbrev sIniTooGreat : Stmt := inClass (top 10) 0
theorem scIniTooGreat : FnScope ["self", "most"] ["self", "most"] (defScope sIniTooGreat) := ⟨rfl, rfl, rfl, by decide +kernel, rfl, by decide +kernel, by decide +kernel⟩
theorem ok_iniTooGreat {P : Program} {w : World} {K : PySem.W.Frag} {mg : Str → Option Value} {base : Heap} {C f : Addr} {fd : FuncData} (F : L2.Fun K "__init__" "TooGreat.__init__" sIniTooGreat f fd) (T : OofC K C) (no : PySem.W.findIn K (.ref C) "most" = some none) : FnOk P w K mg base CX0 1 f fd ["self", "most"] (spIni C "most") := by
  refine F.ok scIniTooGreat (fun vs H Q E h => by obtain ⟨a, x, rfl, _⟩ := h; rfl) (fun cdv A outer s H vs Q E hr h => ?_)
  exact ⟨_, pss_one (ps_ofS (pv 0) (pv 1)), ofi_reading T no h⟩
theorem all_mk {l : PySem.W.OpenLaw} {w : World} {K : PySem.W.Frag} {h : Heap} {mg : Str → Option Value} {fa cc__law_raised_right c_BadBand c_BadChoices c_BadHouse c_BadNumber c_BadPaper c_BadStand c_SeatError c_TooGreat i_BadBand i_BadChoices i_BadHouse i_BadNumber i_BadPaper i_BadStand i_TooGreat p_ANY p_TIES p_Stands p_Steps p_Turns f__law_mixed f__law_folded f__law_draw f__law_begun f__law_odds f__law_like f__law_of f_is_whole f_is_tuple f_is_word f_is_way f_is_seat f_is_sides f_is_stand f_common_term f_all_choices f_first_state f__law_marks f__law_above f__law_made_right f__law_raised f__need_seats f_need_house f_need_stand f_need_number f_due_seats f_need_band f_need_body f_need_question f_Turns___init__ f_Stands___init__ f_Steps___init__ f_check_outlive f_need_rows f_run f__law_raised_right f_law : Addr} {ts : List Addr} (X : K.In h) (G : h.Ns mainGlobals mg) (hfa : mg "law" = some (.ref fa))
    {t1_ANY : Tok} {n_ANY : Nat} {od_ANY : Option Addr} {sl_ANY : Array (Option Value)}
    {t_LAST_YEAR : Tok}
    {t_MOST_BODIES : Tok}
    {t_MOST_GAP : Tok}
    {t_MOST_ROUND : Tok}
    {t_MOST_ROWS : Tok}
    {t_MOST_SEATS : Tok}
    {t_MOST_TERM : Tok}
    {t_MOST_WARDS : Tok}
    {t0_TIES t1_TIES t2_TIES : Tok} {n_TIES : Nat} {od_TIES : Option Addr} {sl_TIES : Array (Option Value)}
    {nmBadBand qBadBand : Str} {NBadBand : Addr} {bsBadBand : List Value} {snBadBand : List Str} {subBadBand : List Value} {abBadBand : Bool} {colBadBand : Option Bool} {ddBadBand : Option Addr} {m0BadBand m1BadBand m2BadBand m3BadBand m5BadBand : Option Value}
    {odIBadBand anIBadBand : Option Addr} {slIBadBand : Array (Option Value)} {ocIBadBand kVIBadBand dcIBadBand pmIBadBand cdIBadBand ctIBadBand : Value}
    {nmBadChoices qBadChoices : Str} {NBadChoices : Addr} {bsBadChoices : List Value} {snBadChoices : List Str} {subBadChoices : List Value} {abBadChoices : Bool} {colBadChoices : Option Bool} {ddBadChoices : Option Addr} {m0BadChoices m1BadChoices m2BadChoices m3BadChoices m5BadChoices : Option Value}
    {odIBadChoices anIBadChoices : Option Addr} {slIBadChoices : Array (Option Value)} {ocIBadChoices kVIBadChoices dcIBadChoices pmIBadChoices cdIBadChoices ctIBadChoices : Value}
    {nmBadHouse qBadHouse : Str} {NBadHouse : Addr} {bsBadHouse : List Value} {snBadHouse : List Str} {subBadHouse : List Value} {abBadHouse : Bool} {colBadHouse : Option Bool} {ddBadHouse : Option Addr} {m0BadHouse m1BadHouse m2BadHouse m3BadHouse m5BadHouse : Option Value}
    {odIBadHouse anIBadHouse : Option Addr} {slIBadHouse : Array (Option Value)} {ocIBadHouse kVIBadHouse dcIBadHouse pmIBadHouse cdIBadHouse ctIBadHouse : Value}
    {nmBadNumber qBadNumber : Str} {NBadNumber : Addr} {bsBadNumber : List Value} {snBadNumber : List Str} {subBadNumber : List Value} {abBadNumber : Bool} {colBadNumber : Option Bool} {ddBadNumber : Option Addr} {m0BadNumber m1BadNumber m2BadNumber m3BadNumber m5BadNumber : Option Value}
    {odIBadNumber anIBadNumber : Option Addr} {slIBadNumber : Array (Option Value)} {ocIBadNumber kVIBadNumber dcIBadNumber pmIBadNumber cdIBadNumber ctIBadNumber : Value}
    {nmBadPaper qBadPaper : Str} {NBadPaper : Addr} {bsBadPaper : List Value} {snBadPaper : List Str} {subBadPaper : List Value} {abBadPaper : Bool} {colBadPaper : Option Bool} {ddBadPaper : Option Addr} {m0BadPaper m1BadPaper m2BadPaper m3BadPaper m5BadPaper : Option Value}
    {odIBadPaper anIBadPaper : Option Addr} {slIBadPaper : Array (Option Value)} {ocIBadPaper kVIBadPaper dcIBadPaper pmIBadPaper cdIBadPaper ctIBadPaper : Value}
    {nmBadStand qBadStand : Str} {NBadStand : Addr} {bsBadStand : List Value} {snBadStand : List Str} {subBadStand : List Value} {abBadStand : Bool} {colBadStand : Option Bool} {ddBadStand : Option Addr} {m0BadStand m1BadStand m2BadStand m3BadStand m5BadStand : Option Value}
    {odIBadStand anIBadStand : Option Addr} {slIBadStand : Array (Option Value)} {ocIBadStand kVIBadStand dcIBadStand pmIBadStand cdIBadStand ctIBadStand : Value}
    {nmTooGreat qTooGreat : Str} {NTooGreat : Addr} {bsTooGreat : List Value} {snTooGreat : List Str} {subTooGreat : List Value} {abTooGreat : Bool} {colTooGreat : Option Bool} {ddTooGreat : Option Addr} {m0TooGreat m1TooGreat m2TooGreat m3TooGreat m5TooGreat : Option Value}
    {odITooGreat anITooGreat : Option Addr} {slITooGreat : Array (Option Value)} {ocITooGreat kVITooGreat dcITooGreat pmITooGreat cdITooGreat ctITooGreat : Value}
    {nmSeatError qSeatError : Str} {NSeatError : Addr} {bsSeatError : List Value} {snSeatError : List Str} {subSeatError : List Value} {abSeatError : Bool} {colSeatError : Option Bool} {ddSeatError : Option Addr} {m0SeatError m1SeatError m2SeatError m3SeatError m5SeatError : Option Value}
    {od__law_mixed an__law_mixed : Option Addr} {sl__law_mixed : Array (Option Value)} {oc__law_mixed kV__law_mixed dc__law_mixed pm__law_mixed ct__law_mixed : Value} {cd__law_mixed : Value}
    {od__law_folded an__law_folded : Option Addr} {sl__law_folded : Array (Option Value)} {oc__law_folded kV__law_folded dc__law_folded pm__law_folded ct__law_folded : Value} {cd__law_folded : Value}
    {od__law_draw an__law_draw : Option Addr} {sl__law_draw : Array (Option Value)} {oc__law_draw kV__law_draw dc__law_draw pm__law_draw ct__law_draw : Value} {cd__law_draw : Value}
    {od__law_begun an__law_begun : Option Addr} {sl__law_begun : Array (Option Value)} {oc__law_begun kV__law_begun dc__law_begun pm__law_begun ct__law_begun : Value} {cd__law_begun : Value}
    {od__law_odds an__law_odds : Option Addr} {sl__law_odds : Array (Option Value)} {oc__law_odds kV__law_odds dc__law_odds pm__law_odds ct__law_odds : Value} {cd__law_odds : Value}
    {od__law_like an__law_like : Option Addr} {sl__law_like : Array (Option Value)} {oc__law_like kV__law_like dc__law_like pm__law_like ct__law_like : Value} {cd__law_like : Value}
    {od__law_of an__law_of : Option Addr} {sl__law_of : Array (Option Value)} {oc__law_of kV__law_of dc__law_of pm__law_of ct__law_of : Value} {cd__law_of : Value}
    {od_is_whole an_is_whole : Option Addr} {sl_is_whole : Array (Option Value)} {oc_is_whole kV_is_whole dc_is_whole pm_is_whole ct_is_whole : Value} {cd_is_whole : Value}
    {od_is_tuple an_is_tuple : Option Addr} {sl_is_tuple : Array (Option Value)} {oc_is_tuple kV_is_tuple dc_is_tuple pm_is_tuple ct_is_tuple : Value} {cd_is_tuple : Value}
    {od_is_word an_is_word : Option Addr} {sl_is_word : Array (Option Value)} {oc_is_word kV_is_word dc_is_word pm_is_word ct_is_word : Value} {cd_is_word : Value}
    {od_is_way an_is_way : Option Addr} {sl_is_way : Array (Option Value)} {oc_is_way kV_is_way dc_is_way pm_is_way ct_is_way : Value} {cd_is_way : Value}
    {od_is_seat an_is_seat : Option Addr} {sl_is_seat : Array (Option Value)} {oc_is_seat kV_is_seat dc_is_seat pm_is_seat ct_is_seat : Value} {cd_is_seat : Value}
    {od_is_sides an_is_sides : Option Addr} {sl_is_sides : Array (Option Value)} {oc_is_sides kV_is_sides dc_is_sides pm_is_sides ct_is_sides : Value} {cd_is_sides : Value}
    {od_is_stand an_is_stand : Option Addr} {sl_is_stand : Array (Option Value)} {oc_is_stand kV_is_stand dc_is_stand pm_is_stand ct_is_stand : Value} {cd_is_stand : Value}
    {od_common_term an_common_term : Option Addr} {sl_common_term : Array (Option Value)} {oc_common_term kV_common_term dc_common_term pm_common_term ct_common_term : Value} {cd_common_term : Value}
    {od_all_choices an_all_choices : Option Addr} {sl_all_choices : Array (Option Value)} {oc_all_choices kV_all_choices dc_all_choices pm_all_choices ct_all_choices : Value} {cd_all_choices : Value}
    {od_first_state an_first_state : Option Addr} {sl_first_state : Array (Option Value)} {oc_first_state kV_first_state dc_first_state pm_first_state ct_first_state : Value} {cd_first_state : Value}
    {od__law_marks an__law_marks : Option Addr} {sl__law_marks : Array (Option Value)} {oc__law_marks kV__law_marks dc__law_marks pm__law_marks ct__law_marks : Value} {cd__law_marks : Value}
    {od__law_above an__law_above : Option Addr} {sl__law_above : Array (Option Value)} {oc__law_above kV__law_above dc__law_above pm__law_above ct__law_above : Value} {cd__law_above : Value}
    {od__law_made_right an__law_made_right : Option Addr} {sl__law_made_right : Array (Option Value)} {oc__law_made_right kV__law_made_right dc__law_made_right pm__law_made_right ct__law_made_right : Value} {cd__law_made_right : Value}
    {od__law_raised an__law_raised : Option Addr} {sl__law_raised : Array (Option Value)} {oc__law_raised kV__law_raised dc__law_raised pm__law_raised ct__law_raised : Value} {cd__law_raised : Value}
    {od__need_seats an__need_seats : Option Addr} {sl__need_seats : Array (Option Value)} {oc__need_seats kV__need_seats dc__need_seats pm__need_seats ct__need_seats : Value} {cd__need_seats : Value}
    {od_need_house an_need_house : Option Addr} {sl_need_house : Array (Option Value)} {oc_need_house kV_need_house dc_need_house pm_need_house ct_need_house : Value} {cd_need_house : Value}
    {od_need_stand an_need_stand : Option Addr} {sl_need_stand : Array (Option Value)} {oc_need_stand kV_need_stand dc_need_stand pm_need_stand ct_need_stand : Value} {cd_need_stand : Value}
    {od_need_number an_need_number : Option Addr} {sl_need_number : Array (Option Value)} {oc_need_number kV_need_number dc_need_number pm_need_number ct_need_number : Value} {cd_need_number : Value}
    {od_due_seats an_due_seats : Option Addr} {sl_due_seats : Array (Option Value)} {oc_due_seats kV_due_seats dc_due_seats pm_due_seats ct_due_seats : Value} {cd_due_seats : Value}
    {od_need_band an_need_band : Option Addr} {sl_need_band : Array (Option Value)} {oc_need_band kV_need_band dc_need_band pm_need_band ct_need_band : Value} {cd_need_band : Value}
    {od_need_body an_need_body : Option Addr} {sl_need_body : Array (Option Value)} {oc_need_body kV_need_body dc_need_body pm_need_body ct_need_body : Value} {cd_need_body : Value}
    {od_need_question an_need_question : Option Addr} {sl_need_question : Array (Option Value)} {oc_need_question kV_need_question dc_need_question pm_need_question ct_need_question : Value} {cd_need_question : Value}
    {od_Turns___init__ an_Turns___init__ : Option Addr} {sl_Turns___init__ : Array (Option Value)} {oc_Turns___init__ kV_Turns___init__ dc_Turns___init__ pm_Turns___init__ ct_Turns___init__ : Value} {cd_Turns___init__ : Value}
    {od_Stands___init__ an_Stands___init__ : Option Addr} {sl_Stands___init__ : Array (Option Value)} {oc_Stands___init__ kV_Stands___init__ dc_Stands___init__ pm_Stands___init__ ct_Stands___init__ : Value} {cd_Stands___init__ : Value}
    {od_Steps___init__ an_Steps___init__ : Option Addr} {sl_Steps___init__ : Array (Option Value)} {oc_Steps___init__ kV_Steps___init__ dc_Steps___init__ pm_Steps___init__ ct_Steps___init__ : Value} {cd_Steps___init__ : Value}
    {od_check_outlive an_check_outlive : Option Addr} {sl_check_outlive : Array (Option Value)} {oc_check_outlive kV_check_outlive dc_check_outlive pm_check_outlive ct_check_outlive : Value} {cd_check_outlive : Value}
    {od_need_rows an_need_rows : Option Addr} {sl_need_rows : Array (Option Value)} {oc_need_rows kV_need_rows dc_need_rows pm_need_rows ct_need_rows : Value} {cd_need_rows : Value}
    {od_run an_run : Option Addr} {sl_run : Array (Option Value)} {oc_run kV_run dc_run pm_run ct_run : Value} {cd_run : Value}
    {od__law_raised_right an__law_raised_right : Option Addr} {sl__law_raised_right : Array (Option Value)} {oc__law_raised_right kV__law_raised_right dc__law_raised_right pm__law_raised_right ct__law_raised_right : Value}
    {od_law an_law : Option Addr} {sl_law : Array (Option Value)} {oc_law kV_law dc_law pm_law ct_law : Value} {cd_law : Value}
    (a_ANY : PySem.W.nsIn K mainGlobals "ANY" = some (some (.ref p_ANY)))
    (x_ANY : K.lookup p_ANY = some ⟨.type "tuple", od_ANY, .seq #[.none, .int 1 t1_ANY] n_ANY, sl_ANY⟩)
    (a_LAST_YEAR : PySem.W.nsIn K mainGlobals "LAST_YEAR" = some (some (.int 1000000000000000000000000000000 t_LAST_YEAR)))
    (a_MOST_BODIES : PySem.W.nsIn K mainGlobals "MOST_BODIES" = some (some (.int 3 t_MOST_BODIES)))
    (a_MOST_GAP : PySem.W.nsIn K mainGlobals "MOST_GAP" = some (some (.int 4 t_MOST_GAP)))
    (a_MOST_ROUND : PySem.W.nsIn K mainGlobals "MOST_ROUND" = some (some (.int 12 t_MOST_ROUND)))
    (a_MOST_ROWS : PySem.W.nsIn K mainGlobals "MOST_ROWS" = some (some (.int 400 t_MOST_ROWS)))
    (a_MOST_SEATS : PySem.W.nsIn K mainGlobals "MOST_SEATS" = some (some (.int 9 t_MOST_SEATS)))
    (a_MOST_TERM : PySem.W.nsIn K mainGlobals "MOST_TERM" = some (some (.int 6 t_MOST_TERM)))
    (a_MOST_WARDS : PySem.W.nsIn K mainGlobals "MOST_WARDS" = some (some (.int 4 t_MOST_WARDS)))
    (a_TIES : PySem.W.nsIn K mainGlobals "TIES" = some (some (.ref p_TIES)))
    (x_TIES : K.lookup p_TIES = some ⟨.type "tuple", od_TIES, .seq #[.str "a" t0_TIES, .str "b" t1_TIES, .str "kept" t2_TIES] n_TIES, sl_TIES⟩)
    (a_lcm : PySem.W.nsIn K mainGlobals "lcm" = some (some (.builtin "math.lcm")))
    (a_BadBand : PySem.W.nsIn K mainGlobals "BadBand" = some (some (.ref c_BadBand)))
    (ty_BadBand : PySem.W.typeIn K (.ref c_BadBand) = some (.type "type"))
    (a_BadChoices : PySem.W.nsIn K mainGlobals "BadChoices" = some (some (.ref c_BadChoices)))
    (ty_BadChoices : PySem.W.typeIn K (.ref c_BadChoices) = some (.type "type"))
    (a_BadHouse : PySem.W.nsIn K mainGlobals "BadHouse" = some (some (.ref c_BadHouse)))
    (ty_BadHouse : PySem.W.typeIn K (.ref c_BadHouse) = some (.type "type"))
    (a_BadNumber : PySem.W.nsIn K mainGlobals "BadNumber" = some (some (.ref c_BadNumber)))
    (ty_BadNumber : PySem.W.typeIn K (.ref c_BadNumber) = some (.type "type"))
    (a_BadPaper : PySem.W.nsIn K mainGlobals "BadPaper" = some (some (.ref c_BadPaper)))
    (ty_BadPaper : PySem.W.typeIn K (.ref c_BadPaper) = some (.type "type"))
    (a_BadStand : PySem.W.nsIn K mainGlobals "BadStand" = some (some (.ref c_BadStand)))
    (ty_BadStand : PySem.W.typeIn K (.ref c_BadStand) = some (.type "type"))
    (a_SeatError : PySem.W.nsIn K mainGlobals "SeatError" = some (some (.ref c_SeatError)))
    (ty_SeatError : PySem.W.typeIn K (.ref c_SeatError) = some (.type "type"))
    (a_TooGreat : PySem.W.nsIn K mainGlobals "TooGreat" = some (some (.ref c_TooGreat)))
    (ty_TooGreat : PySem.W.typeIn K (.ref c_TooGreat) = some (.type "type"))
    (eB_SeatError : PySem.W.subIn K (.ref c_SeatError) (.type "BaseException") = some true)
    (hdB_SeatError : PySem.W.hasDictIn K c_SeatError = true)
    (eB_TooGreat : PySem.W.subIn K (.ref c_TooGreat) (.type "BaseException") = some true)
    (hdB_TooGreat : PySem.W.hasDictIn K c_TooGreat = true)
    (hn : PySem.W.specialIn K (.builtin "object.__class__") "__get__" = some (some (.builtin "getset_descriptor.__get__")))
    (ht : PySem.W.takesIn K (.builtin "object.__class__") = some true)
    (xLBadBand : K.lookup c_BadBand = some (excClassObj nmBadBand qBadBand c_BadBand NBadBand bsBadBand [.ref c_SeatError, .type "ValueError", .type "Exception", .type "BaseException", .type "object"] true snBadBand subBadBand abBadBand colBadBand ddBadBand m0BadBand m1BadBand m2BadBand m3BadBand m5BadBand "ValueError.__new__"))
    (saBadBand : PySem.W.findIn K (.ref c_BadBand) "__setattr__" = some (some (.builtin "object.__setattr__")))
    (eCBadBand : PySem.W.subIn K (.ref c_BadBand) (.type "BaseException") = some true)
    (kCBadBand : PySem.W.keepIn K (.ref c_BadBand) = true)
    (hgBadBand : PySem.W.findIn K (.ref c_BadBand) "__getattribute__" = some (some (.builtin "BaseException.__getattribute__")))
    (hkBadBand : PySem.W.findIn K (.ref c_BadBand) "__getattr__" = some none)
    (hdBadBand : PySem.W.hasDictIn K c_BadBand = true)
    (haBadBand : PySem.W.findIn K (.ref c_BadBand) "__class__" = some (some (.builtin "object.__class__")))
    (hmBadBand : PySem.W.mroIn K c_BadBand (.type "object") = some true)
    (sBadBand_SeatError : PySem.W.subIn K (.ref c_BadBand) (.ref c_SeatError) = some true)
    (sBadBand_BadHouse : PySem.W.subIn K (.ref c_BadBand) (.ref c_BadHouse) = some false)
    (sBadBand_BadStand : PySem.W.subIn K (.ref c_BadBand) (.ref c_BadStand) = some false)
    (sBadBand_BadChoices : PySem.W.subIn K (.ref c_BadBand) (.ref c_BadChoices) = some false)
    (sBadBand_BadBand : PySem.W.subIn K (.ref c_BadBand) (.ref c_BadBand) = some true)
    (sBadBand_BadNumber : PySem.W.subIn K (.ref c_BadBand) (.ref c_BadNumber) = some false)
    (sBadBand_BadPaper : PySem.W.subIn K (.ref c_BadBand) (.ref c_BadPaper) = some false)
    (sBadBand_TooGreat : PySem.W.subIn K (.ref c_BadBand) (.ref c_TooGreat) = some false)
    (sBadBand_ValueError : PySem.W.subIn K (.ref c_BadBand) (.type "ValueError") = some true)
    (sBadBand_OverflowError : PySem.W.subIn K (.ref c_BadBand) (.type "OverflowError") = some false)
    (sBadBand_LookupError : PySem.W.subIn K (.ref c_BadBand) (.type "LookupError") = some false)
    (sBadBand_RuntimeError : PySem.W.subIn K (.ref c_BadBand) (.type "RuntimeError") = some false)
    (sBadBand_TypeError : PySem.W.subIn K (.ref c_BadBand) (.type "TypeError") = some false)
    (noBadBand_part : PySem.W.findIn K (.ref c_BadBand) "part" = some none)
    (iCBadBand : PySem.W.findIn K (.ref c_BadBand) "__init__" = some (some (.ref i_BadBand)))
    (tIBadBand : PySem.W.typeIn K (.ref i_BadBand) = some (.type "function"))
    (lIBadBand : K.lookup i_BadBand = some ⟨ocIBadBand, odIBadBand, .func (PySem.W.fnOf "__init__" "BadBand.__init__" (defArgs sIniBadBand) (defBody sIniBadBand) (defScope sIniBadBand) .none kVIBadBand dcIBadBand pmIBadBand anIBadBand cdIBadBand ctIBadBand), slIBadBand⟩)
    (cdI_BadBand : PySem.W.codeIn K cdIBadBand "BadBand.__init__" = true)
    (kIBadBand : PySem.W.keepIn K (.ref i_BadBand) = true)
    (xLBadChoices : K.lookup c_BadChoices = some (excClassObj nmBadChoices qBadChoices c_BadChoices NBadChoices bsBadChoices [.ref c_SeatError, .type "ValueError", .type "Exception", .type "BaseException", .type "object"] true snBadChoices subBadChoices abBadChoices colBadChoices ddBadChoices m0BadChoices m1BadChoices m2BadChoices m3BadChoices m5BadChoices "ValueError.__new__"))
    (saBadChoices : PySem.W.findIn K (.ref c_BadChoices) "__setattr__" = some (some (.builtin "object.__setattr__")))
    (eCBadChoices : PySem.W.subIn K (.ref c_BadChoices) (.type "BaseException") = some true)
    (kCBadChoices : PySem.W.keepIn K (.ref c_BadChoices) = true)
    (hgBadChoices : PySem.W.findIn K (.ref c_BadChoices) "__getattribute__" = some (some (.builtin "BaseException.__getattribute__")))
    (hkBadChoices : PySem.W.findIn K (.ref c_BadChoices) "__getattr__" = some none)
    (hdBadChoices : PySem.W.hasDictIn K c_BadChoices = true)
    (haBadChoices : PySem.W.findIn K (.ref c_BadChoices) "__class__" = some (some (.builtin "object.__class__")))
    (hmBadChoices : PySem.W.mroIn K c_BadChoices (.type "object") = some true)
    (sBadChoices_SeatError : PySem.W.subIn K (.ref c_BadChoices) (.ref c_SeatError) = some true)
    (sBadChoices_BadHouse : PySem.W.subIn K (.ref c_BadChoices) (.ref c_BadHouse) = some false)
    (sBadChoices_BadStand : PySem.W.subIn K (.ref c_BadChoices) (.ref c_BadStand) = some false)
    (sBadChoices_BadChoices : PySem.W.subIn K (.ref c_BadChoices) (.ref c_BadChoices) = some true)
    (sBadChoices_BadBand : PySem.W.subIn K (.ref c_BadChoices) (.ref c_BadBand) = some false)
    (sBadChoices_BadNumber : PySem.W.subIn K (.ref c_BadChoices) (.ref c_BadNumber) = some false)
    (sBadChoices_BadPaper : PySem.W.subIn K (.ref c_BadChoices) (.ref c_BadPaper) = some false)
    (sBadChoices_TooGreat : PySem.W.subIn K (.ref c_BadChoices) (.ref c_TooGreat) = some false)
    (sBadChoices_ValueError : PySem.W.subIn K (.ref c_BadChoices) (.type "ValueError") = some true)
    (sBadChoices_OverflowError : PySem.W.subIn K (.ref c_BadChoices) (.type "OverflowError") = some false)
    (sBadChoices_LookupError : PySem.W.subIn K (.ref c_BadChoices) (.type "LookupError") = some false)
    (sBadChoices_RuntimeError : PySem.W.subIn K (.ref c_BadChoices) (.type "RuntimeError") = some false)
    (sBadChoices_TypeError : PySem.W.subIn K (.ref c_BadChoices) (.type "TypeError") = some false)
    (noBadChoices_place : PySem.W.findIn K (.ref c_BadChoices) "place" = some none)
    (iCBadChoices : PySem.W.findIn K (.ref c_BadChoices) "__init__" = some (some (.ref i_BadChoices)))
    (tIBadChoices : PySem.W.typeIn K (.ref i_BadChoices) = some (.type "function"))
    (lIBadChoices : K.lookup i_BadChoices = some ⟨ocIBadChoices, odIBadChoices, .func (PySem.W.fnOf "__init__" "BadChoices.__init__" (defArgs sIniBadChoices) (defBody sIniBadChoices) (defScope sIniBadChoices) .none kVIBadChoices dcIBadChoices pmIBadChoices anIBadChoices cdIBadChoices ctIBadChoices), slIBadChoices⟩)
    (cdI_BadChoices : PySem.W.codeIn K cdIBadChoices "BadChoices.__init__" = true)
    (kIBadChoices : PySem.W.keepIn K (.ref i_BadChoices) = true)
    (xLBadHouse : K.lookup c_BadHouse = some (excClassObj nmBadHouse qBadHouse c_BadHouse NBadHouse bsBadHouse [.ref c_SeatError, .type "ValueError", .type "Exception", .type "BaseException", .type "object"] true snBadHouse subBadHouse abBadHouse colBadHouse ddBadHouse m0BadHouse m1BadHouse m2BadHouse m3BadHouse m5BadHouse "ValueError.__new__"))
    (saBadHouse : PySem.W.findIn K (.ref c_BadHouse) "__setattr__" = some (some (.builtin "object.__setattr__")))
    (eCBadHouse : PySem.W.subIn K (.ref c_BadHouse) (.type "BaseException") = some true)
    (kCBadHouse : PySem.W.keepIn K (.ref c_BadHouse) = true)
    (hgBadHouse : PySem.W.findIn K (.ref c_BadHouse) "__getattribute__" = some (some (.builtin "BaseException.__getattribute__")))
    (hkBadHouse : PySem.W.findIn K (.ref c_BadHouse) "__getattr__" = some none)
    (hdBadHouse : PySem.W.hasDictIn K c_BadHouse = true)
    (haBadHouse : PySem.W.findIn K (.ref c_BadHouse) "__class__" = some (some (.builtin "object.__class__")))
    (hmBadHouse : PySem.W.mroIn K c_BadHouse (.type "object") = some true)
    (sBadHouse_SeatError : PySem.W.subIn K (.ref c_BadHouse) (.ref c_SeatError) = some true)
    (sBadHouse_BadHouse : PySem.W.subIn K (.ref c_BadHouse) (.ref c_BadHouse) = some true)
    (sBadHouse_BadStand : PySem.W.subIn K (.ref c_BadHouse) (.ref c_BadStand) = some false)
    (sBadHouse_BadChoices : PySem.W.subIn K (.ref c_BadHouse) (.ref c_BadChoices) = some false)
    (sBadHouse_BadBand : PySem.W.subIn K (.ref c_BadHouse) (.ref c_BadBand) = some false)
    (sBadHouse_BadNumber : PySem.W.subIn K (.ref c_BadHouse) (.ref c_BadNumber) = some false)
    (sBadHouse_BadPaper : PySem.W.subIn K (.ref c_BadHouse) (.ref c_BadPaper) = some false)
    (sBadHouse_TooGreat : PySem.W.subIn K (.ref c_BadHouse) (.ref c_TooGreat) = some false)
    (sBadHouse_ValueError : PySem.W.subIn K (.ref c_BadHouse) (.type "ValueError") = some true)
    (sBadHouse_OverflowError : PySem.W.subIn K (.ref c_BadHouse) (.type "OverflowError") = some false)
    (sBadHouse_LookupError : PySem.W.subIn K (.ref c_BadHouse) (.type "LookupError") = some false)
    (sBadHouse_RuntimeError : PySem.W.subIn K (.ref c_BadHouse) (.type "RuntimeError") = some false)
    (sBadHouse_TypeError : PySem.W.subIn K (.ref c_BadHouse) (.type "TypeError") = some false)
    (noBadHouse_place : PySem.W.findIn K (.ref c_BadHouse) "place" = some none)
    (iCBadHouse : PySem.W.findIn K (.ref c_BadHouse) "__init__" = some (some (.ref i_BadHouse)))
    (tIBadHouse : PySem.W.typeIn K (.ref i_BadHouse) = some (.type "function"))
    (lIBadHouse : K.lookup i_BadHouse = some ⟨ocIBadHouse, odIBadHouse, .func (PySem.W.fnOf "__init__" "BadHouse.__init__" (defArgs sIniBadHouse) (defBody sIniBadHouse) (defScope sIniBadHouse) .none kVIBadHouse dcIBadHouse pmIBadHouse anIBadHouse cdIBadHouse ctIBadHouse), slIBadHouse⟩)
    (cdI_BadHouse : PySem.W.codeIn K cdIBadHouse "BadHouse.__init__" = true)
    (kIBadHouse : PySem.W.keepIn K (.ref i_BadHouse) = true)
    (xLBadNumber : K.lookup c_BadNumber = some (excClassObj nmBadNumber qBadNumber c_BadNumber NBadNumber bsBadNumber [.ref c_SeatError, .type "ValueError", .type "Exception", .type "BaseException", .type "object"] true snBadNumber subBadNumber abBadNumber colBadNumber ddBadNumber m0BadNumber m1BadNumber m2BadNumber m3BadNumber m5BadNumber "ValueError.__new__"))
    (saBadNumber : PySem.W.findIn K (.ref c_BadNumber) "__setattr__" = some (some (.builtin "object.__setattr__")))
    (eCBadNumber : PySem.W.subIn K (.ref c_BadNumber) (.type "BaseException") = some true)
    (kCBadNumber : PySem.W.keepIn K (.ref c_BadNumber) = true)
    (hgBadNumber : PySem.W.findIn K (.ref c_BadNumber) "__getattribute__" = some (some (.builtin "BaseException.__getattribute__")))
    (hkBadNumber : PySem.W.findIn K (.ref c_BadNumber) "__getattr__" = some none)
    (hdBadNumber : PySem.W.hasDictIn K c_BadNumber = true)
    (haBadNumber : PySem.W.findIn K (.ref c_BadNumber) "__class__" = some (some (.builtin "object.__class__")))
    (hmBadNumber : PySem.W.mroIn K c_BadNumber (.type "object") = some true)
    (sBadNumber_SeatError : PySem.W.subIn K (.ref c_BadNumber) (.ref c_SeatError) = some true)
    (sBadNumber_BadHouse : PySem.W.subIn K (.ref c_BadNumber) (.ref c_BadHouse) = some false)
    (sBadNumber_BadStand : PySem.W.subIn K (.ref c_BadNumber) (.ref c_BadStand) = some false)
    (sBadNumber_BadChoices : PySem.W.subIn K (.ref c_BadNumber) (.ref c_BadChoices) = some false)
    (sBadNumber_BadBand : PySem.W.subIn K (.ref c_BadNumber) (.ref c_BadBand) = some false)
    (sBadNumber_BadNumber : PySem.W.subIn K (.ref c_BadNumber) (.ref c_BadNumber) = some true)
    (sBadNumber_BadPaper : PySem.W.subIn K (.ref c_BadNumber) (.ref c_BadPaper) = some false)
    (sBadNumber_TooGreat : PySem.W.subIn K (.ref c_BadNumber) (.ref c_TooGreat) = some false)
    (sBadNumber_ValueError : PySem.W.subIn K (.ref c_BadNumber) (.type "ValueError") = some true)
    (sBadNumber_OverflowError : PySem.W.subIn K (.ref c_BadNumber) (.type "OverflowError") = some false)
    (sBadNumber_LookupError : PySem.W.subIn K (.ref c_BadNumber) (.type "LookupError") = some false)
    (sBadNumber_RuntimeError : PySem.W.subIn K (.ref c_BadNumber) (.type "RuntimeError") = some false)
    (sBadNumber_TypeError : PySem.W.subIn K (.ref c_BadNumber) (.type "TypeError") = some false)
    (noBadNumber_value : PySem.W.findIn K (.ref c_BadNumber) "value" = some none)
    (iCBadNumber : PySem.W.findIn K (.ref c_BadNumber) "__init__" = some (some (.ref i_BadNumber)))
    (tIBadNumber : PySem.W.typeIn K (.ref i_BadNumber) = some (.type "function"))
    (lIBadNumber : K.lookup i_BadNumber = some ⟨ocIBadNumber, odIBadNumber, .func (PySem.W.fnOf "__init__" "BadNumber.__init__" (defArgs sIniBadNumber) (defBody sIniBadNumber) (defScope sIniBadNumber) .none kVIBadNumber dcIBadNumber pmIBadNumber anIBadNumber cdIBadNumber ctIBadNumber), slIBadNumber⟩)
    (cdI_BadNumber : PySem.W.codeIn K cdIBadNumber "BadNumber.__init__" = true)
    (kIBadNumber : PySem.W.keepIn K (.ref i_BadNumber) = true)
    (xLBadPaper : K.lookup c_BadPaper = some (excClassObj nmBadPaper qBadPaper c_BadPaper NBadPaper bsBadPaper [.ref c_SeatError, .type "ValueError", .type "Exception", .type "BaseException", .type "object"] true snBadPaper subBadPaper abBadPaper colBadPaper ddBadPaper m0BadPaper m1BadPaper m2BadPaper m3BadPaper m5BadPaper "ValueError.__new__"))
    (saBadPaper : PySem.W.findIn K (.ref c_BadPaper) "__setattr__" = some (some (.builtin "object.__setattr__")))
    (eCBadPaper : PySem.W.subIn K (.ref c_BadPaper) (.type "BaseException") = some true)
    (kCBadPaper : PySem.W.keepIn K (.ref c_BadPaper) = true)
    (hgBadPaper : PySem.W.findIn K (.ref c_BadPaper) "__getattribute__" = some (some (.builtin "BaseException.__getattribute__")))
    (hkBadPaper : PySem.W.findIn K (.ref c_BadPaper) "__getattr__" = some none)
    (hdBadPaper : PySem.W.hasDictIn K c_BadPaper = true)
    (haBadPaper : PySem.W.findIn K (.ref c_BadPaper) "__class__" = some (some (.builtin "object.__class__")))
    (hmBadPaper : PySem.W.mroIn K c_BadPaper (.type "object") = some true)
    (sBadPaper_SeatError : PySem.W.subIn K (.ref c_BadPaper) (.ref c_SeatError) = some true)
    (sBadPaper_BadHouse : PySem.W.subIn K (.ref c_BadPaper) (.ref c_BadHouse) = some false)
    (sBadPaper_BadStand : PySem.W.subIn K (.ref c_BadPaper) (.ref c_BadStand) = some false)
    (sBadPaper_BadChoices : PySem.W.subIn K (.ref c_BadPaper) (.ref c_BadChoices) = some false)
    (sBadPaper_BadBand : PySem.W.subIn K (.ref c_BadPaper) (.ref c_BadBand) = some false)
    (sBadPaper_BadNumber : PySem.W.subIn K (.ref c_BadPaper) (.ref c_BadNumber) = some false)
    (sBadPaper_BadPaper : PySem.W.subIn K (.ref c_BadPaper) (.ref c_BadPaper) = some true)
    (sBadPaper_TooGreat : PySem.W.subIn K (.ref c_BadPaper) (.ref c_TooGreat) = some false)
    (sBadPaper_ValueError : PySem.W.subIn K (.ref c_BadPaper) (.type "ValueError") = some true)
    (sBadPaper_OverflowError : PySem.W.subIn K (.ref c_BadPaper) (.type "OverflowError") = some false)
    (sBadPaper_LookupError : PySem.W.subIn K (.ref c_BadPaper) (.type "LookupError") = some false)
    (sBadPaper_RuntimeError : PySem.W.subIn K (.ref c_BadPaper) (.type "RuntimeError") = some false)
    (sBadPaper_TypeError : PySem.W.subIn K (.ref c_BadPaper) (.type "TypeError") = some false)
    (noBadPaper_word : PySem.W.findIn K (.ref c_BadPaper) "word" = some none)
    (iCBadPaper : PySem.W.findIn K (.ref c_BadPaper) "__init__" = some (some (.ref i_BadPaper)))
    (tIBadPaper : PySem.W.typeIn K (.ref i_BadPaper) = some (.type "function"))
    (lIBadPaper : K.lookup i_BadPaper = some ⟨ocIBadPaper, odIBadPaper, .func (PySem.W.fnOf "__init__" "BadPaper.__init__" (defArgs sIniBadPaper) (defBody sIniBadPaper) (defScope sIniBadPaper) .none kVIBadPaper dcIBadPaper pmIBadPaper anIBadPaper cdIBadPaper ctIBadPaper), slIBadPaper⟩)
    (cdI_BadPaper : PySem.W.codeIn K cdIBadPaper "BadPaper.__init__" = true)
    (kIBadPaper : PySem.W.keepIn K (.ref i_BadPaper) = true)
    (xLBadStand : K.lookup c_BadStand = some (excClassObj nmBadStand qBadStand c_BadStand NBadStand bsBadStand [.ref c_SeatError, .type "ValueError", .type "Exception", .type "BaseException", .type "object"] true snBadStand subBadStand abBadStand colBadStand ddBadStand m0BadStand m1BadStand m2BadStand m3BadStand m5BadStand "ValueError.__new__"))
    (saBadStand : PySem.W.findIn K (.ref c_BadStand) "__setattr__" = some (some (.builtin "object.__setattr__")))
    (eCBadStand : PySem.W.subIn K (.ref c_BadStand) (.type "BaseException") = some true)
    (kCBadStand : PySem.W.keepIn K (.ref c_BadStand) = true)
    (hgBadStand : PySem.W.findIn K (.ref c_BadStand) "__getattribute__" = some (some (.builtin "BaseException.__getattribute__")))
    (hkBadStand : PySem.W.findIn K (.ref c_BadStand) "__getattr__" = some none)
    (hdBadStand : PySem.W.hasDictIn K c_BadStand = true)
    (haBadStand : PySem.W.findIn K (.ref c_BadStand) "__class__" = some (some (.builtin "object.__class__")))
    (hmBadStand : PySem.W.mroIn K c_BadStand (.type "object") = some true)
    (sBadStand_SeatError : PySem.W.subIn K (.ref c_BadStand) (.ref c_SeatError) = some true)
    (sBadStand_BadHouse : PySem.W.subIn K (.ref c_BadStand) (.ref c_BadHouse) = some false)
    (sBadStand_BadStand : PySem.W.subIn K (.ref c_BadStand) (.ref c_BadStand) = some true)
    (sBadStand_BadChoices : PySem.W.subIn K (.ref c_BadStand) (.ref c_BadChoices) = some false)
    (sBadStand_BadBand : PySem.W.subIn K (.ref c_BadStand) (.ref c_BadBand) = some false)
    (sBadStand_BadNumber : PySem.W.subIn K (.ref c_BadStand) (.ref c_BadNumber) = some false)
    (sBadStand_BadPaper : PySem.W.subIn K (.ref c_BadStand) (.ref c_BadPaper) = some false)
    (sBadStand_TooGreat : PySem.W.subIn K (.ref c_BadStand) (.ref c_TooGreat) = some false)
    (sBadStand_ValueError : PySem.W.subIn K (.ref c_BadStand) (.type "ValueError") = some true)
    (sBadStand_OverflowError : PySem.W.subIn K (.ref c_BadStand) (.type "OverflowError") = some false)
    (sBadStand_LookupError : PySem.W.subIn K (.ref c_BadStand) (.type "LookupError") = some false)
    (sBadStand_RuntimeError : PySem.W.subIn K (.ref c_BadStand) (.type "RuntimeError") = some false)
    (sBadStand_TypeError : PySem.W.subIn K (.ref c_BadStand) (.type "TypeError") = some false)
    (noBadStand_value : PySem.W.findIn K (.ref c_BadStand) "value" = some none)
    (iCBadStand : PySem.W.findIn K (.ref c_BadStand) "__init__" = some (some (.ref i_BadStand)))
    (tIBadStand : PySem.W.typeIn K (.ref i_BadStand) = some (.type "function"))
    (lIBadStand : K.lookup i_BadStand = some ⟨ocIBadStand, odIBadStand, .func (PySem.W.fnOf "__init__" "BadStand.__init__" (defArgs sIniBadStand) (defBody sIniBadStand) (defScope sIniBadStand) .none kVIBadStand dcIBadStand pmIBadStand anIBadStand cdIBadStand ctIBadStand), slIBadStand⟩)
    (cdI_BadStand : PySem.W.codeIn K cdIBadStand "BadStand.__init__" = true)
    (kIBadStand : PySem.W.keepIn K (.ref i_BadStand) = true)
    (xLTooGreat : K.lookup c_TooGreat = some (excClassObj nmTooGreat qTooGreat c_TooGreat NTooGreat bsTooGreat [.type "OverflowError", .type "ArithmeticError", .type "Exception", .type "BaseException", .type "object"] true snTooGreat subTooGreat abTooGreat colTooGreat ddTooGreat m0TooGreat m1TooGreat m2TooGreat m3TooGreat m5TooGreat "OverflowError.__new__"))
    (saTooGreat : PySem.W.findIn K (.ref c_TooGreat) "__setattr__" = some (some (.builtin "object.__setattr__")))
    (eCTooGreat : PySem.W.subIn K (.ref c_TooGreat) (.type "BaseException") = some true)
    (kCTooGreat : PySem.W.keepIn K (.ref c_TooGreat) = true)
    (hgTooGreat : PySem.W.findIn K (.ref c_TooGreat) "__getattribute__" = some (some (.builtin "BaseException.__getattribute__")))
    (hkTooGreat : PySem.W.findIn K (.ref c_TooGreat) "__getattr__" = some none)
    (hdTooGreat : PySem.W.hasDictIn K c_TooGreat = true)
    (haTooGreat : PySem.W.findIn K (.ref c_TooGreat) "__class__" = some (some (.builtin "object.__class__")))
    (hmTooGreat : PySem.W.mroIn K c_TooGreat (.type "object") = some true)
    (sTooGreat_SeatError : PySem.W.subIn K (.ref c_TooGreat) (.ref c_SeatError) = some false)
    (sTooGreat_BadHouse : PySem.W.subIn K (.ref c_TooGreat) (.ref c_BadHouse) = some false)
    (sTooGreat_BadStand : PySem.W.subIn K (.ref c_TooGreat) (.ref c_BadStand) = some false)
    (sTooGreat_BadChoices : PySem.W.subIn K (.ref c_TooGreat) (.ref c_BadChoices) = some false)
    (sTooGreat_BadBand : PySem.W.subIn K (.ref c_TooGreat) (.ref c_BadBand) = some false)
    (sTooGreat_BadNumber : PySem.W.subIn K (.ref c_TooGreat) (.ref c_BadNumber) = some false)
    (sTooGreat_BadPaper : PySem.W.subIn K (.ref c_TooGreat) (.ref c_BadPaper) = some false)
    (sTooGreat_TooGreat : PySem.W.subIn K (.ref c_TooGreat) (.ref c_TooGreat) = some true)
    (sTooGreat_ValueError : PySem.W.subIn K (.ref c_TooGreat) (.type "ValueError") = some false)
    (sTooGreat_OverflowError : PySem.W.subIn K (.ref c_TooGreat) (.type "OverflowError") = some true)
    (sTooGreat_LookupError : PySem.W.subIn K (.ref c_TooGreat) (.type "LookupError") = some false)
    (sTooGreat_RuntimeError : PySem.W.subIn K (.ref c_TooGreat) (.type "RuntimeError") = some false)
    (sTooGreat_TypeError : PySem.W.subIn K (.ref c_TooGreat) (.type "TypeError") = some false)
    (noTooGreat_most : PySem.W.findIn K (.ref c_TooGreat) "most" = some none)
    (iCTooGreat : PySem.W.findIn K (.ref c_TooGreat) "__init__" = some (some (.ref i_TooGreat)))
    (tITooGreat : PySem.W.typeIn K (.ref i_TooGreat) = some (.type "function"))
    (lITooGreat : K.lookup i_TooGreat = some ⟨ocITooGreat, odITooGreat, .func (PySem.W.fnOf "__init__" "TooGreat.__init__" (defArgs sIniTooGreat) (defBody sIniTooGreat) (defScope sIniTooGreat) .none kVITooGreat dcITooGreat pmITooGreat anITooGreat cdITooGreat ctITooGreat), slITooGreat⟩)
    (cdI_TooGreat : PySem.W.codeIn K cdITooGreat "TooGreat.__init__" = true)
    (kITooGreat : PySem.W.keepIn K (.ref i_TooGreat) = true)
    (xLSeatError : K.lookup c_SeatError = some (excClassObj nmSeatError qSeatError c_SeatError NSeatError bsSeatError [.type "ValueError", .type "Exception", .type "BaseException", .type "object"] true snSeatError subSeatError abSeatError colSeatError ddSeatError m0SeatError m1SeatError m2SeatError m3SeatError m5SeatError "ValueError.__new__"))
    (saSeatError : PySem.W.findIn K (.ref c_SeatError) "__setattr__" = some (some (.builtin "object.__setattr__")))
    (eCSeatError : PySem.W.subIn K (.ref c_SeatError) (.type "BaseException") = some true)
    (kCSeatError : PySem.W.keepIn K (.ref c_SeatError) = true)
    (hgSeatError : PySem.W.findIn K (.ref c_SeatError) "__getattribute__" = some (some (.builtin "BaseException.__getattribute__")))
    (hkSeatError : PySem.W.findIn K (.ref c_SeatError) "__getattr__" = some none)
    (hdSeatError : PySem.W.hasDictIn K c_SeatError = true)
    (haSeatError : PySem.W.findIn K (.ref c_SeatError) "__class__" = some (some (.builtin "object.__class__")))
    (hmSeatError : PySem.W.mroIn K c_SeatError (.type "object") = some true)
    (sSeatError_SeatError : PySem.W.subIn K (.ref c_SeatError) (.ref c_SeatError) = some true)
    (sSeatError_BadHouse : PySem.W.subIn K (.ref c_SeatError) (.ref c_BadHouse) = some false)
    (sSeatError_BadStand : PySem.W.subIn K (.ref c_SeatError) (.ref c_BadStand) = some false)
    (sSeatError_BadChoices : PySem.W.subIn K (.ref c_SeatError) (.ref c_BadChoices) = some false)
    (sSeatError_BadBand : PySem.W.subIn K (.ref c_SeatError) (.ref c_BadBand) = some false)
    (sSeatError_BadNumber : PySem.W.subIn K (.ref c_SeatError) (.ref c_BadNumber) = some false)
    (sSeatError_BadPaper : PySem.W.subIn K (.ref c_SeatError) (.ref c_BadPaper) = some false)
    (sSeatError_TooGreat : PySem.W.subIn K (.ref c_SeatError) (.ref c_TooGreat) = some false)
    (sSeatError_ValueError : PySem.W.subIn K (.ref c_SeatError) (.type "ValueError") = some true)
    (sSeatError_OverflowError : PySem.W.subIn K (.ref c_SeatError) (.type "OverflowError") = some false)
    (sSeatError_LookupError : PySem.W.subIn K (.ref c_SeatError) (.type "LookupError") = some false)
    (sSeatError_RuntimeError : PySem.W.subIn K (.ref c_SeatError) (.type "RuntimeError") = some false)
    (sSeatError_TypeError : PySem.W.subIn K (.ref c_SeatError) (.type "TypeError") = some false)
    (iCSeatError : PySem.W.findIn K (.ref c_SeatError) "__init__" = some (some (.builtin "ValueError.__init__")))
    (ic_BadBand : PySem.W.isClsIn K c_BadBand = true)
    (ic_BadChoices : PySem.W.isClsIn K c_BadChoices = true)
    (ic_BadHouse : PySem.W.isClsIn K c_BadHouse = true)
    (ic_BadNumber : PySem.W.isClsIn K c_BadNumber = true)
    (ic_BadPaper : PySem.W.isClsIn K c_BadPaper = true)
    (ic_BadStand : PySem.W.isClsIn K c_BadStand = true)
    (ic_SeatError : PySem.W.isClsIn K c_SeatError = true)
    (ic_TooGreat : PySem.W.isClsIn K c_TooGreat = true)
    (aC_Stands : PySem.W.nsIn K mainGlobals "Stands" = some (some (.ref p_Stands)))
    (pg_Stands : PySem.W.plainGet K p_Stands Str.empty = true)
    (hd_Stands : PySem.W.hasDictIn K p_Stands = true)
    (po_Stands : PySem.W.plainOver K p_Stands = true)
    (sa_Stands : PySem.W.findIn K (.ref p_Stands) "__setattr__" = some (some (.builtin "object.__setattr__")))
    (mk_Stands : PySem.W.makesIn K p_Stands = true)
    (kc_Stands : PySem.W.keepIn K (.ref p_Stands) = true)
    (aC_Steps : PySem.W.nsIn K mainGlobals "Steps" = some (some (.ref p_Steps)))
    (pg_Steps : PySem.W.plainGet K p_Steps Str.empty = true)
    (hd_Steps : PySem.W.hasDictIn K p_Steps = true)
    (po_Steps : PySem.W.plainOver K p_Steps = true)
    (sa_Steps : PySem.W.findIn K (.ref p_Steps) "__setattr__" = some (some (.builtin "object.__setattr__")))
    (mk_Steps : PySem.W.makesIn K p_Steps = true)
    (kc_Steps : PySem.W.keepIn K (.ref p_Steps) = true)
    (aC_Turns : PySem.W.nsIn K mainGlobals "Turns" = some (some (.ref p_Turns)))
    (pg_Turns : PySem.W.plainGet K p_Turns Str.empty = true)
    (hd_Turns : PySem.W.hasDictIn K p_Turns = true)
    (po_Turns : PySem.W.plainOver K p_Turns = true)
    (sa_Turns : PySem.W.findIn K (.ref p_Turns) "__setattr__" = some (some (.builtin "object.__setattr__")))
    (mk_Turns : PySem.W.makesIn K p_Turns = true)
    (kc_Turns : PySem.W.keepIn K (.ref p_Turns) = true)
    (no_Stands_given_house : PySem.W.findIn K (.ref p_Stands) "given_house" = some none)
    (no_Stands_known : PySem.W.findIn K (.ref p_Stands) "known" = some none)
    (no_Stands_known_more : PySem.W.findIn K (.ref p_Stands) "known_more" = some none)
    (no_Stands_rows : PySem.W.findIn K (.ref p_Stands) "rows" = some none)
    (no_Stands_years : PySem.W.findIn K (.ref p_Stands) "years" = some none)
    (no_Steps_band : PySem.W.findIn K (.ref p_Steps) "band" = some none)
    (no_Steps_full : PySem.W.findIn K (.ref p_Steps) "full" = some none)
    (no_Steps_given_house : PySem.W.findIn K (.ref p_Steps) "given_house" = some none)
    (no_Steps_stands : PySem.W.findIn K (.ref p_Steps) "stands" = some none)
    (no_Steps_turns : PySem.W.findIn K (.ref p_Steps) "turns" = some none)
    (no_Steps_years : PySem.W.findIn K (.ref p_Steps) "years" = some none)
    (no_Turns_band : PySem.W.findIn K (.ref p_Turns) "band" = some none)
    (no_Turns_known : PySem.W.findIn K (.ref p_Turns) "known" = some none)
    (no_Turns_rows : PySem.W.findIn K (.ref p_Turns) "rows" = some none)
    (no_Turns_telling : PySem.W.findIn K (.ref p_Turns) "telling" = some none)
    (at_Turns___init__ : PySem.W.findIn K (.ref p_Turns) "__init__" = some (some (.ref f_Turns___init__)))
    (fn_Turns___init__ : PySem.W.isFn K (.ref f_Turns___init__) = true)
    (at_Stands___init__ : PySem.W.findIn K (.ref p_Stands) "__init__" = some (some (.ref f_Stands___init__)))
    (fn_Stands___init__ : PySem.W.isFn K (.ref f_Stands___init__) = true)
    (at_Steps___init__ : PySem.W.findIn K (.ref p_Steps) "__init__" = some (some (.ref f_Steps___init__)))
    (fn_Steps___init__ : PySem.W.isFn K (.ref f_Steps___init__) = true)
    (a__law_mixed : PySem.W.nsIn K mainGlobals "_law_mixed" = some (some (.ref f__law_mixed)))
    (l__law_mixed : K.lookup f__law_mixed = some ⟨oc__law_mixed, od__law_mixed, .func (PySem.W.fnOf "_law_mixed" "_law_mixed" (defArgs sMixed) (defBody sMixed) (defScope sMixed) .none kV__law_mixed dc__law_mixed pm__law_mixed an__law_mixed cd__law_mixed ct__law_mixed), sl__law_mixed⟩)
    (cd_of__law_mixed : PySem.W.codeIn K cd__law_mixed "_law_mixed" = true)
    (k__law_mixed : PySem.W.keepIn K (.ref f__law_mixed) = true)
    (a__law_folded : PySem.W.nsIn K mainGlobals "_law_folded" = some (some (.ref f__law_folded)))
    (l__law_folded : K.lookup f__law_folded = some ⟨oc__law_folded, od__law_folded, .func (PySem.W.fnOf "_law_folded" "_law_folded" (defArgs sFolded) (defBody sFolded) (defScope sFolded) .none kV__law_folded dc__law_folded pm__law_folded an__law_folded cd__law_folded ct__law_folded), sl__law_folded⟩)
    (cd_of__law_folded : PySem.W.codeIn K cd__law_folded "_law_folded" = true)
    (k__law_folded : PySem.W.keepIn K (.ref f__law_folded) = true)
    (a__law_draw : PySem.W.nsIn K mainGlobals "_law_draw" = some (some (.ref f__law_draw)))
    (l__law_draw : K.lookup f__law_draw = some ⟨oc__law_draw, od__law_draw, .func (PySem.W.fnOf "_law_draw" "_law_draw" (defArgs sDraw) (defBody sDraw) (defScope sDraw) .none kV__law_draw dc__law_draw pm__law_draw an__law_draw cd__law_draw ct__law_draw), sl__law_draw⟩)
    (cd_of__law_draw : PySem.W.codeIn K cd__law_draw "_law_draw" = true)
    (k__law_draw : PySem.W.keepIn K (.ref f__law_draw) = true)
    (a__law_begun : PySem.W.nsIn K mainGlobals "_law_begun" = some (some (.ref f__law_begun)))
    (l__law_begun : K.lookup f__law_begun = some ⟨oc__law_begun, od__law_begun, .func (PySem.W.fnOf "_law_begun" "_law_begun" (defArgs sBegun) (defBody sBegun) (defScope sBegun) .none kV__law_begun dc__law_begun pm__law_begun an__law_begun cd__law_begun ct__law_begun), sl__law_begun⟩)
    (cd_of__law_begun : PySem.W.codeIn K cd__law_begun "_law_begun" = true)
    (k__law_begun : PySem.W.keepIn K (.ref f__law_begun) = true)
    (a__law_odds : PySem.W.nsIn K mainGlobals "_law_odds" = some (some (.ref f__law_odds)))
    (l__law_odds : K.lookup f__law_odds = some ⟨oc__law_odds, od__law_odds, .func (PySem.W.fnOf "_law_odds" "_law_odds" (defArgs sOdds) (defBody sOdds) (defScope sOdds) .none kV__law_odds dc__law_odds pm__law_odds an__law_odds cd__law_odds ct__law_odds), sl__law_odds⟩)
    (cd_of__law_odds : PySem.W.codeIn K cd__law_odds "_law_odds" = true)
    (k__law_odds : PySem.W.keepIn K (.ref f__law_odds) = true)
    (a__law_like : PySem.W.nsIn K mainGlobals "_law_like" = some (some (.ref f__law_like)))
    (l__law_like : K.lookup f__law_like = some ⟨oc__law_like, od__law_like, .func (PySem.W.fnOf "_law_like" "_law_like" (defArgs s__law_like) (defBody s__law_like) (defScope s__law_like) .none kV__law_like dc__law_like pm__law_like an__law_like cd__law_like ct__law_like), sl__law_like⟩)
    (cd_of__law_like : PySem.W.codeIn K cd__law_like "_law_like" = true)
    (k__law_like : PySem.W.keepIn K (.ref f__law_like) = true)
    (a__law_of : PySem.W.nsIn K mainGlobals "_law_of" = some (some (.ref f__law_of)))
    (l__law_of : K.lookup f__law_of = some ⟨oc__law_of, od__law_of, .func (PySem.W.fnOf "_law_of" "_law_of" (defArgs s__law_of) (defBody s__law_of) (defScope s__law_of) .none kV__law_of dc__law_of pm__law_of an__law_of cd__law_of ct__law_of), sl__law_of⟩)
    (cd_of__law_of : PySem.W.codeIn K cd__law_of "_law_of" = true)
    (k__law_of : PySem.W.keepIn K (.ref f__law_of) = true)
    (a_is_whole : PySem.W.nsIn K mainGlobals "is_whole" = some (some (.ref f_is_whole)))
    (l_is_whole : K.lookup f_is_whole = some ⟨oc_is_whole, od_is_whole, .func (PySem.W.fnOf "is_whole" "is_whole" (defArgs s_is_whole) (defBody s_is_whole) (defScope s_is_whole) .none kV_is_whole dc_is_whole pm_is_whole an_is_whole cd_is_whole ct_is_whole), sl_is_whole⟩)
    (cd_of_is_whole : PySem.W.codeIn K cd_is_whole "is_whole" = true)
    (k_is_whole : PySem.W.keepIn K (.ref f_is_whole) = true)
    (a_is_tuple : PySem.W.nsIn K mainGlobals "is_tuple" = some (some (.ref f_is_tuple)))
    (l_is_tuple : K.lookup f_is_tuple = some ⟨oc_is_tuple, od_is_tuple, .func (PySem.W.fnOf "is_tuple" "is_tuple" (defArgs s_is_tuple) (defBody s_is_tuple) (defScope s_is_tuple) .none kV_is_tuple dc_is_tuple pm_is_tuple an_is_tuple cd_is_tuple ct_is_tuple), sl_is_tuple⟩)
    (cd_of_is_tuple : PySem.W.codeIn K cd_is_tuple "is_tuple" = true)
    (k_is_tuple : PySem.W.keepIn K (.ref f_is_tuple) = true)
    (a_is_word : PySem.W.nsIn K mainGlobals "is_word" = some (some (.ref f_is_word)))
    (l_is_word : K.lookup f_is_word = some ⟨oc_is_word, od_is_word, .func (PySem.W.fnOf "is_word" "is_word" (defArgs s_is_word) (defBody s_is_word) (defScope s_is_word) .none kV_is_word dc_is_word pm_is_word an_is_word cd_is_word ct_is_word), sl_is_word⟩)
    (cd_of_is_word : PySem.W.codeIn K cd_is_word "is_word" = true)
    (k_is_word : PySem.W.keepIn K (.ref f_is_word) = true)
    (a_is_way : PySem.W.nsIn K mainGlobals "is_way" = some (some (.ref f_is_way)))
    (l_is_way : K.lookup f_is_way = some ⟨oc_is_way, od_is_way, .func (PySem.W.fnOf "is_way" "is_way" (defArgs s_is_way) (defBody s_is_way) (defScope s_is_way) .none kV_is_way dc_is_way pm_is_way an_is_way cd_is_way ct_is_way), sl_is_way⟩)
    (cd_of_is_way : PySem.W.codeIn K cd_is_way "is_way" = true)
    (k_is_way : PySem.W.keepIn K (.ref f_is_way) = true)
    (a_is_seat : PySem.W.nsIn K mainGlobals "is_seat" = some (some (.ref f_is_seat)))
    (l_is_seat : K.lookup f_is_seat = some ⟨oc_is_seat, od_is_seat, .func (PySem.W.fnOf "is_seat" "is_seat" (defArgs s_is_seat) (defBody s_is_seat) (defScope s_is_seat) .none kV_is_seat dc_is_seat pm_is_seat an_is_seat cd_is_seat ct_is_seat), sl_is_seat⟩)
    (cd_of_is_seat : PySem.W.codeIn K cd_is_seat "is_seat" = true)
    (k_is_seat : PySem.W.keepIn K (.ref f_is_seat) = true)
    (a_is_sides : PySem.W.nsIn K mainGlobals "is_sides" = some (some (.ref f_is_sides)))
    (l_is_sides : K.lookup f_is_sides = some ⟨oc_is_sides, od_is_sides, .func (PySem.W.fnOf "is_sides" "is_sides" (defArgs s_is_sides) (defBody s_is_sides) (defScope s_is_sides) .none kV_is_sides dc_is_sides pm_is_sides an_is_sides cd_is_sides ct_is_sides), sl_is_sides⟩)
    (cd_of_is_sides : PySem.W.codeIn K cd_is_sides "is_sides" = true)
    (k_is_sides : PySem.W.keepIn K (.ref f_is_sides) = true)
    (a_is_stand : PySem.W.nsIn K mainGlobals "is_stand" = some (some (.ref f_is_stand)))
    (l_is_stand : K.lookup f_is_stand = some ⟨oc_is_stand, od_is_stand, .func (PySem.W.fnOf "is_stand" "is_stand" (defArgs s_is_stand) (defBody s_is_stand) (defScope s_is_stand) .none kV_is_stand dc_is_stand pm_is_stand an_is_stand cd_is_stand ct_is_stand), sl_is_stand⟩)
    (cd_of_is_stand : PySem.W.codeIn K cd_is_stand "is_stand" = true)
    (k_is_stand : PySem.W.keepIn K (.ref f_is_stand) = true)
    (a_common_term : PySem.W.nsIn K mainGlobals "common_term" = some (some (.ref f_common_term)))
    (l_common_term : K.lookup f_common_term = some ⟨oc_common_term, od_common_term, .func (PySem.W.fnOf "common_term" "common_term" (defArgs s_common_term) (defBody s_common_term) (defScope s_common_term) .none kV_common_term dc_common_term pm_common_term an_common_term cd_common_term ct_common_term), sl_common_term⟩)
    (cd_of_common_term : PySem.W.codeIn K cd_common_term "common_term" = true)
    (k_common_term : PySem.W.keepIn K (.ref f_common_term) = true)
    (a_all_choices : PySem.W.nsIn K mainGlobals "all_choices" = some (some (.ref f_all_choices)))
    (l_all_choices : K.lookup f_all_choices = some ⟨oc_all_choices, od_all_choices, .func (PySem.W.fnOf "all_choices" "all_choices" (defArgs s_all_choices) (defBody s_all_choices) (defScope s_all_choices) .none kV_all_choices dc_all_choices pm_all_choices an_all_choices cd_all_choices ct_all_choices), sl_all_choices⟩)
    (cd_of_all_choices : PySem.W.codeIn K cd_all_choices "all_choices" = true)
    (k_all_choices : PySem.W.keepIn K (.ref f_all_choices) = true)
    (a_first_state : PySem.W.nsIn K mainGlobals "first_state" = some (some (.ref f_first_state)))
    (l_first_state : K.lookup f_first_state = some ⟨oc_first_state, od_first_state, .func (PySem.W.fnOf "first_state" "first_state" (defArgs s_first_state) (defBody s_first_state) (defScope s_first_state) .none kV_first_state dc_first_state pm_first_state an_first_state cd_first_state ct_first_state), sl_first_state⟩)
    (cd_of_first_state : PySem.W.codeIn K cd_first_state "first_state" = true)
    (k_first_state : PySem.W.keepIn K (.ref f_first_state) = true)
    (a__law_marks : PySem.W.nsIn K mainGlobals "_law_marks" = some (some (.ref f__law_marks)))
    (l__law_marks : K.lookup f__law_marks = some ⟨oc__law_marks, od__law_marks, .func (PySem.W.fnOf "_law_marks" "_law_marks" (defArgs s__law_marks) (defBody s__law_marks) (defScope s__law_marks) .none kV__law_marks dc__law_marks pm__law_marks an__law_marks cd__law_marks ct__law_marks), sl__law_marks⟩)
    (cd_of__law_marks : PySem.W.codeIn K cd__law_marks "_law_marks" = true)
    (k__law_marks : PySem.W.keepIn K (.ref f__law_marks) = true)
    (a__law_above : PySem.W.nsIn K mainGlobals "_law_above" = some (some (.ref f__law_above)))
    (l__law_above : K.lookup f__law_above = some ⟨oc__law_above, od__law_above, .func (PySem.W.fnOf "_law_above" "_law_above" (defArgs s__law_above) (defBody s__law_above) (defScope s__law_above) .none kV__law_above dc__law_above pm__law_above an__law_above cd__law_above ct__law_above), sl__law_above⟩)
    (cd_of__law_above : PySem.W.codeIn K cd__law_above "_law_above" = true)
    (k__law_above : PySem.W.keepIn K (.ref f__law_above) = true)
    (a__law_made_right : PySem.W.nsIn K mainGlobals "_law_made_right" = some (some (.ref f__law_made_right)))
    (l__law_made_right : K.lookup f__law_made_right = some ⟨oc__law_made_right, od__law_made_right, .func (PySem.W.fnOf "_law_made_right" "_law_made_right" (defArgs s__law_made_right) (defBody s__law_made_right) (defScope s__law_made_right) .none kV__law_made_right dc__law_made_right pm__law_made_right an__law_made_right cd__law_made_right ct__law_made_right), sl__law_made_right⟩)
    (cd_of__law_made_right : PySem.W.codeIn K cd__law_made_right "_law_made_right" = true)
    (k__law_made_right : PySem.W.keepIn K (.ref f__law_made_right) = true)
    (a__law_raised : PySem.W.nsIn K mainGlobals "_law_raised" = some (some (.ref f__law_raised)))
    (l__law_raised : K.lookup f__law_raised = some ⟨oc__law_raised, od__law_raised, .func (PySem.W.fnOf "_law_raised" "_law_raised" (defArgs s__law_raised) (defBody s__law_raised) (defScope s__law_raised) .none kV__law_raised dc__law_raised pm__law_raised an__law_raised cd__law_raised ct__law_raised), sl__law_raised⟩)
    (cd_of__law_raised : PySem.W.codeIn K cd__law_raised "_law_raised" = true)
    (k__law_raised : PySem.W.keepIn K (.ref f__law_raised) = true)
    (a__need_seats : PySem.W.nsIn K mainGlobals "_need_seats" = some (some (.ref f__need_seats)))
    (l__need_seats : K.lookup f__need_seats = some ⟨oc__need_seats, od__need_seats, .func (PySem.W.fnOf "_need_seats" "_need_seats" (defArgs s__need_seats) (defBody s__need_seats) (defScope s__need_seats) .none kV__need_seats dc__need_seats pm__need_seats an__need_seats cd__need_seats ct__need_seats), sl__need_seats⟩)
    (cd_of__need_seats : PySem.W.codeIn K cd__need_seats "_need_seats" = true)
    (k__need_seats : PySem.W.keepIn K (.ref f__need_seats) = true)
    (a_need_house : PySem.W.nsIn K mainGlobals "need_house" = some (some (.ref f_need_house)))
    (l_need_house : K.lookup f_need_house = some ⟨oc_need_house, od_need_house, .func (PySem.W.fnOf "need_house" "need_house" (defArgs s_need_house) (defBody s_need_house) (defScope s_need_house) .none kV_need_house dc_need_house pm_need_house an_need_house cd_need_house ct_need_house), sl_need_house⟩)
    (cd_of_need_house : PySem.W.codeIn K cd_need_house "need_house" = true)
    (k_need_house : PySem.W.keepIn K (.ref f_need_house) = true)
    (a_need_stand : PySem.W.nsIn K mainGlobals "need_stand" = some (some (.ref f_need_stand)))
    (l_need_stand : K.lookup f_need_stand = some ⟨oc_need_stand, od_need_stand, .func (PySem.W.fnOf "need_stand" "need_stand" (defArgs s_need_stand) (defBody s_need_stand) (defScope s_need_stand) .none kV_need_stand dc_need_stand pm_need_stand an_need_stand cd_need_stand ct_need_stand), sl_need_stand⟩)
    (cd_of_need_stand : PySem.W.codeIn K cd_need_stand "need_stand" = true)
    (k_need_stand : PySem.W.keepIn K (.ref f_need_stand) = true)
    (a_need_number : PySem.W.nsIn K mainGlobals "need_number" = some (some (.ref f_need_number)))
    (l_need_number : K.lookup f_need_number = some ⟨oc_need_number, od_need_number, .func (PySem.W.fnOf "need_number" "need_number" (defArgs s_need_number) (defBody s_need_number) (defScope s_need_number) .none kV_need_number dc_need_number pm_need_number an_need_number cd_need_number ct_need_number), sl_need_number⟩)
    (cd_of_need_number : PySem.W.codeIn K cd_need_number "need_number" = true)
    (k_need_number : PySem.W.keepIn K (.ref f_need_number) = true)
    (a_due_seats : PySem.W.nsIn K mainGlobals "due_seats" = some (some (.ref f_due_seats)))
    (l_due_seats : K.lookup f_due_seats = some ⟨oc_due_seats, od_due_seats, .func (PySem.W.fnOf "due_seats" "due_seats" (defArgs s_due_seats) (defBody s_due_seats) (defScope s_due_seats) .none kV_due_seats dc_due_seats pm_due_seats an_due_seats cd_due_seats ct_due_seats), sl_due_seats⟩)
    (cd_of_due_seats : PySem.W.codeIn K cd_due_seats "due_seats" = true)
    (k_due_seats : PySem.W.keepIn K (.ref f_due_seats) = true)
    (a_need_band : PySem.W.nsIn K mainGlobals "need_band" = some (some (.ref f_need_band)))
    (l_need_band : K.lookup f_need_band = some ⟨oc_need_band, od_need_band, .func (PySem.W.fnOf "need_band" "need_band" (defArgs s_need_band) (defBody s_need_band) (defScope s_need_band) .none kV_need_band dc_need_band pm_need_band an_need_band cd_need_band ct_need_band), sl_need_band⟩)
    (cd_of_need_band : PySem.W.codeIn K cd_need_band "need_band" = true)
    (k_need_band : PySem.W.keepIn K (.ref f_need_band) = true)
    (a_need_body : PySem.W.nsIn K mainGlobals "need_body" = some (some (.ref f_need_body)))
    (l_need_body : K.lookup f_need_body = some ⟨oc_need_body, od_need_body, .func (PySem.W.fnOf "need_body" "need_body" (defArgs s_need_body) (defBody s_need_body) (defScope s_need_body) .none kV_need_body dc_need_body pm_need_body an_need_body cd_need_body ct_need_body), sl_need_body⟩)
    (cd_of_need_body : PySem.W.codeIn K cd_need_body "need_body" = true)
    (k_need_body : PySem.W.keepIn K (.ref f_need_body) = true)
    (a_need_question : PySem.W.nsIn K mainGlobals "need_question" = some (some (.ref f_need_question)))
    (l_need_question : K.lookup f_need_question = some ⟨oc_need_question, od_need_question, .func (PySem.W.fnOf "need_question" "need_question" (defArgs s_need_question) (defBody s_need_question) (defScope s_need_question) .none kV_need_question dc_need_question pm_need_question an_need_question cd_need_question ct_need_question), sl_need_question⟩)
    (cd_of_need_question : PySem.W.codeIn K cd_need_question "need_question" = true)
    (k_need_question : PySem.W.keepIn K (.ref f_need_question) = true)
    (l_Turns___init__ : K.lookup f_Turns___init__ = some ⟨oc_Turns___init__, od_Turns___init__, .func (PySem.W.fnOf "__init__" "Turns.__init__" (defArgs s_Turns___init__) (defBody s_Turns___init__) (defScope s_Turns___init__) .none kV_Turns___init__ dc_Turns___init__ pm_Turns___init__ an_Turns___init__ cd_Turns___init__ ct_Turns___init__), sl_Turns___init__⟩)
    (cd_of_Turns___init__ : PySem.W.codeIn K cd_Turns___init__ "Turns.__init__" = true)
    (k_Turns___init__ : PySem.W.keepIn K (.ref f_Turns___init__) = true)
    (l_Stands___init__ : K.lookup f_Stands___init__ = some ⟨oc_Stands___init__, od_Stands___init__, .func (PySem.W.fnOf "__init__" "Stands.__init__" (defArgs s_Stands___init__) (defBody s_Stands___init__) (defScope s_Stands___init__) .none kV_Stands___init__ dc_Stands___init__ pm_Stands___init__ an_Stands___init__ cd_Stands___init__ ct_Stands___init__), sl_Stands___init__⟩)
    (cd_of_Stands___init__ : PySem.W.codeIn K cd_Stands___init__ "Stands.__init__" = true)
    (k_Stands___init__ : PySem.W.keepIn K (.ref f_Stands___init__) = true)
    (l_Steps___init__ : K.lookup f_Steps___init__ = some ⟨oc_Steps___init__, od_Steps___init__, .func (PySem.W.fnOf "__init__" "Steps.__init__" (defArgs s_Steps___init__) (defBody s_Steps___init__) (defScope s_Steps___init__) .none kV_Steps___init__ dc_Steps___init__ pm_Steps___init__ an_Steps___init__ cd_Steps___init__ ct_Steps___init__), sl_Steps___init__⟩)
    (cd_of_Steps___init__ : PySem.W.codeIn K cd_Steps___init__ "Steps.__init__" = true)
    (k_Steps___init__ : PySem.W.keepIn K (.ref f_Steps___init__) = true)
    (a_check_outlive : PySem.W.nsIn K mainGlobals "check_outlive" = some (some (.ref f_check_outlive)))
    (l_check_outlive : K.lookup f_check_outlive = some ⟨oc_check_outlive, od_check_outlive, .func (PySem.W.fnOf "check_outlive" "check_outlive" (defArgs s_check_outlive) (defBody s_check_outlive) (defScope s_check_outlive) .none kV_check_outlive dc_check_outlive pm_check_outlive an_check_outlive cd_check_outlive ct_check_outlive), sl_check_outlive⟩)
    (cd_of_check_outlive : PySem.W.codeIn K cd_check_outlive "check_outlive" = true)
    (k_check_outlive : PySem.W.keepIn K (.ref f_check_outlive) = true)
    (a_need_rows : PySem.W.nsIn K mainGlobals "need_rows" = some (some (.ref f_need_rows)))
    (l_need_rows : K.lookup f_need_rows = some ⟨oc_need_rows, od_need_rows, .func (PySem.W.fnOf "need_rows" "need_rows" (defArgs s_need_rows) (defBody s_need_rows) (defScope s_need_rows) .none kV_need_rows dc_need_rows pm_need_rows an_need_rows cd_need_rows ct_need_rows), sl_need_rows⟩)
    (cd_of_need_rows : PySem.W.codeIn K cd_need_rows "need_rows" = true)
    (k_need_rows : PySem.W.keepIn K (.ref f_need_rows) = true)
    (a_run : PySem.W.nsIn K mainGlobals "run" = some (some (.ref f_run)))
    (l_run : K.lookup f_run = some ⟨oc_run, od_run, .func (PySem.W.fnOf "run" "run" (defArgs s_run) (defBody s_run) (defScope s_run) .none kV_run dc_run pm_run an_run cd_run ct_run), sl_run⟩)
    (cd_of_run : PySem.W.codeIn K cd_run "run" = true)
    (k_run : PySem.W.keepIn K (.ref f_run) = true)
    (a__law_raised_right : PySem.W.nsIn K mainGlobals "_law_raised_right" = some (some (.ref f__law_raised_right)))
    (l__law_raised_right : K.lookup f__law_raised_right = some ⟨oc__law_raised_right, od__law_raised_right, .func (PySem.W.fnOf "_law_raised_right" "_law_raised_right" (defArgs s__law_raised_right) (defBody s__law_raised_right) (defScope s__law_raised_right) .none kV__law_raised_right dc__law_raised_right pm__law_raised_right an__law_raised_right (.ref cc__law_raised_right) ct__law_raised_right), sl__law_raised_right⟩)
    (cd_of__law_raised_right : PySem.W.codeIn K (.ref cc__law_raised_right) "_law_raised_right" = true)
    (k__law_raised_right : PySem.W.keepIn K (.ref f__law_raised_right) = true)
    (a_law : PySem.W.nsIn K mainGlobals "law" = some (some (.ref f_law)))
    (l_law : K.lookup f_law = some ⟨oc_law, od_law, .func (PySem.W.fnOf "law" "law" (defArgs s_law) (defBody s_law) (defScope s_law) .none kV_law dc_law pm_law an_law cd_law ct_law), sl_law⟩)
    (cd_of_law : PySem.W.codeIn K cd_law "law" = true)
    (k_law : PySem.W.keepIn K (.ref f_law) = true)
    (z_int : PySem.W.nsIn K mainGlobals "int" = some none)
    (z_len : PySem.W.nsIn K mainGlobals "len" = some none)
    (z_range : PySem.W.nsIn K mainGlobals "range" = some none)
    (z_enumerate : PySem.W.nsIn K mainGlobals "enumerate" = some none)
    (z_repr : PySem.W.nsIn K mainGlobals "repr" = some none)
    (z_isinstance : PySem.W.nsIn K mainGlobals "isinstance" = some none)
    (z_list : PySem.W.nsIn K mainGlobals "list" = some none)
    (z_bool : PySem.W.nsIn K mainGlobals "bool" = some none)
    (z_str : PySem.W.nsIn K mainGlobals "str" = some none)
    (z_tuple : PySem.W.nsIn K mainGlobals "tuple" = some none)
    (z_zip : PySem.W.nsIn K mainGlobals "zip" = some none)
    (z_sum : PySem.W.nsIn K mainGlobals "sum" = some none)
    (z_all : PySem.W.nsIn K mainGlobals "all" = some none)
    (z_max : PySem.W.nsIn K mainGlobals "max" = some none)
    (z_min : PySem.W.nsIn K mainGlobals "min" = some none)
    (z_any : PySem.W.nsIn K mainGlobals "any" = some none)
    (z_sorted : PySem.W.nsIn K mainGlobals "sorted" = some none)
    (z_ValueError : PySem.W.nsIn K mainGlobals "ValueError" = some none)
    (z_OverflowError : PySem.W.nsIn K mainGlobals "OverflowError" = some none)
    (z_LookupError : PySem.W.nsIn K mainGlobals "LookupError" = some none)
    (z_RuntimeError : PySem.W.nsIn K mainGlobals "RuntimeError" = some none)
    (z_TypeError : PySem.W.nsIn K mainGlobals "TypeError" = some none)
    (tb__law_raised_right : (ts.any fun P => PySem.W.codeHdIn K cc__law_raised_right P && (K.lookup P).isNone) = true)
    : ∃ (fd : FuncData) (cs : List (Addr × Addr)), (∀ p ∈ cs, TabIn ts K p) ∧ (∀ (s : Shared) (v : Value), BindsTo s fd ⟨[v], []⟩ [("script", v)]) ∧ ∀ base : Heap, K.In base → base.Ns mainGlobals mg → (∀ p ∈ cs, TabB base mg p.1 p.2) → FnG l.prog w K mg base CX0 23 fa fd ["script"] (spLawT K (cs.map (·.2))) := by
  have e := hfa.symm.trans (PySem.W.mg_of X G a_law)
  cases e
  have B : Blt mg := ⟨PySem.W.mg_none_of X G z_int, PySem.W.mg_none_of X G z_len, PySem.W.mg_none_of X G z_range, PySem.W.mg_none_of X G z_enumerate, PySem.W.mg_none_of X G z_repr, PySem.W.mg_none_of X G z_isinstance, PySem.W.mg_none_of X G z_list⟩
  have Z : Blt2 mg := ⟨PySem.W.mg_none_of X G z_int, PySem.W.mg_none_of X G z_bool, PySem.W.mg_none_of X G z_str, PySem.W.mg_none_of X G z_tuple, PySem.W.mg_none_of X G z_list, PySem.W.mg_none_of X G z_zip, PySem.W.mg_none_of X G z_sum, PySem.W.mg_none_of X G z_all⟩
  have Y : Blt3 mg := ⟨PySem.W.mg_none_of X G z_max, PySem.W.mg_none_of X G z_min, PySem.W.mg_none_of X G z_any, PySem.W.mg_none_of X G z_sorted⟩
  obtain ⟨P0, hP0, ep0⟩ := List.any_eq_true.mp tb__law_raised_right
  simp only [Bool.and_eq_true] at ep0
  have tq0 : TabIn ts K (cc__law_raised_right, P0) := ⟨hP0, ep0.1, by simpa using ep0.2⟩
  obtain ⟨pT, ept0, ept1, ept2, ept3, ept4, ept5, ept6, ept7, ept8, ept9, ept10, ept11, ept12, ept13⟩ : ∃ pT : String → Addr, pT "ANY" = p_ANY ∧ pT "TIES" = p_TIES ∧ pT "Stands" = p_Stands ∧ pT "Steps" = p_Steps ∧ pT "Turns" = p_Turns ∧ pT "BadBand" = c_BadBand ∧ pT "BadChoices" = c_BadChoices ∧ pT "BadHouse" = c_BadHouse ∧ pT "BadNumber" = c_BadNumber ∧ pT "BadPaper" = c_BadPaper ∧ pT "BadStand" = c_BadStand ∧ pT "SeatError" = c_SeatError ∧ pT "TooGreat" = c_TooGreat ∧ pT "#_law_raised_right" = P0 := ⟨(fun s => if s = "ANY" then p_ANY else if s = "TIES" then p_TIES else if s = "Stands" then p_Stands else if s = "Steps" then p_Steps else if s = "Turns" then p_Turns else if s = "BadBand" then c_BadBand else if s = "BadChoices" then c_BadChoices else if s = "BadHouse" then c_BadHouse else if s = "BadNumber" then c_BadNumber else if s = "BadPaper" then c_BadPaper else if s = "BadStand" then c_BadStand else if s = "SeatError" then c_SeatError else if s = "TooGreat" then c_TooGreat else P0), rfl, rfl, rfl, rfl, rfl, rfl, rfl, rfl, rfl, rfl, rfl, rfl, rfl, rfl⟩
  subst ept0 ept1 ept2 ept3 ept4 ept5 ept6 ept7 ept8 ept9 ept10 ept11 ept12 ept13
  have i_ANY : Dt K (fun _ => none) (.ref (pT "ANY")) cANY := .tup (xs := [.non, .int 1]) (Or.inr ⟨_, _, _, x_ANY, rfl, rfl, sz1 (show 2 ≤ 100000 by decide), .cons rfl (.cons ⟨_, rfl⟩ (.nil))⟩) (.cons (.non) (.cons (.int _) (.nil)))
  have i_TIES : Dt K (fun _ => none) (.ref (pT "TIES")) cTIES := .tup (xs := [.str "a", .str "b", .str "kept"]) (Or.inr ⟨_, _, _, x_TIES, rfl, rfl, sz1 (show 3 ≤ 100000 by decide), .cons ⟨_, rfl⟩ (.cons ⟨_, rfl⟩ (.cons ⟨_, rfl⟩ (.nil)))⟩) (.cons (.str _) (.cons (.str _) (.cons (.str _) (.nil))))
  have C : Cst K mg pT := ⟨PySem.W.mg_of X G a_ANY, i_ANY, ⟨_, PySem.W.mg_of X G a_LAST_YEAR⟩, ⟨_, PySem.W.mg_of X G a_MOST_BODIES⟩, ⟨_, PySem.W.mg_of X G a_MOST_GAP⟩, ⟨_, PySem.W.mg_of X G a_MOST_ROUND⟩, ⟨_, PySem.W.mg_of X G a_MOST_ROWS⟩, ⟨_, PySem.W.mg_of X G a_MOST_SEATS⟩, ⟨_, PySem.W.mg_of X G a_MOST_TERM⟩, ⟨_, PySem.W.mg_of X G a_MOST_WARDS⟩, PySem.W.mg_of X G a_TIES, i_TIES⟩
  have oSeatError : OexC K (pT "SeatError") := ⟨⟨_, _, _, _, _, _, _, _, _, _, _, _, _, _, _, xLSeatError, rfl⟩, saSeatError, eCSeatError, ty_SeatError, kCSeatError⟩
  have xSeatError : ExcC K (pT "SeatError") := ⟨hgSeatError, hkSeatError, eCSeatError, hdSeatError, haSeatError, hn, ht, hmSeatError⟩
  have XX : Ctx K mg pT := ⟨B, Z, Y, C, PySem.W.mg_of X G a_lcm, PySem.W.mg_none_of X G z_min, ⟨pg_Stands, hd_Stands, po_Stands, sa_Stands⟩, PySem.W.mg_of X G aC_Stands, ⟨pg_Steps, hd_Steps, po_Steps, sa_Steps⟩, PySem.W.mg_of X G aC_Steps, ⟨pg_Turns, hd_Turns, po_Turns, sa_Turns⟩, PySem.W.mg_of X G aC_Turns, no_Stands_given_house, no_Stands_known, no_Stands_known_more, no_Stands_rows, no_Stands_years, no_Steps_band, no_Steps_full, no_Steps_given_house, no_Steps_stands, no_Steps_turns, no_Steps_years, no_Turns_band, no_Turns_known, no_Turns_rows, no_Turns_telling, PySem.W.mg_none_of X G z_ValueError, PySem.W.mg_none_of X G z_OverflowError, PySem.W.mg_none_of X G z_LookupError, PySem.W.mg_none_of X G z_RuntimeError, PySem.W.mg_none_of X G z_TypeError, oSeatError, iCSeatError, PySem.W.mg_of X G a_BadBand, PySem.W.mg_of X G a_BadChoices, PySem.W.mg_of X G a_BadHouse, PySem.W.mg_of X G a_BadNumber, PySem.W.mg_of X G a_BadPaper, PySem.W.mg_of X G a_BadStand, PySem.W.mg_of X G a_SeatError, PySem.W.mg_of X G a_TooGreat⟩
  have oBadBand : OexC K (pT "BadBand") := ⟨⟨_, _, _, _, _, _, _, _, _, _, _, _, _, _, _, xLBadBand, rfl⟩, saBadBand, eCBadBand, ty_BadBand, kCBadBand⟩
  have xBadBand : ExcC K (pT "BadBand") := ⟨hgBadBand, hkBadBand, eCBadBand, hdBadBand, haBadBand, hn, ht, hmBadBand⟩
  have FIBadBand := fun_mk (st := sIniBadBand) lIBadBand cdI_BadBand kIBadBand
  have bIBadBand := FIBadBand.binds (ps := ["self", "part"]) fun _ _ _ _ _ _ us hl => match us, hl with | [_, _], _ => rfl
  have kwBadBand : KwB (PySem.W.fnOf "__init__" "BadBand.__init__" (defArgs sIniBadBand) (defBody sIniBadBand) (defScope sIniBadBand) .none kVIBadBand dcIBadBand pmIBadBand anIBadBand cdIBadBand ctIBadBand) ["self", "part"] ["part"] id id := ⟨fun s self ws hl => match ws, hl with | [_], _ => .of_eq rfl, fun r => r⟩
  have oBadChoices : OexC K (pT "BadChoices") := ⟨⟨_, _, _, _, _, _, _, _, _, _, _, _, _, _, _, xLBadChoices, rfl⟩, saBadChoices, eCBadChoices, ty_BadChoices, kCBadChoices⟩
  have xBadChoices : ExcC K (pT "BadChoices") := ⟨hgBadChoices, hkBadChoices, eCBadChoices, hdBadChoices, haBadChoices, hn, ht, hmBadChoices⟩
  have FIBadChoices := fun_mk (st := sIniBadChoices) lIBadChoices cdI_BadChoices kIBadChoices
  have bIBadChoices := FIBadChoices.binds (ps := ["self", "place"]) fun _ _ _ _ _ _ us hl => match us, hl with | [_, _], _ => rfl
  have kwBadChoices : KwB (PySem.W.fnOf "__init__" "BadChoices.__init__" (defArgs sIniBadChoices) (defBody sIniBadChoices) (defScope sIniBadChoices) .none kVIBadChoices dcIBadChoices pmIBadChoices anIBadChoices cdIBadChoices ctIBadChoices) ["self", "place"] ["place"] id id := ⟨fun s self ws hl => match ws, hl with | [_], _ => .of_eq rfl, fun r => r⟩
  have oBadHouse : OexC K (pT "BadHouse") := ⟨⟨_, _, _, _, _, _, _, _, _, _, _, _, _, _, _, xLBadHouse, rfl⟩, saBadHouse, eCBadHouse, ty_BadHouse, kCBadHouse⟩
  have xBadHouse : ExcC K (pT "BadHouse") := ⟨hgBadHouse, hkBadHouse, eCBadHouse, hdBadHouse, haBadHouse, hn, ht, hmBadHouse⟩
  have FIBadHouse := fun_mk (st := sIniBadHouse) lIBadHouse cdI_BadHouse kIBadHouse
  have bIBadHouse := FIBadHouse.binds (ps := ["self", "place"]) fun _ _ _ _ _ _ us hl => match us, hl with | [_, _], _ => rfl
  have kwBadHouse : KwB (PySem.W.fnOf "__init__" "BadHouse.__init__" (defArgs sIniBadHouse) (defBody sIniBadHouse) (defScope sIniBadHouse) .none kVIBadHouse dcIBadHouse pmIBadHouse anIBadHouse cdIBadHouse ctIBadHouse) ["self", "place"] ["place"] id id := ⟨fun s self ws hl => match ws, hl with | [_], _ => .of_eq rfl, fun r => r⟩
  have oBadNumber : OexC K (pT "BadNumber") := ⟨⟨_, _, _, _, _, _, _, _, _, _, _, _, _, _, _, xLBadNumber, rfl⟩, saBadNumber, eCBadNumber, ty_BadNumber, kCBadNumber⟩
  have xBadNumber : ExcC K (pT "BadNumber") := ⟨hgBadNumber, hkBadNumber, eCBadNumber, hdBadNumber, haBadNumber, hn, ht, hmBadNumber⟩
  have FIBadNumber := fun_mk (st := sIniBadNumber) lIBadNumber cdI_BadNumber kIBadNumber
  have bIBadNumber := FIBadNumber.binds (ps := ["self", "value"]) fun _ _ _ _ _ _ us hl => match us, hl with | [_, _], _ => rfl
  have kwBadNumber : KwB (PySem.W.fnOf "__init__" "BadNumber.__init__" (defArgs sIniBadNumber) (defBody sIniBadNumber) (defScope sIniBadNumber) .none kVIBadNumber dcIBadNumber pmIBadNumber anIBadNumber cdIBadNumber ctIBadNumber) ["self", "value"] ["value"] id id := ⟨fun s self ws hl => match ws, hl with | [_], _ => .of_eq rfl, fun r => r⟩
  have oBadPaper : OexC K (pT "BadPaper") := ⟨⟨_, _, _, _, _, _, _, _, _, _, _, _, _, _, _, xLBadPaper, rfl⟩, saBadPaper, eCBadPaper, ty_BadPaper, kCBadPaper⟩
  have xBadPaper : ExcC K (pT "BadPaper") := ⟨hgBadPaper, hkBadPaper, eCBadPaper, hdBadPaper, haBadPaper, hn, ht, hmBadPaper⟩
  have FIBadPaper := fun_mk (st := sIniBadPaper) lIBadPaper cdI_BadPaper kIBadPaper
  have bIBadPaper := FIBadPaper.binds (ps := ["self", "word"]) fun _ _ _ _ _ _ us hl => match us, hl with | [_, _], _ => rfl
  have kwBadPaper : KwB (PySem.W.fnOf "__init__" "BadPaper.__init__" (defArgs sIniBadPaper) (defBody sIniBadPaper) (defScope sIniBadPaper) .none kVIBadPaper dcIBadPaper pmIBadPaper anIBadPaper cdIBadPaper ctIBadPaper) ["self", "word"] ["word"] id id := ⟨fun s self ws hl => match ws, hl with | [_], _ => .of_eq rfl, fun r => r⟩
  have oBadStand : OexC K (pT "BadStand") := ⟨⟨_, _, _, _, _, _, _, _, _, _, _, _, _, _, _, xLBadStand, rfl⟩, saBadStand, eCBadStand, ty_BadStand, kCBadStand⟩
  have xBadStand : ExcC K (pT "BadStand") := ⟨hgBadStand, hkBadStand, eCBadStand, hdBadStand, haBadStand, hn, ht, hmBadStand⟩
  have FIBadStand := fun_mk (st := sIniBadStand) lIBadStand cdI_BadStand kIBadStand
  have bIBadStand := FIBadStand.binds (ps := ["self", "value"]) fun _ _ _ _ _ _ us hl => match us, hl with | [_, _], _ => rfl
  have kwBadStand : KwB (PySem.W.fnOf "__init__" "BadStand.__init__" (defArgs sIniBadStand) (defBody sIniBadStand) (defScope sIniBadStand) .none kVIBadStand dcIBadStand pmIBadStand anIBadStand cdIBadStand ctIBadStand) ["self", "value"] ["value"] id id := ⟨fun s self ws hl => match ws, hl with | [_], _ => .of_eq rfl, fun r => r⟩
  have oTooGreat : OofC K (pT "TooGreat") := ⟨⟨_, _, _, _, _, _, _, _, _, _, _, _, _, _, _, xLTooGreat, rfl⟩, saTooGreat, kCTooGreat⟩
  have xTooGreat : ExcC K (pT "TooGreat") := ⟨hgTooGreat, hkTooGreat, eCTooGreat, hdTooGreat, haTooGreat, hn, ht, hmTooGreat⟩
  have FITooGreat := fun_mk (st := sIniTooGreat) lITooGreat cdI_TooGreat kITooGreat
  have bITooGreat := FITooGreat.binds (ps := ["self", "most"]) fun _ _ _ _ _ _ us hl => match us, hl with | [_, _], _ => rfl
  have kwTooGreat : KwB (PySem.W.fnOf "__init__" "TooGreat.__init__" (defArgs sIniTooGreat) (defBody sIniTooGreat) (defScope sIniTooGreat) .none kVITooGreat dcITooGreat pmITooGreat anITooGreat cdITooGreat ctITooGreat) ["self", "most"] ["most"] id id := ⟨fun s self ws hl => match ws, hl with | [_], _ => .of_eq rfl, fun r => r⟩
  have XX0 : XF K pT := ⟨xBadHouse, noBadHouse_place, PySem.W.exm_ref eB_SeatError hdB_SeatError ty_SeatError sBadHouse_SeatError, xBadStand, noBadStand_value, PySem.W.exm_ref eB_SeatError hdB_SeatError ty_SeatError sBadStand_SeatError, xBadChoices, noBadChoices_place, PySem.W.exm_ref eB_SeatError hdB_SeatError ty_SeatError sBadChoices_SeatError, xBadBand, noBadBand_part, PySem.W.exm_ref eB_SeatError hdB_SeatError ty_SeatError sBadBand_SeatError, xBadNumber, noBadNumber_value, PySem.W.exm_ref eB_SeatError hdB_SeatError ty_SeatError sBadNumber_SeatError, xBadPaper, noBadPaper_word, PySem.W.exm_ref eB_SeatError hdB_SeatError ty_SeatError sBadPaper_SeatError, xTooGreat, noTooGreat_most, PySem.W.exm_ref eB_SeatError hdB_SeatError ty_SeatError sTooGreat_SeatError, PySem.W.exm_ref eB_TooGreat hdB_TooGreat ty_TooGreat sTooGreat_TooGreat, kit_ref ic_SeatError ty_SeatError sBadHouse_SeatError sBadHouse_BadHouse, kit_ref ic_BadHouse ty_BadHouse sBadHouse_BadHouse sBadHouse_BadHouse, kit_ref ic_BadStand ty_BadStand sBadHouse_BadStand sBadHouse_BadHouse, kit_ref ic_BadChoices ty_BadChoices sBadHouse_BadChoices sBadHouse_BadHouse, kit_ref ic_BadBand ty_BadBand sBadHouse_BadBand sBadHouse_BadHouse, kit_ref ic_BadNumber ty_BadNumber sBadHouse_BadNumber sBadHouse_BadHouse, kit_ref ic_BadPaper ty_BadPaper sBadHouse_BadPaper sBadHouse_BadHouse, kit_ref ic_TooGreat ty_TooGreat sBadHouse_TooGreat sBadHouse_BadHouse, kit_type (by decide +kernel) sBadHouse_ValueError, kit_type (by decide +kernel) sBadHouse_OverflowError, kit_type (by decide +kernel) sBadHouse_LookupError, kit_type (by decide +kernel) sBadHouse_RuntimeError, kit_type (by decide +kernel) sBadHouse_TypeError, kit_ref ic_SeatError ty_SeatError sBadStand_SeatError sBadStand_BadStand, kit_ref ic_BadHouse ty_BadHouse sBadStand_BadHouse sBadStand_BadStand, kit_ref ic_BadStand ty_BadStand sBadStand_BadStand sBadStand_BadStand, kit_ref ic_BadChoices ty_BadChoices sBadStand_BadChoices sBadStand_BadStand, kit_ref ic_BadBand ty_BadBand sBadStand_BadBand sBadStand_BadStand, kit_ref ic_BadNumber ty_BadNumber sBadStand_BadNumber sBadStand_BadStand, kit_ref ic_BadPaper ty_BadPaper sBadStand_BadPaper sBadStand_BadStand, kit_ref ic_TooGreat ty_TooGreat sBadStand_TooGreat sBadStand_BadStand, kit_type (by decide +kernel) sBadStand_ValueError, kit_type (by decide +kernel) sBadStand_OverflowError, kit_type (by decide +kernel) sBadStand_LookupError, kit_type (by decide +kernel) sBadStand_RuntimeError, kit_type (by decide +kernel) sBadStand_TypeError, kit_ref ic_SeatError ty_SeatError sBadChoices_SeatError sBadChoices_BadChoices, kit_ref ic_BadHouse ty_BadHouse sBadChoices_BadHouse sBadChoices_BadChoices, kit_ref ic_BadStand ty_BadStand sBadChoices_BadStand sBadChoices_BadChoices, kit_ref ic_BadChoices ty_BadChoices sBadChoices_BadChoices sBadChoices_BadChoices, kit_ref ic_BadBand ty_BadBand sBadChoices_BadBand sBadChoices_BadChoices, kit_ref ic_BadNumber ty_BadNumber sBadChoices_BadNumber sBadChoices_BadChoices, kit_ref ic_BadPaper ty_BadPaper sBadChoices_BadPaper sBadChoices_BadChoices, kit_ref ic_TooGreat ty_TooGreat sBadChoices_TooGreat sBadChoices_BadChoices, kit_type (by decide +kernel) sBadChoices_ValueError, kit_type (by decide +kernel) sBadChoices_OverflowError, kit_type (by decide +kernel) sBadChoices_LookupError, kit_type (by decide +kernel) sBadChoices_RuntimeError, kit_type (by decide +kernel) sBadChoices_TypeError, kit_ref ic_SeatError ty_SeatError sBadBand_SeatError sBadBand_BadBand, kit_ref ic_BadHouse ty_BadHouse sBadBand_BadHouse sBadBand_BadBand, kit_ref ic_BadStand ty_BadStand sBadBand_BadStand sBadBand_BadBand, kit_ref ic_BadChoices ty_BadChoices sBadBand_BadChoices sBadBand_BadBand, kit_ref ic_BadBand ty_BadBand sBadBand_BadBand sBadBand_BadBand, kit_ref ic_BadNumber ty_BadNumber sBadBand_BadNumber sBadBand_BadBand, kit_ref ic_BadPaper ty_BadPaper sBadBand_BadPaper sBadBand_BadBand, kit_ref ic_TooGreat ty_TooGreat sBadBand_TooGreat sBadBand_BadBand, kit_type (by decide +kernel) sBadBand_ValueError, kit_type (by decide +kernel) sBadBand_OverflowError, kit_type (by decide +kernel) sBadBand_LookupError, kit_type (by decide +kernel) sBadBand_RuntimeError, kit_type (by decide +kernel) sBadBand_TypeError, kit_ref ic_SeatError ty_SeatError sBadNumber_SeatError sBadNumber_BadNumber, kit_ref ic_BadHouse ty_BadHouse sBadNumber_BadHouse sBadNumber_BadNumber, kit_ref ic_BadStand ty_BadStand sBadNumber_BadStand sBadNumber_BadNumber, kit_ref ic_BadChoices ty_BadChoices sBadNumber_BadChoices sBadNumber_BadNumber, kit_ref ic_BadBand ty_BadBand sBadNumber_BadBand sBadNumber_BadNumber, kit_ref ic_BadNumber ty_BadNumber sBadNumber_BadNumber sBadNumber_BadNumber, kit_ref ic_BadPaper ty_BadPaper sBadNumber_BadPaper sBadNumber_BadNumber, kit_ref ic_TooGreat ty_TooGreat sBadNumber_TooGreat sBadNumber_BadNumber, kit_type (by decide +kernel) sBadNumber_ValueError, kit_type (by decide +kernel) sBadNumber_OverflowError, kit_type (by decide +kernel) sBadNumber_LookupError, kit_type (by decide +kernel) sBadNumber_RuntimeError, kit_type (by decide +kernel) sBadNumber_TypeError, kit_ref ic_SeatError ty_SeatError sBadPaper_SeatError sBadPaper_BadPaper, kit_ref ic_BadHouse ty_BadHouse sBadPaper_BadHouse sBadPaper_BadPaper, kit_ref ic_BadStand ty_BadStand sBadPaper_BadStand sBadPaper_BadPaper, kit_ref ic_BadChoices ty_BadChoices sBadPaper_BadChoices sBadPaper_BadPaper, kit_ref ic_BadBand ty_BadBand sBadPaper_BadBand sBadPaper_BadPaper, kit_ref ic_BadNumber ty_BadNumber sBadPaper_BadNumber sBadPaper_BadPaper, kit_ref ic_BadPaper ty_BadPaper sBadPaper_BadPaper sBadPaper_BadPaper, kit_ref ic_TooGreat ty_TooGreat sBadPaper_TooGreat sBadPaper_BadPaper, kit_type (by decide +kernel) sBadPaper_ValueError, kit_type (by decide +kernel) sBadPaper_OverflowError, kit_type (by decide +kernel) sBadPaper_LookupError, kit_type (by decide +kernel) sBadPaper_RuntimeError, kit_type (by decide +kernel) sBadPaper_TypeError, kit_ref ic_SeatError ty_SeatError sTooGreat_SeatError sTooGreat_TooGreat, kit_ref ic_BadHouse ty_BadHouse sTooGreat_BadHouse sTooGreat_TooGreat, kit_ref ic_BadStand ty_BadStand sTooGreat_BadStand sTooGreat_TooGreat, kit_ref ic_BadChoices ty_BadChoices sTooGreat_BadChoices sTooGreat_TooGreat, kit_ref ic_BadBand ty_BadBand sTooGreat_BadBand sTooGreat_TooGreat, kit_ref ic_BadNumber ty_BadNumber sTooGreat_BadNumber sTooGreat_TooGreat, kit_ref ic_BadPaper ty_BadPaper sTooGreat_BadPaper sTooGreat_TooGreat, kit_ref ic_TooGreat ty_TooGreat sTooGreat_TooGreat sTooGreat_TooGreat, kit_type (by decide +kernel) sTooGreat_ValueError, kit_type (by decide +kernel) sTooGreat_OverflowError, kit_type (by decide +kernel) sTooGreat_LookupError, kit_type (by decide +kernel) sTooGreat_RuntimeError, kit_type (by decide +kernel) sTooGreat_TypeError, xSeatError, kit_ref ic_SeatError ty_SeatError sSeatError_SeatError sSeatError_SeatError, kit_ref ic_BadHouse ty_BadHouse sSeatError_BadHouse sSeatError_SeatError, kit_ref ic_BadStand ty_BadStand sSeatError_BadStand sSeatError_SeatError, kit_ref ic_BadChoices ty_BadChoices sSeatError_BadChoices sSeatError_SeatError, kit_ref ic_BadBand ty_BadBand sSeatError_BadBand sSeatError_SeatError, kit_ref ic_BadNumber ty_BadNumber sSeatError_BadNumber sSeatError_SeatError, kit_ref ic_BadPaper ty_BadPaper sSeatError_BadPaper sSeatError_SeatError, kit_ref ic_TooGreat ty_TooGreat sSeatError_TooGreat sSeatError_SeatError, kit_type (by decide +kernel) sSeatError_ValueError, kit_type (by decide +kernel) sSeatError_OverflowError, kit_type (by decide +kernel) sSeatError_LookupError, kit_type (by decide +kernel) sSeatError_RuntimeError, kit_type (by decide +kernel) sSeatError_TypeError⟩
  have F__law_mixed := fun_mk (st := sMixed) l__law_mixed cd_of__law_mixed k__law_mixed
  have b__law_mixed := F__law_mixed.binds (ps := ["cell", "n"]) fun _ _ _ _ _ _ us hl => match us, hl with | [_, _], _ => rfl
  have g__law_mixed := PySem.W.mg_of X G a__law_mixed
  have F__law_folded := fun_mk (st := sFolded) l__law_folded cd_of__law_folded k__law_folded
  have b__law_folded := F__law_folded.binds (ps := ["script"]) fun _ _ _ _ _ _ us hl => match us, hl with | [_], _ => rfl
  have g__law_folded := PySem.W.mg_of X G a__law_folded
  have F__law_draw := fun_mk (st := sDraw) l__law_draw cd_of__law_draw k__law_draw
  have b__law_draw := F__law_draw.binds (ps := ["m", "limit"]) fun _ _ _ _ _ _ us hl => match us, hl with | [_, _], _ => rfl
  have g__law_draw := PySem.W.mg_of X G a__law_draw
  have F__law_begun := fun_mk (st := sBegun) l__law_begun cd_of__law_begun k__law_begun
  have b__law_begun := F__law_begun.binds (ps := ["script"]) fun _ _ _ _ _ _ us hl => match us, hl with | [_], _ => rfl
  have g__law_begun := PySem.W.mg_of X G a__law_begun
  have F__law_odds := fun_mk (st := sOdds) l__law_odds cd_of__law_odds k__law_odds
  have b__law_odds := F__law_odds.binds (ps := []) fun _ _ _ _ _ _ us hl => match us, hl with | [], _ => rfl
  have g__law_odds := PySem.W.mg_of X G a__law_odds
  have F__law_like := fun_mk (st := s__law_like) l__law_like cd_of__law_like k__law_like
  have b__law_like := F__law_like.binds (ps := ["heard", "due"]) fun _ _ _ _ _ _ us hl => match us, hl with | [_, _], _ => rfl
  have g__law_like := PySem.W.mg_of X G a__law_like
  have F__law_of := fun_mk (st := s__law_of) l__law_of cd_of__law_of k__law_of
  have b__law_of := F__law_of.binds (ps := ["m", "some"]) fun _ _ _ _ _ _ us hl => match us, hl with | [_, _], _ => rfl
  have g__law_of := PySem.W.mg_of X G a__law_of
  have F_is_whole := fun_mk (st := s_is_whole) l_is_whole cd_of_is_whole k_is_whole
  have b_is_whole := F_is_whole.binds (ps := ["value", "least", "most"]) fun _ _ _ _ _ _ us hl => match us, hl with | [_, _, _], _ => rfl
  have g_is_whole := PySem.W.mg_of X G a_is_whole
  have F_is_tuple := fun_mk (st := s_is_tuple) l_is_tuple cd_of_is_tuple k_is_tuple
  have b_is_tuple := F_is_tuple.binds (ps := ["value", "least", "most"]) fun _ _ _ _ _ _ us hl => match us, hl with | [_, _, _], _ => rfl
  have g_is_tuple := PySem.W.mg_of X G a_is_tuple
  have F_is_word := fun_mk (st := s_is_word) l_is_word cd_of_is_word k_is_word
  have b_is_word := F_is_word.binds (ps := ["value", "words"]) fun _ _ _ _ _ _ us hl => match us, hl with | [_, _], _ => rfl
  have g_is_word := PySem.W.mg_of X G a_is_word
  have F_is_way := fun_mk (st := s_is_way) l_is_way cd_of_is_way k_is_way
  have b_is_way := F_is_way.binds (ps := ["value", "many_bodies", "wards"]) fun _ _ _ _ _ _ us hl => match us, hl with | [_, _, _], _ => rfl
  have g_is_way := PySem.W.mg_of X G a_is_way
  have F_is_seat := fun_mk (st := s_is_seat) l_is_seat cd_of_is_seat k_is_seat
  have b_is_seat := F_is_seat.binds (ps := ["value", "many_bodies", "wards"]) fun _ _ _ _ _ _ us hl => match us, hl with | [_, _, _], _ => rfl
  have g_is_seat := PySem.W.mg_of X G a_is_seat
  have F_is_sides := fun_mk (st := s_is_sides) l_is_sides cd_of_is_sides k_is_sides
  have b_is_sides := F_is_sides.binds (ps := ["value", "many"]) fun _ _ _ _ _ _ us hl => match us, hl with | [_, _], _ => rfl
  have g_is_sides := PySem.W.mg_of X G a_is_sides
  have F_is_stand := fun_mk (st := s_is_stand) l_is_stand cd_of_is_stand k_is_stand
  have b_is_stand := F_is_stand.binds (ps := ["house", "value"]) fun _ _ _ _ _ _ us hl => match us, hl with | [_, _], _ => rfl
  have g_is_stand := PySem.W.mg_of X G a_is_stand
  have F_common_term := fun_mk (st := s_common_term) l_common_term cd_of_common_term k_common_term
  have b_common_term := F_common_term.binds (ps := ["bodies"]) fun _ _ _ _ _ _ us hl => match us, hl with | [_], _ => rfl
  have g_common_term := PySem.W.mg_of X G a_common_term
  have F_all_choices := fun_mk (st := s_all_choices) l_all_choices cd_of_all_choices k_all_choices
  have b_all_choices := F_all_choices.binds (ps := ["wards"]) fun _ _ _ _ _ _ us hl => match us, hl with | [_], _ => rfl
  have g_all_choices := PySem.W.mg_of X G a_all_choices
  have F_first_state := fun_mk (st := s_first_state) l_first_state cd_of_first_state k_first_state
  have b_first_state := F_first_state.binds (ps := ["stand"]) fun _ _ _ _ _ _ us hl => match us, hl with | [_], _ => rfl
  have g_first_state := PySem.W.mg_of X G a_first_state
  have F__law_marks := fun_mk (st := s__law_marks) l__law_marks cd_of__law_marks k__law_marks
  have b__law_marks := F__law_marks.binds (ps := ["error"]) fun _ _ _ _ _ _ us hl => match us, hl with | [_], _ => rfl
  have g__law_marks := PySem.W.mg_of X G a__law_marks
  have F__law_above := fun_mk (st := s__law_above) l__law_above cd_of__law_above k__law_above
  have b__law_above := F__law_above.binds (ps := ["error"]) fun _ _ _ _ _ _ us hl => match us, hl with | [_], _ => rfl
  have g__law_above := PySem.W.mg_of X G a__law_above
  have F__law_made_right := fun_mk (st := s__law_made_right) l__law_made_right cd_of__law_made_right k__law_made_right
  have b__law_made_right := F__law_made_right.binds (ps := ["thing"]) fun _ _ _ _ _ _ us hl => match us, hl with | [_], _ => rfl
  have g__law_made_right := PySem.W.mg_of X G a__law_made_right
  have F__law_raised := fun_mk (st := s__law_raised) l__law_raised cd_of__law_raised k__law_raised
  have b__law_raised := F__law_raised.binds (ps := ["call"]) fun _ _ _ _ _ _ us hl => match us, hl with | [_], _ => rfl
  have g__law_raised := PySem.W.mg_of X G a__law_raised
  have F__need_seats := fun_mk (st := s__need_seats) l__need_seats cd_of__need_seats k__need_seats
  have b__need_seats := F__need_seats.binds (ps := ["body", "number", "many_bodies", "wards"]) fun _ _ _ _ _ _ us hl => match us, hl with | [_, _, _, _], _ => rfl
  have g__need_seats := PySem.W.mg_of X G a__need_seats
  have F_need_house := fun_mk (st := s_need_house) l_need_house cd_of_need_house k_need_house
  have b_need_house := F_need_house.binds (ps := ["house"]) fun _ _ _ _ _ _ us hl => match us, hl with | [_], _ => rfl
  have g_need_house := PySem.W.mg_of X G a_need_house
  have F_need_stand := fun_mk (st := s_need_stand) l_need_stand cd_of_need_stand k_need_stand
  have b_need_stand := F_need_stand.binds (ps := ["house", "stand"]) fun _ _ _ _ _ _ us hl => match us, hl with | [_, _], _ => rfl
  have g_need_stand := PySem.W.mg_of X G a_need_stand
  have F_need_number := fun_mk (st := s_need_number) l_need_number cd_of_need_number k_need_number
  have b_need_number := F_need_number.binds (ps := ["number"]) fun _ _ _ _ _ _ us hl => match us, hl with | [_], _ => rfl
  have g_need_number := PySem.W.mg_of X G a_need_number
  have F_due_seats := fun_mk (st := s_due_seats) l_due_seats cd_of_due_seats k_due_seats
  have b_due_seats := F_due_seats.binds (ps := ["house", "number"]) fun _ _ _ _ _ _ us hl => match us, hl with | [_, _], _ => rfl
  have g_due_seats := PySem.W.mg_of X G a_due_seats
  have F_need_band := fun_mk (st := s_need_band) l_need_band cd_of_need_band k_need_band
  have b_need_band := F_need_band.binds (ps := ["band"]) fun _ _ _ _ _ _ us hl => match us, hl with | [_], _ => rfl
  have g_need_band := PySem.W.mg_of X G a_need_band
  have F_need_body := fun_mk (st := s_need_body) l_need_body cd_of_need_body k_need_body
  have b_need_body := F_need_body.binds (ps := ["house", "body"]) fun _ _ _ _ _ _ us hl => match us, hl with | [_, _], _ => rfl
  have g_need_body := PySem.W.mg_of X G a_need_body
  have F_need_question := fun_mk (st := s_need_question) l_need_question cd_of_need_question k_need_question
  have b_need_question := F_need_question.binds (ps := ["house", "stand", "band", "body"]) fun _ _ _ _ _ _ us hl => match us, hl with | [_, _, _, _], _ => rfl
  have g_need_question := PySem.W.mg_of X G a_need_question
  have F_Turns___init__ := fun_mk (st := s_Turns___init__) l_Turns___init__ cd_of_Turns___init__ k_Turns___init__
  have b_Turns___init__ := F_Turns___init__.binds (ps := ["self", "wards", "band", "telling"]) fun _ _ _ _ _ _ us hl => match us, hl with | [_, _, _, _], _ => rfl
  have F_Stands___init__ := fun_mk (st := s_Stands___init__) l_Stands___init__ cd_of_Stands___init__ k_Stands___init__
  have b_Stands___init__ := F_Stands___init__.binds (ps := ["self", "house"]) fun _ _ _ _ _ _ us hl => match us, hl with | [_, _], _ => rfl
  have F_Steps___init__ := fun_mk (st := s_Steps___init__) l_Steps___init__ cd_of_Steps___init__ k_Steps___init__
  have b_Steps___init__ := F_Steps___init__.binds (ps := ["self", "house", "band", "full"]) fun _ _ _ _ _ _ us hl => match us, hl with | [_, _, _, _], _ => rfl
  have F_check_outlive := fun_mk (st := s_check_outlive) l_check_outlive cd_of_check_outlive k_check_outlive
  have b_check_outlive := F_check_outlive.binds (ps := ["house", "stand", "band", "body", "paper"]) fun _ _ _ _ _ _ us hl => match us, hl with | [_, _, _, _, _], _ => rfl
  have g_check_outlive := PySem.W.mg_of X G a_check_outlive
  have F_need_rows := fun_mk (st := s_need_rows) l_need_rows cd_of_need_rows k_need_rows
  have b_need_rows := F_need_rows.binds (ps := ["house", "rows"]) fun _ _ _ _ _ _ us hl => match us, hl with | [_, _], _ => rfl
  have g_need_rows := PySem.W.mg_of X G a_need_rows
  have F_run := fun_mk (st := s_run) l_run cd_of_run k_run
  have b_run := F_run.binds (ps := ["house", "stand", "rows"]) fun _ _ _ _ _ _ us hl => match us, hl with | [_, _, _], _ => rfl
  have g_run := PySem.W.mg_of X G a_run
  have F__law_raised_right := funC_mk (st := s__law_raised_right) l__law_raised_right cd_of__law_raised_right k__law_raised_right
  have b__law_raised_right := F__law_raised_right.fun.binds (ps := []) fun _ _ _ _ _ _ us hl => match us, hl with | [], _ => rfl
  have g__law_raised_right := PySem.W.mg_of X G a__law_raised_right
  have F_law := fun_mk (st := s_law) l_law cd_of_law k_law
  have b_law := F_law.binds (ps := ["script"]) fun _ _ _ _ _ _ us hl => match us, hl with | [_], _ => rfl
  have g_law := PySem.W.mg_of X G a_law
  refine ⟨PySem.W.fnOf "law" "law" (defArgs s_law) (defBody s_law) (defScope s_law) .none kV_law dc_law pm_law an_law cd_law ct_law, [(cc__law_raised_right, (pT "#_law_raised_right"))], fun p hp => ?_, fun s v => .of_eq rfl, fun base _ _ hTB => ?_⟩
  · simp only [List.mem_cons, List.not_mem_nil, or_false] at hp
    rcases hp with rfl
    · exact tq0
  have TB__law_raised_right := hTB (cc__law_raised_right, (pT "#_law_raised_right")) (by simp)
  have E_BadBand : Xc l.prog w K mg base "BadBand" "part" (pT "BadBand") i_BadBand _ := ⟨oBadBand, xBadBand, iCBadBand, tIBadBand, ok_iniBadBand FIBadBand oBadBand noBadBand_part, bIBadBand, kwBadBand, PySem.W.mg_of X G a_BadBand, noBadBand_part⟩
  have E_BadChoices : Xc l.prog w K mg base "BadChoices" "place" (pT "BadChoices") i_BadChoices _ := ⟨oBadChoices, xBadChoices, iCBadChoices, tIBadChoices, ok_iniBadChoices FIBadChoices oBadChoices noBadChoices_place, bIBadChoices, kwBadChoices, PySem.W.mg_of X G a_BadChoices, noBadChoices_place⟩
  have E_BadHouse : Xc l.prog w K mg base "BadHouse" "place" (pT "BadHouse") i_BadHouse _ := ⟨oBadHouse, xBadHouse, iCBadHouse, tIBadHouse, ok_iniBadHouse FIBadHouse oBadHouse noBadHouse_place, bIBadHouse, kwBadHouse, PySem.W.mg_of X G a_BadHouse, noBadHouse_place⟩
  have E_BadNumber : Xc l.prog w K mg base "BadNumber" "value" (pT "BadNumber") i_BadNumber _ := ⟨oBadNumber, xBadNumber, iCBadNumber, tIBadNumber, ok_iniBadNumber FIBadNumber oBadNumber noBadNumber_value, bIBadNumber, kwBadNumber, PySem.W.mg_of X G a_BadNumber, noBadNumber_value⟩
  have E_BadPaper : Xc l.prog w K mg base "BadPaper" "word" (pT "BadPaper") i_BadPaper _ := ⟨oBadPaper, xBadPaper, iCBadPaper, tIBadPaper, ok_iniBadPaper FIBadPaper oBadPaper noBadPaper_word, bIBadPaper, kwBadPaper, PySem.W.mg_of X G a_BadPaper, noBadPaper_word⟩
  have E_BadStand : Xc l.prog w K mg base "BadStand" "value" (pT "BadStand") i_BadStand _ := ⟨oBadStand, xBadStand, iCBadStand, tIBadStand, ok_iniBadStand FIBadStand oBadStand noBadStand_value, bIBadStand, kwBadStand, PySem.W.mg_of X G a_BadStand, noBadStand_value⟩
  have E_TooGreat : Xg l.prog w K mg base "TooGreat" "most" (pT "TooGreat") i_TooGreat _ := ⟨⟨oTooGreat, xTooGreat, iCTooGreat, tITooGreat, ok_iniTooGreat FITooGreat oTooGreat noTooGreat_most, bITooGreat, PySem.W.mg_of X G a_TooGreat, noTooGreat_most⟩, eCTooGreat, ty_TooGreat⟩
  have D__law_begun : Dok l.prog w K mg base 2 "_law_begun" ["script"] (spBegun K) f__law_begun _ := ⟨ok_begun F__law_begun B F__law_folded g__law_folded b__law_folded, g__law_begun, k__law_begun, b__law_begun⟩
  have D__law_draw : Dok l.prog w K mg base 2 "_law_draw" ["m", "limit"] (spW K S__law_draw) f__law_draw _ := ⟨fnok_mono (ok_draw F__law_draw B F__law_mixed g__law_mixed b__law_mixed) (fun _ _ _ _ h => draw_of h), g__law_draw, k__law_draw, b__law_draw⟩
  have D__law_odds : Dok l.prog w K mg base 1 "_law_odds" [] (spW K S__law_odds) f__law_odds _ := ⟨fnok_mono (ok_odds F__law_odds) (fun _ _ _ _ h => odds_of h), g__law_odds, k__law_odds, b__law_odds⟩
  have D__law_like : DoG l.prog w K mg base 1 "_law_like" ["heard", "due"] (spW K S__law_like) f__law_like _ := ⟨ok__law_like F__law_like XX , g__law_like, k__law_like, b__law_like⟩
  have D__law_of : Dok l.prog w K mg base 3 "_law_of" ["m", "some"] (spW K S__law_of) f__law_of _ := ⟨ok__law_of F__law_of XX D__law_draw, g__law_of, k__law_of, b__law_of⟩
  have D_is_whole : Dok l.prog w K mg base 1 "is_whole" ["value", "least", "most"] (spW K S_is_whole) f_is_whole _ := ⟨ok_is_whole F_is_whole XX , g_is_whole, k_is_whole, b_is_whole⟩
  have D_is_tuple : Dok l.prog w K mg base 1 "is_tuple" ["value", "least", "most"] (spW K S_is_tuple) f_is_tuple _ := ⟨ok_is_tuple F_is_tuple XX , g_is_tuple, k_is_tuple, b_is_tuple⟩
  have D_is_word : Dok l.prog w K mg base 1 "is_word" ["value", "words"] (spW K S_is_word) f_is_word _ := ⟨ok_is_word F_is_word XX , g_is_word, k_is_word, b_is_word⟩
  have D_is_way : Dok l.prog w K mg base 2 "is_way" ["value", "many_bodies", "wards"] (spW K S_is_way) f_is_way _ := ⟨ok_is_way F_is_way XX D_is_whole D_is_tuple D_is_word, g_is_way, k_is_way, b_is_way⟩
  have D_is_seat : Dok l.prog w K mg base 3 "is_seat" ["value", "many_bodies", "wards"] (spW K S_is_seat) f_is_seat _ := ⟨ok_is_seat F_is_seat XX D_is_way D_is_tuple D_is_whole, g_is_seat, k_is_seat, b_is_seat⟩
  have D_is_sides : Dok l.prog w K mg base 1 "is_sides" ["value", "many"] (spW K S_is_sides) f_is_sides _ := ⟨ok_is_sides F_is_sides XX , g_is_sides, k_is_sides, b_is_sides⟩
  have D_is_stand : Dok l.prog w K mg base 2 "is_stand" ["house", "value"] (spW K S_is_stand) f_is_stand _ := ⟨ok_is_stand F_is_stand XX D_is_tuple D_is_sides, g_is_stand, k_is_stand, b_is_stand⟩
  have D_common_term : Dok l.prog w K mg base 1 "common_term" ["bodies"] (spW K S_common_term) f_common_term _ := ⟨ok_common_term F_common_term XX , g_common_term, k_common_term, b_common_term⟩
  have D_all_choices : Dok l.prog w K mg base 1 "all_choices" ["wards"] (spW K S_all_choices) f_all_choices _ := ⟨ok_all_choices F_all_choices XX , g_all_choices, k_all_choices, b_all_choices⟩
  have D_first_state : Dok l.prog w K mg base 1 "first_state" ["stand"] (spW K S_first_state) f_first_state _ := ⟨ok_first_state F_first_state XX , g_first_state, k_first_state, b_first_state⟩
  have QH__law_marks : DoQ l.prog w K mg base 1 "_law_marks" ["error"] (spS w K (S__law_marks K pT)) f__law_marks _ := ⟨okQ__law_marks F__law_marks XX , g__law_marks, k__law_marks, b__law_marks⟩
  have D__law_marks : Dok l.prog w K mg base 1 "_law_marks" ["error"] (spS w K (S__law_marks K pT)) f__law_marks _ := ⟨ok__law_marks F__law_marks XX , g__law_marks, k__law_marks, b__law_marks⟩
  have D__law_above : Dok l.prog w K mg base 1 "_law_above" ["error"] (spS w K (S__law_above K pT)) f__law_above _ := ⟨ok__law_above F__law_above XX , g__law_above, k__law_above, b__law_above⟩
  have D__law_made_right : DoG l.prog w K mg base 3 "_law_made_right" ["thing"] (spS w K (S__law_made_right K pT)) f__law_made_right _ := ⟨ok__law_made_right F__law_made_right XX E_BadHouse E_BadStand E_BadChoices E_BadBand E_BadNumber E_BadPaper E_TooGreat kwTooGreat D__law_like D__law_marks D__law_above, g__law_made_right, k__law_made_right, b__law_made_right⟩
  have D__law_raised : Giv l.prog w K mg base "_law_raised" s__law_raised 20 ["call", "found", "error"] ["call"] 0 "call" (S__law_raised K pT) f__law_raised _ := ⟨F__law_raised, g__law_raised, b__law_raised, ok__law_raised F__law_raised XX D__law_marks QH__law_marks⟩
  have D__need_seats : DoX l.prog w K mg base 4 "_need_seats" ["body", "number", "many_bodies", "wards"] (spS w K (S__need_seats pT)) f__need_seats _ := ⟨ok__need_seats F__need_seats XX E_BadHouse D_is_tuple D_is_seat, g__need_seats, k__need_seats, b__need_seats⟩
  have D_need_house : DoX l.prog w K mg base 5 "need_house" ["house"] (spS w K (S_need_house pT)) f_need_house _ := ⟨ok_need_house F_need_house XX E_BadHouse D_is_tuple D_is_whole D__need_seats D_common_term, g_need_house, k_need_house, b_need_house⟩
  have D_need_stand : DoX l.prog w K mg base 6 "need_stand" ["house", "stand"] (spS w K (S_need_stand pT)) f_need_stand _ := ⟨ok_need_stand F_need_stand XX D_need_house E_BadStand D_is_stand, g_need_stand, k_need_stand, b_need_stand⟩
  have D_need_number : DoX l.prog w K mg base 3 "need_number" ["number"] (spS w K (S_need_number pT)) f_need_number _ := ⟨ok_need_number F_need_number XX E_BadNumber D_is_whole, g_need_number, k_need_number, b_need_number⟩
  have D_due_seats : DoX l.prog w K mg base 6 "due_seats" ["house", "number"] (spS w K (S_due_seats pT)) f_due_seats _ := ⟨ok_due_seats F_due_seats XX D_need_house D_need_number, g_due_seats, k_due_seats, b_due_seats⟩
  have D_need_band : DoX l.prog w K mg base 3 "need_band" ["band"] (spS w K (S_need_band pT)) f_need_band _ := ⟨ok_need_band F_need_band XX E_BadBand D_is_tuple D_is_whole, g_need_band, k_need_band, b_need_band⟩
  have D_need_body : DoX l.prog w K mg base 3 "need_body" ["house", "body"] (spS w K (S_need_body pT)) f_need_body _ := ⟨ok_need_body F_need_body XX E_BadNumber D_is_whole, g_need_body, k_need_body, b_need_body⟩
  have D_need_question : DoX l.prog w K mg base 7 "need_question" ["house", "stand", "band", "body"] (spS w K (S_need_question pT)) f_need_question _ := ⟨ok_need_question F_need_question XX D_need_stand D_need_band D_need_body, g_need_question, k_need_question, b_need_question⟩
  have K_Turns___init__ : FnOk l.prog w K mg base CX0 2 f_Turns___init__ _ ["self", "wards", "band", "telling"] (spS w K (S_Turns___init__ pT)) := ok_Turns___init__ F_Turns___init__ XX D_all_choices
  have I_Turns___init__ : DoI CX0 l.prog w K mg base 2 (pT "Turns") ["self", "wards", "band", "telling"] (spS w K (S_Turns___init__ pT)) f_Turns___init__ _ := ⟨K_Turns___init__, ⟨mk_Turns, at_Turns___init__, fn_Turns___init__, kc_Turns⟩, b_Turns___init__⟩
  have K_Stands___init__ : FnOk l.prog w K mg base CX0 2 f_Stands___init__ _ ["self", "house"] (spS w K (S_Stands___init__ pT)) := ok_Stands___init__ F_Stands___init__ XX D_common_term D_all_choices
  have I_Stands___init__ : DoI CX0 l.prog w K mg base 2 (pT "Stands") ["self", "house"] (spS w K (S_Stands___init__ pT)) f_Stands___init__ _ := ⟨K_Stands___init__, ⟨mk_Stands, at_Stands___init__, fn_Stands___init__, kc_Stands⟩, b_Stands___init__⟩
  have K_Steps___init__ : FnOk l.prog w K mg base CX0 4 f_Steps___init__ _ ["self", "house", "band", "full"] (spS w K (S_Steps___init__ pT)) := ok_Steps___init__ F_Steps___init__ XX D_common_term I_Turns___init__ I_Stands___init__
  have I_Steps___init__ : DoI CX0 l.prog w K mg base 4 (pT "Steps") ["self", "house", "band", "full"] (spS w K (S_Steps___init__ pT)) f_Steps___init__ _ := ⟨K_Steps___init__, ⟨mk_Steps, at_Steps___init__, fn_Steps___init__, kc_Steps⟩, b_Steps___init__⟩
  have D_check_outlive : DoX l.prog w K mg base 8 "check_outlive" ["house", "stand", "band", "body", "paper"] (spS w K (S_check_outlive pT)) f_check_outlive _ := ⟨ok_check_outlive F_check_outlive XX E_BadPaper D_need_question I_Steps___init__ D_first_state D_is_tuple D_is_word, g_check_outlive, k_check_outlive, b_check_outlive⟩
  have D_need_rows : DoX l.prog w K mg base 3 "need_rows" ["house", "rows"] (spS w K (S_need_rows pT)) f_need_rows _ := ⟨ok_need_rows F_need_rows XX E_BadChoices D_is_sides, g_need_rows, k_need_rows, b_need_rows⟩
  have D_run : DoX l.prog w K mg base 7 "run" ["house", "stand", "rows"] (spS w K (S_run pT)) f_run _ := ⟨ok_run F_run XX D_need_stand D_need_rows, g_run, k_run, b_run⟩
  have D__law_raised_right : DoG l.prog w K mg base 22 "_law_raised_right" [] (spS w K (S__law_raised_right K pT)) f__law_raised_right _ := ⟨ok__law_raised_right F__law_raised_right TB__law_raised_right XX D__law_raised D_need_house D_need_stand D_due_seats D_check_outlive D_run D_need_band, g__law_raised_right, k__law_raised_right, b__law_raised_right⟩
  have tD : ∀ e ∈ tabs pT, (tabs pT).lookup e.1 = some e.2 := fun e he => by
    have he : e ∈ [((pT "#_law_raised_right"), lamQ "_law_raised_right" (defScope s__law_raised_right))] := he
    show ([((pT "#_law_raised_right"), lamQ "_law_raised_right" (defScope s__law_raised_right))] : List (Addr × Str)).lookup e.1 = some e.2
    simp only [List.mem_cons, List.not_mem_nil, or_false] at he
    rcases he with rfl
    · simp [List.lookup]
  exact ok_law F_law XX D__law_begun D__law_made_right D__law_raised_right D__law_marks D__law_above D__law_of D__law_odds (fun ns hz => law_body XX0 tD ns hz)
end TSx
open PySem PySem.W PyProof.Rows
set_option maxRecDepth 100000 in
set_option maxHeartbeats 0 in
theorem PySem.Challenge.cw_termseats_k19_errors_of_the_first_part_holds : PySem.Challenge.rw_termseats_k19_errors_of_the_first_part.Holds := by
  w_on; o_law; k_head; (case hw => w_witness2)
  k_fill
  refine TSx.walkT (l := PySem.Challenge.rw_termseats_k19_errors_of_the_first_part) (n := 63) (k := 23) (x := "script") (sp := fun K cs => TSx.spLawT K (cs.map (·.2))) rfl (by decide) rfl ⟨rfl, by decide, by decide⟩ (fun w h Y => PySem.W.km_in_of Y) (fun w h Y => PySem.W.km_tabs_of Y) ?F (fun w H a ns cs hl hT hS => ⟨a, ns, rfl, hS, hl, (fun P hP => by obtain ⟨p, hp, e⟩ := List.mem_map.mp hP; rw [← e]; exact hT p hp), fun _ => rfl⟩)
  case F =>
    intro w mg fa h KX G hmg
    refine' TSx.all_mk KX G hmg ?a_ANY ?x_ANY ?a_LAST_YEAR ?a_MOST_BODIES ?a_MOST_GAP ?a_MOST_ROUND ?a_MOST_ROWS ?a_MOST_SEATS ?a_MOST_TERM ?a_MOST_WARDS ?a_TIES ?x_TIES ?a_lcm ?a_BadBand ?ty_BadBand ?a_BadChoices ?ty_BadChoices ?a_BadHouse ?ty_BadHouse ?a_BadNumber ?ty_BadNumber ?a_BadPaper ?ty_BadPaper ?a_BadStand ?ty_BadStand ?a_SeatError ?ty_SeatError ?a_TooGreat ?ty_TooGreat ?eB_SeatError ?hdB_SeatError ?eB_TooGreat ?hdB_TooGreat ?hn ?ht ?xLBadBand ?saBadBand ?eCBadBand ?kCBadBand ?hgBadBand ?hkBadBand ?hdBadBand ?haBadBand ?hmBadBand ?sBadBand_SeatError ?sBadBand_BadHouse ?sBadBand_BadStand ?sBadBand_BadChoices ?sBadBand_BadBand ?sBadBand_BadNumber ?sBadBand_BadPaper ?sBadBand_TooGreat ?sBadBand_ValueError ?sBadBand_OverflowError ?sBadBand_LookupError ?sBadBand_RuntimeError ?sBadBand_TypeError ?noBadBand_part ?iCBadBand ?tIBadBand ?lIBadBand ?cdI_BadBand ?kIBadBand ?xLBadChoices ?saBadChoices ?eCBadChoices ?kCBadChoices ?hgBadChoices ?hkBadChoices ?hdBadChoices ?haBadChoices ?hmBadChoices ?sBadChoices_SeatError ?sBadChoices_BadHouse ?sBadChoices_BadStand ?sBadChoices_BadChoices ?sBadChoices_BadBand ?sBadChoices_BadNumber ?sBadChoices_BadPaper ?sBadChoices_TooGreat ?sBadChoices_ValueError ?sBadChoices_OverflowError ?sBadChoices_LookupError ?sBadChoices_RuntimeError ?sBadChoices_TypeError ?noBadChoices_place ?iCBadChoices ?tIBadChoices ?lIBadChoices ?cdI_BadChoices ?kIBadChoices ?xLBadHouse ?saBadHouse ?eCBadHouse ?kCBadHouse ?hgBadHouse ?hkBadHouse ?hdBadHouse ?haBadHouse ?hmBadHouse ?sBadHouse_SeatError ?sBadHouse_BadHouse ?sBadHouse_BadStand ?sBadHouse_BadChoices ?sBadHouse_BadBand ?sBadHouse_BadNumber ?sBadHouse_BadPaper ?sBadHouse_TooGreat ?sBadHouse_ValueError ?sBadHouse_OverflowError ?sBadHouse_LookupError ?sBadHouse_RuntimeError ?sBadHouse_TypeError ?noBadHouse_place ?iCBadHouse ?tIBadHouse ?lIBadHouse ?cdI_BadHouse ?kIBadHouse ?xLBadNumber ?saBadNumber ?eCBadNumber ?kCBadNumber ?hgBadNumber ?hkBadNumber ?hdBadNumber ?haBadNumber ?hmBadNumber ?sBadNumber_SeatError ?sBadNumber_BadHouse ?sBadNumber_BadStand ?sBadNumber_BadChoices ?sBadNumber_BadBand ?sBadNumber_BadNumber ?sBadNumber_BadPaper ?sBadNumber_TooGreat ?sBadNumber_ValueError ?sBadNumber_OverflowError ?sBadNumber_LookupError ?sBadNumber_RuntimeError ?sBadNumber_TypeError ?noBadNumber_value ?iCBadNumber ?tIBadNumber ?lIBadNumber ?cdI_BadNumber ?kIBadNumber ?xLBadPaper ?saBadPaper ?eCBadPaper ?kCBadPaper ?hgBadPaper ?hkBadPaper ?hdBadPaper ?haBadPaper ?hmBadPaper ?sBadPaper_SeatError ?sBadPaper_BadHouse ?sBadPaper_BadStand ?sBadPaper_BadChoices ?sBadPaper_BadBand ?sBadPaper_BadNumber ?sBadPaper_BadPaper ?sBadPaper_TooGreat ?sBadPaper_ValueError ?sBadPaper_OverflowError ?sBadPaper_LookupError ?sBadPaper_RuntimeError ?sBadPaper_TypeError ?noBadPaper_word ?iCBadPaper ?tIBadPaper ?lIBadPaper ?cdI_BadPaper ?kIBadPaper ?xLBadStand ?saBadStand ?eCBadStand ?kCBadStand ?hgBadStand ?hkBadStand ?hdBadStand ?haBadStand ?hmBadStand ?sBadStand_SeatError ?sBadStand_BadHouse ?sBadStand_BadStand ?sBadStand_BadChoices ?sBadStand_BadBand ?sBadStand_BadNumber ?sBadStand_BadPaper ?sBadStand_TooGreat ?sBadStand_ValueError ?sBadStand_OverflowError ?sBadStand_LookupError ?sBadStand_RuntimeError ?sBadStand_TypeError ?noBadStand_value ?iCBadStand ?tIBadStand ?lIBadStand ?cdI_BadStand ?kIBadStand ?xLTooGreat ?saTooGreat ?eCTooGreat ?kCTooGreat ?hgTooGreat ?hkTooGreat ?hdTooGreat ?haTooGreat ?hmTooGreat ?sTooGreat_SeatError ?sTooGreat_BadHouse ?sTooGreat_BadStand ?sTooGreat_BadChoices ?sTooGreat_BadBand ?sTooGreat_BadNumber ?sTooGreat_BadPaper ?sTooGreat_TooGreat ?sTooGreat_ValueError ?sTooGreat_OverflowError ?sTooGreat_LookupError ?sTooGreat_RuntimeError ?sTooGreat_TypeError ?noTooGreat_most ?iCTooGreat ?tITooGreat ?lITooGreat ?cdI_TooGreat ?kITooGreat ?xLSeatError ?saSeatError ?eCSeatError ?kCSeatError ?hgSeatError ?hkSeatError ?hdSeatError ?haSeatError ?hmSeatError ?sSeatError_SeatError ?sSeatError_BadHouse ?sSeatError_BadStand ?sSeatError_BadChoices ?sSeatError_BadBand ?sSeatError_BadNumber ?sSeatError_BadPaper ?sSeatError_TooGreat ?sSeatError_ValueError ?sSeatError_OverflowError ?sSeatError_LookupError ?sSeatError_RuntimeError ?sSeatError_TypeError ?iCSeatError ?ic_BadBand ?ic_BadChoices ?ic_BadHouse ?ic_BadNumber ?ic_BadPaper ?ic_BadStand ?ic_SeatError ?ic_TooGreat ?aC_Stands ?pg_Stands ?hd_Stands ?po_Stands ?sa_Stands ?mk_Stands ?kc_Stands ?aC_Steps ?pg_Steps ?hd_Steps ?po_Steps ?sa_Steps ?mk_Steps ?kc_Steps ?aC_Turns ?pg_Turns ?hd_Turns ?po_Turns ?sa_Turns ?mk_Turns ?kc_Turns ?no_Stands_given_house ?no_Stands_known ?no_Stands_known_more ?no_Stands_rows ?no_Stands_years ?no_Steps_band ?no_Steps_full ?no_Steps_given_house ?no_Steps_stands ?no_Steps_turns ?no_Steps_years ?no_Turns_band ?no_Turns_known ?no_Turns_rows ?no_Turns_telling ?at_Turns___init__ ?fn_Turns___init__ ?at_Stands___init__ ?fn_Stands___init__ ?at_Steps___init__ ?fn_Steps___init__ ?a__law_mixed ?l__law_mixed ?cd_of__law_mixed ?k__law_mixed ?a__law_folded ?l__law_folded ?cd_of__law_folded ?k__law_folded ?a__law_draw ?l__law_draw ?cd_of__law_draw ?k__law_draw ?a__law_begun ?l__law_begun ?cd_of__law_begun ?k__law_begun ?a__law_odds ?l__law_odds ?cd_of__law_odds ?k__law_odds ?a__law_like ?l__law_like ?cd_of__law_like ?k__law_like ?a__law_of ?l__law_of ?cd_of__law_of ?k__law_of ?a_is_whole ?l_is_whole ?cd_of_is_whole ?k_is_whole ?a_is_tuple ?l_is_tuple ?cd_of_is_tuple ?k_is_tuple ?a_is_word ?l_is_word ?cd_of_is_word ?k_is_word ?a_is_way ?l_is_way ?cd_of_is_way ?k_is_way ?a_is_seat ?l_is_seat ?cd_of_is_seat ?k_is_seat ?a_is_sides ?l_is_sides ?cd_of_is_sides ?k_is_sides ?a_is_stand ?l_is_stand ?cd_of_is_stand ?k_is_stand ?a_common_term ?l_common_term ?cd_of_common_term ?k_common_term ?a_all_choices ?l_all_choices ?cd_of_all_choices ?k_all_choices ?a_first_state ?l_first_state ?cd_of_first_state ?k_first_state ?a__law_marks ?l__law_marks ?cd_of__law_marks ?k__law_marks ?a__law_above ?l__law_above ?cd_of__law_above ?k__law_above ?a__law_made_right ?l__law_made_right ?cd_of__law_made_right ?k__law_made_right ?a__law_raised ?l__law_raised ?cd_of__law_raised ?k__law_raised ?a__need_seats ?l__need_seats ?cd_of__need_seats ?k__need_seats ?a_need_house ?l_need_house ?cd_of_need_house ?k_need_house ?a_need_stand ?l_need_stand ?cd_of_need_stand ?k_need_stand ?a_need_number ?l_need_number ?cd_of_need_number ?k_need_number ?a_due_seats ?l_due_seats ?cd_of_due_seats ?k_due_seats ?a_need_band ?l_need_band ?cd_of_need_band ?k_need_band ?a_need_body ?l_need_body ?cd_of_need_body ?k_need_body ?a_need_question ?l_need_question ?cd_of_need_question ?k_need_question ?l_Turns___init__ ?cd_of_Turns___init__ ?k_Turns___init__ ?l_Stands___init__ ?cd_of_Stands___init__ ?k_Stands___init__ ?l_Steps___init__ ?cd_of_Steps___init__ ?k_Steps___init__ ?a_check_outlive ?l_check_outlive ?cd_of_check_outlive ?k_check_outlive ?a_need_rows ?l_need_rows ?cd_of_need_rows ?k_need_rows ?a_run ?l_run ?cd_of_run ?k_run ?a__law_raised_right ?l__law_raised_right ?cd_of__law_raised_right ?k__law_raised_right ?a_law ?l_law ?cd_of_law ?k_law ?z_int ?z_len ?z_range ?z_enumerate ?z_repr ?z_isinstance ?z_list ?z_bool ?z_str ?z_tuple ?z_zip ?z_sum ?z_all ?z_max ?z_min ?z_any ?z_sorted ?z_ValueError ?z_OverflowError ?z_LookupError ?z_RuntimeError ?z_TypeError ?tb__law_raised_right
    (case a_ANY => k_is)
    (case x_ANY => k_is)
    (case a_LAST_YEAR => k_is)
    (case a_MOST_BODIES => k_is)
    (case a_MOST_GAP => k_is)
    (case a_MOST_ROUND => k_is)
    (case a_MOST_ROWS => k_is)
    (case a_MOST_SEATS => k_is)
    (case a_MOST_TERM => k_is)
    (case a_MOST_WARDS => k_is)
    (case a_TIES => k_is)
    (case x_TIES => k_is)
    (case a_lcm => k_is)
    (case a_BadBand => k_is)
    (case ty_BadBand => k_is)
    (case a_BadChoices => k_is)
    (case ty_BadChoices => k_is)
    (case a_BadHouse => k_is)
    (case ty_BadHouse => k_is)
    (case a_BadNumber => k_is)
    (case ty_BadNumber => k_is)
    (case a_BadPaper => k_is)
    (case ty_BadPaper => k_is)
    (case a_BadStand => k_is)
    (case ty_BadStand => k_is)
    (case a_SeatError => k_is)
    (case ty_SeatError => k_is)
    (case a_TooGreat => k_is)
    (case ty_TooGreat => k_is)
    (case eB_SeatError => k_is)
    (case hdB_SeatError => k_is)
    (case eB_TooGreat => k_is)
    (case hdB_TooGreat => k_is)
    (case hn => k_is)
    (case ht => k_is)
    (case xLBadBand => k_is)
    (case saBadBand => k_is)
    (case eCBadBand => k_is)
    (case kCBadBand => k_is)
    (case hgBadBand => k_is)
    (case hkBadBand => k_is)
    (case hdBadBand => k_is)
    (case haBadBand => k_is)
    (case hmBadBand => k_is)
    (case sBadBand_SeatError => k_is)
    (case sBadBand_BadHouse => k_is)
    (case sBadBand_BadStand => k_is)
    (case sBadBand_BadChoices => k_is)
    (case sBadBand_BadBand => k_is)
    (case sBadBand_BadNumber => k_is)
    (case sBadBand_BadPaper => k_is)
    (case sBadBand_TooGreat => k_is)
    (case sBadBand_ValueError => k_is)
    (case sBadBand_OverflowError => k_is)
    (case sBadBand_LookupError => k_is)
    (case sBadBand_RuntimeError => k_is)
    (case sBadBand_TypeError => k_is)
    (case noBadBand_part => k_is)
    (case iCBadBand => k_is)
    (case tIBadBand => k_is)
    (case lIBadBand => k_is)
    (case cdI_BadBand => k_is)
    (case kIBadBand => k_is)
    (case xLBadChoices => k_is)
    (case saBadChoices => k_is)
    (case eCBadChoices => k_is)
    (case kCBadChoices => k_is)
    (case hgBadChoices => k_is)
    (case hkBadChoices => k_is)
    (case hdBadChoices => k_is)
    (case haBadChoices => k_is)
    (case hmBadChoices => k_is)
    (case sBadChoices_SeatError => k_is)
    (case sBadChoices_BadHouse => k_is)
    (case sBadChoices_BadStand => k_is)
    (case sBadChoices_BadChoices => k_is)
    (case sBadChoices_BadBand => k_is)
    (case sBadChoices_BadNumber => k_is)
    (case sBadChoices_BadPaper => k_is)
    (case sBadChoices_TooGreat => k_is)
    (case sBadChoices_ValueError => k_is)
    (case sBadChoices_OverflowError => k_is)
    (case sBadChoices_LookupError => k_is)
    (case sBadChoices_RuntimeError => k_is)
    (case sBadChoices_TypeError => k_is)
    (case noBadChoices_place => k_is)
    (case iCBadChoices => k_is)
    (case tIBadChoices => k_is)
    (case lIBadChoices => k_is)
    (case cdI_BadChoices => k_is)
    (case kIBadChoices => k_is)
    (case xLBadHouse => k_is)
    (case saBadHouse => k_is)
    (case eCBadHouse => k_is)
    (case kCBadHouse => k_is)
    (case hgBadHouse => k_is)
    (case hkBadHouse => k_is)
    (case hdBadHouse => k_is)
    (case haBadHouse => k_is)
    (case hmBadHouse => k_is)
    (case sBadHouse_SeatError => k_is)
    (case sBadHouse_BadHouse => k_is)
    (case sBadHouse_BadStand => k_is)
    (case sBadHouse_BadChoices => k_is)
    (case sBadHouse_BadBand => k_is)
    (case sBadHouse_BadNumber => k_is)
    (case sBadHouse_BadPaper => k_is)
    (case sBadHouse_TooGreat => k_is)
    (case sBadHouse_ValueError => k_is)
    (case sBadHouse_OverflowError => k_is)
    (case sBadHouse_LookupError => k_is)
    (case sBadHouse_RuntimeError => k_is)
    (case sBadHouse_TypeError => k_is)
    (case noBadHouse_place => k_is)
    (case iCBadHouse => k_is)
    (case tIBadHouse => k_is)
    (case lIBadHouse => k_is)
    (case cdI_BadHouse => k_is)
    (case kIBadHouse => k_is)
    (case xLBadNumber => k_is)
    (case saBadNumber => k_is)
    (case eCBadNumber => k_is)
    (case kCBadNumber => k_is)
    (case hgBadNumber => k_is)
    (case hkBadNumber => k_is)
    (case hdBadNumber => k_is)
    (case haBadNumber => k_is)
    (case hmBadNumber => k_is)
    (case sBadNumber_SeatError => k_is)
    (case sBadNumber_BadHouse => k_is)
    (case sBadNumber_BadStand => k_is)
    (case sBadNumber_BadChoices => k_is)
    (case sBadNumber_BadBand => k_is)
    (case sBadNumber_BadNumber => k_is)
    (case sBadNumber_BadPaper => k_is)
    (case sBadNumber_TooGreat => k_is)
    (case sBadNumber_ValueError => k_is)
    (case sBadNumber_OverflowError => k_is)
    (case sBadNumber_LookupError => k_is)
    (case sBadNumber_RuntimeError => k_is)
    (case sBadNumber_TypeError => k_is)
    (case noBadNumber_value => k_is)
    (case iCBadNumber => k_is)
    (case tIBadNumber => k_is)
    (case lIBadNumber => k_is)
    (case cdI_BadNumber => k_is)
    (case kIBadNumber => k_is)
    (case xLBadPaper => k_is)
    (case saBadPaper => k_is)
    (case eCBadPaper => k_is)
    (case kCBadPaper => k_is)
    (case hgBadPaper => k_is)
    (case hkBadPaper => k_is)
    (case hdBadPaper => k_is)
    (case haBadPaper => k_is)
    (case hmBadPaper => k_is)
    (case sBadPaper_SeatError => k_is)
    (case sBadPaper_BadHouse => k_is)
    (case sBadPaper_BadStand => k_is)
    (case sBadPaper_BadChoices => k_is)
    (case sBadPaper_BadBand => k_is)
    (case sBadPaper_BadNumber => k_is)
    (case sBadPaper_BadPaper => k_is)
    (case sBadPaper_TooGreat => k_is)
    (case sBadPaper_ValueError => k_is)
    (case sBadPaper_OverflowError => k_is)
    (case sBadPaper_LookupError => k_is)
    (case sBadPaper_RuntimeError => k_is)
    (case sBadPaper_TypeError => k_is)
    (case noBadPaper_word => k_is)
    (case iCBadPaper => k_is)
    (case tIBadPaper => k_is)
    (case lIBadPaper => k_is)
    (case cdI_BadPaper => k_is)
    (case kIBadPaper => k_is)
    (case xLBadStand => k_is)
    (case saBadStand => k_is)
    (case eCBadStand => k_is)
    (case kCBadStand => k_is)
    (case hgBadStand => k_is)
    (case hkBadStand => k_is)
    (case hdBadStand => k_is)
    (case haBadStand => k_is)
    (case hmBadStand => k_is)
    (case sBadStand_SeatError => k_is)
    (case sBadStand_BadHouse => k_is)
    (case sBadStand_BadStand => k_is)
    (case sBadStand_BadChoices => k_is)
    (case sBadStand_BadBand => k_is)
    (case sBadStand_BadNumber => k_is)
    (case sBadStand_BadPaper => k_is)
    (case sBadStand_TooGreat => k_is)
    (case sBadStand_ValueError => k_is)
    (case sBadStand_OverflowError => k_is)
    (case sBadStand_LookupError => k_is)
    (case sBadStand_RuntimeError => k_is)
    (case sBadStand_TypeError => k_is)
    (case noBadStand_value => k_is)
    (case iCBadStand => k_is)
    (case tIBadStand => k_is)
    (case lIBadStand => k_is)
    (case cdI_BadStand => k_is)
    (case kIBadStand => k_is)
    (case xLTooGreat => k_is)
    (case saTooGreat => k_is)
    (case eCTooGreat => k_is)
    (case kCTooGreat => k_is)
    (case hgTooGreat => k_is)
    (case hkTooGreat => k_is)
    (case hdTooGreat => k_is)
    (case haTooGreat => k_is)
    (case hmTooGreat => k_is)
    (case sTooGreat_SeatError => k_is)
    (case sTooGreat_BadHouse => k_is)
    (case sTooGreat_BadStand => k_is)
    (case sTooGreat_BadChoices => k_is)
    (case sTooGreat_BadBand => k_is)
    (case sTooGreat_BadNumber => k_is)
    (case sTooGreat_BadPaper => k_is)
    (case sTooGreat_TooGreat => k_is)
    (case sTooGreat_ValueError => k_is)
    (case sTooGreat_OverflowError => k_is)
    (case sTooGreat_LookupError => k_is)
    (case sTooGreat_RuntimeError => k_is)
    (case sTooGreat_TypeError => k_is)
    (case noTooGreat_most => k_is)
    (case iCTooGreat => k_is)
    (case tITooGreat => k_is)
    (case lITooGreat => k_is)
    (case cdI_TooGreat => k_is)
    (case kITooGreat => k_is)
    (case xLSeatError => k_is)
    (case saSeatError => k_is)
    (case eCSeatError => k_is)
    (case kCSeatError => k_is)
    (case hgSeatError => k_is)
    (case hkSeatError => k_is)
    (case hdSeatError => k_is)
    (case haSeatError => k_is)
    (case hmSeatError => k_is)
    (case sSeatError_SeatError => k_is)
    (case sSeatError_BadHouse => k_is)
    (case sSeatError_BadStand => k_is)
    (case sSeatError_BadChoices => k_is)
    (case sSeatError_BadBand => k_is)
    (case sSeatError_BadNumber => k_is)
    (case sSeatError_BadPaper => k_is)
    (case sSeatError_TooGreat => k_is)
    (case sSeatError_ValueError => k_is)
    (case sSeatError_OverflowError => k_is)
    (case sSeatError_LookupError => k_is)
    (case sSeatError_RuntimeError => k_is)
    (case sSeatError_TypeError => k_is)
    (case iCSeatError => k_is)
    (case ic_BadBand => k_is)
    (case ic_BadChoices => k_is)
    (case ic_BadHouse => k_is)
    (case ic_BadNumber => k_is)
    (case ic_BadPaper => k_is)
    (case ic_BadStand => k_is)
    (case ic_SeatError => k_is)
    (case ic_TooGreat => k_is)
    (case aC_Stands => k_is)
    (case pg_Stands => k_is)
    (case hd_Stands => k_is)
    (case po_Stands => k_is)
    (case sa_Stands => k_is)
    (case mk_Stands => k_is)
    (case kc_Stands => k_is)
    (case aC_Steps => k_is)
    (case pg_Steps => k_is)
    (case hd_Steps => k_is)
    (case po_Steps => k_is)
    (case sa_Steps => k_is)
    (case mk_Steps => k_is)
    (case kc_Steps => k_is)
    (case aC_Turns => k_is)
    (case pg_Turns => k_is)
    (case hd_Turns => k_is)
    (case po_Turns => k_is)
    (case sa_Turns => k_is)
    (case mk_Turns => k_is)
    (case kc_Turns => k_is)
    (case no_Stands_given_house => k_is)
    (case no_Stands_known => k_is)
    (case no_Stands_known_more => k_is)
    (case no_Stands_rows => k_is)
    (case no_Stands_years => k_is)
    (case no_Steps_band => k_is)
    (case no_Steps_full => k_is)
    (case no_Steps_given_house => k_is)
    (case no_Steps_stands => k_is)
    (case no_Steps_turns => k_is)
    (case no_Steps_years => k_is)
    (case no_Turns_band => k_is)
    (case no_Turns_known => k_is)
    (case no_Turns_rows => k_is)
    (case no_Turns_telling => k_is)
    (case at_Turns___init__ => k_is)
    (case fn_Turns___init__ => k_is)
    (case at_Stands___init__ => k_is)
    (case fn_Stands___init__ => k_is)
    (case at_Steps___init__ => k_is)
    (case fn_Steps___init__ => k_is)
    (case a__law_mixed => k_is)
    (case l__law_mixed => k_is)
    (case cd_of__law_mixed => k_is)
    (case k__law_mixed => k_is)
    (case a__law_folded => k_is)
    (case l__law_folded => k_is)
    (case cd_of__law_folded => k_is)
    (case k__law_folded => k_is)
    (case a__law_draw => k_is)
    (case l__law_draw => k_is)
    (case cd_of__law_draw => k_is)
    (case k__law_draw => k_is)
    (case a__law_begun => k_is)
    (case l__law_begun => k_is)
    (case cd_of__law_begun => k_is)
    (case k__law_begun => k_is)
    (case a__law_odds => k_is)
    (case l__law_odds => k_is)
    (case cd_of__law_odds => k_is)
    (case k__law_odds => k_is)
    (case a__law_like => k_is)
    (case l__law_like => k_is)
    (case cd_of__law_like => k_is)
    (case k__law_like => k_is)
    (case a__law_of => k_is)
    (case l__law_of => k_is)
    (case cd_of__law_of => k_is)
    (case k__law_of => k_is)
    (case a_is_whole => k_is)
    (case l_is_whole => k_is)
    (case cd_of_is_whole => k_is)
    (case k_is_whole => k_is)
    (case a_is_tuple => k_is)
    (case l_is_tuple => k_is)
    (case cd_of_is_tuple => k_is)
    (case k_is_tuple => k_is)
    (case a_is_word => k_is)
    (case l_is_word => k_is)
    (case cd_of_is_word => k_is)
    (case k_is_word => k_is)
    (case a_is_way => k_is)
    (case l_is_way => k_is)
    (case cd_of_is_way => k_is)
    (case k_is_way => k_is)
    (case a_is_seat => k_is)
    (case l_is_seat => k_is)
    (case cd_of_is_seat => k_is)
    (case k_is_seat => k_is)
    (case a_is_sides => k_is)
    (case l_is_sides => k_is)
    (case cd_of_is_sides => k_is)
    (case k_is_sides => k_is)
    (case a_is_stand => k_is)
    (case l_is_stand => k_is)
    (case cd_of_is_stand => k_is)
    (case k_is_stand => k_is)
    (case a_common_term => k_is)
    (case l_common_term => k_is)
    (case cd_of_common_term => k_is)
    (case k_common_term => k_is)
    (case a_all_choices => k_is)
    (case l_all_choices => k_is)
    (case cd_of_all_choices => k_is)
    (case k_all_choices => k_is)
    (case a_first_state => k_is)
    (case l_first_state => k_is)
    (case cd_of_first_state => k_is)
    (case k_first_state => k_is)
    (case a__law_marks => k_is)
    (case l__law_marks => k_is)
    (case cd_of__law_marks => k_is)
    (case k__law_marks => k_is)
    (case a__law_above => k_is)
    (case l__law_above => k_is)
    (case cd_of__law_above => k_is)
    (case k__law_above => k_is)
    (case a__law_made_right => k_is)
    (case l__law_made_right => k_is)
    (case cd_of__law_made_right => k_is)
    (case k__law_made_right => k_is)
    (case a__law_raised => k_is)
    (case l__law_raised => k_is)
    (case cd_of__law_raised => k_is)
    (case k__law_raised => k_is)
    (case a__need_seats => k_is)
    (case l__need_seats => k_is)
    (case cd_of__need_seats => k_is)
    (case k__need_seats => k_is)
    (case a_need_house => k_is)
    (case l_need_house => k_is)
    (case cd_of_need_house => k_is)
    (case k_need_house => k_is)
    (case a_need_stand => k_is)
    (case l_need_stand => k_is)
    (case cd_of_need_stand => k_is)
    (case k_need_stand => k_is)
    (case a_need_number => k_is)
    (case l_need_number => k_is)
    (case cd_of_need_number => k_is)
    (case k_need_number => k_is)
    (case a_due_seats => k_is)
    (case l_due_seats => k_is)
    (case cd_of_due_seats => k_is)
    (case k_due_seats => k_is)
    (case a_need_band => k_is)
    (case l_need_band => k_is)
    (case cd_of_need_band => k_is)
    (case k_need_band => k_is)
    (case a_need_body => k_is)
    (case l_need_body => k_is)
    (case cd_of_need_body => k_is)
    (case k_need_body => k_is)
    (case a_need_question => k_is)
    (case l_need_question => k_is)
    (case cd_of_need_question => k_is)
    (case k_need_question => k_is)
    (case l_Turns___init__ => k_is)
    (case cd_of_Turns___init__ => k_is)
    (case k_Turns___init__ => k_is)
    (case l_Stands___init__ => k_is)
    (case cd_of_Stands___init__ => k_is)
    (case k_Stands___init__ => k_is)
    (case l_Steps___init__ => k_is)
    (case cd_of_Steps___init__ => k_is)
    (case k_Steps___init__ => k_is)
    (case a_check_outlive => k_is)
    (case l_check_outlive => k_is)
    (case cd_of_check_outlive => k_is)
    (case k_check_outlive => k_is)
    (case a_need_rows => k_is)
    (case l_need_rows => k_is)
    (case cd_of_need_rows => k_is)
    (case k_need_rows => k_is)
    (case a_run => k_is)
    (case l_run => k_is)
    (case cd_of_run => k_is)
    (case k_run => k_is)
    (case a__law_raised_right => k_is)
    (case l__law_raised_right => k_is)
    (case cd_of__law_raised_right => k_is)
    (case k__law_raised_right => k_is)
    (case a_law => k_is)
    (case l_law => k_is)
    (case cd_of_law => k_is)
    (case k_law => k_is)
    (case z_int => k_is)
    (case z_len => k_is)
    (case z_range => k_is)
    (case z_enumerate => k_is)
    (case z_repr => k_is)
    (case z_isinstance => k_is)
    (case z_list => k_is)
    (case z_bool => k_is)
    (case z_str => k_is)
    (case z_tuple => k_is)
    (case z_zip => k_is)
    (case z_sum => k_is)
    (case z_all => k_is)
    (case z_max => k_is)
    (case z_min => k_is)
    (case z_any => k_is)
    (case z_sorted => k_is)
    (case z_ValueError => k_is)
    (case z_OverflowError => k_is)
    (case z_LookupError => k_is)
    (case z_RuntimeError => k_is)
    (case z_TypeError => k_is)
    (case tb__law_raised_right => kernel_rfl)
#print axioms PySem.Challenge.cw_termseats_k19_errors_of_the_first_part_holds


