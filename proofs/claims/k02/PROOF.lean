import PyProof.Rows.All
import Wide.All
import OpenK.AllK
import Wide.FinOn
import HandS.ForMost
import HandS.Walk
import HandS.Wide
import HandS.Gcd
import HandS.IsInst
import HandS.Conv
import HandS.TupAny
import HandS.Deep
import HandS.NoneIn
import HandS.Style
import PySem.Challenge.RW_likelights_k02_whole_scripts_of_weights
set_option Elab.async false
set_option linter.all false
set_option maxRecDepth 100000
set_option maxHeartbeats 1000000
set_option maxHeartbeats 2000000
namespace Lk
open PySem PySem.Spec PyProof.Rows L2
/-! ### functions that are called where no repr runs around -/
structure FnG (P : Program) (w : World) (K : PySem.W.Frag) (mg : Str → Option Value) (base : Heap) (CX : CXT) (k : Nat) (f : Addr) (fd : FuncData) (ps : List Str) (sp : Sp) : Prop where
  len : ∀ vs H Q E, sp vs H Q E → vs.length = ps.length
  go : ∀ (B : Around) (fr : List Env) (st : Shared) (H : Hp) (ar : Args) (us : List Value) (vs : List V) (Q : VK) (E : XK),
    Room k B → B.guards = some [] → Env0 P w K mg base B fr st H → BindsTo st fd ar (ps.zip us) → Vals vs us → sp vs H Q E →
    codeAny (model P w) B (.call (.ref f) ar) (CR CX fr P w H st Q E) st
theorem guards_deeper {B : Around} {e : Env} (h : B.guards = some []) : (B.deeper e).guards = some [] := h
section
variable {P : Program} {w : World} {K : PySem.W.Frag} {mg : Str → Option Value} {base : Heap} {CX : CXT}
theorem FnG.up {j k : Nat} {f : Addr} {fd : FuncData} {ps : List Str} {sp : Sp} (F : FnG P w K mg base CX j f fd ps sp) (h : j ≤ k) : FnG P w K mg base CX k f fd ps sp :=
  ⟨F.len, fun B fr st H ar us vs Q E hr => F.go B fr st H ar us vs Q E (hr.mono h)⟩
/-- the callee runs -/
theorem run_g {X : Cx} {k : Nat} {f : Addr} {fd : FuncData} {ps : List Str} {sp : Sp} {dvs : List V} {ds : List Value} {E : XK} {pins : List (Addr × Obj)} {σ : L2.St} {H : Hp} {s : Shared} {Q : VK} {us : List Value} {vs : List V}
    (F : FnG X.prog X.w X.K X.mg X.base CX k f fd ps sp) (hr : Room k X.A) (hq : X.A.guards = some []) (hb : Binds X.K fd ps ds) (hd : Vals dvs ds) (hx : Passes CX X E)
    (I : Inv X pins σ H s) (r : Vals vs us) (h : sp (vs ++ dvs) H Q E) : wpAny (model X.prog X.w) X.A (call (.ref f) us) (EP X pins σ Q) X.xe s := by
  have both := r.append hd
  have n : (us ++ ds).length = ps.length := both.length ▸ F.len _ _ _ _ h
  have told := F.go X.A X.stack s H ⟨us, []⟩ (us ++ ds) (vs ++ dvs) Q E hr hq I.env0 (hb s us I.kIn n) both h
  refine wpAny_call (codeAny_mono told ?_)
  intro out s2 hout
  match out, hout with
  | .error e, z => exact hx pins σ H s e s2 I z
  | .ok (.ret u), z => exact I.after z
theorem pe_callG {X : Cx} {k : Nat} {f : Addr} {fd : FuncData} {ps : List Str} {sp : Sp} {dvs : List V} {ds : List Value} {E : XK} {x : Str} {p pos : Pos} {e : Expr} {es : List Expr} {t : TA}
    (F : FnG X.prog X.w X.K X.mg X.base CX k f fd ps sp) (hr : Room k X.A) (hq : X.A.guards = some []) (hg : Gl X x) (hm : X.mg x = some (.ref f)) (hk : PySem.W.keepIn X.K (.ref f) = true)
    (hb : Binds X.K fd ps ds) (hd : Vals dvs ds) (hx : Passes CX X E) (ha : PA X (e :: es) t) (hdb : (x == ("__debug__" : Str)) = false)
    (he : starEach (e :: es) X.env = (false, eval e X.env) :: starEach es X.env) (hpl : (backTo pos (starEach es X.env)).any (·.1) = false) :
    PE X (.Call (.Name x p) (e :: es) [] pos) (tCall sp dvs E t) := by
  constructor
  intro pins s σ H Q I h
  refine wpAny_Call_Name_kw (ld_glob I hg hm ?_ hdb)
  refine PySem.W.callWith_K (h₀ := X.base) I.ok.mod.kin hk (thn (ha.run pos pins s σ H _ I h) ?_) he hpl
  rintro us s1 ⟨vs, H1, I1, r, q⟩
  exact ⟨I1.kIn, run_g F hr hq hb hd hx I1 r q⟩
theorem pe_callG0 {X : Cx} {k : Nat} {f : Addr} {fd : FuncData} {ps : List Str} {sp : Sp} {dvs : List V} {ds : List Value} {E : XK} {x : Str} {p pos : Pos}
    (F : FnG X.prog X.w X.K X.mg X.base CX k f fd ps sp) (hr : Room k X.A) (hq : X.A.guards = some []) (hg : Gl X x) (hm : X.mg x = some (.ref f)) (hk : PySem.W.keepIn X.K (.ref f) = true)
    (hb : Binds X.K fd ps ds) (hd : Vals dvs ds) (hx : Passes CX X E) (hdb : (x == ("__debug__" : Str)) = false) :
    PE X (.Call (.Name x p) [] [] pos) (tCall sp dvs E tNil) := by
  constructor
  intro pins s σ H Q I h
  exact wpAny_Call_Name_kw (ld_glob I hg hm (PySem.W.callWith_K0 I.kIn hk (run_g (us := []) F hr hq hb hd hx I .nil h)) hdb)
/-- the body keeps the promise -/
theorem okG {x qual : Str} {st : Stmt} {f : Addr} {fd : FuncData} {N ps : List Str} {k : Nat} {sp : Sp} (F : L2.Fun K x qual st f fd) (S : FnScope N ps (defScope st)) (len : ∀ vs H Q E, sp vs H Q E → vs.length = ps.length)
    (body : ∀ (cdv : Value) (B : Around) (fr : List Env) (s : Shared) (H : Hp) (vs : List V) (Q : VK) (E : XK), Room k (B.deeper (envOfC qual (defScope st) s.heap.objs.size f cdv)) → B.guards = some [] → sp vs H Q E →
      ∃ t, PSs (cxOf CX0 P w K mg base N qual (defScope st) f cdv B fr s H E).nox (defBody st) t ∧ t { nx := fun _ H' => Q .non H', rt := Q } (start N vs) H) : FnG P w K mg base CX0 (k + 1) f fd ps sp := by
  obtain ⟨oc, od, kV, doc, pm, an, cdv, ct, osl, rfl, lk, hcd⟩ := F.ex
  constructor
  · exact len
  intro B fr st0 H ar us vs Q E hr hq e0 hb r hsp
  have hlen : vs.length = ps.length := len _ _ _ _ hsp
  have grown : ∀ b o, base.get? b = some o → st0.heap.get? b = some o := fun b o e => (e0.bs b o e).1
  have inK : K.In st0.heap := e0.mod.kin.keeps grown
  have noL : st0.heap.NoLimit := e0.mod.nolimit.keeps grown
  have kinds : ∀ y ∈ ps.zip us, (defScope st).names.lookup y.1 = some .local ∨ ((defScope st).names.lookup y.1 = some .cell ∧ ((cellsFrom (st0.heap.objs.size + 1) (defScope st).names []).lookup y.1).isSome = true) := by
    rintro ⟨n, v⟩ hy
    cases S.par n (List.of_mem_zip hy).1 with
    | inl q => exact Or.inl q
    | inr q => exact Or.inr ⟨q, PySem.W.cellsFrom_some _ _ _ (Or.inl q)⟩
  apply codeAny_call_function hr.depth (inK _ _ lk) rfl S.co S.gen rfl (PySem.W.codeRec_of inK hcd)
  apply hb
  apply wpAny_newFunctionEnv_cells S.kind kinds
  intro env he s1 x
  subst he
  refine ⟨noL.keeps x.toInCall.keep, ?_⟩
  apply codeAny_func
  obtain ⟨t, ht, hgoal⟩ := body cdv B fr st0 H vs Q E (hr.deeper _) hq hsp
  have I := inv_start (CX := CX0) (P := P) (w := w) (E := E) (cd := cdv) (A := B) S hr.hd e0 hlen r x
  refine wpAny_mono (ht.nox.run [] s1 (start N vs) H _ I hgoal) ?_ (fun e s' z => z)
  intro fl s' out
  have close : ∀ {τ : L2.St} {H' : Hp} {v : V} {u : Value}, Inv (cxOf CX0 P w K mg base N qual (defScope st) f cdv B fr st0 H E) [] τ H' s' → RelV v u → Q v H' → CE fr P w H st0 Q u s' := by
    intro τ H' v u J rv q
    exact ⟨v, H', J.os, J.bare, J.base, J.hok, rv, q⟩
  match fl, out with
  | .ret u, ⟨v, τ, H', J, rv, q⟩ => exact close J rv q
  | .next, ⟨τ, H', J, q⟩ => exact close (v := V.non) (u := Value.none) J rfl q
  | .brk, ⟨_, _, _, q⟩ => exact q.elim
  | .cont, ⟨_, _, _, q⟩ => exact q.elim
end
/-! ### the law's own call -/
theorem entryG {P : Program} {w : World} {K : PySem.W.Frag} {mg mb : Str → Option Value} {k : Nat} {fa a : Addr} {fd : FuncData} {x : Str} {sp : Sp} {s : Shared} {vs : List Value} {ns : List Int}
    (inK : K.In s.heap) (gl : s.heap.Ns mainGlobals mg) (bl : s.heap.Ns builtinsNs mb) (bb : ∀ y : Str, y ≠ "__name__" → mb y = bootBuiltins y) (nl : s.heap.NoLimit) (gens : s.gens = #[])
    (obj : s.heap.get? a = some { cls := .type "list", data := .seq vs.toArray }) (inte : IntsAre vs ns) (small : ns.length ≤ sizeLine) (room : Room k callerA)
    (F : ∀ base : Heap, K.In base → base.Ns mainGlobals mg → FnG P w K mg base CX0 k fa fd [x] sp) (binds : ∀ (s : Shared) (u : Value), BindsTo s fd ⟨[u], []⟩ [(x, u)])
    (start : ∀ H : Hp, (∀ b o, H b = some o → ∃ ob u, o = .frz ob u) → SqL K H a (ns.map V.int) → sp [.ref a] H (fun v _ => v = .bl true) fun _ _ _ => False) :
    codeAny (model P w) callerA (.call (.ref fa) ⟨[.ref a], []⟩) (fun r s' => r = .ok (.ret (.bool true)) ∧ OldK s.heap s'.heap ∧ s'.os = s.os ∧ AllBare s'.gens) s := by
  have told := vals_ints inte
  have same := inte.length
  let scr : HO := .frz { cls := .type "list", data := .seq vs.toArray } (.lst (ns.map V.int))
  let H : Hp := fun b => if b = a ∧ K.lookup a = none then some scr else none
  have hH : ∀ b o, H b = some o → b = a ∧ K.lookup a = none ∧ o = scr := by
    intro b o e
    by_cases c : b = a ∧ K.lookup a = none
    · have e2 : some scr = some o := (if_pos c).symm.trans e
      cases e2
      exact ⟨c.1, c.2, rfl⟩
    · have e2 : none = some o := (if_neg c).symm.trans e
      cases e2
  have isNone : ∀ {b o}, H b ≠ some o → (∀ o', H b ≠ some o') → H b = none := by
    intro b o _ z
    cases q : H b with
    | none => rfl
    | some u => exact absurd q (z u)
  have okH : HOk P w H s.heap := by
    intro b o e
    obtain ⟨rfl, _, rfl⟩ := hH b o e
    exact ⟨obj, by rw [List.length_map]; exact small, vs, _, told, obj⟩
  have clear : ∀ {b : Addr} {o : Obj}, s.heap.get? b = some o → (b = a → K.lookup a = none → False) → (hidT s.heap H).get? b = some o := by
    intro b o e z
    refine hidT_get e ?_
    cases q : H b with
    | none => rfl
    | some u => exact (z (hH b u q).1 (hH b u q).2.1).elim
  have nsOk : ∀ {b : Addr} {m : Str → Option Value}, s.heap.Ns b m → (hidT s.heap H).Ns b m := by
    rintro b m ⟨o, es, ep, e, d, r⟩
    refine ⟨o, es, ep, clear e ?_, d, r⟩
    rintro rfl _
    rw [obj] at e
    cases e
    cases (show Data.seq vs.toArray _ = Data.dict es ep from d)
  have mod : Mod K mg (hidT s.heap H) := by
    refine ⟨fun b o e => clear (inK b o e) ?_, nsOk gl, ⟨mb, nsOk bl, bb⟩, ?_⟩
    · rintro rfl z
      rw [z] at e
      cases e
    · obtain ⟨mc, h1, h2⟩ := nl
      exact ⟨mc, nsOk h1, h2⟩
  have e0 : Env0 P w K mg (hidT s.heap H) callerA [] s H := by
    refine ⟨rfl, mod, fun b o e => of_hidT e, Nat.le_of_eq (hidT_size _ _), trivial, ?_, okH, .of_eq gens⟩
    intro b hb
    exact absurd (show b ∈ ([] : List Addr) from hb) (by simp)
  have sq : SqL K H a (ns.map V.int) := by
    cases hk : K.lookup a with
    | none => exact .inl (.inr ⟨_, if_pos ⟨rfl, hk⟩⟩)
    | some o =>
      have e := inK a o hk
      rw [obj] at e
      cases e
      exact .inr ⟨_, vs.toArray, _, hk, rfl, rfl, rfl, by rw [List.size_toArray, same]; exact small, by simpa using told⟩
  have run := (F _ mod.kin mod.glob).go callerA [] s H ⟨[.ref a], []⟩ [.ref a] [.ref a] _ _ room rfl e0 (binds s (.ref a)) (.cons rfl .nil)
    (start H (fun b o e => ⟨_, _, (hH b o e).2.2⟩) sq)
  refine codeAny_mono run ?_
  intro r s' out
  match r, out with
  | .ok (.ret u), ⟨v, H', os, bare, un, hok', r', q⟩ =>
    obtain rfl : v = .bl true := q
    obtain rfl : u = Value.bool true := r'
    refine ⟨rfl, OldK.of_keep ?_, os, bare⟩
    intro b o e
    cases q : H b with
    | none => exact un.keep b o e q (by intro z; exact absurd (show b ∈ ([] : List Addr) from z) (by simp)) (by simp)
    | some u =>
      obtain ⟨rfl, _, rfl⟩ := hH b u q
      have later := un.frzs _ _ _ q
      have e1 := (okH _ _ q).1
      have e2 := (hok' _ _ later).1
      rw [e] at e1
      cases e1
      exact e2
theorem walkG {l : PySem.W.OpenLaw} {n k : Nat} {q : Program} {loose : List Str} {XP : (Str → Option Value) → Heap → Prop} {YP : World → Heap → Prop} {d : DefRec} {K : Params → PySem.W.Frag} {sp : World → Sp} {x : Str}
    (most : l.most = some n) (fits : n ≤ sizeLine) (plain : d.params.defaults = []) (room : Room k callerA) (hY : ∀ (w : World) (h : Heap), YP w h → (K w.params).In h)
    (F : ∀ (w : World) (mg : Str → Option Value) (fa : Addr) (h : Heap), (K w.params).In h → h.Ns mainGlobals mg → mg d.name = some (.ref fa) →
      ∃ fd : FuncData, (∀ (s : Shared) (u : Value), BindsTo s fd ⟨[u], []⟩ [(x, u)]) ∧ ∀ base : Heap, (K w.params).In base → base.Ns mainGlobals mg → FnG l.prog w (K w.params) mg base CX0 k fa fd [x] (sp w))
    (start : ∀ (w : World) (H : Hp) (a : Addr) (ns : List Int), ns.length ≤ n → (∀ b o, H b = some o → ∃ ob u, o = .frz ob u) → SqL (K w.params) H a (ns.map V.int) → sp w [.ref a] H (fun v _ => v = .bl true) fun _ _ _ => False) :
    PySem.W.WalkO q loose XP YP l.row.toRowW d [] (fun f vs => PySem.call f vs) := by
  apply Att.attach_call most plain
  intro w s0 s1 mg mb fa o pm cd doc a vs ns G Y ho hd hcd hmg obj inte len gens
  obtain ⟨fd, hb, hF⟩ := F w mg fa _ (hY w _ Y) G.T.g hmg
  exact entryG (hY w _ Y) G.T.g G.T.b G.T.builtins G.T.nolimit gens obj inte (Nat.le_trans len fits) room hF hb fun H hO hS => start w H a ns len hO hS
end Lk
set_option maxHeartbeats 2000000
namespace Lk
open PySem PySem.Spec PyProof.Rows L2
/-! ### values, tuples inline; what may change stands in a heap -/
inductive IV where
  | non | bl (b : Bool) | int (i : Int) | str (x : Str) | tup (xs : List IV) | ref (n : Nat)
inductive MO where
  | lst (xs : List IV) | scr (xs : List IV)
def MO.its : MO → List IV
  | .lst xs => xs
  | .scr xs => xs
abbrev GH := List MO
abbrev EV := List (Option IV)
mutual
inductive VR (K : PySem.W.Frag) (ρ : List Addr) (H : Hp) : V → IV → Prop
  | non : VR K ρ H .non .non
  | bl (b : Bool) : VR K ρ H (.bl b) (.bl b)
  | int (i : Int) : VR K ρ H (.int i) (.int i)
  | str (x : Str) : VR K ρ H (.str x) (.str x)
  | tup {a : Addr} {xs : List V} {ws : List IV} (h : SqT K H a xs) (r : VRs K ρ H xs ws) : VR K ρ H (.ref a) (.tup ws)
  | ref {a : Addr} {n : Nat} (h : ρ[n]? = some a) : VR K ρ H (.ref a) (.ref n)
inductive VRs (K : PySem.W.Frag) (ρ : List Addr) (H : Hp) : List V → List IV → Prop
  | nil : VRs K ρ H [] []
  | cons {x : V} {w : IV} {xs : List V} {ws : List IV} (h : VR K ρ H x w) (r : VRs K ρ H xs ws) : VRs K ρ H (x :: xs) (w :: ws)
end
section
variable {K : PySem.W.Frag} {ρ ρ' ρ2 : List Addr} {H H' H2 : Hp} {G : GH}
mutual
theorem VR.mono (hρ : ∀ (n : Nat) (a : Addr), ρ[n]? = some a → ρ'[n]? = some a) (hT : ∀ a xs, SqT K H a xs → SqT K H' a xs) : ∀ {x : V} {w : IV}, VR K ρ H x w → VR K ρ' H' x w
  | _, _, .non => .non
  | _, _, .bl b => .bl b
  | _, _, .int i => .int i
  | _, _, .str x => .str x
  | _, _, .tup h r => .tup (hT _ _ h) (VRs.mono hρ hT r)
  | _, _, .ref h => .ref (hρ _ _ h)
theorem VRs.mono (hρ : ∀ (n : Nat) (a : Addr), ρ[n]? = some a → ρ'[n]? = some a) (hT : ∀ a xs, SqT K H a xs → SqT K H' a xs) : ∀ {xs : List V} {ws : List IV}, VRs K ρ H xs ws → VRs K ρ' H' xs ws
  | _, _, .nil => .nil
  | _, _, .cons h r => .cons (VR.mono hρ hT h) (VRs.mono hρ hT r)
end
theorem VRs.length : ∀ {xs : List V} {ws : List IV}, VRs K ρ H xs ws → xs.length = ws.length
  | _, _, .nil => rfl
  | _, _, .cons _ r => by rw [List.length_cons, List.length_cons, r.length]
theorem VRs.get : ∀ {xs : List V} {ws : List IV} {i : Nat} {w : IV}, VRs K ρ H xs ws → ws[i]? = some w → ∃ x, xs[i]? = some x ∧ VR K ρ H x w
  | _, _, i, w, .nil, e => by simp at e
  | _, _, 0, w, .cons (x := x) h _, e => by
    have e2 := Option.some.inj (by simpa using e)
    subst e2
    exact ⟨x, by simp, h⟩
  | _, _, i + 1, w, .cons _ r, e => by
    obtain ⟨x, h1, h2⟩ := VRs.get (i := i) (w := w) r (by simpa using e)
    exact ⟨x, by simpa using h1, h2⟩
theorem VRs.getV : ∀ {xs : List V} {ws : List IV} {i : Nat} {x : V}, VRs K ρ H xs ws → xs[i]? = some x → ∃ w, ws[i]? = some w ∧ VR K ρ H x w
  | _, _, i, w, .nil, e => by simp at e
  | _, _, 0, _, .cons (w := w) h _, e => by
    have e2 := Option.some.inj (by simpa using e)
    subst e2
    exact ⟨w, by simp, h⟩
  | _, _, i + 1, x, .cons _ r, e => by
    obtain ⟨w, h1, h2⟩ := VRs.getV (i := i) (x := x) r (by simpa using e)
    exact ⟨w, by simpa using h1, h2⟩
theorem VRs.app : ∀ {xs ys : List V} {ws zs : List IV}, VRs K ρ H xs ws → VRs K ρ H ys zs → VRs K ρ H (xs ++ ys) (ws ++ zs)
  | _, _, _, _, .nil, s => s
  | _, _, _, _, .cons h r, s => .cons h (r.app s)
theorem VRs.set {x : V} {w : IV} (h : VR K ρ H x w) : ∀ {xs : List V} {ws : List IV} (i : Nat), VRs K ρ H xs ws → VRs K ρ H (xs.set i x) (ws.set i w)
  | _, _, _, .nil => .nil
  | _, _, 0, .cons _ t => .cons h t
  | _, _, i + 1, .cons q t => .cons q (VRs.set h i t)
theorem VRs.take : ∀ {xs : List V} {ws : List IV} (n : Nat), VRs K ρ H xs ws → VRs K ρ H (xs.take n) (ws.take n)
  | _, _, 0, _ => .nil
  | _, _, _ + 1, .nil => .nil
  | _, _, n + 1, .cons r t => .cons r (VRs.take n t)
theorem VRs.drop : ∀ {xs : List V} {ws : List IV} (n : Nat), VRs K ρ H xs ws → VRs K ρ H (xs.drop n) (ws.drop n)
  | _, _, 0, r => r
  | _, _, _ + 1, .nil => .nil
  | _, _, n + 1, .cons _ t => VRs.drop n t
theorem VRs.ofInts : ∀ ns : List Int, VRs K ρ H (ns.map V.int) (ns.map IV.int)
  | [] => .nil
  | n :: r => .cons (.int n) (VRs.ofInts r)
/-! ### what changes, and what does not -/
inductive MR (K : PySem.W.Frag) (ρ : List Addr) (H : Hp) (a : Addr) : MO → Prop
  | lst {vs : List V} {ws : List IV} (h : H a = some (.lst vs)) (r : VRs K ρ H vs ws) : MR K ρ H a (.lst ws)
  | scr {vs : List V} {ws : List IV} (h : (∃ ob, H a = some (.frz ob (.lst vs))) ∨ SqL K (fun _ => none) a vs) (r : VRs K ρ H vs ws) : MR K ρ H a (.scr ws)
structure HR (K : PySem.W.Frag) (ρ : List Addr) (H : Hp) (G : GH) : Prop where
  len : ρ.length = G.length
  nd : ∀ (n m : Nat) (a : Addr) (xs ys : List IV), ρ[n]? = some a → ρ[m]? = some a → G[n]? = some (.lst xs) → G[m]? = some (.lst ys) → n = m
  at_ : ∀ (n : Nat) (a : Addr) (m : MO), ρ[n]? = some a → G[n]? = some m → MR K ρ H a m
/-- from H to H': what is not in ρ stays, what frozen is stays, ρ grows by new ones -/
structure Nx (ρ : List Addr) (H : Hp) (ρ' : List Addr) (H' : Hp) : Prop where
  pre : ∀ (n : Nat) (a : Addr), ρ[n]? = some a → ρ'[n]? = some a
  keep : ∀ b o, H b = some o → b ∉ ρ → H' b = some o
  frz : ∀ b ob u, H b = some (.frz ob u) → H' b = some (.frz ob u)
  tup : ∀ b xs, H b = some (.tup xs) → H' b = some (.tup xs)
  there : ∀ b, H b ≠ none → H' b ≠ none
  new : ∀ b, b ∈ ρ' → b ∉ ρ → H b = none
theorem Nx.refl (ρ : List Addr) (H : Hp) : Nx ρ H ρ H := ⟨fun _ _ h => h, fun _ _ h _ => h, fun _ _ _ h => h, fun _ _ h => h, fun _ h => h, fun _ h n => (n h).elim⟩
theorem Nx.trans (a : Nx ρ H ρ' H') (b : Nx ρ' H' ρ2 H2) : Nx ρ H ρ2 H2 := by
  refine ⟨fun n x h => b.pre n x (a.pre n x h), fun c o h n => ?_, fun c ob u h => b.frz c ob u (a.frz c ob u h), fun c xs h => b.tup c xs (a.tup c xs h), fun c h => b.there c (a.there c h), fun c h n => ?_⟩
  · refine b.keep c o (a.keep c o h n) fun z => ?_
    have := a.new c z n
    rw [this] at h
    cases h
  · by_cases z : c ∈ ρ'
    · exact a.new c z n
    · cases q : H c with
      | none => rfl
      | some o => exact ((a.there c (by rw [q]; simp)) (b.new c h z)).elim
theorem Nx.sqT (x : Nx ρ H ρ' H') {a : Addr} {xs : List V} (h : SqT K H a xs) : SqT K H' a xs := by
  rcases h with (h | ⟨o, h⟩) | h
  · exact .inl (.inl (x.tup _ _ h))
  · exact .inl (.inr ⟨o, x.frz _ _ _ h⟩)
  · exact .inr h
theorem VR.nx (x : Nx ρ H ρ' H') {v : V} {w : IV} (h : VR K ρ H v w) : VR K ρ' H' v w := h.mono x.pre fun _ _ q => x.sqT q
theorem VRs.nx (x : Nx ρ H ρ' H') {v : List V} {w : List IV} (h : VRs K ρ H v w) : VRs K ρ' H' v w := h.mono x.pre fun _ _ q => x.sqT q
/-- a new object that is no part of ρ -/
theorem Nx.laid {p : Addr} {o : HO} (h : H p = none) : Nx ρ H ρ (upd H p o) := by
  have ne : ∀ {b : Addr} {u : HO}, H b = some u → b ≠ p := fun e => ne_of_none e h
  refine ⟨fun _ _ h => h, fun b u e _ => ?_, fun b ob u e => ?_, fun b xs e => ?_, fun b e => ?_, fun b h n => (n h).elim⟩
  · rw [upd_ne (ne e)]; exact e
  · rw [upd_ne (ne e)]; exact e
  · rw [upd_ne (ne e)]; exact e
  · by_cases z : b = p
    · rw [z, upd_same]; simp
    · rw [upd_ne z]; exact e
/-- a new list that is the next of ρ -/
theorem Nx.grow {p : Addr} {o : HO} (h : H p = none) : Nx ρ H (ρ ++ [p]) (upd H p o) := by
  have b := Nx.laid (ρ := ρ) (o := o) h
  refine ⟨fun n a e => ?_, b.keep, b.frz, b.tup, b.there, fun c hc n => ?_⟩
  · have l : n < ρ.length := (List.getElem?_eq_some_iff.mp e).1
    rw [List.getElem?_append_left l]
    exact e
  · rcases List.mem_append.mp hc with z | z
    · exact (n z).elim
    · rw [List.mem_singleton.mp z]; exact h
theorem sqL_none {a : Addr} {vs : List V} (h : SqL K (fun _ => none) a vs) : SqL K H a vs := by
  rcases h with (h | ⟨o, h⟩) | h
  · cases h
  · cases h
  · exact .inr h
theorem MR.nx (x : Nx ρ H ρ' H') {a : Addr} {m : MO} (h : MR K ρ H a m) (ha : ∀ vs, H a = some (.lst vs) → H' a = some (.lst vs)) : MR K ρ' H' a m := by
  cases h with
  | lst h r => exact .lst (ha _ h) (r.nx x)
  | scr h r =>
    refine .scr ?_ (r.nx x)
    rcases h with ⟨ob, h⟩ | h
    · exact .inl ⟨ob, x.frz _ _ _ h⟩
    · exact .inr h
theorem MR.sq {a : Addr} {m : MO} (h : MR K ρ H a m) : ∃ vs, SqL K H a vs ∧ VRs K ρ H vs m.its := by
  cases h with
  | lst h r => exact ⟨_, .inl (.inl h), r⟩
  | scr h r =>
    rcases h with ⟨ob, h⟩ | h
    · exact ⟨_, .inl (.inr ⟨ob, h⟩), r⟩
    · exact ⟨_, sqL_none h, r⟩
theorem HR.mem (R : HR K ρ H G) {a : Addr} (h : a ∈ ρ) : ∃ (n : Nat) (m : MO), ρ[n]? = some a ∧ G[n]? = some m ∧ MR K ρ H a m := by
  obtain ⟨n, hn⟩ := List.getElem?_of_mem h
  have l : n < G.length := by rw [← R.len]; exact (List.getElem?_eq_some_iff.mp hn).1
  exact ⟨n, G[n], hn, by simp [l], R.at_ n a _ hn (by simp [l])⟩
theorem HR.at' (R : HR K ρ H G) {n : Nat} {m : MO} (h : G[n]? = some m) : ∃ a, ρ[n]? = some a ∧ MR K ρ H a m := by
  have l : n < ρ.length := by rw [R.len]; exact (List.getElem?_eq_some_iff.mp h).1
  exact ⟨ρ[n], by simp [l], R.at_ n _ m (by simp [l]) h⟩
/-- an object laid beside -/
theorem HR.laid {p : Addr} {o : HO} (R : HR K ρ H G) (h : H p = none) : HR K ρ (upd H p o) G :=
  ⟨R.len, R.nd, fun n a m h1 h2 => (R.at_ n a m h1 h2).nx (Nx.laid h) fun vs e => by rw [upd_ne (ne_of_none e h)]; exact e⟩
/-- a new list -/
theorem HR.grow {p : Addr} {vs : List V} {ws : List IV} (R : HR K ρ H G) (h : H p = none) (r : VRs K ρ H vs ws) : HR K (ρ ++ [p]) (upd H p (.lst vs)) (G ++ [.lst ws]) := by
  have x : Nx ρ H (ρ ++ [p]) (upd H p (.lst vs)) := Nx.grow h
  have split : ∀ {n : Nat} {a : Addr} {m : MO}, (ρ ++ [p])[n]? = some a → (G ++ [MO.lst ws])[n]? = some m → (n < ρ.length ∧ ρ[n]? = some a ∧ G[n]? = some m) ∨ (n = ρ.length ∧ a = p ∧ m = .lst ws) := by
    intro n a m h1 h2
    by_cases l : n < ρ.length
    · rw [List.getElem?_append_left l] at h1
      rw [List.getElem?_append_left (by rw [← R.len]; exact l)] at h2
      exact .inl ⟨l, h1, h2⟩
    · have l1 := (List.getElem?_eq_some_iff.mp h1).1
      rw [List.length_append, List.length_singleton] at l1
      have e : n = ρ.length := by omega
      subst e
      rw [List.getElem?_append_right (Nat.le_refl _), Nat.sub_self] at h1
      rw [List.getElem?_append_right (by rw [R.len]; exact Nat.le_refl _), R.len, Nat.sub_self] at h2
      exact .inr ⟨rfl, (Option.some.inj (by simpa using h1)).symm, (Option.some.inj (by simpa using h2)).symm⟩
  have old : ∀ {n : Nat} {a : Addr} {xs : List IV}, ρ[n]? = some a → G[n]? = some (.lst xs) → a ≠ p := by
    intro n a xs h1 h2 e
    subst e
    cases R.at_ n _ _ h1 h2 with
    | lst e _ => rw [h] at e; cases e
  refine ⟨by rw [List.length_append, List.length_append, R.len]; rfl, ?_, ?_⟩
  · intro n m a xs ys h1 h2 h3 h4
    rcases split h1 h3 with ⟨_, a1, b1⟩ | ⟨rfl, rfl, _⟩
    · rcases split h2 h4 with ⟨_, a2, b2⟩ | ⟨_, rfl, _⟩
      · exact R.nd n m a xs ys a1 a2 b1 b2
      · exact (old a1 b1 rfl).elim
    · rcases split h2 h4 with ⟨_, a2, b2⟩ | ⟨rfl, _, _⟩
      · exact (old a2 b2 rfl).elim
      · rfl
  · intro n a m h1 h2
    rcases split h1 h2 with ⟨_, a1, b1⟩ | ⟨_, rfl, rfl⟩
    · exact (R.at_ n a m a1 b1).nx x fun vs e => by rw [upd_ne (ne_of_none e h)]; exact e
    · exact .lst upd_same (r.nx x)
/-- a list of ρ is written -/
theorem Nx.write {a : Addr} {vs vs' : List V} (hm : a ∈ ρ) (h : H a = some (.lst vs)) : Nx ρ H ρ (upd H a (.lst vs')) := by
  refine ⟨fun _ _ h => h, fun b o e n => ?_, fun b ob u e => ?_, fun b xs e => ?_, fun b e => ?_, fun b h n => (n h).elim⟩
  · have z : b ≠ a := fun z => n (z ▸ hm)
    rw [upd_ne z]; exact e
  · have z : b ≠ a := fun z => by rw [z, h] at e; cases e
    rw [upd_ne z]; exact e
  · have z : b ≠ a := fun z => by rw [z, h] at e; cases e
    rw [upd_ne z]; exact e
  · by_cases z : b = a
    · rw [z, upd_same]; simp
    · rw [upd_ne z]; exact e
theorem HR.write {n : Nat} {a : Addr} {vs vs' : List V} {ws ws' : List IV} (R : HR K ρ H G) (hn : ρ[n]? = some a) (hg : G[n]? = some (.lst ws)) (h : H a = some (.lst vs)) (r : VRs K ρ H vs' ws') :
    HR K ρ (upd H a (.lst vs')) (G.set n (.lst ws')) := by
  have x : Nx ρ H ρ (upd H a (.lst vs')) := Nx.write (List.mem_of_getElem? hn) h
  have l : n < G.length := (List.getElem?_eq_some_iff.mp hg).1
  have isl : ∀ {k : Nat} {xs : List IV}, (G.set n (MO.lst ws'))[k]? = some (.lst xs) → ∃ ys, G[k]? = some (.lst ys) := by
    intro k xs e
    by_cases z : n = k
    · subst z; exact ⟨_, hg⟩
    · rw [List.getElem?_set_ne z] at e; exact ⟨_, e⟩
  refine ⟨by rw [List.length_set]; exact R.len, ?_, ?_⟩
  · intro i j b xs ys h1 h2 h3 h4
    obtain ⟨_, h3⟩ := isl h3
    obtain ⟨_, h4⟩ := isl h4
    exact R.nd i j b _ _ h1 h2 h3 h4
  · intro i b m h1 h2
    by_cases z : n = i
    · subst z
      rw [hn] at h1
      cases h1
      rw [List.getElem?_set_self l] at h2
      cases h2
      exact .lst upd_same (r.nx x)
    · rw [List.getElem?_set_ne z] at h2
      have q := R.at_ i b m h1 h2
      cases m with
      | lst xs =>
        have nb : b ≠ a := fun e => z (R.nd n i a ws xs hn (e ▸ h1) hg h2)
        exact q.nx x fun vs e => by rw [upd_ne nb]; exact e
      | scr xs =>
        cases q with
        | scr e r2 =>
          refine .scr ?_ (r2.nx x)
          rcases e with ⟨ob, e⟩ | e
          · exact .inl ⟨ob, x.frz _ _ _ e⟩
          · exact .inr e
/-- the slots -/
def ER (K : PySem.W.Frag) (ρ : List Addr) (H : Hp) (σ : L2.St) (ε : EV) : Prop := ∀ (i : Nat) (w : IV), ε[i]? = some (some w) → ∃ v, σ[i]? = some (some v) ∧ VR K ρ H v w
theorem ER.nx {σ : L2.St} {ε : EV} (h : ER K ρ H σ ε) (x : Nx ρ H ρ' H') : ER K ρ' H' σ ε := fun i w e => let ⟨v, h1, h2⟩ := h i w e; ⟨v, h1, h2.nx x⟩
theorem ER.set {σ : L2.St} {ε : EV} {i : Nat} {v : V} {w : IV} (h : ER K ρ H σ ε) (hl : i < σ.length) (r : VR K ρ H v w) : ER K ρ H (σ.set i (some v)) (ε.set i (some w)) := by
  intro j u e
  by_cases z : i = j
  · subst z
    have l : i < ε.length := by
      have := (List.getElem?_eq_some_iff.mp e).1
      rwa [List.length_set] at this
    rw [List.getElem?_set_self l] at e
    cases e
    exact ⟨v, List.getElem?_set_self hl, r⟩
  · rw [List.getElem?_set_ne z] at e ⊢
    exact h j u e
end
end Lk
set_option maxHeartbeats 2000000
namespace Lk
open PySem PySem.Spec PyProof.Rows L2
/-! ### what must hold ahead of a piece of syntax -/
section
variable (X : Cx)
def wE (e : Expr) : TE := fun σ H Q => ∀ (pins : List (Addr × Obj)) (s : Shared), Inv X pins σ H s → wpAny (model X.prog X.w) X.A (eval e X.env) (EP X pins σ Q) X.xe s
def wT (e : Expr) : TT := fun σ H Q => ∀ (pins : List (Addr × Obj)) (s : Shared), Inv X pins σ H s → wpAny (model X.prog X.w) X.A (isTrue e X.env (eval e X.env)) (TP X pins σ Q) X.xe s
def wW (e : Expr) : TT := fun σ H Q => ∀ (whole : Sem Value) (pins : List (Addr × Obj)) (s : Shared), Inv X pins σ H s → wpAny (model X.prog X.w) X.A (isTrue e X.env whole) (TP X pins σ Q) X.xe s
def wA (es : List Expr) : TA := fun σ H Q => ∀ (pos : Pos) (pins : List (Addr × Obj)) (s : Shared), Inv X pins σ H s → wpAny (model X.prog X.w) X.A (spliced (backTo pos (starEach es X.env))) (AP X pins σ Q) X.xe s
def wS (st : Stmt) : TS := fun D σ H => ∀ (pins : List (Addr × Obj)) (s : Shared), Inv X pins σ H s → wpAny (model X.prog X.w) X.A (exec st X.env) (SP X pins D) X.xe s
def wB (sts : List Stmt) : TS := fun D σ H => ∀ (pins : List (Addr × Obj)) (s : Shared), Inv X pins σ H s → wpAny (model X.prog X.w) X.A (execs sts X.env) (SP X pins D) X.xe s
def wG (tg : Expr) : TG := fun v σ H Q => ∀ (pins : List (Addr × Obj)) (s : Shared) (u : Value), Inv X pins σ H s → RelV v u → wpAny (model X.prog X.w) X.A (assign tg X.env u) (fun _ s' => ∃ σ' H', Inv X pins σ' H' s' ∧ Q σ' H') X.xe s
end
section
variable {X : Cx}
theorem pe_w {e : Expr} : PE X e (wE X e) := ⟨fun pins s σ H Q I h => h pins s I⟩
theorem pt_w {e : Expr} : PT X e (wT X e) := ⟨fun pins s σ H Q I h => h pins s I⟩
theorem pw_w {e : Expr} : PW X e (wW X e) := ⟨fun wh pins s σ H Q I h => h wh pins s I⟩
theorem pa_w {es : List Expr} : PA X es (wA X es) := ⟨fun pos pins s σ H Q I h => h pos pins s I⟩
theorem ps_w {st : Stmt} : PS X st (wS X st) := ⟨fun pins s σ H D I h => h pins s I⟩
theorem pss_w {sts : List Stmt} : PSs X sts (wB X sts) := ⟨fun pins s σ H D I h => h pins s I⟩
theorem pg_w {tg : Expr} : PG X tg (wG X tg) := ⟨fun pins s σ H v u Q I r h => h pins s u I r⟩
theorem wE_of {e : Expr} {t : TE} {σ : L2.St} {H : Hp} {Q : VK} (p : PE X e t) (h : t σ H Q) : wE X e σ H Q := fun pins s I => p.run pins s σ H Q I h
theorem wT_of {e : Expr} {t : TT} {σ : L2.St} {H : Hp} {Q : Bool → Hp → Prop} (p : PT X e t) (h : t σ H Q) : wT X e σ H Q := fun pins s I => p.run pins s σ H Q I h
theorem wW_of {e : Expr} {t : TT} {σ : L2.St} {H : Hp} {Q : Bool → Hp → Prop} (p : PW X e t) (h : t σ H Q) : wW X e σ H Q := fun wh pins s I => p.run wh pins s σ H Q I h
theorem wA_of {es : List Expr} {t : TA} {σ : L2.St} {H : Hp} {Q : List V → Hp → Prop} (p : PA X es t) (h : t σ H Q) : wA X es σ H Q := fun pos pins s I => p.run pos pins s σ H Q I h
theorem wS_of {st : Stmt} {t : TS} {σ : L2.St} {H : Hp} {D : Ends} (p : PS X st t) (h : t D σ H) : wS X st D σ H := fun pins s I => p.run pins s σ H D I h
theorem wB_of {sts : List Stmt} {t : TS} {σ : L2.St} {H : Hp} {D : Ends} (p : PSs X sts t) (h : t D σ H) : wB X sts D σ H := fun pins s I => p.run pins s σ H D I h
theorem wG_of {tg : Expr} {t : TG} {σ : L2.St} {H : Hp} {v : V} {Q : L2.St → Hp → Prop} (p : PG X tg t) (h : t v σ H Q) : wG X tg v σ H Q := fun pins s u I r => p.run pins s σ H v u Q I r h
end
/-! ### meanings -/
/-- what is wanted holds of every outcome that stands for v, G' -/
def Rs (K : PySem.W.Frag) (ρ : List Addr) (H : Hp) (v : IV) (G' : GH) (Q : VK) : Prop := ∀ (u : V) (ρ' : List Addr) (H' : Hp), Nx ρ H ρ' H' → HR K ρ' H' G' → VR K ρ' H' u v → Q u H'
def RsB (K : PySem.W.Frag) (ρ : List Addr) (H : Hp) (b : Bool) (G' : GH) (Q : Bool → Hp → Prop) : Prop := ∀ (ρ' : List Addr) (H' : Hp), Nx ρ H ρ' H' → HR K ρ' H' G' → Q b H'
def RsA (K : PySem.W.Frag) (ρ : List Addr) (H : Hp) (vs : List IV) (G' : GH) (Q : List V → Hp → Prop) : Prop := ∀ (us : List V) (ρ' : List Addr) (H' : Hp), Nx ρ H ρ' H' → HR K ρ' H' G' → VRs K ρ' H' us vs → Q us H'
structure At (X : Cx) (ρ : List Addr) (σ : L2.St) (H : Hp) (ε : EV) (G : GH) : Prop where
  e : ER X.K ρ H σ ε
  h : HR X.K ρ H G
  l : σ.length = X.N.length
theorem At.nx {X : Cx} {ρ ρ' : List Addr} {σ : L2.St} {H H' : Hp} {ε : EV} {G G' : GH} (a : At X ρ σ H ε G) (x : Nx ρ H ρ' H') (h : HR X.K ρ' H' G') : At X ρ' σ H' ε G' := ⟨a.e.nx x, h, a.l⟩
/-- the term te gives v and leaves G' -/
def Mt (X : Cx) (te : TE) (ε : EV) (G : GH) (v : IV) (G' : GH) : Prop := ∀ ρ σ H, At X ρ σ H ε G → ∀ Q : VK, Rs X.K ρ H v G' Q → te σ H Q
def MtT (X : Cx) (tt : TT) (ε : EV) (G : GH) (b : Bool) (G' : GH) : Prop := ∀ ρ σ H, At X ρ σ H ε G → ∀ Q : Bool → Hp → Prop, RsB X.K ρ H b G' Q → tt σ H Q
def MtA (X : Cx) (ta : TA) (ε : EV) (G : GH) (vs : List IV) (G' : GH) : Prop := ∀ ρ σ H, At X ρ σ H ε G → ∀ Q : List V → Hp → Prop, RsA X.K ρ H vs G' Q → ta σ H Q
/-- an operation on values -/
def Op2 (K : PySem.W.Frag) (r : R2) (f : IV → IV → GH → Option (IV × GH)) : Prop :=
  ∀ (ρ : List Addr) (H : Hp) (G : GH) (x y : V) (a b v : IV) (G' : GH), HR K ρ H G → VR K ρ H x a → VR K ρ H y b → f a b G = some (v, G') → ∀ Q : VK, Rs K ρ H v G' Q → r x y H Q
def Op1 (K : PySem.W.Frag) (r : V → Hp → VK → Prop) (f : IV → GH → Option (IV × GH)) : Prop :=
  ∀ (ρ : List Addr) (H : Hp) (G : GH) (x : V) (a v : IV) (G' : GH), HR K ρ H G → VR K ρ H x a → f a G = some (v, G') → ∀ Q : VK, Rs K ρ H v G' Q → r x H Q
def OpN (K : PySem.W.Frag) (r : List V → Hp → VK → Prop) (f : List IV → GH → Option (IV × GH)) : Prop :=
  ∀ (ρ : List Addr) (H : Hp) (G : GH) (xs : List V) (as : List IV) (v : IV) (G' : GH), HR K ρ H G → VRs K ρ H xs as → f as G = some (v, G') → ∀ Q : VK, Rs K ρ H v G' Q → r xs H Q
theorem Op2.or {K : PySem.W.Frag} {r r' : R2} {f f' : IV → IV → GH → Option (IV × GH)} (h : Op2 K r f) (h' : Op2 K r' f') : Op2 K (fun x y H Q => r x y H Q ∨ r' x y H Q) (fun a b G => match f a b G with | some z => some z | none => f' a b G) := by
  intro ρ H G x y a b v G' R ra rb e Q q
  dsimp only at e
  cases z : f a b G with
  | some w =>
    rw [z] at e
    exact .inl (h ρ H G x y a b v G' R ra rb (z.trans e) Q q)
  | none =>
    rw [z] at e
    exact .inr (h' ρ H G x y a b v G' R ra rb e Q q)
theorem OpN.or {K : PySem.W.Frag} {r r' : List V → Hp → VK → Prop} {f f' : List IV → GH → Option (IV × GH)} (h : OpN K r f) (h' : OpN K r' f') : OpN K (fun x H Q => r x H Q ∨ r' x H Q) (fun a G => match f a G with | some z => some z | none => f' a G) := by
  intro ρ H G x a v G' R ra e Q q
  dsimp only at e
  cases z : f a G with
  | some w =>
    rw [z] at e
    exact .inl (h ρ H G x a v G' R ra (z.trans e) Q q)
  | none =>
    rw [z] at e
    exact .inr (h' ρ H G x a v G' R ra e Q q)
section
variable {X : Cx} {ε : EV} {G G1 G2 G3 : GH} {v x y : IV}
theorem Rs.nx {K : PySem.W.Frag} {ρ ρ' : List Addr} {H H' : Hp} {v : IV} {G' : GH} {Q : VK} (q : Rs K ρ H v G' Q) (n : Nx ρ H ρ' H') : Rs K ρ' H' v G' Q := fun u ρ2 H2 n2 h r => q u ρ2 H2 (n.trans n2) h r
theorem RsB.nx {K : PySem.W.Frag} {ρ ρ' : List Addr} {H H' : Hp} {b : Bool} {G' : GH} {Q : Bool → Hp → Prop} (q : RsB K ρ H b G' Q) (n : Nx ρ H ρ' H') : RsB K ρ' H' b G' Q := fun ρ2 H2 n2 h => q ρ2 H2 (n.trans n2) h
theorem RsA.nx {K : PySem.W.Frag} {ρ ρ' : List Addr} {H H' : Hp} {v : List IV} {G' : GH} {Q : List V → Hp → Prop} (q : RsA K ρ H v G' Q) (n : Nx ρ H ρ' H') : RsA K ρ' H' v G' Q := fun u ρ2 H2 n2 h r => q u ρ2 H2 (n.trans n2) h r
theorem Rs.same {K : PySem.W.Frag} {ρ : List Addr} {H : Hp} {v : IV} {G' : GH} {Q : VK} {u : V} (q : Rs K ρ H v G' Q) (h : HR K ρ H G') (r : VR K ρ H u v) : Q u H := q u ρ H (Nx.refl ρ H) h r
theorem Rs.tup {K : PySem.W.Frag} {ρ : List Addr} {H : Hp} {ws : List IV} {us : List V} {G' : GH} {Q : VK} (q : Rs K ρ H (.tup ws) G' Q) (h : HR K ρ H G') (r : VRs K ρ H us ws) : ∀ p, H p = none → Q (.ref p) (upd H p (.tup us)) := fun p hp =>
  q _ ρ _ (Nx.laid hp) (h.laid hp) (.tup (.inl (.inl upd_same)) (r.nx (Nx.laid hp)))
theorem Rs.lst {K : PySem.W.Frag} {ρ : List Addr} {H : Hp} {ws : List IV} {us : List V} {Q : VK} (q : Rs K ρ H (.ref G.length) (G ++ [.lst ws]) Q) (h : HR K ρ H G) (r : VRs K ρ H us ws) : ∀ p, H p = none → Q (.ref p) (upd H p (.lst us)) := fun p hp =>
  q _ (ρ ++ [p]) _ (Nx.grow hp) (h.grow hp r) (.ref (by rw [List.getElem?_append_right (by rw [h.len]; exact Nat.le_refl _), h.len, Nat.sub_self]; rfl))
theorem mt_c {t : TE} {u : V} (ht : t = tC u) (r : ∀ ρ H, VR X.K ρ H u v) : Mt X t ε G v G := by
  subst ht
  intro ρ σ H a Q q
  exact q.same a.h (r ρ H)
theorem mt_var {i : Nat} (h : ε[i]? = some (some v)) : Mt X (tVar i) ε G v G := by
  intro ρ σ H a Q q
  obtain ⟨u, h1, h2⟩ := a.e i v h
  exact ⟨u, h1, q.same a.h h2⟩
theorem mt_op {r : R2} {f : IV → IV → GH → Option (IV × GH)} {ta tb : TE} (o : Op2 X.K r f) (ha : Mt X ta ε G x G1) (hb : Mt X tb ε G1 y G2) (e : f x y G2 = some (v, G3)) : Mt X (tOp r ta tb) ε G v G3 := by
  intro ρ σ H a Q q
  refine ha ρ σ H a _ fun u ρ1 H1 n1 h1 r1 => ?_
  refine hb ρ1 σ H1 (a.nx n1 h1) _ fun z ρ2 H2 n2 h2 r2 => ?_
  exact o ρ2 H2 G2 u z x y v G3 h2 (r1.nx n2) r2 e Q (q.nx (n1.trans n2))
theorem mt_un {r : V → Hp → VK → Prop} {f : IV → GH → Option (IV × GH)} {ta : TE} (o : Op1 X.K r f) (ha : Mt X ta ε G x G1) (e : f x G1 = some (v, G2)) : Mt X (tUn r ta) ε G v G2 := by
  intro ρ σ H a Q q
  refine ha ρ σ H a _ fun u ρ1 H1 n1 h1 r1 => ?_
  exact o ρ1 H1 G1 u x v G2 h1 r1 e Q (q.nx n1)
theorem mt_cb {r : List V → Hp → VK → Prop} {f : List IV → GH → Option (IV × GH)} {ta : TA} {xs : List IV} (o : OpN X.K r f) (ha : MtA X ta ε G xs G1) (e : f xs G1 = some (v, G2)) : Mt X (tCB r ta) ε G v G2 := by
  intro ρ σ H a Q q
  refine ha ρ σ H a _ fun us ρ1 H1 n1 h1 r1 => ?_
  exact o ρ1 H1 G1 us xs v G2 h1 r1 e Q (q.nx n1)
theorem mta_nil : MtA X tNil ε G [] G := fun ρ σ H a Q q => q [] ρ H (Nx.refl _ _) a.h .nil
theorem mta_cons {te : TE} {tr : TA} {xs : List IV} (ha : Mt X te ε G x G1) (hr : MtA X tr ε G1 xs G2) : MtA X (tCons te tr) ε G (x :: xs) G2 := by
  intro ρ σ H a Q q
  refine ha ρ σ H a _ fun u ρ1 H1 n1 h1 r1 => ?_
  refine hr ρ1 σ H1 (a.nx n1 h1) _ fun us ρ2 H2 n2 h2 r2 => ?_
  exact q (u :: us) ρ2 H2 (n1.trans n2) h2 (.cons (r1.nx n2) r2)
theorem mt_tup {ta : TA} {xs : List IV} (ha : MtA X ta ε G xs G1) (hl : xs.length ≤ sizeLine) : Mt X (tTup ta) ε G (.tup xs) G1 := by
  intro ρ σ H a Q q
  refine ha ρ σ H a _ fun us ρ1 H1 n1 h1 r1 => ⟨by rw [r1.length]; exact hl, (q.nx n1).tup h1 r1⟩
theorem mt_lst {ta : TA} {xs : List IV} (ha : MtA X ta ε G xs G1) (hl : xs.length ≤ sizeLine) : Mt X (tLst ta) ε G (.ref G1.length) (G1 ++ [.lst xs]) := by
  intro ρ σ H a Q q
  refine ha ρ σ H a _ fun us ρ1 H1 n1 h1 r1 => ⟨by rw [r1.length]; exact hl, (q.nx n1).lst h1 r1⟩
theorem mt_if {tt : TT} {ta tb : TE} {b : Bool} (ht : MtT X tt ε G b G1) (h1 : b = true → Mt X ta ε G1 v G2) (h2 : b = false → Mt X tb ε G1 v G2) : Mt X (tIf tt ta tb) ε G v G2 := by
  intro ρ σ H a Q q
  refine ht ρ σ H a _ fun ρ1 H1 n1 r1 => ?_
  cases b with
  | true => rw [if_pos rfl]; exact h1 rfl ρ1 σ H1 (a.nx n1 r1) Q (q.nx n1)
  | false => rw [if_neg Bool.false_ne_true]; exact h2 rfl ρ1 σ H1 (a.nx n1 r1) Q (q.nx n1)
theorem mt_and {ta tb : TE} {b : Bool} (ha : Mt X ta ε G (.bl b) G1) (h1 : b = true → Mt X tb ε G1 v G2) (h2 : b = false → v = .bl false ∧ G2 = G1) : Mt X (tAndV ta tb) ε G v G2 := by
  intro ρ σ H a Q q
  refine ha ρ σ H a _ fun u ρ1 H1 n1 r1 ru => ?_
  cases ru
  refine ⟨b, rfl, ?_⟩
  cases b with
  | true => rw [if_pos rfl]; exact h1 rfl ρ1 σ H1 (a.nx n1 r1) Q (q.nx n1)
  | false =>
    obtain ⟨rfl, rfl⟩ := h2 rfl
    rw [if_neg Bool.false_ne_true]; exact (q.nx n1).same r1 (.bl false)
theorem mt_or {ta tb : TE} {b : Bool} (ha : Mt X ta ε G (.bl b) G1) (h1 : b = false → Mt X tb ε G1 v G2) (h2 : b = true → v = .bl true ∧ G2 = G1) : Mt X (tOrV ta tb) ε G v G2 := by
  intro ρ σ H a Q q
  refine ha ρ σ H a _ fun u ρ1 H1 n1 r1 ru => ?_
  cases ru
  refine ⟨b, rfl, ?_⟩
  cases b with
  | true =>
    obtain ⟨rfl, rfl⟩ := h2 rfl
    rw [if_pos rfl]; exact (q.nx n1).same r1 (.bl true)
  | false => rw [if_neg Bool.false_ne_true]; exact h1 rfl ρ1 σ H1 (a.nx n1 r1) Q (q.nx n1)
theorem mt_not {ta : TE} {b : Bool} (ha : Mt X ta ε G (.bl b) G1) : Mt X (tNotV ta) ε G (.bl (!b)) G1 := by
  intro ρ σ H a Q q
  refine ha ρ σ H a _ fun u ρ1 H1 n1 r1 ru => ?_
  cases ru
  exact ⟨b, rfl, (q.nx n1).same r1 (.bl _)⟩
theorem mtt_and {ta tb : TT} {b c : Bool} (ha : MtT X ta ε G b G1) (h1 : b = true → MtT X tb ε G1 c G2) (h2 : b = false → c = false ∧ G2 = G1) : MtT X (tAnd ta tb) ε G c G2 := by
  intro ρ σ H a Q q
  refine ha ρ σ H a _ fun ρ1 H1 n1 r1 => ?_
  cases b with
  | true => rw [if_pos rfl]; exact h1 rfl ρ1 σ H1 (a.nx n1 r1) Q (q.nx n1)
  | false =>
    obtain ⟨rfl, rfl⟩ := h2 rfl
    rw [if_neg Bool.false_ne_true]; exact q ρ1 H1 n1 r1
theorem mtt_or {ta tb : TT} {b c : Bool} (ha : MtT X ta ε G b G1) (h1 : b = false → MtT X tb ε G1 c G2) (h2 : b = true → c = true ∧ G2 = G1) : MtT X (tOr ta tb) ε G c G2 := by
  intro ρ σ H a Q q
  refine ha ρ σ H a _ fun ρ1 H1 n1 r1 => ?_
  cases b with
  | true =>
    obtain ⟨rfl, rfl⟩ := h2 rfl
    rw [if_pos rfl]; exact q ρ1 H1 n1 r1
  | false => rw [if_neg Bool.false_ne_true]; exact h1 rfl ρ1 σ H1 (a.nx n1 r1) Q (q.nx n1)
theorem mtt_not {ta : TT} {b : Bool} (ha : MtT X ta ε G b G1) : MtT X (tNot ta) ε G (!b) G1 := by
  intro ρ σ H a Q q
  exact ha ρ σ H a _ fun ρ1 H1 n1 r1 => q ρ1 H1 n1 r1
theorem mtt_B {ta : TE} {b : Bool} (ha : Mt X ta ε G (.bl b) G1) : MtT X (tB ta) ε G b G1 := by
  intro ρ σ H a Q q
  refine ha ρ σ H a _ fun u ρ1 H1 n1 r1 ru => ?_
  cases ru
  exact ⟨b, rfl, q ρ1 H1 n1 r1⟩
theorem mtt_test {ta : TE} {b : Bool} (ha : Mt X ta ε G (.bl b) G1) : MtT X (tTest ta) ε G b G1 := mtt_B ha
/-- from a term to the syntax -/
theorem mt_w {e : Expr} {t : TE} (p : PE X e t) (h : Mt X t ε G v G1) : Mt X (wE X e) ε G v G1 := fun ρ σ H a Q q => wE_of p (h ρ σ H a Q q)
theorem mtt_w {e : Expr} {t : TT} {b : Bool} (p : PT X e t) (h : MtT X t ε G b G1) : MtT X (wT X e) ε G b G1 := fun ρ σ H a Q q => wT_of p (h ρ σ H a Q q)
theorem mtw_w {e : Expr} {t : TT} {b : Bool} (p : PW X e t) (h : MtT X t ε G b G1) : MtT X (wW X e) ε G b G1 := fun ρ σ H a Q q => wW_of p (h ρ σ H a Q q)
theorem mta_w {es : List Expr} {t : TA} {vs : List IV} (p : PA X es t) (h : MtA X t ε G vs G1) : MtA X (wA X es) ε G vs G1 := fun ρ σ H a Q q => wA_of p (h ρ σ H a Q q)
end
end Lk
set_option maxHeartbeats 2000000
namespace Lk
open PySem PySem.Spec PyProof.Rows L2
/-! ### data -/
mutual
def toD : IV → Option PyData
  | .non => some .none
  | .bl b => some (.bool b)
  | .int i => some (.int i)
  | .str x => some (.str x)
  | .tup xs => match toDs xs with
    | some ds => some (.tuple ds)
    | none => none
  | .ref _ => none
def toDs : List IV → Option (List PyData)
  | [] => some []
  | x :: xs => match toD x with
    | none => none
    | some d => match toDs xs with
      | none => none
      | some ds => some (d :: ds)
end
def gD (G : GH) : IV → Option PyData
  | .ref n => match G[n]? with
    | some m => match toDs m.its with
      | some ds => some (.list ds)
      | none => none
    | none => none
  | v => toD v
mutual
/-- at most so many signs -/
def swt : PyData → Option Nat
  | .none => some 4
  | .bool _ => some 5
  | .int i => if i.natAbs.log2 < 1920 then some 1921 else none
  | .list xs => match swts xs with
    | some n => some (n + 6)
    | none => none
  | .tuple xs => match swts xs with
    | some n => some (n + 6)
    | none => none
  | _ => none
def swts : List PyData → Option Nat
  | [] => some 0
  | x :: xs => match swt x with
    | none => none
    | some a => match swts xs with
      | none => none
      | some b => some (a + b + 2)
end
theorem len_listText : ∀ (ts : List Str) (k : Nat) (acc : Str), (textFrom k acc ts).length ≤ acc.length + piled ts
  | [], k, acc => by show acc.length ≤ _; omega
  | t :: r, k, acc => by
    have h := len_listText r (k + 1) (acc ++ (if k > 0 then ", " else "" : String) ++ t)
    have e : (acc ++ (if k > 0 then ", " else "" : String) ++ t).length ≤ acc.length + 2 + t.length := by
      rw [strLen_append, strLen_append]
      split
      · exact Nat.le_refl _
      · show acc.length + 0 + t.length ≤ _; omega
    rw [piled_cons]
    show (textFrom (k + 1) _ r).length ≤ _
    omega
mutual
theorem shown_of : ∀ (d : PyData) (n : Nat), swt d = some n → d.shown.length ≤ n ∧ d.showable = true ∧ d.hasDict = false
  | .none, n, h => by
    simp only [swt, Option.some.injEq] at h
    subst h
    exact ⟨by simp only [PyData.shown]; decide, by simp only [PyData.showable], by simp only [PyData.hasDict]⟩
  | .bool b, n, h => by
    simp only [swt, Option.some.injEq] at h
    subst h
    exact ⟨by simp only [PyData.shown]; cases b <;> decide, by simp only [PyData.showable], by simp only [PyData.hasDict]⟩
  | .int i, n, h => by
    simp only [swt] at h
    by_cases c : i.natAbs.log2 < 1920
    · rw [if_pos c] at h
      simp only [Option.some.injEq] at h
      subst h
      exact ⟨by simp only [PyData.shown]; exact int_text_len_1921 c, by simp only [PyData.showable, decide_eq_true c], by simp only [PyData.hasDict]⟩
    · rw [if_neg c] at h; cases h
  | .str x, n, h => by simp only [swt] at h; cases h
  | .dict x, n, h => by simp only [swt] at h; cases h
  | .list xs, n, h => by
    simp only [swt] at h
    cases e : swts xs with
    | none => rw [e] at h; cases h
    | some m =>
      rw [e] at h
      simp only [Option.some.injEq] at h
      subst h
      obtain ⟨h1, h2, h3⟩ := shown_ofs xs m e
      refine ⟨?_, by simp only [PyData.showable]; exact h2, by simp only [PyData.hasDict]; exact h3⟩
      simp only [PyData.shown]
      have z := len_listText (PyData.shownAll xs) 0 "["
      show (textFrom 0 "[" (PyData.shownAll xs) ++ ("]" : Str)).length ≤ _
      rw [strLen_append]
      have e1 : (Str.ofString "[").length = 1 := by decide
      have e2 : (Str.ofString "]").length = 1 := by decide
      omega
  | .tuple xs, n, h => by
    simp only [swt] at h
    cases e : swts xs with
    | none => rw [e] at h; cases h
    | some m =>
      rw [e] at h
      simp only [Option.some.injEq] at h
      subst h
      obtain ⟨h1, h2, h3⟩ := shown_ofs xs m e
      refine ⟨?_, by simp only [PyData.showable]; exact h2, by simp only [PyData.hasDict]; exact h3⟩
      simp only [PyData.shown]
      unfold tupleText
      have e1 : (Str.ofString "(").length = 1 := by decide
      have e2 : (Str.ofString ",)").length = 2 := by decide
      have e3 : (Str.ofString ")").length = 1 := by decide
      have ej : (Str.join ", " (PyData.shownAll xs)).length ≤ piled (PyData.shownAll xs) := by
        cases q : PyData.shownAll xs with
        | nil => show (Str.join ", " []).length ≤ 0; decide
        | cons t r =>
          have := join_length_add (t :: r) (by simp)
          omega
      rw [strLen_append, strLen_append]
      split
      · omega
      · omega
theorem shown_ofs : ∀ (ds : List PyData) (n : Nat), swts ds = some n → piled (PyData.shownAll ds) ≤ n ∧ PyData.showableAll ds = true ∧ PyData.hasDictAll ds = false
  | [], n, h => ⟨by simp only [PyData.shownAll]; exact Nat.zero_le _, by simp only [PyData.showableAll], by simp only [PyData.hasDictAll]⟩
  | d :: ds, n, h => by
    simp only [swts] at h
    cases e : swt d with
    | none => rw [e] at h; cases h
    | some a =>
      rw [e] at h
      cases e2 : swts ds with
      | none => rw [e2] at h; cases h
      | some b =>
        rw [e2] at h
        simp only [Option.some.injEq] at h
        subst h
        obtain ⟨h1, h2, h3⟩ := shown_of d a e
        obtain ⟨k1, k2, k3⟩ := shown_ofs ds b e2
        refine ⟨?_, by simp only [PyData.showableAll, h2, k2, Bool.and_self], by simp only [PyData.hasDictAll, h3, k3, Bool.or_self]⟩
        simp only [PyData.shownAll, piled_cons]
        omega
end
/-! ### every shown text is one -/
theorem strOk_app {x y : Str} (hx : PyData.strOk x = true) (hy : PyData.strOk y = true) : PyData.strOk (x ++ y) = true := by
  unfold PyData.strOk at *
  show (x.cps ++ y.cps).all _ = true
  rw [Array.all_append, hx, hy]
  rfl
theorem strOk_of (s : String) : PyData.strOk (Str.ofString s) = true := by
  rw [Str.ofString_eq_toList]
  unfold PyData.strOk
  simp only [List.all_toArray, List.all_map, List.all_eq_true]
  intro c _
  refine decide_eq_true ?_
  rcases c.valid with h | h
  · have : c.toNat < 0xd800 := h
    show c.toNat < 0x110000
    omega
  · exact h.2
theorem strOk_text : ∀ (ts : List Str) (k : Nat) (acc : Str), (∀ t ∈ ts, PyData.strOk t = true) → PyData.strOk acc = true → PyData.strOk (textFrom k acc ts) = true
  | [], _, _, _, h => h
  | t :: r, k, acc, ht, h => strOk_text r (k + 1) _ (fun u hu => ht u (List.mem_cons_of_mem _ hu)) (strOk_app (strOk_app h (strOk_of _)) (ht t (List.mem_cons_self ..)))
theorem strOk_join {sep : Str} (hs : PyData.strOk sep = true) : ∀ ts : List Str, (∀ t ∈ ts, PyData.strOk t = true) → PyData.strOk (Str.join sep ts) = true
  | [], _ => strOk_of ""
  | [x], h => h x (List.mem_cons_self ..)
  | x :: y :: r, h => strOk_app (strOk_app (h x (List.mem_cons_self ..)) hs) (strOk_join hs (y :: r) fun t ht => h t (List.mem_cons_of_mem _ ht))
mutual
theorem strOk_shown : ∀ (d : PyData) (n : Nat), swt d = some n → PyData.strOk d.shown = true
  | .none, n, h => by simp only [PyData.shown]; exact strOk_of _
  | .bool b, n, h => by
    simp only [PyData.shown]
    cases b
    · exact strOk_of "False"
    · exact strOk_of "True"
  | .int i, n, h => by simp only [PyData.shown]; exact strOk_of _
  | .str x, n, h => by simp only [swt] at h; cases h
  | .dict x, n, h => by simp only [swt] at h; cases h
  | .list xs, n, h => by
    simp only [swt] at h
    cases e : swts xs with
    | none => rw [e] at h; cases h
    | some m =>
      simp only [PyData.shown]
      exact strOk_app (strOk_text _ _ _ (strOk_shows xs m e) (strOk_of "[")) (strOk_of "]")
  | .tuple xs, n, h => by
    simp only [swt] at h
    cases e : swts xs with
    | none => rw [e] at h; cases h
    | some m =>
      simp only [PyData.shown]
      unfold tupleText
      exact strOk_app (strOk_app (strOk_of "(") (strOk_join (strOk_of ", ") _ (strOk_shows xs m e))) (strOk_of _)
theorem strOk_shows : ∀ (ds : List PyData) (n : Nat), swts ds = some n → ∀ t ∈ PyData.shownAll ds, PyData.strOk t = true
  | [], n, h => fun t ht => by simp only [PyData.shownAll] at ht; cases ht
  | d :: ds, n, h => fun t ht => by
    simp only [swts] at h
    cases e : swt d with
    | none => rw [e] at h; cases h
    | some a =>
      rw [e] at h
      cases e2 : swts ds with
      | none => rw [e2] at h; cases h
      | some b =>
        simp only [PyData.shownAll] at ht
        rcases List.mem_cons.mp ht with rfl | ht
        · exact strOk_shown d a e
        · exact strOk_shows ds b e2 t ht
end
section
variable {K : PySem.W.Frag} {ρ : List Addr} {H : Hp} {G : GH}
mutual
theorem dp_of : ∀ {x : V} {w : IV} {d : PyData}, VR K ρ H x w → toD w = some d → Dp K H x d
  | _, _, d, .non, e => by simp only [toD, Option.some.injEq] at e; subst e; exact .non
  | _, _, d, .bl b, e => by simp only [toD, Option.some.injEq] at e; subst e; exact .bl b
  | _, _, d, .int i, e => by simp only [toD, Option.some.injEq] at e; subst e; exact .int i
  | _, _, d, .str x, e => by simp only [toD, Option.some.injEq] at e; subst e; exact .str x
  | _, _, d, .tup (ws := ws) h r, e => by
    simp only [toD] at e
    cases q : toDs ws with
    | none => rw [q] at e; cases e
    | some ds => rw [q] at e; simp only [Option.some.injEq] at e; subst e; exact .tup h (dps_of r q)
  | _, _, d, .ref _, e => by simp only [toD] at e; cases e
theorem dps_of : ∀ {xs : List V} {ws : List IV} {ds : List PyData}, VRs K ρ H xs ws → toDs ws = some ds → DpAll K H xs ds
  | _, _, ds, .nil, e => by simp only [toDs, Option.some.injEq] at e; subst e; exact .nil
  | _, _, ds, .cons (w := w) (ws := ws) h r, e => by
    simp only [toDs] at e
    cases q : toD w with
    | none => rw [q] at e; cases e
    | some d =>
      rw [q] at e
      cases q2 : toDs ws with
      | none => rw [q2] at e; cases e
      | some es => rw [q2] at e; simp only [Option.some.injEq] at e; subst e; exact .cons (dp_of h q) (dps_of r q2)
end
theorem gdp_of {x : V} {w : IV} {d : PyData} (R : HR K ρ H G) (r : VR K ρ H x w) (e : gD G w = some d) : Dp K H x d := by
  cases r with
  | ref h =>
    rename_i n
    simp only [gD] at e
    cases q : G[n]? with
    | none => rw [q] at e; cases e
    | some m =>
      rw [q] at e
      simp only at e
      cases q2 : toDs m.its with
      | none => rw [q2] at e; cases e
      | some ds =>
        rw [q2] at e
        simp only [Option.some.injEq] at e
        subst e
        obtain ⟨vs, h1, h2⟩ := (R.at_ _ _ _ h q).sq
        exact .lst h1 (dps_of h2 q2)
  | non => exact dp_of (ρ := ρ) .non e
  | bl b => exact dp_of (ρ := ρ) (.bl b) e
  | int i => exact dp_of (ρ := ρ) (.int i) e
  | str x => exact dp_of (ρ := ρ) (.str x) e
  | tup h r => exact dp_of (.tup h r) e
end
/-! ### repr -/
def rRepr (K : PySem.W.Frag) : List V → Hp → VK → Prop := fun xs H Q => ∃ v d, xs = [v] ∧ Dp K H v d ∧ d.showable = true ∧ d.hasDict = false ∧ d.depth ≤ 60 ∧ d.shown.length ≤ sizeLine ∧ Q (.str d.shown) H
theorem call_repr {X : Cx} (hg : X.A.guards = some []) (hu : X.A.units + 64 < cLine) : CallR X (.builtin "repr") (rRepr X.K) := by
  intro pins s σ H xs us Q I r h
  obtain ⟨v, d, rfl, hd, hs, hn, hz, hl, q⟩ := h
  obtain ⟨u, rfl, ru⟩ := vals1 r
  obtain ⟨as, rd⟩ := Dp.reads I d v u hd ru
  cases hd with
  | non =>
    cases ru
    simp only [PyData.shown] at q
    exact PySem.P.repr_of_none ⟨.str _, H, I.tok _, ⟨_, rfl⟩, q⟩
  | bl b =>
    cases ru
    simp only [PyData.shown] at q
    refine PySem.P.repr_of_bool ⟨.str _, H, I.tok _, ⟨_, rfl⟩, q⟩
  | int i =>
    obtain ⟨t, rfl⟩ := ru
    simp only [PyData.shown] at q
    exact PySem.P.repr_of_int (by simpa only [PyData.showable, decide_eq_true_eq] using hs) ⟨.str _, H, I.tok _, ⟨_, rfl⟩, q⟩
  | str x =>
    obtain ⟨t, rfl⟩ := ru
    simp only [PyData.shown] at q hl
    exact PySem.P.repr_of_str ⟨.str _, H, I.tok _, ⟨_, rfl⟩, q⟩ hl
  | lst h1 h2 =>
    cases ru
    exact repr_of_reads' rd hs (PyData.noDict_hsm hn) hg (by omega) (fun _ _ e => e) (fun h' u tk hk => ⟨.str _, H, I.kept hk, ⟨_, rfl⟩, q⟩) hl
  | tup h1 h2 =>
    cases ru
    exact repr_of_reads' rd hs (PyData.noDict_hsm hn) hg (by omega) (fun _ _ e => e) (fun h' u tk hk => ⟨.str _, H, I.kept hk, ⟨_, rfl⟩, q⟩) hl
end Lk
set_option maxHeartbeats 2000000
namespace Lk
open PySem PySem.Spec PyProof.Rows L2
def lim : Nat := 100000
theorem lim_ok {n : Nat} (h : n ≤ lim) : n ≤ sizeLine := Nat.le_trans h (by decide)
theorem lim_lt {n : Nat} (h : n < lim) : n < sizeLine := Nat.lt_of_lt_of_le h (by decide)
abbrev RO := Option (IV × GH)
section
variable {K : PySem.W.Frag}
/-- from two ints -/
def onInts (c : Int → Int → Bool) (g : Int → Int → IV) : IV → IV → GH → RO := fun a b G => match a, b with
  | .int i, .int j => if c i j = true then some (g i j, G) else none
  | _, _ => none
theorem op_ints {C : Int → Int → Prop} {c : Int → Int → Bool} {gv : Int → Int → V} {g : Int → Int → IV} (hc : ∀ i j, c i j = true → C i j) (hg : ∀ ρ H i j, VR K ρ H (gv i j) (g i j)) : Op2 K (rI C gv) (onInts c g) := by
  intro ρ H G x y a b v G' R ra rb e Q q
  unfold onInts at e
  cases ra with
  | int i =>
    cases rb with
    | int j =>
      simp only at e
      by_cases z : c i j = true
      · rw [if_pos z] at e
        cases e
        exact ⟨i, j, rfl, rfl, hc i j z, q.same R (hg ρ H i j)⟩
      · rw [if_neg z] at e; cases e
    | _ => cases e
  | _ => cases e
theorem op_ints0 {gv : Int → Int → V} {g : Int → Int → IV} (hg : ∀ ρ H i j, VR K ρ H (gv i j) (g i j)) : Op2 K (rI0 gv) (onInts (fun _ _ => true) g) := by
  intro ρ H G x y a b v G' R ra rb e Q q
  obtain ⟨i, j, h1, h2, _, h4⟩ := op_ints (C := fun _ _ => True) (fun _ _ _ => trivial) hg ρ H G x y a b v G' R ra rb e Q q
  exact ⟨i, j, h1, h2, h4⟩
def fAdd := onInts (fun _ _ => true) fun i j => IV.int (i + j)
def fSub := onInts (fun _ _ => true) fun i j => IV.int (i - j)
def fMul := onInts (fun i j => decide (i.natAbs.log2 + j.natAbs.log2 < 1000000)) fun i j => IV.int (i * j)
def fDiv := onInts (fun _ j => decide (0 < j) && decide (j.natAbs.log2 < 9000)) fun i j => IV.int (i / j)
def fMod := onInts (fun _ j => decide (0 < j)) fun i j => IV.int (i % j)
def fPow := onInts (fun i j => decide (0 ≤ j) && decide ((Builtin.Int.intBits i : Int) * j ≤ 2 ^ 27)) fun i j => IV.int (i ^ j.toNat)
def fLt := onInts (fun _ _ => true) fun i j => IV.bl (decide (i < j))
def fLe := onInts (fun _ _ => true) fun i j => IV.bl (decide (i ≤ j))
def fGt := onInts (fun _ _ => true) fun i j => IV.bl (decide (j < i))
def fGe := onInts (fun _ _ => true) fun i j => IV.bl (decide (j ≤ i))
theorem s_add : Op2 K (rI0 fun i j => .int (i + j)) fAdd := op_ints0 fun _ _ _ _ => .int _
theorem s_sub : Op2 K (rI0 fun i j => .int (i - j)) fSub := op_ints0 fun _ _ _ _ => .int _
theorem s_mul : Op2 K (rI CMulW fun i j => .int (i * j)) fMul := op_ints (fun i j h => of_decide_eq_true (p := i.natAbs.log2 + j.natAbs.log2 < 1000000) h) fun _ _ _ _ => .int _
theorem s_div : Op2 K (rI CDivW fun i j => .int (i / j)) fDiv := op_ints (fun _ _ h => by
  rw [Bool.and_eq_true] at h
  exact ⟨of_decide_eq_true h.1, of_decide_eq_true h.2⟩) fun _ _ _ _ => .int _
theorem s_mod : Op2 K (rI (fun _ j => 0 < j) fun i j => .int (i % j)) fMod := op_ints (fun _ _ h => of_decide_eq_true h) fun _ _ _ _ => .int _
def CPowW (i j : Int) : Prop := 0 ≤ j ∧ (Builtin.Int.intBits i : Int) * j ≤ 2 ^ 27
theorem op_powW {X : Cx} : OpR X (binaryOp .Pow) (rI CPowW fun i j => .int (i ^ j.toNat)) := opI fun _ _ _ _ _ _ _ hc q => pow_int hc.1 hc.2 q
theorem s_pow : Op2 K (rI CPowW fun i j => .int (i ^ j.toNat)) fPow := op_ints (fun _ _ h => by
  rw [Bool.and_eq_true] at h
  exact ⟨of_decide_eq_true h.1, of_decide_eq_true h.2⟩) fun _ _ _ _ => .int _
theorem s_lt : Op2 K (rI0 fun i j => .bl (decide (i < j))) fLt := op_ints0 fun _ _ _ _ => .bl _
theorem s_le : Op2 K (rI0 fun i j => .bl (decide (i ≤ j))) fLe := op_ints0 fun _ _ _ _ => .bl _
theorem s_gt : Op2 K (rI0 fun i j => .bl (decide (j < i))) fGt := op_ints0 fun _ _ _ _ => .bl _
theorem s_ge : Op2 K (rI0 fun i j => .bl (decide (j ≤ i))) fGe := op_ints0 fun _ _ _ _ => .bl _
def fNeg : IV → GH → RO := fun a G => match a with
  | .int i => some (.int (-i), G)
  | _ => none
theorem s_neg : Op1 K (rU fun i => .int (-i)) fNeg := by
  intro ρ H G x a v G' R ra e Q q
  cases ra with
  | int i => cases e; exact ⟨i, rfl, q.same R (.int _)⟩
  | _ => cases e
/-! tuples and lists put together -/
def fCatT : IV → IV → GH → RO := fun a b G => match a, b with
  | .tup xs, .tup ys => if xs.isEmpty = false ∧ xs.length + ys.length ≤ lim then some (.tup (xs ++ ys), G) else none
  | _, _ => none
theorem s_catT : Op2 K (rCatT K) fCatT := by
  intro ρ H G x y a b v G' R ra rb e Q q
  unfold fCatT at e
  cases ra with
  | tup h r =>
    cases rb with
    | tup h2 r2 =>
      simp only at e
      split at e
      · rename_i c
        cases e
        refine ⟨_, _, _, _, rfl, rfl, h, h2, ?_, ?_, fun z => ?_, fun z => q.tup R (r.app r2)⟩
        · rintro rfl
          cases r
          exact absurd c.1 (by simp)
        · rw [r.length, r2.length]; exact lim_ok c.2
        · subst z
          cases r2
          rw [List.append_nil] at q
          exact q.same R (.tup h r)
      · cases e
    | _ => cases e
  | _ => cases e
def fCat : IV → IV → GH → RO := fun a b G => match a, b with
  | .ref n, .ref m => match G[n]?, G[m]? with
    | some (.lst xs), some (.lst ys) => if xs.length + ys.length ≤ lim then some (.ref G.length, G ++ [.lst (xs ++ ys)]) else none
    | _, _ => none
  | _, _ => none
theorem mr_lst {ρ : List Addr} {H : Hp} {a : Addr} {ws : List IV} (h : MR K ρ H a (.lst ws)) : ∃ vs, H a = some (.lst vs) ∧ VRs K ρ H vs ws := by
  cases h with
  | lst h r => exact ⟨_, h, r⟩
theorem s_cat : Op2 K rCat fCat := by
  intro ρ H G x y a b v G' R ra rb e Q q
  unfold fCat at e
  cases ra with
  | ref h =>
    rename_i a n
    cases rb with
    | ref h2 =>
      rename_i b m
      simp only at e
      cases z1 : G[n]? with
      | none => rw [z1] at e; cases e
      | some m1 =>
        cases z2 : G[m]? with
        | none => rw [z1, z2] at e; cases m1 <;> cases e
        | some m2 =>
          rw [z1, z2] at e
          cases m1 with
          | scr _ => cases e
          | lst xs =>
            cases m2 with
            | scr _ => cases e
            | lst ys =>
              simp only at e
              split at e
              · rename_i c
                cases e
                obtain ⟨vs, k1, k2⟩ := mr_lst (R.at_ _ _ _ h z1)
                obtain ⟨us, l1, l2⟩ := mr_lst (R.at_ _ _ _ h2 z2)
                exact ⟨a, b, vs, us, rfl, rfl, k1, l1, by rw [k2.length, l2.length]; exact lim_ok c, q.lst R (k2.app l2)⟩
              · cases e
    | _ => cases e
  | _ => cases e
def fAddA : IV → IV → GH → RO := fun a b G => match fAdd a b G with
  | some z => some z
  | none => (fun a b G => match fCatT a b G with
    | some z => some z
    | none => fCat a b G) a b G
def rAddA (K : PySem.W.Frag) : R2 := fun x y H Q => rI0 (fun i j => .int (i + j)) x y H Q ∨ (fun x y H Q => rCatT K x y H Q ∨ rCat x y H Q) x y H Q
theorem s_addA : Op2 K (rAddA K) fAddA := s_add.or (s_catT.or s_cat)
theorem op_addA {X : Cx} : OpR X (binaryOp .Add) (rAddA X.K) := op_add.or (op_catT.or op_cat)
/-! == -/
def fEq (neg : Bool) : IV → IV → GH → RO := fun a b G => match gD G a with
  | none => none
  | some d => match gD G b with
    | none => none
    | some e => if (SeqAt.shaped d && SeqAt.shaped e) = true then some (.bl (if neg then !PyData.eqv d e else PyData.eqv d e), G) else none
theorem fEq_of {neg : Bool} {ρ : List Addr} {H : Hp} {G G' : GH} {x y : V} {a b v : IV} (R : HR K ρ H G) (ra : VR K ρ H x a) (rb : VR K ρ H y b) (e : fEq neg a b G = some (v, G')) :
    ∃ d d', Dp K H x d ∧ Dp K H y d' ∧ SeqAt.shaped d = true ∧ SeqAt.shaped d' = true ∧ v = .bl (if neg then !PyData.eqv d d' else PyData.eqv d d') ∧ G' = G := by
  unfold fEq at e
  cases z1 : gD G a with
  | none => rw [z1] at e; cases e
  | some d =>
    rw [z1] at e
    simp only at e
    cases z2 : gD G b with
    | none => rw [z2] at e; cases e
    | some d' =>
      rw [z2] at e
      simp only at e
      split at e
      · rename_i c
        cases e
        rw [Bool.and_eq_true] at c
        exact ⟨d, d', gdp_of R ra z1, gdp_of R rb z2, c.1, c.2, rfl, rfl⟩
      · cases e
theorem s_eq : Op2 K (rEqD K) (fEq false) := by
  intro ρ H G x y a b v G' R ra rb e Q q
  obtain ⟨d, d', h1, h2, h3, h4, rfl, rfl⟩ := fEq_of R ra rb e
  exact ⟨d, d', h1, h2, h3, h4, q.same R (.bl _)⟩
theorem s_ne : Op2 K (rNeD K) (fEq true) := by
  intro ρ H G x y a b v G' R ra rb e Q q
  obtain ⟨d, d', h1, h2, h3, h4, rfl, rfl⟩ := fEq_of R ra rb e
  exact ⟨d, d', h1, h2, h3, h4, q.same R (.bl _)⟩
/-- x in xs, xs a list -/
def fIn (neg : Bool) : IV → IV → GH → RO := fun a b G => match gD G a with
  | none => none
  | some d => match gD G b with
    | some (.list ds) => if (SeqAt.shaped d && SeqAt.shaped (.list ds)) = true then some (.bl (if neg then !ds.any (fun z => PyData.eqv z d) else ds.any (fun z => PyData.eqv z d)), G) else none
    | _ => none
theorem fIn_of {neg : Bool} {ρ : List Addr} {H : Hp} {G G' : GH} {x y : V} {a b v : IV} (R : HR K ρ H G) (ra : VR K ρ H x a) (rb : VR K ρ H y b) (e : fIn neg a b G = some (v, G')) :
    ∃ d ds, Dp K H x d ∧ Dp K H y (.list ds) ∧ SeqAt.shaped d = true ∧ SeqAt.shaped (.list ds) = true ∧ v = .bl (if neg then !ds.any (fun z => PyData.eqv z d) else ds.any (fun z => PyData.eqv z d)) ∧ G' = G := by
  unfold fIn at e
  cases z1 : gD G a with
  | none => rw [z1] at e; cases e
  | some d =>
    rw [z1] at e
    simp only at e
    cases z2 : gD G b with
    | none => rw [z2] at e; cases e
    | some d' =>
      rw [z2] at e
      cases d' with
      | list ds =>
        simp only at e
        split at e
        · rename_i c
          cases e
          rw [Bool.and_eq_true] at c
          exact ⟨d, ds, gdp_of R ra z1, gdp_of R rb z2, c.1, c.2, rfl, rfl⟩
        · cases e
      | _ => cases e
theorem s_in : Op2 K (rInD K) (fIn false) := by
  intro ρ H G x y a b v G' R ra rb e Q q
  obtain ⟨d, ds, h1, h2, h3, h4, rfl, rfl⟩ := fIn_of R ra rb e
  exact ⟨d, ds, h1, h2, h3, h4, q.same R (.bl _)⟩
theorem s_notIn : Op2 K (rNotInD K) (fIn true) := by
  intro ρ H G x y a b v G' R ra rb e Q q
  obtain ⟨d, ds, h1, h2, h3, h4, rfl, rfl⟩ := fIn_of R ra rb e
  exact ⟨d, ds, h1, h2, h3, h4, q.same R (.bl _)⟩
/-! places -/
theorem atI_rel {ρ : List Addr} {H : Hp} {vs : List V} {ws : List IV} {i : Int} {w : IV} (r : VRs K ρ H vs ws) (h : atI ws i = some w) : ∃ v, atI vs i = some v ∧ VR K ρ H v w := by
  unfold atI at h ⊢
  rw [r.length]
  cases e : ixN ws.length i with
  | none => rw [e] at h; cases h
  | some j =>
    rw [e] at h
    obtain ⟨v, h1, h2⟩ := r.get h
    exact ⟨v, h1, h2⟩
def fIx : IV → IV → GH → RO := fun a b G => match b with
  | .int i => match a with
    | .tup ws => match atI ws i with
      | some w => some (w, G)
      | none => none
    | .ref n => match G[n]? with
      | some m => match atI m.its i with
        | some w => some (w, G)
        | none => none
      | none => none
    | _ => none
  | _ => none
def rIxA (K : PySem.W.Frag) : R2 := fun x y H Q => rIxT K x y H Q ∨ rIxL K x y H Q
theorem s_ix : Op2 K (rIxA K) fIx := by
  intro ρ H G x y a b v G' R ra rb e Q q
  unfold fIx at e
  cases rb with
  | int i =>
    cases ra with
    | tup h r =>
      simp only at e
      split at e
      · rename_i w hw
        cases e
        obtain ⟨u, h1, h2⟩ := atI_rel r hw
        exact .inl ⟨_, _, i, u, rfl, rfl, h, h1, q.same R h2⟩
      · cases e
    | ref h =>
      simp only at e
      split at e
      · rename_i m hm
        split at e
        · rename_i w hw
          cases e
          obtain ⟨vs, k1, k2⟩ := (R.at_ _ _ _ h hm).sq
          obtain ⟨u, h1, h2⟩ := atI_rel k2 hw
          exact .inr ⟨_, _, i, u, rfl, rfl, k1, h1, q.same R h2⟩
        · cases e
      · cases e
    | _ => cases e
  | _ => cases e
theorem ix_all {X : Cx} : IxR X (rIxA X.K) := ix_tup.or ix_list
/-! slices -/
def cutI (xs : List IV) (lo hi : Option Int) : List IV := (xs.drop (HT.sIx xs.length 0 lo)).take (HT.sIx xs.length xs.length hi - HT.sIx xs.length 0 lo)
theorem cut_rel {ρ : List Addr} {H : Hp} {vs : List V} {ws : List IV} (r : VRs K ρ H vs ws) (lo hi : Option Int) : VRs K ρ H (cutV vs lo hi) (cutI ws lo hi) := by
  unfold cutV cutI
  rw [r.length]
  exact (r.drop _).take _
def fSl (lo hi : Option Int) : IV → GH → RO := fun a G => match a with
  | .tup ws => some (.tup (cutI ws lo hi), G)
  | .ref n => match G[n]? with
    | some m => some (.ref G.length, G ++ [.lst (cutI m.its lo hi)])
    | none => none
  | _ => none
def rSlX (K : PySem.W.Frag) : V → Option Int → Option Int → Hp → VK → Prop := fun x lo hi H Q => rSlA K x lo hi H Q ∨ rSlL K x lo hi H Q
theorem s_sl {ρ : List Addr} {H : Hp} {G G' : GH} {x : V} {a v : IV} {lo hi : Option Int} (R : HR K ρ H G) (ra : VR K ρ H x a) (e : fSl lo hi a G = some (v, G')) {Q : VK} (q : Rs K ρ H v G' Q) : rSlX K x lo hi H Q := by
  unfold fSl at e
  cases ra with
  | tup h r =>
    rename_i xs ws
    cases e
    refine .inl ⟨_, _, rfl, h, fun z => ?_, fun z => q.tup R (cut_rel r lo hi)⟩
    have e1 : cutI ws lo hi = ws := by
      unfold cutI
      rw [← r.length, z.1, z.2, List.drop_zero, Nat.sub_zero, r.length, List.take_length]
    rw [e1] at q
    exact q.same R (.tup h r)
  | ref h =>
    simp only at e
    split at e
    · rename_i m hm
      cases e
      obtain ⟨vs, k1, k2⟩ := (R.at_ _ _ _ h hm).sq
      exact .inr ⟨_, _, rfl, k1, q.lst R (cut_rel k2 lo hi)⟩
    · cases e
  | _ => cases e
theorem sl_all {X : Cx} : SlR X (rSlX X.K) := sl_tupA.or sl_list
end
end Lk
set_option maxHeartbeats 2000000
namespace Lk
open PySem PySem.Spec PyProof.Rows L2
def asInts : List IV → Option (List Int)
  | [] => some []
  | .int i :: r => match asInts r with
    | some ns => some (i :: ns)
    | none => none
  | _ => none
def asBls : List IV → Option (List Bool)
  | [] => some []
  | .bl i :: r => match asBls r with
    | some ns => some (i :: ns)
    | none => none
  | _ => none
section
variable {K : PySem.W.Frag} {ρ : List Addr} {H : Hp}
theorem asInts_rel : ∀ {vs : List V} {ws : List IV} {ns : List Int}, VRs K ρ H vs ws → asInts ws = some ns → vs = ns.map V.int
  | _, _, ns, .nil, e => by simp only [asInts, Option.some.injEq] at e; subst e; rfl
  | _, _, ns, .cons (w := w) (ws := ws) h r, e => by
    cases h with
    | int i =>
      simp only [asInts] at e
      cases z : asInts ws with
      | none => rw [z] at e; cases e
      | some ms =>
        rw [z] at e
        simp only [Option.some.injEq] at e
        subst e
        rw [asInts_rel r z, List.map_cons]
    | _ => simp only [asInts] at e; cases e
theorem asBls_rel : ∀ {vs : List V} {ws : List IV} {ns : List Bool}, VRs K ρ H vs ws → asBls ws = some ns → vs = ns.map V.bl
  | _, _, ns, .nil, e => by simp only [asBls, Option.some.injEq] at e; subst e; rfl
  | _, _, ns, .cons (w := w) (ws := ws) h r, e => by
    cases h with
    | bl i =>
      simp only [asBls] at e
      cases z : asBls ws with
      | none => rw [z] at e; cases e
      | some ms =>
        rw [z] at e
        simp only [Option.some.injEq] at e
        subst e
        rw [asBls_rel r z, List.map_cons]
    | _ => simp only [asBls] at e; cases e
end
inductive BI where
  | len | abs | int | repr | list | tuple | sum | max | min | all | any
  deriving DecidableEq
def BI.name : BI → Str
  | .len => "len" | .abs => "abs" | .int => "int" | .repr => "repr" | .list => "list" | .tuple => "tuple" | .sum => "sum" | .max => "max" | .min => "min" | .all => "all" | .any => "any"
def BI.nm : BI → String
  | .len => "len" | .abs => "abs" | .int => "int" | .repr => "repr" | .list => "list" | .tuple => "tuple" | .sum => "sum" | .max => "max" | .min => "min" | .all => "all" | .any => "any"
def BI.ty : BI → Bool
  | .int => true | .list => true | .tuple => true
  | _ => false
/-- what a list, a tuple holds -/
def itsOf (G : GH) : IV → Option (List IV)
  | .tup ws => some ws
  | .ref n => match G[n]? with
    | some m => some m.its
    | none => none
  | _ => none
def lstOf (G : GH) : IV → Option (List IV)
  | .ref n => match G[n]? with
    | some m => some m.its
    | none => none
  | _ => none
def maxI : Int → List Int → Int
  | m, [] => m
  | m, x :: r => maxI (if m < x then x else m) r
def minI : Int → List Int → Int
  | m, [] => m
  | m, x :: r => minI (if x < m then x else m) r
def fLen : List IV → GH → RO := fun as G => match as with
  | [a] => match itsOf G a with
    | some ws => some (.int ws.length, G)
    | none => none
  | _ => none
def fAbs : List IV → GH → RO := fun as G => match as with
  | [.int i] => some (.int (if i < 0 then -i else i), G)
  | _ => none
def fInt : List IV → GH → RO := fun as G => match as with
  | [.int i] => some (.int i, G)
  | [.bl b] => some (.int (if b then 1 else 0), G)
  | _ => none
def fRepr : List IV → GH → RO := fun as G => match as with
  | [a] => match gD G a with
    | none => none
    | some d => match swt d with
      | none => none
      | some n => if n ≤ 16000000 ∧ d.depth ≤ 60 then some (.str d.shown, G) else none
  | _ => none
def fList : List IV → GH → RO := fun as G => match as with
  | [a] => match itsOf G a with
    | some ws => some (.ref G.length, G ++ [.lst ws])
    | none => none
  | _ => none
def fTuple : List IV → GH → RO := fun as G => match as with
  | [.tup ws] => some (.tup ws, G)
  | [.ref n] => match G[n]? with
    | some m => some (.tup m.its, G)
    | none => none
  | _ => none
def fSum : List IV → GH → RO := fun as G => match as with
  | [a] => match lstOf G a with
    | none => none
    | some ws => match asInts ws with
      | some ns => some (.int ns.sum, G)
      | none => none
  | _ => none
def fMax : List IV → GH → RO := fun as G => match as with
  | [.int i, .int j] => some (.int (if j > i then j else i), G)
  | [.ref n] => match lstOf G (.ref n) with
    | none => none
    | some ws => match asInts ws with
      | some (m :: ns) => some (.int (maxI m ns), G)
      | _ => none
  | _ => none
def fMin : List IV → GH → RO := fun as G => match as with
  | [.int i, .int j] => some (.int (if j < i then j else i), G)
  | [.ref n] => match lstOf G (.ref n) with
    | none => none
    | some ws => match asInts ws with
      | some (m :: ns) => some (.int (minI m ns), G)
      | _ => none
  | _ => none
def fAll : List IV → GH → RO := fun as G => match as with
  | [a] => match lstOf G a with
    | none => none
    | some ws => match asBls ws with
      | some bs => some (.bl (bs.all fun b => b), G)
      | none => none
  | _ => none
def fAny : List IV → GH → RO := fun as G => match as with
  | [a] => match lstOf G a with
    | none => none
    | some ws => match asBls ws with
      | some bs => some (.bl (bs.any fun b => b), G)
      | none => none
  | _ => none
def BI.run : BI → List IV → GH → RO
  | .len => fLen | .abs => fAbs | .int => fInt | .repr => fRepr | .list => fList | .tuple => fTuple | .sum => fSum | .max => fMax | .min => fMin | .all => fAll | .any => fAny
def BI.r (K : PySem.W.Frag) : BI → List V → Hp → VK → Prop
  | .len => fun xs H Q => ∃ p ys, xs = [.ref p] ∧ (SqL K H p ys ∨ SqT K H p ys) ∧ Q (.int ys.length) H
  | .abs => fun xs H Q => ∃ i, xs = [.int i] ∧ Q (.int (if i < 0 then -i else i)) H
  | .int => fun xs H Q => (∃ i, xs = [.int i] ∧ Q (.int i) H) ∨ ∃ k, xs = [.bl k] ∧ Q (.int (if k then 1 else 0)) H
  | .repr => rRepr K
  | .list => fun xs H Q => ∃ p ys, xs = [.ref p] ∧ (SqL K H p ys ∨ SqT K H p ys) ∧ ∀ l, H l = none → Q (.ref l) (upd H l (.lst ys))
  | .tuple => fun xs H Q => ∃ p ys, xs = [.ref p] ∧ ((SqL K H p ys ∧ ∀ l, H l = none → Q (.ref l) (upd H l (.tup ys))) ∨ (SqT K H p ys ∧ Q (.ref p) H))
  | .sum => rSum K
  | .max => fun xs H Q => (∃ i j, xs = [.int i, .int j] ∧ Q (.int (if j > i then j else i)) H) ∨ rMax K xs H Q
  | .min => fun xs H Q => (∃ i j, xs = [.int i, .int j] ∧ Q (.int (if j < i then j else i)) H) ∨ rMin K xs H Q
  | .all => rAll K
  | .any => rAny K
theorem CallR.or {X : Cx} {f : Value} {r r' : List V → Hp → VK → Prop} (h : CallR X f r) (h' : CallR X f r') : CallR X f (fun x H Q => r x H Q ∨ r' x H Q) := by
  intro pins s σ H xs us Q I rv q
  rcases q with q | q
  · exact h pins s σ H xs us Q I rv q
  · exact h' pins s σ H xs us Q I rv q
def BI.val (b : BI) : Value := if b.ty then .type b.nm else .builtin b.nm
theorem bi_call {X : Cx} (hc : X.calm = true) (hg : X.A.guards = some []) (hu : X.A.units + 64 < cLine) : ∀ b : BI, CallR X b.val (b.r X.K)
  | .len => call_len_seq
  | .abs => call_abs
  | .int => call_int1
  | .repr => call_repr hg hu
  | .list => call_list_of
  | .tuple => call_tuple_of
  | .sum => cr_sum hc
  | .max => CallR.or (call_max2 hc) (cr_max hc)
  | .min => CallR.or (call_min2 hc) (cr_min hc)
  | .all => cr_all hc
  | .any => cr_any hc
theorem bi_boot (b : BI) : bootBuiltins b.name = some b.val := by cases b <;> decide +kernel
section
variable {K : PySem.W.Frag}
theorem itsOf_rel {ρ : List Addr} {H : Hp} {G : GH} {x : V} {a : IV} {ws : List IV} (R : HR K ρ H G) (r : VR K ρ H x a) (e : itsOf G a = some ws) : ∃ p vs, x = .ref p ∧ (SqL K H p vs ∨ SqT K H p vs) ∧ VRs K ρ H vs ws := by
  cases r with
  | tup h r => simp only [itsOf, Option.some.injEq] at e; subst e; exact ⟨_, _, rfl, .inr h, r⟩
  | ref h =>
    simp only [itsOf] at e
    split at e
    · rename_i m hm
      simp only [Option.some.injEq] at e
      subst e
      obtain ⟨vs, h1, h2⟩ := (R.at_ _ _ _ h hm).sq
      exact ⟨_, vs, rfl, .inl h1, h2⟩
    · cases e
  | _ => simp only [itsOf] at e; cases e
theorem lstOf_rel {ρ : List Addr} {H : Hp} {G : GH} {x : V} {a : IV} {ws : List IV} (R : HR K ρ H G) (r : VR K ρ H x a) (e : lstOf G a = some ws) : ∃ p vs, x = .ref p ∧ SqL K H p vs ∧ VRs K ρ H vs ws := by
  cases r with
  | ref h =>
    simp only [lstOf] at e
    split at e
    · rename_i m hm
      simp only [Option.some.injEq] at e
      subst e
      obtain ⟨vs, h1, h2⟩ := (R.at_ _ _ _ h hm).sq
      exact ⟨_, vs, rfl, h1, h2⟩
    · cases e
  | _ => simp only [lstOf] at e; cases e
theorem maxI_ge : ∀ (ns : List Int) (m : Int), m ≤ maxI m ns ∧ ∀ y ∈ ns, y ≤ maxI m ns
  | [], m => ⟨Int.le_refl _, fun _ h => nomatch h⟩
  | x :: r, m => by
    obtain ⟨h1, h2⟩ := maxI_ge r (if m < x then x else m)
    unfold maxI
    refine ⟨?_, fun y hy => ?_⟩
    · split at h1 <;> rename_i c
      · rw [if_pos c]; omega
      · rw [if_neg c]; omega
    · rcases List.mem_cons.mp hy with rfl | hy
      · split at h1 <;> rename_i c
        · rw [if_pos c]; omega
        · rw [if_neg c]; omega
      · exact h2 y hy
theorem maxI_mem : ∀ (ns : List Int) (m : Int), maxI m ns = m ∨ maxI m ns ∈ ns
  | [], m => .inl rfl
  | x :: r, m => by
    unfold maxI
    rcases maxI_mem r (if m < x then x else m) with h | h
    · rw [h]
      by_cases c : m < x
      · rw [if_pos c]; exact .inr (List.mem_cons_self ..)
      · rw [if_neg c]; exact .inl rfl
    · exact .inr (List.mem_cons_of_mem _ h)
theorem max_one {ns : List Int} {m y : Int} (h1 : y ∈ m :: ns) (h2 : ∀ z ∈ m :: ns, z ≤ y) : y = maxI m ns := by
  obtain ⟨a, b⟩ := maxI_ge ns m
  have c : maxI m ns ∈ m :: ns := by
    rcases maxI_mem ns m with z | z
    · rw [z]; exact List.mem_cons_self ..
    · exact List.mem_cons_of_mem _ z
  have d := h2 _ c
  rcases List.mem_cons.mp h1 with rfl | h1
  · omega
  · have := b y h1; omega
theorem minI_le : ∀ (ns : List Int) (m : Int), minI m ns ≤ m ∧ ∀ y ∈ ns, minI m ns ≤ y
  | [], m => ⟨Int.le_refl _, fun _ h => nomatch h⟩
  | x :: r, m => by
    obtain ⟨h1, h2⟩ := minI_le r (if x < m then x else m)
    unfold minI
    refine ⟨?_, fun y hy => ?_⟩
    · split at h1 <;> rename_i c
      · rw [if_pos c]; omega
      · rw [if_neg c]; omega
    · rcases List.mem_cons.mp hy with rfl | hy
      · split at h1 <;> rename_i c
        · rw [if_pos c]; omega
        · rw [if_neg c]; omega
      · exact h2 y hy
theorem minI_mem : ∀ (ns : List Int) (m : Int), minI m ns = m ∨ minI m ns ∈ ns
  | [], m => .inl rfl
  | x :: r, m => by
    unfold minI
    rcases minI_mem r (if x < m then x else m) with h | h
    · rw [h]
      by_cases c : x < m
      · rw [if_pos c]; exact .inr (List.mem_cons_self ..)
      · rw [if_neg c]; exact .inl rfl
    · exact .inr (List.mem_cons_of_mem _ h)
theorem min_one {ns : List Int} {m y : Int} (h1 : y ∈ m :: ns) (h2 : ∀ z ∈ m :: ns, y ≤ z) : y = minI m ns := by
  obtain ⟨a, b⟩ := minI_le ns m
  have c : minI m ns ∈ m :: ns := by
    rcases minI_mem ns m with z | z
    · rw [z]; exact List.mem_cons_self ..
    · exact List.mem_cons_of_mem _ z
  have d := h2 _ c
  rcases List.mem_cons.mp h1 with rfl | h1
  · omega
  · have := b y h1; omega
theorem s_len : OpN K (BI.r K .len) fLen := by
  intro ρ H G xs as v G' R ra e Q q
  cases ra with
  | nil => cases e
  | cons h r =>
    cases r with
    | cons _ _ => cases e
    | nil =>
      simp only [fLen] at e
      split at e
      · rename_i ws hw
        cases e
        obtain ⟨p, vs, rfl, h1, h2⟩ := itsOf_rel R h hw
        exact ⟨p, vs, rfl, h1, by rw [h2.length]; exact q.same R (.int _)⟩
      · cases e
theorem s_abs : OpN K (BI.r K .abs) fAbs := by
  intro ρ H G xs as v G' R ra e Q q
  cases ra with
  | nil => cases e
  | cons h r =>
    cases r with
    | cons _ _ => cases h <;> cases e
    | nil =>
      cases h with
      | int i => cases e; exact ⟨_, rfl, q.same R (.int _)⟩
      | _ => cases e
theorem s_int : OpN K (BI.r K .int) fInt := by
  intro ρ H G xs as v G' R ra e Q q
  cases ra with
  | nil => cases e
  | cons h r =>
    cases r with
    | cons _ _ => cases h <;> cases e
    | nil =>
      cases h with
      | int i => cases e; exact .inl ⟨_, rfl, q.same R (.int _)⟩
      | bl b => cases e; exact .inr ⟨_, rfl, q.same R (.int _)⟩
      | _ => cases e
theorem s_repr : OpN K (BI.r K .repr) fRepr := by
  intro ρ H G xs as v G' R ra e Q q
  cases ra with
  | nil => cases e
  | cons h r =>
    cases r with
    | cons _ _ => cases e
    | nil =>
      simp only [fRepr] at e
      split at e
      · cases e
      · rename_i d hd
        split at e
        · cases e
        · rename_i n hn
          split at e
          · rename_i c
            cases e
            obtain ⟨h1, h2, h3⟩ := shown_of d n hn
            exact ⟨_, d, rfl, gdp_of R h hd, h2, h3, c.2, Nat.le_trans h1 (Nat.le_trans c.1 (by rw [sizeLine_eq]; decide)), q.same R (.str _)⟩
          · cases e
theorem s_list : OpN K (BI.r K .list) fList := by
  intro ρ H G xs as v G' R ra e Q q
  cases ra with
  | nil => cases e
  | cons h r =>
    cases r with
    | cons _ _ => cases e
    | nil =>
      simp only [fList] at e
      split at e
      · rename_i ws hw
        cases e
        obtain ⟨p, vs, rfl, h1, h2⟩ := itsOf_rel R h hw
        exact ⟨p, vs, rfl, h1, q.lst R h2⟩
      · cases e
theorem s_tuple : OpN K (BI.r K .tuple) fTuple := by
  intro ρ H G xs as v G' R ra e Q q
  cases ra with
  | nil => cases e
  | cons h r =>
    cases r with
    | cons _ _ => cases h <;> cases e
    | nil =>
      cases h with
      | tup h r => cases e; exact ⟨_, _, rfl, .inr ⟨h, q.same R (.tup h r)⟩⟩
      | ref h =>
        simp only [fTuple] at e
        split at e
        · rename_i m hm
          cases e
          obtain ⟨vs, h1, h2⟩ := (R.at_ _ _ _ h hm).sq
          exact ⟨_, vs, rfl, .inl ⟨h1, q.tup R h2⟩⟩
        · cases e
      | _ => cases e
theorem s_sum : OpN K (BI.r K .sum) fSum := by
  intro ρ H G xs as v G' R ra e Q q
  cases ra with
  | nil => cases e
  | cons h r =>
    cases r with
    | cons _ _ => cases e
    | nil =>
      simp only [fSum] at e
      split at e
      · cases e
      · rename_i ws hw
        split at e
        · rename_i ns hn
          cases e
          obtain ⟨p, vs, rfl, h1, h2⟩ := lstOf_rel R h hw
          exact ⟨p, ns, rfl, asInts_rel h2 hn ▸ h1, q.same R (.int _)⟩
        · cases e
theorem s_all : OpN K (BI.r K .all) fAll := by
  intro ρ H G xs as v G' R ra e Q q
  cases ra with
  | nil => cases e
  | cons h r =>
    cases r with
    | cons _ _ => cases e
    | nil =>
      simp only [fAll] at e
      split at e
      · cases e
      · rename_i ws hw
        split at e
        · rename_i ns hn
          cases e
          obtain ⟨p, vs, rfl, h1, h2⟩ := lstOf_rel R h hw
          exact ⟨p, ns, rfl, asBls_rel h2 hn ▸ h1, q.same R (.bl _)⟩
        · cases e
theorem s_any : OpN K (BI.r K .any) fAny := by
  intro ρ H G xs as v G' R ra e Q q
  cases ra with
  | nil => cases e
  | cons h r =>
    cases r with
    | cons _ _ => cases e
    | nil =>
      simp only [fAny] at e
      split at e
      · cases e
      · rename_i ws hw
        split at e
        · rename_i ns hn
          cases e
          obtain ⟨p, vs, rfl, h1, h2⟩ := lstOf_rel R h hw
          exact ⟨p, ns, rfl, asBls_rel h2 hn ▸ h1, q.same R (.bl _)⟩
        · cases e
theorem s_max : OpN K (BI.r K .max) fMax := by
  intro ρ H G xs as v G' R ra e Q q
  cases ra with
  | nil => cases e
  | cons h r =>
    cases r with
    | cons h2 r2 =>
      cases r2 with
      | cons _ _ => cases h <;> cases h2 <;> cases e
      | nil =>
        cases h with
        | int i =>
          cases h2 with
          | int j => cases e; exact .inl ⟨i, j, rfl, q.same R (.int _)⟩
          | _ => cases e
        | _ => cases e
    | nil =>
      cases h with
      | ref h =>
        simp only [fMax] at e
        split at e
        · cases e
        · rename_i ws hw
          split at e
          · rename_i m ns hn
            cases e
            obtain ⟨p, vs, e1, h1, h2⟩ := lstOf_rel R (.ref h) hw
            cases e1
            refine .inr ⟨_, m :: ns, rfl, asInts_rel h2 hn ▸ h1, Nat.succ_pos _, fun y hy hz => ?_⟩
            rw [max_one hy hz]
            exact q.same R (.int _)
          · cases e
      | _ => cases e
theorem s_min : OpN K (BI.r K .min) fMin := by
  intro ρ H G xs as v G' R ra e Q q
  cases ra with
  | nil => cases e
  | cons h r =>
    cases r with
    | cons h2 r2 =>
      cases r2 with
      | cons _ _ => cases h <;> cases h2 <;> cases e
      | nil =>
        cases h with
        | int i =>
          cases h2 with
          | int j => cases e; exact .inl ⟨i, j, rfl, q.same R (.int _)⟩
          | _ => cases e
        | _ => cases e
    | nil =>
      cases h with
      | ref h =>
        simp only [fMin] at e
        split at e
        · cases e
        · rename_i ws hw
          split at e
          · rename_i m ns hn
            cases e
            obtain ⟨p, vs, e1, h1, h2⟩ := lstOf_rel R (.ref h) hw
            cases e1
            refine .inr ⟨_, m :: ns, rfl, asInts_rel h2 hn ▸ h1, Nat.succ_pos _, fun y hy hz => ?_⟩
            rw [min_one hy hz]
            exact q.same R (.int _)
          · cases e
      | _ => cases e
theorem bi_s : ∀ b : BI, OpN K (b.r K) b.run
  | .len => s_len | .abs => s_abs | .int => s_int | .repr => s_repr | .list => s_list | .tuple => s_tuple | .sum => s_sum | .max => s_max | .min => s_min | .all => s_all | .any => s_any
end
/-- math.gcd -/
def fGcd : List IV → GH → RO := fun as G => match as with
  | [.int i, .int j] => some (.int ((Nat.gcd i.natAbs j.natAbs : Nat) : Int), G)
  | _ => none
theorem s_gcd {K : PySem.W.Frag} : OpN K rGcd fGcd := by
  intro ρ H G xs as v G' R ra e Q q
  cases ra with
  | nil => cases e
  | cons h r =>
    cases r with
    | nil => cases h <;> cases e
    | cons h2 r2 =>
      cases r2 with
      | cons _ _ => cases h <;> cases h2 <;> cases e
      | nil =>
        cases h with
        | int i =>
          cases h2 with
          | int j => cases e; exact ⟨i, j, rfl, q.same R (.int _)⟩
          | _ => cases e
        | _ => cases e
/-- isinstance(x, T), T a built-in class -/
def tyOf (G : GH) : IV → Option String
  | .non => some "NoneType"
  | .bl _ => some "bool"
  | .int _ => some "int"
  | .str _ => some "str"
  | .tup _ => some "tuple"
  | .ref n => match G[n]? with
    | some (.lst _) => some "list"
    | _ => none
def fIsi (T : String) : IV → GH → RO := fun a G => match tyOf G a with
  | none => none
  | some t => match kitB t T with
    | some b => some (.bl b, G)
    | none => none
theorem s_isi {K : PySem.W.Frag} {T : String} {ρ : List Addr} {H : Hp} {G G' : GH} {x : V} {a v : IV} (R : HR K ρ H G) (ra : VR K ρ H x a) (e : fIsi T a G = some (v, G')) {Q : VK} (q : Rs K ρ H v G' Q) : rIsi K [x, .ty T] H Q := by
  unfold fIsi at e
  split at e
  · cases e
  · rename_i t ht
    split at e
    · rename_i b hb
      cases e
      have ty : TyX K H x (.type t) := by
        cases ra with
        | non => simp only [tyOf, Option.some.injEq] at ht; subst ht; exact .base .non
        | bl b => simp only [tyOf, Option.some.injEq] at ht; subst ht; exact .base (.bl b)
        | int i => simp only [tyOf, Option.some.injEq] at ht; subst ht; exact .base (.int i)
        | str i => simp only [tyOf, Option.some.injEq] at ht; subst ht; exact .base (.str i)
        | tup h r =>
          simp only [tyOf, Option.some.injEq] at ht
          subst ht
          rcases h with (h | ⟨o, h⟩) | ⟨o, its, n, h1, h2, _⟩
          · exact .base (.tup h)
          · exact .fTuple h
          · exact .kTuple h1 h2
        | ref h =>
          simp only [tyOf] at ht
          split at ht
          · rename_i ws hw
            simp only [Option.some.injEq] at ht
            subst ht
            obtain ⟨vs, k1, _⟩ := mr_lst (R.at_ _ _ _ h hw)
            exact .base (.lst k1)
          · cases ht
      exact ⟨x, .ty T, .type t, .type T, b, rfl, .ty T, ty, kit_ty hb, q.same R (.bl _)⟩
    · cases e
end Lk
set_option maxHeartbeats 2000000
namespace Lk
open PySem PySem.Spec PyProof.Rows L2
/-! ### a small syntax, and what it means -/
inductive BO where
  | add | sub | mul | div | mod | pow
  deriving DecidableEq
inductive CO where
  | eq | ne | lt | le | gt | ge | isin | notin
  deriving DecidableEq
def pick {α : Type} (pm : List Nat) (xs : List α) : List α := pm.filterMap fun i => xs[i]?
mutual
inductive CE where
  | c (v : IV) | v (i : Nat) | g (x : Str) (w : IV)
  | bin (o : BO) (a b : CE) | neg (a : CE)
  | cmp (o : CO) (a b : CE) | chain (o o' : CO) (a b c : CE)
  | not (a : CE) | and (a b : CE) | or (a b : CE) | ite (c a b : CE)
  | tup (es : CL) | lst (es : CL)
  | ix (a b : CE) | sl (a : CE) (lo hi : CP)
  | fn (f : Nat) (es : CL) | fnk (f : Nat) (es : CL) (ks : List Str) (pm : List Nat) (kes : CL)
  | rq (ne : Bool) (a b : CE)
  | bi (b : BI) (es : CL) | gcd (es : CL) | isi (a : CE) (T : String)
  | lrg (es : CL)
  | app (o e : CE) | ext (o e : CE)
  | comp (own : List (Str × Nat)) (t : CT) (i : CI) (cond : CQ) (elt : CE)
inductive CL where
  | nil | cons (e : CE) (r : CL)
inductive CP where
  | no | ex (e : CE)
inductive CQ where
  | no | ex (e : CE)
inductive CI where
  | ex (e : CE) | rng (es : CL) | enm (e : CE)
inductive CT where
  | nm (i : Nat) | tup (ts : CTs) | sub (o i : CE)
inductive CTs where
  | nil | cons (t : CT) (r : CTs)
end
mutual
inductive CS where
  | set (t : CT) (e : CE) | par (i j : Nat) (a b : CE) | par3 (i j l : Nat) (a b c : CE)
  | ex (e : CE) | ret (e : CE) | setc (i : Nat) (e : CE)
  | ife (c : CE) (a b : CB) | for (t : CT) (i : CI) (b : CB) | whl (c : CE) (b : CB)
  | never
inductive CB where
  | nil | cons (s : CS) (r : CB)
end
mutual
def CT.ixs : CT → List Nat
  | .nm i => [i]
  | .tup ts => ts.ixs
  | .sub _ _ => []
def CTs.ixs : CTs → List Nat
  | .nil => []
  | .cons t r => t.ixs ++ r.ixs
end
def BO.f : BO → IV → IV → GH → RO
  | .add => fAddA | .sub => fSub | .mul => fMul | .div => fDiv | .mod => fMod | .pow => fPow
def CO.f : CO → IV → IV → GH → RO
  | .eq => fEq false | .ne => fEq true | .lt => fLt | .le => fLe | .gt => fGt | .ge => fGe | .isin => fIn false | .notin => fIn true
/-- what a for walks -/
inductive Src where
  | tup (ws : List IV) | lst (n : Nat) | rng (lo step : Int) (n : Nat) | enm (n : Nat)
def Src.at (G : GH) (i : Nat) : Src → Option IV
  | .tup ws => ws[i]?
  | .lst n => match G[n]? with
    | some m => m.its[i]?
    | none => none
  | .rng lo st n => if i < n then some (.int (lo + (i : Nat) * st)) else none
  | .enm n => match G[n]? with
    | some m => match m.its[i]? with
      | some w => some (.tup [.int (i : Nat), w])
      | none => none
    | none => none
def Src.stop (G : GH) (i : Nat) : Src → Bool
  | .tup ws => decide (ws.length ≤ i)
  | .lst n => match G[n]? with
    | some m => decide (m.its.length ≤ i)
    | none => false
  | .rng _ _ n => decide (n ≤ i)
  | .enm n => match G[n]? with
    | some m => decide (m.its.length ≤ i)
    | none => false
def Src.len (G : GH) : Src → Nat
  | .tup ws => ws.length
  | .lst n => match G[n]? with
    | some m => m.its.length
    | none => 0
  | .rng _ _ n => n
  | .enm n => match G[n]? with
    | some m => m.its.length
    | none => 0
/-- range(..) -/
def rngOf : List IV → Option (Int × Int × Nat)
  | [.int j] => if decide (-(2 ^ 62) ≤ j) && decide (j < 2 ^ 62) then some (0, 1, j.toNat) else none
  | [.int i, .int j] => if decide (-(2 ^ 62) ≤ i) && decide (i < 2 ^ 62) && decide (-(2 ^ 62) ≤ j) && decide (j < 2 ^ 62) then some (i, 1, (j - i).toNat) else none
  | [.int i, .int j, .int c] => if decide (c = -1) && decide (-(2 ^ 60) ≤ i) && decide (i < 2 ^ 60) && decide (-(2 ^ 60) ≤ j) && decide (j < 2 ^ 60) then some (i, -1, (i - j).toNat) else none
  | _ => none
inductive Out where
  | nx (ε : EV) (G : GH) | rt (v : IV) (G : GH) | bk (ε : EV) (G : GH) | ct (ε : EV) (G : GH)
def loopF (src : Src) (step : IV → EV → GH → Option Out) : Nat → Nat → EV → GH → Option Out
  | 0, i, ε, G => if src.stop G i = true then some (.nx ε G) else none
  | r + 1, i, ε, G => match src.at G i with
    | none => none
    | some w => match step w ε G with
      | some (.nx ε' G') => loopF src step r (i + 1) ε' G'
      | some (.ct ε' G') => loopF src step r (i + 1) ε' G'
      | some (.bk ε' G') => some (.nx ε' G')
      | some (.rt v G') => some (.rt v G')
      | none => none
def whileF (c : EV → GH → Option (Bool × GH)) (step : EV → GH → Option Out) : Nat → EV → GH → Option Out
  | 0, _, _ => none
  | f + 1, ε, G => match c ε G with
    | none => none
    | some (false, G1) => some (.nx ε G1)
    | some (true, G1) => match step ε G1 with
      | some (.nx ε' G') => whileF c step f ε' G'
      | some (.ct ε' G') => whileF c step f ε' G'
      | some (.bk ε' G') => some (.nx ε' G')
      | some (.rt v G') => some (.rt v G')
      | none => none
/-- a comprehension's loop: n the place of the new list -/
def compF (src : Src) (n : Nat) (step : IV → GH → Option (Option IV × GH)) : Nat → Nat → GH → Option GH
  | 0, i, G => if src.stop G i = true then some G else none
  | r + 1, i, G => match src.at G i with
    | none => none
    | some w => match step w G with
      | none => none
      | some (none, G') => compF src n step r (i + 1) G'
      | some (some v, G') => match G'[n]? with
        | some (.lst acc) => if acc.length < lim then compF src n step r (i + 1) (G'.set n (.lst (acc ++ [v]))) else none
        | _ => none
mutual
/-- the very same data -/
def sameD : PyData → PyData → Bool
  | .none, e => match e with
    | .none => true
    | _ => false
  | .bool b, e => match e with
    | .bool c => b == c
    | _ => false
  | .int i, e => match e with
    | .int j => decide (i = j)
    | _ => false
  | .str x, e => match e with
    | .str y => decide (x = y)
    | _ => false
  | .list xs, e => match e with
    | .list ys => sameDs xs ys
    | _ => false
  | .tuple xs, e => match e with
    | .tuple ys => sameDs xs ys
    | _ => false
  | .dict _, _ => false
def sameDs : List PyData → List PyData → Bool
  | [], ys => match ys with
    | [] => true
    | _ => false
  | x :: xs, ys => match ys with
    | [] => false
    | y :: ys => sameD x y && sameDs xs ys
end
mutual
theorem sameD_eq : ∀ {d e : PyData}, sameD d e = true → d = e
  | .none, e, h => by cases e <;> first | rfl | (simp only [sameD] at h; cases h)
  | .bool b, e, h => by
    cases e <;> simp only [sameD] at h <;> first | cases h | skip
    rw [beq_iff_eq.mp h]
  | .int i, e, h => by
    cases e <;> simp only [sameD] at h <;> first | cases h | skip
    rw [of_decide_eq_true h]
  | .str x, e, h => by
    cases e <;> simp only [sameD] at h <;> first | cases h | skip
    rw [of_decide_eq_true h]
  | .list xs, e, h => by
    cases e <;> simp only [sameD] at h <;> first | cases h | skip
    rw [sameDs_eq h]
  | .tuple xs, e, h => by
    cases e <;> simp only [sameD] at h <;> first | cases h | skip
    rw [sameDs_eq h]
  | .dict _, e, h => by simp only [sameD] at h; cases h
theorem sameDs_eq : ∀ {d e : List PyData}, sameDs d e = true → d = e
  | [], e, h => by cases e <;> first | rfl | (simp only [sameDs] at h; cases h)
  | x :: xs, e, h => by
    cases e with
    | nil => simp only [sameDs] at h; cases h
    | cons y ys =>
      simp only [sameDs, Bool.and_eq_true] at h
      rw [sameD_eq h.1, sameDs_eq h.2]
end
/-- the data that repr shows -/
def shows (G : GH) (x : IV) : Option PyData := match gD G x with
  | none => none
  | some d => match swt d with
    | none => none
    | some n => if n ≤ 16000000 ∧ d.depth ≤ 60 then some d else none
def wfuel : Nat := 2 ^ 20000
def wipeI (ε : EV) : List Nat → EV
  | [] => ε
  | v :: vs => (wipeI ε vs).set v none
section
variable (call : Nat → List IV → GH → RO)
mutual
def evE : CE → EV → GH → RO
  | .c w, _, G => some (w, G)
  | .v i, ε, G => match ε[i]? with
    | some (some w) => some (w, G)
    | _ => none
  | .g _ w, _, G => some (w, G)
  | .bin o a b, ε, G => match evE a ε G with
    | none => none
    | some (x, G1) => match evE b ε G1 with
      | none => none
      | some (y, G2) => o.f x y G2
  | .neg a, ε, G => match evE a ε G with
    | none => none
    | some (x, G1) => fNeg x G1
  | .cmp o a b, ε, G => match evE a ε G with
    | none => none
    | some (x, G1) => match evE b ε G1 with
      | none => none
      | some (y, G2) => o.f x y G2
  | .chain o o' a b c, ε, G => match evE a ε G with
    | none => none
    | some (x, G1) => match evE b ε G1 with
      | none => none
      | some (y, G2) => match o.f x y G2 with
        | some (.bl false, G3) => some (.bl false, G3)
        | some (.bl true, G3) => match evE c ε G3 with
          | none => none
          | some (z, G4) => o'.f y z G4
        | _ => none
  | .not a, ε, G => match evE a ε G with
    | some (.bl b, G1) => some (.bl (!b), G1)
    | _ => none
  | .and a b, ε, G => match evE a ε G with
    | some (.bl true, G1) => evE b ε G1
    | some (.bl false, G1) => some (.bl false, G1)
    | _ => none
  | .or a b, ε, G => match evE a ε G with
    | some (.bl false, G1) => evE b ε G1
    | some (.bl true, G1) => some (.bl true, G1)
    | _ => none
  | .ite c a b, ε, G => match evE c ε G with
    | some (.bl true, G1) => evE a ε G1
    | some (.bl false, G1) => evE b ε G1
    | _ => none
  | .tup es, ε, G => match evL es ε G with
    | none => none
    | some (xs, G1) => if xs.length ≤ lim then some (.tup xs, G1) else none
  | .lst es, ε, G => match evL es ε G with
    | none => none
    | some (xs, G1) => if xs.length ≤ lim then some (.ref G1.length, G1 ++ [.lst xs]) else none
  | .ix a b, ε, G => match evE a ε G with
    | none => none
    | some (x, G1) => match evE b ε G1 with
      | none => none
      | some (y, G2) => fIx x y G2
  | .sl a lo hi, ε, G => match evE a ε G with
    | none => none
    | some (x, G1) => match evP lo ε G1 with
      | none => none
      | some (l, G2) => match evP hi ε G2 with
        | none => none
        | some (h, G3) => fSl l h x G3
  | .fn f es, ε, G => match evL es ε G with
    | none => none
    | some (xs, G1) => call f xs G1
  | .fnk f es _ pm kes, ε, G => match evL es ε G with
    | none => none
    | some (xs, G1) => match evL kes ε G1 with
      | none => none
      | some (ys, G2) => call f (pick pm (xs ++ ys)) G2
  | .rq ne a b, ε, G => match evE a ε G with
    | none => none
    | some (x, G1) => match shows G1 x with
      | none => none
      | some d => match evE b ε G1 with
        | none => none
        | some (y, G2) => match shows G2 y with
          | none => none
          | some e => if sameD d e = true then some (.bl (!ne), G2) else none
  | .bi b es, ε, G => match evL es ε G with
    | none => none
    | some (xs, G1) => b.run xs G1
  | .gcd es, ε, G => match evL es ε G with
    | none => none
    | some (xs, G1) => fGcd xs G1
  | .isi a T, ε, G => match evE a ε G with
    | none => none
    | some (x, G1) => fIsi T x G1
  | .lrg es, ε, G => match evL es ε G with
    | none => none
    | some (xs, G1) => match rngOf xs with
      | some (lo, 1, n) => if decide (n ≤ lim) && decide (0 ≤ lo) && decide (lo ≤ lim) then some (.ref G1.length, G1 ++ [.lst ((List.range n).map fun i => .int (lo + (i : Nat)))]) else none
      | _ => none
  | .app o e, ε, G => match evE o ε G with
    | some (.ref n, G1) => match evE e ε G1 with
      | none => none
      | some (y, G2) => match G2[n]? with
        | some (.lst xs) => if xs.length < lim then some (.non, G2.set n (.lst (xs ++ [y]))) else none
        | _ => none
    | _ => none
  | .ext o e, ε, G => match evE o ε G with
    | some (.ref n, G1) => match evE e ε G1 with
      | some (.ref m, G2) => match G2[n]?, G2[m]? with
        | some (.lst xs), some (.lst ys) => if xs.length + ys.length ≤ lim then some (.non, G2.set n (.lst (xs ++ ys))) else none
        | _, _ => none
      | _ => none
    | _ => none
  | .comp own t i cond elt, ε, G => match evI i ε G with
    | none => none
    | some (src, G1) => match compF src G1.length (fun w G2 => match asT t w (wipeI ε (own.map (·.2))) G2 with
        | none => none
        | some (ε3, G3) => match evQ cond ε3 G3 with
          | none => none
          | some (false, G4) => some (none, G4)
          | some (true, G4) => match evE elt ε3 G4 with
            | none => none
            | some (y, G5) => some (some y, G5)) (src.len G1) 0 (G1 ++ [.lst []]) with
      | none => none
      | some G9 => some (.ref G1.length, G9)
def evL : CL → EV → GH → Option (List IV × GH)
  | .nil, _, G => some ([], G)
  | .cons e r, ε, G => match evE e ε G with
    | none => none
    | some (x, G1) => match evL r ε G1 with
      | none => none
      | some (xs, G2) => some (x :: xs, G2)
def evP : CP → EV → GH → Option (Option Int × GH)
  | .no, _, G => some (none, G)
  | .ex e, ε, G => match evE e ε G with
    | some (.int i, G1) => some (some i, G1)
    | _ => none
def evQ : CQ → EV → GH → Option (Bool × GH)
  | .no, _, G => some (true, G)
  | .ex e, ε, G => match evE e ε G with
    | some (.bl b, G1) => some (b, G1)
    | _ => none
def evI : CI → EV → GH → Option (Src × GH)
  | .ex e, ε, G => match evE e ε G with
    | some (.tup ws, G1) => some (.tup ws, G1)
    | some (.ref n, G1) => some (.lst n, G1)
    | _ => none
  | .rng es, ε, G => match evL es ε G with
    | none => none
    | some (xs, G1) => match rngOf xs with
      | some (lo, st, n) => some (.rng lo st n, G1)
      | none => none
  | .enm e, ε, G => match evE e ε G with
    | some (.ref n, G1) => some (.enm n, G1)
    | _ => none
def asT : CT → IV → EV → GH → Option (EV × GH)
  | .nm i, w, ε, G => some (ε.set i (some w), G)
  | .tup ts, w, ε, G => match itsOf G w with
    | none => none
    | some ws => asTs ts ws ε G
  | .sub o i, w, ε, G => match evE o ε G with
    | some (.ref n, G1) => match evE i ε G1 with
      | some (.int k, G2) => match G2[n]? with
        | some (.lst xs) => match ixN xs.length k with
          | some j => some (ε, G2.set n (.lst (xs.set j w)))
          | none => none
        | _ => none
      | _ => none
    | _ => none
def asTs : CTs → List IV → EV → GH → Option (EV × GH)
  | .nil, ws, ε, G => match ws with
    | [] => some (ε, G)
    | _ => none
  | .cons t r, ws, ε, G => match ws with
    | [] => none
    | w :: us => match asT t w ε G with
      | none => none
      | some (ε1, G1) => asTs r us ε1 G1
end
mutual
def exS : CS → EV → GH → Option Out
  | .set t e, ε, G => match evE call e ε G with
    | none => none
    | some (x, G1) => match asT call t x ε G1 with
      | none => none
      | some (ε', G') => some (.nx ε' G')
  | .par i j a b, ε, G => match evE call a ε G with
    | none => none
    | some (x, G1) => match evE call b ε G1 with
      | none => none
      | some (y, G2) => some (.nx ((ε.set i (some x)).set j (some y)) G2)
  | .par3 i j l a b c, ε, G => match evE call a ε G with
    | none => none
    | some (x, G1) => match evE call b ε G1 with
      | none => none
      | some (y, G2) => match evE call c ε G2 with
        | none => none
        | some (z, G3) => some (.nx (((ε.set i (some x)).set j (some y)).set l (some z)) G3)
  | .ex e, ε, G => match evE call e ε G with
    | none => none
    | some (_, G1) => some (.nx ε G1)
  | .setc i e, ε, G => match evE call e ε G with
    | none => none
    | some (x, G1) => some (.nx (ε.set i (some x)) G1)
  | .ret e, ε, G => match evE call e ε G with
    | none => none
    | some (x, G1) => some (.rt x G1)
  | .ife c a b, ε, G => match evE call c ε G with
    | some (.bl true, G1) => exB a ε G1
    | some (.bl false, G1) => exB b ε G1
    | _ => none
  | .for t i b, ε, G => match evI call i ε G with
    | none => none
    | some (src, G1) => loopF src (fun w ε G => match asT call t w ε G with
      | none => none
      | some (ε', G') => exB b ε' G') (src.len G1) 0 ε G1
  | .whl c b, ε, G => whileF (fun ε G => match evE call c ε G with
      | some (.bl t, G1) => some (t, G1)
      | _ => none) (fun ε G => exB b ε G) wfuel ε G
  | .never, _, _ => none
def exB : CB → EV → GH → Option Out
  | .nil, ε, G => some (.nx ε G)
  | .cons s r, ε, G => match exS s ε G with
    | none => none
    | some (.nx ε' G') => exB r ε' G'
    | some (.rt v G') => some (.rt v G')
    | some (.bk ε' G') => some (.bk ε' G')
    | some (.ct ε' G') => some (.ct ε' G')
end
end
/-- a def of the text -/
structure FD where
  name : Str
  ps : List Str
  N : List Str
  at_ : Nat
  body : CB
def startI (N : List Str) (vs : List IV) : EV := vs.map some ++ List.replicate (N.length - vs.length) none
mutual
def noRef : IV → Bool
  | .tup xs => noRefs xs
  | .ref _ => false
  | _ => true
def noRefs : List IV → Bool
  | [] => true
  | x :: xs => noRef x && noRefs xs
end
def MO.pure (m : MO) : Bool := noRefs m.its
/-- what was made on the way is forgotten where nothing that stays speaks of it -/
def trim (n : Nat) : RO → RO
  | some (v, G') => if (noRef v && (G'.take n).all MO.pure) = true then some (v, G'.take n) else some (v, G')
  | none => none
def runF (call : Nat → List IV → GH → RO) (d : FD) (as : List IV) (G : GH) : RO := match exB call d.body (startI d.N as) G with
  | some (.rt v G') => some (v, G')
  | some (.nx _ G') => some (.non, G')
  | _ => none
def pureF (call : Nat → List IV → GH → RO) (d : FD) (as : List IV) (G : GH) : RO := match runF call d as [] with
  | some (v, G') => if noRef v = true then some (v, G) else trim G.length (runF call d as G)
  | none => none
def callF (Γ : List FD) : Nat → Nat → List IV → GH → RO
  | 0, _, _, _ => none
  | k + 1, f, vs, G => match Γ[f]? with
    | none => none
    | some d => if vs.length = d.ps.length then (if noRefs vs = true then pureF (callF Γ k) d vs G else trim G.length (runF (callF Γ k) d vs G)) else none
end Lk
set_option maxHeartbeats 2000000
namespace Lk
open PySem PySem.Spec PyProof.Rows L2
/-! ### the text and the small syntax -/
/-- what the text's top gives: its defs' names, the built-in names that it leaves alone, constants, whether gcd is math's -/
structure Pg where
  fns : List Str
  bn : List Str
  cs : List (Str × Int)
  gcd : Bool
  kw : List (Str × Nat × List Str × List Nat)
structure SC where
  N : List Str
  sc : Scope
  top : Bool
def SC.is (S : SC) (x : Str) (k : NameKind) : Bool := decide (S.sc.names.lookup x = some k)
def SC.vis (S : SC) (x : Str) : Bool := S.is x .local || S.is x .cell || S.is x .free
def SC.gl (S : SC) (x : Str) : Bool := S.is x .globalImplicit && !(x == ("__debug__" : Str)) && decide (x ≠ ("__name__" : Str))
def SC.nm (S : SC) (i : Nat) (x : Str) : Bool := decide (S.N[i]? = some x) && S.vis x && !(x == ("__debug__" : Str)) && !(x == ("__classdict__" : Str))
def SC.st (S : SC) (i : Nat) (x : Str) : Bool := decide (S.N[i]? = some x) && (S.is x .local || (S.top && S.is x .cell))
def BO.op : BO → Operator
  | .add => .Add | .sub => .Sub | .mul => .Mult | .div => .FloorDiv | .mod => .Mod | .pow => .Pow
def CO.op : CO → CmpOp
  | .eq => .Eq | .ne => .NotEq | .lt => .Lt | .le => .LtE | .gt => .Gt | .ge => .GtE | .isin => .In | .notin => .NotIn
def plainE : Expr → Bool
  | .Starred .. => false
  | .Slice .. => false
  | .Set .. => false
  | .ListComp .. => false
  | .SetComp .. => false
  | .DictComp .. => false
  | .GeneratorExp .. => false
  | _ => true
def notStar : Expr → Bool
  | .Starred .. => false
  | _ => true
def isComp : Expr → Bool
  | .ListComp .. => true
  | .SetComp .. => true
  | .DictComp .. => true
  | _ => false
mutual
def okE (P : Pg) : CE → SC → Expr → Bool
  | .c w, _, e => match e with
    | .Constant k _ _ => match w, k with
      | .int i, .int j => decide (i = j)
      | .bl b, .bool d => decide (b = d)
      | .str x, .str y => decide (x = y)
      | .non, .none => true
      | _, _ => false
    | _ => false
  | .v i, S, e => match e with
    | .Name x _ => S.nm i x
    | _ => false
  | .g x w, S, e => match e with
    | .Name y _ => decide (x = y) && S.gl x && (match w with
      | .int i => decide ((x, i) ∈ P.cs)
      | _ => false)
    | _ => false
  | .bin o a b, S, e => match e with
    | .BinOp a' op b' _ => decide (op = o.op) && okE P a S a' && okE P b S b'
    | _ => false
  | .neg a, S, e => match e with
    | .UnaryOp op a' _ => decide (op = .USub) && okE P a S a'
    | _ => false
  | .cmp o a b, S, e => match e with
    | .Compare a' [op] [b'] _ => decide (op = o.op) && plainE b' && okE P a S a' && okE P b S b'
    | _ => false
  | .chain o o' a b c, S, e => match e with
    | .Compare a' [op, op'] [b', c'] _ => decide (op = o.op) && decide (op' = o'.op) && plainE c' && okE P a S a' && okE P b S b' && okE P c S c'
    | _ => false
  | .not a, S, e => match e with
    | .UnaryOp op a' _ => decide (op = .Not) && okE P a S a'
    | _ => false
  | .and a b, S, e => match e with
    | .BoolOp op (e1 :: e2 :: r) pos => decide (op = .And) && okE P a S e1 && (match r with
      | [] => okE P b S e2
      | _ => okE P b S (.BoolOp .And (e2 :: r) pos))
    | _ => false
  | .or a b, S, e => match e with
    | .BoolOp op (e1 :: e2 :: r) pos => decide (op = .Or) && okE P a S e1 && (match r with
      | [] => okE P b S e2
      | _ => okE P b S (.BoolOp .Or (e2 :: r) pos))
    | _ => false
  | .ite c a b, S, e => match e with
    | .IfExp c' a' b' _ => okE P c S c' && tst c && okE P a S a' && okE P b S b'
    | _ => false
  | .tup es, S, e => match e with
    | .Tuple es' _ _ => okL P es S es'
    | _ => false
  | .lst es, S, e => match e with
    | .List es' _ => okL P es S es'
    | _ => false
  | .ix a b, S, e => match e with
    | .Subscript a' b' _ => plainE b' && okE P a S a' && okE P b S b'
    | _ => false
  | .sl a lo hi, S, e => match e with
    | .Subscript a' (.Slice l h none _) _ => okE P a S a' && okP P lo S l && okP P hi S h
    | _ => false
  | .fn f es, S, e => match e with
    | .Call (.Name x _) es' [] _ => decide (P.fns[f]? = some x) && S.gl x && okL P es S es'
    | _ => false
  | .fnk f es ks pm kes, S, e => match e with
    | .Call (.Name x _) es' kws _ => decide (P.fns[f]? = some x) && S.gl x && decide ((x, es'.length, ks, pm) ∈ P.kw) && decide (kws.map (·.arg) = ks.map some) && !kws.isEmpty && okL P es S es' && okL P kes S (kws.map (·.value))
    | _ => false
  | .rq ne a b, S, e => match e with
    | .Compare a0 [op] [b0] _ => decide (op = (if ne then CO.ne else CO.eq).op) && plainE b0 && (match a0 with
      | .Call (.Name x _) es' [] _ => decide (x = BI.repr.name) && S.gl x && decide (x ∈ P.bn) && !es'.isEmpty && (match es' with
        | [] => false
        | e :: es' => notStar e && okE P a S e && (match es' with
          | [] => true
          | _ => false))
      | _ => false) && (match b0 with
      | .Call (.Name x _) es' [] _ => decide (x = BI.repr.name) && S.gl x && decide (x ∈ P.bn) && !es'.isEmpty && (match es' with
        | [] => false
        | e :: es' => notStar e && okE P b S e && (match es' with
          | [] => true
          | _ => false))
      | _ => false)
    | _ => false
  | .bi b es, S, e => match e with
    | .Call (.Name x _) es' [] _ => decide (x = b.name) && S.gl x && decide (x ∈ P.bn) && !es'.isEmpty && okL P es S es'
    | _ => false
  | .gcd es, S, e => match e with
    | .Call (.Name x _) es' [] _ => decide (x = ("gcd" : Str)) && S.gl x && P.gcd && !es'.isEmpty && okL P es S es'
    | _ => false
  | .isi a T, S, e => match e with
    | .Call (.Name x _) [a', .Name y _] [] _ => decide (x = ("isinstance" : Str)) && S.gl x && decide (x ∈ P.bn) && S.gl y && decide (y ∈ P.bn) && decide (bootBuiltins y = some (.type T)) && plainE a' && okE P a S a'
    | _ => false
  | .lrg es, S, e => match e with
    | .Call (.Name x _) [.Call (.Name y _) es' [] _] [] _ => decide (x = ("list" : Str)) && S.gl x && decide (x ∈ P.bn) && decide (y = ("range" : Str)) && S.gl y && decide (y ∈ P.bn) && decide (es'.length = 1) && okL P es S es'
    | _ => false
  | .app o a, S, e => match e with
    | .Call (.Attribute o' m apos) [a'] [] cpos => decide (m = ("append" : Str)) && (apos.endLine == cpos.line) && plainE a' && (match o' with | .Name _ _ => true | .Subscript _ _ _ => true | _ => false) && okE P o S o' && okE P a S a'
    | _ => false
  | .ext o a, S, e => match e with
    | .Call (.Attribute o' m apos) [a'] [] cpos => decide (m = ("extend" : Str)) && (apos.endLine == cpos.line) && notStar a' && (match o' with | .Name _ _ => true | .Subscript _ _ _ => true | _ => false) && okE P o S o' && okE P a S a'
    | _ => false
  | .comp own t i cond elt, S, e => match e with
    | .ListComp elt' [⟨tg, iter, ifs, 0⟩] scope _ => blkC S.N S.sc scope own && t.ixs.all (fun i => decide (i ∈ own.map (·.2))) && okI P i S tg iter && okT P t ⟨S.N, relS scope S.sc, false⟩ tg && okQ P cond ⟨S.N, relS scope S.sc, false⟩ ifs && okE P elt ⟨S.N, relS scope S.sc, false⟩ elt'
    | _ => false
def okL (P : Pg) : CL → SC → List Expr → Bool
  | .nil, _, es => match es with
    | [] => true
    | _ => false
  | .cons c r, S, es => match es with
    | [] => false
    | e :: es' => notStar e && okE P c S e && okL P r S es'
def okP (P : Pg) : CP → SC → Option Expr → Bool
  | .no, _, e => match e with
    | none => true
    | _ => false
  | .ex c, S, e => match e with
    | none => false
    | some e' => okE P c S e'
def okQ (P : Pg) : CQ → SC → List Expr → Bool
  | .no, _, es => match es with
    | [] => true
    | _ => false
  | .ex c, S, es => match es with
    | [e] => okE P c S e && tst c
    | _ => false
def okI (P : Pg) : CI → SC → Expr → Expr → Bool
  | .ex c, S, _, e => plainE e && okE P c S e
  | .rng es, S, _, e => match e with
    | .Call (.Name y _) es' [] _ => decide (y = ("range" : Str)) && S.gl y && decide (y ∈ P.bn) && okL P es S es'
    | _ => false
  | .enm c, S, tg, e => match tg with
    | .Tuple _ _ _ => match e with
      | .Call (.Name y _) [e'] [] _ => decide (y = ("enumerate" : Str)) && S.gl y && decide (y ∈ P.bn) && plainE e' && okE P c S e'
      | _ => false
    | _ => false
def okT (P : Pg) : CT → SC → Expr → Bool
  | .nm i, S, e => match e with
    | .Name x _ => S.st i x
    | _ => false
  | .tup ts, S, e => match e with
    | .Tuple es _ _ => okTs P ts S es
    | _ => false
  | .sub o i, S, e => match e with
    | .Subscript o' i' _ => plainE i' && okE P o S o' && okE P i S i'
    | _ => false
def okTs (P : Pg) : CTs → SC → List Expr → Bool
  | .nil, _, es => match es with
    | [] => true
    | _ => false
  | .cons t r, S, es => match es with
    | [] => false
    | e :: es' => notStar e && okT P t S e && okTs P r S es'
/-- may stand as a test -/
def tst : CE → Bool
  | .ite _ _ _ => false
  | .not a => tst a
  | .and a b => tst a && tst b
  | .or a b => tst a && tst b
  | .comp _ _ _ _ _ => false
  | .tup _ => false
  | .lst _ => false
  | _ => true
end
def noSwap (S : SC) : Expr → Expr → Bool
  | .Tuple ts _ _, .Tuple vs _ _ => (ts.any fun t => match t with
    | .Name id _ => !(S.is id .local)
    | _ => true) || vs.all (foldedForSure 8)
  | _, _ => true
mutual
def okS (P : Pg) : CS → SC → Stmt → Bool
  | .set t e, S, st => match st with
    | .Assign [tg] v _ => (!(isComp v) || (match tg with | .Name _ _ => false | _ => true)) && okT P t S tg && okE P e S v && noSwap S tg v
    | _ => false
  | .par i j a b, S, st => match st with
    | .Assign [.Tuple [.Name x px, .Name y py] _ _] (.Tuple [a', b'] _ _) _ => decide (S.N[i]? = some x) && decide (S.N[j]? = some y) && S.is x .local && S.is y .local && decide (x ≠ y) && decide (S.sc.kind = .function) && (px.line == py.line) && notStar a' && notStar b' && !([a', b'].all (constantsAlone 8)) && !([a', b'].all (foldedForSure 8)) && okE P a S a' && okE P b S b'
    | _ => false
  | .par3 i j l a b c, S, st => match st with
    | .Assign [.Tuple [.Name x px, .Name y py, .Name z pz] _ _] (.Tuple [a', b', c'] _ _) _ => decide (S.N[i]? = some x) && decide (S.N[j]? = some y) && decide (S.N[l]? = some z) && S.is x .local && S.is y .local && S.is z .local && decide (x ≠ y) && decide (x ≠ z) && decide (y ≠ z) && decide (S.sc.kind = .function) && (px.line == py.line) && (px.line == pz.line) && notStar a' && notStar b' && notStar c' && !([a', b', c'].all (constantsAlone 8)) && !([a', b', c'].all (foldedForSure 8)) && okE P a S a' && okE P b S b' && okE P c S c'
    | _ => false
  | .ex e, S, st => match st with
    | .Expr v _ => !(isComp v) && okE P e S v
    | _ => false
  | .setc i e, S, st => match st with
    | .Assign [.Name y py] (.ListComp elt' gs scope lpos) _ => decide (S.N[i]? = some y) && S.is y .local && decide (S.sc.kind = .function) && (py.line == lpos.line) && !(scope.names.any fun (n, k) => n == y && (k == .local || k == .cell)) && okE P e S (.ListComp elt' gs scope lpos)
    | _ => false
  | .ret e, S, st => match st with
    | .Return (some v) _ => okE P e S v
    | _ => false
  | .ife c a b, S, st => match st with
    | .If c' a' b' _ => okE P c S c' && tst c && okB P a S a' && okB P b S b'
    | _ => false
  | .for t i b, S, st => match st with
    | .For tg iter body [] _ => okI P i S tg iter && okT P t S tg && okB P b S body
    | _ => false
  | .whl c b, S, st => match st with
    | .While c' body [] _ => okE P c S c' && tst c && okB P b S body
    | _ => false
  | .never, _, _ => true
def okB (P : Pg) : CB → SC → List Stmt → Bool
  | .nil, _, ss => match ss with
    | [] => true
    | _ => false
  | .cons s r, S, ss => match ss with
    | [] => false
    | st :: ss' => okS P s S st && okB P r S ss'
end
end Lk
set_option maxHeartbeats 2000000
namespace Lk
open PySem PySem.Spec PyProof.Rows L2
def spOf (K : PySem.W.Frag) (as : List IV) (G : GH) (v : IV) (G' : GH) : Sp := fun us H Q _ => ∃ ρ, HR K ρ H G ∧ VRs K ρ H us as ∧ Rs K ρ H v G' Q
structure PF (P : Pg) (mg : Str → Option Value) : Prop where
  bn : ∀ x, x ∈ P.bn → mg x = none
  cs : ∀ x i, (x, i) ∈ P.cs → ∃ t, mg x = some (.int i t)
  gcd : P.gcd = true → mg "gcd" = some (.builtin "math.gcd")
abbrev CallT := Nat → List IV → GH → RO
/-- how a call with keywords binds -/
def KB (K : PySem.W.Frag) (fd : FuncData) (ps : List Str) (np : Nat) (ks : List Str) (pm : List Nat) : Prop :=
  ∀ (s : Shared) (us ws : List Value), K.In s.heap → us.length = np → ws.length = ks.length → BindsTo s fd ⟨us, ks.zip ws⟩ (ps.zip (pick pm (us ++ ws)))
def CallOk (P : Pg) (prog : Program) (w : World) (K : PySem.W.Frag) (mg : Str → Option Value) (base : Heap) (call : CallT) (k : Nat) : Prop :=
  ∀ f x as G v G', P.fns[f]? = some x → call f as G = some (v, G') → ∃ fa fd ps, mg x = some (.ref fa) ∧ PySem.W.keepIn K (.ref fa) = true ∧ Binds K fd ps [] ∧ FnG prog w K mg base CX0 k fa fd ps (spOf K as G v G') ∧ ∀ np ks pm, (x, np, ks, pm) ∈ P.kw → KB K fd ps np ks pm
structure Ok (P : Pg) (call : CallT) (k : Nat) (S : SC) (X : Cx) : Prop where
  N : X.N = S.N
  sc : X.env.scope = S.sc
  nd : X.N.Nodup
  calm : X.calm = true
  room : Room k X.A
  gd : X.A.guards = some []
  xe : X.xe = fun _ _ => False
  fn : S.top = true → ∀ x, X.fn x = true
  pf : PF P X.mg
  call : CallOk P X.prog X.w X.K X.mg X.base call k
section
variable {P : Pg} {call : CallT} {k : Nat} {S : SC} {X : Cx}
theorem SC.is_iff {x : Str} {kd : NameKind} (h : S.is x kd = true) : S.sc.names.lookup x = some kd := of_decide_eq_true h
theorem Ok.is (O : Ok P call k S X) {x : Str} {kd : NameKind} (h : S.is x kd = true) : X.env.scope.names.lookup x = some kd := by rw [O.sc]; exact S.is_iff h
theorem Ok.vis (O : Ok P call k S X) {x : Str} (h : S.vis x = true) : Vis X.env.scope x := by
  unfold SC.vis at h
  rw [Bool.or_eq_true, Bool.or_eq_true] at h
  rcases h with (h | h) | h
  · exact .inl (O.is h)
  · exact .inr (.inl (O.is h))
  · exact .inr (.inr (O.is h))
theorem Ok.gl (O : Ok P call k S X) {x : Str} (h : S.gl x = true) : Gl X x ∧ (x == ("__debug__" : Str)) = false ∧ x ≠ "__name__" := by
  unfold SC.gl at h
  simp only [Bool.and_eq_true, Bool.not_eq_true', decide_eq_true_eq] at h
  exact ⟨O.is h.1.1, h.1.2, h.2⟩
theorem notStar_each {e : Expr} {es : List Expr} {env : Env} (h : notStar e = true) : starEach (e :: es) env = (false, eval e env) :: starEach es env := by
  cases e <;> first | rfl | cases h
theorem okL_star {cs : CL} {es : List Expr} {env : Env} {pos : Pos} : okL P cs S es = true → (backTo pos (starEach es env)).any (·.1) = false := by
  induction es generalizing cs with
  | nil => intro _; rfl
  | cons e es ih =>
    intro h
    cases cs with
    | nil => simp only [okL] at h; cases h
    | cons c r =>
      simp only [okL, Bool.and_eq_true] at h
      rw [notStar_each h.1.1]
      exact ih h.2
theorem plain_notStar {e : Expr} (h : plainE e = true) : notStar e = true := by
  cases e <;> first | rfl | cases h
theorem plain_ix {b : Expr} (h : plainE b = true) : PlainIx b := by
  intro o i
  cases b <;> first | rfl | cases h
theorem plain_marks {op : CmpOp} {b : Expr} (h : plainE b = true) : behindInMarks op b = false := by
  cases b <;> first | rfl | cases h
theorem plain_folded {e : Expr} {env : Env} (h : plainE e = true) : ∀ x, foldedSetIterable e env x = pure x := by
  intro x
  cases e <;> first | rfl | cases h
end
end Lk
set_option maxHeartbeats 2000000
namespace Lk
open PySem PySem.Spec PyProof.Rows L2
/-! ### every expression -/
def sBO : BO → PySem.W.Frag → R2
  | .add, K => rAddA K | .sub, _ => rI0 fun i j => .int (i - j) | .mul, _ => rI CMulW fun i j => .int (i * j) | .div, _ => rI CDivW fun i j => .int (i / j)
  | .mod, _ => rI (fun _ j => 0 < j) fun i j => .int (i % j) | .pow, _ => rI CPowW fun i j => .int (i ^ j.toNat)
theorem bo_op {X : Cx} : ∀ o : BO, OpR X (binaryOp o.op) (sBO o X.K)
  | .add => op_addA | .sub => op_sub | .mul => op_mulW | .div => op_fdivW | .mod => op_mod | .pow => op_powW
theorem bo_s {K : PySem.W.Frag} : ∀ o : BO, Op2 K (sBO o K) o.f
  | .add => s_addA | .sub => s_sub | .mul => s_mul | .div => s_div | .mod => s_mod | .pow => s_pow
def sCO : CO → PySem.W.Frag → R2
  | .eq, K => rEqD K | .ne, K => rNeD K | .lt, _ => rI0 fun i j => .bl (decide (i < j)) | .le, _ => rI0 fun i j => .bl (decide (i ≤ j)) | .gt, _ => rI0 fun i j => .bl (decide (j < i))
  | .ge, _ => rI0 fun i j => .bl (decide (j ≤ i)) | .isin, K => rInD K | .notin, K => rNotInD K
theorem co_op {X : Cx} (hu : X.A.units + 65 < cLine) : ∀ o : CO, OpR X (compareOp o.op) (sCO o X.K)
  | .eq => op_eqD (by omega) | .ne => op_neD (by omega) | .lt => op_lt | .le => op_le | .gt => op_gt | .ge => op_ge | .isin => op_inD hu | .notin => op_notInD hu
theorem co_s {K : PySem.W.Frag} : ∀ o : CO, Op2 K (sCO o K) o.f
  | .eq => s_eq | .ne => s_ne | .lt => s_lt | .le => s_le | .gt => s_gt | .ge => s_ge | .isin => s_in | .notin => s_notIn
def SndE (P : Pg) (call : CallT) (k : Nat) (c : CE) : Prop := ∀ (S : SC) (e : Expr) (X : Cx), Ok P call k S X → okE P c S e = true → ∀ (ε : EV) (G G' : GH) (v : IV), evE call c ε G = some (v, G') → Mt X (wE X e) ε G v G'
def SndT (P : Pg) (call : CallT) (k : Nat) (c : CE) : Prop := ∀ (S : SC) (e : Expr) (X : Cx), Ok P call k S X → okE P c S e = true → tst c = true → ∀ (ε : EV) (G G' : GH) (b : Bool), evE call c ε G = some (.bl b, G') → MtT X (wT X e) ε G b G'
/-- an and, an or whatever stands around it -/
def SndW (P : Pg) (call : CallT) (k : Nat) (c : CE) : Prop := ∀ (S : SC) (op : BoolOp) (es : List Expr) (pos : Pos) (X : Cx), Ok P call k S X → okE P c S (.BoolOp op es pos) = true → tst c = true → ∀ (ε : EV) (G G' : GH) (b : Bool), evE call c ε G = some (.bl b, G') → MtT X (wW X (.BoolOp op es pos)) ε G b G'
structure Snd (P : Pg) (call : CallT) (k : Nat) (c : CE) : Prop where
  e : SndE P call k c
  t : SndT P call k c
  w : SndW P call k c
def SndL (P : Pg) (call : CallT) (k : Nat) (c : CL) : Prop := ∀ (S : SC) (es : List Expr) (X : Cx), Ok P call k S X → okL P c S es = true → ∀ (ε : EV) (G G' : GH) (vs : List IV), evL call c ε G = some (vs, G') → MtA X (wA X es) ε G vs G'
def MtP (X : Cx) (tp : TO) (ε : EV) (G : GH) (o : Option Int) (G' : GH) : Prop := ∀ ρ σ H, At X ρ σ H ε G → ∀ Q : Option Int → Hp → Prop, (∀ (ρ' : List Addr) (H' : Hp), Nx ρ H ρ' H' → HR X.K ρ' H' G' → Q o H') → tp σ H Q
def SndP (P : Pg) (call : CallT) (k : Nat) (c : CP) : Prop := ∀ (S : SC) (e : Option Expr) (X : Cx), Ok P call k S X → okP P c S e = true → ∀ (ε : EV) (G G' : GH) (o : Option Int), evP call c ε G = some (o, G') → ∃ t, PO X e t ∧ MtP X t ε G o G'
section
variable {P : Pg} {call : CallT} {k : Nat}
/-- what is no and, no or, no not, no comparison: its truth is that of its value -/
theorem snd_plain {c : CE} (h : SndE P call k c) (ht : ∀ (S : SC) (e : Expr) (X : Cx), okE P c S e = true → ∀ whole, isTrue e X.env whole = (do let v ← whole; standAt e.pos; holding [v] (truthy v))) (hw : ∀ (S : SC) op es pos, okE P c S (.BoolOp op es pos) = true → False) : Snd P call k c :=
  ⟨h, fun S e X O ok _ ε G G' b ev => mtt_w (pt_val pe_w (ht S e X ok)) (mtt_B (h S e X O ok ε G G' _ ev)), fun S op es pos X O ok => (hw S op es pos ok).elim⟩
theorem snd_c (w : IV) : Snd P call k (.c w) := by
  refine snd_plain ?_ ?_ ?_
  · intro S e X O ok ε G G' v ev
    simp only [evE, Option.some.injEq, Prod.mk.injEq] at ev
    obtain ⟨rfl, rfl⟩ := ev
    simp only [okE] at ok
    split at ok
    · split at ok
      · cases of_decide_eq_true ok; exact mt_w pe_int (mt_c rfl fun _ _ => .int _)
      · cases of_decide_eq_true ok; exact mt_w pe_bl (mt_c rfl fun _ _ => .bl _)
      · cases of_decide_eq_true ok; exact mt_w pe_str (mt_c rfl fun _ _ => .str _)
      · exact mt_w pe_non (mt_c rfl fun _ _ => .non)
      · cases ok
    · cases ok
  · intro S e X ok
    simp only [okE] at ok
    split at ok
    · intro _; rfl
    · cases ok
  · intro S op es pos ok
    simp only [okE] at ok
    cases ok
theorem snd_v (i : Nat) : Snd P call k (.v i) := by
  refine snd_plain ?_ ?_ ?_
  · intro S e X O ok ε G G' v ev
    simp only [evE] at ev
    simp only [okE] at ok
    split at ok
    · rename_i x _
      unfold SC.nm at ok
      simp only [Bool.and_eq_true, Bool.not_eq_true', decide_eq_true_eq] at ok
      split at ev
      · rename_i w hw
        cases ev
        exact mt_w (pe_var (by rw [O.N]; exact ok.1.1.1) (O.vis ok.1.1.2) ok.1.2 ok.2) (mt_var hw)
      · cases ev
    · cases ok
  · intro S e X ok
    simp only [okE] at ok
    split at ok
    · intro _; rfl
    · cases ok
  · intro S op es pos ok
    simp only [okE] at ok
    cases ok
theorem snd_g (x : Str) (w : IV) : Snd P call k (.g x w) := by
  refine snd_plain ?_ ?_ ?_
  · intro S e X O ok ε G G' v ev
    simp only [evE, Option.some.injEq, Prod.mk.injEq] at ev
    obtain ⟨rfl, rfl⟩ := ev
    simp only [okE] at ok
    split at ok
    · rw [Bool.and_eq_true, Bool.and_eq_true] at ok
      obtain ⟨⟨h1, h2⟩, h3⟩ := ok
      cases of_decide_eq_true h1
      obtain ⟨g1, g2, g3⟩ := O.gl h2
      split at h3
      · obtain ⟨t, ht⟩ := O.pf.cs _ _ (of_decide_eq_true h3)
        exact mt_w (pe_glob (v := .int _) g1 ht ⟨t, rfl⟩ g2) (mt_c rfl fun _ _ => .int _)
      · cases h3
    · cases ok
  · intro S e X ok
    simp only [okE] at ok
    split at ok
    · intro _; rfl
    · cases ok
  · intro S op es pos ok
    simp only [okE] at ok
    cases ok
theorem snd_bin {o : BO} {a b : CE} (ha : Snd P call k a) (hb : Snd P call k b) : Snd P call k (.bin o a b) := by
  refine snd_plain ?_ ?_ ?_
  · intro S e X O ok ε G G' v ev
    simp only [okE] at ok
    split at ok
    · simp only [Bool.and_eq_true, decide_eq_true_eq] at ok
      obtain ⟨⟨rfl, h1⟩, h2⟩ := ok
      simp only [evE] at ev
      split at ev
      · cases ev
      · rename_i x G1 e1
        split at ev
        · cases ev
        · rename_i y G2 e2
          exact mt_w (pe_op (bo_op o) pe_w pe_w) (mt_op (bo_s o) (ha.e S _ X O h1 _ _ _ _ e1) (hb.e S _ X O h2 _ _ _ _ e2) ev)
    · cases ok
  · intro S e X ok
    simp only [okE] at ok
    split at ok
    · intro _; rfl
    · cases ok
  · intro S op es pos ok
    simp only [okE] at ok
    cases ok
theorem snd_neg {a : CE} (ha : Snd P call k a) : Snd P call k (.neg a) := by
  refine ⟨?_, ?_, ?_⟩
  · intro S e X O ok ε G G' v ev
    simp only [okE] at ok
    split at ok
    · simp only [Bool.and_eq_true, decide_eq_true_eq] at ok
      obtain ⟨rfl, h1⟩ := ok
      simp only [evE] at ev
      split at ev
      · cases ev
      · rename_i x G1 e1
        exact mt_w (pe_un un_neg pe_w) (mt_un s_neg (ha.e S _ X O h1 _ _ _ _ e1) ev)
    · cases ok
  · intro S e X O ok _ ε G G' b ev
    simp only [evE] at ev
    split at ev
    · cases ev
    · rename_i x G1 e1
      cases x <;> cases ev
  · intro S op es pos X O ok
    simp only [okE] at ok
    cases ok
theorem hu65 {A : Around} {j : Nat} (hr : Room j A) : A.units + 65 < cLine := by
  have := hr.un
  omega
theorem snd_cmp {o : CO} {a b : CE} (ha : Snd P call k a) (hb : Snd P call k b) : Snd P call k (.cmp o a b) := by
  have core : ∀ {S : SC} {e : Expr} {X : Cx}, Ok P call k S X → okE P (.cmp o a b) S e = true → ∀ {ε : EV} {G G' : GH} {v : IV}, evE call (.cmp o a b) ε G = some (v, G') →
      ∃ a' b' pos, e = .Compare a' [o.op] [b'] pos ∧ behindInMarks o.op b' = false ∧ Mt X (tOp (sCO o X.K) (wE X a') (wE X b')) ε G v G' := by
    intro S e X O ok ε G G' v ev
    simp only [okE] at ok
    split at ok
    · simp only [Bool.and_eq_true, decide_eq_true_eq] at ok
      obtain ⟨⟨⟨rfl, h0⟩, h1⟩, h2⟩ := ok
      simp only [evE] at ev
      split at ev
      · cases ev
      · rename_i x G1 e1
        split at ev
        · cases ev
        · rename_i y G2 e2
          exact ⟨_, _, _, rfl, plain_marks h0, mt_op (co_s o) (ha.e S _ X O h1 _ _ _ _ e1) (hb.e S _ X O h2 _ _ _ _ e2) ev⟩
    · cases ok
  refine ⟨?_, ?_, ?_⟩
  · intro S e X O ok ε G G' v ev
    obtain ⟨a', b', pos, rfl, hm, h⟩ := core O ok ev
    exact mt_w (pe_cmpR (co_op (hu65 O.room) o) pe_w pe_w hm) h
  · intro S e X O ok _ ε G G' v ev
    obtain ⟨a', b', pos, rfl, hm, h⟩ := core O ok ev
    exact mtt_w (pt_cmpR (co_op (hu65 O.room) o) pe_w pe_w hm) (mtt_test h)
  · intro S op es pos X O ok
    simp only [okE] at ok
    cases ok
theorem mt_chain {X : Cx} {r r' : R2} {f f' : IV → IV → GH → RO} {ta tb tc : TE} {ε : EV} {G G1 G2 G3 G4 G5 : GH} {x y z v : IV} {b : Bool} (o : Op2 X.K r f) (o' : Op2 X.K r' f') (ha : Mt X ta ε G x G1) (hb : Mt X tb ε G1 y G2) (e : f x y G2 = some (.bl b, G3))
    (h1 : b = true → Mt X tc ε G3 z G4 ∧ f' y z G4 = some (v, G5)) (h2 : b = false → v = .bl false ∧ G5 = G3) : Mt X (tChain r r' ta tb tc) ε G v G5 := by
  intro ρ σ H a Q q
  refine ha ρ σ H a _ fun u ρ1 H1 n1 r1 v1 => ?_
  refine hb ρ1 σ H1 (a.nx n1 r1) _ fun w ρ2 H2 n2 r2 v2 => ?_
  refine o ρ2 H2 G2 u w x y (.bl b) G3 r2 (v1.nx n2) v2 e _ fun d ρ3 H3 n3 r3 v3 => ?_
  cases v3
  refine ⟨b, rfl, ?_⟩
  have n13 := (n1.trans n2).trans n3
  cases b with
  | true =>
    obtain ⟨h3, h4⟩ := h1 rfl
    rw [if_pos rfl]
    refine h3 ρ3 σ H3 (a.nx n13 r3) _ fun w' ρ4 H4 n4 r4 v4 => ?_
    exact o' ρ4 H4 G4 w w' y z v G5 r4 (v2.nx (n3.trans n4)) v4 h4 Q (q.nx (n13.trans n4))
  | false =>
    obtain ⟨rfl, rfl⟩ := h2 rfl
    rw [if_neg Bool.false_ne_true]
    exact (q.nx n13).same r3 (.bl false)
theorem snd_chain {o o' : CO} {a b c : CE} (ha : Snd P call k a) (hb : Snd P call k b) (hc : Snd P call k c) : Snd P call k (.chain o o' a b c) := by
  have core : ∀ {S : SC} {e : Expr} {X : Cx}, Ok P call k S X → okE P (.chain o o' a b c) S e = true → ∀ {ε : EV} {G G' : GH} {v : IV}, evE call (.chain o o' a b c) ε G = some (v, G') →
      ∃ a' b' c' pos, e = .Compare a' [o.op, o'.op] [b', c'] pos ∧ lastMarks [o.op, o'.op] [b', c'] = false ∧ Mt X (tChain (sCO o X.K) (sCO o' X.K) (wE X a') (wE X b') (wE X c')) ε G v G' := by
    intro S e X O ok ε G G' v ev
    simp only [okE] at ok
    split at ok
    · simp only [Bool.and_eq_true, decide_eq_true_eq] at ok
      obtain ⟨⟨⟨⟨⟨rfl, rfl⟩, h0⟩, h1⟩, h2⟩, h3⟩ := ok
      simp only [evE] at ev
      split at ev
      · cases ev
      · rename_i x G1 e1
        split at ev
        · cases ev
        · rename_i y G2 e2
          split at ev
          · rename_i G3 e3
            cases ev
            exact ⟨_, _, _, _, rfl, plain_marks h0, mt_chain (z := .non) (G4 := []) (co_s o) (co_s o') (ha.e S _ X O h1 _ _ _ _ e1) (hb.e S _ X O h2 _ _ _ _ e2) e3 (fun z => nomatch z) fun _ => ⟨rfl, rfl⟩⟩
          · rename_i G3 e3
            split at ev
            · cases ev
            · rename_i z G4 e4
              exact ⟨_, _, _, _, rfl, plain_marks h0, mt_chain (co_s o) (co_s o') (ha.e S _ X O h1 _ _ _ _ e1) (hb.e S _ X O h2 _ _ _ _ e2) e3 (fun _ => ⟨hc.e S _ X O h3 _ _ _ _ e4, ev⟩) fun z => nomatch z⟩
          · cases ev
    · cases ok
  refine ⟨?_, ?_, ?_⟩
  · intro S e X O ok ε G G' v ev
    obtain ⟨a', b', c', pos, rfl, hm, h⟩ := core O ok ev
    exact mt_w (pe_chain (co_op (hu65 O.room) o) (co_op (hu65 O.room) o') pe_w pe_w pe_w hm) h
  · intro S e X O ok _ ε G G' v ev
    obtain ⟨a', b', c', pos, rfl, hm, h⟩ := core O ok ev
    exact mtt_w (pt_chain (co_op (hu65 O.room) o) (co_op (hu65 O.room) o') pe_w pe_w pe_w hm) (mtt_test h)
  · intro S op es pos X O ok
    simp only [okE] at ok
    cases ok
theorem snd_not {a : CE} (ha : Snd P call k a) : Snd P call k (.not a) := by
  refine ⟨?_, ?_, ?_⟩
  · intro S e X O ok ε G G' v ev
    simp only [okE] at ok
    split at ok
    · simp only [Bool.and_eq_true, decide_eq_true_eq] at ok
      obtain ⟨rfl, h1⟩ := ok
      simp only [evE] at ev
      split at ev
      · rename_i b G1 e1
        cases ev
        exact mt_w (pe_not pe_w) (mt_not (ha.e S _ X O h1 _ _ _ _ e1))
      · cases ev
    · cases ok
  · intro S e X O ok ht ε G G' v ev
    simp only [okE] at ok
    split at ok
    · simp only [Bool.and_eq_true, decide_eq_true_eq] at ok
      obtain ⟨rfl, h1⟩ := ok
      simp only [evE] at ev
      split at ev
      · rename_i b G1 e1
        cases ev
        exact mtt_w (pt_not pt_w) (mtt_not (ha.t S _ X O h1 (by simpa only [tst] using ht) _ _ _ _ e1))
      · cases ev
    · cases ok
  · intro S op es pos X O ok
    simp only [okE] at ok
    cases ok
theorem snd_and {a b : CE} (ha : Snd P call k a) (hb : Snd P call k b) : Snd P call k (.and a b) := by
  have ww : SndW P call k (.and a b) := by
    intro S op es pos X O ok ht ε G G' v ev
    simp only [tst, Bool.and_eq_true] at ht
    simp only [okE] at ok
    split at ok
    · rename_i e1 e2 r _ he
      cases he
      simp only [Bool.and_eq_true, decide_eq_true_eq] at ok
      obtain ⟨⟨rfl, h1⟩, h2⟩ := ok
      simp only [evE] at ev
      -- the rest
      have rest : ∀ {G1 : GH} {c : Bool}, evE call b ε G1 = some (.bl c, G') → MtT X (wW X (.BoolOp .And (e2 :: r) pos)) ε G1 c G' := by
        intro G1 c ec
        split at h2
        · exact mtw_w (pw_and1 pt_w) (hb.t S _ X O h2 ht.2 _ _ _ _ ec)
        · exact hb.w S _ _ pos X O h2 ht.2 _ _ _ _ ec
      split at ev
      · rename_i G1 e1
        exact mtw_w (pw_and pt_w pw_w) (mtt_and (ha.t S _ X O h1 ht.1 _ _ _ _ e1) (fun _ => rest ev) fun z => nomatch z)
      · rename_i G1 e1
        cases ev
        exact mtw_w (pw_and pt_w pw_w) (mtt_and (ha.t S _ X O h1 ht.1 _ _ _ _ e1) (fun z => nomatch z) fun _ => ⟨rfl, rfl⟩)
      · cases ev
    · cases ok
  refine ⟨?_, ?_, ww⟩
  · intro S e X O ok ε G G' v ev
    simp only [okE] at ok
    split at ok
    · rename_i op e1 e2 r pos
      simp only [Bool.and_eq_true, decide_eq_true_eq] at ok
      obtain ⟨⟨rfl, h1⟩, h2⟩ := ok
      simp only [evE] at ev
      have rest : ∀ {G1 : GH} {c : IV}, evE call b ε G1 = some (c, G') → Mt X (wE X (.BoolOp .And (e2 :: r) pos)) ε G1 c G' := by
        intro G1 c ec
        split at h2
        · exact mt_w (pe_one pe_w) (hb.e S _ X O h2 _ _ _ _ ec)
        · exact hb.e S _ X O h2 _ _ _ _ ec
      split at ev
      · rename_i G1 e1
        exact mt_w (pe_and pe_w pe_w) (mt_and (ha.e S _ X O h1 _ _ _ _ e1) (fun _ => rest ev) fun z => nomatch z)
      · rename_i G1 e1
        cases ev
        exact mt_w (pe_and pe_w pe_w) (mt_and (ha.e S _ X O h1 _ _ _ _ e1) (fun z => nomatch z) fun _ => ⟨rfl, rfl⟩)
      · cases ev
    · cases ok
  · intro S e X O ok ht ε G G' v ev
    have ok' := ok
    simp only [okE] at ok
    split at ok
    · exact mtt_w pw_w.pt (ww S _ _ _ X O ok' ht ε G G' v ev)
    · cases ok
theorem snd_or {a b : CE} (ha : Snd P call k a) (hb : Snd P call k b) : Snd P call k (.or a b) := by
  have ww : SndW P call k (.or a b) := by
    intro S op es pos X O ok ht ε G G' v ev
    simp only [tst, Bool.and_eq_true] at ht
    simp only [okE] at ok
    split at ok
    · rename_i e1 e2 r _ he
      cases he
      simp only [Bool.and_eq_true, decide_eq_true_eq] at ok
      obtain ⟨⟨rfl, h1⟩, h2⟩ := ok
      simp only [evE] at ev
      have rest : ∀ {G1 : GH} {c : Bool}, evE call b ε G1 = some (.bl c, G') → MtT X (wW X (.BoolOp .Or (e2 :: r) pos)) ε G1 c G' := by
        intro G1 c ec
        split at h2
        · exact mtw_w (pw_or1 pt_w) (hb.t S _ X O h2 ht.2 _ _ _ _ ec)
        · exact hb.w S _ _ pos X O h2 ht.2 _ _ _ _ ec
      split at ev
      · rename_i G1 e1
        exact mtw_w (pw_or pt_w pw_w) (mtt_or (ha.t S _ X O h1 ht.1 _ _ _ _ e1) (fun _ => rest ev) fun z => nomatch z)
      · rename_i G1 e1
        cases ev
        exact mtw_w (pw_or pt_w pw_w) (mtt_or (ha.t S _ X O h1 ht.1 _ _ _ _ e1) (fun z => nomatch z) fun _ => ⟨rfl, rfl⟩)
      · cases ev
    · cases ok
  refine ⟨?_, ?_, ww⟩
  · intro S e X O ok ε G G' v ev
    simp only [okE] at ok
    split at ok
    · rename_i op e1 e2 r pos
      simp only [Bool.and_eq_true, decide_eq_true_eq] at ok
      obtain ⟨⟨rfl, h1⟩, h2⟩ := ok
      simp only [evE] at ev
      have rest : ∀ {G1 : GH} {c : IV}, evE call b ε G1 = some (c, G') → Mt X (wE X (.BoolOp .Or (e2 :: r) pos)) ε G1 c G' := by
        intro G1 c ec
        split at h2
        · exact mt_w (pe_one pe_w) (hb.e S _ X O h2 _ _ _ _ ec)
        · exact hb.e S _ X O h2 _ _ _ _ ec
      split at ev
      · rename_i G1 e1
        exact mt_w (pe_or pe_w pe_w) (mt_or (ha.e S _ X O h1 _ _ _ _ e1) (fun _ => rest ev) fun z => nomatch z)
      · rename_i G1 e1
        cases ev
        exact mt_w (pe_or pe_w pe_w) (mt_or (ha.e S _ X O h1 _ _ _ _ e1) (fun z => nomatch z) fun _ => ⟨rfl, rfl⟩)
      · cases ev
    · cases ok
  · intro S e X O ok ht ε G G' v ev
    have ok' := ok
    simp only [okE] at ok
    split at ok
    · exact mtt_w pw_w.pt (ww S _ _ _ X O ok' ht ε G G' v ev)
    · cases ok
theorem snd_ite {c a b : CE} (hc : Snd P call k c) (ha : Snd P call k a) (hb : Snd P call k b) : Snd P call k (.ite c a b) := by
  refine ⟨?_, fun S e X O ok ht => (by simp only [tst] at ht; exact absurd ht (by decide)), fun S op es pos X O ok ht => (by simp only [tst] at ht; exact absurd ht (by decide))⟩
  intro S e X O ok ε G G' v ev
  simp only [okE] at ok
  split at ok
  · simp only [Bool.and_eq_true] at ok
    obtain ⟨⟨⟨h1, h0⟩, h2⟩, h3⟩ := ok
    simp only [evE] at ev
    split at ev
    · rename_i G1 e1
      exact mt_w (pe_ifExp pt_w pe_w pe_w) (mt_if (hc.t S _ X O h1 h0 _ _ _ _ e1) (fun _ => ha.e S _ X O h2 _ _ _ _ ev) fun z => nomatch z)
    · rename_i G1 e1
      exact mt_w (pe_ifExp pt_w pe_w pe_w) (mt_if (hc.t S _ X O h1 h0 _ _ _ _ e1) (fun z => nomatch z) fun _ => hb.e S _ X O h3 _ _ _ _ ev)
    · cases ev
  · cases ok
end
end Lk
set_option maxHeartbeats 2000000
namespace Lk
open PySem PySem.Spec PyProof.Rows L2
section
variable {P : Pg} {call : CallT} {k : Nat}
/-- no test of its own -/
theorem snd_val {c : CE} (h : SndE P call k c) (ht : ∀ {ε : EV} {G G' : GH} {b : Bool}, tst c = true → evE call c ε G = some (.bl b, G') → False) : Snd P call k c :=
  ⟨h, fun S e X O ok t ε G G' b ev => (ht t ev).elim, fun S op es pos X O ok t ε G G' b ev => (ht t ev).elim⟩
theorem sndL_nil : SndL P call k .nil := by
  intro S es X O ok ε G G' vs ev
  simp only [evL, Option.some.injEq, Prod.mk.injEq] at ev
  obtain ⟨rfl, rfl⟩ := ev
  cases es with
  | nil => exact mta_w pa_nil mta_nil
  | cons _ _ => simp only [okL] at ok; exact absurd ok (by decide)
theorem sndL_cons {c : CE} {r : CL} (hc : Snd P call k c) (hr : SndL P call k r) : SndL P call k (.cons c r) := by
  intro S es X O ok ε G G' vs ev
  cases es with
  | nil => simp only [okL] at ok; exact absurd ok (by decide)
  | cons e es =>
    simp only [okL, Bool.and_eq_true] at ok
    obtain ⟨⟨h0, h1⟩, h2⟩ := ok
    simp only [evL] at ev
    split at ev
    · cases ev
    · rename_i x G1 e1
      split at ev
      · cases ev
      · rename_i xs G2 e2
        cases ev
        exact mta_w (pa_cons pe_w pa_w (notStar_each h0)) (mta_cons (hc.e S _ X O h1 _ _ _ _ e1) (hr S _ X O h2 _ _ _ _ e2))
theorem snd_tup {es : CL} (h : SndL P call k es) : Snd P call k (.tup es) := by
  refine snd_val ?_ (fun t _ => by simp only [tst] at t; exact absurd t (by decide))
  intro S e X O ok ε G G' v ev
  simp only [okE] at ok
  split at ok
  · simp only [evE] at ev
    split at ev
    · cases ev
    · rename_i xs G1 e1
      split at ev
      · rename_i l
        cases ev
        exact mt_w (pe_tup pa_w) (mt_tup (h S _ X O ok _ _ _ _ e1) (lim_ok l))
      · cases ev
  · cases ok
theorem snd_lst {es : CL} (h : SndL P call k es) : Snd P call k (.lst es) := by
  refine snd_val ?_ (fun t _ => by simp only [tst] at t; exact absurd t (by decide))
  intro S e X O ok ε G G' v ev
  simp only [okE] at ok
  split at ok
  · simp only [evE] at ev
    split at ev
    · cases ev
    · rename_i xs G1 e1
      split at ev
      · rename_i l
        cases ev
        exact mt_w (pe_lst pa_w) (mt_lst (h S _ X O ok _ _ _ _ e1) (lim_ok l))
      · cases ev
  · cases ok
theorem snd_ix {a b : CE} (ha : Snd P call k a) (hb : Snd P call k b) : Snd P call k (.ix a b) := by
  refine snd_plain ?_ ?_ ?_
  · intro S e X O ok ε G G' v ev
    simp only [okE] at ok
    split at ok
    · simp only [Bool.and_eq_true] at ok
      obtain ⟨⟨h0, h1⟩, h2⟩ := ok
      simp only [evE] at ev
      split at ev
      · cases ev
      · rename_i x G1 e1
        split at ev
        · cases ev
        · rename_i y G2 e2
          exact mt_w (pe_ix ix_all pe_w pe_w (plain_ix h0)) (mt_op s_ix (ha.e S _ X O h1 _ _ _ _ e1) (hb.e S _ X O h2 _ _ _ _ e2) ev)
    · cases ok
  · intro S e X ok
    simp only [okE] at ok
    split at ok
    · intro _; rfl
    · cases ok
  · intro S op es pos ok
    simp only [okE] at ok
    cases ok
theorem sndP_no : SndP P call k .no := by
  intro S e X O ok ε G G' o ev
  simp only [evP, Option.some.injEq, Prod.mk.injEq] at ev
  obtain ⟨rfl, rfl⟩ := ev
  cases e with
  | none => exact ⟨_, po_none, fun ρ σ H a Q q => q ρ H (Nx.refl _ _) a.h⟩
  | some _ => simp only [okP] at ok; exact absurd ok (by decide)
theorem sndP_ex {c : CE} (hc : Snd P call k c) : SndP P call k (.ex c) := by
  intro S e X O ok ε G G' o ev
  cases e with
  | none => simp only [okP] at ok; exact absurd ok (by decide)
  | some e =>
    simp only [okP] at ok
    simp only [evP] at ev
    split at ev
    · rename_i i G1 e1
      cases ev
      refine ⟨_, po_some pe_w, fun ρ σ H a Q q => ?_⟩
      refine hc.e S _ X O ok _ _ _ _ e1 ρ σ H a _ fun u ρ1 H1 n1 r1 v1 => ?_
      cases v1
      exact ⟨_, rfl, q ρ1 H1 n1 r1⟩
    · cases ev
theorem snd_sl {a : CE} {lo hi : CP} (ha : Snd P call k a) (hl : SndP P call k lo) (hh : SndP P call k hi) : Snd P call k (.sl a lo hi) := by
  refine snd_plain ?_ ?_ ?_
  · intro S e X O ok ε G G' v ev
    simp only [okE] at ok
    split at ok
    · simp only [Bool.and_eq_true] at ok
      obtain ⟨⟨h1, h2⟩, h3⟩ := ok
      simp only [evE] at ev
      split at ev
      · cases ev
      · rename_i x G1 e1
        split at ev
        · cases ev
        · rename_i l G2 e2
          split at ev
          · cases ev
          · rename_i h G3 e3
            obtain ⟨tl, pl, ml⟩ := hl S _ X O h2 _ _ _ _ e2
            obtain ⟨th, ph, mh⟩ := hh S _ X O h3 _ _ _ _ e3
            refine mt_w (pe_slice sl_all pe_w pl ph) fun ρ σ H a Q q => ?_
            refine ha.e S _ X O h1 _ _ _ _ e1 ρ σ H a _ fun u ρ1 H1 n1 r1 v1 => ?_
            refine ml ρ1 σ H1 (a.nx n1 r1) _ fun ρ2 H2 n2 r2 => ?_
            refine mh ρ2 σ H2 (a.nx (n1.trans n2) r2) _ fun ρ3 H3 n3 r3 => ?_
            exact s_sl r3 (v1.nx (n2.trans n3)) ev (q.nx ((n1.trans n2).trans n3))
    · cases ok
  · intro S e X ok
    simp only [okE] at ok
    split at ok
    · intro _; rfl
    · cases ok
  · intro S op es pos ok
    simp only [okE] at ok
    cases ok
theorem mt_call {X : Cx} {ta : TA} {ε : EV} {G G1 G2 : GH} {xs : List IV} {v : IV} {E : XK} (ha : MtA X ta ε G xs G1) : Mt X (tCall (spOf X.K xs G1 v G2) [] E ta) ε G v G2 := by
  intro ρ σ H a Q q
  refine ha ρ σ H a _ fun us ρ1 H1 n1 r1 v1 => ?_
  exact ⟨ρ1, r1, by rw [List.append_nil]; exact v1, q.nx n1⟩
theorem snd_fn {f : Nat} {es : CL} (h : SndL P call k es) : Snd P call k (.fn f es) := by
  refine snd_plain ?_ ?_ ?_
  · intro S e X O ok ε G G' v ev
    simp only [okE] at ok
    split at ok
    · rename_i x p es' pos
      simp only [Bool.and_eq_true, decide_eq_true_eq] at ok
      obtain ⟨⟨h2, h1⟩, h3⟩ := ok
      obtain ⟨g1, g2, g3⟩ := O.gl h1
      simp only [evE] at ev
      split at ev
      · cases ev
      · rename_i xs G1 e1
        obtain ⟨fa, fd, ps, m1, m2, m3, m4, _⟩ := O.call _ _ _ _ _ _ h2 ev
        have hs := okL_star (env := X.env) (pos := pos) h3
        have ha := h S _ X O h3 _ _ _ _ e1
        cases es' with
        | nil =>
          cases es with
          | cons _ _ => simp only [okL] at h3; exact absurd h3 (by decide)
          | nil =>
            simp only [evL, Option.some.injEq, Prod.mk.injEq] at e1
            obtain ⟨rfl, rfl⟩ := e1
            exact mt_w (pe_callG0 m4 O.room O.gd g1 m1 m2 m3 .nil pass0 g2) (mt_call mta_nil)
        | cons e' es' =>
          cases es with
          | nil => simp only [okL] at h3; exact absurd h3 (by decide)
          | cons c cs =>
            have h0 : notStar e' = true := by simp only [okL, Bool.and_eq_true] at h3; exact h3.1.1
            have h4 : okL P cs S es' = true := by simp only [okL, Bool.and_eq_true] at h3; exact h3.2
            exact mt_w (pe_callG m4 O.room O.gd g1 m1 m2 m3 .nil pass0 pa_w g2 (notStar_each h0) (okL_star h4)) (mt_call ha)
    · cases ok
  · intro S e X ok
    simp only [okE] at ok
    split at ok
    · intro _; rfl
    · cases ok
  · intro S op es pos ok
    simp only [okE] at ok
    cases ok
theorem snd_bi {b : BI} {es : CL} (h : SndL P call k es) : Snd P call k (.bi b es) := by
  refine snd_plain ?_ ?_ ?_
  · intro S e X O ok ε G G' v ev
    simp only [okE] at ok
    split at ok
    · rename_i x p es' pos
      simp only [Bool.and_eq_true, decide_eq_true_eq, Bool.not_eq_true'] at ok
      obtain ⟨⟨⟨⟨rfl, h1⟩, h2⟩, h0⟩, h3⟩ := ok
      obtain ⟨g1, g2, g3⟩ := O.gl h1
      simp only [evE] at ev
      split at ev
      · cases ev
      · rename_i xs G1 e1
        have ha := h S _ X O h3 _ _ _ _ e1
        have rule := bi_call (X := X) O.calm O.gd (by have := hu65 O.room; omega) b
        have boot := bi_boot b
        cases es' with
        | nil => exact absurd h0 (by decide)
        | cons e' es' =>
          cases es with
          | nil => simp only [okL] at h3; exact absurd h3 (by decide)
          | cons c cs =>
            have k0 : notStar e' = true := by simp only [okL, Bool.and_eq_true] at h3; exact h3.1.1
            have k4 : okL P cs S es' = true := by simp only [okL, Bool.and_eq_true] at h3; exact h3.2
            have mt := mt_cb (bi_s b) ha ev
            unfold BI.val at rule boot
            by_cases t : b.ty = true
            · rw [if_pos t] at rule boot
              exact mt_w (pe_callTy rule g1 (O.pf.bn _ h2) boot pa_w g3 g2 (notStar_each k0) (okL_star k4)) mt
            · rw [if_neg t] at rule boot
              exact mt_w (pe_callB rule g1 (O.pf.bn _ h2) boot pa_w g3 g2 (notStar_each k0) (okL_star k4)) mt
    · cases ok
  · intro S e X ok
    simp only [okE] at ok
    split at ok
    · intro _; rfl
    · cases ok
  · intro S op es pos ok
    simp only [okE] at ok
    cases ok
theorem ev_rq {ne : Bool} {a b : CE} {ε : EV} {G G' : GH} {v : IV} (ev : evE call (.rq ne a b) ε G = some (v, G')) :
    evE call (.cmp (if ne then .ne else .eq) (.bi .repr (.cons a .nil)) (.bi .repr (.cons b .nil))) ε G = some (v, G') := by
  simp only [evE] at ev
  split at ev
  · cases ev
  · rename_i x G1 e1
    split at ev
    · cases ev
    · rename_i d hd
      split at ev
      · cases ev
      · rename_i y G2 e2
        split at ev
        · cases ev
        · rename_i e he
          split at ev
          · rename_i sm
            have de := sameD_eq sm
            subst de
            cases ev
            have sh : ∀ {G : GH} {z : IV}, shows G z = some d → fRepr [z] G = some (.str d.shown, G) ∧ PyData.strOk d.shown = true := by
              intro G z h
              unfold shows at h
              unfold fRepr
              split at h
              · cases h
              · rename_i d1 h1
                split at h
                · cases h
                · rename_i n hn
                  split at h
                  · rename_i c
                    simp only [Option.some.injEq] at h
                    subst h
                    simp only [h1, hn]
                    exact ⟨if_pos c, strOk_shown _ _ hn⟩
                  · cases h
            have sp : SeqAt.shaped (.str d.shown) = true := by
              unfold SeqAt.shaped
              simp [PyData.canLay0, PyData.depth, (sh hd).2]
            have eq : PyData.eqv (.str d.shown) (.str d.shown) = true := by
              simp only [PyData.eqv, beq_self_eq_true]
            have fin : ∀ n : Bool, fEq n (.str d.shown) (.str d.shown) G' = some (.bl (!n), G') := by
              intro n
              unfold fEq
              simp only [gD, toD, sp, eq]
              cases n <;> rfl
            simp only [evE, evL, e1, BI.run, (sh hd).1, e2, (sh he).1]
            cases ne
            · exact fin false
            · exact fin true
          · cases ev
theorem ok_rq {ne : Bool} {a b : CE} {S : SC} {e : Expr} (h : okE P (.rq ne a b) S e = true) : okE P (.cmp (if ne then .ne else .eq) (.bi .repr (.cons a .nil)) (.bi .repr (.cons b .nil))) S e = true := by
  have one : ∀ (c : CE) (es' : List Expr), okL P (.cons c .nil) S es' = (match es' with
        | [] => false
        | e :: es' => notStar e && okE P c S e && (match es' with
          | [] => true
          | _ => false)) := by
    intro c es'
    cases es' with
    | nil => simp only [okL]
    | cons e r => cases r <;> simp only [okL]
  simp only [okE] at h ⊢
  split at h
  · rename_i a0 op b0 pos
    simp only [Bool.and_eq_true] at h ⊢
    obtain ⟨⟨⟨h1, h2⟩, h3⟩, h4⟩ := h
    refine ⟨⟨⟨h1, h2⟩, ?_⟩, ?_⟩
    · split at h3
      · rw [one, Bool.and_eq_true, Bool.and_eq_true, Bool.and_eq_true, Bool.and_eq_true]
        rw [Bool.and_eq_true, Bool.and_eq_true, Bool.and_eq_true, Bool.and_eq_true] at h3
        exact h3
      · cases h3
    · split at h4
      · rw [one, Bool.and_eq_true, Bool.and_eq_true, Bool.and_eq_true, Bool.and_eq_true]
        rw [Bool.and_eq_true, Bool.and_eq_true, Bool.and_eq_true, Bool.and_eq_true] at h4
        exact h4
      · cases h4
  · cases h
theorem snd_rq {ne : Bool} {a b : CE} (ha : Snd P call k a) (hb : Snd P call k b) : Snd P call k (.rq ne a b) := by
  have gen : Snd P call k (.cmp (if ne then .ne else .eq) (.bi .repr (.cons a .nil)) (.bi .repr (.cons b .nil))) := snd_cmp (snd_bi (sndL_cons ha sndL_nil)) (snd_bi (sndL_cons hb sndL_nil))
  refine ⟨fun S e X O ok ε G G' v ev => gen.e S e X O (ok_rq ok) ε G G' v (ev_rq ev), fun S e X O ok _ ε G G' v ev => gen.t S e X O (ok_rq ok) (by cases ne <;> rfl) ε G G' v (ev_rq ev), fun S op es pos X O ok => ?_⟩
  simp only [okE] at ok
  exact absurd ok (by decide)
theorem snd_gcd {es : CL} (h : SndL P call k es) : Snd P call k (.gcd es) := by
  refine snd_plain ?_ ?_ ?_
  · intro S e X O ok ε G G' v ev
    simp only [okE] at ok
    split at ok
    · rename_i x p es' pos
      simp only [Bool.and_eq_true, decide_eq_true_eq, Bool.not_eq_true'] at ok
      obtain ⟨⟨⟨⟨rfl, h1⟩, h2⟩, h0⟩, h3⟩ := ok
      obtain ⟨g1, g2, g3⟩ := O.gl h1
      simp only [evE] at ev
      split at ev
      · cases ev
      · rename_i xs G1 e1
        have ha := h S _ X O h3 _ _ _ _ e1
        cases es' with
        | nil => exact absurd h0 (by decide)
        | cons e' es' =>
          cases es with
          | nil => simp only [okL] at h3; exact absurd h3 (by decide)
          | cons c cs =>
            have k0 : notStar e' = true := by simp only [okL, Bool.and_eq_true] at h3; exact h3.1.1
            have k4 : okL P cs S es' = true := by simp only [okL, Bool.and_eq_true] at h3; exact h3.2
            exact mt_w (pe_callBfun cr_gcd g1 (O.pf.gcd h2) pa_w g2 (notStar_each k0) (okL_star k4)) (mt_cb s_gcd ha ev)
    · cases ok
  · intro S e X ok
    simp only [okE] at ok
    split at ok
    · intro _; rfl
    · cases ok
  · intro S op es pos ok
    simp only [okE] at ok
    cases ok
theorem snd_isi {a : CE} {T : String} (h : Snd P call k a) : Snd P call k (.isi a T) := by
  refine snd_plain ?_ ?_ ?_
  · intro S e X O ok ε G G' v ev
    simp only [okE] at ok
    split at ok
    · rename_i x p a' y p2 pos
      simp only [Bool.and_eq_true, decide_eq_true_eq] at ok
      obtain ⟨⟨⟨⟨⟨⟨⟨rfl, h1⟩, h2⟩, h3⟩, h4⟩, h5⟩, h6⟩, h7⟩ := ok
      obtain ⟨g1, g2, g3⟩ := O.gl h1
      obtain ⟨k1, k2, k3⟩ := O.gl h3
      simp only [evE] at ev
      split at ev
      · cases ev
      · rename_i u G1 e1
        refine mt_w (pe_callB call_isi g1 (O.pf.bn _ h2) (by decide +kernel) (pa_cons pe_w (pa_cons (pe_bltn (v := .ty T) k1 (O.pf.bn _ h4) h5 rfl k3 k2) pa_nil (notStar_each rfl)) (notStar_each (plain_notStar h6))) g3 g2 (notStar_each (plain_notStar h6)) rfl) ?_
        intro ρ σ H at_ Q q
        refine h.e S _ X O h7 _ _ _ _ e1 ρ σ H at_ _ fun w ρ1 H1 n1 r1 v1 => ?_
        exact s_isi r1 v1 ev (q.nx n1)
    · cases ok
  · intro S e X ok
    simp only [okE] at ok
    split at ok
    · intro _; rfl
    · cases ok
  · intro S op es pos ok
    simp only [okE] at ok
    cases ok
/-- list(range(n)) -/
theorem vrs_rg {K : PySem.W.Frag} {ρ : List Addr} {H : Hp} (lo : Int) (n : Nat) : VRs K ρ H ((List.range n).map fun i => V.int (lo + (i : Nat))) ((List.range n).map fun i => IV.int (lo + (i : Nat))) := by
  have h := VRs.ofInts (K := K) (ρ := ρ) (H := H) ((List.range n).map fun i => lo + ((i : Nat) : Int))
  rw [List.map_map, List.map_map] at h
  exact h
theorem snd_lrg {es : CL} (ih : ∀ c, es = .cons c .nil → Snd P call k c) : Snd P call k (.lrg es) := by
  refine snd_plain ?_ ?_ ?_
  · intro S e X O ok ε G G' v ev
    simp only [okE] at ok
    split at ok
    · rename_i x p y p2 es' p3 pos
      simp only [Bool.and_eq_true, decide_eq_true_eq] at ok
      obtain ⟨⟨⟨⟨⟨⟨⟨rfl, h1⟩, h2⟩, rfl⟩, h3⟩, h4⟩, h6⟩, h5⟩ := ok
      obtain ⟨g1, g2, g3⟩ := O.gl h1
      obtain ⟨k1, k2, k3⟩ := O.gl h3
      simp only [evE] at ev
      split at ev
      · cases ev
      · rename_i xs G1 e1
        cases es with
        | nil =>
          simp only [evL, Option.some.injEq, Prod.mk.injEq] at e1
          obtain ⟨rfl, rfl⟩ := e1
          simp only [rngOf] at ev
          cases ev
        | cons c r =>
          cases r with
          | cons c2 r2 =>
            cases es' with
            | nil => exact absurd h6 (by decide)
            | cons a' r' =>
              cases r' with
              | nil => simp only [okL, Bool.and_eq_true] at h5; exact absurd h5.2 (by decide)
              | cons b' r'' => simp only [List.length_cons] at h6; omega
          | nil =>
            cases es' with
            | nil => simp only [okL] at h5; exact absurd h5 (by decide)
            | cons a' r' =>
              cases r' with
              | cons _ _ => simp only [okL, Bool.and_eq_true] at h5; exact absurd h5.2 (by decide)
              | nil =>
                simp only [okL, Bool.and_eq_true] at h5
                simp only [evL] at e1
                split at e1
                · cases e1
                · rename_i w G2 e2
                  simp only [Option.some.injEq, Prod.mk.injEq] at e1
                  obtain ⟨rfl, rfl⟩ := e1
                  cases w with
                  | int j =>
                    simp only [rngOf] at ev
                    split at ev
                    · rename_i lo n hr
                      split at hr
                      · rename_i hb
                        simp only [Option.some.injEq, Prod.mk.injEq] at hr
                        obtain ⟨rfl, _, rfl⟩ := hr
                        split at ev
                        · rename_i hl
                          simp only [Bool.and_eq_true, decide_eq_true_eq] at hl hb
                          cases ev
                          refine mt_w (pe_listRg O.calm g1 (O.pf.bn _ h2) (prg_1 k1 (O.pf.bn _ h4) pe_w (notStar_each h5.1.1)) rfl) ?_
                          intro ρ σ H at_ Q q
                          refine (ih _ rfl).e S _ X O h5.1.2 _ _ _ _ e2 ρ σ H at_ _ fun u ρ1 H1 n1 r1 v1 => ?_
                          cases v1
                          have lim24 : lim ≤ 2 ^ 24 := by decide
                          refine ⟨j, rfl, ⟨by omega, by omega, hb.1, hb.2, by omega⟩, ?_⟩
                          have q2 := (q.nx n1).lst (us := rgV 0 j) r1 (by unfold rgV; rw [Int.sub_zero]; exact vrs_rg 0 _)
                          exact q2
                        · cases ev
                      · cases hr
                    · cases ev
                  | _ => simp only [rngOf] at ev; cases ev
    · cases ok
  · intro S e X ok
    simp only [okE] at ok
    split at ok
    · intro _; rfl
    · cases ok
  · intro S op es pos ok
    simp only [okE] at ok
    cases ok
end
end Lk
set_option maxHeartbeats 2000000
namespace Lk
open PySem PySem.Spec PyProof.Rows L2
section
variable {P : Pg} {call : CallT} {k : Nat}
theorem base_of {o : Expr} {env : Env} {m : Str} (h : (match o with | .Name _ _ => true | .Subscript _ _ _ => true | _ => false) = true) : attributeBase o m env (eval o env) = eval o env := by
  cases o <;> first | rfl | cases h
theorem snd_app {o a : CE} (ho : Snd P call k o) (ha : Snd P call k a) : Snd P call k (.app o a) := by
  refine snd_plain ?_ ?_ ?_
  · intro S e X O ok ε G G' v ev
    simp only [okE] at ok
    split at ok
    · rename_i o' m apos a' cpos
      simp only [Bool.and_eq_true, decide_eq_true_eq] at ok
      obtain ⟨⟨⟨⟨⟨rfl, h1⟩, h2⟩, h3⟩, h4⟩, h5⟩ := ok
      simp only [evE] at ev
      split at ev
      · rename_i n G1 e1
        split at ev
        · cases ev
        · rename_i y G2 e2
          split at ev
          · rename_i xs hx
            split at ev
            · rename_i hl
              cases ev
              refine mt_w (pe_bm PySem.F.plainAttrs_list PySem.F.slot_list_append PySem.F.type_list_append mt_append pe_w pa_w (base_of h3) (by rw [notStar_each (plain_notStar h2)]; rfl) h1 (notStar_each (plain_notStar h2)) rfl) ?_
              intro ρ σ H at_ Q q
              refine ho.e S _ X O h4 _ _ _ _ e1 ρ σ H at_ _ fun u ρ1 H1 n1 r1 v1 => ?_
              cases v1 with
              | ref hn =>
                rename_i l
                have at1 := at_.nx n1 r1
                -- before the argument it is a list
                have pre : ∃ vs, SqL X.K H1 l vs := by
                  have ln : n < G1.length := by rw [← r1.len]; exact (List.getElem?_eq_some_iff.mp hn).1
                  obtain ⟨vs, z, _⟩ := (r1.at_ n l _ hn (List.getElem?_eq_getElem ln)).sq
                  exact ⟨vs, z⟩
                refine ⟨.inl ⟨rfl, pre⟩, ?_⟩
                have argm : MtA X (wA X [a']) ε G1 [y] G2 := mta_w (pa_cons pe_w pa_nil (notStar_each (plain_notStar h2))) (mta_cons (ha.e S _ X O h5 _ _ _ _ e2) mta_nil)
                refine argm ρ1 σ H1 at1 _ fun us ρ2 H2 n2 r2 v2 => ?_
                cases v2 with
                | cons vy vn =>
                  cases vn
                  rename_i yv
                  have hn2 := n2.pre _ _ hn
                  obtain ⟨vs, z1, z2⟩ := mr_lst (r2.at_ _ _ _ hn2 hx)
                  refine ⟨l, vs, _, rfl, rfl, z1, by rw [z2.length]; exact lim_lt hl, ?_⟩
                  have nw : Nx ρ2 H2 ρ2 (upd H2 l (.lst (vs ++ [yv]))) := Nx.write (List.mem_of_getElem? hn2) z1
                  exact q _ ρ2 _ ((n1.trans n2).trans nw) (r2.write hn2 hx z1 (z2.app (.cons vy .nil))) .non
            · cases ev
          · cases ev
      · cases ev
    · cases ok
  · intro S e X ok
    simp only [okE] at ok
    split at ok
    · intro _; rfl
    · cases ok
  · intro S op es pos ok
    simp only [okE] at ok
    cases ok
theorem snd_ext {o a : CE} (ho : Snd P call k o) (ha : Snd P call k a) : Snd P call k (.ext o a) := by
  refine snd_plain ?_ ?_ ?_
  · intro S e X O ok ε G G' v ev
    simp only [okE] at ok
    split at ok
    · rename_i o' m apos a' cpos
      simp only [Bool.and_eq_true, decide_eq_true_eq] at ok
      obtain ⟨⟨⟨⟨⟨rfl, h1⟩, h2⟩, h3⟩, h4⟩, h5⟩ := ok
      simp only [evE] at ev
      split at ev
      · rename_i n G1 e1
        split at ev
        · rename_i m2 G2 e2
          split at ev
          · rename_i xs ys hx hy
            split at ev
            · rename_i hl
              cases ev
              refine mt_w (pe_bm PySem.F.plainAttrs_list PySem.F.slot_list_extend PySem.F.type_list_extend mt_extend pe_w pa_w (base_of h3) (by rw [notStar_each h2]; rfl) h1 (notStar_each h2) rfl) ?_
              intro ρ σ H at_ Q q
              refine ho.e S _ X O h4 _ _ _ _ e1 ρ σ H at_ _ fun u ρ1 H1 n1 r1 v1 => ?_
              cases v1 with
              | ref hn =>
                rename_i l
                have at1 := at_.nx n1 r1
                have pre : ∃ vs, SqL X.K H1 l vs := by
                  have ln : n < G1.length := by rw [← r1.len]; exact (List.getElem?_eq_some_iff.mp hn).1
                  obtain ⟨vs, z, _⟩ := (r1.at_ n l _ hn (List.getElem?_eq_getElem ln)).sq
                  exact ⟨vs, z⟩
                refine ⟨.inl ⟨rfl, pre⟩, ?_⟩
                have argm : MtA X (wA X [a']) ε G1 [.ref m2] G2 := mta_w (pa_cons pe_w pa_nil (notStar_each h2)) (mta_cons (ha.e S _ X O h5 _ _ _ _ e2) mta_nil)
                refine argm ρ1 σ H1 at1 _ fun us ρ2 H2 n2 r2 v2 => ?_
                cases v2 with
                | cons vy vn =>
                  cases vn
                  cases vy with
                  | ref hm =>
                    rename_i b
                    have hn2 := n2.pre _ _ hn
                    obtain ⟨vs, z1, z2⟩ := mr_lst (r2.at_ _ _ _ hn2 hx)
                    obtain ⟨us, y1, y2⟩ := mr_lst (r2.at_ _ _ _ hm hy)
                    refine ⟨l, b, vs, us, rfl, rfl, z1, y1, by rw [z2.length, y2.length]; exact lim_ok hl, ?_⟩
                    have nw : Nx ρ2 H2 ρ2 (upd H2 l (.lst (vs ++ us))) := Nx.write (List.mem_of_getElem? hn2) z1
                    exact q _ ρ2 _ ((n1.trans n2).trans nw) (r2.write hn2 hx z1 (z2.app y2)) .non
            · cases ev
          · cases ev
        · cases ev
      · cases ev
    · cases ok
  · intro S e X ok
    simp only [okE] at ok
    split at ok
    · intro _; rfl
    · cases ok
  · intro S op es pos ok
    simp only [okE] at ok
    cases ok
/-! ### targets -/
def Agree (is : List Nat) (σ σ' : L2.St) : Prop := σ'.length = σ.length ∧ ∀ j, j ∉ is → σ'[j]? = σ[j]?
theorem Agree.refl {is : List Nat} {σ : L2.St} : Agree is σ σ := ⟨rfl, fun _ _ => rfl⟩
theorem Agree.trans {is js : List Nat} {σ τ υ : L2.St} (a : Agree is σ τ) (b : Agree js τ υ) : Agree (is ++ js) σ υ :=
  ⟨b.1.trans a.1, fun j h => (b.2 j fun z => h (List.mem_append_right _ z)).trans (a.2 j fun z => h (List.mem_append_left _ z))⟩
/-- what is wanted behind a store -/
def MtG (X : Cx) (tg : TG) (is : List Nat) (w : IV) (ε : EV) (G : GH) (ε' : EV) (G' : GH) : Prop := ∀ ρ σ H v, At X ρ σ H ε G → VR X.K ρ H v w → ∀ Q : L2.St → Hp → Prop, (∀ (ρ' : List Addr) (σ' : L2.St) (H' : Hp), Nx ρ H ρ' H' → At X ρ' σ' H' ε' G' → Agree is σ σ' → Q σ' H') → tg v σ H Q
def MtGs (X : Cx) (tg : TGs) (is : List Nat) (ws : List IV) (ε : EV) (G : GH) (ε' : EV) (G' : GH) : Prop := ∀ ρ σ H vs, At X ρ σ H ε G → VRs X.K ρ H vs ws → ∀ Q : L2.St → Hp → Prop, (∀ (ρ' : List Addr) (σ' : L2.St) (H' : Hp), Nx ρ H ρ' H' → At X ρ' σ' H' ε' G' → Agree is σ σ' → Q σ' H') → tg vs σ H Q
def SndG (P : Pg) (call : CallT) (k : Nat) (c : CT) : Prop := ∀ (S : SC) (e : Expr) (X : Cx), Ok P call k S X → okT P c S e = true → ∀ (w : IV) (ε ε' : EV) (G G' : GH), asT call c w ε G = some (ε', G') → MtG X (wG X e) c.ixs w ε G ε' G'
def SndGs (P : Pg) (call : CallT) (k : Nat) (c : CTs) : Prop := ∀ (S : SC) (es : List Expr) (X : Cx), Ok P call k S X → okTs P c S es = true → ∀ (ws : List IV) (ε ε' : EV) (G G' : GH), asTs call c ws ε G = some (ε', G') → ∃ t, PGs X es t ∧ MtGs X t c.ixs ws ε G ε' G' ∧ ws.length = es.length
theorem okTs_each {cs : CTs} {S : SC} {es : List Expr} {env : Env} : okTs P cs S es = true → (assignEach es env).length = es.length ∧ (assignEach es env).findIdx? (·.1) = none ∧ (assignEach es env).map (·.2) = es.map fun e => assign e env := by
  induction es generalizing cs with
  | nil => intro _; exact ⟨rfl, rfl, rfl⟩
  | cons e es ih =>
    intro h
    cases cs with
    | nil => simp only [okTs] at h; exact absurd h (by decide)
    | cons c r =>
      simp only [okTs, Bool.and_eq_true] at h
      obtain ⟨h1, h2, h3⟩ := ih h.2
      have e0 : assignEach (e :: es) env = (false, assign e env) :: assignEach es env := by
        have := h.1.1
        cases e <;> first | rfl | cases this
      rw [e0]
      refine ⟨by rw [List.length_cons, List.length_cons, h1], ?_, by rw [List.map_cons, List.map_cons, h3]⟩
      rw [List.findIdx?_cons, h2]
      rfl
theorem sndG_nm (i : Nat) : SndG P call k (.nm i) := by
  intro S e X O ok w ε ε' G G' ev
  simp only [asT, Option.some.injEq, Prod.mk.injEq] at ev
  obtain ⟨rfl, rfl⟩ := ev
  simp only [okT] at ok
  split at ok
  · rename_i x p
    unfold SC.st at ok
    simp only [Bool.and_eq_true, Bool.or_eq_true, decide_eq_true_eq] at ok
    obtain ⟨h1, h2⟩ := ok
    have hN : X.N[i]? = some x := by rw [O.N]; exact h1
    have hl : Loc X.env.scope x := by
      rcases h2 with h2 | h2
      · exact .inl (O.is h2)
      · exact .inr (O.is h2.2)
    have hf : X.fn x = true ∨ X.env.scope.names.lookup x = some .local := by
      rcases h2 with h2 | h2
      · exact .inr (O.is h2)
      · exact .inl (O.fn h2.1 x)
    intro ρ σ H v a r Q q
    refine wG_of (pg_name O.nd hN hl hf) ?_
    have li : i < σ.length := by rw [a.l]; exact (List.getElem?_eq_some_iff.mp hN).1
    exact q ρ _ H (Nx.refl _ _) ⟨a.e.set li r, a.h, by rw [List.length_set]; exact a.l⟩ ⟨List.length_set .., fun j hj => List.getElem?_set_ne fun e => hj (by rw [← e]; exact List.mem_singleton.mpr rfl)⟩
  · cases ok
theorem sndGs_nil : SndGs P call k .nil := by
  intro S es X O ok ws ε ε' G G' ev
  cases es with
  | cons _ _ => simp only [okTs] at ok; exact absurd ok (by decide)
  | nil =>
    cases ws with
    | cons _ _ => simp only [asTs] at ev; cases ev
    | nil =>
      simp only [asTs, Option.some.injEq, Prod.mk.injEq] at ev
      obtain ⟨rfl, rfl⟩ := ev
      refine ⟨_, pgs_nil, fun ρ σ H vs a r Q q => ?_, rfl⟩
      cases r
      exact ⟨rfl, q ρ σ H (Nx.refl _ _) a .refl⟩
theorem sndGs_cons {t : CT} {r : CTs} (ht : SndG P call k t) (hr : SndGs P call k r) : SndGs P call k (.cons t r) := by
  intro S es X O ok ws ε ε' G G' ev
  have each := okTs_each (env := X.env) ok
  cases es with
  | nil => simp only [okTs] at ok; exact absurd ok (by decide)
  | cons e es =>
    simp only [okTs, Bool.and_eq_true] at ok
    obtain ⟨⟨h0, h1⟩, h2⟩ := ok
    cases ws with
    | nil => simp only [asTs] at ev; cases ev
    | cons w us =>
      simp only [asTs] at ev
      split at ev
      · cases ev
      · rename_i ε1 G1 e1
        obtain ⟨t2, p2, m2, l2⟩ := hr S _ X O h2 _ _ _ _ _ ev
        refine ⟨_, pgs_cons pg_w p2 ?_, ?_, by rw [List.length_cons, List.length_cons, l2]⟩
        · rw [each.2.2, (okTs_each (env := X.env) h2).2.2]
          rfl
        · intro ρ σ H vs a rv Q q
          cases rv with
          | cons v vr =>
            refine ⟨_, _, rfl, ?_⟩
            refine ht S _ X O h1 _ _ _ _ _ e1 ρ σ H _ a v _ fun ρ1 σ1 H1 n1 a1 g1 => ?_
            exact m2 ρ1 σ1 H1 _ a1 (vr.nx n1) Q fun ρ2 σ2 H2 n2 a2 g2 => q ρ2 σ2 H2 (n1.trans n2) a2 (g1.trans g2)
theorem sndG_tup {ts : CTs} (h : SndGs P call k ts) : SndG P call k (.tup ts) := by
  intro S e X O ok w ε ε' G G' ev
  simp only [okT] at ok
  split at ok
  · simp only [asT] at ev
    split at ev
    · cases ev
    · rename_i ws hw
      obtain ⟨t, p, m, l⟩ := h S _ X O ok _ _ _ _ _ ev
      have each := okTs_each (env := X.env) ok
      intro ρ σ H v a r Q q
      cases r with
      | tup hs rs =>
        simp only [itsOf, Option.some.injEq] at hw
        subst hw
        exact wG_of (pg_tup O.calm p each.1 each.2.1) ⟨_, _, rfl, hs, by rw [rs.length, l], m ρ σ H _ a rs Q q⟩
      | ref hn =>
        simp only [itsOf] at hw
        split at hw
        · rename_i mo hmo
          simp only [Option.some.injEq] at hw
          subst hw
          obtain ⟨vs, k1, k2⟩ := (a.h.at_ _ _ _ hn hmo).sq
          exact wG_of (pg_unl O.calm p each.1 each.2.1) ⟨_, _, rfl, k1, by rw [k2.length, l], m ρ σ H _ a k2 Q q⟩
        · cases hw
      | _ => simp only [itsOf] at hw; cases hw
  · cases ok
theorem sndG_sub {o i : CE} (ho : Snd P call k o) (hi : Snd P call k i) : SndG P call k (.sub o i) := by
  intro S e X O ok w ε ε' G G' ev
  simp only [okT] at ok
  split at ok
  · rename_i o' i' pos
    simp only [Bool.and_eq_true] at ok
    obtain ⟨⟨h0, h1⟩, h2⟩ := ok
    simp only [asT] at ev
    split at ev
    · rename_i n G1 e1
      split at ev
      · rename_i kk G2 e2
        split at ev
        · rename_i xs hx
          split at ev
          · rename_i j hj
            cases ev
            intro ρ σ H v a r Q q
            have tree : ∀ v, assign (.Subscript o' i' pos) X.env v = (do
                let ov ← holding [v] (eval o' X.env)
                let iv ← holding [v, ov] (eval i' X.env)
                standAt pos
                holding [v, ov, iv] (setItem ov iv v)
                release [v, ov, iv] []) := by
              intro v
              cases i' <;> first | rfl | cases h0
            refine wG_of (pg_sub pe_w pe_w set_list tree) ?_
            refine ho.e S _ X O h1 _ _ _ _ e1 ρ σ H a _ fun u ρ1 H1 n1 r1 v1 => ?_
            have a1 := a.nx n1 r1
            refine hi.e S _ X O h2 _ _ _ _ e2 ρ1 σ H1 a1 _ fun y ρ2 H2 n2 r2 v2 => ?_
            cases v1 with
            | ref hn =>
              rename_i l
              cases v2
              have hn2 := n2.pre _ _ hn
              obtain ⟨vs, z1, z2⟩ := mr_lst (r2.at_ _ _ _ hn2 hx)
              refine ⟨l, vs, kk, j, rfl, rfl, z1, by rw [z2.length]; exact hj, ?_⟩
              have nw : Nx ρ2 H2 ρ2 (upd H2 l (.lst (vs.set j v))) := Nx.write (List.mem_of_getElem? hn2) z1
              have r3 := r2.write hn2 hx z1 (z2.set ((r.nx n1).nx n2) j)
              exact q ρ2 σ _ ((n1.trans n2).trans nw) (a.nx ((n1.trans n2).trans nw) r3) .refl
          · cases ev
        · cases ev
      · cases ev
    · cases ev
  · cases ok
end
end Lk
set_option maxHeartbeats 2000000
namespace Lk
open PySem PySem.Spec PyProof.Rows L2
/-! ### what is walked -/
structure SrcOk (K : PySem.W.Frag) (J : It) (src : Src) (ρ0 : List Addr) (H0 : Hp) : Prop where
  go : ∀ (i : Nat) (ρ : List Addr) (H : Hp) (G : GH) (w : IV), Nx ρ0 H0 ρ H → HR K ρ H G → src.at G i = some w → J.go i H ∧ ∀ x H', J.yld i H x H' → Nx ρ H ρ H' ∧ HR K ρ H' G ∧ VR K ρ H' x w
  stop : ∀ (i : Nat) (ρ : List Addr) (H : Hp) (G : GH), Nx ρ0 H0 ρ H → HR K ρ H G → src.stop G i = true → J.stop i H
section
variable {K : PySem.W.Frag} {ρ0 : List Addr} {H0 : Hp}
theorem VRs.none_of {ρ : List Addr} {H : Hp} {vs : List V} {ws : List IV} {i : Nat} (r : VRs K ρ H vs ws) (h : ws.length ≤ i) : vs.length ≤ i := by rw [r.length]; exact h
theorem src_tup {a : Addr} {xs : List V} {ws : List IV} (h : SqT K H0 a xs) (r : VRs K ρ0 H0 xs ws) : SrcOk K (Itt K a) (.tup ws) ρ0 H0 := by
  refine ⟨fun i ρ H G w n R e => ?_, fun i ρ H G n R e => ?_⟩
  · obtain ⟨x, h1, h2⟩ := (r.nx n).get e
    refine ⟨⟨xs, x, n.sqT h, h1⟩, fun y H' hy => ?_⟩
    obtain ⟨rfl, hy⟩ := hy
    have := hy xs (n.sqT h)
    rw [h1] at this
    cases this
    exact ⟨Nx.refl _ _, R, h2⟩
  · exact ⟨xs, n.sqT h, (r.nx n).none_of (of_decide_eq_true e)⟩
theorem src_lst {a : Addr} {n : Nat} (h : ρ0[n]? = some a) : SrcOk K (Itl K a) (.lst n) ρ0 H0 := by
  refine ⟨fun i ρ H G w nx R e => ?_, fun i ρ H G nx R e => ?_⟩
  · simp only [Src.at] at e
    split at e
    · rename_i m hm
      obtain ⟨vs, h1, h2⟩ := (R.at_ _ _ _ (nx.pre _ _ h) hm).sq
      obtain ⟨x, k1, k2⟩ := h2.get e
      refine ⟨⟨vs, x, h1, k1⟩, fun y H' hy => ?_⟩
      obtain ⟨rfl, hy⟩ := hy
      have := hy vs h1
      rw [k1] at this
      cases this
      exact ⟨Nx.refl _ _, R, k2⟩
    · cases e
  · simp only [Src.stop] at e
    split at e
    · rename_i m hm
      obtain ⟨vs, h1, h2⟩ := (R.at_ _ _ _ (nx.pre _ _ h) hm).sq
      exact ⟨vs, h1, h2.none_of (of_decide_eq_true e)⟩
    · cases e
theorem src_rng1 {lo : Int} {n : Nat} : SrcOk K (Itr lo n) (.rng lo 1 n) ρ0 H0 := by
  refine ⟨fun i ρ H G w nx R e => ?_, fun i ρ H G nx R e => of_decide_eq_true (p := n ≤ i) e⟩
  simp only [Src.at] at e
  split at e
  · rename_i l
    simp only [Option.some.injEq] at e
    subst e
    refine ⟨l, fun y H' hy => ?_⟩
    obtain ⟨rfl, rfl⟩ := hy
    exact ⟨Nx.refl _ _, R, by rw [Int.mul_one]; exact .int _⟩
  · cases e
theorem src_rngC {lo c : Int} {n : Nat} : SrcOk K (Itc lo c n) (.rng lo c n) ρ0 H0 := by
  refine ⟨fun i ρ H G w nx R e => ?_, fun i ρ H G nx R e => of_decide_eq_true (p := n ≤ i) e⟩
  simp only [Src.at] at e
  split at e
  · rename_i l
    simp only [Option.some.injEq] at e
    subst e
    refine ⟨l, fun y H' hy => ?_⟩
    obtain ⟨rfl, rfl⟩ := hy
    exact ⟨Nx.refl _ _, R, .int _⟩
  · cases e
theorem src_enm {a : Addr} {n : Nat} (h : ρ0[n]? = some a) : SrcOk K (Ite K a) (.enm n) ρ0 H0 := by
  refine ⟨fun i ρ H G w nx R e => ?_, fun i ρ H G nx R e => ?_⟩
  · simp only [Src.at] at e
    split at e
    · rename_i m hm
      split at e
      · rename_i u hu
        simp only [Option.some.injEq] at e
        subst e
        obtain ⟨vs, h1, h2⟩ := (R.at_ _ _ _ (nx.pre _ _ h) hm).sq
        obtain ⟨x, k1, k2⟩ := h2.get hu
        refine ⟨⟨vs, x, h1, k1⟩, fun y H' hy => ?_⟩
        obtain ⟨T, z, rfl, hT, rfl, hz⟩ := hy
        have := hz vs h1
        rw [k1] at this
        cases this
        exact ⟨Nx.laid hT, R.laid hT, .tup (.inl (.inl upd_same)) (.cons (.int _) (.cons (k2.nx (Nx.laid hT)) .nil))⟩
      · cases e
    · cases e
  · simp only [Src.stop] at e
    split at e
    · rename_i m hm
      obtain ⟨vs, h1, h2⟩ := (R.at_ _ _ _ (nx.pre _ _ h) hm).sq
      exact ⟨vs, h1, h2.none_of (of_decide_eq_true e)⟩
    · cases e
end
def MtI (X : Cx) (wi : TI) (ε : EV) (G : GH) (src : Src) (G' : GH) : Prop := ∀ ρ σ H, At X ρ σ H ε G → ∀ R : It → Hp → Prop, (∀ (J : It) (ρ' : List Addr) (H' : Hp), Nx ρ H ρ' H' → HR X.K ρ' H' G' → SrcOk X.K J src ρ' H' → R J H') → wi σ H R
def SndI (P : Pg) (call : CallT) (k : Nat) (c : CI) : Prop := ∀ (S : SC) (tg e : Expr) (X : Cx), Ok P call k S X → okI P c S tg e = true → ∀ (ε : EV) (G G' : GH) (src : Src), evI call c ε G = some (src, G') → ∃ wi, PI X tg e wi ∧ MtI X wi ε G src G' ∧ ∀ x, foldedSetIterable e X.env x = pure x
section
variable {P : Pg} {call : CallT} {k : Nat}
theorem sndI_ex {c : CE} (hc : Snd P call k c) : SndI P call k (.ex c) := by
  intro S tg e X O ok ε G G' src ev
  simp only [okI, Bool.and_eq_true] at ok
  simp only [evI] at ev
  split at ev
  · rename_i ws G1 e1
    cases ev
    refine ⟨_, pi_tup pe_w, fun ρ σ H a R q => ?_, plain_folded ok.1⟩
    refine hc.e S _ X O ok.2 _ _ _ _ e1 ρ σ H a _ fun u ρ1 H1 n1 r1 v1 => ?_
    cases v1 with
    | tup h r => exact ⟨_, rfl, ⟨_, h⟩, q _ ρ1 H1 n1 r1 (src_tup h r)⟩
  · rename_i n G1 e1
    cases ev
    refine ⟨_, pi_list pe_w, fun ρ σ H a R q => ?_, plain_folded ok.1⟩
    refine hc.e S _ X O ok.2 _ _ _ _ e1 ρ σ H a _ fun u ρ1 H1 n1 r1 v1 => ?_
    cases v1 with
    | ref h =>
      have l : n < G'.length := by rw [← r1.len]; exact (List.getElem?_eq_some_iff.mp h).1
      obtain ⟨vs, z, _⟩ := (r1.at_ _ _ _ h (List.getElem?_eq_getElem l)).sq
      exact ⟨_, rfl, ⟨vs, z⟩, q _ ρ1 H1 n1 r1 (src_lst h)⟩
  · cases ev
theorem sndI_enm {c : CE} (hc : Snd P call k c) : SndI P call k (.enm c) := by
  intro S tg e X O ok ε G G' src ev
  simp only [okI] at ok
  split at ok
  · split at ok
    · rename_i y p e' pos
      simp only [Bool.and_eq_true, decide_eq_true_eq] at ok
      obtain ⟨⟨⟨⟨rfl, h1⟩, h2⟩, h3⟩, h4⟩ := ok
      obtain ⟨g1, g2, g3⟩ := O.gl h1
      simp only [evI] at ev
      split at ev
      · rename_i n G1 e1
        cases ev
        refine ⟨_, pi_enum g1 (O.pf.bn _ h2) pa_w (notStar_each (plain_notStar h3)), fun ρ σ H a R q => ?_, fun _ => rfl⟩
        have argm : MtA X (wA X [e']) ε G [.ref n] G' := mta_w (pa_cons pe_w pa_nil (notStar_each (plain_notStar h3))) (mta_cons (hc.e S _ X O h4 _ _ _ _ e1) mta_nil)
        refine argm ρ σ H a _ fun us ρ1 H1 n1 r1 v1 => ?_
        cases v1 with
        | cons vy vn =>
          cases vn
          cases vy with
          | ref h =>
            have l : n < G'.length := by rw [← r1.len]; exact (List.getElem?_eq_some_iff.mp h).1
            obtain ⟨vs, z, _⟩ := (r1.at_ _ _ _ h (List.getElem?_eq_getElem l)).sq
            exact ⟨_, vs, rfl, z, q _ ρ1 H1 n1 r1 (src_enm h)⟩
      · cases ev
    · cases ok
  · cases ok
theorem evL_len {S : SC} : ∀ (es : List Expr) (c : CL) (ε : EV) (G G' : GH) (vs : List IV), okL P c S es = true → evL call c ε G = some (vs, G') → vs.length = es.length
  | [], c, ε, G, G', vs, ok, ev => by
    cases c with
    | cons _ _ => simp only [okL] at ok; exact absurd ok (by decide)
    | nil =>
      simp only [evL, Option.some.injEq, Prod.mk.injEq] at ev
      rw [← ev.1]; rfl
  | e :: es, c, ε, G, G', vs, ok, ev => by
    cases c with
    | nil => simp only [okL] at ok; exact absurd ok (by decide)
    | cons c r =>
      simp only [okL, Bool.and_eq_true] at ok
      simp only [evL] at ev
      split at ev
      · cases ev
      · split at ev
        · cases ev
        · rename_i q
          simp only [Option.some.injEq, Prod.mk.injEq] at ev
          rw [← ev.1, List.length_cons, List.length_cons, evL_len es r _ _ _ _ ok.2 q]
theorem sndI_rng {es : CL} (h : SndL P call k es) : SndI P call k (.rng es) := by
  intro S tg e X O ok ε G G' src ev
  simp only [okI] at ok
  split at ok
  · rename_i y p es' pos
    simp only [Bool.and_eq_true, decide_eq_true_eq] at ok
    obtain ⟨⟨⟨rfl, h1⟩, h2⟩, h3⟩ := ok
    obtain ⟨g1, g2, g3⟩ := O.gl h1
    have mr := O.pf.bn _ h2
    simp only [evI] at ev
    split at ev
    · cases ev
    · rename_i xs G1 e1
      split at ev
      · rename_i lo st n hr
        cases ev
        have argm := h S _ X O h3 _ _ _ _ e1
        have len := evL_len _ _ _ _ _ _ h3 e1
        -- how many arguments
        match es', xs, len, hr, argm, h3 with
        | [], [], _, hr, _, _ => simp only [rngOf] at hr; cases hr
        | [a1], [w1], _, hr, argm, h3 =>
          have s1 : notStar a1 = true := by
            cases es with
            | nil => simp only [okL] at h3; exact absurd h3 (by decide)
            | cons c cs => simp only [okL, Bool.and_eq_true] at h3; exact h3.1.1
          refine ⟨_, pi_range1 g1 mr pa_w (by rw [notStar_each s1]; rfl), fun ρ σ H a R q => ?_, fun _ => rfl⟩
          refine argm ρ σ H a _ fun us ρ1 H1 n1 r1 v1 => ?_
          cases v1 with
          | cons vy vn =>
            cases vn
            cases vy with
            | int j =>
              simp only [rngOf] at hr
              split at hr
              · rename_i hb
                simp only [Bool.and_eq_true, decide_eq_true_eq] at hb
                simp only [Option.some.injEq, Prod.mk.injEq] at hr
                obtain ⟨rfl, rfl, rfl⟩ := hr
                exact ⟨j, rfl, hb.1, hb.2, q _ ρ1 H1 n1 r1 src_rng1⟩
              · cases hr
            | _ => simp only [rngOf] at hr; cases hr
        | [a1, a2], [w1, w2], _, hr, argm, h3 =>
          have s12 : notStar a1 = true ∧ notStar a2 = true := by
            cases es with
            | nil => simp only [okL] at h3; exact absurd h3 (by decide)
            | cons c cs =>
              cases cs with
              | nil => simp only [okL, Bool.and_eq_true] at h3; exact absurd h3.2 (by decide)
              | cons c2 cs2 => simp only [okL, Bool.and_eq_true] at h3; exact ⟨h3.1.1, h3.2.1.1⟩
          have e2 : starEach [a1, a2] X.env = [(false, eval a1 X.env), (false, eval a2 X.env)] := by rw [notStar_each s12.1, notStar_each s12.2]; rfl
          have e3 : starEach [a2] X.env = [(false, eval a2 X.env)] := by rw [notStar_each s12.2]; rfl
          refine ⟨_, pi_range2 g1 mr pa_w e2 e3, fun ρ σ H a R q => ?_, fun _ => rfl⟩
          refine argm ρ σ H a _ fun us ρ1 H1 n1 r1 v1 => ?_
          cases v1 with
          | cons vy vn =>
            cases vn with
            | cons vz vm =>
              cases vm
              cases vy with
              | int i =>
                cases vz with
                | int j =>
                  simp only [rngOf] at hr
                  split at hr
                  · rename_i hb
                    simp only [Bool.and_eq_true, decide_eq_true_eq] at hb
                    simp only [Option.some.injEq, Prod.mk.injEq] at hr
                    obtain ⟨rfl, rfl, rfl⟩ := hr
                    exact ⟨i, j, rfl, ⟨hb.1.1.1, hb.1.1.2, hb.1.2, hb.2⟩, q _ ρ1 H1 n1 r1 src_rng1⟩
                  · cases hr
                | _ => simp only [rngOf] at hr; cases hr
              | _ => simp only [rngOf] at hr; cases hr
        | [a1, a2, a3], [w1, w2, w3], _, hr, argm, h3 =>
          have s13 : notStar a1 = true ∧ notStar a2 = true ∧ notStar a3 = true := by
            cases es with
            | nil => simp only [okL] at h3; exact absurd h3 (by decide)
            | cons c cs =>
              cases cs with
              | nil => simp only [okL, Bool.and_eq_true] at h3; exact absurd h3.2 (by decide)
              | cons c2 cs2 =>
                cases cs2 with
                | nil => simp only [okL, Bool.and_eq_true] at h3; exact absurd h3.2.2 (by decide)
                | cons c3 cs3 => simp only [okL, Bool.and_eq_true] at h3; exact ⟨h3.1.1, h3.2.1.1, h3.2.2.1.1⟩
          have e2 : starEach [a1, a2, a3] X.env = (false, eval a1 X.env) :: starEach [a2, a3] X.env := notStar_each s13.1
          have e3 : (backTo pos (starEach [a2, a3] X.env)).any (·.1) = false := by rw [notStar_each s13.2.1, notStar_each s13.2.2]; rfl
          refine ⟨_, pi_range3 g1 mr pa_w e2 e3, fun ρ σ H a R q => ?_, fun _ => rfl⟩
          refine argm ρ σ H a _ fun us ρ1 H1 n1 r1 v1 => ?_
          cases v1 with
          | cons vy vn =>
            cases vn with
            | cons vz vm =>
              cases vm with
              | cons vw vk =>
                cases vk
                cases vy with
                | int i =>
                  cases vz with
                  | int j =>
                    cases vw with
                    | int c =>
                      simp only [rngOf] at hr
                      split at hr
                      · rename_i hb
                        simp only [Bool.and_eq_true, decide_eq_true_eq] at hb
                        simp only [Option.some.injEq, Prod.mk.injEq] at hr
                        obtain ⟨rfl, rfl, rfl⟩ := hr
                        obtain ⟨⟨⟨⟨rfl, b1⟩, b2⟩, b3⟩, b4⟩ := hb
                        exact ⟨i, j, -1, _, rfl, RgC.neg (by omega) (by omega) (by omega) (by omega), q _ ρ1 H1 n1 r1 src_rngC⟩
                      · cases hr
                    | _ => simp only [rngOf] at hr; cases hr
                  | _ => simp only [rngOf] at hr; cases hr
                | _ => simp only [rngOf] at hr; cases hr
        | _ :: _ :: _ :: _ :: _, w1 :: w2 :: w3 :: _ :: _, _, hr, _, _ => cases w1 <;> cases w2 <;> cases w3 <;> (simp only [rngOf] at hr; cases hr)
      · cases ev
  · cases ok
end
end Lk
set_option maxHeartbeats 2000000
namespace Lk
open PySem PySem.Spec PyProof.Rows L2
section
variable {P : Pg} {call : CallT} {k : Nat}
/-! ### comprehensions -/
theorem ok_blk {S : SC} {X : Cx} (O : Ok P call k S X) {scope : Scope} (s : Shared) (H : Hp) (C : Addr) (cl : List (Str × Addr)) (fp : List Addr) : Ok P call k ⟨S.N, relS scope S.sc, false⟩ (X.blk s H scope (compEnvC scope cl C X.env) fp) := by
  refine ⟨O.N, ?_, O.nd, O.calm, O.room, O.gd, rfl, (fun z => Bool.noConfusion z), O.pf, O.call⟩
  show relS scope X.env.scope = relS scope S.sc
  rw [O.sc]
def wQ (X : Cx) (ifs : List Expr) : TT := match ifs with
  | [] => tYes
  | c :: _ => wT X c
def SndQ (P : Pg) (call : CallT) (k : Nat) (c : CQ) : Prop := ∀ (S : SC) (es : List Expr) (X : Cx), Ok P call k S X → okQ P c S es = true → PTs X es (wQ X es) ∧ ∀ (ε : EV) (G G' : GH) (b : Bool), evQ call c ε G = some (b, G') → MtT X (wQ X es) ε G b G'
theorem sndQ_no : SndQ P call k .no := by
  intro S es X O ok
  cases es with
  | cons _ _ => simp only [okQ] at ok; exact absurd ok (by decide)
  | nil =>
    refine ⟨pts_nil, fun ε G G' b ev => ?_⟩
    simp only [evQ, Option.some.injEq, Prod.mk.injEq] at ev
    obtain ⟨rfl, rfl⟩ := ev
    intro ρ σ H a Q q
    exact q ρ H (Nx.refl _ _) a.h
theorem sndQ_ex {c : CE} (hc : Snd P call k c) : SndQ P call k (.ex c) := by
  intro S es X O ok
  match es, ok with
  | [], ok => simp only [okQ] at ok; exact absurd ok (by decide)
  | [e], ok =>
    simp only [okQ, Bool.and_eq_true] at ok
    refine ⟨pts_one pt_w, fun ε G G' b ev => ?_⟩
    simp only [evQ] at ev
    split at ev
    · rename_i e1
      cases ev
      exact hc.t S _ X O ok.1 ok.2 _ _ _ _ e1
    · cases ev
  | _ :: _ :: _, ok => simp only [okQ] at ok; exact absurd ok (by decide)
theorem wipe_get (σ : L2.St) : ∀ (vs : List Nat) (j : Nat), (wipe σ vs)[j]? = if j ∈ vs then (if j < σ.length then some none else none) else σ[j]?
  | [], j => by
    rw [if_neg (by simp)]
    rfl
  | v :: vs, j => by
    show ((wipe σ vs).set v none)[j]? = _
    have ih := wipe_get σ vs j
    by_cases h : v = j
    · subst h
      rw [if_pos (List.mem_cons_self ..)]
      by_cases l : v < σ.length
      · rw [if_pos l, List.getElem?_set_self (by rw [wipe_length]; exact l)]
      · rw [if_neg l]
        exact List.getElem?_eq_none (by rw [List.length_set, wipe_length]; omega)
    · rw [List.getElem?_set_ne h, ih]
      by_cases m : j ∈ vs
      · rw [if_pos m, if_pos (List.mem_cons_of_mem _ m)]
      · rw [if_neg m, if_neg (by simp only [List.mem_cons, not_or]; exact ⟨fun e => h e.symm, m⟩)]
theorem wipe_agree {σ τ : L2.St} {vs is : List Nat} (a : Agree is (wipe σ vs) τ) (h : ∀ j, j ∈ is → j ∈ vs) : wipe τ vs = wipe σ vs := by
  refine List.ext_getElem? fun j => ?_
  have l : τ.length = σ.length := by rw [a.1, wipe_length]
  rw [wipe_get, wipe_get, l]
  by_cases m : j ∈ vs
  · rw [if_pos m, if_pos m]
  · rw [if_neg m, if_neg m, a.2 j fun z => m (h j z), wipe_get, if_neg m]
theorem wipeI_get (ε : EV) : ∀ (vs : List Nat) (j : Nat) (w : IV), (wipeI ε vs)[j]? = some (some w) → ε[j]? = some (some w) ∧ j ∉ vs
  | [], j, w, h => ⟨h, by simp⟩
  | v :: vs, j, w, h => by
    have h' : ((wipeI ε vs).set v none)[j]? = some (some w) := h
    by_cases e : v = j
    · subst e
      by_cases l : v < (wipeI ε vs).length
      · rw [List.getElem?_set_self l] at h'; cases h'
      · rw [List.getElem?_eq_none (by rw [List.length_set]; omega)] at h'; cases h'
    · rw [List.getElem?_set_ne e] at h'
      obtain ⟨h1, h2⟩ := wipeI_get ε vs j w h'
      exact ⟨h1, by simp only [List.mem_cons, not_or]; exact ⟨fun z => e z.symm, h2⟩⟩
theorem At.wipe {X : Cx} {ρ : List Addr} {σ : L2.St} {H : Hp} {ε : EV} {G : GH} (a : At X ρ σ H ε G) (vs : List Nat) : At X ρ (L2.wipe σ vs) H (wipeI ε vs) G := by
  refine ⟨fun i w e => ?_, a.h, by rw [wipe_length]; exact a.l⟩
  obtain ⟨h1, h2⟩ := wipeI_get ε vs i w e
  obtain ⟨v, k1, k2⟩ := a.e i w h1
  exact ⟨v, by rw [wipe_get, if_neg h2]; exact k1, k2⟩
theorem comp_core {own : List (Str × Nat)} {t : CT} {i : CI} {cond : CQ} {elt : CE} (ht : SndG P call k t) (hi : SndI P call k i) (hq : SndQ P call k cond) (he : Snd P call k elt) {S : SC} {X : Cx} (O : Ok P call k S X)
    {elt' tg iter : Expr} {ifs : List Expr} {scope : Scope} {pos : Pos} (ok : okE P (.comp own t i cond elt) S (.ListComp elt' [⟨tg, iter, ifs, 0⟩] scope pos) = true) {ε : EV} {G G' : GH} {v : IV} (ev : evE call (.comp own t i cond elt) ε G = some (v, G')) :
    ∃ (wi : TI) (gC : TG) (tC : TT) (eC : TE), PI X tg iter wi ∧ BlkOk X.N X.env.scope scope own ∧ (∀ (s : Shared) (H0 : Hp) (C : Addr) (cl : List (Str × Addr)) (fp : List Addr), PG (X.blk s H0 scope (compEnvC scope cl C X.env) fp) tg gC) ∧
      (∀ (s : Shared) (H0 : Hp) (C : Addr) (cl : List (Str × Addr)) (fp : List Addr), PTs (X.blk s H0 scope (compEnvC scope cl C X.env) fp) ifs tC) ∧ (∀ (s : Shared) (H0 : Hp) (C : Addr) (cl : List (Str × Addr)) (fp : List Addr), PE (X.blk s H0 scope (compEnvC scope cl C X.env) fp) elt' eC) ∧
      (∀ x, foldedSetIterable iter X.env x = pure x) ∧ Mt X (tLc wi gC tC eC (own.map (·.2))) ε G v G' := by
    simp only [okE, Bool.and_eq_true, List.all_eq_true, decide_eq_true_eq] at ok
    obtain ⟨⟨⟨⟨⟨b0, b1⟩, b2⟩, b3⟩, b4⟩, b5⟩ := ok
    simp only [evE] at ev
    split at ev
    · cases ev
    · rename_i src G1 e1
      split at ev
      · cases ev
      · rename_i G9 e9
        cases ev
        obtain ⟨wi, pi, mi, fs⟩ := hi S tg iter X O b2 _ _ _ _ e1
        let vs := own.map (·.2)
        let gC : TG := fun v σ H Q => ∀ (s : Shared) (H0 : Hp) (C : Addr) (cl : List (Str × Addr)) (fp : List Addr), wG (X.blk s H0 scope (compEnvC scope cl C X.env) fp) tg v σ H Q
        let tC : TT := fun σ H Q => ∀ (s : Shared) (H0 : Hp) (C : Addr) (cl : List (Str × Addr)) (fp : List Addr), wQ (X.blk s H0 scope (compEnvC scope cl C X.env) fp) ifs σ H Q
        let eC : TE := fun σ H Q => ∀ (s : Shared) (H0 : Hp) (C : Addr) (cl : List (Str × Addr)) (fp : List Addr), wE (X.blk s H0 scope (compEnvC scope cl C X.env) fp) elt' σ H Q
        have pg : ∀ (s : Shared) (H0 : Hp) (C : Addr) (cl : List (Str × Addr)) (fp : List Addr), PG (X.blk s H0 scope (compEnvC scope cl C X.env) fp) tg gC := fun s H0 C cl fp => ⟨fun pins s1 σ H v u Q I r h => h s H0 C cl fp pins s1 u I r⟩
        have pt : ∀ (s : Shared) (H0 : Hp) (C : Addr) (cl : List (Str × Addr)) (fp : List Addr), PTs (X.blk s H0 scope (compEnvC scope cl C X.env) fp) ifs tC := fun s H0 C cl fp =>
          ⟨fun pins s1 σ H Q I h => (hq _ ifs _ (ok_blk O s H0 C cl fp) b4).1.run pins s1 σ H Q I (h s H0 C cl fp)⟩
        have pe : ∀ (s : Shared) (H0 : Hp) (C : Addr) (cl : List (Str × Addr)) (fp : List Addr), PE (X.blk s H0 scope (compEnvC scope cl C X.env) fp) elt' eC := fun s H0 C cl fp => ⟨fun pins s1 σ H Q I h => h s H0 C cl fp pins s1 I⟩
        have nb : blkC X.N X.env.scope scope own = true := by rw [O.N, O.sc]; exact b0
        refine ⟨wi, gC, tC, eC, pi, blkOk_by nb, pg, pt, pe, fs, ?_⟩
        intro ρ σ H a Q q
        refine mi ρ σ H a _ fun J ρ1 H1 n1 r1 so D hD => ?_
        have nD : Nx ρ1 H1 (ρ1 ++ [D]) (upd H1 D (.lst [])) := Nx.grow hD
        have rD : HR X.K (ρ1 ++ [D]) (upd H1 D (.lst [])) (G1 ++ [.lst []]) := r1.grow hD .nil
        have dAt : (ρ1 ++ [D])[G1.length]? = some D := by
          rw [List.getElem?_append_right (by rw [r1.len]; exact Nat.le_refl _), r1.len, Nat.sub_self]; rfl
        refine ⟨fun i m H2 => ∃ ρ2 G2, Nx (ρ1 ++ [D]) (upd H1 D (.lst [])) ρ2 H2 ∧ HR X.K ρ2 H2 G2 ∧ compF src G1.length _ m i G2 = some G', ⟨src.len G1, ρ1 ++ [D], _, Nx.refl _ _, rD, e9⟩, ?_⟩
        rintro i m H2 ⟨ρ2, G2, n2, r2, e2⟩
        have dAt2 : ρ2[G1.length]? = some D := n2.pre _ _ dAt
        cases m with
        | zero =>
          simp only [compF] at e2
          split at e2
          · rename_i st
            cases e2
            exact .inl ⟨so.stop i ρ2 H2 _ (nD.trans n2) r2 st, q _ ρ2 H2 (n1.trans (nD.trans n2)) r2 (.ref dAt2)⟩
          · cases e2
        | succ m =>
          simp only [compF] at e2
          split at e2
          · cases e2
          · rename_i w ew
            obtain ⟨go, yl⟩ := so.go i ρ2 H2 G2 w (nD.trans n2) r2 ew
            refine .inr ⟨go, fun H' => ∃ ρ3 G3, Nx (ρ1 ++ [D]) (upd H1 D (.lst [])) ρ3 H' ∧ HR X.K ρ3 H' G3 ∧ compF src G1.length _ m (i + 1) G3 = some G', fun H' z => ⟨m, Nat.lt_succ_self _, z⟩, fun x H' hy => ?_⟩
            obtain ⟨nx3, r3, vx⟩ := yl x H' hy
            have a3 : At X ρ2 (wipe σ vs) H' (wipeI ε vs) G2 := (a.nx ((n1.trans (nD.trans n2)).trans nx3) r3).wipe vs
            -- the target's step
            split at e2
            · cases e2
            · rename_i Gs es
              split at es
              · cases es
              · rename_i ε3 G3 e3
                intro s H0 C cl fp
                have OB := ok_blk (scope := scope) O s H0 C cl fp
                refine ht _ tg _ OB b3 _ _ _ _ _ e3 ρ2 (wipe σ vs) H' x ⟨a3.e, a3.h, a3.l⟩ vx _ fun ρ4 σ4 H4 n4 a4 g4 => ⟨wipe_agree g4 (fun j hj => b1 j hj), ?_⟩
                intro s H0 C cl fp
                have OB := ok_blk (scope := scope) O s H0 C cl fp
                split at es
                · cases es
                · rename_i G4 e4
                  cases es
                  refine (hq _ ifs _ OB b4).2 _ _ _ _ e4 ρ4 σ4 H4 ⟨a4.e, a4.h, a4.l⟩ _ fun ρ5 H5 n5 r5 => ?_
                  rw [if_neg Bool.false_ne_true]
                  exact ⟨ρ5, _, ((n2.trans nx3).trans n4).trans n5, r5, e2⟩
                · rename_i G4 e4
                  split at es <;> cases es
            · rename_i yv Gs es
              split at es
              · cases es
              · rename_i ε3 G3 e3
                intro s H0 C cl fp
                have OB := ok_blk (scope := scope) O s H0 C cl fp
                refine ht _ tg _ OB b3 _ _ _ _ _ e3 ρ2 (wipe σ vs) H' x ⟨a3.e, a3.h, a3.l⟩ vx _ fun ρ4 σ4 H4 n4 a4 g4 => ⟨wipe_agree g4 (fun j hj => b1 j hj), ?_⟩
                intro s H0 C cl fp
                have OB := ok_blk (scope := scope) O s H0 C cl fp
                split at es
                · cases es
                · cases es
                · rename_i G4 e4
                  split at es
                  · cases es
                  · rename_i y5 G5 e5
                    cases es
                    refine (hq _ ifs _ OB b4).2 _ _ _ _ e4 ρ4 σ4 H4 ⟨a4.e, a4.h, a4.l⟩ _ fun ρ5 H5 n5 r5 => ?_
                    rw [if_pos rfl]
                    intro s H0 C cl fp
                    have OB := ok_blk (scope := scope) O s H0 C cl fp
                    have a5 := a4.nx n5 r5
                    refine he.e _ elt' _ OB b5 _ _ _ _ e5 ρ5 σ4 H5 ⟨a5.e, a5.h, a5.l⟩ _ fun y ρ6 H6 n6 r6 v6 => ?_
                    have n26 := (((n2.trans nx3).trans n4).trans n5).trans n6
                    split at e2
                    · rename_i acc hacc
                      split at e2
                      · rename_i hl
                        have d6 : ρ6[G1.length]? = some D := n26.pre _ _ dAt
                        obtain ⟨us, z1, z2⟩ := mr_lst (r6.at_ _ _ _ d6 hacc)
                        have nw : Nx ρ6 H6 ρ6 (upd H6 D (.lst (us ++ [y]))) := Nx.write (List.mem_of_getElem? d6) z1
                        exact ⟨us, z1, by rw [z2.length]; exact lim_lt hl, ρ6, _, n26.trans nw, r6.write d6 hacc z1 (z2.app (.cons v6 .nil)), e2⟩
                      · cases e2
                    · cases e2
theorem snd_comp {own : List (Str × Nat)} {t : CT} {i : CI} {cond : CQ} {elt : CE} (ht : SndG P call k t) (hi : SndI P call k i) (hq : SndQ P call k cond) (he : Snd P call k elt) : Snd P call k (.comp own t i cond elt) := by
  refine snd_val ?_ (fun t _ => by simp only [tst] at t; exact absurd t (by decide))
  intro S e X O ok ε G G' v ev
  have ok0 := ok
  simp only [okE] at ok
  split at ok
  · obtain ⟨wi, gC, tC, eC, pi, bo, pg, pt, pe, fs, m⟩ := comp_core ht hi hq he O ok0 ev
    exact mt_w (pe_lc O.calm O.nd pi bo pg pt pe fs) m
  · cases ok
end
end Lk
set_option maxHeartbeats 400000
namespace Lk
open PySem PySem.Spec PyProof.Rows L2
/-! ### statements -/
def OutOk (X : Cx) (ρ : List Addr) (H : Hp) (D : Ends) : Out → Prop
  | .nx ε' G' => ∀ (ρ' : List Addr) (σ' : L2.St) (H' : Hp), Nx ρ H ρ' H' → At X ρ' σ' H' ε' G' → D.nx σ' H'
  | .ct ε' G' => ∀ (ρ' : List Addr) (σ' : L2.St) (H' : Hp), Nx ρ H ρ' H' → At X ρ' σ' H' ε' G' → D.ct σ' H'
  | .bk ε' G' => ∀ (ρ' : List Addr) (σ' : L2.St) (H' : Hp), Nx ρ H ρ' H' → At X ρ' σ' H' ε' G' → D.bk σ' H'
  | .rt v G' => ∀ (u : V) (ρ' : List Addr) (H' : Hp), Nx ρ H ρ' H' → HR X.K ρ' H' G' → VR X.K ρ' H' u v → D.rt u H'
theorem OutOk.move {X : Cx} {ρ ρ' : List Addr} {H H' : Hp} {D : Ends} {o : Out} (h : OutOk X ρ H D o) (n : Nx ρ H ρ' H') : OutOk X ρ' H' D o := by
  cases o with
  | nx ε G => exact fun ρ2 σ2 H2 n2 a => h ρ2 σ2 H2 (n.trans n2) a
  | ct ε G => exact fun ρ2 σ2 H2 n2 a => h ρ2 σ2 H2 (n.trans n2) a
  | bk ε G => exact fun ρ2 σ2 H2 n2 a => h ρ2 σ2 H2 (n.trans n2) a
  | rt v G => exact fun u ρ2 H2 n2 r q => h u ρ2 H2 (n.trans n2) r q
def MtS (X : Cx) (ts : TS) (ε : EV) (G : GH) (o : Out) : Prop := ∀ ρ σ H, At X ρ σ H ε G → ∀ D : Ends, OutOk X ρ H D o → ts D σ H
def SndS (P : Pg) (call : CallT) (k : Nat) (c : CS) : Prop := ∀ (S : SC) (st : Stmt) (X : Cx), Ok P call k S X → okS P c S st = true → ∀ (ε : EV) (G : GH) (o : Out), exS call c ε G = some o → MtS X (wS X st) ε G o
def SndB (P : Pg) (call : CallT) (k : Nat) (c : CB) : Prop := ∀ (S : SC) (ss : List Stmt) (X : Cx), Ok P call k S X → okB P c S ss = true → ∀ (ε : EV) (G : GH) (o : Out), exB call c ε G = some o → MtS X (wB X ss) ε G o
theorem kind_fun {X : Cx} {S : SC} {P : Pg} {call : CallT} {k : Nat} (O : Ok P call k S X) (h : S.sc.kind = .function) : X.env.blockKind = .function := by
  unfold Env.blockKind
  rw [O.sc, h]
  rfl
theorem no_comp {e : Expr} {t : Option Expr} {l : Nat} {env : Env} (h : isComp e = false) : swapsWith e t l env = pure false := by
  cases e <;> first | rfl | cases h
theorem no_comp2 {tg e : Expr} {l : Nat} {env : Env} (h : isComp e = false ∨ (match tg with | .Name _ _ => false | _ => true) = true) : swapsWithSole [tg] e l env = pure false := by
  rcases h with h | h
  · exact no_comp h
  · show swapsWith e (some tg) l env = pure false
    cases tg <;> first | (cases h; done) | (cases e <;> rfl)
theorem names_lt {S : SC} {ts : List Expr} {env : Env} {line : Nat} (h : ts.any (fun t => match t with
    | .Name id _ => !(S.is id .local)
    | _ => true) = true) (hsc : env.scope = S.sc) : (ts.filterMap fun
    | .Name id pos => if env.kindOf id == some .local && pos.line == line then some id else none
    | _ => none).length ≠ ts.length := by
  induction ts with
  | nil => simp at h
  | cons t ts ih =>
    have le : ∀ l : List Expr, (l.filterMap fun
      | .Name id pos => if env.kindOf id == some .local && pos.line == line then some id else none
      | _ => none).length ≤ l.length := fun l => List.length_filterMap_le _ _
    rw [List.any_cons, Bool.or_eq_true] at h
    rw [List.filterMap_cons]
    rcases h with h | h
    · have z : (match t with
        | .Name id pos => if env.kindOf id == some .local && pos.line == line then some id else none
        | _ => none) = none := by
        cases t with
        | Name id pos =>
          simp only [Bool.not_eq_true'] at h
          have : ¬ (env.kindOf id = some .local) := by
            unfold Env.kindOf
            rw [hsc]
            exact of_decide_eq_false h
          have b : (env.kindOf id == some .local) = false := beq_eq_false_iff_ne.mpr this
          simp only [b, Bool.false_and]
          rfl
        | _ => rfl
      rw [z]
      have := le ts
      rw [List.length_cons]
      simp only
      omega
    · have := ih h
      have l := le ts
      split
      · rw [List.length_cons]
        omega
      · rw [List.length_cons, List.length_cons]
        omega
theorem no_swap {S : SC} {X : Cx} {P : Pg} {call : CallT} {k : Nat} (O : Ok P call k S X) {tg e : Expr} (h : noSwap S tg e = true) (hl : ∀ es p, tg ≠ .List es p) : swappedStores [tg] e X.env = pure none := by
  unfold noSwap at h
  split at h
  · rename_i ts kk p vs k2 p2
    rw [Bool.or_eq_true] at h
    rcases h with h | h
    case inr =>
      unfold swappedStores
      simp only
      split
      · rfl
      · split
        · rfl
        · split
          · rfl
          · first | rfl | rw [if_pos h]
    have z := names_lt (line := (ts.head?.map (·.pos.line)).getD 0) h O.sc
    unfold swappedStores
    simp only
    have b : ((ts.filterMap fun
      | .Name id pos => if X.env.kindOf id == some .local && pos.line == (ts.head?.map (·.pos.line)).getD 0 then some id else none
      | _ => none).length != ts.length) = true := bne_iff_ne.mpr z
    split
    · rfl
    · split
      · rfl
      · rw [if_pos (by rw [Bool.or_eq_true]; exact .inl b)]
  · rename_i hno
    unfold swappedStores
    cases tg with
    | List es p => exact absurd rfl (hl es p)
    | Tuple ts kk p =>
      cases e with
      | Tuple vs k2 p2 => exact (hno ts kk p vs k2 p2 rfl rfl).elim
      | _ => rfl
    | _ => cases e <;> rfl
def isStar : Expr → Bool := fun
  | .Starred .. => true
  | _ => false
theorem starOf {e : Expr} (h : notStar e = true) : isStar e = false := by
  cases e <;> first | rfl | cases h
theorem nostars : ∀ {l : List Expr}, l.all notStar = true → l.any isStar = false
  | [], _ => rfl
  | e :: l, h => by
    rw [List.all_cons, Bool.and_eq_true] at h
    rw [List.any_cons, Bool.or_eq_false_iff]
    exact ⟨starOf h.1, nostars h.2⟩
theorem name_in {env : Env} {x : Str} {p : Pos} {l : Nat} (hx : env.scope.names.lookup x = some .local) (hl : p.line = l) : (if env.kindOf x == some .local && p.line == l then some x else none) = some x := by
  have kx : (env.kindOf x == some .local) = true := by unfold Env.kindOf; rw [hx]; rfl
  rw [kx, hl, beq_self_eq_true]
  rfl
theorem swap_two {env : Env} {x y : Str} {px py pt pt2 : Pos} {kt k2 : Nat} {a b : Expr} (hk : env.blockKind = .function) (hx : env.scope.names.lookup x = some .local) (hy : env.scope.names.lookup y = some .local) (ne : x ≠ y) (hl : (px.line == py.line) = true)
    (ha : notStar a = true) (hb : notStar b = true) (hc : ([a, b].all (constantsAlone 8)) = false) (hf : ([a, b].all (foldedForSure 8)) = false) :
    swappedStores [.Tuple [.Name x px, .Name y py] kt pt] (.Tuple [a, b] k2 pt2) env = pure (some [x, y]) := by
  have e1 : py.line = px.line := (beq_iff_eq.mp hl).symm
  have ns : [a, b].any isStar = false := nostars (by rw [List.all_cons, List.all_cons, ha, hb]; rfl)
  have dd : [x, y].eraseDups = [x, y] := by
    have : (y == x) = false := beq_eq_false_iff_ne.mpr fun z => ne z.symm
    simp [List.eraseDups_cons, this]
  have nm : ([Expr.Name x px, Expr.Name y py].filterMap fun
    | .Name id pos => if env.kindOf id == some .local && pos.line == px.line then some id else none
    | _ => none) = [x, y] := by
    rw [List.filterMap_cons, List.filterMap_cons, List.filterMap_nil]
    simp only [name_in hx rfl, name_in hy e1]
  unfold swappedStores
  refine (if_neg ?_).trans ((if_neg ?_).trans ((if_neg ?_).trans ((if_neg ?_).trans ((if_neg ?_).trans ?_))))
  · rw [hk]; exact fun z => Bool.noConfusion (show false = true from z)
  · exact fun z => Bool.noConfusion (ns.symm.trans z)
  · show ¬ (([Expr.Name x px, Expr.Name y py].filterMap _).length != 2 || ([Expr.Name x px, Expr.Name y py].filterMap _).eraseDups.length != ([Expr.Name x px, Expr.Name y py].filterMap _).length) = true
    erw [nm]
    rw [dd]
    exact fun z => Bool.noConfusion (show false = true from z)
  · rw [hf]; decide
  · rw [hc]; decide
  · exact congrArg (fun l => (pure (some l) : Sem (Option (List Str)))) nm
theorem swap_three {env : Env} {x y z : Str} {px py pz pt pt2 : Pos} {kt k2 : Nat} {a b c : Expr} (hk : env.blockKind = .function) (hx : env.scope.names.lookup x = some .local) (hy : env.scope.names.lookup y = some .local) (hz : env.scope.names.lookup z = some .local) (ne : x ≠ y) (ne2 : x ≠ z) (ne3 : y ≠ z) (hl : (px.line == py.line) = true) (hl2 : (px.line == pz.line) = true)
    (ha : notStar a = true) (hb : notStar b = true) (hcs : notStar c = true) (hc : ([a, b, c].all (constantsAlone 8)) = false) (hf : ([a, b, c].all (foldedForSure 8)) = false) :
    swappedStores [.Tuple [.Name x px, .Name y py, .Name z pz] kt pt] (.Tuple [a, b, c] k2 pt2) env = pure (some [x, y, z]) := by
  have e1 : py.line = px.line := (beq_iff_eq.mp hl).symm
  have e2 : pz.line = px.line := (beq_iff_eq.mp hl2).symm
  have ns : [a, b, c].any isStar = false := nostars (by rw [List.all_cons, List.all_cons, List.all_cons, ha, hb, hcs]; rfl)
  have dd : [x, y, z].eraseDups = [x, y, z] := by
    have h1 : (y == x) = false := beq_eq_false_iff_ne.mpr fun z => ne z.symm
    have h2 : (z == x) = false := beq_eq_false_iff_ne.mpr fun z => ne2 z.symm
    have h3 : (z == y) = false := beq_eq_false_iff_ne.mpr fun z => ne3 z.symm
    simp [List.eraseDups_cons, h1, h2, h3]
  have nm : ([Expr.Name x px, Expr.Name y py, Expr.Name z pz].filterMap fun
    | .Name id pos => if env.kindOf id == some .local && pos.line == px.line then some id else none
    | _ => none) = [x, y, z] := by
    rw [List.filterMap_cons, List.filterMap_cons, List.filterMap_cons, List.filterMap_nil]
    simp only [name_in hx rfl, name_in hy e1, name_in hz e2]
  unfold swappedStores
  refine (if_neg ?_).trans ((if_neg ?_).trans ((if_neg ?_).trans ((if_neg ?_).trans ((if_neg ?_).trans ?_))))
  · rw [hk]; exact fun z => Bool.noConfusion (show false = true from z)
  · exact fun z => Bool.noConfusion (ns.symm.trans z)
  · show ¬ (([Expr.Name x px, Expr.Name y py, Expr.Name z pz].filterMap _).length != 3 || ([Expr.Name x px, Expr.Name y py, Expr.Name z pz].filterMap _).eraseDups.length != ([Expr.Name x px, Expr.Name y py, Expr.Name z pz].filterMap _).length) = true
    erw [nm]
    rw [dd]
    exact fun z => Bool.noConfusion (show false = true from z)
  · rw [hf]; decide
  · rw [hc]; decide
  · exact congrArg (fun l => (pure (some l) : Sem (Option (List Str)))) nm
end Lk
set_option maxHeartbeats 400000
namespace Lk
open PySem PySem.Spec PyProof.Rows L2
section
variable {P : Pg} {call : CallT} {k : Nat}
theorem okT_form {t : CT} {S : SC} {tg : Expr} (h : okT P t S tg = true) : (∀ es p, tg ≠ .List es p) ∧ notStar tg = true := by
  cases t with
  | nm i =>
    simp only [okT] at h
    split at h
    · exact ⟨(fun _ _ z => nomatch z), rfl⟩
    · cases h
  | tup ts =>
    simp only [okT] at h
    split at h
    · exact ⟨(fun _ _ z => nomatch z), rfl⟩
    · cases h
  | sub o i =>
    simp only [okT] at h
    split at h
    · exact ⟨(fun _ _ z => nomatch z), rfl⟩
    · cases h
theorem sndS_set {t : CT} {e : CE} (ht : SndG P call k t) (he : Snd P call k e) : SndS P call k (.set t e) := by
  intro S st X O ok ε G o ev
  simp only [okS] at ok
  split at ok
  · rename_i tg v pos
    simp only [Bool.and_eq_true, Bool.or_eq_true, Bool.not_eq_true'] at ok
    obtain ⟨⟨⟨h1, h2⟩, h3⟩, h4⟩ := ok
    obtain ⟨f1, f2⟩ := okT_form h2
    simp only [exS] at ev
    split at ev
    · cases ev
    · rename_i x G1 e1
      split at ev
      · cases ev
      · rename_i ε' G' e2
        cases ev
        have h5 : (assignEach [tg] X.env).map (·.2) = [assign tg X.env] := by cases tg <;> first | rfl | cases f2
        have r := ps_asg (pos := pos) (pe_w (X := X) (e := v)) (pg_w (X := X) (tg := tg)) (no_comp2 h1) (no_swap O h4 f1) h5
        intro ρ σ H a D q
        refine wS_of r ?_
        refine he.e S _ X O h3 _ _ _ _ e1 ρ σ H a _ fun u ρ1 H1 n1 r1 v1 => ?_
        exact ht S _ X O h2 _ _ _ _ _ e2 ρ1 σ H1 u (a.nx n1 r1) v1 _ fun ρ2 σ2 H2 n2 a2 _ => q ρ2 σ2 H2 (n1.trans n2) a2
  · cases ok
theorem len_N {S : SC} {X : Cx} (O : Ok P call k S X) {i : Nat} {x : Str} (h : S.N[i]? = some x) {σ : L2.St} (l : σ.length = X.N.length) : i < σ.length := by
  rw [l, O.N]; exact (List.getElem?_eq_some_iff.mp h).1
theorem sndS_setc {i : Nat} {e : CE} (hs : ∀ own t ci cond elt, e = .comp own t ci cond elt → SndG P call k t ∧ SndI P call k ci ∧ SndQ P call k cond ∧ Snd P call k elt) : SndS P call k (.setc i e) := by
  intro S st X O ok ε G o ev
  simp only [okS] at ok
  split at ok
  · rename_i y py elt' gs scope lpos pos
    simp only [Bool.and_eq_true, decide_eq_true_eq, Bool.not_eq_true'] at ok
    obtain ⟨⟨⟨⟨⟨h1, h2⟩, h6⟩, h3⟩, h4⟩, h5⟩ := ok
    cases e with
    | comp own t ci cond elt =>
      obtain ⟨ht, hi, hq, he⟩ := hs own t ci cond elt rfl
      have ok0 := h5
      simp only [okE] at h5
      split at h5
      · rename_i e1 tg iter ifs sc p1 eq
        cases eq
        simp only [exS] at ev
        split at ev
        · cases ev
        · rename_i x G1 e1
          cases ev
          obtain ⟨wi, gC, tC, eC, pi, bo, pg, pt, pe, fs, m⟩ := comp_core ht hi hq he O ok0 e1
          have r := ps_setLc (spos := pos) O.calm O.nd (by rw [O.N]; exact h1) (O.is h2) (sw_true (l := pos.line) (by rw [O.sc]; exact h6) (O.is h2) h3 h4) pi bo pg pt pe fs
          intro ρ σ H a D q
          refine wS_of r ?_
          refine m ρ σ H a _ fun u ρ1 H1 n1 r1 v1 => ?_
          have a1 := a.nx n1 r1
          exact q ρ1 _ H1 n1 ⟨a1.e.set (len_N O h1 a1.l) v1, r1, by rw [List.length_set]; exact a1.l⟩
      · cases h5
    | _ => simp [okE] at h5
  · cases ok
theorem sndS_par {i j : Nat} {a b : CE} (ha : Snd P call k a) (hb : Snd P call k b) : SndS P call k (.par i j a b) := by
  intro S st X O ok ε G o ev
  simp only [okS] at ok
  split at ok
  · rename_i x px y py kt pt a' b' k2 pt2 pos
    simp only [Bool.and_eq_true, decide_eq_true_eq, Bool.not_eq_true'] at ok
    obtain ⟨⟨⟨⟨⟨⟨⟨⟨⟨⟨⟨⟨h1, h2⟩, h3⟩, h4⟩, h5⟩, h6⟩, h7⟩, h8⟩, h9⟩, h10⟩, h11⟩, h12⟩, h13⟩ := ok
    simp only [exS] at ev
    split at ev
    · cases ev
    · rename_i u G1 e1
      split at ev
      · cases ev
      · rename_i w G2 e2
        cases ev
        have ij : i ≠ j := by
          rintro rfl
          rw [h1] at h2
          exact h5 (Option.some.inj h2)
        have sw := swap_two (env := X.env) (px := px) (py := py) (pt := pt) (pt2 := pt2) (kt := kt) (k2 := k2) (kind_fun O h6) (O.is h3) (O.is h4) h5 h7 h8 h9 h10 h11
        have r := ps_par (pos := pos) O.calm O.nd (by rw [O.N]; exact h1) (by rw [O.N]; exact h2) ij (O.is h3) (O.is h4) (pa_w (X := X) (es := [a', b'])) sw
        intro ρ σ H at_ D q
        refine wS_of r ?_
        have argm : MtA X (wA X [a', b']) ε G [u, w] G2 := mta_w (pa_cons pe_w (pa_cons pe_w pa_nil (notStar_each h9)) (notStar_each h8)) (mta_cons (ha.e S _ X O h12 _ _ _ _ e1) (mta_cons (hb.e S _ X O h13 _ _ _ _ e2) mta_nil))
        refine argm ρ σ H at_ _ fun us ρ1 H1 n1 r1 v1 => ?_
        cases v1 with
        | cons va vr =>
          cases vr with
          | cons vb vn =>
            cases vn
            have a1 := at_.nx n1 r1
            refine ⟨_, _, rfl, q ρ1 _ H1 n1 ⟨(a1.e.set (len_N O h1 a1.l) va).set (by rw [List.length_set]; exact len_N O h2 a1.l) vb, r1, by rw [List.length_set, List.length_set]; exact a1.l⟩⟩
  · cases ok
theorem sndS_par3 {i j l : Nat} {a b c : CE} (ha : Snd P call k a) (hb : Snd P call k b) (hc : Snd P call k c) : SndS P call k (.par3 i j l a b c) := by
  intro S st X O ok ε G o ev
  simp only [okS] at ok
  split at ok
  · rename_i x px y py z pz kt pt a' b' c' k2 pt2 pos
    simp only [Bool.and_eq_true, decide_eq_true_eq, Bool.not_eq_true'] at ok
    obtain ⟨⟨⟨⟨⟨⟨⟨⟨⟨⟨⟨⟨⟨⟨⟨⟨⟨⟨⟨h1, h2⟩, h2'⟩, h3⟩, h4⟩, h4'⟩, h5⟩, h5'⟩, h5''⟩, h6⟩, h7⟩, h7'⟩, h8⟩, h9⟩, h9'⟩, h10⟩, h11⟩, h12⟩, h13⟩, h14⟩ := ok
    simp only [exS] at ev
    split at ev
    · cases ev
    · rename_i u G1 e1
      split at ev
      · cases ev
      · rename_i w G2 e2
        split at ev
        · cases ev
        · rename_i w3 G3 e3
          cases ev
          have ij : i ≠ j := by
            rintro rfl
            rw [h1] at h2
            exact h5 (Option.some.inj h2)
          have il : i ≠ l := by
            rintro rfl
            rw [h1] at h2'
            exact h5' (Option.some.inj h2')
          have jl : j ≠ l := by
            rintro rfl
            rw [h2] at h2'
            exact h5'' (Option.some.inj h2')
          have sw := swap_three (env := X.env) (px := px) (py := py) (pz := pz) (pt := pt) (pt2 := pt2) (kt := kt) (k2 := k2) (kind_fun O h6) (O.is h3) (O.is h4) (O.is h4') h5 h5' h5'' h7 h7' h8 h9 h9' h10 h11
          have r := ps_par3 (pos := pos) O.calm O.nd (by rw [O.N]; exact h1) (by rw [O.N]; exact h2) (by rw [O.N]; exact h2') ij il jl (O.is h3) (O.is h4) (O.is h4') (pa_w (X := X) (es := [a', b', c'])) sw
          intro ρ σ H at_ D q
          refine wS_of r ?_
          have argm : MtA X (wA X [a', b', c']) ε G [u, w, w3] G3 := mta_w (pa_cons pe_w (pa_cons pe_w (pa_cons pe_w pa_nil (notStar_each h9')) (notStar_each h9)) (notStar_each h8)) (mta_cons (ha.e S _ X O h12 _ _ _ _ e1) (mta_cons (hb.e S _ X O h13 _ _ _ _ e2) (mta_cons (hc.e S _ X O h14 _ _ _ _ e3) mta_nil)))
          refine argm ρ σ H at_ _ fun us ρ1 H1 n1 r1 v1 => ?_
          cases v1 with
          | cons va vr =>
            cases vr with
            | cons vb vr2 =>
              cases vr2 with
              | cons vc vn =>
                cases vn
                have a1 := at_.nx n1 r1
                refine ⟨_, _, _, rfl, q ρ1 _ H1 n1 ⟨((a1.e.set (len_N O h1 a1.l) va).set (by rw [List.length_set]; exact len_N O h2 a1.l) vb).set (by rw [List.length_set, List.length_set]; exact len_N O h2' a1.l) vc, r1, by rw [List.length_set, List.length_set, List.length_set]; exact a1.l⟩⟩
  · cases ok
theorem sndS_ex {e : CE} (he : Snd P call k e) : SndS P call k (.ex e) := by
  intro S st X O ok ε G o ev
  simp only [okS] at ok
  split at ok
  · simp only [Bool.and_eq_true, Bool.not_eq_true'] at ok
    simp only [exS] at ev
    split at ev
    · cases ev
    · rename_i x G1 e1
      cases ev
      intro ρ σ H a D q
      refine wS_of (ps_expr pe_w (no_comp ok.1)) ?_
      exact he.e S _ X O ok.2 _ _ _ _ e1 ρ σ H a _ fun u ρ1 H1 n1 r1 v1 => q ρ1 σ H1 n1 (a.nx n1 r1)
  · cases ok
theorem sndS_ret {e : CE} (he : Snd P call k e) : SndS P call k (.ret e) := by
  intro S st X O ok ε G o ev
  simp only [okS] at ok
  split at ok
  · simp only [exS] at ev
    split at ev
    · cases ev
    · rename_i x G1 e1
      cases ev
      intro ρ σ H a D q
      refine wS_of (ps_ret pe_w) ?_
      exact he.e S _ X O ok _ _ _ _ e1 ρ σ H a _ fun u ρ1 H1 n1 r1 v1 => q u ρ1 H1 n1 r1 v1
  · cases ok
theorem sndS_ife {c : CE} {a b : CB} (hc : Snd P call k c) (ha : SndB P call k a) (hb : SndB P call k b) : SndS P call k (.ife c a b) := by
  intro S st X O ok ε G o ev
  simp only [okS] at ok
  split at ok
  · simp only [Bool.and_eq_true] at ok
    obtain ⟨⟨⟨h1, h2⟩, h3⟩, h4⟩ := ok
    simp only [exS] at ev
    split at ev
    · rename_i G1 e1
      intro ρ σ H at_ D q
      refine wS_of (ps_if pt_w pss_w pss_w) ?_
      refine hc.t S _ X O h1 h2 _ _ _ _ e1 ρ σ H at_ _ fun ρ1 H1 n1 r1 => ?_
      rw [if_pos rfl]
      exact ha S _ X O h3 _ _ _ ev ρ1 σ H1 (at_.nx n1 r1) D (q.move n1)
    · rename_i G1 e1
      intro ρ σ H at_ D q
      refine wS_of (ps_if pt_w pss_w pss_w) ?_
      refine hc.t S _ X O h1 h2 _ _ _ _ e1 ρ σ H at_ _ fun ρ1 H1 n1 r1 => ?_
      rw [if_neg Bool.false_ne_true]
      exact hb S _ X O h4 _ _ _ ev ρ1 σ H1 (at_.nx n1 r1) D (q.move n1)
    · cases ev
  · cases ok
theorem sndS_never : SndS P call k .never := by
  intro S st X O ok ε G o ev
  simp only [exS] at ev
  cases ev
theorem sndS_whl {c : CE} {b : CB} (hc : Snd P call k c) (hb : SndB P call k b) : SndS P call k (.whl c b) := by
  intro S st X O ok ε G o ev
  simp only [okS] at ok
  split at ok
  · rename_i c' body pos
    simp only [Bool.and_eq_true] at ok
    obtain ⟨⟨h1, h2⟩, h3⟩ := ok
    simp only [exS] at ev
    intro ρ σ H a D q
    refine wS_of (ps_while (by rw [O.xe]; exact PassesOwn.never) pt_w pss_w) ?_
    refine ⟨fun m σ' H' => ∃ ρ2 ε2 G2, Nx ρ H ρ2 H' ∧ At X ρ2 σ' H' ε2 G2 ∧ whileF _ _ m ε2 G2 = some o, ⟨wfuel, ρ, ε, G, Nx.refl _ _, a, ev⟩, ?_⟩
    rintro m σ1 H1 ⟨ρ1, ε1, G1, n1, a1, e1⟩
    cases m with
    | zero => simp only [whileF] at e1; cases e1
    | succ m =>
      simp only [whileF] at e1
      split at e1
      · cases e1
      · rename_i G2 ec
        cases e1
        split at ec
        · rename_i t G3 e3
          cases ec
          refine hc.t S _ X O h1 h2 _ _ _ _ e3 ρ1 σ1 H1 a1 _ fun ρ2 H2 n2 r2 => ?_
          rw [if_neg Bool.false_ne_true]
          exact q ρ2 σ1 H2 (n1.trans n2) (a1.nx n2 r2)
        · cases ec
      · rename_i G2 ec
        split at ec
        · rename_i t G3 e3
          cases ec
          refine hc.t S _ X O h1 h2 _ _ _ _ e3 ρ1 σ1 H1 a1 _ fun ρ2 H2 n2 r2 => ?_
          rw [if_pos rfl]
          have a2 := a1.nx n2 r2
          refine ⟨fun σ' H' => ∃ ρ2 ε2 G2, Nx ρ H ρ2 H' ∧ At X ρ2 σ' H' ε2 G2 ∧ whileF _ _ m ε2 G2 = some o, fun σ' H' z => ⟨m, Nat.lt_succ_self _, z⟩, ?_⟩
          split at e1
          · rename_i ε4 G4 e4
            exact hb S _ X O h3 _ _ _ e4 ρ2 σ1 H2 a2 _ fun ρ3 σ3 H3 n3 a3 => ⟨ρ3, ε4, G4, (n1.trans n2).trans n3, a3, e1⟩
          · rename_i ε4 G4 e4
            exact hb S _ X O h3 _ _ _ e4 ρ2 σ1 H2 a2 _ fun ρ3 σ3 H3 n3 a3 => ⟨ρ3, ε4, G4, (n1.trans n2).trans n3, a3, e1⟩
          · rename_i ε4 G4 e4
            cases e1
            exact hb S _ X O h3 _ _ _ e4 ρ2 σ1 H2 a2 _ fun ρ3 σ3 H3 n3 a3 => q ρ3 σ3 H3 ((n1.trans n2).trans n3) a3
          · rename_i v4 G4 e4
            cases e1
            exact hb S _ X O h3 _ _ _ e4 ρ2 σ1 H2 a2 _ fun u ρ3 H3 n3 r3 v3 => q u ρ3 H3 ((n1.trans n2).trans n3) r3 v3
          · cases e1
        · cases ec
  · cases ok
theorem sndS_for {t : CT} {i : CI} {b : CB} (ht : SndG P call k t) (hi : SndI P call k i) (hb : SndB P call k b) : SndS P call k (.for t i b) := by
  intro S st X O ok ε G o ev
  simp only [okS] at ok
  split at ok
  · rename_i tg iter body pos
    simp only [Bool.and_eq_true] at ok
    obtain ⟨⟨h1, h2⟩, h3⟩ := ok
    simp only [exS] at ev
    split at ev
    · cases ev
    · rename_i src G1 e1
      obtain ⟨wi, pi, mi, fs⟩ := hi S tg iter X O h1 _ _ _ _ e1
      intro ρ σ H a D q
      refine wS_of (ps_for (by rw [O.xe]; exact PassesOwn.never) O.calm pi pg_w pss_w fs) ?_
      refine mi ρ σ H a _ fun J ρ1 H1 n1 r1 so => ?_
      refine ⟨fun i m σ' H' => ∃ ρ2 ε2 G2, Nx ρ1 H1 ρ2 H' ∧ At X ρ2 σ' H' ε2 G2 ∧ loopF src _ m i ε2 G2 = some o, ⟨src.len G1, ρ1, ε, G1, Nx.refl _ _, a.nx n1 r1, ev⟩, ?_⟩
      rintro i m σ2 H2 ⟨ρ2, ε2, G2, n2, a2, e2⟩
      cases m with
      | zero =>
        simp only [loopF] at e2
        split at e2
        · rename_i st
          cases e2
          exact .inl ⟨so.stop i ρ2 H2 _ n2 a2.h st, q ρ2 σ2 H2 (n1.trans n2) a2⟩
        · cases e2
      | succ m =>
        simp only [loopF] at e2
        split at e2
        · cases e2
        · rename_i w ew
          obtain ⟨go, yl⟩ := so.go i ρ2 H2 G2 w n2 a2.h ew
          refine .inr ⟨go, fun σ' H' => ∃ ρ2 ε2 G2, Nx ρ1 H1 ρ2 H' ∧ At X ρ2 σ' H' ε2 G2 ∧ loopF src _ m (i + 1) ε2 G2 = some o, fun σ' H' z => ⟨m, Nat.lt_succ_self _, z⟩, fun x H' hy => ?_⟩
          obtain ⟨nx3, r3, vx⟩ := yl x H' hy
          have a3 := a2.nx nx3 r3
          split at e2
          · rename_i ε4 G4 es
            split at es
            · cases es
            · rename_i ε5 G5 e5
              refine ht S _ X O h2 _ _ _ _ _ e5 ρ2 σ2 H' x a3 vx _ fun ρ5 σ5 H5 n5 a5 _ => ?_
              exact hb S _ X O h3 _ _ _ es ρ5 σ5 H5 a5 _ fun ρ6 σ6 H6 n6 a6 => ⟨ρ6, ε4, G4, ((n2.trans nx3).trans n5).trans n6, a6, e2⟩
          · rename_i ε4 G4 es
            split at es
            · cases es
            · rename_i ε5 G5 e5
              refine ht S _ X O h2 _ _ _ _ _ e5 ρ2 σ2 H' x a3 vx _ fun ρ5 σ5 H5 n5 a5 _ => ?_
              exact hb S _ X O h3 _ _ _ es ρ5 σ5 H5 a5 _ fun ρ6 σ6 H6 n6 a6 => ⟨ρ6, ε4, G4, ((n2.trans nx3).trans n5).trans n6, a6, e2⟩
          · rename_i ε4 G4 es
            cases e2
            split at es
            · cases es
            · rename_i ε5 G5 e5
              refine ht S _ X O h2 _ _ _ _ _ e5 ρ2 σ2 H' x a3 vx _ fun ρ5 σ5 H5 n5 a5 _ => ?_
              exact hb S _ X O h3 _ _ _ es ρ5 σ5 H5 a5 _ fun ρ6 σ6 H6 n6 a6 => q ρ6 σ6 H6 (n1.trans (((n2.trans nx3).trans n5).trans n6)) a6
          · rename_i v4 G4 es
            cases e2
            split at es
            · cases es
            · rename_i ε5 G5 e5
              refine ht S _ X O h2 _ _ _ _ _ e5 ρ2 σ2 H' x a3 vx _ fun ρ5 σ5 H5 n5 a5 _ => ?_
              exact hb S _ X O h3 _ _ _ es ρ5 σ5 H5 a5 _ fun u ρ6 H6 n6 r6 v6 => q u ρ6 H6 (n1.trans (((n2.trans nx3).trans n5).trans n6)) r6 v6
          · cases e2
  · cases ok
theorem sndB_nil : SndB P call k .nil := by
  intro S ss X O ok ε G o ev
  simp only [exB, Option.some.injEq] at ev
  subst ev
  cases ss with
  | cons _ _ => simp only [okB] at ok; exact absurd ok (by decide)
  | nil => exact fun ρ σ H a D q => wB_of pss_nil (q ρ σ H (Nx.refl _ _) a)
theorem sndB_cons {s : CS} {r : CB} (hs : SndS P call k s) (hr : SndB P call k r) : SndB P call k (.cons s r) := by
  intro S ss X O ok ε G o ev
  cases ss with
  | nil => simp only [okB] at ok; exact absurd ok (by decide)
  | cons st ss =>
    simp only [okB, Bool.and_eq_true] at ok
    simp only [exB] at ev
    intro ρ σ H a D q
    refine wB_of (pss_cons ps_w pss_w) ?_
    split at ev
    · cases ev
    · rename_i ε1 G1 e1
      exact hs S _ X O ok.1 _ _ _ e1 ρ σ H a _ fun ρ1 σ1 H1 n1 a1 => hr S _ X O ok.2 _ _ _ ev ρ1 σ1 H1 a1 D (q.move n1)
    · rename_i v1 G1 e1
      cases ev
      exact hs S _ X O ok.1 _ _ _ e1 ρ σ H a _ fun u ρ1 H1 n1 r1 z1 => q u ρ1 H1 n1 r1 z1
    · rename_i ε1 G1 e1
      cases ev
      exact hs S _ X O ok.1 _ _ _ e1 ρ σ H a _ fun ρ1 σ1 H1 n1 a1 => q ρ1 σ1 H1 n1 a1
    · rename_i ε1 G1 e1
      cases ev
      exact hs S _ X O ok.1 _ _ _ e1 ρ σ H a _ fun ρ1 σ1 H1 n1 a1 => q ρ1 σ1 H1 n1 a1
end
end Lk
set_option maxHeartbeats 2000000
namespace Lk
open PySem PySem.Spec PyProof.Rows L2
theorem VRs.pick {K : PySem.W.Frag} {ρ : List Addr} {H : Hp} {us : List V} {vs : List IV} (r : VRs K ρ H us vs) : ∀ pm : List Nat, VRs K ρ H (pick pm us) (pick pm vs)
  | [] => .nil
  | i :: pm => by
    have ih := VRs.pick r pm
    unfold Lk.pick at ih ⊢
    rw [List.filterMap_cons, List.filterMap_cons]
    cases e : vs[i]? with
    | none =>
      have : us[i]? = none := by
        rw [List.getElem?_eq_none_iff] at e ⊢
        rw [r.length]; exact e
      rw [this]
      exact ih
    | some v =>
      obtain ⟨u, h1, h2⟩ := r.get e
      rw [h1]
      exact .cons h2 ih
theorem vals_pick {us : List V} {vs : List Value} (r : Vals us vs) : ∀ pm : List Nat, Vals (pick pm us) (pick pm vs)
  | [] => .nil
  | i :: pm => by
    have ih := vals_pick r pm
    unfold Lk.pick at ih ⊢
    rw [List.filterMap_cons, List.filterMap_cons]
    cases e : us[i]? with
    | none =>
      rw [r.none_of e]
      exact ih
    | some v =>
      obtain ⟨u, h1, h2⟩ := r.get e
      rw [h1]
      exact .cons h2 ih
section
variable {P : Pg} {call : CallT} {k : Nat}
/-- the values of keywords -/
def SndK (P : Pg) (call : CallT) (k : Nat) (c : CL) : Prop := ∀ (S : SC) (kws : List Keyword) (X : Cx), Ok P call k S X → okL P c S (kws.map (·.value)) = true → ∀ (ε : EV) (G G' : GH) (vs : List IV), evL call c ε G = some (vs, G') → ∃ tk, PK X kws tk ∧ MtA X tk ε G vs G'
theorem sndK_nil : SndK P call k .nil := by
  intro S kws X O ok ε G G' vs ev
  cases kws with
  | cons q kws => simp [okL] at ok
  | nil =>
    simp only [evL, Option.some.injEq, Prod.mk.injEq] at ev
    obtain ⟨rfl, rfl⟩ := ev
    exact ⟨_, pk_nil, mta_nil⟩
theorem sndK_cons {e : CE} {r : CL} (he : Snd P call k e) (hr : SndK P call k r) : SndK P call k (.cons e r) := by
  intro S kws X O ok ε G G' vs ev
  cases kws with
  | nil => simp [okL] at ok
  | cons q kws =>
    obtain ⟨nm, ex, kp⟩ := q
    simp only [List.map_cons, okL, Bool.and_eq_true] at ok
    simp only [evL] at ev
    split at ev
    · cases ev
    · rename_i x G1 e1
      split at ev
      · cases ev
      · rename_i xs G2 e2
        cases ev
        obtain ⟨tk, p1, p2⟩ := hr S kws X O ok.2 _ _ _ _ e2
        exact ⟨_, pk_cons pe_w p1, mta_cons (he.e S _ X O ok.1.2 _ _ _ _ e1) p2⟩
def tCallGK (sp : Sp) (pm : List Nat) (E : XK) (t tk : TA) : TE := fun σ H Q => t σ H fun vs H1 => tk σ H1 fun zs H2 => sp (pick pm (vs ++ zs)) H2 Q E
theorem mt_callk {X : Cx} {ta tk : TA} {ε : EV} {G G1 G2 G3 : GH} {xs ys : List IV} {v : IV} {E : XK} {pm : List Nat} (ha : MtA X ta ε G xs G1) (hk : MtA X tk ε G1 ys G2) : Mt X (tCallGK (spOf X.K (pick pm (xs ++ ys)) G2 v G3) pm E ta tk) ε G v G3 := by
  intro ρ σ H a Q q
  refine ha ρ σ H a _ fun us ρ1 H1 n1 r1 v1 => ?_
  refine hk ρ1 σ H1 (a.nx n1 r1) _ fun zs ρ2 H2 n2 r2 v2 => ?_
  exact ⟨ρ2, r2, ((v1.nx n2).app v2).pick pm, q.nx (n1.trans n2)⟩
theorem kw_some {kws : List Keyword} {ks : List Str} {pos : Pos} {env : Env} (h : kws.map (·.arg) = ks.map some) : (backToKw pos (keywordEach kws env)).all (·.1.isSome) = true ∧ (backToKw pos (keywordEach kws env)).filterMap (·.1) = ks ∧ (backToKw pos (keywordEach kws env)).any (·.1.isNone) = false := by
  induction kws generalizing ks with
  | nil =>
    cases ks with
    | nil => exact ⟨rfl, rfl, rfl⟩
    | cons _ _ => simp at h
  | cons q kws ih =>
    cases ks with
    | nil => simp at h
    | cons y ks =>
      obtain ⟨nm, ex, kp⟩ := q
      simp only [List.map_cons, List.cons.injEq] at h
      obtain ⟨h1, h2⟩ := h
      subst h1
      obtain ⟨i1, i2, i3⟩ := ih h2
      refine ⟨?_, ?_, ?_⟩
      · show (true && (backToKw pos (keywordEach kws env)).all (·.1.isSome)) = true
        rw [i1]; rfl
      · show y :: (backToKw pos (keywordEach kws env)).filterMap (·.1) = y :: ks
        rw [i2]
      · show (false || (backToKw pos (keywordEach kws env)).any (·.1.isNone)) = false
        rw [i3]; rfl
theorem run_gk {X : Cx} {k : Nat} {f : Addr} {fd : FuncData} {ps ks : List Str} {sp : Sp} {E : XK} {pins : List (Addr × Obj)} {σ : L2.St} {H : Hp} {s : Shared} {Q : VK} {us ws : List Value} {vs zs : List V} {np : Nat} {pm : List Nat}
    (F : FnG X.prog X.w X.K X.mg X.base CX k f fd ps sp) (hr : Room k X.A) (hq : X.A.guards = some []) (hb : KB X.K fd ps np ks pm) (hx : Passes CX X E) (l1 : us.length = np) (l2 : ws.length = ks.length)
    (I : Inv X pins σ H s) (r : Vals vs us) (rz : Vals zs ws) (h : sp (pick pm (vs ++ zs)) H Q E) : wpAny (model X.prog X.w) X.A (PySem.call (.ref f) us (ks.zip ws)) (EP X pins σ Q) X.xe s := by
  have both := vals_pick (r.append rz) pm
  have n : (pick pm (us ++ ws)).length = ps.length := both.length ▸ F.len _ _ _ _ h
  have told := F.go X.A X.stack s H ⟨us, ks.zip ws⟩ (pick pm (us ++ ws)) (pick pm (vs ++ zs)) Q E hr hq I.env0 (hb s us ws I.kIn l1 l2) both h
  refine wpAny_call (codeAny_mono told ?_)
  intro out s2 hout
  match out, hout with
  | .error e, z => exact hx pins σ H s e s2 I z
  | .ok (.ret u), z => exact I.after z
theorem evL_length : ∀ (c : CL) (S : SC) (es : List Expr) (ε : EV) (G G' : GH) (vs : List IV), okL P c S es = true → evL call c ε G = some (vs, G') → vs.length = es.length
  | .nil, S, es, ε, G, G', vs, ok, ev => by
    cases es with
    | cons _ _ => simp [okL] at ok
    | nil =>
      simp only [evL, Option.some.injEq, Prod.mk.injEq] at ev
      rw [← ev.1]; rfl
  | .cons c r, S, es, ε, G, G', vs, ok, ev => by
    cases es with
    | nil => simp [okL] at ok
    | cons e es =>
      simp only [okL, Bool.and_eq_true] at ok
      simp only [evL] at ev
      split at ev
      · cases ev
      · split at ev
        · cases ev
        · rename_i xs G2 e2
          cases ev
          have := evL_length r S es _ _ _ _ ok.2 e2
          simp only [List.length_cons, this]
/-- the call, all told: the arguments' length is kept along -/
def tLen (t : TA) (n : Nat) : TA := fun σ H Q => t σ H fun vs H1 => vs.length = n ∧ Q vs H1
theorem mta_len {X : Cx} {t : TA} {ε : EV} {G G1 : GH} {xs : List IV} {n : Nat} (h : MtA X t ε G xs G1) (l : xs.length = n) : MtA X (tLen t n) ε G xs G1 := by
  intro ρ σ H a Q q
  exact h ρ σ H a _ fun us ρ1 H1 n1 r1 v1 => ⟨by rw [v1.length]; exact l, q us ρ1 H1 n1 r1 v1⟩
theorem pe_callGK {X : Cx} {k : Nat} {f : Addr} {fd : FuncData} {ps ks : List Str} {sp : Sp} {E : XK} {x : Str} {p pos : Pos} {e : Expr} {es : List Expr} {kws : List Keyword} {t tk : TA} {np : Nat} {pm : List Nat}
    (F : FnG X.prog X.w X.K X.mg X.base CX k f fd ps sp) (hr : Room k X.A) (hq : X.A.guards = some []) (hg : Gl X x) (hm : X.mg x = some (.ref f)) (hk : PySem.W.keepIn X.K (.ref f) = true)
    (hb : KB X.K fd ps np ks pm) (hx : Passes CX X E) (ha : PA X (e :: es) t) (hkw : PK X kws tk) (hkn : kws.map (·.arg) = ks.map some) (hdb : (x == ("__debug__" : Str)) = false)
    (he : starEach (e :: es) X.env = (false, eval e X.env) :: starEach es X.env) (hpl : (backTo pos (starEach (e :: es) X.env)).any (·.1) = false) :
    PE X (.Call (.Name x p) (e :: es) kws pos) (tCallGK sp pm E (tLen t np) (tLen tk ks.length)) := by
  obtain ⟨a1, a2, a3⟩ := kw_some (pos := pos) (env := X.env) hkn
  constructor
  intro pins s σ H Q I h
  refine wpAny_Call_Name_kw (ld_glob I hg hm ?_ hdb)
  refine PySem.W.callWith_KW (h₀ := X.base) I.ok.mod.kin hk a1 (thn (ha.run pos pins s σ H _ I h) ?_) (by rw [hpl, a3]; rfl) he
  rintro us s1 ⟨vs, H1, I1, rr, l1, q⟩
  refine thn (hkw.run pos pins s1 σ H1 _ I1 q) fun ws s2 ⟨zs, H2, I2, rz, l2, q2⟩ => ⟨I2.kIn, ?_⟩
  rw [a2]
  exact run_gk (us := us) F hr hq hb hx (by rw [← rr.length]; exact l1) (by rw [← rz.length]; exact l2) I2 rr rz q2
theorem pe_callGK0 {X : Cx} {k : Nat} {f : Addr} {fd : FuncData} {ps ks : List Str} {sp : Sp} {E : XK} {x : Str} {p pos : Pos} {kws : List Keyword} {tk : TA} {pm : List Nat}
    (F : FnG X.prog X.w X.K X.mg X.base CX k f fd ps sp) (hr : Room k X.A) (hq : X.A.guards = some []) (hg : Gl X x) (hm : X.mg x = some (.ref f)) (hk : PySem.W.keepIn X.K (.ref f) = true)
    (hb : KB X.K fd ps 0 ks pm) (hx : Passes CX X E) (hkw : PK X kws tk) (hkn : kws.map (·.arg) = ks.map some) (hdb : (x == ("__debug__" : Str)) = false) :
    PE X (.Call (.Name x p) [] kws pos) (tCallGK sp pm E tNil (tLen tk ks.length)) := by
  obtain ⟨a1, a2, a3⟩ := kw_some (pos := pos) (env := X.env) hkn
  constructor
  intro pins s σ H Q I h
  refine wpAny_Call_Name_kw (ld_glob I hg hm ?_ hdb)
  refine PySem.W.callWith_KW0 (h₀ := X.base) I.ok.mod.kin hk a1 ?_ (by rw [a3]; rfl)
  refine thn (hkw.run pos pins s σ H _ I h) fun ws s2 ⟨zs, H2, I2, rz, l2, q2⟩ => ⟨I2.kIn, ?_⟩
  rw [a2]
  exact run_gk (us := []) F hr hq hb hx rfl (by rw [← rz.length]; exact l2) I2 .nil rz q2
theorem snd_fnk {f : Nat} {es kes : CL} {ks : List Str} {pm : List Nat} (h : SndL P call k es) (hk : SndK P call k kes) : Snd P call k (.fnk f es ks pm kes) := by
  refine snd_plain ?_ ?_ ?_
  · intro S e X O ok ε G G' v ev
    simp only [okE] at ok
    split at ok
    · rename_i x p es' kws pos
      simp only [Bool.and_eq_true, decide_eq_true_eq] at ok
      obtain ⟨⟨⟨⟨⟨⟨h2, h1⟩, h6⟩, h7⟩, _⟩, h3⟩, h4⟩ := ok
      obtain ⟨g1, g2, g3⟩ := O.gl h1
      simp only [evE] at ev
      split at ev
      · cases ev
      · rename_i xs G1 e1
        split at ev
        · cases ev
        · rename_i ys G2 e2
          obtain ⟨fa, fd, ps, m1, m2, m3, m4, m5⟩ := O.call _ _ _ _ _ _ h2 ev
          have hs := okL_star (env := X.env) (pos := pos) h3
          have ha := h S _ X O h3 _ _ _ _ e1
          obtain ⟨tk, pk, mk⟩ := hk S kws X O h4 _ _ _ _ e2
          have l1 := evL_length _ _ _ _ _ _ _ h3 e1
          have l2 := evL_length _ _ _ _ _ _ _ h4 e2
          have l3 : ys.length = ks.length := by
            rw [l2, List.length_map]
            have := congrArg List.length h7
            rwa [List.length_map, List.length_map] at this
          have kb := m5 _ _ _ h6
          cases es' with
          | nil =>
            cases es with
            | cons _ _ => simp only [okL] at h3; exact absurd h3 (by decide)
            | nil =>
              simp only [evL, Option.some.injEq, Prod.mk.injEq] at e1
              obtain ⟨rfl, rfl⟩ := e1
              exact mt_w (pe_callGK0 m4 O.room O.gd g1 m1 m2 kb pass0 pk h7 g2) (mt_callk mta_nil (mta_len mk l3))
          | cons e' es' =>
            cases es with
            | nil => simp only [okL] at h3; exact absurd h3 (by decide)
            | cons c cs =>
              have h0 : notStar e' = true := by simp only [okL, Bool.and_eq_true] at h3; exact h3.1.1
              exact mt_w (pe_callGK m4 O.room O.gd g1 m1 m2 kb pass0 pa_w pk h7 g2 (notStar_each h0) hs) (mt_callk (mta_len ha l1) (mta_len mk l3))
    · cases ok
  · intro S e X ok
    simp only [okE] at ok
    split at ok
    · intro _; rfl
    · cases ok
  · intro S op es pos ok
    simp only [okE] at ok
    cases ok
end
end Lk
namespace Lk
open PySem PySem.Spec PyProof.Rows L2
section
variable (P : Pg) (call : CallT) (k : Nat)
theorem snd_no {c : CE} (h : ∀ S e, okE P c S e = true → False) : Snd P call k c :=
  ⟨fun S e X O ok => (h S e ok).elim, fun S e X O ok => (h S e ok).elim, fun S op es pos X O ok => (h S _ ok).elim⟩
def SndL2 (c : CL) : Prop := SndL P call k c ∧ (∀ e r, c = .cons e r → Snd P call k e) ∧ SndK P call k c
mutual
theorem snd : ∀ c : CE, Snd P call k c
  | .c w => snd_c w
  | .v i => snd_v i
  | .g x w => snd_g x w
  | .bin o a b => snd_bin (snd a) (snd b)
  | .neg a => snd_neg (snd a)
  | .cmp o a b => snd_cmp (snd a) (snd b)
  | .chain o o' a b c => snd_chain (snd a) (snd b) (snd c)
  | .not a => snd_not (snd a)
  | .and a b => snd_and (snd a) (snd b)
  | .or a b => snd_or (snd a) (snd b)
  | .ite c a b => snd_ite (snd c) (snd a) (snd b)
  | .tup es => snd_tup (sndL es).1
  | .lst es => snd_lst (sndL es).1
  | .ix a b => snd_ix (snd a) (snd b)
  | .sl a lo hi => snd_sl (snd a) (sndP lo) (sndP hi)
  | .fn f es => snd_fn (sndL es).1
  | .fnk f es ks pm kes => snd_fnk (sndL es).1 (sndL kes).2.2
  | .bi b es => snd_bi (sndL es).1
  | .rq ne a b => snd_rq (snd a) (snd b)
  | .gcd es => snd_gcd (sndL es).1
  | .isi a T => snd_isi (snd a)
  | .lrg es => snd_lrg fun c e => (sndL es).2.1 c .nil e
  | .app o e => snd_app (snd o) (snd e)
  | .ext o e => snd_ext (snd o) (snd e)
  | .comp own t i cond elt => snd_comp (sndT t) (sndI i) (sndQ cond) (snd elt)
theorem sndL : ∀ c : CL, SndL2 P call k c
  | .nil => ⟨sndL_nil, (fun e r h => nomatch h), sndK_nil⟩
  | .cons e r => ⟨sndL_cons (snd e) (sndL r).1, (fun e' r' h => by
    have h1 : e' = e := by cases h; rfl
    exact h1 ▸ snd e), sndK_cons (snd e) (sndL r).2.2⟩
theorem sndP : ∀ c : CP, SndP P call k c
  | .no => sndP_no
  | .ex e => sndP_ex (snd e)
theorem sndQ : ∀ c : CQ, SndQ P call k c
  | .no => sndQ_no
  | .ex e => sndQ_ex (snd e)
theorem sndI : ∀ c : CI, SndI P call k c
  | .ex e => sndI_ex (snd e)
  | .rng es => sndI_rng (sndL es).1
  | .enm e => sndI_enm (snd e)
theorem sndT : ∀ c : CT, SndG P call k c
  | .nm i => sndG_nm i
  | .tup ts => sndG_tup (sndTs ts)
  | .sub o i => sndG_sub (snd o) (snd i)
theorem sndTs : ∀ c : CTs, SndGs P call k c
  | .nil => sndGs_nil
  | .cons t r => sndGs_cons (sndT t) (sndTs r)
end
mutual
theorem sndS : ∀ c : CS, SndS P call k c
  | .set t e => sndS_set (sndT P call k t) (snd P call k e)
  | .par i j a b => sndS_par (snd P call k a) (snd P call k b)
  | .par3 i j l a b c => sndS_par3 (snd P call k a) (snd P call k b) (snd P call k c)
  | .ex e => sndS_ex (snd P call k e)
  | .setc i e => sndS_setc fun own t ci cond elt _ => ⟨sndT P call k t, sndI P call k ci, sndQ P call k cond, snd P call k elt⟩
  | .ret e => sndS_ret (snd P call k e)
  | .ife c a b => sndS_ife (snd P call k c) (sndB a) (sndB b)
  | .for t i b => sndS_for (sndT P call k t) (sndI P call k i) (sndB b)
  | .whl c b => sndS_whl (snd P call k c) (sndB b)
  | .never => sndS_never
theorem sndB : ∀ c : CB, SndB P call k c
  | .nil => sndB_nil
  | .cons s r => sndB_cons (sndS s) (sndB r)
end
end
/-! ### defs -/
def scopeB (N ps : List Str) (sc : Scope) : Bool :=
  decide (sc.kind = .function) && decide (sc.isCoroutine = false) && decide (sc.isGenerator = false) && decide N.Nodup && decide (N.take ps.length = ps) && (ps.all fun x => decide (sc.names.lookup x = some .local) || decide (sc.names.lookup x = some .cell)) && (sc.names.all fun y => decide (y.2 ≠ .free))
theorem scope_of {N ps : List Str} {sc : Scope} (h : scopeB N ps sc = true) : FnScope N ps sc := by
  unfold scopeB at h
  simp only [Bool.and_eq_true, decide_eq_true_eq, List.all_eq_true, Bool.or_eq_true] at h
  obtain ⟨⟨⟨⟨⟨⟨h1, h2⟩, h3⟩, h4⟩, h5⟩, h6⟩, h7⟩ := h
  exact ⟨h1, h2, h3, h4, h5, h6, h7⟩
/-- d is the small form of the text's statement -/
def okF (P : Pg) (top : Nat → Stmt) (d : FD) : Bool :=
  scopeB d.N d.ps (defScope (top d.at_)) && okB P d.body ⟨d.N, defScope (top d.at_), true⟩ (defBody (top d.at_)) && decide (d.ps.length ≤ d.N.length)
/-- where it stands -/
structure FHas (K : PySem.W.Frag) (mg : Str → Option Value) (P : Pg) (top : Nat → Stmt) (d : FD) (f : Addr) (fd : FuncData) : Prop where
  mg : mg d.name = some (.ref f)
  fn : L2.Fun K d.name d.name (top d.at_) f fd
  bi : Binds K fd d.ps []
  kb : ∀ np ks pm, (d.name, np, ks, pm) ∈ P.kw → KB K fd d.ps np ks pm
theorem er_start {K : PySem.W.Frag} {ρ : List Addr} {H : Hp} {N : List Str} {us : List V} {vs : List IV} (r : VRs K ρ H us vs) : ER K ρ H (start N us) (startI N vs) := by
  intro i w e
  unfold startI at e
  unfold L2.start
  by_cases l : i < vs.length
  · rw [List.getElem?_append_left (by rw [List.length_map]; exact l)] at e
    rw [List.getElem?_append_left (by rw [List.length_map, r.length]; exact l)]
    rw [List.getElem?_map] at e ⊢
    cases q : vs[i]? with
    | none => rw [q] at e; cases e
    | some v =>
      rw [q] at e
      cases e
      obtain ⟨u, h1, h2⟩ := r.get q
      exact ⟨u, by rw [h1]; rfl, h2⟩
  · rw [List.getElem?_append_right (by rw [List.length_map]; omega)] at e
    have : ∀ (n j : Nat), (List.replicate n (none : Option IV))[j]? = some (some w) → False := by
      intro n j h
      have := List.mem_of_getElem? h
      rw [List.mem_replicate] at this
      cases this.2
    exact (this _ _ e).elim
section
variable {K : PySem.W.Frag} {ρ ρ' : List Addr} {H H' : Hp}
mutual
theorem VR.free : ∀ {x : V} {w : IV}, VR K ρ H x w → noRef w = true → VR K ρ' H x w
  | _, _, .non, _ => .non
  | _, _, .bl b, _ => .bl b
  | _, _, .int i, _ => .int i
  | _, _, .str x, _ => .str x
  | _, _, .tup h r, z => .tup h (VRs.free r (by simpa only [noRef] using z))
  | _, _, .ref _, z => by simp only [noRef] at z; exact absurd z (by decide)
theorem VRs.free : ∀ {xs : List V} {ws : List IV}, VRs K ρ H xs ws → noRefs ws = true → VRs K ρ' H xs ws
  | _, _, .nil, _ => .nil
  | _, _, .cons h r, z => by
    simp only [noRefs, Bool.and_eq_true] at z
    exact .cons (VR.free h z.1) (VRs.free r z.2)
end
theorem MR.free {a : Addr} {m : MO} (h : MR K ρ H a m) (z : m.pure = true) : MR K ρ' H a m := by
  cases h with
  | lst h r => exact .lst h (r.free z)
  | scr h r => exact .scr h (r.free z)
theorem sp_pure {as : List IV} {G G0 : GH} {v : IV} (h1 : noRefs as = true) (h2 : noRef v = true) {us : List V} {Q : VK} {E : XK} (h : spOf K as G v G us H Q E) : spOf K as [] v G0 us H Q E := by
  obtain ⟨ρ, r, rv, q⟩ := h
  refine ⟨[], ⟨rfl, fun n m a xs ys e => (by simp at e), fun n a m e => (by simp at e)⟩, rv.free h1, fun u ρ' H' n _ v' => ?_⟩
  have nx : Nx ρ H ρ H' := ⟨fun _ _ z => z, fun b o e _ => n.keep b o e (by simp), n.frz, n.tup, n.there, fun b z y => (y z).elim⟩
  exact q u ρ H' nx ⟨r.len, r.nd, fun i a m e1 e2 => (r.at_ i a m e1 e2).nx nx fun vs e => n.keep _ _ e (by simp)⟩ (v'.free h2)
theorem sp_trim {as : List IV} {G G' : GH} {v : IV} (h2 : noRef v = true) (h3 : (G'.take G.length).all MO.pure = true) {us : List V} {Q : VK} {E : XK} (h : spOf K as G v (G'.take G.length) us H Q E) : spOf K as G v G' us H Q E := by
  obtain ⟨ρ, r, rv, q⟩ := h
  refine ⟨ρ, r, rv, fun u ρ' H' n r' v' => ?_⟩
  have nx : Nx ρ H ρ H' := ⟨fun _ _ z => z, n.keep, n.frz, n.tup, n.there, fun b z y => (y z).elim⟩
  have le : G.length ≤ G'.length := by
    rw [← r.len, ← r'.len]
    cases hz : ρ.length with
    | zero => exact Nat.zero_le _
    | succ m =>
      have e : ρ[m]? = some (ρ[m]'(by omega)) := List.getElem?_eq_getElem (by omega)
      have := (List.getElem?_eq_some_iff.mp (n.pre _ _ e)).1
      omega
  have tk : ∀ {i : Nat} {m : MO}, (G'.take G.length)[i]? = some m → i < G.length ∧ G'[i]? = some m := by
    intro i m e
    have l : i < G.length := by
      have := (List.getElem?_eq_some_iff.mp e).1
      rw [List.length_take] at this
      omega
    rw [List.getElem?_take_of_lt l] at e
    exact ⟨l, e⟩
  refine q u ρ H' nx ⟨by rw [List.length_take, r.len]; omega, fun i j a xs ys e1 e2 e3 e4 => ?_, fun i a m e1 e2 => ?_⟩ (v'.free h2)
  · exact r'.nd i j a xs ys (n.pre _ _ e1) (n.pre _ _ e2) (tk e3).2 (tk e4).2
  · exact (r'.at_ i a m (n.pre _ _ e1) (tk e2).2).free (List.all_eq_true.mp h3 _ (List.mem_of_getElem? e2))
theorem FnG.imp {P : Program} {w : World} {mg : Str → Option Value} {base : Heap} {CX : CXT} {k : Nat} {f : Addr} {fd : FuncData} {ps : List Str} {sp sp' : Sp} (F : FnG P w K mg base CX k f fd ps sp) (h : ∀ vs H Q E, sp' vs H Q E → sp vs H Q E) : FnG P w K mg base CX k f fd ps sp' :=
  ⟨fun vs H Q E q => F.len vs H Q E (h _ _ _ _ q), fun B fr st H ar us vs Q E hr hg e0 hb r q => F.go B fr st H ar us vs Q E hr hg e0 hb r (h _ _ _ _ q)⟩
end
section
variable {P : Pg} {Γ : List FD} {prog : Program} {w : World} {K : PySem.W.Frag} {mg : Str → Option Value} {base : Heap} {top : Nat → Stmt}
theorem fn_ok {k : Nat} (pf : PF P mg) (co : CallOk P prog w K mg base (callF Γ k) k) {d : FD} {f : Addr} {fd : FuncData} (h : FHas K mg P top d f fd) (ok : okF P top d = true) {as : List IV} {G G' : GH} {v : IV} (la : as.length = d.ps.length)
    (ev : runF (callF Γ k) d as G = some (v, G')) : FnG prog w K mg base CX0 (k + 1) f fd d.ps (spOf K as G v G') := by
  unfold runF at ev
  unfold okF at ok
  simp only [Bool.and_eq_true, decide_eq_true_eq] at ok
  obtain ⟨⟨o1, o2⟩, o3⟩ := ok
  have sc := scope_of o1
  refine okG h.fn sc (fun us H Q E sp => ?_) fun cdv B fr s H us Q E hr hg sp => ?_
  · obtain ⟨ρ, _, r, _⟩ := sp
    rw [r.length, la]
  · obtain ⟨ρ, r, rv, q⟩ := sp
    let X := (cxOf CX0 prog w K mg base d.N d.name (defScope (top d.at_)) f cdv B fr s H E).nox
    have O : Ok P (callF Γ k) k ⟨d.N, defScope (top d.at_), true⟩ X := ⟨rfl, rfl, sc.nd, rfl, hr, hg, rfl, fun _ _ => rfl, pf, co⟩
    refine ⟨wB X (defBody (top d.at_)), pss_w, ?_⟩
    have at0 : At X ρ (start d.N us) H (startI d.N as) G := by
      refine ⟨er_start rv, r, ?_⟩
      show (us.map some ++ List.replicate (d.N.length - us.length) none).length = d.N.length
      rw [List.length_append, List.length_map, List.length_replicate, rv.length, la]
      omega
    split at ev
    · rename_i v1 G1 e1
      cases ev
      exact sndB P (callF Γ k) k d.body _ _ X O o2 _ _ _ e1 ρ _ H at0 _ fun u ρ1 H1 n1 r1 v1 => q u ρ1 H1 n1 r1 v1
    · rename_i ε1 G1 e1
      cases ev
      exact sndB P (callF Γ k) k d.body _ _ X O o2 _ _ _ e1 ρ _ H at0 _ fun ρ1 σ1 H1 n1 a1 => q .non ρ1 H1 n1 a1.h .non
    · cases ev
theorem trim_ok {k : Nat} (pf : PF P mg) (co : CallOk P prog w K mg base (callF Γ k) k) {d : FD} {f : Addr} {fd : FuncData} (h : FHas K mg P top d f fd) (ok : okF P top d = true) {as : List IV} {G G' : GH} {v : IV} (la : as.length = d.ps.length)
    (ev : trim G.length (runF (callF Γ k) d as G) = some (v, G')) : FnG prog w K mg base CX0 (k + 1) f fd d.ps (spOf K as G v G') := by
  cases e : runF (callF Γ k) d as G with
  | none => rw [e] at ev; simp only [trim] at ev; cases ev
  | some z =>
    obtain ⟨v1, G1⟩ := z
    rw [e] at ev
    simp only [trim] at ev
    have F := fn_ok pf co h ok la e
    split at ev
    · rename_i c
      simp only [Option.some.injEq, Prod.mk.injEq] at ev
      obtain ⟨rfl, rfl⟩ := ev
      rw [Bool.and_eq_true] at c
      exact F.imp fun vs H Q E q => sp_trim c.1 c.2 q
    · simp only [Option.some.injEq, Prod.mk.injEq] at ev
      obtain ⟨rfl, rfl⟩ := ev
      exact F
theorem call_ok {k : Nat} (pf : PF P mg) (co : CallOk P prog w K mg base (callF Γ k) k) {d : FD} {f : Addr} {fd : FuncData} (h : FHas K mg P top d f fd) (ok : okF P top d = true) {as : List IV} {G G' : GH} {v : IV} (la : as.length = d.ps.length)
    (ev : (if noRefs as = true then pureF (callF Γ k) d as G else trim G.length (runF (callF Γ k) d as G)) = some (v, G')) : FnG prog w K mg base CX0 (k + 1) f fd d.ps (spOf K as G v G') := by
  by_cases c : noRefs as = true
  · rw [if_pos c] at ev
    unfold pureF at ev
    split at ev
    · rename_i v1 G1 e1
      split at ev
      · rename_i c2
        simp only [Option.some.injEq, Prod.mk.injEq] at ev
        obtain ⟨rfl, rfl⟩ := ev
        exact (fn_ok pf co h ok la e1).imp fun vs H Q E q => sp_pure c c2 q
      · exact trim_ok pf co h ok la ev
    · cases ev
  · rw [if_neg c] at ev
    exact trim_ok pf co h ok la ev
theorem calls_ok (pf : PF P mg) (nm : P.fns = Γ.map (·.name)) (has : ∀ d ∈ Γ, ∃ f fd, FHas K mg P top d f fd) (ok : ∀ d ∈ Γ, okF P top d = true) : ∀ k, CallOk P prog w K mg base (callF Γ k) k := by
  intro k
  induction k with
  | zero =>
    intro f x as G v G' _ ev
    simp only [callF] at ev
    cases ev
  | succ k ih =>
    intro f x as G v G' hx ev
    simp only [callF] at ev
    split at ev
    · cases ev
    · rename_i d hd
      split at ev
      · rename_i la
        have hm : d ∈ Γ := List.mem_of_getElem? hd
        have hn : d.name = x := by
          rw [nm, List.getElem?_map, hd] at hx
          exact Option.some.inj hx
        subst hn
        obtain ⟨fa, fd, h⟩ := has d hm
        exact ⟨fa, fd, d.ps, h.mg, h.fn.kp, h.bi, call_ok pf ih h (ok d hm) la ev, h.kb⟩
      · cases ev
/-- the law's own def -/
theorem law_ok {k : Nat} (pf : PF P mg) (nm : P.fns = Γ.map (·.name)) (has : ∀ d ∈ Γ, ∃ f fd, FHas K mg P top d f fd) (ok : ∀ d ∈ Γ, okF P top d = true) {d : FD} {f : Addr} {fd : FuncData} (h : FHas K mg P top d f fd) (okd : okF P top d = true) (one : d.ps.length = 1)
    (run : ∀ ns : List Int, ns.length ≤ 63 → ∃ G', runF (callF Γ k) d [.ref 0] [.scr (ns.map IV.int)] = some (.bl true, G')) :
    FnG prog w K mg base CX0 (k + 1) f fd d.ps (fun us H Q _ => ∃ (a : Addr) (ns : List Int), us = [.ref a] ∧ SqL K H a (ns.map V.int) ∧ (∀ b o, H b = some o → ∃ ob u, o = .frz ob u) ∧ ns.length ≤ 63 ∧ ∀ H', Q (.bl true) H') := by
  have co := calls_ok (prog := prog) (w := w) (base := base) pf nm has ok k
  refine ⟨fun us H Q E sp => ?_, fun B fr st H ar us vs Q E hr hg e0 hb r sp => ?_⟩
  · obtain ⟨a, ns, rfl, _⟩ := sp
    rw [one]; rfl
  · obtain ⟨a, ns, rfl, sq, fz, l, q⟩ := sp
    obtain ⟨G', ev⟩ := run ns l
    refine (fn_ok pf co h okd (by rw [one]; rfl) ev).go B fr st H ar us _ Q E hr hg e0 hb r ⟨[a], ⟨rfl, ?_, ?_⟩, .cons (.ref rfl) .nil, fun u ρ' H' _ _ v => ?_⟩
    · intro n m b xs ys _ _ h3 _
      cases n with
      | zero => cases h3
      | succ n => cases h3
    · intro n b m h1 h2
      cases n with
      | succ n => cases h2
      | zero =>
        cases h1
        cases h2
        refine .scr (vs := ns.map V.int) ?_ (VRs.ofInts ns)
        rcases sq with (sq | ⟨o, sq⟩) | sq
        · obtain ⟨ob, u, e⟩ := fz _ _ sq
          cases e
        · exact .inl ⟨o, sq⟩
        · exact .inr (.inr sq)
    · cases v
      exact q H'
end
end Lk
namespace Lk
open PySem PySem.Spec PyProof.Rows L2
def b_law_pot (c0 c1 c2 c3 c4 : Int) : CB := .cons (.set (.nm 2) (.ite (.cmp .lt (.v 1) (.bi .len (.cons (.v 0) .nil))) (.ix (.v 0) (.v 1)) (.bin .add (.bin .add (.bin .mod (.bi .sum (.cons (.sl (.v 0) .no (.ex (.c (.int 1)))) .nil)) (.c (.int 1000003))) (.bin .mul (.c (.int c0)) (.v 1))) (.c (.int c1))))) (.cons (.set (.nm 3) (.bin .mul (.bin .mod (.bi .int (.cons (.bi .abs (.cons (.v 2) .nil)) .nil)) (.bin .pow (.bin .pow (.c (.int 10)) (.c (.int 60))) (.c (.int 5)))) (.bi .int (.cons (.cmp .ge (.bi .abs (.cons (.v 2) .nil)) (.bin .pow (.c (.int 10)) (.c (.int 18)))) .nil)))) (.cons (.set (.nm 4) (.bin .mod (.bi .int (.cons (.v 2) .nil)) (.c (.int 2305843009213693951)))) (.cons (.ret (.lst (.cons (.v 3) (.cons (.bin .mod (.bi .int (.cons (.bin .add (.bin .add (.bin .mul (.v 4) (.c (.int c2))) (.bin .mul (.bin .mul (.c (.int c3)) (.v 1)) (.v 1))) (.c (.int c4))) .nil)) (.c (.int 2305843009213693921))) (.cons (.c (.int 0)) .nil))))) .nil)))
def b_law_take (c0 c1 c2 c3 : Int) : CB := .cons (.ife (.cmp .gt (.ix (.v 0) (.c (.int 0))) (.c (.int 0))) (.cons (.set (.nm 2) (.bin .mod (.bi .int (.cons (.ix (.v 0) (.c (.int 0))) .nil)) (.v 1))) (.cons (.set (.sub (.v 0) (.c (.int 0))) (.bin .div (.ix (.v 0) (.c (.int 0))) (.v 1))) (.cons (.ret (.v 2)) .nil))) (.nil)) (.cons (.set (.sub (.v 0) (.c (.int 2))) (.bin .add (.ix (.v 0) (.c (.int 2))) (.c (.int 1)))) (.cons (.set (.nm 3) (.ix (.lst (.cons (.c (.int 2147483647)) (.cons (.c (.int 2147483629)) (.cons (.c (.int 2147483587)) (.cons (.c (.int 2147483579)) (.cons (.c (.int 2147483563)) .nil)))))) (.bin .mod (.bi .int (.cons (.ix (.v 0) (.c (.int 2))) .nil)) (.c (.int 5))))) (.cons (.set (.nm 4) (.bin .mod (.bi .int (.cons (.bin .pow (.bi .int (.cons (.bin .add (.bin .add (.ix (.v 0) (.c (.int 1))) (.bin .mul (.bin .mul (.c (.int c0)) (.ix (.v 0) (.c (.int 2)))) (.ix (.v 0) (.c (.int 2))))) (.c (.int c1))) .nil)) (.c (.int 3))) .nil)) (.v 3))) (.cons (.set (.nm 4) (.bin .mod (.bi .int (.cons (.bin .mul (.v 4) (.bin .add (.bin .mod (.bi .int (.cons (.v 4) .nil)) (.c (.int c2))) (.bin .mul (.c (.int c3)) (.ix (.v 0) (.c (.int 2)))))) .nil)) (.c (.int 2305843009213693907)))) (.cons (.ret (.bin .mod (.bi .int (.cons (.bin .div (.v 4) (.c (.int 167))) .nil)) (.v 1))) .nil)))))
theorem log2_lt {i : Int} {n : Nat} (h0 : 0 < n) (h : i.natAbs < 2 ^ n) : i.natAbs.log2 < n := PySem.Flt.log2_lt_of h0 h
theorem its_lst {xs : List IV} : (MO.lst xs).its = xs := rfl
theorem its_scr {xs : List IV} : (MO.scr xs).its = xs := rfl
theorem at0 {x : IV} {r : List IV} : atI (x :: r) 0 = some x := atI_nat (j := 0) rfl
theorem at1 {x y : IV} {r : List IV} : atI (x :: y :: r) 1 = some y := atI_nat (j := 1) rfl
theorem at2 {x y z : IV} {r : List IV} : atI (x :: y :: z :: r) 2 = some z := atI_nat (j := 2) rfl
theorem ix0 {n : Nat} : ixN (n + 1) 0 = some 0 := by unfold ixN; rw [if_pos (by omega), if_pos (by omega)]; rfl
theorem ix1 {n : Nat} : ixN (n + 2) 1 = some 1 := by unfold ixN; rw [if_pos (by omega), if_pos (by omega)]; rfl
theorem ix2 {n : Nat} : ixN (n + 3) 2 = some 2 := by unfold ixN; rw [if_pos (by omega), if_pos (by omega)]; rfl
local macro_rules | `(tactic| walk_at "ev") => `(tactic| simp [exB, exS, startI, evE, evL, evP, evQ, evI, asT, asTs, fIx, at0, at1, at2, ix0, ix1, ix2, CO.f, BO.f, fGt, fLt, fLe, fGe, fAdd, fSub, fMul, fDiv, fMod, fPow, fAddA, fNeg, onInts, BI.run, fInt, fAbs, fLen, fSum, lstOf, itsOf, its_lst, its_scr, lim, *])
theorem set_at {G : GH} {p : Nat} {m m' : MO} (h : G[p]? = some m) : (G.set p m')[p]? = some m' := List.getElem?_set_self (List.getElem?_eq_some_iff.mp h).1
theorem app_at {G Z : GH} {p : Nat} {m : MO} (h : G[p]? = some m) : (G ++ Z)[p]? = some m := by
  rw [List.getElem?_append_left (List.getElem?_eq_some_iff.mp h).1]; exact h
/-- a drawn number: what holds of a pot -/
structure Pot (a b c : Int) (n : Nat) : Prop where
  a0 : 0 ≤ a
  a1 : a < 2 ^ 1000
  b0 : 0 ≤ b
  b1 : b < 2 ^ 61
  c0 : 0 ≤ c
  c1 : c ≤ n
def mulB (i j : Int) : Bool := decide (i.natAbs.log2 + j.natAbs.log2 < 1000000)
theorem mul_ok {i j : Int} {a b : Nat} (ha : i.natAbs < 2 ^ a) (hb : j.natAbs < 2 ^ b) (h0 : 0 < a) (h1 : 0 < b) (h : a + b ≤ 1000000) : i.natAbs.log2 + j.natAbs.log2 < 1000000 := wide_mul ha hb h0 h1 h
theorem prime_at (x : Int) : ∃ q : Int, atI [IV.int 2147483647, .int 2147483629, .int 2147483587, .int 2147483579, .int 2147483563] (x % 5) = some (.int q) ∧ 0 < q ∧ q < 2 ^ 31 := by
  have h0 := Int.emod_nonneg x (show (5 : Int) ≠ 0 by decide)
  have h1 := Int.emod_lt_of_pos x (show (0 : Int) < 5 by decide)
  have h : x % 5 = 0 ∨ x % 5 = 1 ∨ x % 5 = 2 ∨ x % 5 = 3 ∨ x % 5 = 4 := by omega
  rcases h with h | h | h | h | h <;> rw [h]
  · exact ⟨2147483647, rfl, by decide, by decide⟩
  · exact ⟨2147483629, rfl, by decide, by decide⟩
  · exact ⟨2147483587, rfl, by decide, by decide⟩
  · exact ⟨2147483579, rfl, by decide, by decide⟩
  · exact ⟨2147483563, rfl, by decide, by decide⟩
theorem abs_lt {x : Int} {n : Nat} (h0 : 0 ≤ x) (h : x < 2 ^ n) : x.natAbs < 2 ^ n := by
  have e : ((2 ^ n : Nat) : Int) = 2 ^ n := by simp
  omega
theorem run_take (call : Nat → List IV → GH → RO) (p n : Nat) (a b c u c0 c1 c2 c3 : Int) (G : GH) (name : Str) (ps : List Str) (at_ : Nat) (hG : G[p]? = some (.lst [.int a, .int b, .int c])) (P : Pot a b c n) (hn : n ≤ 1000000) (hu : 0 < u) (hu2 : u < 2 ^ 60)
    (k0 : 0 ≤ c0 ∧ c0 < 2 ^ 20) (k1 : 0 ≤ c1 ∧ c1 < 2 ^ 20) (k2 : 0 < c2 ∧ c2 < 2 ^ 20) (k3 : 0 ≤ c3 ∧ c3 < 2 ^ 20) :
    ∃ r a' c', 0 ≤ r ∧ r < u ∧ Pot a' b c' (n + 1) ∧ ∃ Z, runF call ⟨name, ps, ["pot", "upto", "digit", "prime", "blend"], at_, b_law_take c0 c1 c2 c3⟩ [.ref p, .int u] G = some (.int r, G.set p (.lst [.int a', .int b, .int c']) ++ Z) := by
  have h2 : u.natAbs.log2 < 9000 := by
    have := log2_lt (i := u) (n := 60) (by decide) (by omega)
    omega
  by_cases ha : 0 < a
  · refine ⟨a % u, a / u, c, Int.emod_nonneg _ (by omega), Int.emod_lt_of_pos _ hu, ⟨Int.ediv_nonneg (by omega) (by omega), ?_, P.b0, P.b1, P.c0, by have := P.c1; omega⟩, [], ?_⟩
    · exact Int.lt_of_le_of_lt (Int.ediv_le_self _ (by omega)) P.a1
    · unfold b_law_take runF
      walk_at "ev"
  · obtain ⟨q, hq, q0, q1⟩ := prime_at (c + 1)
    have := P.b0; have := P.b1; have := P.c0; have := P.c1
    have hG1 : (G.set p (.lst [.int a, .int b, .int (c + 1)]))[p]? = some (.lst [.int a, .int b, .int (c + 1)]) := set_at hG
    have hG2 : (G.set p (.lst [.int a, .int b, .int (c + 1)]) ++ [.lst [.int 2147483647, .int 2147483629, .int 2147483587, .int 2147483579, .int 2147483563]])[p]? = some (.lst [.int a, .int b, .int (c + 1)]) := app_at hG1
    -- the numbers and their bounds
    have m1 : c0 * (c + 1) < 2 ^ 40 := by
      have : c0 * (c + 1) ≤ (2 ^ 20 - 1) * (2 ^ 20) := Int.mul_le_mul (by omega) (by omega) (by omega) (by decide)
      omega
    have m0 : 0 ≤ c0 * (c + 1) := Int.mul_nonneg k0.1 (by omega)
    have m3 : c0 * (c + 1) * (c + 1) < 2 ^ 62 := by
      have : c0 * (c + 1) * (c + 1) ≤ 2 ^ 40 * 2 ^ 20 := Int.mul_le_mul (by omega) (by omega) (by omega) (by decide)
      omega
    have m2 : 0 ≤ c0 * (c + 1) * (c + 1) := Int.mul_nonneg m0 (by omega)
    generalize hx : b + c0 * (c + 1) * (c + 1) + c1 = x
    have x0 : 0 ≤ x := by omega
    have x1 : x < 2 ^ 63 := by omega
    generalize hy : x ^ 3 % q = y
    have y0 : 0 ≤ y := by rw [← hy]; exact Int.emod_nonneg _ (by omega)
    have y1 : y < 2 ^ 31 := by
      have := Int.emod_lt_of_pos (x ^ 3) q0
      omega
    have z0 : 0 ≤ y % c2 := Int.emod_nonneg _ (by omega)
    have z1 : y % c2 < 2 ^ 20 := by
      have := Int.emod_lt_of_pos y k2.1
      omega
    have w0 : 0 ≤ c3 * (c + 1) := Int.mul_nonneg k3.1 (by omega)
    have w1 : c3 * (c + 1) < 2 ^ 41 := by
      have : c3 * (c + 1) ≤ (2 ^ 20 - 1) * (2 ^ 20) := Int.mul_le_mul (by omega) (by omega) (by omega) (by decide)
      omega
    refine ⟨(y * (y % c2 + c3 * (c + 1)) % 2305843009213693907 / 167) % u, a, c + 1, Int.emod_nonneg _ (by omega), Int.emod_lt_of_pos _ hu, ⟨P.a0, P.a1, P.b0, P.b1, by omega, by omega⟩, [.lst [.int 2147483647, .int 2147483629, .int 2147483587, .int 2147483579, .int 2147483563]], ?_⟩
    have o1 : c0.natAbs.log2 + (c + 1).natAbs.log2 < 1000000 := mul_ok (a := 20) (b := 20) (abs_lt k0.1 k0.2) (abs_lt (by omega) (by omega)) (by decide) (by decide) (by decide)
    have o2 : (c0 * (c + 1)).natAbs.log2 + (c + 1).natAbs.log2 < 1000000 := mul_ok (a := 40) (b := 20) (abs_lt m0 m1) (abs_lt (by omega) (by omega)) (by decide) (by decide) (by decide)
    have o3 : c3.natAbs.log2 + (c + 1).natAbs.log2 < 1000000 := mul_ok (a := 20) (b := 20) (abs_lt k3.1 k3.2) (abs_lt (by omega) (by omega)) (by decide) (by decide) (by decide)
    have o4 : y.natAbs.log2 + (y % c2 + c3 * (c + 1)).natAbs.log2 < 1000000 := mul_ok (a := 31) (b := 42) (abs_lt y0 y1) (abs_lt (by omega) (by omega)) (by decide) (by decide) (by decide)
    have o5 : (Builtin.Int.intBits x : Int) * 3 ≤ 134217728 := by
      have b1 : Builtin.Int.intBits x ≤ x.natAbs.log2 + 1 := by
        unfold Builtin.Int.intBits
        split <;> omega
      have := log2_lt (i := x) (n := 63) (by decide) (abs_lt x0 x1)
      omega
    have o6 : Nat.log2 167 < 9000 := by decide
    have ha' : ¬ (0 < a) := ha
    unfold b_law_take runF
    have hq' := hq
    walk_at "ev"
    done
theorem atI_scr {ns : List Int} {i : Int} (h0 : 0 ≤ i) (h1 : i < ns.length) : ∃ x, atI (ns.map IV.int) i = some (.int x) := by
  refine ⟨ns[i.toNat]'(by omega), ?_⟩
  have := atI_nat (xs := ns.map IV.int) (j := i.toNat) (v := .int (ns[i.toNat]'(by omega))) (by rw [List.getElem?_map, List.getElem?_eq_getElem (by omega)]; rfl)
  rwa [Int.toNat_of_nonneg h0] at this
theorem asInts_map : ∀ ns : List Int, asInts (ns.map IV.int) = some ns
  | [] => rfl
  | n :: r => by rw [List.map_cons]; simp only [asInts, asInts_map r]
theorem cut1 (ns : List Int) : cutI (ns.map IV.int) none (some 1) = (ns.take 1).map IV.int := by
  unfold cutI
  rw [HT.sIx_none]
  have : HT.sIx (ns.map IV.int).length (ns.map IV.int).length (some 1) = min 1 (ns.map IV.int).length := HT.sIx_nat _ _ 1
  rw [this, List.drop_zero, Nat.sub_zero, List.map_take]
  cases ns with
  | nil => rfl
  | cons a r =>
    rw [List.map_cons, List.length_cons, Nat.min_eq_left (by omega)]
def bigT : Int := 10 ^ 60
def bigB : Int := bigT ^ 5
def bigE : Int := 10 ^ 18
theorem pow1 {G : GH} : BO.f .pow (.int 10) (.int 60) G = some (.int bigT, G) := by
  show fPow _ _ G = _
  unfold fPow onInts
  exact if_pos (by decide +kernel)
theorem pow2 {G : GH} : BO.f .pow (.int bigT) (.int 5) G = some (.int bigB, G) := by
  show fPow _ _ G = _
  unfold fPow onInts
  exact if_pos (by decide +kernel)
theorem pow3 {G : GH} : BO.f .pow (.int 10) (.int 18) G = some (.int bigE, G) := by
  show fPow _ _ G = _
  unfold fPow onInts
  exact if_pos (by decide +kernel)
theorem bo_add : BO.add.f = fAddA := rfl
theorem bo_sub : BO.sub.f = fSub := rfl
theorem bo_mul : BO.mul.f = fMul := rfl
theorem bo_div : BO.div.f = fDiv := rfl
theorem bo_mod : BO.mod.f = fMod := rfl
theorem bigB_pos : 0 < bigB := by decide +kernel
theorem bigB_lt : bigB < 2 ^ 997 := by decide +kernel
theorem abs_nn (x : Int) : 0 ≤ (if x < 0 then -x else x) := by split <;> omega
theorem pot_own (x : Int) : 0 ≤ (if x < 0 then -x else x) % bigB ∧ (if x < 0 then -x else x) % bigB < 2 ^ 997 :=
  ⟨Int.emod_nonneg _ (Int.ne_of_gt bigB_pos), Int.lt_trans (Int.emod_lt_of_pos _ bigB_pos) bigB_lt⟩
theorem run_pot (call : Nat → List IV → GH → RO) (s : Nat) (place c0 c1 c2 c3 c4 : Int) (ns : List Int) (G : GH) (name : Str) (ps : List Str) (at_ : Nat) (hG : G[s]? = some (.scr (ns.map IV.int))) (hn : ns.length ≤ 63) (hp : 0 ≤ place ∧ place ≤ 100)
    (k0 : 0 ≤ c0 ∧ c0 < 2 ^ 20) (k1 : 0 ≤ c1 ∧ c1 < 2 ^ 20) (k2 : 0 ≤ c2 ∧ c2 < 2 ^ 20) (k3 : 0 ≤ c3 ∧ c3 < 2 ^ 20) (k4 : 0 ≤ c4 ∧ c4 < 2 ^ 20) :
    ∃ a b Z m, Pot a b 0 0 ∧ G.length ≤ m ∧ (G ++ Z)[m]? = some (.lst [.int a, .int b, .int 0]) ∧ runF call ⟨name, ps, ["script", "place", "cell", "own", "small"], at_, b_law_pot c0 c1 c2 c3 c4⟩ [.ref s, .int place] G = some (.ref m, G ++ Z) := by
  -- the cell
  have core : ∀ (x : Int) (G1 : GH), ∃ a b, Pot a b 0 0 ∧ exB call (.cons (.set (.nm 3) (.bin .mul (.bin .mod (.bi .int (.cons (.bi .abs (.cons (.v 2) .nil)) .nil)) (.bin .pow (.bin .pow (.c (.int 10)) (.c (.int 60))) (.c (.int 5)))) (.bi .int (.cons (.cmp .ge (.bi .abs (.cons (.v 2) .nil)) (.bin .pow (.c (.int 10)) (.c (.int 18)))) .nil)))) (.cons (.set (.nm 4) (.bin .mod (.bi .int (.cons (.v 2) .nil)) (.c (.int 2305843009213693951)))) (.cons (.ret (.lst (.cons (.v 3) (.cons (.bin .mod (.bi .int (.cons (.bin .add (.bin .add (.bin .mul (.v 4) (.c (.int c2))) (.bin .mul (.bin .mul (.c (.int c3)) (.v 1)) (.v 1))) (.c (.int c4))) .nil)) (.c (.int 2305843009213693921))) (.cons (.c (.int 0)) .nil))))) .nil)))
      [some (.ref s), some (.int place), some (.int x), none, none] G1 = some (.rt (.ref G1.length) (G1 ++ [.lst [.int a, .int b, .int 0]])) := by
    intro x G1
    obtain ⟨o0, o1⟩ := pot_own x
    have s0 := Int.emod_nonneg x (show (2305843009213693951 : Int) ≠ 0 by decide)
    have s1 := Int.emod_lt_of_pos x (show (0 : Int) < 2305843009213693951 by decide)
    have hb : ∀ t : Int, 0 ≤ t % 2305843009213693921 ∧ t % 2305843009213693921 < 2 ^ 61 := fun t => ⟨Int.emod_nonneg _ (by decide), Int.lt_trans (Int.emod_lt_of_pos t (by decide)) (by decide)⟩
    have p2 : c3 * place < 2 ^ 30 := by
      have : c3 * place ≤ 2 ^ 20 * 100 := Int.mul_le_mul (by omega) (by omega) (by omega) (by decide)
      omega
    have p3 : 0 ≤ c3 * place := Int.mul_nonneg k3.1 hp.1
    have q1 : (x % 2305843009213693951).natAbs.log2 + c2.natAbs.log2 < 1000000 := mul_ok (a := 61) (b := 20) (abs_lt s0 (by omega)) (abs_lt k2.1 k2.2) (by decide) (by decide) (by decide)
    have q2 : c3.natAbs.log2 + place.natAbs.log2 < 1000000 := mul_ok (a := 20) (b := 20) (abs_lt k3.1 k3.2) (abs_lt hp.1 (by omega)) (by decide) (by decide) (by decide)
    have q3 : (c3 * place).natAbs.log2 + place.natAbs.log2 < 1000000 := mul_ok (a := 30) (b := 20) (abs_lt p3 p2) (abs_lt hp.1 (by omega)) (by decide) (by decide) (by decide)
    generalize hy : (if x < 0 then -x else x) = y
    rw [hy] at o0 o1
    have g : ∀ b : Bool, (y % bigB).natAbs.log2 + (if b = true then (1 : Int) else 0).natAbs.log2 < 1000000 := fun b => mul_ok (a := 997) (b := 2) (abs_lt o0 o1) (by cases b <;> decide) (by decide) (by decide) (by decide)
    have g2 : ∀ b : Bool, 0 ≤ (y % bigB) * (if b = true then (1 : Int) else 0) ∧ (y % bigB) * (if b = true then (1 : Int) else 0) < 2 ^ 1000 := by
      intro b
      have z : (2 : Int) ^ 997 < 2 ^ 1000 := by decide +kernel
      cases b
      · rw [if_neg Bool.false_ne_true, Int.mul_zero]; exact ⟨Int.le_refl _, by decide +kernel⟩
      · rw [if_pos rfl, Int.mul_one]; exact ⟨o0, Int.lt_trans o1 z⟩
    refine ⟨(y % bigB) * (if decide (bigE ≤ y) = true then (1 : Int) else 0), (x % 2305843009213693951 * c2 + c3 * place * place + c4) % 2305843009213693921, ⟨(g2 _).1, (g2 _).2, (hb _).1, (hb _).2, Int.le_refl _, Int.le_refl _⟩, ?_⟩
    have g' := g (decide (bigE ≤ y))
    have bp := bigB_pos
    have g3 : (y % bigB).natAbs.log2 + (if bigE ≤ y then (1 : Int) else 0).natAbs.log2 < 1000000 := by simpa using g'
    clear g g2 hb
    simp [exB, exS, evE, evL, asT, bo_add, bo_mul, bo_mod, pow1, pow2, pow3, CO.f, fAddA, fAdd, fMul, fMod, fGe, onInts, BI.run, fInt, fAbs, hy, lim, q1, q2, q3, bp, g3]
  -- the first statement
  have first : ∃ x Z0, exS call (.set (.nm 2) (.ite (.cmp .lt (.v 1) (.bi .len (.cons (.v 0) .nil))) (.ix (.v 0) (.v 1)) (.bin .add (.bin .add (.bin .mod (.bi .sum (.cons (.sl (.v 0) .no (.ex (.c (.int 1)))) .nil)) (.c (.int 1000003))) (.bin .mul (.c (.int c0)) (.v 1))) (.c (.int c1))))) [some (.ref s), some (.int place), none, none, none] G =
      some (.nx [some (.ref s), some (.int place), some (.int x), none, none] (G ++ Z0)) := by
    by_cases c : place < ns.length
    · obtain ⟨x, hx⟩ := atI_scr hp.1 c
      refine ⟨x, [], ?_⟩
      simp [exS, evE, evL, asT, CO.f, fLt, onInts, BI.run, fLen, itsOf, hG, its_scr, c, fIx, hx]
    · have q2 : c0.natAbs.log2 + place.natAbs.log2 < 1000000 := mul_ok (a := 20) (b := 20) (abs_lt k0.1 k0.2) (abs_lt hp.1 (by omega)) (by decide) (by decide) (by decide)
      have at' : (G ++ [MO.lst ((ns.take 1).map IV.int)])[G.length]? = some (.lst ((ns.take 1).map IV.int)) := by
        rw [List.getElem?_append_right (Nat.le_refl _), Nat.sub_self]; rfl
      refine ⟨(ns.take 1).sum % 1000003 + c0 * place + c1, [.lst ((ns.take 1).map IV.int)], ?_⟩
      simp only [exS, evE, evL, evP, asT, CO.f, fLt, onInts, BI.run, fLen, itsOf, hG, its_scr, List.length_map, c, decide_false, if_true, List.getElem?_cons_zero, List.getElem?_cons_succ, fSl, cut1, fSum, lstOf, at', its_lst, asInts_map, bo_mod, bo_add, bo_mul, fMod, fMul, fAddA, fAdd, q2, decide_true, List.set_cons_zero, List.set_cons_succ, Int.lt_irrefl]
      simp
  obtain ⟨x, Z0, e0⟩ := first
  obtain ⟨a, b, P, e1⟩ := core x (G ++ Z0)
  refine ⟨a, b, Z0 ++ [.lst [.int a, .int b, .int 0]], (G ++ Z0).length, P, by rw [List.length_append]; omega, ?_, ?_⟩
  · rw [← List.append_assoc, List.getElem?_append_right (Nat.le_refl _), Nat.sub_self]; rfl
  · unfold runF b_law_pot
    have st : startI ["script", "place", "cell", "own", "small"] [IV.ref s, .int place] = [some (.ref s), some (.int place), none, none, none] := rfl
    rw [st]
    rw [exB, e0]
    simp only [e1, List.append_assoc]
end Lk
namespace Lk
open PySem PySem.Spec PyProof.Rows L2
local macro_rules | `(tactic| walk_at "ev") => `(tactic| simp [exB, exS, startI, evE, evL, evP, evQ, evI, asT, asTs, fIx, at0, at1, at2, ix0, ix1, ix2, CO.f, BO.f, fGt, fLt, fLe, fGe, fAdd, fSub, fMul, fDiv, fMod, fPow, fAddA, fNeg, onInts, BI.run, fInt, fAbs, fLen, fSum, lstOf, itsOf, its_lst, its_scr, lim, *])
/-! ### calls without mutables -/
theorem pure_ret {call : Nat → List IV → GH → RO} {d : FD} {vs : List IV} {v : IV} {G' : GH} (h : runF call d vs [] = some (v, G')) (nv : noRef v = true) (G : GH) : pureF call d vs G = some (v, G) := by
  unfold pureF
  rw [h]
  simp only [nv, if_true]
theorem callF_pure {Γ : List FD} {k j : Nat} {vs : List IV} {d : FD} (hd : Γ[j]? = some d) (l : vs.length = d.ps.length) (nr : noRefs vs = true) (G : GH) : callF Γ (k + 1) j vs G = pureF (callF Γ k) d vs G := by
  rw [callF, hd]
  simp only [l, nr, if_true]
theorem callF_refs {Γ : List FD} {k j : Nat} {vs : List IV} {d : FD} (hd : Γ[j]? = some d) (l : vs.length = d.ps.length) (nr : noRefs vs = false) (G : GH) : callF Γ (k + 1) j vs G = trim G.length (runF (callF Γ k) d vs G) := by
  rw [callF, hd]
  simp only [l, nr, if_true, Bool.false_eq_true, if_false]
theorem callP {Γ : List FD} {k j : Nat} {vs : List IV} {d : FD} {v : IV} {G' : GH} (hd : Γ[j]? = some d) (l : vs.length = d.ps.length) (nr : noRefs vs = true) (h : runF (callF Γ k) d vs [] = some (v, G')) (nv : noRef v = true) (G : GH) : callF Γ (k + 1) j vs G = some (v, G) := by
  rw [callF_pure hd l nr]
  exact pure_ret h nv G
theorem trim_ref {n m : Nat} {G : GH} : trim n (some (IV.ref m, G)) = some (IV.ref m, G) := rfl
theorem trim_some (n : Nat) (v : IV) (G : GH) : ∃ G', trim n (some (v, G)) = some (v, G') := by
  unfold trim
  by_cases c : (noRef v && (G.take n).all MO.pure) = true
  · exact ⟨_, if_pos c⟩
  · exact ⟨_, if_neg c⟩
/-! ### the greatest number that divides both -/
def gI (a b : Int) : Int := (Nat.gcd a.natAbs b.natAbs : Nat)
theorem gI_step {x y : Int} (h0 : 0 ≤ x) (h1 : 0 < y) : gI y (x % y) = gI x y := by
  unfold gI
  congr 1
  have e : (x % y).natAbs = x.natAbs % y.natAbs := by
    obtain ⟨a, rfl⟩ := Int.eq_ofNat_of_zero_le h0
    obtain ⟨b, rfl⟩ := Int.eq_ofNat_of_zero_le (Int.le_of_lt h1)
    rfl
  rw [e, Nat.gcd_comm, ← Nat.gcd_rec, Nat.gcd_comm]
theorem gI_zero {x : Int} (h0 : 0 ≤ x) : gI x 0 = x := by
  unfold gI
  rw [Int.natAbs_zero, Nat.gcd_zero_right]
  exact Int.natAbs_of_nonneg h0
def b_law_num_common : CB := .cons (.par 0 1 (.bi .abs (.cons (.v 0) .nil)) (.bi .abs (.cons (.v 1) .nil))) (.cons (.whl (.cmp .gt (.v 1) (.c (.int 0))) (.cons (.par 0 1 (.v 1) (.bin .mod (.bi .int (.cons (.v 0) .nil)) (.v 1))) .nil)) (.cons (.ret (.v 0)) .nil))
theorem whl_common (call : Nat → List IV → GH → RO) : ∀ (fuel : Nat) (x y : Int) (G : GH), 0 ≤ x → 0 ≤ y → y.toNat < fuel →
    whileF (fun ε G => match evE call (.cmp .gt (.v 1) (.c (.int 0))) ε G with
      | some (.bl t, G1) => some (t, G1)
      | _ => none) (fun ε G => exB call (.cons (.par 0 1 (.v 1) (.bin .mod (.bi .int (.cons (.v 0) .nil)) (.v 1))) .nil) ε G) fuel [some (.int x), some (.int y)] G = some (.nx [some (.int (gI x y)), some (.int 0)] G)
  | 0, x, y, G, h0, h1, h2 => absurd h2 (by omega)
  | f + 1, x, y, G, h0, h1, h2 => by
    rw [whileF]
    by_cases hy : 0 < y
    · have ih := whl_common call f y (x % y) G h1 (Int.emod_nonneg x (by omega)) (by have := Int.emod_lt_of_pos x hy; omega)
      rw [gI_step h0 hy] at ih
      have e1 : evE call (.cmp .gt (.v 1) (.c (.int 0))) [some (.int x), some (.int y)] G = some (.bl true, G) := by
        simp [evE, CO.f, fGt, onInts, hy]
      have e2 : exB call (.cons (.par 0 1 (.v 1) (.bin .mod (.bi .int (.cons (.v 0) .nil)) (.v 1))) .nil) [some (.int x), some (.int y)] G = some (.nx [some (.int y), some (.int (x % y))] G) := by
        simp [exB, exS, evE, evL, BO.f, fMod, onInts, BI.run, fInt, hy]
      rw [e1]
      simp only [e2]
      exact ih
    · have : y = 0 := by omega
      subst this
      have e1 : evE call (.cmp .gt (.v 1) (.c (.int 0))) [some (.int x), some (.int 0)] G = some (.bl false, G) := by
        simp [evE, CO.f, fGt, onInts]
      rw [e1]
      simp only [gI_zero h0]
theorem gI_abs (a b : Int) : gI (if a < 0 then -a else a) (if b < 0 then -b else b) = gI a b := by
  unfold gI
  have e : ∀ x : Int, (if x < 0 then -x else x).natAbs = x.natAbs := fun x => by split <;> omega
  rw [e, e]
theorem run_common (call : Nat → List IV → GH → RO) {name : Str} {ps : List Str} {at_ : Nat} (a b : Int) (G : GH) (hb : b.natAbs < wfuel) :
    runF call ⟨name, ps, ["one", "other"], at_, b_law_num_common⟩ [.int a, .int b] G = some (.int (gI a b), G) := by
  have w := whl_common call wfuel (if a < 0 then -a else a) (if b < 0 then -b else b) G (by split <;> omega) (by split <;> omega) (by split <;> omega)
  rw [gI_abs] at w
  have first : exS call (.par 0 1 (.bi .abs (.cons (.v 0) .nil)) (.bi .abs (.cons (.v 1) .nil))) [some (.int a), some (.int b)] G = some (.nx [some (.int (if a < 0 then -a else a)), some (.int (if b < 0 then -b else b))] G) := by
    simp [exS, evE, evL, BI.run, fAbs]
  unfold runF b_law_num_common
  have st : startI ["one", "other"] [IV.int a, .int b] = [some (.int a), some (.int b)] := rfl
  have w2 : exS call (.whl (.cmp .gt (.v 1) (.c (.int 0))) (.cons (.par 0 1 (.v 1) (.bin .mod (.bi .int (.cons (.v 0) .nil)) (.v 1))) .nil)) [some (.int (if a < 0 then -a else a)), some (.int (if b < 0 then -b else b))] G = some (.nx [some (.int (gI a b)), some (.int 0)] G) := by
    rw [exS]
    exact w
  rw [st, exB, first]
  simp only []
  rw [exB, w2]
  simp [exB, exS, evE]
/-! ### weights -/
def wI (a b c : Int) : IV := .tup [.int a, .int b, .int c]
def fI (a b : Int) : IV := .tup [.int a, .int b]
def g3 (a b c : Int) : Int := gI (gI a b) c
/-- least terms -/
def lw (a b c : Int) : IV := wI (a / g3 a b c) (b / g3 a b c) (c / g3 a b c)
def lf (a b : Int) : IV := fI (a / gI a b) (b / gI a b)
theorem gI_pos {a b : Int} (h : 0 < b) : 0 < gI a b := by
  unfold gI
  have := Nat.gcd_pos_of_pos_right a.natAbs (n := b.natAbs) (by omega)
  omega
theorem gI_le {a b : Int} (h : 0 < b) : gI a b ≤ b := by
  unfold gI
  have := Nat.gcd_le_right (n := b.natAbs) a.natAbs (by omega)
  omega
theorem g3_pos {a b c : Int} (h : 0 < c) : 0 < g3 a b c := gI_pos h
theorem g3_le {a b c : Int} (h : 0 < c) : g3 a b c ≤ c := gI_le h
theorem log_le {x y : Int} (h0 : 0 ≤ x) (h : x ≤ y) {n : Nat} (hy : y < 2 ^ n) (hn : 0 < n) : x.natAbs.log2 < n := log2_lt hn (by
  have : (x.natAbs : Int) < ((2 ^ n : Nat) : Int) := by
    rw [Int.natAbs_of_nonneg h0, Int.natCast_pow]
    exact Int.lt_of_le_of_lt h hy
  exact Int.ofNat_lt.mp this)
theorem div_ok {x y : Int} (h0 : 0 < x) (h : x ≤ y) (hy : y < 2 ^ 9000) : (decide (0 < x) && decide (x.natAbs.log2 < 9000)) = true := by
  rw [Bool.and_eq_true, decide_eq_true_eq, decide_eq_true_eq]
  exact ⟨h0, log_le (Int.le_of_lt h0) h hy (by decide)⟩
theorem f_div {i j : Int} {G : GH} (h : (decide (0 < j) && decide (j.natAbs.log2 < 9000)) = true) : fDiv (.int i) (.int j) G = some (.int (i / j), G) := by
  unfold fDiv onInts
  simp only [h, if_true]
theorem wf_of {x : Int} (h0 : 0 ≤ x) (h : x < 2 ^ 9000) : x.natAbs < wfuel := by
  have h1 : (x.natAbs : Int) < ((2 ^ 9000 : Nat) : Int) := by
    rw [Int.natAbs_of_nonneg h0, Int.natCast_pow]; exact h
  have h2 : x.natAbs < 2 ^ 9000 := Int.ofNat_lt.mp h1
  exact Nat.lt_of_lt_of_le h2 (Nat.pow_le_pow_right (by decide) (by decide))
def b_least_weight : CB := .cons (.set (.nm 3) (.gcd (.cons (.gcd (.cons (.v 0) (.cons (.v 1) .nil))) (.cons (.v 2) .nil)))) (.cons (.ret (.tup (.cons (.bin .div (.v 0) (.v 3)) (.cons (.bin .div (.v 1) (.v 3)) (.cons (.bin .div (.v 2) (.v 3)) .nil))))) .nil)
theorem run_least_weight (call : Nat → List IV → GH → RO) {name : Str} {ps : List Str} {at_ : Nat} (a b c : Int) (G : GH) (h0 : 0 < c) (h1 : c < 2 ^ 9000) :
    runF call ⟨name, ps, ["re", "im", "bottom", "shared"], at_, b_least_weight⟩ [.int a, .int b, .int c] G = some (lw a b c, G) := by
  have d : ∀ i, fDiv (.int i) (.int (g3 a b c)) G = some (.int (i / g3 a b c), G) := fun i => f_div (div_ok (g3_pos h0) (g3_le h0) h1)
  have e : fGcd [.int a, .int b] G = some (.int (gI a b), G) := rfl
  have e2 : fGcd [.int (gI a b), .int c] G = some (.int (g3 a b c), G) := rfl
  unfold runF b_least_weight
  have st : startI ["re", "im", "bottom", "shared"] [IV.int a, .int b, .int c] = [some (.int a), some (.int b), some (.int c), none] := rfl
  rw [st]
  simp [exB, exS, evE, evL, e, e2, asT, BO.f, d, lim, lw, wI]
def b_least_fraction : CB := .cons (.set (.nm 2) (.gcd (.cons (.v 0) (.cons (.v 1) .nil)))) (.cons (.ret (.tup (.cons (.bin .div (.v 0) (.v 2)) (.cons (.bin .div (.v 1) (.v 2)) .nil)))) .nil)
theorem run_least_fraction (call : Nat → List IV → GH → RO) {name : Str} {ps : List Str} {at_ : Nat} (a c : Int) (G : GH) (h0 : 0 < c) (h1 : c < 2 ^ 9000) :
    runF call ⟨name, ps, ["top", "bottom", "shared"], at_, b_least_fraction⟩ [.int a, .int c] G = some (lf a c, G) := by
  have d : ∀ i, fDiv (.int i) (.int (gI a c)) G = some (.int (i / gI a c), G) := fun i => f_div (div_ok (gI_pos h0) (gI_le h0) h1)
  have e : fGcd [.int a, .int c] G = some (.int (gI a c), G) := rfl
  unfold runF b_least_fraction
  have st : startI ["top", "bottom", "shared"] [IV.int a, .int c] = [some (.int a), some (.int c), none] := rfl
  rw [st]
  simp [exB, exS, evE, evL, e, asT, BO.f, d, lim, lf, fI]
/-- the law's own least terms -/
def b_law_num (f_law_num_common : Nat) : CB := .cons (.set (.nm 3) (.fn f_law_num_common (.cons (.ite (.or (.cmp .ne (.v 0) (.c (.int 0))) (.cmp .ne (.v 1) (.c (.int 0)))) (.fn f_law_num_common (.cons (.v 0) (.cons (.v 1) .nil))) (.c (.int 0))) (.cons (.v 2) .nil)))) (.cons (.ret (.tup (.cons (.bin .div (.v 0) (.v 3)) (.cons (.bin .div (.v 1) (.v 3)) (.cons (.bin .div (.v 2) (.v 3)) .nil))))) .nil)
theorem ne_int {i j : Int} {G : GH} : fEq true (.int i) (.int j) G = some (.bl (!(i == j)), G) := by
  simp [fEq, gD, toD, SeqAt.shaped, PyData.eqv, PyData.canLay0, PyData.depth]
theorem eq_int {i j : Int} {G : GH} : fEq false (.int i) (.int j) G = some (.bl (i == j), G) := by
  simp [fEq, gD, toD, SeqAt.shaped, PyData.eqv, PyData.canLay0, PyData.depth]
theorem gI_00 : gI 0 0 = 0 := rfl
theorem run_num (call : Nat → List IV → GH → RO) {name : Str} {ps : List Str} {at_ fc : Nat} (a b c : Int) (G : GH) (h0 : 0 < c) (h1 : c < 2 ^ 9000) (hb : b.natAbs < wfuel)
    (hc : ∀ a b, b.natAbs < wfuel → call fc [.int a, .int b] G = some (.int (gI a b), G)) :
    runF call ⟨name, ps, ["re", "im", "bottom", "by"], at_, b_law_num fc⟩ [.int a, .int b, .int c] G = some (lw a b c, G) := by
  have d : ∀ i, fDiv (.int i) (.int (g3 a b c)) G = some (.int (i / g3 a b c), G) := fun i => f_div (div_ok (g3_pos h0) (g3_le h0) h1)
  have e2 : call fc [.int (gI a b), .int c] G = some (.int (g3 a b c), G) := hc _ _ (wf_of (Int.le_of_lt h0) h1)
  have e3 : evE call (.ite (.or (.cmp .ne (.v 0) (.c (.int 0))) (.cmp .ne (.v 1) (.c (.int 0)))) (.fn fc (.cons (.v 0) (.cons (.v 1) .nil))) (.c (.int 0))) [some (.int a), some (.int b), some (.int c), none] G = some (.int (gI a b), G) := by
    by_cases z : a = 0
    · by_cases z2 : b = 0
      · subst z; subst z2
        simp [evE, CO.f, ne_int, gI_00]
      · have := beq_false_of_ne z2
        simp [evE, evL, CO.f, ne_int, z, this, hc _ _ hb]
    · have := beq_false_of_ne z
      simp [evE, evL, CO.f, ne_int, this, hc _ _ hb]
  unfold runF b_law_num
  have st : startI ["re", "im", "bottom", "by"] [IV.int a, .int b, .int c] = [some (.int a), some (.int b), some (.int c), none] := rfl
  rw [st]
  have e4 : evE call (.fn fc (.cons (.ite (.or (.cmp .ne (.v 0) (.c (.int 0))) (.cmp .ne (.v 1) (.c (.int 0)))) (.fn fc (.cons (.v 0) (.cons (.v 1) .nil))) (.c (.int 0))) (.cons (.v 2) .nil))) [some (.int a), some (.int b), some (.int c), none] G = some (.int (g3 a b c), G) := by
    rw [evE, evL, e3]
    simp [evL, evE, e2]
  rw [exB, exS, e4]
  simp [exB, exS, evE, evL, asT, BO.f, d, lim, lw, wI]
def b_law_frac (f_law_num_common : Nat) : CB := .cons (.set (.nm 2) (.fn f_law_num_common (.cons (.v 0) (.cons (.v 1) .nil)))) (.cons (.ret (.tup (.cons (.bin .div (.v 0) (.v 2)) (.cons (.bin .div (.v 1) (.v 2)) .nil)))) .nil)
theorem run_frac (call : Nat → List IV → GH → RO) {name : Str} {ps : List Str} {at_ fc : Nat} (a c : Int) (G : GH) (h0 : 0 < c) (h1 : c < 2 ^ 9000)
    (hc : ∀ a b, b.natAbs < wfuel → call fc [.int a, .int b] G = some (.int (gI a b), G)) :
    runF call ⟨name, ps, ["top", "bottom", "by"], at_, b_law_frac fc⟩ [.int a, .int c] G = some (lf a c, G) := by
  have d : ∀ i, fDiv (.int i) (.int (gI a c)) G = some (.int (i / gI a c), G) := fun i => f_div (div_ok (gI_pos h0) (gI_le h0) h1)
  have e2 : call fc [.int a, .int c] G = some (.int (gI a c), G) := hc _ _ (wf_of (Int.le_of_lt h0) h1)
  unfold runF b_law_frac
  have st : startI ["top", "bottom", "by"] [IV.int a, .int c] = [some (.int a), some (.int c), none] := rfl
  rw [st]
  simp [exB, exS, evE, evL, e2, asT, BO.f, d, lim, lf, fI]
end Lk
namespace Lk
open PySem PySem.Spec PyProof.Rows L2
/-! ### least terms -/
theorem gI_dl (a b : Int) : gI a b ∣ a := by
  unfold gI
  exact Int.ofNat_dvd_left.mpr (Nat.gcd_dvd_left _ _)
theorem gI_dr (a b : Int) : gI a b ∣ b := by
  unfold gI
  exact Int.ofNat_dvd_left.mpr (Nat.gcd_dvd_right _ _)
theorem gI_scale {k : Int} (h : 0 ≤ k) (a b : Int) : gI (k * a) (k * b) = k * gI a b := by
  unfold gI
  rw [Int.natAbs_mul, Int.natAbs_mul, Nat.gcd_mul_left, Int.natCast_mul, Int.natAbs_of_nonneg h]
theorem g3_scale {k : Int} (h : 0 ≤ k) (a b c : Int) : g3 (k * a) (k * b) (k * c) = k * g3 a b c := by
  unfold g3
  rw [gI_scale h, gI_scale h]
theorem lw_scale {k : Int} (h : 0 < k) (a b c : Int) : lw (k * a) (k * b) (k * c) = lw a b c := by
  unfold lw
  rw [g3_scale (Int.le_of_lt h), Int.mul_ediv_mul_of_pos _ _ h, Int.mul_ediv_mul_of_pos _ _ h, Int.mul_ediv_mul_of_pos _ _ h]
theorem lf_scale {k : Int} (h : 0 < k) (a c : Int) : lf (k * a) (k * c) = lf a c := by
  unfold lf
  rw [gI_scale (Int.le_of_lt h), Int.mul_ediv_mul_of_pos _ _ h, Int.mul_ediv_mul_of_pos _ _ h]
theorem lw_eq {a b c x y z : Int} (hc : 0 < c) (hz : 0 < z) (h1 : a * z = x * c) (h2 : b * z = y * c) : lw a b c = lw x y z := by
  rw [← lw_scale hz a b c, ← lw_scale hc x y z, Int.mul_comm z a, Int.mul_comm z b, h1, h2, Int.mul_comm x c, Int.mul_comm y c, Int.mul_comm z c]
theorem lf_eq {a c x z : Int} (hc : 0 < c) (hz : 0 < z) (h1 : a * z = x * c) : lf a c = lf x z := by
  rw [← lf_scale hz a c, ← lf_scale hc x z, Int.mul_comm z a, h1, Int.mul_comm x c, Int.mul_comm z c]
theorem lw_parts {a b c : Int} (h : 0 < c) : ∃ g a' b' c', 0 < g ∧ a = g * a' ∧ b = g * b' ∧ c = g * c' ∧ 0 < c' ∧ g3 a' b' c' = 1 ∧ lw a b c = wI a' b' c' := by
  have gp := g3_pos (a := a) (b := b) h
  have d1 : g3 a b c ∣ a := Int.dvd_trans (gI_dl _ _) (gI_dl a b)
  have d2 : g3 a b c ∣ b := Int.dvd_trans (gI_dl _ _) (gI_dr a b)
  have d3 : g3 a b c ∣ c := gI_dr _ _
  obtain ⟨a', e1⟩ := d1
  obtain ⟨b', e2⟩ := d2
  obtain ⟨c', e3⟩ := d3
  have nz : g3 a b c ≠ 0 := by omega
  have q1 : a / g3 a b c = a' := Int.ediv_eq_of_eq_mul_right nz e1
  have q2 : b / g3 a b c = b' := Int.ediv_eq_of_eq_mul_right nz e2
  have q3 : c / g3 a b c = c' := Int.ediv_eq_of_eq_mul_right nz e3
  have cp : 0 < c' := by
    rcases Int.lt_or_le 0 c' with z | z
    · exact z
    · have := Int.mul_nonpos_of_nonneg_of_nonpos (Int.le_of_lt gp) z
      omega
  refine ⟨g3 a b c, a', b', c', gp, e1, e2, e3, cp, ?_, by unfold lw; rw [q1, q2, q3]⟩
  have := g3_scale (Int.le_of_lt gp) a' b' c'
  rw [← e1, ← e2, ← e3] at this
  have m : g3 a b c * 1 = g3 a b c * g3 a' b' c' := by rw [Int.mul_one]; exact this
  exact (Int.eq_of_mul_eq_mul_left nz m).symm
/-- the numbers behind a weight -/
structure R (n : Nat) (a b c : Int) : Prop where
  p : 0 < c
  a : a.natAbs < 2 ^ n
  b : b.natAbs < 2 ^ n
  c : c.natAbs < 2 ^ n
theorem abs_mul_lt {a b : Int} {n m : Nat} (h : a.natAbs < 2 ^ n) (k : b.natAbs < 2 ^ m) : (a * b).natAbs < 2 ^ (n + m) := by
  rw [Int.natAbs_mul, Nat.pow_add]
  exact Nat.mul_lt_mul'' h k
theorem abs_add_lt {a b : Int} {n : Nat} (h : a.natAbs < 2 ^ n) (k : b.natAbs < 2 ^ n) : (a + b).natAbs < 2 ^ (n + 1) := by
  rw [Nat.pow_succ]; omega
theorem abs_sub_lt {a b : Int} {n : Nat} (h : a.natAbs < 2 ^ n) (k : b.natAbs < 2 ^ n) : (a - b).natAbs < 2 ^ (n + 1) := by
  rw [Nat.pow_succ]; omega
theorem abs_up {a : Int} {n m : Nat} (h : a.natAbs < 2 ^ n) (k : n ≤ m) : a.natAbs < 2 ^ m := Nat.lt_of_lt_of_le h (Nat.pow_le_pow_right (by decide) k)
theorem abs_div {a g a' : Int} {n : Nat} (h : a.natAbs < 2 ^ n) (e : a = g * a') (gp : 0 < g) : a'.natAbs < 2 ^ n := by
  refine Nat.lt_of_le_of_lt ?_ h
  rw [e, Int.natAbs_mul]
  exact Nat.le_mul_of_pos_left _ (by omega)
theorem R.up {n m : Nat} {a b c : Int} (h : R n a b c) (k : n ≤ m) : R m a b c := ⟨h.p, abs_up h.a k, abs_up h.b k, abs_up h.c k⟩
theorem R.plus {n m : Nat} {a b c x y z : Int} (h : R n a b c) (k : R m x y z) : R (n + m + 1) (a * z + x * c) (b * z + y * c) (c * z) :=
  ⟨Int.mul_pos h.p k.p, abs_add_lt (abs_mul_lt h.a k.c) (by rw [Nat.add_comm]; exact abs_mul_lt k.a h.c), abs_add_lt (abs_mul_lt h.b k.c) (by rw [Nat.add_comm]; exact abs_mul_lt k.b h.c), abs_up (abs_mul_lt h.c k.c) (by omega)⟩
theorem R.times {n m : Nat} {a b c x y z : Int} (h : R n a b c) (k : R m x y z) : R (n + m + 1) (a * x - b * y) (a * y + b * x) (c * z) :=
  ⟨Int.mul_pos h.p k.p, abs_sub_lt (abs_mul_lt h.a k.a) (abs_mul_lt h.b k.b), abs_add_lt (abs_mul_lt h.a k.b) (abs_mul_lt h.b k.a), abs_up (abs_mul_lt h.c k.c) (by omega)⟩
end Lk
namespace Lk
open PySem PySem.Spec PyProof.Rows L2
/-! ### the program's functions of weights -/
def b_is_integer : CB := .cons (.ret (.and (.isi (.v 0) "int") (.not (.isi (.v 0) "bool")))) .nil
theorem run_is_integer (call : Nat → List IV → GH → RO) {name : Str} {ps : List Str} {at_ : Nat} (i : Int) (G : GH) : runF call ⟨name, ps, ["value"], at_, b_is_integer⟩ [.int i] G = some (.bl true, G) := by
  unfold runF b_is_integer
  have st : startI ["value"] [IV.int i] = [some (.int i)] := rfl
  rw [st]
  have e1 : fIsi "int" (.int i) G = some (.bl true, G) := rfl
  have e2 : fIsi "bool" (.int i) G = some (.bl false, G) := rfl
  simp [exB, exS, evE, e1, e2]
def b_are_integers (f_is_integer : Nat) : CB := .cons (.ret (.and (.isi (.v 0) "tuple") (.bi .all (.cons (.comp [("part", 1)] (.nm 1) (.ex (.v 0)) .no (.fn f_is_integer (.cons (.v 1) .nil))) .nil)))) .nil
theorem run_are_integers (call : Nat → List IV → GH → RO) {name : Str} {ps : List Str} {at_ f : Nat} (a b c : Int) (hf : ∀ i G, call f [.int i] G = some (.bl true, G)) :
    ∃ G', runF call ⟨name, ps, ["value", "part"], at_, b_are_integers f⟩ [wI a b c] [] = some (.bl true, G') := by
  unfold runF b_are_integers
  have st : startI ["value", "part"] [wI a b c] = [some (wI a b c), none] := rfl
  rw [st]
  have e1 : fIsi "tuple" (.tup [.int a, .int b, .int c]) [] = some (.bl true, []) := rfl
  refine ⟨[.lst [.bl true, .bl true, .bl true]], ?_⟩
  simp [exB, exS, evE, evL, e1, evI, wI, compF, Src.len, Src.at, Src.stop, asT, wipeI, evQ, hf, BI.run, fAll, lstOf, asBls, its_lst, lim]
def b_is_weight (f_are_integers : Nat) : CB := .cons (.ife (.or (.not (.fn f_are_integers (.cons (.v 0) .nil))) (.cmp .ne (.bi .len (.cons (.v 0) .nil)) (.c (.int 3)))) (.cons (.ret (.c (.bl false))) .nil) (.nil)) (.cons (.set (.tup (.cons (.nm 1) (.cons (.nm 2) (.cons (.nm 3) .nil)))) (.v 0)) (.cons (.ret (.and (.cmp .ge (.v 3) (.c (.int 1))) (.cmp .eq (.gcd (.cons (.gcd (.cons (.v 1) (.cons (.v 2) .nil))) (.cons (.v 3) .nil))) (.c (.int 1))))) .nil))
theorem run_is_weight (call : Nat → List IV → GH → RO) {name : Str} {ps : List Str} {at_ f : Nat} (a b c : Int) (G : GH) (h0 : 0 < c) (h1 : g3 a b c = 1) (hf : call f [wI a b c] G = some (.bl true, G)) :
    runF call ⟨name, ps, ["value", "re", "im", "bottom"], at_, b_is_weight f⟩ [wI a b c] G = some (.bl true, G) := by
  unfold runF b_is_weight
  have st : startI ["value", "re", "im", "bottom"] [wI a b c] = [some (wI a b c), none, none, none] := rfl
  rw [st]
  unfold wI at hf ⊢
  have e : fGcd [.int a, .int b] G = some (.int (gI a b), G) := rfl
  have e2 : fGcd [.int (gI a b), .int c] G = some (.int (g3 a b c), G) := rfl
  have e3 : (1 : Int) ≤ c := by omega
  simp [exB, exS, evE, evL, hf, BI.run, fLen, itsOf, CO.f, ne_int, eq_int, asT, asTs, e, e2, h1, fGe, onInts, e3]
def b_check_weight (f_is_weight : Nat) : CB := .cons (.ife (.not (.fn f_is_weight (.cons (.v 0) .nil))) (.cons (.never) .nil) (.nil)) .nil
theorem run_check_weight (call : Nat → List IV → GH → RO) {name : Str} {ps : List Str} {at_ f : Nat} (v : IV) (G : GH) (hf : call f [v] G = some (.bl true, G)) :
    runF call ⟨name, ps, ["value"], at_, b_check_weight f⟩ [v] G = some (.non, G) := by
  unfold runF b_check_weight
  have st : startI ["value"] [v] = [some v] := rfl
  rw [st]
  simp [exB, exS, evE, evL, hf]
theorem f_mul {i j : Int} {n m : Nat} {G : GH} (h : i.natAbs < 2 ^ n) (k : j.natAbs < 2 ^ m) (l : n + m ≤ 900000) : fMul (.int i) (.int j) G = some (.int (i * j), G) := by
  unfold fMul onInts
  have e : i.natAbs.log2 + j.natAbs.log2 < 1000000 := mul_ok (a := n + 1) (b := m + 1) (abs_up h (Nat.le_succ _)) (abs_up k (Nat.le_succ _)) (by omega) (by omega) (by omega)
  simp only [e, decide_true, if_true]
theorem f_add {i j : Int} {G : GH} : fAddA (.int i) (.int j) G = some (.int (i + j), G) := rfl
theorem f_sub {i j : Int} {G : GH} : fSub (.int i) (.int j) G = some (.int (i - j), G) := rfl
theorem lt_9000 {c : Int} {n : Nat} (h0 : 0 < c) (h : c.natAbs < 2 ^ n) (hn : n ≤ 9000) : c < 2 ^ 9000 := by
  have h2 := abs_up h hn
  have h3 : (c.natAbs : Int) < ((2 ^ 9000 : Nat) : Int) := Int.ofNat_lt.mpr h2
  rw [Int.natAbs_of_nonneg (Int.le_of_lt h0), Int.natCast_pow] at h3
  exact h3
def b_plus (f_check_weight f_least_weight : Nat) : CB := .cons (.ex (.fn f_check_weight (.cons (.v 0) .nil))) (.cons (.ex (.fn f_check_weight (.cons (.v 1) .nil))) (.cons (.set (.tup (.cons (.nm 2) (.cons (.nm 3) (.cons (.nm 4) .nil)))) (.v 0)) (.cons (.set (.tup (.cons (.nm 5) (.cons (.nm 6) (.cons (.nm 7) .nil)))) (.v 1)) (.cons (.set (.nm 8) (.bin .add (.bin .mul (.v 2) (.v 7)) (.bin .mul (.v 5) (.v 4)))) (.cons (.set (.nm 9) (.bin .add (.bin .mul (.v 3) (.v 7)) (.bin .mul (.v 6) (.v 4)))) (.cons (.ret (.fn f_least_weight (.cons (.v 8) (.cons (.v 9) (.cons (.bin .mul (.v 4) (.v 7)) .nil))))) .nil))))))
theorem run_plus (call : Nat → List IV → GH → RO) {name : Str} {ps : List Str} {at_ fc fl n m : Nat} {a b c x y z : Int} {G : GH} (h : R n a b c) (k : R m x y z) (l : n + m ≤ 8000)
    (hc : ∀ a b c, 0 < c → g3 a b c = 1 → call fc [wI a b c] G = some (.non, G)) (hl : ∀ a b c, 0 < c → c < 2 ^ 9000 → call fl [.int a, .int b, .int c] G = some (lw a b c, G)) :
    runF call ⟨name, ps, ["one", "other", "one_re", "one_im", "one_bottom", "other_re", "other_im", "other_bottom", "re", "im"], at_, b_plus fc fl⟩ [lw a b c, lw x y z] G = some (lw (a * z + x * c) (b * z + y * c) (c * z), G) := by
  obtain ⟨g, a', b', c', gp, ea, eb, ec, cp, g1, e1⟩ := lw_parts (a := a) (b := b) h.p
  obtain ⟨j, x', y', z', jp, ex, ey, ez, zp, j1, e2⟩ := lw_parts (a := x) (b := y) k.p
  have k1 := hc a' b' c' cp g1
  have k2 := hc x' y' z' zp j1
  rw [e1, e2]
  have ha := abs_div h.a ea gp; have hb := abs_div h.b eb gp; have hcc := abs_div h.c ec gp
  have hx := abs_div k.a ex jp; have hy := abs_div k.b ey jp; have hz := abs_div k.c ez jp
  have m1 := f_mul (G := G) ha hz (by omega)
  have m2 := f_mul (G := G) hx hcc (by omega)
  have m3 := f_mul (G := G) hb hz (by omega)
  have m4 := f_mul (G := G) hy hcc (by omega)
  have m5 := f_mul (G := G) hcc hz (by omega)
  have pp : 0 < c' * z' := Int.mul_pos cp zp
  have m6 := hl (a' * z' + x' * c') (b' * z' + y' * c') (c' * z') pp (lt_9000 pp (abs_mul_lt hcc hz) (by omega))
  have fin : lw (a' * z' + x' * c') (b' * z' + y' * c') (c' * z') = lw (a * z + x * c) (b * z + y * c) (c * z) := by
    rw [← lw_scale (Int.mul_pos gp jp), ea, eb, ec, ex, ey, ez]
    congr 1 <;> grind
  unfold runF b_plus
  have st : startI ["one", "other", "one_re", "one_im", "one_bottom", "other_re", "other_im", "other_bottom", "re", "im"] [wI a' b' c', wI x' y' z'] = [some (wI a' b' c'), some (wI x' y' z'), none, none, none, none, none, none, none, none] := rfl
  rw [st]
  unfold wI at k1 k2 ⊢
  simp [exB, exS, evE, evL, k1, k2, asT, asTs, itsOf, bo_add, bo_mul, m1, m2, m3, m4, m5, m6, f_add, fin]
def b_times (f_check_weight f_least_weight : Nat) : CB := .cons (.ex (.fn f_check_weight (.cons (.v 0) .nil))) (.cons (.ex (.fn f_check_weight (.cons (.v 1) .nil))) (.cons (.set (.tup (.cons (.nm 2) (.cons (.nm 3) (.cons (.nm 4) .nil)))) (.v 0)) (.cons (.set (.tup (.cons (.nm 5) (.cons (.nm 6) (.cons (.nm 7) .nil)))) (.v 1)) (.cons (.set (.nm 8) (.bin .sub (.bin .mul (.v 2) (.v 5)) (.bin .mul (.v 3) (.v 6)))) (.cons (.set (.nm 9) (.bin .add (.bin .mul (.v 2) (.v 6)) (.bin .mul (.v 3) (.v 5)))) (.cons (.ret (.fn f_least_weight (.cons (.v 8) (.cons (.v 9) (.cons (.bin .mul (.v 4) (.v 7)) .nil))))) .nil))))))
theorem run_times (call : Nat → List IV → GH → RO) {name : Str} {ps : List Str} {at_ fc fl n m : Nat} {a b c x y z : Int} {G : GH} (h : R n a b c) (k : R m x y z) (l : n + m ≤ 8000)
    (hc : ∀ a b c, 0 < c → g3 a b c = 1 → call fc [wI a b c] G = some (.non, G)) (hl : ∀ a b c, 0 < c → c < 2 ^ 9000 → call fl [.int a, .int b, .int c] G = some (lw a b c, G)) :
    runF call ⟨name, ps, ["one", "other", "one_re", "one_im", "one_bottom", "other_re", "other_im", "other_bottom", "re", "im"], at_, b_times fc fl⟩ [lw a b c, lw x y z] G = some (lw (a * x - b * y) (a * y + b * x) (c * z), G) := by
  obtain ⟨g, a', b', c', gp, ea, eb, ec, cp, g1, e1⟩ := lw_parts (a := a) (b := b) h.p
  obtain ⟨j, x', y', z', jp, ex, ey, ez, zp, j1, e2⟩ := lw_parts (a := x) (b := y) k.p
  have k1 := hc a' b' c' cp g1
  have k2 := hc x' y' z' zp j1
  rw [e1, e2]
  have ha := abs_div h.a ea gp; have hb := abs_div h.b eb gp; have hcc := abs_div h.c ec gp
  have hx := abs_div k.a ex jp; have hy := abs_div k.b ey jp; have hz := abs_div k.c ez jp
  have m1 := f_mul (G := G) ha hx (by omega)
  have m2 := f_mul (G := G) hb hy (by omega)
  have m3 := f_mul (G := G) ha hy (by omega)
  have m4 := f_mul (G := G) hb hx (by omega)
  have m5 := f_mul (G := G) hcc hz (by omega)
  have pp : 0 < c' * z' := Int.mul_pos cp zp
  have m6 := hl (a' * x' - b' * y') (a' * y' + b' * x') (c' * z') pp (lt_9000 pp (abs_mul_lt hcc hz) (by omega))
  have fin : lw (a' * x' - b' * y') (a' * y' + b' * x') (c' * z') = lw (a * x - b * y) (a * y + b * x) (c * z) := by
    rw [← lw_scale (Int.mul_pos gp jp), ea, eb, ec, ex, ey, ez]
    congr 1 <;> grind
  unfold runF b_times
  have st : startI ["one", "other", "one_re", "one_im", "one_bottom", "other_re", "other_im", "other_bottom", "re", "im"] [wI a' b' c', wI x' y' z'] = [some (wI a' b' c'), some (wI x' y' z'), none, none, none, none, none, none, none, none] := rfl
  rw [st]
  unfold wI at k1 k2 ⊢
  simp [exB, exS, evE, evL, k1, k2, asT, asTs, itsOf, bo_add, bo_sub, bo_mul, m1, m2, m3, m4, m5, m6, f_add, f_sub, fin]
theorem g3_neg {a b c : Int} : g3 a (-b) c = g3 a b c := by
  unfold g3 gI
  rw [Int.natAbs_neg]
theorem lw_neg {a b c : Int} (h : 0 < c) {a' b' c' : Int} (e : lw a b c = wI a' b' c') : lw a (-b) c = wI a' (-b') c' := by
  unfold lw wI at e ⊢
  rw [g3_neg]
  injection e with e
  injection e with e1 e
  injection e with e2 e
  injection e with e3 e
  injection e1 with e1
  injection e2 with e2
  injection e3 with e3
  have d2 : g3 a b c ∣ b := Int.dvd_trans (gI_dl _ _) (gI_dr a b)
  rw [e1, e3, Int.neg_ediv_of_dvd d2, e2]
def b_turned (f_check_weight : Nat) : CB := .cons (.ex (.fn f_check_weight (.cons (.v 0) .nil))) (.cons (.set (.tup (.cons (.nm 1) (.cons (.nm 2) (.cons (.nm 3) .nil)))) (.v 0)) (.cons (.ret (.tup (.cons (.v 1) (.cons (.neg (.v 2)) (.cons (.v 3) .nil))))) .nil))
theorem run_turned (call : Nat → List IV → GH → RO) {name : Str} {ps : List Str} {at_ fc n : Nat} {a b c : Int} {G : GH} (h : R n a b c)
    (hc : ∀ a b c, 0 < c → g3 a b c = 1 → call fc [wI a b c] G = some (.non, G)) :
    runF call ⟨name, ps, ["one", "re", "im", "bottom"], at_, b_turned fc⟩ [lw a b c] G = some (lw a (-b) c, G) := by
  obtain ⟨g, a', b', c', gp, ea, eb, ec, cp, g1, e1⟩ := lw_parts (a := a) (b := b) h.p
  have k1 := hc a' b' c' cp g1
  rw [lw_neg h.p e1, e1]
  unfold runF b_turned
  have st : startI ["one", "re", "im", "bottom"] [wI a' b' c'] = [some (wI a' b' c'), none, none, none] := rfl
  rw [st]
  unfold wI at k1 ⊢
  simp [exB, exS, evE, evL, k1, asT, asTs, itsOf, fNeg, lim]
def b_size (f_check_weight f_least_fraction : Nat) : CB := .cons (.ex (.fn f_check_weight (.cons (.v 0) .nil))) (.cons (.set (.tup (.cons (.nm 1) (.cons (.nm 2) (.cons (.nm 3) .nil)))) (.v 0)) (.cons (.ret (.fn f_least_fraction (.cons (.bin .add (.bin .mul (.v 1) (.v 1)) (.bin .mul (.v 2) (.v 2))) (.cons (.bin .mul (.v 3) (.v 3)) .nil)))) .nil))
theorem run_size (call : Nat → List IV → GH → RO) {name : Str} {ps : List Str} {at_ fc fl n : Nat} {a b c : Int} {G : GH} (h : R n a b c) (l : n ≤ 4000)
    (hc : ∀ a b c, 0 < c → g3 a b c = 1 → call fc [wI a b c] G = some (.non, G)) (hl : ∀ a c, 0 < c → c < 2 ^ 9000 → call fl [.int a, .int c] G = some (lf a c, G)) :
    runF call ⟨name, ps, ["one", "re", "im", "bottom"], at_, b_size fc fl⟩ [lw a b c] G = some (lf (a * a + b * b) (c * c), G) := by
  obtain ⟨g, a', b', c', gp, ea, eb, ec, cp, g1, e1⟩ := lw_parts (a := a) (b := b) h.p
  have k1 := hc a' b' c' cp g1
  rw [e1]
  have ha := abs_div h.a ea gp; have hb := abs_div h.b eb gp; have hcc := abs_div h.c ec gp
  have m1 := f_mul (G := G) ha ha (by omega)
  have m2 := f_mul (G := G) hb hb (by omega)
  have m5 := f_mul (G := G) hcc hcc (by omega)
  have pp : 0 < c' * c' := Int.mul_pos cp cp
  have m6 := hl (a' * a' + b' * b') (c' * c') pp (lt_9000 pp (abs_mul_lt hcc hcc) (by omega))
  have fin : lf (a' * a' + b' * b') (c' * c') = lf (a * a + b * b) (c * c) := by
    rw [← lf_scale (Int.mul_pos gp gp), ea, eb, ec]
    congr 1 <;> grind
  unfold runF b_size
  have st : startI ["one", "re", "im", "bottom"] [wI a' b' c'] = [some (wI a' b' c'), none, none, none] := rfl
  rw [st]
  unfold wI at k1 ⊢
  simp [exB, exS, evE, evL, k1, asT, asTs, itsOf, bo_add, bo_mul, m1, m2, m5, m6, f_add, fin]
end Lk
namespace Lk
open PySem PySem.Spec PyProof.Rows L2
/-! ### the heap of a drawing law: the pot at p, all else as it was -/
def PotAt (G : GH) (p n : Nat) : Prop := ∃ a b c, G[p]? = some (.lst [.int a, .int b, .int c]) ∧ Pot a b c n
structure Stp (p : Nat) (G G' : GH) : Prop where
  le : G.length ≤ G'.length
  same : ∀ i, i < G.length → i ≠ p → G'[i]? = G[i]?
theorem Stp.refl {p : Nat} {G : GH} : Stp p G G := ⟨Nat.le_refl _, fun _ _ _ => rfl⟩
theorem Stp.trans {p : Nat} {G G' G'' : GH} (h : Stp p G G') (k : Stp p G' G'') : Stp p G G'' :=
  ⟨Nat.le_trans h.le k.le, fun i l n => (k.same i (Nat.lt_of_lt_of_le l h.le) n).trans (h.same i l n)⟩
theorem Stp.app {p : Nat} {G Z : GH} : Stp p G (G ++ Z) := ⟨by rw [List.length_append]; omega, fun i l _ => List.getElem?_append_left l⟩
theorem Stp.at_ {p i : Nat} {G G' : GH} {m : MO} (h : Stp p G G') (e : G[i]? = some m) (n : i ≠ p) : G'[i]? = some m := by
  rw [h.same i (List.getElem?_eq_some_iff.mp e).1 n]; exact e
theorem PotAt.lt {G : GH} {p n : Nat} (h : PotAt G p n) : p < G.length := by
  obtain ⟨a, b, c, e, _⟩ := h
  exact (List.getElem?_eq_some_iff.mp e).1
theorem PotAt.app {G Z : GH} {p n : Nat} (h : PotAt G p n) : PotAt (G ++ Z) p n := by
  obtain ⟨a, b, c, e, q⟩ := h
  exact ⟨a, b, c, app_at e, q⟩
theorem PotAt.up {G : GH} {p n m : Nat} (h : PotAt G p n) (l : n ≤ m) : PotAt G p m := by
  obtain ⟨a, b, c, e, q⟩ := h
  exact ⟨a, b, c, e, q.a0, q.a1, q.b0, q.b1, q.c0, Int.le_trans q.c1 (Int.ofNat_le.mpr l)⟩
theorem trim_stp {p n : Nat} {v : IV} {G G1 : GH} (h : PotAt G1 p n) (s : Stp p G G1) (l : p < G.length) : ∃ G', trim G.length (some (v, G1)) = some (v, G') ∧ PotAt G' p n ∧ Stp p G G' := by
  unfold trim
  by_cases c : (noRef v && (G1.take G.length).all MO.pure) = true
  · refine ⟨G1.take G.length, if_pos c, ?_, ?_, fun i li ni => ?_⟩
    · obtain ⟨a, b, c, e, q⟩ := h
      exact ⟨a, b, c, by rw [List.getElem?_take, if_pos l]; exact e, q⟩
    · rw [List.length_take]; have := s.le; omega
    · rw [List.getElem?_take, if_pos li]; exact s.same i li ni
  · exact ⟨G1, if_neg c, h, s⟩
def TakeSp (call : Nat → List IV → GH → RO) (ft : Nat) : Prop := ∀ (p n : Nat) (u : Int) (G : GH), PotAt G p n → n ≤ 900000 → 0 < u → u < 2 ^ 60 →
  ∃ r G', 0 ≤ r ∧ r < u ∧ call ft [.ref p, .int u] G = some (.int r, G') ∧ PotAt G' p (n + 1) ∧ Stp p G G'
theorem take_sp {Γ : List FD} {k j at_ : Nat} {c0 c1 c2 c3 : Int} {name : Str} {ps : List Str} (hd : Γ[j]? = some ⟨name, ps, ["pot", "upto", "digit", "prime", "blend"], at_, b_law_take c0 c1 c2 c3⟩) (l : ps.length = 2)
    (k0 : 0 ≤ c0 ∧ c0 < 2 ^ 20) (k1 : 0 ≤ c1 ∧ c1 < 2 ^ 20) (k2 : 0 < c2 ∧ c2 < 2 ^ 20) (k3 : 0 ≤ c3 ∧ c3 < 2 ^ 20) : TakeSp (callF Γ (k + 1)) j := by
  intro p n u G h hn hu hu2
  have hl := h.lt
  obtain ⟨a, b, c, e, q⟩ := h
  obtain ⟨r, a', c', r0, r1, q', Z, e2⟩ := run_take (callF Γ k) p n a b c u c0 c1 c2 c3 G name ps at_ e q (by omega) hu hu2 k0 k1 k2 k3
  have h1 : PotAt (G.set p (.lst [.int a', .int b, .int c']) ++ Z) p (n + 1) := ⟨a', b, c', app_at (set_at e), q'⟩
  have s1 : Stp p G (G.set p (.lst [.int a', .int b, .int c']) ++ Z) := ⟨by rw [List.length_append, List.length_set]; omega, fun i li ni => by
    rw [List.getElem?_append_left (by rw [List.length_set]; exact li), List.getElem?_set_ne fun z => ni z.symm]⟩
  obtain ⟨G', t1, t2, t3⟩ := trim_stp (v := .int r) h1 s1 hl
  refine ⟨r, G', r0, r1, ?_, t2, t3⟩
  rw [callF_refs hd (by simp [l]) rfl, e2]
  exact t1
def OfSp (call : Nat → List IV → GH → RO) (fo : Nat) : Prop := ∀ (p s n : Nat) (ws : List IV) (G : GH), PotAt G p n → n ≤ 900000 → G[s]? = some (.lst ws) → s ≠ p → ws ≠ [] → ws.length < 1000 →
  ∃ w G', w ∈ ws ∧ call fo [.ref p, .ref s] G = some (w, G') ∧ PotAt G' p (n + 1) ∧ Stp p G G'
def b_law_of (f_law_take : Nat) : CB := .cons (.ret (.ix (.v 1) (.fn f_law_take (.cons (.v 0) (.cons (.bi .len (.cons (.v 1) .nil)) .nil))))) .nil
theorem of_sp {Γ : List FD} {k j at_ ft : Nat} {name : Str} {ps : List Str} (hd : Γ[j]? = some ⟨name, ps, ["pot", "some"], at_, b_law_of ft⟩) (l : ps.length = 2) (T : TakeSp (callF Γ k) ft) : OfSp (callF Γ (k + 1)) j := by
  intro p s n ws G h hn hs ne nz lw
  have hl := h.lt
  have wl : 0 < ws.length := List.length_pos_iff.mpr nz
  obtain ⟨r, G1, r0, r1, e, q1, s1⟩ := T p n ws.length G h hn (by omega) (Int.lt_trans (Int.ofNat_lt.mpr lw) (by decide))
  obtain ⟨i, rfl⟩ := Int.eq_ofNat_of_zero_le r0
  have hi : i < ws.length := by omega
  have ha : atI ws (i : Int) = some ws[i] := atI_nat (List.getElem?_eq_getElem hi)
  obtain ⟨G', t1, t2, t3⟩ := trim_stp (v := ws[i]) q1 s1 hl
  refine ⟨ws[i], G', List.getElem_mem hi, ?_, t2, t3⟩
  rw [callF_refs hd (by simp [l]) rfl]
  rw [← t1]
  congr 1
  unfold runF b_law_of
  have st : startI ["pot", "some"] [IV.ref p, .ref s] = [some (.ref p), some (.ref s)] := rfl
  rw [st]
  have hs1 := s1.at_ hs ne
  simp [exB, exS, evE, evL, BI.run, fLen, itsOf, hs, its_lst, e, fIx, hs1, ha]
/-! ### loops -/
theorem loop_inv {src : Src} {step : IV → EV → GH → Option Out} (I : Nat → EV → GH → Prop) (N : Nat) (stop : ∀ ε G, I N ε G → src.stop G N = true)
    (hstep : ∀ i ε G, i < N → I i ε G → ∃ w ε' G', src.at G i = some w ∧ step w ε G = some (.nx ε' G') ∧ I (i + 1) ε' G') :
    ∀ r i ε G, i + r = N → I i ε G → ∃ ε' G', loopF src step r i ε G = some (.nx ε' G') ∧ I N ε' G'
  | 0, i, ε, G, e, h => by
    have : i = N := by omega
    subst this
    exact ⟨ε, G, by rw [loopF, if_pos (stop ε G h)], h⟩
  | r + 1, i, ε, G, e, h => by
    obtain ⟨w, ε1, G1, e1, e2, h1⟩ := hstep i ε G (by omega) h
    obtain ⟨ε', G', e3, h3⟩ := loop_inv I N stop hstep r (i + 1) ε1 G1 (by omega) h1
    exact ⟨ε', G', by rw [loopF, e1]; simp only [e2]; exact e3, h3⟩
theorem comp_inv {src : Src} {n : Nat} {step : IV → GH → Option (Option IV × GH)} (I : Nat → List IV → GH → Prop) (N : Nat) (hN : N ≤ 1000) (stop : ∀ acc G, I N acc G → src.stop G N = true)
    (hstep : ∀ i acc G, i < N → I i acc G → G[n]? = some (.lst acc) → ∃ w v G', src.at G i = some w ∧ step w G = some (some v, G') ∧ G'[n]? = some (.lst acc) ∧ I (i + 1) (acc ++ [v]) (G'.set n (.lst (acc ++ [v])))) :
    ∀ r i acc G, i + r = N → acc.length = i → G[n]? = some (.lst acc) → I i acc G → ∃ acc' G', compF src n step r i G = some G' ∧ G'[n]? = some (.lst acc') ∧ acc'.length = N ∧ I N acc' G'
  | 0, i, acc, G, e, l, g, h => by
    have : i = N := by omega
    subst this
    exact ⟨acc, G, by rw [compF, if_pos (stop acc G h)], g, l, h⟩
  | r + 1, i, acc, G, e, l, g, h => by
    obtain ⟨w, v, G1, e1, e2, g1, h1⟩ := hstep i acc G (by omega) h g
    obtain ⟨acc', G', e3, h3⟩ := comp_inv I N hN stop hstep r (i + 1) (acc ++ [v]) _ (by omega) (by rw [List.length_append, l]; rfl) (set_at g1) h1
    have l2 : acc.length < lim := Nat.lt_of_le_of_lt (by omega : acc.length ≤ 1000) (by decide)
    exact ⟨acc', G', by rw [compF, e1]; simp only [e2, g1, l2, if_true]; exact e3, h3⟩
/-! ### numbers -/
def NumSp (call : Nat → List IV → GH → RO) (fn : Nat) : Prop := ∀ (p n : Nat) (laps : Nat) (G : GH), PotAt G p n → n ≤ 800000 → laps ≤ 3 →
  ∃ x G', x.natAbs < 2 ^ 100 ∧ call fn [.ref p, .int laps] G = some (.int x, G') ∧ PotAt G' p (n + 6) ∧ Stp p G G'
theorem pow9 {G : GH} : fPow (.int 10) (.int 9) G = some (.int 1000000000, G) := by
  unfold fPow onInts
  have e : (decide ((0 : Int) ≤ 9) && decide ((Builtin.Int.intBits 10 : Int) * 9 ≤ 2 ^ 27)) = true := by decide +kernel
  simp only [e, if_true]
  rfl
def b_law_number_drawn (f_law_take f_law_of : Nat) : CB := .cons (.set (.nm 2) (.fn f_law_take (.cons (.v 0) (.cons (.fn f_law_of (.cons (.v 0) (.cons (.lst (.cons (.c (.int 4)) (.cons (.c (.int 4)) (.cons (.c (.int 11)) (.cons (.c (.int 1000)) .nil))))) .nil))) .nil)))) (.cons (.for (.nm 3) (.rng (.cons (.v 1) .nil)) (.cons (.set (.nm 2) (.bin .add (.bin .mul (.v 2) (.bin .pow (.c (.int 10)) (.c (.int 9)))) (.fn f_law_take (.cons (.v 0) (.cons (.bin .pow (.c (.int 10)) (.c (.int 9))) .nil))))) .nil)) (.cons (.ret (.ite (.cmp .eq (.fn f_law_take (.cons (.v 0) (.cons (.c (.int 2)) .nil))) (.c (.int 0))) (.v 2) (.neg (.v 2)))) .nil))
theorem grow9 {x r : Int} {i : Nat} (h0 : 0 ≤ x) (h1 : x < 2 ^ (10 + 30 * i)) (r1 : r < 1000000000) : x * 1000000000 + r < 2 ^ (10 + 30 * (i + 1)) := by
  have e : (2 : Int) ^ (10 + 30 * (i + 1)) = 2 ^ (10 + 30 * i) * 2 ^ 30 := by
    rw [← Int.pow_add]
    congr 1
  rw [e]
  have : x + 1 ≤ 2 ^ (10 + 30 * i) := h1
  have h2 : (x + 1) * 1000000000 ≤ 2 ^ (10 + 30 * i) * 1000000000 := Int.mul_le_mul_of_nonneg_right this (by decide)
  have h3 : (2 : Int) ^ (10 + 30 * i) * 1000000000 ≤ 2 ^ (10 + 30 * i) * 2 ^ 30 := Int.mul_le_mul_of_nonneg_left (by decide) (Int.le_of_lt (Int.pow_pos (by decide)))
  have h4 : (x + 1) * 1000000000 = x * 1000000000 + 1000000000 := by rw [Int.add_mul]; rfl
  omega
/-! ### one construct after the other -/
theorem ev_rng {call : Nat → List IV → GH → RO} {es : CL} {ε : EV} {G G1 : GH} {xs : List IV} {lo st : Int} {n : Nat} (e : evL call es ε G = some (xs, G1)) (t : rngOf xs = some (lo, st, n)) : evI call (.rng es) ε G = some (.rng lo st n, G1) := by
  rw [evI, e]
  simp only [t]
theorem rng_one (n : Nat) (h : n ≤ 1000) : rngOf [.int n] = some (0, 1, n) := by
  have c : (decide (-(2 ^ 62) ≤ (n : Int)) && decide ((n : Int) < 2 ^ 62)) = true := by
    rw [Bool.and_eq_true, decide_eq_true_eq, decide_eq_true_eq]
    constructor <;> omega
  simp only [rngOf, c, if_true, Int.toNat_natCast]
theorem ex_cons {call : Nat → List IV → GH → RO} {s : CS} {r : CB} {ε ε' : EV} {G G' : GH} {o : Option Out} (h : exS call s ε G = some (.nx ε' G')) (k : exB call r ε' G' = o) : exB call (.cons s r) ε G = o := by
  rw [exB, h]
  exact k
theorem ex_last {call : Nat → List IV → GH → RO} {s : CS} {r : CB} {ε : EV} {G G' : GH} {v : IV} (h : exS call s ε G = some (.rt v G')) : exB call (.cons s r) ε G = some (.rt v G') := by
  rw [exB, h]
theorem ex_ret {call : Nat → List IV → GH → RO} {e : CE} {ε : EV} {G G' : GH} {v : IV} (h : evE call e ε G = some (v, G')) : exS call (.ret e) ε G = some (.rt v G') := by
  rw [exS, h]
theorem ex_for {call : Nat → List IV → GH → RO} {t : CT} {i : CI} {b : CB} {ε : EV} {G G1 : GH} {src : Src} {o : Option Out} (h : evI call i ε G = some (src, G1)) (k : loopF src (fun w ε G => match asT call t w ε G with
      | none => none
      | some (ε', G') => exB call b ε' G') (src.len G1) 0 ε G1 = o) : exS call (.for t i b) ε G = o := by
  rw [exS, h]
  exact k
theorem run_is {call : Nat → List IV → GH → RO} {d : FD} {as : List IV} {G G' : GH} {v : IV} (h : exB call d.body (startI d.N as) G = some (.rt v G')) : runF call d as G = some (v, G') := by
  unfold runF
  rw [h]
def numI (p laps n : Nat) (G : GH) (i : Nat) (ε : EV) (G' : GH) : Prop := ∃ x y, ε = [some (.ref p), some (.int laps), some (.int x), y] ∧ 0 ≤ x ∧ x < 2 ^ (10 + 30 * i) ∧ PotAt G' p (n + 2 + i) ∧ Stp p G G'
def b_num_loop (ft : Nat) : CB := .cons (.set (.nm 2) (.bin .add (.bin .mul (.v 2) (.bin .pow (.c (.int 10)) (.c (.int 9)))) (.fn ft (.cons (.v 0) (.cons (.bin .pow (.c (.int 10)) (.c (.int 9))) .nil))))) .nil
theorem num_step {call : Nat → List IV → GH → RO} {ft p laps n i : Nat} {G G' : GH} {ε : EV} (T : TakeSp call ft) (hn : n ≤ 800000) (hl3 : laps ≤ 3) (hi : i < laps) (hI : numI p laps n G i ε G') :
    ∃ w ε' G'', (Src.rng 0 1 laps).at G' i = some w ∧ (match asT call (.nm 3) w ε G' with
      | none => none
      | some (ε', G') => exB call (b_num_loop ft) ε' G') = some (.nx ε' G'') ∧ numI p laps n G (i + 1) ε' G'' := by
  obtain ⟨x, y, rfl, x0, x1, aI, sI⟩ := hI
  obtain ⟨q, G4, q0, q1, e3, a3, s3⟩ := T p (n + 2 + i) 1000000000 G' aI (by omega) (by omega) (by omega)
  have mm : fMul (.int x) (.int 1000000000) G' = some (.int (x * 1000000000), G') := f_mul (n := 10 + 30 * i) (m := 30) (by
    have : (x.natAbs : Int) < ((2 ^ (10 + 30 * i) : Nat) : Int) := by rw [Int.natAbs_of_nonneg x0, Int.natCast_pow]; exact x1
    exact Int.ofNat_lt.mp this) (by decide) (by omega)
  refine ⟨.int (0 + (i : Int) * 1), [some (.ref p), some (.int laps), some (.int (x * 1000000000 + q)), some (.int (0 + (i : Int) * 1))], G4, by simp only [Src.at, hi, if_true], ?_, x * 1000000000 + q, _, rfl, by omega, grow9 x0 x1 q1, a3, sI.trans s3⟩
  simp [b_num_loop, asT, exB, exS, evE, evL, bo_add, bo_mul, show BO.pow.f = fPow from rfl, pow9, mm, e3, f_add]
theorem num_loop {call : Nat → List IV → GH → RO} {ft p laps n : Nat} {r : Int} {G G2 : GH} (T : TakeSp call ft) (hn : n ≤ 800000) (hl3 : laps ≤ 3) (r0 : 0 ≤ r) (r1 : r < 1024) (a2 : PotAt G2 p (n + 2)) (s2 : Stp p G G2) :
    ∃ ε' G3, exS call (.for (.nm 3) (.rng (.cons (.v 1) .nil)) (b_num_loop ft)) [some (.ref p), some (.int laps), some (.int r), none] G2 = some (.nx ε' G3) ∧ numI p laps n G laps ε' G3 := by
  have e : evL call (.cons (.v 1) .nil) [some (.ref p), some (.int laps), some (.int r), none] G2 = some ([.int laps], G2) := by simp [evL, evE]
  have ev := ev_rng e (rng_one laps (by omega))
  obtain ⟨ε', G3, h1, h2⟩ := loop_inv (src := .rng 0 1 laps) (numI p laps n G) laps (fun ε G' _ => by simp [Src.stop]) (fun i ε G' hi hI => num_step T hn hl3 hi hI) laps 0 _ G2 (by omega) ⟨r, none, rfl, r0, by omega, a2, s2⟩
  exact ⟨ε', G3, ex_for ev h1, h2⟩
theorem num_first {call : Nat → List IV → GH → RO} {ft fo p laps n : Nat} {G : GH} (T : TakeSp call ft) (O : OfSp call fo) (h : PotAt G p n) (hn : n ≤ 800000) :
    ∃ r G2, 0 ≤ r ∧ r < 1024 ∧ PotAt G2 p (n + 2) ∧ Stp p G G2 ∧ exS call (.set (.nm 2) (.fn ft (.cons (.v 0) (.cons (.fn fo (.cons (.v 0) (.cons (.lst (.cons (.c (.int 4)) (.cons (.c (.int 4)) (.cons (.c (.int 11)) (.cons (.c (.int 1000)) .nil))))) .nil))) .nil)))) [some (.ref p), some (.int laps), none, none] G = some (.nx [some (.ref p), some (.int laps), some (.int r), none] G2) := by
  have hl := h.lt
  have a0 : PotAt (G ++ [.lst [.int 4, .int 4, .int 11, .int 1000]]) p n := h.app
  obtain ⟨w, G1, hw, e1, a1, s1⟩ := O p G.length n [.int 4, .int 4, .int 11, .int 1000] _ a0 (by omega) (by rw [List.getElem?_append_right (Nat.le_refl _), Nat.sub_self]; rfl) (by omega) (by simp) (by simp)
  obtain ⟨u, rfl, u0, u1⟩ : ∃ u : Int, w = .int u ∧ 0 < u ∧ u ≤ 1000 := by
    simp only [List.mem_cons, List.not_mem_nil, or_false] at hw
    rcases hw with z | z | z | z <;> exact ⟨_, z, by omega, by omega⟩
  obtain ⟨r, G2, r0, r1, e2, a2, s2⟩ := T p (n + 1) u G1 a1 (by omega) u0 (by omega)
  refine ⟨r, G2, r0, by omega, a2, Stp.app.trans (s1.trans s2), ?_⟩
  simp [exS, evE, evL, lim, e1, e2, asT]
theorem num_run {call : Nat → List IV → GH → RO} {ft fo p laps n at_ : Nat} {name : Str} {ps : List Str} {G : GH} (T : TakeSp call ft) (O : OfSp call fo) (h : PotAt G p n) (hn : n ≤ 800000) (hlaps : laps ≤ 3) :
    ∃ x G', x.natAbs < 2 ^ 100 ∧ runF call ⟨name, ps, ["pot", "laps", "found", "lap"], at_, b_law_number_drawn ft fo⟩ [.ref p, .int laps] G = some (.int x, G') ∧ PotAt G' p (n + 6) ∧ Stp p G G' := by
  obtain ⟨r, G2, r0, r1, a2, s2, f1⟩ := num_first (laps := laps) T O h hn
  obtain ⟨ε', G3, f2, x, y, rfl, x0, x1, a3, s3⟩ := num_loop T hn hlaps r0 r1 a2 s2
  obtain ⟨q, G4, q0, q1, e4, a4, s4⟩ := T p (n + 2 + laps) 2 G3 a3 (by omega) (by omega) (by omega)
  have xb : x.natAbs < 2 ^ 100 := by
    have h1 : x < 2 ^ 100 := Int.lt_of_lt_of_le x1 (by
      rw [show (2 : Int) ^ (10 + 30 * laps) = ((2 ^ (10 + 30 * laps) : Nat) : Int) from (Int.natCast_pow 2 _).symm, show (2 : Int) ^ 100 = ((2 ^ 100 : Nat) : Int) from (Int.natCast_pow 2 _).symm]
      exact Int.ofNat_le.mpr (Nat.pow_le_pow_right (by decide) (by omega)))
    omega
  have a5 : PotAt G4 p (n + 6) := a4.up (by omega)
  by_cases z : q = 0
  · refine ⟨x, G4, xb, run_is (ex_cons f1 (ex_cons f2 (ex_last (ex_ret ?_)))), a5, s3.trans s4⟩
    simp [evE, evL, e4, CO.f, eq_int, z]
  · refine ⟨-x, G4, by rw [Int.natAbs_neg]; exact xb, run_is (ex_cons f1 (ex_cons f2 (ex_last (ex_ret ?_)))), a5, s3.trans s4⟩
    have z2 : (q == 0) = false := beq_false_of_ne z
    simp [evE, evL, e4, CO.f, eq_int, z2, fNeg]
theorem num_sp {Γ : List FD} {k j at_ ft fo : Nat} {name : Str} {ps : List Str} (hd : Γ[j]? = some ⟨name, ps, ["pot", "laps", "found", "lap"], at_, b_law_number_drawn ft fo⟩) (l : ps.length = 2) (T : TakeSp (callF Γ k) ft) (O : OfSp (callF Γ k) fo) : NumSp (callF Γ (k + 1)) j := by
  intro p n laps G h hn hlaps
  obtain ⟨x, G4, xb, e, a5, s5⟩ := num_run (name := name) (ps := ps) (at_ := at_) T O h hn hlaps
  obtain ⟨G', t1, t2, t3⟩ := trim_stp (v := .int x) a5 s5 h.lt
  exact ⟨x, G', xb, (callF_refs hd (by simp [l]) rfl G).trans ((congrArg (trim G.length) e).trans t1), t2, t3⟩
end Lk
namespace Lk
open PySem PySem.Spec PyProof.Rows L2
theorem ex_set {call : Nat → List IV → GH → RO} {t : CT} {e : CE} {ε ε' : EV} {G G1 G' : GH} {v : IV} (h : evE call e ε G = some (v, G1)) (k : asT call t v ε G1 = some (ε', G')) : exS call (.set t e) ε G = some (.nx ε' G') := by
  rw [exS, h]
  simp only [k]
theorem ex_setc {call : Nat → List IV → GH → RO} {i : Nat} {e : CE} {ε : EV} {G G1 : GH} {v : IV} (h : evE call e ε G = some (v, G1)) : exS call (.setc i e) ε G = some (.nx (ε.set i (some v)) G1) := by
  rw [exS, h]
theorem ex_ifT {call : Nat → List IV → GH → RO} {c : CE} {a b : CB} {ε : EV} {G G1 : GH} {o : Option Out} (h : evE call c ε G = some (.bl true, G1)) (k : exB call a ε G1 = o) : exS call (.ife c a b) ε G = o := by
  rw [exS, h]
  exact k
theorem ex_ifF {call : Nat → List IV → GH → RO} {c : CE} {a b : CB} {ε : EV} {G G1 : GH} {o : Option Out} (h : evE call c ε G = some (.bl false, G1)) (k : exB call b ε G1 = o) : exS call (.ife c a b) ε G = o := by
  rw [exS, h]
  exact k
theorem ex_nil {call : Nat → List IV → GH → RO} {ε : EV} {G : GH} : exB call .nil ε G = some (.nx ε G) := by rw [exB]
theorem ev_comp {call : Nat → List IV → GH → RO} {own : List (Str × Nat)} {t : CT} {i : CI} {elt : CE} {ε : EV} {G G1 G9 : GH} {src : Src} (h : evI call i ε G = some (src, G1)) (k : compF src G1.length (fun w G2 => match asT call t w (wipeI ε (own.map (·.2))) G2 with
      | none => none
      | some (ε3, G3) => match evE call elt ε3 G3 with
        | none => none
        | some (v, G5) => some (some v, G5)) (src.len G1) 0 (G1 ++ [.lst []]) = some G9) : evE call (.comp own t i .no elt) ε G = some (.ref G1.length, G9) := by
  rw [evE, h]
  simp only [evQ]
  have e : ∀ (f g : IV → GH → Option (Option IV × GH)), f = g → compF src G1.length f (src.len G1) 0 (G1 ++ [.lst []]) = compF src G1.length g (src.len G1) 0 (G1 ++ [.lst []]) := fun f g z => by rw [z]
  rw [e _ _ (funext fun w => funext fun G2 => ?_), k]
  cases asT call t w (wipeI ε (own.map (·.2))) G2 with
  | none => rfl
  | some z => rfl
/-! ### weights -/
def LwSp (call : Nat → List IV → GH → RO) (fn : Nat) : Prop := ∀ (a b c : Int) (G : GH), 0 < c → c < 2 ^ 9000 → b.natAbs < wfuel → call fn [.int a, .int b, .int c] G = some (lw a b c, G)
def WtSp (call : Nat → List IV → GH → RO) (fw : Nat) : Prop := ∀ (p n : Nat) (G : GH), PotAt G p n → n ≤ 700000 →
  ∃ a b c G', R 102 a b c ∧ call fw [.ref p] G = some (lw a b c, G') ∧ PotAt G' p (n + 40) ∧ Stp p G G'
def l7 : CL := .cons (.tup (.cons (.c (.int 0)) (.cons (.c (.int 0)) (.cons (.c (.int 1)) .nil)))) (.cons (.tup (.cons (.c (.int 1)) (.cons (.c (.int 0)) (.cons (.c (.int 1)) .nil)))) (.cons (.tup (.cons (.c (.int 0)) (.cons (.c (.int 1)) (.cons (.c (.int 1)) .nil)))) (.cons (.tup (.cons (.neg (.c (.int 1))) (.cons (.c (.int 0)) (.cons (.c (.int 1)) .nil)))) (.cons (.tup (.cons (.c (.int 0)) (.cons (.neg (.c (.int 1))) (.cons (.c (.int 1)) .nil)))) (.cons (.tup (.cons (.c (.int 1)) (.cons (.c (.int 1)) (.cons (.c (.int 2)) .nil)))) (.cons (.tup (.cons (.c (.int 1)) (.cons (.neg (.c (.int 1))) (.cons (.c (.int 2)) .nil)))) .nil))))))
def w7 : List IV := [wI 0 0 1, wI 1 0 1, wI 0 1 1, wI (-1) 0 1, wI 0 (-1) 1, wI 1 1 2, wI 1 (-1) 2]
theorem ev_l7 (call : Nat → List IV → GH → RO) (ε : EV) (G : GH) : evL call l7 ε G = some (w7, G) := by
  simp [l7, evL, evE, fNeg, lim, w7, wI]
theorem w7_is {w : IV} (h : w ∈ w7) : ∃ a b c, R 102 a b c ∧ w = lw a b c := by
  simp only [w7, List.mem_cons, List.not_mem_nil, or_false] at h
  rcases h with z | z | z | z | z | z | z
  · exact ⟨0, 0, 1, ⟨by decide, by decide, by decide, by decide⟩, z⟩
  · exact ⟨1, 0, 1, ⟨by decide, by decide, by decide, by decide⟩, z⟩
  · exact ⟨0, 1, 1, ⟨by decide, by decide, by decide, by decide⟩, z⟩
  · exact ⟨-1, 0, 1, ⟨by decide, by decide, by decide, by decide⟩, z.trans (show wI (-1) 0 1 = lw (-1) 0 1 by simp [lw, wI, g3, gI])⟩
  · exact ⟨0, -1, 1, ⟨by decide, by decide, by decide, by decide⟩, z.trans (show wI 0 (-1) 1 = lw 0 (-1) 1 by simp [lw, wI, g3, gI])⟩
  · exact ⟨1, 1, 2, ⟨by decide, by decide, by decide, by decide⟩, z⟩
  · exact ⟨1, -1, 2, ⟨by decide, by decide, by decide, by decide⟩, z.trans (show wI 1 (-1) 2 = lw 1 (-1) 2 by simp [lw, wI, g3, gI])⟩
def l5 : CL := .cons (.tup (.cons (.c (.int 3)) (.cons (.c (.int 4)) (.cons (.c (.int 5)) .nil)))) (.cons (.tup (.cons (.c (.int 5)) (.cons (.c (.int 12)) (.cons (.c (.int 13)) .nil)))) (.cons (.tup (.cons (.c (.int 8)) (.cons (.c (.int 15)) (.cons (.c (.int 17)) .nil)))) (.cons (.tup (.cons (.c (.int 7)) (.cons (.c (.int 24)) (.cons (.c (.int 25)) .nil)))) (.cons (.tup (.cons (.c (.int 0)) (.cons (.c (.int 1)) (.cons (.c (.int 1)) .nil)))) .nil))))
def w5 : List IV := [wI 3 4 5, wI 5 12 13, wI 8 15 17, wI 7 24 25, wI 0 1 1]
theorem ev_l5 (call : Nat → List IV → GH → RO) (ε : EV) (G : GH) : evL call l5 ε G = some (w5, G) := by
  simp [l5, evL, evE, lim, w5, wI]
theorem w5_is {w : IV} (h : w ∈ w5) : ∃ a b c, w = wI a b c ∧ 0 < c ∧ a.natAbs < 100 ∧ b.natAbs < 100 ∧ c < 100 := by
  simp only [w5, List.mem_cons, List.not_mem_nil, or_false] at h
  rcases h with z | z | z | z | z <;> exact ⟨_, _, _, z, by decide, by decide, by decide, by decide⟩
/-- one of a list that is written out -/
theorem ev_of {call : Nat → List IV → GH → RO} {fo p n i : Nat} {es : CL} {ws : List IV} {ε : EV} {G : GH} (O : OfSp call fo) (e : evL call es ε G = some (ws, G)) (v : ε[i]? = some (some (.ref p))) (h : PotAt G p n) (hn : n ≤ 900000) (nz : ws ≠ []) (l : ws.length < 1000) :
    ∃ w G', w ∈ ws ∧ evE call (.fn fo (.cons (.v i) (.cons (.lst es) .nil))) ε G = some (w, G') ∧ PotAt G' p (n + 1) ∧ Stp p G G' := by
  have a0 : PotAt (G ++ [.lst ws]) p n := h.app
  have hl := h.lt
  obtain ⟨w, G1, hw, e1, a1, s1⟩ := O p G.length n ws _ a0 hn (by rw [List.getElem?_append_right (Nat.le_refl _), Nat.sub_self]; rfl) (by omega) nz l
  refine ⟨w, G1, hw, ?_, a1, Stp.app.trans s1⟩
  have lw : ws.length ≤ lim := Nat.le_trans (Nat.le_of_lt l) (by decide)
  simp only [evE, evL, v, e, lw, if_true, e1]
theorem ev_take {call : Nat → List IV → GH → RO} {ft p n i : Nat} {u : Int} {ε : EV} {G : GH} (T : TakeSp call ft) (v : ε[i]? = some (some (.ref p))) (h : PotAt G p n) (hn : n ≤ 900000) (hu : 0 < u) (hu2 : u < 2 ^ 60) :
    ∃ r G', 0 ≤ r ∧ r < u ∧ evE call (.fn ft (.cons (.v i) (.cons (.c (.int u)) .nil))) ε G = some (.int r, G') ∧ PotAt G' p (n + 1) ∧ Stp p G G' := by
  obtain ⟨r, G1, r0, r1, e1, a1, s1⟩ := T p n u G h hn hu hu2
  refine ⟨r, G1, r0, r1, ?_, a1, s1⟩
  simp only [evE, evL, v, e1]
def wdA (fo : Nat) : CB := .cons (.ret (.fn fo (.cons (.v 0) (.cons (.lst l7) .nil)))) .nil
def wdB (ft fo fn : Nat) : CB := .cons (.set (.tup (.cons (.nm 2) (.cons (.nm 3) (.cons (.nm 4) .nil)))) (.fn fo (.cons (.v 0) (.cons (.lst l5) .nil)))) (.cons (.set (.tup (.cons (.nm 2) (.cons (.nm 3) .nil))) (.ite (.cmp .eq (.fn ft (.cons (.v 0) (.cons (.c (.int 2)) .nil))) (.c (.int 0))) (.tup (.cons (.v 2) (.cons (.v 3) .nil))) (.tup (.cons (.v 3) (.cons (.neg (.v 2)) .nil))))) (.cons (.ret (.fn fn (.cons (.v 2) (.cons (.ite (.cmp .eq (.fn ft (.cons (.v 0) (.cons (.c (.int 2)) .nil))) (.c (.int 0))) (.v 3) (.neg (.v 3))) (.cons (.v 4) .nil))))) .nil))
def l6 : CL := .cons (.c (.int 0)) (.cons (.c (.int 0)) (.cons (.c (.int 0)) (.cons (.c (.int 0)) (.cons (.c (.int 1)) (.cons (.c (.int 3)) .nil)))))
def wdC (ft fo fn fd : Nat) : CB := .cons (.set (.nm 5) (.fn fo (.cons (.v 0) (.cons (.lst l6) .nil)))) (.cons (.set (.tup (.cons (.nm 6) (.cons (.nm 7) (.cons (.nm 8) .nil)))) (.comp [("at", 9)] (.nm 9) (.rng (.cons (.c (.int 3)) .nil)) .no (.fn fd (.cons (.v 0) (.cons (.v 5) .nil))))) (.cons (.ret (.fn fn (.cons (.v 6) (.cons (.ite (.cmp .gt (.fn ft (.cons (.v 0) (.cons (.c (.int 4)) .nil))) (.c (.int 0))) (.v 7) (.c (.int 0))) (.cons (.bin .add (.c (.int 1)) (.bi .abs (.cons (.v 8) .nil))) .nil))))) .nil))
def b_law_weight_drawn (ft fo fn fd : Nat) : CB := .cons (.set (.nm 1) (.fn ft (.cons (.v 0) (.cons (.c (.int 8)) .nil)))) (.cons (.ife (.cmp .eq (.v 1) (.c (.int 0))) (wdA fo) (.nil)) (.cons (.ife (.cmp .lt (.v 1) (.c (.int 3))) (wdB ft fo fn) (.nil)) (wdC ft fo fn fd)))
section
variable {call : Nat → List IV → GH → RO} {ft fo fn fd p n : Nat} {G : GH}
theorem wd_a {ε : EV} (O : OfSp call fo) (h : PotAt G p n) (hn : n ≤ 800000) (v : ε[0]? = some (some (.ref p))) :
    ∃ a b c G', R 102 a b c ∧ exB call (wdA fo) ε G = some (.rt (lw a b c) G') ∧ PotAt G' p (n + 1) ∧ Stp p G G' := by
  obtain ⟨w, G', hw, e, a1, s1⟩ := ev_of O (ev_l7 call ε G) v h (by omega) (by simp [w7]) (by simp [w7])
  obtain ⟨a, b, c, r, rfl⟩ := w7_is hw
  exact ⟨a, b, c, G', r, ex_last (ex_ret e), a1, s1⟩
theorem abs7 {x : Int} (h : x.natAbs < 100) : x.natAbs < 2 ^ 102 := Nat.lt_trans h (by decide)
theorem wd_b {x1 x2 x3 x4 x5 x6 x7 x8 x9 : Option IV} (T : TakeSp call ft) (O : OfSp call fo) (L : LwSp call fn) (h : PotAt G p n) (hn : n ≤ 800000) :
    ∃ a b c G', R 102 a b c ∧ exB call (wdB ft fo fn) [some (.ref p), x1, x2, x3, x4, x5, x6, x7, x8, x9] G = some (.rt (lw a b c) G') ∧ PotAt G' p (n + 3) ∧ Stp p G G' := by
  obtain ⟨w, G1, hw, e1, a1, s1⟩ := ev_of (i := 0) O (ev_l5 call [some (.ref p), x1, x2, x3, x4, x5, x6, x7, x8, x9] G) rfl h (by omega) (by simp [w5]) (by simp [w5])
  obtain ⟨a, b, c, rfl, c0, ha, hb, hc⟩ := w5_is hw
  have f1 : exS call (.set (.tup (.cons (.nm 2) (.cons (.nm 3) (.cons (.nm 4) .nil)))) (.fn fo (.cons (.v 0) (.cons (.lst l5) .nil)))) [some (.ref p), x1, x2, x3, x4, x5, x6, x7, x8, x9] G = some (.nx [some (.ref p), x1, some (.int a), some (.int b), some (.int c), x5, x6, x7, x8, x9] G1) :=
    ex_set e1 (by simp [asT, asTs, itsOf, wI])
  obtain ⟨r, G2, r0, r1, e2, a2, s2⟩ := ev_take (i := 0) (u := 2) (ε := [some (.ref p), x1, some (.int a), some (.int b), some (.int c), x5, x6, x7, x8, x9]) T rfl a1 (by omega) (by omega) (by omega)
  -- the pair
  have f2 : ∃ a' b', a'.natAbs < 100 ∧ b'.natAbs < 100 ∧ exS call (.set (.tup (.cons (.nm 2) (.cons (.nm 3) .nil))) (.ite (.cmp .eq (.fn ft (.cons (.v 0) (.cons (.c (.int 2)) .nil))) (.c (.int 0))) (.tup (.cons (.v 2) (.cons (.v 3) .nil))) (.tup (.cons (.v 3) (.cons (.neg (.v 2)) .nil))))) [some (.ref p), x1, some (.int a), some (.int b), some (.int c), x5, x6, x7, x8, x9] G1 = some (.nx [some (.ref p), x1, some (.int a'), some (.int b'), some (.int c), x5, x6, x7, x8, x9] G2) := by
    by_cases z : r = 0
    · refine ⟨a, b, ha, hb, ex_set (v := .tup [.int a, .int b]) (G1 := G2) ?_ (by simp [asT, asTs, itsOf])⟩
      rw [evE]
      have : evE call (.cmp .eq (.fn ft (.cons (.v 0) (.cons (.c (.int 2)) .nil))) (.c (.int 0))) [some (.ref p), x1, some (.int a), some (.int b), some (.int c), x5, x6, x7, x8, x9] G1 = some (.bl true, G2) := by
        rw [evE, e2]; simp [evE, CO.f, eq_int, z]
      rw [this]
      simp [evE, evL, lim]
    · refine ⟨b, -a, hb, by rw [Int.natAbs_neg]; exact ha, ex_set (v := .tup [.int b, .int (-a)]) (G1 := G2) ?_ (by simp [asT, asTs, itsOf])⟩
      rw [evE]
      have : evE call (.cmp .eq (.fn ft (.cons (.v 0) (.cons (.c (.int 2)) .nil))) (.c (.int 0))) [some (.ref p), x1, some (.int a), some (.int b), some (.int c), x5, x6, x7, x8, x9] G1 = some (.bl false, G2) := by
        have z2 : (r == 0) = false := beq_false_of_ne z
        rw [evE, e2]; simp [evE, CO.f, eq_int, z2]
      rw [this]
      simp [evE, evL, lim, fNeg]
  obtain ⟨a', b', ha', hb', f2⟩ := f2
  obtain ⟨q, G3, q0, q1, e3, a3, s3⟩ := ev_take (i := 0) (u := 2) (ε := [some (.ref p), x1, some (.int a'), some (.int b'), some (.int c), x5, x6, x7, x8, x9]) T rfl a2 (by omega) (by omega) (by omega)
  have cb : c < 2 ^ 9000 := lt_9000 c0 (abs7 (by omega)) (by decide)
  have f3 : ∃ b'', b''.natAbs < 100 ∧ evE call (.ite (.cmp .eq (.fn ft (.cons (.v 0) (.cons (.c (.int 2)) .nil))) (.c (.int 0))) (.v 3) (.neg (.v 3))) [some (.ref p), x1, some (.int a'), some (.int b'), some (.int c), x5, x6, x7, x8, x9] G2 = some (.int b'', G3) := by
    by_cases z : q = 0
    · refine ⟨b', hb', ?_⟩
      rw [evE]
      have : evE call (.cmp .eq (.fn ft (.cons (.v 0) (.cons (.c (.int 2)) .nil))) (.c (.int 0))) [some (.ref p), x1, some (.int a'), some (.int b'), some (.int c), x5, x6, x7, x8, x9] G2 = some (.bl true, G3) := by
        rw [evE, e3]; simp [evE, CO.f, eq_int, z]
      rw [this]
      simp [evE]
    · refine ⟨-b', by rw [Int.natAbs_neg]; exact hb', ?_⟩
      rw [evE]
      have : evE call (.cmp .eq (.fn ft (.cons (.v 0) (.cons (.c (.int 2)) .nil))) (.c (.int 0))) [some (.ref p), x1, some (.int a'), some (.int b'), some (.int c), x5, x6, x7, x8, x9] G2 = some (.bl false, G3) := by
        have z2 : (q == 0) = false := beq_false_of_ne z
        rw [evE, e3]; simp [evE, CO.f, eq_int, z2]
      rw [this]
      simp [evE, fNeg]
  obtain ⟨b'', hb'', f3⟩ := f3
  have wb : b''.natAbs < wfuel := Nat.lt_of_lt_of_le hb'' (Nat.le_trans (by decide : 100 ≤ 2 ^ 7) (Nat.pow_le_pow_right (by decide) (by decide)))
  refine ⟨a', b'', c, G3, ⟨c0, abs7 ha', abs7 hb'', abs7 (by omega)⟩, ex_cons f1 (ex_cons f2 (ex_last (ex_ret ?_))), a3, s1.trans (s2.trans s3)⟩
  rw [evE, evL, show evE call (.v 2) [some (.ref p), x1, some (.int a'), some (.int b'), some (.int c), x5, x6, x7, x8, x9] G2 = some (.int a', G2) by simp [evE]]
  simp only []
  rw [evL, f3]
  simp only [evL, evE, List.getElem?_cons_succ, List.getElem?_cons_zero, L a' b'' c G3 c0 cb wb]
def wcE (p laps : Nat) (x1 x2 x3 x4 : Option IV) : EV := [some (.ref p), x1, x2, x3, x4, some (.int laps), none, none, none, none]
theorem ev_l6 (ε : EV) (G : GH) : evL call l6 ε G = some ([.int 0, .int 0, .int 0, .int 0, .int 1, .int 3], G) := by
  simp [l6, evL, evE]
/-- three numbers, one after the other -/
theorem ev_three {laps : Nat} {x1 x2 x3 x4 : Option IV} (D : NumSp call fd) (h : PotAt G p n) (hn : n ≤ 700000) (hl : laps ≤ 3) :
    ∃ x y z G', x.natAbs < 2 ^ 100 ∧ y.natAbs < 2 ^ 100 ∧ z.natAbs < 2 ^ 100 ∧ exS call (.set (.tup (.cons (.nm 6) (.cons (.nm 7) (.cons (.nm 8) .nil)))) (.comp [("at", 9)] (.nm 9) (.rng (.cons (.c (.int 3)) .nil)) .no (.fn fd (.cons (.v 0) (.cons (.v 5) .nil))))) (wcE p laps x1 x2 x3 x4) G
      = some (.nx [some (.ref p), x1, x2, x3, x4, some (.int laps), some (.int x), some (.int y), some (.int z), none] G') ∧ PotAt G' p (n + 18) ∧ Stp p G G' := by
  have e : evL call (.cons (.c (.int 3)) .nil) (wcE p laps x1 x2 x3 x4) G = some ([.int (3 : Nat)], G) := by simp [evL, evE]
  have ev := ev_rng e (rng_one 3 (by decide))
  have hlt := h.lt
  let I : Nat → List IV → GH → Prop := fun i acc G' => (∀ w ∈ acc, ∃ x : Int, w = .int x ∧ x.natAbs < 2 ^ 100) ∧ PotAt G' p (n + 6 * i) ∧ Stp p G G'
  obtain ⟨acc, G9, k, g9, l9, hI, a9, s9⟩ := comp_inv (src := .rng 0 1 3) (n := G.length) (step := fun w G2 => match asT call (.nm 9) w (wipeI (wcE p laps x1 x2 x3 x4) (([("at", 9)] : List (Str × Nat)).map (·.2))) G2 with
      | none => none
      | some (ε3, G3) => match evE call (.fn fd (.cons (.v 0) (.cons (.v 5) .nil))) ε3 G3 with
        | none => none
        | some (v, G5) => some (some v, G5)) I 3 (by decide) (fun acc G' _ => by simp [Src.stop]) (fun i acc G' hi hI hg => by
      obtain ⟨i1, i2, i3⟩ := hI
      obtain ⟨x, G1, xb, e1, a1, s1⟩ := D p (n + 6 * i) laps G' i2 (by omega) hl
      have gl : G.length < G'.length := (List.getElem?_eq_some_iff.mp hg).1
      have g1 := s1.at_ hg (by omega)
      refine ⟨.int (0 + (i : Int) * 1), .int x, G1, by simp only [Src.at, hi, if_true], ?_, g1, ?_, ?_, ?_⟩
      · simp [asT, wipeI, wcE, evE, evL, e1]
      · intro w hw
        rcases List.mem_append.mp hw with z | z
        · exact i1 w z
        · rw [List.mem_singleton] at z
          exact ⟨x, z, xb⟩
      · obtain ⟨a, b, c, ea, q⟩ := a1
        exact ⟨a, b, c, by rw [List.getElem?_set_ne (by omega)]; exact ea, q⟩
      · have st := i3.trans s1
        exact ⟨by rw [List.length_set]; exact st.le, fun j lj nj => by rw [List.getElem?_set_ne (by omega)]; exact st.same j lj nj⟩) 3 0 [] (G ++ [.lst []]) rfl rfl (by rw [List.getElem?_append_right (Nat.le_refl _), Nat.sub_self]; rfl) ⟨fun w hw => absurd hw (List.not_mem_nil), h.app, Stp.app⟩
  match acc, l9, hI, g9 with
  | [u, v, w], _, hI, g9 =>
    obtain ⟨x, rfl, hx⟩ := hI u (by simp)
    obtain ⟨y, rfl, hy⟩ := hI v (by simp)
    obtain ⟨z, rfl, hz⟩ := hI w (by simp)
    refine ⟨x, y, z, G9, hx, hy, hz, ex_set (ev_comp ev k) ?_, a9, s9⟩
    simp [asT, asTs, itsOf, g9, its_lst, wcE]
theorem wd_c {x1 x2 x3 x4 : Option IV} (T : TakeSp call ft) (O : OfSp call fo) (L : LwSp call fn) (D : NumSp call fd) (h : PotAt G p n) (hn : n ≤ 600000) :
    ∃ a b c G', R 102 a b c ∧ exB call (wdC ft fo fn fd) [some (.ref p), x1, x2, x3, x4, none, none, none, none, none] G = some (.rt (lw a b c) G') ∧ PotAt G' p (n + 20) ∧ Stp p G G' := by
  obtain ⟨w, G1, hw, e1, a1, s1⟩ := ev_of (i := 0) O (ev_l6 [some (.ref p), x1, x2, x3, x4, none, none, none, none, none] G) rfl h (by omega) (by simp) (by simp)
  obtain ⟨laps, rfl, hl⟩ : ∃ laps : Nat, w = .int laps ∧ laps ≤ 3 := by
    simp only [List.mem_cons, List.not_mem_nil, or_false] at hw
    rcases hw with z | z | z | z | z | z
    · exact ⟨0, z, by omega⟩
    · exact ⟨0, z, by omega⟩
    · exact ⟨0, z, by omega⟩
    · exact ⟨0, z, by omega⟩
    · exact ⟨1, z, by omega⟩
    · exact ⟨3, z, by omega⟩
  have f1 : exS call (.set (.nm 5) (.fn fo (.cons (.v 0) (.cons (.lst l6) .nil)))) [some (.ref p), x1, x2, x3, x4, none, none, none, none, none] G = some (.nx (wcE p laps x1 x2 x3 x4) G1) :=
    ex_set e1 (by simp [asT, wcE])
  obtain ⟨x, y, z, G2, hx, hy, hz, f2, a2, s2⟩ := ev_three (x1 := x1) (x2 := x2) (x3 := x3) (x4 := x4) D a1 (by omega) hl
  obtain ⟨q, G3, q0, q1, e3, a3, s3⟩ := ev_take (i := 0) (u := 4) (ε := [some (.ref p), x1, x2, x3, x4, some (.int laps), some (.int x), some (.int y), some (.int z), none]) T rfl a2 (by omega) (by omega) (by omega)
  have f3 : ∃ y' : Int, y'.natAbs < 2 ^ 100 ∧ evE call (.ite (.cmp .gt (.fn ft (.cons (.v 0) (.cons (.c (.int 4)) .nil))) (.c (.int 0))) (.v 7) (.c (.int 0))) [some (.ref p), x1, x2, x3, x4, some (.int laps), some (.int x), some (.int y), some (.int z), none] G2 = some (.int y', G3) := by
    by_cases c : 0 < q
    · refine ⟨y, hy, ?_⟩
      rw [evE]
      have : evE call (.cmp .gt (.fn ft (.cons (.v 0) (.cons (.c (.int 4)) .nil))) (.c (.int 0))) [some (.ref p), x1, x2, x3, x4, some (.int laps), some (.int x), some (.int y), some (.int z), none] G2 = some (.bl true, G3) := by
        rw [evE, e3]; simp [evE, CO.f, fGt, onInts, c]
      rw [this]
      simp [evE]
    · refine ⟨0, by decide, ?_⟩
      rw [evE]
      have : evE call (.cmp .gt (.fn ft (.cons (.v 0) (.cons (.c (.int 4)) .nil))) (.c (.int 0))) [some (.ref p), x1, x2, x3, x4, some (.int laps), some (.int x), some (.int y), some (.int z), none] G2 = some (.bl false, G3) := by
        rw [evE, e3]; simp [evE, CO.f, fGt, onInts, c]
      rw [this]
      simp [evE]
  obtain ⟨y', hy', f3⟩ := f3
  have za : (if z < 0 then -z else z).natAbs < 2 ^ 100 := by split <;> omega
  have c0 : 0 < 1 + (if z < 0 then -z else z) := by split <;> omega
  have cb : (1 + (if z < 0 then -z else z)).natAbs < 2 ^ 102 := by omega
  have wb : y'.natAbs < wfuel := Nat.lt_of_lt_of_le hy' (Nat.pow_le_pow_right (by decide) (by decide))
  refine ⟨x, y', 1 + (if z < 0 then -z else z), G3, ⟨c0, abs_up hx (by decide), abs_up hy' (by decide), cb⟩, ex_cons f1 (ex_cons f2 (ex_last (ex_ret ?_))), a3.up (by omega), s1.trans (s2.trans s3)⟩
  rw [evE, evL, show evE call (.v 6) [some (.ref p), x1, x2, x3, x4, some (.int laps), some (.int x), some (.int y), some (.int z), none] G2 = some (.int x, G2) by simp [evE]]
  simp only []
  rw [evL, f3]
  have lsp := L x y' (1 + (if z < 0 then -z else z)) G3 c0 (lt_9000 c0 cb (by decide)) wb
  have e4 : evL call (.cons (.bin .add (.c (.int 1)) (.bi .abs (.cons (.v 8) .nil))) .nil) [some (.ref p), x1, x2, x3, x4, some (.int laps), some (.int x), some (.int y), some (.int z), none] G3 = some ([.int (1 + (if z < 0 then -z else z))], G3) := by
    simp [evL, evE, BI.run, fAbs, bo_add, f_add]
  simp only [e4, lsp]
theorem wd_run {at_ : Nat} {name : Str} {ps : List Str} (T : TakeSp call ft) (O : OfSp call fo) (L : LwSp call fn) (D : NumSp call fd) (h : PotAt G p n) (hn : n ≤ 500000) :
    ∃ a b c G', R 102 a b c ∧ runF call ⟨name, ps, ["pot", "way", "p", "q", "r", "laps", "re", "im", "bottom", "at"], at_, b_law_weight_drawn ft fo fn fd⟩ [.ref p] G = some (lw a b c, G') ∧ PotAt G' p (n + 40) ∧ Stp p G G' := by
  obtain ⟨r, G1, r0, r1, e1, a1, s1⟩ := ev_take (i := 0) (u := 8) (ε := [some (.ref p), none, none, none, none, none, none, none, none, none]) T rfl h (by omega) (by omega) (by omega)
  have f1 : exS call (.set (.nm 1) (.fn ft (.cons (.v 0) (.cons (.c (.int 8)) .nil)))) [some (.ref p), none, none, none, none, none, none, none, none, none] G = some (.nx [some (.ref p), some (.int r), none, none, none, none, none, none, none, none] G1) :=
    ex_set e1 (by simp [asT])
  by_cases z : r = 0
  · obtain ⟨a, b, c, G2, R1, e2, a2, s2⟩ := wd_a (ε := [some (.ref p), some (.int r), none, none, none, none, none, none, none, none]) O a1 (by omega) rfl
    refine ⟨a, b, c, G2, R1, run_is (ex_cons f1 (ex_last (ex_ifT (G1 := G1) ?_ e2))), a2.up (by omega), s1.trans s2⟩
    simp [evE, CO.f, eq_int, z]
  · have z2 : (r == 0) = false := beq_false_of_ne z
    by_cases z3 : r < 3
    · obtain ⟨a, b, c, G2, R1, e2, a2, s2⟩ := wd_b (x1 := some (.int r)) (x2 := none) (x3 := none) (x4 := none) (x5 := none) (x6 := none) (x7 := none) (x8 := none) (x9 := none) T O L a1 (by omega)
      refine ⟨a, b, c, G2, R1, run_is (ex_cons f1 (ex_cons (ex_ifF (G1 := G1) ?_ ex_nil) (ex_last (ex_ifT (G1 := G1) ?_ e2)))), a2.up (by omega), s1.trans s2⟩
      · simp [evE, CO.f, eq_int, z2]
      · simp [evE, CO.f, fLt, onInts, z3]
    · obtain ⟨a, b, c, G2, R1, e2, a2, s2⟩ := wd_c (x1 := some (.int r)) (x2 := none) (x3 := none) (x4 := none) T O L D a1 (by omega)
      refine ⟨a, b, c, G2, R1, run_is (ex_cons f1 (ex_cons (ex_ifF (G1 := G1) ?_ ex_nil) (ex_cons (ex_ifF (G1 := G1) ?_ ex_nil) e2))), a2.up (by omega), s1.trans s2⟩
      · simp [evE, CO.f, eq_int, z2]
      · simp [evE, CO.f, fLt, onInts, z3]
end
theorem wt_sp {Γ : List FD} {k j at_ ft fo fn fd : Nat} {name : Str} {ps : List Str} (hd : Γ[j]? = some ⟨name, ps, ["pot", "way", "p", "q", "r", "laps", "re", "im", "bottom", "at"], at_, b_law_weight_drawn ft fo fn fd⟩) (l : ps.length = 1) (T : TakeSp (callF Γ k) ft) (O : OfSp (callF Γ k) fo) (L : LwSp (callF Γ k) fn) (D : NumSp (callF Γ k) fd) :
    ∀ (p n : Nat) (G : GH), PotAt G p n → n ≤ 500000 → ∃ a b c G', R 102 a b c ∧ callF Γ (k + 1) j [.ref p] G = some (lw a b c, G') ∧ PotAt G' p (n + 40) ∧ Stp p G G' := by
  intro p n G h hn
  obtain ⟨a, b, c, G1, r, e, a1, s1⟩ := wd_run (name := name) (ps := ps) (at_ := at_) T O L D h hn
  obtain ⟨G', t1, t2, t3⟩ := trim_stp (v := lw a b c) a1 s1 h.lt
  exact ⟨a, b, c, G', r, (callF_refs hd (by simp [l]) rfl G).trans ((congrArg (trim G.length) e).trans t1), t2, t3⟩
end Lk
namespace Lk
open PySem PySem.Spec PyProof.Rows L2
/-! ### what the functions tell -/
def ChkSp (call : Nat → List IV → GH → RO) (f : Nat) : Prop := ∀ (a b c : Int) (G : GH), 0 < c → g3 a b c = 1 → call f [wI a b c] G = some (.non, G)
def LeastSp (call : Nat → List IV → GH → RO) (f : Nat) : Prop := ∀ (a b c : Int) (G : GH), 0 < c → c < 2 ^ 9000 → call f [.int a, .int b, .int c] G = some (lw a b c, G)
def ComSp (call : Nat → List IV → GH → RO) (f : Nat) : Prop := ∀ (a b : Int) (G : GH), b.natAbs < wfuel → call f [.int a, .int b] G = some (.int (gI a b), G)
def PlusSp (call : Nat → List IV → GH → RO) (f : Nat) : Prop := ∀ {a b c x y z : Int} {n m : Nat} (G : GH), R n a b c → R m x y z → n + m ≤ 8000 → call f [lw a b c, lw x y z] G = some (lw (a * z + x * c) (b * z + y * c) (c * z), G)
def TimesSp (call : Nat → List IV → GH → RO) (f : Nat) : Prop := ∀ {a b c x y z : Int} {n m : Nat} (G : GH), R n a b c → R m x y z → n + m ≤ 8000 → call f [lw a b c, lw x y z] G = some (lw (a * x - b * y) (a * y + b * x) (c * z), G)
section
variable {Γ : List FD} {k j at_ : Nat} {name : Str} {ps : List Str}
theorem int_sp (hd : Γ[j]? = some ⟨name, ps, ["value"], at_, b_is_integer⟩) (l : ps.length = 1) (i : Int) (G : GH) : callF Γ (k + 1) j [.int i] G = some (.bl true, G) :=
  callP hd (by simp [l]) rfl (run_is_integer _ i []) rfl G
theorem ints_sp {f : Nat} (hd : Γ[j]? = some ⟨name, ps, ["value", "part"], at_, b_are_integers f⟩) (l : ps.length = 1) (hf : ∀ i G, callF Γ k f [.int i] G = some (.bl true, G)) (a b c : Int) (G : GH) : callF Γ (k + 1) j [wI a b c] G = some (.bl true, G) := by
  obtain ⟨G', e⟩ := run_are_integers (name := name) (ps := ps) (at_ := at_) _ a b c hf
  exact callP hd (by simp [l]) rfl e rfl G
theorem isw_sp {f : Nat} (hd : Γ[j]? = some ⟨name, ps, ["value", "re", "im", "bottom"], at_, b_is_weight f⟩) (l : ps.length = 1) (hf : ∀ a b c G, callF Γ k f [wI a b c] G = some (.bl true, G)) (a b c : Int) (G : GH) (h0 : 0 < c) (h1 : g3 a b c = 1) : callF Γ (k + 1) j [wI a b c] G = some (.bl true, G) :=
  callP hd (by simp [l]) rfl (run_is_weight _ a b c [] h0 h1 (hf a b c [])) rfl G
theorem chk_sp {f : Nat} (hd : Γ[j]? = some ⟨name, ps, ["value"], at_, b_check_weight f⟩) (l : ps.length = 1) (hf : ∀ a b c G, 0 < c → g3 a b c = 1 → callF Γ k f [wI a b c] G = some (.bl true, G)) : ChkSp (callF Γ (k + 1)) j := fun a b c G h0 h1 =>
  callP hd (by simp [l]) rfl (run_check_weight _ (wI a b c) [] (hf a b c [] h0 h1)) rfl G
theorem least_sp (hd : Γ[j]? = some ⟨name, ps, ["re", "im", "bottom", "shared"], at_, b_least_weight⟩) (l : ps.length = 3) : LeastSp (callF Γ (k + 1)) j := fun a b c G h0 h1 =>
  callP hd (by simp [l]) rfl (run_least_weight _ a b c [] h0 h1) rfl G
theorem com_sp (hd : Γ[j]? = some ⟨name, ps, ["one", "other"], at_, b_law_num_common⟩) (l : ps.length = 2) : ComSp (callF Γ (k + 1)) j := fun a b G h =>
  callP hd (by simp [l]) rfl (run_common _ a b [] h) rfl G
theorem lw_sp {f : Nat} (hd : Γ[j]? = some ⟨name, ps, ["re", "im", "bottom", "by"], at_, b_law_num f⟩) (l : ps.length = 3) (hf : ComSp (callF Γ k) f) : LwSp (callF Γ (k + 1)) j := fun a b c G h0 h1 hb =>
  callP hd (by simp [l]) rfl (run_num _ a b c [] h0 h1 hb fun a b h => hf a b [] h) rfl G
theorem plus_sp {fc fl : Nat} (hd : Γ[j]? = some ⟨name, ps, ["one", "other", "one_re", "one_im", "one_bottom", "other_re", "other_im", "other_bottom", "re", "im"], at_, b_plus fc fl⟩) (l : ps.length = 2) (hc : ChkSp (callF Γ k) fc) (hl : LeastSp (callF Γ k) fl) : PlusSp (callF Γ (k + 1)) j := fun G h i b =>
  callP hd (by simp [l]) rfl (run_plus _ h i b (fun a b c => hc a b c []) fun a b c => hl a b c []) rfl G
theorem times_sp {fc fl : Nat} (hd : Γ[j]? = some ⟨name, ps, ["one", "other", "one_re", "one_im", "one_bottom", "other_re", "other_im", "other_bottom", "re", "im"], at_, b_times fc fl⟩) (l : ps.length = 2) (hc : ChkSp (callF Γ k) fc) (hl : LeastSp (callF Γ k) fl) : TimesSp (callF Γ (k + 1)) j := fun G h i b =>
  callP hd (by simp [l]) rfl (run_times _ h i b (fun a b c => hc a b c []) fun a b c => hl a b c []) rfl G
end
def b_law_num_plus (f_law_num : Nat) : CB := .cons (.par 2 3 (.ix (.v 0) (.c (.int 2))) (.ix (.v 1) (.c (.int 2)))) (.cons (.ret (.fn f_law_num (.cons (.bin .add (.bin .mul (.ix (.v 0) (.c (.int 0))) (.v 3)) (.bin .mul (.ix (.v 1) (.c (.int 0))) (.v 2))) (.cons (.bin .add (.bin .mul (.ix (.v 0) (.c (.int 1))) (.v 3)) (.bin .mul (.ix (.v 1) (.c (.int 1))) (.v 2))) (.cons (.bin .mul (.v 2) (.v 3)) .nil))))) .nil)
theorem wf_abs {x : Int} {n : Nat} (h : x.natAbs < 2 ^ n) (l : n ≤ 20000) : x.natAbs < wfuel := Nat.lt_of_lt_of_le h (Nat.pow_le_pow_right (by decide) l)
theorem run_num_plus (call : Nat → List IV → GH → RO) {name : Str} {ps : List Str} {at_ fn n m : Nat} {a b c x y z : Int} {G : GH} (h : R n a b c) (k : R m x y z) (l : n + m ≤ 8000) (L : LwSp call fn) :
    runF call ⟨name, ps, ["one", "other", "low", "high"], at_, b_law_num_plus fn⟩ [lw a b c, lw x y z] G = some (lw (a * z + x * c) (b * z + y * c) (c * z), G) := by
  obtain ⟨g, a', b', c', gp, ea, eb, ec, cp, g1, e1⟩ := lw_parts (a := a) (b := b) h.p
  obtain ⟨j, x', y', z', jp, ex, ey, ez, zp, j1, e2⟩ := lw_parts (a := x) (b := y) k.p
  rw [e1, e2]
  have ha := abs_div h.a ea gp; have hb := abs_div h.b eb gp; have hcc := abs_div h.c ec gp
  have hx := abs_div k.a ex jp; have hy := abs_div k.b ey jp; have hz := abs_div k.c ez jp
  have m1 := f_mul (G := G) ha hz (by omega)
  have m2 := f_mul (G := G) hx hcc (by omega)
  have m3 := f_mul (G := G) hb hz (by omega)
  have m4 := f_mul (G := G) hy hcc (by omega)
  have m5 := f_mul (G := G) hcc hz (by omega)
  have pp : 0 < c' * z' := Int.mul_pos cp zp
  have m6 := L (a' * z' + x' * c') (b' * z' + y' * c') (c' * z') G pp (lt_9000 pp (abs_mul_lt hcc hz) (by omega)) (wf_abs (abs_add_lt (abs_mul_lt hb hz) (by rw [Nat.add_comm]; exact abs_mul_lt hy hcc)) (by omega))
  have fin : lw (a' * z' + x' * c') (b' * z' + y' * c') (c' * z') = lw (a * z + x * c) (b * z + y * c) (c * z) := by
    rw [← lw_scale (Int.mul_pos gp jp), ea, eb, ec, ex, ey, ez]
    congr 1 <;> grind
  unfold runF b_law_num_plus
  have st : startI ["one", "other", "low", "high"] [wI a' b' c', wI x' y' z'] = [some (wI a' b' c'), some (wI x' y' z'), none, none] := rfl
  rw [st]
  unfold wI
  simp [exB, exS, evE, evL, fIx, at0, at1, at2, bo_add, bo_mul, m1, m2, m3, m4, m5, m6, f_add, fin]
def b_law_num_times (f_law_num : Nat) : CB := .cons (.par 2 3 (.bin .sub (.bin .mul (.ix (.v 0) (.c (.int 0))) (.ix (.v 1) (.c (.int 0)))) (.bin .mul (.ix (.v 0) (.c (.int 1))) (.ix (.v 1) (.c (.int 1))))) (.bin .add (.bin .mul (.ix (.v 0) (.c (.int 0))) (.ix (.v 1) (.c (.int 1)))) (.bin .mul (.ix (.v 0) (.c (.int 1))) (.ix (.v 1) (.c (.int 0)))))) (.cons (.ret (.fn f_law_num (.cons (.v 2) (.cons (.v 3) (.cons (.bin .mul (.ix (.v 0) (.c (.int 2))) (.ix (.v 1) (.c (.int 2)))) .nil))))) .nil)
theorem run_num_times (call : Nat → List IV → GH → RO) {name : Str} {ps : List Str} {at_ fn n m : Nat} {a b c x y z : Int} {G : GH} (h : R n a b c) (k : R m x y z) (l : n + m ≤ 8000) (L : LwSp call fn) :
    runF call ⟨name, ps, ["one", "other", "re", "im"], at_, b_law_num_times fn⟩ [lw a b c, lw x y z] G = some (lw (a * x - b * y) (a * y + b * x) (c * z), G) := by
  obtain ⟨g, a', b', c', gp, ea, eb, ec, cp, g1, e1⟩ := lw_parts (a := a) (b := b) h.p
  obtain ⟨j, x', y', z', jp, ex, ey, ez, zp, j1, e2⟩ := lw_parts (a := x) (b := y) k.p
  rw [e1, e2]
  have ha := abs_div h.a ea gp; have hb := abs_div h.b eb gp; have hcc := abs_div h.c ec gp
  have hx := abs_div k.a ex jp; have hy := abs_div k.b ey jp; have hz := abs_div k.c ez jp
  have m1 := f_mul (G := G) ha hx (by omega)
  have m2 := f_mul (G := G) hb hy (by omega)
  have m3 := f_mul (G := G) ha hy (by omega)
  have m4 := f_mul (G := G) hb hx (by omega)
  have m5 := f_mul (G := G) hcc hz (by omega)
  have pp : 0 < c' * z' := Int.mul_pos cp zp
  have m6 := L (a' * x' - b' * y') (a' * y' + b' * x') (c' * z') G pp (lt_9000 pp (abs_mul_lt hcc hz) (by omega)) (wf_abs (abs_add_lt (abs_mul_lt ha hy) (abs_mul_lt hb hx)) (by omega))
  have fin : lw (a' * x' - b' * y') (a' * y' + b' * x') (c' * z') = lw (a * x - b * y) (a * y + b * x) (c * z) := by
    rw [← lw_scale (Int.mul_pos gp jp), ea, eb, ec, ex, ey, ez]
    congr 1 <;> grind
  unfold runF b_law_num_times
  have st : startI ["one", "other", "re", "im"] [wI a' b' c', wI x' y' z'] = [some (wI a' b' c'), some (wI x' y' z'), none, none] := rfl
  rw [st]
  unfold wI
  simp [exB, exS, evE, evL, fIx, at0, at1, at2, bo_add, bo_sub, bo_mul, m1, m2, m3, m4, m5, m6, f_add, f_sub, fin]
section
variable {Γ : List FD} {k j at_ : Nat} {name : Str} {ps : List Str}
theorem num_plus_sp {fn : Nat} (hd : Γ[j]? = some ⟨name, ps, ["one", "other", "low", "high"], at_, b_law_num_plus fn⟩) (l : ps.length = 2) (L : LwSp (callF Γ k) fn) : PlusSp (callF Γ (k + 1)) j := fun G h i b =>
  callP hd (by simp [l]) rfl (run_num_plus _ h i b L) rfl G
theorem num_times_sp {fn : Nat} (hd : Γ[j]? = some ⟨name, ps, ["one", "other", "re", "im"], at_, b_law_num_times fn⟩) (l : ps.length = 2) (L : LwSp (callF Γ k) fn) : TimesSp (callF Γ (k + 1)) j := fun G h i b =>
  callP hd (by simp [l]) rfl (run_num_times _ h i b L) rfl G
end
/-! ### texts of what is the same -/
mutual
theorem sameD_refl : ∀ (d : PyData) (n : Nat), swt d = some n → sameD d d = true
  | .none, n, h => by simp [sameD]
  | .bool b, n, h => by simp [sameD]
  | .int i, n, h => by simp [sameD]
  | .str x, n, h => by simp [sameD]
  | .list xs, n, h => by
    simp only [swt] at h
    split at h
    · rename_i m e; simp only [sameD]; exact sameDs_refl xs m e
    · cases h
  | .tuple xs, n, h => by
    simp only [swt] at h
    split at h
    · rename_i m e; simp only [sameD]; exact sameDs_refl xs m e
    · cases h
  | .dict _, n, h => by simp [swt] at h
theorem sameDs_refl : ∀ (xs : List PyData) (n : Nat), swts xs = some n → sameDs xs xs = true
  | [], n, h => by simp [sameDs]
  | x :: xs, n, h => by
    simp only [swts] at h
    split at h
    · cases h
    · rename_i a e1
      split at h
      · cases h
      · rename_i b e2
        simp only [sameDs, sameD_refl x a e1, sameDs_refl xs b e2, Bool.and_self]
end
def Shw (v : IV) : Prop := ∃ d m, (∀ G, gD G v = some d) ∧ toD v = some d ∧ swt d = some m ∧ m ≤ 100000 ∧ d.depth ≤ 5
theorem Shw.shows {v : IV} (h : Shw v) (G : GH) : ∃ d, shows G v = some d ∧ sameD d d = true := by
  obtain ⟨d, m, e1, _, e3, e4, e5⟩ := h
  refine ⟨d, ?_, sameD_refl d m e3⟩
  unfold Lk.shows
  rw [e1 G]
  simp only [e3]
  rw [if_pos ⟨by omega, by omega⟩]
theorem ev_rqS {call : Nat → List IV → GH → RO} {A B : CE} {ε : EV} {G : GH} {v w : IV} (h1 : evE call A ε G = some (v, G)) (h2 : evE call B ε G = some (w, G)) (e : v = w) (s : Shw v) : evE call (.rq true A B) ε G = some (.bl false, G) := by
  subst e
  obtain ⟨d, s1, s2⟩ := s.shows G
  rw [evE, h1]
  simp only [s1, h2, s2, if_true]
  rfl
theorem log_lt1920 {i : Int} {n : Nat} (h : i.natAbs < 2 ^ n) (l : n ≤ 1919) : i.natAbs.log2 < 1920 := log2_lt (by decide) (abs_up h (by omega))
theorem shw_lw {n : Nat} {a b c : Int} (h : R n a b c) (l : n ≤ 1900) : Shw (lw a b c) := by
  obtain ⟨g, a', b', c', gp, ea, eb, ec, cp, g1, e1⟩ := lw_parts (a := a) (b := b) h.p
  rw [e1]
  have ha := log_lt1920 (abs_div h.a ea gp) (by omega); have hb := log_lt1920 (abs_div h.b eb gp) (by omega); have hc := log_lt1920 (abs_div h.c ec gp) (by omega)
  refine ⟨.tuple [.int a', .int b', .int c'], 5775, fun G => ?_, ?_, ?_, by decide, ?_⟩
  · simp [gD, wI, toD, toDs]
  · simp [wI, toD, toDs]
  · simp [swt, swts, ha, hb, hc]
  · simp [PyData.depth, PyData.depthAll]
theorem shw_tup {vs : List IV} (h : ∀ v ∈ vs, ∃ n a b c, v = lw a b c ∧ R n a b c ∧ n ≤ 1900) (l : vs.length ≤ 3) : Shw (.tup vs) := by
  have one : ∀ v ∈ vs, ∃ d, toD v = some d ∧ swt d = some 5775 ∧ d.depth = 1 := fun v hv => by
    obtain ⟨n, a, b, c, rfl, r, ln⟩ := h v hv
    obtain ⟨g, a', b', c', gp, ea, eb, ec, cp, g1, e1⟩ := lw_parts (a := a) (b := b) r.p
    rw [e1]
    have ha := log_lt1920 (abs_div r.a ea gp) (by omega); have hb := log_lt1920 (abs_div r.b eb gp) (by omega); have hc := log_lt1920 (abs_div r.c ec gp) (by omega)
    refine ⟨.tuple [.int a', .int b', .int c'], ?_, ?_, ?_⟩
    · simp [wI, toD, toDs]
    · simp [swt, swts, ha, hb, hc]
    · simp [PyData.depth, PyData.depthAll]
  have all : ∀ us : List IV, (∀ v ∈ us, ∃ d, toD v = some d ∧ swt d = some 5775 ∧ d.depth = 1) → ∃ ds, toDs us = some ds ∧ swts ds = some (us.length * 5777) ∧ PyData.depthAll ds ≤ 1 := by
    intro us
    induction us with
    | nil => intro _; exact ⟨[], by simp [toDs], by simp [swts], by simp [PyData.depthAll]⟩
    | cons u us ih =>
      intro hu
      obtain ⟨d, d1, d2, d3⟩ := hu u List.mem_cons_self
      obtain ⟨ds, k1, k2, k3⟩ := ih fun v hv => hu v (List.mem_cons_of_mem _ hv)
      refine ⟨d :: ds, by simp [toDs, d1, k1], ?_, ?_⟩
      · simp only [swts, d2, k2, List.length_cons, Option.some.injEq]
        omega
      · simp only [PyData.depthAll]
        omega
  obtain ⟨ds, k1, k2, k3⟩ := all vs one
  refine ⟨.tuple ds, vs.length * 5777 + 6, fun G => ?_, ?_, ?_, by omega, ?_⟩
  · simp [gD, toD, k1]
  · simp [toD, k1]
  · simp [swt, k2]
  · simp only [PyData.depth]
    omega
end Lk
namespace Lk
open PySem PySem.Spec PyProof.Rows L2
/-! ### sums and products of weights: the laps -/
def WtS (call : Nat → List IV → GH → RO) (fw : Nat) : Prop := ∀ (p n : Nat) (G : GH), PotAt G p n → n ≤ 500000 → ∃ a b c G', R 102 a b c ∧ call fw [.ref p] G = some (lw a b c, G') ∧ PotAt G' p (n + 40) ∧ Stp p G G'
def threeC (fw : Nat) : CS := .set (.tup (.cons (.nm 2) (.cons (.nm 3) (.cons (.nm 4) .nil)))) (.comp [("at", 7)] (.nm 7) (.rng (.cons (.c (.int 3)) .nil)) .no (.fn fw (.cons (.v 0) .nil)))
section
variable {call : Nat → List IV → GH → RO} {fw fp ft fnp fnt p n : Nat} {G : GH}
theorem ev_weights {x1 x2 x3 x4 x5 x6 : Option IV} (W : WtS call fw) (h : PotAt G p n) (hn : n ≤ 400000) :
    ∃ a b c x y z u v w G', R 102 a b c ∧ R 102 x y z ∧ R 102 u v w ∧ exS call (threeC fw) [some (.ref p), x1, x2, x3, x4, x5, x6, none] G
      = some (.nx [some (.ref p), x1, some (lw a b c), some (lw x y z), some (lw u v w), x5, x6, none] G') ∧ PotAt G' p (n + 120) ∧ Stp p G G' := by
  have e : evL call (.cons (.c (.int 3)) .nil) [some (.ref p), x1, x2, x3, x4, x5, x6, none] G = some ([.int (3 : Nat)], G) := by simp [evL, evE]
  have ev := ev_rng e (rng_one 3 (by decide))
  have hlt := h.lt
  let I : Nat → List IV → GH → Prop := fun i acc G' => (∀ w ∈ acc, ∃ a b c, w = lw a b c ∧ R 102 a b c) ∧ PotAt G' p (n + 40 * i) ∧ Stp p G G'
  obtain ⟨acc, G9, k, g9, l9, hI, a9, s9⟩ := comp_inv (src := .rng 0 1 3) (n := G.length) (step := fun w G2 => match asT call (.nm 7) w (wipeI [some (.ref p), x1, x2, x3, x4, x5, x6, none] (([("at", 7)] : List (Str × Nat)).map (·.2))) G2 with
      | none => none
      | some (ε3, G3) => match evE call (.fn fw (.cons (.v 0) .nil)) ε3 G3 with
        | none => none
        | some (v, G5) => some (some v, G5)) I 3 (by decide) (fun acc G' _ => by simp [Src.stop]) (fun i acc G' hi hI hg => by
      obtain ⟨i1, i2, i3⟩ := hI
      obtain ⟨a, b, c, G1, r1, e1, a1, s1⟩ := W p (n + 40 * i) G' i2 (by omega)
      have gl : G.length < G'.length := (List.getElem?_eq_some_iff.mp hg).1
      have g1 := s1.at_ hg (by omega)
      refine ⟨.int (0 + (i : Int) * 1), lw a b c, G1, by simp only [Src.at, hi, if_true], ?_, g1, ?_, ?_, ?_⟩
      · simp [asT, wipeI, evE, evL, e1]
      · intro w hw
        rcases List.mem_append.mp hw with z | z
        · exact i1 w z
        · rw [List.mem_singleton] at z
          exact ⟨a, b, c, z, r1⟩
      · obtain ⟨a, b, c, ea, q⟩ := a1
        exact ⟨a, b, c, by rw [List.getElem?_set_ne (by omega)]; exact ea, q⟩
      · have st := i3.trans s1
        exact ⟨by rw [List.length_set]; exact st.le, fun j lj nj => by rw [List.getElem?_set_ne (by omega)]; exact st.same j lj nj⟩) 3 0 [] (G ++ [.lst []]) rfl rfl (by rw [List.getElem?_append_right (Nat.le_refl _), Nat.sub_self]; rfl) ⟨fun w hw => absurd hw (List.not_mem_nil), h.app, Stp.app⟩
  match acc, l9, hI, g9 with
  | [l1, l2, l3], _, hI, g9 =>
    obtain ⟨a, b, c, rfl, h1⟩ := hI l1 (by simp)
    obtain ⟨x, y, z, rfl, h2⟩ := hI l2 (by simp)
    obtain ⟨u, v, w, rfl, h3⟩ := hI l3 (by simp)
    refine ⟨a, b, c, x, y, z, u, v, w, G9, h1, h2, h3, ex_set (ev_comp ev k) ?_, a9, s9⟩
    simp [asT, asTs, itsOf, g9, its_lst]
theorem z0_is : IV.tup [.int 0, .int 0, .int 1] = lw 0 0 1 := by simp [lw, wI, g3, gI]
theorem z1_is : IV.tup [.int 1, .int 0, .int 1] = lw 1 0 1 := by simp [lw, wI, g3, gI]
theorem zm_is : IV.tup [.int (-1), .int 0, .int 1] = lw (-1) 0 1 := by simp [lw, wI, g3, gI]
theorem rz0 : R 2 0 0 1 := ⟨by decide, by decide, by decide, by decide⟩
theorem rz1 : R 2 1 0 1 := ⟨by decide, by decide, by decide, by decide⟩
theorem rzm : R 2 (-1) 0 1 := ⟨by decide, by decide, by decide, by decide⟩
def retF : CB := .cons (.ret (.c (.bl false))) .nil
def k00A : CE := .tup (.cons (.c (.int 0)) (.cons (.c (.int 0)) (.cons (.c (.int 1)) .nil)))
def k00lap (fw fp ft fnp fnt : Nat) : CB := .cons (threeC fw) (.cons (.par 5 6 (.fn fp (.cons (.v 2) (.cons (.v 3) .nil))) (.fnk ft (.nil) ["other", "one"] [1, 0] (.cons (.v 3) (.cons (.v 2) .nil)))) (.cons (.ife (.rq true (.tup (.cons (.v 5) (.cons (.v 6) .nil))) (.tup (.cons (.fn fnp (.cons (.v 2) (.cons (.v 3) .nil))) (.cons (.fn fnt (.cons (.v 2) (.cons (.v 3) .nil))) .nil)))) retF (.nil)) (.cons (.ife (.rq true (.tup (.cons (.fn fp (.cons (.v 3) (.cons (.v 2) .nil))) (.cons (.fn ft (.cons (.v 3) (.cons (.v 2) .nil))) .nil))) (.tup (.cons (.v 5) (.cons (.v 6) .nil)))) retF (.nil)) (.cons (.ife (.rq true (.fn fp (.cons (.v 5) (.cons (.v 4) .nil))) (.fn fp (.cons (.v 2) (.cons (.fn fp (.cons (.v 3) (.cons (.v 4) .nil))) .nil)))) retF (.nil)) (.cons (.ife (.rq true (.fn ft (.cons (.v 6) (.cons (.v 4) .nil))) (.fn ft (.cons (.v 2) (.cons (.fn ft (.cons (.v 3) (.cons (.v 4) .nil))) .nil)))) retF (.nil)) (.cons (.ife (.rq true (.fn ft (.cons (.v 5) (.cons (.v 4) .nil))) (.fn fp (.cons (.fn ft (.cons (.v 2) (.cons (.v 4) .nil))) (.cons (.fn ft (.cons (.v 3) (.cons (.v 4) .nil))) .nil)))) retF (.nil)) (.cons (.ife (.rq true (.tup (.cons (.fn fp (.cons (.v 2) (.cons k00A .nil))) (.cons (.fn ft (.cons (.v 2) (.cons (.tup (.cons (.c (.int 1)) (.cons (.c (.int 0)) (.cons (.c (.int 1)) .nil)))) .nil))) (.cons (.fn ft (.cons k00A (.cons (.v 2) .nil))) .nil)))) (.tup (.cons (.v 2) (.cons (.v 2) (.cons k00A .nil))))) retF (.nil)) (.cons (.ife (.rq true (.fn fp (.cons (.v 2) (.cons (.fn ft (.cons (.tup (.cons (.neg (.c (.int 1))) (.cons (.c (.int 0)) (.cons (.c (.int 1)) .nil)))) (.cons (.v 2) .nil))) .nil))) k00A) retF (.nil)) .nil))))))))
theorem lwI {a b c x y z : Int} (h1 : a = x) (h2 : b = y) (h3 : c = z) : lw a b c = lw x y z := by rw [h1, h2, h3]
theorem k00_lap {x1 x2 x3 x4 x5 x6 : Option IV} (W : WtS call fw) (P : PlusSp call fp) (T : TimesSp call ft) (NP : PlusSp call fnp) (NT : TimesSp call fnt) (h : PotAt G p n) (hn : n ≤ 400000) :
    ∃ y2 y3 y4 y5 y6 G', exB call (k00lap fw fp ft fnp fnt) [some (.ref p), x1, x2, x3, x4, x5, x6, none] G = some (.nx [some (.ref p), x1, y2, y3, y4, y5, y6, none] G') ∧ PotAt G' p (n + 120) ∧ Stp p G G' := by
  obtain ⟨a, b, c, x, y, z, u, v, w, G1, r1, r2, r3, e1, a1, s1⟩ := ev_weights (x1 := x1) (x2 := x2) (x3 := x3) (x4 := x4) (x5 := x5) (x6 := x6) W h hn
  have rA := r1.plus r2
  have rM := r1.times r2
  have rB := r2.plus r3
  have rC := r2.times r3
  have rD := r1.times r3
  have rN := rzm.times r1
  have qA := P G1 r1 r2 (by omega)
  have qM := T G1 r1 r2 (by omega)
  have e2 : exS call (.par 5 6 (.fn fp (.cons (.v 2) (.cons (.v 3) .nil))) (.fnk ft (.nil) ["other", "one"] [1, 0] (.cons (.v 3) (.cons (.v 2) .nil)))) [some (.ref p), x1, some (lw a b c), some (lw x y z), some (lw u v w), x5, x6, none] G1
      = some (.nx [some (.ref p), x1, some (lw a b c), some (lw x y z), some (lw u v w), some (lw (a * z + x * c) (b * z + y * c) (c * z)), some (lw (a * x - b * y) (a * y + b * x) (c * z)), none] G1) := by
    simp [exS, evE, evL, pick, qA, qM]
  let E : EV := [some (.ref p), x1, some (lw a b c), some (lw x y z), some (lw u v w), some (lw (a * z + x * c) (b * z + y * c) (c * z)), some (lw (a * x - b * y) (a * y + b * x) (c * z)), none]
  have v5 : evE call (.v 5) E G1 = some (lw (a * z + x * c) (b * z + y * c) (c * z), G1) := by simp [evE, E]
  have two : ∀ {A B : CE} {s t : IV}, evE call A E G1 = some (s, G1) → evE call B E G1 = some (t, G1) → evE call (.tup (.cons A (.cons B .nil))) E G1 = some (.tup [s, t], G1) := fun h1 h2 => by
    simp [evE, evL, h1, h2, lim]
  have c2 : ∀ {f : Nat} {A B : CE} {s t o : IV}, evE call A E G1 = some (s, G1) → evE call B E G1 = some (t, G1) → call f [s, t] G1 = some (o, G1) → evE call (.fn f (.cons A (.cons B .nil))) E G1 = some (o, G1) := fun h1 h2 h3 => by
    simp [evE, evL, h1, h2, h3]
  have v2 : evE call (.v 2) E G1 = some (lw a b c, G1) := by simp [evE, E]
  have v3 : evE call (.v 3) E G1 = some (lw x y z, G1) := by simp [evE, E]
  have v4 : evE call (.v 4) E G1 = some (lw u v w, G1) := by simp [evE, E]
  have v6 : evE call (.v 6) E G1 = some (lw (a * x - b * y) (a * y + b * x) (c * z), G1) := by simp [evE, E]
  have vz : evE call k00A E G1 = some (lw 0 0 1, G1) := by rw [← z0_is]; simp [k00A, evE, evL, lim]
  have v1 : evE call (.tup (.cons (.c (.int 1)) (.cons (.c (.int 0)) (.cons (.c (.int 1)) .nil)))) E G1 = some (lw 1 0 1, G1) := by rw [← z1_is]; simp [evE, evL, lim]
  have vm : evE call (.tup (.cons (.neg (.c (.int 1))) (.cons (.c (.int 0)) (.cons (.c (.int 1)) .nil)))) E G1 = some (lw (-1) 0 1, G1) := by rw [← zm_is]; simp [evE, evL, lim, fNeg]
  have iA : ∃ n a' b' c', lw (a * z + x * c) (b * z + y * c) (c * z) = lw a' b' c' ∧ R n a' b' c' ∧ n ≤ 1900 := ⟨_, _, _, _, rfl, rA, by omega⟩
  have iM : ∃ n a' b' c', lw (a * x - b * y) (a * y + b * x) (c * z) = lw a' b' c' ∧ R n a' b' c' ∧ n ≤ 1900 := ⟨_, _, _, _, rfl, rM, by omega⟩
  have p1 := r1.p; have p2 := r2.p; have p3 := r3.p
  have pcz := Int.mul_pos p1 p2; have pzw := Int.mul_pos p2 p3; have pcw := Int.mul_pos p1 p3
  -- 1
  have k1 := ev_rqS (two v5 v6) (two (c2 v2 v3 (NP G1 r1 r2 (by omega))) (c2 v2 v3 (NT G1 r1 r2 (by omega)))) rfl (shw_tup (fun q hq => by
    simp only [List.mem_cons, List.not_mem_nil, or_false] at hq
    rcases hq with rfl | rfl
    · exact iA
    · exact iM) (by simp))
  -- 2
  have k2 := ev_rqS (two (c2 v3 v2 (P G1 r2 r1 (by omega))) (c2 v3 v2 (T G1 r2 r1 (by omega)))) (two v5 v6) (by
    rw [lwI (show x * c + a * z = a * z + x * c by grind) (show y * c + b * z = b * z + y * c by grind) (Int.mul_comm z c), lwI (show x * a - y * b = a * x - b * y by grind) (show x * b + y * a = a * y + b * x by grind) (Int.mul_comm z c)]) (shw_tup (fun q hq => by
    simp only [List.mem_cons, List.not_mem_nil, or_false] at hq
    rcases hq with rfl | rfl
    · exact ⟨_, _, _, _, rfl, r2.plus r1, by omega⟩
    · exact ⟨_, _, _, _, rfl, r2.times r1, by omega⟩) (by simp))
  -- 3
  have k3 := ev_rqS (c2 v5 v4 (P G1 rA r3 (by omega))) (c2 v2 (c2 v3 v4 (P G1 r2 r3 (by omega))) (P G1 r1 rB (by omega))) (lw_eq (Int.mul_pos pcz p3) (Int.mul_pos p1 pzw) (by grind) (by grind)) (shw_lw (rA.plus r3) (by omega))
  -- 4
  have k4 := ev_rqS (c2 v6 v4 (T G1 rM r3 (by omega))) (c2 v2 (c2 v3 v4 (T G1 r2 r3 (by omega))) (T G1 r1 rC (by omega))) (lw_eq (Int.mul_pos pcz p3) (Int.mul_pos p1 pzw) (by grind) (by grind)) (shw_lw (rM.times r3) (by omega))
  -- 5
  have k5 := ev_rqS (c2 v5 v4 (T G1 rA r3 (by omega))) (c2 (c2 v2 v4 (T G1 r1 r3 (by omega))) (c2 v3 v4 (T G1 r2 r3 (by omega))) (P G1 rD rC (by omega))) (lw_eq (Int.mul_pos pcz p3) (Int.mul_pos pcw pzw) (by grind) (by grind)) (shw_lw (rA.times r3) (by omega))
  -- 6
  have three : ∀ {A B C : CE} {s t o : IV}, evE call A E G1 = some (s, G1) → evE call B E G1 = some (t, G1) → evE call C E G1 = some (o, G1) → evE call (.tup (.cons A (.cons B (.cons C .nil)))) E G1 = some (.tup [s, t, o], G1) := fun h1 h2 h3 => by
    simp [evE, evL, h1, h2, h3, lim]
  have k6 := ev_rqS (three (c2 v2 vz (P G1 r1 rz0 (by omega))) (c2 v2 v1 (T G1 r1 rz1 (by omega))) (c2 vz v2 (T G1 rz0 r1 (by omega)))) (three v2 v2 vz) (by
    rw [lw_eq (x := a) (y := b) (z := c) (show 0 < c * 1 by omega) p1 (by grind) (by grind), lw_eq (c := c * 1) (x := a) (y := b) (z := c) (show 0 < c * 1 by omega) p1 (by grind) (by grind), lw_eq (x := 0) (y := 0) (z := 1) (show 0 < 1 * c by omega) (by decide) (by grind) (by grind)]) (shw_tup (fun q hq => by
    simp only [List.mem_cons, List.not_mem_nil, or_false] at hq
    rcases hq with rfl | rfl | rfl
    · exact ⟨_, _, _, _, rfl, r1.plus rz0, by omega⟩
    · exact ⟨_, _, _, _, rfl, r1.times rz1, by omega⟩
    · exact ⟨_, _, _, _, rfl, rz0.times r1, by omega⟩) (by simp))
  -- 7
  have k7 := ev_rqS (c2 v2 (c2 vm v2 (T G1 rzm r1 (by omega))) (P G1 r1 rN (by omega))) vz (lw_eq (Int.mul_pos p1 (by omega)) (by decide) (by grind) (by grind)) (shw_lw (r1.plus rN) (by omega))
  exact ⟨_, _, _, _, _, G1, ex_cons e1 (ex_cons e2 (ex_cons (ex_ifF k1 ex_nil) (ex_cons (ex_ifF k2 ex_nil) (ex_cons (ex_ifF k3 ex_nil) (ex_cons (ex_ifF k4 ex_nil) (ex_cons (ex_ifF k5 ex_nil) (ex_cons (ex_ifF k6 ex_nil) (ex_cons (ex_ifF k7 ex_nil) ex_nil)))))))), a1, s1⟩
def b_k00_right (fw fp ft fnp fnt : Nat) : CB := .cons (.for (.nm 1) (.rng (.cons (.c (.int 12)) .nil)) (k00lap fw fp ft fnp fnt)) (.cons (.ret (.c (.bl true))) .nil)
def k00I (p : Nat) (G : GH) (i : Nat) (ε : EV) (G' : GH) : Prop := ∃ x1 x2 x3 x4 x5 x6, ε = [some (.ref p), x1, x2, x3, x4, x5, x6, none] ∧ PotAt G' p (120 * i) ∧ Stp p G G'
theorem k00_step (W : WtS call fw) (P : PlusSp call fp) (T : TimesSp call ft) (NP : PlusSp call fnp) (NT : TimesSp call fnt) {i : Nat} {ε : EV} {G' : GH} (hi : i < 12) (hI : k00I p G i ε G') :
    ∃ w ε' G'', (Src.rng 0 1 12).at G' i = some w ∧ (match asT call (.nm 1) w ε G' with
      | none => none
      | some (ε', G') => exB call (k00lap fw fp ft fnp fnt) ε' G') = some (.nx ε' G'') ∧ k00I p G (i + 1) ε' G'' := by
  obtain ⟨x1, x2, x3, x4, x5, x6, rfl, a, s⟩ := hI
  obtain ⟨y2, y3, y4, y5, y6, G2, e, a2, s2⟩ := k00_lap (x1 := some (.int (0 + (i : Int) * 1))) (x2 := x2) (x3 := x3) (x4 := x4) (x5 := x5) (x6 := x6) W P T NP NT a (by omega)
  refine ⟨.int (0 + (i : Int) * 1), [some (.ref p), some (.int (0 + (i : Int) * 1)), y2, y3, y4, y5, y6, none], G2, by simp only [Src.at, hi, if_true], ?_, some (.int (0 + (i : Int) * 1)), y2, y3, y4, y5, y6, rfl, a2.up (by omega), s.trans s2⟩
  simp only [asT, List.set_cons_succ, List.set_cons_zero]
  exact e
theorem k00_right {name : Str} {ps : List Str} {at_ : Nat} (W : WtS call fw) (P : PlusSp call fp) (T : TimesSp call ft) (NP : PlusSp call fnp) (NT : TimesSp call fnt) (h : PotAt G p 0) :
    ∃ G', runF call ⟨name, ps, ["pot", "lap", "one", "other", "third", "added", "made", "at"], at_, b_k00_right fw fp ft fnp fnt⟩ [.ref p] G = some (.bl true, G') ∧ PotAt G' p 1440 ∧ Stp p G G' := by
  have e : evL call (.cons (.c (.int 12)) .nil) [some (.ref p), none, none, none, none, none, none, none] G = some ([.int (12 : Nat)], G) := by simp [evL, evE]
  have ev := ev_rng e (rng_one 12 (by decide))
  obtain ⟨ε', G3, h1, x1, x2, x3, x4, x5, x6, rfl, a3, s3⟩ := loop_inv (src := .rng 0 1 12) (k00I p G) 12 (fun ε G' _ => by simp [Src.stop]) (fun i ε G' hi hI => k00_step W P T NP NT hi hI) 12 0 _ G (by omega) ⟨none, none, none, none, none, none, rfl, h, Stp.refl⟩
  exact ⟨G3, run_is (ex_cons (ex_for ev h1) (ex_last (ex_ret (by rw [evE])))), a3, s3⟩
end
/-! ### a law over one or two cells -/
def RightSp (call : Nat → List IV → GH → RO) (f : Nat) : Prop := ∀ (p : Nat) (G : GH), PotAt G p 0 → ∃ G', call f [.ref p] G = some (.bl true, G') ∧ Stp p G G'
def PotSp (call : Nat → List IV → GH → RO) (f : Nat) : Prop := ∀ (s : Nat) (place : Int) (ns : List Int) (G : GH), G[s]? = some (.scr (ns.map IV.int)) → ns.length ≤ 63 → 0 ≤ place ∧ place ≤ 100 →
  ∃ p G', call f [.ref s, .int place] G = some (.ref p, G') ∧ PotAt G' p 0 ∧ G.length ≤ p ∧ (∀ i, i < G.length → G'[i]? = G[i]?)
theorem pot_sp {Γ : List FD} {k j at_ : Nat} {c0 c1 c2 c3 c4 : Int} {name : Str} {ps : List Str} (hd : Γ[j]? = some ⟨name, ps, ["script", "place", "cell", "own", "small"], at_, b_law_pot c0 c1 c2 c3 c4⟩) (l : ps.length = 2)
    (k0 : 0 ≤ c0 ∧ c0 < 2 ^ 20) (k1 : 0 ≤ c1 ∧ c1 < 2 ^ 20) (k2 : 0 ≤ c2 ∧ c2 < 2 ^ 20) (k3 : 0 ≤ c3 ∧ c3 < 2 ^ 20) (k4 : 0 ≤ c4 ∧ c4 < 2 ^ 20) : PotSp (callF Γ (k + 1)) j := by
  intro s place ns G hs hn hp
  obtain ⟨a, b, Z, m, P, hm, at', e⟩ := run_pot (callF Γ k) s place c0 c1 c2 c3 c4 ns G name ps at_ hs hn hp k0 k1 k2 k3 k4
  exact ⟨m, G ++ Z, (callF_refs hd (by simp [l]) rfl G).trans ((congrArg (trim G.length) e).trans trim_ref), ⟨a, b, 0, at', P⟩, hm, fun i li => List.getElem?_append_left li⟩
def b_law_cells : CB := .cons (.ret (.lrg (.cons (.bi .max (.cons (.c (.int 1)) (.cons (.bi .min (.cons (.v 1) (.cons (.bi .len (.cons (.v 0) .nil)) .nil))) .nil))) .nil))) .nil
def CellSp (call : Nat → List IV → GH → RO) (f : Nat) : Prop := ∀ (s : Nat) (ns : List Int) (G : GH), G[s]? = some (.scr (ns.map IV.int)) → ns.length ≤ 63 →
  ∃ m, (m = 1 ∨ m = 2) ∧ call f [.ref s, .int 2] G = some (.ref G.length, G ++ [.lst ((List.range m).map fun i => .int (i : Nat))])
theorem ev_lrg {call : Nat → List IV → GH → RO} {es : CL} {ε : EV} {G G1 : GH} {xs : List IV} {n : Nat} (e : evL call es ε G = some (xs, G1)) (t : rngOf xs = some (0, 1, n)) (l : n ≤ lim) : evE call (.lrg es) ε G = some (.ref G1.length, G1 ++ [.lst ((List.range n).map fun i => .int (i : Nat))]) := by
  rw [evE, e]
  simp only [t]
  have c : (decide (n ≤ lim) && decide ((0 : Int) ≤ 0) && decide ((0 : Int) ≤ lim)) = true := by
    rw [Bool.and_eq_true, Bool.and_eq_true, decide_eq_true_eq, decide_eq_true_eq, decide_eq_true_eq]
    exact ⟨⟨l, Int.le_refl _⟩, by decide⟩
  rw [if_pos c]
  simp only [Int.zero_add]
theorem cell_sp {Γ : List FD} {k j at_ : Nat} {name : Str} {ps : List Str} (hd : Γ[j]? = some ⟨name, ps, ["script", "most"], at_, b_law_cells⟩) (l : ps.length = 2) : CellSp (callF Γ (k + 1)) j := by
  intro s ns G hs hn
  have key : ∃ m, (m = 1 ∨ m = 2) ∧ evL (callF Γ k) (.cons (.bi .max (.cons (.c (.int 1)) (.cons (.bi .min (.cons (.v 1) (.cons (.bi .len (.cons (.v 0) .nil)) .nil))) .nil))) .nil) [some (.ref s), some (.int 2)] G = some ([.int (m : Nat)], G) := by
    by_cases h2 : (ns.length : Int) < 2
    · refine ⟨1, .inl rfl, ?_⟩
      have h3 : ¬ ((1 : Int) < ns.length) := by omega
      simp [evL, evE, BI.run, fLen, itsOf, hs, its_scr, fMax, fMin, h2, h3]
    · refine ⟨2, .inr rfl, ?_⟩
      simp [evL, evE, BI.run, fLen, itsOf, hs, its_scr, fMax, fMin, h2]
  obtain ⟨m, hm, e⟩ := key
  refine ⟨m, hm, ?_⟩
  have mb : m ≤ 2 := by omega
  have e2 := ev_lrg e (rng_one m (by omega)) (Nat.le_trans mb (by decide))
  have st : startI ["script", "most"] [IV.ref s, .int 2] = [some (.ref s), some (.int 2)] := rfl
  refine (callF_refs hd (by simp [l]) rfl G).trans ((congrArg (trim G.length) (run_is (G' := G ++ [.lst ((List.range m).map fun i => .int (i : Nat))]) (v := .ref G.length) ?_)).trans trim_ref)
  show exB (callF Γ k) b_law_cells (startI ["script", "most"] [IV.ref s, .int 2]) G = _
  rw [st]
  exact ex_last (ex_ret e2)
def b_law_cells2 (fc fr fp : Nat) : CB := .cons (.ret (.bi .all (.cons (.comp [("place", 1)] (.nm 1) (.ex (.fn fc (.cons (.v 0) (.cons (.c (.int 2)) .nil)))) .no (.fn fr (.cons (.fn fp (.cons (.v 0) (.cons (.v 1) .nil))) .nil))) .nil))) .nil
theorem cells2_run {call : Nat → List IV → GH → RO} {fc fr fp at_ : Nat} {name : Str} {ps : List Str} (C : CellSp call fc) (Rt : RightSp call fr) (Pt : PotSp call fp) (ns : List Int) (hn : ns.length ≤ 63) :
    ∃ G', runF call ⟨name, ps, ["script", "place"], at_, b_law_cells2 fc fr fp⟩ [.ref 0] [.scr (ns.map IV.int)] = some (.bl true, G') := by
  obtain ⟨m, hm, e1⟩ := C 0 ns [.scr (ns.map IV.int)] rfl hn
  let G1 : GH := [.scr (ns.map IV.int), .lst ((List.range m).map fun i => .int (i : Nat))]
  have ev : evI call (.ex (.fn fc (.cons (.v 0) (.cons (.c (.int 2)) .nil)))) [some (.ref 0), none] [.scr (ns.map IV.int)] = some (.lst 1, G1) := by
    simp [evI, evE, evL, e1, G1]
  let I : Nat → List IV → GH → Prop := fun i acc G' => (∀ w ∈ acc, w = .bl true) ∧ G'[0]? = some (.scr (ns.map IV.int)) ∧ G'[1]? = some (.lst ((List.range m).map fun i => .int (i : Nat)))
  obtain ⟨acc, G9, k, g9, l9, hI, _⟩ := comp_inv (src := .lst 1) (n := 2) (step := fun w G2 => match asT call (.nm 1) w (wipeI [some (.ref 0), none] (([("place", 1)] : List (Str × Nat)).map (·.2))) G2 with
      | none => none
      | some (ε3, G3) => match evE call (.fn fr (.cons (.fn fp (.cons (.v 0) (.cons (.v 1) .nil))) .nil)) ε3 G3 with
        | none => none
        | some (v, G5) => some (some v, G5)) I m (by omega) (fun acc G' hI => by
      obtain ⟨_, _, i3⟩ := hI
      simp [Src.stop, i3, its_lst]) (fun i acc G' hi hI hg => by
      obtain ⟨i1, i2, i3⟩ := hI
      have gl : 2 < G'.length := (List.getElem?_eq_some_iff.mp hg).1
      obtain ⟨p, G2, e2, a2, l2, s2⟩ := Pt 0 i ns G' i2 hn (by omega)
      obtain ⟨G3, e3, s3⟩ := Rt p G2 a2
      have keep : ∀ j, j < 3 → G3[j]? = G'[j]? := fun j hj => (s3.same j (by have := a2.lt; omega) (by omega)).trans (s2 j (by omega))
      refine ⟨.int (i : Nat), .bl true, G3, ?_, ?_, (keep 2 (by decide)).trans hg, ?_, ?_, ?_⟩
      · simp [Src.at, i3, its_lst, hi]
      · simp [asT, wipeI, evE, evL, e2, e3]
      · intro w hw
        rcases List.mem_append.mp hw with z | z
        · exact i1 w z
        · rw [List.mem_singleton] at z
          exact z
      · rw [List.getElem?_set_ne (by decide), keep 0 (by decide)]; exact i2
      · rw [List.getElem?_set_ne (by decide), keep 1 (by decide)]; exact i3) m 0 [] (G1 ++ [.lst []]) (by omega) rfl rfl ⟨fun w hw => absurd hw (List.not_mem_nil), rfl, rfl⟩
  have len1 : (Src.lst 1).len G1 = m := by simp [Src.len, G1, its_lst]
  have e5 := ev_comp (own := [("place", 1)]) (t := .nm 1) (elt := .fn fr (.cons (.fn fp (.cons (.v 0) (.cons (.v 1) .nil))) .nil)) (G9 := G9) ev (by rw [len1]; exact k)
  have all : ∀ xs : List IV, (∀ w ∈ xs, w = IV.bl true) → ∃ bs, asBls xs = some bs ∧ (bs.all fun b => b) = true := by
    intro xs
    induction xs with
    | nil => intro _; exact ⟨[], rfl, rfl⟩
    | cons x xs ih =>
      intro h
      obtain ⟨bs, b1, b2⟩ := ih fun w hw => h w (List.mem_cons_of_mem _ hw)
      have := h x List.mem_cons_self
      subst this
      exact ⟨true :: bs, by simp [asBls, b1], by simpa using b2⟩
  obtain ⟨bs, b1, b2⟩ := all acc hI
  refine ⟨G9, run_is ?_⟩
  show exB call (b_law_cells2 fc fr fp) [some (.ref 0), none] _ = _
  refine ex_last (ex_ret ?_)
  rw [evE, evL, e5]
  simp only [evL, BI.run, fAll, lstOf, show G1.length = 2 from rfl, g9, its_lst, b1, b2]
end Lk
namespace Lk
open PySem PySem.Spec PyProof.Rows L2
/-! ### fractions -/
theorem lf_parts {a c : Int} (h : 0 < c) : ∃ g a' c', 0 < g ∧ a = g * a' ∧ c = g * c' ∧ 0 < c' ∧ lf a c = fI a' c' := by
  have gp := gI_pos (a := a) h
  obtain ⟨a', e1⟩ := gI_dl a c
  obtain ⟨c', e3⟩ := gI_dr a c
  have nz : gI a c ≠ 0 := by omega
  have q1 : a / gI a c = a' := Int.ediv_eq_of_eq_mul_right nz e1
  have q3 : c / gI a c = c' := Int.ediv_eq_of_eq_mul_right nz e3
  have cp : 0 < c' := by
    rcases Int.lt_or_le 0 c' with z | z
    · exact z
    · have := Int.mul_nonpos_of_nonneg_of_nonpos (Int.le_of_lt gp) z
      omega
  exact ⟨gI a c, a', c', gp, e1, e3, cp, by unfold lf; rw [q1, q3]⟩
def FracSp (call : Nat → List IV → GH → RO) (f : Nat) : Prop := ∀ (a c : Int) (G : GH), 0 < c → c < 2 ^ 9000 → call f [.int a, .int c] G = some (lf a c, G)
def SizeSp (call : Nat → List IV → GH → RO) (f : Nat) : Prop := ∀ {a b c : Int} {n : Nat} (G : GH), R n a b c → n ≤ 4000 → call f [lw a b c] G = some (lf (a * a + b * b) (c * c), G)
def TurnSp (call : Nat → List IV → GH → RO) (f : Nat) : Prop := ∀ {a b c : Int} {n : Nat} (G : GH), R n a b c → call f [lw a b c] G = some (lw a (-b) c, G)
def FPlusSp (call : Nat → List IV → GH → RO) (f : Nat) : Prop := ∀ {a c x z : Int} {n m : Nat} (G : GH), R n a 0 c → R m x 0 z → n + m ≤ 8000 → call f [lf a c, lf x z] G = some (lf (a * z + x * c) (c * z), G)
def FTimesSp (call : Nat → List IV → GH → RO) (f : Nat) : Prop := ∀ {a c x z : Int} {n m : Nat} (G : GH), R n a 0 c → R m x 0 z → n + m ≤ 8000 → call f [lf a c, lf x z] G = some (lf (a * x) (c * z), G)
def b_law_frac_plus (f_law_frac : Nat) : CB := .cons (.ret (.fn f_law_frac (.cons (.bin .add (.bin .mul (.ix (.v 0) (.c (.int 0))) (.ix (.v 1) (.c (.int 1)))) (.bin .mul (.ix (.v 1) (.c (.int 0))) (.ix (.v 0) (.c (.int 1))))) (.cons (.bin .mul (.ix (.v 0) (.c (.int 1))) (.ix (.v 1) (.c (.int 1)))) .nil)))) .nil
theorem run_frac_plus (call : Nat → List IV → GH → RO) {name : Str} {ps : List Str} {at_ ff n m : Nat} {a c x z : Int} {G : GH} (h : R n a 0 c) (k : R m x 0 z) (l : n + m ≤ 8000) (F : FracSp call ff) :
    runF call ⟨name, ps, ["one", "other"], at_, b_law_frac_plus ff⟩ [lf a c, lf x z] G = some (lf (a * z + x * c) (c * z), G) := by
  obtain ⟨g, a', c', gp, ea, ec, cp, e1⟩ := lf_parts (a := a) h.p
  obtain ⟨j, x', z', jp, ex, ez, zp, e2⟩ := lf_parts (a := x) k.p
  rw [e1, e2]
  have ha := abs_div h.a ea gp; have hcc := abs_div h.c ec gp
  have hx := abs_div k.a ex jp; have hz := abs_div k.c ez jp
  have m1 := f_mul (G := G) ha hz (by omega)
  have m2 := f_mul (G := G) hx hcc (by omega)
  have m5 := f_mul (G := G) hcc hz (by omega)
  have pp : 0 < c' * z' := Int.mul_pos cp zp
  have m6 := F (a' * z' + x' * c') (c' * z') G pp (lt_9000 pp (abs_mul_lt hcc hz) (by omega))
  have fin : lf (a' * z' + x' * c') (c' * z') = lf (a * z + x * c) (c * z) := by
    rw [← lf_scale (Int.mul_pos gp jp), ea, ec, ex, ez]
    congr 1 <;> grind
  refine run_is ?_
  show exB call (b_law_frac_plus ff) [some (fI a' c'), some (fI x' z')] G = _
  unfold fI b_law_frac_plus
  simp [exB, exS, evE, evL, fIx, at0, at1, at2, bo_add, bo_mul, m1, m2, m5, m6, f_add, fin]
def b_law_frac_times (f_law_frac : Nat) : CB := .cons (.ret (.fn f_law_frac (.cons (.bin .mul (.ix (.v 0) (.c (.int 0))) (.ix (.v 1) (.c (.int 0)))) (.cons (.bin .mul (.ix (.v 0) (.c (.int 1))) (.ix (.v 1) (.c (.int 1)))) .nil)))) .nil
theorem run_frac_times (call : Nat → List IV → GH → RO) {name : Str} {ps : List Str} {at_ ff n m : Nat} {a c x z : Int} {G : GH} (h : R n a 0 c) (k : R m x 0 z) (l : n + m ≤ 8000) (F : FracSp call ff) :
    runF call ⟨name, ps, ["one", "other"], at_, b_law_frac_times ff⟩ [lf a c, lf x z] G = some (lf (a * x) (c * z), G) := by
  obtain ⟨g, a', c', gp, ea, ec, cp, e1⟩ := lf_parts (a := a) h.p
  obtain ⟨j, x', z', jp, ex, ez, zp, e2⟩ := lf_parts (a := x) k.p
  rw [e1, e2]
  have ha := abs_div h.a ea gp; have hcc := abs_div h.c ec gp
  have hx := abs_div k.a ex jp; have hz := abs_div k.c ez jp
  have m1 := f_mul (G := G) ha hx (by omega)
  have m5 := f_mul (G := G) hcc hz (by omega)
  have pp : 0 < c' * z' := Int.mul_pos cp zp
  have m6 := F (a' * x') (c' * z') G pp (lt_9000 pp (abs_mul_lt hcc hz) (by omega))
  have fin : lf (a' * x') (c' * z') = lf (a * x) (c * z) := by
    rw [← lf_scale (Int.mul_pos gp jp), ea, ec, ex, ez]
    congr 1 <;> grind
  refine run_is ?_
  show exB call (b_law_frac_times ff) [some (fI a' c'), some (fI x' z')] G = _
  unfold fI b_law_frac_times
  simp [exB, exS, evE, evL, fIx, at0, at1, at2, bo_add, bo_mul, m1, m5, m6, f_add, fin]
def b_law_num_size (f_law_frac : Nat) : CB := .cons (.ret (.fn f_law_frac (.cons (.bin .add (.bin .mul (.ix (.v 0) (.c (.int 0))) (.ix (.v 0) (.c (.int 0)))) (.bin .mul (.ix (.v 0) (.c (.int 1))) (.ix (.v 0) (.c (.int 1))))) (.cons (.bin .mul (.ix (.v 0) (.c (.int 2))) (.ix (.v 0) (.c (.int 2)))) .nil)))) .nil
theorem run_num_size (call : Nat → List IV → GH → RO) {name : Str} {ps : List Str} {at_ ff n : Nat} {a b c : Int} {G : GH} (h : R n a b c) (l : n ≤ 4000) (F : FracSp call ff) :
    runF call ⟨name, ps, ["one"], at_, b_law_num_size ff⟩ [lw a b c] G = some (lf (a * a + b * b) (c * c), G) := by
  obtain ⟨g, a', b', c', gp, ea, eb, ec, cp, g1, e1⟩ := lw_parts (a := a) (b := b) h.p
  rw [e1]
  have ha := abs_div h.a ea gp; have hb := abs_div h.b eb gp; have hcc := abs_div h.c ec gp
  have m1 := f_mul (G := G) ha ha (by omega)
  have m2 := f_mul (G := G) hb hb (by omega)
  have m5 := f_mul (G := G) hcc hcc (by omega)
  have pp : 0 < c' * c' := Int.mul_pos cp cp
  have m6 := F (a' * a' + b' * b') (c' * c') G pp (lt_9000 pp (abs_mul_lt hcc hcc) (by omega))
  have fin : lf (a' * a' + b' * b') (c' * c') = lf (a * a + b * b) (c * c) := by
    rw [← lf_scale (Int.mul_pos gp gp), ea, eb, ec]
    congr 1 <;> grind
  refine run_is ?_
  show exB call (b_law_num_size ff) [some (wI a' b' c')] G = _
  unfold wI b_law_num_size
  simp [exB, exS, evE, evL, fIx, at0, at1, at2, bo_add, bo_mul, m1, m2, m5, m6, f_add, fin]
section
variable {Γ : List FD} {k j at_ : Nat} {name : Str} {ps : List Str}
theorem leastf_sp (hd : Γ[j]? = some ⟨name, ps, ["top", "bottom", "shared"], at_, b_least_fraction⟩) (l : ps.length = 2) : FracSp (callF Γ (k + 1)) j := fun a c G h0 h1 =>
  callP hd (by simp [l]) rfl (run_least_fraction _ a c [] h0 h1) rfl G
theorem frac_sp {f : Nat} (hd : Γ[j]? = some ⟨name, ps, ["top", "bottom", "by"], at_, b_law_frac f⟩) (l : ps.length = 2) (hf : ComSp (callF Γ k) f) : FracSp (callF Γ (k + 1)) j := fun a c G h0 h1 =>
  callP hd (by simp [l]) rfl (run_frac _ a c [] h0 h1 fun a b h => hf a b [] h) rfl G
theorem size_sp {fc fl : Nat} (hd : Γ[j]? = some ⟨name, ps, ["one", "re", "im", "bottom"], at_, b_size fc fl⟩) (l : ps.length = 1) (hc : ChkSp (callF Γ k) fc) (hl : FracSp (callF Γ k) fl) : SizeSp (callF Γ (k + 1)) j := fun G h b =>
  callP hd (by simp [l]) rfl (run_size _ h b (fun a b c => hc a b c []) fun a c => hl a c []) rfl G
theorem turn_sp {fc : Nat} (hd : Γ[j]? = some ⟨name, ps, ["one", "re", "im", "bottom"], at_, b_turned fc⟩) (l : ps.length = 1) (hc : ChkSp (callF Γ k) fc) : TurnSp (callF Γ (k + 1)) j := fun G h =>
  callP hd (by simp [l]) rfl (run_turned _ h fun a b c => hc a b c []) rfl G
theorem fplus_sp {f : Nat} (hd : Γ[j]? = some ⟨name, ps, ["one", "other"], at_, b_law_frac_plus f⟩) (l : ps.length = 2) (hf : FracSp (callF Γ k) f) : FPlusSp (callF Γ (k + 1)) j := fun G h i b =>
  callP hd (by simp [l]) rfl (run_frac_plus _ h i b hf) rfl G
theorem ftimes_sp {f : Nat} (hd : Γ[j]? = some ⟨name, ps, ["one", "other"], at_, b_law_frac_times f⟩) (l : ps.length = 2) (hf : FracSp (callF Γ k) f) : FTimesSp (callF Γ (k + 1)) j := fun G h i b =>
  callP hd (by simp [l]) rfl (run_frac_times _ h i b hf) rfl G
theorem nsize_sp {f : Nat} (hd : Γ[j]? = some ⟨name, ps, ["one"], at_, b_law_num_size f⟩) (l : ps.length = 1) (hf : FracSp (callF Γ k) f) : SizeSp (callF Γ (k + 1)) j := fun G h b =>
  callP hd (by simp [l]) rfl (run_num_size _ h b hf) rfl G
end
theorem R.size {n : Nat} {a b c : Int} (h : R n a b c) : R (n + n + 1) (a * a + b * b) 0 (c * c) :=
  ⟨Int.mul_pos h.p h.p, abs_add_lt (abs_mul_lt h.a h.a) (abs_mul_lt h.b h.b), Nat.pow_pos (by decide), abs_up (abs_mul_lt h.c h.c) (by omega)⟩
theorem R.fplus {n m : Nat} {a c x z : Int} (h : R n a 0 c) (k : R m x 0 z) : R (n + m + 1) (a * z + x * c) 0 (c * z) :=
  ⟨Int.mul_pos h.p k.p, abs_add_lt (abs_mul_lt h.a k.c) (by rw [Nat.add_comm]; exact abs_mul_lt k.a h.c), Nat.pow_pos (by decide), abs_up (abs_mul_lt h.c k.c) (by omega)⟩
theorem R.ftimes {n m : Nat} {a c x z : Int} (h : R n a 0 c) (k : R m x 0 z) : R (n + m) (a * x) 0 (c * z) :=
  ⟨Int.mul_pos h.p k.p, abs_mul_lt h.a k.a, Nat.pow_pos (by decide), abs_mul_lt h.c k.c⟩
theorem R.neg {n : Nat} {a b c : Int} (h : R n a b c) : R n a (-b) c := ⟨h.p, h.a, by rw [Int.natAbs_neg]; exact h.b, h.c⟩
theorem shw_fI {n : Nat} {a' c' : Int} (ha : a'.natAbs < 2 ^ n) (hc : c'.natAbs < 2 ^ n) (l : n ≤ 1900) : toD (fI a' c') = some (.tuple [.int a', .int c']) ∧ swt (.tuple [.int a', .int c']) = some 3852 ∧ (PyData.tuple [.int a', .int c']).depth = 1 := by
  have h1 := log_lt1920 ha (by omega); have h2 := log_lt1920 hc (by omega)
  exact ⟨by simp [fI, toD, toDs], by simp [swt, swts, h1, h2], by simp [PyData.depth, PyData.depthAll]⟩
theorem lf_shown {n : Nat} {a c : Int} (h : R n a 0 c) (l : n ≤ 1900) : ∃ d, toD (lf a c) = some d ∧ swt d = some 3852 ∧ d.depth = 1 := by
  obtain ⟨g, a', c', gp, ea, ec, cp, e1⟩ := lf_parts (a := a) h.p
  rw [e1]
  exact ⟨_, shw_fI (abs_div h.a ea gp) (abs_div h.c ec gp) l⟩
theorem lf_tup {a c : Int} : ∃ us, lf a c = .tup us := ⟨_, rfl⟩
theorem shw_lf {n : Nat} {a c : Int} (h : R n a 0 c) (l : n ≤ 1900) : Shw (lf a c) := by
  obtain ⟨d, e1, e2, e3⟩ := lf_shown h l
  exact ⟨d, 3852, fun G => by
    have : gD G (lf a c) = toD (lf a c) := by unfold lf fI; simp [gD]
    rw [this]; exact e1, e1, e2, by decide, by omega⟩
theorem shw_lf2 {n m : Nat} {a c x z : Int} (h : R n a 0 c) (l : n ≤ 1900) (k : R m x 0 z) (l2 : m ≤ 1900) : Shw (.tup [lf a c, lf x z]) := by
  obtain ⟨d, e1, e2, e3⟩ := lf_shown h l
  obtain ⟨d2, f1, f2, f3⟩ := lf_shown k l2
  refine ⟨.tuple [d, d2], 7714, fun G => ?_, ?_, ?_, by decide, ?_⟩
  · simp [gD, toD, toDs, e1, f1]
  · simp [toD, toDs, e1, f1]
  · simp [swt, swts, e2, f2]
  · simp [PyData.depth, PyData.depthAll, e3, f3]
theorem eq3 {x y z : Int} {G : GH} : fEq false (.tup [.int x, .int y, .int z]) (.tup [.int 0, .int 0, .int 1]) G = some (.bl (x == 0 && (y == 0 && z == 1)), G) := by
  simp [fEq, gD, toD, toDs, SeqAt.shaped, PyData.eqv, PyData.eqvAll, PyData.canLay0, PyData.depth, PyData.depthAll, PyData.canLayAll0]
theorem eq2 {x y : Int} {G : GH} : fEq false (.tup [.int x, .int y]) (.tup [.int 0, .int 1]) G = some (.bl (x == 0 && y == 1), G) := by
  simp [fEq, gD, toD, toDs, SeqAt.shaped, PyData.eqv, PyData.eqvAll, PyData.canLay0, PyData.depth, PyData.depthAll, PyData.canLayAll0]
theorem neB {t : Bool} {G : GH} : fEq true (.bl t) (.bl t) G = some (.bl false, G) := by
  simp [fEq, gD, toD, SeqAt.shaped, PyData.eqv, PyData.canLay0, PyData.depth]
/-- the size is 0 just for nought -/
theorem zero_same {a b c : Int} {G : GH} (h : 0 < c) : ∃ t, fEq false (lf (a * a + b * b) (c * c)) (.tup [.int 0, .int 1]) G = some (.bl t, G) ∧ fEq false (lw a b c) (.tup [.int 0, .int 0, .int 1]) G = some (.bl t, G) := by
  obtain ⟨g, a', b', c', gp, ea, eb, ec, cp, g1, e1⟩ := lw_parts (a := a) (b := b) h
  have e2 : lf (a * a + b * b) (c * c) = lf (a' * a' + b' * b') (c' * c') := by
    rw [← lf_scale (Int.mul_pos gp gp) (a' * a' + b' * b') (c' * c'), ea, eb, ec]
    congr 1 <;> grind
  rw [e1, e2]
  unfold wI
  by_cases z : a' = 0 ∧ b' = 0
  · obtain ⟨rfl, rfl⟩ := z
    have c1 : c' = 1 := by
      have : g3 0 0 c' = c' := by
        unfold g3 gI
        simp
        omega
      omega
    subst c1
    refine ⟨true, ?_, ?_⟩
    · have : lf (0 * 0 + 0 * 0) (1 * 1) = .tup [.int 0, .int 1] := by simp [lf, fI, gI]
      rw [this, eq2]; rfl
    · rw [eq3]; rfl
  · refine ⟨false, ?_, ?_⟩
    · obtain ⟨j, p, q, jp, ep, eq, qp, e3⟩ := lf_parts (a := a' * a' + b' * b') (Int.mul_pos cp cp)
      rw [e3]
      unfold fI
      rw [eq2]
      have pn : p ≠ 0 := by
        intro hp
        rw [hp, Int.mul_zero] at ep
        have h1 : 0 ≤ a' * a' := by rcases Int.le_total 0 a' with t | t; exact Int.mul_nonneg t t; exact Int.mul_nonneg_of_nonpos_of_nonpos t t
        have h2 : 0 ≤ b' * b' := by rcases Int.le_total 0 b' with t | t; exact Int.mul_nonneg t t; exact Int.mul_nonneg_of_nonpos_of_nonpos t t
        have h3 : a' * a' = 0 := by omega
        have h4 : b' * b' = 0 := by omega
        exact z ⟨by rcases Int.mul_eq_zero.mp h3 with t | t <;> exact t, by rcases Int.mul_eq_zero.mp h4 with t | t <;> exact t⟩
      rw [beq_false_of_ne pn]; rfl
    · rw [eq3]
      by_cases y : a' = 0
      · have : b' ≠ 0 := fun t => z ⟨y, t⟩
        rw [beq_false_of_ne this]
        simp
      · rw [beq_false_of_ne y]; rfl
end Lk
namespace Lk
open PySem PySem.Spec PyProof.Rows L2
def k01m : CE := .tup (.cons (.neg (.c (.int 1))) (.cons (.c (.int 0)) (.cons (.c (.int 1)) .nil)))
def k01lap (fw fs ft fns fft fu fp ffp : Nat) : CB := .cons (.par 2 3 (.fn fw (.cons (.v 0) .nil)) (.fn fw (.cons (.v 0) .nil))) (.cons (.par3 4 5 6 (.fn fs (.cons (.v 2) .nil)) (.fnk fs (.nil) ["one"] [0] (.cons (.v 3) .nil)) (.fn ft (.cons (.v 2) (.cons (.v 3) .nil)))) (.cons (.ife (.rq true (.tup (.cons (.v 4) (.cons (.v 5) .nil))) (.tup (.cons (.fn fns (.cons (.v 2) .nil)) (.cons (.fn fns (.cons (.v 3) .nil)) .nil)))) retF (.nil)) (.cons (.ife (.or (.rq true (.fn fs (.cons (.v 6) .nil)) (.fn fft (.cons (.v 4) (.cons (.v 5) .nil)))) (.rq true (.fn fu (.cons (.v 2) .nil)) (.tup (.cons (.ix (.v 2) (.c (.int 0))) (.cons (.neg (.ix (.v 2) (.c (.int 1)))) (.cons (.ix (.v 2) (.c (.int 2))) .nil)))))) retF (.nil)) (.cons (.ife (.or (.rq true (.fn fu (.cons (.fn fu (.cons (.v 2) .nil)) .nil)) (.v 2)) (.cmp .ne (.cmp .eq (.v 4) (.tup (.cons (.c (.int 0)) (.cons (.c (.int 1)) .nil)))) (.cmp .eq (.v 2) (.tup (.cons (.c (.int 0)) (.cons (.c (.int 0)) (.cons (.c (.int 1)) .nil))))))) retF (.nil)) (.cons (.ife (.rq true (.fn fu (.cons (.fn fp (.cons (.v 2) (.cons (.v 3) .nil))) .nil)) (.fn fp (.cons (.fn fu (.cons (.v 2) .nil)) (.cons (.fn fu (.cons (.v 3) .nil)) .nil)))) retF (.nil)) (.cons (.ife (.rq true (.fn fu (.cons (.v 6) .nil)) (.fn ft (.cons (.fn fu (.cons (.v 2) .nil)) (.cons (.fnk fu (.nil) ["one"] [0] (.cons (.v 3) .nil)) .nil)))) retF (.nil)) (.cons (.ife (.or (.rq true (.fn ft (.cons (.v 2) (.cons (.fn fu (.cons (.v 2) .nil)) .nil))) (.tup (.cons (.ix (.v 4) (.c (.int 0))) (.cons (.c (.int 0)) (.cons (.ix (.v 4) (.c (.int 1))) .nil))))) (.rq true (.fn fs (.cons (.fn fu (.cons (.v 2) .nil)) .nil)) (.v 4))) retF (.nil)) (.cons (.set (.nm 7) (.fn fp (.cons (.v 2) (.cons (.fn ft (.cons k01m (.cons (.v 3) .nil))) .nil)))) (.cons (.set (.nm 8) (.fn ffp (.cons (.fn fs (.cons (.fn fp (.cons (.v 2) (.cons (.v 3) .nil))) .nil)) (.cons (.fn fs (.cons (.v 7) .nil)) .nil)))) (.cons (.ife (.rq true (.v 8) (.fn fft (.cons (.tup (.cons (.c (.int 2)) (.cons (.c (.int 1)) .nil))) (.cons (.fn ffp (.cons (.v 4) (.cons (.v 5) .nil))) .nil)))) retF (.nil)) .nil))))))))))
section
variable {call : Nat → List IV → GH → RO} {fw fs ft fns fft fu fp ffp p n : Nat} {G : GH}
theorem ev_orF {A B : CE} {ε : EV} {G : GH} (h1 : evE call A ε G = some (.bl false, G)) (h2 : evE call B ε G = some (.bl false, G)) : evE call (.or A B) ε G = some (.bl false, G) := by
  rw [evE, h1]
  exact h2
theorem k01_lap {x1 x2 x3 x4 x5 x6 x7 x8 : Option IV} (W : WtS call fw) (S : SizeSp call fs) (T : TimesSp call ft) (NS : SizeSp call fns) (FT : FTimesSp call fft) (U : TurnSp call fu) (P : PlusSp call fp) (FP : FPlusSp call ffp) (h : PotAt G p n) (hn : n ≤ 400000) :
    ∃ y2 y3 y4 y5 y6 y7 y8 G', exB call (k01lap fw fs ft fns fft fu fp ffp) [some (.ref p), x1, x2, x3, x4, x5, x6, x7, x8] G = some (.nx [some (.ref p), x1, y2, y3, y4, y5, y6, y7, y8] G') ∧ PotAt G' p (n + 120) ∧ Stp p G G' := by
  obtain ⟨a, b, c, G0, r1, e0, a0, s0⟩ := W p n G h (by omega)
  obtain ⟨x, y, z, G1, r2, e1, a1, s1⟩ := W p (n + 40) G0 a0 (by omega)
  have d1 : exS call (.par 2 3 (.fn fw (.cons (.v 0) .nil)) (.fn fw (.cons (.v 0) .nil))) [some (.ref p), x1, x2, x3, x4, x5, x6, x7, x8] G = some (.nx [some (.ref p), x1, some (lw a b c), some (lw x y z), x4, x5, x6, x7, x8] G1) := by
    simp [exS, evE, evL, e0, e1]
  have rM := r1.times r2
  have rA := r1.plus r2
  have rs1 := r1.size
  have rs2 := r2.size
  have q1 := S G1 r1 (by omega)
  have q2 := S G1 r2 (by omega)
  have q3 := T G1 r1 r2 (by omega)
  have d2 : exS call (.par3 4 5 6 (.fn fs (.cons (.v 2) .nil)) (.fnk fs (.nil) ["one"] [0] (.cons (.v 3) .nil)) (.fn ft (.cons (.v 2) (.cons (.v 3) .nil)))) [some (.ref p), x1, some (lw a b c), some (lw x y z), x4, x5, x6, x7, x8] G1
      = some (.nx [some (.ref p), x1, some (lw a b c), some (lw x y z), some (lf (a * a + b * b) (c * c)), some (lf (x * x + y * y) (z * z)), some (lw (a * x - b * y) (a * y + b * x) (c * z)), x7, x8] G1) := by
    simp [exS, evE, evL, pick, q1, q2, q3]
  have p1 := r1.p; have p2 := r2.p
  have pcz := Int.mul_pos p1 p2; have pcc := Int.mul_pos p1 p1; have pzz := Int.mul_pos p2 p2
  have base : ∀ (w7 w8 : Option IV) (E : EV), E = [some (.ref p), x1, some (lw a b c), some (lw x y z), some (lf (a * a + b * b) (c * c)), some (lf (x * x + y * y) (z * z)), some (lw (a * x - b * y) (a * y + b * x) (c * z)), w7, w8] →
      evE call (.v 2) E G1 = some (lw a b c, G1) ∧ evE call (.v 3) E G1 = some (lw x y z, G1) ∧ evE call (.v 4) E G1 = some (lf (a * a + b * b) (c * c), G1) ∧ evE call (.v 5) E G1 = some (lf (x * x + y * y) (z * z), G1) ∧ evE call (.v 6) E G1 = some (lw (a * x - b * y) (a * y + b * x) (c * z), G1) := by
    rintro w7 w8 E rfl
    simp [evE]
  have c1 : ∀ {f : Nat} {A : CE} {E : EV} {s o : IV}, evE call A E G1 = some (s, G1) → call f [s] G1 = some (o, G1) → evE call (.fn f (.cons A .nil)) E G1 = some (o, G1) := fun h1 h3 => by
    simp [evE, evL, h1, h3]
  have c2 : ∀ {f : Nat} {A B : CE} {E : EV} {s t o : IV}, evE call A E G1 = some (s, G1) → evE call B E G1 = some (t, G1) → call f [s, t] G1 = some (o, G1) → evE call (.fn f (.cons A (.cons B .nil))) E G1 = some (o, G1) := fun h1 h2 h3 => by
    simp [evE, evL, h1, h2, h3]
  have ck : ∀ {f : Nat} {A : CE} {E : EV} {s o : IV}, evE call A E G1 = some (s, G1) → call f [s] G1 = some (o, G1) → evE call (.fnk f .nil ["one"] [0] (.cons A .nil)) E G1 = some (o, G1) := fun h1 h3 => by
    simp [evE, evL, pick, h1, h3]
  have two : ∀ {A B : CE} {E : EV} {s t : IV}, evE call A E G1 = some (s, G1) → evE call B E G1 = some (t, G1) → evE call (.tup (.cons A (.cons B .nil))) E G1 = some (.tup [s, t], G1) := fun h1 h2 => by
    simp [evE, evL, h1, h2, lim]
  let E : EV := [some (.ref p), x1, some (lw a b c), some (lw x y z), some (lf (a * a + b * b) (c * c)), some (lf (x * x + y * y) (z * z)), some (lw (a * x - b * y) (a * y + b * x) (c * z)), x7, x8]
  obtain ⟨v2, v3, v4, v5, v6⟩ := base x7 x8 E rfl
  -- 1
  have k1 := ev_rqS (two v4 v5) (two (c1 v2 (NS G1 r1 (by omega))) (c1 v3 (NS G1 r2 (by omega)))) rfl (shw_lf2 rs1 (by omega) rs2 (by omega))
  -- 2
  obtain ⟨g, a', b', c', gp, ea, eb, ec, cp, g1, ew⟩ := lw_parts (a := a) (b := b) p1
  have vt : evE call (.tup (.cons (.ix (.v 2) (.c (.int 0))) (.cons (.neg (.ix (.v 2) (.c (.int 1)))) (.cons (.ix (.v 2) (.c (.int 2))) .nil)))) E G1 = some (wI a' (-b') c', G1) := by
    have v2' : evE call (.v 2) E G1 = some (.tup [.int a', .int b', .int c'], G1) := by rw [v2, ew]; rfl
    simp [evE, evL, show E[2]? = some (some (.tup [.int a', .int b', .int c'])) by rw [← show wI a' b' c' = IV.tup [.int a', .int b', .int c'] from rfl, ← ew]; rfl, fIx, at0, at1, at2, fNeg, lim, wI]
  have k2a := ev_rqS (c1 v6 (S G1 rM (by omega))) (c2 v4 v5 (FT G1 rs1 rs2 (by omega))) (lf_eq (Int.mul_pos pcz pcz) (Int.mul_pos pcc pzz) (by grind)) (shw_lf rM.size (by omega))
  have k2b := ev_rqS (c1 v2 (U G1 r1)) vt (lw_neg p1 ew) (shw_lw r1.neg (by omega))
  -- 3
  have k3a := ev_rqS (c1 (c1 v2 (U G1 r1)) (U G1 r1.neg)) v2 (by rw [Int.neg_neg]) (shw_lw r1.neg.neg (by omega))
  obtain ⟨t, z1, z2⟩ := zero_same (a := a) (b := b) (G := G1) p1
  have k3b : evE call (.cmp .ne (.cmp .eq (.v 4) (.tup (.cons (.c (.int 0)) (.cons (.c (.int 1)) .nil)))) (.cmp .eq (.v 2) (.tup (.cons (.c (.int 0)) (.cons (.c (.int 0)) (.cons (.c (.int 1)) .nil)))))) E G1 = some (.bl false, G1) := by
    have u1 : evE call (.cmp .eq (.v 4) (.tup (.cons (.c (.int 0)) (.cons (.c (.int 1)) .nil)))) E G1 = some (.bl t, G1) := by
      rw [evE, v4]
      simp [evE, evL, lim, CO.f, z1]
    have u2 : evE call (.cmp .eq (.v 2) (.tup (.cons (.c (.int 0)) (.cons (.c (.int 0)) (.cons (.c (.int 1)) .nil))))) E G1 = some (.bl t, G1) := by
      rw [evE, v2]
      simp [evE, evL, lim, CO.f, z2]
    rw [evE, u1]
    simp only [u2]
    exact neB
  -- 4
  have k4 := ev_rqS (c1 (c2 v2 v3 (P G1 r1 r2 (by omega))) (U G1 rA)) (c2 (c1 v2 (U G1 r1)) (c1 v3 (U G1 r2)) (P G1 r1.neg r2.neg (by omega))) (lwI rfl (by grind) rfl) (shw_lw rA.neg (by omega))
  -- 5
  have k5 := ev_rqS (c1 v6 (U G1 rM)) (c2 (c1 v2 (U G1 r1)) (ck v3 (U G1 r2)) (T G1 r1.neg r2.neg (by omega))) (lwI (by grind) (by grind) rfl) (shw_lw rM.neg (by omega))
  -- 6
  have k6t : evE call (.tup (.cons (.ix (.v 4) (.c (.int 0))) (.cons (.c (.int 0)) (.cons (.ix (.v 4) (.c (.int 1))) .nil)))) E G1 = some (lw (a * a + b * b) 0 (c * c), G1) := by
    have e4 : E[4]? = some (some (.tup [.int ((a * a + b * b) / gI (a * a + b * b) (c * c)), .int (c * c / gI (a * a + b * b) (c * c))])) := rfl
    have g3s : g3 (a * a + b * b) 0 (c * c) = gI (a * a + b * b) (c * c) := by
      unfold g3 gI
      simp
    have l3 : lw (a * a + b * b) 0 (c * c) = .tup [.int ((a * a + b * b) / gI (a * a + b * b) (c * c)), .int 0, .int (c * c / gI (a * a + b * b) (c * c))] := by
      unfold lw wI
      rw [g3s, Int.zero_ediv]
    rw [l3]
    simp [evE, evL, e4, fIx, at0, at1, lim]
  have k6a := ev_rqS (c2 v2 (c1 v2 (U G1 r1)) (T G1 r1 r1.neg (by omega))) k6t (lwI (by grind) (by grind) rfl) (shw_lw (r1.times r1.neg) (by omega))
  have k6b := ev_rqS (c1 (c1 v2 (U G1 r1)) (S G1 r1.neg (by omega))) v4 (by rw [show a * a + -b * -b = a * a + b * b by grind]) (shw_lf r1.neg.size (by omega))
  -- less, both
  have vm : evE call k01m E G1 = some (lw (-1) 0 1, G1) := by rw [← zm_is]; simp [k01m, evE, evL, lim, fNeg]
  have rN := rzm.times r2
  have rL := r1.plus rN
  have d3 := ex_set (t := .nm 7) (c2 v2 (c2 vm v3 (T G1 rzm r2 (by omega))) (P G1 r1 rN (by omega))) (show asT call (.nm 7) _ E G1 = some (_, G1) by rw [asT])
  have E7 : E.set 7 (some (lw (a * (1 * z) + (-1 * x - 0 * y) * c) (b * (1 * z) + (-1 * y + 0 * x) * c) (c * (1 * z)))) = [some (.ref p), x1, some (lw a b c), some (lw x y z), some (lf (a * a + b * b) (c * c)), some (lf (x * x + y * y) (z * z)), some (lw (a * x - b * y) (a * y + b * x) (c * z)), some (lw (a * (1 * z) + (-1 * x - 0 * y) * c) (b * (1 * z) + (-1 * y + 0 * x) * c) (c * (1 * z))), x8] := rfl
  rw [E7] at d3
  obtain ⟨w2, w3, w4, w5, w6⟩ := base _ x8 _ rfl
  have w7 : evE call (.v 7) [some (.ref p), x1, some (lw a b c), some (lw x y z), some (lf (a * a + b * b) (c * c)), some (lf (x * x + y * y) (z * z)), some (lw (a * x - b * y) (a * y + b * x) (c * z)), some (lw (a * (1 * z) + (-1 * x - 0 * y) * c) (b * (1 * z) + (-1 * y + 0 * x) * c) (c * (1 * z))), x8] G1 = some (lw (a * (1 * z) + (-1 * x - 0 * y) * c) (b * (1 * z) + (-1 * y + 0 * x) * c) (c * (1 * z)), G1) := by simp [evE]
  have d4 := ex_set (t := .nm 8) (c2 (c1 (c2 w2 w3 (P G1 r1 r2 (by omega))) (S G1 rA (by omega))) (c1 w7 (S G1 rL (by omega))) (FP G1 rA.size rL.size (by omega))) (show asT call (.nm 8) _ _ G1 = some (_, G1) by rw [asT])
  simp only [List.set_cons_succ, List.set_cons_zero] at d4
  obtain ⟨u2, u3, u4, u5, u6⟩ := base (some (lw (a * (1 * z) + (-1 * x - 0 * y) * c) (b * (1 * z) + (-1 * y + 0 * x) * c) (c * (1 * z)))) (some (lf (((a * z + x * c) * (a * z + x * c) + (b * z + y * c) * (b * z + y * c)) * (c * (1 * z) * (c * (1 * z))) + ((a * (1 * z) + (-1 * x - 0 * y) * c) * (a * (1 * z) + (-1 * x - 0 * y) * c) + (b * (1 * z) + (-1 * y + 0 * x) * c) * (b * (1 * z) + (-1 * y + 0 * x) * c)) * (c * z * (c * z))) (c * z * (c * z) * (c * (1 * z) * (c * (1 * z)))))) _ rfl
  have u8 : evE call (.v 8) [some (.ref p), x1, some (lw a b c), some (lw x y z), some (lf (a * a + b * b) (c * c)), some (lf (x * x + y * y) (z * z)), some (lw (a * x - b * y) (a * y + b * x) (c * z)), some (lw (a * (1 * z) + (-1 * x - 0 * y) * c) (b * (1 * z) + (-1 * y + 0 * x) * c) (c * (1 * z))), some (lf (((a * z + x * c) * (a * z + x * c) + (b * z + y * c) * (b * z + y * c)) * (c * (1 * z) * (c * (1 * z))) + ((a * (1 * z) + (-1 * x - 0 * y) * c) * (a * (1 * z) + (-1 * x - 0 * y) * c) + (b * (1 * z) + (-1 * y + 0 * x) * c) * (b * (1 * z) + (-1 * y + 0 * x) * c)) * (c * z * (c * z))) (c * z * (c * z) * (c * (1 * z) * (c * (1 * z)))))] G1 = some ((lf (((a * z + x * c) * (a * z + x * c) + (b * z + y * c) * (b * z + y * c)) * (c * (1 * z) * (c * (1 * z))) + ((a * (1 * z) + (-1 * x - 0 * y) * c) * (a * (1 * z) + (-1 * x - 0 * y) * c) + (b * (1 * z) + (-1 * y + 0 * x) * c) * (b * (1 * z) + (-1 * y + 0 * x) * c)) * (c * z * (c * z))) (c * z * (c * z) * (c * (1 * z) * (c * (1 * z))))), G1) := by simp [evE]
  have r21 : R 3 2 0 1 := ⟨by decide, by decide, by decide, by decide⟩
  have l21 : IV.tup [.int 2, .int 1] = lf 2 1 := by simp [lf, fI, gI]
  have v21 : ∀ E : EV, evE call (.tup (.cons (.c (.int 2)) (.cons (.c (.int 1)) .nil))) E G1 = some (lf 2 1, G1) := fun E => by rw [← l21]; simp [evE, evL, lim]
  have k7 := ev_rqS u8 (c2 (v21 _) (c2 u4 u5 (FP G1 rs1 rs2 (by omega))) (FT G1 r21 (rs1.fplus rs2) (by omega))) (lf_eq (Int.mul_pos (Int.mul_pos pcz pcz) (Int.mul_pos (Int.mul_pos p1 (by omega)) (Int.mul_pos p1 (by omega)))) (Int.mul_pos (by decide) (Int.mul_pos pcc pzz)) (by grind)) (shw_lf (rA.size.fplus rL.size) (by omega))
  exact ⟨_, _, _, _, _, _, _, G1, ex_cons d1 (ex_cons d2 (ex_cons (ex_ifF k1 ex_nil) (ex_cons (ex_ifF (ev_orF k2a k2b) ex_nil) (ex_cons (ex_ifF (ev_orF k3a k3b) ex_nil) (ex_cons (ex_ifF k4 ex_nil) (ex_cons (ex_ifF k5 ex_nil) (ex_cons (ex_ifF (ev_orF k6a k6b) ex_nil) (ex_cons d3 (ex_cons d4 (ex_cons (ex_ifF k7 ex_nil) ex_nil)))))))))), a1.up (by omega), s0.trans s1⟩
def b_k01_right (fw fs ft fns fft fu fp ffp : Nat) : CB := .cons (.for (.nm 1) (.rng (.cons (.c (.int 12)) .nil)) (k01lap fw fs ft fns fft fu fp ffp)) (.cons (.ret (.c (.bl true))) .nil)
def k01I (p : Nat) (G : GH) (i : Nat) (ε : EV) (G' : GH) : Prop := ∃ x1 x2 x3 x4 x5 x6 x7 x8, ε = [some (.ref p), x1, x2, x3, x4, x5, x6, x7, x8] ∧ PotAt G' p (120 * i) ∧ Stp p G G'
theorem k01_step (W : WtS call fw) (S : SizeSp call fs) (T : TimesSp call ft) (NS : SizeSp call fns) (FT : FTimesSp call fft) (U : TurnSp call fu) (P : PlusSp call fp) (FP : FPlusSp call ffp) {i : Nat} {ε : EV} {G' : GH} (hi : i < 12) (hI : k01I p G i ε G') :
    ∃ w ε' G'', (Src.rng 0 1 12).at G' i = some w ∧ (match asT call (.nm 1) w ε G' with
      | none => none
      | some (ε', G') => exB call (k01lap fw fs ft fns fft fu fp ffp) ε' G') = some (.nx ε' G'') ∧ k01I p G (i + 1) ε' G'' := by
  obtain ⟨x1, x2, x3, x4, x5, x6, x7, x8, rfl, a, s⟩ := hI
  obtain ⟨y2, y3, y4, y5, y6, y7, y8, G2, e, a2, s2⟩ := k01_lap (x1 := some (.int (0 + (i : Int) * 1))) (x2 := x2) (x3 := x3) (x4 := x4) (x5 := x5) (x6 := x6) (x7 := x7) (x8 := x8) W S T NS FT U P FP a (by omega)
  refine ⟨.int (0 + (i : Int) * 1), [some (.ref p), some (.int (0 + (i : Int) * 1)), y2, y3, y4, y5, y6, y7, y8], G2, by simp only [Src.at, hi, if_true], ?_, some (.int (0 + (i : Int) * 1)), y2, y3, y4, y5, y6, y7, y8, rfl, a2.up (by omega), s.trans s2⟩
  simp only [asT, List.set_cons_succ, List.set_cons_zero]
  exact e
theorem k01_right {name : Str} {ps : List Str} {at_ : Nat} (W : WtS call fw) (S : SizeSp call fs) (T : TimesSp call ft) (NS : SizeSp call fns) (FT : FTimesSp call fft) (U : TurnSp call fu) (P : PlusSp call fp) (FP : FPlusSp call ffp) (h : PotAt G p 0) :
    ∃ G', runF call ⟨name, ps, ["pot", "lap", "one", "other", "mine", "its", "made", "less", "both"], at_, b_k01_right fw fs ft fns fft fu fp ffp⟩ [.ref p] G = some (.bl true, G') ∧ PotAt G' p 1440 ∧ Stp p G G' := by
  have e : evL call (.cons (.c (.int 12)) .nil) [some (.ref p), none, none, none, none, none, none, none, none] G = some ([.int (12 : Nat)], G) := by simp [evL, evE]
  have ev := ev_rng e (rng_one 12 (by decide))
  obtain ⟨ε', G3, h1, x1, x2, x3, x4, x5, x6, x7, x8, rfl, a3, s3⟩ := loop_inv (src := .rng 0 1 12) (k01I p G) 12 (fun ε G' _ => by simp [Src.stop]) (fun i ε G' hi hI => k01_step W S T NS FT U P FP hi hI) 12 0 _ G (by omega) ⟨none, none, none, none, none, none, none, none, rfl, h, Stp.refl⟩
  exact ⟨G3, run_is (ex_cons (ex_for ev h1) (ex_last (ex_ret (by rw [evE])))), a3, s3⟩
end
end Lk
namespace Lk
open PySem PySem.Spec PyProof.Rows L2
/-! ### what is in least terms, what is the same -/
def b_law_is_int : CB := .cons (.ret (.and (.isi (.v 0) "int") (.and (.not (.isi (.v 0) "bool")) (.chain .le .le (.v 1) (.v 0) (.v 2))))) .nil
theorem run_law_is_int (call : Nat → List IV → GH → RO) {name : Str} {ps : List Str} {at_ : Nat} (i : Int) (G : GH) : runF call ⟨name, ps, ["value", "low", "high"], at_, b_law_is_int⟩ [.int i, .int i, .int i] G = some (.bl true, G) := by
  refine run_is ?_
  show exB call b_law_is_int [some (.int i), some (.int i), some (.int i)] G = _
  have e1 : fIsi "int" (.int i) G = some (.bl true, G) := rfl
  have e2 : fIsi "bool" (.int i) G = some (.bl false, G) := rfl
  simp [b_law_is_int, exB, exS, evE, e1, e2, CO.f, fLe, onInts]
def b_law_is_least (f_law_is_int f_law_num_common : Nat) : CB := .cons (.set (.tup (.cons (.nm 1) (.cons (.nm 2) (.cons (.nm 3) .nil)))) (.v 0)) (.cons (.ife (.or (.not (.bi .all (.cons (.comp [("one", 4)] (.nm 4) (.ex (.v 0)) .no (.fn f_law_is_int (.cons (.v 4) (.cons (.v 4) (.cons (.v 4) .nil))))) .nil))) (.cmp .lt (.v 3) (.c (.int 1)))) (.cons (.ret (.c (.bl false))) .nil) (.nil)) (.cons (.ret (.cmp .eq (.fn f_law_num_common (.cons (.ite (.or (.cmp .ne (.v 1) (.c (.int 0))) (.cmp .ne (.v 2) (.c (.int 0)))) (.fn f_law_num_common (.cons (.v 1) (.cons (.v 2) .nil))) (.c (.int 0))) (.cons (.v 3) .nil))) (.c (.int 1)))) .nil))
theorem run_is_least (call : Nat → List IV → GH → RO) {name : Str} {ps : List Str} {at_ fi fc : Nat} (a b c : Int) (h0 : 0 < c) (hb : b.natAbs < wfuel) (hc : c.natAbs < wfuel) (h1 : g3 a b c = 1)
    (hf : ∀ i G, call fi [.int i, .int i, .int i] G = some (.bl true, G)) (C : ComSp call fc) :
    ∃ G', runF call ⟨name, ps, ["value", "re", "im", "bottom", "one"], at_, b_law_is_least fi fc⟩ [wI a b c] [] = some (.bl true, G') := by
  refine ⟨[.lst [.bl true, .bl true, .bl true]], run_is ?_⟩
  show exB call (b_law_is_least fi fc) [some (wI a b c), none, none, none, none] [] = _
  have c1 : ¬ c < 1 := by omega
  have s1 : exS call (.set (.tup (.cons (.nm 1) (.cons (.nm 2) (.cons (.nm 3) .nil)))) (.v 0)) [some (wI a b c), none, none, none, none] [] = some (.nx [some (wI a b c), some (.int a), some (.int b), some (.int c), none] []) := by
    simp [exS, evE, asT, asTs, itsOf, wI]
  have s2 : evE call (.or (.not (.bi .all (.cons (.comp [("one", 4)] (.nm 4) (.ex (.v 0)) .no (.fn fi (.cons (.v 4) (.cons (.v 4) (.cons (.v 4) .nil))))) .nil))) (.cmp .lt (.v 3) (.c (.int 1)))) [some (wI a b c), some (.int a), some (.int b), some (.int c), none] [] = some (.bl false, [.lst [.bl true, .bl true, .bl true]]) := by
    simp [evE, evL, evI, wI, compF, Src.len, Src.at, Src.stop, asT, wipeI, evQ, hf, BI.run, fAll, lstOf, asBls, its_lst, lim, CO.f, fLt, onInts, c1]
  have s3 : ∀ G, evE call (.ite (.or (.cmp .ne (.v 1) (.c (.int 0))) (.cmp .ne (.v 2) (.c (.int 0)))) (.fn fc (.cons (.v 1) (.cons (.v 2) .nil))) (.c (.int 0))) [some (wI a b c), some (.int a), some (.int b), some (.int c), none] G = some (.int (gI a b), G) := fun G => by
    by_cases z : a = 0
    · by_cases z2 : b = 0
      · subst z; subst z2
        simp [evE, CO.f, ne_int, gI_00]
      · have := beq_false_of_ne z2
        simp [evE, evL, CO.f, ne_int, z, this, C _ _ _ hb]
    · have := beq_false_of_ne z
      simp [evE, evL, CO.f, ne_int, this, C _ _ _ hb]
  refine ex_cons s1 (ex_cons (ex_ifF s2 ex_nil) (ex_last (ex_ret ?_)))
  rw [evE, evE, evL, s3]
  have e2 : call fc [.int (gI a b), .int c] [.lst [.bl true, .bl true, .bl true]] = some (.int 1, [.lst [.bl true, .bl true, .bl true]]) := by
    rw [C _ _ _ hc]
    show some (IV.int (g3 a b c), _) = _
    rw [h1]
  simp [evL, evE, e2, CO.f, eq_int]
def b_law_is_same : CB := .cons (.set (.tup (.cons (.nm 2) (.cons (.nm 3) (.cons (.nm 4) .nil)))) (.v 1)) (.cons (.ret (.and (.cmp .eq (.bin .mul (.ix (.v 0) (.c (.int 0))) (.v 4)) (.bin .mul (.v 2) (.ix (.v 0) (.c (.int 2))))) (.cmp .eq (.bin .mul (.ix (.v 0) (.c (.int 1))) (.v 4)) (.bin .mul (.v 3) (.ix (.v 0) (.c (.int 2))))))) .nil)
theorem run_is_same (call : Nat → List IV → GH → RO) {name : Str} {ps : List Str} {at_ n : Nat} {a b c : Int} (G : GH) (h : R n a b c) (l : n ≤ 4000) :
    runF call ⟨name, ps, ["value", "raw", "re", "im", "bottom"], at_, b_law_is_same⟩ [lw a b c, wI a b c] G = some (.bl true, G) := by
  obtain ⟨g, a', b', c', gp, ea, eb, ec, cp, g1, e1⟩ := lw_parts (a := a) (b := b) h.p
  rw [e1]
  have ha := abs_div h.a ea gp; have hb := abs_div h.b eb gp; have hcc := abs_div h.c ec gp
  have m1 := f_mul (G := G) ha h.c (by omega)
  have m2 := f_mul (G := G) h.a hcc (by omega)
  have m3 := f_mul (G := G) hb h.c (by omega)
  have m4 := f_mul (G := G) h.b hcc (by omega)
  have q1 : a' * c = a * c' := by rw [ea, ec]; grind
  have q2 : b' * c = b * c' := by rw [eb, ec]; grind
  refine run_is ?_
  show exB call b_law_is_same [some (wI a' b' c'), some (wI a b c), none, none, none] G = _
  unfold wI b_law_is_same
  simp [exB, exS, evE, evL, asT, asTs, itsOf, fIx, at0, at1, at2, bo_mul, m1, m2, m3, m4, CO.f, eq_int, q1, q2]
end Lk
namespace Lk
open PySem PySem.Spec PyProof.Rows L2
/-! ### weights in hand, and the numbers behind them -/
abbrev T3 := Int × Int × Int
def HandAt (G : GH) (h r : Nat) (ts : List T3) : Prop := G[h]? = some (.lst (ts.map fun t => lw t.1 t.2.1 t.2.2)) ∧ G[r]? = some (.lst (ts.map fun t => wI t.1 t.2.1 t.2.2)) ∧ ts.length = 8 ∧ ∀ t ∈ ts, R 400 t.1 t.2.1 t.2.2
def b_law_deed (f_law_take f_plus f_times f_turned : Nat) : CB := .cons (.par3 3 4 5 (.fn f_law_take (.cons (.v 0) (.cons (.c (.int 5)) .nil))) (.fn f_law_take (.cons (.v 0) (.cons (.bi .len (.cons (.v 1) .nil)) .nil))) (.fn f_law_take (.cons (.v 0) (.cons (.bi .len (.cons (.v 1) .nil)) .nil)))) (.cons (.set (.tup (.cons (.tup (.cons (.nm 6) (.cons (.nm 7) (.cons (.nm 8) .nil)))) (.cons (.tup (.cons (.nm 9) (.cons (.nm 10) (.cons (.nm 11) .nil)))) .nil))) (.tup (.cons (.ix (.v 2) (.v 4)) (.cons (.ix (.v 2) (.v 5)) .nil)))) (.cons (.ife (.cmp .lt (.v 3) (.c (.int 2))) (.cons (.ret (.tup (.cons (.fn f_plus (.cons (.ix (.v 1) (.v 4)) (.cons (.ix (.v 1) (.v 5)) .nil))) (.cons (.tup (.cons (.bin .add (.bin .mul (.v 6) (.v 11)) (.bin .mul (.v 9) (.v 8))) (.cons (.bin .add (.bin .mul (.v 7) (.v 11)) (.bin .mul (.v 10) (.v 8))) (.cons (.bin .mul (.v 8) (.v 11)) .nil)))) .nil)))) .nil) (.nil)) (.cons (.ife (.cmp .lt (.v 3) (.c (.int 4))) (.cons (.ret (.tup (.cons (.fn f_times (.cons (.ix (.v 1) (.v 4)) (.cons (.ix (.v 1) (.v 5)) .nil))) (.cons (.tup (.cons (.bin .sub (.bin .mul (.v 6) (.v 9)) (.bin .mul (.v 7) (.v 10))) (.cons (.bin .add (.bin .mul (.v 6) (.v 10)) (.bin .mul (.v 7) (.v 9))) (.cons (.bin .mul (.v 8) (.v 11)) .nil)))) .nil)))) .nil) (.nil)) (.cons (.ret (.tup (.cons (.fn f_turned (.cons (.ix (.v 1) (.v 4)) .nil)) (.cons (.tup (.cons (.v 6) (.cons (.neg (.v 7)) (.cons (.v 8) .nil)))) .nil)))) .nil))))
theorem hand_get {G : GH} {h r : Nat} {ts : List T3} {i : Nat} (H : HandAt G h r ts) (hi : i < 8) : ∃ t : T3, ts[i]? = some t ∧ R 400 t.1 t.2.1 t.2.2 ∧ atI (ts.map fun t => lw t.1 t.2.1 t.2.2) (i : Int) = some (lw t.1 t.2.1 t.2.2) ∧ atI (ts.map fun t => wI t.1 t.2.1 t.2.2) (i : Int) = some (wI t.1 t.2.1 t.2.2) := by
  obtain ⟨_, _, l, rs⟩ := H
  have li : i < ts.length := by omega
  have e := List.getElem?_eq_getElem li
  refine ⟨ts[i], e, rs _ (List.getElem_mem li), atI_nat ?_, atI_nat ?_⟩
  · rw [List.getElem?_map, e]; rfl
  · rw [List.getElem?_map, e]; rfl
theorem HandAt.stp {p h r : Nat} {G G' : GH} {ts : List T3} (H : HandAt G h r ts) (s : Stp p G G') (nh : h ≠ p) (nr : r ≠ p) : HandAt G' h r ts := ⟨s.at_ H.1 nh, s.at_ H.2.1 nr, H.2.2⟩
theorem deed_run {call : Nat → List IV → GH → RO} {ft fp fm fu p h r n at_ : Nat} {name : Str} {ps : List Str} {G : GH} {ts : List T3} (T : TakeSp call ft) (P : PlusSp call fp) (M : TimesSp call fm) (U : TurnSp call fu) (a0 : PotAt G p n) (hn : n ≤ 800000) (H : HandAt G h r ts) (nh : h ≠ p) (nr : r ≠ p) :
    ∃ a b c G', R 801 a b c ∧ runF call ⟨name, ps, ["pot", "hand", "raws", "way", "at", "far", "a", "b", "c", "x", "y", "z"], at_, b_law_deed ft fp fm fu⟩ [.ref p, .ref h, .ref r] G = some (.tup [lw a b c, wI a b c], G') ∧ PotAt G' p (n + 3) ∧ Stp p G G' := by
  obtain ⟨w, G1, w0, w1, e1, a1, s1⟩ := T p n 5 G a0 (by omega) (by omega) (by omega)
  have H1 := H.stp s1 nh nr
  obtain ⟨i, G2, i0, i1, e2, a2, s2⟩ := T p (n + 1) 8 G1 a1 (by omega) (by omega) (by omega)
  have H2 := H1.stp s2 nh nr
  obtain ⟨j, G3, j0, j1, e3, a3, s3⟩ := T p (n + 1 + 1) 8 G2 a2 (by omega) (by omega) (by omega)
  have H3 := H2.stp s3 nh nr
  obtain ⟨i, rfl⟩ := Int.eq_ofNat_of_zero_le i0
  obtain ⟨j, rfl⟩ := Int.eq_ofNat_of_zero_le j0
  obtain ⟨⟨a, b, c⟩, _, r1, g1, k1⟩ := hand_get H3 (show i < 8 by omega)
  obtain ⟨⟨x, y, z⟩, _, r2, g2, k2⟩ := hand_get H3 (show j < 8 by omega)
  dsimp only at r1 r2 g1 g2 k1 k2
  have len : ∀ {G : GH}, HandAt G h r ts → ∀ (ε : EV), ε[1]? = some (some (.ref h)) → evE call (.bi .len (.cons (.v 1) .nil)) ε G = some (.int 8, G) := fun {G} HG ε hv => by
    simp [evE, evL, hv, BI.run, fLen, itsOf, HG.1, its_lst, HG.2.2.1]
  let E0 : EV := [some (.ref p), some (.ref h), some (.ref r), none, none, none, none, none, none, none, none, none]
  have t1 : evE call (.fn ft (.cons (.v 0) (.cons (.c (.int 5)) .nil))) E0 G = some (.int w, G1) := by simp [evE, evL, E0, e1]
  have t2 : evE call (.fn ft (.cons (.v 0) (.cons (.bi .len (.cons (.v 1) .nil)) .nil))) E0 G1 = some (.int i, G2) := by
    rw [evE, evL, show evE call (.v 0) E0 G1 = some (.ref p, G1) by simp [evE, E0]]
    simp only [evL, len H1 E0 rfl, e2]
  have t3 : evE call (.fn ft (.cons (.v 0) (.cons (.bi .len (.cons (.v 1) .nil)) .nil))) E0 G2 = some (.int j, G3) := by
    rw [evE, evL, show evE call (.v 0) E0 G2 = some (.ref p, G2) by simp [evE, E0]]
    simp only [evL, len H2 E0 rfl, e3]
  have f1 : exS call (.par3 3 4 5 (.fn ft (.cons (.v 0) (.cons (.c (.int 5)) .nil))) (.fn ft (.cons (.v 0) (.cons (.bi .len (.cons (.v 1) .nil)) .nil))) (.fn ft (.cons (.v 0) (.cons (.bi .len (.cons (.v 1) .nil)) .nil)))) E0 G = some (.nx [some (.ref p), some (.ref h), some (.ref r), some (.int w), some (.int i), some (.int j), none, none, none, none, none, none] G3) := by
    rw [exS, t1]
    simp only [t2, t3]
    rfl
  have f2 : exS call (.set (.tup (.cons (.tup (.cons (.nm 6) (.cons (.nm 7) (.cons (.nm 8) .nil)))) (.cons (.tup (.cons (.nm 9) (.cons (.nm 10) (.cons (.nm 11) .nil)))) .nil))) (.tup (.cons (.ix (.v 2) (.v 4)) (.cons (.ix (.v 2) (.v 5)) .nil)))) [some (.ref p), some (.ref h), some (.ref r), some (.int w), some (.int i), some (.int j), none, none, none, none, none, none] G3
      = some (.nx [some (.ref p), some (.ref h), some (.ref r), some (.int w), some (.int i), some (.int j), some (.int a), some (.int b), some (.int c), some (.int x), some (.int y), some (.int z)] G3) := by
    refine ex_set (v := .tup [wI a b c, wI x y z]) (G1 := G3) ?_ (by simp [asT, asTs, itsOf, wI])
    simp [evE, evL, fIx, H3.2.1, its_lst, k1, k2, lim]
  let E : EV := [some (.ref p), some (.ref h), some (.ref r), some (.int w), some (.int i), some (.int j), some (.int a), some (.int b), some (.int c), some (.int x), some (.int y), some (.int z)]
  have x1 : evE call (.ix (.v 1) (.v 4)) E G3 = some (lw a b c, G3) := by simp [evE, E, fIx, H3.1, its_lst, g1]
  have x2 : evE call (.ix (.v 1) (.v 5)) E G3 = some (lw x y z, G3) := by simp [evE, E, fIx, H3.1, its_lst, g2]
  have s := s1.trans (s2.trans s3)
  have n1 := f_mul (G := G3) r1.a r2.c (by decide)
  have n2 := f_mul (G := G3) r2.a r1.c (by decide)
  have n3 := f_mul (G := G3) r1.b r2.c (by decide)
  have n4 := f_mul (G := G3) r2.b r1.c (by decide)
  have n5 := f_mul (G := G3) r1.c r2.c (by decide)
  have n6 := f_mul (G := G3) r1.a r2.a (by decide)
  have n7 := f_mul (G := G3) r1.b r2.b (by decide)
  have n8 := f_mul (G := G3) r1.a r2.b (by decide)
  have n9 := f_mul (G := G3) r1.b r2.a (by decide)
  by_cases q : w < 2
  · refine ⟨_, _, _, G3, r1.plus r2, run_is (ex_cons f1 (ex_cons f2 (ex_last (ex_ifT (G1 := G3) (by simp [evE, CO.f, fLt, onInts, q]) (ex_last (ex_ret ?_)))))), a3, s⟩
    have qp := P G3 r1 r2 (by omega)
    rw [evE, evL, show evE call (.fn fp (.cons (.ix (.v 1) (.v 4)) (.cons (.ix (.v 1) (.v 5)) .nil))) E G3 = some (lw (a * z + x * c) (b * z + y * c) (c * z), G3) by rw [evE, evL, x1]; simp only [evL, x2, qp]]
    simp [evE, evL, bo_add, bo_mul, n1, n2, n3, n4, n5, f_add, lim, wI]
  · by_cases q2 : w < 4
    · refine ⟨_, _, _, G3, r1.times r2, run_is (ex_cons f1 (ex_cons f2 (ex_cons (ex_ifF (G1 := G3) (by simp [evE, CO.f, fLt, onInts, q]) ex_nil) (ex_last (ex_ifT (G1 := G3) (by simp [evE, CO.f, fLt, onInts, q2]) (ex_last (ex_ret ?_))))))), a3, s⟩
      have qp := M G3 r1 r2 (by omega)
      rw [evE, evL, show evE call (.fn fm (.cons (.ix (.v 1) (.v 4)) (.cons (.ix (.v 1) (.v 5)) .nil))) E G3 = some (lw (a * x - b * y) (a * y + b * x) (c * z), G3) by rw [evE, evL, x1]; simp only [evL, x2, qp]]
      simp [evE, evL, bo_add, bo_sub, bo_mul, n5, n6, n7, n8, n9, f_add, f_sub, lim, wI]
    · refine ⟨a, -b, c, G3, r1.neg.up (by decide), run_is (ex_cons f1 (ex_cons f2 (ex_cons (ex_ifF (G1 := G3) (by simp [evE, CO.f, fLt, onInts, q]) ex_nil) (ex_cons (ex_ifF (G1 := G3) (by simp [evE, CO.f, fLt, onInts, q2]) ex_nil) (ex_last (ex_ret ?_)))))), a3, s⟩
      have qp := U G3 r1
      rw [evE, evL, show evE call (.fn fu (.cons (.ix (.v 1) (.v 4)) .nil)) E G3 = some (lw a (-b) c, G3) by rw [evE, evL, x1]; simp only [evL, qp]]
      simp [evE, evL, fNeg, lim, wI]
end Lk
namespace Lk
open PySem PySem.Spec PyProof.Rows L2
def IsSp (call : Nat → List IV → GH → RO) (f : Nat) : Prop := ∀ {a b c : Int} {n : Nat} (G : GH), R n a b c → n ≤ 4000 → call f [lw a b c] G = some (.bl true, G)
def SameSp (call : Nat → List IV → GH → RO) (f : Nat) : Prop := ∀ {a b c : Int} {n : Nat} (G : GH), R n a b c → n ≤ 4000 → call f [lw a b c, wI a b c] G = some (.bl true, G)
def DeedSp (call : Nat → List IV → GH → RO) (f : Nat) : Prop := ∀ (p h r n : Nat) (ts : List T3) (G : GH), PotAt G p n → n ≤ 800000 → HandAt G h r ts → h ≠ p → r ≠ p →
  ∃ a b c G', R 801 a b c ∧ call f [.ref p, .ref h, .ref r] G = some (.tup [lw a b c, wI a b c], G') ∧ PotAt G' p (n + 3) ∧ Stp p G G'
section
variable {Γ : List FD} {k j at_ : Nat} {name : Str} {ps : List Str}
theorem is_sp {fi fc : Nat} (hd : Γ[j]? = some ⟨name, ps, ["value", "re", "im", "bottom", "one"], at_, b_law_is_least fi fc⟩) (l : ps.length = 1) (hf : ∀ i G, callF Γ k fi [.int i, .int i, .int i] G = some (.bl true, G)) (C : ComSp (callF Γ k) fc) : IsSp (callF Γ (k + 1)) j := by
  intro a b c n G h b
  obtain ⟨g, a', b', c', gp, ea, eb, ec, cp, g1, e1⟩ := lw_parts h.p
  rw [e1]
  obtain ⟨G', e⟩ := run_is_least (name := name) (ps := ps) (at_ := at_) (callF Γ k) a' b' c' cp (wf_abs (abs_div h.b eb gp) (by omega)) (wf_abs (abs_div h.c ec gp) (by omega)) g1 hf C
  exact callP hd (by simp [l]) rfl e rfl G
theorem same_sp (hd : Γ[j]? = some ⟨name, ps, ["value", "raw", "re", "im", "bottom"], at_, b_law_is_same⟩) (l : ps.length = 2) : SameSp (callF Γ (k + 1)) j := fun G h b =>
  callP hd (by simp [l]) rfl (run_is_same _ [] h b) rfl G
theorem deed_sp {ft fp fm fu : Nat} (hd : Γ[j]? = some ⟨name, ps, ["pot", "hand", "raws", "way", "at", "far", "a", "b", "c", "x", "y", "z"], at_, b_law_deed ft fp fm fu⟩) (l : ps.length = 3) (T : TakeSp (callF Γ k) ft) (P : PlusSp (callF Γ k) fp) (M : TimesSp (callF Γ k) fm) (U : TurnSp (callF Γ k) fu) : DeedSp (callF Γ (k + 1)) j := by
  intro p h r n ts G a0 hn H nh nr
  obtain ⟨a, b, c, G1, R1, e, a1, s1⟩ := deed_run (name := name) (ps := ps) (at_ := at_) T P M U a0 hn H nh nr
  obtain ⟨G', t1, t2, t3⟩ := trim_stp (v := .tup [lw a b c, wI a b c]) a1 s1 a0.lt
  exact ⟨a, b, c, G', R1, (callF_refs hd (by simp [l]) rfl G).trans ((congrArg (trim G.length) e).trans t1), t2, t3⟩
end
def aI (x : Int) : Int := if x < 0 then -x else x
def big2 : Int := bigT * bigT
theorem mul_big {G : GH} : fMul (.int bigT) (.int bigT) G = some (.int big2, G) := f_mul (n := 200) (m := 200) (by decide +kernel) (by decide +kernel) (by decide)
theorem big2_lt : big2 < 2 ^ 400 := by decide +kernel
def greatC : CE := .cmp .ge (.bi .max (.cons (.comp [("number", 8)] (.nm 8) (.ex (.v 5)) .no (.bi .abs (.cons (.v 8) .nil))) .nil)) (.bin .mul (.bin .pow (.c (.int 10)) (.c (.int 60))) (.bin .pow (.c (.int 10)) (.c (.int 60))))
theorem great_ev {call : Nat → List IV → GH → RO} {x0 x1 x2 x3 x4 x6 x7 x8 : Option IV} {a b c : Int} {G : GH} :
    ∃ t, evE call greatC [x0, x1, x2, x3, x4, some (wI a b c), x6, x7, x8] G = some (.bl t, G ++ [.lst [.int (aI a), .int (aI b), .int (aI c)]]) ∧ (t = false → a.natAbs < 2 ^ 400 ∧ b.natAbs < 2 ^ 400 ∧ c.natAbs < 2 ^ 400) := by
  have e1 : evE call (.comp [("number", 8)] (.nm 8) (.ex (.v 5)) .no (.bi .abs (.cons (.v 8) .nil))) [x0, x1, x2, x3, x4, some (wI a b c), x6, x7, x8] G = some (.ref G.length, G ++ [.lst [.int (aI a), .int (aI b), .int (aI c)]]) := by
    unfold wI
    simp [evE, evL, evI, compF, Src.len, Src.at, Src.stop, asT, wipeI, evQ, BI.run, fAbs, lim, aI]
  have at1 : (G ++ [MO.lst [.int (aI a), .int (aI b), .int (aI c)]])[G.length]? = some (.lst [.int (aI a), .int (aI b), .int (aI c)]) := by
    rw [List.getElem?_append_right (Nat.le_refl _), Nat.sub_self]; rfl
  have e2 : evE call (.bi .max (.cons (.comp [("number", 8)] (.nm 8) (.ex (.v 5)) .no (.bi .abs (.cons (.v 8) .nil))) .nil)) [x0, x1, x2, x3, x4, some (wI a b c), x6, x7, x8] G = some (.int (maxI (aI a) [aI b, aI c]), G ++ [.lst [.int (aI a), .int (aI b), .int (aI c)]]) := by
    rw [evE, evL, e1]
    simp only [evL, BI.run, fMax, lstOf, at1, its_lst, asInts]
  have pw : ∀ G : GH, BO.f .pow (.int 10) (.int 60) G = some (.int bigT, G) := fun G => pow1
  refine ⟨decide (big2 ≤ maxI (aI a) [aI b, aI c]), ?_, fun ht => ?_⟩
  · unfold greatC
    rw [evE, e2]
    simp [evE, pw, bo_mul, mul_big, CO.f, fGe, onInts]
  · have ht := of_decide_eq_false ht
    have bl := big2_lt
    have h1 : aI a ≤ maxI (aI a) [aI b, aI c] ∧ aI b ≤ maxI (aI a) [aI b, aI c] ∧ aI c ≤ maxI (aI a) [aI b, aI c] := by
      simp only [maxI]
      split <;> split <;> omega
    have nb : ∀ x : Int, aI x ≤ maxI (aI a) [aI b, aI c] → x.natAbs < 2 ^ 400 := fun x hx => by
      have h2 : aI x < 2 ^ 400 := by omega
      have h3 : ((x.natAbs : Nat) : Int) < ((2 ^ 400 : Nat) : Int) := by
        rw [Int.natCast_pow]
        have : ((x.natAbs : Nat) : Int) = aI x := by unfold aI; split <;> omega
        rw [this]; exact h2
      exact Int.ofNat_lt.mp h3
    exact ⟨nb a h1.1, nb b h1.2.1, nb c h1.2.2⟩
end Lk
namespace Lk
open PySem PySem.Spec PyProof.Rows L2
theorem lw_self {a b c : Int} (h : g3 a b c = 1) : lw a b c = wI a b c := by
  unfold lw; rw [h, Int.ediv_one, Int.ediv_one, Int.ediv_one]
theorem ixN_nat {n i : Nat} (h : i < n) : ixN n (i : Int) = some i := by
  unfold ixN
  rw [if_pos (by omega), if_pos (by omega)]
  simp
theorem HandAt.put {G : GH} {h r j : Nat} {ts : List T3} {t : T3} (H : HandAt G h r ts) (hr : h ≠ r) (R1 : R 400 t.1 t.2.1 t.2.2) :
    HandAt ((G.set h (.lst ((ts.map fun t => lw t.1 t.2.1 t.2.2).set j (lw t.1 t.2.1 t.2.2)))).set r (.lst ((ts.map fun t => wI t.1 t.2.1 t.2.2).set j (wI t.1 t.2.1 t.2.2)))) h r (ts.set j t) := by
  refine ⟨?_, ?_, by rw [List.length_set]; exact H.2.2.1, fun u hu => ?_⟩
  · rw [List.getElem?_set_ne (fun z => hr z.symm), set_at H.1, List.map_set]
  · have : (G.set h (MO.lst ((ts.map fun t => lw t.1 t.2.1 t.2.2).set j (lw t.1 t.2.1 t.2.2))))[r]? = some (.lst (ts.map fun t => wI t.1 t.2.1 t.2.2)) := by rw [List.getElem?_set_ne hr]; exact H.2.1
    rw [set_at this, List.map_set]
  · rcases List.mem_or_eq_of_mem_set hu with z | z
    · exact H.2.2.2 u z
    · rw [z]; exact R1
def k02put : CS := .set (.tup (.cons (.sub (.v 2) (.v 7)) (.cons (.sub (.v 3) (.v 7)) .nil))) (.tup (.cons (.v 4) (.cons (.ite (.v 6) (.v 4) (.v 5)) .nil)))
theorem put_ev {call : Nat → List IV → GH → RO} {x0 x1 x8 : Option IV} {h r j : Nat} {ts : List T3} {t : T3} {v w : IV} {b : Bool} {G : GH} (H : HandAt G h r ts) (hr : h ≠ r) (hj : j < 8) (hv : v = lw t.1 t.2.1 t.2.2) (hw : (if b then v else w) = wI t.1 t.2.1 t.2.2) :
    exS call k02put [x0, x1, some (.ref h), some (.ref r), some v, some w, some (.bl b), some (.int j), x8] G
      = some (.nx [x0, x1, some (.ref h), some (.ref r), some v, some w, some (.bl b), some (.int j), x8] ((G.set h (.lst ((ts.map fun t => lw t.1 t.2.1 t.2.2).set j (lw t.1 t.2.1 t.2.2)))).set r (.lst ((ts.map fun t => wI t.1 t.2.1 t.2.2).set j (wI t.1 t.2.1 t.2.2))))) := by
  have l1 : (ts.map fun t => lw t.1 t.2.1 t.2.2).length = 8 := by rw [List.length_map]; exact H.2.2.1
  have l2 : (ts.map fun t => wI t.1 t.2.1 t.2.2).length = 8 := by rw [List.length_map]; exact H.2.2.1
  have g2 : (G.set h (MO.lst ((ts.map fun t => lw t.1 t.2.1 t.2.2).set j v)))[r]? = some (.lst (ts.map fun t => wI t.1 t.2.1 t.2.2)) := by rw [List.getElem?_set_ne hr]; exact H.2.1
  have e1 : evE call (.tup (.cons (.v 4) (.cons (.ite (.v 6) (.v 4) (.v 5)) .nil))) [x0, x1, some (.ref h), some (.ref r), some v, some w, some (.bl b), some (.int j), x8] G = some (.tup [v, if b then v else w], G) := by
    cases b <;> simp [evE, evL, lim]
  refine ex_set e1 ?_
  rw [hw, ← hv]
  have i1 := ixN_nat (n := (ts.map fun t => lw t.1 t.2.1 t.2.2).length) (i := j) (by omega)
  have i2 := ixN_nat (n := (ts.map fun t => wI t.1 t.2.1 t.2.2).length) (i := j) (by omega)
  simp only [asT, asTs, itsOf, evE, List.getElem?_cons_succ, List.getElem?_cons_zero, H.1, i1, g2, i2]
end Lk
namespace Lk
open PySem PySem.Spec PyProof.Rows L2
def k02lap (fw fd fi fs fz ff ft : Nat) : CB := .cons (.set (.tup (.cons (.nm 4) (.cons (.nm 5) .nil))) (.fn fd (.cons (.v 0) (.cons (.v 2) (.cons (.v 3) .nil))))) (.cons (.ife (.or (.not (.isi (.v 4) "tuple")) (.or (.cmp .ne (.bi .len (.cons (.v 4) .nil)) (.c (.int 3))) (.or (.not (.fn fi (.cons (.v 4) .nil))) (.not (.fn fs (.cons (.v 4) (.cons (.v 5) .nil))))))) retF (.nil)) (.cons (.ife (.rq true (.fn fz (.cons (.v 4) .nil)) (.fn ff (.cons (.bin .add (.bin .mul (.ix (.v 5) (.c (.int 0))) (.ix (.v 5) (.c (.int 0)))) (.bin .mul (.ix (.v 5) (.c (.int 1))) (.ix (.v 5) (.c (.int 1))))) (.cons (.bin .mul (.ix (.v 5) (.c (.int 2))) (.ix (.v 5) (.c (.int 2)))) .nil)))) retF (.nil)) (.cons (.set (.nm 6) greatC) (.cons (.set (.nm 4) (.ite (.v 6) (.fn fw (.cons (.v 0) .nil)) (.v 4))) (.cons (.set (.nm 7) (.fn ft (.cons (.v 0) (.cons (.c (.int 8)) .nil)))) (.cons k02put .nil))))))
section
variable {call : Nat → List IV → GH → RO} {fw fd fi fs fz ff ft p h r n : Nat} {G : GH} {ts : List T3}
theorem k02_lap {x1 x4 x5 x6 x7 : Option IV} (W : WtS call fw) (D : DeedSp call fd) (I : IsSp call fi) (Sm : SameSp call fs) (S : SizeSp call fz) (F : FracSp call ff) (T : TakeSp call ft) (a0 : PotAt G p n) (hn : n ≤ 300000) (H : HandAt G h r ts) (nh : h ≠ p) (nr : r ≠ p) (hr : h ≠ r) :
    ∃ y4 y5 y6 y7 ts' G', exB call (k02lap fw fd fi fs fz ff ft) [some (.ref p), x1, some (.ref h), some (.ref r), x4, x5, x6, x7, none] G = some (.nx [some (.ref p), x1, some (.ref h), some (.ref r), y4, y5, y6, y7, none] G') ∧ PotAt G' p (n + 60) ∧ HandAt G' h r ts' := by
  obtain ⟨a, b, c, G1, r1, e1, a1, s1⟩ := D p h r n ts G a0 (by omega) H nh nr
  have H1 := H.stp s1 nh nr
  have d1 : exS call (.set (.tup (.cons (.nm 4) (.cons (.nm 5) .nil))) (.fn fd (.cons (.v 0) (.cons (.v 2) (.cons (.v 3) .nil))))) [some (.ref p), x1, some (.ref h), some (.ref r), x4, x5, x6, x7, none] G = some (.nx [some (.ref p), x1, some (.ref h), some (.ref r), some (lw a b c), some (wI a b c), x6, x7, none] G1) :=
    ex_set (v := .tup [lw a b c, wI a b c]) (G1 := G1) (by simp [evE, evL, e1]) (by simp [asT, asTs, itsOf])
  let E : EV := [some (.ref p), x1, some (.ref h), some (.ref r), some (lw a b c), some (wI a b c), x6, x7, none]
  have v4 : evE call (.v 4) E G1 = some (lw a b c, G1) := by simp [evE, E]
  have q1 : fIsi "tuple" (lw a b c) G1 = some (.bl true, G1) := rfl
  have q2 : fLen [lw a b c] G1 = some (.int 3, G1) := rfl
  have q3 := I G1 r1 (by omega)
  have q4 := Sm G1 r1 (by omega)
  have k1 : evE call (.or (.not (.isi (.v 4) "tuple")) (.or (.cmp .ne (.bi .len (.cons (.v 4) .nil)) (.c (.int 3))) (.or (.not (.fn fi (.cons (.v 4) .nil))) (.not (.fn fs (.cons (.v 4) (.cons (.v 5) .nil))))))) E G1 = some (.bl false, G1) := by
    simp [evE, evL, E, q1, q2, q3, q4, BI.run, CO.f, ne_int]
  have m1 := f_mul (G := G1) r1.a r1.a (by decide)
  have m2 := f_mul (G := G1) r1.b r1.b (by decide)
  have m3 := f_mul (G := G1) r1.c r1.c (by decide)
  have rs := r1.size
  have q5 := F (a * a + b * b) (c * c) G1 rs.p (lt_9000 rs.p rs.c (by decide))
  have k2a : evE call (.fn ff (.cons (.bin .add (.bin .mul (.ix (.v 5) (.c (.int 0))) (.ix (.v 5) (.c (.int 0)))) (.bin .mul (.ix (.v 5) (.c (.int 1))) (.ix (.v 5) (.c (.int 1))))) (.cons (.bin .mul (.ix (.v 5) (.c (.int 2))) (.ix (.v 5) (.c (.int 2)))) .nil))) E G1 = some (lf (a * a + b * b) (c * c), G1) := by
    simp [evE, evL, E, wI, fIx, at0, at1, at2, bo_add, bo_mul, m1, m2, m3, f_add, q5]
  have k2 := ev_rqS (show evE call (.fn fz (.cons (.v 4) .nil)) E G1 = some (lf (a * a + b * b) (c * c), G1) by simp [evE, evL, E, S G1 r1 (by omega)]) k2a rfl (shw_lf rs (by decide))
  obtain ⟨t, e3, small⟩ := great_ev (call := call) (x0 := some (.ref p)) (x1 := x1) (x2 := some (.ref h)) (x3 := some (.ref r)) (x4 := some (lw a b c)) (x6 := x6) (x7 := x7) (x8 := none) (a := a) (b := b) (c := c) (G := G1)
  have a2 : PotAt (G1 ++ [.lst [.int (aI a), .int (aI b), .int (aI c)]]) p (n + 3) := a1.app
  have H2 : HandAt (G1 ++ [.lst [.int (aI a), .int (aI b), .int (aI c)]]) h r ts := H1.stp Stp.app nh nr
  generalize (G1 ++ [MO.lst [.int (aI a), .int (aI b), .int (aI c)]]) = G2 at e3 a2 H2
  have d3 : exS call (.set (.nm 6) greatC) E G1 = some (.nx [some (.ref p), x1, some (.ref h), some (.ref r), some (lw a b c), some (wI a b c), some (.bl t), x7, none] G2) :=
    ex_set e3 (by simp [asT, E])
  -- what is put in
  have fin : ∃ v : IV, ∃ u : T3, ∃ G3, exS call (.set (.nm 4) (.ite (.v 6) (.fn fw (.cons (.v 0) .nil)) (.v 4))) [some (.ref p), x1, some (.ref h), some (.ref r), some (lw a b c), some (wI a b c), some (.bl t), x7, none] G2
      = some (.nx [some (.ref p), x1, some (.ref h), some (.ref r), some v, some (wI a b c), some (.bl t), x7, none] G3) ∧ PotAt G3 p (n + 43) ∧ HandAt G3 h r ts ∧ R 400 u.1 u.2.1 u.2.2 ∧ v = lw u.1 u.2.1 u.2.2 ∧ (if t then v else wI a b c) = wI u.1 u.2.1 u.2.2 := by
    cases t with
    | false =>
      obtain ⟨s1, s2, s3⟩ := small rfl
      exact ⟨lw a b c, (a, b, c), G2, ex_set (v := lw a b c) (G1 := G2) (by simp [evE]) (by simp [asT]), a2.up (by omega), H2, ⟨r1.p, s1, s2, s3⟩, rfl, rfl⟩
    | true =>
      obtain ⟨x, y, z, G3, r2, e4, a3, s3⟩ := W p (n + 3) G2 a2 (by omega)
      obtain ⟨g, x', y', z', gp, ex, ey, ez, zp, g1, ew⟩ := lw_parts (a := x) (b := y) r2.p
      refine ⟨lw x y z, (x', y', z'), G3, ex_set (v := lw x y z) (G1 := G3) (by simp [evE, evL, e4]) (by simp [asT]), a3.up (by omega), H2.stp s3 nh nr, ⟨zp, abs_up (abs_div r2.a ex gp) (by decide), abs_up (abs_div r2.b ey gp) (by decide), abs_up (abs_div r2.c ez gp) (by decide)⟩, ?_, ?_⟩
      · rw [ew]; exact (lw_self g1).symm
      · exact ew
  obtain ⟨v, u, G3, d4, a3, H3, ru, hv, hw⟩ := fin
  obtain ⟨j, G4, j0, j1, e5, a4, s4⟩ := ev_take (i := 0) (u := 8) (ε := [some (.ref p), x1, some (.ref h), some (.ref r), some v, some (wI a b c), some (.bl t), x7, none]) T rfl a3 (by omega) (by omega) (by omega)
  have H4 := H3.stp s4 nh nr
  obtain ⟨j, rfl⟩ := Int.eq_ofNat_of_zero_le j0
  have d5 : exS call (.set (.nm 7) (.fn ft (.cons (.v 0) (.cons (.c (.int 8)) .nil)))) [some (.ref p), x1, some (.ref h), some (.ref r), some v, some (wI a b c), some (.bl t), x7, none] G3 = some (.nx [some (.ref p), x1, some (.ref h), some (.ref r), some v, some (wI a b c), some (.bl t), some (.int j), none] G4) :=
    ex_set e5 (by simp [asT])
  have d6 := put_ev (call := call) (x0 := some (.ref p)) (x1 := x1) (x8 := none) (b := t) H4 hr (show j < 8 by omega) hv hw
  refine ⟨_, _, _, _, ts.set j u, _, ex_cons d1 (ex_cons (ex_ifF k1 ex_nil) (ex_cons (ex_ifF k2 ex_nil) (ex_cons d3 (ex_cons d4 (ex_cons d5 (ex_cons d6 ex_nil)))))), ?_, H4.put hr ru⟩
  obtain ⟨pa, pb, pc, pe, pq⟩ := a4.up (show n + 43 + 1 ≤ n + 60 by omega)
  exact ⟨pa, pb, pc, by rw [List.getElem?_set_ne nr, List.getElem?_set_ne nh]; exact pe, pq⟩
end
end Lk
namespace Lk
open PySem PySem.Spec PyProof.Rows L2
theorem hand_of : ∀ acc : List IV, (∀ w ∈ acc, ∃ t : T3, w = lw t.1 t.2.1 t.2.2 ∧ w = wI t.1 t.2.1 t.2.2 ∧ R 400 t.1 t.2.1 t.2.2) → ∃ ts : List T3, acc = ts.map (fun t => lw t.1 t.2.1 t.2.2) ∧ acc = ts.map (fun t => wI t.1 t.2.1 t.2.2) ∧ ts.length = acc.length ∧ ∀ t ∈ ts, R 400 t.1 t.2.1 t.2.2
  | [], _ => ⟨[], rfl, rfl, rfl, fun t h => absurd h (List.not_mem_nil)⟩
  | w :: acc, h => by
    obtain ⟨t, h1, h2, h3⟩ := h w List.mem_cons_self
    obtain ⟨ts, k1, k2, k3, k4⟩ := hand_of acc fun u hu => h u (List.mem_cons_of_mem _ hu)
    refine ⟨t :: ts, ?_, ?_, by simp [k3], fun u hu => ?_⟩
    · rw [List.map_cons, ← k1, ← h1]
    · rw [List.map_cons, ← k2, ← h2]
    · rcases List.mem_cons.mp hu with z | z
      · rw [z]; exact h3
      · exact k4 u z
def b_k02_right (fw fd fi fs fz ff ft : Nat) : CB := .cons (.setc 2 (.comp [("lap", 1)] (.nm 1) (.rng (.cons (.c (.int 8)) .nil)) .no (.fn fw (.cons (.v 0) .nil)))) (.cons (.set (.nm 3) (.bi .list (.cons (.v 2) .nil))) (.cons (.for (.nm 1) (.rng (.cons (.c (.int 40)) .nil)) (k02lap fw fd fi fs fz ff ft)) (.cons (.ret (.c (.bl true))) .nil)))
section
variable {call : Nat → List IV → GH → RO} {fw fd fi fs fz ff ft p h r n : Nat} {G : GH}
def e02 (p : Nat) : EV := [some (.ref p), none, none, none, none, none, none, none, none]
theorem ev_hand (W : WtS call fw) (a0 : PotAt G p n) (hn : n ≤ 400000) :
    ∃ acc G', exS call (.setc 2 (.comp [("lap", 1)] (.nm 1) (.rng (.cons (.c (.int 8)) .nil)) .no (.fn fw (.cons (.v 0) .nil)))) (e02 p) G = some (.nx [some (.ref p), none, some (.ref G.length), none, none, none, none, none, none] G') ∧ G'[G.length]? = some (.lst acc) ∧ acc.length = 8 ∧
      (∀ w ∈ acc, ∃ t : T3, w = lw t.1 t.2.1 t.2.2 ∧ w = wI t.1 t.2.1 t.2.2 ∧ R 400 t.1 t.2.1 t.2.2) ∧ PotAt G' p (n + 320) := by
  have e : evL call (.cons (.c (.int 8)) .nil) (e02 p) G = some ([.int (8 : Nat)], G) := by simp [evL, evE]
  have ev := ev_rng e (rng_one 8 (by decide))
  have hlt := a0.lt
  let I : Nat → List IV → GH → Prop := fun i acc G' => (∀ w ∈ acc, ∃ t : T3, w = lw t.1 t.2.1 t.2.2 ∧ w = wI t.1 t.2.1 t.2.2 ∧ R 400 t.1 t.2.1 t.2.2) ∧ PotAt G' p (n + 40 * i)
  obtain ⟨acc, G9, k, g9, l9, hI, a9⟩ := comp_inv (src := .rng 0 1 8) (n := G.length) (step := fun w G2 => match asT call (.nm 1) w (wipeI (e02 p) (([("lap", 1)] : List (Str × Nat)).map (·.2))) G2 with
      | none => none
      | some (ε3, G3) => match evE call (.fn fw (.cons (.v 0) .nil)) ε3 G3 with
        | none => none
        | some (v, G5) => some (some v, G5)) I 8 (by decide) (fun acc G' _ => by simp [Src.stop]) (fun i acc G' hi hI hg => by
      obtain ⟨i1, i2⟩ := hI
      obtain ⟨a, b, c, G1, r1, e1, a1, s1⟩ := W p (n + 40 * i) G' i2 (by omega)
      have gl : G.length < G'.length := (List.getElem?_eq_some_iff.mp hg).1
      have g1 := s1.at_ hg (by omega)
      refine ⟨.int (0 + (i : Int) * 1), lw a b c, G1, by simp only [Src.at, hi, if_true], ?_, g1, ?_, ?_⟩
      · simp [asT, wipeI, e02, evE, evL, e1]
      · intro w hw
        rcases List.mem_append.mp hw with z | z
        · exact i1 w z
        · rw [List.mem_singleton] at z
          obtain ⟨g, x', y', z', gp, ex, ey, ez, zp, q1, ew⟩ := lw_parts (a := a) (b := b) r1.p
          exact ⟨(x', y', z'), by rw [z, ew]; exact (lw_self q1).symm, by rw [z, ew], zp, abs_up (abs_div r1.a ex gp) (by decide), abs_up (abs_div r1.b ey gp) (by decide), abs_up (abs_div r1.c ez gp) (by decide)⟩
      · obtain ⟨a, b, c, ea, q⟩ := a1
        exact ⟨a, b, c, by rw [List.getElem?_set_ne (by omega)]; exact ea, q⟩) 8 0 [] (G ++ [.lst []]) rfl rfl (by rw [List.getElem?_append_right (Nat.le_refl _), Nat.sub_self]; rfl) ⟨fun w hw => absurd hw (List.not_mem_nil), a0.app⟩
  exact ⟨acc, G9, ex_setc (ev_comp ev k), g9, l9, hI, a9⟩
def k02I (p h r n : Nat) (i : Nat) (ε : EV) (G' : GH) : Prop := ∃ x1 x4 x5 x6 x7 ts, ε = [some (.ref p), x1, some (.ref h), some (.ref r), x4, x5, x6, x7, none] ∧ PotAt G' p (n + 60 * i) ∧ HandAt G' h r ts
theorem k02_step (W : WtS call fw) (D : DeedSp call fd) (I : IsSp call fi) (Sm : SameSp call fs) (S : SizeSp call fz) (F : FracSp call ff) (T : TakeSp call ft) (hn : n ≤ 200000) (nh : h ≠ p) (nr : r ≠ p) (hr : h ≠ r) {i : Nat} {ε : EV} {G' : GH} (hi : i < 40) (hI : k02I p h r n i ε G') :
    ∃ w ε' G'', (Src.rng 0 1 40).at G' i = some w ∧ (match asT call (.nm 1) w ε G' with
      | none => none
      | some (ε', G') => exB call (k02lap fw fd fi fs fz ff ft) ε' G') = some (.nx ε' G'') ∧ k02I p h r n (i + 1) ε' G'' := by
  obtain ⟨x1, x4, x5, x6, x7, ts, rfl, a, H⟩ := hI
  obtain ⟨y4, y5, y6, y7, ts', G2, e, a2, H2⟩ := k02_lap (x1 := some (.int (0 + (i : Int) * 1))) (x4 := x4) (x5 := x5) (x6 := x6) (x7 := x7) W D I Sm S F T a (by omega) H nh nr hr
  refine ⟨.int (0 + (i : Int) * 1), [some (.ref p), some (.int (0 + (i : Int) * 1)), some (.ref h), some (.ref r), y4, y5, y6, y7, none], G2, by simp only [Src.at, hi, if_true], ?_, some (.int (0 + (i : Int) * 1)), y4, y5, y6, y7, ts', rfl, a2.up (by omega), H2⟩
  simp only [asT, List.set_cons_succ, List.set_cons_zero]
  exact e
theorem k02_right {name : Str} {ps : List Str} {at_ : Nat} (W : WtS call fw) (D : DeedSp call fd) (I : IsSp call fi) (Sm : SameSp call fs) (S : SizeSp call fz) (F : FracSp call ff) (T : TakeSp call ft) (a0 : PotAt G p 0) :
    ∃ G', runF call ⟨name, ps, ["pot", "lap", "hand", "raws", "value", "raw", "is_great", "at", "number"], at_, b_k02_right fw fd fi fs fz ff ft⟩ [.ref p] G = some (.bl true, G') := by
  obtain ⟨acc, G1, d1, g1, l1, hI, a1⟩ := ev_hand W a0 (by decide)
  obtain ⟨ts, k1, k2, k3, k4⟩ := hand_of acc hI
  have lt1 : G.length < G1.length := (List.getElem?_eq_some_iff.mp g1).1
  have lp := a0.lt
  have d2 : exS call (.set (.nm 3) (.bi .list (.cons (.v 2) .nil))) [some (.ref p), none, some (.ref G.length), none, none, none, none, none, none] G1 = some (.nx [some (.ref p), none, some (.ref G.length), some (.ref G1.length), none, none, none, none, none] (G1 ++ [.lst acc])) :=
    ex_set (v := .ref G1.length) (G1 := G1 ++ [.lst acc]) (by simp [evE, evL, BI.run, fList, itsOf, g1, its_lst]) (by simp [asT])
  have H : HandAt (G1 ++ [.lst acc]) G.length G1.length ts := ⟨by rw [← k1]; exact app_at g1, by rw [← k2, List.getElem?_append_right (Nat.le_refl _), Nat.sub_self]; rfl, by rw [k3]; exact l1, k4⟩
  have lp1 := a1.lt
  have e : evL call (.cons (.c (.int 40)) .nil) [some (.ref p), none, some (.ref G.length), some (.ref G1.length), none, none, none, none, none] (G1 ++ [.lst acc]) = some ([.int (40 : Nat)], G1 ++ [.lst acc]) := by simp [evL, evE]
  have ev := ev_rng e (rng_one 40 (by decide))
  obtain ⟨ε', G3, h1, x1, x4, x5, x6, x7, ts', rfl, a3, H3⟩ := loop_inv (src := .rng 0 1 40) (k02I p G.length G1.length 320) 40 (fun ε G' _ => by simp [Src.stop]) (fun i ε G' hi hI => k02_step W D I Sm S F T (by decide) (by omega) (by omega) (by omega) hi hI) 40 0 _ _ (by omega) ⟨none, none, none, none, none, ts, rfl, (a1.app (Z := [.lst acc])).up (by omega), H⟩
  exact ⟨G3, run_is (ex_cons d1 (ex_cons d2 (ex_cons (ex_for ev h1) (ex_last (ex_ret (by rw [evE]))))))⟩
end
def RightSp0 (call : Nat → List IV → GH → RO) (f : Nat) : Prop := ∀ (p : Nat) (G : GH), PotAt G p 0 → ∃ G', call f [.ref p] G = some (.bl true, G')
def b_law_one (fr fp : Nat) : CB := .cons (.ret (.fn fr (.cons (.fn fp (.cons (.v 0) (.cons (.c (.int 0)) .nil))) .nil))) .nil
theorem one_run {call : Nat → List IV → GH → RO} {fr fp at_ : Nat} {name : Str} {ps : List Str} (Rt : RightSp0 call fr) (Pt : PotSp call fp) (ns : List Int) (hn : ns.length ≤ 63) :
    ∃ G', runF call ⟨name, ps, ["script"], at_, b_law_one fr fp⟩ [.ref 0] [.scr (ns.map IV.int)] = some (.bl true, G') := by
  obtain ⟨p, G2, e2, a2, _, _⟩ := Pt 0 0 ns [.scr (ns.map IV.int)] rfl hn (by decide)
  obtain ⟨G3, e3⟩ := Rt p G2 a2
  refine ⟨G3, run_is ?_⟩
  show exB call (b_law_one fr fp) [some (.ref 0)] _ = _
  exact ex_last (ex_ret (by simp [evE, evL, e2, e3]))
end Lk
namespace Lk
open PySem PySem.Spec PyProof.Rows L2
def KBs (K : PySem.W.Frag) (fd : FuncData) (ps : List Str) : List (Str × Nat × List Str × List Nat) → Prop
  | [] => True
  | q :: r => KB K fd ps q.2.1 q.2.2.1 q.2.2.2 ∧ KBs K fd ps r
theorem kb_all {K : PySem.W.Frag} {fd : FuncData} {ps : List Str} : ∀ {l : List (Str × Nat × List Str × List Nat)}, KBs K fd ps l → ∀ q ∈ l, KB K fd ps q.2.1 q.2.2.1 q.2.2.2
  | [], _, q, hq => absurd hq (List.not_mem_nil)
  | r :: l, h, q, hq => by
    rcases List.mem_cons.mp hq with z | z
    · rw [z]; exact h.1
    · exact kb_all h.2 q z
theorem kb_of {K : PySem.W.Frag} {fd : FuncData} {ps : List Str} {P : Pg} {x : Str} (h : KBs K fd ps (P.kw.filter fun q => decide (q.1 = x))) : ∀ np ks pm, (x, np, ks, pm) ∈ P.kw → KB K fd ps np ks pm := fun np ks pm m =>
  kb_all h (x, np, ks, pm) (List.mem_filter.mpr ⟨m, by simp⟩)
theorem fhas_mk {P : Pg} {K : PySem.W.Frag} {h : Heap} {mg : Str → Option Value} {top : Nat → Stmt} {d : FD} {f : Addr} {od an : Option Addr} {sl : Array (Option Value)} {oc kV dc pm cd ct : Value} (X : K.In h) (G : h.Ns mainGlobals mg)
    (a : PySem.W.nsIn K mainGlobals d.name = some (some (.ref f))) (l : K.lookup f = some ⟨oc, od, .func (PySem.W.fnOf d.name d.name (defArgs (top d.at_)) (defBody (top d.at_)) (defScope (top d.at_)) .none kV dc pm an cd ct), sl⟩) (c : PySem.W.codeIn K cd d.name = true) (k : PySem.W.keepIn K (.ref f) = true)
    (b : ∀ (kV doc pm : Value) (an : Option Addr) (cdv ct : Value) (us : List Value), us.length = d.ps.length → bindArgs (PySem.W.fnOf d.name d.name (defArgs (top d.at_)) (defBody (top d.at_)) (defScope (top d.at_)) .none kV doc pm an cdv ct) ⟨us, []⟩ = pure (d.ps.zip us))
    (kb : ∀ (kV doc pm : Value) (an : Option Addr) (cdv ct : Value), KBs K (PySem.W.fnOf d.name d.name (defArgs (top d.at_)) (defBody (top d.at_)) (defScope (top d.at_)) .none kV doc pm an cdv ct) d.ps (P.kw.filter fun q => decide (q.1 = d.name))) :
    ∃ f fd, FHas K mg P top d f fd := by
  have F := fun_mk (st := top d.at_) l c k
  exact ⟨f, _, PySem.W.mg_of X G a, F, F.binds b, kb_of (kb _ _ _ _ _ _)⟩
theorem has_nil {P : Pg} {K : PySem.W.Frag} {mg : Str → Option Value} {top : Nat → Stmt} : ∀ d ∈ ([] : List FD), ∃ f fd, FHas K mg P top d f fd := fun _ h => nomatch h
theorem has_cons {P : Pg} {K : PySem.W.Frag} {mg : Str → Option Value} {top : Nat → Stmt} {d : FD} {ds : List FD} (h : ∃ f fd, FHas K mg P top d f fd) (hs : ∀ d ∈ ds, ∃ f fd, FHas K mg P top d f fd) : ∀ e ∈ d :: ds, ∃ f fd, FHas K mg P top e f fd := fun e m => by
  cases m with
  | head => exact h
  | tail _ m => exact hs e m
theorem bn_nil {K : PySem.W.Frag} : ∀ x ∈ ([] : List Str), PySem.W.nsIn K mainGlobals x = some none := fun _ h => nomatch h
theorem bn_cons {K : PySem.W.Frag} {x : Str} {xs : List Str} (h : PySem.W.nsIn K mainGlobals x = some none) (hs : ∀ x ∈ xs, PySem.W.nsIn K mainGlobals x = some none) : ∀ e ∈ x :: xs, PySem.W.nsIn K mainGlobals e = some none := fun e m => by
  cases m with
  | head => exact h
  | tail _ m => exact hs e m
theorem pf_mk {K : PySem.W.Frag} {h : Heap} {mg : Str → Option Value} {P : Pg} (X : K.In h) (G : h.Ns mainGlobals mg) (cs : P.cs = []) (bn : ∀ x ∈ P.bn, PySem.W.nsIn K mainGlobals x = some none)
    (g : PySem.W.nsIn K mainGlobals "gcd" = some (some (.builtin "math.gcd"))) : PF P mg :=
  ⟨fun x hx => PySem.W.mg_none_of X G (bn x hx), fun x i hx => absurd (cs ▸ hx) (List.not_mem_nil), fun _ => PySem.W.mg_of X G g⟩
def spLaw (K : PySem.W.Frag) : Sp := fun us H Q _ => ∃ (a : Addr) (ns : List Int), us = [.ref a] ∧ SqL K H a (ns.map V.int) ∧ (∀ b o, H b = some o → ∃ ob u, o = .frz ob u) ∧ ns.length ≤ 63 ∧ ∀ H', Q (.bl true) H'
/-- the law's own head, out of what the top has written -/
theorem all_mk {prog : Program} {w : World} {K : PySem.W.Frag} {h : Heap} {mg : Str → Option Value} {P : Pg} {top : Nat → Stmt} {Γ : List FD} {d : FD} {k : Nat} {fa f : Addr} {od an : Option Addr} {sl : Array (Option Value)} {oc kV dc pm cd ct : Value}
    (X : K.In h) (G : h.Ns mainGlobals mg) (hfa : mg d.name = some (.ref fa)) (nm : P.fns = Γ.map (·.name)) (ok : ∀ d ∈ Γ, okF P top d = true) (okd : okF P top d = true) (ps : d.ps = [("script" : Str)])
    (run : ∀ ns : List Int, ns.length ≤ 63 → ∃ G', runF (callF Γ k) d [.ref 0] [.scr (ns.map IV.int)] = some (.bl true, G'))
    (b1 : ∀ (kV doc pm : Value) (an : Option Addr) (cdv ct : Value) (s : Shared) (u : Value), BindsTo s (PySem.W.fnOf d.name d.name (defArgs (top d.at_)) (defBody (top d.at_)) (defScope (top d.at_)) .none kV doc pm an cdv ct) ⟨[u], []⟩ [("script", u)])
    (b : ∀ (kV doc pm : Value) (an : Option Addr) (cdv ct : Value) (us : List Value), us.length = d.ps.length → bindArgs (PySem.W.fnOf d.name d.name (defArgs (top d.at_)) (defBody (top d.at_)) (defScope (top d.at_)) .none kV doc pm an cdv ct) ⟨us, []⟩ = pure (d.ps.zip us))
    (kb : ∀ (kV doc pm : Value) (an : Option Addr) (cdv ct : Value), KBs K (PySem.W.fnOf d.name d.name (defArgs (top d.at_)) (defBody (top d.at_)) (defScope (top d.at_)) .none kV doc pm an cdv ct) d.ps (P.kw.filter fun q => decide (q.1 = d.name)))
    (pf : PF P mg) (has : ∀ d ∈ Γ, ∃ f fd, FHas K mg P top d f fd)
    (a : PySem.W.nsIn K mainGlobals d.name = some (some (.ref f))) (l : K.lookup f = some ⟨oc, od, .func (PySem.W.fnOf d.name d.name (defArgs (top d.at_)) (defBody (top d.at_)) (defScope (top d.at_)) .none kV dc pm an cd ct), sl⟩) (c : PySem.W.codeIn K cd d.name = true) (kp : PySem.W.keepIn K (.ref f) = true) :
    ∃ fd : FuncData, (∀ (s : Shared) (u : Value), BindsTo s fd ⟨[u], []⟩ [("script", u)]) ∧ ∀ base : Heap, K.In base → base.Ns mainGlobals mg → FnG prog w K mg base CX0 (k + 1) fa fd ["script"] (spLaw K) := by
  have e := hfa.symm.trans (PySem.W.mg_of X G a)
  cases e
  have F := fun_mk (st := top d.at_) l c kp
  refine ⟨_, fun s u => b1 kV dc pm an cd ct s u, fun base _ _ => ?_⟩
  have := law_ok (prog := prog) (w := w) (base := base) pf nm has ok ⟨PySem.W.mg_of X G a, F, F.binds b, kb_of (kb _ _ _ _ _ _)⟩ okd (by rw [ps]; rfl) run
  rw [ps] at this
  exact this
end Lk
namespace Lk
open PySem PySem.Spec PyProof.Rows L2
def b_law_right (f_law_weight_drawn f_law_deed f_law_is_least f_law_is_same f_size f_law_frac f_law_take : Nat) : CB := .cons (.setc 2 (.comp [("lap", 1)] (.nm 1) (.rng (.cons (.c (.int 8)) .nil)) .no (.fn f_law_weight_drawn (.cons (.v 0) .nil)))) (.cons (.set (.nm 3) (.bi .list (.cons (.v 2) .nil))) (.cons (.for (.nm 1) (.rng (.cons (.c (.int 40)) .nil)) (.cons (.set (.tup (.cons (.nm 4) (.cons (.nm 5) .nil))) (.fn f_law_deed (.cons (.v 0) (.cons (.v 2) (.cons (.v 3) .nil))))) (.cons (.ife (.or (.not (.isi (.v 4) "tuple")) (.or (.cmp .ne (.bi .len (.cons (.v 4) .nil)) (.c (.int 3))) (.or (.not (.fn f_law_is_least (.cons (.v 4) .nil))) (.not (.fn f_law_is_same (.cons (.v 4) (.cons (.v 5) .nil))))))) (.cons (.ret (.c (.bl false))) .nil) (.nil)) (.cons (.ife (.rq true (.fn f_size (.cons (.v 4) .nil)) (.fn f_law_frac (.cons (.bin .add (.bin .mul (.ix (.v 5) (.c (.int 0))) (.ix (.v 5) (.c (.int 0)))) (.bin .mul (.ix (.v 5) (.c (.int 1))) (.ix (.v 5) (.c (.int 1))))) (.cons (.bin .mul (.ix (.v 5) (.c (.int 2))) (.ix (.v 5) (.c (.int 2)))) .nil)))) (.cons (.ret (.c (.bl false))) .nil) (.nil)) (.cons (.set (.nm 6) (.cmp .ge (.bi .max (.cons (.comp [("number", 8)] (.nm 8) (.ex (.v 5)) .no (.bi .abs (.cons (.v 8) .nil))) .nil)) (.bin .mul (.bin .pow (.c (.int 10)) (.c (.int 60))) (.bin .pow (.c (.int 10)) (.c (.int 60)))))) (.cons (.set (.nm 4) (.ite (.v 6) (.fn f_law_weight_drawn (.cons (.v 0) .nil)) (.v 4))) (.cons (.set (.nm 7) (.fn f_law_take (.cons (.v 0) (.cons (.c (.int 8)) .nil)))) (.cons (.set (.tup (.cons (.sub (.v 2) (.v 7)) (.cons (.sub (.v 3) (.v 7)) .nil))) (.tup (.cons (.v 4) (.cons (.ite (.v 6) (.v 4) (.v 5)) .nil)))) .nil)))))))) (.cons (.ret (.c (.bl true))) .nil)))
def b_law (f_law_right f_law_pot : Nat) : CB := .cons (.ret (.fn f_law_right (.cons (.fn f_law_pot (.cons (.v 0) (.cons (.c (.int 0)) .nil))) .nil))) .nil
def topS (i : Nat) : PySem.Stmt := PySem.Challenge.pw_likelights_k02_whole_scripts_of_weights.main.body.getD i (.Pass ⟨0, 0, 0, 0⟩)
def d_is_integer : FD := ⟨"is_integer", ["value"], ["value"], 2, b_is_integer⟩
def d_are_integers : FD := ⟨"are_integers", ["value"], ["value", "part"], 3, b_are_integers 0⟩
def d_plus : FD := ⟨"plus", ["one", "other"], ["one", "other", "one_re", "one_im", "one_bottom", "other_re", "other_im", "other_bottom", "re", "im"], 8, b_plus 6 8⟩
def d_times : FD := ⟨"times", ["one", "other"], ["one", "other", "one_re", "one_im", "one_bottom", "other_re", "other_im", "other_bottom", "re", "im"], 9, b_times 6 8⟩
def d_turned : FD := ⟨"turned", ["one"], ["one", "re", "im", "bottom"], 10, b_turned 6⟩
def d_size : FD := ⟨"size", ["one"], ["one", "re", "im", "bottom"], 11, b_size 6 9⟩
def d_check_weight : FD := ⟨"check_weight", ["value"], ["value"], 12, b_check_weight 7⟩
def d_is_weight : FD := ⟨"is_weight", ["value"], ["value", "re", "im", "bottom"], 13, b_is_weight 1⟩
def d_least_weight : FD := ⟨"least_weight", ["re", "im", "bottom"], ["re", "im", "bottom", "shared"], 14, b_least_weight⟩
def d_least_fraction : FD := ⟨"least_fraction", ["top", "bottom"], ["top", "bottom", "shared"], 15, b_least_fraction⟩
def d_law_pot : FD := ⟨"_law_pot", ["script", "place"], ["script", "place", "cell", "own", "small"], 17, b_law_pot 1127 501 71469 7503 419⟩
def d_law_take : FD := ⟨"_law_take", ["pot", "upto"], ["pot", "upto", "digit", "prime", "blend"], 18, b_law_take 98099 641 10275 137⟩
def d_law_of : FD := ⟨"_law_of", ["pot", "some"], ["pot", "some"], 19, b_law_of 11⟩
def d_law_is_int : FD := ⟨"_law_is_int", ["value", "low", "high"], ["value", "low", "high"], 20, b_law_is_int⟩
def d_law_num_common : FD := ⟨"_law_num_common", ["one", "other"], ["one", "other"], 21, b_law_num_common⟩
def d_law_frac : FD := ⟨"_law_frac", ["top", "bottom"], ["top", "bottom", "by"], 22, b_law_frac 14⟩
def d_law_num : FD := ⟨"_law_num", ["re", "im", "bottom"], ["re", "im", "bottom", "by"], 23, b_law_num 14⟩
def d_law_number_drawn : FD := ⟨"_law_number_drawn", ["pot", "laps"], ["pot", "laps", "found", "lap"], 24, b_law_number_drawn 11 12⟩
def d_law_weight_drawn : FD := ⟨"_law_weight_drawn", ["pot"], ["pot", "way", "p", "q", "r", "laps", "re", "im", "bottom", "at"], 25, b_law_weight_drawn 11 12 16 17⟩
def d_law_is_least : FD := ⟨"_law_is_least", ["value"], ["value", "re", "im", "bottom", "one"], 26, b_law_is_least 13 14⟩
def d_law_is_same : FD := ⟨"_law_is_same", ["value", "raw"], ["value", "raw", "re", "im", "bottom"], 27, b_law_is_same⟩
def d_law_deed : FD := ⟨"_law_deed", ["pot", "hand", "raws"], ["pot", "hand", "raws", "way", "at", "far", "a", "b", "c", "x", "y", "z"], 28, b_law_deed 11 2 3 4⟩
def d_law_right : FD := ⟨"_law_right", ["pot"], ["pot", "lap", "hand", "raws", "value", "raw", "is_great", "at", "number"], 29, b_law_right 18 21 19 20 5 15 11⟩
def d_law : FD := ⟨"law", ["script"], ["script"], 30, b_law 22 10⟩
def gam : List FD := [d_is_integer, d_are_integers, d_plus, d_times, d_turned, d_size, d_check_weight, d_is_weight, d_least_weight, d_least_fraction, d_law_pot, d_law_take, d_law_of, d_law_is_int, d_law_num_common, d_law_frac, d_law_num, d_law_number_drawn, d_law_weight_drawn, d_law_is_least, d_law_is_same, d_law_deed, d_law_right]
def pg : Pg := ⟨["is_integer", "are_integers", "plus", "times", "turned", "size", "check_weight", "is_weight", "least_weight", "least_fraction", "_law_pot", "_law_take", "_law_of", "_law_is_int", "_law_num_common", "_law_frac", "_law_num", "_law_number_drawn", "_law_weight_drawn", "_law_is_least", "_law_is_same", "_law_deed", "_law_right"], ["isinstance", "int", "bool", "tuple", "all", "len", "sum", "abs", "range", "list", "repr", "max"], [], true, []⟩
theorem okAll : (gam.all fun d => okF pg topS d) = true := by decide +kernel
theorem okLaw : okF pg topS d_law = true := by decide +kernel
theorem t_int (k : Nat) : ∀ (i : Int) (G : GH), callF gam (k + 1) 0 [.int i] G = some (.bl true, G) := fun i G => int_sp (at_ := d_is_integer.at_) (name := "is_integer") (ps := ["value"]) rfl rfl i G
theorem t_ints (k : Nat) : ∀ (a b c : Int) (G : GH), callF gam (k + 2) 1 [wI a b c] G = some (.bl true, G) := fun a b c G => ints_sp (at_ := d_are_integers.at_) (name := "are_integers") (ps := ["value"]) (f := 0) rfl rfl (t_int k) a b c G
theorem t_isw (k : Nat) : ∀ (a b c : Int) (G : GH), 0 < c → g3 a b c = 1 → callF gam (k + 3) 7 [wI a b c] G = some (.bl true, G) := fun a b c G h0 h1 => isw_sp (at_ := d_is_weight.at_) (name := "is_weight") (ps := ["value"]) (f := 1) rfl rfl (t_ints k) a b c G h0 h1
theorem t_chk (k : Nat) : ChkSp (callF gam (k + 4)) 6 := chk_sp (at_ := d_check_weight.at_) (name := "check_weight") (ps := ["value"]) (f := 7) rfl rfl (t_isw k)
theorem t_least (k : Nat) : LeastSp (callF gam (k + 1)) 8 := least_sp (at_ := d_least_weight.at_) (name := "least_weight") (ps := ["re", "im", "bottom"]) rfl rfl
theorem t_leastf (k : Nat) : FracSp (callF gam (k + 1)) 9 := leastf_sp (at_ := d_least_fraction.at_) (name := "least_fraction") (ps := ["top", "bottom"]) rfl rfl
theorem t_plus (k : Nat) : PlusSp (callF gam (k + 5)) 2 := plus_sp (at_ := d_plus.at_) (name := "plus") (ps := ["one", "other"]) (fc := 6) (fl := 8) rfl rfl (t_chk k) (t_least (k + 3))
theorem t_times (k : Nat) : TimesSp (callF gam (k + 5)) 3 := times_sp (at_ := d_times.at_) (name := "times") (ps := ["one", "other"]) (fc := 6) (fl := 8) rfl rfl (t_chk k) (t_least (k + 3))
theorem t_turn (k : Nat) : TurnSp (callF gam (k + 5)) 4 := turn_sp (at_ := d_turned.at_) (name := "turned") (ps := ["one"]) (fc := 6) rfl rfl (t_chk k)
theorem t_size (k : Nat) : SizeSp (callF gam (k + 5)) 5 := size_sp (at_ := d_size.at_) (name := "size") (ps := ["one"]) (fc := 6) (fl := 9) rfl rfl (t_chk k) (t_leastf (k + 3))
theorem t_pot (k : Nat) : PotSp (callF gam (k + 1)) 10 := pot_sp (at_ := d_law_pot.at_) (name := "_law_pot") (ps := ["script", "place"]) rfl rfl (by decide) (by decide) (by decide) (by decide) (by decide)
theorem t_take (k : Nat) : TakeSp (callF gam (k + 1)) 11 := take_sp (at_ := d_law_take.at_) (name := "_law_take") (ps := ["pot", "upto"]) rfl rfl (by decide) (by decide) (by decide) (by decide)
theorem t_of (k : Nat) : OfSp (callF gam (k + 2)) 12 := of_sp (at_ := d_law_of.at_) (name := "_law_of") (ps := ["pot", "some"]) (ft := 11) rfl rfl (t_take k)
theorem t_com (k : Nat) : ComSp (callF gam (k + 1)) 14 := com_sp (at_ := d_law_num_common.at_) (name := "_law_num_common") (ps := ["one", "other"]) rfl rfl
theorem t_frac (k : Nat) : FracSp (callF gam (k + 2)) 15 := frac_sp (at_ := d_law_frac.at_) (name := "_law_frac") (ps := ["top", "bottom"]) (f := 14) rfl rfl (t_com k)
theorem t_num (k : Nat) : LwSp (callF gam (k + 2)) 16 := lw_sp (at_ := d_law_num.at_) (name := "_law_num") (ps := ["re", "im", "bottom"]) (f := 14) rfl rfl (t_com k)
theorem t_numd (k : Nat) : NumSp (callF gam (k + 3)) 17 := num_sp (at_ := d_law_number_drawn.at_) (name := "_law_number_drawn") (ps := ["pot", "laps"]) (ft := 11) (fo := 12) rfl rfl (t_take (k + 1)) (t_of k)
theorem t_wt (k : Nat) : WtS (callF gam (k + 4)) 18 := wt_sp (at_ := d_law_weight_drawn.at_) (name := "_law_weight_drawn") (ps := ["pot"]) (ft := 11) (fo := 12) (fn := 16) (fd := 17) rfl rfl (t_take (k + 2)) (t_of (k + 1)) (t_num (k + 1)) (t_numd k)
theorem t_lint (k : Nat) : ∀ (i : Int) (G : GH), callF gam (k + 1) 13 [.int i, .int i, .int i] G = some (.bl true, G) := fun i G => callP (d := d_law_is_int) rfl rfl rfl (run_law_is_int _ i []) rfl G
theorem t_isl (k : Nat) : IsSp (callF gam (k + 2)) 19 := is_sp (at_ := d_law_is_least.at_) (name := "_law_is_least") (ps := ["value"]) (fi := 13) (fc := 14) rfl rfl (t_lint k) (t_com k)
theorem t_same (k : Nat) : SameSp (callF gam (k + 1)) 20 := same_sp (at_ := d_law_is_same.at_) (name := "_law_is_same") (ps := ["value", "raw"]) rfl rfl
theorem t_deed (k : Nat) : DeedSp (callF gam (k + 6)) 21 := deed_sp (at_ := d_law_deed.at_) (name := "_law_deed") (ps := ["pot", "hand", "raws"]) (ft := 11) (fp := 2) (fm := 3) (fu := 4) rfl rfl (t_take (k + 4)) (t_plus k) (t_times k) (t_turn k)
theorem t_right (k : Nat) : RightSp0 (callF gam (k + 7)) 22 := by
  intro p G h
  obtain ⟨G1, e⟩ := k02_right (name := "_law_right") (ps := ["pot"]) (at_ := d_law_right.at_) (t_wt (k + 2)) (t_deed k) (t_isl (k + 4)) (t_same (k + 5)) (t_size (k + 1)) (t_frac (k + 4)) (t_take (k + 5)) h
  obtain ⟨G', t1⟩ := trim_some G.length (.bl true) G1
  exact ⟨G', (callF_refs (d := d_law_right) rfl rfl rfl G).trans ((congrArg (trim G.length) e).trans t1)⟩
theorem law_run (ns : List Int) (hn : ns.length ≤ 63) : ∃ G', runF (callF gam 7) d_law [.ref 0] [.scr (ns.map IV.int)] = some (.bl true, G') :=
  one_run (name := "law") (ps := ["script"]) (at_ := d_law.at_) (t_right 0) (t_pot 6) ns hn
end Lk
open PySem PySem.W PyProof.Rows
set_option maxHeartbeats 0 in
theorem PySem.Challenge.cw_likelights_k02_whole_scripts_of_weights_holds : PySem.Challenge.rw_likelights_k02_whole_scripts_of_weights.Holds := by
  w_on; o_law; k_head; (case hw => w_witness2)
  k_fill
  refine Lk.walkG (l := PySem.Challenge.rw_likelights_k02_whole_scripts_of_weights) (n := 63) (k := 8) (x := "script") (sp := fun w => Lk.spLaw _) rfl (by decide) rfl ⟨rfl, by decide, by decide⟩ (fun w h Y => PySem.W.kIn_of Y) ?F (fun _ _ a ns hl fz hS => ⟨a, ns, rfl, hS, fz, hl, fun _ => rfl⟩)
  case F =>
    intro w mg fa h KX G hmg
    refine' Lk.all_mk (Γ := Lk.gam) (d := Lk.d_law) (P := Lk.pg) (top := Lk.topS) KX G hmg rfl (fun d hd => List.all_eq_true.mp Lk.okAll d hd) Lk.okLaw rfl Lk.law_run (fun _ _ _ _ _ _ _ _ => .of_eq rfl) (fun _ _ _ _ _ _ us hl => match us, hl with | [_], _ => rfl) (fun _ _ _ _ _ _ => trivial) (Lk.pf_mk KX G rfl ?bn ?g) ?has ?a ?l ?c ?kp
    (case a => k_is); (case l => k_is); (case c => k_is); (case kp => k_is); (case g => k_is)
    case bn =>
      refine' (Lk.bn_cons ?_ (Lk.bn_cons ?_ (Lk.bn_cons ?_ (Lk.bn_cons ?_ (Lk.bn_cons ?_ (Lk.bn_cons ?_ (Lk.bn_cons ?_ (Lk.bn_cons ?_ (Lk.bn_cons ?_ (Lk.bn_cons ?_ (Lk.bn_cons ?_ (Lk.bn_cons ?_ Lk.bn_nil ))))))))))))
      all_goals k_is
    case has =>
      refine' (Lk.has_cons (Lk.fhas_mk KX G ?a0 ?l0 ?c0 ?k0 (fun _ _ _ _ _ _ us hl => match us, hl with | [_], _ => rfl) (fun _ _ _ _ _ _ => trivial)) (Lk.has_cons (Lk.fhas_mk KX G ?a1 ?l1 ?c1 ?k1 (fun _ _ _ _ _ _ us hl => match us, hl with | [_], _ => rfl) (fun _ _ _ _ _ _ => trivial)) (Lk.has_cons (Lk.fhas_mk KX G ?a2 ?l2 ?c2 ?k2 (fun _ _ _ _ _ _ us hl => match us, hl with | [_, _], _ => rfl) (fun _ _ _ _ _ _ => trivial)) (Lk.has_cons (Lk.fhas_mk KX G ?a3 ?l3 ?c3 ?k3 (fun _ _ _ _ _ _ us hl => match us, hl with | [_, _], _ => rfl) (fun _ _ _ _ _ _ => trivial)) (Lk.has_cons (Lk.fhas_mk KX G ?a4 ?l4 ?c4 ?k4 (fun _ _ _ _ _ _ us hl => match us, hl with | [_], _ => rfl) (fun _ _ _ _ _ _ => trivial)) (Lk.has_cons (Lk.fhas_mk KX G ?a5 ?l5 ?c5 ?k5 (fun _ _ _ _ _ _ us hl => match us, hl with | [_], _ => rfl) (fun _ _ _ _ _ _ => trivial)) (Lk.has_cons (Lk.fhas_mk KX G ?a6 ?l6 ?c6 ?k6 (fun _ _ _ _ _ _ us hl => match us, hl with | [_], _ => rfl) (fun _ _ _ _ _ _ => trivial)) (Lk.has_cons (Lk.fhas_mk KX G ?a7 ?l7 ?c7 ?k7 (fun _ _ _ _ _ _ us hl => match us, hl with | [_], _ => rfl) (fun _ _ _ _ _ _ => trivial)) (Lk.has_cons (Lk.fhas_mk KX G ?a8 ?l8 ?c8 ?k8 (fun _ _ _ _ _ _ us hl => match us, hl with | [_, _, _], _ => rfl) (fun _ _ _ _ _ _ => trivial)) (Lk.has_cons (Lk.fhas_mk KX G ?a9 ?l9 ?c9 ?k9 (fun _ _ _ _ _ _ us hl => match us, hl with | [_, _], _ => rfl) (fun _ _ _ _ _ _ => trivial)) (Lk.has_cons (Lk.fhas_mk KX G ?a10 ?l10 ?c10 ?k10 (fun _ _ _ _ _ _ us hl => match us, hl with | [_, _], _ => rfl) (fun _ _ _ _ _ _ => trivial)) (Lk.has_cons (Lk.fhas_mk KX G ?a11 ?l11 ?c11 ?k11 (fun _ _ _ _ _ _ us hl => match us, hl with | [_, _], _ => rfl) (fun _ _ _ _ _ _ => trivial)) (Lk.has_cons (Lk.fhas_mk KX G ?a12 ?l12 ?c12 ?k12 (fun _ _ _ _ _ _ us hl => match us, hl with | [_, _], _ => rfl) (fun _ _ _ _ _ _ => trivial)) (Lk.has_cons (Lk.fhas_mk KX G ?a13 ?l13 ?c13 ?k13 (fun _ _ _ _ _ _ us hl => match us, hl with | [_, _, _], _ => rfl) (fun _ _ _ _ _ _ => trivial)) (Lk.has_cons (Lk.fhas_mk KX G ?a14 ?l14 ?c14 ?k14 (fun _ _ _ _ _ _ us hl => match us, hl with | [_, _], _ => rfl) (fun _ _ _ _ _ _ => trivial)) (Lk.has_cons (Lk.fhas_mk KX G ?a15 ?l15 ?c15 ?k15 (fun _ _ _ _ _ _ us hl => match us, hl with | [_, _], _ => rfl) (fun _ _ _ _ _ _ => trivial)) (Lk.has_cons (Lk.fhas_mk KX G ?a16 ?l16 ?c16 ?k16 (fun _ _ _ _ _ _ us hl => match us, hl with | [_, _, _], _ => rfl) (fun _ _ _ _ _ _ => trivial)) (Lk.has_cons (Lk.fhas_mk KX G ?a17 ?l17 ?c17 ?k17 (fun _ _ _ _ _ _ us hl => match us, hl with | [_, _], _ => rfl) (fun _ _ _ _ _ _ => trivial)) (Lk.has_cons (Lk.fhas_mk KX G ?a18 ?l18 ?c18 ?k18 (fun _ _ _ _ _ _ us hl => match us, hl with | [_], _ => rfl) (fun _ _ _ _ _ _ => trivial)) (Lk.has_cons (Lk.fhas_mk KX G ?a19 ?l19 ?c19 ?k19 (fun _ _ _ _ _ _ us hl => match us, hl with | [_], _ => rfl) (fun _ _ _ _ _ _ => trivial)) (Lk.has_cons (Lk.fhas_mk KX G ?a20 ?l20 ?c20 ?k20 (fun _ _ _ _ _ _ us hl => match us, hl with | [_, _], _ => rfl) (fun _ _ _ _ _ _ => trivial)) (Lk.has_cons (Lk.fhas_mk KX G ?a21 ?l21 ?c21 ?k21 (fun _ _ _ _ _ _ us hl => match us, hl with | [_, _, _], _ => rfl) (fun _ _ _ _ _ _ => trivial)) (Lk.has_cons (Lk.fhas_mk KX G ?a22 ?l22 ?c22 ?k22 (fun _ _ _ _ _ _ us hl => match us, hl with | [_], _ => rfl) (fun _ _ _ _ _ _ => trivial)) Lk.has_nil)))))))))))))))))))))))
      (case a0 => k_is); (case l0 => k_is); (case c0 => k_is); (case k0 => k_is)
      (case a1 => k_is); (case l1 => k_is); (case c1 => k_is); (case k1 => k_is)
      (case a2 => k_is); (case l2 => k_is); (case c2 => k_is); (case k2 => k_is)
      (case a3 => k_is); (case l3 => k_is); (case c3 => k_is); (case k3 => k_is)
      (case a4 => k_is); (case l4 => k_is); (case c4 => k_is); (case k4 => k_is)
      (case a5 => k_is); (case l5 => k_is); (case c5 => k_is); (case k5 => k_is)
      (case a6 => k_is); (case l6 => k_is); (case c6 => k_is); (case k6 => k_is)
      (case a7 => k_is); (case l7 => k_is); (case c7 => k_is); (case k7 => k_is)
      (case a8 => k_is); (case l8 => k_is); (case c8 => k_is); (case k8 => k_is)
      (case a9 => k_is); (case l9 => k_is); (case c9 => k_is); (case k9 => k_is)
      (case a10 => k_is); (case l10 => k_is); (case c10 => k_is); (case k10 => k_is)
      (case a11 => k_is); (case l11 => k_is); (case c11 => k_is); (case k11 => k_is)
      (case a12 => k_is); (case l12 => k_is); (case c12 => k_is); (case k12 => k_is)
      (case a13 => k_is); (case l13 => k_is); (case c13 => k_is); (case k13 => k_is)
      (case a14 => k_is); (case l14 => k_is); (case c14 => k_is); (case k14 => k_is)
      (case a15 => k_is); (case l15 => k_is); (case c15 => k_is); (case k15 => k_is)
      (case a16 => k_is); (case l16 => k_is); (case c16 => k_is); (case k16 => k_is)
      (case a17 => k_is); (case l17 => k_is); (case c17 => k_is); (case k17 => k_is)
      (case a18 => k_is); (case l18 => k_is); (case c18 => k_is); (case k18 => k_is)
      (case a19 => k_is); (case l19 => k_is); (case c19 => k_is); (case k19 => k_is)
      (case a20 => k_is); (case l20 => k_is); (case c20 => k_is); (case k20 => k_is)
      (case a21 => k_is); (case l21 => k_is); (case c21 => k_is); (case k21 => k_is)
      (case a22 => k_is); (case l22 => k_is); (case c22 => k_is); (case k22 => k_is)
