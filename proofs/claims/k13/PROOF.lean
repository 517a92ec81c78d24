import PyProof.Rows.All
import HandS.ForMost
import HandS.IsInst
import HandS.Wide
import HandS.Deep
import HandS.RaiseMore
import HandS.Flow
import HandS.More
import HandS.StrMore
import HandS.Walk
import HandS.Steps
import PyProof.NeKinds
import PySem.Challenge.RW_daychains_k13_offices_and_rules_judged
import OpenK.AllK
set_option Elab.async false
set_option linter.all false
set_option maxRecDepth 100000
set_option maxHeartbeats 2000000
/-! Dv1: promises of defs that run outside of any repr (FnG), data at a value (Da), repr of data. -/
namespace Dv
open PySem PySem.Spec PyProof.Rows L2

/-- a def keeps its promise wherever no repr is under way -/
structure FnG (P : Program) (w : World) (K : PySem.W.Frag) (mg : Str → Option Value) (base : Heap) (C : CXT) (k : Nat) (f : Addr) (fd : FuncData) (ps : List Str) (sp : Sp) : Prop where
  len : ∀ xs h q e, sp xs h q e → xs.length = ps.length
  go : ∀ (B : Around) (fr : List Env) (t : Shared) (h : Hp) (ar : Args) (us : List Value) (xs : List V) (q : VK) (e : XK),
    B.guards = some [] → Room k B → Env0 P w K mg base B fr t h → BindsTo t fd ar (ps.zip us) → Vals xs us → sp xs h q e →
    codeAny (model P w) B (.call (.ref f) ar) (CR C fr P w h t q e) t

section
variable {P : Program} {w : World} {K : PySem.W.Frag} {mg : Str → Option Value} {base : Heap} {C : CXT} {k : Nat} {f : Addr} {fd : FuncData} {ps : List Str} {sp : Sp}
theorem FnG.of (F : FnOk P w K mg base C k f fd ps sp) : FnG P w K mg base C k f fd ps sp :=
  ⟨F.len, fun B fr t h ar us xs q e _ r e0 b v z => F.run B fr t h ar us xs q e r e0 b v z⟩
theorem FnG.mono {j : Nat} (F : FnG P w K mg base C j f fd ps sp) (l : j ≤ k) : FnG P w K mg base C k f fd ps sp :=
  ⟨F.len, fun B fr t h ar us xs q e g r => F.go B fr t h ar us xs q e g (r.mono l)⟩

/-- the rule for such a def, by its body -/
theorem okG {x qual : Str} {st : Stmt} {N : List Str} (F : Fun K x qual st f fd) (S : FnScope N ps (defScope st)) (hlen : ∀ xs h q e, sp xs h q e → xs.length = ps.length)
    (body : ∀ (cd : Value) (B : Around) (fr : List Env) (t : Shared) (h : Hp) (xs : List V) (q : VK) (e : XK), B.guards = some [] →
      Room k (B.deeper (envOfC qual (defScope st) t.heap.objs.size f cd)) → sp xs h q e →
      ∃ r, PSs (cxOf C P w K mg base N qual (defScope st) f cd B fr t h e).nox (defBody st) r ∧ r { nx := fun _ h' => q .non h', rt := q } (start N xs) h) :
    FnG P w K mg base C (k + 1) f fd ps sp := by
  obtain ⟨oc, od, kV, doc, pm, an, cd, ct, osl, rfl, hk, hc⟩ := F.ex
  refine ⟨hlen, fun B fr t h ar us xs q e gd rm e0 hb rv hs => ?_⟩
  have hL := hlen _ _ _ _ hs
  have KX : K.In t.heap := e0.mod.kin.keeps fun b o z => (e0.bs b o z).1
  have lim : t.heap.NoLimit := e0.mod.nolimit.keeps fun b o z => (e0.bs b o z).1
  have kinds : ∀ y ∈ ps.zip us, (defScope st).names.lookup y.1 = some .local ∨ ((defScope st).names.lookup y.1 = some .cell ∧
      ((cellsFrom (t.heap.objs.size + 1) (defScope st).names []).lookup y.1).isSome = true) := by
    rintro ⟨n, v⟩ hy
    rcases S.par n (List.of_mem_zip hy).1 with z | z
    · exact .inl z
    · exact .inr ⟨z, PySem.W.cellsFrom_some _ _ _ (.inl z)⟩
  refine codeAny_call_function rm.depth (KX _ _ hk) rfl S.co S.gen rfl (PySem.W.codeRec_of KX hc) (hb _ _ _ _ ?_)
  refine wpAny_newFunctionEnv_cells S.kind kinds fun env ee t1 xc => ?_
  subst ee
  refine ⟨lim.keeps xc.toInCall.keep, codeAny_func ?_⟩
  obtain ⟨r, hr, hq⟩ := body cd B fr t h xs q e gd (rm.deeper _) hs
  have I0 := inv_start (CX := C) (E := e) S rm.hd e0 hL rv xc
  refine wpAny_mono (hr.nox.run [] t1 (start N xs) h _ I0 hq) (fun fl t2 z => ?_) fun _ _ z => z
  cases fl with
  | ret u =>
    obtain ⟨v, σ', h', J, rr, z⟩ := z
    exact ⟨v, h', J.os, J.bare, J.base, J.hok, rr, z⟩
  | next =>
    obtain ⟨σ', h', J, z⟩ := z
    exact ⟨V.non, h', J.os, J.bare, J.base, J.hok, rfl, z⟩
  | brk =>
    obtain ⟨_, _, _, z⟩ := z
    exact False.elim z
  | cont =>
    obtain ⟨_, _, _, z⟩ := z
    exact False.elim z
end

section
variable {X : Cx} {C : CXT} {k : Nat} {f : Addr} {fd : FuncData} {ps ks : List Str} {sp : Sp} {ds : List Value} {dvs : List V} {E : XK} {x : Str} {p pos : Pos} {e : Expr} {es : List Expr} {t : TA}
theorem run_g {pins : List (Addr × Obj)} {σ : L2.St} {h : Hp} {s : Shared} {q : VK} {us : List Value} {xs : List V} (F : FnG X.prog X.w X.K X.mg X.base C k f fd ps sp) (gd : X.A.guards = some []) (rm : Room k X.A)
    (hb : Binds X.K fd ps ds) (hd : Vals dvs ds) (hx : Passes C X E) (I : Inv X pins σ h s) (rv : Vals xs us) (z : sp (xs ++ dvs) h q E) :
    wpAny (model X.prog X.w) X.A (call (.ref f) us) (EP X pins σ q) X.xe s := by
  have r2 := rv.append hd
  have hL : (us ++ ds).length = ps.length := r2.length.symm.trans (F.len _ _ _ _ z)
  refine wpAny_call (codeAny_mono (F.go X.A X.stack s h ⟨us, []⟩ _ _ q E gd rm I.env0 (hb s us I.kIn hL) r2 z) fun r s' hq => ?_)
  match r, hq with
  | .error e, hq => exact hx pins σ h s e s' I hq
  | .ok (.ret u), hq => exact I.after hq
  | .ok .next, hq => exact False.elim hq
  | .ok .brk, hq => exact False.elim hq
  | .ok .cont, hq => exact False.elim hq
theorem pe_g (F : FnG X.prog X.w X.K X.mg X.base C k f fd ps sp) (gd : X.A.guards = some []) (rm : Room k X.A) (hg : Gl X x) (hm : X.mg x = some (.ref f)) (hk : PySem.W.keepIn X.K (.ref f) = true) (hb : Binds X.K fd ps ds) (hd : Vals dvs ds) (hx : Passes C X E)
    (ha : PA X (e :: es) t) (h1 : (x == ("__debug__" : Str)) = false := by decide) (h2 : starEach (e :: es) X.env = (false, eval e X.env) :: starEach es X.env := by rfl) (h3 : (backTo pos (starEach es X.env)).any (·.1) = false := by rfl) :
    PE X (.Call (.Name x p) (e :: es) [] pos) (tCall sp dvs E t) :=
  ⟨fun pins s σ H Q I h => wpAny_Call_Name_kw (ld_glob I hg hm (PySem.W.callWith_K (h₀ := X.base) I.ok.mod.kin hk
    (thn (ha.run pos pins s σ H _ I h) fun us s1 ⟨_, H1, I1, r, q⟩ => ⟨I1.kIn, run_g F gd rm hb hd hx I1 r q⟩) h2 h3) h1)⟩
end

/-! ### the law's end -/
/-- the law's promise: True, for a script of at most n ints -/
def spLaw (K : PySem.W.Frag) (n : Nat) : Sp := fun xs H Q _ => ∃ (a : Addr) (ns : List Int), xs = [.ref a] ∧ SqL K H a (ns.map V.int) ∧ ns.length ≤ n ∧ (∀ b, H b = none ∨ ∃ o zs, H b = some (.frz o (.lst zs))) ∧ ∀ H', Q (.bl true) H'
theorem law_g {P : Program} {w : World} {K : PySem.W.Frag} {mg mb : Str → Option Value} {k n : Nat} {fa a : Addr} {fd : FuncData} {x : Str} {t : Shared} {vs : List Value} {ns : List Int}
    (KX : K.In t.heap) (g1 : t.heap.Ns mainGlobals mg) (g2 : t.heap.Ns builtinsNs mb) (g3 : ∀ x : Str, x ≠ "__name__" → mb x = bootBuiltins x) (lim : t.heap.NoLimit) (hg : t.gens = #[])
    (ha : t.heap.get? a = some { cls := .type "list", data := .seq vs.toArray }) (hi : IntsAre vs ns) (hn : n ≤ sizeLine) (hl : ns.length ≤ n) (rm : Room k callerA)
    (F : ∀ base : Heap, K.In base → base.Ns mainGlobals mg → FnG P w K mg base CX0 k fa fd [x] (spLaw K n)) (hb : ∀ (s : Shared) (u : Value), BindsTo s fd ⟨[u], []⟩ [(x, u)]) :
    codeAny (model P w) callerA (.call (.ref fa) ⟨[.ref a], []⟩) (fun r s' => r = .ok (.ret (.bool true)) ∧ OldK t.heap s'.heap ∧ s'.os = t.os ∧ AllBare s'.gens) t := by
  have rv := vals_ints hi
  have hz : ns.length ≤ sizeLine := Nat.le_trans hl hn
  have main : ∀ H : Hp, (∀ b, H b = none ∨ ∃ o zs, H b = some (.frz o (.lst zs))) → SqL K H a (ns.map V.int) → HOk P w H t.heap → (∀ b u, H b = some u → b = a ∧ K.lookup a = none) →
      codeAny (model P w) callerA (.call (.ref fa) ⟨[.ref a], []⟩) (fun r s' => r = .ok (.ret (.bool true)) ∧ OldK t.heap s'.heap ∧ s'.os = t.os ∧ AllBare s'.gens) t := by
    intro H hO hS hok hA
    have dictFree : ∀ {b : Addr} {o : Obj} {es : Array DictEntry} {ep : Nat}, t.heap.get? b = some o → o.data = .dict es ep → H b = none := by
      intro b o es ep e dd
      match z : H b with
      | none => rfl
      | some u =>
        have := (hA b u z).1
        subst this
        rw [ha] at e
        cases e
        cases (show Data.seq vs.toArray _ = Data.dict es ep from dd)
    have ns' : ∀ {b : Addr} {m : Str → Option Value}, t.heap.Ns b m → (hidT t.heap H).Ns b m := by
      rintro b m ⟨o, es, ep, e, dd, r⟩
      exact ⟨o, es, ep, hidT_get e (dictFree e dd), dd, r⟩
    have kb : K.In (hidT t.heap H) := by
      intro b o e
      refine hidT_get (KX b o e) ?_
      match z : H b with
      | none => rfl
      | some u =>
        obtain ⟨e1, e2⟩ := hA b u z
        subst e1
        rw [e2] at e
        cases e
    have hm : Mod K mg (hidT t.heap H) := by
      obtain ⟨mc, l1, l2⟩ := lim
      exact ⟨kb, ns' g1, ⟨mb, ns' g2, g3⟩, ⟨mc, ns' l1, l2⟩⟩
    have e0 : Env0 P w K mg (hidT t.heap H) callerA [] t H :=
      ⟨rfl, hm, fun b o e => of_hidT e, Nat.le_of_eq (hidT_size _ _), trivial, (fun b hb => nomatch (show b ∈ ([] : List Addr) from hb)), hok, .of_eq hg⟩
    refine codeAny_mono ((F _ kb (ns' g1)).go callerA [] t H ⟨[.ref a], []⟩ [.ref a] [.ref a] (fun v _ => v = .bl true) (fun _ _ _ => False) rfl rm e0 (hb t (.ref a)) (.cons rfl .nil) ⟨a, ns, rfl, hS, hl, hO, fun _ => rfl⟩) fun r s' h => ?_
    match r, h with
    | .error e, h => exact (show False from h).elim
    | .ok .next, h => exact (show False from h).elim
    | .ok .brk, h => exact (show False from h).elim
    | .ok .cont, h => exact (show False from h).elim
    | .ok (.ret u), h =>
      obtain ⟨v, H', os, bare, un, hok', r', q⟩ := h
      cases (show v = V.bl true from q)
      cases (show u = Value.bool true from r')
      refine ⟨rfl, OldK.of_keep fun b o e => ?_, os, bare⟩
      rcases hO b with z | ⟨obj, zs, z⟩
      · exact un.keep b o e z (fun y => nomatch (show b ∈ ([] : List Addr) from y)) (fun y => nomatch y)
      · have e1 := (hok b _ z).1
        rw [e] at e1
        cases e1
        exact (hok' b _ (un.frzs b _ _ z)).1
  match hk : K.lookup a with
  | some o =>
    have e := KX a o hk
    rw [ha] at e
    cases e
    exact main (fun _ => none) (fun _ => .inl rfl) (.inr ⟨_, vs.toArray, _, hk, rfl, rfl, rfl, by rw [List.size_toArray, hi.length]; exact hz, by simpa using rv⟩) (fun b u z => nomatch (show (none : Option HO) = some u from z)) (fun b u z => nomatch (show (none : Option HO) = some u from z))
  | none =>
    have key : ∀ b u, (if b = a then some (HO.frz { cls := .type "list", data := .seq vs.toArray } (.lst (ns.map V.int))) else none) = some u → b = a ∧ u = HO.frz { cls := .type "list", data := .seq vs.toArray } (.lst (ns.map V.int)) := by
      intro b u z
      by_cases e : b = a
      · rw [if_pos e] at z
        exact ⟨e, (Option.some.inj z).symm⟩
      · rw [if_neg e] at z
        cases z
    refine main (fun b => if b = a then some (.frz { cls := .type "list", data := .seq vs.toArray } (.lst (ns.map V.int))) else none) (fun b => ?_) (.inl (.inr ⟨_, if_pos rfl⟩)) (fun b u z => ?_) (fun b u z => ⟨(key b u z).1, hk⟩)
    · by_cases e : b = a
      · exact .inr ⟨_, _, if_pos e⟩
      · exact .inl (if_neg e)
    · obtain ⟨e1, e2⟩ := key b u z
      subst e1 e2
      exact ⟨ha, by rw [List.length_map]; exact hz, vs, _, rv, ha⟩
theorem end_g {l : PySem.W.OpenLaw} {n k : Nat} {q : Program} {loose : List Str} {XP : (Str → Option Value) → Heap → Prop} {YP : World → Heap → Prop} {d : DefRec} {K : Params → PySem.W.Frag} {x : Str}
    (hn : l.most = some n) (hn2 : n ≤ sizeLine) (hdf : d.params.defaults = []) (rm : Room k callerA) (hY : ∀ (w : World) (h : Heap), YP w h → (K w.params).In h)
    (F : ∀ (w : World) (mg : Str → Option Value) (fa : Addr) (h : Heap), (K w.params).In h → h.Ns mainGlobals mg → mg d.name = some (.ref fa) →
      ∃ fd : FuncData, (∀ (s : Shared) (u : Value), BindsTo s fd ⟨[u], []⟩ [(x, u)]) ∧
        ∀ base : Heap, (K w.params).In base → base.Ns mainGlobals mg → FnG l.prog w (K w.params) mg base CX0 k fa fd [x] (spLaw (K w.params) n)) :
    PySem.W.WalkO q loose XP YP l.row.toRowW d [] (fun f vs => PySem.call f vs) :=
  Att.attach_call hn hdf fun w _ _ mg _ fa _ _ _ _ _ _ _ G Y _ _ _ hmg hobj hints hlen hg => by
    obtain ⟨fd, hb, hF⟩ := F w mg fa _ (hY w _ Y) G.T.g hmg
    exact law_g (hY w _ Y) G.T.g G.T.b G.T.builtins G.T.nolimit hg hobj hints hn2 hlen rm hF hb
end Dv
set_option maxRecDepth 100000
set_option maxHeartbeats 2000000
/-! Dv2: data at a value, away from a zone of objects that may change; repr, ==, isinstance of data. -/
namespace Dv
open PySem PySem.Spec PyProof.Rows L2
mutual
/-- the value v is the data d in the heap H; none of its objects lies in Z -/
inductive Da (Z : Addr → Prop) (H : Hp) : V → PyData → Prop
  | non : Da Z H .non .none
  | bl (b : Bool) : Da Z H (.bl b) (.bool b)
  | int (i : Int) : Da Z H (.int i) (.int i)
  | str (x : Str) : Da Z H (.str x) (.str x)
  | lst {a : Addr} {xs : List V} {ds : List PyData} : H a = some (.lst xs) → ¬ Z a → Das Z H xs ds → Da Z H (.ref a) (.list ds)
  | tup {a : Addr} {xs : List V} {ds : List PyData} : H a = some (.tup xs) → ¬ Z a → Das Z H xs ds → Da Z H (.ref a) (.tuple ds)
  | dct {a : Addr} {kvs : List (Key × V)} {es : List (PyData × PyData)} : H a = some (.dK kvs) → ¬ Z a → Das Z H (kvs.map fun p => kV p.1) (es.map Prod.fst) → Das Z H (kvs.map Prod.snd) (es.map Prod.snd) → Da Z H (.ref a) (.dict es)
inductive Das (Z : Addr → Prop) (H : Hp) : List V → List PyData → Prop
  | nil : Das Z H [] []
  | cons {v : V} {vs : List V} {d : PyData} {ds : List PyData} : Da Z H v d → Das Z H vs ds → Das Z H (v :: vs) (d :: ds)
end
/-- all that is tracked outside of Z is kept -/
def Kp (Z : Addr → Prop) (H H' : Hp) : Prop := ∀ a o, ¬ Z a → H a = some o → H' a = some o
theorem Kp.refl {Z : Addr → Prop} {H : Hp} : Kp Z H H := fun _ _ _ h => h
theorem Kp.trans {Z : Addr → Prop} {H H1 H2 : Hp} (a : Kp Z H H1) (b : Kp Z H1 H2) : Kp Z H H2 := fun x o n h => b x o n (a x o n h)
theorem Kp.rd {Z : Addr → Prop} {H H' : Hp} (k : Kp Z H H') {a : Addr} {u : HO} (n : ¬ Z a) (r : Rd H a u) : Rd H' a u := by
  rcases r with r | ⟨o, r⟩
  · exact .inl (k a _ n r)
  · exact .inr ⟨o, k a _ n r⟩
theorem Kp.new {Z : Addr → Prop} {H : Hp} {p : Addr} {o : HO} (h : H p = none) : Kp Z H (upd H p o) := fun a u _ e => by
  rw [upd_ne (ne_of_none e h)]
  exact e
section
variable {Z Z' : Addr → Prop} {H H' : Hp}
mutual
theorem Da.mono (k : Kp Z H H') (z : ∀ a, Z' a → Z a ∨ H a = none) : ∀ {v : V} {d : PyData}, Da Z H v d → Da Z' H' v d
  | _, _, .non => .non
  | _, _, .bl b => .bl b
  | _, _, .int i => .int i
  | _, _, .str x => .str x
  | _, _, .lst r n ds => .lst (k _ _ n r) (fun c => (z _ c).elim n fun y => nomatch (r.symm.trans y)) (Das.mono k z ds)
  | _, _, .tup r n ds => .tup (k _ _ n r) (fun c => (z _ c).elim n fun y => nomatch (r.symm.trans y)) (Das.mono k z ds)
  | _, _, .dct r n ks vs => .dct (k _ _ n r) (fun c => (z _ c).elim n fun y => nomatch (r.symm.trans y)) (Das.mono k z ks) (Das.mono k z vs)
theorem Das.mono (k : Kp Z H H') (z : ∀ a, Z' a → Z a ∨ H a = none) : ∀ {vs : List V} {ds : List PyData}, Das Z H vs ds → Das Z' H' vs ds
  | _, _, .nil => .nil
  | _, _, .cons d ds => .cons (Da.mono k z d) (Das.mono k z ds)
end
theorem Da.kp (k : Kp Z H H') {v : V} {d : PyData} (h : Da Z H v d) : Da Z H' v d := h.mono k fun _ c => .inl c
theorem Das.kp (k : Kp Z H H') {v : List V} {d : List PyData} (h : Das Z H v d) : Das Z H' v d := h.mono k fun _ c => .inl c
theorem Das.length : ∀ {vs : List V} {ds : List PyData}, Das Z H vs ds → vs.length = ds.length
  | _, _, .nil => rfl
  | _, _, .cons _ t => congrArg Nat.succ t.length
theorem Das.append : ∀ {vs ws : List V} {ds es : List PyData}, Das Z H vs ds → Das Z H ws es → Das Z H (vs ++ ws) (ds ++ es)
  | _, _, _, _, .nil, s => s
  | _, _, _, _, .cons d t, s => .cons d (t.append s)
theorem Das.get : ∀ {vs : List V} {ds : List PyData} {i : Nat} {d : PyData}, Das Z H vs ds → ds[i]? = some d → ∃ v, vs[i]? = some v ∧ Da Z H v d
  | _, _, _, _, .nil, e => by simp at e
  | _, _, 0, _, .cons h _, e => by
    simp at e
    subst e
    exact ⟨_, rfl, h⟩
  | _, _, i + 1, _, .cons _ t, e => by
    obtain ⟨v, h1, h2⟩ := t.get (i := i) (by simpa using e)
    exact ⟨v, by simpa using h1, h2⟩
theorem Das.getV : ∀ {vs : List V} {ds : List PyData} {i : Nat} {v : V}, Das Z H vs ds → vs[i]? = some v → ∃ d, ds[i]? = some d ∧ Da Z H v d
  | _, _, _, _, .nil, e => by simp at e
  | _, _, 0, _, .cons h _, e => by
    simp at e
    subst e
    exact ⟨_, rfl, h⟩
  | _, _, i + 1, _, .cons _ t, e => by
    obtain ⟨v, h1, h2⟩ := t.getV (i := i) (by simpa using e)
    exact ⟨v, by simpa using h1, h2⟩
theorem Das.take : ∀ {vs : List V} {ds : List PyData} (n : Nat), Das Z H vs ds → Das Z H (vs.take n) (ds.take n)
  | _, _, 0, _ => .nil
  | _, _, _ + 1, .nil => .nil
  | _, _, n + 1, .cons d t => .cons d (t.take n)
theorem Das.drop : ∀ {vs : List V} {ds : List PyData} (n : Nat), Das Z H vs ds → Das Z H (vs.drop n) (ds.drop n)
  | _, _, 0, r => r
  | _, _, _ + 1, .nil => .nil
  | _, _, n + 1, .cons _ t => t.drop n
theorem Das.ints : ∀ {vs : List V} {ns : List Int}, Das Z H vs (ns.map PyData.int) → vs = ns.map V.int
  | _, [], h => by cases h; rfl
  | _, n :: ns, h => by
    cases h with
    | cons a b =>
      cases a
      rw [Das.ints b]
      rfl
theorem Das.strs : ∀ {vs : List V} {ns : List Str}, Das Z H vs (ns.map PyData.str) → vs = ns.map V.str
  | _, [], h => by cases h; rfl
  | _, n :: ns, h => by
    cases h with
    | cons a b =>
      cases a
      rw [Das.strs b]
      rfl
theorem Das.bls : ∀ {vs : List V} {ns : List Bool}, Das Z H vs (ns.map PyData.bool) → vs = ns.map V.bl
  | _, [], h => by cases h; rfl
  | _, n :: ns, h => by
    cases h with
    | cons a b =>
      cases a
      rw [Das.bls b]
      rfl
end

/-! ### what a reader finds -/
section
variable {X : Cx} {pins : List (Addr × Obj)} {σ : L2.St} {H : Hp} {s : Shared} {Z : Addr → Prop}
theorem dk_keys : ∀ {es : List DictEntry} {kvs : List (Key × V)} {vs : List (Key × Value)}, Pairs (mixKind X.prog X.w) es vs → KV kvs vs →
    Vals (kvs.map fun p => kV p.1) (es.map (·.key)) ∧ Vals (kvs.map Prod.snd) (es.map (·.val))
  | _, _, _, .nil, .nil => ⟨.nil, .nil⟩
  | _, _, _, .cons h1 h2 t, .cons r u => by
    obtain ⟨q1, q2⟩ := dk_keys t u
    obtain ⟨r1, r2⟩ := r
    refine ⟨.cons ?_ q1, .cons ?_ q2⟩
    · dsimp only
      rw [r1]
      rcases keyIs_shape h1 with ⟨i, t, e1, e2⟩ | ⟨x, t, e1, e2⟩
      · rw [e1, e2]
        exact ⟨t, rfl⟩
      · rw [e1, e2]
        exact ⟨t, rfl⟩
    · dsimp only
      rw [h2]
      exact r2
mutual
theorem Da.reads (I : Inv X pins σ H s) : ∀ {v : V} {d : PyData} {u : Value}, Da Z H v d → RelV v u → ∃ as, Reads s.heap u d as
  | _, _, _, .non, r => by
    cases r
    exact ⟨_, .none⟩
  | _, _, _, .bl b, r => by
    cases r
    exact ⟨_, .bool b⟩
  | _, _, _, .int i, r => by
    obtain ⟨t, rfl⟩ := r
    exact ⟨_, .int i t⟩
  | _, _, _, .str x, r => by
    obtain ⟨t, rfl⟩ := r
    exact ⟨_, .str x t⟩
  | _, _, _, .lst h _ ds, r => by
    cases r
    obtain ⟨its, rv, ⟨o, n, ho, hc, _, hd⟩, _⟩ := I.list (.inl (.inl h))
    obtain ⟨as, q⟩ := Das.reads I ds rv
    exact ⟨_, .list ho hc hd q⟩
  | _, _, _, .tup h _ ds, r => by
    cases r
    obtain ⟨its, rv, ⟨o, ho, hc, n, hd⟩, _⟩ := I.tuple (.inl (.inl h))
    obtain ⟨as, q⟩ := Das.reads I ds rv
    exact ⟨_, .tuple ho hc hd q⟩
  | _, _, _, .dct h _ ks vs, r => by
    cases r
    obtain ⟨_, _, ws, rv, o, es, ep, ho, hx, hd, _, hp, _⟩ := I.hok _ _ h
    obtain ⟨q1, q2⟩ := dk_keys hp rv
    obtain ⟨as, z1⟩ := Das.reads I ks q1
    obtain ⟨bs, z2⟩ := Das.reads I vs q2
    exact ⟨_, .dict ho hx.1 hd z1 z2⟩
theorem Das.reads (I : Inv X pins σ H s) : ∀ {vs : List V} {ds : List PyData} {us : List Value}, Das Z H vs ds → Vals vs us → ∃ as, ReadsAll s.heap us ds as
  | _, _, _, .nil, r => by
    cases r
    exact ⟨_, .nil⟩
  | _, _, _, .cons d ds, r => by
    cases r with
    | cons r1 r2 =>
      obtain ⟨as, q1⟩ := Da.reads I d r1
      obtain ⟨bs, q2⟩ := Das.reads I ds r2
      exact ⟨_, .cons q1 q2⟩
end
theorem Da.dp {K : PySem.W.Frag} : ∀ {d : PyData} {v : V}, d.hasDict = false → Da Z H v d → Dp K H v d := by
  intro d v
  refine fun hd h => (Da.rec (Z := Z) (H := H) (motive_1 := fun v d _ => d.hasDict = false → Dp K H v d) (motive_2 := fun vs ds _ => PyData.hasDictAll ds = false → DpAll K H vs ds)
    (fun _ => .non) (fun b _ => .bl b) (fun i _ => .int i) (fun x _ => .str x) (fun r _ _ ih hd => .lst (.inl (.inl r)) (ih (by simpa [PyData.hasDict] using hd))) (fun r _ _ ih hd => .tup (.inl (.inl r)) (ih (by simpa [PyData.hasDict] using hd)))
    (fun _ _ _ _ _ _ hd => by simp [PyData.hasDict] at hd) (fun _ => .nil) (fun _ _ i1 i2 hd => ?_) h) hd
  simp only [PyData.hasDictAll, Bool.or_eq_false_iff] at hd
  exact .cons (i1 hd.1) (i2 hd.2)

/-! ### repr -/
mutual
theorem Da.shows (I : Inv X pins σ H s) : ∀ {v : V} {d : PyData} {u : Value}, Da Z H v d → RelV v u → d.showable = true → d.shown.length ≤ sizeLine →
    ∃ bs, ReadAtMost s.heap d.depth bs ∧ ReprK X.prog X.w bs s.heap d.depth u d.shown
  | _, _, _, .non, r, _, _ => by
    cases r
    refine ⟨[], (fun _ h => nomatch h), ?_⟩
    simp only [PyData.shown]
    exact .of_is ReprIs.none _ _ _
  | _, _, _, .bl b, r, _, _ => by
    cases r
    refine ⟨[], (fun _ h => nomatch h), ?_⟩
    simp only [PyData.shown]
    exact .of_is (ReprIs.bool b) _ _ _
  | _, _, _, .int i, r, hs, _ => by
    obtain ⟨t, rfl⟩ := r
    refine ⟨[], (fun _ h => nomatch h), ?_⟩
    simp only [PyData.shown]
    exact .of_is (ReprIs.int t (by simpa [PyData.showable] using hs)) _ _ _
  | _, _, _, .str x, r, _, hz => by
    obtain ⟨t, rfl⟩ := r
    refine ⟨[], (fun _ h => nomatch h), ?_⟩
    simp only [PyData.shown] at hz ⊢
    exact .of_is (ReprIs.str x t hz) _ _ _
  | _, _, _, .lst (ds := xs) h n ds, r, hs, hz => by
    have rd := Da.reads I (.lst h n ds) r
    cases r
    obtain ⟨as, rd⟩ := rd
    obtain ⟨its, rv, ⟨o, m, ho, hc, _, hd⟩, _⟩ := I.list (.inl (.inl h))
    have hz' : (listText (PyData.shownAll xs)).length ≤ sizeLine := by simpa only [PyData.shown] using hz
    obtain ⟨bs, hb, hk⟩ := Das.shows I ds rv (by simpa [PyData.showable] using hs) (fun t ht => Nat.le_trans (listText_mem_le ht) hz')
    have hna := not_mem_of_deeper (n := PyData.depthAll xs) rd (by simp only [PyData.depth]; omega) hb
    refine ⟨_, ReadAtMost.cons rd (by simp only [PyData.depth]; omega) hb, ?_⟩
    simp only [PyData.depth, PyData.shown]
    cases its with
    | nil =>
      cases rv
      cases ds
      simp only [PyData.shownAll, listText_nil]
      exact ReprK.listEmpty ho hc hd
    | cons y l => exact ReprK.list ho hc hd hna (by simpa using hk.length_eq) (fun i z e => hk.item i z (by simpa using e))
  | _, _, _, .tup (ds := xs) h n ds, r, hs, hz => by
    have rd := Da.reads I (.tup h n ds) r
    cases r
    obtain ⟨as, rd⟩ := rd
    obtain ⟨its, rv, ⟨o, ho, hc, m, hd⟩, _⟩ := I.tuple (.inl (.inl h))
    have hz' : (tupleText (PyData.shownAll xs)).length ≤ sizeLine := by simpa only [PyData.shown] using hz
    obtain ⟨bs, hb, hk⟩ := Das.shows I ds rv (by simpa [PyData.showable] using hs) (fun t ht => Nat.le_trans (tupleText_mem_le ht) hz')
    have hna := not_mem_of_deeper (n := PyData.depthAll xs) rd (by simp only [PyData.depth]; omega) hb
    refine ⟨_, ReadAtMost.cons rd (by simp only [PyData.depth]; omega) hb, ?_⟩
    simp only [PyData.depth, PyData.shown]
    exact ReprK.tuple ho hc hd hna (by simpa using hk)
  | _, _, _, .dct (es := kvs) h n ks vs, r, hs, hz => by
    have rd := Da.reads I (.dct h n ks vs) r
    cases r
    obtain ⟨as, rd⟩ := rd
    obtain ⟨_, hsys, ws, rv, o, es, ep, ho, hx, hd, _, hp, _⟩ := I.hok _ _ h
    obtain ⟨q1, q2⟩ := dk_keys hp rv
    have hz' : (dictText (PyData.shownKv kvs)).length ≤ sizeLine := by simpa only [PyData.shown] using hz
    obtain ⟨hs1, hs2⟩ := PyData.showableKv_split kvs (by simpa [PyData.showable] using hs)
    obtain ⟨b1, hb1, k1⟩ := Das.shows I ks q1 hs1 (fun t ht => by
      obtain ⟨p, hp, hl⟩ := PyData.shownKv_key_le kvs t ht
      exact Nat.le_trans hl (Nat.le_trans (dictText_mem_le hp) hz'))
    obtain ⟨b2, hb2, k2⟩ := Das.shows I vs q2 hs2 (fun t ht => by
      obtain ⟨p, hp, hl⟩ := PyData.shownKv_val_le kvs t ht
      exact Nat.le_trans hl (Nat.le_trans (dictText_mem_le hp) hz'))
    have hb : ReadAtMost s.heap (PyData.depthKv kvs) (b1 ++ b2) := (hb1.mono (PyData.depthAll_keys_le kvs)).append (hb2.mono (PyData.depthAll_vals_le kvs))
    have hna := not_mem_of_deeper (n := PyData.depthKv kvs) rd (by simp only [PyData.depth]; omega) hb
    refine ⟨_, ReadAtMost.cons rd (by simp only [PyData.depth]; omega) hb, ?_⟩
    simp only [PyData.depth, PyData.shown, PyData.shownKv_eq]
    exact ReprK.dict ho hx.1 hd hsys hna (ReprEntriesK.of_two es.toList _ _ (k1.more_le (fun b m => List.mem_append_left _ m) (PyData.depthAll_keys_le kvs)) (k2.more_le (fun b m => List.mem_append_right _ m) (PyData.depthAll_vals_le kvs)))
theorem Das.shows (I : Inv X pins σ H s) : ∀ {vs : List V} {ds : List PyData} {us : List Value}, Das Z H vs ds → Vals vs us → PyData.showableAll ds = true → (∀ t ∈ PyData.shownAll ds, t.length ≤ sizeLine) →
    ∃ bs, ReadAtMost s.heap (PyData.depthAll ds) bs ∧ ReprAllK X.prog X.w bs s.heap (PyData.depthAll ds) us (PyData.shownAll ds)
  | _, _, _, .nil, r, _, _ => by
    cases r
    refine ⟨[], (fun _ h => nomatch h), ?_⟩
    simp only [PyData.shownAll]
    exact .nil
  | _, _, _, .cons (d := d) (ds := es) h hs', r, hs, hz => by
    cases r with
    | cons r1 r2 =>
      have sp : d.showable = true ∧ PyData.showableAll es = true := by simpa [PyData.showableAll] using hs
      obtain ⟨b1, hb1, k1⟩ := Da.shows I h r1 sp.1 (hz _ (by simp only [PyData.shownAll]; exact List.mem_cons_self))
      obtain ⟨b2, hb2, k2⟩ := Das.shows I hs' r2 sp.2 (fun t ht => hz t (by simp only [PyData.shownAll]; exact List.mem_cons_of_mem _ ht))
      refine ⟨b1 ++ b2, fun b m => ?_, ?_⟩
      · simp only [PyData.depthAll]
        rcases List.mem_append.mp m with m | m
        · obtain ⟨e, as, q, l⟩ := hb1 b m
          exact ⟨e, as, q, Nat.le_trans l (Nat.le_max_left _ _)⟩
        · obtain ⟨e, as, q, l⟩ := hb2 b m
          exact ⟨e, as, q, Nat.le_trans l (Nat.le_max_right _ _)⟩
      · simp only [PyData.depthAll, PyData.shownAll]
        exact .cons ((k1.more fun b m => List.mem_append_left _ m).level_le (Nat.le_max_left _ _)) (k2.more_le (fun b m => List.mem_append_right _ m) (Nat.le_max_right _ _))
end

/-- repr(x) of data -/
def rRepr : List V → Hp → VK → Prop := fun xs H Q => ∃ (Z : Addr → Prop) (v : V) (d : PyData), xs = [v] ∧ Da Z H v d ∧ d.showable = true ∧ d.shown.length ≤ sizeLine ∧ d.depth ≤ 60 ∧ Q (.str d.shown) H
theorem call_repr (gd : X.A.guards = some []) (hu : X.A.units + 64 < cLine) : CallR X (.builtin "repr") rRepr := by
  intro pins s σ H xs us Q I r h
  obtain ⟨Z, v, d, rfl, hd, hs, hz, hdp, q⟩ := h
  obtain ⟨u, rfl, ru⟩ : ∃ u, us = [u] ∧ RelV v u := by
    cases r with
    | cons a b =>
      cases b
      exact ⟨_, rfl, a⟩
  have fin : ∀ (h' : Heap) (t : Tok) (tk : Nat), (∀ b o, s.heap.get? b = some o → h'.get? b = some o) → EP X pins σ Q (.str d.shown t) { s with heap := h', toks := tk } :=
    fun h' t tk k => ⟨.str d.shown, H, I.kept k, ⟨t, rfl⟩, q⟩
  have same : ∀ (t : Tok) (tk : Nat), EP X pins σ Q (.str d.shown t) { s with toks := tk } := fun t tk => fin s.heap t tk fun _ _ e => e
  have g2 : X.A.in1.guards = some [] := gd
  cases hd with
  | non =>
    cases ru
    simp only [PyData.shown] at same
    exact PySem.P.repr_of_none (same _ _)
  | bl b =>
    cases ru
    simp only [PyData.shown] at same
    exact PySem.P.repr_of_bool (same _ _)
  | int i =>
    obtain ⟨t, rfl⟩ := ru
    simp only [PyData.shown] at same
    exact PySem.P.repr_of_int (by simpa [PyData.showable] using hs) (same _ _)
  | str x =>
    obtain ⟨t, rfl⟩ := ru
    simp only [PyData.shown] at same hz
    exact PySem.P.repr_of_str (same _ _) hz
  | lst h n ds =>
    rename_i a ys es
    have rd := Da.reads I (.lst h n ds) ru
    cases ru
    obtain ⟨as, rd⟩ := rd
    obtain ⟨its, rv, ⟨o, m, ho, hc, _, hdt⟩, _⟩ := I.list (.inl (.inl h))
    have hz' : (listText (PyData.shownAll es)).length ≤ sizeLine := by simpa only [PyData.shown] using hz
    obtain ⟨bs, hb, hk⟩ := Das.shows I ds rv (by simpa [PyData.showable] using hs) (fun t ht => Nat.le_trans (listText_mem_le ht) hz')
    have hna := not_mem_of_deeper (n := PyData.depthAll es) rd (by simp only [PyData.depth]; omega) hb
    simp only [PyData.shown] at fin
    simp only [PyData.depth] at hdp
    refine call_repr_slot (by omega) ⟨o, ho, hc⟩ PySem.F.slot_list_repr.toG ?_
    cases its with
    | nil =>
      cases rv
      cases ds
      simp only [PyData.shownAll, listText_nil] at fin
      exact call_list_repr_empty ⟨o, ho, hc⟩ ho hdt ⟨_, _, rfl, fin s.heap _ _ fun _ _ e => e⟩
    | cons y l =>
      exact call_list_reprK ho hc hdt hna (by simpa using hk.length_eq) (fun i z e => hk.item i z (by simpa using e)) g2 (fun b _ => Clear.nil b) (by show X.A.units + 1 + (PyData.depthAll es + 1) < cLine; omega) (fun _ _ e => e) (fun h' u tk k => ⟨_, _, rfl, fin h' u tk k⟩) hz'
  | tup h n ds =>
    rename_i a ys es
    have rd := Da.reads I (.tup h n ds) ru
    cases ru
    obtain ⟨as, rd⟩ := rd
    obtain ⟨its, rv, ⟨o, ho, hc, m, hdt⟩, _⟩ := I.tuple (.inl (.inl h))
    have hz' : (tupleText (PyData.shownAll es)).length ≤ sizeLine := by simpa only [PyData.shown] using hz
    obtain ⟨bs, hb, hk⟩ := Das.shows I ds rv (by simpa [PyData.showable] using hs) (fun t ht => Nat.le_trans (tupleText_mem_le ht) hz')
    have hna := not_mem_of_deeper (n := PyData.depthAll es) rd (by simp only [PyData.depth]; omega) hb
    simp only [PyData.shown] at fin
    simp only [PyData.depth] at hdp
    refine call_repr_slot (by omega) ⟨o, ho, hc⟩ PySem.F.slot_tuple_repr ?_
    exact call_tuple_reprK ho hc hdt hna (by simpa using hk) g2 (fun b _ => Clear.nil b) (by show X.A.units + 1 + (PyData.depthAll es + 1) < cLine; omega) (fun _ _ e => e) (fun h' u tk k => ⟨_, _, rfl, fin h' u tk k⟩) hz'
  | dct h n ks vs =>
    rename_i a ys kvs
    have rd := Da.reads I (.dct h n ks vs) ru
    cases ru
    obtain ⟨as, rd⟩ := rd
    obtain ⟨_, hsys, ws, rv, o, es, ep, ho, hx, hdt, _, hp, _⟩ := I.hok _ _ h
    obtain ⟨q1, q2⟩ := dk_keys hp rv
    have hz' : (dictText (PyData.shownKv kvs)).length ≤ sizeLine := by simpa only [PyData.shown] using hz
    obtain ⟨hs1, hs2⟩ := PyData.showableKv_split kvs (by simpa [PyData.showable] using hs)
    obtain ⟨b1, hb1, k1⟩ := Das.shows I ks q1 hs1 (fun t ht => by
      obtain ⟨p, hp, hl⟩ := PyData.shownKv_key_le kvs t ht
      exact Nat.le_trans hl (Nat.le_trans (dictText_mem_le hp) hz'))
    obtain ⟨b2, hb2, k2⟩ := Das.shows I vs q2 hs2 (fun t ht => by
      obtain ⟨p, hp, hl⟩ := PyData.shownKv_val_le kvs t ht
      exact Nat.le_trans hl (Nat.le_trans (dictText_mem_le hp) hz'))
    have hb : ReadAtMost s.heap (PyData.depthKv kvs) (b1 ++ b2) := (hb1.mono (PyData.depthAll_keys_le kvs)).append (hb2.mono (PyData.depthAll_vals_le kvs))
    have hna := not_mem_of_deeper (n := PyData.depthKv kvs) rd (by simp only [PyData.depth]; omega) hb
    simp only [PyData.shown, PyData.shownKv_eq] at fin
    simp only [PyData.depth] at hdp
    refine call_repr_slot (by omega) ⟨o, ho, hx.1⟩ PySem.F.slot_dict_repr ?_
    exact call_dict_reprK ho hx.1 hdt hsys hna (ReprEntriesK.of_two es.toList _ _ (k1.more_le (fun b m => List.mem_append_left _ m) (PyData.depthAll_keys_le kvs)) (k2.more_le (fun b m => List.mem_append_right _ m) (PyData.depthAll_vals_le kvs)))
      g2 (fun b _ => Clear.nil b) (by show X.A.units + 1 + (PyData.depthKv kvs + 1) < cLine; omega) (fun _ _ e => e) (fun h' u tk k => ⟨_, _, rfl, fin h' u tk k⟩) (by rw [← PyData.shownKv_eq]; exact hz')
end
end Dv
set_option maxRecDepth 100000
set_option maxHeartbeats 2000000
/-! Dv3: a logic of data: what an expression is worth (DE), a test (DT), arguments (DA), what statements lead to (HS), over slots that hold data. -/
namespace Dv
open PySem PySem.Spec PyProof.Rows L2

/-! ### worlds -/
/-- J lives on Z alone, and grows with its number -/
structure Wok (Z : Addr → Prop) (J : Nat → Hp → Prop) : Prop where
  alive : ∀ n H a, J n H → Z a → H a ≠ none
  loc : ∀ n H H', J n H → (∀ a, Z a → H' a = H a) → J n H'
  up : ∀ n m H, J n H → n ≤ m → J m H
/-- the caller's zone and what holds of it (by the number of draws); one's own objects that may change, each with what holds of it; the heap at the entry -/
structure Wd where
  Zb : Addr → Prop
  Jb : Nat → Hp → Prop
  H0 : Hp
  pins : List (Addr × (Nat → HO → Prop))
def Wd.Z (W : Wd) (a : Addr) : Prop := W.Zb a ∨ ∃ q ∈ W.pins, q.1 = a
def Wd.J (W : Wd) (n : Nat) (H : Hp) : Prop := W.Jb n H ∧ ∀ q ∈ W.pins, ∃ o, H q.1 = some o ∧ ∃ m, m ≤ n ∧ q.2 m o
theorem wok {W : Wd} (w : Wok W.Zb W.Jb) : Wok W.Z W.J := by
  refine ⟨fun n H a j z => ?_, fun n H H' j e => ⟨w.loc n H H' j.1 fun a z => e a (.inl z), fun q m => ?_⟩, fun n m H j l => ⟨w.up n m H j.1 l, fun q hq => ?_⟩⟩
  · rcases z with z | ⟨q, m, rfl⟩
    · exact w.alive n H a j.1 z
    · obtain ⟨o, h, _⟩ := j.2 q m
      rw [h]
      intro c
      cases c
  · obtain ⟨o, h, p⟩ := j.2 q m
    exact ⟨o, (e _ (.inr ⟨q, m, rfl⟩)).trans h, p⟩
  · obtain ⟨o, h, k, l', p⟩ := j.2 q hq
    exact ⟨o, h, k, Nat.le_trans l' l, p⟩
/-- all that is tracked is kept -/
def Ext (H H' : Hp) : Prop := ∀ a o, H a = some o → H' a = some o
theorem Ext.refl {H : Hp} : Ext H H := fun _ _ h => h
theorem Ext.trans {H H1 H2 : Hp} (a : Ext H H1) (b : Ext H1 H2) : Ext H H2 := fun x o h => b x o (a x o h)
theorem Ext.kp {Z : Addr → Prop} {H H' : Hp} (e : Ext H H') : Kp Z H H' := fun a o _ h => e a o h
theorem Ext.new {H : Hp} {p : Addr} {o : HO} (h : H p = none) : Ext H (upd H p o) := fun a u e => by
  rw [upd_ne (ne_of_none e h)]
  exact e
theorem Wok.ext {Z : Addr → Prop} {J : Nat → Hp → Prop} {n : Nat} {H H' : Hp} (w : Wok Z J) (j : J n H) (e : Ext H H') : J n H' :=
  w.loc n H H' j fun a z => by
    match q : H a with
    | none => exact absurd q (w.alive n H a j z)
    | some o => exact e a o q
theorem Wok.new {Z : Addr → Prop} {J : Nat → Hp → Prop} {n : Nat} {H : Hp} {p : Addr} (w : Wok Z J) (j : J n H) (h : H p = none) : ¬ Z p := fun z => w.alive n H p j z h
theorem Wok.none : Wok (fun _ => False) (fun _ _ => True) := ⟨fun _ _ _ _ h => h.elim, fun _ _ _ _ _ => trivial, fun _ _ _ _ _ => trivial⟩

/-- an assertion of a value that lasts while all outside of Z is kept -/
structure As (Z : Addr → Prop) where
  ok : Hp → V → Prop
  mono : ∀ {H H' : Hp} {v : V}, Kp Z H H' → ok H v → ok H' v
/-- data with P -/
def dat (Z : Addr → Prop) (P : PyData → Prop) : As Z := ⟨fun H v => ∃ d, Da Z H v d ∧ P d, fun k ⟨d, h, p⟩ => ⟨d, h.kp k, p⟩⟩
abbrev eqd (Z : Addr → Prop) (d : PyData) : As Z := dat Z (· = d)
/-- the very value -/
def raw (Z : Addr → Prop) (v : V) : As Z := ⟨fun _ u => u = v, fun _ h => h⟩
theorem eqd_ok {Z : Addr → Prop} {H : Hp} {v : V} {d : PyData} (h : (eqd Z d).ok H v) : Da Z H v d := by
  obtain ⟨_, h, rfl⟩ := h
  exact h
theorem ok_eqd {Z : Addr → Prop} {H : Hp} {v : V} {d : PyData} (h : Da Z H v d) : (eqd Z d).ok H v := ⟨d, h, rfl⟩
def Allo {Z : Addr → Prop} (H : Hp) (L : List (As Z)) (vs : List V) : Prop := Paired (fun A v => A.ok H v) L vs

/-! ### slots -/
/-- what may be said of a value and stays, as long as nothing outside of the zone changes -/
structure Fam where
  ok : (Addr → Prop) → Hp → V → Prop
  mono : ∀ {Z Z' : Addr → Prop} {H H' : Hp} {v : V}, Kp Z H H' → (∀ a, Z' a → Z a ∨ H a = none) → ok Z H v → ok Z' H' v
inductive Sl where
  | no | val (d : PyData) | is (v : V) | own (p : Addr) (vs : List V) (ds : List PyData) | sat (F : Fam)
/-- nothing is known; data; a known value; a list of one's own at p, pinned in the world with the items vs, that are the data ds -/
def SlOk (Z : Addr → Prop) (H : Hp) : Sl → Option V → Prop
  | .no, _ => True
  | .val d, o => ∃ v, o = some v ∧ Da Z H v d
  | .is v, o => o = some v
  | .own p vs ds, o => o = some (.ref p) ∧ Das Z H vs ds
  | .sat F, o => ∃ v, o = some v ∧ F.ok Z H v
theorem SlOk.mono {Z Z' : Addr → Prop} {H H' : Hp} (k : Kp Z H H') (z : ∀ a, Z' a → Z a ∨ H a = none) : ∀ {s : Sl} {o : Option V}, SlOk Z H s o → SlOk Z' H' s o
  | .no, _, _ => trivial
  | .val _, _, ⟨v, e, h⟩ => ⟨v, e, h.mono k z⟩
  | .is _, _, h => h
  | .own _ _ _, _, ⟨e, h⟩ => ⟨e, h.mono k z⟩
  | .sat F, _, ⟨v, e, h⟩ => ⟨v, e, F.mono k z h⟩
/-- the state: slots Δ in the world W, at most n draws taken -/
structure Ok (W : Wd) (n : Nat) (Δ : List Sl) (σ : L2.St) (H : Hp) : Prop where
  wb : Wok W.Zb W.Jb
  j : W.J n H
  sl : Paired (SlOk W.Z H) Δ σ
  kept : Kp W.Zb W.H0 H
  nd : (W.pins.map (·.1)).Nodup
  fr : ∀ q ∈ W.pins, ¬ W.Zb q.1 ∧ W.H0 q.1 = none
theorem Ok.w {W : Wd} {n : Nat} {Δ : List Sl} {σ : L2.St} {H : Hp} (k : Ok W n Δ σ H) : Wok W.Z W.J := wok k.wb
theorem Ok.up {W : Wd} {n m : Nat} {Δ : List Sl} {σ : L2.St} {H : Hp} (k : Ok W n Δ σ H) (l : n ≤ m) : Ok W m Δ σ H := ⟨k.wb, k.w.up n m H k.j l, k.sl, k.kept, k.nd, k.fr⟩
/-- more draws than any law takes -/
def BIG : Nat := 1000000000
theorem pmono {α β : Type} {F G : α → β → Prop} (f : ∀ a b, F a b → G a b) : ∀ {l : List α} {m : List β}, Paired F l m → Paired G l m
  | _, _, .nil => .nil
  | _, _, .cons r t => .cons (f _ _ r) (pmono f t)
theorem pset {α β : Type} {F : α → β → Prop} {x : α} {y : β} (r : F x y) : ∀ {l : List α} {m : List β} (i : Nat), Paired F l m → Paired F (l.set i x) (m.set i y)
  | _, _, _, .nil => .nil
  | _, _, 0, .cons _ t => .cons r t
  | _, _, i + 1, .cons q t => .cons q (pset r i t)
theorem pget {α β : Type} {F : α → β → Prop} : ∀ {l : List α} {m : List β} {i : Nat} {x : α}, Paired F l m → l[i]? = some x → ∃ y, m[i]? = some y ∧ F x y
  | _, _, _, _, .nil, e => by simp at e
  | _, _, 0, _, .cons r _, e => by
    simp at e
    subst e
    exact ⟨_, rfl, r⟩
  | _, _, i + 1, _, .cons _ t, e => by
    obtain ⟨y, h1, h2⟩ := pget (i := i) t (by simpa using e)
    exact ⟨y, by simpa using h1, h2⟩
section
variable {W : Wd} {n : Nat} {Δ : List Sl} {σ : L2.St} {H H' : Hp}
theorem kp0 (k : Ok W n Δ σ H) (e : Kp W.Z H H') : Kp W.Zb W.H0 H' := fun a o n h => by
  refine e a o (fun z => ?_) (k.kept a o n h)
  rcases z with z | ⟨q, m, rfl⟩
  · exact n z
  · rw [(k.fr q m).2] at h
    cases h
theorem Ok.kp {m : Nat} (k : Ok W n Δ σ H) (e : Kp W.Z H H') (j : W.J m H') : Ok W m Δ σ H' :=
  ⟨k.wb, j, pmono (fun _ _ => SlOk.mono e fun _ c => .inl c) k.sl, kp0 k e, k.nd, k.fr⟩
theorem Ok.ext (k : Ok W n Δ σ H) (e : Ext H H') : Ok W n Δ σ H' := k.kp e.kp (k.w.ext k.j e)
theorem Ok.put (k : Ok W n Δ σ H) (i : Nat) {s : Sl} {v : V} (h : SlOk W.Z H s (some v)) : Ok W n (Δ.set i s) (σ.set i (some v)) H :=
  ⟨k.wb, k.j, pset h i k.sl, k.kept, k.nd, k.fr⟩
theorem Ok.val {i : Nat} {d : PyData} (k : Ok W n Δ σ H) (h : Δ[i]? = some (.val d)) : ∃ v, σ[i]? = some (some v) ∧ Da W.Z H v d := by
  obtain ⟨o, h1, v, rfl, h2⟩ := pget k.sl h
  exact ⟨v, h1, h2⟩
theorem Ok.is {i : Nat} {v : V} (k : Ok W n Δ σ H) (h : Δ[i]? = some (.is v)) : σ[i]? = some (some v) := by
  obtain ⟨o, h1, h2⟩ := pget k.sl h
  rw [h1]
  exact congrArg some h2
theorem Ok.own {i : Nat} {p : Addr} {vs : List V} {ds : List PyData} (k : Ok W n Δ σ H) (h : Δ[i]? = some (.own p vs ds)) : σ[i]? = some (some (.ref p)) ∧ Das W.Z H vs ds := by
  obtain ⟨o, h1, h2, h3⟩ := pget k.sl h
  rw [h1]
  exact ⟨congrArg some h2, h3⟩
/-- forgetting -/
inductive Less : List Sl → List Sl → Prop
  | nil : Less [] []
  | same {s : Sl} {l m : List Sl} : Less l m → Less (s :: l) (s :: m)
  | no {s : Sl} {l m : List Sl} : Less l m → Less (.no :: l) (s :: m)
theorem Less.sl {Z : Addr → Prop} : ∀ {l m : List Sl} {σ : L2.St}, Less l m → Paired (SlOk Z H) m σ → Paired (SlOk Z H) l σ
  | _, _, _, .nil, .nil => .nil
  | _, _, _, .same t, .cons r u => .cons r (t.sl u)
  | _, _, _, .no t, .cons _ u => .cons trivial (t.sl u)
theorem Ok.less {Γ : List Sl} (k : Ok W n Δ σ H) (l : Less Γ Δ) : Ok W n Γ σ H := ⟨k.wb, k.j, l.sl k.sl, k.kept, k.nd, k.fr⟩
end

/-! ### expressions: with at most c draws -/
def tD (W : Wd) (Δ : List Sl) (c : Nat) (A : As W.Z) : TE := fun σ H Q => ∃ n, n + c ≤ BIG ∧ Ok W n Δ σ H ∧ ∀ v H', Ok W (n + c) Δ σ H' → Kp W.Z H H' → A.ok H' v → Q v H'
def tDT (W : Wd) (Δ : List Sl) (c : Nat) (P : Bool → Prop) : TT := fun σ H Q => ∃ n, n + c ≤ BIG ∧ Ok W n Δ σ H ∧ ∀ b H', Ok W (n + c) Δ σ H' → Kp W.Z H H' → P b → Q b H'
def tDA (W : Wd) (Δ : List Sl) (c : Nat) (L : List (As W.Z)) : TA := fun σ H Q => ∃ n, n + c ≤ BIG ∧ Ok W n Δ σ H ∧ ∀ vs H', Ok W (n + c) Δ σ H' → Kp W.Z H H' → Allo H' L vs → Q vs H'
abbrev DE (X : Cx) (W : Wd) (Δ : List Sl) (c : Nat) (e : Expr) (A : As W.Z) : Prop := PE X e (tD W Δ c A)
abbrev DT (X : Cx) (W : Wd) (Δ : List Sl) (c : Nat) (e : Expr) (P : Bool → Prop) : Prop := PT X e (tDT W Δ c P)
abbrev DW (X : Cx) (W : Wd) (Δ : List Sl) (c : Nat) (e : Expr) (P : Bool → Prop) : Prop := PW X e (tDT W Δ c P)
abbrev DA (X : Cx) (W : Wd) (Δ : List Sl) (c : Nat) (es : List Expr) (L : List (As W.Z)) : Prop := PA X es (tDA W Δ c L)
theorem Ok.as {W : Wd} {n a b : Nat} {Δ : List Sl} {σ : L2.St} {H : Hp} (k : Ok W (n + a + b) Δ σ H) : Ok W (n + (a + b)) Δ σ H := by
  rw [← Nat.add_assoc]
  exact k
theorem big1 {n a b : Nat} (l : n + (a + b) ≤ BIG) : n + a ≤ BIG := by omega
theorem big2 {n a b : Nat} (l : n + (a + b) ≤ BIG) : n + a + b ≤ BIG := by omega
section
variable {X : Cx} {W : Wd} {Δ : List Sl} {m m1 m2 m3 : Nat} {e a b c : Expr} {es rest : List Expr} {A A1 A2 A3 : As W.Z} {L : List (As W.Z)} {P P1 P2 : Bool → Prop} {t ta tb : TE} {pos : Pos}
theorem pe_to {u : TE} (p : PE X e t) (h : ∀ σ H Q, u σ H Q → t σ H Q) : PE X e u := ⟨fun pins s σ H Q I z => p.run pins s σ H Q I (h σ H Q z)⟩
theorem pt_to {t u : TT} (p : PT X e t) (h : ∀ σ H Q, u σ H Q → t σ H Q) : PT X e u := ⟨fun pins s σ H Q I z => p.run pins s σ H Q I (h σ H Q z)⟩
theorem pw_to {t u : TT} (p : PW X e t) (h : ∀ σ H Q, u σ H Q → t σ H Q) : PW X e u := ⟨fun w pins s σ H Q I z => p.run w pins s σ H Q I (h σ H Q z)⟩
theorem pa_to {t u : TA} (p : PA X es t) (h : ∀ σ H Q, u σ H Q → t σ H Q) : PA X es u := ⟨fun po pins s σ H Q I z => p.run po pins s σ H Q I (h σ H Q z)⟩
theorem pss_to {st : List Stmt} {t u : TS} (p : PSs X st t) (h : ∀ D σ H, u D σ H → t D σ H) : PSs X st u := ⟨fun pins s σ H D I z => p.run pins s σ H D I (h D σ H z)⟩
theorem ps_to {st : Stmt} {t u : TS} (p : PS X st t) (h : ∀ D σ H, u D σ H → t D σ H) : PS X st u := ⟨fun pins s σ H D I z => p.run pins s σ H D I (h D σ H z)⟩
/-- weaker -/
theorem DE.imp (p : DE X W Δ m e A) (h : ∀ H v, A.ok H v → A1.ok H v) : DE X W Δ m e A1 := pe_to p fun _ _ _ ⟨n, l, k, z⟩ => ⟨n, l, k, fun v H' k q o => z v H' k q (h _ _ o)⟩
theorem DE.up (p : DE X W Δ m e A) (h : m ≤ m1) : DE X W Δ m1 e A := pe_to p fun _ _ _ ⟨n, l, k, z⟩ => ⟨n, by omega, k, fun v H' k q o => z v H' (k.up (by omega)) q o⟩
theorem DE.to {d d' : PyData} (p : DE X W Δ m e (eqd W.Z d)) (h : d = d') : DE X W Δ m e (eqd W.Z d') := h ▸ p
theorem DT.imp (p : DT X W Δ m e P) (h : ∀ b, P b → P1 b) : DT X W Δ m e P1 := pt_to p fun _ _ _ ⟨n, l, k, z⟩ => ⟨n, l, k, fun v H' k q o => z v H' k q (h _ o)⟩
theorem DT.up (p : DT X W Δ m e P) (h : m ≤ m1) : DT X W Δ m1 e P := pt_to p fun _ _ _ ⟨n, l, k, z⟩ => ⟨n, by omega, k, fun v H' k q o => z v H' (k.up (by omega)) q o⟩
/-- a value that is there at once -/
theorem de_val (p : PE X e t) (h : ∀ n σ H, Ok W n Δ σ H → ∃ v, A.ok H v ∧ ∀ Q : VK, Q v H → t σ H Q) : DE X W Δ 0 e A := pe_to p fun σ H Q ⟨n, l, k, z⟩ => by
  obtain ⟨v, o, f⟩ := h n σ H k
  exact f Q (z v H k Kp.refl o)
theorem de_var {i : Nat} {d : PyData} (p : PE X e (tVar i)) (h : Δ[i]? = some (.val d)) : DE X W Δ 0 e (eqd W.Z d) := de_val p fun n σ H k => by
  obtain ⟨v, h1, h2⟩ := k.val h
  exact ⟨v, ok_eqd h2, fun Q q => ⟨v, h1, q⟩⟩
theorem de_is {i : Nat} {v : V} (p : PE X e (tVar i)) (h : Δ[i]? = some (.is v)) : DE X W Δ 0 e (raw W.Z v) := de_val p fun n σ H k => ⟨v, rfl, fun Q q => ⟨v, k.is h, q⟩⟩
theorem de_rawc {v : V} (p : PE X e (tC v)) : DE X W Δ 0 e (raw W.Z v) := de_val p fun _ _ _ _ => ⟨v, rfl, fun _ q => q⟩
theorem de_c {v : V} {d : PyData} (p : PE X e (tC v)) (h : ∀ H, Da W.Z H v d) : DE X W Δ 0 e (eqd W.Z d) := de_val p fun _ _ H _ => ⟨v, ok_eqd (h H), fun _ q => q⟩
theorem de_int {i : Int} {j} : DE X W Δ 0 (.Constant (.int i) j pos) (eqd W.Z (.int i)) := de_c pe_int fun _ => .int i
theorem de_bl {i : Bool} {j} : DE X W Δ 0 (.Constant (.bool i) j pos) (eqd W.Z (.bool i)) := de_c pe_bl fun _ => .bl i
theorem de_non {j} : DE X W Δ 0 (.Constant .none j pos) (eqd W.Z .none) := de_c pe_non fun _ => .non
theorem de_str {x : Str} {j} : DE X W Δ 0 (.Constant (.str x) j pos) (eqd W.Z (.str x)) := de_c pe_str fun _ => .str x

/-- what a two-place operation does by assertions -/
def Op2 (W : Wd) (r : R2) (A1 A2 A3 : As W.Z) : Prop := ∀ n H v u, Wok W.Z W.J → W.J n H → A1.ok H v → A2.ok H u → ∀ Q : VK, (∀ w H', Ext H H' → A3.ok H' w → Q w H') → r v u H Q
theorem de_op {op : Operator} {r : R2} (ho : OpR X (binaryOp op) r) (ha : DE X W Δ m1 a A1) (hb : DE X W Δ m2 b A2) (hr : Op2 W r A1 A2 A3) : DE X W Δ (m1 + m2) (.BinOp a op b pos) A3 :=
  pe_to (pe_op ho ha hb) fun σ H Q ⟨n, l, k, z⟩ => ⟨n, big1 l, k, fun v H1 k1 q1 o1 => ⟨n + m1, big2 l, k1, fun u H2 k2 q2 o2 => hr _ H2 v u k2.w k2.j (A1.mono q2 o1) o2 Q fun w H3 e o => z w H3 (k2.as.ext e) ((q1.trans q2).trans e.kp) o⟩⟩
theorem de_cmp {op : CmpOp} {r : R2} (ho : OpR X (compareOp op) r) (ha : DE X W Δ m1 a A1) (hb : DE X W Δ m2 b A2) (hr : Op2 W r A1 A2 A3) (hm : behindInMarks op b = false) : DE X W Δ (m1 + m2) (.Compare a [op] [b] pos) A3 :=
  pe_to (pe_cmpR ho ha hb hm) fun σ H Q ⟨n, l, k, z⟩ => ⟨n, big1 l, k, fun v H1 k1 q1 o1 => ⟨n + m1, big2 l, k1, fun u H2 k2 q2 o2 => hr _ H2 v u k2.w k2.j (A1.mono q2 o1) o2 Q fun w H3 e o => z w H3 (k2.as.ext e) ((q1.trans q2).trans e.kp) o⟩⟩
/-- a bool with P -/
def bol (Z : Addr → Prop) (P : Bool → Prop) : As Z := ⟨fun _ v => ∃ b, v = .bl b ∧ P b, fun _ h => h⟩
theorem dt_cmp {op : CmpOp} {r : R2} (ho : OpR X (compareOp op) r) (ha : DE X W Δ m1 a A1) (hb : DE X W Δ m2 b A2) (hr : Op2 W r A1 A2 (bol W.Z P)) (hm : behindInMarks op b = false) : DT X W Δ (m1 + m2) (.Compare a [op] [b] pos) P :=
  pt_to (pt_cmpR ho ha hb hm) fun σ H Q ⟨n, l, k, z⟩ => ⟨n, big1 l, k, fun v H1 k1 q1 o1 => ⟨n + m1, big2 l, k1, fun u H2 k2 q2 o2 => hr _ H2 v u k2.w k2.j (A1.mono q2 o1) o2 _ fun w H3 e o => by
    obtain ⟨x, rfl, p⟩ := o
    exact ⟨x, rfl, z x H3 (k2.as.ext e) ((q1.trans q2).trans e.kp) p⟩⟩⟩
/-- a op b op' c -/
theorem dt_chain {op op' : CmpOp} {r r' : R2} (ho : OpR X (compareOp op) r) (ho' : OpR X (compareOp op') r') (ha : DE X W Δ m1 a A1) (hb : DE X W Δ m2 b A2) (hc : DE X W Δ m3 c A3) (hr : Op2 W r A1 A2 (bol W.Z P1)) (hr' : Op2 W r' A2 A3 (bol W.Z P2))
    (hp : ∀ x y, P1 x → P2 y → P (x && y)) (h0 : P1 false → P false) (hm : lastMarks [op, op'] [b, c] = false := by with_unfolding_all rfl) : DT X W Δ (m1 + (m2 + m3)) (.Compare a [op, op'] [b, c] pos) P :=
  pt_to (L2.pt_chain ho ho' ha hb hc hm) fun σ H Q ⟨n, l, k, z⟩ => ⟨n, big1 l, k, fun v H1 k1 q1 o1 => ⟨n + m1, big1 (big2 l), k1, fun u H2 k2 q2 o2 => hr _ H2 v u k2.w k2.j (A1.mono q2 o1) o2 _ fun w H3 e3 o3 => by
    obtain ⟨x, rfl, p⟩ := o3
    refine ⟨x, rfl, ?_⟩
    cases x with
    | false => exact ⟨false, rfl, z false H3 ((k2.ext e3).up (by omega)) ((q1.trans q2).trans e3.kp) (h0 p)⟩
    | true =>
      refine ⟨n + m1 + m2, by omega, k2.ext e3, fun x H4 k4 q4 o4 => hr' _ H4 u x k4.w k4.j (A2.mono q4 (A2.mono e3.kp o2)) o4 _ fun y H5 e5 o5 => ?_⟩
      obtain ⟨k', rfl, p'⟩ := o5
      exact ⟨k', rfl, z k' H5 ((k4.ext e5).up (by omega)) ((((q1.trans q2).trans e3.kp).trans q4).trans e5.kp) (hp true k' p p')⟩⟩⟩

/-! tests -/
theorem dt_not (h : DT X W Δ m a P1) (hp : ∀ b, P1 b → P (!b)) : DT X W Δ m (.UnaryOp .Not a pos) P :=
  pt_to (pt_not h) fun σ H Q ⟨n, l, k, z⟩ => ⟨n, l, k, fun b H' k q o => z _ H' k q (hp b o)⟩
theorem deadw {op} : PW X (.BoolOp op (b :: rest) pos) (fun _ _ _ => False) := ⟨fun _ _ _ _ _ _ _ z => z.elim⟩
theorem deade {op} : PE X (.BoolOp op (b :: rest) pos) (fun _ _ _ => False) := ⟨fun _ _ _ _ _ _ z => z.elim⟩
/-- the second test need only be known where it is asked -/
theorem dt_and (h1 : DT X W Δ m1 a P1) (h2 : P1 true → DW X W Δ m2 (.BoolOp .And (b :: rest) pos) P) (h0 : P1 false → P false) : DW X W Δ (m1 + m2) (.BoolOp .And (a :: b :: rest) pos) P := by
  by_cases c : P1 true
  · exact pw_to (pw_and h1 (h2 c)) fun σ H Q ⟨n, l, k, z⟩ => ⟨n, big1 l, k, fun x H1 k1 q1 o1 => by
      cases x with
      | true => exact ⟨n + m1, big2 l, k1, fun y H2 k2 q2 o2 => z y H2 k2.as (q1.trans q2) o2⟩
      | false => exact z false H1 (k1.up (by omega)) q1 (h0 o1)⟩
  · exact pw_to (pw_and h1 deadw) fun σ H Q ⟨n, l, k, z⟩ => ⟨n, big1 l, k, fun x H1 k1 q1 o1 => by
      cases x with
      | true => exact absurd o1 c
      | false => exact z false H1 (k1.up (by omega)) q1 (h0 o1)⟩
theorem dt_or (h1 : DT X W Δ m1 a P1) (h2 : P1 false → DW X W Δ m2 (.BoolOp .Or (b :: rest) pos) P) (h0 : P1 true → P true) : DW X W Δ (m1 + m2) (.BoolOp .Or (a :: b :: rest) pos) P := by
  by_cases c : P1 false
  · exact pw_to (pw_or h1 (h2 c)) fun σ H Q ⟨n, l, k, z⟩ => ⟨n, big1 l, k, fun x H1 k1 q1 o1 => by
      cases x with
      | false => exact ⟨n + m1, big2 l, k1, fun y H2 k2 q2 o2 => z y H2 k2.as (q1.trans q2) o2⟩
      | true => exact z true H1 (k1.up (by omega)) q1 (h0 o1)⟩
  · exact pw_to (pw_or h1 deadw) fun σ H Q ⟨n, l, k, z⟩ => ⟨n, big1 l, k, fun x H1 k1 q1 o1 => by
      cases x with
      | false => exact absurd o1 c
      | true => exact z true H1 (k1.up (by omega)) q1 (h0 o1)⟩
theorem dt_and1 (h : DT X W Δ m a P) : DW X W Δ m (.BoolOp .And [a] pos) P := pw_and1 h
theorem dt_or1 (h : DT X W Δ m a P) : DW X W Δ m (.BoolOp .Or [a] pos) P := pw_or1 h
theorem dt_bol (h : DE X W Δ m e (bol W.Z P)) (he : ∀ whole, isTrue e X.env whole = (do let v ← whole; standAt e.pos; holding [v] (truthy v)) := by intro _; rfl) : DT X W Δ m e P :=
  pt_to (pt_val h he) fun σ H Q ⟨n, l, k, z⟩ => ⟨n, l, k, fun v H' k q o => by
    obtain ⟨b, rfl, p⟩ := o
    exact ⟨b, rfl, z _ H' k q p⟩⟩
theorem de_bol {v : Bool} (h : DE X W Δ m e (eqd W.Z (.bool v))) : DE X W Δ m e (bol W.Z (· = v)) := h.imp fun H u o => by
  have o := eqd_ok o
  cases o
  exact ⟨_, rfl, rfl⟩
theorem bol_de {v : Bool} (h : DE X W Δ m e (bol W.Z (· = v))) : DE X W Δ m e (eqd W.Z (.bool v)) := h.imp fun H u o => by
  obtain ⟨b, rfl, rfl⟩ := o
  exact ok_eqd (.bl _)
theorem dt_val {v : Bool} (h : DE X W Δ m e (eqd W.Z (.bool v))) (he : ∀ whole, isTrue e X.env whole = (do let v ← whole; standAt e.pos; holding [v] (truthy v)) := by intro _; rfl) : DT X W Δ m e (· = v) := dt_bol (de_bol h) he
/-- truth of data -/
def truth : PyData → Bool
  | .none => false
  | .bool b => b
  | .int i => i != 0
  | .str x => (x.length : Int) != 0
  | .list xs => !xs.isEmpty
  | .tuple xs => !xs.isEmpty
  | .dict es => !es.isEmpty
theorem iem {α β : Type} : ∀ {l : List α} {m : List β}, l.length = m.length → (!l.isEmpty) = !m.isEmpty
  | [], [], _ => rfl
  | _ :: _, _ :: _, _ => rfl
theorem tru_da {K : PySem.W.Frag} {Z : Addr → Prop} {H : Hp} {v : V} {d : PyData} (h : Da Z H v d) (hs : ∀ x, d = .str x → x.length ≤ sizeLine) : TruV K v H (truth d) := by
  cases h with
  | non => rfl
  | bl b => rfl
  | int i => rfl
  | str x => exact ⟨hs x rfl, rfl⟩
  | lst r n ds => exact .inl ⟨_, .inl (.inl r), (iem ds.length).symm⟩
  | tup r n ds => exact .inr (.inl ⟨_, .inl (.inl r), (iem ds.length).symm⟩)
  | dct r n ks vs =>
    have e := ks.length
    rw [List.length_map, List.length_map] at e
    exact .inr (.inr ⟨_, r, (iem e).symm⟩)
theorem dt_tru {d : PyData} (h : DE X W Δ m e (eqd W.Z d)) (hs : ∀ x, d = .str x → x.length ≤ sizeLine) (he : ∀ whole, isTrue e X.env whole = (do let v ← whole; standAt e.pos; holding [v] (truthy v)) := by intro _; rfl) : DT X W Δ m e (· = truth d) :=
  pt_to (pt_truth h he) fun σ H Q ⟨n, l, k, z⟩ => ⟨n, l, k, fun v H' k q o => ⟨truth d, tru_da (eqd_ok o) hs, z (truth d) H' k q rfl⟩⟩

/-! bools as values -/
theorem de_one {op} (h : DE X W Δ m a A) : DE X W Δ m (.BoolOp op [a] pos) A := pe_one h
theorem de_and (h1 : DE X W Δ m1 a (bol W.Z P1)) (h2 : P1 true → DE X W Δ m2 (.BoolOp .And (b :: rest) pos) (bol W.Z P)) (h0 : P1 false → P false) : DE X W Δ (m1 + m2) (.BoolOp .And (a :: b :: rest) pos) (bol W.Z P) := by
  by_cases c : P1 true
  · exact pe_to (pe_and h1 (h2 c)) fun σ H Q ⟨n, l, k, z⟩ => ⟨n, big1 l, k, fun v H1 k1 q1 o1 => by
      obtain ⟨x, rfl, p⟩ := o1
      refine ⟨x, rfl, ?_⟩
      cases x with
      | true => exact ⟨n + m1, big2 l, k1, fun u H2 k2 q2 o2 => z u H2 k2.as (q1.trans q2) o2⟩
      | false => exact z _ H1 (k1.up (by omega)) q1 ⟨false, rfl, h0 p⟩⟩
  · exact pe_to (pe_and h1 deade) fun σ H Q ⟨n, l, k, z⟩ => ⟨n, big1 l, k, fun v H1 k1 q1 o1 => by
      obtain ⟨x, rfl, p⟩ := o1
      refine ⟨x, rfl, ?_⟩
      cases x with
      | true => exact absurd p c
      | false => exact z _ H1 (k1.up (by omega)) q1 ⟨false, rfl, h0 p⟩⟩
theorem de_or (h1 : DE X W Δ m1 a (bol W.Z P1)) (h2 : P1 false → DE X W Δ m2 (.BoolOp .Or (b :: rest) pos) (bol W.Z P)) (h0 : P1 true → P true) : DE X W Δ (m1 + m2) (.BoolOp .Or (a :: b :: rest) pos) (bol W.Z P) := by
  by_cases c : P1 false
  · exact pe_to (pe_or h1 (h2 c)) fun σ H Q ⟨n, l, k, z⟩ => ⟨n, big1 l, k, fun v H1 k1 q1 o1 => by
      obtain ⟨x, rfl, p⟩ := o1
      refine ⟨x, rfl, ?_⟩
      cases x with
      | false => exact ⟨n + m1, big2 l, k1, fun u H2 k2 q2 o2 => z u H2 k2.as (q1.trans q2) o2⟩
      | true => exact z _ H1 (k1.up (by omega)) q1 ⟨true, rfl, h0 p⟩⟩
  · exact pe_to (pe_or h1 deade) fun σ H Q ⟨n, l, k, z⟩ => ⟨n, big1 l, k, fun v H1 k1 q1 o1 => by
      obtain ⟨x, rfl, p⟩ := o1
      refine ⟨x, rfl, ?_⟩
      cases x with
      | false => exact absurd p c
      | true => exact z _ H1 (k1.up (by omega)) q1 ⟨true, rfl, h0 p⟩⟩
theorem de_not (h1 : DE X W Δ m a (bol W.Z P1)) (hp : ∀ b, P1 b → P (!b)) : DE X W Δ m (.UnaryOp .Not a pos) (bol W.Z P) :=
  pe_to (pe_not h1) fun σ H Q ⟨n, l, k, z⟩ => ⟨n, l, k, fun v H1 k1 q1 o1 => by
    obtain ⟨x, rfl, p⟩ := o1
    exact ⟨x, rfl, z _ H1 k1 q1 ⟨_, rfl, hp x p⟩⟩⟩
theorem de_if (hc : DT X W Δ m1 c P) (h1 : P true → DE X W Δ m2 a A) (h2 : P false → DE X W Δ m3 b A) : DE X W Δ (m1 + (m2 + m3)) (.IfExp c a b pos) A := by
  have pa : PE X a (fun σ H Q => P true ∧ tD W Δ m2 A σ H Q) := ⟨fun pins s σ H Q I z => (h1 z.1).run pins s σ H Q I z.2⟩
  have pb : PE X b (fun σ H Q => P false ∧ tD W Δ m3 A σ H Q) := ⟨fun pins s σ H Q I z => (h2 z.1).run pins s σ H Q I z.2⟩
  exact pe_to (pe_ifExp hc pa pb) fun σ H Q ⟨n, l, k, z⟩ => ⟨n, big1 l, k, fun x H1 k1 q1 o1 => by
    cases x with
    | true => exact ⟨o1, n + m1, by omega, k1, fun v H2 k2 q2 o2 => z v H2 (k2.up (by omega)) (q1.trans q2) o2⟩
    | false => exact ⟨o1, n + m1, by omega, k1, fun v H2 k2 q2 o2 => z v H2 (k2.up (by omega)) (q1.trans q2) o2⟩⟩

/-! arguments, displays -/
theorem da_nil : DA X W Δ 0 [] [] := pa_to pa_nil fun σ H Q ⟨n, l, k, z⟩ => z [] H k Kp.refl .nil
theorem da_cons (h : DE X W Δ m1 e A) (hr : DA X W Δ m2 es L) (hs : starEach (e :: es) X.env = (false, eval e X.env) :: starEach es X.env := by rfl) : DA X W Δ (m1 + m2) (e :: es) (A :: L) :=
  pa_to (pa_cons h hr hs) fun σ H Q ⟨n, l, k, z⟩ => ⟨n, big1 l, k, fun v H1 k1 q1 o1 => ⟨n + m1, big2 l, k1, fun vs H2 k2 q2 o2 => z _ H2 k2.as (q1.trans q2) (.cons (A.mono q2 o1) o2)⟩⟩
/-- data by assertions: the items of a display -/
theorem allo_das {Z : Addr → Prop} {H : Hp} : ∀ {ds : List PyData} {vs : List V}, Allo H (ds.map (eqd Z)) vs → Das Z H vs ds
  | [], _, h => by
    cases h
    exact .nil
  | d :: ds, _, h => by
    cases h with
    | cons a b => exact .cons (eqd_ok a) (allo_das b)
theorem de_lst {ds : List PyData} (h : DA X W Δ m es (ds.map (eqd W.Z))) (hl : ds.length ≤ sizeLine) : DE X W Δ m (.List es pos) (eqd W.Z (.list ds)) :=
  pe_to (pe_lst h) fun σ H Q ⟨n, l, k, z⟩ => ⟨n, l, k, fun vs H1 k1 q1 o1 => by
    have o := allo_das o1
    exact ⟨by rw [o.length]; exact hl, fun p hp => z _ _ (k1.ext (.new hp)) (q1.trans (Ext.new hp).kp) (ok_eqd (.lst upd_same (k1.w.new k1.j hp) (o.kp (Ext.new hp).kp)))⟩⟩
theorem de_tup {ds : List PyData} {kx} (h : DA X W Δ m es (ds.map (eqd W.Z))) (hl : ds.length ≤ sizeLine) : DE X W Δ m (.Tuple es kx pos) (eqd W.Z (.tuple ds)) :=
  pe_to (pe_tup h) fun σ H Q ⟨n, l, k, z⟩ => ⟨n, l, k, fun vs H1 k1 q1 o1 => by
    have o := allo_das o1
    exact ⟨by rw [o.length]; exact hl, fun p hp => z _ _ (k1.ext (.new hp)) (q1.trans (Ext.new hp).kp) (ok_eqd (.tup upd_same (k1.w.new k1.j hp) (o.kp (Ext.new hp).kp)))⟩⟩
theorem de_dict0 : DE X W Δ 0 (.Dict [] [] pos) (eqd W.Z (.dict [])) :=
  pe_to pe_dnewK fun σ H Q ⟨n, l, k, z⟩ p hp => z _ _ (k.ext (.new hp)) (Ext.new hp).kp (ok_eqd (.dct upd_same (k.w.new k.j hp) .nil .nil))

/-! calls of built-ins -/
def Cal (W : Wd) (r : List V → Hp → VK → Prop) (L : List (As W.Z)) (A : As W.Z) : Prop := ∀ n H vs, Wok W.Z W.J → W.J n H → Allo H L vs → ∀ Q : VK, (∀ w H', Ext H H' → A.ok H' w → Q w H') → r vs H Q
theorem de_cb {x : Str} {p : Pos} {id : String} {r : List V → Hp → VK → Prop} (hc : CallR X (.builtin id) r) (hg : Gl X x) (hm : X.mg x = none) (hv : bootBuiltins x = some (.builtin id)) (ha : DA X W Δ m (e :: es) L) (hr : Cal W r L A)
    (hn : x ≠ "__name__" := by decide) (hdb : (x == ("__debug__" : Str)) = false := by decide) (he : starEach (e :: es) X.env = (false, eval e X.env) :: starEach es X.env := by rfl) (hpl : (backTo pos (starEach es X.env)).any (·.1) = false := by rfl) :
    DE X W Δ m (.Call (.Name x p) (e :: es) [] pos) A :=
  pe_to (pe_callB hc hg hm hv ha hn hdb he hpl) fun σ H Q ⟨n, l, k, z⟩ => ⟨n, l, k, fun vs H1 k1 q1 o1 => hr _ H1 vs k1.w k1.j o1 Q fun w H2 e2 o2 => z w H2 (k1.ext e2) (q1.trans e2.kp) o2⟩
theorem de_ct {x : Str} {p : Pos} {T : String} {r : List V → Hp → VK → Prop} (hc : CallR X (.type T) r) (hg : Gl X x) (hm : X.mg x = none) (hv : bootBuiltins x = some (.type T)) (ha : DA X W Δ m (e :: es) L) (hr : Cal W r L A)
    (hn : x ≠ "__name__" := by decide) (hdb : (x == ("__debug__" : Str)) = false := by decide) (he : starEach (e :: es) X.env = (false, eval e X.env) :: starEach es X.env := by rfl) (hpl : (backTo pos (starEach es X.env)).any (·.1) = false := by rfl) :
    DE X W Δ m (.Call (.Name x p) (e :: es) [] pos) A :=
  pe_to (pe_callTy hc hg hm hv ha hn hdb he hpl) fun σ H Q ⟨n, l, k, z⟩ => ⟨n, l, k, fun vs H1 k1 q1 o1 => hr _ H1 vs k1.w k1.j o1 Q fun w H2 e2 o2 => z w H2 (k1.ext e2) (q1.trans e2.kp) o2⟩
end
end Dv
set_option maxRecDepth 100000
set_option maxHeartbeats 2000000
/-! Dv4: what loops and comprehensions go over; comprehensions; promises of defs and their calls; statements. -/
namespace Dv
open PySem PySem.Spec PyProof.Rows L2

/-! ### worlds that grow -/
def Wd.add (W : Wd) (p : Addr) (φ : Nat → HO → Prop) : Wd := { W with pins := (p, φ) :: W.pins }
def Wd.lst (W : Wd) (p : Addr) (vs : List V) : Wd := W.add p fun _ o => o = .lst vs
theorem add_z {W : Wd} {p : Addr} {φ : Nat → HO → Prop} {a : Addr} : (W.add p φ).Z a ↔ a = p ∨ W.Z a := by
  constructor
  · rintro (z | ⟨q, m, rfl⟩)
    · exact .inr (.inl z)
    · rcases List.mem_cons.mp m with rfl | m
      · exact .inl rfl
      · exact .inr (.inr ⟨q, m, rfl⟩)
  · rintro (rfl | z | ⟨q, m, rfl⟩)
    · exact .inr ⟨_, List.mem_cons_self, rfl⟩
    · exact .inl z
    · exact .inr ⟨q, List.mem_cons_of_mem _ m, rfl⟩
theorem add_j {W : Wd} {p : Addr} {φ : Nat → HO → Prop} {n : Nat} {H : Hp} : (W.add p φ).J n H ↔ (∃ o, H p = some o ∧ ∃ m, m ≤ n ∧ φ m o) ∧ W.J n H := by
  constructor
  · rintro ⟨j, q⟩
    exact ⟨q _ List.mem_cons_self, j, fun x m => q x (List.mem_cons_of_mem _ m)⟩
  · rintro ⟨o, j, q⟩
    refine ⟨j, fun x m => ?_⟩
    rcases List.mem_cons.mp m with rfl | m
    · exact o
    · exact q x m
section
variable {W : Wd} {n n' : Nat} {Δ : List Sl} {σ : L2.St} {H H1 H' : Hp} {p : Addr} {o : HO} {φ : Nat → HO → Prop}
theorem sub_z (h : H1 p = none) (a : Addr) (z : (W.add p φ).Z a) : W.Z a ∨ H1 a = none := by
  rcases add_z.mp z with rfl | z
  · exact .inr h
  · exact .inl z
theorem z_add (a : Addr) (z : W.Z a) : (W.add p φ).Z a := add_z.mpr (.inr z)
theorem zz {ψ : Nat → HO → Prop} (a : Addr) (z : (W.add p φ).Z a) : (W.add p ψ).Z a := add_z.mpr (add_z.mp z)
theorem Kp.wide {Z Z' : Addr → Prop} (k : Kp Z H H') (z : ∀ a, Z a → Z' a) : Kp Z' H H' := fun a o n h => k a o (fun c => n (z a c)) h
/-- a new object of one's own, that may change from now on -/
theorem Ok.pin (k : Ok W n Δ σ H1) (hp : H1 p = none) (e : Kp W.Z H1 H') (j : W.J n' H') (hl : n ≤ n') (ho : H' p = some o) (hφ : ∃ m, m ≤ n' ∧ φ m o) : Ok (W.add p φ) n' Δ σ H' := by
  have nz : ¬ W.Z p := k.w.new k.j hp
  have h0 : W.H0 p = none := by
    match q : W.H0 p with
    | none => rfl
    | some u => exact nomatch (k.kept p u (fun c => nz (.inl c)) q).symm.trans hp
  refine ⟨k.wb, add_j.mpr ⟨⟨o, ho, hφ⟩, j⟩, pmono (fun s o' => SlOk.mono e (sub_z hp)) k.sl, (show Kp W.Zb W.H0 H' from kp0 k e), ?_, fun q m => ?_⟩
  · show ((p :: W.pins.map (·.1))).Nodup
    refine List.nodup_cons.mpr ⟨fun m => ?_, k.nd⟩
    obtain ⟨q, hq, rfl⟩ := List.mem_map.mp m
    exact nz (.inr ⟨q, hq, rfl⟩)
  · rcases List.mem_cons.mp m with rfl | m
    · exact ⟨fun c => nz (.inl c), h0⟩
    · exact k.fr q m
/-- it will not change any more -/
theorem Ok.unpin (k : Ok (W.add p φ) n Δ σ H) : Ok W n Δ σ H :=
  ⟨k.wb, (add_j.mp k.j).2, pmono (fun _ _ => SlOk.mono Kp.refl fun a z => .inl (z_add a z)) k.sl, k.kept, (List.nodup_cons.mp k.nd).2, fun q m => k.fr q (List.mem_cons_of_mem _ m)⟩
theorem Ok.nz (k : Ok (W.add p φ) n Δ σ H) : ¬ W.Z p := by
  rintro (z | ⟨q, m, e⟩)
  · exact (k.fr _ List.mem_cons_self).1 z
  · exact (List.nodup_cons.mp k.nd).1 (List.mem_map.mpr ⟨q, m, e⟩)
/-- a list of one's own is data once it is left alone -/
theorem own_da {vs : List V} {ds : List PyData} (k : Ok (W.lst p vs) n Δ σ H) (h : Das (W.lst p vs).Z H vs ds) : Da W.Z H (.ref p) (.list ds) := by
  obtain ⟨⟨o, ho, m, _, e⟩, _⟩ := add_j.mp k.j
  subst e
  exact .lst ho k.nz (h.mono Kp.refl fun a z => .inl (z_add a z))
/-- a part of a def on its own: the world as it stands is its caller's -/
def Wd.sub (W : Wd) (H : Hp) : Wd := ⟨W.Z, W.J, H, []⟩
theorem sub_zz {a : Addr} : (W.sub H).Z a ↔ W.Z a :=
  ⟨fun z => Or.elim z id (fun ⟨_, m, _⟩ => nomatch m), fun z => Or.inl z⟩
theorem sub_jj : (W.sub H1).J n H ↔ W.J n H := ⟨fun z => z.1, fun z => ⟨z, fun _ m => nomatch m⟩⟩
theorem Ok.sub (k : Ok W n Δ σ H) : Ok (W.sub H) n Δ σ H :=
  ⟨k.w, sub_jj.mpr k.j, pmono (fun _ _ => SlOk.mono Kp.refl fun a z => .inl (sub_zz.mp z)) k.sl, Kp.refl, List.nodup_nil, fun _ m => nomatch m⟩
theorem Ok.unsub {Γ : List Sl} {τ : L2.St} (k : Ok W n Δ σ H) (h : Ok (W.sub H) n' Γ τ H') : Ok W n' Γ τ H' :=
  ⟨k.wb, sub_jj.mp h.j, pmono (fun _ _ => SlOk.mono Kp.refl fun a z => .inl (sub_zz.mpr z)) h.sl, kp0 k h.kept, k.nd, k.fr⟩
end

/-! ### what is gone over -/
structure Src (Z : Addr → Prop) (H1 : Hp) (J : It) (xs : List PyData) : Prop where
  ex : ∃ (G : Hp → Prop) (Y : Nat → Hp → V → Hp → Prop), Walk J xs.length G Y ∧ (∀ (Z' : Addr → Prop) H, (∀ a, Z' a → Z a ∨ H1 a = none) → Kp Z' H1 H → G H) ∧
    ∀ (Z' : Addr → Prop) i H x H', (∀ a, Z' a → Z a ∨ H1 a = none) → Kp Z' H1 H → (∀ a, Z' a → H a ≠ none) → i < xs.length → Y i H x H' → Ext H H' ∧ ∃ d, xs[i]? = some d ∧ Da Z' H' x d
def tDI (W : Wd) (Δ : List Sl) (c : Nat) (P : List PyData → Prop) : TI := fun σ H R => ∃ n, n + c ≤ BIG ∧ Ok W n Δ σ H ∧ ∀ J H' xs, Ok W (n + c) Δ σ H' → Kp W.Z H H' → P xs → Src W.Z H' J xs → R J H'
abbrev DI (X : Cx) (W : Wd) (Δ : List Sl) (c : Nat) (tg iter : Expr) (P : List PyData → Prop) : Prop := PI X tg iter (tDI W Δ c P)
section
variable {X : Cx} {W : Wd} {Δ : List Sl} {m m1 m2 m3 : Nat} {tg e a b c : Expr} {es rest : List Expr} {A A1 A2 A3 : As W.Z} {L : List (As W.Z)} {P P1 P2 : Bool → Prop} {t ta tb : TE} {pos : Pos}
theorem pi_to {t u : TI} (p : PI X tg e t) (h : ∀ σ H Q, u σ H Q → t σ H Q) : PI X tg e u := ⟨fun pins s σ H Q I z => p.run pins s σ H Q I (h σ H Q z)⟩
theorem kpz {Z Z' : Addr → Prop} {H1 H : Hp} {a : Addr} {o : HO} (z : ∀ a, Z' a → Z a ∨ H1 a = none) (k : Kp Z' H1 H) (n : ¬ Z a) (h : H1 a = some o) : H a = some o :=
  k a o (fun c => (z a c).elim n fun y => nomatch h.symm.trans y) h
/-- a list -/
theorem di_list {ds : List PyData} (h : DE X W Δ m e (eqd W.Z (.list ds))) : DI X W Δ m tg e (· = ds) :=
  pi_to (pi_list h) fun σ H R ⟨n, l, k, z⟩ => ⟨n, l, k, fun v H1 k1 q1 o1 => by
    have o := eqd_ok o1
    cases o with
    | lst r nz hd =>
      rename_i a vs
      refine ⟨a, rfl, ⟨_, .inl (.inl r)⟩, z _ H1 ds k1 q1 rfl ⟨⟨_, _, hd.length ▸ walk_list (K := X.K) (a := a) (xs := vs), fun Z' H z' k' => .inl (.inl (kpz z' k' nz r)), fun Z' i H x H' z' k' _ _ y => ?_⟩⟩⟩
      obtain ⟨e1, e2⟩ := y
      subst e1
      obtain ⟨d, h1, h2⟩ := hd.getV e2
      exact ⟨Ext.refl, d, h1, (h2.mono Kp.refl z').kp k'⟩⟩
/-- a tuple -/
theorem di_tup {ds : List PyData} (h : DE X W Δ m e (eqd W.Z (.tuple ds))) : DI X W Δ m tg e (· = ds) :=
  pi_to (pi_tup h) fun σ H R ⟨n, l, k, z⟩ => ⟨n, l, k, fun v H1 k1 q1 o1 => by
    have o := eqd_ok o1
    cases o with
    | tup r nz hd =>
      rename_i a vs
      refine ⟨a, rfl, ⟨_, .inl (.inl r)⟩, z _ H1 ds k1 q1 rfl ⟨⟨_, _, hd.length ▸ walk_tup (K := X.K) (a := a) (xs := vs), fun Z' H z' k' => .inl (.inl (kpz z' k' nz r)), fun Z' i H x H' z' k' _ _ y => ?_⟩⟩⟩
      obtain ⟨e1, e2⟩ := y
      subst e1
      obtain ⟨d, h1, h2⟩ := hd.getV e2
      exact ⟨Ext.refl, d, h1, (h2.mono Kp.refl z').kp k'⟩⟩
/-- range(n) -/
def intp (Z : Addr → Prop) (P : Int → Prop) : As Z := dat Z fun d => ∃ i, d = .int i ∧ P i
theorem int_p {i : Int} (h : DE X W Δ m e (eqd W.Z (.int i))) : DE X W Δ m e (intp W.Z (· = i)) := h.imp fun H v o => ⟨_, eqd_ok o, i, rfl, rfl⟩
def upto (n : Int) : List PyData := (List.range n.toNat).map fun i => .int (i : Nat)
theorem upto_len (n : Int) : (upto n).length = n.toNat := by
  unfold upto
  rw [List.length_map, List.length_range]
theorem upto_get {n : Int} {i : Nat} (h : i < n.toNat) : (upto n)[i]? = some (.int (i : Nat)) := by
  unfold upto
  rw [List.getElem?_map, List.getElem?_range h]
  rfl
theorem di_range {p : Pos} {Pn : Int → Prop} (hg : Gl X "range") (hm : X.mg "range" = none) (h : DE X W Δ m a (intp W.Z Pn)) (hb : ∀ i, Pn i → -(2 ^ 62) ≤ i ∧ i < 2 ^ 62) (hs : starEach [a] X.env = [(false, eval a X.env)] := by rfl)
    (hs' : starEach (a :: []) X.env = (false, eval a X.env) :: starEach [] X.env := by rfl) :
    DI X W Δ m tg (.Call (.Name "range" p) [a] [] pos) (fun xs => ∃ n, Pn n ∧ xs = upto n) :=
  pi_to (pi_range1 hg hm (da_cons h da_nil hs') hs) fun σ H R ⟨n, l, k, z⟩ => ⟨n, l, k, fun vs H1 k1 q1 o1 => by
    cases o1 with
    | cons o1 o2 =>
      cases o2
      obtain ⟨_, hd, j, rfl, pj⟩ := o1
      cases hd
      have wk : Walk (Itr 0 j.toNat) (upto j).length (fun _ => True) (YFn fun i => .int (0 + i)) := by
        rw [upto_len]
        exact walk_range
      refine ⟨j, rfl, (hb j pj).1, (hb j pj).2, z _ H1 _ k1 q1 ⟨j, pj, rfl⟩ ⟨⟨_, _, wk, fun _ _ _ _ => trivial, fun Z' i H x H' z' k' _ hi y => ?_⟩⟩⟩
      obtain ⟨e1, e2⟩ := y
      subst e1 e2
      rw [upto_len] at hi
      refine ⟨Ext.refl, _, upto_get hi, ?_⟩
      show Da Z' _ (.int (0 + (i : Int))) _
      rw [Int.zero_add]
      exact .int _⟩
/-- a text, sign by sign -/
def sgn (z : Str) : List PyData := z.cps.toList.map fun c => .str ⟨#[c]⟩
theorem sgn_len (z : Str) : (sgn z).length = z.cps.size := by
  unfold sgn
  rw [List.length_map, Array.length_toList]
theorem di_str {z : Str} (h : DE X W Δ m e (eqd W.Z (.str z))) : DI X W Δ m tg e (· = sgn z) :=
  pi_to (pi_str h) fun σ H R ⟨n, l, k, f⟩ => ⟨n, l, k, fun v H1 k1 q1 o1 => by
    have o := eqd_ok o1
    cases o
    have wk : Walk (Its z) (sgn z).length (fun _ => True) (fun i H v H' => H' = H ∧ ∃ c, z.cps[i]? = some c ∧ v = .str ⟨#[c]⟩) := by
      rw [sgn_len]
      exact walk_str
    refine ⟨z, rfl, f _ H1 _ k1 q1 rfl ⟨⟨_, _, wk, fun _ _ _ _ => trivial, fun Z' i H x H' z' k' _ hi y => ?_⟩⟩⟩
    obtain ⟨e1, c, e2, e3⟩ := y
    subst e1 e3
    refine ⟨Ext.refl, .str ⟨#[c]⟩, ?_, .str _⟩
    unfold sgn
    rw [List.getElem?_map, Array.getElem?_toList, e2]
    rfl⟩

/-! ### comprehensions -/
def wipeS (Δ : List Sl) : List Nat → List Sl
  | [] => Δ
  | v :: vs => (wipeS Δ vs).set v .no
theorem wipe_ok {Z : Addr → Prop} {H : Hp} {σ : L2.St} : ∀ (vs : List Nat), Paired (SlOk Z H) Δ σ → Paired (SlOk Z H) (wipeS Δ vs) (wipe σ vs)
  | [], h => h
  | v :: vs, h => pset (show SlOk Z H .no none from trivial) v (wipe_ok vs h)
theorem wipe_set {σ : L2.St} {x : Option V} : ∀ (vs : List Nat) (j : Nat), j ∈ vs → wipe (σ.set j x) vs = wipe σ vs
  | v :: vs, j, h => by
    show (wipe (σ.set j x) vs).set v none = (wipe σ vs).set v none
    by_cases c : j ∈ vs
    · rw [wipe_set vs j c]
    · have e : j = v := by
        rcases List.mem_cons.mp h with h | h
        · exact h
        · exact absurd h c
      subst e
      have : ∀ (us : List Nat) (τ : L2.St), j ∉ us → wipe (τ.set j x) us = (wipe τ us).set j x := by
        intro us
        induction us with
        | nil => intro τ _; rfl
        | cons u us ih =>
          intro τ hn
          show (wipe (τ.set j x) us).set u none = ((wipe τ us).set u none).set j x
          have h1 : j ≠ u := fun q => hn (q ▸ List.mem_cons_self)
          have h2 : j ∉ us := fun q => hn (List.mem_cons_of_mem _ q)
          rw [ih τ h2, List.set_comm _ _ h1]
      rw [this vs σ c, List.set_set]
theorem wipe_wipe {σ : L2.St} : ∀ (vs us : List Nat), (∀ v ∈ us, v ∈ vs) → wipe (wipe σ us) vs = wipe σ vs
  | vs, [], _ => rfl
  | vs, u :: us, h => by
    show wipe ((wipe σ us).set u none) vs = wipe σ vs
    rw [wipe_set vs u (h u List.mem_cons_self), wipe_wipe vs us fun v hv => h v (List.mem_cons_of_mem _ hv)]
/-- what a comprehension picks: Pt of an item says whether its element is taken, Pe what it is -/
inductive Picks (Pt : PyData → Bool → Prop) (Pe : PyData → PyData → Prop) : List PyData → List PyData → Prop
  | nil : Picks Pt Pe [] []
  | skip {d : PyData} {xs ys : List PyData} : Picks Pt Pe xs ys → Pt d false → Picks Pt Pe (xs ++ [d]) ys
  | take {d z : PyData} {xs ys : List PyData} : Picks Pt Pe xs ys → Pt d true → Pe d z → Picks Pt Pe (xs ++ [d]) (ys ++ [z])
theorem Picks.len {Pt : PyData → Bool → Prop} {Pe : PyData → PyData → Prop} {xs ys : List PyData} (h : Picks Pt Pe xs ys) : ys.length ≤ xs.length := by
  induction h with
  | nil => exact Nat.le_refl _
  | skip _ _ ih =>
    rw [List.length_append]
    omega
  | take _ _ _ ih =>
    rw [List.length_append, List.length_append]
    simp only [List.length_singleton]
    omega
theorem Picks.fn {f : PyData → Bool} {g : PyData → PyData} {xs ys : List PyData} (h : Picks (fun d b => b = f d) (fun d z => f d = true → z = g d) xs ys) : ys = (xs.filter f).map g := by
  induction h with
  | nil => rfl
  | skip _ e ih => rw [ih, List.filter_append, List.filter_cons, if_neg (by rw [← e]; decide)]; simp
  | take _ e e2 ih => rw [ih, List.filter_append, List.map_append, List.filter_cons, if_pos e.symm, e2 e.symm]; simp
theorem Picks.all {Pt : PyData → Bool → Prop} {Pe : PyData → PyData → Prop} {R : PyData → Prop} {xs ys : List PyData} (h : Picks Pt Pe xs ys) (hr : ∀ d z, d ∈ xs → Pe d z → R z) : ∀ z ∈ ys, R z := by
  induction h with
  | nil => exact fun z m => nomatch m
  | skip _ _ ih => exact ih fun d z m => hr d z (List.mem_append_left _ m)
  | take _ _ e ih =>
    intro z m
    rcases List.mem_append.mp m with m | m
    · exact ih (fun d z m => hr d z (List.mem_append_left _ m)) z m
    · rw [List.mem_singleton] at m
      subst m
      exact hr _ _ (List.mem_append_right _ List.mem_cons_self) e
theorem Picks.full {Pt : PyData → Bool → Prop} {Pe : PyData → PyData → Prop} {xs ys : List PyData} (h : Picks Pt Pe xs ys) (hr : ∀ d, ¬ Pt d false) : ys.length = xs.length := by
  induction h with
  | nil => rfl
  | skip _ e _ => exact absurd e (hr _)
  | take _ _ _ ih => rw [List.length_append, List.length_append, ih]; rfl
theorem dts_nil : PTs X [] (tDT W Δ 0 (· = true)) := ⟨fun pins s σ H Q I ⟨n, l, k, z⟩ => pts_nil.run pins s σ H Q I (z true H k Kp.refl rfl)⟩
theorem dts_one (h : DT X W Δ m e P) : PTs X [e] (tDT W Δ m P) := pts_one h
theorem filter_take_succ {α : Type} {xs : List α} {i : Nat} {d : α} (h : xs[i]? = some d) : xs.take (i + 1) = xs.take i ++ [d] := by
  rw [List.take_add_one, h]
  rfl
def lcT (W : Wd) (Γ : List Sl) (j c1 : Nat) (Ps : List PyData → Prop) (Pt : PyData → Bool → Prop) : TT := fun σ H Q => ∃ D φ xs d, ¬ W.Z D ∧ Ps xs ∧ d ∈ xs ∧ tDT (W.add D φ) (Γ.set j (.val d)) c1 (Pt d) σ H Q
def lcE (W : Wd) (Γ : List Sl) (j c2 : Nat) (Ps : List PyData → Prop) (Pt : PyData → Bool → Prop) (Pe : PyData → PyData → Prop) : TE := fun σ H Q => ∃ D φ xs d, ¬ W.Z D ∧ Ps xs ∧ d ∈ xs ∧ Pt d true ∧ tD (W.add D φ) (Γ.set j (.val d)) c2 (dat _ (Pe d)) σ H Q
/-- a for in brackets, its target a name -/
theorem de_lc {x : Str} {px : Pos} {elt iter : Expr} {ifs : List Expr} {scope : Scope} {own : List (Str × Nat)} {j c1 c2 M : Nat} {Ps : List PyData → Prop} {Pt : PyData → Bool → Prop} {Pe : PyData → PyData → Prop} {R : PyData → Prop}
    (hc : X.calm = true) (hN : X.N.Nodup) (hi : DI X W Δ m (.Name x px) iter Ps) (ok : BlkOk X.N X.env.scope scope own) (hj : X.N[j]? = some x) (hjv : j ∈ own.map (·.2)) (hM : ∀ xs, Ps xs → xs.length ≤ M) (hM2 : M ≤ 1000000)
    (hx : ∀ (s : Shared) (H : Hp) (C : Addr) (cl : List (Str × Addr)) (fp : List Addr), PG (X.blk s H scope (compEnvC scope cl C X.env) fp) (.Name x px) (gName j))
    (ht : ∀ (s : Shared) (H : Hp) (C : Addr) (cl : List (Str × Addr)) (fp : List Addr) (D : Addr) (φ : Nat → HO → Prop) (xs : List PyData) (d : PyData), ¬ W.Z D → Ps xs → d ∈ xs → PTs (X.blk s H scope (compEnvC scope cl C X.env) fp) ifs (tDT (W.add D φ) ((wipeS Δ (own.map (·.2))).set j (.val d)) c1 (Pt d)))
    (he : ∀ (s : Shared) (H : Hp) (C : Addr) (cl : List (Str × Addr)) (fp : List Addr) (D : Addr) (φ : Nat → HO → Prop) (xs : List PyData) (d : PyData), ¬ W.Z D → Ps xs → d ∈ xs → Pt d true → DE (X.blk s H scope (compEnvC scope cl C X.env) fp) (W.add D φ) ((wipeS Δ (own.map (·.2))).set j (.val d)) c2 elt (dat _ (Pe d)))
    (hR : ∀ xs ys, Ps xs → Picks Pt Pe xs ys → R (.list ys))
    (hs : ∀ x, foldedSetIterable iter X.env x = pure x := by intro _; rfl) :
    DE X W Δ (m + M * (c1 + c2)) (.ListComp elt [⟨.Name x px, iter, ifs, 0⟩] scope pos) (dat W.Z R) := by
  -- the test and the element, for whichever new list, item and list of items
  have pt : ∀ (s : Shared) (H : Hp) (C : Addr) (cl : List (Str × Addr)) (fp : List Addr), PTs (X.blk s H scope (compEnvC scope cl C X.env) fp) ifs (lcT W (wipeS Δ (own.map (·.2))) j c1 Ps Pt) :=
    fun s H C cl fp => ⟨fun pins s' σ' H' Q I ⟨D, φ, xs, d, n1, n2, n3, z⟩ => (ht s H C cl fp D φ xs d n1 n2 n3).run pins s' σ' H' Q I z⟩
  have pe : ∀ (s : Shared) (H : Hp) (C : Addr) (cl : List (Str × Addr)) (fp : List Addr), PE (X.blk s H scope (compEnvC scope cl C X.env) fp) elt (lcE W (wipeS Δ (own.map (·.2))) j c2 Ps Pt Pe) :=
    fun s H C cl fp => ⟨fun pins s' σ' H' Q I ⟨D, φ, xs, d, n1, n2, n3, n4, z⟩ => (he s H C cl fp D φ xs d n1 n2 n3 n4).run pins s' σ' H' Q I z⟩
  refine pe_to (pe_lc hc hN hi ok hx pt pe hs) fun σ H Q ⟨n, l, k, z⟩ => ⟨n, by omega, k, fun J H1 xs k1 q1 px sr D hD => ?_⟩
  obtain ⟨G, Y, wk, hG, hY⟩ := sr.ex
  have nD : ¬ W.Z D := k1.w.new k1.j hD
  have hlen := hM xs px
  have lz := sizeLine_eq
  -- what holds behind i items
  let Pv : Nat → Hp → Prop := fun i H' => W.J (n + m + i * (c1 + c2)) H' ∧ Kp W.Z H1 H' ∧ ∃ acc ys, H' D = some (.lst acc) ∧ Das (W.add D fun _ _ => True).Z H' acc ys ∧ Picks Pt Pe (xs.take i) ys
  have inner : ∀ i H', Pv i H' → ∀ acc, H' D = some (.lst acc) → Ok (W.add D fun _ o => o = .lst acc) (n + m + i * (c1 + c2)) Δ σ H' := fun i H' ⟨j, e, _⟩ acc ha => k1.pin hD e j (by omega) ha ⟨0, Nat.zero_le _, rfl⟩
  refine lc_it (g := gName j) (tt := lcT W (wipeS Δ (own.map (·.2))) j c1 Ps Pt) (te := lcE W (wipeS Δ (own.map (·.2))) j c2 Ps Pt Pe) (vs := own.map (·.2)) (σ := σ) (H1 := H1) (D := D) (Qd := fun H => Q (.ref D) H) wk Pv ?_ ?_ ?_ ?_
  · refine ⟨by simpa using k1.w.ext k1.j (.new hD), (Ext.new hD).kp, [], [], upd_same, .nil, ?_⟩
    rw [List.take_zero]
    exact .nil
  · intro i H' _ ⟨_, e, _⟩
    exact hG (W.add D fun _ _ => True).Z H' (fun a y => sub_z hD a y) (e.wide fun a y => z_add a y)
  · intro i x0 H2 H3 hi p y
    obtain ⟨j2, e2, acc, ys, ha, hd, hp⟩ := p
    have ko := inner i H2 ⟨j2, e2, acc, ys, ha, hd, hp⟩ acc ha
    obtain ⟨e3, d, hxd, hda⟩ := hY (W.add D fun _ o => o = .lst acc).Z i H2 x0 H3 (fun a y => sub_z hD a y) (e2.wide fun a y => z_add a y) (fun a y => ko.w.alive _ H2 a ko.j y) hi y
    have dm : d ∈ xs := List.mem_of_getElem? hxd
    have k3 := ko.ext e3
    have hbig : (i + 1) * (c1 + c2) ≤ M * (c1 + c2) := Nat.mul_le_mul_right _ (by omega)
    have hs1 : (i + 1) * (c1 + c2) = i * (c1 + c2) + (c1 + c2) := Nat.succ_mul _ _
    refine ⟨?_, D, (fun _ o => o = .lst acc), xs, d, nD, px, dm, n + m + i * (c1 + c2), by omega, ?_, ?_⟩
    · rw [wipe_set _ _ hjv]
      exact wipe_wipe _ _ fun v hv => hv
    · exact ⟨k3.wb, k3.j, pset (show SlOk _ _ (.val d) (some x0) from ⟨x0, rfl, hda⟩) j (wipe_ok _ k3.sl), k3.kept, k3.nd, k3.fr⟩
    · intro b H4 k4 q4 pb
      have back : ∀ {H' : Hp}, Kp (W.add D fun _ o => o = .lst acc).Z H3 H' → Kp W.Z H1 H' := fun q a o na h1 => by
        have ne : a ≠ D := fun c => by
          rw [c, hD] at h1
          cases h1
        exact q a o (fun c => (add_z.mp c).elim ne na) (e3 a o (e2 a o na h1))
      obtain ⟨⟨o4, h4, _, _, eq4⟩, j4⟩ := add_j.mp k4.j
      subst eq4
      have d4 : Das (W.add D fun _ _ => True).Z H4 acc ys := (hd.mono (e3.kp.trans (q4.wide zz)) fun a y => .inl y)
      cases b with
      | false =>
        refine ⟨k4.w.up _ _ H4 k4.j (by omega) |> fun j => (add_j.mp j).2, back q4, acc, ys, h4, d4, ?_⟩
        rw [filter_take_succ hxd]
        exact .skip hp pb
      | true =>
        refine ⟨D, (fun _ o => o = .lst acc), xs, d, nD, px, dm, pb, n + m + i * (c1 + c2) + c1, by omega, k4, fun y0 H5 k5 q5 o5 => ?_⟩
        obtain ⟨z0, hz0, pe0⟩ := o5
        obtain ⟨⟨o5, h5, _, _, eq5⟩, j5⟩ := add_j.mp k5.j
        subst eq5
        have la : acc.length = ys.length := d4.length
        have ly := hp.len
        rw [List.length_take] at ly
        have kD : Kp (W.add D fun _ _ => True).Z H5 (upd H5 D (.lst (acc ++ [y0]))) := fun a o na h => by
          rw [upd_ne (fun c => na (add_z.mpr (.inl c)))]
          exact h
        refine ⟨acc, h5, by omega, ?_, ?_, _, ys ++ [z0], upd_same, ?_, ?_⟩
        · refine k5.w.up _ (n + m + (i + 1) * (c1 + c2)) H5 k5.j (by omega) |> fun j => ?_
          exact k1.w.loc _ H5 _ (add_j.mp j).2 fun a y => upd_ne (fun c => nD (c ▸ y))
        · intro a o na h1
          have ne : a ≠ D := fun c => by
            rw [c, hD] at h1
            cases h1
          rw [upd_ne ne]
          exact back (q4.trans q5) a o na h1
        · exact ((d4.mono (q5.wide zz) fun a y => .inl y).append (.cons (hz0.mono Kp.refl fun a y => .inl (zz a y)) .nil)).mono kD fun a y => .inl y
        · rw [filter_take_succ hxd]
          exact .take hp pb pe0
  · intro H' ⟨j', e', acc, ys, ha, hd, hp⟩
    rw [List.take_length] at hp
    have hbig : xs.length * (c1 + c2) ≤ M * (c1 + c2) := Nat.mul_le_mul_right _ hlen
    have kf : Ok W (n + (m + M * (c1 + c2))) Δ σ H' := (k1.kp e' j').up (by omega)
    have kr : Ok (W.add D fun _ o => o = .lst acc) _ Δ σ H' := inner _ H' ⟨j', e', acc, ys, ha, hd, by rw [List.take_length]; exact hp⟩ acc ha
    exact z (.ref D) H' kf (q1.trans e') ⟨.list ys, .lst ha nD (hd.mono Kp.refl fun a y => .inl (z_add a y)), hR xs ys px hp⟩
end
end Dv
set_option maxRecDepth 100000
set_option maxHeartbeats 2000000
/-! Dv5: promises of defs and their calls, the draws' bag, operators by data, statements. -/
namespace Dv
open PySem PySem.Spec PyProof.Rows L2

/-! ### promises -/
/-- data in, data out: pre, post, at most c draws of a bag that is not passed (0: none) -/
def spD (pre : List PyData → Prop) (post : List PyData → PyData → Prop) : Sp := fun xs H Q _ => ∃ (Z : Addr → Prop) (J : Nat → Hp → Prop) (n : Nat) (ds : List PyData),
  Wok Z J ∧ n ≤ BIG ∧ J n H ∧ Das Z H xs ds ∧ pre ds ∧ ∀ v H' d, Kp Z H H' → J n H' → Da Z H' v d → post ds d → Q v H'
/-- the bag: three ints, the last one at most n -/
def IsBag (n : Nat) (o : HO) : Prop := ∃ x y z : Int, o = .lst [.int x, .int y, .int z] ∧ 0 ≤ x ∧ 0 ≤ y ∧ y < 10000000000000000000000000000000000043 ∧ 0 ≤ z ∧ z ≤ (n : Int)
/-- the world has the bag at p -/
structure BagJ (Z : Addr → Prop) (J : Nat → Hp → Prop) (p : Addr) : Prop where
  z : Z p
  is : ∀ n H, J n H → ∃ o, H p = some o ∧ IsBag n o
  to : ∀ n m H H' o, J n H → n ≤ m → H' p = some o → IsBag m o → (∀ a, Z a → a ≠ p → H' a = H a) → J m H'
/-- a def that draws from the bag that it is passed first, at most c times -/
def spB (pre : List PyData → Prop) (c : List PyData → Nat) (post : List PyData → PyData → Prop) : Sp := fun xs H Q _ => ∃ (Z : Addr → Prop) (J : Nat → Hp → Prop) (n : Nat) (p : Addr) (ws : List V) (ds : List PyData),
  Wok Z J ∧ J n H ∧ BagJ Z J p ∧ n + c ds ≤ BIG ∧ xs = .ref p :: ws ∧ Das Z H ws ds ∧ pre ds ∧ ∀ v H' d, Kp Z H H' → J (n + c ds) H' → Da Z H' v d → post ds d → Q v H'
section
variable {W : Wd} {p D : Addr} {φ : Nat → HO → Prop}
theorem IsBag.up {n m : Nat} {o : HO} (h : IsBag n o) (l : n ≤ m) : IsBag m o := by
  obtain ⟨x, y, z, e, h1, h2, h3, h4, h5⟩ := h
  exact ⟨x, y, z, e, h1, h2, h3, h4, by omega⟩
theorem BagJ.add (b : BagJ W.Z W.J p) (h : ¬ W.Z D) : BagJ (W.add D φ).Z (W.add D φ).J p := by
  refine ⟨z_add p b.z, fun n H j => b.is n H (add_j.mp j).2, fun n m H H' o j l ho hb e => ?_⟩
  obtain ⟨⟨u, h1, k, l1, h2⟩, j2⟩ := add_j.mp j
  have nd : D ≠ p := fun c => h (c ▸ b.z)
  exact add_j.mpr ⟨⟨u, (e D (add_z.mpr (.inl rfl)) nd).trans h1, k, Nat.le_trans l1 l, h2⟩, b.to n m H H' o j2 l ho hb fun a z ne => e a (z_add a z) ne⟩
theorem BagJ.sub {H : Hp} (b : BagJ W.Z W.J p) : BagJ (W.sub H).Z (W.sub H).J p :=
  ⟨sub_zz.mpr b.z, fun n H j => b.is n H (sub_jj.mp j), fun n m H H' o j l ho hb e => sub_jj.mpr (b.to n m H H' o (sub_jj.mp j) l ho hb fun a z ne => e a (sub_zz.mpr z) ne)⟩
/-- a bag of one's own -/
theorem BagJ.own (w : Wok W.Z W.J) (h : ¬ W.Z p) : BagJ (W.add p IsBag).Z (W.add p IsBag).J p := by
  refine ⟨add_z.mpr (.inl rfl), fun n H j => ?_, fun n m H H' o j l ho hb e => ?_⟩
  · obtain ⟨o, h1, k, l, h2⟩ := (add_j.mp j).1
    exact ⟨o, h1, h2.up l⟩
  · refine add_j.mpr ⟨⟨o, ho, m, Nat.le_refl _, hb⟩, w.up n m H' (w.loc n H H' (add_j.mp j).2 fun a z => e a (z_add a z) fun c => h (c ▸ z)) l⟩
end

section
variable {X : Cx} {W : Wd} {Δ : List Sl} {m m1 m2 m3 : Nat} {tg e a b c : Expr} {es rest : List Expr} {A A1 A2 A3 : As W.Z} {L : List (As W.Z)} {P P1 P2 : Bool → Prop} {t ta tb : TE} {pos : Pos}
/-! ### calls of defs -/
variable {k : Nat} {f : Addr} {fd : FuncData} {ps : List Str} {x : Str} {p : Pos} {pre : List PyData → Prop} {post : List PyData → PyData → Prop}
theorem de_call {PR : PyData → Prop} (F : FnG X.prog X.w X.K X.mg X.base CX0 k f fd ps (spD pre post)) (gd : X.A.guards = some []) (rm : Room k X.A) (hg : Gl X x) (hm : X.mg x = some (.ref f)) (hk : PySem.W.keepIn X.K (.ref f) = true) (hb : Binds X.K fd ps [])
    (ha : DA X W Δ m (e :: es) L) (hA : ∀ H vs, Allo H L vs → ∃ ds, Das W.Z H vs ds ∧ pre ds ∧ ∀ d, post ds d → PR d)
    (h1 : (x == ("__debug__" : Str)) = false := by decide) (h2 : starEach (e :: es) X.env = (false, eval e X.env) :: starEach es X.env := by rfl) (h3 : (backTo pos (starEach es X.env)).any (·.1) = false := by rfl) :
    DE X W Δ m (.Call (.Name x p) (e :: es) [] pos) (dat W.Z PR) :=
  pe_to (pe_g F gd rm hg hm hk hb .nil pass0 ha h1 h2 h3) fun σ H Q ⟨n, l, k, z⟩ => ⟨n, l, k, fun vs H1 k1 q1 o1 => by
    obtain ⟨ds, hd, hp, hq⟩ := hA H1 vs o1
    refine ⟨W.Z, W.J, n + m, ds, k1.w, l, k1.j, by simpa using hd, hp, fun v H' d e j o q => z v H' (k1.kp e j) (q1.trans e) ⟨d, o, hq d q⟩⟩⟩
/-- .. in a def of which nothing is known of repr -/
theorem de_callO {PR : PyData → Prop} (F : FnOk X.prog X.w X.K X.mg X.base CX0 k f fd ps (spD pre post)) (rm : Room k X.A) (hg : Gl X x) (hm : X.mg x = some (.ref f)) (hk : PySem.W.keepIn X.K (.ref f) = true) (hb : Binds X.K fd ps [])
    (ha : DA X W Δ m (e :: es) L) (hA : ∀ H vs, Allo H L vs → ∃ ds, Das W.Z H vs ds ∧ pre ds ∧ ∀ d, post ds d → PR d)
    (h1 : (x == ("__debug__" : Str)) = false := by decide) (h2 : starEach (e :: es) X.env = (false, eval e X.env) :: starEach es X.env := by rfl) (h3 : (backTo pos (starEach es X.env)).any (·.1) = false := by rfl) :
    DE X W Δ m (.Call (.Name x p) (e :: es) [] pos) (dat W.Z PR) :=
  pe_to (pe_call F rm hg hm hk hb .nil pass0 ha h1 h2 h3) fun σ H Q ⟨n, l, k, z⟩ => ⟨n, l, k, fun vs H1 k1 q1 o1 => by
    obtain ⟨ds, hd, hp, hq⟩ := hA H1 vs o1
    refine ⟨W.Z, W.J, n + m, ds, k1.w, l, k1.j, by simpa using hd, hp, fun v H' d e j o q => z v H' (k1.kp e j) (q1.trans e) ⟨d, o, hq d q⟩⟩⟩
/-- a def that draws: the bag first -/
theorem de_draw {PR : PyData → Prop} {q : Addr} {cst : List PyData → Nat} {M : Nat} (F : FnG X.prog X.w X.K X.mg X.base CX0 k f fd ps (spB pre cst post)) (gd : X.A.guards = some []) (rm : Room k X.A) (hg : Gl X x) (hm : X.mg x = some (.ref f)) (hk : PySem.W.keepIn X.K (.ref f) = true) (hb : Binds X.K fd ps [])
    (B : BagJ W.Z W.J q) (h0 : DE X W Δ 0 e (raw W.Z (.ref q))) (ha : DA X W Δ m es L) (hA : ∀ H vs, Allo H L vs → ∃ ds, Das W.Z H vs ds ∧ pre ds ∧ cst ds ≤ M ∧ ∀ d, post ds d → PR d)
    (h1 : (x == ("__debug__" : Str)) = false := by decide) (h2 : starEach (e :: es) X.env = (false, eval e X.env) :: starEach es X.env := by rfl) (h3 : (backTo pos (starEach es X.env)).any (·.1) = false := by rfl) :
    DE X W Δ (m + M) (.Call (.Name x p) (e :: es) [] pos) (dat W.Z PR) :=
  pe_to (pe_g F gd rm hg hm hk hb .nil pass0 (da_cons h0 ha h2) h1 h2 h3) fun σ H Q ⟨n, l, k, z⟩ => ⟨n, by omega, k, fun vs H1 k1 q1 o1 => by
    cases o1 with
    | cons o1 o2 =>
      cases (show _ = V.ref q from o1)
      obtain ⟨ds, hd, hp, hc, hq⟩ := hA H1 _ o2
      have e0 : n + (0 + m) = n + m := by omega
      rw [e0] at k1
      refine ⟨W.Z, W.J, n + m, q, _, ds, k1.w, k1.j, B, by omega, by rw [List.append_nil], hd, hp, fun v H' d e j o r => z v H' ((k1.kp e j).up (by omega)) (q1.trans e) ⟨d, o, hq d r⟩⟩⟩
theorem allo1 {P : PyData → Prop} {H : Hp} {vs : List V} (h : Allo H [dat W.Z P] vs) : ∃ d, Das W.Z H vs [d] ∧ P d := by
  cases h with
  | cons a b =>
    cases b
    obtain ⟨d, h, p⟩ := a
    exact ⟨d, .cons h .nil, p⟩
theorem allo2 {P1 P2 : PyData → Prop} {H : Hp} {vs : List V} (h : Allo H [dat W.Z P1, dat W.Z P2] vs) : ∃ d1 d2, Das W.Z H vs [d1, d2] ∧ P1 d1 ∧ P2 d2 := by
  cases h with
  | cons a b =>
    obtain ⟨d, h, p⟩ := a
    obtain ⟨d2, h2, p2⟩ := allo1 b
    cases h2 with
    | cons h2 h3 => exact ⟨d, d2, .cons h (.cons h2 h3), p, p2⟩

/-! ### operators -/
theorem o_int {C : Int → Int → Prop} {g : Int → Int → Int} {i j : Int} (h : C i j) : Op2 W (rI C fun i j => .int (g i j)) (eqd W.Z (.int i)) (eqd W.Z (.int j)) (eqd W.Z (.int (g i j))) := fun n H v u w jj o1 o2 Q q => by
  have o1 := eqd_ok o1
  have o2 := eqd_ok o2
  cases o1
  cases o2
  exact ⟨i, j, rfl, rfl, h, q _ H Ext.refl (ok_eqd (.int _))⟩
theorem o_int0 {g : Int → Int → Int} {i j : Int} : Op2 W (rI0 fun i j => .int (g i j)) (eqd W.Z (.int i)) (eqd W.Z (.int j)) (eqd W.Z (.int (g i j))) := fun n H v u w jj o1 o2 Q q => by
  have o1 := eqd_ok o1
  have o2 := eqd_ok o2
  cases o1
  cases o2
  exact ⟨i, j, rfl, rfl, q _ H Ext.refl (ok_eqd (.int _))⟩
theorem o_cmp {g : Int → Int → Bool} {i j : Int} : Op2 W (rI0 fun i j => .bl (g i j)) (eqd W.Z (.int i)) (eqd W.Z (.int j)) (bol W.Z (· = g i j)) := fun n H v u w jj o1 o2 Q q => by
  have o1 := eqd_ok o1
  have o2 := eqd_ok o2
  cases o1
  cases o2
  exact ⟨i, j, rfl, rfl, q _ H Ext.refl ⟨_, rfl, rfl⟩⟩
theorem o_intp {C : Int → Int → Prop} {g : Int → Int → Int} {Q1 Q2 Q3 : Int → Prop} (h : ∀ i j, Q1 i → Q2 j → C i j ∧ Q3 (g i j)) : Op2 W (rI C fun i j => .int (g i j)) (intp W.Z Q1) (intp W.Z Q2) (intp W.Z Q3) := fun n H v u w jj o1 o2 Q q => by
  obtain ⟨_, d1, i, rfl, p1⟩ := o1
  obtain ⟨_, d2, j, rfl, p2⟩ := o2
  cases d1
  cases d2
  obtain ⟨h1, h2⟩ := h i j p1 p2
  exact ⟨i, j, rfl, rfl, h1, q _ H Ext.refl ⟨_, .int _, _, rfl, h2⟩⟩
theorem o_intp0 {g : Int → Int → Int} {Q1 Q2 Q3 : Int → Prop} (h : ∀ i j, Q1 i → Q2 j → Q3 (g i j)) : Op2 W (rI0 fun i j => .int (g i j)) (intp W.Z Q1) (intp W.Z Q2) (intp W.Z Q3) := fun n H v u w jj o1 o2 Q q => by
  obtain ⟨_, d1, i, rfl, p1⟩ := o1
  obtain ⟨_, d2, j, rfl, p2⟩ := o2
  cases d1
  cases d2
  exact ⟨i, j, rfl, rfl, q _ H Ext.refl ⟨_, .int _, _, rfl, h i j p1 p2⟩⟩
theorem o_cmpp {g : Int → Int → Bool} {Q1 Q2 : Int → Prop} {Q3 : Bool → Prop} (h : ∀ i j, Q1 i → Q2 j → Q3 (g i j)) : Op2 W (rI0 fun i j => .bl (g i j)) (intp W.Z Q1) (intp W.Z Q2) (bol W.Z Q3) := fun n H v u w jj o1 o2 Q q => by
  obtain ⟨_, d1, i, rfl, p1⟩ := o1
  obtain ⟨_, d2, j, rfl, p2⟩ := o2
  cases d1
  cases d2
  exact ⟨i, j, rfl, rfl, q _ H Ext.refl ⟨_, rfl, h i j p1 p2⟩⟩
/-- ** of a wide base -/
def CPowW (i j : Int) : Prop := 0 ≤ j ∧ j ≤ 1000 ∧ i.natAbs < 2 ^ 1000
theorem bits_le {i : Int} {a : Nat} (h0 : 0 < a) (h : i.natAbs < 2 ^ a) : Builtin.Int.intBits i ≤ a := by
  have := PySem.Flt.log2_lt_of h0 h
  unfold Builtin.Int.intBits
  split <;> omega
theorem op_powW : OpR X (binaryOp .Pow) (rI CPowW fun i j => .int (i ^ j.toNat)) := opI fun i j _ _ _ _ _ hc q => pow_int hc.1 (by
  have h := bits_le (by decide : 0 < 1000) hc.2.2
  have h1 := hc.1
  have h2 := hc.2.1
  have : (Builtin.Int.intBits i : Int) * j ≤ 1000 * 1000 := Int.mul_le_mul (by omega) h2 h1 (by omega)
  have e : (2 : Int) ^ 27 = 134217728 := by decide
  omega) q
/-- list + list -/
theorem o_cat {xs ys : List PyData} (h : xs.length + ys.length ≤ sizeLine) : Op2 W rCat (eqd W.Z (.list xs)) (eqd W.Z (.list ys)) (eqd W.Z (.list (xs ++ ys))) := fun n H v u w jj o1 o2 Q q => by
  have o1 := eqd_ok o1
  have o2 := eqd_ok o2
  cases o1 with
  | lst r1 n1 d1 =>
    cases o2 with
    | lst r2 n2 d2 =>
      refine ⟨_, _, _, _, rfl, rfl, r1, r2, by rw [d1.length, d2.length]; exact h, fun p hp => q _ _ (Ext.new hp) (ok_eqd (.lst upd_same (w.new jj hp) ((d1.append d2).kp (Ext.new hp).kp)))⟩
theorem o_catp {Q1 Q2 Q3 : List PyData → Prop} (h : ∀ xs ys, Q1 xs → Q2 ys → xs.length + ys.length ≤ sizeLine ∧ Q3 (xs ++ ys)) : Op2 W rCat (dat W.Z fun d => ∃ xs, d = .list xs ∧ Q1 xs) (dat W.Z fun d => ∃ xs, d = .list xs ∧ Q2 xs) (dat W.Z fun d => ∃ xs, d = .list xs ∧ Q3 xs) :=
  fun n H v u w jj o1 o2 Q q => by
  obtain ⟨_, o1, xs, rfl, p1⟩ := o1
  obtain ⟨_, o2, ys, rfl, p2⟩ := o2
  obtain ⟨hl, h3⟩ := h xs ys p1 p2
  exact o_cat hl n H v u w jj (ok_eqd o1) (ok_eqd o2) Q fun w H' e o => q w H' e ⟨_, eqd_ok o, _, rfl, h3⟩
/-- text + text -/
theorem o_catS {a b : Str} (h : a.length + b.length ≤ sizeLine) : Op2 W (fun x y H Q => ∃ i j, x = .str i ∧ y = .str j ∧ i.length + j.length ≤ sizeLine ∧ Q (.str (i ++ j)) H) (eqd W.Z (.str a)) (eqd W.Z (.str b)) (eqd W.Z (.str (a ++ b))) := fun n H v u w jj o1 o2 Q q => by
  have o1 := eqd_ok o1
  have o2 := eqd_ok o2
  cases o1
  cases o2
  exact ⟨a, b, rfl, rfl, h, q _ H Ext.refl (ok_eqd (.str _))⟩
/-- ==, != of data without dicts -/
theorem o_eq {K : PySem.W.Frag} {d e : PyData} (hd : SeqAt.shaped d = true) (he : SeqAt.shaped e = true) : Op2 W (rEqD K) (eqd W.Z d) (eqd W.Z e) (bol W.Z (· = PyData.eqv d e)) := fun n H v u w jj o1 o2 Q q => by
  have lay : ∀ {x : PyData}, SeqAt.shaped x = true → x.hasDict = false := fun h => PyData.hasDict_of_canLay _ (SeqAt.canLay_of_shaped h)
  exact ⟨d, e, (eqd_ok o1).dp (lay hd), (eqd_ok o2).dp (lay he), hd, he, q _ H Ext.refl ⟨_, rfl, rfl⟩⟩
theorem o_ne {K : PySem.W.Frag} {d e : PyData} (hd : SeqAt.shaped d = true) (he : SeqAt.shaped e = true) : Op2 W (rNeD K) (eqd W.Z d) (eqd W.Z e) (bol W.Z (· = !PyData.eqv d e)) := fun n H v u w jj o1 o2 Q q => by
  have lay : ∀ {x : PyData}, SeqAt.shaped x = true → x.hasDict = false := fun h => PyData.hasDict_of_canLay _ (SeqAt.canLay_of_shaped h)
  exact ⟨d, e, (eqd_ok o1).dp (lay hd), (eqd_ok o2).dp (lay he), hd, he, q _ H Ext.refl ⟨_, rfl, rfl⟩⟩
/-- a sign in a text -/
theorem o_in {x : Nat} {z : Str} : Op2 W rInS (eqd W.Z (.str ⟨#[x]⟩)) (eqd W.Z (.str z)) (bol W.Z (· = decide (x ∈ z.cps.toList))) := fun n H v u w jj o1 o2 Q q => by
  have o1 := eqd_ok o1
  have o2 := eqd_ok o2
  cases o1
  cases o2
  exact ⟨x, z, rfl, rfl, q _ H Ext.refl ⟨_, rfl, rfl⟩⟩
theorem o_notin {x : Nat} {z : Str} : Op2 W rNotInS (eqd W.Z (.str ⟨#[x]⟩)) (eqd W.Z (.str z)) (bol W.Z (· = !decide (x ∈ z.cps.toList))) := fun n H v u w jj o1 o2 Q q => by
  have o1 := eqd_ok o1
  have o2 := eqd_ok o2
  cases o1
  cases o2
  exact ⟨x, z, rfl, rfl, q _ H Ext.refl ⟨_, rfl, rfl⟩⟩
/-- xs[i] -/
theorem ix_das {Z : Addr → Prop} {H : Hp} {vs : List V} {ds : List PyData} {i : Int} {d : PyData} (h : Das Z H vs ds) (e : atI ds i = some d) : ∃ v, atI vs i = some v ∧ Da Z H v d := by
  unfold atI at e ⊢
  rw [h.length]
  match q : ixN ds.length i with
  | none =>
    rw [q] at e
    cases e
  | some j =>
    rw [q] at e
    exact h.get e
theorem o_ixL {K : PySem.W.Frag} {ds : List PyData} {Qi : Int → Prop} {R : PyData → Prop} (h : ∀ i, Qi i → ∃ d, atI ds i = some d ∧ R d) : Op2 W (rIxL K) (eqd W.Z (.list ds)) (intp W.Z Qi) (dat W.Z R) := fun n H v u w jj o1 o2 Q q => by
  have o1 := eqd_ok o1
  obtain ⟨_, o2, i, rfl, p⟩ := o2
  cases o2
  cases o1 with
  | lst r1 n1 d1 =>
    obtain ⟨d, h1, h2⟩ := h i p
    obtain ⟨v, h3, h4⟩ := ix_das d1 h1
    exact ⟨_, _, i, v, rfl, rfl, .inl (.inl r1), h3, q v H Ext.refl ⟨d, h4, h2⟩⟩
theorem de_ix {r : R2} (hr : IxR X r) (ha : DE X W Δ m1 a A1) (hb : DE X W Δ m2 b A2) (h : Op2 W r A1 A2 A3) (hs : PlainIx b) : DE X W Δ (m1 + m2) (.Subscript a b pos) A3 :=
  pe_to (pe_ix hr ha hb hs) fun σ H Q ⟨n, l, k, z⟩ => ⟨n, big1 l, k, fun v H1 k1 q1 o1 => ⟨n + m1, big2 l, k1, fun u H2 k2 q2 o2 => h _ H2 v u k2.w k2.j (A1.mono q2 o1) o2 Q fun w H3 e o => z w H3 (k2.as.ext e) ((q1.trans q2).trans e.kp) o⟩⟩
/-- a slice's ends -/
def tDO (W : Wd) (Δ : List Sl) (c : Nat) (P : Option Int → Prop) : TO := fun σ H Q => ∃ n, n + c ≤ BIG ∧ Ok W n Δ σ H ∧ ∀ o H', Ok W (n + c) Δ σ H' → Kp W.Z H H' → P o → Q o H'
theorem do_none : PO X none (tDO W Δ 0 (· = none)) := ⟨fun pins s σ H Q I ⟨n, l, k, z⟩ => po_none.run pins s σ H Q I (z none H k Kp.refl rfl)⟩
theorem do_some {Qi : Int → Prop} (h : DE X W Δ m e (intp W.Z Qi)) : PO X (some e) (tDO W Δ m fun o => ∃ i, o = some i ∧ Qi i) :=
  ⟨fun pins s σ H Q I ⟨n, l, k, z⟩ => (po_some h).run pins s σ H Q I ⟨n, l, k, fun v H1 k1 q1 o1 => by
    obtain ⟨_, o, i, rfl, p⟩ := o1
    cases o
    exact ⟨i, rfl, z _ H1 k1 q1 ⟨i, rfl, p⟩⟩⟩⟩
def cutD (xs : List PyData) (lo hi : Option Int) : List PyData := (xs.drop (HT.sIx xs.length 0 lo)).take (HT.sIx xs.length xs.length hi - HT.sIx xs.length 0 lo)
theorem cut_das {Z : Addr → Prop} {H : Hp} {vs : List V} {ds : List PyData} (lo hi : Option Int) (h : Das Z H vs ds) : Das Z H (cutV vs lo hi) (cutD ds lo hi) := by
  unfold cutV cutD
  rw [h.length]
  exact (h.drop _).take _
theorem de_slL {lo hi : Option Expr} {p2 : Pos} {Po Ph : Option Int → Prop} {ds : List PyData} {R : PyData → Prop} (he : DE X W Δ m1 e (eqd W.Z (.list ds))) (hl : PO X lo (tDO W Δ m2 Po)) (hu : PO X hi (tDO W Δ m3 Ph)) (hR : ∀ x y, Po x → Ph y → R (.list (cutD ds x y))) :
    DE X W Δ (m1 + (m2 + m3)) (.Subscript e (.Slice lo hi none p2) pos) (dat W.Z R) :=
  pe_to (pe_slice sl_list he hl hu) fun σ H Q ⟨n, l, k, z⟩ => ⟨n, big1 l, k, fun v H1 k1 q1 o1 => ⟨n + m1, by omega, k1, fun x H2 k2 q2 px => ⟨n + m1 + m2, by omega, k2, fun y H3 k3 q3 py => by
    have o := eqd_ok ((eqd W.Z (.list ds)).mono (q2.trans q3) o1)
    cases o with
    | lst r nz hd =>
      exact ⟨_, _, rfl, .inl (.inl r), fun p hp => z _ _ ((k3.ext (.new hp)).up (by omega)) (((q1.trans q2).trans q3).trans (Ext.new hp).kp) ⟨_, .lst upd_same (k3.w.new k3.j hp) ((cut_das x y hd).kp (Ext.new hp).kp), hR x y px py⟩⟩⟩⟩⟩

/-! ### built-ins -/
theorem allo_1 {A : As W.Z} {H : Hp} {vs : List V} (h : Allo H [A] vs) : ∃ v, vs = [v] ∧ A.ok H v := by
  cases h with
  | cons a b =>
    cases b
    exact ⟨_, rfl, a⟩
theorem allo_2 {A B : As W.Z} {H : Hp} {vs : List V} (h : Allo H [A, B] vs) : ∃ v u, vs = [v, u] ∧ A.ok H v ∧ B.ok H u := by
  cases h with
  | cons a b =>
    obtain ⟨u, rfl, h2⟩ := allo_1 b
    exact ⟨_, u, rfl, a, h2⟩
/-- the length of data -/
def lenD : PyData → Option Nat
  | .list xs => some xs.length
  | .tuple xs => some xs.length
  | .str x => if x.length ≤ sizeLine then some x.length else none
  | _ => none
theorem c_len {K : PySem.W.Frag} {d : PyData} {k : Nat} (h : lenD d = some k) : Cal W (fun xs H Q => ∃ x n, xs = [x] ∧ LenV K x H n ∧ Q (.int n) H) [eqd W.Z d] (eqd W.Z (.int k)) := fun n H vs w jj o Q q => by
  obtain ⟨v, rfl, o'⟩ := allo_1 o
  have o := eqd_ok o'
  cases o with
  | lst r nz hd =>
    cases (show some _ = some k from h)
    exact ⟨_, _, rfl, .inl ⟨_, .inl (.inl r), rfl⟩, by rw [hd.length]; exact q _ H Ext.refl (ok_eqd (.int _))⟩
  | tup r nz hd =>
    cases (show some _ = some k from h)
    exact ⟨_, _, rfl, .inr ⟨_, .inl (.inl r), rfl⟩, by rw [hd.length]; exact q _ H Ext.refl (ok_eqd (.int _))⟩
  | str x =>
    have h' : (if x.length ≤ sizeLine then some x.length else none) = some k := h
    by_cases hz : x.length ≤ sizeLine
    · rw [if_pos hz] at h'
      cases h'
      exact ⟨_, _, rfl, ⟨hz, rfl⟩, q _ H Ext.refl (ok_eqd (.int _))⟩
    · rw [if_neg hz] at h'
      cases h'
  | _ => cases h
/-- the class of data, by its name -/
def tyD : PyData → String
  | .none => "NoneType"
  | .bool _ => "bool"
  | .int _ => "int"
  | .str _ => "str"
  | .list _ => "list"
  | .tuple _ => "tuple"
  | .dict _ => "dict"
theorem ty_da {K : PySem.W.Frag} {Z : Addr → Prop} {H : Hp} {v : V} {d : PyData} (h : Da Z H v d) : TyX K H v (.type (tyD d)) := by
  cases h with
  | non => exact .base .non
  | bl b => exact .base (.bl b)
  | int i => exact .base (.int i)
  | str x => exact .base (.str x)
  | lst r _ _ => exact .base (.lst r)
  | tup r _ _ => exact .base (.tup r)
  | dct r _ _ _ => exact .base (.dK r)
theorem c_isi {K : PySem.W.Frag} {d : PyData} {T : String} {b : Bool} (h : kitB (tyD d) T = some b) : Cal W (rIsi K) [eqd W.Z d, raw W.Z (.ty T)] (eqd W.Z (.bool b)) := fun n H vs w jj o Q q => by
  obtain ⟨v, u, rfl, o1, rfl⟩ := allo_2 o
  exact ⟨v, .ty T, .type (tyD d), .type T, b, rfl, .ty T, ty_da (eqd_ok o1), kit_ty h, q _ H Ext.refl (ok_eqd (.bl _))⟩
theorem c_all {K : PySem.W.Frag} {bs : List Bool} : Cal W (rAll K) [eqd W.Z (.list (bs.map PyData.bool))] (eqd W.Z (.bool (bs.all id))) := fun n H vs w jj o Q q => by
  obtain ⟨v, rfl, o'⟩ := allo_1 o
  have o := eqd_ok o'
  cases o with
  | lst r nz hd =>
    have e := hd.bls
    subst e
    exact ⟨_, bs, rfl, .inl (.inl r), q _ H Ext.refl (ok_eqd (.bl _))⟩
theorem c_abs {i : Int} : Cal W (fun xs H Q => ∃ i, xs = [.int i] ∧ Q (.int (if i < 0 then -i else i)) H) [eqd W.Z (.int i)] (eqd W.Z (.int (if i < 0 then -i else i))) := fun n H vs w jj o Q q => by
  obtain ⟨v, rfl, o'⟩ := allo_1 o
  have o := eqd_ok o'
  cases o
  exact ⟨i, rfl, q _ H Ext.refl (ok_eqd (.int _))⟩
theorem c_max2 {i j : Int} : Cal W (fun xs H Q => ∃ i j, xs = [.int i, .int j] ∧ Q (.int (if j > i then j else i)) H) [eqd W.Z (.int i), eqd W.Z (.int j)] (eqd W.Z (.int (if j > i then j else i))) := fun n H vs w jj o Q q => by
  obtain ⟨v, u, rfl, o1, o2⟩ := allo_2 o
  have o1 := eqd_ok o1
  have o2 := eqd_ok o2
  cases o1
  cases o2
  exact ⟨i, j, rfl, q _ H Ext.refl (ok_eqd (.int _))⟩
theorem c_min2 {i j : Int} : Cal W (fun xs H Q => ∃ i j, xs = [.int i, .int j] ∧ Q (.int (if j < i then j else i)) H) [eqd W.Z (.int i), eqd W.Z (.int j)] (eqd W.Z (.int (if j < i then j else i))) := fun n H vs w jj o Q q => by
  obtain ⟨v, u, rfl, o1, o2⟩ := allo_2 o
  have o1 := eqd_ok o1
  have o2 := eqd_ok o2
  cases o1
  cases o2
  exact ⟨i, j, rfl, q _ H Ext.refl (ok_eqd (.int _))⟩
/-- tuple(list) -/
theorem c_tuple {K : PySem.W.Frag} {ds : List PyData} : Cal W (fun xs H Q => ∃ p ys, xs = [.ref p] ∧ ((SqL K H p ys ∧ ∀ l, H l = none → Q (.ref l) (upd H l (.tup ys))) ∨ (SqT K H p ys ∧ Q (.ref p) H))) [eqd W.Z (.list ds)] (eqd W.Z (.tuple ds)) := fun n H vs w jj o Q q => by
  obtain ⟨v, rfl, o'⟩ := allo_1 o
  have o := eqd_ok o'
  cases o with
  | lst r nz hd => exact ⟨_, _, rfl, .inl ⟨.inl (.inl r), fun l hl => q _ _ (Ext.new hl) (ok_eqd (.tup upd_same (w.new jj hl) (hd.kp (Ext.new hl).kp)))⟩⟩
/-- list(list), list(tuple) -/
theorem c_list {K : PySem.W.Frag} {ds : List PyData} {d : PyData} (hd : d = .list ds ∨ d = .tuple ds) : Cal W (fun xs H Q => ∃ p ys, xs = [.ref p] ∧ (SqL K H p ys ∨ SqT K H p ys) ∧ ∀ l, H l = none → Q (.ref l) (upd H l (.lst ys))) [eqd W.Z d] (eqd W.Z (.list ds)) := fun n H vs w jj o Q q => by
  obtain ⟨v, rfl, o'⟩ := allo_1 o
  have o := eqd_ok o'
  rcases hd with rfl | rfl
  · cases o with
    | lst r nz h => exact ⟨_, _, rfl, .inl (.inl (.inl r)), fun l hl => q _ _ (Ext.new hl) (ok_eqd (.lst upd_same (w.new jj hl) (h.kp (Ext.new hl).kp)))⟩
  · cases o with
    | tup r nz h => exact ⟨_, _, rfl, .inr (.inl (.inl r)), fun l hl => q _ _ (Ext.new hl) (ok_eqd (.lst upd_same (w.new jj hl) (h.kp (Ext.new hl).kp)))⟩
theorem c_repr {d : PyData} (h1 : d.showable = true) (h2 : d.shown.length ≤ sizeLine) (h3 : d.depth ≤ 60) : Cal W rRepr [eqd W.Z d] (eqd W.Z (.str d.shown)) := fun n H vs w jj o Q q => by
  obtain ⟨v, rfl, o'⟩ := allo_1 o
  exact ⟨W.Z, v, d, rfl, eqd_ok o', h1, h2, h3, q _ H Ext.refl (ok_eqd (.str _))⟩
/-- sep.join(list of texts) -/
theorem de_join {o : Expr} {apos : Pos} {z : Str} {R : PyData → Prop} {Ql : List Str → Prop} (ho : DE X W Δ m1 o (eqd W.Z (.str z))) (he : DE X W Δ m2 e (dat W.Z fun d => ∃ ys, d = .list (ys.map PyData.str) ∧ Ql ys)) (hz : ∀ ys, Ql ys → (ys.map (·.length)).sum + ys.length * z.length ≤ 16777216)
    (hR : ∀ ys, Ql ys → R (.str (Txt.join z ys))) (hs : starEach [e] X.env = [(false, eval e X.env)] := by rfl) (hbase : attributeBase o "join" X.env (eval o X.env) = eval o X.env := by rfl) (hline : (apos.endLine == pos.line) = true := by rfl) :
    DE X W Δ (m1 + m2) (.Call (.Attribute o "join" apos) [e] [] pos) (dat W.Z R) :=
  pe_to (pe_join ho he hs hbase hline) fun σ H Q ⟨n, l, k, f⟩ => ⟨n, big1 l, k, fun v H1 k1 q1 o1 => by
    have o := eqd_ok o1
    cases o
    refine ⟨⟨z, rfl⟩, n + m1, big2 l, k1, fun u H2 k2 q2 o2 => ?_⟩
    obtain ⟨_, hd, ys, rfl, hq⟩ := o2
    cases hd with
    | lst r nz hd =>
      have e := hd.strs
      subst e
      exact ⟨z, _, ys, rfl, rfl, .inl (.inl (.inl r)), hz ys hq, f _ H2 k2.as (q1.trans q2) ⟨_, .str _, hR ys hq⟩⟩⟩

/-! ### statements -/
def HSt (D : Ends) (pre : L2.St → Hp → Prop) : TS := fun D' σ H => pre σ H ∧ (∀ σ H, D.nx σ H → D'.nx σ H) ∧ (∀ v H, D.rt v H → D'.rt v H) ∧ (∀ σ H, D.bk σ H → D'.bk σ H) ∧ (∀ σ H, D.ct σ H → D'.ct σ H)
abbrev HS (X : Cx) (pre : L2.St → Hp → Prop) (sts : List Stmt) (D : Ends) : Prop := PSs X sts (HSt D pre)
abbrev H1 (X : Cx) (pre : L2.St → Hp → Prop) (st : Stmt) (D : Ends) : Prop := PS X st (HSt D pre)
variable {D : Ends} {st : Stmt} {sts : List Stmt} {pr mid : L2.St → Hp → Prop} {N : Nat}
theorem hs_pre {pr' : L2.St → Hp → Prop} (h : HS X pr sts D) (f : ∀ σ H, pr' σ H → pr σ H) : HS X pr' sts D := pss_to h fun _ _ _ z => ⟨f _ _ z.1, z.2⟩
theorem hs_ex {α : Type} {pr : α → L2.St → Hp → Prop} (h : ∀ a, HS X (pr a) sts D) : HS X (fun σ H => ∃ a, pr a σ H) sts D := ⟨fun pins s σ H D' I z => by
  obtain ⟨⟨a, z1⟩, z2⟩ := z
  exact (h a).run pins s σ H D' I ⟨z1, z2⟩⟩
theorem hs_and {p : Prop} (h : p → HS X pr sts D) : HS X (fun σ H => p ∧ pr σ H) sts D := ⟨fun pins s σ H D' I z => by
  obtain ⟨⟨a, z1⟩, z2⟩ := z
  exact (h a).run pins s σ H D' I ⟨z1, z2⟩⟩
theorem hs_nil (h : ∀ σ H, pr σ H → D.nx σ H) : HS X pr [] D := pss_to pss_nil fun _ _ _ z => z.2.1 _ _ (h _ _ z.1)
theorem hs_cons (h1 : H1 X pr st { D with nx := mid }) (h2 : HS X mid sts D) : HS X pr (st :: sts) D := pss_to (pss_cons h1 h2) fun D' σ H z => ⟨z.1, fun σ1 H1 m => ⟨m, z.2⟩, z.2.2⟩
theorem hs_one (h1 : H1 X pr st D) : HS X pr [st] D := pss_to (pss_one h1) fun _ _ _ z => z
/-- x = e, e known exactly -/
theorem hs_set {i : Nat} {y : Str} {pos' : Pos} {d : PyData} (hN : X.N.Nodup) (hi : X.N[i]? = some y) (hx : Loc X.env.scope y) (he : DE X W Δ m e (eqd W.Z d)) (hb : N + m ≤ BIG) (hr : HS X (Ok W (N + m) (Δ.set i (.val d))) sts D)
    (hs : swapsWith e (some (.Name y pos')) pos.line X.env = pure false := by rfl) (hf : X.fn y = true ∨ X.env.scope.names.lookup y = some .local := by first | exact .inl rfl | exact .inr rfl | assumption) : HS X (Ok W N Δ) (.Assign [.Name y pos'] e pos :: sts) D :=
  hs_cons (ps_to (ps_set hN hi hx he hs hf) fun D' σ H z => ⟨N, hb, z.1, fun v H1 k q o => z.2.1 _ _ (k.put i (s := .val d) ⟨v, rfl, eqd_ok o⟩)⟩) hr
/-- x = e, e data with P -/
theorem hs_setP {i : Nat} {y : Str} {pos' : Pos} {Pd : PyData → Prop} (hN : X.N.Nodup) (hi : X.N[i]? = some y) (hx : Loc X.env.scope y) (he : DE X W Δ m e (dat W.Z Pd)) (hb : N + m ≤ BIG) (hr : ∀ d, Pd d → HS X (Ok W (N + m) (Δ.set i (.val d))) sts D)
    (hs : swapsWith e (some (.Name y pos')) pos.line X.env = pure false := by rfl) (hf : X.fn y = true ∨ X.env.scope.names.lookup y = some .local := by first | exact .inl rfl | exact .inr rfl | assumption) : HS X (Ok W N Δ) (.Assign [.Name y pos'] e pos :: sts) D :=
  hs_cons (mid := fun σ H => ∃ d, Pd d ∧ Ok W (N + m) (Δ.set i (.val d)) σ H) (ps_to (ps_set hN hi hx he hs hf) fun D' σ H z => ⟨N, hb, z.1, fun v H1 k q o => by
    obtain ⟨d, o, p⟩ := o
    exact z.2.1 _ _ ⟨d, p, k.put i (s := .val d) ⟨v, rfl, o⟩⟩⟩) (hs_ex fun d => hs_and (hr d))
/-- return e -/
theorem hs_ret (he : DE X W Δ m e A) (hb : N + m ≤ BIG) (hr : ∀ v σ H, Ok W (N + m) Δ σ H → A.ok H v → D.rt v H) : HS X (Ok W N Δ) (.Return (some e) pos :: sts) D :=
  hs_cons (mid := fun _ _ => False) (ps_to (ps_ret he) fun D' σ H z => ⟨N, hb, z.1, fun v H1 k q o => z.2.2.1 _ _ (hr v σ H1 k o)⟩) ⟨fun _ _ _ _ _ _ z => z.1.elim⟩
/-- if c: (leaves); the rest -/
theorem hs_guard {b1 : List Stmt} (ht : DT X W Δ m c P) (hb : N + m ≤ BIG) (h1 : P true → HS X (Ok W (N + m) Δ) b1 { D with nx := fun _ _ => False }) (h2 : P false → HS X (Ok W (N + m) Δ) sts D) : HS X (Ok W N Δ) (.If c b1 [] pos :: sts) D := by
  have t1 : PSs X b1 (HSt { D with nx := fun _ _ => False } fun σ H => P true ∧ Ok W (N + m) Δ σ H) := hs_and h1
  refine hs_cons (mid := fun σ H => P false ∧ Ok W (N + m) Δ σ H) (ps_to (ps_if ht t1 pss_nil) fun D' σ H z => ⟨N, hb, z.1, fun x H1 k q p => ?_⟩) (hs_and h2)
  cases x with
  | true => exact ⟨⟨p, k⟩, fun _ _ f => f.elim, z.2.2⟩
  | false => exact z.2.1 _ _ ⟨p, k⟩
/-- if c: b1 else: b2; the rest from mid -/
theorem hs_if {b1 b2 : List Stmt} (ht : DT X W Δ m c P) (hb : N + m ≤ BIG) (h1 : P true → HS X (Ok W (N + m) Δ) b1 { D with nx := mid }) (h2 : P false → HS X (Ok W (N + m) Δ) b2 { D with nx := mid }) (hr : HS X mid sts D) : HS X (Ok W N Δ) (.If c b1 b2 pos :: sts) D := by
  have t1 : PSs X b1 (HSt { D with nx := mid } fun σ H => P true ∧ Ok W (N + m) Δ σ H) := hs_and h1
  have t2 : PSs X b2 (HSt { D with nx := mid } fun σ H => P false ∧ Ok W (N + m) Δ σ H) := hs_and h2
  refine hs_cons (mid := mid) (ps_to (ps_if ht t1 t2) fun D' σ H z => ⟨N, hb, z.1, fun x H1 k q p => ?_⟩) hr
  cases x with
  | true => exact ⟨⟨p, k⟩, z.2⟩
  | false => exact ⟨⟨p, k⟩, z.2⟩
def forB (W : Wd) (Ni : Nat → Nat) (Γ : List PyData → Nat → List Sl) (j : Nat) (Ps : List PyData → Prop) (rt : VK) : TS := fun D' σ H' => ∃ H xs i d, Kp W.Zb W.H0 H ∧ Ps xs ∧ xs[i]? = some d ∧
  HSt { nx := Ok (W.sub H) (Ni (i + 1)) (Γ xs (i + 1)), ct := Ok (W.sub H) (Ni (i + 1)) (Γ xs (i + 1)), bk := fun _ _ => False, rt := rt } (Ok (W.sub H) (Ni i) ((Γ xs i).set j (.val d))) D' σ H'
/-- a for over what is gone over: the slots Γ i behind i items, at most N i draws -/
theorem hs_for {iter : Expr} {body : List Stmt} {x : Str} {px : Pos} {j : Nat} {Ps : List PyData → Prop} {Γ : List PyData → Nat → List Sl} {Ni : Nat → Nat} (hp : PassesOwn (model X.prog X.w) X.A X.env X.xe) (hc : X.calm = true)
    (hi : DI X W Δ m (.Name x px) iter Ps) (hb : N + m ≤ BIG) (hx : PG X (.Name x px) (gName j))
    (h0 : ∀ xs, Ps xs → Less (Γ xs 0) Δ) (hN0 : N + m ≤ Ni 0)
    (hs : ∀ (H : Hp) xs i d, Kp W.Zb W.H0 H → Ps xs → xs[i]? = some d → HS X (Ok (W.sub H) (Ni i) ((Γ xs i).set j (.val d))) body { nx := Ok (W.sub H) (Ni (i + 1)) (Γ xs (i + 1)), ct := Ok (W.sub H) (Ni (i + 1)) (Γ xs (i + 1)), bk := fun _ _ => False, rt := D.rt })
    (hr : ∀ xs, Ps xs → HS X (Ok W (Ni xs.length) (Γ xs xs.length)) sts D)
    (hf : ∀ x, foldedSetIterable iter X.env x = pure x := by intro _; rfl) : HS X (Ok W N Δ) (.For (.Name x px) iter body [] pos :: sts) D := by
  have tb : PSs X body (forB W Ni Γ j Ps D.rt) :=
    ⟨fun pins s σ H' D' I ⟨H, xs, i, d, p0, p1, p2, z⟩ => (hs H xs i d p0 p1 p2).run pins s σ H' D' I z⟩
  refine hs_cons (mid := fun σ H => ∃ xs, Ps xs ∧ Ok W (Ni xs.length) (Γ xs xs.length) σ H) (ps_to (ps_for hp hc hi hx tb hf) fun D' σ H z => ⟨N, hb, z.1, fun J H1 xs k1 q1 pxs sr => ?_⟩) (hs_ex fun xs => hs_and (hr xs))
  obtain ⟨G, Y, wk, hG, hY⟩ := sr.ex
  let Pv : Nat → L2.St → Hp → Prop := fun i τ H' => Ok W (Ni i) (Γ xs i) τ H' ∧ Kp W.Z H1 H'
  refine for_it (g := gName j) (tb := forB W Ni Γ j Ps D.rt) wk Pv ⟨(k1.up hN0).less (h0 xs pxs), Kp.refl⟩ (fun i τ H' _ p => hG W.Z H' (fun a y => .inl y) p.2) (fun i x0 τ H2 H3 hi p y => ?_) (fun τ H' p => z.2.1 _ _ ⟨xs, pxs, p.1⟩)
  obtain ⟨e3, d, hxd, hda⟩ := hY W.Z i H2 x0 H3 (fun a y => .inl y) p.2 (fun a y => p.1.w.alive _ H2 a p.1.j y) hi y
  have k3 := (p.1.ext e3).put j (s := .val d) ⟨x0, rfl, hda⟩
  refine ⟨H3, xs, i, d, k3.kept, pxs, hxd, k3.sub, fun τ' H' k' => ?_, fun v H' r => z.2.2.1 v H' r, fun _ _ f => f.elim, fun τ' H' k' => ?_⟩
  · exact ⟨k3.unsub k', (p.2.trans e3.kp).trans k'.kept⟩
  · exact ⟨k3.unsub k', (p.2.trans e3.kp).trans k'.kept⟩
end
end Dv
set_option maxRecDepth 100000
set_option maxHeartbeats 2000000
/-! Dv6: how a def keeps its promise; the bag made; the law's frame. -/
namespace Dv
open PySem PySem.Spec PyProof.Rows L2

/-- the slots at the entry -/
def slots (N : List Str) (ss : List Sl) : List Sl := ss ++ List.replicate (N.length - ss.length) .no
theorem rep_ok {Z : Addr → Prop} {H : Hp} : ∀ n : Nat, Paired (SlOk Z H) (List.replicate n .no) (List.replicate n none)
  | 0 => .nil
  | n + 1 => .cons trivial (rep_ok n)
theorem papp {α β : Type} {F : α → β → Prop} : ∀ {l l' : List α} {m m' : List β}, Paired F l m → Paired F l' m' → Paired F (l ++ l') (m ++ m')
  | _, _, _, _, .nil, s => s
  | _, _, _, _, .cons r t, s => .cons r (papp t s)
theorem start_ok {Z : Addr → Prop} {H : Hp} {N : List Str} {ss : List Sl} {xs : List V} (h : Paired (SlOk Z H) ss (xs.map some)) : Paired (SlOk Z H) (slots N ss) (L2.start N xs) := by
  have e : ss.length = xs.length := by
    have := h.length
    rwa [List.length_map] at this
  unfold slots L2.start
  rw [e]
  exact papp h (rep_ok _)
theorem das_sl {Z : Addr → Prop} {H : Hp} : ∀ {xs : List V} {ds : List PyData}, Das Z H xs ds → Paired (SlOk Z H) (ds.map Sl.val) (xs.map some)
  | _, _, .nil => .nil
  | _, _, .cons h t => .cons ⟨_, rfl, h⟩ (das_sl t)
def Wd.at (Z : Addr → Prop) (J : Nat → Hp → Prop) (H : Hp) : Wd := ⟨Z, J, H, []⟩
theorem at_z {Z : Addr → Prop} {J : Nat → Hp → Prop} {H : Hp} {a : Addr} : (Wd.at Z J H).Z a ↔ Z a := ⟨fun z => Or.elim z id (fun ⟨_, m, _⟩ => nomatch m), fun z => Or.inl z⟩
theorem at_j {Z : Addr → Prop} {J : Nat → Hp → Prop} {H H' : Hp} {n : Nat} : (Wd.at Z J H).J n H' ↔ J n H' := ⟨fun z => z.1, fun z => ⟨z, fun _ m => nomatch m⟩⟩
theorem at_ok {Z : Addr → Prop} {J : Nat → Hp → Prop} {H : Hp} {n : Nat} {N : List Str} {ss : List Sl} {xs : List V} (w : Wok Z J) (j : J n H) (h : Paired (SlOk Z H) ss (xs.map some)) : Ok (Wd.at Z J H) n (slots N ss) (L2.start N xs) H :=
  ⟨w, at_j.mpr j, start_ok (pmono (fun _ _ => SlOk.mono Kp.refl fun a z => .inl (at_z.mp z)) h), Kp.refl, List.nodup_nil, fun _ m => nomatch m⟩
/-- what is wanted at a return -/
def RT (Z : Addr → Prop) (J : Nat → Hp → Prop) (H : Hp) (n : Nat) (P : PyData → Prop) : VK := fun v H' => ∃ d, Kp Z H H' ∧ J n H' ∧ Da Z H' v d ∧ P d
theorem rt_at {Z : Addr → Prop} {J : Nat → Hp → Prop} {H H' : Hp} {n n' : Nat} {P : PyData → Prop} {Δ : List Sl} {σ : L2.St} {v : V} (k : Ok (Wd.at Z J H) n' Δ σ H') (o : (dat (Wd.at Z J H).Z P).ok H' v) (l : n' ≤ n) : RT Z J H n P v H' := by
  obtain ⟨d, o, p⟩ := o
  exact ⟨d, k.kept, k.wb.up _ _ _ k.j.1 l, o.mono Kp.refl fun a z => .inl (at_z.mpr z), p⟩
section
variable {P : Program} {w : World} {K : PySem.W.Frag} {mg : Str → Option Value} {base : Heap} {k : Nat} {f : Addr} {fd : FuncData} {x qual : Str} {st : Stmt} {N ps : List Str} {pre : List PyData → Prop} {post : List PyData → PyData → Prop} {cst : List PyData → Nat}
theorem okD (F : Fun K x qual st f fd) (S : FnScope N ps (defScope st)) (hl : ∀ ds, pre ds → ds.length = ps.length)
    (body : ∀ (cd : Value) (B : Around) (fr : List Env) (t : Shared) (h : Hp) (e : XK), B.guards = some [] → Room k (B.deeper (envOfC qual (defScope st) t.heap.objs.size f cd)) → ∀ (Z : Addr → Prop) (J : Nat → Hp → Prop) (n : Nat) (ds : List PyData), n ≤ BIG → pre ds →
      HS (cxOf CX0 P w K mg base N qual (defScope st) f cd B fr t h e).nox (Ok (Wd.at Z J h) n (slots N (ds.map Sl.val))) (defBody st) { nx := fun _ H' => RT Z J h n (post ds) .non H', rt := RT Z J h n (post ds) }) :
    FnG P w K mg base CX0 (k + 1) f fd ps (spD pre post) := by
  refine okG F S (fun xs h q e z => ?_) (fun cd B fr t h xs q e gd rm z => ?_)
  · obtain ⟨Z, J, n, ds, _, _, _, hd, hp, _⟩ := z
    exact hd.length.trans (hl ds hp)
  · obtain ⟨Z, J, n, ds, wk, ln, j, hd, hp, fin⟩ := z
    exact ⟨_, body cd B fr t h e gd rm Z J n ds ln hp, at_ok wk j (das_sl hd), fun σ H' ⟨d, z1, z2, z3, z4⟩ => fin _ H' d z1 z2 z3 z4, fun v H' ⟨d, z1, z2, z3, z4⟩ => fin v H' d z1 z2 z3 z4, fun _ _ z => z, fun _ _ z => z⟩
theorem okDO (F : Fun K x qual st f fd) (S : FnScope N ps (defScope st)) (hl : ∀ ds, pre ds → ds.length = ps.length)
    (body : ∀ (cd : Value) (B : Around) (fr : List Env) (t : Shared) (h : Hp) (e : XK), Room k (B.deeper (envOfC qual (defScope st) t.heap.objs.size f cd)) → ∀ (Z : Addr → Prop) (J : Nat → Hp → Prop) (n : Nat) (ds : List PyData), n ≤ BIG → pre ds →
      HS (cxOf CX0 P w K mg base N qual (defScope st) f cd B fr t h e).nox (Ok (Wd.at Z J h) n (slots N (ds.map Sl.val))) (defBody st) { nx := fun _ H' => RT Z J h n (post ds) .non H', rt := RT Z J h n (post ds) }) :
    FnOk P w K mg base CX0 (k + 1) f fd ps (spD pre post) := by
  refine F.ok S (fun xs h q e z => ?_) (fun cd B fr t h xs q e rm z => ?_)
  · obtain ⟨Z, J, n, ds, _, _, _, hd, hp, _⟩ := z
    exact hd.length.trans (hl ds hp)
  · obtain ⟨Z, J, n, ds, wk, ln, j, hd, hp, fin⟩ := z
    exact ⟨_, body cd B fr t h e rm Z J n ds ln hp, at_ok wk j (das_sl hd), fun σ H' ⟨d, z1, z2, z3, z4⟩ => fin _ H' d z1 z2 z3 z4, fun v H' ⟨d, z1, z2, z3, z4⟩ => fin v H' d z1 z2 z3 z4, fun _ _ z => z, fun _ _ z => z⟩
theorem BagJ.at {Z : Addr → Prop} {J : Nat → Hp → Prop} {H : Hp} {p : Addr} (b : BagJ Z J p) : BagJ (Wd.at Z J H).Z (Wd.at Z J H).J p :=
  ⟨at_z.mpr b.z, fun n H j => b.is n H (at_j.mp j), fun n m H H' o j l ho hb e => at_j.mpr (b.to n m H H' o (at_j.mp j) l ho hb fun a z ne => e a (at_z.mpr z) ne)⟩
theorem okB (F : Fun K x qual st f fd) (S : FnScope N ps (defScope st)) (hl : ∀ ds, pre ds → ds.length + 1 = ps.length)
    (body : ∀ (cd : Value) (B : Around) (fr : List Env) (t : Shared) (h : Hp) (e : XK), B.guards = some [] → Room k (B.deeper (envOfC qual (defScope st) t.heap.objs.size f cd)) → ∀ (Z : Addr → Prop) (J : Nat → Hp → Prop) (n : Nat) (p : Addr) (ds : List PyData), n + cst ds ≤ BIG → pre ds → BagJ (Wd.at Z J h).Z (Wd.at Z J h).J p →
      HS (cxOf CX0 P w K mg base N qual (defScope st) f cd B fr t h e).nox (Ok (Wd.at Z J h) n (slots N (.is (.ref p) :: ds.map Sl.val))) (defBody st) { nx := fun _ H' => RT Z J h (n + cst ds) (post ds) .non H', rt := RT Z J h (n + cst ds) (post ds) }) :
    FnG P w K mg base CX0 (k + 1) f fd ps (spB pre cst post) := by
  refine okG F S (fun xs h q e z => ?_) (fun cd B fr t h xs q e gd rm z => ?_)
  · obtain ⟨Z, J, n, p, ws, ds, _, _, _, _, rfl, hd, hp, _⟩ := z
    rw [List.length_cons, hd.length]
    exact hl ds hp
  · obtain ⟨Z, J, n, p, ws, ds, wk, j, b, ln, rfl, hd, hp, fin⟩ := z
    exact ⟨_, body cd B fr t h e gd rm Z J n p ds ln hp b.at, at_ok wk j (.cons rfl (das_sl hd)), fun σ H' ⟨d, z1, z2, z3, z4⟩ => fin _ H' d z1 z2 z3 z4, fun v H' ⟨d, z1, z2, z3, z4⟩ => fin v H' d z1 z2 z3 z4, fun _ _ z => z, fun _ _ z => z⟩
end

/-! ### the bag -/
/-- _law_bag(script, k) -/
def spMk (K : PySem.W.Frag) : Sp := fun xs H Q _ => ∃ (a : Addr) (ns : List Int) (i : Int), xs = [.ref a, .int i] ∧ SqL K H a (ns.map V.int) ∧ ns.length ≤ 63 ∧ 0 ≤ i ∧ i ≤ 100 ∧
  ∀ p H' o, H p = none → Ext H H' → H' p = some o → IsBag 0 o → Q (.ref p) H'
section
variable {X : Cx} {W : Wd} {Δ : List Sl} {m m1 m2 m3 : Nat} {tg e a b c : Expr} {es rest : List Expr} {A A1 A2 A3 : As W.Z} {L : List (As W.Z)} {P P1 P2 : Bool → Prop} {t ta tb : TE} {pos : Pos}
variable {k : Nat} {f : Addr} {fd : FuncData} {ps : List Str} {x : Str} {p : Pos} {D : Ends} {st : Stmt} {sts : List Stmt} {N : Nat}
theorem hs_bag {i : Nat} {y : Str} {pos' pc : Pos} {sa : Addr} {ns : List Int} {j : Int} (hN : X.N.Nodup) (hi : X.N[i]? = some y) (hx : Loc X.env.scope y)
    (F : FnG X.prog X.w X.K X.mg X.base CX0 k f fd ps (spMk X.K)) (gd : X.A.guards = some []) (rm : Room k X.A) (hg : Gl X x) (hm : X.mg x = some (.ref f)) (hk : PySem.W.keepIn X.K (.ref f) = true) (hb : Binds X.K fd ps [])
    (h0 : DE X W Δ 0 e (raw W.Z (.ref sa))) (h1 : DE X W Δ 0 a (eqd W.Z (.int j))) (hS : ∀ H, Kp W.Zb W.H0 H → SqL X.K H sa (ns.map V.int)) (hn : ns.length ≤ 63) (hj : 0 ≤ j ∧ j ≤ 100) (hb0 : N ≤ BIG)
    (hr : ∀ q, ¬ W.Z q → BagJ (W.add q IsBag).Z (W.add q IsBag).J q → HS X (Ok (W.add q IsBag) N (Δ.set i (.is (.ref q)))) sts D)
    (hd1 : (x == ("__debug__" : Str)) = false := by decide) (h2 : starEach [e, a] X.env = (false, eval e X.env) :: starEach [a] X.env := by rfl) (h2' : starEach [a] X.env = (false, eval a X.env) :: starEach [] X.env := by rfl) (h3 : (backTo pc (starEach [a] X.env)).any (·.1) = false := by rfl)
    (hs : swapsWith (.Call (.Name x p) [e, a] [] pc) (some (.Name y pos')) pos.line X.env = pure false := by rfl) (hf : X.fn y = true ∨ X.env.scope.names.lookup y = some .local := by first | exact .inl rfl | exact .inr rfl | assumption) :
    HS X (Ok W N Δ) (.Assign [.Name y pos'] (.Call (.Name x p) [e, a] [] pc) pos :: sts) D := by
  have cl := pe_g F gd rm hg hm hk hb .nil pass0 (da_cons h0 (da_cons h1 da_nil h2') h2) hd1 h2 h3 (p := p) (pos := pc)
  refine hs_cons (mid := fun σ H => ∃ q, (¬ W.Z q ∧ BagJ (W.add q IsBag).Z (W.add q IsBag).J q) ∧ Ok (W.add q IsBag) N (Δ.set i (.is (.ref q))) σ H) (ps_to (ps_set hN hi hx cl hs hf) fun D' σ H z => ?_) (hs_ex fun q => hs_and fun h => hr q h.1 h.2)
  refine ⟨N, by simpa using hb0, z.1, fun vs H1 k1 q1 o1 => ?_⟩
  obtain ⟨v, u, rfl, o2, o3⟩ := allo_2 o1
  cases (show v = V.ref sa from o2)
  have o3 := eqd_ok o3
  cases o3
  have k1' : Ok W N Δ σ H1 := by simpa using k1
  refine ⟨sa, ns, j, rfl, hS H1 k1'.kept, hn, hj.1, hj.2, fun q H2 o hq e2 ho hbag => ?_⟩
  have k2 := k1'.pin hq e2.kp (k1'.w.ext k1'.j e2) (Nat.le_refl _) ho ⟨0, Nat.zero_le _, hbag⟩
  have nz := k1'.w.new k1'.j hq
  exact z.2.1 _ _ ⟨q, ⟨nz, BagJ.own k1'.w nz⟩, k2.put i (s := .is (.ref q)) rfl⟩
/-- behind a turn that had a bag: it is forgotten -/
theorem end_add {q : Addr} {φ : Nat → HO → Prop} {N' : Nat} {Γ : List Sl} (hl : Less Γ Δ) (h : N ≤ N') : ∀ σ H, Ok (W.add q φ) N Δ σ H → Ok W N' Γ σ H := fun σ H k => (k.unpin.up h).less hl
end

/-! ### the law -/
section
variable {P : Program} {w : World} {K : PySem.W.Frag} {mg : Str → Option Value} {base : Heap} {k : Nat} {f : Addr} {fd : FuncData} {x qual : Str} {st : Stmt} {N : List Str}
theorem okLaw {s : Str} (F : Fun K x qual st f fd) (S : FnScope N [s] (defScope st))
    (body : ∀ (cd : Value) (B : Around) (fr : List Env) (t : Shared) (h : Hp) (e : XK), B.guards = some [] → Room k (B.deeper (envOfC qual (defScope st) t.heap.objs.size f cd)) → ∀ (a : Addr) (ns : List Int), ns.length ≤ 63 → (∀ H, Kp (fun _ => False) h H → SqL K H a (ns.map V.int)) →
      HS (cxOf CX0 P w K mg base N qual (defScope st) f cd B fr t h e).nox (Ok (Wd.at (fun _ => False) (fun _ _ => True) h) 0 (slots N [.is (.ref a)])) (defBody st) { nx := fun _ _ => False, rt := fun v _ => v = .bl true }) :
    FnG P w K mg base CX0 (k + 1) f fd [s] (spLaw K 63) := by
  refine okG F S (fun xs h q e z => ?_) (fun cd B fr t h xs q e gd rm z => ?_)
  · obtain ⟨a, ns, rfl, _⟩ := z
    rfl
  · obtain ⟨a, ns, rfl, hS, hn, _, fin⟩ := z
    refine ⟨_, body cd B fr t h e gd rm a ns hn fun H e' => ?_, at_ok Wok.none trivial (.cons rfl .nil), fun _ _ z => z.elim, fun v H' z => z ▸ fin H', fun _ _ z => z, fun _ _ z => z⟩
    rcases hS with (hS | ⟨o, hS⟩) | hS
    · exact .inl (.inl (e' _ _ (fun c => c) hS))
    · exact .inl (.inr ⟨o, e' _ _ (fun c => c) hS⟩)
    · exact .inr hS
end
end Dv
namespace Dv
open PySem PySem.Spec PyProof.Rows L2
/-! ### exact forms -/
section
variable {X : Cx} {W : Wd} {Δ : List Sl} {m m1 m2 m3 : Nat} {tg e a b c : Expr} {es rest : List Expr} {A A1 A2 A3 : As W.Z} {L : List (As W.Z)} {P P1 P2 : Bool → Prop} {t ta tb : TE} {pos : Pos}
def DAd (X : Cx) (W : Wd) (Δ : List Sl) (m : Nat) (es : List Expr) (ds : List PyData) : Prop := DA X W Δ m es (ds.map (eqd W.Z))
theorem das_nil : DAd X W Δ 0 [] [] := da_nil
theorem das_cons {d : PyData} {ds : List PyData} (h : DE X W Δ m1 e (eqd W.Z d)) (hr : DAd X W Δ m2 es ds) (hs : starEach (e :: es) X.env = (false, eval e X.env) :: starEach es X.env := by rfl) : DAd X W Δ (m1 + m2) (e :: es) (d :: ds) := da_cons h hr hs
theorem de_list {ds : List PyData} (h : DAd X W Δ m es ds) (hl : ds.length ≤ 1000 := by first | exact Nat.le_of_ble_eq_true rfl | omega) : DE X W Δ m (.List es pos) (eqd W.Z (.list ds)) := de_lst h (Nat.le_trans hl (by decide))
theorem de_tupl {ds : List PyData} {kx} (h : DAd X W Δ m es ds) (hl : ds.length ≤ 1000 := by first | exact Nat.le_of_ble_eq_true rfl | omega) : DE X W Δ m (.Tuple es kx pos) (eqd W.Z (.tuple ds)) := de_tup h (Nat.le_trans hl (by decide))
theorem Picks.every {g : PyData → PyData} {xs ys : List PyData} (h : Picks (fun _ b => b = true) (fun d z => z = g d) xs ys) : Picks (fun d b => b = (fun _ => true) d) (fun d z => (fun _ => true) d = true → z = g d) xs ys := by
  induction h with
  | nil => exact .nil
  | skip _ q ih => exact nomatch q
  | take _ q r ih => exact .take ih q fun _ => r
/-- [elt for x in iter], all exact -/
theorem de_lcM {x : Str} {px : Pos} {elt iter : Expr} {scope : Scope} {own : List (Str × Nat)} {j c2 : Nat} {xs : List PyData} {g : PyData → PyData}
    (hc : X.calm = true) (hN : X.N.Nodup) (hi : DI X W Δ m (.Name x px) iter (· = xs)) (ok : BlkOk X.N X.env.scope scope own) (hj : X.N[j]? = some x) (hjv : j ∈ own.map (·.2)) (hM2 : xs.length ≤ 1000000)
    (hx : ∀ (s : Shared) (H : Hp) (C : Addr) (cl : List (Str × Addr)) (fp : List Addr), PG (X.blk s H scope (compEnvC scope cl C X.env) fp) (.Name x px) (gName j))
    (he : ∀ (s : Shared) (H : Hp) (C : Addr) (cl : List (Str × Addr)) (fp : List Addr) (D : Addr) (φ : Nat → HO → Prop) (d : PyData), ¬ W.Z D → d ∈ xs → DE (X.blk s H scope (compEnvC scope cl C X.env) fp) (W.add D φ) ((wipeS Δ (own.map (·.2))).set j (.val d)) c2 elt (eqd _ (g d)))
    (hs : ∀ x, foldedSetIterable iter X.env x = pure x := by intro _; rfl) :
    DE X W Δ (m + xs.length * (0 + c2)) (.ListComp elt [⟨.Name x px, iter, [], 0⟩] scope pos) (eqd W.Z (.list (xs.map g))) :=
  de_lc (Ps := (· = xs)) (Pt := fun d b => b = true) (Pe := fun d z => z = g d) hc hN hi ok hj hjv (fun ys e => e ▸ Nat.le_refl _) hM2 hx (fun s H C cl fp D φ ys d n1 n2 n3 => dts_nil) (fun s H C cl fp D φ ys d n1 n2 n3 _ => he s H C cl fp D φ d n1 (n2 ▸ n3))
    (fun ys zs e h => by
      subst e
      rw [h.every.fn, List.filter_eq_self.mpr (fun _ _ => rfl)]) hs
/-- [elt for x in iter if test], all exact -/
theorem de_lcF {x : Str} {px : Pos} {elt iter test : Expr} {scope : Scope} {own : List (Str × Nat)} {j c1 c2 : Nat} {xs : List PyData} {f : PyData → Bool} {g : PyData → PyData}
    (hc : X.calm = true) (hN : X.N.Nodup) (hi : DI X W Δ m (.Name x px) iter (· = xs)) (ok : BlkOk X.N X.env.scope scope own) (hj : X.N[j]? = some x) (hjv : j ∈ own.map (·.2)) (hM2 : xs.length ≤ 1000000)
    (hx : ∀ (s : Shared) (H : Hp) (C : Addr) (cl : List (Str × Addr)) (fp : List Addr), PG (X.blk s H scope (compEnvC scope cl C X.env) fp) (.Name x px) (gName j))
    (ht : ∀ (s : Shared) (H : Hp) (C : Addr) (cl : List (Str × Addr)) (fp : List Addr) (D : Addr) (φ : Nat → HO → Prop) (d : PyData), ¬ W.Z D → d ∈ xs → DT (X.blk s H scope (compEnvC scope cl C X.env) fp) (W.add D φ) ((wipeS Δ (own.map (·.2))).set j (.val d)) c1 test (· = f d))
    (he : ∀ (s : Shared) (H : Hp) (C : Addr) (cl : List (Str × Addr)) (fp : List Addr) (D : Addr) (φ : Nat → HO → Prop) (d : PyData), ¬ W.Z D → d ∈ xs → f d = true → DE (X.blk s H scope (compEnvC scope cl C X.env) fp) (W.add D φ) ((wipeS Δ (own.map (·.2))).set j (.val d)) c2 elt (eqd _ (g d)))
    (hs : ∀ x, foldedSetIterable iter X.env x = pure x := by intro _; rfl) :
    DE X W Δ (m + xs.length * (c1 + c2)) (.ListComp elt [⟨.Name x px, iter, [test], 0⟩] scope pos) (eqd W.Z (.list ((xs.filter f).map g))) :=
  de_lc (Ps := (· = xs)) (Pt := fun d b => b = f d) (Pe := fun d z => f d = true → z = g d) hc hN hi ok hj hjv (fun ys e => e ▸ Nat.le_refl _) hM2 hx (fun s H C cl fp D φ ys d n1 n2 n3 => dts_one (ht s H C cl fp D φ d n1 (n2 ▸ n3))) (fun s H C cl fp D φ ys d n1 n2 n3 q => (he s H C cl fp D φ d n1 (n2 ▸ n3) q.symm).imp fun H v o => by
      obtain ⟨d', o, e⟩ := o
      exact ⟨d', o, fun _ => e⟩)
    (fun ys zs e h => by
      subst e
      rw [h.fn]) hs
end
/-- is it a text -/
def isStr : PyData → Bool
  | .str _ => true
  | _ => false
theorem kit_str (d : PyData) : kitB (tyD d) "str" = some (isStr d) := by
  cases d with
  | none => exact (show kitB "NoneType" "str" = some false by decide +kernel)
  | bool b => exact (show kitB "bool" "str" = some false by decide +kernel)
  | int b => exact (show kitB "int" "str" = some false by decide +kernel)
  | str b => exact (show kitB "str" "str" = some true by decide +kernel)
  | list b => exact (show kitB "list" "str" = some false by decide +kernel)
  | tuple b => exact (show kitB "tuple" "str" = some false by decide +kernel)
  | dict b => exact (show kitB "dict" "str" = some false by decide +kernel)
def isList : PyData → Bool
  | .list _ => true
  | _ => false
theorem kit_list (d : PyData) : kitB (tyD d) "list" = some (isList d) := by
  cases d with
  | none => exact (show kitB "NoneType" "list" = some false by decide +kernel)
  | bool b => exact (show kitB "bool" "list" = some false by decide +kernel)
  | int b => exact (show kitB "int" "list" = some false by decide +kernel)
  | str b => exact (show kitB "str" "list" = some false by decide +kernel)
  | list b => exact (show kitB "list" "list" = some true by decide +kernel)
  | tuple b => exact (show kitB "tuple" "list" = some false by decide +kernel)
  | dict b => exact (show kitB "dict" "list" = some false by decide +kernel)
theorem str_of {d : PyData} (h : isStr d = true) : ∃ x, d = .str x := by
  cases d <;> first | exact ⟨_, rfl⟩ | cases h
theorem list_of {d : PyData} (h : isList d = true) : ∃ x, d = .list x := by
  cases d <;> first | exact ⟨_, rfl⟩ | cases h
end Dv
set_option maxRecDepth 100000
set_option maxHeartbeats 2000000
/-! Dv7: calls with keywords; several targets. -/
namespace Dv
open PySem PySem.Spec PyProof.Rows L2
def pick {α : Type} (perm : List Nat) (l : List α) : List α := perm.filterMap fun i => l[i]?
theorem pick_rel {xs : List V} {us : List Value} (h : Vals xs us) : ∀ perm : List Nat, Vals (pick perm xs) (pick perm us)
  | [] => .nil
  | i :: perm => by
    unfold pick
    match e : xs[i]? with
    | none =>
      rw [List.filterMap_cons_none e, List.filterMap_cons_none (h.none_of e)]
      exact pick_rel h perm
    | some x =>
      obtain ⟨u, e2, r⟩ := h.get e
      rw [List.filterMap_cons_some e, List.filterMap_cons_some e2]
      exact .cons r (pick_rel h perm)
theorem pick_das {Z : Addr → Prop} {H : Hp} {xs : List V} {ds : List PyData} (h : Das Z H xs ds) : ∀ perm : List Nat, Das Z H (pick perm xs) (pick perm ds)
  | [] => .nil
  | i :: perm => by
    unfold pick
    match e : ds[i]? with
    | none =>
      have e1 : xs[i]? = none := by
        rw [List.getElem?_eq_none_iff] at e ⊢
        rw [h.length]
        exact e
      rw [List.filterMap_cons_none e, List.filterMap_cons_none e1]
      exact pick_das h perm
    | some x =>
      obtain ⟨u, e2, r⟩ := h.get e
      rw [List.filterMap_cons_some e, List.filterMap_cons_some e2]
      exact .cons r (pick_das h perm)
/-- n positional values, then keywords ks: the parameters take the values at perm -/
def KBi (K : PySem.W.Frag) (fd : FuncData) (ps : List Str) (n : Nat) (ks : List Str) (perm : List Nat) : Prop :=
  ∀ (s : Shared) (us ws : List Value), K.In s.heap → us.length = n → ws.length = ks.length → BindsTo s fd ⟨us, ks.zip ws⟩ (ps.zip (pick perm (us ++ ws)))
theorem KBi.of {K : PySem.W.Frag} {x qual : Str} {st : Stmt} {f : Addr} {fd : FuncData} {ps ks : List Str} {n : Nat} {perm : List Nat} (F : Fun K x qual st f fd)
    (h : ∀ (kV doc pm : Value) (an : Option Addr) (cdv ct : Value) (us ws : List Value), us.length = n → ws.length = ks.length → bindArgs (PySem.W.fnOf x qual (defArgs st) (defBody st) (defScope st) .none kV doc pm an cdv ct) ⟨us, ks.zip ws⟩ = pure (ps.zip (pick perm (us ++ ws)))) : KBi K fd ps n ks perm := by
  obtain ⟨oc, od, kV, doc, pm, an, cdv, ct, osl, rfl, lk, hcd⟩ := F.ex
  exact fun s us ws _ h1 h2 => .of_eq (h kV doc pm an cdv ct us ws h1 h2)
section
variable {X : Cx} {W : Wd} {Δ : List Sl} {m m1 m2 m3 : Nat} {tg e a b c : Expr} {es rest : List Expr} {A A1 A2 A3 : As W.Z} {L L2' : List (As W.Z)} {P P1 P2 : Bool → Prop} {t ta tb : TE} {pos : Pos}
variable {C : CXT} {k n : Nat} {f : Addr} {fd : FuncData} {ps ks : List Str} {sp : Sp} {E : XK} {x : Str} {p : Pos} {tk : TA} {kws : List Keyword} {perm : List Nat} {pre : List PyData → Prop} {post : List PyData → PyData → Prop}
theorem run_gk {pins : List (Addr × Obj)} {σ : L2.St} {h : Hp} {s : Shared} {q : VK} {us ws : List Value} {xs zs : List V} (F : FnG X.prog X.w X.K X.mg X.base C k f fd ps sp) (gd : X.A.guards = some []) (rm : Room k X.A)
    (hb : KBi X.K fd ps n ks perm) (hx : Passes C X E) (I : Inv X pins σ h s) (rv : Vals xs us) (rz : Vals zs ws) (l1 : xs.length = n) (l2 : zs.length = ks.length) (z : sp (pick perm (xs ++ zs)) h q E) :
    wpAny (model X.prog X.w) X.A (call (.ref f) us (ks.zip ws)) (EP X pins σ q) X.xe s := by
  refine wpAny_call (codeAny_mono (F.go X.A X.stack s h ⟨us, ks.zip ws⟩ _ _ q E gd rm I.env0 (hb s us ws I.kIn (rv.length.symm.trans l1) (rz.length.symm.trans l2)) (pick_rel (rv.append rz) perm) z) fun r s' hq => ?_)
  match r, hq with
  | .error e, hq => exact hx pins σ h s e s' I hq
  | .ok (.ret u), hq => exact I.after hq
  | .ok .next, hq => exact False.elim hq
  | .ok .brk, hq => exact False.elim hq
  | .ok .cont, hq => exact False.elim hq
def tGK (sp : Sp) (n m : Nat) (perm : List Nat) (E : XK) (t tk : TA) : TE := fun σ H Q => t σ H fun vs H1 => tk σ H1 fun zs H2 => vs.length = n ∧ zs.length = m ∧ sp (pick perm (vs ++ zs)) H2 Q E
theorem pe_gk0 (F : FnG X.prog X.w X.K X.mg X.base C k f fd ps sp) (gd : X.A.guards = some []) (rm : Room k X.A) (hg : Gl X x) (hm : X.mg x = some (.ref f)) (hk : PySem.W.keepIn X.K (.ref f) = true) (hb : KBi X.K fd ps 0 ks perm) (hx : Passes C X E)
    (hkw : PK X kws tk) (h1 : (x == ("__debug__" : Str)) = false := by decide) (hall : (backToKw pos (keywordEach kws X.env)).all (·.1.isSome) = true := by rfl) (hks : (backToKw pos (keywordEach kws X.env)).filterMap (·.1) = ks := by rfl)
    (hpl : ((backTo pos (starEach [] X.env)).any (·.1) || (backToKw pos (keywordEach kws X.env)).any (·.1.isNone)) = false := by rfl) :
    PE X (.Call (.Name x p) [] kws pos) (tGK sp 0 ks.length perm E tNil tk) :=
  ⟨fun pins s σ H Q I h => wpAny_Call_Name_kw (ld_glob I hg hm (PySem.W.callWith_KW0 (h₀ := X.base) I.ok.mod.kin hk hall
    (thn (hkw.run pos pins s σ H _ I h) fun ws s2 ⟨zs, H2, I2, rz, q2⟩ => ⟨I2.kIn, by rw [hks]; exact run_gk F gd rm hb hx I2 .nil rz q2.1 q2.2.1 q2.2.2⟩) hpl) h1)⟩
theorem pe_gk (F : FnG X.prog X.w X.K X.mg X.base C k f fd ps sp) (gd : X.A.guards = some []) (rm : Room k X.A) (hg : Gl X x) (hm : X.mg x = some (.ref f)) (hk : PySem.W.keepIn X.K (.ref f) = true) (hb : KBi X.K fd ps n ks perm) (hx : Passes C X E)
    (ha : PA X (e :: es) (tDA W Δ m L)) (hkw : PK X kws tk) (h1 : (x == ("__debug__" : Str)) = false := by decide) (hall : (backToKw pos (keywordEach kws X.env)).all (·.1.isSome) = true := by rfl) (hks : (backToKw pos (keywordEach kws X.env)).filterMap (·.1) = ks := by rfl)
    (he : starEach (e :: es) X.env = (false, eval e X.env) :: starEach es X.env := by rfl) (hpl : ((backTo pos (starEach (e :: es) X.env)).any (·.1) || (backToKw pos (keywordEach kws X.env)).any (·.1.isNone)) = false := by rfl) :
    PE X (.Call (.Name x p) (e :: es) kws pos) (tGK sp n ks.length perm E (tDA W Δ m L) tk) :=
  ⟨fun pins s σ H Q I h => wpAny_Call_Name_kw (ld_glob I hg hm (PySem.W.callWith_KW (h₀ := X.base) I.ok.mod.kin hk hall
    (thn (ha.run pos pins s σ H _ I h) fun us s1 ⟨vs, H1, I1, rv, q1⟩ => thn (hkw.run pos pins s1 σ H1 _ I1 q1) fun ws s2 ⟨zs, H2, I2, rz, q2⟩ => ⟨I2.kIn, by rw [hks]; exact run_gk F gd rm hb hx I2 rv rz q2.1 q2.2.1 q2.2.2⟩) hpl he) h1)⟩
/-- keywords' values -/
abbrev DK (X : Cx) (W : Wd) (Δ : List Sl) (c : Nat) (kws : List Keyword) (L : List (As W.Z)) : Prop := PK X kws (tDA W Δ c L)
theorem pk_to {t u : TA} (p : PK X kws t) (h : ∀ σ H Q, u σ H Q → t σ H Q) : PK X kws u := ⟨fun po pins s σ H Q I z => p.run po pins s σ H Q I (h σ H Q z)⟩
theorem dk_nil : DK X W Δ 0 [] [] := pk_to pk_nil fun σ H Q ⟨n, l, k, z⟩ => z [] H k Kp.refl .nil
theorem dk_cons {nm : Option Str} {kpos : Pos} (h : DE X W Δ m1 e A) (hr : DK X W Δ m2 kws L) : DK X W Δ (m1 + m2) (⟨nm, e, kpos⟩ :: kws) (A :: L) :=
  pk_to (pk_cons h hr) fun σ H Q ⟨n, l, k, z⟩ => ⟨n, big1 l, k, fun v H1 k1 q1 o1 => ⟨n + m1, big2 l, k1, fun vs H2 k2 q2 o2 => z _ H2 k2.as (q1.trans q2) (.cons (A.mono q2 o1) o2)⟩⟩
theorem allo_len {H : Hp} : ∀ {L : List (As W.Z)} {vs : List V}, Allo H L vs → vs.length = L.length
  | _, _, .nil => rfl
  | _, _, .cons _ t => congrArg Nat.succ (allo_len t)
/-- f(k = e, ..) -/
theorem de_callK0 {PR : PyData → Prop} (F : FnG X.prog X.w X.K X.mg X.base CX0 k f fd ps (spD pre post)) (gd : X.A.guards = some []) (rm : Room k X.A) (hg : Gl X x) (hm : X.mg x = some (.ref f)) (hk : PySem.W.keepIn X.K (.ref f) = true) (hb : KBi X.K fd ps 0 ks perm)
    (ha : DK X W Δ m kws L) (hl : L.length = ks.length) (hA : ∀ H vs, Allo H L vs → ∃ ds, Das W.Z H (pick perm vs) ds ∧ pre ds ∧ ∀ d, post ds d → PR d)
    (h1 : (x == ("__debug__" : Str)) = false := by decide) (hall : (backToKw pos (keywordEach kws X.env)).all (·.1.isSome) = true := by rfl) (hks : (backToKw pos (keywordEach kws X.env)).filterMap (·.1) = ks := by rfl)
    (hpl : ((backTo pos (starEach [] X.env)).any (·.1) || (backToKw pos (keywordEach kws X.env)).any (·.1.isNone)) = false := by rfl) :
    DE X W Δ m (.Call (.Name x p) [] kws pos) (dat W.Z PR) :=
  pe_to (pe_gk0 F gd rm hg hm hk hb pass0 ha h1 hall hks hpl) fun σ H Q ⟨n, l, k, z⟩ => ⟨n, l, k, fun zs H1 k1 q1 o1 => by
    obtain ⟨ds, hd, hp, hq⟩ := hA H1 zs o1
    refine ⟨rfl, (allo_len o1).trans hl, W.Z, W.J, n + m, ds, k1.w, l, k1.j, hd, hp, fun v H' d e j o q => z v H' (k1.kp e j) (q1.trans e) ⟨d, o, hq d q⟩⟩⟩
/-- f(e, .., k = e, ..) -/
theorem de_callK {PR : PyData → Prop} (F : FnG X.prog X.w X.K X.mg X.base CX0 k f fd ps (spD pre post)) (gd : X.A.guards = some []) (rm : Room k X.A) (hg : Gl X x) (hm : X.mg x = some (.ref f)) (hk : PySem.W.keepIn X.K (.ref f) = true) (hb : KBi X.K fd ps n ks perm)
    (ha : DA X W Δ m1 (e :: es) L) (hkw : DK X W Δ m2 kws L2') (hl0 : L.length = n) (hl : L2'.length = ks.length) (hA : ∀ H vs, Allo H (L ++ L2') vs → ∃ ds, Das W.Z H (pick perm vs) ds ∧ pre ds ∧ ∀ d, post ds d → PR d)
    (h1 : (x == ("__debug__" : Str)) = false := by decide) (hall : (backToKw pos (keywordEach kws X.env)).all (·.1.isSome) = true := by rfl) (hks : (backToKw pos (keywordEach kws X.env)).filterMap (·.1) = ks := by rfl)
    (he : starEach (e :: es) X.env = (false, eval e X.env) :: starEach es X.env := by rfl) (hpl : ((backTo pos (starEach (e :: es) X.env)).any (·.1) || (backToKw pos (keywordEach kws X.env)).any (·.1.isNone)) = false := by rfl) :
    DE X W Δ (m1 + m2) (.Call (.Name x p) (e :: es) kws pos) (dat W.Z PR) :=
  pe_to (pe_gk F gd rm hg hm hk hb pass0 ha hkw h1 hall hks he hpl) fun σ H Q ⟨n, l, k, z⟩ => ⟨n, big1 l, k, fun vs H1 k1 q1 o1 => ⟨n + m1, big2 l, k1, fun zs H2 k2 q2 o2 => by
    obtain ⟨ds, hd, hp, hq⟩ := hA H2 (vs ++ zs) (papp (pmono (fun A v => A.mono q2) o1) o2)
    have k2 := k2.as
    refine ⟨(allo_len o1).trans hl0, (allo_len o2).trans hl, W.Z, W.J, n + (m1 + m2), ds, k2.w, l, k2.j, hd, hp, fun v H' d e j o q => z v H' (k2.kp e j) ((q1.trans q2).trans e) ⟨d, o, hq d q⟩⟩⟩⟩

/-! ### short forms -/
theorem de_ty {T : String} (hg : Gl X x) (hm : X.mg x = none) (hv : bootBuiltins x = some (.type T)) (hn : x ≠ "__name__" := by decide) (hd : (x == ("__debug__" : Str)) = false := by decide) : DE X W Δ 0 (.Name x p) (raw W.Z (.ty T)) := de_rawc (pe_bltn (v := .ty T) hg hm hv rfl hn hd)
theorem de_gstr {z : Str} {t : Tok} (hg : Gl X x) (hm : X.mg x = some (.str z t)) (hd : (x == ("__debug__" : Str)) = false := by decide) : DE X W Δ 0 (.Name x p) (eqd W.Z (.str z)) := de_c (pe_glob (v := .str z) hg hm ⟨t, rfl⟩ hd) fun _ => .str z
theorem de_len {d : PyData} {k : Nat} (hg : Gl X "len") (hm : X.mg "len" = none) (h : DE X W Δ m e (eqd W.Z d)) (hk : lenD d = some k)
    (he : starEach (e :: []) X.env = (false, eval e X.env) :: starEach [] X.env := by rfl) (hpl : (backTo pos (starEach [] X.env)).any (·.1) = false := by rfl) : DE X W Δ (m + 0) (.Call (.Name "len" p) [e] [] pos) (eqd W.Z (.int k)) :=
  de_cb call_len hg hm boot_len (da_cons h da_nil he) (c_len hk) (by decide) (by decide) he hpl
theorem de_isi {d : PyData} {T : String} {v : Bool} {T' : Expr} (hg : Gl X "isinstance") (hm : X.mg "isinstance" = none) (h : DE X W Δ m e (eqd W.Z d)) (hT : DE X W Δ 0 T' (raw W.Z (.ty T))) (hk : kitB (tyD d) T = some v)
    (he : starEach [e, T'] X.env = (false, eval e X.env) :: starEach [T'] X.env := by rfl) (he' : starEach [T'] X.env = (false, eval T' X.env) :: starEach [] X.env := by rfl) (hpl : (backTo pos (starEach [T'] X.env)).any (·.1) = false := by rfl) : DE X W Δ (m + (0 + 0)) (.Call (.Name "isinstance" p) [e, T'] [] pos) (eqd W.Z (.bool v)) :=
  de_cb call_isi hg hm boot_isinstance (da_cons h (da_cons hT da_nil he') he) (c_isi hk) (by decide) (by decide) he hpl
theorem de_all {bs : List Bool} (hc : X.calm = true) (hg : Gl X "all") (hm : X.mg "all" = none) (h : DE X W Δ m e (eqd W.Z (.list (bs.map PyData.bool))))
    (he : starEach (e :: []) X.env = (false, eval e X.env) :: starEach [] X.env := by rfl) (hpl : (backTo pos (starEach [] X.env)).any (·.1) = false := by rfl) : DE X W Δ (m + 0) (.Call (.Name "all" p) [e] [] pos) (eqd W.Z (.bool (bs.all id))) :=
  de_cb (cr_all hc) hg hm boot_all (da_cons h da_nil he) c_all (by decide) (by decide) he hpl
theorem de_repr {d : PyData} (gd : X.A.guards = some []) (hu : X.A.units + 64 < cLine) (hg : Gl X "repr") (hm : X.mg "repr" = none) (h : DE X W Δ m e (eqd W.Z d)) (h1 : d.showable = true) (h2 : d.shown.length ≤ sizeLine) (h3 : d.depth ≤ 60)
    (he : starEach (e :: []) X.env = (false, eval e X.env) :: starEach [] X.env := by rfl) (hpl : (backTo pos (starEach [] X.env)).any (·.1) = false := by rfl) : DE X W Δ (m + 0) (.Call (.Name "repr" p) [e] [] pos) (eqd W.Z (.str d.shown)) :=
  de_cb (call_repr gd hu) hg hm boot_repr (da_cons h da_nil he) (c_repr h1 h2 h3) (by decide) (by decide) he hpl
theorem room_u {k : Nat} {A : Around} (r : Room k A) : A.units + 64 < cLine := by
  have := r.un
  omega
/-- i <= n <= j, all known -/
theorem dt_le2 {i j l : Int} (ha : DE X W Δ m1 a (eqd W.Z (.int i))) (hb : DE X W Δ m2 b (eqd W.Z (.int j))) (hc : DE X W Δ m3 c (eqd W.Z (.int l))) (hm : lastMarks [.LtE, .LtE] [b, c] = false := by with_unfolding_all rfl) :
    DT X W Δ (m1 + (m2 + m3)) (.Compare a [.LtE, .LtE] [b, c] pos) (· = (decide (i ≤ j) && decide (j ≤ l))) :=
  dt_chain op_le op_le ha hb hc o_cmp o_cmp (by rintro x y rfl rfl; rfl) (fun h => by rw [← h]; rfl) hm
end
theorem lenS {x : Str} (h : x.length ≤ 100000) : lenD (.str x) = some x.length := if_pos (Nat.le_trans h (by decide))

/-! ### exact promises by the number of arguments -/
def sp1 (pre : PyData → Prop) (g : PyData → PyData) : Sp := spD (fun ds => ∃ d, ds = [d] ∧ pre d) fun ds r => ∃ d, ds = [d] ∧ r = g d
def sp2 (pre : PyData → PyData → Prop) (g : PyData → PyData → PyData) : Sp := spD (fun ds => ∃ d1 d2, ds = [d1, d2] ∧ pre d1 d2) fun ds r => ∃ d1 d2, ds = [d1, d2] ∧ r = g d1 d2
section
variable {X : Cx} {W : Wd} {Δ : List Sl} {m m1 m2 m3 : Nat} {e a b c : Expr} {pos : Pos} {k : Nat} {f : Addr} {fd : FuncData} {ps : List Str} {x : Str} {p : Pos}
theorem fn1O {pre : PyData → Prop} {g : PyData → PyData} {d : PyData} (F : FnOk X.prog X.w X.K X.mg X.base CX0 k f fd ps (sp1 pre g)) (rm : Room k X.A) (hg : Gl X x) (hm : X.mg x = some (.ref f)) (hk : PySem.W.keepIn X.K (.ref f) = true) (hb : Binds X.K fd ps [])
    (ha : DE X W Δ m e (eqd W.Z d)) (hp : pre d) (h1 : (x == ("__debug__" : Str)) = false := by decide) (h2 : starEach (e :: []) X.env = (false, eval e X.env) :: starEach [] X.env := by rfl) (h3 : (backTo pos (starEach [] X.env)).any (·.1) = false := by rfl) :
    DE X W Δ (m + 0) (.Call (.Name x p) [e] [] pos) (eqd W.Z (g d)) :=
  de_callO F rm hg hm hk hb (da_cons ha da_nil h2) (fun H vs o => by
    obtain ⟨d', hd, rfl⟩ := allo1 o
    refine ⟨_, hd, ⟨_, rfl, hp⟩, ?_⟩
    rintro r ⟨_, e, rfl⟩
    cases e
    rfl) h1 h2 h3
theorem fn1 {pre : PyData → Prop} {g : PyData → PyData} {d : PyData} (F : FnG X.prog X.w X.K X.mg X.base CX0 k f fd ps (sp1 pre g)) (gd : X.A.guards = some []) (rm : Room k X.A) (hg : Gl X x) (hm : X.mg x = some (.ref f)) (hk : PySem.W.keepIn X.K (.ref f) = true) (hb : Binds X.K fd ps [])
    (ha : DE X W Δ m e (eqd W.Z d)) (hp : pre d) (h1 : (x == ("__debug__" : Str)) = false := by decide) (h2 : starEach (e :: []) X.env = (false, eval e X.env) :: starEach [] X.env := by rfl) (h3 : (backTo pos (starEach [] X.env)).any (·.1) = false := by rfl) :
    DE X W Δ (m + 0) (.Call (.Name x p) [e] [] pos) (eqd W.Z (g d)) :=
  de_call F gd rm hg hm hk hb (da_cons ha da_nil h2) (fun H vs o => by
    obtain ⟨d', hd, rfl⟩ := allo1 o
    refine ⟨_, hd, ⟨_, rfl, hp⟩, ?_⟩
    rintro r ⟨_, e, rfl⟩
    cases e
    rfl) h1 h2 h3
/-- f(k = e) -/
theorem fn1K {pre : PyData → Prop} {g : PyData → PyData} {d : PyData} {nm : Str} {kpos : Pos} (F : FnG X.prog X.w X.K X.mg X.base CX0 k f fd ps (sp1 pre g)) (gd : X.A.guards = some []) (rm : Room k X.A) (hg : Gl X x) (hm : X.mg x = some (.ref f)) (hk : PySem.W.keepIn X.K (.ref f) = true) (hb : KBi X.K fd ps 0 [nm] [0])
    (ha : DE X W Δ m e (eqd W.Z d)) (hp : pre d) (h1 : (x == ("__debug__" : Str)) = false := by decide) (hall : (backToKw pos (keywordEach [⟨some nm, e, kpos⟩] X.env)).all (·.1.isSome) = true := by rfl) (hks : (backToKw pos (keywordEach [⟨some nm, e, kpos⟩] X.env)).filterMap (·.1) = [nm] := by rfl)
    (hpl : ((backTo pos (starEach [] X.env)).any (·.1) || (backToKw pos (keywordEach [⟨some nm, e, kpos⟩] X.env)).any (·.1.isNone)) = false := by rfl) :
    DE X W Δ (m + 0) (.Call (.Name x p) [] [⟨some nm, e, kpos⟩] pos) (eqd W.Z (g d)) :=
  de_callK0 F gd rm hg hm hk hb (dk_cons ha dk_nil) rfl (fun H vs o => by
    obtain ⟨d', hd, rfl⟩ := allo1 o
    refine ⟨_, pick_das hd [0], ⟨_, rfl, hp⟩, ?_⟩
    rintro r ⟨_, e, rfl⟩
    cases e
    rfl) h1 hall hks hpl
end
/-! ### equality of scalars -/
theorem o_eqS {W : Wd} {x y : Str} : Op2 W rEq (eqd W.Z (.str x)) (eqd W.Z (.str y)) (bol W.Z (· = decide (x = y))) := fun n H v u w jj o1 o2 Q q => by
  have o1 := eqd_ok o1
  have o2 := eqd_ok o2
  cases o1
  cases o2
  refine ⟨rfl, q _ H Ext.refl ⟨_, rfl, ?_⟩⟩
  by_cases h : x = y
  · rw [decide_eq_true h, h, decide_eq_true rfl]
  · rw [decide_eq_false h, decide_eq_false fun c => h (by cases c; rfl)]
theorem o_neS {W : Wd} {x y : Str} : Op2 W rNe (eqd W.Z (.str x)) (eqd W.Z (.str y)) (bol W.Z (· = !decide (x = y))) := fun n H v u w jj o1 o2 Q q => by
  have o1 := eqd_ok o1
  have o2 := eqd_ok o2
  cases o1
  cases o2
  refine ⟨rfl, q _ H Ext.refl ⟨_, rfl, ?_⟩⟩
  by_cases h : x = y
  · rw [decide_eq_true h, h, decide_eq_true rfl]
  · rw [decide_eq_false h, decide_eq_false fun c => h (by cases c; rfl)]
theorem o_eqI {W : Wd} {x y : Int} : Op2 W rEq (eqd W.Z (.int x)) (eqd W.Z (.int y)) (bol W.Z (· = decide (x = y))) := fun n H v u w jj o1 o2 Q q => by
  have o1 := eqd_ok o1
  have o2 := eqd_ok o2
  cases o1
  cases o2
  refine ⟨rfl, q _ H Ext.refl ⟨_, rfl, ?_⟩⟩
  by_cases h : x = y
  · rw [decide_eq_true h, h, decide_eq_true rfl]
  · rw [decide_eq_false h, decide_eq_false fun c => h (by cases c; rfl)]
end Dv
set_option maxRecDepth 100000
set_option maxHeartbeats 2000000
/-! Dv8: a list compared with []; draws. -/
namespace Dv
open PySem PySem.Spec PyProof.Rows L2
section
variable {X : Cx} {W : Wd}
def rEqE (neg : Bool) : R2 := fun x y H Q => ∃ a b xs, x = .ref a ∧ y = .ref b ∧ H a = some (.lst xs) ∧ H b = some (.lst []) ∧ Q (.bl (if neg then !xs.isEmpty else xs.isEmpty)) H
theorem lst_is {pins : List (Addr × Obj)} {σ : L2.St} {H : Hp} {s : Shared} {a : Addr} {xs : List V} (I : Inv X pins σ H s) (h : H a = some (.lst xs)) : ∃ its : Array Value, s.heap.IsList a its ∧ its.size = xs.length := by
  obtain ⟨its, r, p, _⟩ := I.list (.inl (.inl h))
  exact ⟨its.toArray, p.isList, by rw [List.size_toArray, ← r.length]⟩
theorem op_eqE (hu : X.A.units + 64 < cLine) : OpR X (compareOp .Eq) (rEqE false) := by
  intro pins s σ H x y v u Q I rx ry h
  obtain ⟨a, b, xs, rfl, rfl, ha, hb, q⟩ := h
  cases (show v = Value.ref a from rx)
  cases (show u = Value.ref b from ry)
  obtain ⟨i1, p1, z1⟩ := lst_is I ha
  obtain ⟨i2, p2, z2⟩ := lst_is I hb
  have fin : ∀ k, k = xs.isEmpty → EP X pins σ Q (.bool k) s := fun k e => ⟨.bl k, H, I, rfl, by rw [e]; exact q⟩
  have hu' : X.A.units < cLine := by omega
  cases xs with
  | nil =>
    refine SeqAt.eq_listAt (e := fun _ => true) p1 p2 (by rw [z1, z2]) hu' (fun j h1 h2 => by rw [z1] at h1; exact absurd h1 (Nat.not_lt_zero _)) (fin _ ?_)
    rw [z1]
    rfl
  | cons c cs => exact SeqAt.eq_list_lengthsAt p1 p2 (by rw [z1, z2]; rfl) hu' (fin _ rfl)
theorem op_neE (hu : X.A.units + 64 < cLine) : OpR X (compareOp .NotEq) (rEqE true) := by
  intro pins s σ H x y v u Q I rx ry h
  obtain ⟨a, b, xs, rfl, rfl, ha, hb, q⟩ := h
  cases (show v = Value.ref a from rx)
  cases (show u = Value.ref b from ry)
  obtain ⟨i1, p1, z1⟩ := lst_is I ha
  obtain ⟨i2, p2, z2⟩ := lst_is I hb
  have fin : ∀ k, k = (!xs.isEmpty) → EP X pins σ Q (.bool k) s := fun k e => ⟨.bl k, H, I, rfl, by rw [e]; exact q⟩
  have hu' : X.A.units < cLine := by omega
  cases xs with
  | nil =>
    refine SeqAt.RcNeAt.lists (e := fun _ => true) p1 p2 (by rw [z1, z2]) hu' (fun j h1 h2 => by rw [z1] at h1; exact absurd h1 (Nat.not_lt_zero _)) X.prog X.w _ _ (fin _ ?_)
    rw [z1]
    rfl
  | cons c cs => exact SeqAt.RcNeAt.lists_lengths p1 p2 (by rw [z1, z2]; rfl) hu' X.prog X.w _ _ (fin _ rfl)
theorem o_eqE {ds : List PyData} : Op2 W (rEqE false) (eqd W.Z (.list ds)) (eqd W.Z (.list [])) (bol W.Z (· = ds.isEmpty)) := fun n H v u w jj o1 o2 Q q => by
  have o1 := eqd_ok o1
  have o2 := eqd_ok o2
  cases o1 with
  | lst r1 n1 d1 =>
    cases o2 with
    | lst r2 n2 d2 =>
      cases d2
      refine ⟨_, _, _, rfl, rfl, r1, r2, q _ H Ext.refl ⟨_, rfl, ?_⟩⟩
      cases d1 <;> rfl
theorem o_neE {ds : List PyData} : Op2 W (rEqE true) (eqd W.Z (.list ds)) (eqd W.Z (.list [])) (bol W.Z (· = !ds.isEmpty)) := fun n H v u w jj o1 o2 Q q => by
  have o1 := eqd_ok o1
  have o2 := eqd_ok o2
  cases o1 with
  | lst r1 n1 d1 =>
    cases o2 with
    | lst r2 n2 d2 =>
      cases d2
      refine ⟨_, _, _, rfl, rfl, r1, r2, q _ H Ext.refl ⟨_, rfl, ?_⟩⟩
      cases d1 <;> rfl
end
section
variable {X : Cx} {W : Wd} {Δ : List Sl} {m : Nat} {a b : Expr} {D : Ends} {sts : List Stmt} {N : Nat} {pos : Pos}
/-- x, y = a, b -/
theorem hs_par {i j : Nat} {x y : Str} {d1 d2 : PyData} {px py pt : Pos} {kt k2 pt2} (hc : X.calm = true) (hN : X.N.Nodup) (hi : X.N[i]? = some x) (hj : X.N[j]? = some y) (hij : i ≠ j)
    (hx : X.env.scope.names.lookup x = some .local) (hy : X.env.scope.names.lookup y = some .local) (ha : DAd X W Δ m [a, b] [d1, d2]) (hb : N + m ≤ BIG) (hr : HS X (Ok W (N + m) ((Δ.set i (.val d1)).set j (.val d2))) sts D)
    (hw : swappedStores [.Tuple [.Name x px, .Name y py] kt pt] (.Tuple [a, b] k2 pt2) X.env = pure (some [x, y]))
    (hs : swapsWithSole [.Tuple [.Name x px, .Name y py] kt pt] (.Tuple [a, b] k2 pt2) pos.line X.env = pure false := by rfl) :
    HS X (Ok W N Δ) (.Assign [.Tuple [.Name x px, .Name y py] kt pt] (.Tuple [a, b] k2 pt2) pos :: sts) D :=
  hs_cons (ps_to (ps_par hc hN hi hj hij hx hy ha hw hs) fun D' σ H z => ⟨N, hb, z.1, fun vs H1 k q o => by
    have o := allo_das o
    cases o with
    | cons o1 o2 =>
      cases o2 with
      | cons o2 o3 =>
        cases o3
        exact ⟨_, _, rfl, z.2.1 _ _ ((k.put i (s := .val d1) ⟨_, rfl, o1⟩).put j (s := .val d2) ⟨_, rfl, o2⟩)⟩⟩) hr
end
end Dv
set_option maxRecDepth 100000
set_option maxHeartbeats 2000000
/-! Dv9: the draws: the bag read and written, the script read. -/
namespace Dv
open PySem PySem.Spec PyProof.Rows L2
section
variable {X : Cx} {W : Wd} {Δ : List Sl} {m m1 m2 m3 : Nat} {e a b c : Expr} {es : List Expr} {P P1 P2 : Bool → Prop} {te : TE} {D : Ends} {sts : List Stmt} {N M : Nat} {pos : Pos} {p : Addr} {i0 : Nat}
/-- bag[0], bag[1] -/
theorem de_bag0 {j} {pc} (B : BagJ W.Z W.J p) (ho : PE X a (tVar i0)) (hs : Δ[i0]? = some (.is (.ref p))) : DE X W Δ 0 (.Subscript a (.Constant (.int 0) j pc) pos) (intp W.Z fun x => 0 ≤ x) :=
  de_val (pe_ix ix_list ho pe_int fun _ _ => rfl) fun n σ H k => by
    obtain ⟨o, h1, x, y, z, e, h2, _⟩ := B.is n H k.j
    subst e
    exact ⟨.int x, ⟨_, .int x, x, rfl, h2⟩, fun Q q => ⟨_, k.is hs, p, _, 0, .int x, rfl, rfl, .inl (.inl h1), rfl, q⟩⟩
theorem de_bag1 {j} {pc} (B : BagJ W.Z W.J p) (ho : PE X a (tVar i0)) (hs : Δ[i0]? = some (.is (.ref p))) : DE X W Δ 0 (.Subscript a (.Constant (.int 1) j pc) pos) (intp W.Z fun x => 0 ≤ x ∧ x < 10000000000000000000000000000000000043) :=
  de_val (pe_ix ix_list ho pe_int fun _ _ => rfl) fun n σ H k => by
    obtain ⟨o, h1, x, y, z, e, h2, h3, h4, _⟩ := B.is n H k.j
    subst e
    exact ⟨.int y, ⟨_, .int y, y, rfl, h3, h4⟩, fun Q q => ⟨_, k.is hs, p, _, 1, .int y, rfl, rfl, .inl (.inl h1), rfl, q⟩⟩
theorem de_bag2 {j} {pc} (B : BagJ W.Z W.J p) (ho : PE X a (tVar i0)) (hs : Δ[i0]? = some (.is (.ref p))) : DE X W Δ 0 (.Subscript a (.Constant (.int 2) j pc) pos) (intp W.Z fun x => 0 ≤ x ∧ x ≤ 1000000000) :=
  pe_to (pe_ix ix_list ho pe_int fun _ _ => rfl) fun σ H Q ⟨n, l, k, f⟩ => by
    obtain ⟨o, h1, x, y, z, e, h2, h3, h4, h5, h6⟩ := B.is n H k.j
    subst e
    have hb : (n : Int) ≤ 1000000000 := by
      have : n ≤ 1000000000 := l
      omega
    exact ⟨_, k.is hs, p, _, 2, .int z, rfl, rfl, .inl (.inl h1), rfl, f _ H k Kp.refl ⟨_, .int z, z, rfl, h5, by omega⟩⟩
/-- bag[j] = e -/
theorem hs_put {j : Int} {jn : Nat} {jj} {pc ps : Pos} {Pv : Int → Prop} (B : BagJ W.Z W.J p) (ho : PE X a (tVar i0)) (hs : Δ[i0]? = some (.is (.ref p))) (hj : ixN 3 j = some jn) (he : PE X e te)
    (hv : ∀ σ H, Ok W N Δ σ H → ∀ Q : VK, (∀ i H', Ok W N Δ σ H' → Pv i → Q (.int i) H') → te σ H Q) (hp : ∀ i, Pv i → jn = 0 ∧ 0 ≤ i ∨ jn = 2 ∧ 0 ≤ i ∧ i ≤ (M : Int)) (hM : N ≤ M) (hr : HS X (Ok W M Δ) sts D)
    (ha : ∀ v, assign (.Subscript a (.Constant (.int j) jj pc) ps) X.env v = (do let ov ← holding [v] (eval a X.env); let iv ← holding [v, ov] (eval (.Constant (.int j) jj pc) X.env); standAt ps; holding [v, ov, iv] (setItem ov iv v); release [v, ov, iv] []) := by intro _; rfl)
    (h1 : swapsWithSole [.Subscript a (.Constant (.int j) jj pc) ps] e pos.line X.env = pure false := by rfl) (h2 : swappedStores [.Subscript a (.Constant (.int j) jj pc) ps] e X.env = pure none := by rfl) :
    HS X (Ok W N Δ) (.Assign [.Subscript a (.Constant (.int j) jj pc) ps] e pos :: sts) D := by
  refine hs_cons (ps_to (ps_asg he (pg_sub ho pe_int set_list ha) h1 h2) fun D' σ H z => hv σ H z.1 _ fun i H1 k pi => ?_) hr
  obtain ⟨o, b1, x, y, w, eo, b2, b3, b4, b5, b6⟩ := B.is N H1 k.j
  subst eo
  refine ⟨_, k.is hs, p, _, j, jn, rfl, rfl, b1, hj, z.2.1 _ _ ?_⟩
  have kz : Kp W.Z H1 (upd H1 p (.lst (([.int x, .int y, .int w] : List V).set jn (.int i)))) := fun b o nz h => by
    have ne : b ≠ p := fun c => nz (by rw [c]; exact B.z)
    rw [upd_ne ne]
    exact h
  refine k.kp kz (B.to N M H1 _ _ k.j hM upd_same ?_ fun b _ ne => upd_ne ne)
  have hc : (N : Int) ≤ (M : Int) := by omega
  rcases hp i pi with ⟨rfl, q⟩ | ⟨rfl, q1, q2⟩
  · exact ⟨i, y, w, rfl, q, b3, b4, b5, by omega⟩
  · exact ⟨x, y, i, rfl, b2, b3, b4, q1, q2⟩
/-- what an expression is worth, at N draws -/
theorem DE.atN {Pv : Int → Prop} (h : DE X W Δ 0 e (intp W.Z Pv)) (hN : N ≤ BIG) : ∃ te, PE X e te ∧ ∀ σ H, Ok W N Δ σ H → ∀ Q : VK, (∀ i H', Ok W N Δ σ H' → Pv i → Q (.int i) H') → te σ H Q :=
  ⟨_, h, fun σ H k Q q => ⟨N, hN, k, fun v H1 k1 q1 o => by
    obtain ⟨_, o, i, rfl, pi⟩ := o
    cases o
    exact q i H1 k1 pi⟩⟩
/-- bag[0] = e -/
theorem hs_put0 {Pv : Int → Prop} {jj} {pc ps : Pos} (B : BagJ W.Z W.J p) (ho : PE X a (tVar i0)) (hs : Δ[i0]? = some (.is (.ref p))) (he : DE X W Δ 0 e (intp W.Z Pv)) (hp : ∀ i, Pv i → 0 ≤ i) (hN : N ≤ BIG) (hr : HS X (Ok W N Δ) sts D)
    (ha : ∀ v, assign (.Subscript a (.Constant (.int 0) jj pc) ps) X.env v = (do let ov ← holding [v] (eval a X.env); let iv ← holding [v, ov] (eval (.Constant (.int 0) jj pc) X.env); standAt ps; holding [v, ov, iv] (setItem ov iv v); release [v, ov, iv] []) := by intro _; rfl)
    (h1 : swapsWithSole [.Subscript a (.Constant (.int 0) jj pc) ps] e pos.line X.env = pure false := by rfl) (h2 : swappedStores [.Subscript a (.Constant (.int 0) jj pc) ps] e X.env = pure none := by rfl) :
    HS X (Ok W N Δ) (.Assign [.Subscript a (.Constant (.int 0) jj pc) ps] e pos :: sts) D := by
  obtain ⟨te, h3, h4⟩ := he.atN hN
  exact hs_put (Pv := Pv) B ho hs rfl h3 h4 (fun i q => .inl ⟨rfl, hp i q⟩) (Nat.le_refl _) hr ha h1 h2
/-- bag[2] = bag[2] + 1 -/
theorem hs_inc {jj jk jl} {pc ps pd pe pf pg : Pos} {a' : Expr} (B : BagJ W.Z W.J p) (ho : PE X a (tVar i0)) (ho' : PE X a' (tVar i0)) (hs : Δ[i0]? = some (.is (.ref p))) (hr : HS X (Ok W (N + 1) Δ) sts D)
    (ha : ∀ v, assign (.Subscript a (.Constant (.int 2) jj pc) ps) X.env v = (do let ov ← holding [v] (eval a X.env); let iv ← holding [v, ov] (eval (.Constant (.int 2) jj pc) X.env); standAt ps; holding [v, ov, iv] (setItem ov iv v); release [v, ov, iv] []) := by intro _; rfl)
    (h1 : swapsWithSole [.Subscript a (.Constant (.int 2) jj pc) ps] (.BinOp (.Subscript a' (.Constant (.int 2) jk pd) pe) .Add (.Constant (.int 1) jl pf) pg) pos.line X.env = pure false := by rfl)
    (h2 : swappedStores [.Subscript a (.Constant (.int 2) jj pc) ps] (.BinOp (.Subscript a' (.Constant (.int 2) jk pd) pe) .Add (.Constant (.int 1) jl pf) pg) X.env = pure none := by rfl) :
    HS X (Ok W N Δ) (.Assign [.Subscript a (.Constant (.int 2) jj pc) ps] (.BinOp (.Subscript a' (.Constant (.int 2) jk pd) pe) .Add (.Constant (.int 1) jl pf) pg) pos :: sts) D := by
  refine hs_put (Pv := fun i => 0 ≤ i ∧ i ≤ ((N + 1 : Nat) : Int)) B ho hs rfl (pe_op op_add (pe_ix ix_list ho' pe_int fun _ _ => rfl) pe_int) (fun σ H k Q q => ?_) (fun i q => .inr ⟨rfl, q⟩) (Nat.le_succ _) hr ha h1 h2
  obtain ⟨o, b1, x, y, w, eo, b2, b3, b4, b5, b6⟩ := B.is N H k.j
  subst eo
  exact ⟨_, k.is hs, p, _, 2, .int w, rfl, rfl, .inl (.inl b1), rfl, w, 1, rfl, rfl, q _ H k ⟨by omega, by omega⟩⟩

/-! ### the script -/
def scr (K : PySem.W.Frag) (h : Hp) (sa : Addr) (ns : List Int) : As (Wd.at (fun _ => False) (fun _ _ => True) h).Z := ⟨fun H v => v = .ref sa ∧ SqL K H sa (ns.map V.int), fun {H H' v} k o => ⟨o.1, by
  have nz : ∀ a, ¬ (Wd.at (fun _ => False) (fun _ _ => True) h).Z a := fun a z => at_z.mp z
  rcases o.2 with (r | ⟨u, r⟩) | r
  · exact .inl (.inl (k _ _ (nz _) r))
  · exact .inl (.inr ⟨u, k _ _ (nz _) r⟩)
  · exact .inr r⟩⟩
theorem de_scr {h : Hp} {sa : Addr} {ns : List Int} (ho : PE X a (tVar i0)) (hs : Δ[i0]? = some (.is (.ref sa))) (hS : SqL X.K h sa (ns.map V.int)) : DE X (Wd.at (fun _ => False) (fun _ _ => True) h) Δ 0 a (scr X.K h sa ns) :=
  de_val ho fun n σ H k => ⟨.ref sa, ⟨rfl, (scr X.K h sa ns).mono (H := h) (v := .ref sa) (fun b o _ e => k.kept b o (fun c => c) e) ⟨rfl, hS⟩ |>.2⟩, fun Q q => ⟨_, k.is hs, q⟩⟩
/-- a list of one's own, new since the entry -/
def frs (h : Hp) (ds : List PyData) : As (Wd.at (fun _ => False) (fun _ _ => True) h).Z := ⟨fun H v => ∃ p vs, v = .ref p ∧ h p = none ∧ H p = some (.lst vs) ∧ Das (fun _ => False) H vs ds, fun {H H' v} k ⟨p, vs, e, h1, h2, h3⟩ =>
  ⟨p, vs, e, h1, k _ _ (fun z => at_z.mp z) h2, h3.kp fun b o _ e => k b o (fun z => at_z.mp z) e⟩⟩
theorem de_frs {h : Hp} {ds : List PyData} (hd : DAd X (Wd.at (fun _ => False) (fun _ _ => True) h) Δ m es ds) (hl : ds.length ≤ 1000 := by first | exact Nat.le_of_ble_eq_true rfl | omega) : DE X (Wd.at (fun _ => False) (fun _ _ => True) h) Δ m (.List es pos) (frs h ds) :=
  pe_to (pe_lst hd) fun σ H Q ⟨n, l, k, z⟩ => ⟨n, l, k, fun vs H1 k1 q1 o1 => by
    have o := allo_das o1
    refine ⟨by rw [o.length]; exact Nat.le_trans hl (by decide), fun p hp => z _ _ (k1.ext (.new hp)) (q1.trans (Ext.new hp).kp) ⟨p, vs, rfl, ?_, upd_same, (o.mono Kp.refl fun a z => .inl (at_z.mpr z)).kp (Ext.new hp).kp⟩⟩
    match e : h p with
    | none => rfl
    | some u => exact nomatch (k1.kept p u (fun c => c) e).symm.trans hp⟩
theorem c_lenS {K : PySem.W.Frag} {h : Hp} {sa : Addr} {ns : List Int} : Cal (Wd.at (fun _ => False) (fun _ _ => True) h) (fun xs H Q => ∃ x n, xs = [x] ∧ LenV K x H n ∧ Q (.int n) H) [scr K h sa ns] (eqd _ (.int ns.length)) := fun n H vs w jj o Q q => by
  obtain ⟨v, rfl, o1⟩ := allo_1 o
  obtain ⟨rfl, o2⟩ := o1
  have e : LenV K (.ref sa) H (ns.map V.int).length := .inl ⟨_, o2, rfl⟩
  rw [List.length_map] at e
  exact ⟨_, _, rfl, e, q _ H Ext.refl (ok_eqd (.int _))⟩
theorem o_ixS {K : PySem.W.Frag} {h : Hp} {sa : Addr} {ns : List Int} {i : Int} (h0 : 0 ≤ i) (h1 : i < ns.length) : Op2 (Wd.at (fun _ => False) (fun _ _ => True) h) (rIxL K) (scr K h sa ns) (eqd _ (.int i)) (intp _ fun _ => True) := fun n H v u w jj o1 o2 Q q => by
  obtain ⟨rfl, o1⟩ := o1
  have o2 := eqd_ok o2
  cases o2
  have hl : i.toNat < ns.length := by omega
  have e : atI (ns.map V.int) i = some (.int ns[i.toNat]) := by
    have e2 : atI (ns.map V.int) ((i.toNat : Nat) : Int) = some (V.int ns[i.toNat]) := atI_nat (by rw [List.getElem?_map, List.getElem?_eq_getElem hl]; rfl)
    rwa [Int.toNat_of_nonneg h0] at e2
  exact ⟨sa, _, i, _, rfl, rfl, o1, e, q _ H Ext.refl ⟨_, .int _, _, rfl, trivial⟩⟩
end
end Dv
set_option maxRecDepth 100000
set_option maxHeartbeats 4000000
/-! Dv10: numbers from exact to ranged; the def that makes the bag. -/
namespace Dv
open PySem PySem.Spec PyProof.Rows L2
section
variable {X : Cx} {W : Wd} {Δ : List Sl} {m m1 m2 m3 : Nat} {e a b c : Expr} {pos : Pos}
theorem ei {Pi : Int → Prop} {i : Int} (h : DE X W Δ m e (eqd W.Z (.int i))) (p : Pi i) : DE X W Δ m e (intp W.Z Pi) := h.imp fun H v o => ⟨_, eqd_ok o, i, rfl, p⟩
theorem ii {Pi Qi : Int → Prop} (h : DE X W Δ m e (intp W.Z Pi)) (p : ∀ i, Pi i → Qi i) : DE X W Δ m e (intp W.Z Qi) := h.imp fun H v ⟨d, o, i, q, r⟩ => ⟨d, o, i, q, p i r⟩
theorem de_pow {i j : Int} {jx jy} {px py : Pos} (h : CPowW i j) {z : Int} (e : z = i ^ j.toNat) : DE X W Δ (0 + 0) (.BinOp (.Constant (.int i) jx px) .Pow (.Constant (.int j) jy py) pos) (eqd W.Z (.int z)) :=
  (de_op op_powW de_int de_int (o_int h)).to (by rw [e])
end
section
variable {P : Program} {w : World} {K : PySem.W.Frag} {mg : Str → Option Value} {base : Heap} {k : Nat} {f : Addr} {fd : FuncData} {x qual : Str} {st : Stmt} {N : List Str}
/-- a def that makes a bag from the script and a number -/
theorem okMk {s1 s2 : Str} (F : Fun K x qual st f fd) (S : FnScope N [s1, s2] (defScope st))
    (body : ∀ (cd : Value) (B : Around) (fr : List Env) (t : Shared) (h : Hp) (e : XK), B.guards = some [] → Room k (B.deeper (envOfC qual (defScope st) t.heap.objs.size f cd)) → ∀ (a : Addr) (ns : List Int) (i : Int), ns.length ≤ 63 → 0 ≤ i → i ≤ 100 → SqL K h a (ns.map V.int) →
      HS (cxOf CX0 P w K mg base N qual (defScope st) f cd B fr t h e).nox (Ok (Wd.at (fun _ => False) (fun _ _ => True) h) 0 (slots N [.is (.ref a), .val (.int i)])) (defBody st) { nx := fun _ _ => False, rt := fun v H' => Ext h H' ∧ ∃ p x y z, v = .ref p ∧ h p = none ∧ H' p = some (.lst [.int x, .int y, .int z]) ∧ IsBag 0 (.lst [.int x, .int y, .int z]) }) :
    FnG P w K mg base CX0 (k + 1) f fd [s1, s2] (spMk K) := by
  refine okG F S (fun xs h q e z => ?_) (fun cd B fr t h xs q e gd rm z => ?_)
  · obtain ⟨a, ns, i, rfl, _⟩ := z
    rfl
  · obtain ⟨a, ns, i, rfl, hS, hn, h0, h1, fin⟩ := z
    refine ⟨_, body cd B fr t h e gd rm a ns i hn h0 h1 hS, at_ok Wok.none trivial (.cons rfl (.cons ⟨_, rfl, .int i⟩ .nil)), fun _ _ z => z.elim, fun v H' z => ?_, fun _ _ z => z, fun _ _ z => z⟩
    obtain ⟨e', p, x, y, z, rfl, hp, ho, hb⟩ := z
    exact fin p H' _ hp e' ho hb
end
/-! ### draws, places -/
def Many (ds : List PyData) : Prop := ∃ n : Int, ds = [.int n] ∧ 1 ≤ n ∧ n < 1073741824
def Took (ds : List PyData) (d : PyData) : Prop := ∃ n i : Int, ds = [.int n] ∧ d = .int i ∧ 0 ≤ i ∧ i < n
section
variable {X : Cx} {W : Wd} {Δ : List Sl} {m m1 m2 m3 : Nat} {e a b c : Expr} {pos : Pos}
variable {k : Nat} {f : Addr} {fd : FuncData} {ps : List Str} {x : Str} {p : Pos}
theorem de_take {l : Int} {q : Addr} (F : FnG X.prog X.w X.K X.mg X.base CX0 k f fd ps (spB Many (fun _ => 1) Took)) (gd : X.A.guards = some []) (rm : Room k X.A) (hg : Gl X x) (hm : X.mg x = some (.ref f)) (hk : PySem.W.keepIn X.K (.ref f) = true) (hb : Binds X.K fd ps [])
    (B : BagJ W.Z W.J q) (h0 : DE X W Δ 0 e (raw W.Z (.ref q))) (ha : DE X W Δ m a (eqd W.Z (.int l))) (hl : 1 ≤ l ∧ l < 1073741824)
    (h1 : (x == ("__debug__" : Str)) = false := by decide) (h2 : starEach [e, a] X.env = (false, eval e X.env) :: starEach [a] X.env := by rfl) (h2' : starEach [a] X.env = (false, eval a X.env) :: starEach [] X.env := by rfl) (h3 : (backTo pos (starEach [a] X.env)).any (·.1) = false := by rfl) :
    DE X W Δ (m + 1) (.Call (.Name x p) [e, a] [] pos) (intp W.Z fun i => 0 ≤ i ∧ i < l) :=
  (de_draw (M := 1) (m := m + 0) F gd rm hg hm hk hb B h0 (da_cons ha da_nil h2') (fun H vs o => by
    obtain ⟨d', hd, rfl⟩ := allo1 o
    refine ⟨_, hd, ⟨l, rfl, hl⟩, Nat.le_refl _, ?_⟩
    rintro r ⟨n, i, e, rfl, i0, i1⟩
    cases e
    exact ⟨i, rfl, i0, i1⟩) h1 h2 h3)
theorem atI_mem {α : Type} {xs : List α} {i : Int} (h : 0 ≤ i ∧ i < xs.length) : ∃ d, atI xs i = some d ∧ d ∈ xs := by
  have hl : i.toNat < xs.length := by omega
  have e2 : atI xs ((i.toNat : Nat) : Int) = some xs[i.toNat] := atI_nat (List.getElem?_eq_getElem hl)
  rw [Int.toNat_of_nonneg h.1] at e2
  exact ⟨_, e2, List.getElem_mem hl⟩
/-- [..][i], one of them -/
theorem de_pick {ds : List PyData} {R : PyData → Prop} {l : Int} (ha : DE X W Δ m1 a (eqd W.Z (.list ds))) (hb : DE X W Δ m2 b (intp W.Z fun i => 0 ≤ i ∧ i < l)) (hl : l = ds.length) (hR : ∀ d ∈ ds, R d) (hs : PlainIx b := by intro _ _; rfl) : DE X W Δ (m1 + m2) (.Subscript a b pos) (dat W.Z R) :=
  de_ix ix_list ha hb (o_ixL fun i h => by
    obtain ⟨d, h1, h2⟩ := atI_mem (xs := ds) (i := i) (by omega)
    exact ⟨d, h1, hR d h2⟩) hs
end
theorem cut_to (ds : List PyData) (n : Nat) : cutD ds none (some (n : Int)) = ds.take n := by
  unfold cutD
  show (ds.drop 0).take (HT.sIx ds.length ds.length (some (n : Int)) - 0) = _
  have : HT.sIx ds.length ds.length (some (n : Int)) = min n ds.length := by
    show (if (n : Int) < 0 then ((n : Int) + ((ds.length : Nat) : Int)).toNat else min (n : Int).toNat ds.length) = _
    rw [if_neg (by omega), Int.toNat_natCast]
  rw [this, Nat.sub_zero, List.drop_zero]
  rcases Nat.le_total n ds.length with h | h
  · rw [Nat.min_eq_left h]
  · rw [Nat.min_eq_right h, List.take_length, List.take_of_length_le h]
theorem cut_from (ds : List PyData) (n : Nat) : cutD ds (some (n : Int)) none = ds.drop n := by
  unfold cutD
  have : HT.sIx ds.length 0 (some (n : Int)) = min n ds.length := by
    show (if (n : Int) < 0 then ((n : Int) + ((ds.length : Nat) : Int)).toNat else min (n : Int).toNat ds.length) = _
    rw [if_neg (by omega), Int.toNat_natCast]
  have e2 : HT.sIx ds.length ds.length none = ds.length := rfl
  rw [this, e2]
  rcases Nat.le_total n ds.length with h | h
  · rw [Nat.min_eq_left h, List.take_of_length_le (by rw [List.length_drop]; exact Nat.le_refl _)]
  · rw [Nat.min_eq_right h, List.drop_length, List.drop_of_length_le h, List.take_nil]
end Dv
set_option maxRecDepth 100000
set_option maxHeartbeats 4000000
namespace K13
open PySem PySem.Spec PyProof.Rows L2 Dv
def top (i : Nat) : Stmt := PySem.Challenge.pw_daychains_k13_offices_and_rules_judged.main.body.getD i (.Pass ⟨0, 0, 0, 0⟩)
abbrev sIsOffice : Stmt := top 2
abbrev sIsLetter : Stmt := top 3
abbrev sIsRule : Stmt := top 4
abbrev sLawBag : Stmt := top 6
abbrev sLawTake : Stmt := top 7
abbrev sLawLetters : Stmt := top 8
abbrev sLawOfficeDue : Stmt := top 9
abbrev sLawRuleDue : Stmt := top 10
abbrev sLawRight : Stmt := top 11
abbrev sLaw : Stmt := top 12
-- is_office: slots 0 value, 1 sign
theorem sc_is_office : FnScope ["value", "sign"] ["value"] (defScope sIsOffice) := ⟨rfl, rfl, rfl, by decide +kernel, rfl, by decide +kernel, by decide +kernel⟩
-- is_letter: slots 0 value
theorem sc_is_letter : FnScope ["value"] ["value"] (defScope sIsLetter) := ⟨rfl, rfl, rfl, by decide +kernel, rfl, by decide +kernel, by decide +kernel⟩
-- is_rule: slots 0 value, 1 entry
theorem sc_is_rule : FnScope ["value", "entry"] ["value"] (defScope sIsRule) := ⟨rfl, rfl, rfl, by decide +kernel, rfl, by decide +kernel, by decide +kernel⟩
-- _law_bag: slots 0 script, 1 k, 2 cell
theorem sc_law_bag : FnScope ["script", "k", "cell"] ["script", "k"] (defScope sLawBag) := ⟨rfl, rfl, rfl, by decide +kernel, rfl, by decide +kernel, by decide +kernel⟩
-- _law_take: slots 0 bag, 1 many, 2 mixed, 3 digit
theorem sc_law_take : FnScope ["bag", "many", "mixed", "digit"] ["bag", "many"] (defScope sLawTake) := ⟨rfl, rfl, rfl, by decide +kernel, rfl, by decide +kernel, by decide +kernel⟩
-- _law_letters: slots 0 bag, 1 most, 2 houses, 3 some, 4 turn
theorem sc_law_letters : FnScope ["bag", "most", "houses", "some", "turn"] ["bag", "most", "houses"] (defScope sLawLetters) := ⟨rfl, rfl, rfl, by decide +kernel, rfl, by decide +kernel, by decide +kernel⟩
-- _law_office_due: slots 0 thing, 1 sign
theorem sc_law_office_due : FnScope ["thing", "sign"] ["thing"] (defScope sLawOfficeDue) := ⟨rfl, rfl, rfl, by decide +kernel, rfl, by decide +kernel, by decide +kernel⟩
-- _law_rule_due: slots 0 thing, 1 one
theorem sc_law_rule_due : FnScope ["thing", "one"] ["thing"] (defScope sLawRuleDue) := ⟨rfl, rfl, rfl, by decide +kernel, rfl, by decide +kernel, by decide +kernel⟩
-- _law_right: slots 0 thing, 1 found, 2 kept, 3 dues
theorem sc_law_right : FnScope ["thing", "found", "kept", "dues"] ["thing"] (defScope sLawRight) := ⟨rfl, rfl, rfl, by decide +kernel, rfl, by decide +kernel, by decide +kernel⟩
-- law: slots 0 script, 1 k, 2 bag, 3 turn, 4 signs, 5 word, 6 letters, 7 odd, 8 spot, 9 wrong, 10 others, 11 sign, 12 one
theorem sc_law : FnScope ["script", "k", "bag", "turn", "signs", "word", "letters", "odd", "spot", "wrong", "others", "sign", "one"] ["script"] (defScope sLaw) := ⟨rfl, rfl, rfl, by decide +kernel, rfl, by decide +kernel, by decide +kernel⟩
/-- where the defs stand -/
structure Ads where
  a_is_office : Addr
  d_is_office : FuncData
  a_is_letter : Addr
  d_is_letter : FuncData
  a_is_rule : Addr
  d_is_rule : FuncData
  a_law_bag : Addr
  d_law_bag : FuncData
  a_law_take : Addr
  d_law_take : FuncData
  a_law_letters : Addr
  d_law_letters : FuncData
  a_law_office_due : Addr
  d_law_office_due : FuncData
  a_law_rule_due : Addr
  d_law_rule_due : FuncData
  a_law_right : Addr
  d_law_right : FuncData
  a_law : Addr
  d_law : FuncData
/-- what the top has left -/
structure Txt (K : PySem.W.Frag) (mg : Str → Option Value) (a : Ads) : Prop where
  g_is_office : mg "is_office" = some (.ref a.a_is_office)
  F_is_office : Fun K "is_office" "is_office" sIsOffice a.a_is_office a.d_is_office
  b_is_office : Binds K a.d_is_office ["value"] []
  g_is_letter : mg "is_letter" = some (.ref a.a_is_letter)
  F_is_letter : Fun K "is_letter" "is_letter" sIsLetter a.a_is_letter a.d_is_letter
  b_is_letter : Binds K a.d_is_letter ["value"] []
  g_is_rule : mg "is_rule" = some (.ref a.a_is_rule)
  F_is_rule : Fun K "is_rule" "is_rule" sIsRule a.a_is_rule a.d_is_rule
  b_is_rule : Binds K a.d_is_rule ["value"] []
  g_law_bag : mg "_law_bag" = some (.ref a.a_law_bag)
  F_law_bag : Fun K "_law_bag" "_law_bag" sLawBag a.a_law_bag a.d_law_bag
  b_law_bag : Binds K a.d_law_bag ["script", "k"] []
  g_law_take : mg "_law_take" = some (.ref a.a_law_take)
  F_law_take : Fun K "_law_take" "_law_take" sLawTake a.a_law_take a.d_law_take
  b_law_take : Binds K a.d_law_take ["bag", "many"] []
  g_law_letters : mg "_law_letters" = some (.ref a.a_law_letters)
  F_law_letters : Fun K "_law_letters" "_law_letters" sLawLetters a.a_law_letters a.d_law_letters
  b_law_letters : Binds K a.d_law_letters ["bag", "most", "houses"] []
  g_law_office_due : mg "_law_office_due" = some (.ref a.a_law_office_due)
  F_law_office_due : Fun K "_law_office_due" "_law_office_due" sLawOfficeDue a.a_law_office_due a.d_law_office_due
  b_law_office_due : Binds K a.d_law_office_due ["thing"] []
  g_law_rule_due : mg "_law_rule_due" = some (.ref a.a_law_rule_due)
  F_law_rule_due : Fun K "_law_rule_due" "_law_rule_due" sLawRuleDue a.a_law_rule_due a.d_law_rule_due
  b_law_rule_due : Binds K a.d_law_rule_due ["thing"] []
  g_law_right : mg "_law_right" = some (.ref a.a_law_right)
  F_law_right : Fun K "_law_right" "_law_right" sLawRight a.a_law_right a.d_law_right
  b_law_right : Binds K a.d_law_right ["thing"] []
  g_law : mg "law" = some (.ref a.a_law)
  F_law : Fun K "law" "law" sLaw a.a_law a.d_law
  b_law : Binds K a.d_law ["script"] []
  c_SMALL_LETTERS : ∃ t, mg "SMALL_LETTERS" = some (.str "abcdefghijklmnopqrstuvwxyz" t)
  n_abs : mg "abs" = none
  n_all : mg "all" = none
  n_isinstance : mg "isinstance" = none
  n_len : mg "len" = none
  n_list : mg "list" = none
  n_max : mg "max" = none
  n_min : mg "min" = none
  n_range : mg "range" = none
  n_repr : mg "repr" = none
  n_str : mg "str" = none
  n_tuple : mg "tuple" = none
section
variable {P : Program} {w : World} {K : PySem.W.Frag} {mg : Str → Option Value} {base : Heap} {a : Ads}
/-! ### the program -/
def small : Str := "abcdefghijklmnopqrstuvwxyz"
def isSmall : PyData → Bool
  | .str ⟨#[c]⟩ => decide (c ∈ small.cps.toList)
  | _ => false
/-- an office -/
def office : PyData → Bool
  | .str x => (decide (1 ≤ (x.length : Int)) && decide ((x.length : Int) ≤ 8)) && ((sgn x).map isSmall).all id
  | _ => false
def lenOk : PyData → Bool
  | .str x => decide (1 ≤ (x.length : Int)) && decide ((x.length : Int) ≤ 8)
  | _ => false
def fits : PyData → Prop := fun d => ∀ x, d = .str x → x.length ≤ 100000
theorem sgn_mem {x : Str} {d : PyData} (h : d ∈ sgn x) : ∃ c, d = .str ⟨#[c]⟩ := by
  obtain ⟨c, _, rfl⟩ := List.mem_map.mp h
  exact ⟨c, rfl⟩
theorem ok_is_office (T : Txt K mg a) : FnOk P w K mg base CX0 2 a.a_is_office a.d_is_office ["value"] (sp1 fits fun d => .bool (office d)) := by
  refine okDO T.F_is_office sc_is_office (by rintro ds ⟨d, rfl, _⟩; rfl) (fun cd B fr t h e rm Z J n ds ln hp => ?_)
  obtain ⟨d, rfl, hf⟩ := hp
  refine hs_guard (P := (· = !lenOk d)) (PW.pt (dt_or (m2 := 0) (P1 := (· = !isStr d)) (dt_not (dt_val (de_isi (by rfl) T.n_isinstance (de_var (pv 0) rfl) (de_ty (by rfl) T.n_str boot_str) (kit_str d))) (by rintro b rfl; rfl)) (fun q => ?_) (fun q => ?_))) ln (fun q => ?_) (fun q => ?_)
  · obtain ⟨x, rfl⟩ := str_of (d := d) (by simpa using q)
    refine dt_or1 (dt_not (dt_le2 de_int (de_len (by rfl) T.n_len (de_var (pv 0) rfl) (lenS (hf x rfl))) de_int) (by rintro b rfl; rfl))
  · have : isStr d = false := by simpa using q
    cases d <;> first | rfl | cases this
  · refine hs_ret de_bl ln (fun v σ H k o => rt_at k ⟨_, eqd_ok o, d, rfl, ?_⟩ (Nat.le_refl _))
    cases d with
    | str x =>
      have e : (decide (1 ≤ (x.length : Int)) && decide ((x.length : Int) ≤ 8)) = false := Bool.not_eq_true' _ |>.mp q.symm
      show PyData.bool false = .bool ((decide (1 ≤ (x.length : Int)) && decide ((x.length : Int) ≤ 8)) && _)
      rw [e]
      rfl
    | _ => rfl
  · have ql : lenOk d = true := by simpa using q
    obtain ⟨x, rfl⟩ : ∃ x, d = .str x := by
      cases d <;> first | exact ⟨_, rfl⟩ | cases ql
    obtain ⟨t0, hc⟩ := T.c_SMALL_LETTERS
    have hlen : (sgn x).length ≤ 100000 := by
      rw [sgn_len]
      exact hf x rfl
    refine hs_ret (de_all (bs := (sgn x).map isSmall) rfl (by rfl) T.n_all (DE.to (de_lcM (c2 := 0) (own := [("sign", 1)]) (g := fun d => .bool (isSmall d)) rfl sc_is_office.nd (di_str (de_var (pv 0) rfl)) (blkOk_by (N := ["value", "sign"]) (sc := defScope sIsOffice) (by decide +kernel)) (j := 1) rfl (by decide) (Nat.le_trans hlen (by decide)) (fun _ _ _ _ _ => pg_name sc_is_office.nd rfl (Or.inl rfl)) (fun s H C cl fp D φ d nD dm => ?_)) (by rw [List.map_map]; rfl))) ln (fun v σ H k o => rt_at k ⟨_, eqd_ok o, _, rfl, ?_⟩ (Nat.le_refl _))
    · obtain ⟨c, rfl⟩ := sgn_mem dm
      exact bol_de (de_cmp op_inS (de_var (pv 1) rfl) (de_gstr (by rfl) hc) o_in (by with_unfolding_all rfl))
    · have e : (decide (1 ≤ (x.length : Int)) && decide ((x.length : Int) ≤ 8)) = true := ql
      show PyData.bool _ = .bool ((decide (1 ≤ (x.length : Int)) && decide ((x.length : Int) ≤ 8)) && _)
      rw [e]
      rfl

def letter (d : PyData) : Bool := match d with
  | .str x => decide (x = "+") || office d
  | _ => false
theorem ok_is_letter (T : Txt K mg a) : FnOk P w K mg base CX0 3 a.a_is_letter a.d_is_letter ["value"] (sp1 fits fun d => .bool (letter d)) := by
  refine okDO T.F_is_letter sc_is_letter (by rintro ds ⟨d, rfl, _⟩; rfl) (fun cd B fr t h e rm Z J n ds ln hp => ?_)
  obtain ⟨d, rfl, hf⟩ := hp
  refine hs_ret (de_and (m2 := 0) (P := (· = letter d)) (de_bol (de_isi (by rfl) T.n_isinstance (de_var (pv 0) rfl) (de_ty (by rfl) T.n_str boot_str) (kit_str d))) (fun q => ?_) (fun q => ?_)) ln (fun v σ H k o => rt_at k ?_ (Nat.le_refl _))
  · obtain ⟨x, rfl⟩ := str_of (d := d) (by simpa using q.symm)
    exact de_one (de_or (P1 := (· = decide (x = "+"))) (de_cmp op_eq (de_var (pv 0) rfl) de_str o_eqS (nomark _))
      (fun q => de_one ((de_bol (fn1O (ok_is_office T) rm (by rfl) T.g_is_office T.F_is_office.kp T.b_is_office (de_var (pv 0) rfl) hf)).imp fun H v o => by
        obtain ⟨b, rfl, rfl⟩ := o
        refine ⟨_, rfl, ?_⟩
        show office (.str x) = (decide (x = "+") || office (.str x))
        rw [← q]
        rfl))
      (fun q => by
        show true = (decide (x = "+") || office (.str x))
        rw [← q]
        rfl))
  · cases d <;> first | rfl | cases q
  · obtain ⟨b, rfl, rfl⟩ := o
    exact ⟨_, .bl _, d, rfl, rfl⟩

def rule : PyData → Bool
  | .list ds => (ds.map letter).all id
  | _ => false
def fitsR (d : PyData) : Prop := fits d ∧ ∀ ds, d = .list ds → ds.length ≤ 100000 ∧ ∀ e ∈ ds, fits e
theorem ok_is_rule (T : Txt K mg a) : FnOk P w K mg base CX0 4 a.a_is_rule a.d_is_rule ["value"] (sp1 fitsR fun d => .bool (rule d)) := by
  refine okDO T.F_is_rule sc_is_rule (by rintro ds ⟨d, rfl, _⟩; rfl) (fun cd B fr t h e rm Z J n ds ln hp => ?_)
  obtain ⟨d, rfl, hf⟩ := hp
  refine hs_ret (de_and (m2 := 0) (P := (· = rule d)) (de_bol (de_isi (by rfl) T.n_isinstance (de_var (pv 0) rfl) (de_ty (by rfl) T.n_list boot_list) (kit_list d))) (fun q => ?_) (fun q => ?_)) ln (fun v σ H k o => rt_at k ?_ (Nat.le_refl _))
  · obtain ⟨ds, rfl⟩ := list_of (d := d) (by simpa using q.symm)
    obtain ⟨hl, he⟩ := hf.2 ds rfl
    exact de_one (de_bol (de_all (bs := ds.map letter) rfl (by rfl) T.n_all (DE.to (de_lcM (c2 := 0) (own := [("entry", 1)]) (g := fun d => .bool (letter d)) rfl sc_is_rule.nd (di_list (de_var (pv 0) rfl)) (blkOk_by (N := ["value", "entry"]) (sc := defScope sIsRule) (by decide +kernel)) (j := 1) rfl (by decide) (Nat.le_trans hl (by decide)) (fun _ _ _ _ _ => pg_name sc_is_rule.nd rfl (Or.inl rfl))
      (fun s H C cl fp D φ d nD dm => fn1O (ok_is_letter T) rm (by rfl) T.g_is_letter T.F_is_letter.kp T.b_is_letter (de_var (pv 1) rfl) (he d dm))) (by rw [List.map_map]; rfl))))
  · cases d <;> first | rfl | cases q
  · obtain ⟨b, rfl, rfl⟩ := o
    exact ⟨_, .bl _, d, rfl, rfl⟩
/-! ### the law's own reading -/
theorem office_due (x : Str) : ((sgn x).filter fun d => !isSmall d).isEmpty = ((sgn x).map isSmall).all id := by
  generalize sgn x = l
  induction l with
  | nil => rfl
  | cons d l ih =>
    rw [List.map_cons, List.all_cons, List.filter_cons, ← ih]
    cases h : isSmall d <;> simp
theorem ok_law_office_due (T : Txt K mg a) : FnOk P w K mg base CX0 2 a.a_law_office_due a.d_law_office_due ["thing"] (sp1 fits fun d => .bool (office d)) := by
  refine okDO T.F_law_office_due sc_law_office_due (by rintro ds ⟨d, rfl, _⟩; rfl) (fun cd B fr t h e rm Z J n ds ln hp => ?_)
  obtain ⟨d, rfl, hf⟩ := hp
  refine hs_guard (P := (· = !lenOk d)) (PW.pt (dt_or (m2 := 0) (P1 := (· = !isStr d)) (dt_not (dt_val (de_isi (by rfl) T.n_isinstance (de_var (pv 0) rfl) (de_ty (by rfl) T.n_str boot_str) (kit_str d))) (by rintro b rfl; rfl)) (fun q => ?_) (fun q => ?_))) ln (fun q => ?_) (fun q => ?_)
  · obtain ⟨x, rfl⟩ := str_of (d := d) (by simpa using q)
    refine dt_or1 (dt_not (dt_le2 de_int (de_len (by rfl) T.n_len (de_var (pv 0) rfl) (lenS (hf x rfl))) de_int) (by rintro b rfl; rfl))
  · have : isStr d = false := by simpa using q
    cases d <;> first | rfl | cases this
  · refine hs_ret de_bl ln (fun v σ H k o => rt_at k ⟨_, eqd_ok o, d, rfl, ?_⟩ (Nat.le_refl _))
    cases d with
    | str x =>
      have e : (decide (1 ≤ (x.length : Int)) && decide ((x.length : Int) ≤ 8)) = false := Bool.not_eq_true' _ |>.mp q.symm
      show PyData.bool false = .bool ((decide (1 ≤ (x.length : Int)) && decide ((x.length : Int) ≤ 8)) && _)
      rw [e]
      rfl
    | _ => rfl
  · have ql : lenOk d = true := by simpa using q
    obtain ⟨x, rfl⟩ : ∃ x, d = .str x := by
      cases d <;> first | exact ⟨_, rfl⟩ | cases ql
    have hlen : (sgn x).length ≤ 100000 := by
      rw [sgn_len]
      exact hf x rfl
    refine hs_ret (de_cmp (op_eqE (room_u rm)) (de_lcF (c1 := 0) (c2 := 0) (own := [("sign", 1)]) (f := fun d => !isSmall d) (g := fun d => d) rfl sc_law_office_due.nd (di_str (de_var (pv 0) rfl)) (blkOk_by (N := ["thing", "sign"]) (sc := defScope sLawOfficeDue) (by decide +kernel)) (j := 1) rfl (by decide) (Nat.le_trans hlen (by decide)) (fun _ _ _ _ _ => pg_name sc_law_office_due.nd rfl (Or.inl rfl))
      (fun s H C cl fp D φ d nD dm => ?_) (fun s H C cl fp D φ d nD dm _ => de_var (pv 1) rfl)) (de_list das_nil) o_eqE (nomark _)) ln (fun v σ H k o => rt_at k ?_ (Nat.le_refl _))
    · obtain ⟨c, rfl⟩ := sgn_mem dm
      exact dt_cmp op_notInS (de_var (pv 1) rfl) de_str o_notin (by with_unfolding_all rfl)
    · obtain ⟨b, rfl, rfl⟩ := o
      refine ⟨_, .bl _, _, rfl, ?_⟩
      have e : (decide (1 ≤ (x.length : Int)) && decide ((x.length : Int) ≤ 8)) = true := ql
      show PyData.bool _ = .bool ((decide (1 ≤ (x.length : Int)) && decide ((x.length : Int) ≤ 8)) && _)
      rw [e, List.map_id', office_due]
      rfl

def isPlus : PyData → Bool
  | .str x => decide (x = "+")
  | _ => false
theorem letter_eq (d : PyData) : letter d = (isPlus d || office d) := by
  cases d <;> rfl
theorem rule_due (ds : List PyData) : (ds.filter fun d => !office d && !isPlus d).isEmpty = (ds.map letter).all id := by
  induction ds with
  | nil => rfl
  | cons d l ih =>
    rw [List.map_cons, List.all_cons, List.filter_cons, ← ih, letter_eq]
    cases h : office d <;> cases h' : isPlus d <;> simp
theorem ok_law_rule_due (T : Txt K mg a) : FnOk P w K mg base CX0 4 a.a_law_rule_due a.d_law_rule_due ["thing"] (sp1 fitsR fun d => .bool (rule d)) := by
  refine okDO T.F_law_rule_due sc_law_rule_due (by rintro ds ⟨d, rfl, _⟩; rfl) (fun cd B fr t h e rm Z J n ds ln hp => ?_)
  obtain ⟨d, rfl, hf⟩ := hp
  refine hs_guard (P := (· = !isList d)) (dt_not (dt_val (de_isi (by rfl) T.n_isinstance (de_var (pv 0) rfl) (de_ty (by rfl) T.n_list boot_list) (kit_list d))) (by rintro b rfl; rfl)) ln (fun q => ?_) (fun q => ?_)
  · refine hs_ret de_bl ln (fun v σ H k o => rt_at k ⟨_, eqd_ok o, d, rfl, ?_⟩ (Nat.le_refl _))
    cases d <;> first | rfl | cases q
  · obtain ⟨ds, rfl⟩ := list_of (d := d) (by simpa using q)
    obtain ⟨hl, he⟩ := hf.2 ds rfl
    have hr2 : Room 2 (B.deeper (envOfC "_law_rule_due" (defScope sLawRuleDue) t.heap.objs.size a.a_law_rule_due cd)) := rm.mono (by decide)
    refine hs_ret (de_cmp (op_eqE (room_u rm)) (de_lcF (c1 := 0) (c2 := 0) (own := [("one", 1)]) (f := fun d => !office d && !isPlus d) (g := fun d => d) rfl sc_law_rule_due.nd (di_list (de_var (pv 0) rfl)) (blkOk_by (N := ["thing", "one"]) (sc := defScope sLawRuleDue) (by decide +kernel)) (j := 1) rfl (by decide) (Nat.le_trans hl (by decide)) (fun _ _ _ _ _ => pg_name sc_law_rule_due.nd rfl (Or.inl rfl))
      (fun s H C cl fp D φ d nD dm => ?_) (fun s H C cl fp D φ d nD dm _ => de_var (pv 1) rfl)) (de_list das_nil) o_eqE (nomark _)) ln (fun v σ H k o => rt_at k ?_ (Nat.le_refl _))
    · refine PW.pt (dt_and (m2 := 0) (P1 := (· = !office d)) (dt_not (dt_val (fn1O (ok_law_office_due T) hr2 (by rfl) T.g_law_office_due T.F_law_office_due.kp T.b_law_office_due (de_var (pv 1) rfl) (he d dm))) (by rintro b rfl; rfl)) (fun q => ?_) (fun q => ?_))
      · refine dt_and1 (dt_not (P1 := (· = isPlus d)) (PW.pt (dt_and (m2 := 0) (P1 := (· = isStr d)) (dt_val (de_isi (by rfl) T.n_isinstance (de_var (pv 1) rfl) (de_ty (by rfl) T.n_str boot_str) (kit_str d))) (fun q => ?_) (fun q => ?_))) ?_)
        · obtain ⟨x, rfl⟩ := str_of (d := d) q.symm
          exact dt_and1 (dt_cmp op_eq (de_var (pv 1) rfl) de_str o_eqS (nomark _))
        · cases d <;> first | rfl | cases q
        · rintro b rfl
          rw [← q]
          rfl
      · rw [← q]
        rfl
    · obtain ⟨b, rfl, rfl⟩ := o
      refine ⟨_, .bl _, _, rfl, ?_⟩
      show PyData.bool _ = .bool ((ds.map letter).all id)
      rw [List.map_id', rule_due]
end
end K13
set_option maxRecDepth 100000
set_option maxHeartbeats 4000000
/-! Dv11: how long data are when shown; signs of a text; texts joined. -/
namespace Dv
open PySem PySem.Spec PyProof.Rows L2
/-- data of a bulk at most b and a depth at most p -/
structure Sw (b p : Nat) (d : PyData) : Prop where
  s : d.showable = true
  l : PyData.leavesShort 600 d = true
  b : d.bulk ≤ b
  p : d.depth ≤ p
/-- what repr takes -/
structure Shw (d : PyData) : Prop where
  s : d.showable = true
  z : d.shown.length ≤ sizeLine
  p : d.depth ≤ 60
theorem Sw.shw {b p : Nat} {d : PyData} (h : Sw b p d) (hb : b ≤ 27000) (hp : p ≤ 60) : Shw d := by
  refine ⟨h.s, ?_, Nat.le_trans h.p hp⟩
  have h1 := PyData.shown_le_bulk 600 (by decide) d h.l
  have h2 : (600 + 2) * d.bulk ≤ (600 + 2) * 27000 := Nat.mul_le_mul_left _ (Nat.le_trans h.b hb)
  have h3 : sizeLine = 16777216 := by decide
  omega
theorem Sw.up {b p b' p' : Nat} {d : PyData} (h : Sw b p d) (hb : b ≤ b') (hp : p ≤ p') : Sw b' p' d := ⟨h.s, h.l, Nat.le_trans h.b hb, Nat.le_trans h.p hp⟩
structure Sws (b p n : Nat) (ds : List PyData) : Prop where
  s : PyData.showableAll ds = true
  l : PyData.leavesShortAll 600 ds = true
  b : PyData.bulkAll ds ≤ ds.length * (b + 1)
  p : PyData.depthAll ds ≤ p
  n : ds.length ≤ n
theorem Sws.of {b p : Nat} : ∀ {ds : List PyData}, (∀ d ∈ ds, Sw b p d) → Sws b p ds.length ds
  | [], _ => ⟨rfl, rfl, Nat.zero_le _, Nat.zero_le _, Nat.le_refl _⟩
  | d :: ds, h => by
    have h1 := h d List.mem_cons_self
    have h2 := Sws.of (ds := ds) fun e m => h e (List.mem_cons_of_mem _ m)
    refine ⟨?_, ?_, ?_, ?_, Nat.le_refl _⟩
    · show (d.showable && PyData.showableAll ds) = true
      rw [h1.s, h2.s]
      rfl
    · show (PyData.leavesShort 600 d && PyData.leavesShortAll 600 ds) = true
      rw [h1.l, h2.l]
      rfl
    · show d.bulk + 1 + PyData.bulkAll ds ≤ (ds.length + 1) * (b + 1)
      have := h1.b
      have := h2.b
      rw [Nat.succ_mul]
      omega
    · show max d.depth (PyData.depthAll ds) ≤ p
      exact Nat.max_le.mpr ⟨h1.p, h2.p⟩
theorem Sw.list {b p n : Nat} {ds : List PyData} (h : ∀ d ∈ ds, Sw b p d) (hn : ds.length ≤ n) : Sw (n * (b + 1)) (p + 1) (.list ds) := by
  have q := Sws.of h
  exact ⟨q.s, q.l, Nat.le_trans q.b (Nat.mul_le_mul_right _ hn), Nat.succ_le_succ q.p⟩
theorem Sw.tuple {b p n : Nat} {ds : List PyData} (h : ∀ d ∈ ds, Sw b p d) (hn : ds.length ≤ n) : Sw (n * (b + 1)) (p + 1) (.tuple ds) := by
  have q := Sws.of h
  exact ⟨q.s, q.l, Nat.le_trans q.b (Nat.mul_le_mul_right _ hn), Nat.succ_le_succ q.p⟩
theorem Sw.str {b : Nat} {x : Str} (h : ∀ c ∈ x.cps.toList, c < 1114112) (hb : x.length ≤ b) : Sw b 0 (.str x) :=
  ⟨rfl, List.all_eq_true.mpr fun c m => decide_eq_true (Nat.lt_of_lt_of_le (h c m) (by decide)), hb, Nat.le_refl _⟩
/-- a text joined of texts -/
theorem join_cps {ys : List Str} : (Txt.join "" ys).cps.toList = ys.flatMap fun y => y.cps.toList := by
  show (Builtin.Str.glued "" ys).cps.toList = _
  rw [StrLaws.glued_eq_join]
  induction ys with
  | nil => rfl
  | cons y ys ih =>
    cases ys with
    | nil => simp [Str.join]
    | cons z zs =>
      show (y ++ "" ++ Str.join "" (z :: zs)).cps.toList = _
      rw [Str.cps_append, Str.cps_append, List.flatMap_cons, ← ih]
      show (y.cps ++ #[] ++ _).toList = _
      simp
theorem strs_of {Q : Str → Prop} : ∀ {zs : List PyData}, (∀ z ∈ zs, ∃ y, z = .str y ∧ Q y) → ∃ ys : List Str, zs = ys.map PyData.str ∧ ∀ y ∈ ys, Q y
  | [], _ => ⟨[], rfl, fun y m => nomatch m⟩
  | z :: zs, h => by
    obtain ⟨y, rfl, q⟩ := h z List.mem_cons_self
    obtain ⟨ys, rfl, r⟩ := strs_of (zs := zs) fun e m => h e (List.mem_cons_of_mem _ m)
    refine ⟨y :: ys, rfl, fun e m => ?_⟩
    rcases List.mem_cons.mp m with rfl | m
    · exact q
    · exact r e m
theorem join_ones {z : List Nat} {ys : List Str} (h : ∀ y ∈ ys, ∃ c, y = ⟨#[c]⟩ ∧ c ∈ z) : (Txt.join "" ys).length = ys.length ∧ ∀ c ∈ (Txt.join "" ys).cps.toList, c ∈ z := by
  have e : ∀ ys : List Str, (∀ y ∈ ys, ∃ c, y = ⟨#[c]⟩ ∧ c ∈ z) → (ys.flatMap fun y => y.cps.toList).length = ys.length ∧ ∀ c ∈ (ys.flatMap fun y => y.cps.toList), c ∈ z := by
    intro ys h
    induction ys with
    | nil => exact ⟨rfl, fun c m => nomatch m⟩
    | cons y ys ih =>
      obtain ⟨c, rfl, hc⟩ := h y List.mem_cons_self
      obtain ⟨i1, i2⟩ := ih fun e m => h e (List.mem_cons_of_mem _ m)
      rw [List.flatMap_cons]
      refine ⟨?_, fun d m => ?_⟩
      · rw [List.length_append, i1, List.length_cons]
        exact Nat.add_comm _ _
      · rcases List.mem_append.mp m with m | m
        · cases List.mem_singleton.mp m
          exact hc
        · exact i2 d m
  obtain ⟨e1, e2⟩ := e ys h
  rw [join_cps]
  refine ⟨?_, e2⟩
  show (Txt.join "" ys).cps.size = _
  rw [← Array.length_toList, join_cps, e1]
section
variable {X : Cx} {W : Wd} {Δ : List Sl} {m m1 m2 m3 : Nat} {e a b c : Expr} {pos : Pos}
theorem o_ixT {z : Str} {l : Int} (hz : z.length ≤ 100000) (hl : l = z.length) : Op2 W rIxS (eqd W.Z (.str z)) (intp W.Z fun i => 0 ≤ i ∧ i < l) (dat W.Z fun d => ∃ c, d = .str ⟨#[c]⟩ ∧ c ∈ z.cps.toList) := fun n H v u w jj o1 o2 Q q => by
  have o1 := eqd_ok o1
  obtain ⟨_, o2, i, rfl, p⟩ := o2
  cases o2
  cases o1
  have e : z.length = z.cps.toList.length := Array.length_toList.symm
  obtain ⟨c, h1, h2⟩ := atI_mem (xs := z.cps.toList) (i := i) (by omega)
  exact ⟨z, i, c, rfl, rfl, Nat.le_trans hz (by decide), h1, q _ H Ext.refl ⟨_, .str _, c, rfl, h2⟩⟩
/-- z[i], a sign of z -/
theorem de_sign {z : Str} {l : Int} (ha : DE X W Δ m1 a (eqd W.Z (.str z))) (hb : DE X W Δ m2 b (intp W.Z fun i => 0 ≤ i ∧ i < l)) (hz : z.length ≤ 100000) (hl : l = z.length) (hs : PlainIx b := by intro _ _; rfl) : DE X W Δ (m1 + m2) (.Subscript a b pos) (dat W.Z fun d => ∃ c, d = .str ⟨#[c]⟩ ∧ c ∈ z.cps.toList) :=
  de_ix ix_str ha hb (o_ixT hz hl) hs
end
end Dv
set_option maxRecDepth 100000
set_option maxHeartbeats 4000000
/-! Dv12: a text times a number; a display of one pair. -/
namespace Dv
open PySem PySem.Spec PyProof.Rows L2
theorem Less.refl : ∀ l : List Sl, Less l l
  | [] => .nil
  | _ :: l => .same (Less.refl l)
theorem DI.to {X : Cx} {W : Wd} {Δ : List Sl} {m : Nat} {tg e : Expr} {Ps Pr : List PyData → Prop} (h : DI X W Δ m tg e Ps) (r : ∀ xs, Ps xs → Pr xs) : DI X W Δ m tg e Pr :=
  pi_to h fun σ H R ⟨n, l, k, z⟩ => ⟨n, l, k, fun J H1 xs k1 q1 p => z J H1 xs k1 q1 (r xs p)⟩
theorem ones_fit {z : List Nat} {ys : List Str} (h : ∀ y ∈ ys, ∃ c, y = ⟨#[c]⟩ ∧ c ∈ z) (hl : ys.length ≤ 1000000) : (ys.map (·.length)).sum + ys.length * ("" : Str).length ≤ 16777216 := by
  have e1 := (join_ones h).1
  have e2 : (Txt.join "" ys).length = (ys.map (·.length)).sum + (ys.length - 1) * ("" : Str).length := size_glued "" ys
  have e3 : ("" : Str).length = 0 := rfl
  rw [e3] at e2 ⊢
  rw [Nat.mul_zero] at e2 ⊢
  omega
/-- a text, n times -/
def times (z : Str) (n : Nat) : Str := ⟨List.foldl (fun a b => a ++ b) #[] (List.replicate n z.cps)⟩
theorem times_len (z : Str) (n : Nat) : (times z n).length = n * z.length := by
  have e : ∀ (l : List (Array Nat)) (a : Array Nat), (List.foldl (fun a b => a ++ b) a l).size = a.size + (l.map (·.size)).sum := by
    intro l
    induction l with
    | nil => exact fun a => rfl
    | cons x l ih =>
      intro a
      rw [List.foldl_cons, ih, Array.size_append, List.map_cons, List.sum_cons]
      omega
  show (List.foldl (fun a b => a ++ b) #[] (List.replicate n z.cps)).size = _
  rw [e, List.map_replicate]
  have e2 : ∀ n k : Nat, (List.replicate n k).sum = n * k := by
    intro n k
    induction n with
    | zero => simp
    | succ n ih => rw [List.replicate_succ, List.sum_cons, ih, Nat.succ_mul, Nat.add_comm]
  rw [e2]
  show 0 + _ = _
  rw [Nat.zero_add]
  rfl
def rMulS : R2 := fun x y H Q => ∃ z n, x = .str z ∧ y = .int n ∧ 2 ≤ n ∧ n ≤ 1000 ∧ 1 ≤ z.length ∧ z.length ≤ 1000 ∧ Q (.str (times z n.toNat)) H
theorem op_mulS {X : Cx} : OpR X (binaryOp .Mult) rMulS := by
  intro pins s σ H x y v u Q I rx ry h
  obtain ⟨z, n, rfl, rfl, h1, h2, h3, h4, q⟩ := h
  obtain ⟨t, rfl⟩ := rx
  obtain ⟨t', rfl⟩ := ry
  have hz : (z.length : Int) ≤ 1000 := by omega
  have hn : n.toNat ≤ 1000 := by omega
  have hp : z.length * n.toNat ≤ 1000 * 1000 := Nat.mul_le_mul h4 hn
  have e : sizeLine = 16777216 := by decide
  have d : (1000 : Int) ≤ (2 ^ 63 - 1) / n := by
    rw [Int.le_ediv_iff_mul_le (by omega)]
    omega
  refine P.mul_str ?_ (fun _ _ => by omega) (fun _ _ => decide_eq_false (by omega)) ?_
  · rw [decide_eq_false (by omega), decide_eq_false (by omega)]
    rfl
  · have c : (n == 1 || z.length == 0) = false := by
      rw [beq_eq_false_iff_ne.mpr (by omega), beq_eq_false_iff_ne.mpr (by omega)]
      rfl
    rw [if_neg (by omega), c, if_neg (by decide), Made.post.eq_3]
    refine ⟨?_, .str (times z n.toNat), H, I.tok _, ⟨_, rfl⟩, q⟩
    show (times z n.toNat).length ≤ _
    rw [times_len, Nat.mul_comm]
    omega
section
variable {X : Cx} {W : Wd} {Δ : List Sl} {m m1 m2 m3 : Nat} {e a b c : Expr} {pos : Pos}
theorem de_mulS {z : Str} {n : Int} (ha : DE X W Δ m1 a (eqd W.Z (.str z))) (hb : DE X W Δ m2 b (eqd W.Z (.int n))) (h : 2 ≤ n ∧ n ≤ 1000 ∧ 1 ≤ z.length ∧ z.length ≤ 1000) : DE X W Δ (m1 + m2) (.BinOp a .Mult b pos) (eqd W.Z (.str (times z n.toNat))) :=
  de_op op_mulS ha hb fun N H v u w jj o1 o2 Q q => by
    have o1 := eqd_ok o1
    have o2 := eqd_ok o2
    cases o1
    cases o2
    exact ⟨z, n, rfl, rfl, h.1, h.2.1, h.2.2.1, h.2.2.2, q _ H Ext.refl (ok_eqd (.str _))⟩
/-- {'k': i} -/
theorem de_dict1 {x : Str} {i : Int} {jx jy} {px py : Pos} : DE X W Δ 0 (.Dict [some (.Constant (.str x) jx px)] [.Constant (.int i) jy py] pos) (eqd W.Z (.dict [(.str x, .int i)])) :=
  pe_to (pe_disp (pps_cons pe_str pe_int pps_nil) rfl rfl (by simp) (Nat.le_of_ble_eq_true rfl)) fun σ H Q ⟨n, l, k, z⟩ p hp =>
    ⟨upd_same, [(.inr x, .int i)], rfl, Nat.le_of_ble_eq_true rfl, by
      have e2 : Ext H (upd (upd H p (.dK [])) p (.dK (mergeK [] [(.inr x, .int i)]))) := fun b o h => by
        rw [upd_ne (ne_of_none h hp), upd_ne (ne_of_none h hp)]
        exact h
      exact z _ _ (k.ext e2) e2.kp (ok_eqd (.dct upd_same (k.w.new k.j hp) (.cons (.str x) .nil) (.cons (.int i) .nil)))⟩
end
end Dv
set_option maxRecDepth 100000
set_option maxHeartbeats 4000000
namespace K13
open PySem PySem.Spec PyProof.Rows L2 Dv
section
variable {P : Program} {w : World} {K : PySem.W.Frag} {mg : Str → Option Value} {base : Heap} {a : Ads}
theorem ok_law_right (T : Txt K mg a) : FnG P w K mg base CX0 5 a.a_law_right a.d_law_right ["thing"] (sp1 (fun d => fitsR d ∧ Shw d) fun d => .bool true) := by
  refine okD T.F_law_right sc_law_right (by rintro ds ⟨d, rfl, _⟩; rfl) (fun cd B fr t h e gd rm Z J n ds ln hp => ?_)
  obtain ⟨d, rfl, hf, hw⟩ := hp
  have gd' : (B.deeper (envOfC "_law_right" (defScope sLawRight) t.heap.objs.size a.a_law_right cd)).guards = some [] := gd
  have hr2 : Room 2 (B.deeper (envOfC "_law_right" (defScope sLawRight) t.heap.objs.size a.a_law_right cd)) := rm.mono (by decide)
  have hu := room_u rm
  have kO : KBi K a.d_is_office ["value"] 0 ["value"] [0] := KBi.of T.F_is_office fun _ _ _ _ _ _ us ws h1 h2 => match us, ws, h1, h2 with | [], [_], _, _ => rfl
  have kR : KBi K a.d_is_rule ["value"] 0 ["value"] [0] := KBi.of T.F_is_rule fun _ _ _ _ _ _ us ws h1 h2 => match us, ws, h1, h2 with | [], [_], _, _ => rfl
  refine hs_par (i := 2) (j := 3) rfl sc_law_right.nd rfl rfl (by decide) rfl rfl (das_cons (de_repr gd' hu (by rfl) T.n_repr (de_var (pv 0) rfl) hw.s hw.z hw.p)
    (das_cons (de_list (das_cons (fn1O (ok_law_office_due T) hr2 (by rfl) T.g_law_office_due T.F_law_office_due.kp T.b_law_office_due (de_var (pv 0) rfl) hf.1)
      (das_cons (fn1O (ok_law_rule_due T) rm (by rfl) T.g_law_rule_due T.F_law_rule_due.kp T.b_law_rule_due (de_var (pv 0) rfl) hf) das_nil))) das_nil)) ln ?_ (by rfl)
  refine hs_set (i := 1) sc_law_right.nd rfl (Or.inl rfl) (de_list (das_cons (fn1O (ok_is_office T) hr2 (by rfl) T.g_is_office T.F_is_office.kp T.b_is_office (de_var (pv 0) rfl) hf.1)
      (das_cons (fn1O (ok_is_rule T) rm (by rfl) T.g_is_rule T.F_is_rule.kp T.b_is_rule (de_var (pv 0) rfl) hf)
      (das_cons (fn1K (FnG.of (ok_is_office T)) gd' hr2 (by rfl) T.g_is_office T.F_is_office.kp kO (de_var (pv 0) rfl) hf.1)
      (das_cons (fn1K (FnG.of (ok_is_rule T)) gd' rm (by rfl) T.g_is_rule T.F_is_rule.kp kR (de_var (pv 0) rfl) hf) das_nil))))) ln ?_
  have sb : ∀ x y : Bool, (PyData.list [.bool x, .bool y, .bool x, .bool y]).showable = true ∧ (PyData.list [.bool x, .bool y, .bool x, .bool y]).shown.length ≤ sizeLine ∧ (PyData.list [.bool x, .bool y, .bool x, .bool y]).depth ≤ 60 := by
    intro x y
    cases x <;> cases y <;> decide +kernel
  obtain ⟨z1, z2, z3⟩ := sb (office d) (rule d)
  refine hs_ret (de_and (m2 := 0) (P1 := (· = true)) (P := (· = true)) ((de_cmp op_eq (de_repr gd' hu (by rfl) T.n_repr (de_var (pv 1) rfl) z1 z2 z3) (de_repr gd' hu (by rfl) T.n_repr (de_op op_cat (de_var (pv 3) rfl) (de_var (pv 3) rfl) (o_cat (xs := [.bool (office d), .bool (rule d)]) (ys := [.bool (office d), .bool (rule d)]) (show 2 + 2 ≤ sizeLine by decide))) z1 z2 z3) o_eqS (nomark _)).imp fun H v o => ?_) (fun q => ?_) (fun q => absurd q (by decide))) ln (fun v σ H k o => rt_at k ?_ (Nat.le_refl _))
  · obtain ⟨b, rfl, rfl⟩ := o
    exact ⟨_, rfl, decide_eq_true rfl⟩
  · exact de_one ((de_cmp op_eq (de_repr gd' hu (by rfl) T.n_repr (de_var (pv 0) rfl) hw.s hw.z hw.p) (de_var (pv 2) rfl) o_eqS (nomark _)).imp fun H v o => by
      obtain ⟨b, rfl, rfl⟩ := o
      exact ⟨_, rfl, decide_eq_true rfl⟩)
  · obtain ⟨b, rfl, rfl⟩ := o
    exact ⟨_, .bl _, d, rfl, rfl⟩
end
end K13
set_option maxRecDepth 100000
set_option maxHeartbeats 4000000
namespace K13
open PySem PySem.Spec PyProof.Rows L2 Dv
section
variable {P : Program} {w : World} {K : PySem.W.Frag} {mg : Str → Option Value} {base : Heap} {a : Ads}
/-! ### the draws -/
theorem ok_law_bag (T : Txt K mg a) : FnG P w K mg base CX0 1 a.a_law_bag a.d_law_bag ["script", "k"] (spMk K) := by
  refine okMk T.F_law_bag sc_law_bag (fun cd B fr t h e gd rm sa ns i hn h0 h1 hS => ?_)
  refine hs_setP (m := 0) (i := 2) (Pd := fun d => ∃ c, d = .int c ∧ True) sc_law_bag.nd rfl (Or.inl rfl) (de_if (m1 := 0) (m2 := 0) (m3 := 0) (P := (· = decide (i < ns.length))) (dt_cmp op_lt (de_var (pv 1) rfl) (de_cb call_len (by rfl) T.n_len (by rfl) (da_cons (de_scr (pv 0) rfl hS) da_nil) c_lenS) o_cmp (nomark _)) (fun q => de_ix ix_list (de_scr (pv 0) rfl hS) (de_var (pv 1) rfl) (o_ixS h0 (by simpa using q.symm)) (fun _ _ => rfl)) (fun q => ei de_int trivial)) (by decide) (fun d z => ?_)
  obtain ⟨c, rfl, _⟩ := z
  have cm1 : CMul c 67 := .inr (by decide)
  have cm2 : CMul 23 i := .inl (by decide)
  refine hs_ret (A := frs h [.int (if (if c < 0 then -c else c) - 1000000000000000000 > 0 then (if c < 0 then -c else c) - 1000000000000000000 else 0), .int ((c * 67 + 23 * i + 11) % 10000000000000000000000000000000000043), .int 0]) (m := 0) (de_frs (das_cons (m1 := 0) (m2 := 0)
    (de_cb (m := 0) (call_max2 rfl) (by rfl) T.n_max (by rfl) (da_cons (m1 := 0) (m2 := 0) de_int (da_cons (m1 := 0) (m2 := 0) (de_op (m1 := 0) (m2 := 0) op_sub (de_cb (m := 0) call_abs (by rfl) T.n_abs (by rfl) (da_cons (de_var (pv 2) rfl) da_nil) c_abs) (de_pow (z := 1000000000000000000) ⟨by decide, by decide, by decide +kernel⟩ (by decide +kernel)) o_int0) da_nil)) c_max2)
    (das_cons (m1 := 0) (m2 := 0) (de_op (m1 := 0) (m2 := 0) op_mod (de_op (m1 := 0) (m2 := 0) op_add (de_op (m1 := 0) (m2 := 0) op_add (de_op (m1 := 0) (m2 := 0) op_mul (de_var (pv 2) rfl) de_int (o_int cm1)) (de_op (m1 := 0) (m2 := 0) op_mul de_int (de_var (pv 1) rfl) (o_int cm2)) o_int0) de_int o_int0)
      ((de_op (m1 := 0) (m2 := 0) op_add (de_pow (z := 10000000000000000000000000000000000000) ⟨by decide, by decide, by decide +kernel⟩ (by decide +kernel)) de_int o_int0).to (d' := .int 10000000000000000000000000000000000043) rfl) (o_int (by decide)))
    (das_cons (m1 := 0) (m2 := 0) de_int das_nil)))) (by decide) (fun v σ H k o => ?_)
  obtain ⟨p, vs, rfl, h1, h2, h3⟩ := o
  cases h3 with
  | cons a1 r1 =>
    cases r1 with
    | cons a2 r2 =>
      cases r2 with
      | cons a3 r3 =>
        cases r3
        cases a1
        cases a2
        cases a3
        refine ⟨fun b o e => k.kept b o (fun c => c) e, p, _, _, _, rfl, h1, h2, _, _, _, rfl, ?_, ?_, ?_, Int.le_refl _, Int.le_refl _⟩
        · split <;> omega
        · omega
        · omega
theorem ok_law_take (T : Txt K mg a) : FnG P w K mg base CX0 1 a.a_law_take a.d_law_take ["bag", "many"] (spB Many (fun _ => 1) Took) := by
  refine okB T.F_law_take sc_law_take (by rintro ds ⟨d, rfl, _⟩; rfl) (fun cd B fr t h e gd rm Z J n p ds ln hp b => ?_)
  obtain ⟨l, rfl, l1, l2⟩ := hp
  have hl : (0 : Int) < l := by omega
  have ln0 : n ≤ BIG := by omega
  refine hs_guard (m := 0) (P := fun _ => True) (dt_cmp (m1 := 0) (m2 := 0) op_gt (de_bag0 b (pv 0) rfl) (ei (Pi := fun _ => True) de_int trivial) (o_cmpp fun _ _ _ _ => trivial) (nomark _)) ln0 (fun _ => ?_) (fun _ => ?_)
  · refine hs_setP (m := 0) (i := 3) (Pd := fun d => ∃ i, d = .int i ∧ 0 ≤ i ∧ i < l) sc_law_take.nd rfl (Or.inl rfl) (de_op (m1 := 0) (m2 := 0) op_mod (de_bag0 b (pv 0) rfl) (ei (Pi := fun i => i = l) (de_var (pv 1) rfl) rfl) (o_intp fun i j _ q => ?_)) ln0 (fun d z => ?_)
    · subst q
      exact ⟨hl, Int.emod_nonneg _ (by omega), Int.emod_lt_of_pos _ hl⟩
    obtain ⟨i, rfl, i0, i1⟩ := z
    refine hs_put0 b (pv 0) rfl (de_op (m1 := 0) (m2 := 0) op_fdiv (de_bag0 b (pv 0) rfl) (ei (Pi := fun i => i = l) (de_var (pv 1) rfl) rfl) (o_intp (Q3 := fun i => 0 ≤ i) fun i j p q => ?_)) (fun i q => q) ln0 ?_
    · subst q
      exact ⟨⟨hl, l2⟩, Int.ediv_nonneg p (by omega)⟩
    exact hs_ret (m := 0) (de_var (pv 3) rfl) ln0 (fun v σ H k o => rt_at k ⟨_, eqd_ok o, l, i, rfl, rfl, i0, i1⟩ (by omega))
  · refine hs_inc b (pv 0) (pv 0) rfl ?_
    have ln1 : n + 1 ≤ BIG := ln
    have c3 : ∀ i : Int, 0 ≤ i → i < 10000000000000000000000000000000000043 + 32452843 * 1000000001 → CPowW i 3 := fun i h1 h2 => ⟨by decide, by decide, by
      have : (i.natAbs : Int) = i := by omega
      have h3 : (2 : Nat) ^ 200 ≤ 2 ^ 1000 := Nat.pow_le_pow_right (by decide) (by decide)
      have h4 : (2 : Nat) ^ 200 = 1606938044258990275541962092341162602522202993782792835301376 := by decide +kernel
      omega⟩
    have c2 : ∀ i : Int, 0 ≤ i → i < 10000000000000000000000000000000000000121 + 15485863 * 1000000001 → CPowW i 2 := fun i h1 h2 => ⟨by decide, by decide, by
      have : (i.natAbs : Int) = i := by omega
      have h3 : (2 : Nat) ^ 200 ≤ 2 ^ 1000 := Nat.pow_le_pow_right (by decide) (by decide)
      have h4 : (2 : Nat) ^ 200 = 1606938044258990275541962092341162602522202993782792835301376 := by decide +kernel
      omega⟩
    refine hs_setP (m := 0) (i := 2) (Pd := fun d => ∃ i, d = .int i ∧ 0 ≤ i ∧ i < 10000000000000000000000000000000000000121) sc_law_take.nd rfl (Or.inl rfl)
      (de_op (m1 := 0) (m2 := 0) op_mod
        (de_op (m1 := 0) (m2 := 0) (A3 := intp _ fun _ => True) op_powW
          (de_op (m1 := 0) (m2 := 0) op_add (de_bag1 b (pv 0) rfl)
            (de_op (m1 := 0) (m2 := 0) op_mul (ei (Pi := fun i => i = 32452843) de_int rfl) (de_bag2 b (pv 0) rfl)
              (o_intp (Q3 := fun i => 0 ≤ i ∧ i ≤ 32452843 * 1000000000) fun i j p q => ⟨.inl (by subst p; decide), by subst p; omega⟩))
            (o_intp0 (Q3 := fun i => 0 ≤ i ∧ i < 10000000000000000000000000000000000043 + 32452843 * 1000000001) fun i j p q => by omega))
          (ei (Pi := fun i => i = 3) de_int rfl) (o_intp fun i j p q => ⟨by subst q; exact c3 i p.1 p.2, trivial⟩))
        (ei (Pi := fun i => i = 10000000000000000000000000000000000000121) ((de_op (m1 := 0) (m2 := 0) op_add (de_pow (z := 10000000000000000000000000000000000000000) ⟨by decide, by decide, by decide +kernel⟩ (by decide +kernel)) de_int o_int0).to rfl) rfl)
        (o_intp fun i j p q => by subst q; exact ⟨by decide, by omega, by omega⟩)) ln1 (fun d z => ?_)
    obtain ⟨i, rfl, i0, i1⟩ := z
    refine hs_setP (m := 0) (i := 2) (Pd := fun d => ∃ i, d = .int i ∧ 0 ≤ i) sc_law_take.nd rfl (Or.inl rfl)
      (de_op (m1 := 0) (m2 := 0) op_mod
        (de_op (m1 := 0) (m2 := 0) (A3 := intp _ fun _ => True) op_powW
          (de_op (m1 := 0) (m2 := 0) op_add (ei (Pi := fun j => 0 ≤ j ∧ j < 10000000000000000000000000000000000000121) (de_var (pv 2) rfl) ⟨i0, i1⟩)
            (de_op (m1 := 0) (m2 := 0) op_mul (ei (Pi := fun i => i = 15485863) de_int rfl) (de_bag2 b (pv 0) rfl)
              (o_intp (Q3 := fun i => 0 ≤ i ∧ i ≤ 15485863 * 1000000000) fun i j p q => ⟨.inl (by subst p; decide), by subst p; omega⟩))
            (o_intp0 (Q3 := fun i => 0 ≤ i ∧ i < 10000000000000000000000000000000000000121 + 15485863 * 1000000001) fun i j p q => by omega))
          (ei (Pi := fun i => i = 2) de_int rfl) (o_intp fun i j p q => ⟨by subst q; exact c2 i p.1 p.2, trivial⟩))
        (ei (Pi := fun i => i = 1000000000000000000000000000000000000003) ((de_op (m1 := 0) (m2 := 0) op_add (de_pow (z := 1000000000000000000000000000000000000000) ⟨by decide, by decide, by decide +kernel⟩ (by decide +kernel)) de_int o_int0).to rfl) rfl)
        (o_intp fun i j p q => by subst q; exact ⟨by decide, by omega⟩)) ln1 (fun d z => ?_)
    obtain ⟨j, rfl, j0⟩ := z
    exact hs_ret (m := 0) (A := intp _ fun i => 0 ≤ i ∧ i < l) (de_op (m1 := 0) (m2 := 0) op_mod (de_op (m1 := 0) (m2 := 0) (A3 := intp _ fun _ => True) op_fdiv (ei (Pi := fun _ => True) (de_var (pv 2) rfl) trivial) (ei (Pi := fun i => i = 100000) (de_pow ⟨by decide, by decide, by decide +kernel⟩ (by decide +kernel)) rfl) (o_intp fun i j _ q => ⟨by subst q; exact ⟨by decide, by decide⟩, trivial⟩))
      (ei (Pi := fun i => i = l) (de_var (pv 1) rfl) rfl) (o_intp fun i j _ q => by subst q; exact ⟨hl, Int.emod_nonneg _ (by omega), Int.emod_lt_of_pos _ hl⟩)) ln1 (fun v σ H k ⟨d, o, i, e, i0, i1⟩ => rt_at k ⟨d, o, l, i, rfl, e, i0, i1⟩ (by omega))
end
end K13
set_option maxRecDepth 100000
set_option maxHeartbeats 4000000
namespace K13
open PySem PySem.Spec PyProof.Rows L2 Dv
section
variable {P : Program} {w : World} {K : PySem.W.Frag} {mg : Str → Option Value} {base : Heap} {a : Ads}
def LetIn (ds : List PyData) : Prop := ∃ (n : Int) (hs : List PyData), ds = [.int n, .list hs] ∧ 0 ≤ n ∧ n ≤ 1000 ∧ hs ≠ [] ∧ hs.length ≤ 100
def LetOut (ds : List PyData) (d : PyData) : Prop := ∃ (n : Int) (hs xs : List PyData), ds = [.int n, .list hs] ∧ d = .list xs ∧ (xs.length : Int) ≤ n ∧ ∀ x ∈ xs, x ∈ hs ∨ x = .str "+"
theorem ok_law_letters (T : Txt K mg a) : FnG P w K mg base CX0 2 a.a_law_letters a.d_law_letters ["bag", "most", "houses"] (spB LetIn (fun _ => 1002) LetOut) := by
  refine okB T.F_law_letters sc_law_letters (by rintro ds ⟨n, hs, rfl, _⟩; rfl) (fun cd B fr t h e gd rm Z J n p ds ln hp b => ?_)
  obtain ⟨l, hs, rfl, l0, l1, h0, h1⟩ := hp
  have gd' : (B.deeper (envOfC "_law_letters" (defScope sLawLetters) t.heap.objs.size a.a_law_letters cd)).guards = some [] := gd
  have ln' : n + 1002 ≤ BIG := ln
  have big : (2 : Nat) ≤ sizeLine := by decide
  have hz : hs.length + 1 ≤ sizeLine := Nat.le_trans (by omega : _ ≤ 1000) (by decide)
  refine hs_setP (m := 1) (i := 3) (Pd := fun d => ∃ xs, d = .list xs ∧ xs ≠ [] ∧ xs.length ≤ 101 ∧ ∀ x ∈ xs, x ∈ hs ∨ x = .str "+") sc_law_letters.nd rfl (Or.inr rfl)
    (de_pick (m1 := 0) (m2 := 1) (ds := [.list (hs ++ [.str "+"]), .list (hs.take 1 ++ [.str "+"]), .list hs, .list [.str "+"]])
      (de_list (das_cons (m1 := 0) (m2 := 0) (de_op (m1 := 0) (m2 := 0) op_cat (de_var (pv 2) rfl) (de_list (das_cons (m1 := 0) (m2 := 0) de_str das_nil)) (o_cat hz))
        (das_cons (m1 := 0) (m2 := 0) (de_op (m1 := 0) (m2 := 0) op_cat ((de_slL (m1 := 0) (m2 := 0) (m3 := 0) (ds := hs) (R := (· = .list (hs.take 1))) (de_var (pv 2) rfl) do_none (do_some (ei (Pi := (· = 1)) de_int rfl)) (by rintro x y rfl ⟨i, rfl, rfl⟩; rw [← cut_to]; rfl))) (de_list (das_cons (m1 := 0) (m2 := 0) de_str das_nil)) (o_cat (by rw [List.length_take]; exact Nat.le_trans (Nat.add_le_add_right (Nat.min_le_left _ _) 1) big)))
        (das_cons (m1 := 0) (m2 := 0) (de_var (pv 2) rfl) (das_cons (m1 := 0) (m2 := 0) (de_list (das_cons (m1 := 0) (m2 := 0) de_str das_nil)) das_nil)))))
      (de_pick (m1 := 0) (m2 := 1) (ds := [.int 0, .int 0, .int 0, .int 1, .int 2, .int 3]) (R := fun d => ∃ i, d = .int i ∧ 0 ≤ i ∧ i < 4) (de_list (das_cons (m1 := 0) (m2 := 0) de_int (das_cons (m1 := 0) (m2 := 0) de_int (das_cons (m1 := 0) (m2 := 0) de_int (das_cons (m1 := 0) (m2 := 0) de_int (das_cons (m1 := 0) (m2 := 0) de_int (das_cons (m1 := 0) (m2 := 0) de_int das_nil)))))))
        (de_take (m := 0) (ok_law_take T) gd' (rm.mono (by decide)) (by rfl) T.g_law_take T.F_law_take.kp T.b_law_take b (de_is (pv 0) rfl) de_int (by decide)) rfl ?_) rfl ?_) (by omega) (fun d z => ?_)
  · intro d hd
    simp only [List.mem_cons, List.not_mem_nil, or_false] at hd
    rcases hd with rfl | rfl | rfl | rfl | rfl | rfl <;> exact ⟨_, rfl, by decide, by decide⟩
  · intro d hd
    simp only [List.mem_cons, List.not_mem_nil, or_false] at hd
    rcases hd with rfl | rfl | rfl | rfl
    · refine ⟨_, rfl, by simp, by rw [List.length_append]; exact Nat.add_le_add_right h1 1, fun x m => ?_⟩
      rcases List.mem_append.mp m with m | m
      · exact .inl m
      · exact .inr (List.mem_singleton.mp m)
    · refine ⟨_, rfl, by simp, by rw [List.length_append, List.length_take]; exact Nat.le_trans (Nat.add_le_add_right (Nat.min_le_left _ _) 1) (by decide), fun x m => ?_⟩
      rcases List.mem_append.mp m with m | m
      · exact .inl (List.mem_of_mem_take m)
      · exact .inr (List.mem_singleton.mp m)
    · exact ⟨_, rfl, h0, Nat.le_trans h1 (by decide), fun x m => .inl m⟩
    · exact ⟨_, rfl, by decide, by decide, fun x m => .inr (List.mem_singleton.mp m)⟩
  · obtain ⟨xs, rfl, x0, x1, x2⟩ := z
    have hx : 1 ≤ (xs.length : Int) := by
      cases xs with
      | nil => exact absurd rfl x0
      | cons _ _ => rw [List.length_cons]; omega
    refine hs_ret (m := 1001) (A := dat _ fun d => ∃ ys, d = .list ys ∧ (ys.length : Int) ≤ l ∧ ∀ y ∈ ys, y ∈ hs ∨ y = .str "+") (de_lc (m := 1) (M := 1000) (c1 := 0) (c2 := 1) (own := [("turn", 4)]) (Ps := fun ys => ∃ i, (0 ≤ i ∧ i < l + 1) ∧ ys = upto i) (Pt := fun _ b => b = true) (Pe := fun _ z => z ∈ hs ∨ z = .str "+") rfl sc_law_letters.nd
      (di_range (by rfl) T.n_range (de_take (m := 0) (ok_law_take T) gd' (rm.mono (by decide)) (by rfl) T.g_law_take T.F_law_take.kp T.b_law_take b (de_is (pv 0) rfl) (de_op (m1 := 0) (m2 := 0) op_add (de_var (pv 1) rfl) de_int o_int0) (by omega)) (by intro i q; omega))
      (blkOk_by (N := ["bag", "most", "houses", "some", "turn"]) (sc := defScope sLawLetters) (by decide +kernel)) (j := 4) rfl (by decide) (by rintro ys ⟨i, q, rfl⟩; rw [upto_len]; omega) (by decide) (fun _ _ _ _ _ => pg_name sc_law_letters.nd rfl (Or.inl rfl))
      (fun s H C cl fp D φ ys d nD _ _ => dts_nil)
      (fun s H C cl fp D φ ys d nD _ _ _ => de_pick (m1 := 0) (m2 := 1) (de_var (pv 3) rfl) (de_take (m := 0) (ok_law_take T) gd' (rm.mono (by decide)) (by rfl) T.g_law_take T.F_law_take.kp T.b_law_take (b.add nD) (de_is (pv 0) rfl) (de_len (by rfl) T.n_len (de_var (pv 3) rfl) rfl) (by omega)) rfl x2)
      (by
        rintro ys zs ⟨i, q, rfl⟩ pk
        refine ⟨zs, rfl, ?_, pk.all fun d z _ m => m⟩
        have := pk.len
        rw [upto_len] at this
        omega)) (by omega) (fun v σ H k ⟨d, o, ys, e, q1, q2⟩ => rt_at k ⟨d, o, l, hs, ys, rfl, e, q1, q2⟩ (by omega))
end
end K13
set_option maxRecDepth 100000
set_option maxHeartbeats 4000000
namespace K13
open PySem PySem.Spec PyProof.Rows L2 Dv
section
variable {P : Program} {w : World} {K : PySem.W.Frag} {mg : Str → Option Value} {base : Heap} {a : Ads}
/-! ### what is judged -/
def Gd (d : PyData) : Prop := fitsR d ∧ Shw d
def El (b p : Nat) (d : PyData) : Prop := fits d ∧ Sw b p d
theorem El.up {b p b' p' : Nat} {d : PyData} (h : El b p d) (hb : b ≤ b') (hp : p ≤ p') : El b' p' d := ⟨h.1, h.2.up hb hp⟩
theorem El.gd {b p : Nat} {d : PyData} (h : El b p d) (hb : b ≤ 27000) (hp : p ≤ 60) (hl : ∀ ds, d = .list ds → ds.length ≤ 100000 ∧ ∀ e ∈ ds, fits e) : Gd d := ⟨⟨h.1, hl⟩, h.2.shw hb hp⟩
theorem fits_no {d : PyData} (h : isStr d = false) : fits d := fun x e => by
  subst e
  cases h
theorem gd_list {b p n : Nat} {ds : List PyData} (h : ∀ d ∈ ds, El b p d) (hn : ds.length ≤ n) (hb : n * (b + 1) ≤ 27000) (hn2 : n ≤ 100000) (hp : p + 1 ≤ 60) : Gd (.list ds) :=
  ⟨⟨fits_no rfl, fun es e => by cases e; exact ⟨Nat.le_trans hn hn2, fun d m => (h d m).1⟩⟩, (Sw.list (fun d m => (h d m).2) hn).shw hb hp⟩
theorem el_str {x : Str} {b : Nat} (h : ∀ c ∈ x.cps.toList, c < 1114112) (hb : x.length ≤ b) (hb2 : b ≤ 100000) : El b 0 (.str x) :=
  ⟨fun y e => by cases e; exact Nat.le_trans hb hb2, Sw.str h hb⟩
def houses4 : List PyData := [.str "a", .str "ny", .str "abcdefgh", .str "z"]
theorem el_s (x : Str) (h : (x.cps.toList.all fun c => decide (c < 1114112)) = true := by decide +kernel) (hb : x.length ≤ 9 := by decide +kernel) : El 9 0 (.str x) :=
  el_str (fun c m => of_decide_eq_true (List.all_eq_true.mp h c m)) hb (by decide)
theorem el_letters {xs : List PyData} (h : ∀ x ∈ xs, x ∈ houses4 ∨ x = .str "+") : ∀ x ∈ xs, El 9 0 x := fun x m => by
  rcases h x m with q | rfl
  · simp only [houses4, List.mem_cons, List.not_mem_nil, or_false] at q
    rcases q with rfl | rfl | rfl | rfl <;> exact el_s _
  · exact el_s _
def odds (word : Str) : List PyData := [.str "", .str "++", .str "A", .str "abcdefghi", .str "a b", .none, .int 1, .bool true, .list [.str "a"], .tuple [.str "a"], .dict [], .str "a1", .str "+a", .str word]
theorem el_dec {d : PyData} (h0 : isStr d = false) (h1 : d.showable = true) (h2 : PyData.leavesShort 600 d = true) (h3 : decide (d.bulk ≤ 10) = true) (h4 : decide (d.depth ≤ 1) = true) : El 10 1 d :=
  ⟨fits_no h0, h1, h2, of_decide_eq_true h3, of_decide_eq_true h4⟩
theorem gd_sc {b p : Nat} {d : PyData} (h : El b p d) (hb : b ≤ 27000) (hp : p ≤ 60) (hl : isList d = false) : Gd d := h.gd hb hp fun ds e => by
  subst e
  cases hl
theorem el_odds {word : Str} (hw : El 10 0 (.str word)) : ∀ d ∈ odds word, El 10 1 d ∧ Gd d := fun d m => by
  simp only [odds, List.mem_cons, List.not_mem_nil, or_false] at m
  rcases m with rfl | rfl | rfl | rfl | rfl | rfl | rfl | rfl | rfl | rfl | rfl | rfl | rfl | rfl
  · exact ⟨(el_s _).up (by decide) (by decide), gd_sc (el_s _) (by decide) (by decide) rfl⟩
  · exact ⟨(el_s _).up (by decide) (by decide), gd_sc (el_s _) (by decide) (by decide) rfl⟩
  · exact ⟨(el_s _).up (by decide) (by decide), gd_sc (el_s _) (by decide) (by decide) rfl⟩
  · exact ⟨(el_s _).up (by decide) (by decide), gd_sc (el_s _) (by decide) (by decide) rfl⟩
  · exact ⟨(el_s _).up (by decide) (by decide), gd_sc (el_s _) (by decide) (by decide) rfl⟩
  · have := el_dec (d := .none) rfl rfl rfl rfl rfl
    exact ⟨this, gd_sc this (by decide) (by decide) rfl⟩
  · have := el_dec (d := .int 1) rfl (by decide +kernel) (by decide +kernel) rfl rfl
    exact ⟨this, gd_sc this (by decide) (by decide) rfl⟩
  · have := el_dec (d := .bool true) rfl rfl rfl rfl rfl
    exact ⟨this, gd_sc this (by decide) (by decide) rfl⟩
  · have := el_dec (d := .list [.str "a"]) rfl (by decide +kernel) (by decide +kernel) (by decide +kernel) (by decide +kernel)
    exact ⟨this, gd_list (b := 9) (p := 0) (n := 1) (fun d m => by cases List.mem_singleton.mp m; exact el_s _) (by decide) (by decide) (by decide) (by decide)⟩
  · have := el_dec (d := .tuple [.str "a"]) rfl (by decide +kernel) (by decide +kernel) (by decide +kernel) (by decide +kernel)
    exact ⟨this, gd_sc this (by decide) (by decide) rfl⟩
  · have := el_dec (d := .dict []) rfl (by decide +kernel) (by decide +kernel) (by decide +kernel) (by decide +kernel)
    exact ⟨this, gd_sc this (by decide) (by decide) rfl⟩
  · exact ⟨(el_s _).up (by decide) (by decide), gd_sc (el_s _) (by decide) (by decide) rfl⟩
  · exact ⟨(el_s _).up (by decide) (by decide), gd_sc (el_s _) (by decide) (by decide) rfl⟩
  · exact ⟨hw.up (by decide) (by decide), gd_sc hw (by decide) (by decide) rfl⟩
def wrongs (xs : List PyData) (o : PyData) (s : Nat) : List PyData := xs.take s ++ [o] ++ xs.drop s
def others (word : Str) (xs : List PyData) (o : PyData) (s : Nat) : List PyData :=
  [.str word, .list xs, .list (wrongs xs o s), .tuple xs, o, .dict [(.str "a", .int 1)], .dict [], .int 0, .str "+", .list [.list xs], .none, .list [.str "+", .str "+"]]
theorem gd_others {word : Str} {xs : List PyData} {o : PyData} {s : Nat} (hw : El 10 0 (.str word)) (hx : ∀ x ∈ xs, El 9 0 x) (hl : xs.length ≤ 250) (ho : El 10 1 o ∧ Gd o) : ∀ d ∈ others word xs o s, Gd d := fun d m => by
  simp only [others, List.mem_cons, List.not_mem_nil, or_false] at m
  have hxl : Sw (250 * (9 + 1)) (0 + 1) (.list xs) := Sw.list (fun d m => (hx d m).2) hl
  rcases m with rfl | rfl | rfl | rfl | rfl | rfl | rfl | rfl | rfl | rfl | rfl | rfl
  · exact gd_sc hw (by decide) (by decide) rfl
  · exact gd_list hx hl (by decide) (by decide) (by decide)
  · refine gd_list (b := 10) (p := 1) (n := 251) (fun d m => ?_) ?_ (by decide) (by decide) (by decide)
    · rcases List.mem_append.mp m with m | m
      · rcases List.mem_append.mp m with m | m
        · exact (hx d (List.mem_of_mem_take m)).up (by decide) (by decide)
        · cases List.mem_singleton.mp m
          exact ho.1
      · exact (hx d (List.mem_of_mem_drop m)).up (by decide) (by decide)
    · unfold wrongs
      rw [List.length_append, List.length_append, List.length_take, List.length_drop, List.length_singleton]
      omega
  · exact gd_sc ⟨fits_no rfl, Sw.tuple (fun d m => (hx d m).2) hl⟩ (by decide) (by decide) rfl
  · exact ho.2
  · exact gd_sc (el_dec (d := .dict [(.str "a", .int 1)]) rfl (by decide +kernel) (by decide +kernel) (by decide +kernel) (by decide +kernel)) (by decide) (by decide) rfl
  · exact gd_sc (el_dec (d := .dict []) rfl (by decide +kernel) (by decide +kernel) (by decide +kernel) (by decide +kernel)) (by decide) (by decide) rfl
  · exact gd_sc (el_dec (d := .int 0) rfl (by decide +kernel) (by decide +kernel) (by decide +kernel) (by decide +kernel)) (by decide) (by decide) rfl
  · exact gd_sc (el_s _) (by decide) (by decide) rfl
  · exact gd_list (b := 250 * (9 + 1)) (p := 1) (n := 1) (fun d m => by cases List.mem_singleton.mp m; exact ⟨fits_no rfl, hxl⟩) (Nat.le_refl 1) (by decide) (by decide) (by decide)
  · exact gd_sc (el_dec (d := .none) rfl rfl rfl rfl rfl) (by decide) (by decide) rfl
  · refine gd_list (b := 9) (p := 0) (n := 2) (fun d m => ?_) (by decide) (by decide) (by decide) (by decide)
    simp only [List.mem_cons, List.not_mem_nil, or_false] at m
    rcases m with rfl | rfl <;> exact el_s _
end
end K13
set_option maxRecDepth 100000
set_option maxHeartbeats 4000000
namespace K13
open PySem PySem.Spec PyProof.Rows L2 Dv
section
variable {P : Program} {w : World} {K : PySem.W.Frag} {mg : Str → Option Value} {base : Heap} {a : Ads}
theorem filt_no : ∀ ds : List PyData, ds.filter (fun _ => false) = []
  | [] => rfl
  | _ :: ds => filt_no ds
/-! ### the law -/
theorem ok_law (T : Txt K mg a) : FnG P w K mg base CX0 6 a.a_law a.d_law ["script"] (spLaw K 63) := by
  refine okLaw T.F_law sc_law (fun cd B fr t h e gd rm sa ns hn hS => ?_)
  have gd' : (B.deeper (envOfC "law" (defScope sLaw) t.heap.objs.size a.a_law cd)).guards = some [] := gd
  have hu := room_u rm
  refine hs_for (m := 0) (j := 1) (Ps := fun xs => ∃ i, (1 ≤ i ∧ i ≤ 8) ∧ xs = upto i) (Γ := fun _ _ => slots ["script", "k", "bag", "turn", "signs", "word", "letters", "odd", "spot", "wrong", "others", "sign", "one"] [.is (.ref sa)]) (Ni := fun i => 10000 * i) PassesOwn.never rfl
    (di_range (by rfl) T.n_range (ei (Pi := fun i => 1 ≤ i ∧ i ≤ 8) (de_cb (m := 0) (call_max2 rfl) (by rfl) T.n_max (by rfl) (da_cons (m1 := 0) (m2 := 0) de_int (da_cons (m1 := 0) (m2 := 0) (de_cb (m := 0) (call_min2 rfl) (by rfl) T.n_min (by rfl) (da_cons (m1 := 0) (m2 := 0) de_int (da_cons (m1 := 0) (m2 := 0) (de_cb call_len (by rfl) T.n_len (by rfl) (da_cons (de_scr (pv 0) rfl (hS _ Kp.refl)) da_nil) c_lenS) da_nil)) c_min2) da_nil)) c_max2) (by split <;> split <;> omega)) (by intro i q; omega))
    (by decide) (pg_name sc_law.nd rfl (Or.inl rfl)) (fun xs _ => ?_) (by decide) (fun H xs i d hk px hd => ?_) (fun xs px => ?_)
  · exact Less.refl _
  · obtain ⟨i8, ⟨i1, i2⟩, rfl⟩ := px
    have hi : i < 8 ∧ d = .int (i : Nat) := by
      have hl : i < i8.toNat := by
        rw [← upto_len]
        exact (List.getElem?_eq_some_iff.mp hd).1
      rw [upto_get hl] at hd
      exact ⟨by omega, (Option.some.inj hd).symm⟩
    obtain ⟨hi8, rfl⟩ := hi
    refine hs_bag (i := 2) (j := (i : Nat)) (sa := sa) (ns := ns) sc_law.nd rfl (Or.inr rfl) (ok_law_bag T) gd' (rm.mono (by decide)) (by rfl) T.g_law_bag T.F_law_bag.kp T.b_law_bag (de_is (pv 0) rfl) (de_var (pv 1) rfl) (fun H' k' => hS H' (fun b o nz e => k' b o (fun z => at_z.mp z) (hk b o nz e))) hn (by omega) (by simp only [BIG]; omega) (fun q nz b => ?_)
    refine hs_for (m := 0) (j := 3) (Ps := (· = upto 8)) (Γ := fun _ _ => (slots ["script", "k", "bag", "turn", "signs", "word", "letters", "odd", "spot", "wrong", "others", "sign", "one"] [.is (.ref sa), .val (.int (i : Nat)), .is (.ref q)])) (Ni := fun j => 10000 * i + 1100 * j) PassesOwn.never rfl
      (DI.to (di_range (by rfl) T.n_range (ei (Pi := (· = 8)) de_int rfl) (by rintro j rfl; decide)) ?_) (by simp only [BIG]; omega) (pg_name sc_law.nd rfl (Or.inl rfl)) (fun xs _ => Less.refl _) (by omega) (fun H2 xs j d hk2 px hd => ?_) (fun xs px => ?_)
    · rintro xs ⟨n, e, q⟩
      rw [q, e]
    · have b2 : BagJ (((Wd.at (fun _ => False) (fun _ _ => True) h).sub H).add q IsBag |>.sub H2).Z (((Wd.at (fun _ => False) (fun _ _ => True) h).sub H).add q IsBag |>.sub H2).J q := b.sub
      have hj : j < 8 := by
        have := (List.getElem?_eq_some_iff.mp hd).1
        rw [px, upto_len] at this
        omega
      have rt : Room 1 (B.deeper (envOfC "law" (defScope sLaw) t.heap.objs.size a.a_law cd)) := rm.mono (by decide)
      refine hs_setP (m := 1) (i := 4) (Pd := fun d => ∃ z, d = .str z ∧ 1 ≤ z.length ∧ z.length ≤ 6 ∧ ∀ c ∈ z.cps.toList, c < 128) sc_law.nd rfl (Or.inr rfl)
        (de_pick (m1 := 0) (m2 := 1) (ds := [.str "azm", .str "az+", .str "aZ0 _", .str "az\n-"]) (de_list (das_cons (m1 := 0) (m2 := 0) de_str (das_cons (m1 := 0) (m2 := 0) de_str (das_cons (m1 := 0) (m2 := 0) de_str (das_cons (m1 := 0) (m2 := 0) de_str das_nil)))))
          (de_take (m := 0) (ok_law_take T) gd' rt (by rfl) T.g_law_take T.F_law_take.kp T.b_law_take b2 (de_is (pv 2) rfl) de_int (by decide)) rfl ?_) (by simp only [BIG]; omega) (fun d z => ?_)
      · intro d m
        simp only [List.mem_cons, List.not_mem_nil, or_false] at m
        rcases m with rfl | rfl | rfl | rfl <;> exact ⟨_, rfl, by decide +kernel, by decide +kernel, by decide +kernel⟩
      obtain ⟨z, rfl, z1, z2, z3⟩ := z
      refine hs_setP (m := 11) (i := 5) (Pd := fun d => ∃ x, d = .str x ∧ x.length ≤ 10 ∧ ∀ c ∈ x.cps.toList, c < 128) sc_law.nd rfl (Or.inl rfl)
        (de_join (m1 := 0) (m2 := 11) (z := "") (Ql := fun ys => ys.length ≤ 10 ∧ ∀ y ∈ ys, ∃ c, y = ⟨#[c]⟩ ∧ c ∈ z.cps.toList) de_str
          (de_lc (m := 1) (M := 10) (c1 := 0) (c2 := 1) (own := [("sign", 11)]) (Ps := fun ys => ∃ i, (0 ≤ i ∧ i < 11) ∧ ys = upto i) (Pt := fun _ b => b = true) (Pe := fun _ d => ∃ c, d = .str ⟨#[c]⟩ ∧ c ∈ z.cps.toList) rfl sc_law.nd
            (di_range (by rfl) T.n_range (de_take (m := 0) (ok_law_take T) gd' rt (by rfl) T.g_law_take T.F_law_take.kp T.b_law_take b2 (de_is (pv 2) rfl) de_int (by decide)) (by intro i q; omega))
            (blkOk_by (N := ["script", "k", "bag", "turn", "signs", "word", "letters", "odd", "spot", "wrong", "others", "sign", "one"]) (sc := defScope sLaw) (by decide +kernel)) (j := 11) rfl (by decide) (by rintro ys ⟨i, q, rfl⟩; rw [upto_len]; omega) (by decide) (fun _ _ _ _ _ => pg_name sc_law.nd rfl (Or.inl rfl))
            (fun s H C cl fp D φ ys d nD _ _ => dts_nil)
            (fun s H C cl fp D φ ys d nD _ _ _ => de_sign (m1 := 0) (m2 := 1) (de_var (pv 4) rfl) (de_take (m := 0) (ok_law_take T) gd' rt (by rfl) T.g_law_take T.F_law_take.kp T.b_law_take (b2.add nD) (de_is (pv 2) rfl) (de_len (by rfl) T.n_len (de_var (pv 4) rfl) (lenS (Nat.le_trans z2 (by decide)))) (by omega)) (Nat.le_trans z2 (by decide)) rfl)
            (by
              rintro ys zs ⟨i, q, rfl⟩ pk
              obtain ⟨us, rfl, hu⟩ := strs_of (Q := fun y => ∃ c, y = ⟨#[c]⟩ ∧ c ∈ z.cps.toList) (zs := zs) (pk.all fun d z _ m => by
                obtain ⟨c, rfl, m⟩ := m
                exact ⟨_, rfl, c, rfl, m⟩)
              refine ⟨us, rfl, ?_, hu⟩
              have := pk.len
              rw [upto_len, List.length_map] at this
              omega)) ?_ ?_) (by simp only [BIG]; omega) (fun d z => ?_)
      · intro ys q
        exact ones_fit q.2 (Nat.le_trans q.1 (by decide))
      · intro ys q
        obtain ⟨e1, e2⟩ := join_ones q.2
        exact ⟨_, rfl, by rw [e1]; exact q.1, fun c m => z3 c (e2 c m)⟩
      obtain ⟨word, rfl, w1, w2⟩ := z
      have hw : El 10 0 (.str word) := el_str (fun c m => Nat.lt_trans (w2 c m) (by decide)) w1 (by decide)
      refine hs_setP (m := 1003) (i := 6) (Pd := fun d => ∃ xs, d = .list xs ∧ xs.length ≤ 250 ∧ ∀ x ∈ xs, x ∈ houses4 ∨ x = .str "+") sc_law.nd rfl (Or.inl rfl)
        (de_draw (m := 1) (M := 1002) (L := [dat _ fun d => ∃ i, d = .int i ∧ 0 ≤ i ∧ i ≤ 250, eqd _ (.list houses4)]) (ok_law_letters T) gd' (rm.mono (by decide)) (by rfl) T.g_law_letters T.F_law_letters.kp T.b_law_letters b2 (de_is (pv 2) rfl)
          (da_cons (m1 := 1) (m2 := 0) (de_pick (m1 := 0) (m2 := 1) (ds := [.int 6, .int 250]) (de_list (das_cons (m1 := 0) (m2 := 0) de_int (das_cons (m1 := 0) (m2 := 0) de_int das_nil))) (de_take (m := 0) (ok_law_take T) gd' rt (by rfl) T.g_law_take T.F_law_take.kp T.b_law_take b2 (de_is (pv 2) rfl) de_int (by decide)) rfl ?_)
            (da_cons (m1 := 0) (m2 := 0) (de_list (ds := houses4) (das_cons (m1 := 0) (m2 := 0) de_str (das_cons (m1 := 0) (m2 := 0) de_str (das_cons (m1 := 0) (m2 := 0) de_str (das_cons (m1 := 0) (m2 := 0) de_str das_nil))))) da_nil)) ?_) (by simp only [BIG]; omega) (fun d z => ?_)
      · intro d m
        simp only [List.mem_cons, List.not_mem_nil, or_false] at m
        rcases m with rfl | rfl <;> exact ⟨_, rfl, by decide, by decide⟩
      · intro H vs o
        obtain ⟨d1, d2, hd, ⟨i, rfl, i0, i1⟩, rfl⟩ := allo2 (P2 := (· = .list houses4)) o
        refine ⟨_, hd, ⟨i, houses4, rfl, i0, by omega, by decide, by decide⟩, Nat.le_refl _, ?_⟩
        rintro d ⟨n, hs, xs, e, rfl, l1, l2⟩
        cases e
        exact ⟨xs, rfl, by omega, l2⟩
      obtain ⟨xs, rfl, x1, x2⟩ := z
      have hx := el_letters x2
      refine hs_set (m := 0) (i := 7) (d := .list (odds word)) sc_law.nd rfl (Or.inl rfl) (de_list (ds := odds word)
        (das_cons (m1 := 0) (m2 := 0) de_str (das_cons (m1 := 0) (m2 := 0) de_str (das_cons (m1 := 0) (m2 := 0) de_str (das_cons (m1 := 0) (m2 := 0) de_str (das_cons (m1 := 0) (m2 := 0) de_str
        (das_cons (m1 := 0) (m2 := 0) de_non (das_cons (m1 := 0) (m2 := 0) de_int (das_cons (m1 := 0) (m2 := 0) de_bl (das_cons (m1 := 0) (m2 := 0) (de_list (das_cons (m1 := 0) (m2 := 0) de_str das_nil)) (das_cons (m1 := 0) (m2 := 0) (de_tupl (das_cons (m1 := 0) (m2 := 0) de_str das_nil))
        (das_cons (m1 := 0) (m2 := 0) de_dict0 (das_cons (m1 := 0) (m2 := 0) de_str (das_cons (m1 := 0) (m2 := 0) de_str (das_cons (m1 := 0) (m2 := 0) (de_var (pv 5) rfl) das_nil))))))))))))))) (by simp only [BIG]; omega) ?_
      refine hs_setP (m := 1) (i := 7) (Pd := fun d => d ∈ odds word) sc_law.nd rfl (Or.inl rfl) (de_pick (m1 := 0) (m2 := 1) (ds := odds word) (de_var (pv 7) rfl) (de_take (m := 0) (l := ((odds word).length : Nat)) (ok_law_take T) gd' rt (by rfl) T.g_law_take T.F_law_take.kp T.b_law_take b2 (de_is (pv 2) rfl) (de_len (by rfl) T.n_len (de_var (pv 7) rfl) rfl) (show (1 : Int) ≤ 14 ∧ (14 : Int) < 1073741824 by decide)) rfl (fun d m => m)) (by simp only [BIG]; omega) (fun odd ho => ?_)
      have hodd := el_odds hw odd ho
      refine hs_setP (m := 1) (i := 8) (Pd := fun d => ∃ i, d = .int i ∧ 0 ≤ i ∧ i < (xs.length : Int) + 1) sc_law.nd rfl (Or.inl rfl) (de_take (m := 0) (ok_law_take T) gd' rt (by rfl) T.g_law_take T.F_law_take.kp T.b_law_take b2 (de_is (pv 2) rfl) (de_op (m1 := 0) (m2 := 0) op_add (de_len (by rfl) T.n_len (de_var (pv 6) rfl) rfl) de_int o_int0) (by omega)) (by simp only [BIG]; omega) (fun d z => ?_)
      obtain ⟨sp, rfl, s0, s1⟩ := z
      have se : sp = ((sp.toNat : Nat) : Int) := (Int.toNat_of_nonneg s0).symm
      have hz : 251 ≤ sizeLine := by decide
      refine hs_set (m := 0) (i := 9) (d := .list (wrongs xs odd sp.toNat)) sc_law.nd rfl (Or.inl rfl)
        (de_op (m1 := 0) (m2 := 0) op_cat
          (de_op (m1 := 0) (m2 := 0) op_cat
            (de_slL (m1 := 0) (m2 := 0) (m3 := 0) (ds := xs) (R := (· = .list (xs.take sp.toNat))) (de_var (pv 6) rfl) do_none (do_some (ei (Pi := (· = sp)) (de_var (pv 8) rfl) rfl)) (by rintro x y rfl ⟨i, rfl, rfl⟩; rw [se, cut_to]; rfl))
            (de_list (das_cons (m1 := 0) (m2 := 0) (de_var (pv 7) rfl) das_nil))
            (o_cat (xs := xs.take sp.toNat) (ys := [odd]) (Nat.le_trans (by rw [List.length_take, List.length_singleton]; omega) hz)))
          (de_slL (m1 := 0) (m2 := 0) (m3 := 0) (ds := xs) (R := (· = .list (xs.drop sp.toNat))) (de_var (pv 6) rfl) (do_some (ei (Pi := (· = sp)) (de_var (pv 8) rfl) rfl)) do_none (by rintro x y ⟨i, rfl, rfl⟩ rfl; rw [se, cut_from]; rfl))
          (o_cat (xs := xs.take sp.toNat ++ [odd]) (ys := xs.drop sp.toNat) (Nat.le_trans (by rw [List.length_append, List.length_take, List.length_singleton, List.length_drop]; omega) hz))) (by simp only [BIG]; omega) ?_
      refine hs_set (m := 0) (i := 10) (d := .list (others word xs odd sp.toNat)) sc_law.nd rfl (Or.inl rfl) (de_list (ds := others word xs odd sp.toNat)
        (das_cons (m1 := 0) (m2 := 0) (de_var (pv 5) rfl) (das_cons (m1 := 0) (m2 := 0) (de_var (pv 6) rfl) (das_cons (m1 := 0) (m2 := 0) (de_var (pv 9) rfl)
        (das_cons (m1 := 0) (m2 := 0) (de_ct (m := 0) call_tuple_of (by rfl) T.n_tuple (by rfl) (da_cons (m1 := 0) (m2 := 0) (de_var (pv 6) rfl) da_nil) c_tuple)
        (das_cons (m1 := 0) (m2 := 0) (de_var (pv 7) rfl) (das_cons (m1 := 0) (m2 := 0) de_dict1 (das_cons (m1 := 0) (m2 := 0) de_dict0 (das_cons (m1 := 0) (m2 := 0) de_int (das_cons (m1 := 0) (m2 := 0) de_str
        (das_cons (m1 := 0) (m2 := 0) (de_list (das_cons (m1 := 0) (m2 := 0) (de_var (pv 6) rfl) das_nil)) (das_cons (m1 := 0) (m2 := 0) de_non (das_cons (m1 := 0) (m2 := 0) (de_list (das_cons (m1 := 0) (m2 := 0) de_str (das_cons (m1 := 0) (m2 := 0) de_str das_nil))) das_nil))))))))))))) (by simp only [BIG]; omega) ?_
      have hgd := gd_others (s := sp.toNat) hw hx x1 hodd
      refine hs_guard (m := 0) (P := (· = false)) (dt_cmp (m1 := 0) (m2 := 0) (op_neE hu)
        (DE.to (d' := .list []) (de_lcF (c1 := 0) (c2 := 0) (own := [("one", 12)]) (f := fun _ => false) (g := fun d => d) rfl sc_law.nd (di_list (de_var (pv 10) rfl)) (blkOk_by (N := ["script", "k", "bag", "turn", "signs", "word", "letters", "odd", "spot", "wrong", "others", "sign", "one"]) (sc := defScope sLaw) (by decide +kernel)) (j := 12) rfl (by decide) (show 12 ≤ 1000000 by decide) (fun _ _ _ _ _ => pg_name sc_law.nd rfl (Or.inl rfl))
          (fun s H C cl fp D φ d nD dm => dt_not (dt_val (fn1 (ok_law_right T) gd' rm (by rfl) T.g_law_right T.F_law_right.kp T.b_law_right (de_var (pv 12) rfl) (hgd d dm))) (by rintro b rfl; rfl)) (fun s H C cl fp D φ d nD dm _ => de_var (pv 12) rfl)) (congrArg (fun l => PyData.list (List.map (fun d => d) l)) (filt_no _)))
        (de_list das_nil) o_neE (nomark _)) (by simp only [BIG]; omega) (fun q => absurd q (by decide)) (fun _ => ?_)
      refine hs_nil (fun σ H k => (k.less ?_).up ?_)
      · exact .same (.same (.same (.no (.no (.no (.no (.no (.no (.no (.no (Less.refl _)))))))))))
      · show _ ≤ 10000 * i + 1100 * (j + 1)
        omega
    · refine hs_nil (end_add (.same (.no (.no (Less.refl _)))) ?_)
      rw [px, upto_len]
      show 10000 * i + 1100 * 8 ≤ 10000 * (i + 1)
      omega
  · have gs : ∀ x : Str, (x.cps.toList.all fun c => decide (c < 1114112)) = true → x.length ≤ 9 → Gd (.str x) := fun x h1 h2 => gd_sc (el_s x h1 h2) (by decide) (by decide) rfl
    refine hs_ret (m := 0) (A := bol _ (· = true))
      (de_and (m1 := 0) (m2 := 0) (de_bol (fn1 (ok_law_right T) gd' rm (by rfl) T.g_law_right T.F_law_right.kp T.b_law_right (de_list das_nil) (gd_list (b := 0) (p := 0) (n := 0) (fun d m => nomatch m) (Nat.le_refl _) (by decide) (by decide) (by decide)))) (fun _ =>
        de_and (m1 := 0) (m2 := 0) (de_bol (fn1 (ok_law_right T) gd' rm (by rfl) T.g_law_right T.F_law_right.kp T.b_law_right (de_mulS (m1 := 0) (m2 := 0) de_str de_int (by decide)) (gs _ (by decide +kernel) (by decide +kernel)))) (fun _ =>
          de_and (m1 := 0) (m2 := 0) (de_bol (fn1 (ok_law_right T) gd' rm (by rfl) T.g_law_right T.F_law_right.kp T.b_law_right (de_mulS (m1 := 0) (m2 := 0) de_str de_int (by decide)) (gs _ (by decide +kernel) (by decide +kernel)))) (fun _ =>
            de_one (de_bol (fn1 (ok_law_right T) gd' rm (by rfl) T.g_law_right T.F_law_right.kp T.b_law_right de_str (gs _ (by decide +kernel) (by decide +kernel)))))
            (fun q => absurd q (by decide))) (fun q => absurd q (by decide))) (fun q => absurd q (by decide)))
      ?_ (fun v σ H k o => ?_)
    · obtain ⟨i8, q, rfl⟩ := px
      rw [upto_len]
      simp only [BIG]
      omega
    · obtain ⟨b, rfl, rfl⟩ := o
      rfl
end
end K13
set_option maxRecDepth 100000
set_option maxHeartbeats 4000000
namespace K13
open PySem PySem.Spec PyProof.Rows L2 Dv
theorem txt_mk {P : Program} {w : World} {K : PySem.W.Frag} {h : Heap} {mg : Str → Option Value} (X : K.In h) (G : h.Ns mainGlobals mg)
    {f0 : Addr} {od0 an0 : Option Addr} {sl0 : Array (Option Value)} {oc0 kV0 dc0 pm0 cd0 ct0 : Value}
    (a0 : PySem.W.nsIn K mainGlobals "is_office" = some (some (.ref f0))) (l0 : K.lookup f0 = some ⟨oc0, od0, .func (PySem.W.fnOf "is_office" "is_office" (defArgs sIsOffice) (defBody sIsOffice) (defScope sIsOffice) .none kV0 dc0 pm0 an0 cd0 ct0), sl0⟩) (c0 : PySem.W.codeIn K cd0 "is_office" = true) (k0 : PySem.W.keepIn K (.ref f0) = true)
    {f1 : Addr} {od1 an1 : Option Addr} {sl1 : Array (Option Value)} {oc1 kV1 dc1 pm1 cd1 ct1 : Value}
    (a1 : PySem.W.nsIn K mainGlobals "is_letter" = some (some (.ref f1))) (l1 : K.lookup f1 = some ⟨oc1, od1, .func (PySem.W.fnOf "is_letter" "is_letter" (defArgs sIsLetter) (defBody sIsLetter) (defScope sIsLetter) .none kV1 dc1 pm1 an1 cd1 ct1), sl1⟩) (c1 : PySem.W.codeIn K cd1 "is_letter" = true) (k1 : PySem.W.keepIn K (.ref f1) = true)
    {f2 : Addr} {od2 an2 : Option Addr} {sl2 : Array (Option Value)} {oc2 kV2 dc2 pm2 cd2 ct2 : Value}
    (a2 : PySem.W.nsIn K mainGlobals "is_rule" = some (some (.ref f2))) (l2 : K.lookup f2 = some ⟨oc2, od2, .func (PySem.W.fnOf "is_rule" "is_rule" (defArgs sIsRule) (defBody sIsRule) (defScope sIsRule) .none kV2 dc2 pm2 an2 cd2 ct2), sl2⟩) (c2 : PySem.W.codeIn K cd2 "is_rule" = true) (k2 : PySem.W.keepIn K (.ref f2) = true)
    {f3 : Addr} {od3 an3 : Option Addr} {sl3 : Array (Option Value)} {oc3 kV3 dc3 pm3 cd3 ct3 : Value}
    (a3 : PySem.W.nsIn K mainGlobals "_law_bag" = some (some (.ref f3))) (l3 : K.lookup f3 = some ⟨oc3, od3, .func (PySem.W.fnOf "_law_bag" "_law_bag" (defArgs sLawBag) (defBody sLawBag) (defScope sLawBag) .none kV3 dc3 pm3 an3 cd3 ct3), sl3⟩) (c3 : PySem.W.codeIn K cd3 "_law_bag" = true) (k3 : PySem.W.keepIn K (.ref f3) = true)
    {f4 : Addr} {od4 an4 : Option Addr} {sl4 : Array (Option Value)} {oc4 kV4 dc4 pm4 cd4 ct4 : Value}
    (a4 : PySem.W.nsIn K mainGlobals "_law_take" = some (some (.ref f4))) (l4 : K.lookup f4 = some ⟨oc4, od4, .func (PySem.W.fnOf "_law_take" "_law_take" (defArgs sLawTake) (defBody sLawTake) (defScope sLawTake) .none kV4 dc4 pm4 an4 cd4 ct4), sl4⟩) (c4 : PySem.W.codeIn K cd4 "_law_take" = true) (k4 : PySem.W.keepIn K (.ref f4) = true)
    {f5 : Addr} {od5 an5 : Option Addr} {sl5 : Array (Option Value)} {oc5 kV5 dc5 pm5 cd5 ct5 : Value}
    (a5 : PySem.W.nsIn K mainGlobals "_law_letters" = some (some (.ref f5))) (l5 : K.lookup f5 = some ⟨oc5, od5, .func (PySem.W.fnOf "_law_letters" "_law_letters" (defArgs sLawLetters) (defBody sLawLetters) (defScope sLawLetters) .none kV5 dc5 pm5 an5 cd5 ct5), sl5⟩) (c5 : PySem.W.codeIn K cd5 "_law_letters" = true) (k5 : PySem.W.keepIn K (.ref f5) = true)
    {f6 : Addr} {od6 an6 : Option Addr} {sl6 : Array (Option Value)} {oc6 kV6 dc6 pm6 cd6 ct6 : Value}
    (a6 : PySem.W.nsIn K mainGlobals "_law_office_due" = some (some (.ref f6))) (l6 : K.lookup f6 = some ⟨oc6, od6, .func (PySem.W.fnOf "_law_office_due" "_law_office_due" (defArgs sLawOfficeDue) (defBody sLawOfficeDue) (defScope sLawOfficeDue) .none kV6 dc6 pm6 an6 cd6 ct6), sl6⟩) (c6 : PySem.W.codeIn K cd6 "_law_office_due" = true) (k6 : PySem.W.keepIn K (.ref f6) = true)
    {f7 : Addr} {od7 an7 : Option Addr} {sl7 : Array (Option Value)} {oc7 kV7 dc7 pm7 cd7 ct7 : Value}
    (a7 : PySem.W.nsIn K mainGlobals "_law_rule_due" = some (some (.ref f7))) (l7 : K.lookup f7 = some ⟨oc7, od7, .func (PySem.W.fnOf "_law_rule_due" "_law_rule_due" (defArgs sLawRuleDue) (defBody sLawRuleDue) (defScope sLawRuleDue) .none kV7 dc7 pm7 an7 cd7 ct7), sl7⟩) (c7 : PySem.W.codeIn K cd7 "_law_rule_due" = true) (k7 : PySem.W.keepIn K (.ref f7) = true)
    {f8 : Addr} {od8 an8 : Option Addr} {sl8 : Array (Option Value)} {oc8 kV8 dc8 pm8 cd8 ct8 : Value}
    (a8 : PySem.W.nsIn K mainGlobals "_law_right" = some (some (.ref f8))) (l8 : K.lookup f8 = some ⟨oc8, od8, .func (PySem.W.fnOf "_law_right" "_law_right" (defArgs sLawRight) (defBody sLawRight) (defScope sLawRight) .none kV8 dc8 pm8 an8 cd8 ct8), sl8⟩) (c8 : PySem.W.codeIn K cd8 "_law_right" = true) (k8 : PySem.W.keepIn K (.ref f8) = true)
    {f9 : Addr} {od9 an9 : Option Addr} {sl9 : Array (Option Value)} {oc9 kV9 dc9 pm9 cd9 ct9 : Value}
    (a9 : PySem.W.nsIn K mainGlobals "law" = some (some (.ref f9))) (l9 : K.lookup f9 = some ⟨oc9, od9, .func (PySem.W.fnOf "law" "law" (defArgs sLaw) (defBody sLaw) (defScope sLaw) .none kV9 dc9 pm9 an9 cd9 ct9), sl9⟩) (c9 : PySem.W.codeIn K cd9 "law" = true) (k9 : PySem.W.keepIn K (.ref f9) = true)
    {t_SMALL_LETTERS : Tok} (x_SMALL_LETTERS : PySem.W.nsIn K mainGlobals "SMALL_LETTERS" = some (some (.str "abcdefghijklmnopqrstuvwxyz" t_SMALL_LETTERS)))
    (z_abs : PySem.W.nsIn K mainGlobals "abs" = some none)
    (z_all : PySem.W.nsIn K mainGlobals "all" = some none)
    (z_isinstance : PySem.W.nsIn K mainGlobals "isinstance" = some none)
    (z_len : PySem.W.nsIn K mainGlobals "len" = some none)
    (z_list : PySem.W.nsIn K mainGlobals "list" = some none)
    (z_max : PySem.W.nsIn K mainGlobals "max" = some none)
    (z_min : PySem.W.nsIn K mainGlobals "min" = some none)
    (z_range : PySem.W.nsIn K mainGlobals "range" = some none)
    (z_repr : PySem.W.nsIn K mainGlobals "repr" = some none)
    (z_str : PySem.W.nsIn K mainGlobals "str" = some none)
    (z_tuple : PySem.W.nsIn K mainGlobals "tuple" = some none) :
    ∃ a : Ads, a.a_law = f9 ∧ Txt K mg a ∧ (∀ (s : Shared) (u : Value), BindsTo s a.d_law ⟨[u], []⟩ [("script", u)]) := by
  have F0 := fun_mk (st := sIsOffice) l0 c0 k0
  have B0 := F0.binds (ps := ["value"]) fun _ _ _ _ _ _ us hl => match us, hl with | [_], _ => rfl
  have F1 := fun_mk (st := sIsLetter) l1 c1 k1
  have B1 := F1.binds (ps := ["value"]) fun _ _ _ _ _ _ us hl => match us, hl with | [_], _ => rfl
  have F2 := fun_mk (st := sIsRule) l2 c2 k2
  have B2 := F2.binds (ps := ["value"]) fun _ _ _ _ _ _ us hl => match us, hl with | [_], _ => rfl
  have F3 := fun_mk (st := sLawBag) l3 c3 k3
  have B3 := F3.binds (ps := ["script", "k"]) fun _ _ _ _ _ _ us hl => match us, hl with | [_, _], _ => rfl
  have F4 := fun_mk (st := sLawTake) l4 c4 k4
  have B4 := F4.binds (ps := ["bag", "many"]) fun _ _ _ _ _ _ us hl => match us, hl with | [_, _], _ => rfl
  have F5 := fun_mk (st := sLawLetters) l5 c5 k5
  have B5 := F5.binds (ps := ["bag", "most", "houses"]) fun _ _ _ _ _ _ us hl => match us, hl with | [_, _, _], _ => rfl
  have F6 := fun_mk (st := sLawOfficeDue) l6 c6 k6
  have B6 := F6.binds (ps := ["thing"]) fun _ _ _ _ _ _ us hl => match us, hl with | [_], _ => rfl
  have F7 := fun_mk (st := sLawRuleDue) l7 c7 k7
  have B7 := F7.binds (ps := ["thing"]) fun _ _ _ _ _ _ us hl => match us, hl with | [_], _ => rfl
  have F8 := fun_mk (st := sLawRight) l8 c8 k8
  have B8 := F8.binds (ps := ["thing"]) fun _ _ _ _ _ _ us hl => match us, hl with | [_], _ => rfl
  have F9 := fun_mk (st := sLaw) l9 c9 k9
  have B9 := F9.binds (ps := ["script"]) fun _ _ _ _ _ _ us hl => match us, hl with | [_], _ => rfl
  refine ⟨⟨f0, PySem.W.fnOf "is_office" "is_office" (defArgs sIsOffice) (defBody sIsOffice) (defScope sIsOffice) .none kV0 dc0 pm0 an0 cd0 ct0, f1, PySem.W.fnOf "is_letter" "is_letter" (defArgs sIsLetter) (defBody sIsLetter) (defScope sIsLetter) .none kV1 dc1 pm1 an1 cd1 ct1, f2, PySem.W.fnOf "is_rule" "is_rule" (defArgs sIsRule) (defBody sIsRule) (defScope sIsRule) .none kV2 dc2 pm2 an2 cd2 ct2, f3, PySem.W.fnOf "_law_bag" "_law_bag" (defArgs sLawBag) (defBody sLawBag) (defScope sLawBag) .none kV3 dc3 pm3 an3 cd3 ct3, f4, PySem.W.fnOf "_law_take" "_law_take" (defArgs sLawTake) (defBody sLawTake) (defScope sLawTake) .none kV4 dc4 pm4 an4 cd4 ct4, f5, PySem.W.fnOf "_law_letters" "_law_letters" (defArgs sLawLetters) (defBody sLawLetters) (defScope sLawLetters) .none kV5 dc5 pm5 an5 cd5 ct5, f6, PySem.W.fnOf "_law_office_due" "_law_office_due" (defArgs sLawOfficeDue) (defBody sLawOfficeDue) (defScope sLawOfficeDue) .none kV6 dc6 pm6 an6 cd6 ct6, f7, PySem.W.fnOf "_law_rule_due" "_law_rule_due" (defArgs sLawRuleDue) (defBody sLawRuleDue) (defScope sLawRuleDue) .none kV7 dc7 pm7 an7 cd7 ct7, f8, PySem.W.fnOf "_law_right" "_law_right" (defArgs sLawRight) (defBody sLawRight) (defScope sLawRight) .none kV8 dc8 pm8 an8 cd8 ct8, f9, PySem.W.fnOf "law" "law" (defArgs sLaw) (defBody sLaw) (defScope sLaw) .none kV9 dc9 pm9 an9 cd9 ct9⟩, rfl, ?_, fun s u => .of_eq rfl⟩
  exact ⟨PySem.W.mg_of X G a0, F0, B0, PySem.W.mg_of X G a1, F1, B1, PySem.W.mg_of X G a2, F2, B2, PySem.W.mg_of X G a3, F3, B3, PySem.W.mg_of X G a4, F4, B4, PySem.W.mg_of X G a5, F5, B5, PySem.W.mg_of X G a6, F6, B6, PySem.W.mg_of X G a7, F7, B7, PySem.W.mg_of X G a8, F8, B8, PySem.W.mg_of X G a9, F9, B9, ⟨t_SMALL_LETTERS, PySem.W.mg_of X G x_SMALL_LETTERS⟩, PySem.W.mg_none_of X G z_abs, PySem.W.mg_none_of X G z_all, PySem.W.mg_none_of X G z_isinstance, PySem.W.mg_none_of X G z_len, PySem.W.mg_none_of X G z_list, PySem.W.mg_none_of X G z_max, PySem.W.mg_none_of X G z_min, PySem.W.mg_none_of X G z_range, PySem.W.mg_none_of X G z_repr, PySem.W.mg_none_of X G z_str, PySem.W.mg_none_of X G z_tuple⟩

theorem all_mk {P : Program} {w : World} {K : PySem.W.Frag} {h : Heap} {mg : Str → Option Value} {fa : Addr} (X : K.In h) (G : h.Ns mainGlobals mg) (hmg : mg "law" = some (.ref fa))
    {f0 : Addr} {od0 an0 : Option Addr} {sl0 : Array (Option Value)} {oc0 kV0 dc0 pm0 cd0 ct0 : Value}
    (a0 : PySem.W.nsIn K mainGlobals "is_office" = some (some (.ref f0))) (l0 : K.lookup f0 = some ⟨oc0, od0, .func (PySem.W.fnOf "is_office" "is_office" (defArgs sIsOffice) (defBody sIsOffice) (defScope sIsOffice) .none kV0 dc0 pm0 an0 cd0 ct0), sl0⟩) (c0 : PySem.W.codeIn K cd0 "is_office" = true) (k0 : PySem.W.keepIn K (.ref f0) = true)
    {f1 : Addr} {od1 an1 : Option Addr} {sl1 : Array (Option Value)} {oc1 kV1 dc1 pm1 cd1 ct1 : Value}
    (a1 : PySem.W.nsIn K mainGlobals "is_letter" = some (some (.ref f1))) (l1 : K.lookup f1 = some ⟨oc1, od1, .func (PySem.W.fnOf "is_letter" "is_letter" (defArgs sIsLetter) (defBody sIsLetter) (defScope sIsLetter) .none kV1 dc1 pm1 an1 cd1 ct1), sl1⟩) (c1 : PySem.W.codeIn K cd1 "is_letter" = true) (k1 : PySem.W.keepIn K (.ref f1) = true)
    {f2 : Addr} {od2 an2 : Option Addr} {sl2 : Array (Option Value)} {oc2 kV2 dc2 pm2 cd2 ct2 : Value}
    (a2 : PySem.W.nsIn K mainGlobals "is_rule" = some (some (.ref f2))) (l2 : K.lookup f2 = some ⟨oc2, od2, .func (PySem.W.fnOf "is_rule" "is_rule" (defArgs sIsRule) (defBody sIsRule) (defScope sIsRule) .none kV2 dc2 pm2 an2 cd2 ct2), sl2⟩) (c2 : PySem.W.codeIn K cd2 "is_rule" = true) (k2 : PySem.W.keepIn K (.ref f2) = true)
    {f3 : Addr} {od3 an3 : Option Addr} {sl3 : Array (Option Value)} {oc3 kV3 dc3 pm3 cd3 ct3 : Value}
    (a3 : PySem.W.nsIn K mainGlobals "_law_bag" = some (some (.ref f3))) (l3 : K.lookup f3 = some ⟨oc3, od3, .func (PySem.W.fnOf "_law_bag" "_law_bag" (defArgs sLawBag) (defBody sLawBag) (defScope sLawBag) .none kV3 dc3 pm3 an3 cd3 ct3), sl3⟩) (c3 : PySem.W.codeIn K cd3 "_law_bag" = true) (k3 : PySem.W.keepIn K (.ref f3) = true)
    {f4 : Addr} {od4 an4 : Option Addr} {sl4 : Array (Option Value)} {oc4 kV4 dc4 pm4 cd4 ct4 : Value}
    (a4 : PySem.W.nsIn K mainGlobals "_law_take" = some (some (.ref f4))) (l4 : K.lookup f4 = some ⟨oc4, od4, .func (PySem.W.fnOf "_law_take" "_law_take" (defArgs sLawTake) (defBody sLawTake) (defScope sLawTake) .none kV4 dc4 pm4 an4 cd4 ct4), sl4⟩) (c4 : PySem.W.codeIn K cd4 "_law_take" = true) (k4 : PySem.W.keepIn K (.ref f4) = true)
    {f5 : Addr} {od5 an5 : Option Addr} {sl5 : Array (Option Value)} {oc5 kV5 dc5 pm5 cd5 ct5 : Value}
    (a5 : PySem.W.nsIn K mainGlobals "_law_letters" = some (some (.ref f5))) (l5 : K.lookup f5 = some ⟨oc5, od5, .func (PySem.W.fnOf "_law_letters" "_law_letters" (defArgs sLawLetters) (defBody sLawLetters) (defScope sLawLetters) .none kV5 dc5 pm5 an5 cd5 ct5), sl5⟩) (c5 : PySem.W.codeIn K cd5 "_law_letters" = true) (k5 : PySem.W.keepIn K (.ref f5) = true)
    {f6 : Addr} {od6 an6 : Option Addr} {sl6 : Array (Option Value)} {oc6 kV6 dc6 pm6 cd6 ct6 : Value}
    (a6 : PySem.W.nsIn K mainGlobals "_law_office_due" = some (some (.ref f6))) (l6 : K.lookup f6 = some ⟨oc6, od6, .func (PySem.W.fnOf "_law_office_due" "_law_office_due" (defArgs sLawOfficeDue) (defBody sLawOfficeDue) (defScope sLawOfficeDue) .none kV6 dc6 pm6 an6 cd6 ct6), sl6⟩) (c6 : PySem.W.codeIn K cd6 "_law_office_due" = true) (k6 : PySem.W.keepIn K (.ref f6) = true)
    {f7 : Addr} {od7 an7 : Option Addr} {sl7 : Array (Option Value)} {oc7 kV7 dc7 pm7 cd7 ct7 : Value}
    (a7 : PySem.W.nsIn K mainGlobals "_law_rule_due" = some (some (.ref f7))) (l7 : K.lookup f7 = some ⟨oc7, od7, .func (PySem.W.fnOf "_law_rule_due" "_law_rule_due" (defArgs sLawRuleDue) (defBody sLawRuleDue) (defScope sLawRuleDue) .none kV7 dc7 pm7 an7 cd7 ct7), sl7⟩) (c7 : PySem.W.codeIn K cd7 "_law_rule_due" = true) (k7 : PySem.W.keepIn K (.ref f7) = true)
    {f8 : Addr} {od8 an8 : Option Addr} {sl8 : Array (Option Value)} {oc8 kV8 dc8 pm8 cd8 ct8 : Value}
    (a8 : PySem.W.nsIn K mainGlobals "_law_right" = some (some (.ref f8))) (l8 : K.lookup f8 = some ⟨oc8, od8, .func (PySem.W.fnOf "_law_right" "_law_right" (defArgs sLawRight) (defBody sLawRight) (defScope sLawRight) .none kV8 dc8 pm8 an8 cd8 ct8), sl8⟩) (c8 : PySem.W.codeIn K cd8 "_law_right" = true) (k8 : PySem.W.keepIn K (.ref f8) = true)
    {f9 : Addr} {od9 an9 : Option Addr} {sl9 : Array (Option Value)} {oc9 kV9 dc9 pm9 cd9 ct9 : Value}
    (a9 : PySem.W.nsIn K mainGlobals "law" = some (some (.ref f9))) (l9 : K.lookup f9 = some ⟨oc9, od9, .func (PySem.W.fnOf "law" "law" (defArgs sLaw) (defBody sLaw) (defScope sLaw) .none kV9 dc9 pm9 an9 cd9 ct9), sl9⟩) (c9 : PySem.W.codeIn K cd9 "law" = true) (k9 : PySem.W.keepIn K (.ref f9) = true)
    {t_SMALL_LETTERS : Tok} (x_SMALL_LETTERS : PySem.W.nsIn K mainGlobals "SMALL_LETTERS" = some (some (.str "abcdefghijklmnopqrstuvwxyz" t_SMALL_LETTERS)))
    (z_abs : PySem.W.nsIn K mainGlobals "abs" = some none)
    (z_all : PySem.W.nsIn K mainGlobals "all" = some none)
    (z_isinstance : PySem.W.nsIn K mainGlobals "isinstance" = some none)
    (z_len : PySem.W.nsIn K mainGlobals "len" = some none)
    (z_list : PySem.W.nsIn K mainGlobals "list" = some none)
    (z_max : PySem.W.nsIn K mainGlobals "max" = some none)
    (z_min : PySem.W.nsIn K mainGlobals "min" = some none)
    (z_range : PySem.W.nsIn K mainGlobals "range" = some none)
    (z_repr : PySem.W.nsIn K mainGlobals "repr" = some none)
    (z_str : PySem.W.nsIn K mainGlobals "str" = some none)
    (z_tuple : PySem.W.nsIn K mainGlobals "tuple" = some none) :
    ∃ fd : FuncData, (∀ (s : Shared) (u : Value), BindsTo s fd ⟨[u], []⟩ [("script", u)]) ∧ ∀ base : Heap, K.In base → base.Ns mainGlobals mg → FnG P w K mg base CX0 6 fa fd ["script"] (spLaw K 63) := by
  obtain ⟨a, ea, T, hb⟩ := txt_mk (P := P) (w := w) X G a0 l0 c0 k0 a1 l1 c1 k1 a2 l2 c2 k2 a3 l3 c3 k3 a4 l4 c4 k4 a5 l5 c5 k5 a6 l6 c6 k6 a7 l7 c7 k7 a8 l8 c8 k8 a9 l9 c9 k9 x_SMALL_LETTERS z_abs z_all z_isinstance z_len z_list z_max z_min z_range z_repr z_str z_tuple
  have e : fa = a.a_law := Value.ref.inj (Option.some.inj (hmg.symm.trans T.g_law))
  subst e
  exact ⟨a.d_law, hb, fun base _ _ => ok_law T⟩
end K13
open PySem PySem.W PyProof.Rows in
set_option maxRecDepth 100000 in
set_option maxHeartbeats 0 in
theorem PySem.Challenge.cw_daychains_k13_offices_and_rules_judged_holds : PySem.Challenge.rw_daychains_k13_offices_and_rules_judged.Holds := by
  w_on; o_law; k_head; (case hw => w_witness2)
  k_fill
  refine Dv.end_g (l := PySem.Challenge.rw_daychains_k13_offices_and_rules_judged) (n := 63) (k := 6) (x := "script") rfl (by decide) rfl ⟨rfl, by decide, by decide⟩ (fun w h Y => PySem.W.kIn_of Y) ?F
  case F =>
    intro w mg fa h KX G hmg
    refine' K13.all_mk KX G hmg ?a0 ?l0 ?c0 ?k0 ?a1 ?l1 ?c1 ?k1 ?a2 ?l2 ?c2 ?k2 ?a3 ?l3 ?c3 ?k3 ?a4 ?l4 ?c4 ?k4 ?a5 ?l5 ?c5 ?k5 ?a6 ?l6 ?c6 ?k6 ?a7 ?l7 ?c7 ?k7 ?a8 ?l8 ?c8 ?k8 ?a9 ?l9 ?c9 ?k9 ?x_SMALL_LETTERS ?z_abs ?z_all ?z_isinstance ?z_len ?z_list ?z_max ?z_min ?z_range ?z_repr ?z_str ?z_tuple
    (case a0 => k_is); (case l0 => k_is); (case c0 => k_is); (case k0 => k_is); (case a1 => k_is); (case l1 => k_is)
    (case c1 => k_is); (case k1 => k_is); (case a2 => k_is); (case l2 => k_is); (case c2 => k_is); (case k2 => k_is)
    (case a3 => k_is); (case l3 => k_is); (case c3 => k_is); (case k3 => k_is); (case a4 => k_is); (case l4 => k_is)
    (case c4 => k_is); (case k4 => k_is); (case a5 => k_is); (case l5 => k_is); (case c5 => k_is); (case k5 => k_is)
    (case a6 => k_is); (case l6 => k_is); (case c6 => k_is); (case k6 => k_is); (case a7 => k_is); (case l7 => k_is)
    (case c7 => k_is); (case k7 => k_is); (case a8 => k_is); (case l8 => k_is); (case c8 => k_is); (case k8 => k_is)
    (case a9 => k_is); (case l9 => k_is); (case c9 => k_is); (case k9 => k_is); (case x_SMALL_LETTERS => k_is); (case z_abs => k_is)
    (case z_all => k_is); (case z_isinstance => k_is); (case z_len => k_is); (case z_list => k_is); (case z_max => k_is); (case z_min => k_is)
    (case z_range => k_is); (case z_repr => k_is); (case z_str => k_is); (case z_tuple => k_is)
