import PyProof.Rows.All
import HandS.ForMost
import HandS.IsInst
import HandS.Wide
import HandS.Deep
import HandS.RaiseMore
import HandS.Flow
import HandS.More
import HandS.StrMore
import HandS.Walk
import HandS.Steps
import PyProof.NeKinds
import HandS.SortRule
import HandS.ClsMeth
import HandS.MakeKwOnly
import HandS.SortInts
import HandS.Style
import PyProof.LongRange
import HandS.Conv
import HandS.Iter
import HandS.Zip
import HandS.Text
import HandS.WordsExc
import HandS.TryOnly
import HandS.ExcCtx
import HandS.ExcIs
import HandS.ExcValue
import PyProof.TupleIter
import HandS.HotCalls
import PyProof.Rows.StrIntSpec
import HandS.SetBool
import HandS.Star
import PySem.Challenge.RW_daychains_k50_states_that_are_known
import HandS.TupSets
import HandS.SortOrd
import KE.LtData
import OpenK.AllK
set_option Elab.async false
set_option linter.all false
set_option maxRecDepth 100000
set_option maxHeartbeats 2000000
/-! Dv1: promises of defs that run outside of any repr (FnG), data at a value (Da), repr of data. -/
namespace Dv
open PySem PySem.Spec PyProof.Rows L2

/-- a def keeps its promise wherever no repr is under way -/
structure FnG (P : Program) (w : World) (K : PySem.W.Frag) (mg : Str → Option Value) (base : Heap) (C : CXT) (k : Nat) (f : Addr) (fd : FuncData) (ps : List Str) (sp : Sp) : Prop where
  len : ∀ xs h q e, sp xs h q e → xs.length = ps.length
  go : ∀ (B : Around) (fr : List Env) (t : Shared) (h : Hp) (ar : Args) (us : List Value) (xs : List V) (q : VK) (e : XK),
    B.guards = some [] → Room k B → Env0 P w K mg base B fr t h → BindsTo t fd ar (ps.zip us) → Vals xs us → sp xs h q e →
    codeAny (model P w) B (.call (.ref f) ar) (CR C fr P w h t q e) t

section
variable {P : Program} {w : World} {K : PySem.W.Frag} {mg : Str → Option Value} {base : Heap} {C : CXT} {k : Nat} {f : Addr} {fd : FuncData} {ps : List Str} {sp : Sp}
theorem FnG.of (F : FnOk P w K mg base C k f fd ps sp) : FnG P w K mg base C k f fd ps sp :=
  ⟨F.len, fun B fr t h ar us xs q e _ r e0 b v z => F.run B fr t h ar us xs q e r e0 b v z⟩
theorem FnG.mono {j : Nat} (F : FnG P w K mg base C j f fd ps sp) (l : j ≤ k) : FnG P w K mg base C k f fd ps sp :=
  ⟨F.len, fun B fr t h ar us xs q e g r => F.go B fr t h ar us xs q e g (r.mono l)⟩

/-- the rule for such a def, by its body -/
theorem okG {x qual : Str} {st : Stmt} {N : List Str} (F : Fun K x qual st f fd) (S : FnScope N ps (defScope st)) (hlen : ∀ xs h q e, sp xs h q e → xs.length = ps.length)
    (body : ∀ (cd : Value) (B : Around) (fr : List Env) (t : Shared) (h : Hp) (xs : List V) (q : VK) (e : XK), B.guards = some [] →
      Room k (B.deeper (envOfC qual (defScope st) t.heap.objs.size f cd)) → sp xs h q e →
      ∃ r, PSs (cxOf C P w K mg base N qual (defScope st) f cd B fr t h e).nox (defBody st) r ∧ r { nx := fun _ h' => q .non h', rt := q } (start N xs) h) :
    FnG P w K mg base C (k + 1) f fd ps sp := by
  obtain ⟨oc, od, kV, doc, pm, an, cd, ct, osl, rfl, hk, hc⟩ := F.ex
  refine ⟨hlen, fun B fr t h ar us xs q e gd rm e0 hb rv hs => ?_⟩
  have hL := hlen _ _ _ _ hs
  have KX : K.In t.heap := e0.mod.kin.keeps fun b o z => (e0.bs b o z).1
  have lim : t.heap.NoLimit := e0.mod.nolimit.keeps fun b o z => (e0.bs b o z).1
  have kinds : ∀ y ∈ ps.zip us, (defScope st).names.lookup y.1 = some .local ∨ ((defScope st).names.lookup y.1 = some .cell ∧
      ((cellsFrom (t.heap.objs.size + 1) (defScope st).names []).lookup y.1).isSome = true) := by
    rintro ⟨n, v⟩ hy
    rcases S.par n (List.of_mem_zip hy).1 with z | z
    · exact .inl z
    · exact .inr ⟨z, PySem.W.cellsFrom_some _ _ _ (.inl z)⟩
  refine codeAny_call_function rm.depth (KX _ _ hk) rfl S.co S.gen rfl (PySem.W.codeRec_of KX hc) (hb _ _ _ _ ?_)
  refine wpAny_newFunctionEnv_cells S.kind kinds fun env ee t1 xc => ?_
  subst ee
  refine ⟨lim.keeps xc.toInCall.keep, codeAny_func ?_⟩
  obtain ⟨r, hr, hq⟩ := body cd B fr t h xs q e gd (rm.deeper _) hs
  have I0 := inv_start (CX := C) (E := e) S rm.hd e0 hL rv xc
  refine wpAny_mono (hr.nox.run [] t1 (start N xs) h _ I0 hq) (fun fl t2 z => ?_) fun _ _ z => z
  cases fl with
  | ret u =>
    obtain ⟨v, σ', h', J, rr, z⟩ := z
    exact ⟨v, h', J.os, J.bare, J.base, J.hok, rr, z⟩
  | next =>
    obtain ⟨σ', h', J, z⟩ := z
    exact ⟨V.non, h', J.os, J.bare, J.base, J.hok, rfl, z⟩
  | brk =>
    obtain ⟨_, _, _, z⟩ := z
    exact False.elim z
  | cont =>
    obtain ⟨_, _, _, z⟩ := z
    exact False.elim z
end

section
variable {X : Cx} {C : CXT} {k : Nat} {f : Addr} {fd : FuncData} {ps ks : List Str} {sp : Sp} {ds : List Value} {dvs : List V} {E : XK} {x : Str} {p pos : Pos} {e : Expr} {es : List Expr} {t : TA}
theorem run_g {pins : List (Addr × Obj)} {σ : L2.St} {h : Hp} {s : Shared} {q : VK} {us : List Value} {xs : List V} (F : FnG X.prog X.w X.K X.mg X.base C k f fd ps sp) (gd : X.A.guards = some []) (rm : Room k X.A)
    (hb : Binds X.K fd ps ds) (hd : Vals dvs ds) (hx : Passes C X E) (I : Inv X pins σ h s) (rv : Vals xs us) (z : sp (xs ++ dvs) h q E) :
    wpAny (model X.prog X.w) X.A (call (.ref f) us) (EP X pins σ q) X.xe s := by
  have r2 := rv.append hd
  have hL : (us ++ ds).length = ps.length := r2.length.symm.trans (F.len _ _ _ _ z)
  refine wpAny_call (codeAny_mono (F.go X.A X.stack s h ⟨us, []⟩ _ _ q E gd rm I.env0 (hb s us I.kIn hL) r2 z) fun r s' hq => ?_)
  match r, hq with
  | .error e, hq => exact hx pins σ h s e s' I hq
  | .ok (.ret u), hq => exact I.after hq
  | .ok .next, hq => exact False.elim hq
  | .ok .brk, hq => exact False.elim hq
  | .ok .cont, hq => exact False.elim hq
theorem pe_g (F : FnG X.prog X.w X.K X.mg X.base C k f fd ps sp) (gd : X.A.guards = some []) (rm : Room k X.A) (hg : Gl X x) (hm : X.mg x = some (.ref f)) (hk : PySem.W.keepIn X.K (.ref f) = true) (hb : Binds X.K fd ps ds) (hd : Vals dvs ds) (hx : Passes C X E)
    (ha : PA X (e :: es) t) (h1 : (x == ("__debug__" : Str)) = false := by decide) (h2 : starEach (e :: es) X.env = (false, eval e X.env) :: starEach es X.env := by rfl) (h3 : (backTo pos (starEach es X.env)).any (·.1) = false := by rfl) :
    PE X (.Call (.Name x p) (e :: es) [] pos) (tCall sp dvs E t) :=
  ⟨fun pins s σ H Q I h => wpAny_Call_Name_kw (ld_glob I hg hm (PySem.W.callWith_K (h₀ := X.base) I.ok.mod.kin hk
    (thn (ha.run pos pins s σ H _ I h) fun us s1 ⟨_, H1, I1, r, q⟩ => ⟨I1.kIn, run_g F gd rm hb hd hx I1 r q⟩) h2 h3) h1)⟩
end

/-! ### the law's end -/
/-- the law's promise: True, for a script of at most n ints -/
def spLaw (K : PySem.W.Frag) (n : Nat) : Sp := fun xs H Q _ => ∃ (a : Addr) (ns : List Int), xs = [.ref a] ∧ SqL K H a (ns.map V.int) ∧ ns.length ≤ n ∧ (∀ b, H b = none ∨ ∃ o zs, H b = some (.frz o (.lst zs))) ∧ ∀ H', Q (.bl true) H'
theorem law_g {P : Program} {w : World} {K : PySem.W.Frag} {mg mb : Str → Option Value} {k n : Nat} {fa a : Addr} {fd : FuncData} {x : Str} {t : Shared} {vs : List Value} {ns : List Int}
    (KX : K.In t.heap) (g1 : t.heap.Ns mainGlobals mg) (g2 : t.heap.Ns builtinsNs mb) (g3 : ∀ x : Str, x ≠ "__name__" → mb x = bootBuiltins x) (lim : t.heap.NoLimit) (hg : t.gens = #[])
    (ha : t.heap.get? a = some { cls := .type "list", data := .seq vs.toArray }) (hi : IntsAre vs ns) (hn : n ≤ sizeLine) (hl : ns.length ≤ n) (rm : Room k callerA)
    (F : ∀ base : Heap, K.In base → base.Ns mainGlobals mg → FnG P w K mg base CX0 k fa fd [x] (spLaw K n)) (hb : ∀ (s : Shared) (u : Value), BindsTo s fd ⟨[u], []⟩ [(x, u)]) :
    codeAny (model P w) callerA (.call (.ref fa) ⟨[.ref a], []⟩) (fun r s' => r = .ok (.ret (.bool true)) ∧ OldK t.heap s'.heap ∧ s'.os = t.os ∧ AllBare s'.gens) t := by
  have rv := vals_ints hi
  have hz : ns.length ≤ sizeLine := Nat.le_trans hl hn
  have main : ∀ H : Hp, (∀ b, H b = none ∨ ∃ o zs, H b = some (.frz o (.lst zs))) → SqL K H a (ns.map V.int) → HOk P w H t.heap → (∀ b u, H b = some u → b = a ∧ K.lookup a = none) →
      codeAny (model P w) callerA (.call (.ref fa) ⟨[.ref a], []⟩) (fun r s' => r = .ok (.ret (.bool true)) ∧ OldK t.heap s'.heap ∧ s'.os = t.os ∧ AllBare s'.gens) t := by
    intro H hO hS hok hA
    have dictFree : ∀ {b : Addr} {o : Obj} {es : Array DictEntry} {ep : Nat}, t.heap.get? b = some o → o.data = .dict es ep → H b = none := by
      intro b o es ep e dd
      match z : H b with
      | none => rfl
      | some u =>
        have := (hA b u z).1
        subst this
        rw [ha] at e
        cases e
        cases (show Data.seq vs.toArray _ = Data.dict es ep from dd)
    have ns' : ∀ {b : Addr} {m : Str → Option Value}, t.heap.Ns b m → (hidT t.heap H).Ns b m := by
      rintro b m ⟨o, es, ep, e, dd, r⟩
      exact ⟨o, es, ep, hidT_get e (dictFree e dd), dd, r⟩
    have kb : K.In (hidT t.heap H) := by
      intro b o e
      refine hidT_get (KX b o e) ?_
      match z : H b with
      | none => rfl
      | some u =>
        obtain ⟨e1, e2⟩ := hA b u z
        subst e1
        rw [e2] at e
        cases e
    have hm : Mod K mg (hidT t.heap H) := by
      obtain ⟨mc, l1, l2⟩ := lim
      exact ⟨kb, ns' g1, ⟨mb, ns' g2, g3⟩, ⟨mc, ns' l1, l2⟩⟩
    have e0 : Env0 P w K mg (hidT t.heap H) callerA [] t H :=
      ⟨rfl, hm, fun b o e => of_hidT e, Nat.le_of_eq (hidT_size _ _), trivial, (fun b hb => nomatch (show b ∈ ([] : List Addr) from hb)), hok, .of_eq hg⟩
    refine codeAny_mono ((F _ kb (ns' g1)).go callerA [] t H ⟨[.ref a], []⟩ [.ref a] [.ref a] (fun v _ => v = .bl true) (fun _ _ _ => False) rfl rm e0 (hb t (.ref a)) (.cons rfl .nil) ⟨a, ns, rfl, hS, hl, hO, fun _ => rfl⟩) fun r s' h => ?_
    match r, h with
    | .error e, h => exact (show False from h).elim
    | .ok .next, h => exact (show False from h).elim
    | .ok .brk, h => exact (show False from h).elim
    | .ok .cont, h => exact (show False from h).elim
    | .ok (.ret u), h =>
      obtain ⟨v, H', os, bare, un, hok', r', q⟩ := h
      cases (show v = V.bl true from q)
      cases (show u = Value.bool true from r')
      refine ⟨rfl, OldK.of_keep fun b o e => ?_, os, bare⟩
      rcases hO b with z | ⟨obj, zs, z⟩
      · exact un.keep b o e z (fun y => nomatch (show b ∈ ([] : List Addr) from y)) (fun y => nomatch y)
      · have e1 := (hok b _ z).1
        rw [e] at e1
        cases e1
        exact (hok' b _ (un.frzs b _ _ z)).1
  match hk : K.lookup a with
  | some o =>
    have e := KX a o hk
    rw [ha] at e
    cases e
    exact main (fun _ => none) (fun _ => .inl rfl) (.inr ⟨_, vs.toArray, _, hk, rfl, rfl, rfl, by rw [List.size_toArray, hi.length]; exact hz, by simpa using rv⟩) (fun b u z => nomatch (show (none : Option HO) = some u from z)) (fun b u z => nomatch (show (none : Option HO) = some u from z))
  | none =>
    have key : ∀ b u, (if b = a then some (HO.frz { cls := .type "list", data := .seq vs.toArray } (.lst (ns.map V.int))) else none) = some u → b = a ∧ u = HO.frz { cls := .type "list", data := .seq vs.toArray } (.lst (ns.map V.int)) := by
      intro b u z
      by_cases e : b = a
      · rw [if_pos e] at z
        exact ⟨e, (Option.some.inj z).symm⟩
      · rw [if_neg e] at z
        cases z
    refine main (fun b => if b = a then some (.frz { cls := .type "list", data := .seq vs.toArray } (.lst (ns.map V.int))) else none) (fun b => ?_) (.inl (.inr ⟨_, if_pos rfl⟩)) (fun b u z => ?_) (fun b u z => ⟨(key b u z).1, hk⟩)
    · by_cases e : b = a
      · exact .inr ⟨_, _, if_pos e⟩
      · exact .inl (if_neg e)
    · obtain ⟨e1, e2⟩ := key b u z
      subst e1 e2
      exact ⟨ha, by rw [List.length_map]; exact hz, vs, _, rv, ha⟩
theorem end_g {l : PySem.W.OpenLaw} {n k : Nat} {q : Program} {loose : List Str} {XP : (Str → Option Value) → Heap → Prop} {YP : World → Heap → Prop} {d : DefRec} {K : Params → PySem.W.Frag} {x : Str}
    (hn : l.most = some n) (hn2 : n ≤ sizeLine) (hdf : d.params.defaults = []) (rm : Room k callerA) (hY : ∀ (w : World) (h : Heap), YP w h → (K w.params).In h)
    (F : ∀ (w : World) (mg : Str → Option Value) (fa : Addr) (h : Heap), (K w.params).In h → h.Ns mainGlobals mg → mg d.name = some (.ref fa) →
      ∃ fd : FuncData, (∀ (s : Shared) (u : Value), BindsTo s fd ⟨[u], []⟩ [(x, u)]) ∧
        ∀ base : Heap, (K w.params).In base → base.Ns mainGlobals mg → FnG l.prog w (K w.params) mg base CX0 k fa fd [x] (spLaw (K w.params) n)) :
    PySem.W.WalkO q loose XP YP l.row.toRowW d [] (fun f vs => PySem.call f vs) :=
  Att.attach_call hn hdf fun w _ _ mg _ fa _ _ _ _ _ _ _ G Y _ _ _ hmg hobj hints hlen hg => by
    obtain ⟨fd, hb, hF⟩ := F w mg fa _ (hY w _ Y) G.T.g hmg
    exact law_g (hY w _ Y) G.T.g G.T.b G.T.builtins G.T.nolimit hg hobj hints hn2 hlen rm hF hb
end Dv
set_option maxRecDepth 100000
set_option maxHeartbeats 2000000
/-! Dv2: data at a value, away from a zone of objects that may change; repr, ==, isinstance of data. -/
namespace Dv
open PySem PySem.Spec PyProof.Rows L2
mutual
/-- the value v is the data d in the heap H; none of its objects lies in Z -/
inductive Da (Z : Addr → Prop) (H : Hp) : V → PyData → Prop
  | non : Da Z H .non .none
  | bl (b : Bool) : Da Z H (.bl b) (.bool b)
  | int (i : Int) : Da Z H (.int i) (.int i)
  | str (x : Str) : Da Z H (.str x) (.str x)
  | lst {a : Addr} {xs : List V} {ds : List PyData} : H a = some (.lst xs) → ¬ Z a → Das Z H xs ds → Da Z H (.ref a) (.list ds)
  | tup {a : Addr} {xs : List V} {ds : List PyData} : H a = some (.tup xs) → ¬ Z a → Das Z H xs ds → Da Z H (.ref a) (.tuple ds)
  | dct {a : Addr} {kvs : List (Key × V)} {es : List (PyData × PyData)} : H a = some (.dK kvs) → ¬ Z a → Das Z H (kvs.map fun p => kV p.1) (es.map Prod.fst) → Das Z H (kvs.map Prod.snd) (es.map Prod.snd) → Da Z H (.ref a) (.dict es)
inductive Das (Z : Addr → Prop) (H : Hp) : List V → List PyData → Prop
  | nil : Das Z H [] []
  | cons {v : V} {vs : List V} {d : PyData} {ds : List PyData} : Da Z H v d → Das Z H vs ds → Das Z H (v :: vs) (d :: ds)
end
/-- all that is tracked outside of Z is kept -/
def Kp (Z : Addr → Prop) (H H' : Hp) : Prop := ∀ a o, ¬ Z a → H a = some o → H' a = some o
theorem Kp.refl {Z : Addr → Prop} {H : Hp} : Kp Z H H := fun _ _ _ h => h
theorem Kp.trans {Z : Addr → Prop} {H H1 H2 : Hp} (a : Kp Z H H1) (b : Kp Z H1 H2) : Kp Z H H2 := fun x o n h => b x o n (a x o n h)
theorem Kp.rd {Z : Addr → Prop} {H H' : Hp} (k : Kp Z H H') {a : Addr} {u : HO} (n : ¬ Z a) (r : Rd H a u) : Rd H' a u := by
  rcases r with r | ⟨o, r⟩
  · exact .inl (k a _ n r)
  · exact .inr ⟨o, k a _ n r⟩
theorem Kp.new {Z : Addr → Prop} {H : Hp} {p : Addr} {o : HO} (h : H p = none) : Kp Z H (upd H p o) := fun a u _ e => by
  rw [upd_ne (ne_of_none e h)]
  exact e
section
variable {Z Z' : Addr → Prop} {H H' : Hp}
mutual
theorem Da.mono (k : Kp Z H H') (z : ∀ a, Z' a → Z a ∨ H a = none) : ∀ {v : V} {d : PyData}, Da Z H v d → Da Z' H' v d
  | _, _, .non => .non
  | _, _, .bl b => .bl b
  | _, _, .int i => .int i
  | _, _, .str x => .str x
  | _, _, .lst r n ds => .lst (k _ _ n r) (fun c => (z _ c).elim n fun y => nomatch (r.symm.trans y)) (Das.mono k z ds)
  | _, _, .tup r n ds => .tup (k _ _ n r) (fun c => (z _ c).elim n fun y => nomatch (r.symm.trans y)) (Das.mono k z ds)
  | _, _, .dct r n ks vs => .dct (k _ _ n r) (fun c => (z _ c).elim n fun y => nomatch (r.symm.trans y)) (Das.mono k z ks) (Das.mono k z vs)
theorem Das.mono (k : Kp Z H H') (z : ∀ a, Z' a → Z a ∨ H a = none) : ∀ {vs : List V} {ds : List PyData}, Das Z H vs ds → Das Z' H' vs ds
  | _, _, .nil => .nil
  | _, _, .cons d ds => .cons (Da.mono k z d) (Das.mono k z ds)
end
theorem Da.kp (k : Kp Z H H') {v : V} {d : PyData} (h : Da Z H v d) : Da Z H' v d := h.mono k fun _ c => .inl c
theorem Das.kp (k : Kp Z H H') {v : List V} {d : List PyData} (h : Das Z H v d) : Das Z H' v d := h.mono k fun _ c => .inl c
theorem Das.length : ∀ {vs : List V} {ds : List PyData}, Das Z H vs ds → vs.length = ds.length
  | _, _, .nil => rfl
  | _, _, .cons _ t => congrArg Nat.succ t.length
theorem Das.append : ∀ {vs ws : List V} {ds es : List PyData}, Das Z H vs ds → Das Z H ws es → Das Z H (vs ++ ws) (ds ++ es)
  | _, _, _, _, .nil, s => s
  | _, _, _, _, .cons d t, s => .cons d (t.append s)
theorem Das.get : ∀ {vs : List V} {ds : List PyData} {i : Nat} {d : PyData}, Das Z H vs ds → ds[i]? = some d → ∃ v, vs[i]? = some v ∧ Da Z H v d
  | _, _, _, _, .nil, e => by simp at e
  | _, _, 0, _, .cons h _, e => by
    simp at e
    subst e
    exact ⟨_, rfl, h⟩
  | _, _, i + 1, _, .cons _ t, e => by
    obtain ⟨v, h1, h2⟩ := t.get (i := i) (by simpa using e)
    exact ⟨v, by simpa using h1, h2⟩
theorem Das.getV : ∀ {vs : List V} {ds : List PyData} {i : Nat} {v : V}, Das Z H vs ds → vs[i]? = some v → ∃ d, ds[i]? = some d ∧ Da Z H v d
  | _, _, _, _, .nil, e => by simp at e
  | _, _, 0, _, .cons h _, e => by
    simp at e
    subst e
    exact ⟨_, rfl, h⟩
  | _, _, i + 1, _, .cons _ t, e => by
    obtain ⟨v, h1, h2⟩ := t.getV (i := i) (by simpa using e)
    exact ⟨v, by simpa using h1, h2⟩
theorem Das.take : ∀ {vs : List V} {ds : List PyData} (n : Nat), Das Z H vs ds → Das Z H (vs.take n) (ds.take n)
  | _, _, 0, _ => .nil
  | _, _, _ + 1, .nil => .nil
  | _, _, n + 1, .cons d t => .cons d (t.take n)
theorem Das.drop : ∀ {vs : List V} {ds : List PyData} (n : Nat), Das Z H vs ds → Das Z H (vs.drop n) (ds.drop n)
  | _, _, 0, r => r
  | _, _, _ + 1, .nil => .nil
  | _, _, n + 1, .cons _ t => t.drop n
theorem Das.ints : ∀ {vs : List V} {ns : List Int}, Das Z H vs (ns.map PyData.int) → vs = ns.map V.int
  | _, [], h => by cases h; rfl
  | _, n :: ns, h => by
    cases h with
    | cons a b =>
      cases a
      rw [Das.ints b]
      rfl
theorem Das.strs : ∀ {vs : List V} {ns : List Str}, Das Z H vs (ns.map PyData.str) → vs = ns.map V.str
  | _, [], h => by cases h; rfl
  | _, n :: ns, h => by
    cases h with
    | cons a b =>
      cases a
      rw [Das.strs b]
      rfl
theorem Das.bls : ∀ {vs : List V} {ns : List Bool}, Das Z H vs (ns.map PyData.bool) → vs = ns.map V.bl
  | _, [], h => by cases h; rfl
  | _, n :: ns, h => by
    cases h with
    | cons a b =>
      cases a
      rw [Das.bls b]
      rfl
end

/-! ### what a reader finds -/
section
variable {X : Cx} {pins : List (Addr × Obj)} {σ : L2.St} {H : Hp} {s : Shared} {Z : Addr → Prop}
theorem dk_keys : ∀ {es : List DictEntry} {kvs : List (Key × V)} {vs : List (Key × Value)}, Pairs (mixKind X.prog X.w) es vs → KV kvs vs →
    Vals (kvs.map fun p => kV p.1) (es.map (·.key)) ∧ Vals (kvs.map Prod.snd) (es.map (·.val))
  | _, _, _, .nil, .nil => ⟨.nil, .nil⟩
  | _, _, _, .cons h1 h2 t, .cons r u => by
    obtain ⟨q1, q2⟩ := dk_keys t u
    obtain ⟨r1, r2⟩ := r
    refine ⟨.cons ?_ q1, .cons ?_ q2⟩
    · dsimp only
      rw [r1]
      rcases keyIs_shape h1 with ⟨i, t, e1, e2⟩ | ⟨x, t, e1, e2⟩
      · rw [e1, e2]
        exact ⟨t, rfl⟩
      · rw [e1, e2]
        exact ⟨t, rfl⟩
    · dsimp only
      rw [h2]
      exact r2
mutual
theorem Da.reads (I : Inv X pins σ H s) : ∀ {v : V} {d : PyData} {u : Value}, Da Z H v d → RelV v u → ∃ as, Reads s.heap u d as
  | _, _, _, .non, r => by
    cases r
    exact ⟨_, .none⟩
  | _, _, _, .bl b, r => by
    cases r
    exact ⟨_, .bool b⟩
  | _, _, _, .int i, r => by
    obtain ⟨t, rfl⟩ := r
    exact ⟨_, .int i t⟩
  | _, _, _, .str x, r => by
    obtain ⟨t, rfl⟩ := r
    exact ⟨_, .str x t⟩
  | _, _, _, .lst h _ ds, r => by
    cases r
    obtain ⟨its, rv, ⟨o, n, ho, hc, _, hd⟩, _⟩ := I.list (.inl (.inl h))
    obtain ⟨as, q⟩ := Das.reads I ds rv
    exact ⟨_, .list ho hc hd q⟩
  | _, _, _, .tup h _ ds, r => by
    cases r
    obtain ⟨its, rv, ⟨o, ho, hc, n, hd⟩, _⟩ := I.tuple (.inl (.inl h))
    obtain ⟨as, q⟩ := Das.reads I ds rv
    exact ⟨_, .tuple ho hc hd q⟩
  | _, _, _, .dct h _ ks vs, r => by
    cases r
    obtain ⟨_, _, ws, rv, o, es, ep, ho, hx, hd, _, hp, _⟩ := I.hok _ _ h
    obtain ⟨q1, q2⟩ := dk_keys hp rv
    obtain ⟨as, z1⟩ := Das.reads I ks q1
    obtain ⟨bs, z2⟩ := Das.reads I vs q2
    exact ⟨_, .dict ho hx.1 hd z1 z2⟩
theorem Das.reads (I : Inv X pins σ H s) : ∀ {vs : List V} {ds : List PyData} {us : List Value}, Das Z H vs ds → Vals vs us → ∃ as, ReadsAll s.heap us ds as
  | _, _, _, .nil, r => by
    cases r
    exact ⟨_, .nil⟩
  | _, _, _, .cons d ds, r => by
    cases r with
    | cons r1 r2 =>
      obtain ⟨as, q1⟩ := Da.reads I d r1
      obtain ⟨bs, q2⟩ := Das.reads I ds r2
      exact ⟨_, .cons q1 q2⟩
end
theorem Da.dp {K : PySem.W.Frag} : ∀ {d : PyData} {v : V}, d.hasDict = false → Da Z H v d → Dp K H v d := by
  intro d v
  refine fun hd h => (Da.rec (Z := Z) (H := H) (motive_1 := fun v d _ => d.hasDict = false → Dp K H v d) (motive_2 := fun vs ds _ => PyData.hasDictAll ds = false → DpAll K H vs ds)
    (fun _ => .non) (fun b _ => .bl b) (fun i _ => .int i) (fun x _ => .str x) (fun r _ _ ih hd => .lst (.inl (.inl r)) (ih (by simpa [PyData.hasDict] using hd))) (fun r _ _ ih hd => .tup (.inl (.inl r)) (ih (by simpa [PyData.hasDict] using hd)))
    (fun _ _ _ _ _ _ hd => by simp [PyData.hasDict] at hd) (fun _ => .nil) (fun _ _ i1 i2 hd => ?_) h) hd
  simp only [PyData.hasDictAll, Bool.or_eq_false_iff] at hd
  exact .cons (i1 hd.1) (i2 hd.2)

/-! ### repr -/
mutual
theorem Da.shows (I : Inv X pins σ H s) : ∀ {v : V} {d : PyData} {u : Value}, Da Z H v d → RelV v u → d.showable = true → d.shown.length ≤ sizeLine →
    ∃ bs, ReadAtMost s.heap d.depth bs ∧ ReprK X.prog X.w bs s.heap d.depth u d.shown
  | _, _, _, .non, r, _, _ => by
    cases r
    refine ⟨[], (fun _ h => nomatch h), ?_⟩
    simp only [PyData.shown]
    exact .of_is ReprIs.none _ _ _
  | _, _, _, .bl b, r, _, _ => by
    cases r
    refine ⟨[], (fun _ h => nomatch h), ?_⟩
    simp only [PyData.shown]
    exact .of_is (ReprIs.bool b) _ _ _
  | _, _, _, .int i, r, hs, _ => by
    obtain ⟨t, rfl⟩ := r
    refine ⟨[], (fun _ h => nomatch h), ?_⟩
    simp only [PyData.shown]
    exact .of_is (ReprIs.int t (by simpa [PyData.showable] using hs)) _ _ _
  | _, _, _, .str x, r, _, hz => by
    obtain ⟨t, rfl⟩ := r
    refine ⟨[], (fun _ h => nomatch h), ?_⟩
    simp only [PyData.shown] at hz ⊢
    exact .of_is (ReprIs.str x t hz) _ _ _
  | _, _, _, .lst (ds := xs) h n ds, r, hs, hz => by
    have rd := Da.reads I (.lst h n ds) r
    cases r
    obtain ⟨as, rd⟩ := rd
    obtain ⟨its, rv, ⟨o, m, ho, hc, _, hd⟩, _⟩ := I.list (.inl (.inl h))
    have hz' : (listText (PyData.shownAll xs)).length ≤ sizeLine := by simpa only [PyData.shown] using hz
    obtain ⟨bs, hb, hk⟩ := Das.shows I ds rv (by simpa [PyData.showable] using hs) (fun t ht => Nat.le_trans (listText_mem_le ht) hz')
    have hna := not_mem_of_deeper (n := PyData.depthAll xs) rd (by simp only [PyData.depth]; omega) hb
    refine ⟨_, ReadAtMost.cons rd (by simp only [PyData.depth]; omega) hb, ?_⟩
    simp only [PyData.depth, PyData.shown]
    cases its with
    | nil =>
      cases rv
      cases ds
      simp only [PyData.shownAll, listText_nil]
      exact ReprK.listEmpty ho hc hd
    | cons y l => exact ReprK.list ho hc hd hna (by simpa using hk.length_eq) (fun i z e => hk.item i z (by simpa using e))
  | _, _, _, .tup (ds := xs) h n ds, r, hs, hz => by
    have rd := Da.reads I (.tup h n ds) r
    cases r
    obtain ⟨as, rd⟩ := rd
    obtain ⟨its, rv, ⟨o, ho, hc, m, hd⟩, _⟩ := I.tuple (.inl (.inl h))
    have hz' : (tupleText (PyData.shownAll xs)).length ≤ sizeLine := by simpa only [PyData.shown] using hz
    obtain ⟨bs, hb, hk⟩ := Das.shows I ds rv (by simpa [PyData.showable] using hs) (fun t ht => Nat.le_trans (tupleText_mem_le ht) hz')
    have hna := not_mem_of_deeper (n := PyData.depthAll xs) rd (by simp only [PyData.depth]; omega) hb
    refine ⟨_, ReadAtMost.cons rd (by simp only [PyData.depth]; omega) hb, ?_⟩
    simp only [PyData.depth, PyData.shown]
    exact ReprK.tuple ho hc hd hna (by simpa using hk)
  | _, _, _, .dct (es := kvs) h n ks vs, r, hs, hz => by
    have rd := Da.reads I (.dct h n ks vs) r
    cases r
    obtain ⟨as, rd⟩ := rd
    obtain ⟨_, hsys, ws, rv, o, es, ep, ho, hx, hd, _, hp, _⟩ := I.hok _ _ h
    obtain ⟨q1, q2⟩ := dk_keys hp rv
    have hz' : (dictText (PyData.shownKv kvs)).length ≤ sizeLine := by simpa only [PyData.shown] using hz
    obtain ⟨hs1, hs2⟩ := PyData.showableKv_split kvs (by simpa [PyData.showable] using hs)
    obtain ⟨b1, hb1, k1⟩ := Das.shows I ks q1 hs1 (fun t ht => by
      obtain ⟨p, hp, hl⟩ := PyData.shownKv_key_le kvs t ht
      exact Nat.le_trans hl (Nat.le_trans (dictText_mem_le hp) hz'))
    obtain ⟨b2, hb2, k2⟩ := Das.shows I vs q2 hs2 (fun t ht => by
      obtain ⟨p, hp, hl⟩ := PyData.shownKv_val_le kvs t ht
      exact Nat.le_trans hl (Nat.le_trans (dictText_mem_le hp) hz'))
    have hb : ReadAtMost s.heap (PyData.depthKv kvs) (b1 ++ b2) := (hb1.mono (PyData.depthAll_keys_le kvs)).append (hb2.mono (PyData.depthAll_vals_le kvs))
    have hna := not_mem_of_deeper (n := PyData.depthKv kvs) rd (by simp only [PyData.depth]; omega) hb
    refine ⟨_, ReadAtMost.cons rd (by simp only [PyData.depth]; omega) hb, ?_⟩
    simp only [PyData.depth, PyData.shown, PyData.shownKv_eq]
    exact ReprK.dict ho hx.1 hd hsys hna (ReprEntriesK.of_two es.toList _ _ (k1.more_le (fun b m => List.mem_append_left _ m) (PyData.depthAll_keys_le kvs)) (k2.more_le (fun b m => List.mem_append_right _ m) (PyData.depthAll_vals_le kvs)))
theorem Das.shows (I : Inv X pins σ H s) : ∀ {vs : List V} {ds : List PyData} {us : List Value}, Das Z H vs ds → Vals vs us → PyData.showableAll ds = true → (∀ t ∈ PyData.shownAll ds, t.length ≤ sizeLine) →
    ∃ bs, ReadAtMost s.heap (PyData.depthAll ds) bs ∧ ReprAllK X.prog X.w bs s.heap (PyData.depthAll ds) us (PyData.shownAll ds)
  | _, _, _, .nil, r, _, _ => by
    cases r
    refine ⟨[], (fun _ h => nomatch h), ?_⟩
    simp only [PyData.shownAll]
    exact .nil
  | _, _, _, .cons (d := d) (ds := es) h hs', r, hs, hz => by
    cases r with
    | cons r1 r2 =>
      have sp : d.showable = true ∧ PyData.showableAll es = true := by simpa [PyData.showableAll] using hs
      obtain ⟨b1, hb1, k1⟩ := Da.shows I h r1 sp.1 (hz _ (by simp only [PyData.shownAll]; exact List.mem_cons_self))
      obtain ⟨b2, hb2, k2⟩ := Das.shows I hs' r2 sp.2 (fun t ht => hz t (by simp only [PyData.shownAll]; exact List.mem_cons_of_mem _ ht))
      refine ⟨b1 ++ b2, fun b m => ?_, ?_⟩
      · simp only [PyData.depthAll]
        rcases List.mem_append.mp m with m | m
        · obtain ⟨e, as, q, l⟩ := hb1 b m
          exact ⟨e, as, q, Nat.le_trans l (Nat.le_max_left _ _)⟩
        · obtain ⟨e, as, q, l⟩ := hb2 b m
          exact ⟨e, as, q, Nat.le_trans l (Nat.le_max_right _ _)⟩
      · simp only [PyData.depthAll, PyData.shownAll]
        exact .cons ((k1.more fun b m => List.mem_append_left _ m).level_le (Nat.le_max_left _ _)) (k2.more_le (fun b m => List.mem_append_right _ m) (Nat.le_max_right _ _))
end

/-- repr(x) of data -/
def rRepr : List V → Hp → VK → Prop := fun xs H Q => ∃ (Z : Addr → Prop) (v : V) (d : PyData), xs = [v] ∧ Da Z H v d ∧ d.showable = true ∧ d.shown.length ≤ sizeLine ∧ d.depth ≤ 60 ∧ Q (.str d.shown) H
theorem call_repr (gd : X.A.guards = some []) (hu : X.A.units + 64 < cLine) : CallR X (.builtin "repr") rRepr := by
  intro pins s σ H xs us Q I r h
  obtain ⟨Z, v, d, rfl, hd, hs, hz, hdp, q⟩ := h
  obtain ⟨u, rfl, ru⟩ : ∃ u, us = [u] ∧ RelV v u := by
    cases r with
    | cons a b =>
      cases b
      exact ⟨_, rfl, a⟩
  have fin : ∀ (h' : Heap) (t : Tok) (tk : Nat), (∀ b o, s.heap.get? b = some o → h'.get? b = some o) → EP X pins σ Q (.str d.shown t) { s with heap := h', toks := tk } :=
    fun h' t tk k => ⟨.str d.shown, H, I.kept k, ⟨t, rfl⟩, q⟩
  have same : ∀ (t : Tok) (tk : Nat), EP X pins σ Q (.str d.shown t) { s with toks := tk } := fun t tk => fin s.heap t tk fun _ _ e => e
  have g2 : X.A.in1.guards = some [] := gd
  cases hd with
  | non =>
    cases ru
    simp only [PyData.shown] at same
    exact PySem.P.repr_of_none (same _ _)
  | bl b =>
    cases ru
    simp only [PyData.shown] at same
    exact PySem.P.repr_of_bool (same _ _)
  | int i =>
    obtain ⟨t, rfl⟩ := ru
    simp only [PyData.shown] at same
    exact PySem.P.repr_of_int (by simpa [PyData.showable] using hs) (same _ _)
  | str x =>
    obtain ⟨t, rfl⟩ := ru
    simp only [PyData.shown] at same hz
    exact PySem.P.repr_of_str (same _ _) hz
  | lst h n ds =>
    rename_i a ys es
    have rd := Da.reads I (.lst h n ds) ru
    cases ru
    obtain ⟨as, rd⟩ := rd
    obtain ⟨its, rv, ⟨o, m, ho, hc, _, hdt⟩, _⟩ := I.list (.inl (.inl h))
    have hz' : (listText (PyData.shownAll es)).length ≤ sizeLine := by simpa only [PyData.shown] using hz
    obtain ⟨bs, hb, hk⟩ := Das.shows I ds rv (by simpa [PyData.showable] using hs) (fun t ht => Nat.le_trans (listText_mem_le ht) hz')
    have hna := not_mem_of_deeper (n := PyData.depthAll es) rd (by simp only [PyData.depth]; omega) hb
    simp only [PyData.shown] at fin
    simp only [PyData.depth] at hdp
    refine call_repr_slot (by omega) ⟨o, ho, hc⟩ PySem.F.slot_list_repr.toG ?_
    cases its with
    | nil =>
      cases rv
      cases ds
      simp only [PyData.shownAll, listText_nil] at fin
      exact call_list_repr_empty ⟨o, ho, hc⟩ ho hdt ⟨_, _, rfl, fin s.heap _ _ fun _ _ e => e⟩
    | cons y l =>
      exact call_list_reprK ho hc hdt hna (by simpa using hk.length_eq) (fun i z e => hk.item i z (by simpa using e)) g2 (fun b _ => Clear.nil b) (by show X.A.units + 1 + (PyData.depthAll es + 1) < cLine; omega) (fun _ _ e => e) (fun h' u tk k => ⟨_, _, rfl, fin h' u tk k⟩) hz'
  | tup h n ds =>
    rename_i a ys es
    have rd := Da.reads I (.tup h n ds) ru
    cases ru
    obtain ⟨as, rd⟩ := rd
    obtain ⟨its, rv, ⟨o, ho, hc, m, hdt⟩, _⟩ := I.tuple (.inl (.inl h))
    have hz' : (tupleText (PyData.shownAll es)).length ≤ sizeLine := by simpa only [PyData.shown] using hz
    obtain ⟨bs, hb, hk⟩ := Das.shows I ds rv (by simpa [PyData.showable] using hs) (fun t ht => Nat.le_trans (tupleText_mem_le ht) hz')
    have hna := not_mem_of_deeper (n := PyData.depthAll es) rd (by simp only [PyData.depth]; omega) hb
    simp only [PyData.shown] at fin
    simp only [PyData.depth] at hdp
    refine call_repr_slot (by omega) ⟨o, ho, hc⟩ PySem.F.slot_tuple_repr ?_
    exact call_tuple_reprK ho hc hdt hna (by simpa using hk) g2 (fun b _ => Clear.nil b) (by show X.A.units + 1 + (PyData.depthAll es + 1) < cLine; omega) (fun _ _ e => e) (fun h' u tk k => ⟨_, _, rfl, fin h' u tk k⟩) hz'
  | dct h n ks vs =>
    rename_i a ys kvs
    have rd := Da.reads I (.dct h n ks vs) ru
    cases ru
    obtain ⟨as, rd⟩ := rd
    obtain ⟨_, hsys, ws, rv, o, es, ep, ho, hx, hdt, _, hp, _⟩ := I.hok _ _ h
    obtain ⟨q1, q2⟩ := dk_keys hp rv
    have hz' : (dictText (PyData.shownKv kvs)).length ≤ sizeLine := by simpa only [PyData.shown] using hz
    obtain ⟨hs1, hs2⟩ := PyData.showableKv_split kvs (by simpa [PyData.showable] using hs)
    obtain ⟨b1, hb1, k1⟩ := Das.shows I ks q1 hs1 (fun t ht => by
      obtain ⟨p, hp, hl⟩ := PyData.shownKv_key_le kvs t ht
      exact Nat.le_trans hl (Nat.le_trans (dictText_mem_le hp) hz'))
    obtain ⟨b2, hb2, k2⟩ := Das.shows I vs q2 hs2 (fun t ht => by
      obtain ⟨p, hp, hl⟩ := PyData.shownKv_val_le kvs t ht
      exact Nat.le_trans hl (Nat.le_trans (dictText_mem_le hp) hz'))
    have hb : ReadAtMost s.heap (PyData.depthKv kvs) (b1 ++ b2) := (hb1.mono (PyData.depthAll_keys_le kvs)).append (hb2.mono (PyData.depthAll_vals_le kvs))
    have hna := not_mem_of_deeper (n := PyData.depthKv kvs) rd (by simp only [PyData.depth]; omega) hb
    simp only [PyData.shown, PyData.shownKv_eq] at fin
    simp only [PyData.depth] at hdp
    refine call_repr_slot (by omega) ⟨o, ho, hx.1⟩ PySem.F.slot_dict_repr ?_
    exact call_dict_reprK ho hx.1 hdt hsys hna (ReprEntriesK.of_two es.toList _ _ (k1.more_le (fun b m => List.mem_append_left _ m) (PyData.depthAll_keys_le kvs)) (k2.more_le (fun b m => List.mem_append_right _ m) (PyData.depthAll_vals_le kvs)))
      g2 (fun b _ => Clear.nil b) (by show X.A.units + 1 + (PyData.depthKv kvs + 1) < cLine; omega) (fun _ _ e => e) (fun h' u tk k => ⟨_, _, rfl, fin h' u tk k⟩) (by rw [← PyData.shownKv_eq]; exact hz')
end
end Dv
set_option maxRecDepth 100000
set_option maxHeartbeats 2000000
/-! Dv3: a logic of data: what an expression is worth (DE), a test (DT), arguments (DA), what statements lead to (HS), over slots that hold data. -/
namespace Dv
open PySem PySem.Spec PyProof.Rows L2

/-! ### worlds -/
/-- J lives on Z alone, and grows with its number -/
structure Wok (Z : Addr → Prop) (J : Nat → Hp → Prop) : Prop where
  alive : ∀ n H a, J n H → Z a → H a ≠ none
  loc : ∀ n H H', J n H → (∀ a, Z a → H' a = H a) → J n H'
  up : ∀ n m H, J n H → n ≤ m → J m H
/-- the caller's zone and what holds of it (by the number of draws); one's own objects that may change, each with what holds of it; the heap at the entry -/
structure Wd where
  Zb : Addr → Prop
  Jb : Nat → Hp → Prop
  H0 : Hp
  pins : List (Addr × (Nat → HO → Prop))
def Wd.Z (W : Wd) (a : Addr) : Prop := W.Zb a ∨ ∃ q ∈ W.pins, q.1 = a
def Wd.J (W : Wd) (n : Nat) (H : Hp) : Prop := W.Jb n H ∧ ∀ q ∈ W.pins, ∃ o, H q.1 = some o ∧ ∃ m, m ≤ n ∧ q.2 m o
theorem wok {W : Wd} (w : Wok W.Zb W.Jb) : Wok W.Z W.J := by
  refine ⟨fun n H a j z => ?_, fun n H H' j e => ⟨w.loc n H H' j.1 fun a z => e a (.inl z), fun q m => ?_⟩, fun n m H j l => ⟨w.up n m H j.1 l, fun q hq => ?_⟩⟩
  · rcases z with z | ⟨q, m, rfl⟩
    · exact w.alive n H a j.1 z
    · obtain ⟨o, h, _⟩ := j.2 q m
      rw [h]
      intro c
      cases c
  · obtain ⟨o, h, p⟩ := j.2 q m
    exact ⟨o, (e _ (.inr ⟨q, m, rfl⟩)).trans h, p⟩
  · obtain ⟨o, h, k, l', p⟩ := j.2 q hq
    exact ⟨o, h, k, Nat.le_trans l' l, p⟩
/-- all that is tracked is kept -/
def Ext (H H' : Hp) : Prop := ∀ a o, H a = some o → H' a = some o
theorem Ext.refl {H : Hp} : Ext H H := fun _ _ h => h
theorem Ext.trans {H H1 H2 : Hp} (a : Ext H H1) (b : Ext H1 H2) : Ext H H2 := fun x o h => b x o (a x o h)
theorem Ext.kp {Z : Addr → Prop} {H H' : Hp} (e : Ext H H') : Kp Z H H' := fun a o _ h => e a o h
theorem Ext.new {H : Hp} {p : Addr} {o : HO} (h : H p = none) : Ext H (upd H p o) := fun a u e => by
  rw [upd_ne (ne_of_none e h)]
  exact e
theorem Wok.ext {Z : Addr → Prop} {J : Nat → Hp → Prop} {n : Nat} {H H' : Hp} (w : Wok Z J) (j : J n H) (e : Ext H H') : J n H' :=
  w.loc n H H' j fun a z => by
    match q : H a with
    | none => exact absurd q (w.alive n H a j z)
    | some o => exact e a o q
theorem Wok.new {Z : Addr → Prop} {J : Nat → Hp → Prop} {n : Nat} {H : Hp} {p : Addr} (w : Wok Z J) (j : J n H) (h : H p = none) : ¬ Z p := fun z => w.alive n H p j z h
theorem Wok.none : Wok (fun _ => False) (fun _ _ => True) := ⟨fun _ _ _ _ h => h.elim, fun _ _ _ _ _ => trivial, fun _ _ _ _ _ => trivial⟩

/-- an assertion of a value that lasts while all outside of Z is kept -/
structure As (Z : Addr → Prop) where
  ok : Hp → V → Prop
  mono : ∀ {H H' : Hp} {v : V}, Kp Z H H' → ok H v → ok H' v
/-- data with P -/
def dat (Z : Addr → Prop) (P : PyData → Prop) : As Z := ⟨fun H v => ∃ d, Da Z H v d ∧ P d, fun k ⟨d, h, p⟩ => ⟨d, h.kp k, p⟩⟩
abbrev eqd (Z : Addr → Prop) (d : PyData) : As Z := dat Z (· = d)
/-- the very value -/
def raw (Z : Addr → Prop) (v : V) : As Z := ⟨fun _ u => u = v, fun _ h => h⟩
theorem eqd_ok {Z : Addr → Prop} {H : Hp} {v : V} {d : PyData} (h : (eqd Z d).ok H v) : Da Z H v d := by
  obtain ⟨_, h, rfl⟩ := h
  exact h
theorem ok_eqd {Z : Addr → Prop} {H : Hp} {v : V} {d : PyData} (h : Da Z H v d) : (eqd Z d).ok H v := ⟨d, h, rfl⟩
def Allo {Z : Addr → Prop} (H : Hp) (L : List (As Z)) (vs : List V) : Prop := Paired (fun A v => A.ok H v) L vs

/-! ### slots -/
/-- what may be said of a value and stays, as long as nothing outside of the zone changes -/
structure Fam where
  ok : (Addr → Prop) → Hp → V → Prop
  mono : ∀ {Z Z' : Addr → Prop} {H H' : Hp} {v : V}, Kp Z H H' → (∀ a, Z' a → Z a ∨ H a = none) → ok Z H v → ok Z' H' v
inductive Sl where
  | no | val (d : PyData) | is (v : V) | own (p : Addr) (vs : List V) (ds : List PyData) | sat (F : Fam)
/-- nothing is known; data; a known value; a list of one's own at p, pinned in the world with the items vs, that are the data ds -/
def SlOk (Z : Addr → Prop) (H : Hp) : Sl → Option V → Prop
  | .no, _ => True
  | .val d, o => ∃ v, o = some v ∧ Da Z H v d
  | .is v, o => o = some v
  | .own p vs ds, o => o = some (.ref p) ∧ Das Z H vs ds
  | .sat F, o => ∃ v, o = some v ∧ F.ok Z H v
theorem SlOk.mono {Z Z' : Addr → Prop} {H H' : Hp} (k : Kp Z H H') (z : ∀ a, Z' a → Z a ∨ H a = none) : ∀ {s : Sl} {o : Option V}, SlOk Z H s o → SlOk Z' H' s o
  | .no, _, _ => trivial
  | .val _, _, ⟨v, e, h⟩ => ⟨v, e, h.mono k z⟩
  | .is _, _, h => h
  | .own _ _ _, _, ⟨e, h⟩ => ⟨e, h.mono k z⟩
  | .sat F, _, ⟨v, e, h⟩ => ⟨v, e, F.mono k z h⟩
/-- the state: slots Δ in the world W, at most n draws taken -/
structure Ok (W : Wd) (n : Nat) (Δ : List Sl) (σ : L2.St) (H : Hp) : Prop where
  wb : Wok W.Zb W.Jb
  j : W.J n H
  sl : Paired (SlOk W.Z H) Δ σ
  kept : Kp W.Zb W.H0 H
  nd : (W.pins.map (·.1)).Nodup
  fr : ∀ q ∈ W.pins, ¬ W.Zb q.1 ∧ W.H0 q.1 = none
theorem Ok.w {W : Wd} {n : Nat} {Δ : List Sl} {σ : L2.St} {H : Hp} (k : Ok W n Δ σ H) : Wok W.Z W.J := wok k.wb
theorem Ok.up {W : Wd} {n m : Nat} {Δ : List Sl} {σ : L2.St} {H : Hp} (k : Ok W n Δ σ H) (l : n ≤ m) : Ok W m Δ σ H := ⟨k.wb, k.w.up n m H k.j l, k.sl, k.kept, k.nd, k.fr⟩
/-- more draws than any law takes -/
def BIG : Nat := 1000000000
theorem pmono {α β : Type} {F G : α → β → Prop} (f : ∀ a b, F a b → G a b) : ∀ {l : List α} {m : List β}, Paired F l m → Paired G l m
  | _, _, .nil => .nil
  | _, _, .cons r t => .cons (f _ _ r) (pmono f t)
theorem pset {α β : Type} {F : α → β → Prop} {x : α} {y : β} (r : F x y) : ∀ {l : List α} {m : List β} (i : Nat), Paired F l m → Paired F (l.set i x) (m.set i y)
  | _, _, _, .nil => .nil
  | _, _, 0, .cons _ t => .cons r t
  | _, _, i + 1, .cons q t => .cons q (pset r i t)
theorem pget {α β : Type} {F : α → β → Prop} : ∀ {l : List α} {m : List β} {i : Nat} {x : α}, Paired F l m → l[i]? = some x → ∃ y, m[i]? = some y ∧ F x y
  | _, _, _, _, .nil, e => by simp at e
  | _, _, 0, _, .cons r _, e => by
    simp at e
    subst e
    exact ⟨_, rfl, r⟩
  | _, _, i + 1, _, .cons _ t, e => by
    obtain ⟨y, h1, h2⟩ := pget (i := i) t (by simpa using e)
    exact ⟨y, by simpa using h1, h2⟩
section
variable {W : Wd} {n : Nat} {Δ : List Sl} {σ : L2.St} {H H' : Hp}
theorem kp0 (k : Ok W n Δ σ H) (e : Kp W.Z H H') : Kp W.Zb W.H0 H' := fun a o n h => by
  refine e a o (fun z => ?_) (k.kept a o n h)
  rcases z with z | ⟨q, m, rfl⟩
  · exact n z
  · rw [(k.fr q m).2] at h
    cases h
theorem Ok.kp {m : Nat} (k : Ok W n Δ σ H) (e : Kp W.Z H H') (j : W.J m H') : Ok W m Δ σ H' :=
  ⟨k.wb, j, pmono (fun _ _ => SlOk.mono e fun _ c => .inl c) k.sl, kp0 k e, k.nd, k.fr⟩
theorem Ok.ext (k : Ok W n Δ σ H) (e : Ext H H') : Ok W n Δ σ H' := k.kp e.kp (k.w.ext k.j e)
theorem Ok.put (k : Ok W n Δ σ H) (i : Nat) {s : Sl} {v : V} (h : SlOk W.Z H s (some v)) : Ok W n (Δ.set i s) (σ.set i (some v)) H :=
  ⟨k.wb, k.j, pset h i k.sl, k.kept, k.nd, k.fr⟩
theorem Ok.val {i : Nat} {d : PyData} (k : Ok W n Δ σ H) (h : Δ[i]? = some (.val d)) : ∃ v, σ[i]? = some (some v) ∧ Da W.Z H v d := by
  obtain ⟨o, h1, v, rfl, h2⟩ := pget k.sl h
  exact ⟨v, h1, h2⟩
theorem Ok.is {i : Nat} {v : V} (k : Ok W n Δ σ H) (h : Δ[i]? = some (.is v)) : σ[i]? = some (some v) := by
  obtain ⟨o, h1, h2⟩ := pget k.sl h
  rw [h1]
  exact congrArg some h2
theorem Ok.own {i : Nat} {p : Addr} {vs : List V} {ds : List PyData} (k : Ok W n Δ σ H) (h : Δ[i]? = some (.own p vs ds)) : σ[i]? = some (some (.ref p)) ∧ Das W.Z H vs ds := by
  obtain ⟨o, h1, h2, h3⟩ := pget k.sl h
  rw [h1]
  exact ⟨congrArg some h2, h3⟩
/-- forgetting -/
inductive Less : List Sl → List Sl → Prop
  | nil : Less [] []
  | same {s : Sl} {l m : List Sl} : Less l m → Less (s :: l) (s :: m)
  | no {s : Sl} {l m : List Sl} : Less l m → Less (.no :: l) (s :: m)
theorem Less.sl {Z : Addr → Prop} : ∀ {l m : List Sl} {σ : L2.St}, Less l m → Paired (SlOk Z H) m σ → Paired (SlOk Z H) l σ
  | _, _, _, .nil, .nil => .nil
  | _, _, _, .same t, .cons r u => .cons r (t.sl u)
  | _, _, _, .no t, .cons _ u => .cons trivial (t.sl u)
theorem Ok.less {Γ : List Sl} (k : Ok W n Δ σ H) (l : Less Γ Δ) : Ok W n Γ σ H := ⟨k.wb, k.j, l.sl k.sl, k.kept, k.nd, k.fr⟩
end

/-! ### expressions: with at most c draws -/
def tD (W : Wd) (Δ : List Sl) (c : Nat) (A : As W.Z) : TE := fun σ H Q => ∃ n, n + c ≤ BIG ∧ Ok W n Δ σ H ∧ ∀ v H', Ok W (n + c) Δ σ H' → Kp W.Z H H' → A.ok H' v → Q v H'
def tDT (W : Wd) (Δ : List Sl) (c : Nat) (P : Bool → Prop) : TT := fun σ H Q => ∃ n, n + c ≤ BIG ∧ Ok W n Δ σ H ∧ ∀ b H', Ok W (n + c) Δ σ H' → Kp W.Z H H' → P b → Q b H'
def tDA (W : Wd) (Δ : List Sl) (c : Nat) (L : List (As W.Z)) : TA := fun σ H Q => ∃ n, n + c ≤ BIG ∧ Ok W n Δ σ H ∧ ∀ vs H', Ok W (n + c) Δ σ H' → Kp W.Z H H' → Allo H' L vs → Q vs H'
abbrev DE (X : Cx) (W : Wd) (Δ : List Sl) (c : Nat) (e : Expr) (A : As W.Z) : Prop := PE X e (tD W Δ c A)
abbrev DT (X : Cx) (W : Wd) (Δ : List Sl) (c : Nat) (e : Expr) (P : Bool → Prop) : Prop := PT X e (tDT W Δ c P)
abbrev DW (X : Cx) (W : Wd) (Δ : List Sl) (c : Nat) (e : Expr) (P : Bool → Prop) : Prop := PW X e (tDT W Δ c P)
abbrev DA (X : Cx) (W : Wd) (Δ : List Sl) (c : Nat) (es : List Expr) (L : List (As W.Z)) : Prop := PA X es (tDA W Δ c L)
theorem Ok.as {W : Wd} {n a b : Nat} {Δ : List Sl} {σ : L2.St} {H : Hp} (k : Ok W (n + a + b) Δ σ H) : Ok W (n + (a + b)) Δ σ H := by
  rw [← Nat.add_assoc]
  exact k
theorem big1 {n a b : Nat} (l : n + (a + b) ≤ BIG) : n + a ≤ BIG := by omega
theorem big2 {n a b : Nat} (l : n + (a + b) ≤ BIG) : n + a + b ≤ BIG := by omega
section
variable {X : Cx} {W : Wd} {Δ : List Sl} {m m1 m2 m3 : Nat} {e a b c : Expr} {es rest : List Expr} {A A1 A2 A3 : As W.Z} {L : List (As W.Z)} {P P1 P2 : Bool → Prop} {t ta tb : TE} {pos : Pos}
theorem pe_to {u : TE} (p : PE X e t) (h : ∀ σ H Q, u σ H Q → t σ H Q) : PE X e u := ⟨fun pins s σ H Q I z => p.run pins s σ H Q I (h σ H Q z)⟩
theorem pt_to {t u : TT} (p : PT X e t) (h : ∀ σ H Q, u σ H Q → t σ H Q) : PT X e u := ⟨fun pins s σ H Q I z => p.run pins s σ H Q I (h σ H Q z)⟩
theorem pw_to {t u : TT} (p : PW X e t) (h : ∀ σ H Q, u σ H Q → t σ H Q) : PW X e u := ⟨fun w pins s σ H Q I z => p.run w pins s σ H Q I (h σ H Q z)⟩
theorem pa_to {t u : TA} (p : PA X es t) (h : ∀ σ H Q, u σ H Q → t σ H Q) : PA X es u := ⟨fun po pins s σ H Q I z => p.run po pins s σ H Q I (h σ H Q z)⟩
theorem pss_to {st : List Stmt} {t u : TS} (p : PSs X st t) (h : ∀ D σ H, u D σ H → t D σ H) : PSs X st u := ⟨fun pins s σ H D I z => p.run pins s σ H D I (h D σ H z)⟩
theorem ps_to {st : Stmt} {t u : TS} (p : PS X st t) (h : ∀ D σ H, u D σ H → t D σ H) : PS X st u := ⟨fun pins s σ H D I z => p.run pins s σ H D I (h D σ H z)⟩
/-- weaker -/
theorem DE.imp (p : DE X W Δ m e A) (h : ∀ H v, A.ok H v → A1.ok H v) : DE X W Δ m e A1 := pe_to p fun _ _ _ ⟨n, l, k, z⟩ => ⟨n, l, k, fun v H' k q o => z v H' k q (h _ _ o)⟩
theorem DE.up (p : DE X W Δ m e A) (h : m ≤ m1) : DE X W Δ m1 e A := pe_to p fun _ _ _ ⟨n, l, k, z⟩ => ⟨n, by omega, k, fun v H' k q o => z v H' (k.up (by omega)) q o⟩
theorem DE.to {d d' : PyData} (p : DE X W Δ m e (eqd W.Z d)) (h : d = d') : DE X W Δ m e (eqd W.Z d') := h ▸ p
theorem DT.imp (p : DT X W Δ m e P) (h : ∀ b, P b → P1 b) : DT X W Δ m e P1 := pt_to p fun _ _ _ ⟨n, l, k, z⟩ => ⟨n, l, k, fun v H' k q o => z v H' k q (h _ o)⟩
theorem DT.up (p : DT X W Δ m e P) (h : m ≤ m1) : DT X W Δ m1 e P := pt_to p fun _ _ _ ⟨n, l, k, z⟩ => ⟨n, by omega, k, fun v H' k q o => z v H' (k.up (by omega)) q o⟩
/-- a value that is there at once -/
theorem de_val (p : PE X e t) (h : ∀ n σ H, Ok W n Δ σ H → ∃ v, A.ok H v ∧ ∀ Q : VK, Q v H → t σ H Q) : DE X W Δ 0 e A := pe_to p fun σ H Q ⟨n, l, k, z⟩ => by
  obtain ⟨v, o, f⟩ := h n σ H k
  exact f Q (z v H k Kp.refl o)
theorem de_var {i : Nat} {d : PyData} (p : PE X e (tVar i)) (h : Δ[i]? = some (.val d)) : DE X W Δ 0 e (eqd W.Z d) := de_val p fun n σ H k => by
  obtain ⟨v, h1, h2⟩ := k.val h
  exact ⟨v, ok_eqd h2, fun Q q => ⟨v, h1, q⟩⟩
theorem de_is {i : Nat} {v : V} (p : PE X e (tVar i)) (h : Δ[i]? = some (.is v)) : DE X W Δ 0 e (raw W.Z v) := de_val p fun n σ H k => ⟨v, rfl, fun Q q => ⟨v, k.is h, q⟩⟩
theorem de_rawc {v : V} (p : PE X e (tC v)) : DE X W Δ 0 e (raw W.Z v) := de_val p fun _ _ _ _ => ⟨v, rfl, fun _ q => q⟩
theorem de_c {v : V} {d : PyData} (p : PE X e (tC v)) (h : ∀ H, Da W.Z H v d) : DE X W Δ 0 e (eqd W.Z d) := de_val p fun _ _ H _ => ⟨v, ok_eqd (h H), fun _ q => q⟩
theorem de_int {i : Int} {j} : DE X W Δ 0 (.Constant (.int i) j pos) (eqd W.Z (.int i)) := de_c pe_int fun _ => .int i
theorem de_bl {i : Bool} {j} : DE X W Δ 0 (.Constant (.bool i) j pos) (eqd W.Z (.bool i)) := de_c pe_bl fun _ => .bl i
theorem de_non {j} : DE X W Δ 0 (.Constant .none j pos) (eqd W.Z .none) := de_c pe_non fun _ => .non
theorem de_str {x : Str} {j} : DE X W Δ 0 (.Constant (.str x) j pos) (eqd W.Z (.str x)) := de_c pe_str fun _ => .str x

/-- what a two-place operation does by assertions -/
def Op2 (W : Wd) (r : R2) (A1 A2 A3 : As W.Z) : Prop := ∀ n H v u, Wok W.Z W.J → W.J n H → A1.ok H v → A2.ok H u → ∀ Q : VK, (∀ w H', Ext H H' → A3.ok H' w → Q w H') → r v u H Q
theorem de_op {op : Operator} {r : R2} (ho : OpR X (binaryOp op) r) (ha : DE X W Δ m1 a A1) (hb : DE X W Δ m2 b A2) (hr : Op2 W r A1 A2 A3) : DE X W Δ (m1 + m2) (.BinOp a op b pos) A3 :=
  pe_to (pe_op ho ha hb) fun σ H Q ⟨n, l, k, z⟩ => ⟨n, big1 l, k, fun v H1 k1 q1 o1 => ⟨n + m1, big2 l, k1, fun u H2 k2 q2 o2 => hr _ H2 v u k2.w k2.j (A1.mono q2 o1) o2 Q fun w H3 e o => z w H3 (k2.as.ext e) ((q1.trans q2).trans e.kp) o⟩⟩
theorem de_cmp {op : CmpOp} {r : R2} (ho : OpR X (compareOp op) r) (ha : DE X W Δ m1 a A1) (hb : DE X W Δ m2 b A2) (hr : Op2 W r A1 A2 A3) (hm : behindInMarks op b = false) : DE X W Δ (m1 + m2) (.Compare a [op] [b] pos) A3 :=
  pe_to (pe_cmpR ho ha hb hm) fun σ H Q ⟨n, l, k, z⟩ => ⟨n, big1 l, k, fun v H1 k1 q1 o1 => ⟨n + m1, big2 l, k1, fun u H2 k2 q2 o2 => hr _ H2 v u k2.w k2.j (A1.mono q2 o1) o2 Q fun w H3 e o => z w H3 (k2.as.ext e) ((q1.trans q2).trans e.kp) o⟩⟩
/-- a bool with P -/
def bol (Z : Addr → Prop) (P : Bool → Prop) : As Z := ⟨fun _ v => ∃ b, v = .bl b ∧ P b, fun _ h => h⟩
theorem dt_cmp {op : CmpOp} {r : R2} (ho : OpR X (compareOp op) r) (ha : DE X W Δ m1 a A1) (hb : DE X W Δ m2 b A2) (hr : Op2 W r A1 A2 (bol W.Z P)) (hm : behindInMarks op b = false) : DT X W Δ (m1 + m2) (.Compare a [op] [b] pos) P :=
  pt_to (pt_cmpR ho ha hb hm) fun σ H Q ⟨n, l, k, z⟩ => ⟨n, big1 l, k, fun v H1 k1 q1 o1 => ⟨n + m1, big2 l, k1, fun u H2 k2 q2 o2 => hr _ H2 v u k2.w k2.j (A1.mono q2 o1) o2 _ fun w H3 e o => by
    obtain ⟨x, rfl, p⟩ := o
    exact ⟨x, rfl, z x H3 (k2.as.ext e) ((q1.trans q2).trans e.kp) p⟩⟩⟩
/-- a op b op' c -/
theorem dt_chain {op op' : CmpOp} {r r' : R2} (ho : OpR X (compareOp op) r) (ho' : OpR X (compareOp op') r') (ha : DE X W Δ m1 a A1) (hb : DE X W Δ m2 b A2) (hc : DE X W Δ m3 c A3) (hr : Op2 W r A1 A2 (bol W.Z P1)) (hr' : Op2 W r' A2 A3 (bol W.Z P2))
    (hp : ∀ x y, P1 x → P2 y → P (x && y)) (h0 : P1 false → P false) (hm : lastMarks [op, op'] [b, c] = false := by with_unfolding_all rfl) : DT X W Δ (m1 + (m2 + m3)) (.Compare a [op, op'] [b, c] pos) P :=
  pt_to (L2.pt_chain ho ho' ha hb hc hm) fun σ H Q ⟨n, l, k, z⟩ => ⟨n, big1 l, k, fun v H1 k1 q1 o1 => ⟨n + m1, big1 (big2 l), k1, fun u H2 k2 q2 o2 => hr _ H2 v u k2.w k2.j (A1.mono q2 o1) o2 _ fun w H3 e3 o3 => by
    obtain ⟨x, rfl, p⟩ := o3
    refine ⟨x, rfl, ?_⟩
    cases x with
    | false => exact ⟨false, rfl, z false H3 ((k2.ext e3).up (by omega)) ((q1.trans q2).trans e3.kp) (h0 p)⟩
    | true =>
      refine ⟨n + m1 + m2, by omega, k2.ext e3, fun x H4 k4 q4 o4 => hr' _ H4 u x k4.w k4.j (A2.mono q4 (A2.mono e3.kp o2)) o4 _ fun y H5 e5 o5 => ?_⟩
      obtain ⟨k', rfl, p'⟩ := o5
      exact ⟨k', rfl, z k' H5 ((k4.ext e5).up (by omega)) ((((q1.trans q2).trans e3.kp).trans q4).trans e5.kp) (hp true k' p p')⟩⟩⟩

/-! tests -/
theorem dt_not (h : DT X W Δ m a P1) (hp : ∀ b, P1 b → P (!b)) : DT X W Δ m (.UnaryOp .Not a pos) P :=
  pt_to (pt_not h) fun σ H Q ⟨n, l, k, z⟩ => ⟨n, l, k, fun b H' k q o => z _ H' k q (hp b o)⟩
theorem deadw {op} : PW X (.BoolOp op (b :: rest) pos) (fun _ _ _ => False) := ⟨fun _ _ _ _ _ _ _ z => z.elim⟩
theorem deade {op} : PE X (.BoolOp op (b :: rest) pos) (fun _ _ _ => False) := ⟨fun _ _ _ _ _ _ z => z.elim⟩
/-- the second test need only be known where it is asked -/
theorem dt_and (h1 : DT X W Δ m1 a P1) (h2 : P1 true → DW X W Δ m2 (.BoolOp .And (b :: rest) pos) P) (h0 : P1 false → P false) : DW X W Δ (m1 + m2) (.BoolOp .And (a :: b :: rest) pos) P := by
  by_cases c : P1 true
  · exact pw_to (pw_and h1 (h2 c)) fun σ H Q ⟨n, l, k, z⟩ => ⟨n, big1 l, k, fun x H1 k1 q1 o1 => by
      cases x with
      | true => exact ⟨n + m1, big2 l, k1, fun y H2 k2 q2 o2 => z y H2 k2.as (q1.trans q2) o2⟩
      | false => exact z false H1 (k1.up (by omega)) q1 (h0 o1)⟩
  · exact pw_to (pw_and h1 deadw) fun σ H Q ⟨n, l, k, z⟩ => ⟨n, big1 l, k, fun x H1 k1 q1 o1 => by
      cases x with
      | true => exact absurd o1 c
      | false => exact z false H1 (k1.up (by omega)) q1 (h0 o1)⟩
theorem dt_or (h1 : DT X W Δ m1 a P1) (h2 : P1 false → DW X W Δ m2 (.BoolOp .Or (b :: rest) pos) P) (h0 : P1 true → P true) : DW X W Δ (m1 + m2) (.BoolOp .Or (a :: b :: rest) pos) P := by
  by_cases c : P1 false
  · exact pw_to (pw_or h1 (h2 c)) fun σ H Q ⟨n, l, k, z⟩ => ⟨n, big1 l, k, fun x H1 k1 q1 o1 => by
      cases x with
      | false => exact ⟨n + m1, big2 l, k1, fun y H2 k2 q2 o2 => z y H2 k2.as (q1.trans q2) o2⟩
      | true => exact z true H1 (k1.up (by omega)) q1 (h0 o1)⟩
  · exact pw_to (pw_or h1 deadw) fun σ H Q ⟨n, l, k, z⟩ => ⟨n, big1 l, k, fun x H1 k1 q1 o1 => by
      cases x with
      | false => exact absurd o1 c
      | true => exact z true H1 (k1.up (by omega)) q1 (h0 o1)⟩
theorem dt_and1 (h : DT X W Δ m a P) : DW X W Δ m (.BoolOp .And [a] pos) P := pw_and1 h
theorem dt_or1 (h : DT X W Δ m a P) : DW X W Δ m (.BoolOp .Or [a] pos) P := pw_or1 h
theorem dt_bol (h : DE X W Δ m e (bol W.Z P)) (he : ∀ whole, isTrue e X.env whole = (do let v ← whole; standAt e.pos; holding [v] (truthy v)) := by intro _; rfl) : DT X W Δ m e P :=
  pt_to (pt_val h he) fun σ H Q ⟨n, l, k, z⟩ => ⟨n, l, k, fun v H' k q o => by
    obtain ⟨b, rfl, p⟩ := o
    exact ⟨b, rfl, z _ H' k q p⟩⟩
theorem de_bol {v : Bool} (h : DE X W Δ m e (eqd W.Z (.bool v))) : DE X W Δ m e (bol W.Z (· = v)) := h.imp fun H u o => by
  have o := eqd_ok o
  cases o
  exact ⟨_, rfl, rfl⟩
theorem bol_de {v : Bool} (h : DE X W Δ m e (bol W.Z (· = v))) : DE X W Δ m e (eqd W.Z (.bool v)) := h.imp fun H u o => by
  obtain ⟨b, rfl, rfl⟩ := o
  exact ok_eqd (.bl _)
theorem dt_val {v : Bool} (h : DE X W Δ m e (eqd W.Z (.bool v))) (he : ∀ whole, isTrue e X.env whole = (do let v ← whole; standAt e.pos; holding [v] (truthy v)) := by intro _; rfl) : DT X W Δ m e (· = v) := dt_bol (de_bol h) he
/-- truth of data -/
def truth : PyData → Bool
  | .none => false
  | .bool b => b
  | .int i => i != 0
  | .str x => (x.length : Int) != 0
  | .list xs => !xs.isEmpty
  | .tuple xs => !xs.isEmpty
  | .dict es => !es.isEmpty
theorem iem {α β : Type} : ∀ {l : List α} {m : List β}, l.length = m.length → (!l.isEmpty) = !m.isEmpty
  | [], [], _ => rfl
  | _ :: _, _ :: _, _ => rfl
theorem tru_da {K : PySem.W.Frag} {Z : Addr → Prop} {H : Hp} {v : V} {d : PyData} (h : Da Z H v d) (hs : ∀ x, d = .str x → x.length ≤ sizeLine) : TruV K v H (truth d) := by
  cases h with
  | non => rfl
  | bl b => rfl
  | int i => rfl
  | str x => exact ⟨hs x rfl, rfl⟩
  | lst r n ds => exact .inl ⟨_, .inl (.inl r), (iem ds.length).symm⟩
  | tup r n ds => exact .inr (.inl ⟨_, .inl (.inl r), (iem ds.length).symm⟩)
  | dct r n ks vs =>
    have e := ks.length
    rw [List.length_map, List.length_map] at e
    exact .inr (.inr ⟨_, r, (iem e).symm⟩)
theorem dt_tru {d : PyData} (h : DE X W Δ m e (eqd W.Z d)) (hs : ∀ x, d = .str x → x.length ≤ sizeLine) (he : ∀ whole, isTrue e X.env whole = (do let v ← whole; standAt e.pos; holding [v] (truthy v)) := by intro _; rfl) : DT X W Δ m e (· = truth d) :=
  pt_to (pt_truth h he) fun σ H Q ⟨n, l, k, z⟩ => ⟨n, l, k, fun v H' k q o => ⟨truth d, tru_da (eqd_ok o) hs, z (truth d) H' k q rfl⟩⟩

/-! bools as values -/
theorem de_one {op} (h : DE X W Δ m a A) : DE X W Δ m (.BoolOp op [a] pos) A := pe_one h
theorem de_and (h1 : DE X W Δ m1 a (bol W.Z P1)) (h2 : P1 true → DE X W Δ m2 (.BoolOp .And (b :: rest) pos) (bol W.Z P)) (h0 : P1 false → P false) : DE X W Δ (m1 + m2) (.BoolOp .And (a :: b :: rest) pos) (bol W.Z P) := by
  by_cases c : P1 true
  · exact pe_to (pe_and h1 (h2 c)) fun σ H Q ⟨n, l, k, z⟩ => ⟨n, big1 l, k, fun v H1 k1 q1 o1 => by
      obtain ⟨x, rfl, p⟩ := o1
      refine ⟨x, rfl, ?_⟩
      cases x with
      | true => exact ⟨n + m1, big2 l, k1, fun u H2 k2 q2 o2 => z u H2 k2.as (q1.trans q2) o2⟩
      | false => exact z _ H1 (k1.up (by omega)) q1 ⟨false, rfl, h0 p⟩⟩
  · exact pe_to (pe_and h1 deade) fun σ H Q ⟨n, l, k, z⟩ => ⟨n, big1 l, k, fun v H1 k1 q1 o1 => by
      obtain ⟨x, rfl, p⟩ := o1
      refine ⟨x, rfl, ?_⟩
      cases x with
      | true => exact absurd p c
      | false => exact z _ H1 (k1.up (by omega)) q1 ⟨false, rfl, h0 p⟩⟩
theorem de_or (h1 : DE X W Δ m1 a (bol W.Z P1)) (h2 : P1 false → DE X W Δ m2 (.BoolOp .Or (b :: rest) pos) (bol W.Z P)) (h0 : P1 true → P true) : DE X W Δ (m1 + m2) (.BoolOp .Or (a :: b :: rest) pos) (bol W.Z P) := by
  by_cases c : P1 false
  · exact pe_to (pe_or h1 (h2 c)) fun σ H Q ⟨n, l, k, z⟩ => ⟨n, big1 l, k, fun v H1 k1 q1 o1 => by
      obtain ⟨x, rfl, p⟩ := o1
      refine ⟨x, rfl, ?_⟩
      cases x with
      | false => exact ⟨n + m1, big2 l, k1, fun u H2 k2 q2 o2 => z u H2 k2.as (q1.trans q2) o2⟩
      | true => exact z _ H1 (k1.up (by omega)) q1 ⟨true, rfl, h0 p⟩⟩
  · exact pe_to (pe_or h1 deade) fun σ H Q ⟨n, l, k, z⟩ => ⟨n, big1 l, k, fun v H1 k1 q1 o1 => by
      obtain ⟨x, rfl, p⟩ := o1
      refine ⟨x, rfl, ?_⟩
      cases x with
      | false => exact absurd p c
      | true => exact z _ H1 (k1.up (by omega)) q1 ⟨true, rfl, h0 p⟩⟩
theorem de_not (h1 : DE X W Δ m a (bol W.Z P1)) (hp : ∀ b, P1 b → P (!b)) : DE X W Δ m (.UnaryOp .Not a pos) (bol W.Z P) :=
  pe_to (pe_not h1) fun σ H Q ⟨n, l, k, z⟩ => ⟨n, l, k, fun v H1 k1 q1 o1 => by
    obtain ⟨x, rfl, p⟩ := o1
    exact ⟨x, rfl, z _ H1 k1 q1 ⟨_, rfl, hp x p⟩⟩⟩
theorem de_if (hc : DT X W Δ m1 c P) (h1 : P true → DE X W Δ m2 a A) (h2 : P false → DE X W Δ m3 b A) : DE X W Δ (m1 + (m2 + m3)) (.IfExp c a b pos) A := by
  have pa : PE X a (fun σ H Q => P true ∧ tD W Δ m2 A σ H Q) := ⟨fun pins s σ H Q I z => (h1 z.1).run pins s σ H Q I z.2⟩
  have pb : PE X b (fun σ H Q => P false ∧ tD W Δ m3 A σ H Q) := ⟨fun pins s σ H Q I z => (h2 z.1).run pins s σ H Q I z.2⟩
  exact pe_to (pe_ifExp hc pa pb) fun σ H Q ⟨n, l, k, z⟩ => ⟨n, big1 l, k, fun x H1 k1 q1 o1 => by
    cases x with
    | true => exact ⟨o1, n + m1, by omega, k1, fun v H2 k2 q2 o2 => z v H2 (k2.up (by omega)) (q1.trans q2) o2⟩
    | false => exact ⟨o1, n + m1, by omega, k1, fun v H2 k2 q2 o2 => z v H2 (k2.up (by omega)) (q1.trans q2) o2⟩⟩

/-! arguments, displays -/
theorem da_nil : DA X W Δ 0 [] [] := pa_to pa_nil fun σ H Q ⟨n, l, k, z⟩ => z [] H k Kp.refl .nil
theorem da_cons (h : DE X W Δ m1 e A) (hr : DA X W Δ m2 es L) (hs : starEach (e :: es) X.env = (false, eval e X.env) :: starEach es X.env := by rfl) : DA X W Δ (m1 + m2) (e :: es) (A :: L) :=
  pa_to (pa_cons h hr hs) fun σ H Q ⟨n, l, k, z⟩ => ⟨n, big1 l, k, fun v H1 k1 q1 o1 => ⟨n + m1, big2 l, k1, fun vs H2 k2 q2 o2 => z _ H2 k2.as (q1.trans q2) (.cons (A.mono q2 o1) o2)⟩⟩
/-- data by assertions: the items of a display -/
theorem allo_das {Z : Addr → Prop} {H : Hp} : ∀ {ds : List PyData} {vs : List V}, Allo H (ds.map (eqd Z)) vs → Das Z H vs ds
  | [], _, h => by
    cases h
    exact .nil
  | d :: ds, _, h => by
    cases h with
    | cons a b => exact .cons (eqd_ok a) (allo_das b)
theorem de_lst {ds : List PyData} (h : DA X W Δ m es (ds.map (eqd W.Z))) (hl : ds.length ≤ sizeLine) : DE X W Δ m (.List es pos) (eqd W.Z (.list ds)) :=
  pe_to (pe_lst h) fun σ H Q ⟨n, l, k, z⟩ => ⟨n, l, k, fun vs H1 k1 q1 o1 => by
    have o := allo_das o1
    exact ⟨by rw [o.length]; exact hl, fun p hp => z _ _ (k1.ext (.new hp)) (q1.trans (Ext.new hp).kp) (ok_eqd (.lst upd_same (k1.w.new k1.j hp) (o.kp (Ext.new hp).kp)))⟩⟩
theorem de_tup {ds : List PyData} {kx} (h : DA X W Δ m es (ds.map (eqd W.Z))) (hl : ds.length ≤ sizeLine) : DE X W Δ m (.Tuple es kx pos) (eqd W.Z (.tuple ds)) :=
  pe_to (pe_tup h) fun σ H Q ⟨n, l, k, z⟩ => ⟨n, l, k, fun vs H1 k1 q1 o1 => by
    have o := allo_das o1
    exact ⟨by rw [o.length]; exact hl, fun p hp => z _ _ (k1.ext (.new hp)) (q1.trans (Ext.new hp).kp) (ok_eqd (.tup upd_same (k1.w.new k1.j hp) (o.kp (Ext.new hp).kp)))⟩⟩
theorem de_dict0 : DE X W Δ 0 (.Dict [] [] pos) (eqd W.Z (.dict [])) :=
  pe_to pe_dnewK fun σ H Q ⟨n, l, k, z⟩ p hp => z _ _ (k.ext (.new hp)) (Ext.new hp).kp (ok_eqd (.dct upd_same (k.w.new k.j hp) .nil .nil))

/-! calls of built-ins -/
def Cal (W : Wd) (r : List V → Hp → VK → Prop) (L : List (As W.Z)) (A : As W.Z) : Prop := ∀ n H vs, Wok W.Z W.J → W.J n H → Allo H L vs → ∀ Q : VK, (∀ w H', Ext H H' → A.ok H' w → Q w H') → r vs H Q
theorem de_cb {x : Str} {p : Pos} {id : String} {r : List V → Hp → VK → Prop} (hc : CallR X (.builtin id) r) (hg : Gl X x) (hm : X.mg x = none) (hv : bootBuiltins x = some (.builtin id)) (ha : DA X W Δ m (e :: es) L) (hr : Cal W r L A)
    (hn : x ≠ "__name__" := by decide) (hdb : (x == ("__debug__" : Str)) = false := by decide) (he : starEach (e :: es) X.env = (false, eval e X.env) :: starEach es X.env := by rfl) (hpl : (backTo pos (starEach es X.env)).any (·.1) = false := by rfl) :
    DE X W Δ m (.Call (.Name x p) (e :: es) [] pos) A :=
  pe_to (pe_callB hc hg hm hv ha hn hdb he hpl) fun σ H Q ⟨n, l, k, z⟩ => ⟨n, l, k, fun vs H1 k1 q1 o1 => hr _ H1 vs k1.w k1.j o1 Q fun w H2 e2 o2 => z w H2 (k1.ext e2) (q1.trans e2.kp) o2⟩
theorem de_ct {x : Str} {p : Pos} {T : String} {r : List V → Hp → VK → Prop} (hc : CallR X (.type T) r) (hg : Gl X x) (hm : X.mg x = none) (hv : bootBuiltins x = some (.type T)) (ha : DA X W Δ m (e :: es) L) (hr : Cal W r L A)
    (hn : x ≠ "__name__" := by decide) (hdb : (x == ("__debug__" : Str)) = false := by decide) (he : starEach (e :: es) X.env = (false, eval e X.env) :: starEach es X.env := by rfl) (hpl : (backTo pos (starEach es X.env)).any (·.1) = false := by rfl) :
    DE X W Δ m (.Call (.Name x p) (e :: es) [] pos) A :=
  pe_to (pe_callTy hc hg hm hv ha hn hdb he hpl) fun σ H Q ⟨n, l, k, z⟩ => ⟨n, l, k, fun vs H1 k1 q1 o1 => hr _ H1 vs k1.w k1.j o1 Q fun w H2 e2 o2 => z w H2 (k1.ext e2) (q1.trans e2.kp) o2⟩
end
end Dv
set_option maxRecDepth 100000
set_option maxHeartbeats 2000000
/-! Dv4: what loops and comprehensions go over; comprehensions; promises of defs and their calls; statements. -/
namespace Dv
open PySem PySem.Spec PyProof.Rows L2

/-! ### worlds that grow -/
def Wd.add (W : Wd) (p : Addr) (φ : Nat → HO → Prop) : Wd := { W with pins := (p, φ) :: W.pins }
def Wd.lst (W : Wd) (p : Addr) (vs : List V) : Wd := W.add p fun _ o => o = .lst vs
theorem add_z {W : Wd} {p : Addr} {φ : Nat → HO → Prop} {a : Addr} : (W.add p φ).Z a ↔ a = p ∨ W.Z a := by
  constructor
  · rintro (z | ⟨q, m, rfl⟩)
    · exact .inr (.inl z)
    · rcases List.mem_cons.mp m with rfl | m
      · exact .inl rfl
      · exact .inr (.inr ⟨q, m, rfl⟩)
  · rintro (rfl | z | ⟨q, m, rfl⟩)
    · exact .inr ⟨_, List.mem_cons_self, rfl⟩
    · exact .inl z
    · exact .inr ⟨q, List.mem_cons_of_mem _ m, rfl⟩
theorem add_j {W : Wd} {p : Addr} {φ : Nat → HO → Prop} {n : Nat} {H : Hp} : (W.add p φ).J n H ↔ (∃ o, H p = some o ∧ ∃ m, m ≤ n ∧ φ m o) ∧ W.J n H := by
  constructor
  · rintro ⟨j, q⟩
    exact ⟨q _ List.mem_cons_self, j, fun x m => q x (List.mem_cons_of_mem _ m)⟩
  · rintro ⟨o, j, q⟩
    refine ⟨j, fun x m => ?_⟩
    rcases List.mem_cons.mp m with rfl | m
    · exact o
    · exact q x m
section
variable {W : Wd} {n n' : Nat} {Δ : List Sl} {σ : L2.St} {H H1 H' : Hp} {p : Addr} {o : HO} {φ : Nat → HO → Prop}
theorem sub_z (h : H1 p = none) (a : Addr) (z : (W.add p φ).Z a) : W.Z a ∨ H1 a = none := by
  rcases add_z.mp z with rfl | z
  · exact .inr h
  · exact .inl z
theorem z_add (a : Addr) (z : W.Z a) : (W.add p φ).Z a := add_z.mpr (.inr z)
theorem zz {ψ : Nat → HO → Prop} (a : Addr) (z : (W.add p φ).Z a) : (W.add p ψ).Z a := add_z.mpr (add_z.mp z)
theorem Kp.wide {Z Z' : Addr → Prop} (k : Kp Z H H') (z : ∀ a, Z a → Z' a) : Kp Z' H H' := fun a o n h => k a o (fun c => n (z a c)) h
/-- a new object of one's own, that may change from now on -/
theorem Ok.pin (k : Ok W n Δ σ H1) (hp : H1 p = none) (e : Kp W.Z H1 H') (j : W.J n' H') (hl : n ≤ n') (ho : H' p = some o) (hφ : ∃ m, m ≤ n' ∧ φ m o) : Ok (W.add p φ) n' Δ σ H' := by
  have nz : ¬ W.Z p := k.w.new k.j hp
  have h0 : W.H0 p = none := by
    match q : W.H0 p with
    | none => rfl
    | some u => exact nomatch (k.kept p u (fun c => nz (.inl c)) q).symm.trans hp
  refine ⟨k.wb, add_j.mpr ⟨⟨o, ho, hφ⟩, j⟩, pmono (fun s o' => SlOk.mono e (sub_z hp)) k.sl, (show Kp W.Zb W.H0 H' from kp0 k e), ?_, fun q m => ?_⟩
  · show ((p :: W.pins.map (·.1))).Nodup
    refine List.nodup_cons.mpr ⟨fun m => ?_, k.nd⟩
    obtain ⟨q, hq, rfl⟩ := List.mem_map.mp m
    exact nz (.inr ⟨q, hq, rfl⟩)
  · rcases List.mem_cons.mp m with rfl | m
    · exact ⟨fun c => nz (.inl c), h0⟩
    · exact k.fr q m
/-- it will not change any more -/
theorem Ok.unpin (k : Ok (W.add p φ) n Δ σ H) : Ok W n Δ σ H :=
  ⟨k.wb, (add_j.mp k.j).2, pmono (fun _ _ => SlOk.mono Kp.refl fun a z => .inl (z_add a z)) k.sl, k.kept, (List.nodup_cons.mp k.nd).2, fun q m => k.fr q (List.mem_cons_of_mem _ m)⟩
theorem Ok.nz (k : Ok (W.add p φ) n Δ σ H) : ¬ W.Z p := by
  rintro (z | ⟨q, m, e⟩)
  · exact (k.fr _ List.mem_cons_self).1 z
  · exact (List.nodup_cons.mp k.nd).1 (List.mem_map.mpr ⟨q, m, e⟩)
/-- a list of one's own is data once it is left alone -/
theorem own_da {vs : List V} {ds : List PyData} (k : Ok (W.lst p vs) n Δ σ H) (h : Das (W.lst p vs).Z H vs ds) : Da W.Z H (.ref p) (.list ds) := by
  obtain ⟨⟨o, ho, m, _, e⟩, _⟩ := add_j.mp k.j
  subst e
  exact .lst ho k.nz (h.mono Kp.refl fun a z => .inl (z_add a z))
/-- a part of a def on its own: the world as it stands is its caller's -/
def Wd.sub (W : Wd) (H : Hp) : Wd := ⟨W.Z, W.J, H, []⟩
theorem sub_zz {a : Addr} : (W.sub H).Z a ↔ W.Z a :=
  ⟨fun z => Or.elim z id (fun ⟨_, m, _⟩ => nomatch m), fun z => Or.inl z⟩
theorem sub_jj : (W.sub H1).J n H ↔ W.J n H := ⟨fun z => z.1, fun z => ⟨z, fun _ m => nomatch m⟩⟩
theorem Ok.sub (k : Ok W n Δ σ H) : Ok (W.sub H) n Δ σ H :=
  ⟨k.w, sub_jj.mpr k.j, pmono (fun _ _ => SlOk.mono Kp.refl fun a z => .inl (sub_zz.mp z)) k.sl, Kp.refl, List.nodup_nil, fun _ m => nomatch m⟩
theorem Ok.unsub {Γ : List Sl} {τ : L2.St} (k : Ok W n Δ σ H) (h : Ok (W.sub H) n' Γ τ H') : Ok W n' Γ τ H' :=
  ⟨k.wb, sub_jj.mp h.j, pmono (fun _ _ => SlOk.mono Kp.refl fun a z => .inl (sub_zz.mpr z)) h.sl, kp0 k h.kept, k.nd, k.fr⟩
end

/-! ### what is gone over -/
structure Src (Z : Addr → Prop) (H1 : Hp) (J : It) (xs : List PyData) : Prop where
  ex : ∃ (G : Hp → Prop) (Y : Nat → Hp → V → Hp → Prop), Walk J xs.length G Y ∧ (∀ (Z' : Addr → Prop) H, (∀ a, Z' a → Z a ∨ H1 a = none) → Kp Z' H1 H → G H) ∧
    ∀ (Z' : Addr → Prop) i H x H', (∀ a, Z' a → Z a ∨ H1 a = none) → Kp Z' H1 H → (∀ a, Z' a → H a ≠ none) → i < xs.length → Y i H x H' → Ext H H' ∧ ∃ d, xs[i]? = some d ∧ Da Z' H' x d
def tDI (W : Wd) (Δ : List Sl) (c : Nat) (P : List PyData → Prop) : TI := fun σ H R => ∃ n, n + c ≤ BIG ∧ Ok W n Δ σ H ∧ ∀ J H' xs, Ok W (n + c) Δ σ H' → Kp W.Z H H' → P xs → Src W.Z H' J xs → R J H'
abbrev DI (X : Cx) (W : Wd) (Δ : List Sl) (c : Nat) (tg iter : Expr) (P : List PyData → Prop) : Prop := PI X tg iter (tDI W Δ c P)
section
variable {X : Cx} {W : Wd} {Δ : List Sl} {m m1 m2 m3 : Nat} {tg e a b c : Expr} {es rest : List Expr} {A A1 A2 A3 : As W.Z} {L : List (As W.Z)} {P P1 P2 : Bool → Prop} {t ta tb : TE} {pos : Pos}
theorem pi_to {t u : TI} (p : PI X tg e t) (h : ∀ σ H Q, u σ H Q → t σ H Q) : PI X tg e u := ⟨fun pins s σ H Q I z => p.run pins s σ H Q I (h σ H Q z)⟩
theorem kpz {Z Z' : Addr → Prop} {H1 H : Hp} {a : Addr} {o : HO} (z : ∀ a, Z' a → Z a ∨ H1 a = none) (k : Kp Z' H1 H) (n : ¬ Z a) (h : H1 a = some o) : H a = some o :=
  k a o (fun c => (z a c).elim n fun y => nomatch h.symm.trans y) h
/-- a list -/
theorem di_list {ds : List PyData} (h : DE X W Δ m e (eqd W.Z (.list ds))) : DI X W Δ m tg e (· = ds) :=
  pi_to (pi_list h) fun σ H R ⟨n, l, k, z⟩ => ⟨n, l, k, fun v H1 k1 q1 o1 => by
    have o := eqd_ok o1
    cases o with
    | lst r nz hd =>
      rename_i a vs
      refine ⟨a, rfl, ⟨_, .inl (.inl r)⟩, z _ H1 ds k1 q1 rfl ⟨⟨_, _, hd.length ▸ walk_list (K := X.K) (a := a) (xs := vs), fun Z' H z' k' => .inl (.inl (kpz z' k' nz r)), fun Z' i H x H' z' k' _ _ y => ?_⟩⟩⟩
      obtain ⟨e1, e2⟩ := y
      subst e1
      obtain ⟨d, h1, h2⟩ := hd.getV e2
      exact ⟨Ext.refl, d, h1, (h2.mono Kp.refl z').kp k'⟩⟩
/-- a tuple -/
theorem di_tup {ds : List PyData} (h : DE X W Δ m e (eqd W.Z (.tuple ds))) : DI X W Δ m tg e (· = ds) :=
  pi_to (pi_tup h) fun σ H R ⟨n, l, k, z⟩ => ⟨n, l, k, fun v H1 k1 q1 o1 => by
    have o := eqd_ok o1
    cases o with
    | tup r nz hd =>
      rename_i a vs
      refine ⟨a, rfl, ⟨_, .inl (.inl r)⟩, z _ H1 ds k1 q1 rfl ⟨⟨_, _, hd.length ▸ walk_tup (K := X.K) (a := a) (xs := vs), fun Z' H z' k' => .inl (.inl (kpz z' k' nz r)), fun Z' i H x H' z' k' _ _ y => ?_⟩⟩⟩
      obtain ⟨e1, e2⟩ := y
      subst e1
      obtain ⟨d, h1, h2⟩ := hd.getV e2
      exact ⟨Ext.refl, d, h1, (h2.mono Kp.refl z').kp k'⟩⟩
/-- range(n) -/
def intp (Z : Addr → Prop) (P : Int → Prop) : As Z := dat Z fun d => ∃ i, d = .int i ∧ P i
theorem int_p {i : Int} (h : DE X W Δ m e (eqd W.Z (.int i))) : DE X W Δ m e (intp W.Z (· = i)) := h.imp fun H v o => ⟨_, eqd_ok o, i, rfl, rfl⟩
def upto (n : Int) : List PyData := (List.range n.toNat).map fun i => .int (i : Nat)
theorem upto_len (n : Int) : (upto n).length = n.toNat := by
  unfold upto
  rw [List.length_map, List.length_range]
theorem upto_get {n : Int} {i : Nat} (h : i < n.toNat) : (upto n)[i]? = some (.int (i : Nat)) := by
  unfold upto
  rw [List.getElem?_map, List.getElem?_range h]
  rfl
theorem di_range {p : Pos} {Pn : Int → Prop} (hg : Gl X "range") (hm : X.mg "range" = none) (h : DE X W Δ m a (intp W.Z Pn)) (hb : ∀ i, Pn i → -(2 ^ 62) ≤ i ∧ i < 2 ^ 62) (hs : starEach [a] X.env = [(false, eval a X.env)] := by rfl)
    (hs' : starEach (a :: []) X.env = (false, eval a X.env) :: starEach [] X.env := by rfl) :
    DI X W Δ m tg (.Call (.Name "range" p) [a] [] pos) (fun xs => ∃ n, Pn n ∧ xs = upto n) :=
  pi_to (pi_range1 hg hm (da_cons h da_nil hs') hs) fun σ H R ⟨n, l, k, z⟩ => ⟨n, l, k, fun vs H1 k1 q1 o1 => by
    cases o1 with
    | cons o1 o2 =>
      cases o2
      obtain ⟨_, hd, j, rfl, pj⟩ := o1
      cases hd
      have wk : Walk (Itr 0 j.toNat) (upto j).length (fun _ => True) (YFn fun i => .int (0 + i)) := by
        rw [upto_len]
        exact walk_range
      refine ⟨j, rfl, (hb j pj).1, (hb j pj).2, z _ H1 _ k1 q1 ⟨j, pj, rfl⟩ ⟨⟨_, _, wk, fun _ _ _ _ => trivial, fun Z' i H x H' z' k' _ hi y => ?_⟩⟩⟩
      obtain ⟨e1, e2⟩ := y
      subst e1 e2
      rw [upto_len] at hi
      refine ⟨Ext.refl, _, upto_get hi, ?_⟩
      show Da Z' _ (.int (0 + (i : Int))) _
      rw [Int.zero_add]
      exact .int _⟩
/-- a text, sign by sign -/
def sgn (z : Str) : List PyData := z.cps.toList.map fun c => .str ⟨#[c]⟩
theorem sgn_len (z : Str) : (sgn z).length = z.cps.size := by
  unfold sgn
  rw [List.length_map, Array.length_toList]
theorem di_str {z : Str} (h : DE X W Δ m e (eqd W.Z (.str z))) : DI X W Δ m tg e (· = sgn z) :=
  pi_to (pi_str h) fun σ H R ⟨n, l, k, f⟩ => ⟨n, l, k, fun v H1 k1 q1 o1 => by
    have o := eqd_ok o1
    cases o
    have wk : Walk (Its z) (sgn z).length (fun _ => True) (fun i H v H' => H' = H ∧ ∃ c, z.cps[i]? = some c ∧ v = .str ⟨#[c]⟩) := by
      rw [sgn_len]
      exact walk_str
    refine ⟨z, rfl, f _ H1 _ k1 q1 rfl ⟨⟨_, _, wk, fun _ _ _ _ => trivial, fun Z' i H x H' z' k' _ hi y => ?_⟩⟩⟩
    obtain ⟨e1, c, e2, e3⟩ := y
    subst e1 e3
    refine ⟨Ext.refl, .str ⟨#[c]⟩, ?_, .str _⟩
    unfold sgn
    rw [List.getElem?_map, Array.getElem?_toList, e2]
    rfl⟩

/-! ### comprehensions -/
def wipeS (Δ : List Sl) : List Nat → List Sl
  | [] => Δ
  | v :: vs => (wipeS Δ vs).set v .no
theorem wipe_ok {Z : Addr → Prop} {H : Hp} {σ : L2.St} : ∀ (vs : List Nat), Paired (SlOk Z H) Δ σ → Paired (SlOk Z H) (wipeS Δ vs) (wipe σ vs)
  | [], h => h
  | v :: vs, h => pset (show SlOk Z H .no none from trivial) v (wipe_ok vs h)
theorem wipe_set {σ : L2.St} {x : Option V} : ∀ (vs : List Nat) (j : Nat), j ∈ vs → wipe (σ.set j x) vs = wipe σ vs
  | v :: vs, j, h => by
    show (wipe (σ.set j x) vs).set v none = (wipe σ vs).set v none
    by_cases c : j ∈ vs
    · rw [wipe_set vs j c]
    · have e : j = v := by
        rcases List.mem_cons.mp h with h | h
        · exact h
        · exact absurd h c
      subst e
      have : ∀ (us : List Nat) (τ : L2.St), j ∉ us → wipe (τ.set j x) us = (wipe τ us).set j x := by
        intro us
        induction us with
        | nil => intro τ _; rfl
        | cons u us ih =>
          intro τ hn
          show (wipe (τ.set j x) us).set u none = ((wipe τ us).set u none).set j x
          have h1 : j ≠ u := fun q => hn (q ▸ List.mem_cons_self)
          have h2 : j ∉ us := fun q => hn (List.mem_cons_of_mem _ q)
          rw [ih τ h2, List.set_comm _ _ h1]
      rw [this vs σ c, List.set_set]
theorem wipe_wipe {σ : L2.St} : ∀ (vs us : List Nat), (∀ v ∈ us, v ∈ vs) → wipe (wipe σ us) vs = wipe σ vs
  | vs, [], _ => rfl
  | vs, u :: us, h => by
    show wipe ((wipe σ us).set u none) vs = wipe σ vs
    rw [wipe_set vs u (h u List.mem_cons_self), wipe_wipe vs us fun v hv => h v (List.mem_cons_of_mem _ hv)]
/-- what a comprehension picks: Pt of an item says whether its element is taken, Pe what it is -/
inductive Picks (Pt : PyData → Bool → Prop) (Pe : PyData → PyData → Prop) : List PyData → List PyData → Prop
  | nil : Picks Pt Pe [] []
  | skip {d : PyData} {xs ys : List PyData} : Picks Pt Pe xs ys → Pt d false → Picks Pt Pe (xs ++ [d]) ys
  | take {d z : PyData} {xs ys : List PyData} : Picks Pt Pe xs ys → Pt d true → Pe d z → Picks Pt Pe (xs ++ [d]) (ys ++ [z])
theorem Picks.len {Pt : PyData → Bool → Prop} {Pe : PyData → PyData → Prop} {xs ys : List PyData} (h : Picks Pt Pe xs ys) : ys.length ≤ xs.length := by
  induction h with
  | nil => exact Nat.le_refl _
  | skip _ _ ih =>
    rw [List.length_append]
    omega
  | take _ _ _ ih =>
    rw [List.length_append, List.length_append]
    simp only [List.length_singleton]
    omega
theorem Picks.fn {f : PyData → Bool} {g : PyData → PyData} {xs ys : List PyData} (h : Picks (fun d b => b = f d) (fun d z => f d = true → z = g d) xs ys) : ys = (xs.filter f).map g := by
  induction h with
  | nil => rfl
  | skip _ e ih => rw [ih, List.filter_append, List.filter_cons, if_neg (by rw [← e]; decide)]; simp
  | take _ e e2 ih => rw [ih, List.filter_append, List.map_append, List.filter_cons, if_pos e.symm, e2 e.symm]; simp
theorem Picks.all {Pt : PyData → Bool → Prop} {Pe : PyData → PyData → Prop} {R : PyData → Prop} {xs ys : List PyData} (h : Picks Pt Pe xs ys) (hr : ∀ d z, d ∈ xs → Pe d z → R z) : ∀ z ∈ ys, R z := by
  induction h with
  | nil => exact fun z m => nomatch m
  | skip _ _ ih => exact ih fun d z m => hr d z (List.mem_append_left _ m)
  | take _ _ e ih =>
    intro z m
    rcases List.mem_append.mp m with m | m
    · exact ih (fun d z m => hr d z (List.mem_append_left _ m)) z m
    · rw [List.mem_singleton] at m
      subst m
      exact hr _ _ (List.mem_append_right _ List.mem_cons_self) e
theorem Picks.full {Pt : PyData → Bool → Prop} {Pe : PyData → PyData → Prop} {xs ys : List PyData} (h : Picks Pt Pe xs ys) (hr : ∀ d, ¬ Pt d false) : ys.length = xs.length := by
  induction h with
  | nil => rfl
  | skip _ e _ => exact absurd e (hr _)
  | take _ _ _ ih => rw [List.length_append, List.length_append, ih]; rfl
theorem dts_nil : PTs X [] (tDT W Δ 0 (· = true)) := ⟨fun pins s σ H Q I ⟨n, l, k, z⟩ => pts_nil.run pins s σ H Q I (z true H k Kp.refl rfl)⟩
theorem dts_one (h : DT X W Δ m e P) : PTs X [e] (tDT W Δ m P) := pts_one h
theorem filter_take_succ {α : Type} {xs : List α} {i : Nat} {d : α} (h : xs[i]? = some d) : xs.take (i + 1) = xs.take i ++ [d] := by
  rw [List.take_add_one, h]
  rfl
def lcT (W : Wd) (Γ : List Sl) (j c1 : Nat) (Ps : List PyData → Prop) (Pt : PyData → Bool → Prop) : TT := fun σ H Q => ∃ D φ xs d, ¬ W.Z D ∧ Ps xs ∧ d ∈ xs ∧ tDT (W.add D φ) (Γ.set j (.val d)) c1 (Pt d) σ H Q
def lcE (W : Wd) (Γ : List Sl) (j c2 : Nat) (Ps : List PyData → Prop) (Pt : PyData → Bool → Prop) (Pe : PyData → PyData → Prop) : TE := fun σ H Q => ∃ D φ xs d, ¬ W.Z D ∧ Ps xs ∧ d ∈ xs ∧ Pt d true ∧ tD (W.add D φ) (Γ.set j (.val d)) c2 (dat _ (Pe d)) σ H Q
/-- a for in brackets, its target a name -/
theorem de_lc {x : Str} {px : Pos} {elt iter : Expr} {ifs : List Expr} {scope : Scope} {own : List (Str × Nat)} {j c1 c2 M : Nat} {Ps : List PyData → Prop} {Pt : PyData → Bool → Prop} {Pe : PyData → PyData → Prop} {R : PyData → Prop}
    (hc : X.calm = true) (hN : X.N.Nodup) (hi : DI X W Δ m (.Name x px) iter Ps) (ok : BlkOk X.N X.env.scope scope own) (hj : X.N[j]? = some x) (hjv : j ∈ own.map (·.2)) (hM : ∀ xs, Ps xs → xs.length ≤ M) (hM2 : M ≤ 1000000)
    (hx : ∀ (s : Shared) (H : Hp) (C : Addr) (cl : List (Str × Addr)) (fp : List Addr), PG (X.blk s H scope (compEnvC scope cl C X.env) fp) (.Name x px) (gName j))
    (ht : ∀ (s : Shared) (H : Hp) (C : Addr) (cl : List (Str × Addr)) (fp : List Addr) (D : Addr) (φ : Nat → HO → Prop) (xs : List PyData) (d : PyData), ¬ W.Z D → Ps xs → d ∈ xs → PTs (X.blk s H scope (compEnvC scope cl C X.env) fp) ifs (tDT (W.add D φ) ((wipeS Δ (own.map (·.2))).set j (.val d)) c1 (Pt d)))
    (he : ∀ (s : Shared) (H : Hp) (C : Addr) (cl : List (Str × Addr)) (fp : List Addr) (D : Addr) (φ : Nat → HO → Prop) (xs : List PyData) (d : PyData), ¬ W.Z D → Ps xs → d ∈ xs → Pt d true → DE (X.blk s H scope (compEnvC scope cl C X.env) fp) (W.add D φ) ((wipeS Δ (own.map (·.2))).set j (.val d)) c2 elt (dat _ (Pe d)))
    (hR : ∀ xs ys, Ps xs → Picks Pt Pe xs ys → R (.list ys))
    (hs : ∀ x, foldedSetIterable iter X.env x = pure x := by intro _; rfl) :
    DE X W Δ (m + M * (c1 + c2)) (.ListComp elt [⟨.Name x px, iter, ifs, 0⟩] scope pos) (dat W.Z R) := by
  -- the test and the element, for whichever new list, item and list of items
  have pt : ∀ (s : Shared) (H : Hp) (C : Addr) (cl : List (Str × Addr)) (fp : List Addr), PTs (X.blk s H scope (compEnvC scope cl C X.env) fp) ifs (lcT W (wipeS Δ (own.map (·.2))) j c1 Ps Pt) :=
    fun s H C cl fp => ⟨fun pins s' σ' H' Q I ⟨D, φ, xs, d, n1, n2, n3, z⟩ => (ht s H C cl fp D φ xs d n1 n2 n3).run pins s' σ' H' Q I z⟩
  have pe : ∀ (s : Shared) (H : Hp) (C : Addr) (cl : List (Str × Addr)) (fp : List Addr), PE (X.blk s H scope (compEnvC scope cl C X.env) fp) elt (lcE W (wipeS Δ (own.map (·.2))) j c2 Ps Pt Pe) :=
    fun s H C cl fp => ⟨fun pins s' σ' H' Q I ⟨D, φ, xs, d, n1, n2, n3, n4, z⟩ => (he s H C cl fp D φ xs d n1 n2 n3 n4).run pins s' σ' H' Q I z⟩
  refine pe_to (pe_lc hc hN hi ok hx pt pe hs) fun σ H Q ⟨n, l, k, z⟩ => ⟨n, by omega, k, fun J H1 xs k1 q1 px sr D hD => ?_⟩
  obtain ⟨G, Y, wk, hG, hY⟩ := sr.ex
  have nD : ¬ W.Z D := k1.w.new k1.j hD
  have hlen := hM xs px
  have lz := sizeLine_eq
  -- what holds behind i items
  let Pv : Nat → Hp → Prop := fun i H' => W.J (n + m + i * (c1 + c2)) H' ∧ Kp W.Z H1 H' ∧ ∃ acc ys, H' D = some (.lst acc) ∧ Das (W.add D fun _ _ => True).Z H' acc ys ∧ Picks Pt Pe (xs.take i) ys
  have inner : ∀ i H', Pv i H' → ∀ acc, H' D = some (.lst acc) → Ok (W.add D fun _ o => o = .lst acc) (n + m + i * (c1 + c2)) Δ σ H' := fun i H' ⟨j, e, _⟩ acc ha => k1.pin hD e j (by omega) ha ⟨0, Nat.zero_le _, rfl⟩
  refine lc_it (g := gName j) (tt := lcT W (wipeS Δ (own.map (·.2))) j c1 Ps Pt) (te := lcE W (wipeS Δ (own.map (·.2))) j c2 Ps Pt Pe) (vs := own.map (·.2)) (σ := σ) (H1 := H1) (D := D) (Qd := fun H => Q (.ref D) H) wk Pv ?_ ?_ ?_ ?_
  · refine ⟨by simpa using k1.w.ext k1.j (.new hD), (Ext.new hD).kp, [], [], upd_same, .nil, ?_⟩
    rw [List.take_zero]
    exact .nil
  · intro i H' _ ⟨_, e, _⟩
    exact hG (W.add D fun _ _ => True).Z H' (fun a y => sub_z hD a y) (e.wide fun a y => z_add a y)
  · intro i x0 H2 H3 hi p y
    obtain ⟨j2, e2, acc, ys, ha, hd, hp⟩ := p
    have ko := inner i H2 ⟨j2, e2, acc, ys, ha, hd, hp⟩ acc ha
    obtain ⟨e3, d, hxd, hda⟩ := hY (W.add D fun _ o => o = .lst acc).Z i H2 x0 H3 (fun a y => sub_z hD a y) (e2.wide fun a y => z_add a y) (fun a y => ko.w.alive _ H2 a ko.j y) hi y
    have dm : d ∈ xs := List.mem_of_getElem? hxd
    have k3 := ko.ext e3
    have hbig : (i + 1) * (c1 + c2) ≤ M * (c1 + c2) := Nat.mul_le_mul_right _ (by omega)
    have hs1 : (i + 1) * (c1 + c2) = i * (c1 + c2) + (c1 + c2) := Nat.succ_mul _ _
    refine ⟨?_, D, (fun _ o => o = .lst acc), xs, d, nD, px, dm, n + m + i * (c1 + c2), by omega, ?_, ?_⟩
    · rw [wipe_set _ _ hjv]
      exact wipe_wipe _ _ fun v hv => hv
    · exact ⟨k3.wb, k3.j, pset (show SlOk _ _ (.val d) (some x0) from ⟨x0, rfl, hda⟩) j (wipe_ok _ k3.sl), k3.kept, k3.nd, k3.fr⟩
    · intro b H4 k4 q4 pb
      have back : ∀ {H' : Hp}, Kp (W.add D fun _ o => o = .lst acc).Z H3 H' → Kp W.Z H1 H' := fun q a o na h1 => by
        have ne : a ≠ D := fun c => by
          rw [c, hD] at h1
          cases h1
        exact q a o (fun c => (add_z.mp c).elim ne na) (e3 a o (e2 a o na h1))
      obtain ⟨⟨o4, h4, _, _, eq4⟩, j4⟩ := add_j.mp k4.j
      subst eq4
      have d4 : Das (W.add D fun _ _ => True).Z H4 acc ys := (hd.mono (e3.kp.trans (q4.wide zz)) fun a y => .inl y)
      cases b with
      | false =>
        refine ⟨k4.w.up _ _ H4 k4.j (by omega) |> fun j => (add_j.mp j).2, back q4, acc, ys, h4, d4, ?_⟩
        rw [filter_take_succ hxd]
        exact .skip hp pb
      | true =>
        refine ⟨D, (fun _ o => o = .lst acc), xs, d, nD, px, dm, pb, n + m + i * (c1 + c2) + c1, by omega, k4, fun y0 H5 k5 q5 o5 => ?_⟩
        obtain ⟨z0, hz0, pe0⟩ := o5
        obtain ⟨⟨o5, h5, _, _, eq5⟩, j5⟩ := add_j.mp k5.j
        subst eq5
        have la : acc.length = ys.length := d4.length
        have ly := hp.len
        rw [List.length_take] at ly
        have kD : Kp (W.add D fun _ _ => True).Z H5 (upd H5 D (.lst (acc ++ [y0]))) := fun a o na h => by
          rw [upd_ne (fun c => na (add_z.mpr (.inl c)))]
          exact h
        refine ⟨acc, h5, by omega, ?_, ?_, _, ys ++ [z0], upd_same, ?_, ?_⟩
        · refine k5.w.up _ (n + m + (i + 1) * (c1 + c2)) H5 k5.j (by omega) |> fun j => ?_
          exact k1.w.loc _ H5 _ (add_j.mp j).2 fun a y => upd_ne (fun c => nD (c ▸ y))
        · intro a o na h1
          have ne : a ≠ D := fun c => by
            rw [c, hD] at h1
            cases h1
          rw [upd_ne ne]
          exact back (q4.trans q5) a o na h1
        · exact ((d4.mono (q5.wide zz) fun a y => .inl y).append (.cons (hz0.mono Kp.refl fun a y => .inl (zz a y)) .nil)).mono kD fun a y => .inl y
        · rw [filter_take_succ hxd]
          exact .take hp pb pe0
  · intro H' ⟨j', e', acc, ys, ha, hd, hp⟩
    rw [List.take_length] at hp
    have hbig : xs.length * (c1 + c2) ≤ M * (c1 + c2) := Nat.mul_le_mul_right _ hlen
    have kf : Ok W (n + (m + M * (c1 + c2))) Δ σ H' := (k1.kp e' j').up (by omega)
    have kr : Ok (W.add D fun _ o => o = .lst acc) _ Δ σ H' := inner _ H' ⟨j', e', acc, ys, ha, hd, by rw [List.take_length]; exact hp⟩ acc ha
    exact z (.ref D) H' kf (q1.trans e') ⟨.list ys, .lst ha nD (hd.mono Kp.refl fun a y => .inl (z_add a y)), hR xs ys px hp⟩
end
end Dv
set_option maxRecDepth 100000
set_option maxHeartbeats 2000000
/-! Dv5: promises of defs and their calls, the draws' bag, operators by data, statements. -/
namespace Dv
open PySem PySem.Spec PyProof.Rows L2

/-! ### promises -/
/-- data in, data out: pre, post, at most c draws of a bag that is not passed (0: none) -/
def spD (pre : List PyData → Prop) (post : List PyData → PyData → Prop) : Sp := fun xs H Q _ => ∃ (Z : Addr → Prop) (J : Nat → Hp → Prop) (n : Nat) (ds : List PyData),
  Wok Z J ∧ n ≤ BIG ∧ J n H ∧ Das Z H xs ds ∧ pre ds ∧ ∀ v H' d, Kp Z H H' → J n H' → Da Z H' v d → post ds d → Q v H'
/-- the bag: three ints, the last one at most n -/
def IsBag (n : Nat) (o : HO) : Prop := ∃ x y z : Int, o = .lst [.int x, .int y, .int z] ∧ 0 ≤ x ∧ 0 ≤ y ∧ y < 10000000000000000000000000000000000043 ∧ 0 ≤ z ∧ z ≤ (n : Int)
/-- the world has the bag at p -/
structure BagJ (Z : Addr → Prop) (J : Nat → Hp → Prop) (p : Addr) : Prop where
  z : Z p
  is : ∀ n H, J n H → ∃ o, H p = some o ∧ IsBag n o
  to : ∀ n m H H' o, J n H → n ≤ m → H' p = some o → IsBag m o → (∀ a, Z a → a ≠ p → H' a = H a) → J m H'
/-- a def that draws from the bag that it is passed first, at most c times -/
def spB (pre : List PyData → Prop) (c : List PyData → Nat) (post : List PyData → PyData → Prop) : Sp := fun xs H Q _ => ∃ (Z : Addr → Prop) (J : Nat → Hp → Prop) (n : Nat) (p : Addr) (ws : List V) (ds : List PyData),
  Wok Z J ∧ J n H ∧ BagJ Z J p ∧ n + c ds ≤ BIG ∧ xs = .ref p :: ws ∧ Das Z H ws ds ∧ pre ds ∧ ∀ v H' d, Kp Z H H' → J (n + c ds) H' → Da Z H' v d → post ds d → Q v H'
section
variable {W : Wd} {p D : Addr} {φ : Nat → HO → Prop}
theorem IsBag.up {n m : Nat} {o : HO} (h : IsBag n o) (l : n ≤ m) : IsBag m o := by
  obtain ⟨x, y, z, e, h1, h2, h3, h4, h5⟩ := h
  exact ⟨x, y, z, e, h1, h2, h3, h4, by omega⟩
theorem BagJ.add (b : BagJ W.Z W.J p) (h : ¬ W.Z D) : BagJ (W.add D φ).Z (W.add D φ).J p := by
  refine ⟨z_add p b.z, fun n H j => b.is n H (add_j.mp j).2, fun n m H H' o j l ho hb e => ?_⟩
  obtain ⟨⟨u, h1, k, l1, h2⟩, j2⟩ := add_j.mp j
  have nd : D ≠ p := fun c => h (c ▸ b.z)
  exact add_j.mpr ⟨⟨u, (e D (add_z.mpr (.inl rfl)) nd).trans h1, k, Nat.le_trans l1 l, h2⟩, b.to n m H H' o j2 l ho hb fun a z ne => e a (z_add a z) ne⟩
theorem BagJ.sub {H : Hp} (b : BagJ W.Z W.J p) : BagJ (W.sub H).Z (W.sub H).J p :=
  ⟨sub_zz.mpr b.z, fun n H j => b.is n H (sub_jj.mp j), fun n m H H' o j l ho hb e => sub_jj.mpr (b.to n m H H' o (sub_jj.mp j) l ho hb fun a z ne => e a (sub_zz.mpr z) ne)⟩
/-- a bag of one's own -/
theorem BagJ.own (w : Wok W.Z W.J) (h : ¬ W.Z p) : BagJ (W.add p IsBag).Z (W.add p IsBag).J p := by
  refine ⟨add_z.mpr (.inl rfl), fun n H j => ?_, fun n m H H' o j l ho hb e => ?_⟩
  · obtain ⟨o, h1, k, l, h2⟩ := (add_j.mp j).1
    exact ⟨o, h1, h2.up l⟩
  · refine add_j.mpr ⟨⟨o, ho, m, Nat.le_refl _, hb⟩, w.up n m H' (w.loc n H H' (add_j.mp j).2 fun a z => e a (z_add a z) fun c => h (c ▸ z)) l⟩
end

section
variable {X : Cx} {W : Wd} {Δ : List Sl} {m m1 m2 m3 : Nat} {tg e a b c : Expr} {es rest : List Expr} {A A1 A2 A3 : As W.Z} {L : List (As W.Z)} {P P1 P2 : Bool → Prop} {t ta tb : TE} {pos : Pos}
/-! ### calls of defs -/
variable {k : Nat} {f : Addr} {fd : FuncData} {ps : List Str} {x : Str} {p : Pos} {pre : List PyData → Prop} {post : List PyData → PyData → Prop}
theorem de_call {PR : PyData → Prop} (F : FnG X.prog X.w X.K X.mg X.base CX0 k f fd ps (spD pre post)) (gd : X.A.guards = some []) (rm : Room k X.A) (hg : Gl X x) (hm : X.mg x = some (.ref f)) (hk : PySem.W.keepIn X.K (.ref f) = true) (hb : Binds X.K fd ps [])
    (ha : DA X W Δ m (e :: es) L) (hA : ∀ H vs, Allo H L vs → ∃ ds, Das W.Z H vs ds ∧ pre ds ∧ ∀ d, post ds d → PR d)
    (h1 : (x == ("__debug__" : Str)) = false := by decide) (h2 : starEach (e :: es) X.env = (false, eval e X.env) :: starEach es X.env := by rfl) (h3 : (backTo pos (starEach es X.env)).any (·.1) = false := by rfl) :
    DE X W Δ m (.Call (.Name x p) (e :: es) [] pos) (dat W.Z PR) :=
  pe_to (pe_g F gd rm hg hm hk hb .nil pass0 ha h1 h2 h3) fun σ H Q ⟨n, l, k, z⟩ => ⟨n, l, k, fun vs H1 k1 q1 o1 => by
    obtain ⟨ds, hd, hp, hq⟩ := hA H1 vs o1
    refine ⟨W.Z, W.J, n + m, ds, k1.w, l, k1.j, by simpa using hd, hp, fun v H' d e j o q => z v H' (k1.kp e j) (q1.trans e) ⟨d, o, hq d q⟩⟩⟩
/-- .. in a def of which nothing is known of repr -/
theorem de_callO {PR : PyData → Prop} (F : FnOk X.prog X.w X.K X.mg X.base CX0 k f fd ps (spD pre post)) (rm : Room k X.A) (hg : Gl X x) (hm : X.mg x = some (.ref f)) (hk : PySem.W.keepIn X.K (.ref f) = true) (hb : Binds X.K fd ps [])
    (ha : DA X W Δ m (e :: es) L) (hA : ∀ H vs, Allo H L vs → ∃ ds, Das W.Z H vs ds ∧ pre ds ∧ ∀ d, post ds d → PR d)
    (h1 : (x == ("__debug__" : Str)) = false := by decide) (h2 : starEach (e :: es) X.env = (false, eval e X.env) :: starEach es X.env := by rfl) (h3 : (backTo pos (starEach es X.env)).any (·.1) = false := by rfl) :
    DE X W Δ m (.Call (.Name x p) (e :: es) [] pos) (dat W.Z PR) :=
  pe_to (pe_call F rm hg hm hk hb .nil pass0 ha h1 h2 h3) fun σ H Q ⟨n, l, k, z⟩ => ⟨n, l, k, fun vs H1 k1 q1 o1 => by
    obtain ⟨ds, hd, hp, hq⟩ := hA H1 vs o1
    refine ⟨W.Z, W.J, n + m, ds, k1.w, l, k1.j, by simpa using hd, hp, fun v H' d e j o q => z v H' (k1.kp e j) (q1.trans e) ⟨d, o, hq d q⟩⟩⟩
/-- a def that draws: the bag first -/
theorem de_draw {PR : PyData → Prop} {q : Addr} {cst : List PyData → Nat} {M : Nat} (F : FnG X.prog X.w X.K X.mg X.base CX0 k f fd ps (spB pre cst post)) (gd : X.A.guards = some []) (rm : Room k X.A) (hg : Gl X x) (hm : X.mg x = some (.ref f)) (hk : PySem.W.keepIn X.K (.ref f) = true) (hb : Binds X.K fd ps [])
    (B : BagJ W.Z W.J q) (h0 : DE X W Δ 0 e (raw W.Z (.ref q))) (ha : DA X W Δ m es L) (hA : ∀ H vs, Allo H L vs → ∃ ds, Das W.Z H vs ds ∧ pre ds ∧ cst ds ≤ M ∧ ∀ d, post ds d → PR d)
    (h1 : (x == ("__debug__" : Str)) = false := by decide) (h2 : starEach (e :: es) X.env = (false, eval e X.env) :: starEach es X.env := by rfl) (h3 : (backTo pos (starEach es X.env)).any (·.1) = false := by rfl) :
    DE X W Δ (m + M) (.Call (.Name x p) (e :: es) [] pos) (dat W.Z PR) :=
  pe_to (pe_g F gd rm hg hm hk hb .nil pass0 (da_cons h0 ha h2) h1 h2 h3) fun σ H Q ⟨n, l, k, z⟩ => ⟨n, by omega, k, fun vs H1 k1 q1 o1 => by
    cases o1 with
    | cons o1 o2 =>
      cases (show _ = V.ref q from o1)
      obtain ⟨ds, hd, hp, hc, hq⟩ := hA H1 _ o2
      have e0 : n + (0 + m) = n + m := by omega
      rw [e0] at k1
      refine ⟨W.Z, W.J, n + m, q, _, ds, k1.w, k1.j, B, by omega, by rw [List.append_nil], hd, hp, fun v H' d e j o r => z v H' ((k1.kp e j).up (by omega)) (q1.trans e) ⟨d, o, hq d r⟩⟩⟩
theorem allo1 {P : PyData → Prop} {H : Hp} {vs : List V} (h : Allo H [dat W.Z P] vs) : ∃ d, Das W.Z H vs [d] ∧ P d := by
  cases h with
  | cons a b =>
    cases b
    obtain ⟨d, h, p⟩ := a
    exact ⟨d, .cons h .nil, p⟩
theorem allo2 {P1 P2 : PyData → Prop} {H : Hp} {vs : List V} (h : Allo H [dat W.Z P1, dat W.Z P2] vs) : ∃ d1 d2, Das W.Z H vs [d1, d2] ∧ P1 d1 ∧ P2 d2 := by
  cases h with
  | cons a b =>
    obtain ⟨d, h, p⟩ := a
    obtain ⟨d2, h2, p2⟩ := allo1 b
    cases h2 with
    | cons h2 h3 => exact ⟨d, d2, .cons h (.cons h2 h3), p, p2⟩

/-! ### operators -/
theorem o_int {C : Int → Int → Prop} {g : Int → Int → Int} {i j : Int} (h : C i j) : Op2 W (rI C fun i j => .int (g i j)) (eqd W.Z (.int i)) (eqd W.Z (.int j)) (eqd W.Z (.int (g i j))) := fun n H v u w jj o1 o2 Q q => by
  have o1 := eqd_ok o1
  have o2 := eqd_ok o2
  cases o1
  cases o2
  exact ⟨i, j, rfl, rfl, h, q _ H Ext.refl (ok_eqd (.int _))⟩
theorem o_int0 {g : Int → Int → Int} {i j : Int} : Op2 W (rI0 fun i j => .int (g i j)) (eqd W.Z (.int i)) (eqd W.Z (.int j)) (eqd W.Z (.int (g i j))) := fun n H v u w jj o1 o2 Q q => by
  have o1 := eqd_ok o1
  have o2 := eqd_ok o2
  cases o1
  cases o2
  exact ⟨i, j, rfl, rfl, q _ H Ext.refl (ok_eqd (.int _))⟩
theorem o_cmp {g : Int → Int → Bool} {i j : Int} : Op2 W (rI0 fun i j => .bl (g i j)) (eqd W.Z (.int i)) (eqd W.Z (.int j)) (bol W.Z (· = g i j)) := fun n H v u w jj o1 o2 Q q => by
  have o1 := eqd_ok o1
  have o2 := eqd_ok o2
  cases o1
  cases o2
  exact ⟨i, j, rfl, rfl, q _ H Ext.refl ⟨_, rfl, rfl⟩⟩
theorem o_intp {C : Int → Int → Prop} {g : Int → Int → Int} {Q1 Q2 Q3 : Int → Prop} (h : ∀ i j, Q1 i → Q2 j → C i j ∧ Q3 (g i j)) : Op2 W (rI C fun i j => .int (g i j)) (intp W.Z Q1) (intp W.Z Q2) (intp W.Z Q3) := fun n H v u w jj o1 o2 Q q => by
  obtain ⟨_, d1, i, rfl, p1⟩ := o1
  obtain ⟨_, d2, j, rfl, p2⟩ := o2
  cases d1
  cases d2
  obtain ⟨h1, h2⟩ := h i j p1 p2
  exact ⟨i, j, rfl, rfl, h1, q _ H Ext.refl ⟨_, .int _, _, rfl, h2⟩⟩
theorem o_intp0 {g : Int → Int → Int} {Q1 Q2 Q3 : Int → Prop} (h : ∀ i j, Q1 i → Q2 j → Q3 (g i j)) : Op2 W (rI0 fun i j => .int (g i j)) (intp W.Z Q1) (intp W.Z Q2) (intp W.Z Q3) := fun n H v u w jj o1 o2 Q q => by
  obtain ⟨_, d1, i, rfl, p1⟩ := o1
  obtain ⟨_, d2, j, rfl, p2⟩ := o2
  cases d1
  cases d2
  exact ⟨i, j, rfl, rfl, q _ H Ext.refl ⟨_, .int _, _, rfl, h i j p1 p2⟩⟩
theorem o_cmpp {g : Int → Int → Bool} {Q1 Q2 : Int → Prop} {Q3 : Bool → Prop} (h : ∀ i j, Q1 i → Q2 j → Q3 (g i j)) : Op2 W (rI0 fun i j => .bl (g i j)) (intp W.Z Q1) (intp W.Z Q2) (bol W.Z Q3) := fun n H v u w jj o1 o2 Q q => by
  obtain ⟨_, d1, i, rfl, p1⟩ := o1
  obtain ⟨_, d2, j, rfl, p2⟩ := o2
  cases d1
  cases d2
  exact ⟨i, j, rfl, rfl, q _ H Ext.refl ⟨_, rfl, h i j p1 p2⟩⟩
/-- ** of a wide base -/
def CPowW (i j : Int) : Prop := 0 ≤ j ∧ j ≤ 1000 ∧ i.natAbs < 2 ^ 1000
theorem bits_le {i : Int} {a : Nat} (h0 : 0 < a) (h : i.natAbs < 2 ^ a) : Builtin.Int.intBits i ≤ a := by
  have := PySem.Flt.log2_lt_of h0 h
  unfold Builtin.Int.intBits
  split <;> omega
theorem op_powW : OpR X (binaryOp .Pow) (rI CPowW fun i j => .int (i ^ j.toNat)) := opI fun i j _ _ _ _ _ hc q => pow_int hc.1 (by
  have h := bits_le (by decide : 0 < 1000) hc.2.2
  have h1 := hc.1
  have h2 := hc.2.1
  have : (Builtin.Int.intBits i : Int) * j ≤ 1000 * 1000 := Int.mul_le_mul (by omega) h2 h1 (by omega)
  have e : (2 : Int) ^ 27 = 134217728 := by decide
  omega) q
/-- list + list -/
theorem o_cat {xs ys : List PyData} (h : xs.length + ys.length ≤ sizeLine) : Op2 W rCat (eqd W.Z (.list xs)) (eqd W.Z (.list ys)) (eqd W.Z (.list (xs ++ ys))) := fun n H v u w jj o1 o2 Q q => by
  have o1 := eqd_ok o1
  have o2 := eqd_ok o2
  cases o1 with
  | lst r1 n1 d1 =>
    cases o2 with
    | lst r2 n2 d2 =>
      refine ⟨_, _, _, _, rfl, rfl, r1, r2, by rw [d1.length, d2.length]; exact h, fun p hp => q _ _ (Ext.new hp) (ok_eqd (.lst upd_same (w.new jj hp) ((d1.append d2).kp (Ext.new hp).kp)))⟩
theorem o_catp {Q1 Q2 Q3 : List PyData → Prop} (h : ∀ xs ys, Q1 xs → Q2 ys → xs.length + ys.length ≤ sizeLine ∧ Q3 (xs ++ ys)) : Op2 W rCat (dat W.Z fun d => ∃ xs, d = .list xs ∧ Q1 xs) (dat W.Z fun d => ∃ xs, d = .list xs ∧ Q2 xs) (dat W.Z fun d => ∃ xs, d = .list xs ∧ Q3 xs) :=
  fun n H v u w jj o1 o2 Q q => by
  obtain ⟨_, o1, xs, rfl, p1⟩ := o1
  obtain ⟨_, o2, ys, rfl, p2⟩ := o2
  obtain ⟨hl, h3⟩ := h xs ys p1 p2
  exact o_cat hl n H v u w jj (ok_eqd o1) (ok_eqd o2) Q fun w H' e o => q w H' e ⟨_, eqd_ok o, _, rfl, h3⟩
/-- text + text -/
theorem o_catS {a b : Str} (h : a.length + b.length ≤ sizeLine) : Op2 W (fun x y H Q => ∃ i j, x = .str i ∧ y = .str j ∧ i.length + j.length ≤ sizeLine ∧ Q (.str (i ++ j)) H) (eqd W.Z (.str a)) (eqd W.Z (.str b)) (eqd W.Z (.str (a ++ b))) := fun n H v u w jj o1 o2 Q q => by
  have o1 := eqd_ok o1
  have o2 := eqd_ok o2
  cases o1
  cases o2
  exact ⟨a, b, rfl, rfl, h, q _ H Ext.refl (ok_eqd (.str _))⟩
/-- ==, != of data without dicts -/
theorem o_eq {K : PySem.W.Frag} {d e : PyData} (hd : SeqAt.shaped d = true) (he : SeqAt.shaped e = true) : Op2 W (rEqD K) (eqd W.Z d) (eqd W.Z e) (bol W.Z (· = PyData.eqv d e)) := fun n H v u w jj o1 o2 Q q => by
  have lay : ∀ {x : PyData}, SeqAt.shaped x = true → x.hasDict = false := fun h => PyData.hasDict_of_canLay _ (SeqAt.canLay_of_shaped h)
  exact ⟨d, e, (eqd_ok o1).dp (lay hd), (eqd_ok o2).dp (lay he), hd, he, q _ H Ext.refl ⟨_, rfl, rfl⟩⟩
theorem o_ne {K : PySem.W.Frag} {d e : PyData} (hd : SeqAt.shaped d = true) (he : SeqAt.shaped e = true) : Op2 W (rNeD K) (eqd W.Z d) (eqd W.Z e) (bol W.Z (· = !PyData.eqv d e)) := fun n H v u w jj o1 o2 Q q => by
  have lay : ∀ {x : PyData}, SeqAt.shaped x = true → x.hasDict = false := fun h => PyData.hasDict_of_canLay _ (SeqAt.canLay_of_shaped h)
  exact ⟨d, e, (eqd_ok o1).dp (lay hd), (eqd_ok o2).dp (lay he), hd, he, q _ H Ext.refl ⟨_, rfl, rfl⟩⟩
/-- a sign in a text -/
theorem o_in {x : Nat} {z : Str} : Op2 W rInS (eqd W.Z (.str ⟨#[x]⟩)) (eqd W.Z (.str z)) (bol W.Z (· = decide (x ∈ z.cps.toList))) := fun n H v u w jj o1 o2 Q q => by
  have o1 := eqd_ok o1
  have o2 := eqd_ok o2
  cases o1
  cases o2
  exact ⟨x, z, rfl, rfl, q _ H Ext.refl ⟨_, rfl, rfl⟩⟩
theorem o_notin {x : Nat} {z : Str} : Op2 W rNotInS (eqd W.Z (.str ⟨#[x]⟩)) (eqd W.Z (.str z)) (bol W.Z (· = !decide (x ∈ z.cps.toList))) := fun n H v u w jj o1 o2 Q q => by
  have o1 := eqd_ok o1
  have o2 := eqd_ok o2
  cases o1
  cases o2
  exact ⟨x, z, rfl, rfl, q _ H Ext.refl ⟨_, rfl, rfl⟩⟩
/-- xs[i] -/
theorem ix_das {Z : Addr → Prop} {H : Hp} {vs : List V} {ds : List PyData} {i : Int} {d : PyData} (h : Das Z H vs ds) (e : atI ds i = some d) : ∃ v, atI vs i = some v ∧ Da Z H v d := by
  unfold atI at e ⊢
  rw [h.length]
  match q : ixN ds.length i with
  | none =>
    rw [q] at e
    cases e
  | some j =>
    rw [q] at e
    exact h.get e
theorem o_ixL {K : PySem.W.Frag} {ds : List PyData} {Qi : Int → Prop} {R : PyData → Prop} (h : ∀ i, Qi i → ∃ d, atI ds i = some d ∧ R d) : Op2 W (rIxL K) (eqd W.Z (.list ds)) (intp W.Z Qi) (dat W.Z R) := fun n H v u w jj o1 o2 Q q => by
  have o1 := eqd_ok o1
  obtain ⟨_, o2, i, rfl, p⟩ := o2
  cases o2
  cases o1 with
  | lst r1 n1 d1 =>
    obtain ⟨d, h1, h2⟩ := h i p
    obtain ⟨v, h3, h4⟩ := ix_das d1 h1
    exact ⟨_, _, i, v, rfl, rfl, .inl (.inl r1), h3, q v H Ext.refl ⟨d, h4, h2⟩⟩
theorem de_ix {r : R2} (hr : IxR X r) (ha : DE X W Δ m1 a A1) (hb : DE X W Δ m2 b A2) (h : Op2 W r A1 A2 A3) (hs : PlainIx b) : DE X W Δ (m1 + m2) (.Subscript a b pos) A3 :=
  pe_to (pe_ix hr ha hb hs) fun σ H Q ⟨n, l, k, z⟩ => ⟨n, big1 l, k, fun v H1 k1 q1 o1 => ⟨n + m1, big2 l, k1, fun u H2 k2 q2 o2 => h _ H2 v u k2.w k2.j (A1.mono q2 o1) o2 Q fun w H3 e o => z w H3 (k2.as.ext e) ((q1.trans q2).trans e.kp) o⟩⟩
/-- a slice's ends -/
def tDO (W : Wd) (Δ : List Sl) (c : Nat) (P : Option Int → Prop) : TO := fun σ H Q => ∃ n, n + c ≤ BIG ∧ Ok W n Δ σ H ∧ ∀ o H', Ok W (n + c) Δ σ H' → Kp W.Z H H' → P o → Q o H'
theorem do_none : PO X none (tDO W Δ 0 (· = none)) := ⟨fun pins s σ H Q I ⟨n, l, k, z⟩ => po_none.run pins s σ H Q I (z none H k Kp.refl rfl)⟩
theorem do_some {Qi : Int → Prop} (h : DE X W Δ m e (intp W.Z Qi)) : PO X (some e) (tDO W Δ m fun o => ∃ i, o = some i ∧ Qi i) :=
  ⟨fun pins s σ H Q I ⟨n, l, k, z⟩ => (po_some h).run pins s σ H Q I ⟨n, l, k, fun v H1 k1 q1 o1 => by
    obtain ⟨_, o, i, rfl, p⟩ := o1
    cases o
    exact ⟨i, rfl, z _ H1 k1 q1 ⟨i, rfl, p⟩⟩⟩⟩
def cutD (xs : List PyData) (lo hi : Option Int) : List PyData := (xs.drop (HT.sIx xs.length 0 lo)).take (HT.sIx xs.length xs.length hi - HT.sIx xs.length 0 lo)
theorem cut_das {Z : Addr → Prop} {H : Hp} {vs : List V} {ds : List PyData} (lo hi : Option Int) (h : Das Z H vs ds) : Das Z H (cutV vs lo hi) (cutD ds lo hi) := by
  unfold cutV cutD
  rw [h.length]
  exact (h.drop _).take _
theorem de_slL {lo hi : Option Expr} {p2 : Pos} {Po Ph : Option Int → Prop} {ds : List PyData} {R : PyData → Prop} (he : DE X W Δ m1 e (eqd W.Z (.list ds))) (hl : PO X lo (tDO W Δ m2 Po)) (hu : PO X hi (tDO W Δ m3 Ph)) (hR : ∀ x y, Po x → Ph y → R (.list (cutD ds x y))) :
    DE X W Δ (m1 + (m2 + m3)) (.Subscript e (.Slice lo hi none p2) pos) (dat W.Z R) :=
  pe_to (pe_slice sl_list he hl hu) fun σ H Q ⟨n, l, k, z⟩ => ⟨n, big1 l, k, fun v H1 k1 q1 o1 => ⟨n + m1, by omega, k1, fun x H2 k2 q2 px => ⟨n + m1 + m2, by omega, k2, fun y H3 k3 q3 py => by
    have o := eqd_ok ((eqd W.Z (.list ds)).mono (q2.trans q3) o1)
    cases o with
    | lst r nz hd =>
      exact ⟨_, _, rfl, .inl (.inl r), fun p hp => z _ _ ((k3.ext (.new hp)).up (by omega)) (((q1.trans q2).trans q3).trans (Ext.new hp).kp) ⟨_, .lst upd_same (k3.w.new k3.j hp) ((cut_das x y hd).kp (Ext.new hp).kp), hR x y px py⟩⟩⟩⟩⟩

/-! ### built-ins -/
theorem allo_1 {A : As W.Z} {H : Hp} {vs : List V} (h : Allo H [A] vs) : ∃ v, vs = [v] ∧ A.ok H v := by
  cases h with
  | cons a b =>
    cases b
    exact ⟨_, rfl, a⟩
theorem allo_2 {A B : As W.Z} {H : Hp} {vs : List V} (h : Allo H [A, B] vs) : ∃ v u, vs = [v, u] ∧ A.ok H v ∧ B.ok H u := by
  cases h with
  | cons a b =>
    obtain ⟨u, rfl, h2⟩ := allo_1 b
    exact ⟨_, u, rfl, a, h2⟩
/-- the length of data -/
def lenD : PyData → Option Nat
  | .list xs => some xs.length
  | .tuple xs => some xs.length
  | .str x => if x.length ≤ sizeLine then some x.length else none
  | _ => none
theorem c_len {K : PySem.W.Frag} {d : PyData} {k : Nat} (h : lenD d = some k) : Cal W (fun xs H Q => ∃ x n, xs = [x] ∧ LenV K x H n ∧ Q (.int n) H) [eqd W.Z d] (eqd W.Z (.int k)) := fun n H vs w jj o Q q => by
  obtain ⟨v, rfl, o'⟩ := allo_1 o
  have o := eqd_ok o'
  cases o with
  | lst r nz hd =>
    cases (show some _ = some k from h)
    exact ⟨_, _, rfl, .inl ⟨_, .inl (.inl r), rfl⟩, by rw [hd.length]; exact q _ H Ext.refl (ok_eqd (.int _))⟩
  | tup r nz hd =>
    cases (show some _ = some k from h)
    exact ⟨_, _, rfl, .inr ⟨_, .inl (.inl r), rfl⟩, by rw [hd.length]; exact q _ H Ext.refl (ok_eqd (.int _))⟩
  | str x =>
    have h' : (if x.length ≤ sizeLine then some x.length else none) = some k := h
    by_cases hz : x.length ≤ sizeLine
    · rw [if_pos hz] at h'
      cases h'
      exact ⟨_, _, rfl, ⟨hz, rfl⟩, q _ H Ext.refl (ok_eqd (.int _))⟩
    · rw [if_neg hz] at h'
      cases h'
  | _ => cases h
/-- the class of data, by its name -/
def tyD : PyData → String
  | .none => "NoneType"
  | .bool _ => "bool"
  | .int _ => "int"
  | .str _ => "str"
  | .list _ => "list"
  | .tuple _ => "tuple"
  | .dict _ => "dict"
theorem ty_da {K : PySem.W.Frag} {Z : Addr → Prop} {H : Hp} {v : V} {d : PyData} (h : Da Z H v d) : TyX K H v (.type (tyD d)) := by
  cases h with
  | non => exact .base .non
  | bl b => exact .base (.bl b)
  | int i => exact .base (.int i)
  | str x => exact .base (.str x)
  | lst r _ _ => exact .base (.lst r)
  | tup r _ _ => exact .base (.tup r)
  | dct r _ _ _ => exact .base (.dK r)
theorem c_isi {K : PySem.W.Frag} {d : PyData} {T : String} {b : Bool} (h : kitB (tyD d) T = some b) : Cal W (rIsi K) [eqd W.Z d, raw W.Z (.ty T)] (eqd W.Z (.bool b)) := fun n H vs w jj o Q q => by
  obtain ⟨v, u, rfl, o1, rfl⟩ := allo_2 o
  exact ⟨v, .ty T, .type (tyD d), .type T, b, rfl, .ty T, ty_da (eqd_ok o1), kit_ty h, q _ H Ext.refl (ok_eqd (.bl _))⟩
theorem c_all {K : PySem.W.Frag} {bs : List Bool} : Cal W (rAll K) [eqd W.Z (.list (bs.map PyData.bool))] (eqd W.Z (.bool (bs.all id))) := fun n H vs w jj o Q q => by
  obtain ⟨v, rfl, o'⟩ := allo_1 o
  have o := eqd_ok o'
  cases o with
  | lst r nz hd =>
    have e := hd.bls
    subst e
    exact ⟨_, bs, rfl, .inl (.inl r), q _ H Ext.refl (ok_eqd (.bl _))⟩
theorem c_abs {i : Int} : Cal W (fun xs H Q => ∃ i, xs = [.int i] ∧ Q (.int (if i < 0 then -i else i)) H) [eqd W.Z (.int i)] (eqd W.Z (.int (if i < 0 then -i else i))) := fun n H vs w jj o Q q => by
  obtain ⟨v, rfl, o'⟩ := allo_1 o
  have o := eqd_ok o'
  cases o
  exact ⟨i, rfl, q _ H Ext.refl (ok_eqd (.int _))⟩
theorem c_max2 {i j : Int} : Cal W (fun xs H Q => ∃ i j, xs = [.int i, .int j] ∧ Q (.int (if j > i then j else i)) H) [eqd W.Z (.int i), eqd W.Z (.int j)] (eqd W.Z (.int (if j > i then j else i))) := fun n H vs w jj o Q q => by
  obtain ⟨v, u, rfl, o1, o2⟩ := allo_2 o
  have o1 := eqd_ok o1
  have o2 := eqd_ok o2
  cases o1
  cases o2
  exact ⟨i, j, rfl, q _ H Ext.refl (ok_eqd (.int _))⟩
theorem c_min2 {i j : Int} : Cal W (fun xs H Q => ∃ i j, xs = [.int i, .int j] ∧ Q (.int (if j < i then j else i)) H) [eqd W.Z (.int i), eqd W.Z (.int j)] (eqd W.Z (.int (if j < i then j else i))) := fun n H vs w jj o Q q => by
  obtain ⟨v, u, rfl, o1, o2⟩ := allo_2 o
  have o1 := eqd_ok o1
  have o2 := eqd_ok o2
  cases o1
  cases o2
  exact ⟨i, j, rfl, q _ H Ext.refl (ok_eqd (.int _))⟩
/-- tuple(list) -/
theorem c_tuple {K : PySem.W.Frag} {ds : List PyData} : Cal W (fun xs H Q => ∃ p ys, xs = [.ref p] ∧ ((SqL K H p ys ∧ ∀ l, H l = none → Q (.ref l) (upd H l (.tup ys))) ∨ (SqT K H p ys ∧ Q (.ref p) H))) [eqd W.Z (.list ds)] (eqd W.Z (.tuple ds)) := fun n H vs w jj o Q q => by
  obtain ⟨v, rfl, o'⟩ := allo_1 o
  have o := eqd_ok o'
  cases o with
  | lst r nz hd => exact ⟨_, _, rfl, .inl ⟨.inl (.inl r), fun l hl => q _ _ (Ext.new hl) (ok_eqd (.tup upd_same (w.new jj hl) (hd.kp (Ext.new hl).kp)))⟩⟩
/-- list(list), list(tuple) -/
theorem c_list {K : PySem.W.Frag} {ds : List PyData} {d : PyData} (hd : d = .list ds ∨ d = .tuple ds) : Cal W (fun xs H Q => ∃ p ys, xs = [.ref p] ∧ (SqL K H p ys ∨ SqT K H p ys) ∧ ∀ l, H l = none → Q (.ref l) (upd H l (.lst ys))) [eqd W.Z d] (eqd W.Z (.list ds)) := fun n H vs w jj o Q q => by
  obtain ⟨v, rfl, o'⟩ := allo_1 o
  have o := eqd_ok o'
  rcases hd with rfl | rfl
  · cases o with
    | lst r nz h => exact ⟨_, _, rfl, .inl (.inl (.inl r)), fun l hl => q _ _ (Ext.new hl) (ok_eqd (.lst upd_same (w.new jj hl) (h.kp (Ext.new hl).kp)))⟩
  · cases o with
    | tup r nz h => exact ⟨_, _, rfl, .inr (.inl (.inl r)), fun l hl => q _ _ (Ext.new hl) (ok_eqd (.lst upd_same (w.new jj hl) (h.kp (Ext.new hl).kp)))⟩
theorem c_repr {d : PyData} (h1 : d.showable = true) (h2 : d.shown.length ≤ sizeLine) (h3 : d.depth ≤ 60) : Cal W rRepr [eqd W.Z d] (eqd W.Z (.str d.shown)) := fun n H vs w jj o Q q => by
  obtain ⟨v, rfl, o'⟩ := allo_1 o
  exact ⟨W.Z, v, d, rfl, eqd_ok o', h1, h2, h3, q _ H Ext.refl (ok_eqd (.str _))⟩
/-- sep.join(list of texts) -/
theorem de_join {o : Expr} {apos : Pos} {z : Str} {R : PyData → Prop} {Ql : List Str → Prop} (ho : DE X W Δ m1 o (eqd W.Z (.str z))) (he : DE X W Δ m2 e (dat W.Z fun d => ∃ ys, d = .list (ys.map PyData.str) ∧ Ql ys)) (hz : ∀ ys, Ql ys → (ys.map (·.length)).sum + ys.length * z.length ≤ 16777216)
    (hR : ∀ ys, Ql ys → R (.str (Txt.join z ys))) (hs : starEach [e] X.env = [(false, eval e X.env)] := by rfl) (hbase : attributeBase o "join" X.env (eval o X.env) = eval o X.env := by rfl) (hline : (apos.endLine == pos.line) = true := by rfl) :
    DE X W Δ (m1 + m2) (.Call (.Attribute o "join" apos) [e] [] pos) (dat W.Z R) :=
  pe_to (pe_join ho he hs hbase hline) fun σ H Q ⟨n, l, k, f⟩ => ⟨n, big1 l, k, fun v H1 k1 q1 o1 => by
    have o := eqd_ok o1
    cases o
    refine ⟨⟨z, rfl⟩, n + m1, big2 l, k1, fun u H2 k2 q2 o2 => ?_⟩
    obtain ⟨_, hd, ys, rfl, hq⟩ := o2
    cases hd with
    | lst r nz hd =>
      have e := hd.strs
      subst e
      exact ⟨z, _, ys, rfl, rfl, .inl (.inl (.inl r)), hz ys hq, f _ H2 k2.as (q1.trans q2) ⟨_, .str _, hR ys hq⟩⟩⟩

/-! ### statements -/
def HSt (D : Ends) (pre : L2.St → Hp → Prop) : TS := fun D' σ H => pre σ H ∧ (∀ σ H, D.nx σ H → D'.nx σ H) ∧ (∀ v H, D.rt v H → D'.rt v H) ∧ (∀ σ H, D.bk σ H → D'.bk σ H) ∧ (∀ σ H, D.ct σ H → D'.ct σ H)
abbrev HS (X : Cx) (pre : L2.St → Hp → Prop) (sts : List Stmt) (D : Ends) : Prop := PSs X sts (HSt D pre)
abbrev H1 (X : Cx) (pre : L2.St → Hp → Prop) (st : Stmt) (D : Ends) : Prop := PS X st (HSt D pre)
variable {D : Ends} {st : Stmt} {sts : List Stmt} {pr mid : L2.St → Hp → Prop} {N : Nat}
theorem hs_pre {pr' : L2.St → Hp → Prop} (h : HS X pr sts D) (f : ∀ σ H, pr' σ H → pr σ H) : HS X pr' sts D := pss_to h fun _ _ _ z => ⟨f _ _ z.1, z.2⟩
theorem hs_ex {α : Type} {pr : α → L2.St → Hp → Prop} (h : ∀ a, HS X (pr a) sts D) : HS X (fun σ H => ∃ a, pr a σ H) sts D := ⟨fun pins s σ H D' I z => by
  obtain ⟨⟨a, z1⟩, z2⟩ := z
  exact (h a).run pins s σ H D' I ⟨z1, z2⟩⟩
theorem hs_and {p : Prop} (h : p → HS X pr sts D) : HS X (fun σ H => p ∧ pr σ H) sts D := ⟨fun pins s σ H D' I z => by
  obtain ⟨⟨a, z1⟩, z2⟩ := z
  exact (h a).run pins s σ H D' I ⟨z1, z2⟩⟩
theorem hs_nil (h : ∀ σ H, pr σ H → D.nx σ H) : HS X pr [] D := pss_to pss_nil fun _ _ _ z => z.2.1 _ _ (h _ _ z.1)
theorem hs_cons (h1 : H1 X pr st { D with nx := mid }) (h2 : HS X mid sts D) : HS X pr (st :: sts) D := pss_to (pss_cons h1 h2) fun D' σ H z => ⟨z.1, fun σ1 H1 m => ⟨m, z.2⟩, z.2.2⟩
theorem hs_one (h1 : H1 X pr st D) : HS X pr [st] D := pss_to (pss_one h1) fun _ _ _ z => z
/-- x = e, e known exactly -/
theorem hs_set {i : Nat} {y : Str} {pos' : Pos} {d : PyData} (hN : X.N.Nodup) (hi : X.N[i]? = some y) (hx : Loc X.env.scope y) (he : DE X W Δ m e (eqd W.Z d)) (hb : N + m ≤ BIG) (hr : HS X (Ok W (N + m) (Δ.set i (.val d))) sts D)
    (hs : swapsWith e (some (.Name y pos')) pos.line X.env = pure false := by rfl) (hf : X.fn y = true ∨ X.env.scope.names.lookup y = some .local := by first | exact .inl rfl | exact .inr rfl | assumption) : HS X (Ok W N Δ) (.Assign [.Name y pos'] e pos :: sts) D :=
  hs_cons (ps_to (ps_set hN hi hx he hs hf) fun D' σ H z => ⟨N, hb, z.1, fun v H1 k q o => z.2.1 _ _ (k.put i (s := .val d) ⟨v, rfl, eqd_ok o⟩)⟩) hr
/-- x = e, e data with P -/
theorem hs_setP {i : Nat} {y : Str} {pos' : Pos} {Pd : PyData → Prop} (hN : X.N.Nodup) (hi : X.N[i]? = some y) (hx : Loc X.env.scope y) (he : DE X W Δ m e (dat W.Z Pd)) (hb : N + m ≤ BIG) (hr : ∀ d, Pd d → HS X (Ok W (N + m) (Δ.set i (.val d))) sts D)
    (hs : swapsWith e (some (.Name y pos')) pos.line X.env = pure false := by rfl) (hf : X.fn y = true ∨ X.env.scope.names.lookup y = some .local := by first | exact .inl rfl | exact .inr rfl | assumption) : HS X (Ok W N Δ) (.Assign [.Name y pos'] e pos :: sts) D :=
  hs_cons (mid := fun σ H => ∃ d, Pd d ∧ Ok W (N + m) (Δ.set i (.val d)) σ H) (ps_to (ps_set hN hi hx he hs hf) fun D' σ H z => ⟨N, hb, z.1, fun v H1 k q o => by
    obtain ⟨d, o, p⟩ := o
    exact z.2.1 _ _ ⟨d, p, k.put i (s := .val d) ⟨v, rfl, o⟩⟩⟩) (hs_ex fun d => hs_and (hr d))
/-- return e -/
theorem hs_ret (he : DE X W Δ m e A) (hb : N + m ≤ BIG) (hr : ∀ v σ H, Ok W (N + m) Δ σ H → A.ok H v → D.rt v H) : HS X (Ok W N Δ) (.Return (some e) pos :: sts) D :=
  hs_cons (mid := fun _ _ => False) (ps_to (ps_ret he) fun D' σ H z => ⟨N, hb, z.1, fun v H1 k q o => z.2.2.1 _ _ (hr v σ H1 k o)⟩) ⟨fun _ _ _ _ _ _ z => z.1.elim⟩
/-- if c: (leaves); the rest -/
theorem hs_guard {b1 : List Stmt} (ht : DT X W Δ m c P) (hb : N + m ≤ BIG) (h1 : P true → HS X (Ok W (N + m) Δ) b1 { D with nx := fun _ _ => False }) (h2 : P false → HS X (Ok W (N + m) Δ) sts D) : HS X (Ok W N Δ) (.If c b1 [] pos :: sts) D := by
  have t1 : PSs X b1 (HSt { D with nx := fun _ _ => False } fun σ H => P true ∧ Ok W (N + m) Δ σ H) := hs_and h1
  refine hs_cons (mid := fun σ H => P false ∧ Ok W (N + m) Δ σ H) (ps_to (ps_if ht t1 pss_nil) fun D' σ H z => ⟨N, hb, z.1, fun x H1 k q p => ?_⟩) (hs_and h2)
  cases x with
  | true => exact ⟨⟨p, k⟩, fun _ _ f => f.elim, z.2.2⟩
  | false => exact z.2.1 _ _ ⟨p, k⟩
/-- if c: b1 else: b2; the rest from mid -/
theorem hs_if {b1 b2 : List Stmt} (ht : DT X W Δ m c P) (hb : N + m ≤ BIG) (h1 : P true → HS X (Ok W (N + m) Δ) b1 { D with nx := mid }) (h2 : P false → HS X (Ok W (N + m) Δ) b2 { D with nx := mid }) (hr : HS X mid sts D) : HS X (Ok W N Δ) (.If c b1 b2 pos :: sts) D := by
  have t1 : PSs X b1 (HSt { D with nx := mid } fun σ H => P true ∧ Ok W (N + m) Δ σ H) := hs_and h1
  have t2 : PSs X b2 (HSt { D with nx := mid } fun σ H => P false ∧ Ok W (N + m) Δ σ H) := hs_and h2
  refine hs_cons (mid := mid) (ps_to (ps_if ht t1 t2) fun D' σ H z => ⟨N, hb, z.1, fun x H1 k q p => ?_⟩) hr
  cases x with
  | true => exact ⟨⟨p, k⟩, z.2⟩
  | false => exact ⟨⟨p, k⟩, z.2⟩
def forB (W : Wd) (Ni : Nat → Nat) (Γ : List PyData → Nat → List Sl) (j : Nat) (Ps : List PyData → Prop) (rt : VK) : TS := fun D' σ H' => ∃ H xs i d, Kp W.Zb W.H0 H ∧ Ps xs ∧ xs[i]? = some d ∧
  HSt { nx := Ok (W.sub H) (Ni (i + 1)) (Γ xs (i + 1)), ct := Ok (W.sub H) (Ni (i + 1)) (Γ xs (i + 1)), bk := fun _ _ => False, rt := rt } (Ok (W.sub H) (Ni i) ((Γ xs i).set j (.val d))) D' σ H'
/-- a for over what is gone over: the slots Γ i behind i items, at most N i draws -/
theorem hs_for {iter : Expr} {body : List Stmt} {x : Str} {px : Pos} {j : Nat} {Ps : List PyData → Prop} {Γ : List PyData → Nat → List Sl} {Ni : Nat → Nat} (hp : PassesOwn (model X.prog X.w) X.A X.env X.xe) (hc : X.calm = true)
    (hi : DI X W Δ m (.Name x px) iter Ps) (hb : N + m ≤ BIG) (hx : PG X (.Name x px) (gName j))
    (h0 : ∀ xs, Ps xs → Less (Γ xs 0) Δ) (hN0 : N + m ≤ Ni 0)
    (hs : ∀ (H : Hp) xs i d, Kp W.Zb W.H0 H → Ps xs → xs[i]? = some d → HS X (Ok (W.sub H) (Ni i) ((Γ xs i).set j (.val d))) body { nx := Ok (W.sub H) (Ni (i + 1)) (Γ xs (i + 1)), ct := Ok (W.sub H) (Ni (i + 1)) (Γ xs (i + 1)), bk := fun _ _ => False, rt := D.rt })
    (hr : ∀ xs, Ps xs → HS X (Ok W (Ni xs.length) (Γ xs xs.length)) sts D)
    (hf : ∀ x, foldedSetIterable iter X.env x = pure x := by intro _; rfl) : HS X (Ok W N Δ) (.For (.Name x px) iter body [] pos :: sts) D := by
  have tb : PSs X body (forB W Ni Γ j Ps D.rt) :=
    ⟨fun pins s σ H' D' I ⟨H, xs, i, d, p0, p1, p2, z⟩ => (hs H xs i d p0 p1 p2).run pins s σ H' D' I z⟩
  refine hs_cons (mid := fun σ H => ∃ xs, Ps xs ∧ Ok W (Ni xs.length) (Γ xs xs.length) σ H) (ps_to (ps_for hp hc hi hx tb hf) fun D' σ H z => ⟨N, hb, z.1, fun J H1 xs k1 q1 pxs sr => ?_⟩) (hs_ex fun xs => hs_and (hr xs))
  obtain ⟨G, Y, wk, hG, hY⟩ := sr.ex
  let Pv : Nat → L2.St → Hp → Prop := fun i τ H' => Ok W (Ni i) (Γ xs i) τ H' ∧ Kp W.Z H1 H'
  refine for_it (g := gName j) (tb := forB W Ni Γ j Ps D.rt) wk Pv ⟨(k1.up hN0).less (h0 xs pxs), Kp.refl⟩ (fun i τ H' _ p => hG W.Z H' (fun a y => .inl y) p.2) (fun i x0 τ H2 H3 hi p y => ?_) (fun τ H' p => z.2.1 _ _ ⟨xs, pxs, p.1⟩)
  obtain ⟨e3, d, hxd, hda⟩ := hY W.Z i H2 x0 H3 (fun a y => .inl y) p.2 (fun a y => p.1.w.alive _ H2 a p.1.j y) hi y
  have k3 := (p.1.ext e3).put j (s := .val d) ⟨x0, rfl, hda⟩
  refine ⟨H3, xs, i, d, k3.kept, pxs, hxd, k3.sub, fun τ' H' k' => ?_, fun v H' r => z.2.2.1 v H' r, fun _ _ f => f.elim, fun τ' H' k' => ?_⟩
  · exact ⟨k3.unsub k', (p.2.trans e3.kp).trans k'.kept⟩
  · exact ⟨k3.unsub k', (p.2.trans e3.kp).trans k'.kept⟩
end
end Dv
set_option maxRecDepth 100000
set_option maxHeartbeats 2000000
/-! Dv6: how a def keeps its promise; the bag made; the law's frame. -/
namespace Dv
open PySem PySem.Spec PyProof.Rows L2

/-- the slots at the entry -/
def slots (N : List Str) (ss : List Sl) : List Sl := ss ++ List.replicate (N.length - ss.length) .no
theorem rep_ok {Z : Addr → Prop} {H : Hp} : ∀ n : Nat, Paired (SlOk Z H) (List.replicate n .no) (List.replicate n none)
  | 0 => .nil
  | n + 1 => .cons trivial (rep_ok n)
theorem papp {α β : Type} {F : α → β → Prop} : ∀ {l l' : List α} {m m' : List β}, Paired F l m → Paired F l' m' → Paired F (l ++ l') (m ++ m')
  | _, _, _, _, .nil, s => s
  | _, _, _, _, .cons r t, s => .cons r (papp t s)
theorem start_ok {Z : Addr → Prop} {H : Hp} {N : List Str} {ss : List Sl} {xs : List V} (h : Paired (SlOk Z H) ss (xs.map some)) : Paired (SlOk Z H) (slots N ss) (L2.start N xs) := by
  have e : ss.length = xs.length := by
    have := h.length
    rwa [List.length_map] at this
  unfold slots L2.start
  rw [e]
  exact papp h (rep_ok _)
theorem das_sl {Z : Addr → Prop} {H : Hp} : ∀ {xs : List V} {ds : List PyData}, Das Z H xs ds → Paired (SlOk Z H) (ds.map Sl.val) (xs.map some)
  | _, _, .nil => .nil
  | _, _, .cons h t => .cons ⟨_, rfl, h⟩ (das_sl t)
def Wd.at (Z : Addr → Prop) (J : Nat → Hp → Prop) (H : Hp) : Wd := ⟨Z, J, H, []⟩
theorem at_z {Z : Addr → Prop} {J : Nat → Hp → Prop} {H : Hp} {a : Addr} : (Wd.at Z J H).Z a ↔ Z a := ⟨fun z => Or.elim z id (fun ⟨_, m, _⟩ => nomatch m), fun z => Or.inl z⟩
theorem at_j {Z : Addr → Prop} {J : Nat → Hp → Prop} {H H' : Hp} {n : Nat} : (Wd.at Z J H).J n H' ↔ J n H' := ⟨fun z => z.1, fun z => ⟨z, fun _ m => nomatch m⟩⟩
theorem at_ok {Z : Addr → Prop} {J : Nat → Hp → Prop} {H : Hp} {n : Nat} {N : List Str} {ss : List Sl} {xs : List V} (w : Wok Z J) (j : J n H) (h : Paired (SlOk Z H) ss (xs.map some)) : Ok (Wd.at Z J H) n (slots N ss) (L2.start N xs) H :=
  ⟨w, at_j.mpr j, start_ok (pmono (fun _ _ => SlOk.mono Kp.refl fun a z => .inl (at_z.mp z)) h), Kp.refl, List.nodup_nil, fun _ m => nomatch m⟩
/-- what is wanted at a return -/
def RT (Z : Addr → Prop) (J : Nat → Hp → Prop) (H : Hp) (n : Nat) (P : PyData → Prop) : VK := fun v H' => ∃ d, Kp Z H H' ∧ J n H' ∧ Da Z H' v d ∧ P d
theorem rt_at {Z : Addr → Prop} {J : Nat → Hp → Prop} {H H' : Hp} {n n' : Nat} {P : PyData → Prop} {Δ : List Sl} {σ : L2.St} {v : V} (k : Ok (Wd.at Z J H) n' Δ σ H') (o : (dat (Wd.at Z J H).Z P).ok H' v) (l : n' ≤ n) : RT Z J H n P v H' := by
  obtain ⟨d, o, p⟩ := o
  exact ⟨d, k.kept, k.wb.up _ _ _ k.j.1 l, o.mono Kp.refl fun a z => .inl (at_z.mpr z), p⟩
section
variable {P : Program} {w : World} {K : PySem.W.Frag} {mg : Str → Option Value} {base : Heap} {k : Nat} {f : Addr} {fd : FuncData} {x qual : Str} {st : Stmt} {N ps : List Str} {pre : List PyData → Prop} {post : List PyData → PyData → Prop} {cst : List PyData → Nat}
theorem okD (F : Fun K x qual st f fd) (S : FnScope N ps (defScope st)) (hl : ∀ ds, pre ds → ds.length = ps.length)
    (body : ∀ (cd : Value) (B : Around) (fr : List Env) (t : Shared) (h : Hp) (e : XK), B.guards = some [] → Room k (B.deeper (envOfC qual (defScope st) t.heap.objs.size f cd)) → ∀ (Z : Addr → Prop) (J : Nat → Hp → Prop) (n : Nat) (ds : List PyData), n ≤ BIG → pre ds →
      HS (cxOf CX0 P w K mg base N qual (defScope st) f cd B fr t h e).nox (Ok (Wd.at Z J h) n (slots N (ds.map Sl.val))) (defBody st) { nx := fun _ H' => RT Z J h n (post ds) .non H', rt := RT Z J h n (post ds) }) :
    FnG P w K mg base CX0 (k + 1) f fd ps (spD pre post) := by
  refine okG F S (fun xs h q e z => ?_) (fun cd B fr t h xs q e gd rm z => ?_)
  · obtain ⟨Z, J, n, ds, _, _, _, hd, hp, _⟩ := z
    exact hd.length.trans (hl ds hp)
  · obtain ⟨Z, J, n, ds, wk, ln, j, hd, hp, fin⟩ := z
    exact ⟨_, body cd B fr t h e gd rm Z J n ds ln hp, at_ok wk j (das_sl hd), fun σ H' ⟨d, z1, z2, z3, z4⟩ => fin _ H' d z1 z2 z3 z4, fun v H' ⟨d, z1, z2, z3, z4⟩ => fin v H' d z1 z2 z3 z4, fun _ _ z => z, fun _ _ z => z⟩
theorem okDO (F : Fun K x qual st f fd) (S : FnScope N ps (defScope st)) (hl : ∀ ds, pre ds → ds.length = ps.length)
    (body : ∀ (cd : Value) (B : Around) (fr : List Env) (t : Shared) (h : Hp) (e : XK), Room k (B.deeper (envOfC qual (defScope st) t.heap.objs.size f cd)) → ∀ (Z : Addr → Prop) (J : Nat → Hp → Prop) (n : Nat) (ds : List PyData), n ≤ BIG → pre ds →
      HS (cxOf CX0 P w K mg base N qual (defScope st) f cd B fr t h e).nox (Ok (Wd.at Z J h) n (slots N (ds.map Sl.val))) (defBody st) { nx := fun _ H' => RT Z J h n (post ds) .non H', rt := RT Z J h n (post ds) }) :
    FnOk P w K mg base CX0 (k + 1) f fd ps (spD pre post) := by
  refine F.ok S (fun xs h q e z => ?_) (fun cd B fr t h xs q e rm z => ?_)
  · obtain ⟨Z, J, n, ds, _, _, _, hd, hp, _⟩ := z
    exact hd.length.trans (hl ds hp)
  · obtain ⟨Z, J, n, ds, wk, ln, j, hd, hp, fin⟩ := z
    exact ⟨_, body cd B fr t h e rm Z J n ds ln hp, at_ok wk j (das_sl hd), fun σ H' ⟨d, z1, z2, z3, z4⟩ => fin _ H' d z1 z2 z3 z4, fun v H' ⟨d, z1, z2, z3, z4⟩ => fin v H' d z1 z2 z3 z4, fun _ _ z => z, fun _ _ z => z⟩
theorem BagJ.at {Z : Addr → Prop} {J : Nat → Hp → Prop} {H : Hp} {p : Addr} (b : BagJ Z J p) : BagJ (Wd.at Z J H).Z (Wd.at Z J H).J p :=
  ⟨at_z.mpr b.z, fun n H j => b.is n H (at_j.mp j), fun n m H H' o j l ho hb e => at_j.mpr (b.to n m H H' o (at_j.mp j) l ho hb fun a z ne => e a (at_z.mpr z) ne)⟩
theorem okB (F : Fun K x qual st f fd) (S : FnScope N ps (defScope st)) (hl : ∀ ds, pre ds → ds.length + 1 = ps.length)
    (body : ∀ (cd : Value) (B : Around) (fr : List Env) (t : Shared) (h : Hp) (e : XK), B.guards = some [] → Room k (B.deeper (envOfC qual (defScope st) t.heap.objs.size f cd)) → ∀ (Z : Addr → Prop) (J : Nat → Hp → Prop) (n : Nat) (p : Addr) (ds : List PyData), n + cst ds ≤ BIG → pre ds → BagJ (Wd.at Z J h).Z (Wd.at Z J h).J p →
      HS (cxOf CX0 P w K mg base N qual (defScope st) f cd B fr t h e).nox (Ok (Wd.at Z J h) n (slots N (.is (.ref p) :: ds.map Sl.val))) (defBody st) { nx := fun _ H' => RT Z J h (n + cst ds) (post ds) .non H', rt := RT Z J h (n + cst ds) (post ds) }) :
    FnG P w K mg base CX0 (k + 1) f fd ps (spB pre cst post) := by
  refine okG F S (fun xs h q e z => ?_) (fun cd B fr t h xs q e gd rm z => ?_)
  · obtain ⟨Z, J, n, p, ws, ds, _, _, _, _, rfl, hd, hp, _⟩ := z
    rw [List.length_cons, hd.length]
    exact hl ds hp
  · obtain ⟨Z, J, n, p, ws, ds, wk, j, b, ln, rfl, hd, hp, fin⟩ := z
    exact ⟨_, body cd B fr t h e gd rm Z J n p ds ln hp b.at, at_ok wk j (.cons rfl (das_sl hd)), fun σ H' ⟨d, z1, z2, z3, z4⟩ => fin _ H' d z1 z2 z3 z4, fun v H' ⟨d, z1, z2, z3, z4⟩ => fin v H' d z1 z2 z3 z4, fun _ _ z => z, fun _ _ z => z⟩
end

/-! ### the bag -/
/-- _law_bag(script, k) -/
def spMk (K : PySem.W.Frag) : Sp := fun xs H Q _ => ∃ (a : Addr) (ns : List Int) (i : Int), xs = [.ref a, .int i] ∧ SqL K H a (ns.map V.int) ∧ ns.length ≤ 63 ∧ 0 ≤ i ∧ i ≤ 100 ∧
  ∀ p H' o, H p = none → Ext H H' → H' p = some o → IsBag 0 o → Q (.ref p) H'
section
variable {X : Cx} {W : Wd} {Δ : List Sl} {m m1 m2 m3 : Nat} {tg e a b c : Expr} {es rest : List Expr} {A A1 A2 A3 : As W.Z} {L : List (As W.Z)} {P P1 P2 : Bool → Prop} {t ta tb : TE} {pos : Pos}
variable {k : Nat} {f : Addr} {fd : FuncData} {ps : List Str} {x : Str} {p : Pos} {D : Ends} {st : Stmt} {sts : List Stmt} {N : Nat}
theorem hs_bag {i : Nat} {y : Str} {pos' pc : Pos} {sa : Addr} {ns : List Int} {j : Int} (hN : X.N.Nodup) (hi : X.N[i]? = some y) (hx : Loc X.env.scope y)
    (F : FnG X.prog X.w X.K X.mg X.base CX0 k f fd ps (spMk X.K)) (gd : X.A.guards = some []) (rm : Room k X.A) (hg : Gl X x) (hm : X.mg x = some (.ref f)) (hk : PySem.W.keepIn X.K (.ref f) = true) (hb : Binds X.K fd ps [])
    (h0 : DE X W Δ 0 e (raw W.Z (.ref sa))) (h1 : DE X W Δ 0 a (eqd W.Z (.int j))) (hS : ∀ H, Kp W.Zb W.H0 H → SqL X.K H sa (ns.map V.int)) (hn : ns.length ≤ 63) (hj : 0 ≤ j ∧ j ≤ 100) (hb0 : N ≤ BIG)
    (hr : ∀ q, ¬ W.Z q → BagJ (W.add q IsBag).Z (W.add q IsBag).J q → HS X (Ok (W.add q IsBag) N (Δ.set i (.is (.ref q)))) sts D)
    (hd1 : (x == ("__debug__" : Str)) = false := by decide) (h2 : starEach [e, a] X.env = (false, eval e X.env) :: starEach [a] X.env := by rfl) (h2' : starEach [a] X.env = (false, eval a X.env) :: starEach [] X.env := by rfl) (h3 : (backTo pc (starEach [a] X.env)).any (·.1) = false := by rfl)
    (hs : swapsWith (.Call (.Name x p) [e, a] [] pc) (some (.Name y pos')) pos.line X.env = pure false := by rfl) (hf : X.fn y = true ∨ X.env.scope.names.lookup y = some .local := by first | exact .inl rfl | exact .inr rfl | assumption) :
    HS X (Ok W N Δ) (.Assign [.Name y pos'] (.Call (.Name x p) [e, a] [] pc) pos :: sts) D := by
  have cl := pe_g F gd rm hg hm hk hb .nil pass0 (da_cons h0 (da_cons h1 da_nil h2') h2) hd1 h2 h3 (p := p) (pos := pc)
  refine hs_cons (mid := fun σ H => ∃ q, (¬ W.Z q ∧ BagJ (W.add q IsBag).Z (W.add q IsBag).J q) ∧ Ok (W.add q IsBag) N (Δ.set i (.is (.ref q))) σ H) (ps_to (ps_set hN hi hx cl hs hf) fun D' σ H z => ?_) (hs_ex fun q => hs_and fun h => hr q h.1 h.2)
  refine ⟨N, by simpa using hb0, z.1, fun vs H1 k1 q1 o1 => ?_⟩
  obtain ⟨v, u, rfl, o2, o3⟩ := allo_2 o1
  cases (show v = V.ref sa from o2)
  have o3 := eqd_ok o3
  cases o3
  have k1' : Ok W N Δ σ H1 := by simpa using k1
  refine ⟨sa, ns, j, rfl, hS H1 k1'.kept, hn, hj.1, hj.2, fun q H2 o hq e2 ho hbag => ?_⟩
  have k2 := k1'.pin hq e2.kp (k1'.w.ext k1'.j e2) (Nat.le_refl _) ho ⟨0, Nat.zero_le _, hbag⟩
  have nz := k1'.w.new k1'.j hq
  exact z.2.1 _ _ ⟨q, ⟨nz, BagJ.own k1'.w nz⟩, k2.put i (s := .is (.ref q)) rfl⟩
/-- behind a turn that had a bag: it is forgotten -/
theorem end_add {q : Addr} {φ : Nat → HO → Prop} {N' : Nat} {Γ : List Sl} (hl : Less Γ Δ) (h : N ≤ N') : ∀ σ H, Ok (W.add q φ) N Δ σ H → Ok W N' Γ σ H := fun σ H k => (k.unpin.up h).less hl
end

/-! ### the law -/
section
variable {P : Program} {w : World} {K : PySem.W.Frag} {mg : Str → Option Value} {base : Heap} {k : Nat} {f : Addr} {fd : FuncData} {x qual : Str} {st : Stmt} {N : List Str}
theorem okLaw {s : Str} (F : Fun K x qual st f fd) (S : FnScope N [s] (defScope st))
    (body : ∀ (cd : Value) (B : Around) (fr : List Env) (t : Shared) (h : Hp) (e : XK), B.guards = some [] → Room k (B.deeper (envOfC qual (defScope st) t.heap.objs.size f cd)) → ∀ (a : Addr) (ns : List Int), ns.length ≤ 63 → (∀ H, Kp (fun _ => False) h H → SqL K H a (ns.map V.int)) →
      HS (cxOf CX0 P w K mg base N qual (defScope st) f cd B fr t h e).nox (Ok (Wd.at (fun _ => False) (fun _ _ => True) h) 0 (slots N [.is (.ref a)])) (defBody st) { nx := fun _ _ => False, rt := fun v _ => v = .bl true }) :
    FnG P w K mg base CX0 (k + 1) f fd [s] (spLaw K 63) := by
  refine okG F S (fun xs h q e z => ?_) (fun cd B fr t h xs q e gd rm z => ?_)
  · obtain ⟨a, ns, rfl, _⟩ := z
    rfl
  · obtain ⟨a, ns, rfl, hS, hn, _, fin⟩ := z
    refine ⟨_, body cd B fr t h e gd rm a ns hn fun H e' => ?_, at_ok Wok.none trivial (.cons rfl .nil), fun _ _ z => z.elim, fun v H' z => z ▸ fin H', fun _ _ z => z, fun _ _ z => z⟩
    rcases hS with (hS | ⟨o, hS⟩) | hS
    · exact .inl (.inl (e' _ _ (fun c => c) hS))
    · exact .inl (.inr ⟨o, e' _ _ (fun c => c) hS⟩)
    · exact .inr hS
end
end Dv
namespace Dv
open PySem PySem.Spec PyProof.Rows L2
/-! ### exact forms -/
section
variable {X : Cx} {W : Wd} {Δ : List Sl} {m m1 m2 m3 : Nat} {tg e a b c : Expr} {es rest : List Expr} {A A1 A2 A3 : As W.Z} {L : List (As W.Z)} {P P1 P2 : Bool → Prop} {t ta tb : TE} {pos : Pos}
def DAd (X : Cx) (W : Wd) (Δ : List Sl) (m : Nat) (es : List Expr) (ds : List PyData) : Prop := DA X W Δ m es (ds.map (eqd W.Z))
theorem das_nil : DAd X W Δ 0 [] [] := da_nil
theorem das_cons {d : PyData} {ds : List PyData} (h : DE X W Δ m1 e (eqd W.Z d)) (hr : DAd X W Δ m2 es ds) (hs : starEach (e :: es) X.env = (false, eval e X.env) :: starEach es X.env := by rfl) : DAd X W Δ (m1 + m2) (e :: es) (d :: ds) := da_cons h hr hs
theorem de_list {ds : List PyData} (h : DAd X W Δ m es ds) (hl : ds.length ≤ 1000 := by first | exact Nat.le_of_ble_eq_true rfl | omega) : DE X W Δ m (.List es pos) (eqd W.Z (.list ds)) := de_lst h (Nat.le_trans hl (by decide))
theorem de_tupl {ds : List PyData} {kx} (h : DAd X W Δ m es ds) (hl : ds.length ≤ 1000 := by first | exact Nat.le_of_ble_eq_true rfl | omega) : DE X W Δ m (.Tuple es kx pos) (eqd W.Z (.tuple ds)) := de_tup h (Nat.le_trans hl (by decide))
theorem Picks.every {g : PyData → PyData} {xs ys : List PyData} (h : Picks (fun _ b => b = true) (fun d z => z = g d) xs ys) : Picks (fun d b => b = (fun _ => true) d) (fun d z => (fun _ => true) d = true → z = g d) xs ys := by
  induction h with
  | nil => exact .nil
  | skip _ q ih => exact nomatch q
  | take _ q r ih => exact .take ih q fun _ => r
/-- [elt for x in iter], all exact -/
theorem de_lcM {x : Str} {px : Pos} {elt iter : Expr} {scope : Scope} {own : List (Str × Nat)} {j c2 : Nat} {xs : List PyData} {g : PyData → PyData}
    (hc : X.calm = true) (hN : X.N.Nodup) (hi : DI X W Δ m (.Name x px) iter (· = xs)) (ok : BlkOk X.N X.env.scope scope own) (hj : X.N[j]? = some x) (hjv : j ∈ own.map (·.2)) (hM2 : xs.length ≤ 1000000)
    (hx : ∀ (s : Shared) (H : Hp) (C : Addr) (cl : List (Str × Addr)) (fp : List Addr), PG (X.blk s H scope (compEnvC scope cl C X.env) fp) (.Name x px) (gName j))
    (he : ∀ (s : Shared) (H : Hp) (C : Addr) (cl : List (Str × Addr)) (fp : List Addr) (D : Addr) (φ : Nat → HO → Prop) (d : PyData), ¬ W.Z D → d ∈ xs → DE (X.blk s H scope (compEnvC scope cl C X.env) fp) (W.add D φ) ((wipeS Δ (own.map (·.2))).set j (.val d)) c2 elt (eqd _ (g d)))
    (hs : ∀ x, foldedSetIterable iter X.env x = pure x := by intro _; rfl) :
    DE X W Δ (m + xs.length * (0 + c2)) (.ListComp elt [⟨.Name x px, iter, [], 0⟩] scope pos) (eqd W.Z (.list (xs.map g))) :=
  de_lc (Ps := (· = xs)) (Pt := fun d b => b = true) (Pe := fun d z => z = g d) hc hN hi ok hj hjv (fun ys e => e ▸ Nat.le_refl _) hM2 hx (fun s H C cl fp D φ ys d n1 n2 n3 => dts_nil) (fun s H C cl fp D φ ys d n1 n2 n3 _ => he s H C cl fp D φ d n1 (n2 ▸ n3))
    (fun ys zs e h => by
      subst e
      rw [h.every.fn, List.filter_eq_self.mpr (fun _ _ => rfl)]) hs
/-- [elt for x in iter if test], all exact -/
theorem de_lcF {x : Str} {px : Pos} {elt iter test : Expr} {scope : Scope} {own : List (Str × Nat)} {j c1 c2 : Nat} {xs : List PyData} {f : PyData → Bool} {g : PyData → PyData}
    (hc : X.calm = true) (hN : X.N.Nodup) (hi : DI X W Δ m (.Name x px) iter (· = xs)) (ok : BlkOk X.N X.env.scope scope own) (hj : X.N[j]? = some x) (hjv : j ∈ own.map (·.2)) (hM2 : xs.length ≤ 1000000)
    (hx : ∀ (s : Shared) (H : Hp) (C : Addr) (cl : List (Str × Addr)) (fp : List Addr), PG (X.blk s H scope (compEnvC scope cl C X.env) fp) (.Name x px) (gName j))
    (ht : ∀ (s : Shared) (H : Hp) (C : Addr) (cl : List (Str × Addr)) (fp : List Addr) (D : Addr) (φ : Nat → HO → Prop) (d : PyData), ¬ W.Z D → d ∈ xs → DT (X.blk s H scope (compEnvC scope cl C X.env) fp) (W.add D φ) ((wipeS Δ (own.map (·.2))).set j (.val d)) c1 test (· = f d))
    (he : ∀ (s : Shared) (H : Hp) (C : Addr) (cl : List (Str × Addr)) (fp : List Addr) (D : Addr) (φ : Nat → HO → Prop) (d : PyData), ¬ W.Z D → d ∈ xs → f d = true → DE (X.blk s H scope (compEnvC scope cl C X.env) fp) (W.add D φ) ((wipeS Δ (own.map (·.2))).set j (.val d)) c2 elt (eqd _ (g d)))
    (hs : ∀ x, foldedSetIterable iter X.env x = pure x := by intro _; rfl) :
    DE X W Δ (m + xs.length * (c1 + c2)) (.ListComp elt [⟨.Name x px, iter, [test], 0⟩] scope pos) (eqd W.Z (.list ((xs.filter f).map g))) :=
  de_lc (Ps := (· = xs)) (Pt := fun d b => b = f d) (Pe := fun d z => f d = true → z = g d) hc hN hi ok hj hjv (fun ys e => e ▸ Nat.le_refl _) hM2 hx (fun s H C cl fp D φ ys d n1 n2 n3 => dts_one (ht s H C cl fp D φ d n1 (n2 ▸ n3))) (fun s H C cl fp D φ ys d n1 n2 n3 q => (he s H C cl fp D φ d n1 (n2 ▸ n3) q.symm).imp fun H v o => by
      obtain ⟨d', o, e⟩ := o
      exact ⟨d', o, fun _ => e⟩)
    (fun ys zs e h => by
      subst e
      rw [h.fn]) hs
end
/-- is it a text -/
def isStr : PyData → Bool
  | .str _ => true
  | _ => false
theorem kit_str (d : PyData) : kitB (tyD d) "str" = some (isStr d) := by
  cases d with
  | none => exact (show kitB "NoneType" "str" = some false by decide +kernel)
  | bool b => exact (show kitB "bool" "str" = some false by decide +kernel)
  | int b => exact (show kitB "int" "str" = some false by decide +kernel)
  | str b => exact (show kitB "str" "str" = some true by decide +kernel)
  | list b => exact (show kitB "list" "str" = some false by decide +kernel)
  | tuple b => exact (show kitB "tuple" "str" = some false by decide +kernel)
  | dict b => exact (show kitB "dict" "str" = some false by decide +kernel)
def isList : PyData → Bool
  | .list _ => true
  | _ => false
theorem kit_list (d : PyData) : kitB (tyD d) "list" = some (isList d) := by
  cases d with
  | none => exact (show kitB "NoneType" "list" = some false by decide +kernel)
  | bool b => exact (show kitB "bool" "list" = some false by decide +kernel)
  | int b => exact (show kitB "int" "list" = some false by decide +kernel)
  | str b => exact (show kitB "str" "list" = some false by decide +kernel)
  | list b => exact (show kitB "list" "list" = some true by decide +kernel)
  | tuple b => exact (show kitB "tuple" "list" = some false by decide +kernel)
  | dict b => exact (show kitB "dict" "list" = some false by decide +kernel)
theorem str_of {d : PyData} (h : isStr d = true) : ∃ x, d = .str x := by
  cases d <;> first | exact ⟨_, rfl⟩ | cases h
theorem list_of {d : PyData} (h : isList d = true) : ∃ x, d = .list x := by
  cases d <;> first | exact ⟨_, rfl⟩ | cases h
end Dv
set_option maxRecDepth 100000
set_option maxHeartbeats 2000000
/-! Dv7: calls with keywords; several targets. -/
namespace Dv
open PySem PySem.Spec PyProof.Rows L2
def pick {α : Type} (perm : List Nat) (l : List α) : List α := perm.filterMap fun i => l[i]?
theorem pick_rel {xs : List V} {us : List Value} (h : Vals xs us) : ∀ perm : List Nat, Vals (pick perm xs) (pick perm us)
  | [] => .nil
  | i :: perm => by
    unfold pick
    match e : xs[i]? with
    | none =>
      rw [List.filterMap_cons_none e, List.filterMap_cons_none (h.none_of e)]
      exact pick_rel h perm
    | some x =>
      obtain ⟨u, e2, r⟩ := h.get e
      rw [List.filterMap_cons_some e, List.filterMap_cons_some e2]
      exact .cons r (pick_rel h perm)
theorem pick_das {Z : Addr → Prop} {H : Hp} {xs : List V} {ds : List PyData} (h : Das Z H xs ds) : ∀ perm : List Nat, Das Z H (pick perm xs) (pick perm ds)
  | [] => .nil
  | i :: perm => by
    unfold pick
    match e : ds[i]? with
    | none =>
      have e1 : xs[i]? = none := by
        rw [List.getElem?_eq_none_iff] at e ⊢
        rw [h.length]
        exact e
      rw [List.filterMap_cons_none e, List.filterMap_cons_none e1]
      exact pick_das h perm
    | some x =>
      obtain ⟨u, e2, r⟩ := h.get e
      rw [List.filterMap_cons_some e, List.filterMap_cons_some e2]
      exact .cons r (pick_das h perm)
/-- n positional values, then keywords ks: the parameters take the values at perm -/
def KBi (K : PySem.W.Frag) (fd : FuncData) (ps : List Str) (n : Nat) (ks : List Str) (perm : List Nat) : Prop :=
  ∀ (s : Shared) (us ws : List Value), K.In s.heap → us.length = n → ws.length = ks.length → BindsTo s fd ⟨us, ks.zip ws⟩ (ps.zip (pick perm (us ++ ws)))
theorem KBi.of {K : PySem.W.Frag} {x qual : Str} {st : Stmt} {f : Addr} {fd : FuncData} {ps ks : List Str} {n : Nat} {perm : List Nat} (F : Fun K x qual st f fd)
    (h : ∀ (kV doc pm : Value) (an : Option Addr) (cdv ct : Value) (us ws : List Value), us.length = n → ws.length = ks.length → bindArgs (PySem.W.fnOf x qual (defArgs st) (defBody st) (defScope st) .none kV doc pm an cdv ct) ⟨us, ks.zip ws⟩ = pure (ps.zip (pick perm (us ++ ws)))) : KBi K fd ps n ks perm := by
  obtain ⟨oc, od, kV, doc, pm, an, cdv, ct, osl, rfl, lk, hcd⟩ := F.ex
  exact fun s us ws _ h1 h2 => .of_eq (h kV doc pm an cdv ct us ws h1 h2)
section
variable {X : Cx} {W : Wd} {Δ : List Sl} {m m1 m2 m3 : Nat} {tg e a b c : Expr} {es rest : List Expr} {A A1 A2 A3 : As W.Z} {L L2' : List (As W.Z)} {P P1 P2 : Bool → Prop} {t ta tb : TE} {pos : Pos}
variable {C : CXT} {k n : Nat} {f : Addr} {fd : FuncData} {ps ks : List Str} {sp : Sp} {E : XK} {x : Str} {p : Pos} {tk : TA} {kws : List Keyword} {perm : List Nat} {pre : List PyData → Prop} {post : List PyData → PyData → Prop}
theorem run_gk {pins : List (Addr × Obj)} {σ : L2.St} {h : Hp} {s : Shared} {q : VK} {us ws : List Value} {xs zs : List V} (F : FnG X.prog X.w X.K X.mg X.base C k f fd ps sp) (gd : X.A.guards = some []) (rm : Room k X.A)
    (hb : KBi X.K fd ps n ks perm) (hx : Passes C X E) (I : Inv X pins σ h s) (rv : Vals xs us) (rz : Vals zs ws) (l1 : xs.length = n) (l2 : zs.length = ks.length) (z : sp (pick perm (xs ++ zs)) h q E) :
    wpAny (model X.prog X.w) X.A (call (.ref f) us (ks.zip ws)) (EP X pins σ q) X.xe s := by
  refine wpAny_call (codeAny_mono (F.go X.A X.stack s h ⟨us, ks.zip ws⟩ _ _ q E gd rm I.env0 (hb s us ws I.kIn (rv.length.symm.trans l1) (rz.length.symm.trans l2)) (pick_rel (rv.append rz) perm) z) fun r s' hq => ?_)
  match r, hq with
  | .error e, hq => exact hx pins σ h s e s' I hq
  | .ok (.ret u), hq => exact I.after hq
  | .ok .next, hq => exact False.elim hq
  | .ok .brk, hq => exact False.elim hq
  | .ok .cont, hq => exact False.elim hq
def tGK (sp : Sp) (n m : Nat) (perm : List Nat) (E : XK) (t tk : TA) : TE := fun σ H Q => t σ H fun vs H1 => tk σ H1 fun zs H2 => vs.length = n ∧ zs.length = m ∧ sp (pick perm (vs ++ zs)) H2 Q E
theorem pe_gk0 (F : FnG X.prog X.w X.K X.mg X.base C k f fd ps sp) (gd : X.A.guards = some []) (rm : Room k X.A) (hg : Gl X x) (hm : X.mg x = some (.ref f)) (hk : PySem.W.keepIn X.K (.ref f) = true) (hb : KBi X.K fd ps 0 ks perm) (hx : Passes C X E)
    (hkw : PK X kws tk) (h1 : (x == ("__debug__" : Str)) = false := by decide) (hall : (backToKw pos (keywordEach kws X.env)).all (·.1.isSome) = true := by rfl) (hks : (backToKw pos (keywordEach kws X.env)).filterMap (·.1) = ks := by rfl)
    (hpl : ((backTo pos (starEach [] X.env)).any (·.1) || (backToKw pos (keywordEach kws X.env)).any (·.1.isNone)) = false := by rfl) :
    PE X (.Call (.Name x p) [] kws pos) (tGK sp 0 ks.length perm E tNil tk) :=
  ⟨fun pins s σ H Q I h => wpAny_Call_Name_kw (ld_glob I hg hm (PySem.W.callWith_KW0 (h₀ := X.base) I.ok.mod.kin hk hall
    (thn (hkw.run pos pins s σ H _ I h) fun ws s2 ⟨zs, H2, I2, rz, q2⟩ => ⟨I2.kIn, by rw [hks]; exact run_gk F gd rm hb hx I2 .nil rz q2.1 q2.2.1 q2.2.2⟩) hpl) h1)⟩
theorem pe_gk (F : FnG X.prog X.w X.K X.mg X.base C k f fd ps sp) (gd : X.A.guards = some []) (rm : Room k X.A) (hg : Gl X x) (hm : X.mg x = some (.ref f)) (hk : PySem.W.keepIn X.K (.ref f) = true) (hb : KBi X.K fd ps n ks perm) (hx : Passes C X E)
    (ha : PA X (e :: es) (tDA W Δ m L)) (hkw : PK X kws tk) (h1 : (x == ("__debug__" : Str)) = false := by decide) (hall : (backToKw pos (keywordEach kws X.env)).all (·.1.isSome) = true := by rfl) (hks : (backToKw pos (keywordEach kws X.env)).filterMap (·.1) = ks := by rfl)
    (he : starEach (e :: es) X.env = (false, eval e X.env) :: starEach es X.env := by rfl) (hpl : ((backTo pos (starEach (e :: es) X.env)).any (·.1) || (backToKw pos (keywordEach kws X.env)).any (·.1.isNone)) = false := by rfl) :
    PE X (.Call (.Name x p) (e :: es) kws pos) (tGK sp n ks.length perm E (tDA W Δ m L) tk) :=
  ⟨fun pins s σ H Q I h => wpAny_Call_Name_kw (ld_glob I hg hm (PySem.W.callWith_KW (h₀ := X.base) I.ok.mod.kin hk hall
    (thn (ha.run pos pins s σ H _ I h) fun us s1 ⟨vs, H1, I1, rv, q1⟩ => thn (hkw.run pos pins s1 σ H1 _ I1 q1) fun ws s2 ⟨zs, H2, I2, rz, q2⟩ => ⟨I2.kIn, by rw [hks]; exact run_gk F gd rm hb hx I2 rv rz q2.1 q2.2.1 q2.2.2⟩) hpl he) h1)⟩
/-- keywords' values -/
abbrev DK (X : Cx) (W : Wd) (Δ : List Sl) (c : Nat) (kws : List Keyword) (L : List (As W.Z)) : Prop := PK X kws (tDA W Δ c L)
theorem pk_to {t u : TA} (p : PK X kws t) (h : ∀ σ H Q, u σ H Q → t σ H Q) : PK X kws u := ⟨fun po pins s σ H Q I z => p.run po pins s σ H Q I (h σ H Q z)⟩
theorem dk_nil : DK X W Δ 0 [] [] := pk_to pk_nil fun σ H Q ⟨n, l, k, z⟩ => z [] H k Kp.refl .nil
theorem dk_cons {nm : Option Str} {kpos : Pos} (h : DE X W Δ m1 e A) (hr : DK X W Δ m2 kws L) : DK X W Δ (m1 + m2) (⟨nm, e, kpos⟩ :: kws) (A :: L) :=
  pk_to (pk_cons h hr) fun σ H Q ⟨n, l, k, z⟩ => ⟨n, big1 l, k, fun v H1 k1 q1 o1 => ⟨n + m1, big2 l, k1, fun vs H2 k2 q2 o2 => z _ H2 k2.as (q1.trans q2) (.cons (A.mono q2 o1) o2)⟩⟩
theorem allo_len {H : Hp} : ∀ {L : List (As W.Z)} {vs : List V}, Allo H L vs → vs.length = L.length
  | _, _, .nil => rfl
  | _, _, .cons _ t => congrArg Nat.succ (allo_len t)
/-- f(k = e, ..) -/
theorem de_callK0 {PR : PyData → Prop} (F : FnG X.prog X.w X.K X.mg X.base CX0 k f fd ps (spD pre post)) (gd : X.A.guards = some []) (rm : Room k X.A) (hg : Gl X x) (hm : X.mg x = some (.ref f)) (hk : PySem.W.keepIn X.K (.ref f) = true) (hb : KBi X.K fd ps 0 ks perm)
    (ha : DK X W Δ m kws L) (hl : L.length = ks.length) (hA : ∀ H vs, Allo H L vs → ∃ ds, Das W.Z H (pick perm vs) ds ∧ pre ds ∧ ∀ d, post ds d → PR d)
    (h1 : (x == ("__debug__" : Str)) = false := by decide) (hall : (backToKw pos (keywordEach kws X.env)).all (·.1.isSome) = true := by rfl) (hks : (backToKw pos (keywordEach kws X.env)).filterMap (·.1) = ks := by rfl)
    (hpl : ((backTo pos (starEach [] X.env)).any (·.1) || (backToKw pos (keywordEach kws X.env)).any (·.1.isNone)) = false := by rfl) :
    DE X W Δ m (.Call (.Name x p) [] kws pos) (dat W.Z PR) :=
  pe_to (pe_gk0 F gd rm hg hm hk hb pass0 ha h1 hall hks hpl) fun σ H Q ⟨n, l, k, z⟩ => ⟨n, l, k, fun zs H1 k1 q1 o1 => by
    obtain ⟨ds, hd, hp, hq⟩ := hA H1 zs o1
    refine ⟨rfl, (allo_len o1).trans hl, W.Z, W.J, n + m, ds, k1.w, l, k1.j, hd, hp, fun v H' d e j o q => z v H' (k1.kp e j) (q1.trans e) ⟨d, o, hq d q⟩⟩⟩
/-- f(e, .., k = e, ..) -/
theorem de_callK {PR : PyData → Prop} (F : FnG X.prog X.w X.K X.mg X.base CX0 k f fd ps (spD pre post)) (gd : X.A.guards = some []) (rm : Room k X.A) (hg : Gl X x) (hm : X.mg x = some (.ref f)) (hk : PySem.W.keepIn X.K (.ref f) = true) (hb : KBi X.K fd ps n ks perm)
    (ha : DA X W Δ m1 (e :: es) L) (hkw : DK X W Δ m2 kws L2') (hl0 : L.length = n) (hl : L2'.length = ks.length) (hA : ∀ H vs, Allo H (L ++ L2') vs → ∃ ds, Das W.Z H (pick perm vs) ds ∧ pre ds ∧ ∀ d, post ds d → PR d)
    (h1 : (x == ("__debug__" : Str)) = false := by decide) (hall : (backToKw pos (keywordEach kws X.env)).all (·.1.isSome) = true := by rfl) (hks : (backToKw pos (keywordEach kws X.env)).filterMap (·.1) = ks := by rfl)
    (he : starEach (e :: es) X.env = (false, eval e X.env) :: starEach es X.env := by rfl) (hpl : ((backTo pos (starEach (e :: es) X.env)).any (·.1) || (backToKw pos (keywordEach kws X.env)).any (·.1.isNone)) = false := by rfl) :
    DE X W Δ (m1 + m2) (.Call (.Name x p) (e :: es) kws pos) (dat W.Z PR) :=
  pe_to (pe_gk F gd rm hg hm hk hb pass0 ha hkw h1 hall hks he hpl) fun σ H Q ⟨n, l, k, z⟩ => ⟨n, big1 l, k, fun vs H1 k1 q1 o1 => ⟨n + m1, big2 l, k1, fun zs H2 k2 q2 o2 => by
    obtain ⟨ds, hd, hp, hq⟩ := hA H2 (vs ++ zs) (papp (pmono (fun A v => A.mono q2) o1) o2)
    have k2 := k2.as
    refine ⟨(allo_len o1).trans hl0, (allo_len o2).trans hl, W.Z, W.J, n + (m1 + m2), ds, k2.w, l, k2.j, hd, hp, fun v H' d e j o q => z v H' (k2.kp e j) ((q1.trans q2).trans e) ⟨d, o, hq d q⟩⟩⟩⟩

/-! ### short forms -/
theorem de_ty {T : String} (hg : Gl X x) (hm : X.mg x = none) (hv : bootBuiltins x = some (.type T)) (hn : x ≠ "__name__" := by decide) (hd : (x == ("__debug__" : Str)) = false := by decide) : DE X W Δ 0 (.Name x p) (raw W.Z (.ty T)) := de_rawc (pe_bltn (v := .ty T) hg hm hv rfl hn hd)
theorem de_gstr {z : Str} {t : Tok} (hg : Gl X x) (hm : X.mg x = some (.str z t)) (hd : (x == ("__debug__" : Str)) = false := by decide) : DE X W Δ 0 (.Name x p) (eqd W.Z (.str z)) := de_c (pe_glob (v := .str z) hg hm ⟨t, rfl⟩ hd) fun _ => .str z
theorem de_len {d : PyData} {k : Nat} (hg : Gl X "len") (hm : X.mg "len" = none) (h : DE X W Δ m e (eqd W.Z d)) (hk : lenD d = some k)
    (he : starEach (e :: []) X.env = (false, eval e X.env) :: starEach [] X.env := by rfl) (hpl : (backTo pos (starEach [] X.env)).any (·.1) = false := by rfl) : DE X W Δ (m + 0) (.Call (.Name "len" p) [e] [] pos) (eqd W.Z (.int k)) :=
  de_cb call_len hg hm boot_len (da_cons h da_nil he) (c_len hk) (by decide) (by decide) he hpl
theorem de_isi {d : PyData} {T : String} {v : Bool} {T' : Expr} (hg : Gl X "isinstance") (hm : X.mg "isinstance" = none) (h : DE X W Δ m e (eqd W.Z d)) (hT : DE X W Δ 0 T' (raw W.Z (.ty T))) (hk : kitB (tyD d) T = some v)
    (he : starEach [e, T'] X.env = (false, eval e X.env) :: starEach [T'] X.env := by rfl) (he' : starEach [T'] X.env = (false, eval T' X.env) :: starEach [] X.env := by rfl) (hpl : (backTo pos (starEach [T'] X.env)).any (·.1) = false := by rfl) : DE X W Δ (m + (0 + 0)) (.Call (.Name "isinstance" p) [e, T'] [] pos) (eqd W.Z (.bool v)) :=
  de_cb call_isi hg hm boot_isinstance (da_cons h (da_cons hT da_nil he') he) (c_isi hk) (by decide) (by decide) he hpl
theorem de_all {bs : List Bool} (hc : X.calm = true) (hg : Gl X "all") (hm : X.mg "all" = none) (h : DE X W Δ m e (eqd W.Z (.list (bs.map PyData.bool))))
    (he : starEach (e :: []) X.env = (false, eval e X.env) :: starEach [] X.env := by rfl) (hpl : (backTo pos (starEach [] X.env)).any (·.1) = false := by rfl) : DE X W Δ (m + 0) (.Call (.Name "all" p) [e] [] pos) (eqd W.Z (.bool (bs.all id))) :=
  de_cb (cr_all hc) hg hm boot_all (da_cons h da_nil he) c_all (by decide) (by decide) he hpl
theorem de_repr {d : PyData} (gd : X.A.guards = some []) (hu : X.A.units + 64 < cLine) (hg : Gl X "repr") (hm : X.mg "repr" = none) (h : DE X W Δ m e (eqd W.Z d)) (h1 : d.showable = true) (h2 : d.shown.length ≤ sizeLine) (h3 : d.depth ≤ 60)
    (he : starEach (e :: []) X.env = (false, eval e X.env) :: starEach [] X.env := by rfl) (hpl : (backTo pos (starEach [] X.env)).any (·.1) = false := by rfl) : DE X W Δ (m + 0) (.Call (.Name "repr" p) [e] [] pos) (eqd W.Z (.str d.shown)) :=
  de_cb (call_repr gd hu) hg hm boot_repr (da_cons h da_nil he) (c_repr h1 h2 h3) (by decide) (by decide) he hpl
theorem room_u {k : Nat} {A : Around} (r : Room k A) : A.units + 64 < cLine := by
  have := r.un
  omega
/-- i <= n <= j, all known -/
theorem dt_le2 {i j l : Int} (ha : DE X W Δ m1 a (eqd W.Z (.int i))) (hb : DE X W Δ m2 b (eqd W.Z (.int j))) (hc : DE X W Δ m3 c (eqd W.Z (.int l))) (hm : lastMarks [.LtE, .LtE] [b, c] = false := by with_unfolding_all rfl) :
    DT X W Δ (m1 + (m2 + m3)) (.Compare a [.LtE, .LtE] [b, c] pos) (· = (decide (i ≤ j) && decide (j ≤ l))) :=
  dt_chain op_le op_le ha hb hc o_cmp o_cmp (by rintro x y rfl rfl; rfl) (fun h => by rw [← h]; rfl) hm
end
theorem lenS {x : Str} (h : x.length ≤ 100000) : lenD (.str x) = some x.length := if_pos (Nat.le_trans h (by decide))

/-! ### exact promises by the number of arguments -/
def sp1 (pre : PyData → Prop) (g : PyData → PyData) : Sp := spD (fun ds => ∃ d, ds = [d] ∧ pre d) fun ds r => ∃ d, ds = [d] ∧ r = g d
def sp2 (pre : PyData → PyData → Prop) (g : PyData → PyData → PyData) : Sp := spD (fun ds => ∃ d1 d2, ds = [d1, d2] ∧ pre d1 d2) fun ds r => ∃ d1 d2, ds = [d1, d2] ∧ r = g d1 d2
section
variable {X : Cx} {W : Wd} {Δ : List Sl} {m m1 m2 m3 : Nat} {e a b c : Expr} {pos : Pos} {k : Nat} {f : Addr} {fd : FuncData} {ps : List Str} {x : Str} {p : Pos}
theorem fn1O {pre : PyData → Prop} {g : PyData → PyData} {d : PyData} (F : FnOk X.prog X.w X.K X.mg X.base CX0 k f fd ps (sp1 pre g)) (rm : Room k X.A) (hg : Gl X x) (hm : X.mg x = some (.ref f)) (hk : PySem.W.keepIn X.K (.ref f) = true) (hb : Binds X.K fd ps [])
    (ha : DE X W Δ m e (eqd W.Z d)) (hp : pre d) (h1 : (x == ("__debug__" : Str)) = false := by decide) (h2 : starEach (e :: []) X.env = (false, eval e X.env) :: starEach [] X.env := by rfl) (h3 : (backTo pos (starEach [] X.env)).any (·.1) = false := by rfl) :
    DE X W Δ (m + 0) (.Call (.Name x p) [e] [] pos) (eqd W.Z (g d)) :=
  de_callO F rm hg hm hk hb (da_cons ha da_nil h2) (fun H vs o => by
    obtain ⟨d', hd, rfl⟩ := allo1 o
    refine ⟨_, hd, ⟨_, rfl, hp⟩, ?_⟩
    rintro r ⟨_, e, rfl⟩
    cases e
    rfl) h1 h2 h3
theorem fn1 {pre : PyData → Prop} {g : PyData → PyData} {d : PyData} (F : FnG X.prog X.w X.K X.mg X.base CX0 k f fd ps (sp1 pre g)) (gd : X.A.guards = some []) (rm : Room k X.A) (hg : Gl X x) (hm : X.mg x = some (.ref f)) (hk : PySem.W.keepIn X.K (.ref f) = true) (hb : Binds X.K fd ps [])
    (ha : DE X W Δ m e (eqd W.Z d)) (hp : pre d) (h1 : (x == ("__debug__" : Str)) = false := by decide) (h2 : starEach (e :: []) X.env = (false, eval e X.env) :: starEach [] X.env := by rfl) (h3 : (backTo pos (starEach [] X.env)).any (·.1) = false := by rfl) :
    DE X W Δ (m + 0) (.Call (.Name x p) [e] [] pos) (eqd W.Z (g d)) :=
  de_call F gd rm hg hm hk hb (da_cons ha da_nil h2) (fun H vs o => by
    obtain ⟨d', hd, rfl⟩ := allo1 o
    refine ⟨_, hd, ⟨_, rfl, hp⟩, ?_⟩
    rintro r ⟨_, e, rfl⟩
    cases e
    rfl) h1 h2 h3
/-- f(k = e) -/
theorem fn1K {pre : PyData → Prop} {g : PyData → PyData} {d : PyData} {nm : Str} {kpos : Pos} (F : FnG X.prog X.w X.K X.mg X.base CX0 k f fd ps (sp1 pre g)) (gd : X.A.guards = some []) (rm : Room k X.A) (hg : Gl X x) (hm : X.mg x = some (.ref f)) (hk : PySem.W.keepIn X.K (.ref f) = true) (hb : KBi X.K fd ps 0 [nm] [0])
    (ha : DE X W Δ m e (eqd W.Z d)) (hp : pre d) (h1 : (x == ("__debug__" : Str)) = false := by decide) (hall : (backToKw pos (keywordEach [⟨some nm, e, kpos⟩] X.env)).all (·.1.isSome) = true := by rfl) (hks : (backToKw pos (keywordEach [⟨some nm, e, kpos⟩] X.env)).filterMap (·.1) = [nm] := by rfl)
    (hpl : ((backTo pos (starEach [] X.env)).any (·.1) || (backToKw pos (keywordEach [⟨some nm, e, kpos⟩] X.env)).any (·.1.isNone)) = false := by rfl) :
    DE X W Δ (m + 0) (.Call (.Name x p) [] [⟨some nm, e, kpos⟩] pos) (eqd W.Z (g d)) :=
  de_callK0 F gd rm hg hm hk hb (dk_cons ha dk_nil) rfl (fun H vs o => by
    obtain ⟨d', hd, rfl⟩ := allo1 o
    refine ⟨_, pick_das hd [0], ⟨_, rfl, hp⟩, ?_⟩
    rintro r ⟨_, e, rfl⟩
    cases e
    rfl) h1 hall hks hpl
end
/-! ### equality of scalars -/
theorem o_eqS {W : Wd} {x y : Str} : Op2 W rEq (eqd W.Z (.str x)) (eqd W.Z (.str y)) (bol W.Z (· = decide (x = y))) := fun n H v u w jj o1 o2 Q q => by
  have o1 := eqd_ok o1
  have o2 := eqd_ok o2
  cases o1
  cases o2
  refine ⟨rfl, q _ H Ext.refl ⟨_, rfl, ?_⟩⟩
  by_cases h : x = y
  · rw [decide_eq_true h, h, decide_eq_true rfl]
  · rw [decide_eq_false h, decide_eq_false fun c => h (by cases c; rfl)]
theorem o_neS {W : Wd} {x y : Str} : Op2 W rNe (eqd W.Z (.str x)) (eqd W.Z (.str y)) (bol W.Z (· = !decide (x = y))) := fun n H v u w jj o1 o2 Q q => by
  have o1 := eqd_ok o1
  have o2 := eqd_ok o2
  cases o1
  cases o2
  refine ⟨rfl, q _ H Ext.refl ⟨_, rfl, ?_⟩⟩
  by_cases h : x = y
  · rw [decide_eq_true h, h, decide_eq_true rfl]
  · rw [decide_eq_false h, decide_eq_false fun c => h (by cases c; rfl)]
theorem o_eqI {W : Wd} {x y : Int} : Op2 W rEq (eqd W.Z (.int x)) (eqd W.Z (.int y)) (bol W.Z (· = decide (x = y))) := fun n H v u w jj o1 o2 Q q => by
  have o1 := eqd_ok o1
  have o2 := eqd_ok o2
  cases o1
  cases o2
  refine ⟨rfl, q _ H Ext.refl ⟨_, rfl, ?_⟩⟩
  by_cases h : x = y
  · rw [decide_eq_true h, h, decide_eq_true rfl]
  · rw [decide_eq_false h, decide_eq_false fun c => h (by cases c; rfl)]
end Dv
set_option maxRecDepth 100000
set_option maxHeartbeats 2000000
/-! Dv8: a list compared with []; draws. -/
namespace Dv
open PySem PySem.Spec PyProof.Rows L2
section
variable {X : Cx} {W : Wd}
def rEqE (neg : Bool) : R2 := fun x y H Q => ∃ a b xs, x = .ref a ∧ y = .ref b ∧ H a = some (.lst xs) ∧ H b = some (.lst []) ∧ Q (.bl (if neg then !xs.isEmpty else xs.isEmpty)) H
theorem lst_is {pins : List (Addr × Obj)} {σ : L2.St} {H : Hp} {s : Shared} {a : Addr} {xs : List V} (I : Inv X pins σ H s) (h : H a = some (.lst xs)) : ∃ its : Array Value, s.heap.IsList a its ∧ its.size = xs.length := by
  obtain ⟨its, r, p, _⟩ := I.list (.inl (.inl h))
  exact ⟨its.toArray, p.isList, by rw [List.size_toArray, ← r.length]⟩
theorem op_eqE (hu : X.A.units + 64 < cLine) : OpR X (compareOp .Eq) (rEqE false) := by
  intro pins s σ H x y v u Q I rx ry h
  obtain ⟨a, b, xs, rfl, rfl, ha, hb, q⟩ := h
  cases (show v = Value.ref a from rx)
  cases (show u = Value.ref b from ry)
  obtain ⟨i1, p1, z1⟩ := lst_is I ha
  obtain ⟨i2, p2, z2⟩ := lst_is I hb
  have fin : ∀ k, k = xs.isEmpty → EP X pins σ Q (.bool k) s := fun k e => ⟨.bl k, H, I, rfl, by rw [e]; exact q⟩
  have hu' : X.A.units < cLine := by omega
  cases xs with
  | nil =>
    refine SeqAt.eq_listAt (e := fun _ => true) p1 p2 (by rw [z1, z2]) hu' (fun j h1 h2 => by rw [z1] at h1; exact absurd h1 (Nat.not_lt_zero _)) (fin _ ?_)
    rw [z1]
    rfl
  | cons c cs => exact SeqAt.eq_list_lengthsAt p1 p2 (by rw [z1, z2]; rfl) hu' (fin _ rfl)
theorem op_neE (hu : X.A.units + 64 < cLine) : OpR X (compareOp .NotEq) (rEqE true) := by
  intro pins s σ H x y v u Q I rx ry h
  obtain ⟨a, b, xs, rfl, rfl, ha, hb, q⟩ := h
  cases (show v = Value.ref a from rx)
  cases (show u = Value.ref b from ry)
  obtain ⟨i1, p1, z1⟩ := lst_is I ha
  obtain ⟨i2, p2, z2⟩ := lst_is I hb
  have fin : ∀ k, k = (!xs.isEmpty) → EP X pins σ Q (.bool k) s := fun k e => ⟨.bl k, H, I, rfl, by rw [e]; exact q⟩
  have hu' : X.A.units < cLine := by omega
  cases xs with
  | nil =>
    refine SeqAt.RcNeAt.lists (e := fun _ => true) p1 p2 (by rw [z1, z2]) hu' (fun j h1 h2 => by rw [z1] at h1; exact absurd h1 (Nat.not_lt_zero _)) X.prog X.w _ _ (fin _ ?_)
    rw [z1]
    rfl
  | cons c cs => exact SeqAt.RcNeAt.lists_lengths p1 p2 (by rw [z1, z2]; rfl) hu' X.prog X.w _ _ (fin _ rfl)
theorem o_eqE {ds : List PyData} : Op2 W (rEqE false) (eqd W.Z (.list ds)) (eqd W.Z (.list [])) (bol W.Z (· = ds.isEmpty)) := fun n H v u w jj o1 o2 Q q => by
  have o1 := eqd_ok o1
  have o2 := eqd_ok o2
  cases o1 with
  | lst r1 n1 d1 =>
    cases o2 with
    | lst r2 n2 d2 =>
      cases d2
      refine ⟨_, _, _, rfl, rfl, r1, r2, q _ H Ext.refl ⟨_, rfl, ?_⟩⟩
      cases d1 <;> rfl
theorem o_neE {ds : List PyData} : Op2 W (rEqE true) (eqd W.Z (.list ds)) (eqd W.Z (.list [])) (bol W.Z (· = !ds.isEmpty)) := fun n H v u w jj o1 o2 Q q => by
  have o1 := eqd_ok o1
  have o2 := eqd_ok o2
  cases o1 with
  | lst r1 n1 d1 =>
    cases o2 with
    | lst r2 n2 d2 =>
      cases d2
      refine ⟨_, _, _, rfl, rfl, r1, r2, q _ H Ext.refl ⟨_, rfl, ?_⟩⟩
      cases d1 <;> rfl
end
section
variable {X : Cx} {W : Wd} {Δ : List Sl} {m : Nat} {a b : Expr} {D : Ends} {sts : List Stmt} {N : Nat} {pos : Pos}
/-- x, y = a, b -/
theorem hs_par {i j : Nat} {x y : Str} {d1 d2 : PyData} {px py pt : Pos} {kt k2 pt2} (hc : X.calm = true) (hN : X.N.Nodup) (hi : X.N[i]? = some x) (hj : X.N[j]? = some y) (hij : i ≠ j)
    (hx : X.env.scope.names.lookup x = some .local) (hy : X.env.scope.names.lookup y = some .local) (ha : DAd X W Δ m [a, b] [d1, d2]) (hb : N + m ≤ BIG) (hr : HS X (Ok W (N + m) ((Δ.set i (.val d1)).set j (.val d2))) sts D)
    (hw : swappedStores [.Tuple [.Name x px, .Name y py] kt pt] (.Tuple [a, b] k2 pt2) X.env = pure (some [x, y]))
    (hs : swapsWithSole [.Tuple [.Name x px, .Name y py] kt pt] (.Tuple [a, b] k2 pt2) pos.line X.env = pure false := by rfl) :
    HS X (Ok W N Δ) (.Assign [.Tuple [.Name x px, .Name y py] kt pt] (.Tuple [a, b] k2 pt2) pos :: sts) D :=
  hs_cons (ps_to (ps_par hc hN hi hj hij hx hy ha hw hs) fun D' σ H z => ⟨N, hb, z.1, fun vs H1 k q o => by
    have o := allo_das o
    cases o with
    | cons o1 o2 =>
      cases o2 with
      | cons o2 o3 =>
        cases o3
        exact ⟨_, _, rfl, z.2.1 _ _ ((k.put i (s := .val d1) ⟨_, rfl, o1⟩).put j (s := .val d2) ⟨_, rfl, o2⟩)⟩⟩) hr
end
end Dv
set_option maxRecDepth 100000
set_option maxHeartbeats 2000000
/-! Dv9: the draws: the bag read and written, the script read. -/
namespace Dv
open PySem PySem.Spec PyProof.Rows L2
section
variable {X : Cx} {W : Wd} {Δ : List Sl} {m m1 m2 m3 : Nat} {e a b c : Expr} {es : List Expr} {P P1 P2 : Bool → Prop} {te : TE} {D : Ends} {sts : List Stmt} {N M : Nat} {pos : Pos} {p : Addr} {i0 : Nat}
/-- bag[0], bag[1] -/
theorem de_bag0 {j} {pc} (B : BagJ W.Z W.J p) (ho : PE X a (tVar i0)) (hs : Δ[i0]? = some (.is (.ref p))) : DE X W Δ 0 (.Subscript a (.Constant (.int 0) j pc) pos) (intp W.Z fun x => 0 ≤ x) :=
  de_val (pe_ix ix_list ho pe_int fun _ _ => rfl) fun n σ H k => by
    obtain ⟨o, h1, x, y, z, e, h2, _⟩ := B.is n H k.j
    subst e
    exact ⟨.int x, ⟨_, .int x, x, rfl, h2⟩, fun Q q => ⟨_, k.is hs, p, _, 0, .int x, rfl, rfl, .inl (.inl h1), rfl, q⟩⟩
theorem de_bag1 {j} {pc} (B : BagJ W.Z W.J p) (ho : PE X a (tVar i0)) (hs : Δ[i0]? = some (.is (.ref p))) : DE X W Δ 0 (.Subscript a (.Constant (.int 1) j pc) pos) (intp W.Z fun x => 0 ≤ x ∧ x < 10000000000000000000000000000000000043) :=
  de_val (pe_ix ix_list ho pe_int fun _ _ => rfl) fun n σ H k => by
    obtain ⟨o, h1, x, y, z, e, h2, h3, h4, _⟩ := B.is n H k.j
    subst e
    exact ⟨.int y, ⟨_, .int y, y, rfl, h3, h4⟩, fun Q q => ⟨_, k.is hs, p, _, 1, .int y, rfl, rfl, .inl (.inl h1), rfl, q⟩⟩
theorem de_bag2 {j} {pc} (B : BagJ W.Z W.J p) (ho : PE X a (tVar i0)) (hs : Δ[i0]? = some (.is (.ref p))) : DE X W Δ 0 (.Subscript a (.Constant (.int 2) j pc) pos) (intp W.Z fun x => 0 ≤ x ∧ x ≤ 1000000000) :=
  pe_to (pe_ix ix_list ho pe_int fun _ _ => rfl) fun σ H Q ⟨n, l, k, f⟩ => by
    obtain ⟨o, h1, x, y, z, e, h2, h3, h4, h5, h6⟩ := B.is n H k.j
    subst e
    have hb : (n : Int) ≤ 1000000000 := by
      have : n ≤ 1000000000 := l
      omega
    exact ⟨_, k.is hs, p, _, 2, .int z, rfl, rfl, .inl (.inl h1), rfl, f _ H k Kp.refl ⟨_, .int z, z, rfl, h5, by omega⟩⟩
/-- bag[j] = e -/
theorem hs_put {j : Int} {jn : Nat} {jj} {pc ps : Pos} {Pv : Int → Prop} (B : BagJ W.Z W.J p) (ho : PE X a (tVar i0)) (hs : Δ[i0]? = some (.is (.ref p))) (hj : ixN 3 j = some jn) (he : PE X e te)
    (hv : ∀ σ H, Ok W N Δ σ H → ∀ Q : VK, (∀ i H', Ok W N Δ σ H' → Pv i → Q (.int i) H') → te σ H Q) (hp : ∀ i, Pv i → jn = 0 ∧ 0 ≤ i ∨ jn = 2 ∧ 0 ≤ i ∧ i ≤ (M : Int)) (hM : N ≤ M) (hr : HS X (Ok W M Δ) sts D)
    (ha : ∀ v, assign (.Subscript a (.Constant (.int j) jj pc) ps) X.env v = (do let ov ← holding [v] (eval a X.env); let iv ← holding [v, ov] (eval (.Constant (.int j) jj pc) X.env); standAt ps; holding [v, ov, iv] (setItem ov iv v); release [v, ov, iv] []) := by intro _; rfl)
    (h1 : swapsWithSole [.Subscript a (.Constant (.int j) jj pc) ps] e pos.line X.env = pure false := by rfl) (h2 : swappedStores [.Subscript a (.Constant (.int j) jj pc) ps] e X.env = pure none := by rfl) :
    HS X (Ok W N Δ) (.Assign [.Subscript a (.Constant (.int j) jj pc) ps] e pos :: sts) D := by
  refine hs_cons (ps_to (ps_asg he (pg_sub ho pe_int set_list ha) h1 h2) fun D' σ H z => hv σ H z.1 _ fun i H1 k pi => ?_) hr
  obtain ⟨o, b1, x, y, w, eo, b2, b3, b4, b5, b6⟩ := B.is N H1 k.j
  subst eo
  refine ⟨_, k.is hs, p, _, j, jn, rfl, rfl, b1, hj, z.2.1 _ _ ?_⟩
  have kz : Kp W.Z H1 (upd H1 p (.lst (([.int x, .int y, .int w] : List V).set jn (.int i)))) := fun b o nz h => by
    have ne : b ≠ p := fun c => nz (by rw [c]; exact B.z)
    rw [upd_ne ne]
    exact h
  refine k.kp kz (B.to N M H1 _ _ k.j hM upd_same ?_ fun b _ ne => upd_ne ne)
  have hc : (N : Int) ≤ (M : Int) := by omega
  rcases hp i pi with ⟨rfl, q⟩ | ⟨rfl, q1, q2⟩
  · exact ⟨i, y, w, rfl, q, b3, b4, b5, by omega⟩
  · exact ⟨x, y, i, rfl, b2, b3, b4, q1, q2⟩
/-- what an expression is worth, at N draws -/
theorem DE.atN {Pv : Int → Prop} (h : DE X W Δ 0 e (intp W.Z Pv)) (hN : N ≤ BIG) : ∃ te, PE X e te ∧ ∀ σ H, Ok W N Δ σ H → ∀ Q : VK, (∀ i H', Ok W N Δ σ H' → Pv i → Q (.int i) H') → te σ H Q :=
  ⟨_, h, fun σ H k Q q => ⟨N, hN, k, fun v H1 k1 q1 o => by
    obtain ⟨_, o, i, rfl, pi⟩ := o
    cases o
    exact q i H1 k1 pi⟩⟩
/-- bag[0] = e -/
theorem hs_put0 {Pv : Int → Prop} {jj} {pc ps : Pos} (B : BagJ W.Z W.J p) (ho : PE X a (tVar i0)) (hs : Δ[i0]? = some (.is (.ref p))) (he : DE X W Δ 0 e (intp W.Z Pv)) (hp : ∀ i, Pv i → 0 ≤ i) (hN : N ≤ BIG) (hr : HS X (Ok W N Δ) sts D)
    (ha : ∀ v, assign (.Subscript a (.Constant (.int 0) jj pc) ps) X.env v = (do let ov ← holding [v] (eval a X.env); let iv ← holding [v, ov] (eval (.Constant (.int 0) jj pc) X.env); standAt ps; holding [v, ov, iv] (setItem ov iv v); release [v, ov, iv] []) := by intro _; rfl)
    (h1 : swapsWithSole [.Subscript a (.Constant (.int 0) jj pc) ps] e pos.line X.env = pure false := by rfl) (h2 : swappedStores [.Subscript a (.Constant (.int 0) jj pc) ps] e X.env = pure none := by rfl) :
    HS X (Ok W N Δ) (.Assign [.Subscript a (.Constant (.int 0) jj pc) ps] e pos :: sts) D := by
  obtain ⟨te, h3, h4⟩ := he.atN hN
  exact hs_put (Pv := Pv) B ho hs rfl h3 h4 (fun i q => .inl ⟨rfl, hp i q⟩) (Nat.le_refl _) hr ha h1 h2
/-- bag[2] = bag[2] + 1 -/
theorem hs_inc {jj jk jl} {pc ps pd pe pf pg : Pos} {a' : Expr} (B : BagJ W.Z W.J p) (ho : PE X a (tVar i0)) (ho' : PE X a' (tVar i0)) (hs : Δ[i0]? = some (.is (.ref p))) (hr : HS X (Ok W (N + 1) Δ) sts D)
    (ha : ∀ v, assign (.Subscript a (.Constant (.int 2) jj pc) ps) X.env v = (do let ov ← holding [v] (eval a X.env); let iv ← holding [v, ov] (eval (.Constant (.int 2) jj pc) X.env); standAt ps; holding [v, ov, iv] (setItem ov iv v); release [v, ov, iv] []) := by intro _; rfl)
    (h1 : swapsWithSole [.Subscript a (.Constant (.int 2) jj pc) ps] (.BinOp (.Subscript a' (.Constant (.int 2) jk pd) pe) .Add (.Constant (.int 1) jl pf) pg) pos.line X.env = pure false := by rfl)
    (h2 : swappedStores [.Subscript a (.Constant (.int 2) jj pc) ps] (.BinOp (.Subscript a' (.Constant (.int 2) jk pd) pe) .Add (.Constant (.int 1) jl pf) pg) X.env = pure none := by rfl) :
    HS X (Ok W N Δ) (.Assign [.Subscript a (.Constant (.int 2) jj pc) ps] (.BinOp (.Subscript a' (.Constant (.int 2) jk pd) pe) .Add (.Constant (.int 1) jl pf) pg) pos :: sts) D := by
  refine hs_put (Pv := fun i => 0 ≤ i ∧ i ≤ ((N + 1 : Nat) : Int)) B ho hs rfl (pe_op op_add (pe_ix ix_list ho' pe_int fun _ _ => rfl) pe_int) (fun σ H k Q q => ?_) (fun i q => .inr ⟨rfl, q⟩) (Nat.le_succ _) hr ha h1 h2
  obtain ⟨o, b1, x, y, w, eo, b2, b3, b4, b5, b6⟩ := B.is N H k.j
  subst eo
  exact ⟨_, k.is hs, p, _, 2, .int w, rfl, rfl, .inl (.inl b1), rfl, w, 1, rfl, rfl, q _ H k ⟨by omega, by omega⟩⟩

/-! ### the script -/
def scr (K : PySem.W.Frag) (h : Hp) (sa : Addr) (ns : List Int) : As (Wd.at (fun _ => False) (fun _ _ => True) h).Z := ⟨fun H v => v = .ref sa ∧ SqL K H sa (ns.map V.int), fun {H H' v} k o => ⟨o.1, by
  have nz : ∀ a, ¬ (Wd.at (fun _ => False) (fun _ _ => True) h).Z a := fun a z => at_z.mp z
  rcases o.2 with (r | ⟨u, r⟩) | r
  · exact .inl (.inl (k _ _ (nz _) r))
  · exact .inl (.inr ⟨u, k _ _ (nz _) r⟩)
  · exact .inr r⟩⟩
theorem de_scr {h : Hp} {sa : Addr} {ns : List Int} (ho : PE X a (tVar i0)) (hs : Δ[i0]? = some (.is (.ref sa))) (hS : SqL X.K h sa (ns.map V.int)) : DE X (Wd.at (fun _ => False) (fun _ _ => True) h) Δ 0 a (scr X.K h sa ns) :=
  de_val ho fun n σ H k => ⟨.ref sa, ⟨rfl, (scr X.K h sa ns).mono (H := h) (v := .ref sa) (fun b o _ e => k.kept b o (fun c => c) e) ⟨rfl, hS⟩ |>.2⟩, fun Q q => ⟨_, k.is hs, q⟩⟩
/-- a list of one's own, new since the entry -/
def frs (h : Hp) (ds : List PyData) : As (Wd.at (fun _ => False) (fun _ _ => True) h).Z := ⟨fun H v => ∃ p vs, v = .ref p ∧ h p = none ∧ H p = some (.lst vs) ∧ Das (fun _ => False) H vs ds, fun {H H' v} k ⟨p, vs, e, h1, h2, h3⟩ =>
  ⟨p, vs, e, h1, k _ _ (fun z => at_z.mp z) h2, h3.kp fun b o _ e => k b o (fun z => at_z.mp z) e⟩⟩
theorem de_frs {h : Hp} {ds : List PyData} (hd : DAd X (Wd.at (fun _ => False) (fun _ _ => True) h) Δ m es ds) (hl : ds.length ≤ 1000 := by first | exact Nat.le_of_ble_eq_true rfl | omega) : DE X (Wd.at (fun _ => False) (fun _ _ => True) h) Δ m (.List es pos) (frs h ds) :=
  pe_to (pe_lst hd) fun σ H Q ⟨n, l, k, z⟩ => ⟨n, l, k, fun vs H1 k1 q1 o1 => by
    have o := allo_das o1
    refine ⟨by rw [o.length]; exact Nat.le_trans hl (by decide), fun p hp => z _ _ (k1.ext (.new hp)) (q1.trans (Ext.new hp).kp) ⟨p, vs, rfl, ?_, upd_same, (o.mono Kp.refl fun a z => .inl (at_z.mpr z)).kp (Ext.new hp).kp⟩⟩
    match e : h p with
    | none => rfl
    | some u => exact nomatch (k1.kept p u (fun c => c) e).symm.trans hp⟩
theorem c_lenS {K : PySem.W.Frag} {h : Hp} {sa : Addr} {ns : List Int} : Cal (Wd.at (fun _ => False) (fun _ _ => True) h) (fun xs H Q => ∃ x n, xs = [x] ∧ LenV K x H n ∧ Q (.int n) H) [scr K h sa ns] (eqd _ (.int ns.length)) := fun n H vs w jj o Q q => by
  obtain ⟨v, rfl, o1⟩ := allo_1 o
  obtain ⟨rfl, o2⟩ := o1
  have e : LenV K (.ref sa) H (ns.map V.int).length := .inl ⟨_, o2, rfl⟩
  rw [List.length_map] at e
  exact ⟨_, _, rfl, e, q _ H Ext.refl (ok_eqd (.int _))⟩
theorem o_ixS {K : PySem.W.Frag} {h : Hp} {sa : Addr} {ns : List Int} {i : Int} (h0 : 0 ≤ i) (h1 : i < ns.length) : Op2 (Wd.at (fun _ => False) (fun _ _ => True) h) (rIxL K) (scr K h sa ns) (eqd _ (.int i)) (intp _ fun _ => True) := fun n H v u w jj o1 o2 Q q => by
  obtain ⟨rfl, o1⟩ := o1
  have o2 := eqd_ok o2
  cases o2
  have hl : i.toNat < ns.length := by omega
  have e : atI (ns.map V.int) i = some (.int ns[i.toNat]) := by
    have e2 : atI (ns.map V.int) ((i.toNat : Nat) : Int) = some (V.int ns[i.toNat]) := atI_nat (by rw [List.getElem?_map, List.getElem?_eq_getElem hl]; rfl)
    rwa [Int.toNat_of_nonneg h0] at e2
  exact ⟨sa, _, i, _, rfl, rfl, o1, e, q _ H Ext.refl ⟨_, .int _, _, rfl, trivial⟩⟩
end
end Dv
set_option maxRecDepth 100000
set_option maxHeartbeats 4000000
/-! Dv10: numbers from exact to ranged; the def that makes the bag. -/
namespace Dv
open PySem PySem.Spec PyProof.Rows L2
section
variable {X : Cx} {W : Wd} {Δ : List Sl} {m m1 m2 m3 : Nat} {e a b c : Expr} {pos : Pos}
theorem ei {Pi : Int → Prop} {i : Int} (h : DE X W Δ m e (eqd W.Z (.int i))) (p : Pi i) : DE X W Δ m e (intp W.Z Pi) := h.imp fun H v o => ⟨_, eqd_ok o, i, rfl, p⟩
theorem ii {Pi Qi : Int → Prop} (h : DE X W Δ m e (intp W.Z Pi)) (p : ∀ i, Pi i → Qi i) : DE X W Δ m e (intp W.Z Qi) := h.imp fun H v ⟨d, o, i, q, r⟩ => ⟨d, o, i, q, p i r⟩
theorem de_pow {i j : Int} {jx jy} {px py : Pos} (h : CPowW i j) {z : Int} (e : z = i ^ j.toNat) : DE X W Δ (0 + 0) (.BinOp (.Constant (.int i) jx px) .Pow (.Constant (.int j) jy py) pos) (eqd W.Z (.int z)) :=
  (de_op op_powW de_int de_int (o_int h)).to (by rw [e])
end
section
variable {P : Program} {w : World} {K : PySem.W.Frag} {mg : Str → Option Value} {base : Heap} {k : Nat} {f : Addr} {fd : FuncData} {x qual : Str} {st : Stmt} {N : List Str}
/-- a def that makes a bag from the script and a number -/
theorem okMk {s1 s2 : Str} (F : Fun K x qual st f fd) (S : FnScope N [s1, s2] (defScope st))
    (body : ∀ (cd : Value) (B : Around) (fr : List Env) (t : Shared) (h : Hp) (e : XK), B.guards = some [] → Room k (B.deeper (envOfC qual (defScope st) t.heap.objs.size f cd)) → ∀ (a : Addr) (ns : List Int) (i : Int), ns.length ≤ 63 → 0 ≤ i → i ≤ 100 → SqL K h a (ns.map V.int) →
      HS (cxOf CX0 P w K mg base N qual (defScope st) f cd B fr t h e).nox (Ok (Wd.at (fun _ => False) (fun _ _ => True) h) 0 (slots N [.is (.ref a), .val (.int i)])) (defBody st) { nx := fun _ _ => False, rt := fun v H' => Ext h H' ∧ ∃ p x y z, v = .ref p ∧ h p = none ∧ H' p = some (.lst [.int x, .int y, .int z]) ∧ IsBag 0 (.lst [.int x, .int y, .int z]) }) :
    FnG P w K mg base CX0 (k + 1) f fd [s1, s2] (spMk K) := by
  refine okG F S (fun xs h q e z => ?_) (fun cd B fr t h xs q e gd rm z => ?_)
  · obtain ⟨a, ns, i, rfl, _⟩ := z
    rfl
  · obtain ⟨a, ns, i, rfl, hS, hn, h0, h1, fin⟩ := z
    refine ⟨_, body cd B fr t h e gd rm a ns i hn h0 h1 hS, at_ok Wok.none trivial (.cons rfl (.cons ⟨_, rfl, .int i⟩ .nil)), fun _ _ z => z.elim, fun v H' z => ?_, fun _ _ z => z, fun _ _ z => z⟩
    obtain ⟨e', p, x, y, z, rfl, hp, ho, hb⟩ := z
    exact fin p H' _ hp e' ho hb
end
/-! ### draws, places -/
def Many (ds : List PyData) : Prop := ∃ n : Int, ds = [.int n] ∧ 1 ≤ n ∧ n < 1073741824
def Took (ds : List PyData) (d : PyData) : Prop := ∃ n i : Int, ds = [.int n] ∧ d = .int i ∧ 0 ≤ i ∧ i < n
section
variable {X : Cx} {W : Wd} {Δ : List Sl} {m m1 m2 m3 : Nat} {e a b c : Expr} {pos : Pos}
variable {k : Nat} {f : Addr} {fd : FuncData} {ps : List Str} {x : Str} {p : Pos}
theorem de_take {l : Int} {q : Addr} (F : FnG X.prog X.w X.K X.mg X.base CX0 k f fd ps (spB Many (fun _ => 1) Took)) (gd : X.A.guards = some []) (rm : Room k X.A) (hg : Gl X x) (hm : X.mg x = some (.ref f)) (hk : PySem.W.keepIn X.K (.ref f) = true) (hb : Binds X.K fd ps [])
    (B : BagJ W.Z W.J q) (h0 : DE X W Δ 0 e (raw W.Z (.ref q))) (ha : DE X W Δ m a (eqd W.Z (.int l))) (hl : 1 ≤ l ∧ l < 1073741824)
    (h1 : (x == ("__debug__" : Str)) = false := by decide) (h2 : starEach [e, a] X.env = (false, eval e X.env) :: starEach [a] X.env := by rfl) (h2' : starEach [a] X.env = (false, eval a X.env) :: starEach [] X.env := by rfl) (h3 : (backTo pos (starEach [a] X.env)).any (·.1) = false := by rfl) :
    DE X W Δ (m + 1) (.Call (.Name x p) [e, a] [] pos) (intp W.Z fun i => 0 ≤ i ∧ i < l) :=
  (de_draw (M := 1) (m := m + 0) F gd rm hg hm hk hb B h0 (da_cons ha da_nil h2') (fun H vs o => by
    obtain ⟨d', hd, rfl⟩ := allo1 o
    refine ⟨_, hd, ⟨l, rfl, hl⟩, Nat.le_refl _, ?_⟩
    rintro r ⟨n, i, e, rfl, i0, i1⟩
    cases e
    exact ⟨i, rfl, i0, i1⟩) h1 h2 h3)
theorem atI_mem {α : Type} {xs : List α} {i : Int} (h : 0 ≤ i ∧ i < xs.length) : ∃ d, atI xs i = some d ∧ d ∈ xs := by
  have hl : i.toNat < xs.length := by omega
  have e2 : atI xs ((i.toNat : Nat) : Int) = some xs[i.toNat] := atI_nat (List.getElem?_eq_getElem hl)
  rw [Int.toNat_of_nonneg h.1] at e2
  exact ⟨_, e2, List.getElem_mem hl⟩
/-- [..][i], one of them -/
theorem de_pick {ds : List PyData} {R : PyData → Prop} {l : Int} (ha : DE X W Δ m1 a (eqd W.Z (.list ds))) (hb : DE X W Δ m2 b (intp W.Z fun i => 0 ≤ i ∧ i < l)) (hl : l = ds.length) (hR : ∀ d ∈ ds, R d) (hs : PlainIx b := by intro _ _; rfl) : DE X W Δ (m1 + m2) (.Subscript a b pos) (dat W.Z R) :=
  de_ix ix_list ha hb (o_ixL fun i h => by
    obtain ⟨d, h1, h2⟩ := atI_mem (xs := ds) (i := i) (by omega)
    exact ⟨d, h1, hR d h2⟩) hs
end
theorem cut_to (ds : List PyData) (n : Nat) : cutD ds none (some (n : Int)) = ds.take n := by
  unfold cutD
  show (ds.drop 0).take (HT.sIx ds.length ds.length (some (n : Int)) - 0) = _
  have : HT.sIx ds.length ds.length (some (n : Int)) = min n ds.length := by
    show (if (n : Int) < 0 then ((n : Int) + ((ds.length : Nat) : Int)).toNat else min (n : Int).toNat ds.length) = _
    rw [if_neg (by omega), Int.toNat_natCast]
  rw [this, Nat.sub_zero, List.drop_zero]
  rcases Nat.le_total n ds.length with h | h
  · rw [Nat.min_eq_left h]
  · rw [Nat.min_eq_right h, List.take_length, List.take_of_length_le h]
theorem cut_from (ds : List PyData) (n : Nat) : cutD ds (some (n : Int)) none = ds.drop n := by
  unfold cutD
  have : HT.sIx ds.length 0 (some (n : Int)) = min n ds.length := by
    show (if (n : Int) < 0 then ((n : Int) + ((ds.length : Nat) : Int)).toNat else min (n : Int).toNat ds.length) = _
    rw [if_neg (by omega), Int.toNat_natCast]
  have e2 : HT.sIx ds.length ds.length none = ds.length := rfl
  rw [this, e2]
  rcases Nat.le_total n ds.length with h | h
  · rw [Nat.min_eq_left h, List.take_of_length_le (by rw [List.length_drop]; exact Nat.le_refl _)]
  · rw [Nat.min_eq_right h, List.drop_length, List.drop_of_length_le h, List.take_nil]
end Dv
set_option maxRecDepth 100000
set_option maxHeartbeats 4000000
/-! Dv11: how long data are when shown; signs of a text; texts joined. -/
namespace Dv
open PySem PySem.Spec PyProof.Rows L2
/-- data of a bulk at most b and a depth at most p -/
structure Sw (b p : Nat) (d : PyData) : Prop where
  s : d.showable = true
  l : PyData.leavesShort 600 d = true
  b : d.bulk ≤ b
  p : d.depth ≤ p
/-- what repr takes -/
structure Shw (d : PyData) : Prop where
  s : d.showable = true
  z : d.shown.length ≤ sizeLine
  p : d.depth ≤ 60
theorem Sw.shw {b p : Nat} {d : PyData} (h : Sw b p d) (hb : b ≤ 27000) (hp : p ≤ 60) : Shw d := by
  refine ⟨h.s, ?_, Nat.le_trans h.p hp⟩
  have h1 := PyData.shown_le_bulk 600 (by decide) d h.l
  have h2 : (600 + 2) * d.bulk ≤ (600 + 2) * 27000 := Nat.mul_le_mul_left _ (Nat.le_trans h.b hb)
  have h3 : sizeLine = 16777216 := by decide
  omega
theorem Sw.up {b p b' p' : Nat} {d : PyData} (h : Sw b p d) (hb : b ≤ b') (hp : p ≤ p') : Sw b' p' d := ⟨h.s, h.l, Nat.le_trans h.b hb, Nat.le_trans h.p hp⟩
structure Sws (b p n : Nat) (ds : List PyData) : Prop where
  s : PyData.showableAll ds = true
  l : PyData.leavesShortAll 600 ds = true
  b : PyData.bulkAll ds ≤ ds.length * (b + 1)
  p : PyData.depthAll ds ≤ p
  n : ds.length ≤ n
theorem Sws.of {b p : Nat} : ∀ {ds : List PyData}, (∀ d ∈ ds, Sw b p d) → Sws b p ds.length ds
  | [], _ => ⟨rfl, rfl, Nat.zero_le _, Nat.zero_le _, Nat.le_refl _⟩
  | d :: ds, h => by
    have h1 := h d List.mem_cons_self
    have h2 := Sws.of (ds := ds) fun e m => h e (List.mem_cons_of_mem _ m)
    refine ⟨?_, ?_, ?_, ?_, Nat.le_refl _⟩
    · show (d.showable && PyData.showableAll ds) = true
      rw [h1.s, h2.s]
      rfl
    · show (PyData.leavesShort 600 d && PyData.leavesShortAll 600 ds) = true
      rw [h1.l, h2.l]
      rfl
    · show d.bulk + 1 + PyData.bulkAll ds ≤ (ds.length + 1) * (b + 1)
      have := h1.b
      have := h2.b
      rw [Nat.succ_mul]
      omega
    · show max d.depth (PyData.depthAll ds) ≤ p
      exact Nat.max_le.mpr ⟨h1.p, h2.p⟩
theorem Sw.list {b p n : Nat} {ds : List PyData} (h : ∀ d ∈ ds, Sw b p d) (hn : ds.length ≤ n) : Sw (n * (b + 1)) (p + 1) (.list ds) := by
  have q := Sws.of h
  exact ⟨q.s, q.l, Nat.le_trans q.b (Nat.mul_le_mul_right _ hn), Nat.succ_le_succ q.p⟩
theorem Sw.tuple {b p n : Nat} {ds : List PyData} (h : ∀ d ∈ ds, Sw b p d) (hn : ds.length ≤ n) : Sw (n * (b + 1)) (p + 1) (.tuple ds) := by
  have q := Sws.of h
  exact ⟨q.s, q.l, Nat.le_trans q.b (Nat.mul_le_mul_right _ hn), Nat.succ_le_succ q.p⟩
theorem Sw.str {b : Nat} {x : Str} (h : ∀ c ∈ x.cps.toList, c < 1114112) (hb : x.length ≤ b) : Sw b 0 (.str x) :=
  ⟨rfl, List.all_eq_true.mpr fun c m => decide_eq_true (Nat.lt_of_lt_of_le (h c m) (by decide)), hb, Nat.le_refl _⟩
/-- a text joined of texts -/
theorem join_cps {ys : List Str} : (Txt.join "" ys).cps.toList = ys.flatMap fun y => y.cps.toList := by
  show (Builtin.Str.glued "" ys).cps.toList = _
  rw [StrLaws.glued_eq_join]
  induction ys with
  | nil => rfl
  | cons y ys ih =>
    cases ys with
    | nil => simp [Str.join]
    | cons z zs =>
      show (y ++ "" ++ Str.join "" (z :: zs)).cps.toList = _
      rw [Str.cps_append, Str.cps_append, List.flatMap_cons, ← ih]
      show (y.cps ++ #[] ++ _).toList = _
      simp
theorem strs_of {Q : Str → Prop} : ∀ {zs : List PyData}, (∀ z ∈ zs, ∃ y, z = .str y ∧ Q y) → ∃ ys : List Str, zs = ys.map PyData.str ∧ ∀ y ∈ ys, Q y
  | [], _ => ⟨[], rfl, fun y m => nomatch m⟩
  | z :: zs, h => by
    obtain ⟨y, rfl, q⟩ := h z List.mem_cons_self
    obtain ⟨ys, rfl, r⟩ := strs_of (zs := zs) fun e m => h e (List.mem_cons_of_mem _ m)
    refine ⟨y :: ys, rfl, fun e m => ?_⟩
    rcases List.mem_cons.mp m with rfl | m
    · exact q
    · exact r e m
theorem join_ones {z : List Nat} {ys : List Str} (h : ∀ y ∈ ys, ∃ c, y = ⟨#[c]⟩ ∧ c ∈ z) : (Txt.join "" ys).length = ys.length ∧ ∀ c ∈ (Txt.join "" ys).cps.toList, c ∈ z := by
  have e : ∀ ys : List Str, (∀ y ∈ ys, ∃ c, y = ⟨#[c]⟩ ∧ c ∈ z) → (ys.flatMap fun y => y.cps.toList).length = ys.length ∧ ∀ c ∈ (ys.flatMap fun y => y.cps.toList), c ∈ z := by
    intro ys h
    induction ys with
    | nil => exact ⟨rfl, fun c m => nomatch m⟩
    | cons y ys ih =>
      obtain ⟨c, rfl, hc⟩ := h y List.mem_cons_self
      obtain ⟨i1, i2⟩ := ih fun e m => h e (List.mem_cons_of_mem _ m)
      rw [List.flatMap_cons]
      refine ⟨?_, fun d m => ?_⟩
      · rw [List.length_append, i1, List.length_cons]
        exact Nat.add_comm _ _
      · rcases List.mem_append.mp m with m | m
        · cases List.mem_singleton.mp m
          exact hc
        · exact i2 d m
  obtain ⟨e1, e2⟩ := e ys h
  rw [join_cps]
  refine ⟨?_, e2⟩
  show (Txt.join "" ys).cps.size = _
  rw [← Array.length_toList, join_cps, e1]
section
variable {X : Cx} {W : Wd} {Δ : List Sl} {m m1 m2 m3 : Nat} {e a b c : Expr} {pos : Pos}
theorem o_ixT {z : Str} {l : Int} (hz : z.length ≤ 100000) (hl : l = z.length) : Op2 W rIxS (eqd W.Z (.str z)) (intp W.Z fun i => 0 ≤ i ∧ i < l) (dat W.Z fun d => ∃ c, d = .str ⟨#[c]⟩ ∧ c ∈ z.cps.toList) := fun n H v u w jj o1 o2 Q q => by
  have o1 := eqd_ok o1
  obtain ⟨_, o2, i, rfl, p⟩ := o2
  cases o2
  cases o1
  have e : z.length = z.cps.toList.length := Array.length_toList.symm
  obtain ⟨c, h1, h2⟩ := atI_mem (xs := z.cps.toList) (i := i) (by omega)
  exact ⟨z, i, c, rfl, rfl, Nat.le_trans hz (by decide), h1, q _ H Ext.refl ⟨_, .str _, c, rfl, h2⟩⟩
/-- z[i], a sign of z -/
theorem de_sign {z : Str} {l : Int} (ha : DE X W Δ m1 a (eqd W.Z (.str z))) (hb : DE X W Δ m2 b (intp W.Z fun i => 0 ≤ i ∧ i < l)) (hz : z.length ≤ 100000) (hl : l = z.length) (hs : PlainIx b := by intro _ _; rfl) : DE X W Δ (m1 + m2) (.Subscript a b pos) (dat W.Z fun d => ∃ c, d = .str ⟨#[c]⟩ ∧ c ∈ z.cps.toList) :=
  de_ix ix_str ha hb (o_ixT hz hl) hs
end
end Dv
set_option maxRecDepth 100000
set_option maxHeartbeats 4000000
/-! Dv12: a text times a number; a display of one pair. -/
namespace Dv
open PySem PySem.Spec PyProof.Rows L2
theorem Less.refl : ∀ l : List Sl, Less l l
  | [] => .nil
  | _ :: l => .same (Less.refl l)
theorem DI.to {X : Cx} {W : Wd} {Δ : List Sl} {m : Nat} {tg e : Expr} {Ps Pr : List PyData → Prop} (h : DI X W Δ m tg e Ps) (r : ∀ xs, Ps xs → Pr xs) : DI X W Δ m tg e Pr :=
  pi_to h fun σ H R ⟨n, l, k, z⟩ => ⟨n, l, k, fun J H1 xs k1 q1 p => z J H1 xs k1 q1 (r xs p)⟩
theorem ones_fit {z : List Nat} {ys : List Str} (h : ∀ y ∈ ys, ∃ c, y = ⟨#[c]⟩ ∧ c ∈ z) (hl : ys.length ≤ 1000000) : (ys.map (·.length)).sum + ys.length * ("" : Str).length ≤ 16777216 := by
  have e1 := (join_ones h).1
  have e2 : (Txt.join "" ys).length = (ys.map (·.length)).sum + (ys.length - 1) * ("" : Str).length := size_glued "" ys
  have e3 : ("" : Str).length = 0 := rfl
  rw [e3] at e2 ⊢
  rw [Nat.mul_zero] at e2 ⊢
  omega
/-- a text, n times -/
def times (z : Str) (n : Nat) : Str := ⟨List.foldl (fun a b => a ++ b) #[] (List.replicate n z.cps)⟩
theorem times_len (z : Str) (n : Nat) : (times z n).length = n * z.length := by
  have e : ∀ (l : List (Array Nat)) (a : Array Nat), (List.foldl (fun a b => a ++ b) a l).size = a.size + (l.map (·.size)).sum := by
    intro l
    induction l with
    | nil => exact fun a => rfl
    | cons x l ih =>
      intro a
      rw [List.foldl_cons, ih, Array.size_append, List.map_cons, List.sum_cons]
      omega
  show (List.foldl (fun a b => a ++ b) #[] (List.replicate n z.cps)).size = _
  rw [e, List.map_replicate]
  have e2 : ∀ n k : Nat, (List.replicate n k).sum = n * k := by
    intro n k
    induction n with
    | zero => simp
    | succ n ih => rw [List.replicate_succ, List.sum_cons, ih, Nat.succ_mul, Nat.add_comm]
  rw [e2]
  show 0 + _ = _
  rw [Nat.zero_add]
  rfl
def rMulS : R2 := fun x y H Q => ∃ z n, x = .str z ∧ y = .int n ∧ 2 ≤ n ∧ n ≤ 1000 ∧ 1 ≤ z.length ∧ z.length ≤ 1000 ∧ Q (.str (times z n.toNat)) H
theorem op_mulS {X : Cx} : OpR X (binaryOp .Mult) rMulS := by
  intro pins s σ H x y v u Q I rx ry h
  obtain ⟨z, n, rfl, rfl, h1, h2, h3, h4, q⟩ := h
  obtain ⟨t, rfl⟩ := rx
  obtain ⟨t', rfl⟩ := ry
  have hz : (z.length : Int) ≤ 1000 := by omega
  have hn : n.toNat ≤ 1000 := by omega
  have hp : z.length * n.toNat ≤ 1000 * 1000 := Nat.mul_le_mul h4 hn
  have e : sizeLine = 16777216 := by decide
  have d : (1000 : Int) ≤ (2 ^ 63 - 1) / n := by
    rw [Int.le_ediv_iff_mul_le (by omega)]
    omega
  refine P.mul_str ?_ (fun _ _ => by omega) (fun _ _ => decide_eq_false (by omega)) ?_
  · rw [decide_eq_false (by omega), decide_eq_false (by omega)]
    rfl
  · have c : (n == 1 || z.length == 0) = false := by
      rw [beq_eq_false_iff_ne.mpr (by omega), beq_eq_false_iff_ne.mpr (by omega)]
      rfl
    rw [if_neg (by omega), c, if_neg (by decide), Made.post.eq_3]
    refine ⟨?_, .str (times z n.toNat), H, I.tok _, ⟨_, rfl⟩, q⟩
    show (times z n.toNat).length ≤ _
    rw [times_len, Nat.mul_comm]
    omega
section
variable {X : Cx} {W : Wd} {Δ : List Sl} {m m1 m2 m3 : Nat} {e a b c : Expr} {pos : Pos}
theorem de_mulS {z : Str} {n : Int} (ha : DE X W Δ m1 a (eqd W.Z (.str z))) (hb : DE X W Δ m2 b (eqd W.Z (.int n))) (h : 2 ≤ n ∧ n ≤ 1000 ∧ 1 ≤ z.length ∧ z.length ≤ 1000) : DE X W Δ (m1 + m2) (.BinOp a .Mult b pos) (eqd W.Z (.str (times z n.toNat))) :=
  de_op op_mulS ha hb fun N H v u w jj o1 o2 Q q => by
    have o1 := eqd_ok o1
    have o2 := eqd_ok o2
    cases o1
    cases o2
    exact ⟨z, n, rfl, rfl, h.1, h.2.1, h.2.2.1, h.2.2.2, q _ H Ext.refl (ok_eqd (.str _))⟩
/-- {'k': i} -/
theorem de_dict1 {x : Str} {i : Int} {jx jy} {px py : Pos} : DE X W Δ 0 (.Dict [some (.Constant (.str x) jx px)] [.Constant (.int i) jy py] pos) (eqd W.Z (.dict [(.str x, .int i)])) :=
  pe_to (pe_disp (pps_cons pe_str pe_int pps_nil) rfl rfl (by simp) (Nat.le_of_ble_eq_true rfl)) fun σ H Q ⟨n, l, k, z⟩ p hp =>
    ⟨upd_same, [(.inr x, .int i)], rfl, Nat.le_of_ble_eq_true rfl, by
      have e2 : Ext H (upd (upd H p (.dK [])) p (.dK (mergeK [] [(.inr x, .int i)]))) := fun b o h => by
        rw [upd_ne (ne_of_none h hp), upd_ne (ne_of_none h hp)]
        exact h
      exact z _ _ (k.ext e2) e2.kp (ok_eqd (.dct upd_same (k.w.new k.j hp) (.cons (.str x) .nil) (.cons (.int i) .nil)))⟩
end
end Dv
set_option maxRecDepth 100000
set_option maxHeartbeats 4000000
/-! Dv13: objects of one's own that change; loops over them. -/
namespace Dv
open PySem PySem.Spec PyProof.Rows L2
/-- objects of one's own, each with what it holds now -/
def Wd.pinL (W : Wd) (l : List (Addr × HO)) : Wd := { W with pins := l.map (fun q => (q.1, fun _ o => o = q.2)) ++ W.pins }
/-- a part of a def on its own, but for what it may change -/
def Wd.cut (W : Wd) (H : Hp) (as : List Addr) : Wd := ⟨W.Z, W.J, fun a => if a ∈ as then none else H a, []⟩
section
variable {W : Wd} {n n' : Nat} {Δ Γ : List Sl} {σ τ : L2.St} {H H1 H' : Hp} {p : Addr} {o o' : HO} {l l' : List (Addr × HO)} {as : List Addr}
theorem pinL_z {a : Addr} : (W.pinL l).Z a ↔ a ∈ l.map (·.1) ∨ W.Z a := by
  induction l with
  | nil => exact ⟨fun z => .inr z, fun z => z.elim (fun m => nomatch m) id⟩
  | cons q l ih =>
    rw [show W.pinL (q :: l) = (W.pinL l).add q.1 (fun _ o => o = q.2) from rfl, add_z, ih, List.map_cons, List.mem_cons, or_assoc]
theorem pinL_j : (W.pinL l).J n H ↔ (∀ q ∈ l, H q.1 = some q.2) ∧ W.J n H := by
  induction l with
  | nil => exact ⟨fun z => ⟨fun q m => (nomatch m), z⟩, fun z => z.2⟩
  | cons q l ih =>
    rw [show W.pinL (q :: l) = (W.pinL l).add q.1 (fun _ o => o = q.2) from rfl, add_j, ih]
    constructor
    · rintro ⟨⟨o, h1, _, _, rfl⟩, h2, h3⟩
      refine ⟨fun r m => ?_, h3⟩
      rcases List.mem_cons.mp m with rfl | m
      · exact h1
      · exact h2 r m
    · rintro ⟨h1, h2⟩
      exact ⟨⟨_, h1 q List.mem_cons_self, n, Nat.le_refl _, rfl⟩, fun r m => h1 r (List.mem_cons_of_mem _ m), h2⟩
theorem pinL_as : (W.pinL l).pins.map (·.1) = l.map (·.1) ++ W.pins.map (·.1) := by
  show List.map (fun q => q.1) (List.map (fun (q : Addr × HO) => (q.1, fun (_ : Nat) (o : HO) => o = q.2)) l ++ W.pins) = _
  rw [List.map_append, List.map_map]
  rfl
theorem pinL_fr (k : Ok (W.pinL l) n Δ σ H) : (∀ a ∈ l.map (·.1), ¬ W.Z a ∧ W.H0 a = none) ∧ (l.map (·.1)).Nodup ∧ (∀ q ∈ W.pins, ¬ W.Zb q.1 ∧ W.H0 q.1 = none) ∧ (W.pins.map (·.1)).Nodup := by
  have nd := k.nd
  rw [pinL_as] at nd
  obtain ⟨n1, n2, n3⟩ := List.nodup_append.mp nd
  refine ⟨fun a m => ?_, n1, fun q m => k.fr q (List.mem_append_right _ m), n2⟩
  obtain ⟨q, hq, rfl⟩ := List.mem_map.mp m
  have f := k.fr (q.1, fun _ o => o = q.2) (List.mem_append_left _ (List.mem_map.mpr ⟨q, hq, rfl⟩))
  refine ⟨?_, f.2⟩
  rintro (z | ⟨r, hr, e⟩)
  · exact f.1 z
  · exact n3 _ m _ (List.mem_map.mpr ⟨r, hr, rfl⟩) e.symm
theorem pinL_mk (wb : Wok W.Zb W.Jb) (j : (∀ q ∈ l, H q.1 = some q.2) ∧ W.J n H) (sl : Paired (SlOk (W.pinL l).Z H) Δ σ) (kept : Kp W.Zb W.H0 H)
    (fr : (∀ a ∈ l.map (·.1), ¬ W.Z a ∧ W.H0 a = none) ∧ (l.map (·.1)).Nodup ∧ (∀ q ∈ W.pins, ¬ W.Zb q.1 ∧ W.H0 q.1 = none) ∧ (W.pins.map (·.1)).Nodup) : Ok (W.pinL l) n Δ σ H := by
  obtain ⟨f1, f2, f3, f4⟩ := fr
  refine ⟨wb, pinL_j.mpr j, sl, kept, ?_, fun q m => ?_⟩
  · rw [pinL_as]
    refine List.nodup_append.mpr ⟨f2, f4, fun a ma b mb e => ?_⟩
    subst e
    obtain ⟨r, hr, e⟩ := List.mem_map.mp mb
    exact (f1 a ma).1 (.inr ⟨r, hr, e⟩)
  · rcases List.mem_append.mp m with m | m
    · obtain ⟨r, hr, rfl⟩ := List.mem_map.mp m
      have := f1 r.1 (List.mem_map.mpr ⟨r, hr, rfl⟩)
      exact ⟨fun z => this.1 (.inl z), this.2⟩
    · exact f3 q m
theorem set_as {j : Nat} (h : l[j]? = some (p, o)) : (l.set j (p, o')).map (·.1) = l.map (·.1) := by
  rw [List.map_set]
  refine List.ext_getElem? fun i => ?_
  rw [List.getElem?_set]
  by_cases e : j = i
  · subst e
    rw [List.getElem?_map, h]
    obtain ⟨hl, _⟩ := List.getElem?_eq_some_iff.mp h
    rw [if_pos rfl, if_pos (by rw [List.length_map]; exact hl)]
    rfl
  · rw [if_neg e]
/-- one of them changes -/
theorem Ok.mut (k : Ok (W.pinL l) n Δ σ H) {j : Nat} (h : l[j]? = some (p, o)) (o' : HO) : Ok (W.pinL (l.set j (p, o'))) n Δ σ (upd H p o') := by
  have fr := pinL_fr k
  have hm : p ∈ l.map (·.1) := List.mem_map.mpr ⟨_, List.mem_of_getElem? h, rfl⟩
  have ha := set_as (o' := o') h
  have e : Kp (W.pinL l).Z H (upd H p o') := fun a u nz hu => by
    have ne : a ≠ p := fun c => nz (pinL_z.mpr (.inl (by rw [c]; exact hm)))
    rw [upd_ne ne]
    exact hu
  refine pinL_mk k.wb ⟨fun q m => ?_, ?_⟩ ?_ ?_ ?_
  · obtain ⟨i, hi⟩ := List.mem_iff_getElem?.mp m
    rw [List.getElem?_set] at hi
    by_cases c : j = i
    · rw [if_pos c] at hi
      split at hi
      · cases hi
        exact upd_same
      · cases hi
    · rw [if_neg c] at hi
      have ne : q.1 ≠ p := fun c2 => c (by
        have hl := (List.getElem?_eq_some_iff.mp h).1
        have e2 : (l.map (·.1))[j]? = (l.map (·.1))[i]? := by
          rw [List.getElem?_map, List.getElem?_map, h, hi]
          exact congrArg some c2.symm
        exact (List.getElem?_inj (by rw [List.length_map]; exact hl) fr.2.1).mp e2)
      rw [upd_ne ne]
      exact (pinL_j.mp k.j).1 q (List.mem_of_getElem? hi)
  · exact (wok k.wb : Wok W.Z W.J).loc n H _ (pinL_j.mp k.j).2 fun a z => upd_ne fun c => (fr.1 p hm).1 (c ▸ z)
  · exact pmono (fun _ _ => SlOk.mono e fun a z => .inl (by rw [pinL_z] at z ⊢; rwa [ha] at z)) k.sl
  · exact (show Kp W.Zb W.H0 _ from kp0 (W := W.pinL l) k e)
  · rw [ha]
    exact fr
theorem cut_z {a : Addr} : (W.cut H as).Z a ↔ W.Z a := ⟨fun z => Or.elim z id (fun ⟨_, m, _⟩ => nomatch m), fun z => Or.inl z⟩
theorem cut_j : (W.cut H1 as).J n H ↔ W.J n H := ⟨fun z => z.1, fun z => ⟨z, fun _ m => nomatch m⟩⟩
theorem Ok.cut (k : Ok (W.pinL l) n Δ σ H) (e : l.map (·.1) = as) : Ok ((W.cut H as).pinL l) n Δ σ H := by
  have fr := pinL_fr k
  refine pinL_mk (wok k.wb) ⟨(pinL_j.mp k.j).1, cut_j.mpr (pinL_j.mp k.j).2⟩ (pmono (fun _ _ => SlOk.mono Kp.refl fun a z => .inl ?_) k.sl) (fun a u nz h => ?_) ⟨fun a m => ?_, fr.2.1, fun q m => (nomatch m), List.nodup_nil⟩
  · rw [pinL_z] at z ⊢
    exact z.imp id cut_z.mp
  · have h : (if a ∈ as then none else H a) = some u := h
    split at h
    · cases h
    · exact h
  · refine ⟨fun z => (fr.1 a m).1 (cut_z.mp z), ?_⟩
    show (if a ∈ as then none else H a) = none
    rw [if_pos (e ▸ m)]
theorem Ok.uncut (k : Ok (W.pinL l) n Δ σ H) (h : Ok ((W.cut H as).pinL l') n' Γ τ H') (e : l.map (·.1) = as) (e' : l'.map (·.1) = as) : Ok (W.pinL l') n' Γ τ H' ∧ Kp (W.pinL l).Z H H' := by
  have fr := pinL_fr k
  have kp : Kp (W.pinL l).Z H H' := fun a u nz ha => by
    rw [pinL_z, e] at nz
    refine h.kept a u (fun z => nz (.inr z)) ?_
    show (if a ∈ as then none else H a) = some u
    rw [if_neg fun c => nz (.inl c)]
    exact ha
  refine ⟨pinL_mk k.wb ⟨(pinL_j.mp h.j).1, cut_j.mp (pinL_j.mp h.j).2⟩ (pmono (fun _ _ => SlOk.mono Kp.refl fun a z => .inl ?_) h.sl) (show Kp W.Zb W.H0 _ from kp0 (W := W.pinL l) k kp) ?_, kp⟩
  · rw [pinL_z] at z ⊢
    exact z.imp id cut_z.mpr
  · rw [e']
    rw [e] at fr
    exact fr
end
end Dv
set_option maxRecDepth 100000
set_option maxHeartbeats 4000000
/-! Dv14: lists of one's own: made, grown, left alone; for and while over them; targets. -/
namespace Dv
open PySem PySem.Spec PyProof.Rows L2
/-! ### targets -/
structure TGo (X : Cx) (tg : Expr) (fit : PyData → Prop) (put : List Sl → PyData → List Sl) : Prop where
  ex : ∃ g, PG X tg g ∧ ∀ (W : Wd) n Δ σ H v d, Ok W n Δ σ H → Da W.Z H v d → fit d → ∀ Q : L2.St → Hp → Prop, (∀ σ', Ok W n (put Δ d) σ' H → Q σ' H) → g v σ H Q
def put1 (i : Nat) (Δ : List Sl) (d : PyData) : List Sl := Δ.set i (.val d)
def put2 (i j : Nat) (Δ : List Sl) : PyData → List Sl
  | .tuple [a, b] => (Δ.set i (.val a)).set j (.val b)
  | _ => Δ
def put3 (i j k : Nat) (Δ : List Sl) : PyData → List Sl
  | .tuple [a, b, c] => ((Δ.set i (.val a)).set j (.val b)).set k (.val c)
  | _ => Δ
section
variable {X : Cx} {x y z : Str} {px py pz pt : Pos} {i j k : Nat}
theorem tg_name (hN : X.N.Nodup) (hi : X.N[i]? = some x) (hx : Loc X.env.scope x) (fx : X.fn x = true ∨ X.env.scope.names.lookup x = some .local := by first | exact .inl rfl | exact .inr rfl | assumption) : TGo X (.Name x px) (fun _ => True) (put1 i) :=
  ⟨_, pg_name hN hi hx (hf := fx), fun W n Δ σ H v d k o _ Q q => q _ (k.put i (s := .val d) ⟨v, rfl, o⟩)⟩
theorem tg_pair {kt} (hc : X.calm = true) (hN : X.N.Nodup) (hi : X.N[i]? = some x) (hj : X.N[j]? = some y) (hx : Loc X.env.scope x) (hy : Loc X.env.scope y)
    (fx : X.fn x = true ∨ X.env.scope.names.lookup x = some .local := by first | exact .inl rfl | exact .inr rfl | assumption) (fy : X.fn y = true ∨ X.env.scope.names.lookup y = some .local := by first | exact .inl rfl | exact .inr rfl | assumption) (hn : (assignEach [.Name x px, .Name y py] X.env).length = 2 := by rfl) (hst : (assignEach [.Name x px, .Name y py] X.env).findIdx? (·.1) = none := by rfl) :
    TGo X (.Tuple [.Name x px, .Name y py] kt pt) (fun d => ∃ a b, d = .tuple [a, b]) (put2 i j) :=
  ⟨_, pg_tup hc (pgs_cons (pg_name hN hi hx (hf := fx)) (pgs_cons (pg_name hN hj hy (hf := fy)) pgs_nil)) hn hst, fun W n Δ σ H v d k o f Q q => by
    obtain ⟨a, b, rfl⟩ := f
    cases o with
    | tup r nz hd =>
      cases hd with
      | cons h1 h2 =>
        cases h2 with
        | cons h2 h3 =>
          cases h3
          exact ⟨_, _, rfl, .inl (.inl r), rfl, _, _, rfl, _, _, rfl, rfl, q _ ((k.put i (s := .val a) ⟨_, rfl, h1⟩).put j (s := .val b) ⟨_, rfl, h2⟩)⟩⟩
theorem tg_trip {kt} (hc : X.calm = true) (hN : X.N.Nodup) (hi : X.N[i]? = some x) (hj : X.N[j]? = some y) (hk : X.N[k]? = some z) (hx : Loc X.env.scope x) (hy : Loc X.env.scope y) (hz : Loc X.env.scope z)
    (fx : X.fn x = true ∨ X.env.scope.names.lookup x = some .local := by first | exact .inl rfl | exact .inr rfl | assumption) (fy : X.fn y = true ∨ X.env.scope.names.lookup y = some .local := by first | exact .inl rfl | exact .inr rfl | assumption) (fz : X.fn z = true ∨ X.env.scope.names.lookup z = some .local := by first | exact .inl rfl | exact .inr rfl | assumption) (hn : (assignEach [.Name x px, .Name y py, .Name z pz] X.env).length = 3 := by rfl) (hst : (assignEach [.Name x px, .Name y py, .Name z pz] X.env).findIdx? (·.1) = none := by rfl) :
    TGo X (.Tuple [.Name x px, .Name y py, .Name z pz] kt pt) (fun d => ∃ a b c, d = .tuple [a, b, c]) (put3 i j k) :=
  ⟨_, pg_tup hc (pgs_cons (pg_name hN hi hx (hf := fx)) (pgs_cons (pg_name hN hj hy (hf := fy)) (pgs_cons (pg_name hN hk hz (hf := fz)) pgs_nil))) hn hst, fun W n Δ σ H v d ok o f Q q => by
    obtain ⟨a, b, c, rfl⟩ := f
    cases o with
    | tup r nz hd =>
      cases hd with
      | cons h1 h2 =>
        cases h2 with
        | cons h2 h3 =>
          cases h3 with
          | cons h3 h4 =>
            cases h4
            exact ⟨_, _, rfl, .inl (.inl r), rfl, _, _, rfl, _, _, rfl, _, _, rfl, rfl, q _ (((ok.put i (s := .val a) ⟨_, rfl, h1⟩).put j (s := .val b) ⟨_, rfl, h2⟩).put k (s := .val c) ⟨_, rfl, h3⟩)⟩⟩
end

section
variable {X : Cx} {W : Wd} {Δ : List Sl} {m : Nat} {e a b oe : Expr} {D : Ends} {sts : List Stmt} {N : Nat} {pos : Pos} {l : List (Addr × HO)} {p : Addr} {vs : List V} {ds : List PyData}
/-- a value and what it is -/
def Fam.at (v : V) (d : PyData) : Fam := ⟨fun Z H u => u = v ∧ Da Z H v d, fun k z h => ⟨h.1, h.2.mono k z⟩⟩
def Fam.as (F : Fam) (Z : Addr → Prop) : As Z := ⟨F.ok Z, fun k h => F.mono k (fun _ c => .inl c) h⟩
theorem de_sat {i : Nat} {F : Fam} (h : PE X e (tVar i)) (hs : Δ[i]? = some (.sat F)) : DE X W Δ 0 e (F.as W.Z) :=
  de_val h fun n σ H k => by
    obtain ⟨o, h1, v, rfl, h2⟩ := pget k.sl hs
    exact ⟨v, h2, fun Q q => ⟨v, h1, q⟩⟩
/-- x = e, of which a Fam holds -/
theorem hs_setF {i : Nat} {y : Str} {pos' : Pos} {F : Fam} (hN : X.N.Nodup) (hi : X.N[i]? = some y) (hx : Loc X.env.scope y) (he : DE X W Δ m e (F.as W.Z)) (hb : N + m ≤ BIG) (hr : HS X (Ok W (N + m) (Δ.set i (.sat F))) sts D)
    (hs : swapsWith e (some (.Name y pos')) pos.line X.env = pure false := by rfl) (hf : X.fn y = true ∨ X.env.scope.names.lookup y = some .local := by first | exact .inl rfl | exact .inr rfl | assumption) : HS X (Ok W N Δ) (.Assign [.Name y pos'] e pos :: sts) D :=
  hs_cons (ps_to (ps_set hN hi hx he hs hf) fun D' σ H z => ⟨N, hb, z.1, fun v H1 k1 q1 o1 => z.2.1 _ _ (k1.put i (s := .sat F) ⟨v, rfl, o1⟩)⟩) hr
/-- x = [] -/
theorem hs_newL {i : Nat} {y : Str} {pos' p2 : Pos} (hN : X.N.Nodup) (hi : X.N[i]? = some y) (hx : Loc X.env.scope y) (hb : N ≤ BIG)
    (hr : ∀ p, HS X (Ok (W.pinL ((p, .lst []) :: l)) N (Δ.set i (.own p [] []))) sts D)
    (hs : swapsWith (.List [] p2) (some (.Name y pos')) pos.line X.env = pure false := by rfl) (hf : X.fn y = true ∨ X.env.scope.names.lookup y = some .local := by first | exact .inl rfl | exact .inr rfl | assumption) :
    HS X (Ok (W.pinL l) N Δ) (.Assign [.Name y pos'] (.List [] p2) pos :: sts) D := by
  refine hs_cons (mid := fun σ H => ∃ p, Ok (W.pinL ((p, .lst []) :: l)) N (Δ.set i (.own p [] [])) σ H) (ps_to (ps_set hN hi hx (pe_lst (da_nil (W := W.pinL l) (Δ := Δ))) hs hf) fun D' σ H z => ?_) (hs_ex hr)
  refine ⟨N, hb, z.1, fun vs H1 k1 q1 o1 => ?_⟩
  cases o1
  refine ⟨Nat.zero_le _, fun p hp => z.2.1 _ _ ⟨p, ?_⟩⟩
  have k2 := k1.pin hp (Kp.new hp) (k1.w.ext k1.j (Ext.new hp)) (Nat.le_refl _) (o := .lst []) upd_same (φ := fun _ o => o = .lst []) ⟨0, Nat.zero_le _, rfl⟩
  exact k2.put i (s := .own p [] []) ⟨rfl, .nil⟩
/-- x.append(e) -/
theorem hs_app {io j : Nat} {apos cpos : Pos} {Pd : PyData → Prop} (ho : PE X oe (tVar io)) (hs : Δ[io]? = some (.own p vs ds)) (hl : l[j]? = some (p, .lst vs)) (he : DE X (W.pinL l) Δ m e (dat _ Pd)) (hz : vs.length ≤ 1000000) (hb : N + m ≤ BIG)
    (hr : ∀ v d, Pd d → HS X (Ok (W.pinL (l.set j (p, .lst (vs ++ [v])))) (N + m) (Δ.set io (.own p (vs ++ [v]) (ds ++ [d])))) sts D)
    (g1 : attributeBase oe "append" X.env (eval oe X.env) = eval oe X.env := by rfl)
    (g2 : (((backTo cpos (starEach [e] X.env)).all fun x => !x.1) && (backToKw cpos (keywordEach [] X.env)).all (·.1.isSome) && decide (([e].length + ([] : List Keyword).length + if ([] : List Keyword).isEmpty = true then 0 else 1) < 30)) = true := by rfl)
    (g3 : (apos.endLine == cpos.line) = true := by rfl) (g4 : starEach [e] X.env = (false, eval e X.env) :: starEach [] X.env := by rfl) (g5 : (backTo cpos (starEach [] X.env)).any (·.1) = false := by rfl) :
    HS X (Ok (W.pinL l) N Δ) (.Expr (.Call (.Attribute oe "append" apos) [e] [] cpos) pos :: sts) D := by
  refine hs_cons (mid := fun σ H => ∃ v d, Pd d ∧ Ok (W.pinL (l.set j (p, .lst (vs ++ [v])))) (N + m) (Δ.set io (.own p (vs ++ [v]) (ds ++ [d]))) σ H)
    (ps_to (ps_expr (pe_bm PySem.F.plainAttrs_list PySem.F.slot_list_append PySem.F.type_list_append mt_append ho (da_cons he da_nil g4) g1 g2 g3 g4 g5)) fun D' σ H z => ?_) (hs_ex fun v => hs_ex fun d => hs_and (hr v d))
  have k := z.1
  have hp := (pinL_j.mp k.j).1 _ (List.mem_of_getElem? hl)
  refine ⟨_, (k.own hs).1, .inl ⟨rfl, vs, .inl (.inl hp)⟩, N, hb, k, fun us H1 k1 q1 o1 => ?_⟩
  obtain ⟨d, hd, pd⟩ := allo1 o1
  cases hd with
  | cons h1 h2 =>
    cases h2
    rename_i v
    have hp1 := (pinL_j.mp k1.j).1 _ (List.mem_of_getElem? hl)
    refine ⟨p, vs, v, rfl, rfl, hp1, Nat.lt_of_le_of_lt hz (by decide), z.2.1 _ _ ⟨v, d, pd, ?_⟩⟩
    have k2 := (k1.mut hl (.lst (vs ++ [v])))
    have fr := pinL_fr k1
    have hm : p ∈ l.map (·.1) := List.mem_map.mpr ⟨_, List.mem_of_getElem? hl, rfl⟩
    have e : Kp (W.pinL l).Z H1 (upd H1 p (.lst (vs ++ [v]))) := fun a u nz hu => by
      have ne : a ≠ p := fun c => nz (pinL_z.mpr (.inl (by rw [c]; exact hm)))
      rw [upd_ne ne]
      exact hu
    have zc : ∀ a, (W.pinL (l.set j (p, .lst (vs ++ [v])))).Z a → (W.pinL l).Z a ∨ H1 a = none := fun a z => .inl (by rw [pinL_z] at z ⊢; rwa [set_as hl] at z)
    have o2 := k1.own hs
    have q2 := k2.put io (s := .own p (vs ++ [v]) (ds ++ [d])) (v := .ref p) ⟨rfl, (o2.2.mono e zc).append (.cons (h1.mono e zc) .nil)⟩
    rwa [set_self o2.1] at q2
where
  set_self {σ : L2.St} {i : Nat} {v : V} (h : σ[i]? = some (some v)) : σ.set i (some v) = σ := by
    obtain ⟨hl, e⟩ := List.getElem?_eq_some_iff.mp h
    rw [← e, List.set_getElem_self]
/-- left alone, it is data -/
theorem Ok.done {n : Nat} {σ : L2.St} {H : Hp} {i : Nat} (k : Ok (W.pinL ((p, .lst vs) :: l)) n Δ σ H) (h : Δ[i]? = some (.own p vs ds)) : Ok (W.pinL l) n (Δ.set i (.val (.list ds))) σ H := by
  have o := k.own h
  have d := own_da (W := W.pinL l) (p := p) (vs := vs) (ds := ds) k o.2
  have k2 := (Ok.unpin (W := W.pinL l) (p := p) k).put i (s := .val (.list ds)) (v := .ref p) ⟨_, rfl, d⟩
  obtain ⟨hl, e⟩ := List.getElem?_eq_some_iff.mp o.1
  rwa [← e, List.set_getElem_self] at k2
theorem hs_done {i : Nat} (h : Δ[i]? = some (.own p vs ds)) (hr : HS X (Ok (W.pinL l) N (Δ.set i (.val (.list ds)))) sts D) : HS X (Ok (W.pinL ((p, .lst vs) :: l)) N Δ) sts D := hs_pre hr fun σ H k => k.done h
end

/-! ### for, while -/
section
variable {X : Cx} {W : Wd} {Δ : List Sl} {m : Nat} {tg iter c : Expr} {body sts : List Stmt} {D : Ends} {N : Nat} {pos : Pos}
/-- the state behind i items: what holds of some a -/
def stP {ι : Type} (U : Wd) (R : ι → Prop) (l : ι → List (Addr × HO)) (Γ : ι → List Sl) (n : Nat) : L2.St → Hp → Prop := fun σ H => ∃ a, R a ∧ Ok (U.pinL (l a)) n (Γ a) σ H
def forP {ι : Type} (W : Wd) (as : List Addr) (put : List Sl → PyData → List Sl) (Ps : List PyData → Prop) (R : List PyData → Nat → ι → Prop) (l : List PyData → Nat → ι → List (Addr × HO)) (Γ : List PyData → Nat → ι → List Sl) (Ni : Nat → Nat) (rt : VK) : TS := fun D' σ H' => ∃ H xs i d a, Kp W.Zb W.H0 H ∧ Ps xs ∧ xs[i]? = some d ∧ R xs i a ∧
  HSt { nx := stP (W.cut H as) (R xs (i + 1)) (l xs (i + 1)) (Γ xs (i + 1)) (Ni (i + 1)), ct := stP (W.cut H as) (R xs (i + 1)) (l xs (i + 1)) (Γ xs (i + 1)) (Ni (i + 1)), bk := fun _ _ => False, rt := rt } (Ok ((W.cut H as).pinL (l xs i a)) (Ni i) (put (Γ xs i a) d)) D' σ H'
theorem hs_forP {ι : Type} {as : List Addr} {l0 : List (Addr × HO)} {fit : PyData → Prop} {put : List Sl → PyData → List Sl} {Ps : List PyData → Prop} {R : List PyData → Nat → ι → Prop} {l : List PyData → Nat → ι → List (Addr × HO)} {Γ : List PyData → Nat → ι → List Sl} {Ni : Nat → Nat}
    (hp : PassesOwn (model X.prog X.w) X.A X.env X.xe) (hc : X.calm = true) (hi : DI X (W.pinL l0) Δ m tg iter Ps) (hb : N + m ≤ BIG) (ht : TGo X tg fit put)
    (ha : ∀ xs i a, (l xs i a).map (·.1) = as) (h0 : ∀ xs, Ps xs → ∃ a, R xs 0 a ∧ l xs 0 a = l0 ∧ Less (Γ xs 0 a) Δ) (hN0 : N + m ≤ Ni 0) (hfit : ∀ xs, Ps xs → ∀ d ∈ xs, fit d)
    (hs : ∀ (H : Hp) xs i d a, Kp W.Zb W.H0 H → Ps xs → xs[i]? = some d → R xs i a → HS X (Ok ((W.cut H as).pinL (l xs i a)) (Ni i) (put (Γ xs i a) d)) body
      { nx := stP (W.cut H as) (R xs (i + 1)) (l xs (i + 1)) (Γ xs (i + 1)) (Ni (i + 1)), ct := stP (W.cut H as) (R xs (i + 1)) (l xs (i + 1)) (Γ xs (i + 1)) (Ni (i + 1)), bk := fun _ _ => False, rt := D.rt })
    (hr : ∀ xs a, Ps xs → R xs xs.length a → HS X (Ok (W.pinL (l xs xs.length a)) (Ni xs.length) (Γ xs xs.length a)) sts D)
    (hf : ∀ x, foldedSetIterable iter X.env x = pure x := by intro _; rfl) : HS X (Ok (W.pinL l0) N Δ) (.For tg iter body [] pos :: sts) D := by
  obtain ⟨g, hg, hgo⟩ := ht
  have tb : PSs X body (forP W as put Ps R l Γ Ni D.rt) :=
    ⟨fun pins s σ H' D' I ⟨H, xs, i, d, a, p0, p1, p2, p3, z⟩ => (hs H xs i d a p0 p1 p2 p3).run pins s σ H' D' I z⟩
  refine hs_cons (mid := fun σ H => ∃ xs a, (Ps xs ∧ R xs xs.length a) ∧ Ok (W.pinL (l xs xs.length a)) (Ni xs.length) (Γ xs xs.length a) σ H) (ps_to (ps_for hp hc hi hg tb hf) fun D' σ H z => ⟨N, hb, z.1, fun J H1 xs k1 q1 pxs sr => ?_⟩) (hs_ex fun xs => hs_ex fun a => hs_and fun h => hr xs a h.1 h.2)
  obtain ⟨G, Y, wk, hG, hY⟩ := sr.ex
  let Pv : Nat → L2.St → Hp → Prop := fun i τ H' => (∃ a, R xs i a ∧ Ok (W.pinL (l xs i a)) (Ni i) (Γ xs i a) τ H') ∧ Kp (W.pinL l0).Z H1 H'
  have zas : ∀ i a b, (W.pinL (l xs i a)).Z b ↔ (W.pinL l0).Z b := fun i a b => by
    obtain ⟨a0, _, e0, _⟩ := h0 xs pxs
    rw [pinL_z, pinL_z, ha xs i a, ← e0, ha xs 0 a0]
  have ha0 : l0.map (·.1) = as := by
    obtain ⟨a0, _, e0, _⟩ := h0 xs pxs
    rw [← e0, ha xs 0 a0]
  have start : Pv 0 σ H1 := by
    obtain ⟨a0, r0, e0, le⟩ := h0 xs pxs
    exact ⟨⟨a0, r0, by rw [e0]; exact (k1.up hN0).less le⟩, Kp.refl⟩
  refine for_it (g := g) (tb := forP W as put Ps R l Γ Ni D.rt) wk Pv start (fun i τ H' _ p => hG (W.pinL l0).Z H' (fun a y => .inl y) p.2) (fun i x0 τ H2 H3 hi p y => ?_) (fun τ H' p => ?_)
  · obtain ⟨⟨a, ra, ka⟩, kp⟩ := p
    obtain ⟨e3, d, hxd, hda⟩ := hY (W.pinL l0).Z i H2 x0 H3 (fun a y => .inl y) kp (fun b y => ka.w.alive _ H2 b ka.j ((zas i a b).mpr y)) hi y
    have k3 := ka.ext e3
    have hda' : Da (W.pinL (l xs i a)).Z H3 x0 d := hda.mono Kp.refl fun b z => .inl ((zas i a b).mp z)
    have out : ∀ τ2 H', stP (W.cut H3 as) (R xs (i + 1)) (l xs (i + 1)) (Γ xs (i + 1)) (Ni (i + 1)) τ2 H' → Pv (i + 1) τ2 H' := fun τ2 H' ⟨a', ra', k'⟩ => by
      obtain ⟨k4, kp4⟩ := k3.uncut k' (ha xs i a) (ha xs (i + 1) a')
      refine ⟨⟨a', ra', k4⟩, (kp.trans e3.kp).trans fun b u nz hb => kp4 b u (fun z => nz ((zas i a b).mp z)) hb⟩
    refine hgo _ _ _ _ _ _ _ k3 hda' (hfit xs pxs d (List.mem_of_getElem? hxd)) _ fun σ' k5 => ?_
    exact ⟨H3, xs, i, d, a, k5.kept, pxs, hxd, ra, k5.cut (ha xs i a), out, fun v H' r => z.2.2.1 v H' r, fun _ _ f => f.elim, out⟩
  · obtain ⟨⟨a, ra, ka⟩, _⟩ := p
    exact z.2.1 _ _ ⟨xs, a, ⟨pxs, ra⟩, ka⟩
/-- while c: body -/
def whP {ι : Type} (W : Wd) (R : ι → Prop) (P : ι → Bool → Prop) (μ : ι → Nat) (l : ι → List (Addr × HO)) (Γ : ι → List Sl) (n : Nat) (rt : VK) : TS := fun D' σ H' => ∃ a, (R a ∧ P a true) ∧
  HSt { nx := stP W (fun a' => R a' ∧ μ a' < μ a) l Γ n, ct := stP W (fun a' => R a' ∧ μ a' < μ a) l Γ n, bk := fun _ _ => False, rt := rt } (Ok (W.pinL (l a)) n (Γ a)) D' σ H'
theorem hs_while {ι : Type} {R : ι → Prop} {P : ι → Bool → Prop} {μ : ι → Nat} {l : ι → List (Addr × HO)} {Γ : ι → List Sl} (hp : PassesOwn (model X.prog X.w) X.A X.env X.xe) (hn : N ≤ BIG)
    (a0 : ι) (r0 : R a0) (hc : ∀ a, R a → DT X (W.pinL (l a)) (Γ a) 0 c (P a))
    (hs : ∀ a, R a → P a true → HS X (Ok (W.pinL (l a)) N (Γ a)) body { nx := stP W (fun a' => R a' ∧ μ a' < μ a) l Γ N, ct := stP W (fun a' => R a' ∧ μ a' < μ a) l Γ N, bk := fun _ _ => False, rt := D.rt })
    (hr : ∀ a, R a → P a false → HS X (Ok (W.pinL (l a)) N (Γ a)) sts D) : HS X (Ok (W.pinL (l a0)) N (Γ a0)) (.While c body [] pos :: sts) D := by
  have tb : PSs X body (whP W R P μ l Γ N D.rt) := ⟨fun pins s σ H' D' I ⟨a, p, z⟩ => (hs a p.1 p.2).run pins s σ H' D' I z⟩
  have tc : PT X c (fun σ H Q => ∃ a, R a ∧ tDT (W.pinL (l a)) (Γ a) 0 (P a) σ H Q) := ⟨fun pins s σ H Q I ⟨a, r, z⟩ => (hc a r).run pins s σ H Q I z⟩
  refine hs_cons (mid := fun σ H => ∃ a, (R a ∧ P a false) ∧ Ok (W.pinL (l a)) N (Γ a) σ H) (ps_to (ps_while hp tc tb) fun D' σ H z => ?_) (hs_ex fun a => hs_and fun h => hr a h.1 h.2)
  refine ⟨fun m τ H' => ∃ a, R a ∧ μ a = m ∧ Ok (W.pinL (l a)) N (Γ a) τ H', ⟨_, a0, r0, rfl, z.1⟩, ?_⟩
  rintro m τ H' ⟨a, ra, rfl, ka⟩
  refine ⟨a, ra, N, hn, ka, fun b H2 k2 _ pb => ?_⟩
  cases b with
  | true =>
    rw [if_pos rfl]
    refine ⟨stP W (fun a' => R a' ∧ μ a' < μ a) l Γ N, fun τ2 H3 ⟨a', ⟨r', lt⟩, k'⟩ => ⟨_, lt, a', r', rfl, k'⟩, a, ⟨ra, pb⟩, k2, fun _ _ q => q, fun v H3 r => z.2.2.1 v H3 r, fun _ _ f => f.elim, fun _ _ q => q⟩
  | false =>
    rw [if_neg (by decide)]
    exact z.2.1 _ _ ⟨a, ⟨ra, pb⟩, k2⟩
end
end Dv
set_option maxRecDepth 100000
set_option maxHeartbeats 4000000
/-! Dv15: pairs; sorted; lists of one's own read and popped. -/
namespace Dv
open PySem PySem.Spec PyProof.Rows L2
def pr2 (s : Int × Int) : PyData := .tuple [.int s.1, .int s.2]
/-- the pair at a value -/
def kH (H : Hp) : V → Int × Int
  | .ref t => match H t with
    | some (.tup [.int i, .int j]) => (i, j)
    | _ => (0, 0)
  | _ => (0, 0)
theorem pr2_da {Z : Addr → Prop} {H : Hp} {v : V} {s : Int × Int} (h : Da Z H v (pr2 s)) : kH H v = s ∧ ∃ t, v = .ref t ∧ H t = some (.tup [.int s.1, .int s.2]) := by
  unfold pr2 at h
  cases h with
  | tup r nz hd =>
    cases hd with
    | cons h1 h2 =>
      cases h2 with
      | cons h2 h3 =>
        cases h3
        cases h1
        cases h2
        refine ⟨?_, _, rfl, r⟩
        show (match H _ with | some (.tup [.int i, .int j]) => (i, j) | _ => (0, 0)) = s
        rw [r]
theorem prs_da {Z : Addr → Prop} {H : Hp} : ∀ {vs : List V} {ss : List (Int × Int)}, Das Z H vs (ss.map pr2) → vs.map (kH H) = ss ∧ ∀ x ∈ vs, Da Z H x (pr2 (kH H x)) ∧ ∃ t, x = .ref t ∧ H t = some (.tup [.int (kH H x).1, .int (kH H x).2])
  | [], [], _ => ⟨rfl, fun _ m => nomatch m⟩
  | [], _ :: _, h => nomatch h
  | _ :: _, [], h => nomatch h
  | v :: vs, s :: ss, .cons h1 h2 => by
    obtain ⟨e1, t, e2, e3⟩ := pr2_da h1
    obtain ⟨i1, i2⟩ := prs_da h2
    refine ⟨by rw [List.map_cons, e1, i1], fun x m => ?_⟩
    rcases List.mem_cons.mp m with rfl | m
    · rw [e1]
      exact ⟨h1, t, e2, e3⟩
    · exact i2 x m
theorem prs_back {Z : Addr → Prop} {H : Hp} {f : V → Int × Int} : ∀ {vs : List V}, (∀ x ∈ vs, Da Z H x (pr2 (f x))) → Das Z H vs ((vs.map f).map pr2)
  | [], _ => .nil
  | v :: vs, h => .cons (h v List.mem_cons_self) (prs_back fun x m => h x (List.mem_cons_of_mem _ m))
section
variable {X : Cx} {W : Wd} {Δ : List Sl} {m m1 : Nat} {tg e a b oe : Expr} {D : Ends} {sts : List Stmt} {N : Nat} {pos p : Pos}
def SortedOf (ss : List (Int × Int)) (d : PyData) : Prop := ∃ ts : List (Int × Int), d = .list (ts.map pr2) ∧ ts.Perm ss ∧ ts.Pairwise fun x y => x.1 ≤ y.1
/-- sorted(list of pairs) -/
theorem de_sorted {ss : List (Int × Int)} (hg : Gl X "sorted") (hm : X.mg "sorted" = none) (h : DE X W Δ m e (eqd W.Z (.list (ss.map pr2))))
    (he : starEach (e :: []) X.env = (false, eval e X.env) :: starEach [] X.env := by rfl) (hpl : (backTo pos (starEach [] X.env)).any (·.1) = false := by rfl) :
    DE X W Δ (m + 0) (.Call (.Name "sorted" p) [e] [] pos) (dat W.Z (SortedOf ss)) :=
  de_cb cr_sortedPO hg hm (by rfl) (da_cons h da_nil he) (fun n H vs w jj o Q q => by
    obtain ⟨v, rfl, o'⟩ := allo_1 o
    have o := eqd_ok o'
    cases o with
    | lst r nz hd =>
      obtain ⟨i1, i2⟩ := prs_da hd
      refine ⟨_, _, kH H, rfl, .inl (.inl r), fun x m => (i2 x m).2, fun ys l hs hb hl => q _ _ (Ext.new hl) ⟨.list ((ys.map (kH H)).map pr2), .lst upd_same (w.new jj hl) ?_, ys.map (kH H), rfl, ?_, ?_⟩⟩
      · exact (prs_back fun x m => (i2 x (hb.perm.mem_iff.mp m)).1).kp (Ext.new hl).kp
      · rw [← i1]
        exact hb.perm.map _
      · rw [List.pairwise_map]
        refine hs.imp fun q => ?_
        have := SrtO.lexB_no.mp q
        omega) (he := he) (hpl := hpl)
/-- t[i], t a tuple -/
theorem de_tix {ds : List PyData} {i : Int} {d : PyData} (ha : DE X W Δ m a (eqd W.Z (.tuple ds))) (hb : DE X W Δ m1 b (eqd W.Z (.int i))) (hd : atI ds i = some d) (hp : PlainIx b := by intro _ _; rfl) : DE X W Δ (m + m1) (.Subscript a b pos) (eqd W.Z d) :=
  de_ix ix_tup ha hb (fun n H v u w jj o1 o2 Q q => by
    have o1 := eqd_ok o1
    have o2 := eqd_ok o2
    cases o2
    cases o1 with
    | tup r1 n1 d1 =>
      obtain ⟨v, h3, h4⟩ := ix_das d1 hd
      exact ⟨_, _, i, v, rfl, rfl, .inl (.inl r1), h3, q v H Ext.refl (ok_eqd h4)⟩) hp
/-- -e -/
theorem de_neg {i : Int} (h : DE X W Δ m e (eqd W.Z (.int i))) : DE X W Δ m (.UnaryOp .USub e pos) (eqd W.Z (.int (-i))) :=
  pe_to (pe_un un_neg h) fun σ H Q ⟨n, l, k, z⟩ => ⟨n, l, k, fun v H1 k1 q1 o1 => by
    have o := eqd_ok o1
    cases o
    exact ⟨i, rfl, z _ H1 k1 q1 (ok_eqd (.int _))⟩⟩
theorem at_last {α : Type} {xs : List α} {x : α} : atI (xs ++ [x]) (-1) = some x := by
  unfold atI ixN
  rw [if_neg (by decide), if_pos (by rw [List.length_append]; simp; omega)]
  show (xs ++ [x])[(-1 + ((xs ++ [x]).length : Int)).toNat]? = some x
  have : (-1 + ((xs ++ [x]).length : Int)).toNat = xs.length := by
    rw [List.length_append, List.length_singleton]
    omega
  rw [this, List.getElem?_append_right (Nat.le_refl _), Nat.sub_self]
  rfl
theorem if_max {i j : Int} : (if j > i then j else i) = max i j := by
  rw [Int.max_def]
  split <;> split <;> omega
theorem map_at {xs : List (Int × Int)} {i : Nat} {d : PyData} (h : (xs.map pr2)[i]? = some d) : ∃ s, xs[i]? = some s ∧ d = pr2 s := by
  rw [List.getElem?_map] at h
  match e : xs[i]?, h with
  | some s, h => exact ⟨s, rfl, (Option.some.inj h).symm⟩
/-- going over a list of which a relation holds -/
theorem di_listP {Q : List PyData → Prop} (h : DE X W Δ m e (dat W.Z fun d => ∃ xs, d = .list xs ∧ Q xs)) : DI X W Δ m tg e Q :=
  pi_to (pi_list h) fun σ H R ⟨n, l, k, z⟩ => ⟨n, l, k, fun v H1 k1 q1 o1 => by
    obtain ⟨_, o, ds, rfl, hq⟩ := o1
    cases o with
    | lst r nz hd =>
      rename_i a vs
      refine ⟨a, rfl, ⟨_, .inl (.inl r)⟩, z _ H1 ds k1 q1 hq ⟨⟨_, _, hd.length ▸ walk_list (K := X.K) (a := a) (xs := vs), fun Z' H z' k' => .inl (.inl (kpz z' k' nz r)), fun Z' i H x H' z' k' _ _ y => ?_⟩⟩⟩
      obtain ⟨e1, e2⟩ := y
      subst e1
      obtain ⟨d, h1, h2⟩ := hd.getV e2
      exact ⟨Ext.refl, d, h1, (h2.mono Kp.refl z').kp k'⟩⟩
variable {l : List (Addr × HO)} {q : Addr} {vs : List V} {ds : List PyData} {j : Nat}
/-- x[i], x a list of one's own -/
theorem de_ownI {i0 : Nat} {i : Int} {d : PyData} (ho : PE X a (tVar i0)) (hs : Δ[i0]? = some (.own q vs ds)) (hl : l[j]? = some (q, .lst vs)) (hb : DE X (W.pinL l) Δ m b (eqd _ (.int i))) (hd : atI ds i = some d) (hp : PlainIx b := by intro _ _; rfl) :
    DE X (W.pinL l) Δ m (.Subscript a b pos) (eqd _ d) :=
  pe_to (pe_ix ix_list ho hb hp) fun σ H Q ⟨n, ln, k, z⟩ => ⟨_, (k.own hs).1, n, ln, k, fun u H1 k1 q1 o1 => by
    have o := eqd_ok o1
    cases o
    obtain ⟨v, h3, h4⟩ := ix_das (k1.own hs).2 hd
    exact ⟨q, _, i, v, rfl, rfl, .inl (.inl ((pinL_j.mp k1.j).1 _ (List.mem_of_getElem? hl))), h3, z v H1 k1 q1 (ok_eqd h4)⟩⟩
theorem dt_own {i0 : Nat} (ho : PE X a (tVar i0)) (hs : Δ[i0]? = some (.own q vs ds)) (hl : l[j]? = some (q, .lst vs)) (he : ∀ whole, isTrue a X.env whole = (do let v ← whole; standAt a.pos; holding [v] (truthy v)) := by intro _; rfl) : DT X (W.pinL l) Δ 0 a (· = !ds.isEmpty) :=
  pt_to (pt_truth ho he) fun σ H Q ⟨n, ln, k, z⟩ => ⟨_, (k.own hs).1, !ds.isEmpty, .inl ⟨vs, .inl (.inl ((pinL_j.mp k.j).1 _ (List.mem_of_getElem? hl))), by
    have := (k.own hs).2
    cases this <;> rfl⟩, z _ H k Kp.refl rfl⟩
/-- target = x.pop() -/
theorem hs_pop {i0 : Nat} {fit : PyData → Prop} {put : List Sl → PyData → List Sl} {apos cpos : Pos} {d : PyData} (ht : TGo X tg fit put) (ho : PE X oe (tVar i0)) (hs : Δ[i0]? = some (.own q vs (ds ++ [d]))) (hl : l[j]? = some (q, .lst vs)) (hf : fit d)
    (hr : HS X (Ok (W.pinL (l.set j (q, .lst vs.dropLast))) N (put (Δ.set i0 (.own q vs.dropLast ds)) d)) sts D)
    (g1 : attributeBase oe "pop" X.env (eval oe X.env) = eval oe X.env := by rfl) (g3 : (apos.endLine == cpos.line) = true := by rfl)
    (h1 : swapsWithSole [tg] (.Call (.Attribute oe "pop" apos) [] [] cpos) pos.line X.env = pure false := by rfl) (h2 : swappedStores [tg] (.Call (.Attribute oe "pop" apos) [] [] cpos) X.env = pure none := by rfl) (h3 : (assignEach [tg] X.env).map (·.2) = [assign tg X.env] := by rfl) :
    HS X (Ok (W.pinL l) N Δ) (.Assign [tg] (.Call (.Attribute oe "pop" apos) [] [] cpos) pos :: sts) D := by
  obtain ⟨g, hg, hgo⟩ := ht
  refine hs_cons (ps_to (ps_asg (pe_bm0 PySem.F.plainAttrs_list PySem.F.slot_list_pop PySem.F.type_list_pop mt_pop ho g1 g3) hg h1 h2 h3) fun D' σ H z => ?_) hr
  have k := z.1
  have hp := (pinL_j.mp k.j).1 _ (List.mem_of_getElem? hl)
  obtain ⟨o1, o2⟩ := k.own hs
  obtain ⟨v, e1, e2⟩ := o2.get (i := ds.length) (d := d) (by rw [List.getElem?_append_right (Nat.le_refl _), Nat.sub_self]; rfl)
  have len := o2.length
  rw [List.length_append, List.length_singleton] at len
  refine ⟨_, o1, .inl ⟨rfl, vs, .inl (.inl hp)⟩, q, vs, v, rfl, rfl, hp, by rw [len, Nat.add_sub_cancel]; exact e1, ?_⟩
  have k2 := (k.mut hl (.lst vs.dropLast))
  have hm : q ∈ l.map (·.1) := List.mem_map.mpr ⟨_, List.mem_of_getElem? hl, rfl⟩
  have e : Kp (W.pinL l).Z H (upd H q (.lst vs.dropLast)) := fun a u nz hu => by
    have ne : a ≠ q := fun c => nz (pinL_z.mpr (.inl (by rw [c]; exact hm)))
    rw [upd_ne ne]
    exact hu
  have zc : ∀ a, (W.pinL (l.set j (q, .lst vs.dropLast))).Z a → (W.pinL l).Z a ∨ H a = none := fun a z => .inl (by rw [pinL_z] at z ⊢; rwa [set_as hl] at z)
  have dl : Das (W.pinL l).Z H vs.dropLast ds := by
    have := o2.take ds.length
    rw [List.take_left] at this
    rwa [List.dropLast_eq_take, len, Nat.add_sub_cancel]
  have q2 := k2.put i0 (s := .own q vs.dropLast ds) (v := .ref q) ⟨rfl, dl.mono e zc⟩
  rw [hs_app.set_self o1] at q2
  exact hgo _ _ _ _ _ _ _ q2 (e2.mono e zc) hf _ fun σ' k3 => z.2.1 _ _ k3
end
end Dv
set_option maxRecDepth 100000
set_option maxHeartbeats 4000000
/-! Dv16: x += i; items of exact lists. -/
namespace Dv
open PySem PySem.Spec PyProof.Rows L2
section
variable {X : Cx} {W : Wd} {Δ : List Sl} {m m1 : Nat} {tg e a b oe : Expr} {D : Ends} {sts : List Stmt} {N : Nat} {pos p : Pos}
theorem de_lix {ds : List PyData} {i : Int} {d : PyData} (ha : DE X W Δ m a (eqd W.Z (.list ds))) (hb : DE X W Δ m1 b (eqd W.Z (.int i))) (hd : atI ds i = some d) (hp : PlainIx b := by intro _ _; rfl) : DE X W Δ (m + m1) (.Subscript a b pos) (eqd W.Z d) :=
  de_ix ix_list ha hb (fun n H v u w jj o1 o2 Q q => by
    have o1 := eqd_ok o1
    have o2 := eqd_ok o2
    cases o2
    cases o1 with
    | lst r1 n1 d1 =>
      obtain ⟨v, h3, h4⟩ := ix_das d1 hd
      exact ⟨_, _, i, v, rfl, rfl, .inl (.inl r1), h3, q v H Ext.refl (ok_eqd h4)⟩) hp
/-- x += e, ints -/
theorem hs_addI {i : Nat} {x : Str} {pos' : Pos} {u v : Int} (hN : X.N.Nodup) (hi : X.N[i]? = some x) (hx : Loc X.env.scope x) (hs : Δ[i]? = some (.val (.int u))) (he : DE X W Δ 0 e (eqd W.Z (.int v))) (hb : N ≤ BIG) (hr : HS X (Ok W N (Δ.set i (.val (.int (u + v))))) sts D)
    (hf : X.fn x = true ∨ X.env.scope.names.lookup x = some .local := by first | exact .inl rfl | exact .inr rfl | assumption) : HS X (Ok W N Δ) (.AugAssign (.Name x pos') .Add e pos :: sts) D :=
  hs_cons (ps_to (ps_aug hN hi hx he ip_add hf) fun D' σ H z => by
    have k := z.1
    obtain ⟨w, h1, h2⟩ := k.val hs
    cases h2
    exact ⟨_, h1, N, hb, k, fun y H1 k1 q1 o1 => by
      have o := eqd_ok o1
      cases o
      exact ⟨u, v, rfl, rfl, z.2.1 _ _ (k1.put i (s := .val (.int (u + v))) ⟨_, rfl, .int _⟩)⟩⟩) hr
end
theorem at_pr {xs : List (Int × Int)} {i : Nat} {s : Int × Int} (h : xs[i]? = some s) : atI (xs.map pr2) ((i : Nat) : Int) = some (pr2 s) := atI_nat (by rw [List.getElem?_map, h]; rfl)
theorem at_i {xs : List Int} {i : Nat} {s : Int} (h : xs[i]? = some s) : atI (xs.map PyData.int) ((i : Nat) : Int) = some (.int s) := atI_nat (by rw [List.getElem?_map, h]; rfl)
end Dv
set_option maxRecDepth 100000
set_option maxHeartbeats 4000000
/-! Dv17: static methods of a class; objects with fields; their methods. -/
namespace Dv
open PySem PySem.Spec PyProof.Rows L2
/-! ### static methods -/
structure CStat (K : PySem.W.Frag) (C : Addr) (mc : Value) (m : Str) (p g : Addr) : Prop where
  at_ : PySem.W.findCls K (.ref C) mc m = some (.get (.builtin "staticmethod.__get__") (.ref p) .none (.ref C))
  rc : ∃ rest, PySem.W.recIn K p "staticmethod" = some (.ref g :: rest)
  kp : PySem.W.keepIn K (.ref g) = true
section
variable {X : Cx} {pins : List (Addr × Obj)} {σ : L2.St} {H : Hp} {s : Shared} {C p g : Addr} {mc : Value} {m : Str} {A : Around} {E : Value → Shared → Prop}
theorem meth_stat {pl : Sem Bool} {Q : Value × List Value → Shared → Prop} (I : Inv X pins σ H s) (r : ClX.CRead X.K C mc) (k : CStat X.K C mc m p g) (h : ∀ s', Inv X pins σ H s' → Q (.ref g, []) s') : wpAny (model X.prog X.w) A (getMethod (.ref C) m pl) Q E s := by
  obtain ⟨rest, hp⟩ := k.rc
  refine PySem.W.method_cls I.kIn r.ga (PySem.W.cls_bind I.kIn r.rd k.at_ ?_)
  exact wpAny_call (PySem.W.sm_get (s := { s with toks := s.toks + 1 }) I.kIn hp (PySem.W.handed_on rfl (h _ (I.tok _))))
end
def tStat (C : Addr) (sp : Sp) (dvs : List V) (E : XK) (ta : TE) (t : TA) : TE := fun σ H Q => ta σ H fun x H1 => x = .ref C ∧ t σ H1 fun vs H2 => sp (vs ++ dvs) H2 Q E
section
variable {X : Cx} {CX : CXT} {k : Nat} {C p g : Addr} {mc : Value} {sp : Sp} {E : XK} {o e : Expr} {es : List Expr} {f m : Str} {pos apos : Pos} {ta : TE} {t : TA} {pl : Sem Bool} {fd : FuncData} {ps : List Str} {ds : List Value} {dvs : List V}
theorem pe_stat (he : PE X o ta) (r : ClX.CRead X.K C mc) (c : CStat X.K C mc m p g) (F : FnOk X.prog X.w X.K X.mg X.base CX k g fd ps sp) (hr : Room k X.A) (hb : Binds X.K fd ps ds) (hd : Vals dvs ds) (hx : Passes CX X E) (ha : PA X (e :: es) t)
    (hst : starEach (e :: es) X.env = (false, eval e X.env) :: starEach es X.env := by rfl) (hpl : (backTo pos (starEach es X.env)).any (·.1) = false := by rfl)
    (ht : eval (.Call (.Attribute o m apos) (e :: es) [] pos) X.env = (do
      let ov ← eval o X.env
      standAt apos.atName
      let (f, first) ← holding [ov] (getMethod ov m pl)
      callWith pos f first (backTo pos (starEach (e :: es) X.env)) (backToKw pos (keywordEach [] X.env))) := by rfl) :
    PE X (.Call (.Attribute o m apos) (e :: es) [] pos) (tStat C sp dvs E ta t) := by
  refine ⟨fun pins s σ H Q I h => ?_⟩
  refine PySem.W.methodCall_KW (pl := pl) (thn (he.run pins s σ H _ I h) fun u s1 ⟨x, H1, I1, rx, ex, q⟩ => ?_) ht
  subst ex
  obtain rfl : u = Value.ref C := rx
  refine meth_stat I1 r c fun s2 I2 => ?_
  refine PySem.W.callWith_K (h₀ := X.base) I2.ok.mod.kin c.kp (thn (ha.run pos pins s2 σ H1 _ I2 q) fun us s3 ⟨vs, H2, I3, rv, q2⟩ => ⟨I3.kIn, ?_⟩) hst hpl
  exact run_fn F hr hb hd hx I3 rv q2
end
/-! ### objects -/
/-- an object of the class at C: its fields, in this order, are these data -/
def obF (C : Addr) (nm : List Str) (ds : List PyData) : Fam := ⟨fun Z H v => ∃ x dx vs, v = .ref x ∧ ¬ Z x ∧ H x = some (.ins C dx (nm.zip vs)) ∧ Das Z H vs ds,
  fun {Z Z' H H' v} k z ⟨x, dx, vs, e, h1, h2, h3⟩ => ⟨x, dx, vs, e, fun c => (z x c).elim h1 (fun q => (nomatch h2.symm.trans q)), k x _ h1 h2, h3.mono k z⟩⟩
theorem zip_at : ∀ {nm : List Str} {vs : List V} {j : Nat} {f : Str} {v : V}, nm.Nodup → nm[j]? = some f → vs[j]? = some v → (nm.zip vs).lookup f = some v
  | [], _, _, _, _, _, h, _ => by simp at h
  | a :: nm, [], _, _, _, _, _, h => by simp at h
  | a :: nm, b :: vs, 0, f, v, _, h1, h2 => by
    simp at h1 h2
    subst h1
    subst h2
    rw [List.zip_cons_cons, List.lookup_cons, beq_self_eq_true]
  | a :: nm, b :: vs, j + 1, f, v, nd, h1, h2 => by
    have h1 : nm[j]? = some f := by simpa using h1
    have h2 : vs[j]? = some v := by simpa using h2
    obtain ⟨n1, n2⟩ := List.nodup_cons.mp nd
    have ne : (f == a) = false := beq_eq_false_iff_ne.mpr fun c => n1 (by rw [← c]; exact List.mem_of_getElem? h1)
    rw [List.zip_cons_cons, List.lookup_cons, ne]
    exact zip_at n2 h1 h2
theorem zip_no : ∀ {nm : List Str} {vs : List V} {f : Str}, f ∉ nm → (nm.zip vs).lookup f = none
  | [], _, _, _ => rfl
  | _ :: _, [], _, _ => rfl
  | a :: nm, b :: vs, f, h => by
    have ne : (f == a) = false := beq_eq_false_iff_ne.mpr fun c => h (by rw [c]; exact List.mem_cons_self)
    rw [List.zip_cons_cons, List.lookup_cons, ne]
    exact zip_no fun c => h (List.mem_cons_of_mem _ c)
section
variable {X : Cx} {W : Wd} {Δ : List Sl} {m1 m2 : Nat} {o e : Expr} {es : List Expr} {pos apos : Pos} {C : Addr} {nm : List Str} {ds : List PyData} {f m : Str}
/-- o.f -/
theorem de_fld {j : Nat} {d : PyData} (h : DE X W Δ m1 o ((obF C nm ds).as W.Z)) (c : Cls X.K C) (na : NoAttr X.K C f) (hj : nm[j]? = some f) (hd : ds[j]? = some d) (nd : nm.Nodup) (hb : attributeBase o f X.env (eval o X.env) = eval o X.env := by rfl) : DE X W Δ m1 (.Attribute o f pos) (eqd W.Z d) :=
  pe_to (pe_fld h hb) fun σ H Q ⟨n, l, k, z⟩ => ⟨n, l, k, fun v H1 k1 q1 o1 => by
    obtain ⟨x, dx, vs, rfl, h1, h2, h3⟩ := o1
    obtain ⟨u, hu, du⟩ := h3.get hd
    exact ⟨x, C, dx, _, u, rfl, h2, c, na, zip_at nd hj hu, z u H1 k1 q1 (ok_eqd du)⟩⟩
/-- a method's promise: of an object of which F holds -/
def spO (F : Fam) (pre : List PyData → Prop) (post : List PyData → PyData → Prop) : Sp := fun xs H Q _ => ∃ (Z : Addr → Prop) (J : Nat → Hp → Prop) (n : Nat) (v : V) (ws : List V) (ds : List PyData),
  Wok Z J ∧ n ≤ BIG ∧ J n H ∧ xs = v :: ws ∧ F.ok Z H v ∧ Das Z H ws ds ∧ pre ds ∧ ∀ u H' d, Kp Z H H' → J n H' → Da Z H' u d → post ds d → Q u H'
variable {k : Nat} {g : Addr} {fd : FuncData} {ps : List Str} {F F' : Fam} {pre : List PyData → Prop} {post : List PyData → PyData → Prop} {L : List (As W.Z)} {PR : PyData → Prop}
/-- what a method call asks of the object -/
def Shape (F : Fam) (C : Addr) (m : Str) : Prop := ∀ Z H v, F.ok Z H v → ∃ x dx fs, v = .ref x ∧ H x = some (.ins C dx fs) ∧ fs.lookup m = none
theorem shape_ob (h : m ∉ nm) : Shape (obF C nm ds) C m := fun Z H v ⟨x, dx, vs, e, _, h2, _⟩ => ⟨x, dx, _, e, h2, zip_no h⟩
/-- o.m(e, ..) -/
theorem de_meth {pl : Sem Bool} (G : FnOk X.prog X.w X.K X.mg X.base CX0 k g fd ps (spO F pre post)) (ho : DE X W Δ m1 o (F'.as W.Z)) (hF : ∀ Z H v, F'.ok Z H v → F.ok Z H v) (hs : Shape F' C m) (c : Cls X.K C) (hm : Meth X.K C m g) (rm : Room k X.A) (hb : Binds X.K fd ps [])
    (ha : DA X W Δ m2 (e :: es) L) (hA : ∀ H vs, Allo H L vs → ∃ ds, Das W.Z H vs ds ∧ pre ds ∧ ∀ d, post ds d → PR d)
    (hst : starEach (e :: es) X.env = (false, eval e X.env) :: starEach es X.env := by rfl) (hpl : (backTo pos (starEach es X.env)).any (·.1) = false := by rfl)
    (ht : eval (.Call (.Attribute o m apos) (e :: es) [] pos) X.env = (do
      let ov ← eval o X.env
      standAt apos.atName
      let (f, first) ← holding [ov] (getMethod ov m pl)
      callWith pos f first (backTo pos (starEach (e :: es) X.env)) (backToKw pos (keywordEach [] X.env))) := by rfl) :
    DE X W Δ (m1 + m2) (.Call (.Attribute o m apos) (e :: es) [] pos) (dat W.Z PR) :=
  pe_to (pe_meth ho c hm G rm hb .nil pass0 ha hst hpl ht) fun σ H Q ⟨n, l, k, z⟩ => ⟨n, big1 l, k, fun v H1 k1 q1 o1 => by
    obtain ⟨x, dx, fs, rfl, h1, h2⟩ := hs _ _ _ o1
    refine ⟨x, dx, fs, rfl, h1, h2, n + m1, big2 l, k1, fun vs H2 k2 q2 o2 => ?_⟩
    obtain ⟨ds, hd, hp, hq⟩ := hA H2 vs o2
    refine ⟨W.Z, W.J, n + m1 + m2, .ref x, vs ++ [], ds, k2.w, by have := big2 l; omega, k2.j, rfl, hF _ _ _ ((F'.as W.Z).mono q2 o1), by simpa using hd, hp, fun u H' d e j od r => z u H' ?_ ((q1.trans q2).trans e) ⟨d, od, hq d r⟩⟩
    have := k2.kp e j
    have e0 : n + m1 + m2 = n + (m1 + m2) := by omega
    rwa [e0] at this⟩
end
section
variable {P : Program} {w : World} {K : PySem.W.Frag} {mg : Str → Option Value} {base : Heap} {k : Nat} {f : Addr} {fd : FuncData} {x qual : Str} {st : Stmt} {N ps : List Str} {F : Fam} {pre : List PyData → Prop} {post : List PyData → PyData → Prop}
theorem okM (Fn : Fun K x qual st f fd) (S : FnScope N ps (defScope st)) (hl : ∀ ds, pre ds → ds.length + 1 = ps.length)
    (body : ∀ (cd : Value) (B : Around) (fr : List Env) (t : Shared) (h : Hp) (e : XK), Room k (B.deeper (envOfC qual (defScope st) t.heap.objs.size f cd)) → ∀ (Z : Addr → Prop) (J : Nat → Hp → Prop) (n : Nat) (ds : List PyData), n ≤ BIG → pre ds →
      HS (cxOf CX0 P w K mg base N qual (defScope st) f cd B fr t h e).nox (Ok (Wd.at Z J h) n (slots N (.sat F :: ds.map Sl.val))) (defBody st) { nx := fun _ H' => RT Z J h n (post ds) .non H', rt := RT Z J h n (post ds) }) :
    FnOk P w K mg base CX0 (k + 1) f fd ps (spO F pre post) := by
  refine Fn.ok S (fun xs h q e z => ?_) (fun cd B fr t h xs q e rm z => ?_)
  · obtain ⟨Z, J, n, v, ws, ds, _, _, _, rfl, _, hd, hp, _⟩ := z
    rw [List.length_cons, hd.length]
    exact hl ds hp
  · obtain ⟨Z, J, n, v, ws, ds, wk, ln, j, rfl, hf, hd, hp, fin⟩ := z
    exact ⟨_, body cd B fr t h e rm Z J n ds ln hp, at_ok wk j (.cons ⟨v, rfl, hf⟩ (das_sl hd)), fun σ H' ⟨d, z1, z2, z3, z4⟩ => fin _ H' d z1 z2 z3 z4, fun v H' ⟨d, z1, z2, z3, z4⟩ => fin v H' d z1 z2 z3 z4, fun _ _ z => z, fun _ _ z => z⟩
end
end Dv
set_option maxHeartbeats 4000000
/-! Cal1: stretches: what they cover; merged, without. Plain mathematics. -/
namespace Cal
abbrev St := Int × Int
def Cov (ss : List St) (x : Int) : Prop := ∃ s ∈ ss, s.1 ≤ x ∧ x ≤ s.2
def Good (ss : List St) : Prop := ∀ s ∈ ss, s.1 ≤ s.2
/-- ascending, with a day between -/
def Sep (ss : List St) : Prop := Good ss ∧ ss.Pairwise fun a b => a.2 + 1 < b.1
/-- ascending -/
def Asc (ss : List St) : Prop := Good ss ∧ ss.Pairwise fun a b => a.2 < b.1
theorem Sep.asc {ss : List St} (h : Sep ss) : Asc ss := ⟨h.1, h.2.imp fun q => by omega⟩
theorem cov_nil {x : Int} : ¬ Cov [] x := fun ⟨_, m, _⟩ => nomatch m
theorem cov_app {a b : List St} {x : Int} : Cov (a ++ b) x ↔ Cov a x ∨ Cov b x := by
  constructor
  · rintro ⟨s, m, h⟩
    rcases List.mem_append.mp m with m | m
    · exact .inl ⟨s, m, h⟩
    · exact .inr ⟨s, m, h⟩
  · rintro (⟨s, m, h⟩ | ⟨s, m, h⟩)
    · exact ⟨s, List.mem_append_left _ m, h⟩
    · exact ⟨s, List.mem_append_right _ m, h⟩
theorem cov_one {a : St} {x : Int} : Cov [a] x ↔ a.1 ≤ x ∧ x ≤ a.2 :=
  ⟨fun ⟨_, m, h⟩ => by cases List.mem_singleton.mp m; exact h, fun h => ⟨a, List.mem_singleton.mpr rfl, h⟩⟩
theorem cov_perm {a b : List St} (h : a.Perm b) {x : Int} : Cov a x ↔ Cov b x :=
  ⟨fun ⟨s, m, q⟩ => ⟨s, h.mem_iff.mp m, q⟩, fun ⟨s, m, q⟩ => ⟨s, h.mem_iff.mpr m, q⟩⟩
theorem take_step {α : Type} {xs : List α} {i : Nat} {d : α} (h : xs[i]? = some d) : xs.take (i + 1) = xs.take i ++ [d] := by
  rw [List.take_add_one, h]
  rfl
/-! ### merged -/
/-- the state behind i of the sorted stretches: what was found -/
structure MInv (xs : List St) (i : Nat) (acc : List St) : Prop where
  sep : Sep acc
  cov : ∀ x, Cov acc x ↔ Cov (xs.take i) x
  le : ∀ s ∈ acc, ∃ t ∈ xs.take i, t.1 = s.1
  ne : acc = [] → i = 0 ∨ xs = []
  len : acc.length ≤ i
theorem MInv.start (xs : List St) : MInv xs 0 [] := ⟨⟨fun _ m => (nomatch m), List.Pairwise.nil⟩, fun x => by rw [List.take_zero], fun _ m => (nomatch m), fun _ => .inl rfl, Nat.le_refl _⟩
theorem low {xs : List St} (hs : xs.Pairwise fun a b => a.1 ≤ b.1) {i : Nat} {d : St} (h : xs[i]? = some d) {t : St} (m : t ∈ xs.take i) : t.1 ≤ d.1 := by
  obtain ⟨j, hj⟩ := List.mem_iff_getElem?.mp m
  have hl : j < i := by
    have := (List.getElem?_eq_some_iff.mp hj).1
    rw [List.length_take] at this
    omega
  rw [List.getElem?_take, if_pos hl] at hj
  obtain ⟨j1, e1⟩ := List.getElem?_eq_some_iff.mp hj
  obtain ⟨i1, e2⟩ := List.getElem?_eq_some_iff.mp h
  have := List.pairwise_iff_getElem.mp hs j i j1 i1 hl
  rwa [e1, e2] at this
theorem MInv.far {xs acc : List St} {i : Nat} {f l : Int} (hs : xs.Pairwise fun a b => a.1 ≤ b.1) (hg : Good xs) (h : MInv xs i acc) (hd : xs[i]? = some (f, l)) (hn : ∀ s ∈ acc, s.2 + 1 < f) : MInv xs (i + 1) (acc ++ [(f, l)]) := by
  have hfl : f ≤ l := hg (f, l) (List.mem_of_getElem? hd)
  refine ⟨⟨fun s m => ?_, ?_⟩, fun x => ?_, fun s m => ?_, fun e => by simp at e, ?_⟩
  · rcases List.mem_append.mp m with m | m
    · exact h.sep.1 s m
    · cases List.mem_singleton.mp m
      exact hfl
  · refine List.pairwise_append.mpr ⟨h.sep.2, List.pairwise_singleton _ _, fun a ma b mb => ?_⟩
    cases List.mem_singleton.mp mb
    exact hn a ma
  · rw [cov_app, take_step hd, cov_app, h.cov]
  · rw [take_step hd]
    rcases List.mem_append.mp m with m | m
    · obtain ⟨t, mt, e⟩ := h.le s m
      exact ⟨t, List.mem_append_left _ mt, e⟩
    · exact ⟨(f, l), List.mem_append_right _ (List.mem_singleton.mpr rfl), by cases List.mem_singleton.mp m; rfl⟩
  · rw [List.length_append]
    have := h.len
    simp
    omega
theorem MInv.near {xs acc : List St} {i : Nat} {f l s e : Int} (hs : xs.Pairwise fun a b => a.1 ≤ b.1) (hg : Good xs) (h : MInv xs i (acc ++ [(s, e)])) (hd : xs[i]? = some (f, l)) (hn : f ≤ e + 1) : MInv xs (i + 1) (acc ++ [(s, max e l)]) := by
  have hfl : f ≤ l := hg (f, l) (List.mem_of_getElem? hd)
  have hse : s ≤ e := h.sep.1 (s, e) (List.mem_append_right _ (List.mem_singleton.mpr rfl))
  obtain ⟨t, mt, et⟩ := h.le (s, e) (List.mem_append_right _ (List.mem_singleton.mpr rfl))
  have hsf : s ≤ f := by
    have := low hs hd mt
    rw [et] at this
    exact this
  obtain ⟨p1, _, p3⟩ := List.pairwise_append.mp h.sep.2
  refine ⟨⟨fun q m => ?_, ?_⟩, fun x => ?_, fun q m => ?_, fun e => by simp at e, ?_⟩
  · rcases List.mem_append.mp m with m | m
    · exact h.sep.1 q (List.mem_append_left _ m)
    · cases List.mem_singleton.mp m
      show s ≤ max e l
      omega
  · refine List.pairwise_append.mpr ⟨p1, List.pairwise_singleton _ _, fun a ma b mb => ?_⟩
    cases List.mem_singleton.mp mb
    exact p3 a ma (s, e) (List.mem_singleton.mpr rfl)
  · rw [take_step hd, cov_app (a := acc), cov_app (a := xs.take i), ← h.cov, cov_app (a := acc), cov_one, cov_one, cov_one, or_assoc]
    refine or_congr_right ?_
    show s ≤ x ∧ x ≤ max e l ↔ (s ≤ x ∧ x ≤ e) ∨ (f ≤ x ∧ x ≤ l)
    omega
  · rw [take_step hd]
    rcases List.mem_append.mp m with m | m
    · obtain ⟨t, mt, e⟩ := h.le q (List.mem_append_left _ m)
      exact ⟨t, List.mem_append_left _ mt, e⟩
    · cases List.mem_singleton.mp m
      exact ⟨t, List.mem_append_left _ mt, et⟩
  · have := h.len
    rw [List.length_append] at this ⊢
    simp at this ⊢
    omega
theorem MInv.all {xs acc : List St} (h : MInv xs xs.length acc) : Sep acc ∧ ∀ x, Cov acc x ↔ Cov xs x := ⟨h.sep, fun x => by rw [h.cov, List.take_length]⟩
/-- behind a stretch that is not near the last one found, none is -/
theorem far_all {acc : List St} {s e f : Int} (h : Sep (acc ++ [(s, e)])) (hn : ¬ f ≤ e + 1) : ∀ t ∈ acc ++ [(s, e)], t.2 + 1 < f := fun t m => by
  rcases List.mem_append.mp m with m | m
  · have h1 := (List.pairwise_append.mp h.2).2.2 t m (s, e) (List.mem_singleton.mpr rfl)
    have h2 : s ≤ e := h.1 (s, e) (List.mem_append_right _ (List.mem_singleton.mpr rfl))
    have h1 : t.2 + 1 < s := h1
    omega
  · cases List.mem_singleton.mp m
    show e + 1 < f
    omega
end Cal
set_option maxHeartbeats 4000000
/-! Cal2: stretches without others. Plain mathematics. -/
namespace Cal
theorem asc_at {rm : List St} (h : Sep rm) {i j : Nat} {s t : St} (hi : rm[i]? = some s) (hj : rm[j]? = some t) (l : i < j) : s.2 + 1 < t.1 := by
  obtain ⟨i1, e1⟩ := List.getElem?_eq_some_iff.mp hi
  obtain ⟨j1, e2⟩ := List.getElem?_eq_some_iff.mp hj
  have := List.pairwise_iff_getElem.mp h.2 i j i1 j1 l
  rwa [e1, e2] at this
theorem good_at {rm : List St} (h : Good rm) {i : Nat} {s : St} (hi : rm[i]? = some s) : s.1 ≤ s.2 := h s (List.mem_of_getElem? hi)
theorem cov_at {rm : List St} {x : Int} : Cov rm x ↔ ∃ (j : Nat) (t : St), rm[j]? = some t ∧ t.1 ≤ x ∧ x ≤ t.2 := by
  constructor
  · rintro ⟨s, m, h⟩
    obtain ⟨j, hj⟩ := List.mem_iff_getElem?.mp m
    exact ⟨j, s, hj, h⟩
  · rintro ⟨j, t, hj, h⟩
    exact ⟨t, List.mem_of_getElem? hj, h⟩
theorem Asc.add {acc : List St} {a b : Int} (h : Asc acc) (hab : a ≤ b) (hl : ∀ s ∈ acc, s.2 < a) : Asc (acc ++ [(a, b)]) := by
  refine ⟨fun s m => ?_, List.pairwise_append.mpr ⟨h.2, List.pairwise_singleton _ _, fun s m t mt => ?_⟩⟩
  · rcases List.mem_append.mp m with m | m
    · exact h.1 s m
    · cases List.mem_singleton.mp m
      exact hab
  · cases List.mem_singleton.mp mt
    exact hl s m
/-- within one stretch (f, l): at of the removed are passed, the days from st on are open to question -/
structure WInv (rm : List St) (f l : Int) (acc0 : List St) (at0 ak : Nat) (st : Int) (acc : List St) : Prop where
  asc : Asc acc
  le : at0 ≤ ak ∧ ak ≤ rm.length
  fst : f ≤ st
  bef : ∀ j t, j < ak → rm[j]? = some t → t.2 < st
  aft : ∀ j t, ak ≤ j → rm[j]? = some t → st ≤ t.2
  hi : ∀ s ∈ acc, s.2 < st
  top : ∀ s ∈ acc, s ∈ acc0 ∨ s.2 ≤ l
  cov : ∀ x, Cov acc x ↔ Cov acc0 x ∨ (f ≤ x ∧ x < st ∧ x ≤ l ∧ ¬ Cov rm x)
  len : acc.length ≤ acc0.length + (ak - at0)
theorem WInv.start {rm : List St} {f l : Int} {acc0 : List St} {at0 : Nat} (ha : Asc acc0) (hl : at0 ≤ rm.length) (hb : ∀ j t, j < at0 → rm[j]? = some t → t.2 < f) (hf : ∀ j t, at0 ≤ j → rm[j]? = some t → f ≤ t.2) (hi : ∀ s ∈ acc0, s.2 < f) : WInv rm f l acc0 at0 at0 f acc0 :=
  ⟨ha, ⟨Nat.le_refl _, hl⟩, Int.le_refl _, hb, hf, hi, fun s m => .inl m, fun x => ⟨fun h => .inl h, fun h => h.elim id fun q => by omega⟩, by omega⟩
/-- x, from st up to the next removed one, is not removed -/
theorem WInv.free {rm : List St} {f l : Int} {acc0 acc : List St} {at0 ak : Nat} {st : Int} (hr : Sep rm) (h : WInv rm f l acc0 at0 ak st acc) {x : Int} (h1 : st ≤ x) (h2 : ∀ t, rm[ak]? = some t → x < t.1) : ¬ Cov rm x := fun c => by
  obtain ⟨j, t, hj, q1, q2⟩ := cov_at.mp c
  by_cases c1 : j < ak
  · have := h.bef j t c1 hj
    omega
  · have hak : ak < rm.length := by
      have := (List.getElem?_eq_some_iff.mp hj).1
      omega
    have hu := h2 _ (List.getElem?_eq_getElem hak)
    by_cases c2 : j = ak
    · subst c2
      rw [List.getElem?_eq_getElem hak] at hj
      cases hj
      omega
    · have e1 := asc_at hr (List.getElem?_eq_getElem hak) hj (by omega)
      have e2 := good_at hr.1 (List.getElem?_eq_getElem hak)
      omega
theorem WInv.next {rm : List St} {f l : Int} {acc0 acc : List St} {at0 ak : Nat} {st : Int} {t : St} (hr : Sep rm) (h : WInv rm f l acc0 at0 ak st acc) (ht : rm[ak]? = some t) (hl : t.1 ≤ l) (acc' : List St)
    (e : acc' = if st < t.1 then acc ++ [(st, t.1 - 1)] else acc) : WInv rm f l acc0 at0 (ak + 1) (t.2 + 1) acc' := by
  have hs := h.aft ak t (Nat.le_refl _) ht
  have hg := good_at hr.1 ht
  have hk := (List.getElem?_eq_some_iff.mp ht).1
  have in_t : ∀ x, t.1 ≤ x → x ≤ t.2 → Cov rm x := fun x q1 q2 => cov_at.mpr ⟨ak, t, ht, q1, q2⟩
  have hf := h.fst
  have base : ∀ j u, j < ak + 1 → rm[j]? = some u → u.2 < t.2 + 1 := fun j u hj hu => by
    by_cases c : j = ak
    · subst c
      rw [ht] at hu
      cases hu
      omega
    · have := h.bef j u (by omega) hu
      omega
  have aft : ∀ j u, ak + 1 ≤ j → rm[j]? = some u → t.2 + 1 ≤ u.2 := fun j u hj hu => by
    have e1 := asc_at hr ht hu (by omega)
    have e2 := good_at hr.1 hu
    omega
  by_cases c : st < t.1
  · rw [if_pos c] at e
    subst e
    refine ⟨h.asc.add (by omega) h.hi, ⟨by have := h.le; omega, hk⟩, by omega, base, aft, fun s m => ?_, fun s m => ?_, fun x => ?_, ?_⟩
    · rcases List.mem_append.mp m with m | m
      · have := h.hi s m
        omega
      · cases List.mem_singleton.mp m
        show t.1 - 1 < t.2 + 1
        omega
    · rcases List.mem_append.mp m with m | m
      · exact h.top s m
      · cases List.mem_singleton.mp m
        exact .inr (show t.1 - 1 ≤ l by omega)
    · rw [cov_app, h.cov, cov_one]
      constructor
      · rintro ((q | q) | ⟨q1, q2⟩)
        · exact .inl q
        · exact .inr ⟨q.1, by omega, q.2.2.1, q.2.2.2⟩
        · have q1 : st ≤ x := q1
          have q2 : x ≤ t.1 - 1 := q2
          exact .inr ⟨by omega, by omega, by omega, h.free hr q1 fun u hu => by rw [ht] at hu; cases hu; omega⟩
      · rintro (q | ⟨q1, q2, q3, q4⟩)
        · exact .inl (.inl q)
        · by_cases c1 : x < st
          · exact .inl (.inr ⟨q1, c1, q3, q4⟩)
          · refine .inr ⟨show st ≤ x by omega, show x ≤ t.1 - 1 from ?_⟩
            by_cases c2 : x ≤ t.1 - 1
            · exact c2
            · exact absurd (in_t x (by omega) (by omega)) q4
    · rw [List.length_append, List.length_singleton]
      have := h.len
      have := h.le
      omega
  · rw [if_neg c] at e
    subst e
    refine ⟨h.asc, ⟨by have := h.le; omega, hk⟩, by omega, base, aft, fun s m => by have := h.hi s m; omega, h.top, fun x => ?_, by have := h.len; have := h.le; omega⟩
    rw [h.cov]
    constructor
    · rintro (q | q)
      · exact .inl q
      · exact .inr ⟨q.1, by omega, q.2.2.1, q.2.2.2⟩
    · rintro (q | ⟨q1, q2, q3, q4⟩)
      · exact .inl q
      · by_cases c1 : x < st
        · exact .inr ⟨q1, c1, q3, q4⟩
        · exact absurd (in_t x (by omega) (by omega)) q4
/-- behind one stretch -/
theorem WInv.fin {rm : List St} {f l : Int} {acc0 acc : List St} {at0 ak : Nat} {st : Int} (hr : Sep rm) (h : WInv rm f l acc0 at0 ak st acc) (he : ∀ t, rm[ak]? = some t → l < t.1) (acc' : List St)
    (e : acc' = if st ≤ l then acc ++ [(st, l)] else acc) : Asc acc' ∧ (∀ s ∈ acc', s ∈ acc0 ∨ s.2 ≤ l) ∧ (∀ x, Cov acc' x ↔ Cov acc0 x ∨ (f ≤ x ∧ x ≤ l ∧ ¬ Cov rm x)) ∧ acc'.length ≤ acc0.length + (rm.length + 1) := by
  have hf := h.fst
  by_cases c : st ≤ l
  · rw [if_pos c] at e
    subst e
    refine ⟨h.asc.add c h.hi, fun s m => ?_, fun x => ?_, ?_⟩
    · rcases List.mem_append.mp m with m | m
      · exact h.top s m
      · cases List.mem_singleton.mp m
        exact .inr (Int.le_refl l)
    · rw [cov_app, h.cov, cov_one]
      constructor
      · rintro ((q | q) | ⟨q1, q2⟩)
        · exact .inl q
        · exact .inr ⟨q.1, q.2.2.1, q.2.2.2⟩
        · have q1 : st ≤ x := q1
          have q2 : x ≤ l := q2
          exact .inr ⟨by omega, q2, h.free hr q1 fun u hu => by have := he u hu; omega⟩
      · rintro (q | ⟨q1, q3, q4⟩)
        · exact .inl (.inl q)
        · by_cases c1 : x < st
          · exact .inl (.inr ⟨q1, c1, q3, q4⟩)
          · exact .inr ⟨show st ≤ x by omega, q3⟩
    · rw [List.length_append, List.length_singleton]
      have := h.len
      have := h.le
      omega
  · rw [if_neg c] at e
    subst e
    refine ⟨h.asc, h.top, fun x => ?_, by have := h.len; have := h.le; omega⟩
    rw [h.cov]
    constructor
    · rintro (q | q)
      · exact .inl q
      · exact .inr ⟨q.1, q.2.2.1, q.2.2.2⟩
    · rintro (q | ⟨q1, q3, q4⟩)
      · exact .inl q
      · exact .inr ⟨q1, by omega, q3, q4⟩
/-- behind i of the stretches -/
structure OInv (ss rm : List St) (i passed : Nat) (acc : List St) : Prop where
  asc : Asc acc
  cov : ∀ x, Cov acc x ↔ Cov (ss.take i) x ∧ ¬ Cov rm x
  top : ∀ s ∈ acc, ∃ t ∈ ss.take i, s.2 ≤ t.2
  le : passed ≤ rm.length
  bef : ∀ j t k u, j < passed → rm[j]? = some t → i ≤ k → ss[k]? = some u → t.2 < u.1
  len : acc.length ≤ i * (rm.length + 1)
theorem OInv.start {ss rm : List St} : OInv ss rm 0 0 [] := ⟨⟨fun _ m => (nomatch m), List.Pairwise.nil⟩, fun x => by rw [List.take_zero]; exact ⟨fun h => absurd h cov_nil, fun h => h.1⟩, fun _ m => (nomatch m), Nat.zero_le _, fun _ _ _ _ h => absurd h (Nat.not_lt_zero _), Nat.zero_le _⟩
theorem OInv.pass {ss rm : List St} {i passed : Nat} {acc : List St} {f l : Int} {t : St} (hs : Sep ss) (h : OInv ss rm i passed acc) (hd : ss[i]? = some (f, l)) (ht : rm[passed]? = some t) (hl : t.2 < f) : OInv ss rm i (passed + 1) acc := by
  refine ⟨h.asc, h.cov, h.top, (List.getElem?_eq_some_iff.mp ht).1, fun j u k v hj hu hk hv => ?_, h.len⟩
  by_cases c : j = passed
  · subst c
    rw [ht] at hu
    cases hu
    by_cases c2 : k = i
    · subst c2
      rw [hd] at hv
      cases hv
      exact hl
    · have e1 := asc_at hs hd hv (by omega)
      have e2 : f ≤ l := good_at hs.1 hd
      have e1 : l + 1 < v.1 := e1
      omega
  · exact h.bef j u k v (by omega) hu hk hv
theorem OInv.low {ss rm : List St} {i passed : Nat} {acc : List St} {f l : Int} (hs : Sep ss) (h : OInv ss rm i passed acc) (hd : ss[i]? = some (f, l)) : ∀ s ∈ acc, s.2 < f := fun s m => by
  obtain ⟨t, mt, hst⟩ := h.top s m
  obtain ⟨j, hj⟩ := List.mem_iff_getElem?.mp mt
  have hl : j < i := by
    have := (List.getElem?_eq_some_iff.mp hj).1
    rw [List.length_take] at this
    omega
  rw [List.getElem?_take, if_pos hl] at hj
  have := asc_at hs hj hd hl
  have : t.2 + 1 < f := this
  omega
theorem OInv.enter {ss rm : List St} {i passed : Nat} {acc : List St} {f l : Int} (hs : Sep ss) (hr : Sep rm) (h : OInv ss rm i passed acc) (hd : ss[i]? = some (f, l)) (hp : ∀ t, rm[passed]? = some t → f ≤ t.2) : WInv rm f l acc passed passed f acc :=
  WInv.start h.asc h.le (fun j t hj ht => h.bef j t i (f, l) hj ht (Nat.le_refl _) hd) (fun j t hj ht => by
    by_cases c : j = passed
    · subst c
      exact hp t ht
    · have hk : passed < rm.length := by
        have := (List.getElem?_eq_some_iff.mp ht).1
        omega
      have e1 := asc_at hr (List.getElem?_eq_getElem hk) ht (by omega)
      have e2 := hp _ (List.getElem?_eq_getElem hk)
      have e3 := good_at hr.1 ht
      omega) (h.low hs hd)
theorem OInv.leave {ss rm : List St} {i passed : Nat} {acc acc' : List St} {f l : Int} (hs : Sep ss) (h : OInv ss rm i passed acc) (hd : ss[i]? = some (f, l))
    (q : Asc acc' ∧ (∀ s ∈ acc', s ∈ acc ∨ s.2 ≤ l) ∧ (∀ x, Cov acc' x ↔ Cov acc x ∨ (f ≤ x ∧ x ≤ l ∧ ¬ Cov rm x)) ∧ acc'.length ≤ acc.length + (rm.length + 1)) : OInv ss rm (i + 1) passed acc' := by
  obtain ⟨q1, q2, q3, q4⟩ := q
  refine ⟨q1, fun x => ?_, fun s m => ?_, h.le, fun j t k u hj ht hk hu => h.bef j t k u hj ht (by omega) hu, ?_⟩
  · rw [q3, h.cov, take_step hd, cov_app, cov_one]
    constructor
    · rintro (⟨a, b⟩ | ⟨a, b, c⟩)
      · exact ⟨.inl a, b⟩
      · exact ⟨.inr ⟨a, b⟩, c⟩
    · rintro ⟨a | a, b⟩
      · exact .inl ⟨a, b⟩
      · exact .inr ⟨a.1, a.2, b⟩
  · rw [take_step hd]
    rcases q2 s m with m | m
    · obtain ⟨t, mt, e⟩ := h.top s m
      exact ⟨t, List.mem_append_left _ mt, e⟩
    · exact ⟨(f, l), List.mem_append_right _ (List.mem_singleton.mpr rfl), m⟩
  · have := h.len
    rw [Nat.succ_mul]
    omega
theorem OInv.all {ss rm : List St} {passed : Nat} {acc : List St} (h : OInv ss rm ss.length passed acc) : Asc acc ∧ (∀ x, Cov acc x ↔ Cov ss x ∧ ¬ Cov rm x) ∧ acc.length ≤ ss.length * (rm.length + 1) :=
  ⟨h.asc, fun x => by rw [h.cov, List.take_length], h.len⟩
end Cal
set_option maxHeartbeats 4000000
/-! Cal3: the days that a pattern opens, counted. Plain mathematics. -/
namespace Cal
/-- how many of the first k signs are open -/
def cnt (pat : List Bool) (k : Nat) : Int := ((pat.take k).countP (· == true) : Nat)
def tot (pat : List Bool) : Int := cnt pat pat.length
def ln (pat : List Bool) : Int := (pat.length : Nat)
/-- the open days of the pattern before d, from day 0 on -/
def pl (pat : List Bool) (d : Int) : Int := d / ln pat * tot pat + cnt pat (d % ln pat).toNat
def popen (pat : List Bool) (d : Int) : Bool := pat.getD (d % ln pat).toNat false
def b2i (b : Bool) : Int := if b then 1 else 0
theorem cnt_zero (pat : List Bool) : cnt pat 0 = 0 := rfl
theorem cnt_succ {pat : List Bool} {k : Nat} (h : k < pat.length) : cnt pat (k + 1) = cnt pat k + b2i (pat.getD k false) := by
  unfold cnt b2i
  rw [List.take_add_one, List.countP_append, List.getElem?_eq_getElem h, List.getD_eq_getElem?_getD, List.getElem?_eq_getElem h]
  cases pat[k] <;> simp
theorem pl_step {pat : List Bool} (h : 0 < pat.length) (d : Int) : pl pat (d + 1) = pl pat d + b2i (popen pat d) := by
  have hl : 0 < ln pat := by unfold ln; omega
  have e := Int.mul_ediv_add_emod d (ln pat)
  have r0 := Int.emod_nonneg d (Int.ne_of_gt hl)
  have r1 := Int.emod_lt_of_pos d hl
  have hk : (d % ln pat).toNat < pat.length := by
    unfold ln at r1 r0 ⊢
    omega
  unfold pl popen
  by_cases c : d % ln pat + 1 < ln pat
  · have q : (d + 1) / ln pat = d / ln pat := by
      rw [← Int.emod_add_mul_ediv d (ln pat)]
      have : d % ln pat + ln pat * (d / ln pat) + 1 = (d % ln pat + 1) + ln pat * (d / ln pat) := by omega
      rw [this, Int.add_mul_ediv_left _ _ (Int.ne_of_gt hl), Int.add_mul_ediv_left _ _ (Int.ne_of_gt hl), Int.ediv_eq_zero_of_lt (by omega) c, Int.ediv_eq_zero_of_lt r0 r1]
    have m : (d + 1) % ln pat = d % ln pat + 1 := by
      rw [← Int.emod_add_mul_ediv d (ln pat)]
      have : d % ln pat + ln pat * (d / ln pat) + 1 = (d % ln pat + 1) + ln pat * (d / ln pat) := by omega
      rw [this, Int.add_mul_emod_self_left, Int.emod_eq_of_lt (by omega) c, Int.add_mul_emod_self_left, Int.emod_eq_of_lt r0 r1]
    rw [q, m]
    have : (d % ln pat + 1).toNat = (d % ln pat).toNat + 1 := by omega
    rw [this, cnt_succ hk]
    omega
  · have c1 : d % ln pat + 1 = ln pat := by omega
    have q : (d + 1) / ln pat = d / ln pat + 1 := by
      have : d + 1 = 0 + ln pat * (d / ln pat + 1) := by
        rw [Int.mul_add]
        omega
      rw [this, Int.add_mul_ediv_left _ _ (Int.ne_of_gt hl)]
      simp
    have m : (d + 1) % ln pat = 0 := by
      have : d + 1 = 0 + ln pat * (d / ln pat + 1) := by
        rw [Int.mul_add]
        omega
      rw [this, Int.add_mul_emod_self_left]
      rfl
    rw [q, m]
    have k1 : (d % ln pat).toNat + 1 = pat.length := by
      unfold ln at c1 ⊢
      omega
    have e2 : tot pat = cnt pat (d % ln pat).toNat + b2i (pat.getD (d % ln pat).toNat false) := by
      unfold tot
      rw [← cnt_succ hk, k1]
    rw [Int.add_mul, Int.one_mul]
    show _ + tot pat + cnt pat 0 = _
    rw [cnt_zero]
    omega
theorem b2i_nn (b : Bool) : 0 ≤ b2i b ∧ b2i b ≤ 1 := by cases b <;> decide
theorem pl_mono {pat : List Bool} (h : 0 < pat.length) (d : Int) (n : Nat) : pl pat d ≤ pl pat (d + n) := by
  induction n with
  | zero => simp
  | succ n ih =>
    have e : d + ((n + 1 : Nat) : Int) = d + n + 1 := by omega
    rw [e, pl_step h]
    have := b2i_nn (popen pat (d + n))
    omega
theorem pl_le {pat : List Bool} (h : 0 < pat.length) {a b : Int} (hab : a ≤ b) : pl pat a ≤ pl pat b := by
  have := pl_mono h a (b - a).toNat
  have e : a + ((b - a).toNat : Int) = b := by omega
  rwa [e] at this
/-- the places of the open signs -/
def places (pat : List Bool) : List Int := ((List.range pat.length).filter fun (k : Nat) => pat.getD k false).map (fun (k : Nat) => ((k : Nat) : Int))
theorem places_aux (pat : List Bool) : ∀ n, n ≤ pat.length → (((List.range n).filter fun k => pat.getD k false).length : Int) = cnt pat n ∧ ∀ (i p : Nat), ((List.range n).filter fun k => pat.getD k false)[i]? = some p → p < n ∧ pat.getD p false = true ∧ cnt pat p = (i : Int) := by
  intro n
  induction n with
  | zero =>
    intro _
    exact ⟨rfl, fun i p h => by simp at h⟩
  | succ n ih =>
    intro hn
    obtain ⟨h1, h2⟩ := ih (by omega)
    rw [List.range_succ, List.filter_append]
    have e := cnt_succ (pat := pat) (k := n) (by omega)
    cases c : pat.getD n false with
    | false =>
      rw [c] at e
      rw [List.filter_cons_of_neg (by rw [c]; decide), List.filter_nil, List.append_nil]
      refine ⟨by rw [h1, e]; simp [b2i], fun i p h => ?_⟩
      obtain ⟨q1, q2, q3⟩ := h2 i p h
      exact ⟨by omega, q2, q3⟩
    | true =>
      rw [c] at e
      rw [List.filter_cons_of_pos (by rw [c]), List.filter_nil]
      refine ⟨?_, fun i p h => ?_⟩
      · rw [List.length_append, List.length_singleton, e, ← h1]
        simp [b2i]
      · rw [List.getElem?_append] at h
        split at h
        · obtain ⟨q1, q2, q3⟩ := h2 i p h
          exact ⟨by omega, q2, q3⟩
        · rename_i hi
          match hk : i - ((List.range n).filter fun k => pat.getD k false).length, h with
          | 0, h =>
            cases h
            refine ⟨by omega, c, ?_⟩
            rw [← h1]
            omega
          | k + 1, h => simp at h
theorem places_len (pat : List Bool) : ((places pat).length : Int) = tot pat := by
  unfold places
  rw [List.length_map]
  exact (places_aux pat _ (Nat.le_refl _)).1
theorem places_at {pat : List Bool} {i : Nat} {p : Int} (h : (places pat)[i]? = some p) : 0 ≤ p ∧ p < ln pat ∧ pat.getD p.toNat false = true ∧ cnt pat p.toNat = (i : Int) := by
  unfold places at h
  rw [List.getElem?_map] at h
  match hk : ((List.range pat.length).filter fun k => pat.getD k false)[i]?, h with
  | some q, h =>
    cases h
    obtain ⟨q1, q2, q3⟩ := (places_aux pat _ (Nat.le_refl _)).2 i q hk
    show 0 ≤ ((q : Nat) : Int) ∧ ((q : Nat) : Int) < ln pat ∧ pat.getD ((q : Nat) : Int).toNat false = true ∧ cnt pat ((q : Nat) : Int).toNat = (i : Int)
    refine ⟨by omega, by unfold ln; omega, ?_, ?_⟩
    · rwa [Int.toNat_natCast]
    · rwa [Int.toNat_natCast]
/-- the open day of the pattern with the number r -/
def pday (pat : List Bool) (r : Int) : Int := r / tot pat * ln pat + (places pat).getD (r % tot pat).toNat 0
theorem pday_is {pat : List Bool} (h : 0 < tot pat) (r : Int) : pl pat (pday pat r) = r ∧ popen pat (pday pat r) = true := by
  have r0 := Int.emod_nonneg r (Int.ne_of_gt h)
  have r1 := Int.emod_lt_of_pos r h
  have e := Int.mul_ediv_add_emod r (tot pat)
  have hk : (r % tot pat).toNat < (places pat).length := by
    have := places_len pat
    omega
  obtain ⟨p0, p1, p2, p3⟩ := places_at (List.getElem?_eq_getElem hk)
  have g : (places pat).getD (r % tot pat).toNat 0 = (places pat)[(r % tot pat).toNat] := by
    rw [List.getD_eq_getElem?_getD, List.getElem?_eq_getElem hk]
    rfl
  have hl : 0 < ln pat := by omega
  have d1 : pday pat r / ln pat = r / tot pat := by
    unfold pday
    rw [g, Int.add_comm, Int.add_mul_ediv_right _ _ (Int.ne_of_gt hl), Int.ediv_eq_zero_of_lt p0 p1, Int.zero_add]
  have d2 : pday pat r % ln pat = (places pat)[(r % tot pat).toNat] := by
    unfold pday
    rw [g, Int.add_comm, Int.add_mul_emod_self_right, Int.emod_eq_of_lt p0 p1]
  unfold pl popen
  rw [d1, d2]
  refine ⟨?_, p2⟩
  rw [p3, Int.mul_comm]
  omega
end Cal
set_option maxHeartbeats 4000000
/-! Cal4: ranks: the open days of a calendar, counted. Plain mathematics. -/
namespace Cal
/-- a piece: first, last, what each of its days counts -/
abbrev Pc := Int × Int × Int
structure Okp (ps : List Pc) : Prop where
  good : ∀ p ∈ ps, p.1 ≤ p.2.1
  bit : ∀ p ∈ ps, p.2.2 = 0 ∨ p.2.2 = 1
  asc : ps.Pairwise fun a b => a.2.1 < b.1
def shf (pat : List Bool) (s : Int) (p : Pc) : Int := pl pat p.1 + s + p.2.2 * (p.2.1 + 1 - p.1) - pl pat (p.2.1 + 1)
def sh (pat : List Bool) (ps : List Pc) (k : Nat) : Int := (ps.take k).foldl (shf pat) 0
theorem sh_succ {pat : List Bool} {ps : List Pc} {k : Nat} {p : Pc} (h : ps[k]? = some p) : sh pat ps (k + 1) = shf pat (sh pat ps k) p := by
  unfold sh
  rw [List.take_add_one, h]
  show (ps.take k ++ [p]).foldl (shf pat) 0 = _
  rw [List.foldl_append]
  rfl
/-- a day's rank, at pieces being those that begin no later -/
def rk (pat : List Bool) (ps : List Pc) (ak : Nat) (d : Int) : Int :=
  match ak with
  | 0 => pl pat d
  | k + 1 => if (ps.getD k (0, 0, 0)).2.1 < d then pl pat d + sh pat ps (k + 1) else pl pat (ps.getD k (0, 0, 0)).1 + sh pat ps k + (ps.getD k (0, 0, 0)).2.2 * (d - (ps.getD k (0, 0, 0)).1)
structure Loc (fs : List Int) (ak : Nat) (d : Int) : Prop where
  le : ak ≤ fs.length
  bef : ∀ (j : Nat) (f : Int), j < ak → fs[j]? = some f → f ≤ d
  aft : ∀ (j : Nat) (f : Int), ak ≤ j → fs[j]? = some f → d < f
def firsts (ps : List Pc) : List Int := ps.map (·.1)
theorem first_at {ps : List Pc} {j : Nat} {p : Pc} (h : ps[j]? = some p) : (firsts ps)[j]? = some p.1 := by
  unfold firsts
  rw [List.getElem?_map, h]
  rfl
theorem getD_at {ps : List Pc} {j : Nat} {p : Pc} (h : ps[j]? = some p) : ps.getD j (0, 0, 0) = p := by
  rw [List.getD_eq_getElem?_getD, h]
  rfl
theorem okp_lt {ps : List Pc} (h : Okp ps) {i j : Nat} {p q : Pc} (hi : ps[i]? = some p) (hj : ps[j]? = some q) (l : i < j) : p.2.1 < q.1 := by
  obtain ⟨i1, e1⟩ := List.getElem?_eq_some_iff.mp hi
  obtain ⟨j1, e2⟩ := List.getElem?_eq_some_iff.mp hj
  have := List.pairwise_iff_getElem.mp h.asc i j i1 j1 l
  rwa [e1, e2] at this
theorem okp_good {ps : List Pc} (h : Okp ps) {i : Nat} {p : Pc} (hi : ps[i]? = some p) : p.1 ≤ p.2.1 := h.good p (List.mem_of_getElem? hi)
section
variable {pat : List Bool} {ps : List Pc} {ak k K : Nat} {d : Int} {p : Pc}
theorem has {k : Nat} (h : k < ps.length) : ∃ p, ps[k]? = some p := ⟨_, List.getElem?_eq_getElem h⟩
/-- between the pieces -/
structure Gap (ps : List Pc) (K : Nat) (d : Int) : Prop where
  le : K ≤ ps.length
  bef : ∀ (k : Nat) (p : Pc), K = k + 1 → ps[k]? = some p → p.2.1 < d
  aft : ∀ (p : Pc), ps[K]? = some p → d ≤ p.1
theorem rk_gap (h : Okp ps) (l : Loc (firsts ps) ak d) (g : Gap ps K d) : rk pat ps ak d = pl pat d + sh pat ps K := by
  have hlen : (firsts ps).length = ps.length := by unfold firsts; rw [List.length_map]
  have l0 := l.le
  have g0 := g.le
  have c1 : ¬ ak < K := fun c => by
    obtain ⟨k, rfl⟩ : ∃ k, K = k + 1 := ⟨K - 1, by omega⟩
    obtain ⟨p, hp⟩ := has (ps := ps) (k := k) (by omega)
    have e1 := g.bef k p rfl hp
    have e2 := l.aft k p.1 (by omega) (first_at hp)
    have e3 := okp_good h hp
    omega
  have c2 : ¬ K + 1 < ak := fun c => by
    obtain ⟨p, hp⟩ := has (ps := ps) (k := K) (by omega)
    obtain ⟨q, hq⟩ := has (ps := ps) (k := K + 1) (by omega)
    have e1 := g.aft p hp
    have e2 := l.bef (K + 1) q.1 c (first_at hq)
    have e3 := okp_good h hp
    have e4 := okp_lt h hp hq (by omega)
    omega
  by_cases c : ak = K
  · subst c
    cases ak with
    | zero =>
      show pl pat d = pl pat d + 0
      omega
    | succ k =>
      obtain ⟨p, hp⟩ := has (ps := ps) (k := k) (by omega)
      have e1 := g.bef k p rfl hp
      show (if (ps.getD k (0, 0, 0)).2.1 < d then _ else _) = _
      rw [getD_at hp, if_pos e1]
  · obtain rfl : ak = K + 1 := by omega
    obtain ⟨p, hp⟩ := has (ps := ps) (k := K) (by omega)
    have e1 := g.aft p hp
    have e2 := l.bef K p.1 (by omega) (first_at hp)
    have e3 := okp_good h hp
    show (if (ps.getD K (0, 0, 0)).2.1 < d then _ else _) = _
    rw [getD_at hp, if_neg (by omega), show p.1 = d by omega, Int.sub_self, Int.mul_zero, Int.add_zero]
theorem rk_piece (h : Okp ps) (l : Loc (firsts ps) ak d) (hp : ps[k]? = some p) (h1 : p.1 ≤ d) (h2 : d ≤ p.2.1 + 1) : rk pat ps ak d = pl pat p.1 + sh pat ps k + p.2.2 * (d - p.1) := by
  have hlen : (firsts ps).length = ps.length := by unfold firsts; rw [List.length_map]
  have l0 := l.le
  have hk := (List.getElem?_eq_some_iff.mp hp).1
  by_cases c : d ≤ p.2.1
  · have c1 : ¬ ak ≤ k := fun c => by
      have := l.aft k p.1 c (first_at hp)
      omega
    have c2 : ¬ k + 1 < ak := fun c => by
      obtain ⟨q, hq⟩ := has (ps := ps) (k := k + 1) (by omega)
      have e2 := l.bef (k + 1) q.1 c (first_at hq)
      have e4 := okp_lt h hp hq (by omega)
      omega
    obtain rfl : ak = k + 1 := by omega
    show (if (ps.getD k (0, 0, 0)).2.1 < d then _ else _) = _
    rw [getD_at hp, if_neg (by omega)]
  · obtain rfl : d = p.2.1 + 1 := by omega
    rw [rk_gap (K := k + 1) h l ⟨hk, fun j q e hq => ?_, fun q hq => ?_⟩, sh_succ hp]
    · unfold shf
      omega
    · cases e
      rw [hp] at hq
      cases hq
      omega
    · have := okp_lt h hp hq (by omega)
      omega
theorem gap_up (h : Gap ps K d) (hn : ∀ p, ps[K]? = some p → d < p.1) : Gap ps K (d + 1) := ⟨h.le, fun k p e hp => by have := h.bef k p e hp; omega, fun p hp => by have := hn p hp; omega⟩
def opn (pat : List Bool) (ps : List Pc) (d : Int) : Bool := (ps.any fun p => decide (p.1 ≤ d ∧ d ≤ p.2.1 ∧ p.2.2 = 1)) || (!(ps.any fun p => decide (p.1 ≤ d ∧ d ≤ p.2.1)) && popen pat d)
theorem only (h : Okp ps) {i j : Nat} {p q : Pc} (hi : ps[i]? = some p) (hj : ps[j]? = some q) (h1 : p.1 ≤ d ∧ d ≤ p.2.1) (h2 : q.1 ≤ d ∧ d ≤ q.2.1) : i = j := by
  rcases Nat.lt_trichotomy i j with c | c | c
  · have := okp_lt h hi hj c
    omega
  · exact c
  · have := okp_lt h hj hi c
    omega
theorem opn_piece (h : Okp ps) (hp : ps[k]? = some p) (h1 : p.1 ≤ d ∧ d ≤ p.2.1) : b2i (opn pat ps d) = p.2.2 := by
  have a2 : (ps.any fun p => decide (p.1 ≤ d ∧ d ≤ p.2.1)) = true := List.any_eq_true.mpr ⟨p, List.mem_of_getElem? hp, decide_eq_true h1⟩
  rcases h.bit p (List.mem_of_getElem? hp) with e | e
  · have a1 : (ps.any fun p => decide (p.1 ≤ d ∧ d ≤ p.2.1 ∧ p.2.2 = 1)) = false := by
      rw [List.any_eq_false]
      intro q m c
      have c := of_decide_eq_true c
      obtain ⟨j, hj⟩ := List.mem_iff_getElem?.mp m
      have := only h hp hj h1 ⟨c.1, c.2.1⟩
      subst this
      rw [hp] at hj
      cases hj
      omega
    unfold opn
    rw [a1, a2, e]
    rfl
  · have a1 : (ps.any fun p => decide (p.1 ≤ d ∧ d ≤ p.2.1 ∧ p.2.2 = 1)) = true := List.any_eq_true.mpr ⟨p, List.mem_of_getElem? hp, decide_eq_true ⟨h1.1, h1.2, e⟩⟩
    unfold opn
    rw [a1, e]
    rfl
theorem opn_gap (h : Okp ps) (g : Gap ps K d) (hn : ∀ p, ps[K]? = some p → d < p.1) : opn pat ps d = popen pat d := by
  have no : ∀ p ∈ ps, ¬ (p.1 ≤ d ∧ d ≤ p.2.1) := fun p m c => by
    obtain ⟨j, hj⟩ := List.mem_iff_getElem?.mp m
    have hjl := (List.getElem?_eq_some_iff.mp hj).1
    by_cases c1 : j < K
    · obtain ⟨k, rfl⟩ : ∃ k, K = k + 1 := ⟨K - 1, by omega⟩
      have g0 := g.le
      obtain ⟨q, hq⟩ := has (ps := ps) (k := k) (by omega)
      have e1 := g.bef k q rfl hq
      by_cases c2 : j = k
      · subst c2
        rw [hj] at hq
        cases hq
        omega
      · have e2 := okp_lt h hj hq (by omega)
        have e3 := okp_good h hq
        omega
    · obtain ⟨q, hq⟩ := has (ps := ps) (k := K) (by omega)
      have e1 := hn q hq
      by_cases c2 : j = K
      · subst c2
        rw [hj] at hq
        cases hq
        omega
      · have e2 := okp_lt h hq hj (by omega)
        have e3 := okp_good h hq
        omega
  have a2 : (ps.any fun p => decide (p.1 ≤ d ∧ d ≤ p.2.1)) = false := by
    rw [List.any_eq_false]
    exact fun p m c => no p m (of_decide_eq_true c)
  have a1 : (ps.any fun p => decide (p.1 ≤ d ∧ d ≤ p.2.1 ∧ p.2.2 = 1)) = false := by
    rw [List.any_eq_false]
    intro p m c
    have c := of_decide_eq_true c
    exact no p m ⟨c.1, c.2.1⟩
  unfold opn
  rw [a1, a2]
  simp
/-- a day is in a piece or between two -/
theorem where_is (h : Okp ps) (l : Loc (firsts ps) ak d) : (∃ (k : Nat) (p : Pc), ps[k]? = some p ∧ p.1 ≤ d ∧ d ≤ p.2.1) ∨ (Gap ps ak d ∧ ∀ p, ps[ak]? = some p → d < p.1) := by
  have hlen : (firsts ps).length = ps.length := by unfold firsts; rw [List.length_map]
  have l0 := l.le
  have aft : ∀ p, ps[ak]? = some p → d < p.1 := fun p hp => l.aft ak p.1 (Nat.le_refl _) (first_at hp)
  cases ak with
  | zero => exact .inr ⟨⟨Nat.zero_le _, fun k p e _ => by omega, fun p hp => by have := aft p hp; omega⟩, aft⟩
  | succ k =>
    obtain ⟨p, hp⟩ := has (ps := ps) (k := k) (by omega)
    have e1 := l.bef k p.1 (by omega) (first_at hp)
    by_cases c : d ≤ p.2.1
    · exact .inl ⟨k, p, hp, e1, c⟩
    · refine .inr ⟨⟨by omega, fun j q e hq => ?_, fun q hq => by have := aft q hq; omega⟩, aft⟩
      obtain rfl : k = j := by omega
      rw [hp] at hq
      cases hq
      omega
theorem rk_step (hpat : 0 < pat.length) (h : Okp ps) {ak' : Nat} (l : Loc (firsts ps) ak d) (l' : Loc (firsts ps) ak' (d + 1)) : rk pat ps ak' (d + 1) = rk pat ps ak d + b2i (opn pat ps d) := by
  rcases where_is h l with ⟨k, p, hp, h1, h2⟩ | ⟨g, hn⟩
  · rw [rk_piece h l hp h1 (by omega), rk_piece h l' hp (by omega) (by omega), opn_piece h hp ⟨h1, h2⟩]
    have : d + 1 - p.1 = (d - p.1) + 1 := by omega
    rw [this, Int.mul_add, Int.mul_one]
    omega
  · rw [rk_gap h l g, rk_gap h l' (gap_up g hn), opn_gap h g hn, pl_step hpat]
    omega
end
end Cal
set_option maxHeartbeats 4000000
/-! Cal5: the open day with a rank; the next and the last open day. Plain mathematics. -/
namespace Cal
section
variable {pat : List Bool} {ps : List Pc} {ak k K : Nat} {d : Int} {p : Pc}
theorem loc_of (fs : List Int) (hf : fs.Pairwise (· ≤ ·)) (d : Int) : ∃ ak, Loc fs ak d := by
  induction fs with
  | nil => exact ⟨0, Nat.le_refl _, fun j f h => absurd h (Nat.not_lt_zero _), fun j f _ h => by simp at h⟩
  | cons a fs ih =>
    obtain ⟨h1, h2⟩ := List.pairwise_cons.mp hf
    by_cases c : a ≤ d
    · obtain ⟨ak, l⟩ := ih h2
      refine ⟨ak + 1, Nat.succ_le_succ l.le, fun j f hj h => ?_, fun j f hj h => ?_⟩
      · cases j with
        | zero => cases h; exact c
        | succ j => exact l.bef j f (by omega) h
      · cases j with
        | zero => omega
        | succ j => exact l.aft j f (by omega) h
    · refine ⟨0, Nat.zero_le _, fun j f h => absurd h (Nat.not_lt_zero _), fun j f _ h => ?_⟩
      cases j with
      | zero => cases h; omega
      | succ j =>
        have := h1 f (List.mem_of_getElem? h)
        omega
theorem loc_one {fs : List Int} {i j : Nat} (h1 : Loc fs i d) (h2 : Loc fs j d) : i = j := by
  have a := h1.le
  have b := h2.le
  rcases Nat.lt_trichotomy i j with c | c | c
  · have hi : i < fs.length := by omega
    have e1 := h1.aft i _ (Nat.le_refl _) (List.getElem?_eq_getElem hi)
    have e2 := h2.bef i _ c (List.getElem?_eq_getElem hi)
    omega
  · exact c
  · have hj : j < fs.length := by omega
    have e1 := h2.aft j _ (Nat.le_refl _) (List.getElem?_eq_getElem hj)
    have e2 := h1.bef j _ c (List.getElem?_eq_getElem hj)
    omega
theorem firsts_asc (h : Okp ps) : (firsts ps).Pairwise (· ≤ ·) := by
  unfold firsts
  rw [List.pairwise_map, List.pairwise_iff_getElem]
  intro i j hi hj l
  have e1 := okp_lt h (List.getElem?_eq_getElem hi) (List.getElem?_eq_getElem hj) l
  have e2 := okp_good h (List.getElem?_eq_getElem hi)
  omega
/-- r is the rank of d -/
def Rk (pat : List Bool) (ps : List Pc) (d r : Int) : Prop := ∃ ak, Loc (firsts ps) ak d ∧ r = rk pat ps ak d
theorem rk_ex (h : Okp ps) (d : Int) : ∃ r, Rk pat ps d r := by
  obtain ⟨ak, l⟩ := loc_of _ (firsts_asc h) d
  exact ⟨_, ak, l, rfl⟩
theorem Rk.one {r s : Int} (h1 : Rk pat ps d r) (h2 : Rk pat ps d s) : r = s := by
  obtain ⟨a, l1, rfl⟩ := h1
  obtain ⟨b, l2, rfl⟩ := h2
  rw [loc_one l1 l2]
theorem Rk.step (hpat : 0 < pat.length) (h : Okp ps) {r s : Int} (h1 : Rk pat ps d r) (h2 : Rk pat ps (d + 1) s) : s = r + b2i (opn pat ps d) := by
  obtain ⟨a, l1, rfl⟩ := h1
  obtain ⟨b, l2, rfl⟩ := h2
  exact rk_step hpat h l1 l2
theorem Rk.le (hpat : 0 < pat.length) (h : Okp ps) {e r s : Int} (h1 : Rk pat ps d r) (h2 : Rk pat ps e s) (l : d ≤ e) : r ≤ s := by
  have key : ∀ (n : Nat) (s : Int), Rk pat ps (d + n) s → r ≤ s := by
    intro n
    induction n with
    | zero =>
      intro s h2
      have := h1.one (by simpa using h2)
      omega
    | succ n ih =>
      intro s h2
      obtain ⟨q, hq⟩ := rk_ex (pat := pat) h (d + n)
      have e : d + ((n + 1 : Nat) : Int) = d + n + 1 := by omega
      rw [e] at h2
      have e1 := hq.step hpat h h2
      have e2 := ih q hq
      have := b2i_nn (opn pat ps (d + n))
      omega
  exact key (e - d).toNat s (by
    have : d + ((e - d).toNat : Int) = e := by omega
    rwa [this])
/-- an open day between -/
theorem Rk.lt (hpat : 0 < pat.length) (h : Okp ps) {e x r s : Int} (h1 : Rk pat ps d r) (h2 : Rk pat ps e s) (l1 : d ≤ x) (l2 : x < e) (ho : opn pat ps x = true) : r < s := by
  obtain ⟨q, hq⟩ := rk_ex (pat := pat) h x
  obtain ⟨u, hu⟩ := rk_ex (pat := pat) h (x + 1)
  have e1 := h1.le hpat h hq l1
  have e2 := hu.le hpat h h2 (by omega)
  have e3 := hq.step hpat h hu
  rw [ho] at e3
  have : b2i true = 1 := rfl
  omega
/-- the rank of a piece's first day -/
def rn (pat : List Bool) (ps : List Pc) (k : Nat) : Int := pl pat (ps.getD k (0, 0, 0)).1 + sh pat ps k
def rnks (pat : List Bool) (ps : List Pc) : List Int := (List.range ps.length).map (rn pat ps)
theorem rnks_at {k : Nat} (h : k < ps.length) : (rnks pat ps)[k]? = some (rn pat ps k) := by
  unfold rnks
  rw [List.getElem?_map, List.getElem?_range h]
  rfl
theorem rn_is (h : Okp ps) (hp : ps[k]? = some p) : Rk pat ps p.1 (rn pat ps k) := by
  obtain ⟨ak, l⟩ := loc_of _ (firsts_asc h) p.1
  have := okp_good h hp
  refine ⟨ak, l, ?_⟩
  rw [rk_piece h l hp (Int.le_refl _) (by omega), Int.sub_self, Int.mul_zero, Int.add_zero]
  unfold rn
  rw [getD_at hp]
theorem rnks_asc (hpat : 0 < pat.length) (h : Okp ps) : (rnks pat ps).Pairwise (· ≤ ·) := by
  rw [List.pairwise_iff_getElem]
  intro i j hi hj l
  have hl : (rnks pat ps).length = ps.length := by unfold rnks; rw [List.length_map, List.length_range]
  obtain ⟨p, hp⟩ := has (ps := ps) (k := i) (by omega)
  obtain ⟨q, hq⟩ := has (ps := ps) (k := j) (by omega)
  have e1 := rnks_at (pat := pat) (ps := ps) (k := i) (by omega)
  have e2 := rnks_at (pat := pat) (ps := ps) (k := j) (by omega)
  rw [List.getElem?_eq_getElem hi] at e1
  rw [List.getElem?_eq_getElem hj] at e2
  rw [Option.some.inj e1, Option.some.inj e2]
  have e3 := okp_lt h hp hq l
  have e4 := okp_good h hp
  exact (rn_is h hp).le hpat h (rn_is h hq) (by omega)
/-- the day with a rank, at pieces having no greater ranks -/
def dyo (pat : List Bool) (ps : List Pc) (ak : Nat) (r : Int) : Int :=
  match ak with
  | 0 => pday pat r
  | k + 1 => if (ps.getD k (0, 0, 0)).2.2 = 1 ∧ r - rn pat ps k ≤ (ps.getD k (0, 0, 0)).2.1 - (ps.getD k (0, 0, 0)).1 then (ps.getD k (0, 0, 0)).1 + (r - rn pat ps k) else pday pat (r - sh pat ps (k + 1))
theorem plain_day (hpat : 0 < pat.length) (ht : 0 < tot pat) (h : Okp ps) (hK : K ≤ ps.length) (r : Int) (hb : ∀ (k : Nat) (p : Pc), K = k + 1 → ps[k]? = some p → pl pat (p.2.1 + 1) ≤ r - sh pat ps K) (ha : ∀ p, ps[K]? = some p → r - sh pat ps K < pl pat p.1) :
    Rk pat ps (pday pat (r - sh pat ps K)) r ∧ opn pat ps (pday pat (r - sh pat ps K)) = true := by
  obtain ⟨e1, e2⟩ := pday_is ht (r - sh pat ps K)
  generalize pday pat (r - sh pat ps K) = D at e1 e2 ⊢
  have st := pl_step hpat D
  rw [e2] at st
  have b1 : b2i true = 1 := rfl
  have g1 : ∀ (k : Nat) (p : Pc), K = k + 1 → ps[k]? = some p → p.2.1 < D := fun k p e hp => by
    have := hb k p e hp
    by_cases c : p.2.1 < D
    · exact c
    · have := pl_le hpat (a := D + 1) (b := p.2.1 + 1) (by omega)
      omega
  have g2 : ∀ p, ps[K]? = some p → D < p.1 := fun p hp => by
    have := ha p hp
    by_cases c : D < p.1
    · exact c
    · have := pl_le hpat (a := p.1) (b := D) (by omega)
      omega
  obtain ⟨ak, l⟩ := loc_of _ (firsts_asc h) D
  have g : Gap ps K D := ⟨hK, g1, fun p hp => by have := g2 p hp; omega⟩
  refine ⟨⟨ak, l, ?_⟩, by rw [opn_gap h g g2, e2]⟩
  rw [rk_gap h l g, e1]
  omega
theorem dyo_is (hpat : 0 < pat.length) (ht : 0 < tot pat) (h : Okp ps) {r : Int} (l : Loc (rnks pat ps) ak r) : Rk pat ps (dyo pat ps ak r) r ∧ opn pat ps (dyo pat ps ak r) = true := by
  have hlen : (rnks pat ps).length = ps.length := by unfold rnks; rw [List.length_map, List.length_range]
  have l0 := l.le
  cases ak with
  | zero =>
    have := plain_day (K := 0) hpat ht h (Nat.zero_le _) r (fun k p e _ => by omega) (fun p hp => by
      have e1 := l.aft 0 _ (Nat.le_refl _) (rnks_at (List.getElem?_eq_some_iff.mp hp).1)
      unfold rn at e1
      rw [getD_at hp] at e1
      omega)
    have e : r - sh pat ps 0 = r := Int.sub_zero r
    rwa [e] at this
  | succ k =>
    obtain ⟨p, hp⟩ := has (ps := ps) (k := k) (by omega)
    have e1 := l.bef k _ (by omega) (rnks_at (pat := pat) (ps := ps) (k := k) (by omega))
    have e0 : rn pat ps k = pl pat p.1 + sh pat ps k := by
      unfold rn
      rw [getD_at hp]
    have hg := okp_good h hp
    have hs : sh pat ps (k + 1) = _ := sh_succ (pat := pat) hp
    unfold shf at hs
    show Rk pat ps (if _ ∧ _ then _ else _) r ∧ opn pat ps (if _ ∧ _ then _ else _) = true
    rw [getD_at hp]
    by_cases c : p.2.2 = 1 ∧ r - rn pat ps k ≤ p.2.1 - p.1
    · rw [if_pos c]
      obtain ⟨ak, l2⟩ := loc_of _ (firsts_asc h) (p.1 + (r - rn pat ps k))
      refine ⟨⟨ak, l2, ?_⟩, ?_⟩
      · rw [rk_piece h l2 hp (by omega) (by omega), c.1]
        omega
      · have := opn_piece (pat := pat) (d := p.1 + (r - rn pat ps k)) h hp ⟨by omega, by omega⟩
        rw [c.1] at this
        cases q : opn pat ps (p.1 + (r - rn pat ps k)) with
        | true => rfl
        | false => rw [q] at this; cases this
    · rw [if_neg c]
      refine plain_day hpat ht h (by omega) r (fun j q e hq => ?_) (fun q hq => ?_)
      · obtain rfl : k = j := by omega
        rw [hp] at hq
        cases hq
        rcases h.bit p (List.mem_of_getElem? hp) with b | b
        · rw [b] at hs
          omega
        · rw [b] at hs
          have : ¬ r - rn pat ps k ≤ p.2.1 - p.1 := fun q => c ⟨b, q⟩
          omega
      · have e2 := l.aft (k + 1) _ (Nat.le_refl _) (rnks_at (List.getElem?_eq_some_iff.mp hq).1)
        unfold rn at e2
        rw [getD_at hq] at e2
        omega
/-- the next open day -/
theorem next_is (hpat : 0 < pat.length) (h : Okp ps) {r D : Int} (hr : Rk pat ps d r) (hD : Rk pat ps D r) (ho : opn pat ps D = true) : d ≤ D ∧ ∀ x, d ≤ x → x < D → opn pat ps x = false := by
  refine ⟨?_, fun x h1 h2 => ?_⟩
  · by_cases c : d ≤ D
    · exact c
    · have := hD.lt hpat h hr (Int.le_refl D) (by omega) ho
      omega
  · cases q : opn pat ps x with
    | false => rfl
    | true =>
      have := hr.lt hpat h hD h1 h2 q
      omega
/-- the last open day -/
theorem last_is (hpat : 0 < pat.length) (h : Okp ps) {r D : Int} (hr : Rk pat ps (d + 1) r) (hD : Rk pat ps D (r - 1)) (ho : opn pat ps D = true) : D ≤ d ∧ ∀ x, D < x → x ≤ d → opn pat ps x = false := by
  have hl : D ≤ d := by
    by_cases c : D ≤ d
    · exact c
    · have := hr.le hpat h hD (by omega)
      omega
  refine ⟨hl, fun x h1 h2 => ?_⟩
  cases q : opn pat ps x with
  | false => rfl
  | true =>
    obtain ⟨u, hu⟩ := rk_ex (pat := pat) h (D + 1)
    have e1 := hD.step hpat h hu
    rw [ho] at e1
    have b1 : b2i true = 1 := rfl
    have := hu.lt hpat h hr (x := x) (by omega) (by omega) q
    omega
end
end Cal
set_option maxRecDepth 100000
set_option maxHeartbeats 4000000
/-! Dv18: divmod; targets of any expression; texts sliced and counted; patterns. -/
namespace Dv
open PySem PySem.Spec PyProof.Rows L2
section
variable {X : Cx} {W : Wd} {Δ : List Sl} {m m1 m2 m3 : Nat} {tg o e a b : Expr} {pos apos p : Pos} {D : Ends} {sts : List Stmt} {N : Nat}
/-- target = e, e known exactly -/
theorem hs_asgT {fit : PyData → Prop} {put : List Sl → PyData → List Sl} {d : PyData} (ht : TGo X tg fit put) (he : DE X W Δ m e (eqd W.Z d)) (hf : fit d) (hb : N + m ≤ BIG) (hr : HS X (Ok W (N + m) (put Δ d)) sts D)
    (h1 : swapsWithSole [tg] e pos.line X.env = pure false := by rfl) (h2 : swappedStores [tg] e X.env = pure none := by rfl) (h3 : (assignEach [tg] X.env).map (·.2) = [assign tg X.env] := by rfl) : HS X (Ok W N Δ) (.Assign [tg] e pos :: sts) D := by
  obtain ⟨g, hg, hgo⟩ := ht
  exact hs_cons (ps_to (ps_asg he hg h1 h2 h3) fun D' σ H z => ⟨N, hb, z.1, fun v H1 k1 q1 o1 => hgo _ _ _ _ _ _ _ k1 (eqd_ok o1) hf _ fun σ' k2 => z.2.1 _ _ k2⟩) hr
theorem c_divmod {i j : Int} (h : CDiv i j) : Cal W (fun xs H Q => ∃ i j, xs = [V.int i, V.int j] ∧ CDiv i j ∧ ∀ (p : Addr), H p = none → Q (V.ref p) (upd H p (HO.tup [V.int (i / j), V.int (i % j)]))) [eqd W.Z (.int i), eqd W.Z (.int j)] (eqd W.Z (.tuple [.int (i / j), .int (i % j)])) := fun n H vs w jj o Q q => by
  obtain ⟨v, u, rfl, o1, o2⟩ := allo_2 o
  have o1 := eqd_ok o1
  have o2 := eqd_ok o2
  cases o1
  cases o2
  exact ⟨i, j, rfl, h, fun p hp => q _ _ (Ext.new hp) (ok_eqd (.tup upd_same (w.new jj hp) (.cons (.int _) (.cons (.int _) .nil))))⟩
/-- z[lo:hi] -/
theorem de_slS {lo hi : Option Expr} {p2 : Pos} {x y : Option Int} {z : Str} (he : DE X W Δ m1 e (eqd W.Z (.str z))) (hz : z.length ≤ 100000) (hl : PO X lo (tDO W Δ m2 (· = x))) (hu : PO X hi (tDO W Δ m3 (· = y))) :
    DE X W Δ (m1 + (m2 + m3)) (.Subscript e (.Slice lo hi none p2) pos) (eqd W.Z (.str (cutS z x y))) :=
  pe_to (pe_slice sl_str he hl hu) fun σ H Q ⟨n, l, k, f⟩ => ⟨n, big1 l, k, fun v H1 k1 q1 o1 => ⟨n + m1, by omega, k1, fun x' H2 k2 q2 px => ⟨n + m1 + m2, by omega, k2, fun y' H3 k3 q3 py => by
    have o := eqd_ok o1
    cases o
    subst px
    subst py
    exact ⟨z, rfl, Nat.le_trans hz (by decide), f _ H3 (k3.up (by omega)) ((q1.trans q2).trans q3) (ok_eqd (.str _))⟩⟩⟩⟩
theorem do_ex {i : Int} (h : DE X W Δ m e (eqd W.Z (.int i))) : PO X (some e) (tDO W Δ m (· = some i)) :=
  ⟨fun pins s σ H Q I ⟨n, l, k, z⟩ => (do_some (Qi := (· = i)) (ei h rfl)).run pins s σ H Q I ⟨n, l, k, fun o H' k' q' ⟨j, e, ej⟩ => z o H' k' q' (by rw [e, ej])⟩⟩
/-- z.count(y) -/
theorem de_count {z y : Str} (ho : DE X W Δ m1 o (eqd W.Z (.str z))) (he : DE X W Δ m2 e (eqd W.Z (.str y))) (hs : starEach [e] X.env = [(false, eval e X.env)] := by rfl) (hbase : attributeBase o "count" X.env (eval o X.env) = eval o X.env := by rfl) (hline : (apos.endLine == pos.line) = true := by rfl) :
    DE X W Δ (m1 + m2) (.Call (.Attribute o "count" apos) [e] [] pos) (eqd W.Z (.int (Txt.count z y))) :=
  pe_to (pe_m1 PySem.F.slot_str_count PySem.F.type_str_count mt_count ho he hs hbase hline) fun σ H Q ⟨n, l, k, f⟩ => ⟨n, big1 l, k, fun v H1 k1 q1 o1 => by
    have o1 := eqd_ok o1
    cases o1
    exact ⟨⟨z, rfl⟩, n + m1, big2 l, k1, fun u H2 k2 q2 o2 => by
      have o2 := eqd_ok o2
      cases o2
      exact ⟨z, y, rfl, rfl, f _ H2 k2.as (q1.trans q2) (ok_eqd (.int _))⟩⟩⟩
/-- a field of an object of which F tells -/
theorem de_fldG {F : Fam} {C : Addr} {f : Str} {d : PyData} (h : DE X W Δ m1 o (F.as W.Z)) (hF : ∀ Z H v, F.ok Z H v → ∃ a dx fs u, v = .ref a ∧ H a = some (.ins C dx fs) ∧ fs.lookup f = some u ∧ Da Z H u d) (c : Cls X.K C) (na : NoAttr X.K C f) (hb : attributeBase o f X.env (eval o X.env) = eval o X.env := by rfl) : DE X W Δ m1 (.Attribute o f pos) (eqd W.Z d) :=
  pe_to (pe_fld h hb) fun σ H Q ⟨n, l, k, z⟩ => ⟨n, l, k, fun v H1 k1 q1 o1 => by
    obtain ⟨x, dx, fs, u, rfl, h1, h2, h3⟩ := hF _ _ _ o1
    exact ⟨x, C, dx, _, u, rfl, h1, c, na, h2, z u H1 k1 q1 (ok_eqd h3)⟩⟩
end
/-! ### patterns -/
def patOf (x : Str) : List Bool := x.cps.toList.map (· == 111)
structure PatOk (x : Str) : Prop where
  l1 : 1 ≤ x.length
  l8 : x.length ≤ 8
  ch : ∀ c ∈ x.cps.toList, c = 111 ∨ c = 45
  has : 111 ∈ x.cps.toList
def allL : Nat → List (List Nat)
  | 0 => [[]]
  | n + 1 => (allL n).flatMap fun l => [111 :: l, 45 :: l]
theorem allL_mem : ∀ l : List Nat, (∀ c ∈ l, c = 111 ∨ c = 45) → l ∈ allL l.length
  | [], _ => List.mem_singleton.mpr rfl
  | c :: l, h => by
    have ih := allL_mem l fun d m => h d (List.mem_cons_of_mem _ m)
    refine List.mem_flatMap.mpr ⟨l, ih, ?_⟩
    rcases h c List.mem_cons_self with rfl | rfl
    · exact List.mem_cons_self
    · exact List.mem_cons_of_mem _ List.mem_cons_self
theorem count_all : ((List.range 9).all fun n => (allL n).all fun l => decide (Txt.count ⟨l.toArray⟩ "o" = ((l.countP (· == 111) : Nat) : Int))) = true := by decide +kernel
theorem count_o {l : List Nat} (h8 : l.length ≤ 8) (h : ∀ c ∈ l, c = 111 ∨ c = 45) : Txt.count ⟨l.toArray⟩ "o" = ((l.countP (· == 111) : Nat) : Int) :=
  of_decide_eq_true (List.all_eq_true.mp (List.all_eq_true.mp count_all l.length (List.mem_range.mpr (by omega))) l (allL_mem l h))
theorem patOf_len (x : Str) : (patOf x).length = x.length := by
  unfold patOf
  rw [List.length_map]
  exact Array.length_toList
theorem cnt_pat (x : Str) (k : Nat) : Cal.cnt (patOf x) k = (((x.cps.toList.take k).countP (· == 111) : Nat) : Int) := by
  unfold Cal.cnt patOf
  rw [← List.map_take, List.countP_map]
  congr 2
  funext c
  simp
theorem count_cut {x : Str} (h : PatOk x) {k : Int} (h0 : 0 ≤ k) : Txt.count (cutS x none (some k)) "o" = Cal.cnt (patOf x) k.toNat := by
  have e : (cutS x none (some k)) = ⟨(x.cps.toList.take (min k.toNat x.length)).toArray⟩ := by
    show (⟨(List.take (HT.sIx x.length x.length (some k) - 0) (List.drop 0 x.cps.toList)).toArray⟩ : Str) = _
    have : HT.sIx x.length x.length (some k) = min k.toNat x.length := by
      show (if k < 0 then (k + ((x.length : Nat) : Int)).toNat else min k.toNat x.length) = _
      rw [if_neg (by omega)]
    rw [this, Nat.sub_zero, List.drop_zero]
  have hl : x.cps.toList.length = x.length := Array.length_toList
  have l8 := h.l8
  rw [e, count_o (by rw [List.length_take]; omega) (fun c m => h.ch c (List.mem_of_mem_take m)), cnt_pat]
  congr 2
  rcases Nat.le_total k.toNat x.length with c | c
  · rw [Nat.min_eq_left c]
  · rw [Nat.min_eq_right c, List.take_of_length_le (by omega), List.take_of_length_le (by omega)]
theorem pat_pos {x : Str} (h : PatOk x) : 0 < (patOf x).length := by
  rw [patOf_len]
  exact h.l1
theorem pat_ln (x : Str) : Cal.ln (patOf x) = x.length := by
  unfold Cal.ln
  rw [patOf_len]
theorem pat_tot {x : Str} (h : PatOk x) : 0 < Cal.tot (patOf x) := by
  unfold Cal.tot
  rw [cnt_pat, patOf_len, ← show x.cps.toList.length = x.length from Array.length_toList, List.take_length]
  have : 0 < x.cps.toList.countP (· == 111) := List.countP_pos_iff.mpr ⟨111, h.has, rfl⟩
  omega
end Dv
set_option maxRecDepth 100000
set_option maxHeartbeats 4000000
/-! Dv19: expressions as statements; a relation on ints handed on. -/
namespace Dv
open PySem PySem.Spec PyProof.Rows L2
section
variable {X : Cx} {W : Wd} {Δ : List Sl} {m : Nat} {e : Expr} {A : As W.Z} {pos : Pos} {D : Ends} {sts : List Stmt} {N : Nat}
theorem hs_expr (he : DE X W Δ m e A) (hb : N + m ≤ BIG) (hr : HS X (Ok W (N + m) Δ) sts D) (hs : swapsWith e none pos.line X.env = pure false := by rfl) : HS X (Ok W N Δ) (.Expr e pos :: sts) D :=
  hs_cons (ps_to (ps_expr he hs) fun D' σ H z => ⟨N, hb, z.1, fun v H1 k1 q1 o1 => z.2.1 _ _ k1⟩) hr
end
end Dv
set_option maxRecDepth 100000
set_option maxHeartbeats 4000000
/-! Dv20: enumerate(text); comprehensions over pairs. -/
namespace Dv
open PySem PySem.Spec PyProof.Rows L2
/-! ### enumerate(text) -/
/-- number and sign, in a new pair each -/
def ItEs (z : Str) : It := ⟨fun i _ => i < z.cps.size, fun i H v H' => ∃ q c, v = .ref q ∧ H q = none ∧ H' = upd H q (.tup [.int (i : Nat), .str ⟨#[c]⟩]) ∧ z.cps[i]? = some c, fun i _ => z.cps.size ≤ i⟩
theorem drawsS {P : Program} {w : World} {A : Around} (hh : A.handled = none) (r : Addr) (z : Str) (t : Tok) (ty : String) (hty : ty = "str_ascii_iterator" ∨ ty = "str_iterator") :
    Draws P w A r [r] z.cps.size (fun i v => ∃ c u, z.cps[i]? = some c ∧ v = .str ⟨#[c]⟩ u) (fun i h => h.IsStrIter r ty z t i) := by
  rcases hty with rfl | rfl
  · exact Draws.strAscii hh r z t
  · exact Draws.strWide hh r z t
theorem turnEs {P : Program} {w : World} {K : PySem.W.Frag} {tgs : List Expr} {kt : Nat} {tp : Pos} (r en : Addr) (z : Str) (t : Tok) (ty : String) (hty : ty = "str_ascii_iterator" ∨ ty = "str_iterator") :
    Turn P w K (.Tuple tgs kt tp) (ItEs z) [en, r] en (fun i h => (∃ last, IsEnum h en r ((i : Nat) : Int) last) ∧ h.IsStrIter r ty z t i ∧ en ≠ r ∧ i ≤ z.cps.size) where
  mem := List.mem_cons_self
  obj := fun i h q b hb => by
    obtain ⟨⟨last, q1⟩, ⟨oo, q2, _, q3⟩, _⟩ := q
    rcases List.mem_cons.mp hb with c | c
    · rw [c]
      exact ⟨_, q1, fun v e => nomatch e⟩
    · refine ⟨oo, (List.mem_singleton.mp c) ▸ q2, fun v e => ?_⟩
      rw [q3] at e
      cases e
  keep := fun i h h' q k => by
    obtain ⟨⟨last, q1⟩, ⟨oo, q2, q3⟩, q4⟩ := q
    exact ⟨⟨last, k en List.mem_cons_self _ q1⟩, ⟨oo, k r (List.mem_cons_of_mem _ List.mem_cons_self) oo q2, q3⟩, q4⟩
  item := by
    intro X eP ew eK calm i pins s σ H E I fr q go
    subst eP ew eK
    obtain ⟨⟨last, q1⟩, q2, q4, _⟩ := q
    have D := drawsS (P := X.prog) (w := X.w) (A := X.A.in1) (I.ok.hd calm) r z t ty hty
    have len : en < s.heap.objs.size := Heap.lt_size q1
    have lr : r < s.heap.objs.size := by
      obtain ⟨_, y, _⟩ := q2
      exact Heap.lt_size y
    refine wpAny_pyNext_enum_itemD D q1 q2 go q4 (fun m => q4 (List.mem_singleton.mp m)) fun v h' tk hv out q2' hT hz kp => ?_
    obtain ⟨c, u, hc, rfl⟩ := hv
    refine ⟨_, rfl, wpAny_letOwnedTupleGo_enum (s := { s with heap := h', toks := tk + 1 }) out fun h2 back sb => ?_⟩
    have hT2 : h2.get? s.heap.objs.size = some { cls := .type "tuple", data := .seq #[.int i tk, .str ⟨#[c]⟩ u] } := (sb.2 _ (Nat.ne_of_gt len)).trans hT
    have ob : ObjOk X.prog X.w (upd H s.heap.objs.size (.tup [.int (i : Nat), .str ⟨#[c]⟩])) h2 s.heap.objs.size (.tup [.int (i : Nat), .str ⟨#[c]⟩]) :=
      ⟨show 2 ≤ sizeLine by decide, [.int i tk, .str ⟨#[c]⟩ u], .cons ⟨_, rfl⟩ (.cons ⟨_, rfl⟩ .nil), ⟨_, hT2, rfl, _, rfl⟩⟩
    have away : ∀ b : Addr, b ∉ [en, r] → b ≠ en ∧ b ≠ r := fun b hb => ⟨fun e => hb (by rw [e]; exact List.mem_cons_self), fun e => hb (by rw [e]; exact List.mem_cons_of_mem _ List.mem_cons_self)⟩
    have I2 : Inv X pins σ (upd H s.heap.objs.size (.tup [.int (i : Nat), .str ⟨#[c]⟩])) { s with heap := h2, toks := tk + 1 } :=
      I.turnedNew (ch := [en, r]) (fun b oo hb y => (sb.2 b (away b hb).1).trans (kp b oo (away b hb).1 (away b hb).2 y)) fr (Nat.le_refl _) ob
    have st2 : h2.IsStrIter r ty z t (i + 1) := D.frame _ _ _ q2' fun b hb oo y => (sb.2 b fun e => q4 (e.symm.trans (List.mem_singleton.mp hb))).trans y
    have en2 : IsEnum h2 en r (((i + 1 : Nat)) : Int) (.str ⟨#[c]⟩ u) := by
      have cast : ((i + 1 : Nat) : Int) = (i : Int) + 1 := by omega
      rw [cast]
      exact back
    refine ⟨.ref s.heap.objs.size, _, I2, rfl, ⟨_, c, rfl, I.hok.fresh (Nat.le_refl _), rfl, hc⟩, ⟨⟨_, en2⟩, st2, q4, go⟩, fun b hb => ?_⟩
    have lb : b < s.heap.objs.size := by
      rcases List.mem_cons.mp hb with e | e
      · rw [e]
        exact len
      · rw [List.mem_singleton.mp e]
        exact lr
    rw [upd_ne (Nat.ne_of_lt lb)]
    exact (fr b hb).1
  done := by
    intro X eP ew eK calm i pins s σ H E I fr q go
    subst eP ew eK
    obtain ⟨⟨last, q1⟩, q2, q4, q5⟩ := q
    have D := drawsS (P := X.prog) (w := X.w) (A := X.A.in1) (I.ok.hd calm) r z t ty hty
    obtain ⟨f0, f1, f2, f3, f4, f5⟩ := fr r (List.mem_cons_of_mem _ List.mem_cons_self)
    have ei : i = z.cps.size := Nat.le_antisymm q5 go
    subst ei
    exact wpAny_pyNext_enum_endD D q1 q2 fun h' eb => ⟨rfl, I.turned (t' := s.toks) (fun b oo hb y => eb b oo hb y) f0 f1 f3 f4 f5⟩
  self := fun A i s Q E q h => by
    obtain ⟨⟨_, q1⟩, _⟩ := q
    exact wpAny_pyIter_enum q1 h
theorem walk_es {z : Str} : Walk (ItEs z) z.cps.size (fun _ => True) (fun i H v H' => ∃ q c, v = .ref q ∧ H q = none ∧ H' = upd H q (.tup [.int (i : Nat), .str ⟨#[c]⟩]) ∧ z.cps[i]? = some c) :=
  ⟨fun _ _ hi _ => hi, fun _ _ => Nat.le_refl _, fun _ _ _ _ _ _ y => y⟩
def enumS (z : Str) : List PyData := (List.range z.cps.size).map fun (i : Nat) => .tuple [.int ((i : Nat) : Int), .str ⟨#[z.cps.getD i 0]⟩]
section
variable {X : Cx} {W : Wd} {Δ : List Sl} {m : Nat} {e : Expr} {tgs : List Expr} {kt : Nat} {tp p pos : Pos}
def tEs (ta : TA) : TI := fun σ H R => ta σ H fun vs H1 => ∃ z, vs = [.str z] ∧ R (ItEs z) H1
theorem strTy (z : Str) : strIterType z = "str_ascii_iterator" ∨ strIterType z = "str_iterator" := by
  unfold strIterType
  split
  · exact .inl rfl
  · exact .inr rfl
theorem pi_es {ta : TA} (hg : Gl X "enumerate") (hm : X.mg "enumerate" = none) (he : PA X [e] ta) (hs : starEach [e] X.env = [(false, eval e X.env)] := by rfl) :
    PI X (.Tuple tgs kt tp) (.Call (.Name "enumerate" p) [e] [] pos) (tEs ta) := by
  refine ⟨fun pins s σ H R I z0 => ?_⟩
  refine Call_ (ld_blt I hg hm boot_enumerate (PyProof.Rows.callWith_type1 (thn (he.run pos pins s σ H _ I z0) fun us s1 z1 => ?_) hs rfl))
  obtain ⟨vs, H1, I1, r1, z, rfl, q⟩ := z1
  cases r1 with
  | cons r2 r3 =>
    cases r3
    obtain ⟨t, rfl⟩ := r2
    refine call_enumerate_str fun h' en st hz kp => wpAny_pyIter_enum en ?_
    have I2 : Inv X pins σ H1 { s1 with heap := h' } := I1.kept (t' := s1.toks) kp
    refine ⟨s1.heap.objs.size + 1, [s1.heap.objs.size + 1, s1.heap.objs.size], _, _, H1, rfl, I2, turnEs s1.heap.objs.size (s1.heap.objs.size + 1) z t (strIterType z) (strTy z), ⟨⟨.none, en⟩, st, Nat.succ_ne_self _, Nat.zero_le _⟩, fun b hb => ?_, q⟩
    have young : s1.heap.objs.size ≤ b := by
      rcases List.mem_cons.mp hb with c | c
      · rw [c]
        exact Nat.le_succ _
      · rw [List.mem_singleton.mp c]
        exact Nat.le_refl _
    exact I1.fpOk young (I1.hok.fresh young)
theorem enumS_len (z : Str) : (enumS z).length = z.cps.size := by
  unfold enumS
  rw [List.length_map, List.length_range]
theorem di_enumS {z : Str} (hg : Gl X "enumerate") (hm : X.mg "enumerate" = none) (h : DE X W Δ m e (eqd W.Z (.str z))) (hs : starEach [e] X.env = [(false, eval e X.env)] := by rfl) (hs' : starEach (e :: []) X.env = (false, eval e X.env) :: starEach [] X.env := by rfl) :
    DI X W Δ m (.Tuple tgs kt tp) (.Call (.Name "enumerate" p) [e] [] pos) (· = enumS z) :=
  pi_to (pi_es hg hm (da_cons h da_nil hs') hs) fun σ H R ⟨n, l, k, f⟩ => ⟨n, l, k, fun vs H1 k1 q1 o1 => by
    obtain ⟨v, rfl, o2⟩ := allo_1 o1
    have o := eqd_ok o2
    cases o
    have wk : Walk (ItEs z) (enumS z).length (fun _ => True) (fun i H v H' => ∃ q c, v = .ref q ∧ H q = none ∧ H' = upd H q (.tup [.int (i : Nat), .str ⟨#[c]⟩]) ∧ z.cps[i]? = some c) := by
      rw [enumS_len]
      exact walk_es
    refine ⟨z, rfl, f _ H1 _ k1 q1 rfl ⟨⟨_, _, wk, fun _ _ _ _ => trivial, fun Z' i H x H' z' k' alive hi y => ?_⟩⟩⟩
    obtain ⟨q, c, rfl, hq, rfl, hc⟩ := y
    refine ⟨Ext.new hq, .tuple [.int (i : Nat), .str ⟨#[c]⟩], ?_, .tup upd_same (fun zq => alive q zq hq) (.cons (.int _) (.cons (.str _) .nil))⟩
    unfold enumS
    rw [List.getElem?_map, List.getElem?_range (by rw [enumS_len] at hi; exact hi)]
    show some (PyData.tuple [.int ((i : Nat) : Int), .str ⟨#[z.cps.getD i 0]⟩]) = _
    have e2 : z.cps.getD i 0 = c := by
      rw [Array.getD_eq_getD_getElem?, hc]
      rfl
    rw [e2]⟩
end
/-! ### comprehensions over pairs -/
def lcT2 (W : Wd) (Γ : List Sl) (i j c1 : Nat) (Ps : List PyData → Prop) (Pt : PyData → Bool → Prop) : TT := fun σ H Q => ∃ D φ xs a b, ¬ W.Z D ∧ Ps xs ∧ .tuple [a, b] ∈ xs ∧ tDT (W.add D φ) ((Γ.set i (.val a)).set j (.val b)) c1 (Pt (.tuple [a, b])) σ H Q
def lcE2 (W : Wd) (Γ : List Sl) (i j c2 : Nat) (Ps : List PyData → Prop) (Pt : PyData → Bool → Prop) (Pe : PyData → PyData → Prop) : TE := fun σ H Q => ∃ D φ xs a b, ¬ W.Z D ∧ Ps xs ∧ .tuple [a, b] ∈ xs ∧ Pt (.tuple [a, b]) true ∧ tD (W.add D φ) ((Γ.set i (.val a)).set j (.val b)) c2 (dat _ (Pe (.tuple [a, b]))) σ H Q
section
variable {X : Cx} {W : Wd} {Δ : List Sl} {m : Nat} {pos : Pos}
theorem de_lc2 {x y : Str} {px py pt : Pos} {kt : Nat} {elt iter : Expr} {ifs : List Expr} {scope : Scope} {own : List (Str × Nat)} {i j c1 c2 M : Nat} {Ps : List PyData → Prop} {Pt : PyData → Bool → Prop} {Pe : PyData → PyData → Prop} {R : PyData → Prop}
    (hc : X.calm = true) (hN : X.N.Nodup) (hi : DI X W Δ m (.Tuple [.Name x px, .Name y py] kt pt) iter Ps) (ok : BlkOk X.N X.env.scope scope own) (hiv : i ∈ own.map (·.2)) (hjv : j ∈ own.map (·.2)) (hM : ∀ xs, Ps xs → xs.length ≤ M) (hM2 : M ≤ 1000000)
    (hpr : ∀ xs, Ps xs → ∀ d ∈ xs, ∃ a b, d = .tuple [a, b])
    (hx : ∀ (s : Shared) (H : Hp) (C : Addr) (cl : List (Str × Addr)) (fp : List Addr), PG (X.blk s H scope (compEnvC scope cl C X.env) fp) (.Tuple [.Name x px, .Name y py] kt pt) (gTup X.K 2 (gCons (gName i) (gCons (gName j) gNil))))
    (ht : ∀ (s : Shared) (H : Hp) (C : Addr) (cl : List (Str × Addr)) (fp : List Addr) (D : Addr) (φ : Nat → HO → Prop) (xs : List PyData) (a b : PyData), ¬ W.Z D → Ps xs → .tuple [a, b] ∈ xs → PTs (X.blk s H scope (compEnvC scope cl C X.env) fp) ifs (tDT (W.add D φ) (((wipeS Δ (own.map (·.2))).set i (.val a)).set j (.val b)) c1 (Pt (.tuple [a, b]))))
    (he : ∀ (s : Shared) (H : Hp) (C : Addr) (cl : List (Str × Addr)) (fp : List Addr) (D : Addr) (φ : Nat → HO → Prop) (xs : List PyData) (a b : PyData), ¬ W.Z D → Ps xs → .tuple [a, b] ∈ xs → Pt (.tuple [a, b]) true → DE (X.blk s H scope (compEnvC scope cl C X.env) fp) (W.add D φ) (((wipeS Δ (own.map (·.2))).set i (.val a)).set j (.val b)) c2 elt (dat _ (Pe (.tuple [a, b]))))
    (hR : ∀ xs ys, Ps xs → Picks Pt Pe xs ys → R (.list ys))
    (hs : ∀ x, foldedSetIterable iter X.env x = pure x := by intro _; rfl) :
    DE X W Δ (m + M * (c1 + c2)) (.ListComp elt [⟨.Tuple [.Name x px, .Name y py] kt pt, iter, ifs, 0⟩] scope pos) (dat W.Z R) := by
  have qt : ∀ (s : Shared) (H : Hp) (C : Addr) (cl : List (Str × Addr)) (fp : List Addr), PTs (X.blk s H scope (compEnvC scope cl C X.env) fp) ifs (lcT2 W (wipeS Δ (own.map (·.2))) i j c1 Ps Pt) :=
    fun s H C cl fp => ⟨fun pins s' σ' H' Q I ⟨D, φ, xs, a, b, n1, n2, n3, z⟩ => (ht s H C cl fp D φ xs a b n1 n2 n3).run pins s' σ' H' Q I z⟩
  have qe : ∀ (s : Shared) (H : Hp) (C : Addr) (cl : List (Str × Addr)) (fp : List Addr), PE (X.blk s H scope (compEnvC scope cl C X.env) fp) elt (lcE2 W (wipeS Δ (own.map (·.2))) i j c2 Ps Pt Pe) :=
    fun s H C cl fp => ⟨fun pins s' σ' H' Q I ⟨D, φ, xs, a, b, n1, n2, n3, n4, z⟩ => (he s H C cl fp D φ xs a b n1 n2 n3 n4).run pins s' σ' H' Q I z⟩
  refine pe_to (pe_lc hc hN hi ok hx qt qe hs) fun σ H Q ⟨n, l, k, z⟩ => ⟨n, by omega, k, fun J H1 xs k1 q1 px sr D hD => ?_⟩
  obtain ⟨G, Y, wk, hG, hY⟩ := sr.ex
  have nD : ¬ W.Z D := k1.w.new k1.j hD
  have hlen := hM xs px
  have lz := sizeLine_eq
  let Pv : Nat → Hp → Prop := fun i' H' => W.J (n + m + i' * (c1 + c2)) H' ∧ Kp W.Z H1 H' ∧ ∃ acc ys, H' D = some (.lst acc) ∧ Das (W.add D fun _ _ => True).Z H' acc ys ∧ Picks Pt Pe (xs.take i') ys
  have inner : ∀ i' H', Pv i' H' → ∀ acc, H' D = some (.lst acc) → Ok (W.add D fun _ o => o = .lst acc) (n + m + i' * (c1 + c2)) Δ σ H' := fun i' H' ⟨j', e', _⟩ acc ha => k1.pin hD e' j' (by omega) ha ⟨0, Nat.zero_le _, rfl⟩
  refine lc_it (g := gTup X.K 2 (gCons (gName i) (gCons (gName j) gNil))) (tt := lcT2 W (wipeS Δ (own.map (·.2))) i j c1 Ps Pt) (te := lcE2 W (wipeS Δ (own.map (·.2))) i j c2 Ps Pt Pe) (vs := own.map (·.2)) (σ := σ) (H1 := H1) (D := D) (Qd := fun H => Q (.ref D) H) wk Pv ?_ ?_ ?_ ?_
  · refine ⟨by simpa using k1.w.ext k1.j (.new hD), (Ext.new hD).kp, [], [], upd_same, .nil, ?_⟩
    rw [List.take_zero]
    exact .nil
  · intro i' H' _ ⟨_, e', _⟩
    exact hG (W.add D fun _ _ => True).Z H' (fun a y => sub_z hD a y) (e'.wide fun a y => z_add a y)
  · intro i' x0 H2 H3 hi' p y0
    obtain ⟨j2, e2, acc, ys, ha, hd, hp⟩ := p
    have ko := inner i' H2 ⟨j2, e2, acc, ys, ha, hd, hp⟩ acc ha
    obtain ⟨e3, d, hxd, hda⟩ := hY (W.add D fun _ o => o = .lst acc).Z i' H2 x0 H3 (fun a y => sub_z hD a y) (e2.wide fun a y => z_add a y) (fun a y => ko.w.alive _ H2 a ko.j y) hi' y0
    have dm : d ∈ xs := List.mem_of_getElem? hxd
    obtain ⟨da, db, rfl⟩ := hpr xs px d dm
    have k3 := ko.ext e3
    have hbig : (i' + 1) * (c1 + c2) ≤ M * (c1 + c2) := Nat.mul_le_mul_right _ (by omega)
    have hs1 : (i' + 1) * (c1 + c2) = i' * (c1 + c2) + (c1 + c2) := Nat.succ_mul _ _
    cases hda with
    | tup rT nT dT =>
      cases dT with
      | cons d1 d2 =>
        cases d2 with
        | cons d2 d3 =>
          cases d3
          refine ⟨_, _, rfl, .inl (.inl rT), rfl, _, _, rfl, _, _, rfl, rfl, ?_, D, (fun _ o => o = .lst acc), xs, da, db, nD, px, dm, n + m + i' * (c1 + c2), by omega, ?_, ?_⟩
          · rw [wipe_set _ _ hjv, wipe_set _ _ hiv]
            exact wipe_wipe _ _ fun v hv => hv
          · exact ⟨k3.wb, k3.j, pset (show SlOk _ _ (.val db) (some _) from ⟨_, rfl, d2⟩) j (pset (show SlOk _ _ (.val da) (some _) from ⟨_, rfl, d1⟩) i (wipe_ok _ k3.sl)), k3.kept, k3.nd, k3.fr⟩
          · intro b H4 k4 q4 pb
            have back : ∀ {H' : Hp}, Kp (W.add D fun _ o => o = .lst acc).Z H3 H' → Kp W.Z H1 H' := fun q a o na h1 => by
              have ne : a ≠ D := fun c => by
                rw [c, hD] at h1
                cases h1
              exact q a o (fun c => (add_z.mp c).elim ne na) (e3 a o (e2 a o na h1))
            obtain ⟨⟨o4, h4, _, _, eq4⟩, j4⟩ := add_j.mp k4.j
            subst eq4
            have d4 : Das (W.add D fun _ _ => True).Z H4 acc ys := (hd.mono (e3.kp.trans (q4.wide zz)) fun a y => .inl y)
            cases b with
            | false =>
              refine ⟨k4.w.up _ _ H4 k4.j (by omega) |> fun j => (add_j.mp j).2, back q4, acc, ys, h4, d4, ?_⟩
              rw [filter_take_succ hxd]
              exact .skip hp pb
            | true =>
              refine ⟨D, (fun _ o => o = .lst acc), xs, da, db, nD, px, dm, pb, n + m + i' * (c1 + c2) + c1, by omega, k4, fun y1 H5 k5 q5 o5 => ?_⟩
              obtain ⟨z0, hz0, pe0⟩ := o5
              obtain ⟨⟨o5, h5, _, _, eq5⟩, j5⟩ := add_j.mp k5.j
              subst eq5
              have la : acc.length = ys.length := d4.length
              have ly := hp.len
              rw [List.length_take] at ly
              have kD : Kp (W.add D fun _ _ => True).Z H5 (upd H5 D (.lst (acc ++ [y1]))) := fun a o na h => by
                rw [upd_ne (fun c => na (add_z.mpr (.inl c)))]
                exact h
              refine ⟨acc, h5, by omega, ?_, ?_, _, ys ++ [z0], upd_same, ?_, ?_⟩
              · refine k5.w.up _ (n + m + (i' + 1) * (c1 + c2)) H5 k5.j (by omega) |> fun j => ?_
                exact k1.w.loc _ H5 _ (add_j.mp j).2 fun a y => upd_ne (fun c => nD (c ▸ y))
              · intro a o na h1
                have ne : a ≠ D := fun c => by
                  rw [c, hD] at h1
                  cases h1
                rw [upd_ne ne]
                exact back (q4.trans q5) a o na h1
              · exact ((d4.mono (q5.wide zz) fun a y => .inl y).append (.cons (hz0.mono Kp.refl fun a y => .inl (zz a y)) .nil)).mono kD fun a y => .inl y
              · rw [filter_take_succ hxd]
                exact .take hp pb pe0
  · intro H' ⟨j', e', acc, ys, ha, hd, hp⟩
    rw [List.take_length] at hp
    have hbig : xs.length * (c1 + c2) ≤ M * (c1 + c2) := Nat.mul_le_mul_right _ hlen
    have kf : Ok W (n + (m + M * (c1 + c2))) Δ σ H' := (k1.kp e' j').up (by omega)
    have kr : Ok (W.add D fun _ o => o = .lst acc) _ Δ σ H' := inner _ H' ⟨j', e', acc, ys, ha, hd, by rw [List.take_length]; exact hp⟩ acc ha
    exact z (.ref D) H' kf (q1.trans e') ⟨.list ys, .lst ha nD (hd.mono Kp.refl fun a y => .inl (z_add a y)), hR xs ys px hp⟩
end
end Dv
set_option maxRecDepth 100000
set_option maxHeartbeats 4000000
/-! Dv21: sorted of triples of ints, any number of them. -/
namespace Dv
open PySem PySem.Spec PyProof.Rows L2
abbrev I3 := Int × Int × Int
def lex3 (p q : I3) : Bool := if p.1 = q.1 then SrtO.lexB p.2 q.2 else decide (p.1 < q.1)
theorem lex3_no {p q : I3} : lex3 p q = false ↔ ¬ (p.1 < q.1 ∨ (p.1 = q.1 ∧ (p.2.1 < q.2.1 ∨ (p.2.1 = q.2.1 ∧ p.2.2 < q.2.2)))) := by
  unfold lex3
  by_cases e : p.1 = q.1
  · rw [if_pos e, SrtO.lexB_no]
    omega
  · rw [if_neg e, decide_eq_false_iff_not]
    omega
theorem lex3_yes {p q : I3} : lex3 p q = true ↔ p.1 < q.1 ∨ (p.1 = q.1 ∧ (p.2.1 < q.2.1 ∨ (p.2.1 = q.2.1 ∧ p.2.2 < q.2.2))) := by
  unfold lex3
  by_cases e : p.1 = q.1
  · rw [if_pos e, SrtO.lexB_iff]
    omega
  · rw [if_neg e, decide_eq_true_iff]
    omega
theorem swo3 {α : Type} (k : α → I3) : SrtO.Swo fun v u => lex3 (k v) (k u) := by
  refine ⟨fun v u h => ?_, fun v u r h1 h2 => ?_⟩
  · have := lex3_yes.mp h
    refine lex3_no.mpr ?_
    omega
  · have := lex3_no.mp h1
    have := lex3_no.mp h2
    refine lex3_no.mpr ?_
    omega
/-- three ints stand at v -/
def IsTr (h : Heap) (v : Value) (p : I3) : Prop := ∃ q oo t1 t2 t3 n, v = Value.ref q ∧ h.get? q = some oo ∧ oo.cls = .type "tuple" ∧ oo.data = .seq #[.int p.1 t1, .int p.2.1 t2, .int p.2.2 t3] n
theorem IsTr.keeps {h h' : Heap} {v : Value} {p : I3} (z : IsTr h v p) (k : ∀ b oo, h.get? b = some oo → oo.cls = .type "tuple" → h'.get? b = some oo) : IsTr h' v p := by
  obtain ⟨q, oo, t1, t2, t3, n, e, h1, h2, h3⟩ := z
  exact ⟨q, oo, t1, t2, t3, n, e, k q oo h1 h2, h2, h3⟩
section
variable {P : Program} {w : World} {A : Around} {E : Value → Shared → Prop} {s : Shared}
theorem tr_cmp {vs : List Value} {k : Value → I3} (hv : ∀ v ∈ vs, IsTr s.heap v (k v)) : SrtO.Cmp P w A s (tuples' true) (fun p => p.1 ∈ vs) (SrtO.lt2 fun v u => lex3 (k v) (k u)) := by
  intro p q mp mq
  have hp := hv _ mp
  have hq := hv _ mq
  show wpAny (model P w) A (keyLt' (tuples' true) p.1 q.1) (fun r s' => s' = s ∧ r = lex3 (k p.1) (k q.1)) (fun _ _ => False) s
  generalize k p.1 = a at hp ⊢
  generalize k q.1 = b at hq ⊢
  obtain ⟨x, y, z⟩ := a
  obtain ⟨x', y', z'⟩ := b
  obtain ⟨ap, op, t1, t2, t3, n, ep, gp, _, dp⟩ := hp
  obtain ⟨aq, oq, r1, r2, r3, m, eq, gq, _, dq⟩ := hq
  rw [ep, eq]
  refine PySem.W.kat_lt gp dp gq dq ?_
  show PySem.W.KatLex P w A true (decide (3 < 3)) _ [(.int x t1, .int x' r1), (.int y t2, .int y' r2), (.int z t3, .int z' r3)] 0 s
  refine PySem.W.kat_cons (SeqAt.EqAt.int_int x t1 x' r1 P w _ _ (PySem.W.kat_go (fun c1 => ?_) (fun c1 => ?_)))
  · have c1 : x = x' := by simpa using c1
    have e1 : lex3 (x, y, z) (x', y', z') = SrtO.lexB (y, z) (y', z') := if_pos c1
    refine PySem.W.kat_yes (PySem.W.kat_cons (SeqAt.EqAt.int_int y t2 y' r2 P w _ _ (PySem.W.kat_go (fun c2 => ?_) (fun c2 => ?_))))
    · have c2 : y = y' := by simpa using c2
      have e2 : SrtO.lexB (y, z) (y', z') = decide (z < z') := if_pos c2
      refine PySem.W.kat_yes (PySem.W.kat_cons (SeqAt.EqAt.int_int z t3 z' r3 P w _ _ (PySem.W.kat_go (fun c3 => ?_) (fun c3 => ?_))))
      · have c3 : z = z' := by simpa using c3
        refine PySem.W.kat_yes (PySem.W.kat_nil ⟨rfl, ?_⟩)
        rw [e1, e2, c3]
        exact (decide_eq_false (Int.lt_irrefl _)).symm
      · refine PySem.W.kat_no (PySem.W.kat_one _ _ (PyProof.Rows.lt_int ?_))
        exact (show s = s ∧ decide (z < z') = lex3 (x, y, z) (x', y', z') from ⟨rfl, by rw [e1, e2]⟩)
    · have c2 : ¬ y = y' := by simpa using c2
      have e2 : SrtO.lexB (y, z) (y', z') = decide (y < y') := if_neg c2
      refine PySem.W.kat_no (PySem.W.kat_one _ _ (PyProof.Rows.lt_int ?_))
      exact (show s = s ∧ decide (y < y') = lex3 (x, y, z) (x', y', z') from ⟨rfl, by rw [e1, e2]⟩)
  · have c1 : ¬ x = x' := by simpa using c1
    have e1 : lex3 (x, y, z) (x', y', z') = decide (x < x') := if_neg c1
    exact PySem.W.kat_no (oneLt_int ⟨rfl, e1.symm⟩)
theorem tr_firsts {h : Heap} : ∀ {vs : List Value}, (∀ v ∈ vs, ∃ p, IsTr h v p) → ∃ fs : List Value, PySem.W.KatTups h vs fs ∧ fs.length = vs.length ∧ ∀ f ∈ fs, ∃ i t, f = Value.int i t
  | [], _ => ⟨[], .nil, rfl, fun _ m => nomatch m⟩
  | v :: vs, hv => by
    obtain ⟨fs, f1, f2, f3⟩ := tr_firsts (vs := vs) fun u m => hv u (List.mem_cons_of_mem _ m)
    obtain ⟨p, q, oo, t1, t2, t3, n, rfl, g1, g2, g3⟩ := hv v List.mem_cons_self
    refine ⟨.int p.1 t1 :: fs, .cons g1 g2 g3 rfl f1, congrArg (· + 1) f2, fun f m => ?_⟩
    rcases List.mem_cons.mp m with e | m
    · exact ⟨_, _, e⟩
    · exact f3 f m
theorem tr_sortable {a : Addr} {vs : List Value} {k : Value → I3} (h0 : 0 < vs.length) (hv : ∀ v ∈ vs, IsTr s.heap v (k v)) (ha : ∀ oo, s.heap.get? a = some oo → oo.cls ≠ .type "tuple") : SrtO.SortableO P w A s a vs fun v u => lex3 (k v) (k u) := by
  intro h' kp
  have hv' : ∀ v ∈ vs, IsTr h' v (k v) := fun v m => (hv v m).keeps fun b oo e c => kp b oo (fun z => ha oo (z ▸ e) c) e
  obtain ⟨fs, f1, f2, f3⟩ := tr_firsts (h := h') (vs := vs) fun v m => ⟨_, hv' v m⟩
  refine ⟨tuples' true, fun Q E hq => ?_, tr_cmp (s := { s with heap := h' }) hv'⟩
  refine PySem.W.kat_kind (T := .type "int") f1 (by omega) (fun f m => ?_) rfl ?_
  · obtain ⟨i, t, rfl⟩ := f3 f m
    exact PySem.W.Looks.now
  · rw [show (Value.type "int" != Value.type "tuple") = true by decide +kernel]
    exact hq
theorem sorted_tr {l : Addr} {vs : List Value} {k : Value → I3} {Q : Value → Shared → Prop} (hl : s.heap.IsList l vs.toArray) (hz : vs.length ≤ sizeLine) (hv : ∀ v ∈ vs, IsTr s.heap v (k v))
    (h : ∀ (h' : Heap) (d : Addr) (out : List Value), SrtO.Srtd (fun v u => lex3 (k v) (k u)) out → SrtO.Stb (fun v u => lex3 (k v) (k u)) out vs → (∀ b oo, s.heap.get? b = some oo → h'.get? b = some oo) → s.heap.objs.size ≤ d → (∃ n, h'.get? d = some (seqObj "list" out.toArray n)) → Q (.ref d) { s with heap := h' }) :
    wpAny (model P w) A (call (.builtin "sorted") [.ref l]) Q E s := by
  refine SrtO.sorted_ord (swo3 k) hl hz (fun l2 h1 a ha kp => tr_sortable (s := { s with heap := h1 }) (by omega) (fun v m => (hv v m).keeps fun b oo e _ => (kp b oo e).2) fun oo e c => ?_) fun out hs hb => h _ _ out hs hb (fun b oo e => sortedAll_old e) (Nat.le_succ _) (sortedAll_at s.heap vs out.toArray)
  have e' : some oo = some (seqObj "list" vs.toArray 0) := e.symm.trans ha
  cases e'
  exact absurd (Value.type.inj c) (by decide)
end
def rSortT3 (K : PySem.W.Frag) : List V → Hp → VK → Prop := fun vs H Q => ∃ (a : Addr) (xs : List V) (k : V → I3), vs = [V.ref a] ∧ SqL K H a xs ∧ (∀ x ∈ xs, ∃ t, x = V.ref t ∧ H t = some (.tup [.int (k x).1, .int (k x).2.1, .int (k x).2.2])) ∧
  ∀ ys p, SrtO.Srtd (fun x y => lex3 (k x) (k y)) ys → ys.Perm xs → H p = none → Q (.ref p) (upd H p (.lst ys))
theorem cr_sortT3 {X : Cx} : CallR X (.builtin "sorted") (rSortT3 X.K) := by
  intro pins s σ H vs us Q I rel h
  obtain ⟨a, xs, k, rfl, hs, hx, q⟩ := h
  obtain ⟨its, rv, hl, hz⟩ := I.list hs
  obtain ⟨u, rfl, ru⟩ := vals1 rel
  cases (show u = Value.ref a from ru)
  obtain ⟨b1, b2⟩ := refs_back rv fun x m => (hx x m).imp fun t z => z.1
  refine sorted_tr (k := fun u => k (backV u)) hl.isList (by rw [← rv.length]; exact hz) (fun v hv => ?_) fun h' d out srt stb kp hd hn => ?_
  · obtain ⟨t, rfl⟩ := b2 v hv
    have hm : V.ref t ∈ xs := by
      rw [b1]
      exact List.mem_map.mpr ⟨_, hv, rfl⟩
    obtain ⟨t', e, ht⟩ := hx _ hm
    cases e
    obtain ⟨_, its2, r2, oo, ho, hc, n, hd⟩ := I.hok _ _ ht
    cases r2 with
    | cons i1 r2 =>
      cases r2 with
      | cons i2 r2 =>
        cases r2 with
        | cons i3 r2 =>
          cases r2
          obtain ⟨t1, rfl⟩ := i1
          obtain ⟨t2, rfl⟩ := i2
          obtain ⟨t3, rfl⟩ := i3
          exact ⟨t, oo, t1, t2, t3, n, rfl, ho, hc, hd⟩
  · have all : ∀ u ∈ out, ∃ b, u = Value.ref b := fun u hu => b2 u (stb.perm.mem_iff.mp hu)
    obtain ⟨n, hn⟩ := hn
    have pm : (out.map backV).Perm xs := by
      rw [b1]
      exact stb.perm.map _
    refine ⟨.ref d, upd H d (.lst (out.map backV)), I.laid (t' := s.toks) kp hd ⟨?_, out, n, vals_back all, hn⟩, rfl, q _ d (List.pairwise_map.mpr srt) pm (I.hok.fresh hd)⟩
    rw [pm.length_eq]
    exact hz
end Dv
set_option maxRecDepth 100000
set_option maxHeartbeats 4000000
/-! Dv22: triples as data; an object made field by field; appending to a list reached by an expression. -/
namespace Dv
open PySem PySem.Spec PyProof.Rows L2
def tr3 (p : I3) : PyData := .tuple [.int p.1, .int p.2.1, .int p.2.2]
def kH3 (H : Hp) : V → I3
  | .ref t => match H t with
    | some (.tup [.int i, .int j, .int k]) => (i, j, k)
    | _ => (0, 0, 0)
  | _ => (0, 0, 0)
theorem tr3_da {Z : Addr → Prop} {H : Hp} {v : V} {s : I3} (h : Da Z H v (tr3 s)) : kH3 H v = s ∧ ∃ t, v = .ref t ∧ H t = some (.tup [.int s.1, .int s.2.1, .int s.2.2]) := by
  unfold tr3 at h
  cases h with
  | tup r nz hd =>
    cases hd with
    | cons h1 h2 =>
      cases h2 with
      | cons h2 h3 =>
        cases h3 with
        | cons h3 h4 =>
          cases h4
          cases h1
          cases h2
          cases h3
          refine ⟨?_, _, rfl, r⟩
          show (match H _ with | some (.tup [.int i, .int j, .int k]) => (i, j, k) | _ => (0, 0, 0)) = s
          rw [r]
theorem trs_da {Z : Addr → Prop} {H : Hp} : ∀ {vs : List V} {ss : List I3}, Das Z H vs (ss.map tr3) → vs.map (kH3 H) = ss ∧ ∀ x ∈ vs, Da Z H x (tr3 (kH3 H x)) ∧ ∃ t, x = .ref t ∧ H t = some (.tup [.int (kH3 H x).1, .int (kH3 H x).2.1, .int (kH3 H x).2.2])
  | [], [], _ => ⟨rfl, fun _ m => nomatch m⟩
  | [], _ :: _, h => nomatch h
  | _ :: _, [], h => nomatch h
  | v :: vs, s :: ss, .cons h1 h2 => by
    obtain ⟨e1, t, e2, e3⟩ := tr3_da h1
    obtain ⟨i1, i2⟩ := trs_da h2
    refine ⟨by rw [List.map_cons, e1, i1], fun x m => ?_⟩
    rcases List.mem_cons.mp m with rfl | m
    · rw [e1]
      exact ⟨h1, t, e2, e3⟩
    · exact i2 x m
theorem trs_back {Z : Addr → Prop} {H : Hp} {f : V → I3} : ∀ {vs : List V}, (∀ x ∈ vs, Da Z H x (tr3 (f x))) → Das Z H vs ((vs.map f).map tr3)
  | [], _ => .nil
  | v :: vs, h => .cons (h v List.mem_cons_self) (trs_back fun x m => h x (List.mem_cons_of_mem _ m))
def Sorted3 (ss : List I3) (d : PyData) : Prop := ∃ ts : List I3, d = .list (ts.map tr3) ∧ ts.Perm ss ∧ ts.Pairwise fun x y => x.1 ≤ y.1
section
variable {X : Cx} {W : Wd} {Δ : List Sl} {m : Nat} {e oe : Expr} {D : Ends} {sts : List Stmt} {N : Nat} {pos p : Pos}
/-- sorted(list of triples) -/
theorem de_sort3 {ss : List I3} (hg : Gl X "sorted") (hm : X.mg "sorted" = none) (h : DE X W Δ m e (eqd W.Z (.list (ss.map tr3))))
    (he : starEach (e :: []) X.env = (false, eval e X.env) :: starEach [] X.env := by rfl) (hpl : (backTo pos (starEach [] X.env)).any (·.1) = false := by rfl) :
    DE X W Δ (m + 0) (.Call (.Name "sorted" p) [e] [] pos) (dat W.Z (Sorted3 ss)) :=
  de_cb cr_sortT3 hg hm (by rfl) (da_cons h da_nil he) (fun n H vs w jj o Q q => by
    obtain ⟨v, rfl, o'⟩ := allo_1 o
    have o := eqd_ok o'
    cases o with
    | lst r nz hd =>
      obtain ⟨i1, i2⟩ := trs_da hd
      refine ⟨_, _, kH3 H, rfl, .inl (.inl r), fun x m => (i2 x m).2, fun ys l hs hb hl => q _ _ (Ext.new hl) ⟨.list ((ys.map (kH3 H)).map tr3), .lst upd_same (w.new jj hl) ?_, ys.map (kH3 H), rfl, ?_, ?_⟩⟩
      · exact (trs_back fun x m => (i2 x (hb.mem_iff.mp m)).1).kp (Ext.new hl).kp
      · rw [← i1]
        exact hb.map _
      · rw [List.pairwise_map]
        refine hs.imp fun q => ?_
        have := lex3_no.mp q
        omega) (he := he) (hpl := hpl)
/-! ### an object made field by field -/
variable {l : List (Addr × HO)} {x C dx : Addr} {vs : List V} {ds : List PyData} {nm : List Str} {j io : Nat} {f : Str} {fs : List (Str × V)}
theorem putF_app : ∀ {nm : List Str} {vs : List V} {f : Str} {v : V}, f ∉ nm → nm.length = vs.length → putF f v (nm.zip vs) = (nm ++ [f]).zip (vs ++ [v])
  | [], [], _, _, _, _ => rfl
  | a :: nm, b :: vs, f, v, h, hl => by
    have ne : ¬ a = f := fun c => h (by rw [c]; exact List.mem_cons_self)
    have ih := putF_app (v := v) (fun c => h (List.mem_cons_of_mem _ c)) (Nat.succ.inj hl)
    show (if a = f then (a, v) :: nm.zip vs else (a, b) :: putF f v (nm.zip vs)) = _
    rw [if_neg ne, ih]
    rfl
theorem kp_mut (k : Ok (W.pinL l) N Δ σ H) {q : Addr} {o o' : HO} (hl : l[j]? = some (q, o)) : Kp (W.pinL l).Z H (upd H q o') := fun a u nz hu => by
  have hm : q ∈ l.map (·.1) := List.mem_map.mpr ⟨_, List.mem_of_getElem? hl, rfl⟩
  have ne : a ≠ q := fun c => nz (pinL_z.mpr (.inl (by rw [c]; exact hm)))
  rw [upd_ne ne]
  exact hu
theorem z_mut {q : Addr} {o o' : HO} {H : Hp} (hl : l[j]? = some (q, o)) : ∀ a, (W.pinL (l.set j (q, o'))).Z a → (W.pinL l).Z a ∨ H a = none := fun a z => .inl (by rw [pinL_z] at z ⊢; rwa [set_as hl] at z)
/-- self.f = e, e data: self stands at x, its data fields so far are vs -/
theorem hs_fldN {Pd : PyData → Prop} {pos' : Pos} (ho : PE X oe (tVar io)) (hs : Δ[io]? = some (.own x vs ds)) (hl : l[j]? = some (x, .ins C dx (nm.zip vs))) (c : Cls X.K C) (na : NoAttr X.K C f) (hn : f ∉ nm) (hlen : nm.length = vs.length) (hz : nm.length ≤ 100) (he : DE X (W.pinL l) Δ m e (dat _ Pd)) (hb : N + m ≤ BIG)
    (hr : ∀ v d, Pd d → HS X (Ok (W.pinL (l.set j (x, .ins C dx ((nm ++ [f]).zip (vs ++ [v]))))) (N + m) (Δ.set io (.own x (vs ++ [v]) (ds ++ [d])))) sts D)
    (hsw : swapsWith e (some (.Attribute oe f pos')) pos.line X.env = pure false := by rfl) : HS X (Ok (W.pinL l) N Δ) (.Assign [.Attribute oe f pos'] e pos :: sts) D := by
  refine hs_cons (mid := fun σ H => ∃ v d, Pd d ∧ Ok (W.pinL (l.set j (x, .ins C dx ((nm ++ [f]).zip (vs ++ [v]))))) (N + m) (Δ.set io (.own x (vs ++ [v]) (ds ++ [d]))) σ H) (ps_to (ps_fld ho he hsw) fun D' σ H z => ⟨N, hb, z.1, fun v H1 k1 q1 o1 => ?_⟩) (hs_ex fun v => hs_ex fun d => hs_and (hr v d))
  obtain ⟨d, hd, pd⟩ := o1
  have hp := (pinL_j.mp k1.j).1 _ (List.mem_of_getElem? hl)
  have o2 := k1.own hs
  refine ⟨_, o2.1, x, C, dx, _, rfl, hp, c, na, by rw [List.length_zip, ← hlen]; omega, z.2.1 _ _ ⟨v, d, pd, ?_⟩⟩
  rw [putF_app hn hlen]
  have k2 := (k1.mut hl (.ins C dx ((nm ++ [f]).zip (vs ++ [v])))).put io (s := .own x (vs ++ [v]) (ds ++ [d])) (v := .ref x) ⟨rfl, (o2.2.mono (kp_mut k1 hl) (z_mut hl)).append (.cons (hd.mono (kp_mut k1 hl) (z_mut hl)) .nil)⟩
  rwa [hs_app.set_self o2.1] at k2
/-- self.f = [], a list of one's own -/
theorem hs_fldL {pos' p2 : Pos} {us : List V} (ho : PE X oe (tVar io)) (hs : Δ[io]? = some (.own x vs ds)) (hl : l[j]? = some (x, .ins C dx (nm.zip us))) (c : Cls X.K C) (na : NoAttr X.K C f) (hn : f ∉ nm) (hlen : nm.length = us.length) (hz : nm.length ≤ 100) (hb : N ≤ BIG)
    (hr : ∀ r, HS X (Ok (W.pinL ((r, .lst []) :: l.set j (x, .ins C dx ((nm ++ [f]).zip (us ++ [.ref r]))))) N Δ) sts D)
    (hsw : swapsWith (.List [] p2) (some (.Attribute oe f pos')) pos.line X.env = pure false := by rfl) : HS X (Ok (W.pinL l) N Δ) (.Assign [.Attribute oe f pos'] (.List [] p2) pos :: sts) D := by
  refine hs_cons (mid := fun σ H => ∃ r, Ok (W.pinL ((r, .lst []) :: l.set j (x, .ins C dx ((nm ++ [f]).zip (us ++ [.ref r]))))) N Δ σ H) (ps_to (ps_fld ho (pe_lst (da_nil (W := W.pinL l) (Δ := Δ))) hsw) fun D' σ H z => ⟨N, hb, z.1, fun vs' H1 k1 q1 o1 => ?_⟩) (hs_ex hr)
  cases o1
  refine ⟨Nat.zero_le _, fun r hr0 => ?_⟩
  have k2 : Ok (W.pinL ((r, .lst []) :: l)) N Δ σ (upd H1 r (.lst [])) := k1.pin hr0 (Kp.new hr0) (k1.w.ext k1.j (Ext.new hr0)) (Nat.le_refl _) (o := .lst []) upd_same (φ := fun _ o => o = .lst []) ⟨0, Nat.zero_le _, rfl⟩
  have hl2 : ((r, HO.lst []) :: l)[j + 1]? = some (x, .ins C dx (nm.zip us)) := hl
  have hp := (pinL_j.mp k2.j).1 _ (List.mem_of_getElem? hl2)
  refine ⟨_, (k2.own hs).1, x, C, dx, _, rfl, hp, c, na, by rw [List.length_zip, ← hlen]; omega, z.2.1 _ _ ⟨r, ?_⟩⟩
  rw [putF_app hn hlen]
  exact k2.mut hl2 (.ins C dx ((nm ++ [f]).zip (us ++ [.ref r])))
/-- o.append(i), the list reached by an expression -/
theorem hs_appI {apos cpos : Pos} {r : Addr} {us : List V} {i : Int} (ho : DE X (W.pinL l) Δ 0 oe (raw _ (.ref r))) (hl : l[j]? = some (r, .lst us)) (he : DE X (W.pinL l) Δ 0 e (eqd _ (.int i))) (hz : us.length ≤ 1000000) (hb : N ≤ BIG)
    (hr : HS X (Ok (W.pinL (l.set j (r, .lst (us ++ [.int i])))) N Δ) sts D)
    (g1 : attributeBase oe "append" X.env (eval oe X.env) = eval oe X.env := by rfl)
    (g2 : (((backTo cpos (starEach [e] X.env)).all fun x => !x.1) && (backToKw cpos (keywordEach [] X.env)).all (·.1.isSome) && decide (([e].length + ([] : List Keyword).length + if ([] : List Keyword).isEmpty = true then 0 else 1) < 30)) = true := by rfl)
    (g3 : (apos.endLine == cpos.line) = true := by rfl) (g4 : starEach [e] X.env = (false, eval e X.env) :: starEach [] X.env := by rfl) (g5 : (backTo cpos (starEach [] X.env)).any (·.1) = false := by rfl)
    (hsw : swapsWith (.Call (.Attribute oe "append" apos) [e] [] cpos) none pos.line X.env = pure false := by rfl) :
    HS X (Ok (W.pinL l) N Δ) (.Expr (.Call (.Attribute oe "append" apos) [e] [] cpos) pos :: sts) D := by
  refine hs_cons (ps_to (ps_expr (pe_bm PySem.F.plainAttrs_list PySem.F.slot_list_append PySem.F.type_list_append mt_append ho (da_cons he da_nil g4) g1 g2 g3 g4 g5) hsw) fun D' σ H z => ⟨N, hb, z.1, fun v H1 k1 q1 o1 => ?_⟩) hr
  cases (show v = V.ref r from o1)
  have hp := (pinL_j.mp k1.j).1 _ (List.mem_of_getElem? hl)
  refine ⟨.inl ⟨rfl, us, .inl (.inl hp)⟩, N, hb, k1, fun ws H2 k2 q2 o2 => ?_⟩
  obtain ⟨v, rfl, o3⟩ := allo_1 o2
  have o3 := eqd_ok o3
  cases o3
  have hp2 := (pinL_j.mp k2.j).1 _ (List.mem_of_getElem? hl)
  exact ⟨r, us, .int i, rfl, rfl, hp2, Nat.lt_of_le_of_lt hz (by decide), z.2.1 _ _ (k2.mut hl _)⟩
end
end Dv
set_option maxRecDepth 100000
set_option maxHeartbeats 4000000
/-! Dv23: isinstance with two classes; a class and its constants. -/
namespace Dv
open PySem PySem.Spec PyProof.Rows L2
section
variable {X : Cx} {W : Wd} {Δ : List Sl} {m : Nat} {e a b : Expr} {pos p tp : Pos} {kt : Nat}
def tys (Z : Addr → Prop) (S T : String) : As Z := ⟨fun H v => ∃ t, v = .ref t ∧ ¬ Z t ∧ H t = some (.tup [.ty S, .ty T]), fun k ⟨t, e, h1, h2⟩ => ⟨t, e, h1, k t _ h1 h2⟩⟩
theorem de_tys {S T : String} (ha : DE X W Δ 0 a (raw W.Z (.ty S))) (hb : DE X W Δ 0 b (raw W.Z (.ty T))) (h1 : starEach [a, b] X.env = (false, eval a X.env) :: starEach [b] X.env := by rfl) (h2 : starEach [b] X.env = (false, eval b X.env) :: starEach [] X.env := by rfl) : DE X W Δ 0 (.Tuple [a, b] kt pos) (tys W.Z S T) :=
  pe_to (pe_tup (da_cons ha (da_cons hb da_nil h2) h1)) fun σ H Q ⟨n, l, k, z⟩ => ⟨n, l, k, fun vs H1 k1 q1 o1 => by
    obtain ⟨v, u, rfl, o2, o3⟩ := allo_2 o1
    cases (show v = V.ty S from o2)
    cases (show u = V.ty T from o3)
    refine ⟨by show 2 ≤ sizeLine; decide, fun t ht => z _ _ (k1.ext (.new ht)) (q1.trans (Ext.new ht).kp) ⟨t, rfl, k1.w.new k1.j ht, upd_same⟩⟩⟩
theorem c_isi2 {K : PySem.W.Frag} {d : PyData} {S T : String} {r : Bool} (h : PySem.W.kitAny K (.type (tyD d)) [.type S, .type T] = some r) : Cal W (rIsiT K) [eqd W.Z d, tys W.Z S T] (eqd W.Z (.bool r)) := fun n H vs w jj o Q q => by
  obtain ⟨v, u, rfl, o1, t, rfl, h1, h2⟩ := allo_2 o
  exact ⟨v, t, _, _, _, r, rfl, h2, .cons (.ty S) (.cons (.ty T) .nil), ty_da (eqd_ok o1), h, q _ H Ext.refl (ok_eqd (.bl _))⟩
theorem kit_any {K : PySem.W.Frag} {d : PyData} {S T : String} {r1 r2 : Bool} (h1 : kitB (tyD d) S = some r1) (h2 : kitB (tyD d) T = some r2) : PySem.W.kitAny K (.type (tyD d)) [.type S, .type T] = some (r1 || r2) := by
  unfold PySem.W.kitAny
  simp only [PySem.W.kitAny, kit_ty h1, kit_ty h2]
  cases r1 <;> cases r2 <;> rfl
theorem o_neI {x y : Int} : Op2 W rNe (eqd W.Z (.int x)) (eqd W.Z (.int y)) (bol W.Z (· = !decide (x = y))) := fun n H v u w jj o1 o2 Q q => by
  have o1 := eqd_ok o1
  have o2 := eqd_ok o2
  cases o1
  cases o2
  refine ⟨rfl, q _ H Ext.refl ⟨_, rfl, ?_⟩⟩
  by_cases h : x = y
  · rw [decide_eq_true h, h, decide_eq_true rfl]
  · rw [decide_eq_false h, decide_eq_false fun c => h (by cases c; rfl)]
/-- the class itself -/
theorem de_cls {x : Str} {C : Addr} (hg : Gl X x) (hm : X.mg x = some (.ref C)) (hd : (x == ("__debug__" : Str)) = false := by decide) : DE X W Δ 0 (.Name x p) (raw W.Z (.ref C)) := de_rawc (pe_glob (v := .ref C) hg hm rfl hd)
/-- C.NAME, an int -/
theorem de_cval {C : Addr} {mc u : Value} {f : Str} {i : Int} (h : DE X W Δ 0 e (raw W.Z (.ref C))) (r : ClX.CRead X.K C mc) (c : ClX.CVal X.K C mc f (.int i) u) (hb : attributeBase e f X.env (eval e X.env) = eval e X.env := by rfl) : DE X W Δ 0 (.Attribute e f pos) (eqd W.Z (.int i)) :=
  pe_to (ClX.pe_cval h hb) fun σ H Q ⟨n, l, k, z⟩ => ⟨n, l, k, fun v H1 k1 q1 o1 => by
    cases (show v = V.ref C from o1)
    exact ⟨C, mc, .int i, u, rfl, r, c, z _ H1 k1 q1 (ok_eqd (.int i))⟩⟩
/-- C.m(e, ..), m a static method -/
theorem de_stat {C g q : Addr} {mc : Value} {k : Nat} {fd : FuncData} {ps : List Str} {o : Expr} {f : Str} {apos : Pos} {pl : Sem Bool} {pre : PyData → Prop} {gf : PyData → PyData} {d : PyData} (F : FnOk X.prog X.w X.K X.mg X.base CX0 k g fd ps (sp1 pre gf)) (ho : DE X W Δ 0 o (raw W.Z (.ref C))) (r : ClX.CRead X.K C mc) (c : CStat X.K C mc f q g) (rm : Room k X.A) (hb : Binds X.K fd ps [])
    (he : DE X W Δ m e (eqd W.Z d)) (hp : pre d)
    (hst : starEach [e] X.env = (false, eval e X.env) :: starEach [] X.env := by rfl) (hpl : (backTo pos (starEach [] X.env)).any (·.1) = false := by rfl)
    (ht : eval (.Call (.Attribute o f apos) [e] [] pos) X.env = (do
      let ov ← eval o X.env
      standAt apos.atName
      let (f, first) ← holding [ov] (getMethod ov f pl)
      callWith pos f first (backTo pos (starEach [e] X.env)) (backToKw pos (keywordEach [] X.env))) := by rfl) :
    DE X W Δ m (.Call (.Attribute o f apos) [e] [] pos) (eqd W.Z (gf d)) :=
  pe_to (pe_stat ho r c F rm hb .nil pass0 (da_cons he da_nil hst) hst hpl ht) fun σ H Q ⟨n, l, k, z⟩ => ⟨n, by omega, k, fun v H1 k1 q1 o1 => by
    refine ⟨o1, n, l, by simpa using k1, fun vs H2 k2 q2 o2 => ?_⟩
    obtain ⟨d', hd, rfl⟩ := allo1 (P := (· = d)) o2
    refine ⟨W.Z, W.J, n + m, [d'], k2.w, l, k2.j, by simpa using hd, ⟨d', rfl, hp⟩, fun u H' dd e j od ⟨d2, e2, er⟩ => ?_⟩
    cases e2
    subst er
    exact z u H' (k2.kp e j) ((q1.trans q2).trans e) (ok_eqd od)⟩
end
end Dv
set_option maxRecDepth 100000
set_option maxHeartbeats 4000000
/-! Dv24: exact comprehensions over pairs; fields of an object that is being made. -/
namespace Dv
open PySem PySem.Spec PyProof.Rows L2
section
variable {X : Cx} {W : Wd} {Δ : List Sl} {m : Nat} {pos : Pos}
theorem de_lc2F {x y : Str} {px py pt : Pos} {kt : Nat} {elt iter test : Expr} {scope : Scope} {own : List (Str × Nat)} {i j : Nat} {xs : List PyData} {f : PyData → Bool} {g : PyData → PyData}
    (hc : X.calm = true) (hN : X.N.Nodup) (hi : DI X W Δ m (.Tuple [.Name x px, .Name y py] kt pt) iter (· = xs)) (ok : BlkOk X.N X.env.scope scope own) (hiv : i ∈ own.map (·.2)) (hjv : j ∈ own.map (·.2)) (hM2 : xs.length ≤ 1000000)
    (hpr : ∀ d ∈ xs, ∃ a b, d = .tuple [a, b])
    (hx : ∀ (s : Shared) (H : Hp) (C : Addr) (cl : List (Str × Addr)) (fp : List Addr), PG (X.blk s H scope (compEnvC scope cl C X.env) fp) (.Tuple [.Name x px, .Name y py] kt pt) (gTup X.K 2 (gCons (gName i) (gCons (gName j) gNil))))
    (ht : ∀ (s : Shared) (H : Hp) (C : Addr) (cl : List (Str × Addr)) (fp : List Addr) (D : Addr) (φ : Nat → HO → Prop) (a b : PyData), ¬ W.Z D → .tuple [a, b] ∈ xs → DT (X.blk s H scope (compEnvC scope cl C X.env) fp) (W.add D φ) (((wipeS Δ (own.map (·.2))).set i (.val a)).set j (.val b)) 0 test (· = f (.tuple [a, b])))
    (he : ∀ (s : Shared) (H : Hp) (C : Addr) (cl : List (Str × Addr)) (fp : List Addr) (D : Addr) (φ : Nat → HO → Prop) (a b : PyData), ¬ W.Z D → .tuple [a, b] ∈ xs → f (.tuple [a, b]) = true → DE (X.blk s H scope (compEnvC scope cl C X.env) fp) (W.add D φ) (((wipeS Δ (own.map (·.2))).set i (.val a)).set j (.val b)) 0 elt (eqd _ (g (.tuple [a, b]))))
    (hs : ∀ x, foldedSetIterable iter X.env x = pure x := by intro _; rfl) :
    DE X W Δ m (.ListComp elt [⟨.Tuple [.Name x px, .Name y py] kt pt, iter, [test], 0⟩] scope pos) (eqd W.Z (.list ((xs.filter f).map g))) :=
  (de_lc2 (c1 := 0) (c2 := 0) (M := xs.length) (Ps := (· = xs)) (Pt := fun d b => b = f d) (Pe := fun d z => f d = true → z = g d) (R := (· = .list ((xs.filter f).map g))) hc hN hi ok hiv hjv (fun ys e => e ▸ Nat.le_refl _) hM2 (fun ys e d md => hpr d (e ▸ md)) hx
    (fun s H C cl fp D φ ys a b n1 n2 n3 => dts_one (ht s H C cl fp D φ a b n1 (n2 ▸ n3))) (fun s H C cl fp D φ ys a b n1 n2 n3 q => (he s H C cl fp D φ a b n1 (n2 ▸ n3) q.symm).imp fun H v o => ⟨_, eqd_ok o, fun _ => rfl⟩)
    (fun ys zs e h => by
      subst e
      rw [h.fn]) hs).up (by omega)
theorem de_lc2M {x y : Str} {px py pt : Pos} {kt : Nat} {elt iter : Expr} {scope : Scope} {own : List (Str × Nat)} {i j : Nat} {xs : List PyData} {g : PyData → PyData}
    (hc : X.calm = true) (hN : X.N.Nodup) (hi : DI X W Δ m (.Tuple [.Name x px, .Name y py] kt pt) iter (· = xs)) (ok : BlkOk X.N X.env.scope scope own) (hiv : i ∈ own.map (·.2)) (hjv : j ∈ own.map (·.2)) (hM2 : xs.length ≤ 1000000)
    (hpr : ∀ d ∈ xs, ∃ a b, d = .tuple [a, b])
    (hx : ∀ (s : Shared) (H : Hp) (C : Addr) (cl : List (Str × Addr)) (fp : List Addr), PG (X.blk s H scope (compEnvC scope cl C X.env) fp) (.Tuple [.Name x px, .Name y py] kt pt) (gTup X.K 2 (gCons (gName i) (gCons (gName j) gNil))))
    (he : ∀ (s : Shared) (H : Hp) (C : Addr) (cl : List (Str × Addr)) (fp : List Addr) (D : Addr) (φ : Nat → HO → Prop) (a b : PyData), ¬ W.Z D → .tuple [a, b] ∈ xs → DE (X.blk s H scope (compEnvC scope cl C X.env) fp) (W.add D φ) (((wipeS Δ (own.map (·.2))).set i (.val a)).set j (.val b)) 0 elt (eqd _ (g (.tuple [a, b]))))
    (hs : ∀ x, foldedSetIterable iter X.env x = pure x := by intro _; rfl) :
    DE X W Δ m (.ListComp elt [⟨.Tuple [.Name x px, .Name y py] kt pt, iter, [], 0⟩] scope pos) (eqd W.Z (.list (xs.map g))) :=
  (de_lc2 (c1 := 0) (c2 := 0) (M := xs.length) (Ps := (· = xs)) (Pt := fun _ b => b = true) (Pe := fun d z => z = g d) (R := (· = .list (xs.map g))) hc hN hi ok hiv hjv (fun ys e => e ▸ Nat.le_refl _) hM2 (fun ys e d md => hpr d (e ▸ md)) hx
    (fun s H C cl fp D φ ys a b n1 n2 n3 => dts_nil) (fun s H C cl fp D φ ys a b n1 n2 n3 q => he s H C cl fp D φ a b n1 (n2 ▸ n3))
    (fun ys zs e h => by
      subst e
      rw [h.every.fn, List.filter_eq_self.mpr (fun _ _ => rfl)]) hs).up (by omega)
theorem pg_two {x y : Str} {px py pt : Pos} {kt i j : Nat} (hc : X.calm = true) (hN : X.N.Nodup) (hi : X.N[i]? = some x) (hj : X.N[j]? = some y) (hx : Loc X.env.scope x) (hy : Loc X.env.scope y)
    (fx : X.fn x = true ∨ X.env.scope.names.lookup x = some .local := by first | exact .inl rfl | exact .inr rfl | assumption) (fy : X.fn y = true ∨ X.env.scope.names.lookup y = some .local := by first | exact .inl rfl | exact .inr rfl | assumption)
    (hn : (assignEach [.Name x px, .Name y py] X.env).length = 2 := by rfl) (hst : (assignEach [.Name x px, .Name y py] X.env).findIdx? (·.1) = none := by rfl) : PG X (.Tuple [.Name x px, .Name y py] kt pt) (gTup X.K 2 (gCons (gName i) (gCons (gName j) gNil))) :=
  pg_tup hc (pgs_cons (pg_name hN hi hx (hf := fx)) (pgs_cons (pg_name hN hj hy (hf := fy)) pgs_nil)) hn hst
/-- self.f, self being made -/
theorem de_ownF {l : List (Addr × HO)} {x C dx : Addr} {vs : List V} {ds : List PyData} {nm : List Str} {j io jf : Nat} {f : Str} {d : PyData} {oe : Expr} (ho : PE X oe (tVar io)) (hs : Δ[io]? = some (.own x vs ds)) (hl : l[j]? = some (x, .ins C dx (nm.zip vs))) (c : Cls X.K C) (na : NoAttr X.K C f) (nd : nm.Nodup) (hj : nm[jf]? = some f) (hd : ds[jf]? = some d)
    (hb : attributeBase oe f X.env (eval oe X.env) = eval oe X.env := by rfl) : DE X (W.pinL l) Δ 0 (.Attribute oe f pos) (eqd _ d) :=
  pe_to (pe_fld ho hb) fun σ H Q ⟨n, ln, k, z⟩ => by
    have o := k.own hs
    obtain ⟨u, hu, du⟩ := o.2.get hd
    exact ⟨_, o.1, x, C, dx, _, u, rfl, (pinL_j.mp k.j).1 _ (List.mem_of_getElem? hl), c, na, zip_at nd hj hu, z u H k Kp.refl (ok_eqd du)⟩
end
end Dv
set_option maxRecDepth 100000
set_option maxHeartbeats 4000000
/-! Dv25: signs by number; bags in parts of a def. -/
namespace Dv
open PySem PySem.Spec PyProof.Rows L2
section
variable {X : Cx} {W : Wd} {Δ : List Sl} {m m1 : Nat} {a b : Expr} {pos : Pos}
/-- z[i], known -/
theorem de_six {z : Str} {i : Int} {c : Nat} (ha : DE X W Δ m a (eqd W.Z (.str z))) (hb : DE X W Δ m1 b (eqd W.Z (.int i))) (hz : z.length ≤ 100000) (hd : atI z.cps.toList i = some c) (hp : PlainIx b := by intro _ _; rfl) : DE X W Δ (m + m1) (.Subscript a b pos) (eqd W.Z (.str ⟨#[c]⟩)) :=
  de_ix ix_str ha hb (fun n H v u w jj o1 o2 Q q => by
    have o1 := eqd_ok o1
    have o2 := eqd_ok o2
    cases o2
    cases o1
    exact ⟨z, i, c, rfl, rfl, Nat.le_trans hz (by decide), hd, q _ H Ext.refl (ok_eqd (.str _))⟩) hp
end
theorem BagJ.cut {W : Wd} {H : Hp} {as : List Addr} {p : Addr} (b : BagJ W.Z W.J p) : BagJ (W.cut H as).Z (W.cut H as).J p :=
  ⟨cut_z.mpr b.z, fun n h j => b.is n h (cut_j.mp j), fun n m h h' o j l ho hb e => cut_j.mpr (b.to n m h h' o (cut_j.mp j) l ho hb fun c z ne => e c (cut_z.mpr z) ne)⟩
theorem BagJ.pinL {W : Wd} {l : List (Addr × HO)} {p : Addr} (b : BagJ W.Z W.J p) (h : p ∉ l.map (·.1)) (hd : ∀ c ∈ l.map (·.1), ¬ W.Z c) : BagJ (W.pinL l).Z (W.pinL l).J p := by
  refine ⟨pinL_z.mpr (.inr b.z), fun n H j => b.is n H (pinL_j.mp j).2, fun n m H H' o j lt ho hb e => pinL_j.mpr ⟨fun q mq => ?_, b.to n m H H' o (pinL_j.mp j).2 lt ho hb fun c z ne => e c (pinL_z.mpr (.inr z)) ne⟩⟩
  have hq : q.1 ∈ l.map (·.1) := List.mem_map.mpr ⟨q, mq, rfl⟩
  rw [e q.1 (pinL_z.mpr (.inl hq)) fun c => h (by rw [← c]; exact hq)]
  exact (pinL_j.mp j).1 q mq
end Dv
set_option maxRecDepth 100000
set_option maxHeartbeats 4000000
/-! Dv26: lists that are new and may be changed; draws of draws. -/
namespace Dv
open PySem PySem.Spec PyProof.Rows L2
/-- a list that is new since the entry -/
def frN (W : Wd) (R : PyData → Prop) : As W.Z := ⟨fun H v => ∃ p vs ds, v = .ref p ∧ W.H0 p = none ∧ ¬ W.Z p ∧ H p = some (.lst vs) ∧ Das W.Z H vs ds ∧ R (.list ds), fun k ⟨p, vs, ds, e, h0, nz, h1, h2, h3⟩ => ⟨p, vs, ds, e, h0, nz, k p _ nz h1, h2.kp k, h3⟩⟩
section
variable {X : Cx} {W : Wd} {Δ : List Sl} {m m1 m2 m3 : Nat} {tg e a b c : Expr} {es rest : List Expr} {A A1 A2 A3 : As W.Z} {L : List (As W.Z)} {P P1 P2 : Bool → Prop} {t ta tb : TE} {pos : Pos}
/-- a for in brackets, its target a name -/
theorem de_lcN {x : Str} {px : Pos} {elt iter : Expr} {ifs : List Expr} {scope : Scope} {own : List (Str × Nat)} {j c1 c2 M : Nat} {Ps : List PyData → Prop} {Pt : PyData → Bool → Prop} {Pe : PyData → PyData → Prop} {R : PyData → Prop}
    (hc : X.calm = true) (hN : X.N.Nodup) (hi : DI X W Δ m (.Name x px) iter Ps) (ok : BlkOk X.N X.env.scope scope own) (hj : X.N[j]? = some x) (hjv : j ∈ own.map (·.2)) (hM : ∀ xs, Ps xs → xs.length ≤ M) (hM2 : M ≤ 1000000)
    (hx : ∀ (s : Shared) (H : Hp) (C : Addr) (cl : List (Str × Addr)) (fp : List Addr), PG (X.blk s H scope (compEnvC scope cl C X.env) fp) (.Name x px) (gName j))
    (ht : ∀ (s : Shared) (H : Hp) (C : Addr) (cl : List (Str × Addr)) (fp : List Addr) (D : Addr) (φ : Nat → HO → Prop) (xs : List PyData) (d : PyData), ¬ W.Z D → Ps xs → d ∈ xs → PTs (X.blk s H scope (compEnvC scope cl C X.env) fp) ifs (tDT (W.add D φ) ((wipeS Δ (own.map (·.2))).set j (.val d)) c1 (Pt d)))
    (he : ∀ (s : Shared) (H : Hp) (C : Addr) (cl : List (Str × Addr)) (fp : List Addr) (D : Addr) (φ : Nat → HO → Prop) (xs : List PyData) (d : PyData), ¬ W.Z D → Ps xs → d ∈ xs → Pt d true → DE (X.blk s H scope (compEnvC scope cl C X.env) fp) (W.add D φ) ((wipeS Δ (own.map (·.2))).set j (.val d)) c2 elt (dat _ (Pe d)))
    (hR : ∀ xs ys, Ps xs → Picks Pt Pe xs ys → R (.list ys))
    (hs : ∀ x, foldedSetIterable iter X.env x = pure x := by intro _; rfl) :
    DE X W Δ (m + M * (c1 + c2)) (.ListComp elt [⟨.Name x px, iter, ifs, 0⟩] scope pos) (frN W R) := by
  -- the test and the element, for whichever new list, item and list of items
  have pt : ∀ (s : Shared) (H : Hp) (C : Addr) (cl : List (Str × Addr)) (fp : List Addr), PTs (X.blk s H scope (compEnvC scope cl C X.env) fp) ifs (lcT W (wipeS Δ (own.map (·.2))) j c1 Ps Pt) :=
    fun s H C cl fp => ⟨fun pins s' σ' H' Q I ⟨D, φ, xs, d, n1, n2, n3, z⟩ => (ht s H C cl fp D φ xs d n1 n2 n3).run pins s' σ' H' Q I z⟩
  have pe : ∀ (s : Shared) (H : Hp) (C : Addr) (cl : List (Str × Addr)) (fp : List Addr), PE (X.blk s H scope (compEnvC scope cl C X.env) fp) elt (lcE W (wipeS Δ (own.map (·.2))) j c2 Ps Pt Pe) :=
    fun s H C cl fp => ⟨fun pins s' σ' H' Q I ⟨D, φ, xs, d, n1, n2, n3, n4, z⟩ => (he s H C cl fp D φ xs d n1 n2 n3 n4).run pins s' σ' H' Q I z⟩
  refine pe_to (pe_lc hc hN hi ok hx pt pe hs) fun σ H Q ⟨n, l, k, z⟩ => ⟨n, by omega, k, fun J H1 xs k1 q1 px sr D hD => ?_⟩
  obtain ⟨G, Y, wk, hG, hY⟩ := sr.ex
  have nD : ¬ W.Z D := k1.w.new k1.j hD
  have hlen := hM xs px
  have lz := sizeLine_eq
  -- what holds behind i items
  let Pv : Nat → Hp → Prop := fun i H' => W.J (n + m + i * (c1 + c2)) H' ∧ Kp W.Z H1 H' ∧ ∃ acc ys, H' D = some (.lst acc) ∧ Das (W.add D fun _ _ => True).Z H' acc ys ∧ Picks Pt Pe (xs.take i) ys
  have inner : ∀ i H', Pv i H' → ∀ acc, H' D = some (.lst acc) → Ok (W.add D fun _ o => o = .lst acc) (n + m + i * (c1 + c2)) Δ σ H' := fun i H' ⟨j, e, _⟩ acc ha => k1.pin hD e j (by omega) ha ⟨0, Nat.zero_le _, rfl⟩
  refine lc_it (g := gName j) (tt := lcT W (wipeS Δ (own.map (·.2))) j c1 Ps Pt) (te := lcE W (wipeS Δ (own.map (·.2))) j c2 Ps Pt Pe) (vs := own.map (·.2)) (σ := σ) (H1 := H1) (D := D) (Qd := fun H => Q (.ref D) H) wk Pv ?_ ?_ ?_ ?_
  · refine ⟨by simpa using k1.w.ext k1.j (.new hD), (Ext.new hD).kp, [], [], upd_same, .nil, ?_⟩
    rw [List.take_zero]
    exact .nil
  · intro i H' _ ⟨_, e, _⟩
    exact hG (W.add D fun _ _ => True).Z H' (fun a y => sub_z hD a y) (e.wide fun a y => z_add a y)
  · intro i x0 H2 H3 hi p y
    obtain ⟨j2, e2, acc, ys, ha, hd, hp⟩ := p
    have ko := inner i H2 ⟨j2, e2, acc, ys, ha, hd, hp⟩ acc ha
    obtain ⟨e3, d, hxd, hda⟩ := hY (W.add D fun _ o => o = .lst acc).Z i H2 x0 H3 (fun a y => sub_z hD a y) (e2.wide fun a y => z_add a y) (fun a y => ko.w.alive _ H2 a ko.j y) hi y
    have dm : d ∈ xs := List.mem_of_getElem? hxd
    have k3 := ko.ext e3
    have hbig : (i + 1) * (c1 + c2) ≤ M * (c1 + c2) := Nat.mul_le_mul_right _ (by omega)
    have hs1 : (i + 1) * (c1 + c2) = i * (c1 + c2) + (c1 + c2) := Nat.succ_mul _ _
    refine ⟨?_, D, (fun _ o => o = .lst acc), xs, d, nD, px, dm, n + m + i * (c1 + c2), by omega, ?_, ?_⟩
    · rw [wipe_set _ _ hjv]
      exact wipe_wipe _ _ fun v hv => hv
    · exact ⟨k3.wb, k3.j, pset (show SlOk _ _ (.val d) (some x0) from ⟨x0, rfl, hda⟩) j (wipe_ok _ k3.sl), k3.kept, k3.nd, k3.fr⟩
    · intro b H4 k4 q4 pb
      have back : ∀ {H' : Hp}, Kp (W.add D fun _ o => o = .lst acc).Z H3 H' → Kp W.Z H1 H' := fun q a o na h1 => by
        have ne : a ≠ D := fun c => by
          rw [c, hD] at h1
          cases h1
        exact q a o (fun c => (add_z.mp c).elim ne na) (e3 a o (e2 a o na h1))
      obtain ⟨⟨o4, h4, _, _, eq4⟩, j4⟩ := add_j.mp k4.j
      subst eq4
      have d4 : Das (W.add D fun _ _ => True).Z H4 acc ys := (hd.mono (e3.kp.trans (q4.wide zz)) fun a y => .inl y)
      cases b with
      | false =>
        refine ⟨k4.w.up _ _ H4 k4.j (by omega) |> fun j => (add_j.mp j).2, back q4, acc, ys, h4, d4, ?_⟩
        rw [filter_take_succ hxd]
        exact .skip hp pb
      | true =>
        refine ⟨D, (fun _ o => o = .lst acc), xs, d, nD, px, dm, pb, n + m + i * (c1 + c2) + c1, by omega, k4, fun y0 H5 k5 q5 o5 => ?_⟩
        obtain ⟨z0, hz0, pe0⟩ := o5
        obtain ⟨⟨o5, h5, _, _, eq5⟩, j5⟩ := add_j.mp k5.j
        subst eq5
        have la : acc.length = ys.length := d4.length
        have ly := hp.len
        rw [List.length_take] at ly
        have kD : Kp (W.add D fun _ _ => True).Z H5 (upd H5 D (.lst (acc ++ [y0]))) := fun a o na h => by
          rw [upd_ne (fun c => na (add_z.mpr (.inl c)))]
          exact h
        refine ⟨acc, h5, by omega, ?_, ?_, _, ys ++ [z0], upd_same, ?_, ?_⟩
        · refine k5.w.up _ (n + m + (i + 1) * (c1 + c2)) H5 k5.j (by omega) |> fun j => ?_
          exact k1.w.loc _ H5 _ (add_j.mp j).2 fun a y => upd_ne (fun c => nD (c ▸ y))
        · intro a o na h1
          have ne : a ≠ D := fun c => by
            rw [c, hD] at h1
            cases h1
          rw [upd_ne ne]
          exact back (q4.trans q5) a o na h1
        · exact ((d4.mono (q5.wide zz) fun a y => .inl y).append (.cons (hz0.mono Kp.refl fun a y => .inl (zz a y)) .nil)).mono kD fun a y => .inl y
        · rw [filter_take_succ hxd]
          exact .take hp pb pe0
  · intro H' ⟨j', e', acc, ys, ha, hd, hp⟩
    rw [List.take_length] at hp
    have hbig : xs.length * (c1 + c2) ≤ M * (c1 + c2) := Nat.mul_le_mul_right _ hlen
    have kf : Ok W (n + (m + M * (c1 + c2))) Δ σ H' := (k1.kp e' j').up (by omega)
    have kr : Ok (W.add D fun _ o => o = .lst acc) _ Δ σ H' := inner _ H' ⟨j', e', acc, ys, ha, hd, by rw [List.take_length]; exact hp⟩ acc ha
    have z0 : W.H0 D = none := by
      match q0 : W.H0 D with
      | none => rfl
      | some u => exact nomatch (k1.kept D u (fun c => nD (.inl c)) q0).symm.trans hD
    exact z (.ref D) H' kf (q1.trans e') ⟨D, acc, ys, rfl, z0, nD, ha, hd.mono Kp.refl fun a y => .inl (z_add a y), hR xs ys px hp⟩
end
section
variable {X : Cx} {W : Wd} {Δ : List Sl} {m m1 m2 : Nat} {e a b oe ie : Expr} {D : Ends} {sts : List Stmt} {N : Nat} {pos p : Pos} {l : List (Addr × HO)} {q : Addr} {vs : List V} {ds : List PyData}
theorem hs_fact {pr : L2.St → Hp → Prop} {F : Prop} (f : ∀ σ H, pr σ H → F) (h : F → HS X pr sts D) : HS X pr sts D := hs_pre (hs_and h) fun σ H k => ⟨f σ H k, k⟩
theorem das_any {Z Z' : Addr → Prop} {H H' : Hp} : ∀ {vs : List V} {ds : List PyData}, (∀ d ∈ ds, ∃ s, d = PyData.str s) → Das Z H vs ds → Das Z' H' vs ds
  | _, _, _, .nil => .nil
  | _, _, h, .cons h1 h2 => by
    obtain ⟨s, rfl⟩ := h _ List.mem_cons_self
    cases h1
    exact .cons (.str s) (das_any (fun d m => h d (List.mem_cons_of_mem _ m)) h2)
/-- x = e, a new list of texts, the other slots being rigid -/
theorem hs_setOwn {i : Nat} {y : Str} {pos' : Pos} {R : PyData → Prop} (hN : X.N.Nodup) (hi : X.N[i]? = some y) (hx : Loc X.env.scope y) (hrig : ∀ s ∈ Δ, s = .no ∨ ∃ v, s = .is v) (hR : ∀ ds, R (.list ds) → ∀ d ∈ ds, ∃ s, d = PyData.str s) (he : DE X W Δ m e (frN W R)) (hb : N + m ≤ BIG)
    (hr : ∀ p vs ds, ¬ W.Z p → R (.list ds) → HS X (Ok (W.pinL [(p, .lst vs)]) (N + m) (Δ.set i (.own p vs ds))) sts D)
    (hs : swapsWith e (some (.Name y pos')) pos.line X.env = pure false := by rfl) (hf : X.fn y = true ∨ X.env.scope.names.lookup y = some .local := by first | exact .inl rfl | exact .inr rfl | assumption) : HS X (Ok W N Δ) (.Assign [.Name y pos'] e pos :: sts) D := by
  refine hs_cons (mid := fun σ H => ∃ p vs ds, (¬ W.Z p ∧ R (.list ds)) ∧ Ok (W.pinL [(p, .lst vs)]) (N + m) (Δ.set i (.own p vs ds)) σ H) (ps_to (ps_set hN hi hx he hs hf) fun D' σ H z => ⟨N, hb, z.1, fun v H1 k1 q1 o1 => ?_⟩) (hs_ex fun p => hs_ex fun vs => hs_ex fun ds => hs_and fun h => hr p vs ds h.1 h.2)
  obtain ⟨p, vs, ds, rfl, h0, nz, h1, h2, h3⟩ := o1
  have rig : ∀ {Γ : List Sl} {τ : L2.St}, (∀ s ∈ Γ, s = .no ∨ ∃ v, s = .is v) → Paired (SlOk W.Z H1) Γ τ → Paired (SlOk (W.pinL [(p, .lst vs)]).Z H1) Γ τ := fun {Γ τ} hg hp => by
    induction hp with
    | nil => exact .nil
    | cons r _ ih =>
      refine .cons ?_ (ih fun s ms => hg s (List.mem_cons_of_mem _ ms))
      rcases hg _ List.mem_cons_self with rfl | ⟨v, rfl⟩
      · trivial
      · exact r
  have k2 : Ok (W.pinL [(p, .lst vs)]) (N + m) Δ σ H1 := pinL_mk k1.wb ⟨fun r mr => by cases List.mem_singleton.mp mr; exact h1, k1.j⟩ (rig hrig k1.sl) k1.kept ⟨fun b mb => by cases List.mem_singleton.mp mb; exact ⟨nz, h0⟩, List.nodup_cons.mpr ⟨fun z => (nomatch z), List.nodup_nil⟩, k1.fr, k1.nd⟩
  exact z.2.1 _ _ ⟨p, vs, ds, ⟨nz, h3⟩, k2.put i (s := .own p vs ds) ⟨rfl, das_any (hR ds h3) h2⟩⟩
/-- x[i] = e, x a list of one's own: the item behind some number -/
theorem hs_stL {io j : Nat} {z : Str} {ps : Pos} {Pi : Int → Prop} (ho : PE X oe (tVar io)) (hs : Δ[io]? = some (.own q vs ds)) (hl : l[j]? = some (q, .lst vs)) (he : DE X (W.pinL l) Δ 0 e (eqd _ (.str z))) (hi : DE X (W.pinL l) Δ m ie (intp _ Pi)) (hp : ∀ i, Pi i → 0 ≤ i ∧ i < vs.length) (hb : N + m ≤ BIG)
    (hr : ∀ k : Nat, k < vs.length → HS X (Ok (W.pinL (l.set j (q, .lst (vs.set k (.str z))))) (N + m) (Δ.set io (.own q (vs.set k (.str z)) (ds.set k (.str z))))) sts D)
    (ha : ∀ v, assign (.Subscript oe ie ps) X.env v = (do let ov ← holding [v] (eval oe X.env); let iv ← holding [v, ov] (eval ie X.env); standAt ps; holding [v, ov, iv] (setItem ov iv v); release [v, ov, iv] []) := by intro _; rfl)
    (h1 : swapsWithSole [.Subscript oe ie ps] e pos.line X.env = pure false := by rfl) (h2 : swappedStores [.Subscript oe ie ps] e X.env = pure none := by rfl) : HS X (Ok (W.pinL l) N Δ) (.Assign [.Subscript oe ie ps] e pos :: sts) D := by
  refine hs_cons (mid := fun σ H => ∃ k : Nat, k < vs.length ∧ Ok (W.pinL (l.set j (q, .lst (vs.set k (.str z))))) (N + m) (Δ.set io (.own q (vs.set k (.str z)) (ds.set k (.str z)))) σ H) (ps_to (ps_asg he (pg_sub ho hi set_list ha) h1 h2) fun D' σ H z0 => ⟨N, by omega, z0.1, fun v H1 k1 q1 o1 => ?_⟩) (hs_ex fun k => hs_and (hr k))
  have o1 := eqd_ok o1
  cases o1
  refine ⟨_, (k1.own hs).1, N, hb, by simpa using k1, fun u H2 k2 q2 o2 => ?_⟩
  obtain ⟨_, o2, i, rfl, pi⟩ := o2
  cases o2
  obtain ⟨i0, i1⟩ := hp i pi
  have hq := (pinL_j.mp k2.j).1 _ (List.mem_of_getElem? hl)
  have jn : ixN vs.length i = some i.toNat := by
    unfold ixN
    rw [if_pos i0, if_pos i1]
  have o3 := k2.own hs
  refine ⟨q, vs, i, i.toNat, rfl, rfl, hq, jn, z0.2.1 _ _ ⟨i.toNat, by omega, ?_⟩⟩
  have k3 := (k2.mut hl (.lst (vs.set i.toNat (.str z)))).put io (s := .own q (vs.set i.toNat (.str z)) (ds.set i.toNat (.str z))) (v := .ref q) ⟨rfl, das_set (o3.2.mono (kp_mut k2 hl) (z_mut hl)) (.str z)⟩
  rwa [hs_app.set_self o3.1] at k3
where
  das_set {Z : Addr → Prop} {H : Hp} {v : V} {d : PyData} : ∀ {vs : List V} {ds : List PyData} {k : Nat}, Das Z H vs ds → Da Z H v d → Das Z H (vs.set k v) (ds.set k d)
    | _, _, _, .nil, _ => .nil
    | _, _, 0, .cons _ t, h => .cons h t
    | _, _, _ + 1, .cons a t, h => .cons a (das_set t h)
/-- len(x), x a list of one's own -/
theorem de_ownLen {io j : Nat} {oe : Expr} (hg : Gl X "len") (hm : X.mg "len" = none) (ho : PE X oe (tVar io)) (hs : Δ[io]? = some (.own q vs ds)) (hl : l[j]? = some (q, .lst vs)) (he : starEach (oe :: []) X.env = (false, eval oe X.env) :: starEach [] X.env := by rfl) (hpl : (backTo pos (starEach [] X.env)).any (·.1) = false := by rfl) :
    DE X (W.pinL l) Δ 0 (.Call (.Name "len" p) [oe] [] pos) (eqd _ (.int vs.length)) :=
  pe_to (pe_callB call_len hg hm boot_len (pa_cons ho pa_nil he) (by decide) (by decide) he hpl) fun σ H Q ⟨n, ln, k, z⟩ => by
    have o := k.own hs
    exact ⟨_, o.1, .ref q, _, rfl, .inl ⟨vs, .inl (.inl ((pinL_j.mp k.j).1 _ (List.mem_of_getElem? hl))), rfl⟩, z _ H k Kp.refl (ok_eqd (.int _))⟩
end
end Dv
set_option maxRecDepth 100000
set_option maxHeartbeats 4000000
/-! Dv27: draws by a drawn bound; tuples of what is known by relations. -/
namespace Dv
open PySem PySem.Spec PyProof.Rows L2
section
variable {X : Cx} {W : Wd} {Δ : List Sl} {m m1 m2 m3 : Nat} {e a b c : Expr} {pos p : Pos} {kt : Nat}
variable {k : Nat} {f : Addr} {fd : FuncData} {ps : List Str} {x : Str}
theorem de_takeP {q : Addr} {Pl : Int → Prop} {B : Int} (F : FnG X.prog X.w X.K X.mg X.base CX0 k f fd ps (spB Many (fun _ => 1) Took)) (gd : X.A.guards = some []) (rm : Room k X.A) (hg : Gl X x) (hm : X.mg x = some (.ref f)) (hk : PySem.W.keepIn X.K (.ref f) = true) (hb : Binds X.K fd ps [])
    (bj : BagJ W.Z W.J q) (h0 : DE X W Δ 0 e (raw W.Z (.ref q))) (ha : DE X W Δ m a (intp W.Z Pl)) (hl : ∀ l, Pl l → 1 ≤ l ∧ l ≤ B) (hB : B < 1073741824)
    (h1 : (x == ("__debug__" : Str)) = false := by decide) (h2 : starEach [e, a] X.env = (false, eval e X.env) :: starEach [a] X.env := by rfl) (h2' : starEach [a] X.env = (false, eval a X.env) :: starEach [] X.env := by rfl) (h3 : (backTo pos (starEach [a] X.env)).any (·.1) = false := by rfl) :
    DE X W Δ (m + 1) (.Call (.Name x p) [e, a] [] pos) (intp W.Z fun i => 0 ≤ i ∧ i < B) :=
  (de_draw (M := 1) (m := m + 0) F gd rm hg hm hk hb bj h0 (da_cons ha da_nil h2') (fun H vs o => by
    obtain ⟨d', hd, l, rfl, pl⟩ := allo1 o
    have := hl l pl
    refine ⟨_, hd, ⟨l, rfl, this.1, by omega⟩, Nat.le_refl _, ?_⟩
    rintro r ⟨n, i, e, rfl, i0, i1⟩
    cases e
    exact ⟨i, rfl, i0, by omega⟩) h1 h2 h3)
theorem de_tup2P {P1 P2 R : PyData → Prop} (ha : DE X W Δ m1 a (dat W.Z P1)) (hb : DE X W Δ m2 b (dat W.Z P2)) (hR : ∀ d1 d2, P1 d1 → P2 d2 → R (.tuple [d1, d2])) (h1 : starEach [a, b] X.env = (false, eval a X.env) :: starEach [b] X.env := by rfl) (h2 : starEach [b] X.env = (false, eval b X.env) :: starEach [] X.env := by rfl) :
    DE X W Δ (m1 + (m2 + 0)) (.Tuple [a, b] kt pos) (dat W.Z R) :=
  pe_to (pe_tup (da_cons ha (da_cons hb da_nil h2) h1)) fun σ H Q ⟨n, l, k, z⟩ => ⟨n, l, k, fun vs H1 k1 q1 o1 => by
    obtain ⟨d1, d2, hd, p1, p2⟩ := allo2 o1
    refine ⟨by rw [hd.length]; show 2 ≤ sizeLine; decide, fun t ht => z _ _ (k1.ext (.new ht)) (q1.trans (Ext.new ht).kp) ⟨_, .tup upd_same (k1.w.new k1.j ht) (hd.kp (Ext.new ht).kp), hR d1 d2 p1 p2⟩⟩⟩
theorem de_tup3P {P1 P2 P3 R : PyData → Prop} (ha : DE X W Δ m1 a (dat W.Z P1)) (hb : DE X W Δ m2 b (dat W.Z P2)) (hc : DE X W Δ m3 c (dat W.Z P3)) (hR : ∀ d1 d2 d3, P1 d1 → P2 d2 → P3 d3 → R (.tuple [d1, d2, d3])) (h1 : starEach [a, b, c] X.env = (false, eval a X.env) :: starEach [b, c] X.env := by rfl) (h2 : starEach [b, c] X.env = (false, eval b X.env) :: starEach [c] X.env := by rfl) (h3 : starEach [c] X.env = (false, eval c X.env) :: starEach [] X.env := by rfl) :
    DE X W Δ (m1 + (m2 + (m3 + 0))) (.Tuple [a, b, c] kt pos) (dat W.Z R) :=
  pe_to (pe_tup (da_cons ha (da_cons hb (da_cons hc da_nil h3) h2) h1)) fun σ H Q ⟨n, l, k, z⟩ => ⟨n, l, k, fun vs H1 k1 q1 o1 => by
    cases o1 with
    | cons o1 o2 =>
      obtain ⟨d1, e1, p1⟩ := o1
      obtain ⟨d2, d3, hd, p2, p3⟩ := allo2 o2
      have hd := Das.cons e1 hd
      refine ⟨by rw [hd.length]; show 3 ≤ sizeLine; decide, fun t ht => z _ _ (k1.ext (.new ht)) (q1.trans (Ext.new ht).kp) ⟨_, .tup upd_same (k1.w.new k1.j ht) (hd.kp (Ext.new ht).kp), hR d1 d2 d3 p1 p2 p3⟩⟩⟩
end
end Dv
set_option maxRecDepth 100000
set_option maxHeartbeats 4000000
/-! Dv28: a name set to a comprehension's list, which is then one's own. -/
namespace Dv
open PySem PySem.Spec PyProof.Rows L2
section
variable {X : Cx} {W : Wd} {Δ : List Sl} {m m1 m2 m3 : Nat} {pos : Pos}
theorem lc_core {own : List (Str × Nat)} {j c1 c2 M : Nat} {Ps : List PyData → Prop} {Pt : PyData → Bool → Prop} {Pe : PyData → PyData → Prop} {R : PyData → Prop} (hjv : j ∈ own.map (·.2)) (hM : ∀ xs, Ps xs → xs.length ≤ M) (hM2 : M ≤ 1000000) (hR : ∀ xs ys, Ps xs → Picks Pt Pe xs ys → R (.list ys)) :
    ∀ σ H Q, tD W Δ (m + M * (c1 + c2)) (frN W R) σ H Q → tLc (tDI W Δ m Ps) (gName j) (lcT W (wipeS Δ (own.map (·.2))) j c1 Ps Pt) (lcE W (wipeS Δ (own.map (·.2))) j c2 Ps Pt Pe) (own.map (·.2)) σ H Q := by
  rintro σ H Q ⟨n, l, k, z⟩
  refine ⟨n, by omega, k, fun J H1 xs k1 q1 px sr D hD => ?_⟩
  obtain ⟨G, Y, wk, hG, hY⟩ := sr.ex
  have nD : ¬ W.Z D := k1.w.new k1.j hD
  have hlen := hM xs px
  have lz := sizeLine_eq
  -- what holds behind i items
  let Pv : Nat → Hp → Prop := fun i H' => W.J (n + m + i * (c1 + c2)) H' ∧ Kp W.Z H1 H' ∧ ∃ acc ys, H' D = some (.lst acc) ∧ Das (W.add D fun _ _ => True).Z H' acc ys ∧ Picks Pt Pe (xs.take i) ys
  have inner : ∀ i H', Pv i H' → ∀ acc, H' D = some (.lst acc) → Ok (W.add D fun _ o => o = .lst acc) (n + m + i * (c1 + c2)) Δ σ H' := fun i H' ⟨j, e, _⟩ acc ha => k1.pin hD e j (by omega) ha ⟨0, Nat.zero_le _, rfl⟩
  refine lc_it (g := gName j) (tt := lcT W (wipeS Δ (own.map (·.2))) j c1 Ps Pt) (te := lcE W (wipeS Δ (own.map (·.2))) j c2 Ps Pt Pe) (vs := own.map (·.2)) (σ := σ) (H1 := H1) (D := D) (Qd := fun H => Q (.ref D) H) wk Pv ?_ ?_ ?_ ?_
  · refine ⟨by simpa using k1.w.ext k1.j (.new hD), (Ext.new hD).kp, [], [], upd_same, .nil, ?_⟩
    rw [List.take_zero]
    exact .nil
  · intro i H' _ ⟨_, e, _⟩
    exact hG (W.add D fun _ _ => True).Z H' (fun a y => sub_z hD a y) (e.wide fun a y => z_add a y)
  · intro i x0 H2 H3 hi p y
    obtain ⟨j2, e2, acc, ys, ha, hd, hp⟩ := p
    have ko := inner i H2 ⟨j2, e2, acc, ys, ha, hd, hp⟩ acc ha
    obtain ⟨e3, d, hxd, hda⟩ := hY (W.add D fun _ o => o = .lst acc).Z i H2 x0 H3 (fun a y => sub_z hD a y) (e2.wide fun a y => z_add a y) (fun a y => ko.w.alive _ H2 a ko.j y) hi y
    have dm : d ∈ xs := List.mem_of_getElem? hxd
    have k3 := ko.ext e3
    have hbig : (i + 1) * (c1 + c2) ≤ M * (c1 + c2) := Nat.mul_le_mul_right _ (by omega)
    have hs1 : (i + 1) * (c1 + c2) = i * (c1 + c2) + (c1 + c2) := Nat.succ_mul _ _
    refine ⟨?_, D, (fun _ o => o = .lst acc), xs, d, nD, px, dm, n + m + i * (c1 + c2), by omega, ?_, ?_⟩
    · rw [wipe_set _ _ hjv]
      exact wipe_wipe _ _ fun v hv => hv
    · exact ⟨k3.wb, k3.j, pset (show SlOk _ _ (.val d) (some x0) from ⟨x0, rfl, hda⟩) j (wipe_ok _ k3.sl), k3.kept, k3.nd, k3.fr⟩
    · intro b H4 k4 q4 pb
      have back : ∀ {H' : Hp}, Kp (W.add D fun _ o => o = .lst acc).Z H3 H' → Kp W.Z H1 H' := fun q a o na h1 => by
        have ne : a ≠ D := fun c => by
          rw [c, hD] at h1
          cases h1
        exact q a o (fun c => (add_z.mp c).elim ne na) (e3 a o (e2 a o na h1))
      obtain ⟨⟨o4, h4, _, _, eq4⟩, j4⟩ := add_j.mp k4.j
      subst eq4
      have d4 : Das (W.add D fun _ _ => True).Z H4 acc ys := (hd.mono (e3.kp.trans (q4.wide zz)) fun a y => .inl y)
      cases b with
      | false =>
        refine ⟨k4.w.up _ _ H4 k4.j (by omega) |> fun j => (add_j.mp j).2, back q4, acc, ys, h4, d4, ?_⟩
        rw [filter_take_succ hxd]
        exact .skip hp pb
      | true =>
        refine ⟨D, (fun _ o => o = .lst acc), xs, d, nD, px, dm, pb, n + m + i * (c1 + c2) + c1, by omega, k4, fun y0 H5 k5 q5 o5 => ?_⟩
        obtain ⟨z0, hz0, pe0⟩ := o5
        obtain ⟨⟨o5, h5, _, _, eq5⟩, j5⟩ := add_j.mp k5.j
        subst eq5
        have la : acc.length = ys.length := d4.length
        have ly := hp.len
        rw [List.length_take] at ly
        have kD : Kp (W.add D fun _ _ => True).Z H5 (upd H5 D (.lst (acc ++ [y0]))) := fun a o na h => by
          rw [upd_ne (fun c => na (add_z.mpr (.inl c)))]
          exact h
        refine ⟨acc, h5, by omega, ?_, ?_, _, ys ++ [z0], upd_same, ?_, ?_⟩
        · refine k5.w.up _ (n + m + (i + 1) * (c1 + c2)) H5 k5.j (by omega) |> fun j => ?_
          exact k1.w.loc _ H5 _ (add_j.mp j).2 fun a y => upd_ne (fun c => nD (c ▸ y))
        · intro a o na h1
          have ne : a ≠ D := fun c => by
            rw [c, hD] at h1
            cases h1
          rw [upd_ne ne]
          exact back (q4.trans q5) a o na h1
        · exact ((d4.mono (q5.wide zz) fun a y => .inl y).append (.cons (hz0.mono Kp.refl fun a y => .inl (zz a y)) .nil)).mono kD fun a y => .inl y
        · rw [filter_take_succ hxd]
          exact .take hp pb pe0
  · intro H' ⟨j', e', acc, ys, ha, hd, hp⟩
    rw [List.take_length] at hp
    have hbig : xs.length * (c1 + c2) ≤ M * (c1 + c2) := Nat.mul_le_mul_right _ hlen
    have kf : Ok W (n + (m + M * (c1 + c2))) Δ σ H' := (k1.kp e' j').up (by omega)
    have kr : Ok (W.add D fun _ o => o = .lst acc) _ Δ σ H' := inner _ H' ⟨j', e', acc, ys, ha, hd, by rw [List.take_length]; exact hp⟩ acc ha
    have z0 : W.H0 D = none := by
      match q0 : W.H0 D with
      | none => rfl
      | some u => exact nomatch (k1.kept D u (fun c => nD (.inl c)) q0).symm.trans hD
    exact z (.ref D) H' kf (q1.trans e') ⟨D, acc, ys, rfl, z0, nD, ha, hd.mono Kp.refl fun a y => .inl (z_add a y), hR xs ys px hp⟩
theorem das_any2 {Z Z' : Addr → Prop} {H H' : Hp} : ∀ {vs : List V} {ds : List PyData}, (∀ d ∈ ds, ∃ s, d = PyData.str s) → Das Z H vs ds → Das Z' H' vs ds
  | _, _, _, .nil => .nil
  | _, _, h, .cons h1 h2 => by
    obtain ⟨s, rfl⟩ := h _ List.mem_cons_self
    cases h1
    exact .cons (.str s) (das_any2 (fun d m => h d (List.mem_cons_of_mem _ m)) h2)
theorem own_of {n : Nat} {i : Nat} {σ : L2.St} {H1 : Hp} {v : V} {R : PyData → Prop} {G : Prop} (hrig : ∀ s ∈ Δ, s = .no ∨ ∃ v, s = .is v) (hR : ∀ ds, R (.list ds) → ∀ d ∈ ds, ∃ s, d = PyData.str s) (k1 : Ok W n Δ σ H1) (o1 : (frN W R).ok H1 v)
    (g : ∀ p vs ds, ¬ W.Z p → R (.list ds) → Ok (W.pinL [(p, .lst vs)]) n (Δ.set i (.own p vs ds)) (σ.set i (some v)) H1 → G) : G := by
  obtain ⟨p, vs, ds, rfl, h0, nz, h1, h2, h3⟩ := o1
  have rig : ∀ {Γ : List Sl} {τ : L2.St}, (∀ s ∈ Γ, s = .no ∨ ∃ v, s = .is v) → Paired (SlOk W.Z H1) Γ τ → Paired (SlOk (W.pinL [(p, .lst vs)]).Z H1) Γ τ := fun {Γ τ} hg hp => by
    induction hp with
    | nil => exact .nil
    | cons r _ ih =>
      refine .cons ?_ (ih fun s ms => hg s (List.mem_cons_of_mem _ ms))
      rcases hg _ List.mem_cons_self with rfl | ⟨v, rfl⟩
      · trivial
      · exact r
  have k2 : Ok (W.pinL [(p, .lst vs)]) n Δ σ H1 := pinL_mk k1.wb ⟨fun r mr => by cases List.mem_singleton.mp mr; exact h1, k1.j⟩ (rig hrig k1.sl) k1.kept ⟨fun b mb => by cases List.mem_singleton.mp mb; exact ⟨nz, h0⟩, List.nodup_cons.mpr ⟨fun z => (nomatch z), List.nodup_nil⟩, k1.fr, k1.nd⟩
  exact g p vs ds nz h3 (k2.put i (s := .own p vs ds) ⟨rfl, das_any2 (hR ds h3) h2⟩)
theorem hs_setLcOwn {D : Ends} {sts : List Stmt} {N : Nat} {spos py : Pos} {y : Str} {iy : Nat} {x : Str} {px : Pos} {elt iter : Expr} {ifs : List Expr} {scope : Scope} {own : List (Str × Nat)} {j c1 c2 M : Nat} {Ps : List PyData → Prop} {Pt : PyData → Bool → Prop} {Pe : PyData → PyData → Prop} {R : PyData → Prop}
    (hyi : X.N[iy]? = some y) (hyl : X.env.scope.names.lookup y = some .local) (hsw : swapsWith (.ListComp elt [⟨.Name x px, iter, ifs, 0⟩] scope pos) (some (.Name y py)) spos.line X.env = pure true)
    (hc : X.calm = true) (hN : X.N.Nodup) (hi : DI X W Δ m (.Name x px) iter Ps) (ok : BlkOk X.N X.env.scope scope own) (hj : X.N[j]? = some x) (hjv : j ∈ own.map (·.2)) (hM : ∀ xs, Ps xs → xs.length ≤ M) (hM2 : M ≤ 1000000)
    (hx : ∀ (s : Shared) (H : Hp) (C : Addr) (cl : List (Str × Addr)) (fp : List Addr), PG (X.blk s H scope (compEnvC scope cl C X.env) fp) (.Name x px) (gName j))
    (ht : ∀ (s : Shared) (H : Hp) (C : Addr) (cl : List (Str × Addr)) (fp : List Addr) (D : Addr) (φ : Nat → HO → Prop) (xs : List PyData) (d : PyData), ¬ W.Z D → Ps xs → d ∈ xs → PTs (X.blk s H scope (compEnvC scope cl C X.env) fp) ifs (tDT (W.add D φ) ((wipeS Δ (own.map (·.2))).set j (.val d)) c1 (Pt d)))
    (he : ∀ (s : Shared) (H : Hp) (C : Addr) (cl : List (Str × Addr)) (fp : List Addr) (D : Addr) (φ : Nat → HO → Prop) (xs : List PyData) (d : PyData), ¬ W.Z D → Ps xs → d ∈ xs → Pt d true → DE (X.blk s H scope (compEnvC scope cl C X.env) fp) (W.add D φ) ((wipeS Δ (own.map (·.2))).set j (.val d)) c2 elt (dat _ (Pe d)))
    (hR : ∀ xs ys, Ps xs → Picks Pt Pe xs ys → R (.list ys)) (hrig : ∀ s ∈ Δ, s = .no ∨ ∃ v, s = .is v) (hRs : ∀ ds, R (.list ds) → ∀ d ∈ ds, ∃ s, d = PyData.str s) (hb : N + (m + M * (c1 + c2)) ≤ BIG)
    (hr : ∀ p vs ds, ¬ W.Z p → R (.list ds) → HS X (Ok (W.pinL [(p, .lst vs)]) (N + (m + M * (c1 + c2))) (Δ.set iy (.own p vs ds))) sts D)
    (hs : ∀ x, foldedSetIterable iter X.env x = pure x := by intro _; rfl) :
    HS X (Ok W N Δ) (.Assign [.Name y py] (.ListComp elt [⟨.Name x px, iter, ifs, 0⟩] scope pos) spos :: sts) D := by
  have pt : ∀ (s : Shared) (H : Hp) (C : Addr) (cl : List (Str × Addr)) (fp : List Addr), PTs (X.blk s H scope (compEnvC scope cl C X.env) fp) ifs (lcT W (wipeS Δ (own.map (·.2))) j c1 Ps Pt) :=
    fun s H C cl fp => ⟨fun pins s' σ' H' Q I ⟨D, φ, xs, d, n1, n2, n3, z⟩ => (ht s H C cl fp D φ xs d n1 n2 n3).run pins s' σ' H' Q I z⟩
  have pe : ∀ (s : Shared) (H : Hp) (C : Addr) (cl : List (Str × Addr)) (fp : List Addr), PE (X.blk s H scope (compEnvC scope cl C X.env) fp) elt (lcE W (wipeS Δ (own.map (·.2))) j c2 Ps Pt Pe) :=
    fun s H C cl fp => ⟨fun pins s' σ' H' Q I ⟨D, φ, xs, d, n1, n2, n3, n4, z⟩ => (he s H C cl fp D φ xs d n1 n2 n3 n4).run pins s' σ' H' Q I z⟩
  refine hs_cons (mid := fun σ H => ∃ p vs ds, (¬ W.Z p ∧ R (.list ds)) ∧ Ok (W.pinL [(p, .lst vs)]) (N + (m + M * (c1 + c2))) (Δ.set iy (.own p vs ds)) σ H) (ps_to (ps_setLc hc hN hyi hyl hsw hi ok hx pt pe hs) fun D' σ H z => lc_core hjv hM hM2 hR _ _ _ ⟨N, hb, z.1, fun v H1 k1 q1 o1 => ?_⟩) (hs_ex fun p => hs_ex fun vs => hs_ex fun ds => hs_and fun h => hr p vs ds h.1 h.2)
  exact own_of hrig hRs k1 o1 fun p vs ds nz h3 k2 => z.2.1 _ _ ⟨p, vs, ds, ⟨nz, h3⟩, k2⟩
end
end Dv
set_option maxRecDepth 100000
set_option maxHeartbeats 4000000
/-! Dv29: methods called by keyword; range with a step. -/
namespace Dv
open PySem PySem.Spec PyProof.Rows L2
section
variable {X : Cx} {C : CXT} {k : Nat} {g Ca : Addr} {fd : FuncData} {ps ks : List Str} {sp : Sp} {E : XK} {o : Expr} {m : Str} {pos apos : Pos} {kws : List Keyword} {ta : TE} {tk : TA} {pl : Sem Bool} {perm : List Nat}
def tMK (Ca : Addr) (m : Str) (sp : Sp) (nk : Nat) (perm : List Nat) (E : XK) (ta : TE) (tk : TA) : TE := fun σ H Q => ta σ H fun x H1 => ∃ a dx fs, x = .ref a ∧ H1 a = some (.ins Ca dx fs) ∧ fs.lookup m = none ∧ tk σ H1 fun zs H2 => zs.length = nk ∧ sp (pick perm ([x] ++ zs)) H2 Q E
theorem pe_mk (he : PE X o ta) (c : Cls X.K Ca) (hm : Meth X.K Ca m g) (F : FnG X.prog X.w X.K X.mg X.base C k g fd ps sp) (gd : X.A.guards = some []) (rm : Room k X.A) (hb : KBi X.K fd ps 1 ks perm) (hx : Passes C X E) (hkw : PK X kws tk)
    (hall : (backToKw pos (keywordEach kws X.env)).all (·.1.isSome) = true := by rfl) (hks : (backToKw pos (keywordEach kws X.env)).filterMap (·.1) = ks := by rfl)
    (hpl : ((backTo pos (starEach [] X.env)).any (·.1) || (backToKw pos (keywordEach kws X.env)).any (·.1.isNone)) = false := by rfl)
    (ht : eval (.Call (.Attribute o m apos) [] kws pos) X.env = (do
      let ov ← eval o X.env
      standAt apos.atName
      let (f, first) ← holding [ov] (getMethod ov m pl)
      callWith pos f first (backTo pos (starEach [] X.env)) (backToKw pos (keywordEach kws X.env))) := by rfl) :
    PE X (.Call (.Attribute o m apos) [] kws pos) (tMK Ca m sp ks.length perm E ta tk) := by
  refine ⟨fun pins s σ H Q I h => ?_⟩
  refine PySem.W.methodCall_KW (pl := pl) (thn (he.run pins s σ H _ I h) fun u s1 ⟨x, H1, I1, rx, a, dx, fs, ex, ea, l, q⟩ => ?_) ht
  subst ex
  cases (show u = Value.ref a from rx)
  refine getmeth_ok I1 ea c hm l ?_
  exact PySem.W.callWith_KW0 (first := [.ref a]) (h₀ := X.base) I1.ok.mod.kin hm.kp hall
    (thn (hkw.run pos pins s1 σ H1 _ I1 q) fun ws s2 ⟨zs, H2, I2, rz, q2⟩ => ⟨I2.kIn, by rw [hks]; exact run_gk (us := [.ref a]) (xs := [.ref a]) F gd rm hb hx I2 (.cons rfl .nil) rz rfl q2.1 q2.2⟩) hpl
end
section
variable {X : Cx} {W : Wd} {Δ : List Sl} {m1 m2 : Nat} {o : Expr} {pos apos p : Pos} {C : Addr} {f : Str} {k : Nat} {g : Addr} {fd : FuncData} {ps ks : List Str} {F F' : Fam} {pre : List PyData → Prop} {post : List PyData → PyData → Prop} {L : List (As W.Z)} {PR : PyData → Prop} {kws : List Keyword}
/-- o.m(k = e): self first, then the keyword's parameter -/
theorem de_methK {pl : Sem Bool} {nm : Str} {e : Expr} {kpos : Pos} {d : PyData} (G : FnOk X.prog X.w X.K X.mg X.base CX0 k g fd ps (spO F pre post)) (gd : X.A.guards = some []) (ho : DE X W Δ 0 o (F.as W.Z)) (hs : Shape F C f) (c : Cls X.K C) (hm : Meth X.K C f g) (rm : Room k X.A) (hb : KBi X.K fd ps 1 [nm] [0, 1])
    (he : DE X W Δ 0 e (eqd W.Z d)) (hp : pre [d]) (hq : ∀ r, post [d] r → PR r)
    (hall : (backToKw pos (keywordEach [⟨some nm, e, kpos⟩] X.env)).all (·.1.isSome) = true := by rfl) (hks : (backToKw pos (keywordEach [⟨some nm, e, kpos⟩] X.env)).filterMap (·.1) = [nm] := by rfl)
    (hpl : ((backTo pos (starEach [] X.env)).any (·.1) || (backToKw pos (keywordEach [⟨some nm, e, kpos⟩] X.env)).any (·.1.isNone)) = false := by rfl)
    (ht : eval (.Call (.Attribute o f apos) [] [⟨some nm, e, kpos⟩] pos) X.env = (do
      let ov ← eval o X.env
      standAt apos.atName
      let (f, first) ← holding [ov] (getMethod ov f pl)
      callWith pos f first (backTo pos (starEach [] X.env)) (backToKw pos (keywordEach [⟨some nm, e, kpos⟩] X.env))) := by rfl) :
    DE X W Δ 0 (.Call (.Attribute o f apos) [] [⟨some nm, e, kpos⟩] pos) (dat W.Z PR) :=
  pe_to (pe_mk ho c hm (FnG.of G) gd rm hb pass0 (dk_cons he dk_nil) hall hks hpl ht) fun σ H Q ⟨n, l, k, z⟩ => ⟨n, l, k, fun v H1 k1 q1 o1 => by
    obtain ⟨x, dx, fs, rfl, h1, h2⟩ := hs _ _ _ o1
    refine ⟨x, dx, fs, rfl, h1, h2, n, l, k1, fun zs H2 k2 q2 o2 => ?_⟩
    obtain ⟨d', hd, rfl⟩ := allo1 (P := (· = d)) o2
    cases hd with
    | cons a1 a2 =>
      cases a2
      refine ⟨rfl, W.Z, W.J, n, .ref x, [_], [d'], k2.w, l, k2.j, rfl, (F.as W.Z).mono q2 o1, .cons a1 .nil, hp, fun u H' r e j od pr => z u H' (k2.kp e j) ((q1.trans q2).trans e) ⟨r, od, hq r pr⟩⟩⟩
/-- range(i, j, c) -/
def stepto (i c : Int) (n : Nat) : List PyData := (List.range n).map fun (k : Nat) => .int (i + ((k : Nat) : Int) * c)
theorem di_range3 {tg a b e : Expr} {i j c : Int} {n : Nat} (hg : Gl X "range") (hm : X.mg "range" = none) (ha : DE X W Δ 0 a (eqd W.Z (.int i))) (hb : DE X W Δ 0 b (eqd W.Z (.int j))) (he : DE X W Δ 0 e (eqd W.Z (.int c))) (hr : RgC i j c n)
    (h1 : starEach [a, b, e] X.env = (false, eval a X.env) :: starEach [b, e] X.env := by rfl) (h2 : starEach [b, e] X.env = (false, eval b X.env) :: starEach [e] X.env := by rfl) (h3 : starEach [e] X.env = (false, eval e X.env) :: starEach [] X.env := by rfl)
    (h4 : (backTo pos (starEach [b, e] X.env)).any (·.1) = false := by rfl) : DI X W Δ 0 tg (.Call (.Name "range" p) [a, b, e] [] pos) (· = stepto i c n) :=
  pi_to (pi_range3 hg hm (da_cons ha (da_cons hb (da_cons he da_nil h3) h2) h1) h1 h4) fun σ H R ⟨n', l, k, z⟩ => ⟨n', l, k, fun vs H1 k1 q1 o1 => by
    cases o1 with
    | cons o1 o2 =>
      obtain ⟨v2, v3, rfl, o2, o3⟩ := allo_2 o2
      have o1 := eqd_ok o1
      have o2 := eqd_ok o2
      have o3 := eqd_ok o3
      cases o1
      cases o2
      cases o3
      have len : (stepto i c n).length = n := by unfold stepto; rw [List.length_map, List.length_range]
      refine ⟨i, j, c, n, rfl, hr, z _ H1 _ k1 q1 rfl ⟨⟨_, _, by rw [len]; exact walk_rangeC, fun _ _ _ _ => trivial, fun Z' q H x H' z' k' _ hi y => ?_⟩⟩⟩
      obtain ⟨e1, e2⟩ := y
      subst e1
      subst e2
      refine ⟨Ext.refl, .int (i + (q : Nat) * c), ?_, .int _⟩
      rw [len] at hi
      unfold stepto
      rw [List.getElem?_map, List.getElem?_range hi]
      rfl⟩
end
end Dv
set_option maxRecDepth 100000
set_option maxHeartbeats 4000000
/-! Dv30: two names at once, of which a Fam and a relation hold; lists of what is known by relations. -/
namespace Dv
open PySem PySem.Spec PyProof.Rows L2
section
variable {X : Cx} {W : Wd} {Δ : List Sl} {m m1 m2 : Nat} {a b : Expr} {D : Ends} {sts : List Stmt} {N : Nat} {pos : Pos}
/-- x, y = a, b: x an object, y data -/
theorem hs_parF {i j : Nat} {x y : Str} {F : Fam} {Pd : PyData → Prop} {px py pt : Pos} {kt k2 pt2} (hc : X.calm = true) (hN : X.N.Nodup) (hi : X.N[i]? = some x) (hj : X.N[j]? = some y) (hij : i ≠ j)
    (hx : X.env.scope.names.lookup x = some .local) (hy : X.env.scope.names.lookup y = some .local) (ha : DE X W Δ m1 a (F.as W.Z)) (hb : DE X W Δ m2 b (dat W.Z Pd)) (hN2 : N + (m1 + (m2 + 0)) ≤ BIG)
    (hr : ∀ d, Pd d → HS X (Ok W (N + (m1 + (m2 + 0))) ((Δ.set i (.sat F)).set j (.val d))) sts D)
    (hw : swappedStores [.Tuple [.Name x px, .Name y py] kt pt] (.Tuple [a, b] k2 pt2) X.env = pure (some [x, y]))
    (h1 : starEach [a, b] X.env = (false, eval a X.env) :: starEach [b] X.env := by rfl) (h2 : starEach [b] X.env = (false, eval b X.env) :: starEach [] X.env := by rfl)
    (hs : swapsWithSole [.Tuple [.Name x px, .Name y py] kt pt] (.Tuple [a, b] k2 pt2) pos.line X.env = pure false := by rfl) :
    HS X (Ok W N Δ) (.Assign [.Tuple [.Name x px, .Name y py] kt pt] (.Tuple [a, b] k2 pt2) pos :: sts) D := by
  refine hs_cons (mid := fun σ H => ∃ d, Pd d ∧ Ok W (N + (m1 + (m2 + 0))) ((Δ.set i (.sat F)).set j (.val d)) σ H) (ps_to (ps_par hc hN hi hj hij hx hy (da_cons ha (da_cons hb da_nil h2) h1) hw hs) fun D' σ H z => ⟨N, hN2, z.1, fun vs H1 k q o => ?_⟩) (hs_ex fun d => hs_and (hr d))
  obtain ⟨v, u, rfl, o1, d, o2, pd⟩ := allo_2 o
  exact ⟨_, _, rfl, z.2.1 _ _ ⟨d, pd, (k.put i (s := .sat F) ⟨_, rfl, o1⟩).put j (s := .val d) ⟨_, rfl, o2⟩⟩⟩
/-- [a, b] -/
theorem de_list2P {P1 P2 R : PyData → Prop} (ha : DE X W Δ m1 a (dat W.Z P1)) (hb : DE X W Δ m2 b (dat W.Z P2)) (hR : ∀ d1 d2, P1 d1 → P2 d2 → R (.list [d1, d2])) (h1 : starEach [a, b] X.env = (false, eval a X.env) :: starEach [b] X.env := by rfl) (h2 : starEach [b] X.env = (false, eval b X.env) :: starEach [] X.env := by rfl) :
    DE X W Δ (m1 + (m2 + 0)) (.List [a, b] pos) (dat W.Z R) :=
  pe_to (pe_lst (da_cons ha (da_cons hb da_nil h2) h1)) fun σ H Q ⟨n, l, k, z⟩ => ⟨n, l, k, fun vs H1 k1 q1 o1 => by
    obtain ⟨d1, d2, hd, p1, p2⟩ := allo2 o1
    refine ⟨by rw [hd.length]; show 2 ≤ sizeLine; decide, fun t ht => z _ _ (k1.ext (.new ht)) (q1.trans (Ext.new ht).kp) ⟨_, .lst upd_same (k1.w.new k1.j ht) (hd.kp (Ext.new ht).kp), hR d1 d2 p1 p2⟩⟩⟩
end
end Dv
set_option maxRecDepth 100000
set_option maxHeartbeats 2000000
/-! Dv31: draws by any bound; sorted of ints; range(i, j); int of a bool; the script compared with []. -/
namespace Dv
open PySem PySem.Spec PyProof.Rows L2
theorem FnG.weak {P : Program} {w : World} {K : PySem.W.Frag} {mg : Str → Option Value} {base : Heap} {C : CXT} {k : Nat} {f : Addr} {fd : FuncData} {ps : List Str} {sp sp' : Sp} (F : FnG P w K mg base C k f fd ps sp) (h : ∀ xs H Q E, sp' xs H Q E → sp xs H Q E) : FnG P w K mg base C k f fd ps sp' :=
  ⟨fun xs H q e z => F.len xs H q e (h _ _ _ _ z), fun B fr t H ar us xs q e g r e0 b v z => F.go B fr t H ar us xs q e g r e0 b v (h _ _ _ _ z)⟩
theorem spB_weak {pre pre' : List PyData → Prop} {c : List PyData → Nat} {post : List PyData → PyData → Prop} (h : ∀ ds, pre' ds → pre ds) : ∀ xs H Q E, spB pre' c post xs H Q E → spB pre c post xs H Q E :=
  fun xs H Q E ⟨Z, J, n, p, ws, ds, a1, a2, a3, a4, a5, a6, a7, a8⟩ => ⟨Z, J, n, p, ws, ds, a1, a2, a3, a4, a5, a6, h ds a7, a8⟩
/-- a bound of any size that a law takes -/
def ManyW (ds : List PyData) : Prop := ∃ n : Int, ds = [.int n] ∧ 1 ≤ n ∧ n < 2 ^ 200
theorem manyW_of {ds : List PyData} (h : Many ds) : ManyW ds := by
  obtain ⟨n, e, a, b⟩ := h
  exact ⟨n, e, a, Int.lt_trans b (by decide)⟩
section
variable {X : Cx} {W : Wd} {Δ : List Sl} {m m1 m2 m3 : Nat} {e a b c : Expr} {pos p : Pos} {kt : Nat}
variable {k : Nat} {f : Addr} {fd : FuncData} {ps : List Str} {x : Str}
theorem de_takeR {q : Addr} {Pl R : Int → Prop} (F : FnG X.prog X.w X.K X.mg X.base CX0 k f fd ps (spB ManyW (fun _ => 1) Took)) (gd : X.A.guards = some []) (rm : Room k X.A) (hg : Gl X x) (hm : X.mg x = some (.ref f)) (hk : PySem.W.keepIn X.K (.ref f) = true) (hb : Binds X.K fd ps [])
    (bj : BagJ W.Z W.J q) (h0 : DE X W Δ 0 e (raw W.Z (.ref q))) (ha : DE X W Δ m a (intp W.Z Pl)) (hl : ∀ l, Pl l → 1 ≤ l ∧ l < 2 ^ 200 ∧ ∀ i, 0 ≤ i → i < l → R i)
    (h1 : (x == ("__debug__" : Str)) = false := by decide) (h2 : starEach [e, a] X.env = (false, eval e X.env) :: starEach [a] X.env := by rfl) (h2' : starEach [a] X.env = (false, eval a X.env) :: starEach [] X.env := by rfl) (h3 : (backTo pos (starEach [a] X.env)).any (·.1) = false := by rfl) :
    DE X W Δ (m + 1) (.Call (.Name x p) [e, a] [] pos) (intp W.Z R) :=
  (de_draw (M := 1) (m := m + 0) F gd rm hg hm hk hb bj h0 (da_cons ha da_nil h2') (fun H vs o => by
    obtain ⟨d', hd, l, rfl, pl⟩ := allo1 o
    obtain ⟨l1, l2, l3⟩ := hl l pl
    refine ⟨_, hd, ⟨l, rfl, l1, l2⟩, Nat.le_refl _, ?_⟩
    rintro r ⟨n, i, e, rfl, i0, i1⟩
    cases e
    exact ⟨i, rfl, l3 i i0 i1⟩) h1 h2 h3)
theorem de_takeW {l : Int} {q : Addr} (F : FnG X.prog X.w X.K X.mg X.base CX0 k f fd ps (spB ManyW (fun _ => 1) Took)) (gd : X.A.guards = some []) (rm : Room k X.A) (hg : Gl X x) (hm : X.mg x = some (.ref f)) (hk : PySem.W.keepIn X.K (.ref f) = true) (hb : Binds X.K fd ps [])
    (bj : BagJ W.Z W.J q) (h0 : DE X W Δ 0 e (raw W.Z (.ref q))) (ha : DE X W Δ m a (eqd W.Z (.int l))) (hl : 1 ≤ l ∧ l < 2 ^ 200)
    (h1 : (x == ("__debug__" : Str)) = false := by decide) (h2 : starEach [e, a] X.env = (false, eval e X.env) :: starEach [a] X.env := by rfl) (h2' : starEach [a] X.env = (false, eval a X.env) :: starEach [] X.env := by rfl) (h3 : (backTo pos (starEach [a] X.env)).any (·.1) = false := by rfl) :
    DE X W Δ (m + 1) (.Call (.Name x p) [e, a] [] pos) (intp W.Z fun i => 0 ≤ i ∧ i < l) :=
  de_takeR (Pl := (· = l)) F gd rm hg hm hk hb bj h0 (ei ha rfl) (fun l' e => by subst e; exact ⟨hl.1, hl.2, fun i h1 h2 => ⟨h1, h2⟩⟩) h1 h2 h2' h3
/-- sorted(list of ints) -/
def SortedI (ns : List Int) (d : PyData) : Prop := ∃ ts : List Int, d = .list (ts.map .int) ∧ ts.Perm ns ∧ ts.Pairwise (· ≤ ·)
theorem das_ints {Z : Addr → Prop} {H : Hp} : ∀ ns : List Int, Das Z H (ns.map V.int) (ns.map PyData.int)
  | [] => .nil
  | n :: ns => .cons (.int n) (das_ints ns)
theorem de_sortI {ns : List Int} (hg : Gl X "sorted") (hm : X.mg "sorted" = none) (h : DE X W Δ m e (eqd W.Z (.list (ns.map .int))))
    (he : starEach (e :: []) X.env = (false, eval e X.env) :: starEach [] X.env := by rfl) (hpl : (backTo pos (starEach [] X.env)).any (·.1) = false := by rfl) :
    DE X W Δ (m + 0) (.Call (.Name "sorted" p) [e] [] pos) (dat W.Z (SortedI ns)) :=
  de_cb cr_sortedI hg hm (by rfl) (da_cons h da_nil he) (fun n H vs w jj o Q q => by
    obtain ⟨v, rfl, o'⟩ := allo_1 o
    have o := eqd_ok o'
    cases o with
    | lst r nz hd =>
      have e1 := hd.ints
      subst e1
      exact ⟨_, ns, rfl, .inl (.inl r), fun ts l h1 h2 hl => q _ _ (Ext.new hl) ⟨_, .lst upd_same (w.new jj hl) (das_ints ts), ts, rfl, h1, h2⟩⟩) (he := he) (hpl := hpl)
/-- range(i, j) -/
def fromto (i j : Int) : List PyData := (List.range (j - i).toNat).map fun (k : Nat) => .int (i + ((k : Nat) : Int))
theorem fromto_len (i j : Int) : (fromto i j).length = (j - i).toNat := by unfold fromto; rw [List.length_map, List.length_range]
theorem di_range2 {tg : Expr} {i j : Int} (hg : Gl X "range") (hm : X.mg "range" = none) (ha : DE X W Δ m1 a (eqd W.Z (.int i))) (hb : DE X W Δ m2 b (eqd W.Z (.int j))) (hr : -(2 ^ 62) ≤ i ∧ i < 2 ^ 62 ∧ -(2 ^ 62) ≤ j ∧ j < 2 ^ 62)
    (h1 : starEach [a, b] X.env = (false, eval a X.env) :: starEach [b] X.env := by rfl) (h2 : starEach [b] X.env = (false, eval b X.env) :: starEach [] X.env := by rfl)
    (h3 : starEach [a, b] X.env = [(false, eval a X.env), (false, eval b X.env)] := by rfl) (h4 : starEach [b] X.env = [(false, eval b X.env)] := by rfl) : DI X W Δ (m1 + (m2 + 0)) tg (.Call (.Name "range" p) [a, b] [] pos) (· = fromto i j) :=
  pi_to (pi_range2 hg hm (da_cons ha (da_cons hb da_nil h2) h1) h3 h4) fun σ H R ⟨n', l, k, z⟩ => ⟨n', l, k, fun vs H1 k1 q1 o1 => by
    obtain ⟨v1, v2, rfl, o1, o2⟩ := allo_2 o1
    have o1 := eqd_ok o1
    have o2 := eqd_ok o2
    cases o1
    cases o2
    refine ⟨i, j, rfl, hr, z _ H1 _ k1 q1 rfl ⟨⟨_, _, by rw [fromto_len]; exact walk_range, fun _ _ _ _ => trivial, fun Z' q H x H' z' k' _ hi y => ?_⟩⟩⟩
    obtain ⟨e1, e2⟩ := y
    subst e1
    subst e2
    refine ⟨Ext.refl, .int (i + (q : Nat)), ?_, .int _⟩
    rw [fromto_len] at hi
    unfold fromto
    rw [List.getElem?_map, List.getElem?_range hi]
    rfl⟩
/-- int(a bool) -/
theorem de_intB {P : Bool → Prop} {p' : Pos} (hg : Gl X "int") (hm : X.mg "int" = none) (h : DE X W Δ m e (bol W.Z P))
    (he : starEach (e :: []) X.env = (false, eval e X.env) :: starEach [] X.env := by rfl) (hpl : (backTo pos (starEach [] X.env)).any (·.1) = false := by rfl) :
    DE X W Δ (m + 0) (.Call (.Name "int" p') [e] [] pos) (intp W.Z fun i => ∃ b, P b ∧ i = if b = true then 1 else 0) :=
  de_ct call_int1 hg hm (by rfl) (da_cons h da_nil he) (fun n H vs w jj o Q q => by
    obtain ⟨v, rfl, b, rfl, pb⟩ := allo_1 o
    exact .inr ⟨b, rfl, q _ _ Ext.refl ⟨_, .int _, _, rfl, b, pb, rfl⟩⟩) (he := he) (hpl := hpl)
/-- xs[lo:hi], xs known by a relation -/
theorem de_slLR {lo hi : Option Expr} {p2 : Pos} {Po Ph : Option Int → Prop} {Ql : List PyData → Prop} {R : PyData → Prop} (he : DE X W Δ m1 e (dat W.Z fun d => ∃ ds, d = .list ds ∧ Ql ds)) (hl : PO X lo (tDO W Δ m2 Po)) (hu : PO X hi (tDO W Δ m3 Ph)) (hR : ∀ ds x y, Ql ds → Po x → Ph y → R (.list (cutD ds x y))) :
    DE X W Δ (m1 + (m2 + m3)) (.Subscript e (.Slice lo hi none p2) pos) (dat W.Z R) :=
  pe_to (pe_slice sl_list he hl hu) fun σ H Q ⟨n, l, k, z⟩ => ⟨n, big1 l, k, fun v H1 k1 q1 o1 => ⟨n + m1, by omega, k1, fun x H2 k2 q2 px => ⟨n + m1 + m2, by omega, k2, fun y H3 k3 q3 py => by
    obtain ⟨d, o, ds, rfl, qd⟩ := (dat W.Z fun d => ∃ ds, d = .list ds ∧ Ql ds).mono (q2.trans q3) o1
    cases o with
    | lst r nz hd =>
      exact ⟨_, _, rfl, .inl (.inl r), fun p hp => z _ _ ((k3.ext (.new hp)).up (by omega)) (((q1.trans q2).trans q3).trans (Ext.new hp).kp) ⟨_, .lst upd_same (k3.w.new k3.j hp) ((cut_das x y hd).kp (Ext.new hp).kp), hR ds x y qd px py⟩⟩⟩⟩⟩
theorem cut_last {α : Type} (g : α → PyData) (ts : List α) : cutD (ts.map g) (some (-1)) none = (ts.drop (ts.length - 1)).map g := by
  unfold cutD
  have h1 : HT.sIx (ts.map g).length 0 (some (-1)) = ts.length - 1 := by
    show (if (-1 : Int) < 0 then ((-1 : Int) + (((ts.map g).length : Nat) : Int)).toNat else min (-1 : Int).toNat (ts.map g).length) = _
    rw [if_pos (by decide), List.length_map]
    omega
  have h2 : HT.sIx (ts.map g).length (ts.map g).length none = ts.length := by rw [HT.sIx_none, List.length_map]
  rw [h1, h2, List.take_of_length_le (by rw [List.length_drop, List.length_map]; exact Nat.le_refl _), List.map_drop]
/-! ### the script -/
/-- the script stands at sa, and will stay -/
def scrF (K : PySem.W.Frag) (sa : Addr) (ns : List Int) : Fam := ⟨fun Z H v => v = .ref sa ∧ ((¬ Z sa ∧ (H sa = some (.lst (ns.map V.int)) ∨ ∃ u, H sa = some (.frz u (.lst (ns.map V.int))))) ∨ ∀ H', SqL K H' sa (ns.map V.int)),
  fun {Z Z' H H' v} k z ⟨e, h⟩ => ⟨e, h.imp (fun ⟨h1, h2⟩ => ⟨fun c => (z sa c).elim h1 fun q => by rcases h2 with r | ⟨u, r⟩ <;> (rw [q] at r; cases r), h2.imp (k _ _ h1) (fun ⟨u, r⟩ => ⟨u, k _ _ h1 r⟩)⟩) id⟩⟩
theorem scrF_sq {K : PySem.W.Frag} {sa : Addr} {ns : List Int} {Z : Addr → Prop} {H : Hp} {v : V} (h : (scrF K sa ns).ok Z H v) : v = .ref sa ∧ SqL K H sa (ns.map V.int) :=
  ⟨h.1, h.2.elim (fun ⟨_, r⟩ => .inl (r.imp id id)) fun r => r H⟩
def rNeScr (K : PySem.W.Frag) : R2 := fun x y H Q => ∃ a b xs, x = .ref a ∧ y = .ref b ∧ SqL K H a xs ∧ H b = some (.lst []) ∧ Q (.bl (!xs.isEmpty)) H
theorem op_neScr (hu : X.A.units + 64 < cLine) : OpR X (compareOp .NotEq) (rNeScr X.K) := by
  intro pins s σ H x y v u Q I rx ry h
  obtain ⟨a, b, xs, rfl, rfl, ha, hb, q⟩ := h
  cases (show v = Value.ref a from rx)
  cases (show u = Value.ref b from ry)
  obtain ⟨i1', r1, p1', _⟩ := I.list ha
  have p1 : s.heap.IsList a i1'.toArray := p1'.isList
  have z1 : i1'.toArray.size = xs.length := by rw [List.size_toArray, ← r1.length]
  obtain ⟨i2, p2, z2⟩ := lst_is I hb
  have fin : ∀ k, k = (!xs.isEmpty) → EP X pins σ Q (.bool k) s := fun k e => ⟨.bl k, H, I, rfl, by rw [e]; exact q⟩
  have hu' : X.A.units < cLine := by omega
  cases xs with
  | nil =>
    refine SeqAt.RcNeAt.lists (e := fun _ => true) p1 p2 (by rw [z1, z2]) hu' (fun j h1 h2 => by rw [z1] at h1; exact absurd h1 (Nat.not_lt_zero _)) X.prog X.w _ _ (fin _ ?_)
    rw [z1]
    rfl
  | cons c cs => exact SeqAt.RcNeAt.lists_lengths p1 p2 (by rw [z1, z2]; rfl) hu' X.prog X.w _ _ (fin _ rfl)
theorem o_neScr {K : PySem.W.Frag} {sa : Addr} {ns : List Int} : Op2 W (rNeScr K) ((scrF K sa ns).as W.Z) (eqd W.Z (.list [])) (bol W.Z (· = !ns.isEmpty)) := fun n H v u w jj o1 o2 Q q => by
  obtain ⟨rfl, h⟩ := scrF_sq o1
  have o2 := eqd_ok o2
  cases o2 with
  | lst r2 n2 d2 =>
    cases d2
    refine ⟨_, _, _, rfl, rfl, h, r2, q _ H Ext.refl ⟨_, rfl, ?_⟩⟩
    cases ns <;> rfl
/-- the script's slot -/
theorem set_same {α : Type} : ∀ {l : List α} {i : Nat} {x : α}, l[i]? = some x → l.set i x = l
  | [], _, _, h => by simp at h
  | a :: l, 0, x, h => by
    simp at h
    rw [h]
    rfl
  | a :: l, i + 1, x, h => by
    have h : l[i]? = some x := by simpa using h
    show a :: l.set i x = a :: l
    rw [set_same h]
theorem hs_scr {sts : List Stmt} {D : Ends} {N i0 : Nat} {sa : Addr} {ns : List Int} (h0 : Δ[i0]? = some (.is (.ref sa))) (nz : ¬ W.Z sa) (hS : ∀ H, Kp W.Zb W.H0 H → SqL X.K H sa (ns.map V.int))
    (hr : HS X (Ok W N (Δ.set i0 (.sat (scrF X.K sa ns)))) sts D) : HS X (Ok W N Δ) sts D :=
  hs_pre hr fun σ H k => by
    have e := k.is h0
    have q := k.put (s := .sat (scrF X.K sa ns)) i0 (v := .ref sa) ⟨.ref sa, rfl, rfl, by
      rcases hS H k.kept with r | r
      · exact .inl ⟨nz, r⟩
      · exact .inr fun H' => .inr r⟩
    rwa [set_same e] at q
theorem de_scrR {i : Nat} {sa : Addr} {ns : List Int} (h : PE X e (tVar i)) (hs : Δ[i]? = some (.sat (scrF X.K sa ns))) : DE X W Δ 0 e (raw W.Z (.ref sa)) :=
  (de_sat h hs).imp fun H v o => o.1
theorem c_lenF {K : PySem.W.Frag} {sa : Addr} {ns : List Int} : Cal W (fun xs H Q => ∃ x n, xs = [x] ∧ LenV K x H n ∧ Q (.int n) H) [(scrF K sa ns).as W.Z] (eqd W.Z (.int ns.length)) := fun n H vs w jj o Q q => by
  obtain ⟨v, rfl, o1⟩ := allo_1 o
  obtain ⟨rfl, h⟩ := scrF_sq o1
  have e : LenV K (.ref sa) H (ns.map V.int).length := .inl ⟨_, h, rfl⟩
  rw [List.length_map] at e
  exact ⟨_, _, rfl, e, q _ H Ext.refl (ok_eqd (.int _))⟩
end
end Dv
set_option maxRecDepth 100000
set_option maxHeartbeats 4000000
/-! Dv32: names set to comprehensions' lists (data, or one's own); two names at once; methods by two keywords; list * int, list[::-1]; items stored. -/
namespace Dv
open PySem PySem.Spec PyProof.Rows L2
section
variable {X : Cx} {W : Wd} {Δ : List Sl} {m m1 m2 m3 : Nat} {pos : Pos}
def tLO (W : Wd) (Δ : List Sl) (c : Nat) (R : PyData → Prop) : L2.St → Hp → VK → Prop := fun σ H Q => ∃ n, n + c ≤ BIG ∧ Ok W n Δ σ H ∧ ∀ p acc ys H', Ok (W.pinL [(p, .lst acc)]) (n + c) Δ σ H' → Das (W.pinL [(p, .lst acc)]).Z H' acc ys → R (.list ys) → Q (.ref p) H'
theorem lc_coreO {own : List (Str × Nat)} {j c1 c2 M : Nat} {Ps : List PyData → Prop} {Pt : PyData → Bool → Prop} {Pe : PyData → PyData → Prop} {R : PyData → Prop} (hjv : j ∈ own.map (·.2)) (hM : ∀ xs, Ps xs → xs.length ≤ M) (hM2 : M ≤ 1000000) (hR : ∀ xs ys, Ps xs → Picks Pt Pe xs ys → R (.list ys)) :
    ∀ σ H Q, tLO W Δ (m + M * (c1 + c2)) R σ H Q → tLc (tDI W Δ m Ps) (gName j) (lcT W (wipeS Δ (own.map (·.2))) j c1 Ps Pt) (lcE W (wipeS Δ (own.map (·.2))) j c2 Ps Pt Pe) (own.map (·.2)) σ H Q := by
  rintro σ H Q ⟨n, l, k, z⟩
  refine ⟨n, by omega, k, fun J H1 xs k1 q1 px sr D hD => ?_⟩
  obtain ⟨G, Y, wk, hG, hY⟩ := sr.ex
  have nD : ¬ W.Z D := k1.w.new k1.j hD
  have hlen := hM xs px
  have lz := sizeLine_eq
  -- what holds behind i items
  let Pv : Nat → Hp → Prop := fun i H' => W.J (n + m + i * (c1 + c2)) H' ∧ Kp W.Z H1 H' ∧ ∃ acc ys, H' D = some (.lst acc) ∧ Das (W.add D fun _ _ => True).Z H' acc ys ∧ Picks Pt Pe (xs.take i) ys
  have inner : ∀ i H', Pv i H' → ∀ acc, H' D = some (.lst acc) → Ok (W.add D fun _ o => o = .lst acc) (n + m + i * (c1 + c2)) Δ σ H' := fun i H' ⟨j, e, _⟩ acc ha => k1.pin hD e j (by omega) ha ⟨0, Nat.zero_le _, rfl⟩
  refine lc_it (g := gName j) (tt := lcT W (wipeS Δ (own.map (·.2))) j c1 Ps Pt) (te := lcE W (wipeS Δ (own.map (·.2))) j c2 Ps Pt Pe) (vs := own.map (·.2)) (σ := σ) (H1 := H1) (D := D) (Qd := fun H => Q (.ref D) H) wk Pv ?_ ?_ ?_ ?_
  · refine ⟨by simpa using k1.w.ext k1.j (.new hD), (Ext.new hD).kp, [], [], upd_same, .nil, ?_⟩
    rw [List.take_zero]
    exact .nil
  · intro i H' _ ⟨_, e, _⟩
    exact hG (W.add D fun _ _ => True).Z H' (fun a y => sub_z hD a y) (e.wide fun a y => z_add a y)
  · intro i x0 H2 H3 hi p y
    obtain ⟨j2, e2, acc, ys, ha, hd, hp⟩ := p
    have ko := inner i H2 ⟨j2, e2, acc, ys, ha, hd, hp⟩ acc ha
    obtain ⟨e3, d, hxd, hda⟩ := hY (W.add D fun _ o => o = .lst acc).Z i H2 x0 H3 (fun a y => sub_z hD a y) (e2.wide fun a y => z_add a y) (fun a y => ko.w.alive _ H2 a ko.j y) hi y
    have dm : d ∈ xs := List.mem_of_getElem? hxd
    have k3 := ko.ext e3
    have hbig : (i + 1) * (c1 + c2) ≤ M * (c1 + c2) := Nat.mul_le_mul_right _ (by omega)
    have hs1 : (i + 1) * (c1 + c2) = i * (c1 + c2) + (c1 + c2) := Nat.succ_mul _ _
    refine ⟨?_, D, (fun _ o => o = .lst acc), xs, d, nD, px, dm, n + m + i * (c1 + c2), by omega, ?_, ?_⟩
    · rw [wipe_set _ _ hjv]
      exact wipe_wipe _ _ fun v hv => hv
    · exact ⟨k3.wb, k3.j, pset (show SlOk _ _ (.val d) (some x0) from ⟨x0, rfl, hda⟩) j (wipe_ok _ k3.sl), k3.kept, k3.nd, k3.fr⟩
    · intro b H4 k4 q4 pb
      have back : ∀ {H' : Hp}, Kp (W.add D fun _ o => o = .lst acc).Z H3 H' → Kp W.Z H1 H' := fun q a o na h1 => by
        have ne : a ≠ D := fun c => by
          rw [c, hD] at h1
          cases h1
        exact q a o (fun c => (add_z.mp c).elim ne na) (e3 a o (e2 a o na h1))
      obtain ⟨⟨o4, h4, _, _, eq4⟩, j4⟩ := add_j.mp k4.j
      subst eq4
      have d4 : Das (W.add D fun _ _ => True).Z H4 acc ys := (hd.mono (e3.kp.trans (q4.wide zz)) fun a y => .inl y)
      cases b with
      | false =>
        refine ⟨k4.w.up _ _ H4 k4.j (by omega) |> fun j => (add_j.mp j).2, back q4, acc, ys, h4, d4, ?_⟩
        rw [filter_take_succ hxd]
        exact .skip hp pb
      | true =>
        refine ⟨D, (fun _ o => o = .lst acc), xs, d, nD, px, dm, pb, n + m + i * (c1 + c2) + c1, by omega, k4, fun y0 H5 k5 q5 o5 => ?_⟩
        obtain ⟨z0, hz0, pe0⟩ := o5
        obtain ⟨⟨o5, h5, _, _, eq5⟩, j5⟩ := add_j.mp k5.j
        subst eq5
        have la : acc.length = ys.length := d4.length
        have ly := hp.len
        rw [List.length_take] at ly
        have kD : Kp (W.add D fun _ _ => True).Z H5 (upd H5 D (.lst (acc ++ [y0]))) := fun a o na h => by
          rw [upd_ne (fun c => na (add_z.mpr (.inl c)))]
          exact h
        refine ⟨acc, h5, by omega, ?_, ?_, _, ys ++ [z0], upd_same, ?_, ?_⟩
        · refine k5.w.up _ (n + m + (i + 1) * (c1 + c2)) H5 k5.j (by omega) |> fun j => ?_
          exact k1.w.loc _ H5 _ (add_j.mp j).2 fun a y => upd_ne (fun c => nD (c ▸ y))
        · intro a o na h1
          have ne : a ≠ D := fun c => by
            rw [c, hD] at h1
            cases h1
          rw [upd_ne ne]
          exact back (q4.trans q5) a o na h1
        · exact ((d4.mono (q5.wide zz) fun a y => .inl y).append (.cons (hz0.mono Kp.refl fun a y => .inl (zz a y)) .nil)).mono kD fun a y => .inl y
        · rw [filter_take_succ hxd]
          exact .take hp pb pe0
  · intro H' ⟨j', e', acc, ys, ha, hd, hp⟩
    rw [List.take_length] at hp
    have hbig : xs.length * (c1 + c2) ≤ M * (c1 + c2) := Nat.mul_le_mul_right _ hlen
    have kr : Ok (W.add D fun _ o => o = .lst acc) _ Δ σ H' := inner _ H' ⟨j', e', acc, ys, ha, hd, by rw [List.take_length]; exact hp⟩ acc ha
    exact z D acc ys H' (kr.up (by omega)) (hd.mono Kp.refl fun a y => .inl (add_z.mpr ((pinL_z.mp y).imp (fun y => List.mem_singleton.mp y) id))) (hR xs ys px hp)
theorem hs_setLcD {D : Ends} {sts : List Stmt} {N : Nat} {spos py : Pos} {y : Str} {iy : Nat} {x : Str} {px : Pos} {elt iter : Expr} {ifs : List Expr} {scope : Scope} {own : List (Str × Nat)} {j c1 c2 M : Nat} {Ps : List PyData → Prop} {Pt : PyData → Bool → Prop} {Pe : PyData → PyData → Prop} {R : PyData → Prop}
    (hyi : X.N[iy]? = some y) (hyl : X.env.scope.names.lookup y = some .local) (hsw : swapsWith (.ListComp elt [⟨.Name x px, iter, ifs, 0⟩] scope pos) (some (.Name y py)) spos.line X.env = pure true)
    (hc : X.calm = true) (hN : X.N.Nodup) (hi : DI X W Δ m (.Name x px) iter Ps) (ok : BlkOk X.N X.env.scope scope own) (hj : X.N[j]? = some x) (hjv : j ∈ own.map (·.2)) (hM : ∀ xs, Ps xs → xs.length ≤ M) (hM2 : M ≤ 1000000)
    (hx : ∀ (s : Shared) (H : Hp) (C : Addr) (cl : List (Str × Addr)) (fp : List Addr), PG (X.blk s H scope (compEnvC scope cl C X.env) fp) (.Name x px) (gName j))
    (ht : ∀ (s : Shared) (H : Hp) (C : Addr) (cl : List (Str × Addr)) (fp : List Addr) (D : Addr) (φ : Nat → HO → Prop) (xs : List PyData) (d : PyData), ¬ W.Z D → Ps xs → d ∈ xs → PTs (X.blk s H scope (compEnvC scope cl C X.env) fp) ifs (tDT (W.add D φ) ((wipeS Δ (own.map (·.2))).set j (.val d)) c1 (Pt d)))
    (he : ∀ (s : Shared) (H : Hp) (C : Addr) (cl : List (Str × Addr)) (fp : List Addr) (D : Addr) (φ : Nat → HO → Prop) (xs : List PyData) (d : PyData), ¬ W.Z D → Ps xs → d ∈ xs → Pt d true → DE (X.blk s H scope (compEnvC scope cl C X.env) fp) (W.add D φ) ((wipeS Δ (own.map (·.2))).set j (.val d)) c2 elt (dat _ (Pe d)))
    (hR : ∀ xs ys, Ps xs → Picks Pt Pe xs ys → R (.list ys)) (hb : N + (m + M * (c1 + c2)) ≤ BIG)
    (hr : ∀ ds, R (.list ds) → HS X (Ok W (N + (m + M * (c1 + c2))) (Δ.set iy (.val (.list ds)))) sts D)
    (hs : ∀ x, foldedSetIterable iter X.env x = pure x := by intro _; rfl) :
    HS X (Ok W N Δ) (.Assign [.Name y py] (.ListComp elt [⟨.Name x px, iter, ifs, 0⟩] scope pos) spos :: sts) D := by
  have pt : ∀ (s : Shared) (H : Hp) (C : Addr) (cl : List (Str × Addr)) (fp : List Addr), PTs (X.blk s H scope (compEnvC scope cl C X.env) fp) ifs (lcT W (wipeS Δ (own.map (·.2))) j c1 Ps Pt) :=
    fun s H C cl fp => ⟨fun pins s' σ' H' Q I ⟨D, φ, xs, d, n1, n2, n3, z⟩ => (ht s H C cl fp D φ xs d n1 n2 n3).run pins s' σ' H' Q I z⟩
  have pe : ∀ (s : Shared) (H : Hp) (C : Addr) (cl : List (Str × Addr)) (fp : List Addr), PE (X.blk s H scope (compEnvC scope cl C X.env) fp) elt (lcE W (wipeS Δ (own.map (·.2))) j c2 Ps Pt Pe) :=
    fun s H C cl fp => ⟨fun pins s' σ' H' Q I ⟨D, φ, xs, d, n1, n2, n3, n4, z⟩ => (he s H C cl fp D φ xs d n1 n2 n3 n4).run pins s' σ' H' Q I z⟩
  refine hs_cons (mid := fun σ H => ∃ ds, R (.list ds) ∧ Ok W (N + (m + M * (c1 + c2))) (Δ.set iy (.val (.list ds))) σ H) (ps_to (ps_setLc hc hN hyi hyl hsw hi ok hx pt pe hs) fun D' σ H z => lc_core hjv hM hM2 hR _ _ _ ⟨N, hb, z.1, fun v H1 k1 q1 o1 => ?_⟩) (hs_ex fun ds => hs_and fun h => hr ds h)
  obtain ⟨p, vs, ds, rfl, _, nz, h1, h2, h3⟩ := o1
  exact z.2.1 _ _ ⟨ds, h3, k1.put iy (s := .val (.list ds)) ⟨_, rfl, .lst h1 nz h2⟩⟩
theorem hs_setLcO {D : Ends} {sts : List Stmt} {N : Nat} {spos py : Pos} {y : Str} {iy : Nat} {x : Str} {px : Pos} {elt iter : Expr} {ifs : List Expr} {scope : Scope} {own : List (Str × Nat)} {j c1 c2 M : Nat} {Ps : List PyData → Prop} {Pt : PyData → Bool → Prop} {Pe : PyData → PyData → Prop} {R : PyData → Prop}
    (hyi : X.N[iy]? = some y) (hyl : X.env.scope.names.lookup y = some .local) (hsw : swapsWith (.ListComp elt [⟨.Name x px, iter, ifs, 0⟩] scope pos) (some (.Name y py)) spos.line X.env = pure true)
    (hc : X.calm = true) (hN : X.N.Nodup) (hi : DI X W Δ m (.Name x px) iter Ps) (ok : BlkOk X.N X.env.scope scope own) (hj : X.N[j]? = some x) (hjv : j ∈ own.map (·.2)) (hM : ∀ xs, Ps xs → xs.length ≤ M) (hM2 : M ≤ 1000000)
    (hx : ∀ (s : Shared) (H : Hp) (C : Addr) (cl : List (Str × Addr)) (fp : List Addr), PG (X.blk s H scope (compEnvC scope cl C X.env) fp) (.Name x px) (gName j))
    (ht : ∀ (s : Shared) (H : Hp) (C : Addr) (cl : List (Str × Addr)) (fp : List Addr) (D : Addr) (φ : Nat → HO → Prop) (xs : List PyData) (d : PyData), ¬ W.Z D → Ps xs → d ∈ xs → PTs (X.blk s H scope (compEnvC scope cl C X.env) fp) ifs (tDT (W.add D φ) ((wipeS Δ (own.map (·.2))).set j (.val d)) c1 (Pt d)))
    (he : ∀ (s : Shared) (H : Hp) (C : Addr) (cl : List (Str × Addr)) (fp : List Addr) (D : Addr) (φ : Nat → HO → Prop) (xs : List PyData) (d : PyData), ¬ W.Z D → Ps xs → d ∈ xs → Pt d true → DE (X.blk s H scope (compEnvC scope cl C X.env) fp) (W.add D φ) ((wipeS Δ (own.map (·.2))).set j (.val d)) c2 elt (dat _ (Pe d)))
    (hR : ∀ xs ys, Ps xs → Picks Pt Pe xs ys → R (.list ys)) (hb : N + (m + M * (c1 + c2)) ≤ BIG)
    (hr : ∀ p vs ds, R (.list ds) → HS X (Ok (W.pinL [(p, .lst vs)]) (N + (m + M * (c1 + c2))) (Δ.set iy (.own p vs ds))) sts D)
    (hs : ∀ x, foldedSetIterable iter X.env x = pure x := by intro _; rfl) :
    HS X (Ok W N Δ) (.Assign [.Name y py] (.ListComp elt [⟨.Name x px, iter, ifs, 0⟩] scope pos) spos :: sts) D := by
  have pt : ∀ (s : Shared) (H : Hp) (C : Addr) (cl : List (Str × Addr)) (fp : List Addr), PTs (X.blk s H scope (compEnvC scope cl C X.env) fp) ifs (lcT W (wipeS Δ (own.map (·.2))) j c1 Ps Pt) :=
    fun s H C cl fp => ⟨fun pins s' σ' H' Q I ⟨D, φ, xs, d, n1, n2, n3, z⟩ => (ht s H C cl fp D φ xs d n1 n2 n3).run pins s' σ' H' Q I z⟩
  have pe : ∀ (s : Shared) (H : Hp) (C : Addr) (cl : List (Str × Addr)) (fp : List Addr), PE (X.blk s H scope (compEnvC scope cl C X.env) fp) elt (lcE W (wipeS Δ (own.map (·.2))) j c2 Ps Pt Pe) :=
    fun s H C cl fp => ⟨fun pins s' σ' H' Q I ⟨D, φ, xs, d, n1, n2, n3, n4, z⟩ => (he s H C cl fp D φ xs d n1 n2 n3 n4).run pins s' σ' H' Q I z⟩
  refine hs_cons (mid := fun σ H => ∃ p vs ds, R (.list ds) ∧ Ok (W.pinL [(p, .lst vs)]) (N + (m + M * (c1 + c2))) (Δ.set iy (.own p vs ds)) σ H) (ps_to (ps_setLc hc hN hyi hyl hsw hi ok hx pt pe hs) fun D' σ H z => lc_coreO hjv hM hM2 hR _ _ _ ⟨N, hb, z.1, fun p acc ys H' k hd hr => ?_⟩) (hs_ex fun p => hs_ex fun vs => hs_ex fun ds => hs_and fun h => hr p vs ds h)
  exact z.2.1 _ _ ⟨p, acc, ys, hr, k.put iy (s := .own p acc ys) ⟨rfl, hd⟩⟩
/-- y = [elt for x in iter if test], all exact -/
theorem hs_setLcF {D : Ends} {sts : List Stmt} {N : Nat} {spos py : Pos} {y : Str} {iy : Nat} {x : Str} {px : Pos} {elt iter test : Expr} {scope : Scope} {own : List (Str × Nat)} {j : Nat} {xs : List PyData} {f : PyData → Bool} {g : PyData → PyData}
    (hyi : X.N[iy]? = some y) (hyl : X.env.scope.names.lookup y = some .local) (hsw : swapsWith (.ListComp elt [⟨.Name x px, iter, [test], 0⟩] scope pos) (some (.Name y py)) spos.line X.env = pure true)
    (hc : X.calm = true) (hN : X.N.Nodup) (hi : DI X W Δ 0 (.Name x px) iter (· = xs)) (ok : BlkOk X.N X.env.scope scope own) (hj : X.N[j]? = some x) (hjv : j ∈ own.map (·.2)) (hM2 : xs.length ≤ 1000000)
    (hx : ∀ (s : Shared) (H : Hp) (C : Addr) (cl : List (Str × Addr)) (fp : List Addr), PG (X.blk s H scope (compEnvC scope cl C X.env) fp) (.Name x px) (gName j))
    (ht : ∀ (s : Shared) (H : Hp) (C : Addr) (cl : List (Str × Addr)) (fp : List Addr) (D : Addr) (φ : Nat → HO → Prop) (d : PyData), ¬ W.Z D → d ∈ xs → DT (X.blk s H scope (compEnvC scope cl C X.env) fp) (W.add D φ) ((wipeS Δ (own.map (·.2))).set j (.val d)) 0 test (· = f d))
    (he : ∀ (s : Shared) (H : Hp) (C : Addr) (cl : List (Str × Addr)) (fp : List Addr) (D : Addr) (φ : Nat → HO → Prop) (d : PyData), ¬ W.Z D → d ∈ xs → f d = true → DE (X.blk s H scope (compEnvC scope cl C X.env) fp) (W.add D φ) ((wipeS Δ (own.map (·.2))).set j (.val d)) 0 elt (eqd _ (g d)))
    (hb : N ≤ BIG) (hr : HS X (Ok W N (Δ.set iy (.val (.list ((xs.filter f).map g))))) sts D)
    (hs : ∀ x, foldedSetIterable iter X.env x = pure x := by intro _; rfl) :
    HS X (Ok W N Δ) (.Assign [.Name y py] (.ListComp elt [⟨.Name x px, iter, [test], 0⟩] scope pos) spos :: sts) D :=
  hs_setLcD (m := 0) (c1 := 0) (c2 := 0) (M := xs.length) (Ps := (· = xs)) (Pt := fun d b => b = f d) (Pe := fun d z => f d = true → z = g d) (R := (· = .list ((xs.filter f).map g))) hyi hyl hsw hc hN hi ok hj hjv (fun ys e => by rw [e]; exact Nat.le_refl _) hM2 hx
    (fun s H C cl fp D φ ys d nD e md => dts_one (ht s H C cl fp D φ d nD (by rw [← e]; exact md))) (fun s H C cl fp D φ ys d nD e md hf => (he s H C cl fp D φ d nD (by rw [← e]; exact md) hf.symm).imp fun H v ⟨z, o, ez⟩ => ⟨z, o, fun _ => ez⟩)
    (fun ys zs e pk => by rw [← e]; exact congrArg PyData.list pk.fn) (by simpa using hb) (fun ds e => by
      cases e
      have e0 : N + (0 + xs.length * (0 + 0)) = N := by simp
      rw [e0]
      exact hr) hs
theorem Picks.at {Pt : PyData → Bool → Prop} {Pe : PyData → PyData → Prop} (hf : ∀ d, ¬ Pt d false) {xs ys : List PyData} (h : Picks Pt Pe xs ys) : ∀ {i : Nat} {d : PyData}, xs[i]? = some d → ∃ z, ys[i]? = some z ∧ Pe d z := by
  induction h with
  | nil => intro i d e; simp at e
  | skip _ q _ => exact absurd q (hf _)
  | take h1 q pe ih =>
    rename_i d0 z0 xs0 ys0
    intro i d e
    have hl := h1.full hf
    by_cases c : i < xs0.length
    · rw [List.getElem?_append_left c] at e
      obtain ⟨z, e2, p⟩ := ih e
      exact ⟨z, by rw [List.getElem?_append_left (by omega)]; exact e2, p⟩
    · rw [List.getElem?_append_right (by omega)] at e
      have hi : i - xs0.length = 0 := by
        have := (List.getElem?_eq_some_iff.mp e).1
        simp at this
        omega
      rw [hi] at e
      have e : d0 = d := by simpa using e
      subst e
      refine ⟨z0, ?_, pe⟩
      rw [List.getElem?_append_right (by omega), show i - ys0.length = 0 by omega]
      rfl
theorem prs_of {Q : Int × Int → Prop} : ∀ {zs : List PyData}, (∀ z ∈ zs, ∃ s, z = pr2 s ∧ Q s) → ∃ ss : List (Int × Int), zs = ss.map pr2 ∧ ∀ s ∈ ss, Q s
  | [], _ => ⟨[], rfl, fun _ m => nomatch m⟩
  | z :: zs, h => by
    obtain ⟨s, rfl, q⟩ := h z List.mem_cons_self
    obtain ⟨ss, rfl, hs⟩ := prs_of fun z m => h z (List.mem_cons_of_mem _ m)
    exact ⟨s :: ss, rfl, fun t m => by
      rcases List.mem_cons.mp m with rfl | m
      · exact q
      · exact hs t m⟩
end
section
variable {X : Cx} {W : Wd} {Δ : List Sl} {m m1 m2 m3 : Nat} {tg e a b oe ie : Expr} {D : Ends} {sts : List Stmt} {N : Nat} {pos p : Pos} {l : List (Addr × HO)} {q : Addr} {vs : List V} {ds : List PyData}
/-- target = e, e known by a relation -/
theorem hs_asgTP {fit : PyData → Prop} {put : List Sl → PyData → List Sl} {Pd : PyData → Prop} (ht : TGo X tg fit put) (he : DE X W Δ m e (dat W.Z Pd)) (hf : ∀ d, Pd d → fit d) (hb : N + m ≤ BIG) (hr : ∀ d, Pd d → HS X (Ok W (N + m) (put Δ d)) sts D)
    (h1 : swapsWithSole [tg] e pos.line X.env = pure false := by rfl) (h2 : swappedStores [tg] e X.env = pure none := by rfl) (h3 : (assignEach [tg] X.env).map (·.2) = [assign tg X.env] := by rfl) : HS X (Ok W N Δ) (.Assign [tg] e pos :: sts) D := by
  obtain ⟨g, hg, hgo⟩ := ht
  exact hs_cons (mid := fun σ H => ∃ d, Pd d ∧ Ok W (N + m) (put Δ d) σ H) (ps_to (ps_asg he hg h1 h2 h3) fun D' σ H z => ⟨N, hb, z.1, fun v H1 k1 q1 ⟨d, o, pd⟩ => hgo _ _ _ _ _ _ _ k1 o (hf d pd) _ fun σ' k2 => z.2.1 _ _ ⟨d, pd, k2⟩⟩) (hs_ex fun d => hs_and (hr d))
/-- x, y = a, b: data -/
theorem hs_par2P {i j : Nat} {x y : Str} {P1 P2 : PyData → Prop} {px py pt : Pos} {kt k2 pt2} (hc : X.calm = true) (hN : X.N.Nodup) (hi : X.N[i]? = some x) (hj : X.N[j]? = some y) (hij : i ≠ j)
    (hx : X.env.scope.names.lookup x = some .local) (hy : X.env.scope.names.lookup y = some .local) (ha : DE X W Δ m1 a (dat W.Z P1)) (hb : DE X W Δ m2 b (dat W.Z P2)) (hN2 : N + (m1 + (m2 + 0)) ≤ BIG)
    (hr : ∀ d1 d2, P1 d1 → P2 d2 → HS X (Ok W (N + (m1 + (m2 + 0))) ((Δ.set i (.val d1)).set j (.val d2))) sts D)
    (hw : swappedStores [.Tuple [.Name x px, .Name y py] kt pt] (.Tuple [a, b] k2 pt2) X.env = pure (some [x, y]))
    (h1 : starEach [a, b] X.env = (false, eval a X.env) :: starEach [b] X.env := by rfl) (h2 : starEach [b] X.env = (false, eval b X.env) :: starEach [] X.env := by rfl)
    (hs : swapsWithSole [.Tuple [.Name x px, .Name y py] kt pt] (.Tuple [a, b] k2 pt2) pos.line X.env = pure false := by rfl) :
    HS X (Ok W N Δ) (.Assign [.Tuple [.Name x px, .Name y py] kt pt] (.Tuple [a, b] k2 pt2) pos :: sts) D := by
  refine hs_cons (mid := fun σ H => ∃ d1 d2, (P1 d1 ∧ P2 d2) ∧ Ok W (N + (m1 + (m2 + 0))) ((Δ.set i (.val d1)).set j (.val d2)) σ H) (ps_to (ps_par hc hN hi hj hij hx hy (da_cons ha (da_cons hb da_nil h2) h1) hw hs) fun D' σ H z => ⟨N, hN2, z.1, fun vs H1 k q o => ?_⟩) (hs_ex fun d1 => hs_ex fun d2 => hs_and fun h => hr d1 d2 h.1 h.2)
  obtain ⟨v, u, rfl, ⟨d1, o1, pd1⟩, d2, o2, pd2⟩ := allo_2 o
  exact ⟨_, _, rfl, z.2.1 _ _ ⟨d1, d2, ⟨pd1, pd2⟩, (k.put i (s := .val d1) ⟨_, rfl, o1⟩).put j (s := .val d2) ⟨_, rfl, o2⟩⟩⟩
theorem das_bls {Z : Addr → Prop} {H : Hp} : ∀ bs : List Bool, Das Z H (bs.map V.bl) (bs.map PyData.bool)
  | [] => .nil
  | b :: bs => .cons (.bl b) (das_bls bs)
/-- x = e, a new list of bools: it is one's own from now on, all other slots stay as they are -/
theorem hs_setOwnB {i : Nat} {y : Str} {pos' : Pos} {R : List Bool → Prop} (hN : X.N.Nodup) (hi : X.N[i]? = some y) (hx : Loc X.env.scope y) (he : ∀ H, DE X (W.sub H) Δ m e (frN (W.sub H) fun d => ∃ bs : List Bool, d = .list (bs.map .bool) ∧ R bs)) (hb : N + m ≤ BIG)
    (hr : ∀ p bs, R bs → HS X (Ok (W.pinL [(p, .lst (bs.map .bl))]) (N + m) (Δ.set i (.own p (bs.map .bl) (bs.map .bool)))) sts D)
    (hs : swapsWith e (some (.Name y pos')) pos.line X.env = pure false := by rfl) (hf : X.fn y = true ∨ X.env.scope.names.lookup y = some .local := by first | exact .inl rfl | exact .inr rfl | assumption) : HS X (Ok W N Δ) (.Assign [.Name y pos'] e pos :: sts) D := by
  have pe : PE X e (fun σ H Q => tD (W.sub H) Δ m (frN (W.sub H) fun d => ∃ bs : List Bool, d = .list (bs.map .bool) ∧ R bs) σ H Q) := ⟨fun pins s σ H Q I z => (he H).run pins s σ H Q I z⟩
  refine hs_cons (mid := fun σ H => ∃ p bs, R bs ∧ Ok (W.pinL [(p, .lst (bs.map .bl))]) (N + m) (Δ.set i (.own p (bs.map .bl) (bs.map .bool))) σ H) (ps_to (ps_set hN hi hx pe hs hf) fun D' σ H z => ⟨N, hb, z.1.sub, fun v H1 k1 q1 o1 => ?_⟩) (hs_ex fun p => hs_ex fun bs => hs_and fun h => hr p bs h)
  obtain ⟨p, vs, ds, rfl, h0, nz, h1, h2, bs, e, h3⟩ := o1
  cases e
  have ev := h2.bls
  subst ev
  have kp : Kp W.Z H H1 := fun a o na h => q1 a o (fun c => na (sub_zz.mp c)) h
  have k : Ok (W.pinL [(p, .lst (bs.map .bl))]) (N + m) Δ σ H1 := z.1.pin (φ := fun _ o => o = .lst (bs.map .bl)) h0 kp (sub_jj.mp k1.j) (by omega) h1 ⟨0, Nat.zero_le _, rfl⟩
  exact z.2.1 _ _ ⟨p, bs, h3, k.put i (s := .own p (bs.map .bl) (bs.map .bool)) ⟨rfl, das_bls bs⟩⟩
/-- list * int -/
theorem o_rep {xs : List PyData} {k : Int} (h0 : 0 ≤ k) (h1 : k ≤ 1000) (h2 : xs.length ≤ 1000) : Op2 W rRep (eqd W.Z (.list xs)) (eqd W.Z (.int k)) (eqd W.Z (.list (List.replicate k.toNat xs).flatten)) := fun n H v u w jj o1 o2 Q qq => by
  have o1 := eqd_ok o1
  have o2 := eqd_ok o2
  cases o2
  cases o1 with
  | lst r nz hd =>
    have hl := hd.length
    refine ⟨_, k, _, rfl, rfl, r, by omega, by omega, ?_, fun p hp => qq _ _ (Ext.new hp) (ok_eqd (.lst upd_same (w.new jj hp) ((rep hd k.toNat).kp (Ext.new hp).kp)))⟩
    have : xs.length * k.toNat ≤ 1000 * 1000 := Nat.mul_le_mul h2 (by omega)
    rw [hl]
    exact Nat.le_trans this (by decide)
where
  rep {Z : Addr → Prop} {H : Hp} {vs : List V} {ds : List PyData} (h : Das Z H vs ds) : ∀ n : Nat, Das Z H (List.replicate n vs).flatten (List.replicate n ds).flatten
    | 0 => .nil
    | n + 1 => by
      rw [List.replicate_succ, List.replicate_succ, List.flatten_cons, List.flatten_cons]
      exact h.append (rep h n)
theorem das_rev {Z : Addr → Prop} {H : Hp} : ∀ {vs : List V} {ds : List PyData}, Das Z H vs ds → Das Z H vs.reverse ds.reverse
  | _, _, .nil => .nil
  | _, _, .cons a t => by
    rw [List.reverse_cons, List.reverse_cons]
    exact (das_rev t).append (.cons a .nil)
/-- list[::-1] -/
theorem de_revL {xs : List PyData} {k : Nat} {p1 p2 p3 : Pos} (he : DE X W Δ m e (eqd W.Z (.list xs))) : DE X W Δ m (.Subscript e (.Slice none none (some (.UnaryOp .USub (.Constant (.int 1) k p1) p2)) p3) pos) (eqd W.Z (.list xs.reverse)) :=
  pe_to (pe_revL he) fun σ H Q ⟨n, ln, kk, z⟩ => ⟨n, ln, kk, fun v H1 k1 q1 o1 => by
    have o := eqd_ok o1
    cases o with
    | lst r nz hd => exact ⟨_, _, rfl, .inl (.inl r), fun p hp => z _ _ (k1.ext (.new hp)) (q1.trans (Ext.new hp).kp) (ok_eqd (.lst upd_same (k1.w.new k1.j hp) ((das_rev hd).kp (Ext.new hp).kp)))⟩⟩
/-- x[i] = e, x a list of one's own: i known, e a bool -/
theorem hs_stB {io j : Nat} {z : Bool} {ps : Pos} {i : Int} (ho : PE X oe (tVar io)) (hs : Δ[io]? = some (.own q vs ds)) (hl : l[j]? = some (q, .lst vs)) (he : DE X (W.pinL l) Δ 0 e (eqd _ (.bool z))) (hi : DE X (W.pinL l) Δ m ie (eqd _ (.int i))) (hp : 0 ≤ i ∧ i < vs.length) (hb : N + m ≤ BIG)
    (hr : HS X (Ok (W.pinL (l.set j (q, .lst (vs.set i.toNat (.bl z))))) (N + m) (Δ.set io (.own q (vs.set i.toNat (.bl z)) (ds.set i.toNat (.bool z))))) sts D)
    (ha : ∀ v, assign (.Subscript oe ie ps) X.env v = (do let ov ← holding [v] (eval oe X.env); let iv ← holding [v, ov] (eval ie X.env); standAt ps; holding [v, ov, iv] (setItem ov iv v); release [v, ov, iv] []) := by intro _; rfl)
    (h1 : swapsWithSole [.Subscript oe ie ps] e pos.line X.env = pure false := by rfl) (h2 : swappedStores [.Subscript oe ie ps] e X.env = pure none := by rfl) : HS X (Ok (W.pinL l) N Δ) (.Assign [.Subscript oe ie ps] e pos :: sts) D := by
  refine hs_cons (ps_to (ps_asg he (pg_sub ho hi set_list ha) h1 h2) fun D' σ H z0 => ⟨N, by omega, z0.1, fun v H1 k1 q1 o1 => ?_⟩) hr
  have o1 := eqd_ok o1
  cases o1
  refine ⟨_, (k1.own hs).1, N, hb, by simpa using k1, fun u H2 k2 q2 o2 => ?_⟩
  have o2 := eqd_ok o2
  cases o2
  have hq := (pinL_j.mp k2.j).1 _ (List.mem_of_getElem? hl)
  have jn : ixN vs.length i = some i.toNat := by
    unfold ixN
    rw [if_pos hp.1, if_pos hp.2]
  have o3 := k2.own hs
  refine ⟨q, vs, i, i.toNat, rfl, rfl, hq, jn, z0.2.1 _ _ ?_⟩
  have k3 := (k2.mut hl (.lst (vs.set i.toNat (.bl z)))).put io (s := .own q (vs.set i.toNat (.bl z)) (ds.set i.toNat (.bool z))) (v := .ref q) ⟨rfl, hs_stL.das_set (o3.2.mono (kp_mut k2 hl) (z_mut hl)) (.bl z)⟩
  rwa [hs_app.set_self o3.1] at k3
end
section
variable {X : Cx} {W : Wd} {Δ : List Sl} {m1 m2 : Nat} {o : Expr} {pos apos p : Pos} {C : Addr} {f : Str} {k : Nat} {g : Addr} {fd : FuncData} {ps ks : List Str} {F F' : Fam} {pre : List PyData → Prop} {post : List PyData → PyData → Prop} {PR : PyData → Prop}
/-- o.m(k1 = e1, k2 = e2) -/
theorem de_methK2 {pl : Sem Bool} {n1 n2 : Str} {e1 e2 : Expr} {kp1 kp2 : Pos} {d1 d2 : PyData} {perm : List Nat} {d3 d4 : PyData} (G : FnOk X.prog X.w X.K X.mg X.base CX0 k g fd ps (spO F pre post)) (gd : X.A.guards = some []) (ho : DE X W Δ 0 o (F.as W.Z)) (hs : Shape F C f) (c : Cls X.K C) (hm : Meth X.K C f g) (rm : Room k X.A) (hb : KBi X.K fd ps 1 [n1, n2] perm)
    (h1 : DE X W Δ 0 e1 (eqd W.Z d1)) (h2 : DE X W Δ 0 e2 (eqd W.Z d2)) (hpm : (perm = [0, 1, 2] ∧ d3 = d1 ∧ d4 = d2) ∨ (perm = [0, 2, 1] ∧ d3 = d2 ∧ d4 = d1)) (hp : pre [d3, d4]) (hq : ∀ r, post [d3, d4] r → PR r)
    (hall : (backToKw pos (keywordEach [⟨some n1, e1, kp1⟩, ⟨some n2, e2, kp2⟩] X.env)).all (·.1.isSome) = true := by rfl) (hks : (backToKw pos (keywordEach [⟨some n1, e1, kp1⟩, ⟨some n2, e2, kp2⟩] X.env)).filterMap (·.1) = [n1, n2] := by rfl)
    (hpl : ((backTo pos (starEach [] X.env)).any (·.1) || (backToKw pos (keywordEach [⟨some n1, e1, kp1⟩, ⟨some n2, e2, kp2⟩] X.env)).any (·.1.isNone)) = false := by rfl)
    (ht : eval (.Call (.Attribute o f apos) [] [⟨some n1, e1, kp1⟩, ⟨some n2, e2, kp2⟩] pos) X.env = (do
      let ov ← eval o X.env
      standAt apos.atName
      let (f, first) ← holding [ov] (getMethod ov f pl)
      callWith pos f first (backTo pos (starEach [] X.env)) (backToKw pos (keywordEach [⟨some n1, e1, kp1⟩, ⟨some n2, e2, kp2⟩] X.env))) := by rfl) :
    DE X W Δ 0 (.Call (.Attribute o f apos) [] [⟨some n1, e1, kp1⟩, ⟨some n2, e2, kp2⟩] pos) (dat W.Z PR) :=
  pe_to (pe_mk ho c hm (FnG.of G) gd rm hb pass0 (dk_cons h1 (dk_cons h2 dk_nil)) hall hks hpl ht) fun σ H Q ⟨n, l, k, z⟩ => ⟨n, l, k, fun v H1 k1 q1 o1 => by
    obtain ⟨x, dx, fs, rfl, g1, g2⟩ := hs _ _ _ o1
    refine ⟨x, dx, fs, rfl, g1, g2, n, l, k1, fun zs H2 k2 q2 o2 => ?_⟩
    obtain ⟨v1, v2, rfl, o3, o4⟩ := allo_2 o2
    have o3 := eqd_ok o3
    have o4 := eqd_ok o4
    have of := (F.as W.Z).mono q2 o1
    rcases hpm with ⟨rfl, rfl, rfl⟩ | ⟨rfl, rfl, rfl⟩
    · exact ⟨rfl, W.Z, W.J, n, .ref x, [_, _], [d3, d4], k2.w, l, k2.j, rfl, of, .cons o3 (.cons o4 .nil), hp, fun u H' r e j od pr => z u H' (k2.kp e j) ((q1.trans q2).trans e) ⟨r, od, hq r pr⟩⟩
    · exact ⟨rfl, W.Z, W.J, n, .ref x, [_, _], [d3, d4], k2.w, l, k2.j, rfl, of, .cons o4 (.cons o3 .nil), hp, fun u H' r e j od pr => z u H' (k2.kp e j) ((q1.trans q2).trans e) ⟨r, od, hq r pr⟩⟩⟩
/-- a op b op' c, as a value -/
theorem de_chain {a b c : Expr} {A1 A2 A3 : As W.Z} {P1 P2 P : Bool → Prop} {m3 : Nat} {op op' : CmpOp} {r r' : R2} (ho : OpR X (compareOp op) r) (ho' : OpR X (compareOp op') r') (ha : DE X W Δ m1 a A1) (hb : DE X W Δ m2 b A2) (hc : DE X W Δ m3 c A3) (hr : Op2 W r A1 A2 (bol W.Z P1)) (hr' : Op2 W r' A2 A3 (bol W.Z P2))
    (hp : ∀ x y, P1 x → P2 y → P (x && y)) (h0 : P1 false → P false) (hm : lastMarks [op, op'] [b, c] = false := by with_unfolding_all rfl) : DE X W Δ (m1 + (m2 + m3)) (.Compare a [op, op'] [b, c] pos) (bol W.Z P) :=
  pe_to (L2.pe_chain ho ho' ha hb hc hm) fun σ H Q ⟨n, l, k, z⟩ => ⟨n, big1 l, k, fun v H1 k1 q1 o1 => ⟨n + m1, big1 (big2 l), k1, fun u H2 k2 q2 o2 => hr _ H2 v u k2.w k2.j (A1.mono q2 o1) o2 _ fun w H3 e3 o3 => by
    obtain ⟨x, rfl, p⟩ := o3
    refine ⟨x, rfl, ?_⟩
    cases x with
    | false => exact z _ H3 ((k2.ext e3).up (by omega)) ((q1.trans q2).trans e3.kp) ⟨false, rfl, h0 p⟩
    | true =>
      refine ⟨n + m1 + m2, by omega, k2.ext e3, fun x H4 k4 q4 o4 => hr' _ H4 u x k4.w k4.j (A2.mono q4 (A2.mono e3.kp o2)) o4 _ fun y H5 e5 o5 => ?_⟩
      obtain ⟨k', rfl, p'⟩ := o5
      exact z _ H5 ((k4.ext e5).up (by omega)) ((((q1.trans q2).trans e3.kp).trans q4).trans e5.kp) ⟨_, rfl, hp true k' p p'⟩⟩⟩
end
end Dv
set_option maxRecDepth 100000
set_option maxHeartbeats 4000000
/-! Dv33: sorted of a tuple of pairs. -/
namespace SrtO
open PySem PyProof.Rows Srt
section
variable {prog : Program} {w : World} {A : Around} {E : Value → Shared → Prop} {s : Shared}
theorem collect_tup {l : Addr} {vs : List Value} {Q : List Value → Shared → Prop} (hl : IsTup s.heap l vs.toArray)
    (h : Q vs { s with heap := (s.heap.push (seqObj "list" #[] 0)).update s.heap.objs.size (Obj.mapSeq (· ++ vs.toArray)) }) (hsz : vs.length ≤ sizeLine) :
    wpAny (model prog w) A (collect (.ref l)) Q E s := by
  obtain ⟨o, ho, hc, n, hd⟩ := id hl
  unfold collect
  refine wpAny_bind (wpAny_runValue (codeAny_builtin entry_proto_collect' ?_))
  show wpAny _ _ (do again (.builtin "list.__iadd__" ⟨[← newList [], .ref l], []⟩)) _ _ s
  refine wpAny_bind (wpAny_newList (wpAny_pure ⟨Code.quiet_builtin _ (by decide +kernel), codeAny_builtin entry_list_iadd' ?_⟩))
  show wpAny _ _ (Builtin.List.listExtendWith (.ref s.heap.objs.size) (.ref l) (.ref s.heap.objs.size)) _ _ { s with heap := s.heap.push (seqObj "list" #[] 0) }
  unfold Builtin.List.listExtendWith
  have ho' : (s.heap.push (seqObj "list" #[] 0)).get? l = some o := Heap.get?_push_of_some _ ho
  refine wpAny_bind (wpAny_typeOf (T := "tuple") ⟨o, ho', hc⟩ ?_)
  have ht : (Value.type "tuple" == Value.type "tuple") = true := by rfl
  rw [if_pos (by rw [ht]; simp)]
  refine wpAny_bind (listItems_at ho' hd ?_)
  refine wpAny_bind (listItems_at (xs := #[]) (n := 0) (Heap.get?_push_size _ rfl) rfl ?_)
  rw [if_neg (by simp)]
  refine wpAny_bind (listUpdate_at (xs := #[]) (n := 0) (Heap.get?_push_size _ rfl) rfl ?_ (Nat.zero_le _) (by show (#[] ++ vs.toArray).size ≤ sizeLine + 1; simp only [Array.size_append, List.size_toArray, List.length_nil]; omega))
  refine wpAny_pure ?_
  show wpAny (model prog w) A (do
      let o ← load s.heap.objs.size
      match o.data with
      | .seq xs _ => pure xs.toList
      | _ => unsupported "internal:collect") Q E { s with heap := (s.heap.push (seqObj "list" #[] 0)).update s.heap.objs.size (Obj.mapSeq (· ++ vs.toArray)) }
  refine wpAny_bind (wpAny_load (get?_update_seq (Heap.get?_push_size _ rfl) _) ?_)
  show wpAny _ _ (pure ((#[] : Array Value) ++ vs.toArray).toList) Q E _
  rw [show ((#[] : Array Value) ++ vs.toArray).toList = vs by simp]
  exact wpAny_pure h
theorem sorted_ordT {l : Addr} {vs : List Value} {ltv : Value → Value → Bool} {Q : Value → Shared → Prop} (O : Swo ltv) (hl : IsTup s.heap l vs.toArray) (hz : vs.length ≤ sizeLine)
    (hS : 2 ≤ vs.length → ∀ (h₁ : Heap) (a : Addr), h₁.get? a = some (seqObj "list" vs.toArray 0) → (∀ b o, s.heap.get? b = some o → b ≠ a ∧ h₁.get? b = some o) → SortableO prog w A.in1.in1 { s with heap := h₁ } a vs ltv)
    (h : ∀ out : List Value, Srtd ltv out → Stb ltv out vs → Q (.ref (s.heap.objs.size + 1)) { s with heap := sortedAll s.heap vs out.toArray }) :
    wpAny (model prog w) A (call (.builtin "sorted") [.ref l]) Q E s := by
  refine Calls.call_function_entry kind_sorted plain_sorted entry_sorted (args_sorted1 _) ?_
  unfold Builtin.«sorted»
  refine wpAny_bind (m := checkCount "sorted" 1 1 _) (wpAny_pure ?_)
  refine wpAny_bind (collect_tup hl ?_ hz)
  refine wpAny_bind (wpAny_newList ?_ hz)
  have hsz : ((s.heap.push (seqObj "list" #[] 0)).update s.heap.objs.size (Obj.mapSeq (· ++ vs.toArray))).objs.size = s.heap.objs.size + 1 := by
    rw [Heap.size_update, size_push']
  have hoL : (((s.heap.push (seqObj "list" #[] 0)).update s.heap.objs.size (Obj.mapSeq (· ++ vs.toArray))).push (seqObj "list" vs.toArray 0)).get? (s.heap.objs.size + 1) = some (seqObj "list" vs.toArray 0) := by
    rw [← hsz]; exact Heap.get?_push_size _ rfl
  have keep : ∀ b o, s.heap.get? b = some o → b ≠ s.heap.objs.size + 1 ∧ (((s.heap.push (seqObj "list" #[] 0)).update s.heap.objs.size (Obj.mapSeq (· ++ vs.toArray))).push (seqObj "list" vs.toArray 0)).get? b = some o := fun b o q => by
    have hlt : b < s.heap.objs.size := Heap.lt_size q
    refine ⟨Nat.ne_of_lt (Nat.lt_succ_of_lt hlt), Heap.get?_push_of_some _ ?_⟩
    rw [Heap.get?_update_ne _ _ _ _ (Nat.ne_of_lt hlt)]
    exact Heap.get?_push_of_some _ q
  show wpAny _ _ _ _ _ { s with heap := ((s.heap.push (seqObj "list" #[] 0)).update s.heap.objs.size (Obj.mapSeq (· ++ vs.toArray))).push (seqObj "list" vs.toArray 0) }
  rw [hsz]
  refine wpAny_bind (wpAny_holding (wpAny_call_entry slot_list_sort ⟨_, hoL, rfl⟩ entry_list_sort (list_sort_ord O hoL hz (fun h2 => hS h2 _ _ hoL keep) fun out hs hb => ⟨_, rfl, ?_⟩) (args_list_sort _)))
  exact wpAny_pure ⟨_, rfl, h out hs hb⟩
theorem sorted_pairsT {l : Addr} {vs : List Value} {k : Value → Int × Int} {Q : Value → Shared → Prop} (hl : IsTup s.heap l vs.toArray) (hz : vs.length ≤ sizeLine) (hp : ∀ v ∈ vs, IsPair s.heap v (k v).1 (k v).2)
    (h : ∀ (h' : Heap) (d : Addr) (out : List Value), Srtd (fun v u => lexB (k v) (k u)) out → Stb (fun v u => lexB (k v) (k u)) out vs → (∀ b o, s.heap.get? b = some o → h'.get? b = some o) → s.heap.objs.size ≤ d → (∃ n, h'.get? d = some (seqObj "list" out.toArray n)) → Q (.ref d) { s with heap := h' }) :
    wpAny (model prog w) A (call (.builtin "sorted") [.ref l]) Q E s := by
  refine sorted_ordT (swo_lex k) hl hz (fun h2 h₁ a ha kk => ?_) fun out hs hb => ?_
  · refine pairs_sortableO (s := { s with heap := h₁ }) (by omega) (fun v hm => (hp v hm).keeps fun b o e _ => (kk b o e).2) fun o e => ?_
    have e' : some o = some (seqObj "list" vs.toArray 0) := e.symm.trans ha
    cases e'
    intro c
    exact absurd (Value.type.inj c) (by decide)
  · exact h _ _ out hs hb (fun b o e => sortedAll_old e) (Nat.le_succ _) (sortedAll_at s.heap vs out.toArray)
end
end SrtO
namespace Dv
open PySem PySem.Spec PyProof.Rows L2
def rSortedPT (K : PySem.W.Frag) : List V → Hp → VK → Prop := fun vs H Q => ∃ (a : Addr) (xs : List V) (k : V → Int × Int), vs = [V.ref a] ∧ SqT K H a xs ∧ (∀ x ∈ xs, ∃ t, x = V.ref t ∧ H t = some (.tup [.int (k x).1, .int (k x).2])) ∧
  ∀ ys p, SrtO.Srtd (ltP k) ys → SrtO.Stb (ltP k) ys xs → H p = none → Q (.ref p) (upd H p (.lst ys))
theorem cr_sortedPT {X : Cx} : CallR X (.builtin "sorted") (rSortedPT X.K) := by
  intro pins s σ H vs us Q I r h
  obtain ⟨a, xs, k, rfl, hs, hx, q⟩ := h
  obtain ⟨its, rv, hl, hz⟩ := I.tuple hs
  obtain ⟨u, rfl, ru⟩ := vals1 r
  obtain rfl : u = Value.ref a := ru
  obtain ⟨e1, e2⟩ := refs_back rv fun x m => by
    obtain ⟨t, e, _⟩ := hx x m
    exact ⟨t, e⟩
  refine SrtO.sorted_pairsT (k := fun u => k (backV u)) hl (by rw [← rv.length]; exact hz) (fun v hv => ?_) fun h' d out h1 h2 kp hd hn => ?_
  · obtain ⟨t, rfl⟩ := e2 v hv
    have hm : V.ref t ∈ xs := by rw [e1]; exact List.mem_map.mpr ⟨_, hv, rfl⟩
    obtain ⟨t', e, ht⟩ := hx _ hm
    cases e
    obtain ⟨_, its2, r2, o, ho, hc, n, hd⟩ := I.hok _ _ ht
    obtain ⟨u1, u2, rfl, ri, rj⟩ := vals2 r2
    obtain ⟨t1, rfl⟩ := ri
    obtain ⟨t2, rfl⟩ := rj
    exact ⟨t, o, t1, t2, n, rfl, ho, hc, hd⟩
  · have h3 : ∀ u ∈ out, ∃ a, u = Value.ref a := fun u hu => e2 u (h2.perm.mem_iff.mp hu)
    obtain ⟨n, hn⟩ := hn
    have hb : SrtO.Stb (ltP k) (out.map backV) xs := by
      rw [e1]
      exact SrtO.Stb.map (ltP_swo k) backV h2
    refine ⟨.ref d, upd H d (.lst (out.map backV)), I.laid (t' := s.toks) kp hd ⟨?_, out, n, vals_back h3, hn⟩, rfl, q _ d (SrtO.srtd_map h1) hb (I.hok.fresh hd)⟩
    rw [hb.len]
    exact hz
/-- a list or a tuple of these pairs -/
def Sq (d : PyData) (ss : List (Int × Int)) : Prop := d = .list (ss.map pr2) ∨ d = .tuple (ss.map pr2)
section
variable {X : Cx} {W : Wd} {Δ : List Sl} {m : Nat} {e tg : Expr} {pos p : Pos} {d : PyData} {ss : List (Int × Int)}
theorem de_sortedQ (hg : Gl X "sorted") (hm : X.mg "sorted" = none) (hq : Sq d ss) (h : DE X W Δ m e (eqd W.Z d))
    (he : starEach (e :: []) X.env = (false, eval e X.env) :: starEach [] X.env := by rfl) (hpl : (backTo pos (starEach [] X.env)).any (·.1) = false := by rfl) :
    DE X W Δ (m + 0) (.Call (.Name "sorted" p) [e] [] pos) (dat W.Z (SortedOf ss)) := by
  rcases hq with rfl | rfl
  · exact de_sorted hg hm h he hpl
  · exact de_cb cr_sortedPT hg hm (by rfl) (da_cons h da_nil he) (fun n H vs w jj o Q q => by
      obtain ⟨v, rfl, o'⟩ := allo_1 o
      have o := eqd_ok o'
      cases o with
      | tup r nz hd =>
        obtain ⟨i1, i2⟩ := prs_da hd
        refine ⟨_, _, kH H, rfl, .inl (.inl r), fun x m => (i2 x m).2, fun ys l hs hb hl => q _ _ (Ext.new hl) ⟨.list ((ys.map (kH H)).map pr2), .lst upd_same (w.new jj hl) ?_, ys.map (kH H), rfl, ?_, ?_⟩⟩
        · exact (prs_back fun x m => (i2 x (hb.perm.mem_iff.mp m)).1).kp (Ext.new hl).kp
        · rw [← i1]
          exact hb.perm.map _
        · rw [List.pairwise_map]
          refine hs.imp fun q => ?_
          have := SrtO.lexB_no.mp q
          omega) (he := he) (hpl := hpl)
theorem di_seq (hq : Sq d ss) (h : DE X W Δ m e (eqd W.Z d)) : DI X W Δ m tg e (· = ss.map pr2) := by
  rcases hq with rfl | rfl
  · exact di_list h
  · exact di_tup h
end
end Dv
set_option maxRecDepth 100000
set_option maxHeartbeats 4000000
/-! Dv34: pairs in a list, in a tuple, or in the empty tuple that the top has left (a default); defs called with what a Fam tells. -/
namespace Dv
open PySem PySem.Spec PyProof.Rows L2
/-- an empty tuple of the top -/
def KT (K : PySem.W.Frag) (t : Addr) : Prop := ∃ (o : Obj) (n : Nat), K.lookup t = some o ∧ o.cls = .type "tuple" ∧ o.data = .seq #[] n
theorem KT.sq {K : PySem.W.Frag} {t : Addr} (h : KT K t) (H : Hp) : SqT K H t [] := by
  obtain ⟨o, n, h1, h2, h3⟩ := h
  exact .inr ⟨o, #[], n, h1, h2, h3, Nat.zero_le _, .nil⟩
def sqF (K : PySem.W.Frag) (ss : List (Int × Int)) : Fam := ⟨fun Z H v => (∃ d, Da Z H v d ∧ Sq d ss) ∨ (ss = [] ∧ ∃ t, v = .ref t ∧ KT K t), fun k z h => h.imp (fun ⟨d, o, q⟩ => ⟨d, o.mono k z, q⟩) id⟩
section
variable {X : Cx} {W : Wd} {Δ : List Sl} {m m1 : Nat} {e tg : Expr} {pos p : Pos} {d : PyData} {ss : List (Int × Int)}
theorem sq_list (h : DE X W Δ m e (eqd W.Z (.list (ss.map pr2)))) : DE X W Δ m e ((sqF X.K ss).as W.Z) := h.imp fun H v o => .inl ⟨_, eqd_ok o, .inl rfl⟩
theorem c_isiQ {K : PySem.W.Frag} {S T : String} {r : Bool} (h1 : PySem.W.kitAny K (.type "list") [.type S, .type T] = some r) (h2 : PySem.W.kitAny K (.type "tuple") [.type S, .type T] = some r) : Cal W (rIsiT K) [(sqF K ss).as W.Z, tys W.Z S T] (eqd W.Z (.bool r)) := fun n H vs w jj o Q q => by
  obtain ⟨v, u, rfl, o1, t, rfl, nz, ht⟩ := allo_2 o
  have ty : TyX K H v (.type "list") ∨ TyX K H v (.type "tuple") := by
    rcases o1 with ⟨d, o, rfl | rfl⟩ | ⟨_, t', rfl, oo, n', k1, k2, _⟩
    · exact .inl (ty_da o)
    · exact .inr (ty_da o)
    · exact .inr (.kTuple k1 k2)
  rcases ty with ty | ty
  · exact ⟨v, t, _, _, _, r, rfl, ht, .cons (.ty S) (.cons (.ty T) .nil), ty, h1, q _ H Ext.refl (ok_eqd (.bl _))⟩
  · exact ⟨v, t, _, _, _, r, rfl, ht, .cons (.ty S) (.cons (.ty T) .nil), ty, h2, q _ H Ext.refl (ok_eqd (.bl _))⟩
/-- sorted of them -/
theorem c_sortQ : Cal W (fun xs H Q => rSortedPO X.K xs H Q ∨ rSortedPT X.K xs H Q) [(sqF X.K ss).as W.Z] (dat W.Z (SortedOf ss)) := fun n H vs w jj o Q q => by
  obtain ⟨v, rfl, o1⟩ := allo_1 o
  have fin : ∀ (xs : List V) (i1 : xs.map (kH H) = ss) (i2 : ∀ x ∈ xs, Da W.Z H x (pr2 (kH H x)) ∧ ∃ t, x = .ref t ∧ H t = some (.tup [.int (kH H x).1, .int (kH H x).2])) (ys : List V) (l : Addr), SrtO.Srtd (ltP (kH H)) ys → SrtO.Stb (ltP (kH H)) ys xs → H l = none → Q (.ref l) (upd H l (.lst ys)) := fun xs i1 i2 ys l hs hb hl =>
    q _ _ (Ext.new hl) ⟨.list ((ys.map (kH H)).map pr2), .lst upd_same (w.new jj hl) ((prs_back fun x m => (i2 x (hb.perm.mem_iff.mp m)).1).kp (Ext.new hl).kp), ys.map (kH H), rfl, by rw [← i1]; exact hb.perm.map _, by
      rw [List.pairwise_map]
      refine hs.imp fun q => ?_
      have := SrtO.lexB_no.mp q
      omega⟩
  rcases o1 with ⟨d, o, rfl | rfl⟩ | ⟨rfl, t, rfl, kt⟩
  · cases o with
    | lst r nz hd =>
      obtain ⟨i1, i2⟩ := prs_da hd
      exact .inl ⟨_, _, kH H, rfl, .inl (.inl r), fun x m => (i2 x m).2, fin _ i1 i2⟩
  · cases o with
    | tup r nz hd =>
      obtain ⟨i1, i2⟩ := prs_da hd
      exact .inr ⟨_, _, kH H, rfl, .inl (.inl r), fun x m => (i2 x m).2, fin _ i1 i2⟩
  · exact .inr ⟨t, [], kH H, rfl, kt.sq H, fun x m => (nomatch m), fin [] rfl fun x m => (nomatch m)⟩
theorem cr_sortQ : CallR X (.builtin "sorted") (fun xs H Q => rSortedPO X.K xs H Q ∨ rSortedPT X.K xs H Q) := by
  intro pins s σ H vs us Q I r h
  rcases h with h | h
  · exact cr_sortedPO pins s σ H vs us Q I r h
  · exact cr_sortedPT pins s σ H vs us Q I r h
theorem de_sortQ (hg : Gl X "sorted") (hm : X.mg "sorted" = none) (h : DE X W Δ m e ((sqF X.K ss).as W.Z))
    (he : starEach (e :: []) X.env = (false, eval e X.env) :: starEach [] X.env := by rfl) (hpl : (backTo pos (starEach [] X.env)).any (·.1) = false := by rfl) :
    DE X W Δ (m + 0) (.Call (.Name "sorted" p) [e] [] pos) (dat W.Z (SortedOf ss)) :=
  de_cb cr_sortQ hg hm (by rfl) (da_cons h da_nil he) c_sortQ (he := he) (hpl := hpl)
/-- going over them -/
def iLT (K : PySem.W.Frag) (tl : TE) : TI := fun σ H R => tl σ H fun x H1 => ∃ a, x = .ref a ∧ ((∃ xs, SqL K H1 a xs ∧ R (Itl K a) H1) ∨ (∃ xs, SqT K H1 a xs ∧ R (Itt K a) H1))
theorem pi_lt {l : Expr} {tl : TE} (hl : PE X l tl) : PI X tg l (iLT X.K tl) := by
  refine ⟨fun pins s σ H R I h => ?_⟩
  refine thn (hl.run pins s σ H _ I h) fun v s1 ⟨x, H1, I1, r1, q1⟩ => ?_
  obtain ⟨a, e, q⟩ := q1
  subst e
  cases r1
  rcases q with ⟨xs, hq, q⟩ | ⟨xs, hq, q⟩
  · obtain ⟨its, rv, p, hz⟩ := I1.list hq
    refine wpAny_pyIter_list p.isList ?_
    refine ⟨s1.heap.objs.size, [s1.heap.objs.size], _, _, H1, rfl, I1.kept (t' := s1.toks) fun b o e => Heap.get?_push_of_some _ e, turn_list a _, ⟨_, Heap.get?_push_size _ rfl, rfl, rfl⟩, fun b hb => ?_, q⟩
    have e : b = s1.heap.objs.size := by simpa using hb
    subst e
    exact I1.fpOk (Nat.le_refl _) (I1.hok.fresh (Nat.le_refl _))
  · obtain ⟨its, rv, p, hz⟩ := I1.tuple hq
    refine wpAny_pyIter_tuple (show s1.heap.IsTuple a its.toArray from p) ?_
    refine ⟨s1.heap.objs.size, [s1.heap.objs.size], _, _, H1, rfl, I1.kept (t' := s1.toks) fun b o e => Heap.get?_push_of_some _ e, turn_tuple a _, ⟨_, Heap.get?_push_size _ rfl, rfl, rfl⟩, fun b hb => ?_, q⟩
    have e : b = s1.heap.objs.size := by simpa using hb
    subst e
    exact I1.fpOk (Nat.le_refl _) (I1.hok.fresh (Nat.le_refl _))
theorem di_sq (h : DE X W Δ m e ((sqF X.K ss).as W.Z)) : DI X W Δ m tg e (· = ss.map pr2) :=
  pi_to (pi_lt h) fun σ H R ⟨n, l, k, z⟩ => ⟨n, l, k, fun v H1 k1 q1 o1 => by
    rcases o1 with ⟨d, o, rfl | rfl⟩ | ⟨rfl, t, rfl, kt⟩
    · cases o with
      | lst r nz hd =>
        rename_i a vs
        refine ⟨a, rfl, .inl ⟨_, .inl (.inl r), z _ H1 _ k1 q1 rfl ⟨⟨_, _, hd.length ▸ walk_list (K := X.K) (a := a) (xs := vs), fun Z' H z' k' => .inl (.inl (kpz z' k' nz r)), fun Z' i H x H' z' k' _ _ y => ?_⟩⟩⟩⟩
        obtain ⟨e1, e2⟩ := y
        subst e1
        obtain ⟨d, h1, h2⟩ := hd.getV e2
        exact ⟨Ext.refl, d, h1, (h2.mono Kp.refl z').kp k'⟩
    · cases o with
      | tup r nz hd =>
        rename_i a vs
        refine ⟨a, rfl, .inr ⟨_, .inl (.inl r), z _ H1 _ k1 q1 rfl ⟨⟨_, _, hd.length ▸ walk_tup (K := X.K) (a := a) (xs := vs), fun Z' H z' k' => .inl (.inl (kpz z' k' nz r)), fun Z' i H x H' z' k' _ _ y => ?_⟩⟩⟩⟩
        obtain ⟨e1, e2⟩ := y
        subst e1
        obtain ⟨d, h1, h2⟩ := hd.getV e2
        exact ⟨Ext.refl, d, h1, (h2.mono Kp.refl z').kp k'⟩
    · exact ⟨t, rfl, .inr ⟨_, kt.sq H1, z _ H1 _ k1 q1 rfl ⟨⟨_, _, walk_tup (K := X.K) (a := t) (xs := []), fun Z' H z' k' => kt.sq H, fun Z' i H x H' z' k' _ hi y => absurd hi (Nat.not_lt_zero _)⟩⟩⟩⟩⟩
end
section
variable {X : Cx} {W : Wd} {Δ : List Sl} {m1 : Nat} {e : Expr} {x : Str} {p pos : Pos} {k : Nat} {f : Addr} {fd : FuncData} {ps : List Str} {F : Fam} {post : List PyData → PyData → Prop} {PR : PyData → Prop}
/-- a def called with what a Fam tells -/
theorem de_callF (G : FnOk X.prog X.w X.K X.mg X.base CX0 k f fd ps (spO F (fun ds => ds = []) post)) (rm : Room k X.A) (hg : Gl X x) (hm : X.mg x = some (.ref f)) (hk : PySem.W.keepIn X.K (.ref f) = true) (hb : Binds X.K fd ps [])
    (h : DE X W Δ m1 e (F.as W.Z)) (hP : ∀ d, post [] d → PR d)
    (h1 : (x == ("__debug__" : Str)) = false := by decide) (h2 : starEach (e :: []) X.env = (false, eval e X.env) :: starEach [] X.env := by rfl) (h3 : (backTo pos (starEach [] X.env)).any (·.1) = false := by rfl) :
    DE X W Δ m1 (.Call (.Name x p) [e] [] pos) (dat W.Z PR) :=
  pe_to (pe_call G rm hg hm hk hb .nil pass0 (da_cons (m2 := 0) h da_nil h2) h1 h2 h3) fun σ H Q ⟨n, l, k, z⟩ => ⟨n, by omega, k, fun vs H1 k1 q1 o1 => by
    obtain ⟨v, rfl, o2⟩ := allo_1 o1
    exact ⟨W.Z, W.J, n + (m1 + 0), v, [], [], k1.w, by omega, k1.j, rfl, o2, .nil, rfl, fun u H' d e j dd pd => z u H' ((k1.kp e j).up (by omega)) (q1.trans e) ⟨d, dd, hP d pd⟩⟩⟩
end
end Dv
set_option maxRecDepth 100000
set_option maxHeartbeats 4000000
/-! Dv35: range(i, j) of any ints; zip(list, list). -/
namespace Dv
open PySem PySem.Spec PyProof.Rows L2
theorem turn_long {P : Program} {w : World} {K : PySem.W.Frag} {tg : Expr} (it : Addr) (lo : Int) (n : Nat) : Turn P w K tg (Itr lo n) [it] it (fun i h => IsLongIter h it (lo + (i : Nat) * 1) ((n : Int) - (i : Nat)) 1) where
  mem := by simp
  obj := fun i h st b hb => by
    have e : b = it := by simpa using hb
    subst e
    exact ⟨_, st, fun v z => by
      have z' : Data.fields _ = Data.cell v := z
      cases z'⟩
  keep := fun i h h' st k => k it (by simp) _ st
  item := by
    intro X hP hw hK hc i pins s σ H E I hf st hg
    subst hP hw hK
    obtain ⟨f0, f1, f2, f3, f4, f5⟩ := hf it (by simp)
    have W := Walks.longrange (prog := X.prog) (w := X.w) (I.ok.hd hc) it lo 1 n
    refine W.item i s _ _ hg st fun v h' tk hv st' kk => ?_
    obtain ⟨t, rfl⟩ := hv
    have I1 : Inv X pins σ H { s with heap := h', toks := tk } := I.turned (fun b o hb e => kk b o (by simpa using hb) e) f0 f1 f3 f4 f5
    refine ⟨_, rfl, go_of (s := { s with heap := h', toks := tk }) (n := "longrange_iterator") st' rfl rfl (by decide) ⟨.int (lo + i), H, I1, ⟨t, ?_⟩, ⟨rfl, rfl⟩, st', fun b hb => (hf b hb).1⟩⟩
    rw [Int.mul_one]
  done := by
    intro X hP hw hK hc i pins s σ H E I hf st hg
    subst hP hw hK
    obtain ⟨f0, f1, f2, f3, f4, f5⟩ := hf it (by simp)
    exact wpAny_pyNext_long_end (I.ok.hd hc) st (by have : n ≤ i := hg; omega) fun h' eb => ⟨rfl, I.turned (t' := s.toks) (fun b o hb e => eb b o hb e) f0 f1 f3 f4 f5⟩
  self := fun _ _ _ _ _ st h => wpAny_pyIter_longiter st h
section
variable {X : Cx} {W : Wd} {Δ : List Sl} {m1 m2 : Nat} {tg a b : Expr} {p pos : Pos}
theorem range_itL {pins : List (Addr × Obj)} {σ : L2.St} {H : Hp} {s : Shared} {R : It → Hp → Prop} {E : Value → Shared → Prop} {lo hi : Int} {t u v : Tok} {tk : Nat} (I : Inv X pins σ H s)
    (q : R (Itr lo (hi - lo).toNat) H) : wpAny (model X.prog X.w) X.A (pyIter (.ref s.heap.objs.size)) (PIE X pins σ tg R) E { s with heap := s.heap.push { cls := .type "range", data := .fields #[.int lo t, .int hi u, .int 1 v] }, toks := tk } := by
  have I1 : Inv X pins σ H { s with heap := s.heap.push { cls := .type "range", data := .fields #[.int lo t, .int hi u, .int 1 v] }, toks := tk } := I.kept fun b o e => Heap.get?_push_of_some _ e
  have e1 : lo + ((0 : Nat) : Int) * 1 = lo := by simp
  have e2 : (((hi - lo).toNat : Nat) : Int) - ((0 : Nat) : Int) = Builtin.Range.rangeSize lo hi 1 := by rw [rangeSize_one]; split <;> omega
  have fin : ∀ b ∈ [(s.heap.push { cls := .type "range", data := .fields #[.int lo t, .int hi u, .int 1 v] }).objs.size], _ := fun b hb => by
    have e : b = (s.heap.push { cls := .type "range", data := .fields #[.int lo t, .int hi u, .int 1 v] }).objs.size := by simpa using hb
    subst e
    exact I1.fpOk (Nat.le_refl _) (I1.hok.fresh (Nat.le_refl _))
  cases c : Builtin.Range.small lo hi 1 with
  | true =>
    refine wpAny_pyIter_range (IsRange.new ..) c ?_
    refine ⟨(s.heap.push { cls := .type "range", data := .fields #[.int lo t, .int hi u, .int 1 v] }).objs.size, [(s.heap.push { cls := .type "range", data := .fields #[.int lo t, .int hi u, .int 1 v] }).objs.size], _, _, H, rfl,
      I1.kept (t' := tk) fun b o e => Heap.get?_push_of_some _ e, turn_range _ lo (hi - lo).toNat, ?_, fin, q⟩
    show IsRangeIter _ _ (lo + ((0 : Nat) : Int) * 1) ((((hi - lo).toNat : Nat) : Int) - ((0 : Nat) : Int)) 1
    rw [e1, e2]
    exact Heap.get?_push_size _ rfl
  | false =>
    refine wpAny_pyIter_longrange (IsRange.new ..) c ?_
    refine ⟨(s.heap.push { cls := .type "range", data := .fields #[.int lo t, .int hi u, .int 1 v] }).objs.size, [(s.heap.push { cls := .type "range", data := .fields #[.int lo t, .int hi u, .int 1 v] }).objs.size], _, _, H, rfl,
      I1.kept (t' := tk) fun b o e => Heap.get?_push_of_some _ e, turn_long _ lo (hi - lo).toNat, ?_, fin, q⟩
    show IsLongIter _ _ (lo + ((0 : Nat) : Int) * 1) ((((hi - lo).toNat : Nat) : Int) - ((0 : Nat) : Int)) 1
    rw [e1, e2]
    exact Heap.get?_push_size _ rfl
def iRngL (ta : TA) : TI := fun σ H R => ta σ H fun vs H1 => ∃ i j : Int, vs = [.int i, .int j] ∧ R (Itr i (j - i).toNat) H1
theorem pi_rangeL {ta : TA} (hg : Gl X "range") (hm : X.mg "range" = none) (ha : PA X [a, b] ta) (hs : starEach [a, b] X.env = [(false, eval a X.env), (false, eval b X.env)] := by rfl) (hs2 : starEach [b] X.env = [(false, eval b X.env)] := by rfl) :
    PI X tg (.Call (.Name "range" p) [a, b] [] pos) (iRngL ta) := by
  refine ⟨fun pins s σ H R I h => ?_⟩
  refine Call_ (ld_blt I hg hm boot_range (PyProof.Rows.callWith_type1 (thn (ha.run pos pins s σ H _ I h) fun us s1 ⟨vs, H1, I1, r1, q1⟩ => ?_) (by rw [hs, hs2]) (by rw [hs2]; rfl)))
  obtain ⟨i, j, e, q⟩ := q1
  subst e
  cases r1 with
  | cons r rr =>
    cases rr with
    | cons r' rr =>
      cases rr
      obtain ⟨t, rfl⟩ := r
      obtain ⟨t', rfl⟩ := r'
      exact call_range_2 (range_itL I1 q)
theorem di_rangeL {i j : Int} (hg : Gl X "range") (hm : X.mg "range" = none) (ha : DE X W Δ m1 a (eqd W.Z (.int i))) (hb : DE X W Δ m2 b (eqd W.Z (.int j)))
    (h1 : starEach [a, b] X.env = (false, eval a X.env) :: starEach [b] X.env := by rfl) (h2 : starEach [b] X.env = (false, eval b X.env) :: starEach [] X.env := by rfl)
    (h3 : starEach [a, b] X.env = [(false, eval a X.env), (false, eval b X.env)] := by rfl) (h4 : starEach [b] X.env = [(false, eval b X.env)] := by rfl) : DI X W Δ (m1 + (m2 + 0)) tg (.Call (.Name "range" p) [a, b] [] pos) (· = fromto i j) :=
  pi_to (pi_rangeL hg hm (da_cons ha (da_cons hb da_nil h2) h1) h3 h4) fun σ H R ⟨n', l, k, z⟩ => ⟨n', l, k, fun vs H1 k1 q1 o1 => by
    obtain ⟨v1, v2, rfl, o1, o2⟩ := allo_2 o1
    have o1 := eqd_ok o1
    have o2 := eqd_ok o2
    cases o1
    cases o2
    refine ⟨i, j, rfl, z _ H1 _ k1 q1 rfl ⟨⟨_, _, by rw [fromto_len]; exact walk_range, fun _ _ _ _ => trivial, fun Z' q H x H' z' k' _ hi y => ?_⟩⟩⟩
    obtain ⟨e1, e2⟩ := y
    subst e1
    subst e2
    refine ⟨Ext.refl, .int (i + (q : Nat)), ?_, .int _⟩
    rw [fromto_len] at hi
    unfold fromto
    rw [List.getElem?_map, List.getElem?_range hi]
    rfl⟩
/-! ### zip -/
def zipP (xs ys : List PyData) : List PyData := (xs.zip ys).map fun q => .tuple [q.1, q.2]
theorem zipP_len (xs ys : List PyData) : (zipP xs ys).length = min xs.length ys.length := by unfold zipP; rw [List.length_map, List.length_zip]
theorem di_zip {elts : List Expr} {kk : Nat} {tp : Pos} {xs ys : List PyData} (hg : Gl X "zip") (hm : X.mg "zip" = none) (ha : DE X W Δ m1 a (eqd W.Z (.list xs))) (hb : DE X W Δ m2 b (eqd W.Z (.list ys)))
    (h1 : starEach [a, b] X.env = (false, eval a X.env) :: starEach [b] X.env := by rfl) (h2 : starEach [b] X.env = (false, eval b X.env) :: starEach [] X.env := by rfl) (h4 : (backTo pos (starEach [b] X.env)).any (·.1) = false := by rfl) :
    DI X W Δ (m1 + (m2 + 0)) (.Tuple elts kk tp) (.Call (.Name "zip" p) [a, b] [] pos) (· = zipP xs ys) :=
  pi_to (pi_zip hg hm (da_cons ha (da_cons hb da_nil h2) h1) h1 h4) fun σ H R ⟨n', l, k, z⟩ => ⟨n', l, k, fun vs H1 k1 q1 o1 => by
    obtain ⟨v1, v2, rfl, o1, o2⟩ := allo_2 o1
    have o1 := eqd_ok o1
    have o2 := eqd_ok o2
    cases o1 with
    | lst r nz hd =>
      cases o2 with
      | lst r2 nz2 hd2 =>
        refine ⟨_, _, _, _, rfl, .inl (.inl r), .inl (.inl r2), z _ H1 _ k1 q1 rfl ⟨⟨_, _, walk_zip (K := X.K) (by rw [zipP_len, hd.length, hd2.length]), fun Z' H z' k' => ⟨.inl (.inl (kpz z' k' nz r)), .inl (.inl (kpz z' k' nz2 r2))⟩, fun Z' i H x H' z' k' al hi y => ?_⟩⟩⟩
        obtain ⟨T, x1, y1, rfl, hT, rfl, e1, e2⟩ := y
        obtain ⟨d1, f1, g1⟩ := hd.getV e1
        obtain ⟨d2, f2, g2⟩ := hd2.getV e2
        refine ⟨Ext.new hT, .tuple [d1, d2], ?_, ?_⟩
        · unfold zipP
          rw [List.getElem?_map, show (xs.zip ys)[i]? = some (d1, d2) from List.getElem?_zip_eq_some.mpr ⟨f1, f2⟩]
          rfl
        · have kk : Kp Z' H1 (upd H T (.tup [x1, y1])) := k'.trans (Ext.new hT).kp
          exact .tup upd_same (fun c => al T c hT) (.cons ((g1.mono Kp.refl z').kp kk) (.cons ((g2.mono Kp.refl z').kp kk) .nil))⟩
end
end Dv
set_option maxRecDepth 100000
set_option maxHeartbeats 4000000
/-! Dv36: pairs in a list of one's own that what holds of the zone pins (sqJ); promises over them; calls at which such a list counts as data. -/
namespace Dv
open PySem PySem.Spec PyProof.Rows L2
def sqJ (K : PySem.W.Frag) (J : Nat → Hp → Prop) (ss : List (Int × Int)) : Fam := ⟨fun Z H v => (sqF K ss).ok Z H v ∨ ∃ p vs, v = .ref p ∧ (∀ n H', J n H' → H' p = some (.lst vs)) ∧ Das Z H vs (ss.map pr2),
  fun k z h => h.imp ((sqF K ss).mono k z) fun ⟨p, vs, e, h1, h2⟩ => ⟨p, vs, e, h1, h2.mono k z⟩⟩
theorem sqJ_weak {K : PySem.W.Frag} {J J' : Nat → Hp → Prop} {ss : List (Int × Int)} (hJ : ∀ n H, J' n H → J n H) {Z : Addr → Prop} {H : Hp} {v : V} (h : (sqJ K J ss).ok Z H v) : (sqJ K J' ss).ok Z H v :=
  h.imp id fun ⟨p, vs, e, h1, h2⟩ => ⟨p, vs, e, fun n H' j => h1 n H' (hJ n H' j), h2⟩
section
variable {X : Cx} {W : Wd} {Δ : List Sl} {m m1 : Nat} {e tg : Expr} {pos p : Pos} {d : PyData} {ss : List (Int × Int)} {J : Nat → Hp → Prop}
theorem sqJ_of (h : DE X W Δ m e ((sqF X.K ss).as W.Z)) : DE X W Δ m e ((sqJ X.K J ss).as W.Z) := h.imp fun H v o => .inl o
theorem sqJ_to {J' : Nat → Hp → Prop} (hJ : ∀ n H, J' n H → J n H) (h : DE X W Δ m e ((sqJ X.K J ss).as W.Z)) : DE X W Δ m e ((sqJ X.K J' ss).as W.Z) := h.imp fun H v o => sqJ_weak hJ o
theorem c_sortJ (hJ : ∀ n H, W.J n H → J n H) : Cal W (fun xs H Q => rSortedPO X.K xs H Q ∨ rSortedPT X.K xs H Q) [(sqJ X.K J ss).as W.Z] (dat W.Z (SortedOf ss)) := fun n H vs w jj o Q q => by
  obtain ⟨v, rfl, o1⟩ := allo_1 o
  rcases o1 with o1 | ⟨a, us, rfl, h1, hd⟩
  · exact c_sortQ n H [v] w jj (.cons o1 .nil) Q q
  · have r := h1 n H (hJ n H jj)
    obtain ⟨i1, i2⟩ := prs_da hd
    exact .inl ⟨_, _, kH H, rfl, .inl (.inl r), fun x m => (i2 x m).2, fun ys l hs hb hl =>
      q _ _ (Ext.new hl) ⟨.list ((ys.map (kH H)).map pr2), .lst upd_same (w.new jj hl) ((prs_back fun x m => (i2 x (hb.perm.mem_iff.mp m)).1).kp (Ext.new hl).kp), ys.map (kH H), rfl, by rw [← i1]; exact hb.perm.map _, by
        rw [List.pairwise_map]
        refine hs.imp fun q => ?_
        have := SrtO.lexB_no.mp q
        omega⟩⟩
theorem de_sortJ (hJ : ∀ n H, W.J n H → J n H) (hg : Gl X "sorted") (hm : X.mg "sorted" = none) (h : DE X W Δ m e ((sqJ X.K J ss).as W.Z))
    (he : starEach (e :: []) X.env = (false, eval e X.env) :: starEach [] X.env := by rfl) (hpl : (backTo pos (starEach [] X.env)).any (·.1) = false := by rfl) :
    DE X W Δ (m + 0) (.Call (.Name "sorted" p) [e] [] pos) (dat W.Z (SortedOf ss)) :=
  de_cb cr_sortQ hg hm (by rfl) (da_cons h da_nil he) (c_sortJ hJ) (he := he) (hpl := hpl)
end
/-- a promise over what hangs on the zone's own predicate -/
def spOJ (F : (Nat → Hp → Prop) → Fam) (post : PyData → Prop) : Sp := fun xs H Q _ => ∃ (Z : Addr → Prop) (J : Nat → Hp → Prop) (n : Nat) (v : V),
  Wok Z J ∧ n ≤ BIG ∧ J n H ∧ xs = [v] ∧ (F J).ok Z H v ∧ ∀ u H' d, Kp Z H H' → J n H' → Da Z H' u d → post d → Q u H'
section
variable {P : Program} {w : World} {K : PySem.W.Frag} {mg : Str → Option Value} {base : Heap} {k : Nat} {f : Addr} {fd : FuncData} {x qual ps1 : Str} {st : Stmt} {N : List Str} {F : (Nat → Hp → Prop) → Fam} {post : PyData → Prop}
theorem okMJ (Fn : Fun K x qual st f fd) (S : FnScope N [ps1] (defScope st))
    (body : ∀ (cd : Value) (B : Around) (fr : List Env) (t : Shared) (h : Hp) (e : XK), Room k (B.deeper (envOfC qual (defScope st) t.heap.objs.size f cd)) → ∀ (Z : Addr → Prop) (J : Nat → Hp → Prop) (n : Nat), n ≤ BIG →
      HS (cxOf CX0 P w K mg base N qual (defScope st) f cd B fr t h e).nox (Ok (Wd.at Z J h) n (slots N [.sat (F J)])) (defBody st) { nx := fun _ H' => RT Z J h n post .non H', rt := RT Z J h n post }) :
    FnOk P w K mg base CX0 (k + 1) f fd [ps1] (spOJ F post) := by
  refine Fn.ok S (fun xs h q e z => ?_) (fun cd B fr t h xs q e rm z => ?_)
  · obtain ⟨Z, J, n, v, _, _, _, rfl, _⟩ := z
    rfl
  · obtain ⟨Z, J, n, v, wk, ln, j, rfl, hf, fin⟩ := z
    exact ⟨_, body cd B fr t h e rm Z J n ln, at_ok wk j (.cons ⟨v, rfl, hf⟩ .nil), fun σ H' ⟨d, z1, z2, z3, z4⟩ => fin _ H' d z1 z2 z3 z4, fun v H' ⟨d, z1, z2, z3, z4⟩ => fin v H' d z1 z2 z3 z4, fun _ _ z => z, fun _ _ z => z⟩
end
section
variable {X : Cx} {W : Wd} {Δ : List Sl} {m1 : Nat} {e : Expr} {x : Str} {p pos : Pos} {k : Nat} {f : Addr} {fd : FuncData} {ps : List Str} {F : (Nat → Hp → Prop) → Fam} {post PR : PyData → Prop} {J : Nat → Hp → Prop} {ss : List (Int × Int)}
theorem de_callJ (G : FnOk X.prog X.w X.K X.mg X.base CX0 k f fd ps (spOJ F post)) (rm : Room k X.A) (hg : Gl X x) (hm : X.mg x = some (.ref f)) (hk : PySem.W.keepIn X.K (.ref f) = true) (hb : Binds X.K fd ps [])
    (h : DE X W Δ m1 e ((F W.J).as W.Z)) (hP : ∀ d, post d → PR d)
    (h1 : (x == ("__debug__" : Str)) = false := by decide) (h2 : starEach (e :: []) X.env = (false, eval e X.env) :: starEach [] X.env := by rfl) (h3 : (backTo pos (starEach [] X.env)).any (·.1) = false := by rfl) :
    DE X W Δ m1 (.Call (.Name x p) [e] [] pos) (dat W.Z PR) :=
  pe_to (pe_call G rm hg hm hk hb .nil pass0 (da_cons (m2 := 0) h da_nil h2) h1 h2 h3) fun σ H Q ⟨n, l, k, z⟩ => ⟨n, by omega, k, fun vs H1 k1 q1 o1 => by
    obtain ⟨v, rfl, o2⟩ := allo_1 o1
    exact ⟨W.Z, W.J, n + (m1 + 0), v, k1.w, by omega, k1.j, rfl, o2, fun u H' d e j dd pd => z u H' ((k1.kp e j).up (by omega)) (q1.trans e) ⟨d, dd, hP d pd⟩⟩⟩
/-- the zone without p -/
def Zm (Z : Addr → Prop) (p : Addr) : Addr → Prop := fun b => Z b ∧ b ≠ p
def Jm (J : Nat → Hp → Prop) (p : Addr) (o : HO) : Nat → Hp → Prop := fun n H => J n (fun b => if b = p then some o else H b)
theorem fix_at {H : Hp} {p : Addr} {o : HO} (h : H p = some o) : (fun b => if b = p then some o else H b) = H := by
  funext b
  split
  · rename_i e
    rw [e, h]
  · rfl
theorem wok_m {Z : Addr → Prop} {J : Nat → Hp → Prop} {p : Addr} {o : HO} (w : Wok Z J) : Wok (Zm Z p) (Jm J p o) := by
  refine ⟨fun n H a j z => ?_, fun n H H' j e => w.loc n _ _ j fun a z => ?_, fun n m H j l => w.up n m _ j l⟩
  · have := w.alive n _ a j z.1
    rw [if_neg z.2] at this
    exact this
  · show (if a = p then some o else H' a) = if a = p then some o else H a
    split
    · rfl
    · rename_i ne
      exact e a ⟨z, ne⟩
/-- a def that tells a truth value, called with such a list: it counts as data there -/
theorem de_callZ {b0 : Bool} (G : FnOk X.prog X.w X.K X.mg X.base CX0 k f fd ps (spO (sqF X.K ss) (fun ds => ds = []) fun _ r => r = .bool b0)) (hJ : ∀ n H, W.J n H → J n H) (rm : Room k X.A) (hg : Gl X x) (hm : X.mg x = some (.ref f)) (hk : PySem.W.keepIn X.K (.ref f) = true) (hb : Binds X.K fd ps [])
    (h : DE X W Δ m1 e ((sqJ X.K J ss).as W.Z))
    (h1 : (x == ("__debug__" : Str)) = false := by decide) (h2 : starEach (e :: []) X.env = (false, eval e X.env) :: starEach [] X.env := by rfl) (h3 : (backTo pos (starEach [] X.env)).any (·.1) = false := by rfl) :
    DE X W Δ m1 (.Call (.Name x p) [e] [] pos) (eqd W.Z (.bool b0)) :=
  pe_to (pe_call G rm hg hm hk hb .nil pass0 (da_cons (m2 := 0) h da_nil h2) h1 h2 h3) fun σ H Q ⟨n, l, k, z⟩ => ⟨n, by omega, k, fun vs H1 k1 q1 o1 => by
    obtain ⟨v, rfl, o2⟩ := allo_1 o1
    rcases o2 with o2 | ⟨a, us, rfl, hp, hd⟩
    · exact ⟨W.Z, W.J, n + (m1 + 0), v, [], [], k1.w, by omega, k1.j, rfl, o2, .nil, rfl, fun u H' d e j dd pd => z u H' ((k1.kp e j).up (by omega)) (q1.trans e) (by subst pd; exact ok_eqd dd)⟩
    · have ha := hp _ _ (hJ _ _ k1.j)
      have na : ¬ Zm W.Z a a := fun c => c.2 rfl
      refine ⟨Zm W.Z a, Jm W.J a (.lst us), n + (m1 + 0), .ref a, [], [], wok_m k1.w, by omega, ?_, rfl, .inl ⟨.list (ss.map pr2), .lst ha na (hd.mono Kp.refl fun b z => .inl z.1), .inl rfl⟩, .nil, rfl, fun u H' d e j dd pd => ?_⟩
      · show W.J _ _
        rw [fix_at ha]
        exact k1.j
      · have ha' := e a _ na ha
        have j' : W.J (n + (m1 + 0)) H' := by
          have j2 : W.J (n + (m1 + 0)) (fun b => if b = a then some (.lst us) else H' b) := j
          rwa [fix_at ha'] at j2
        have kw : Kp W.Z H1 H' := fun b o nb eb => e b o (fun c => nb c.1) eb
        subst pd
        cases dd
        exact z _ H' ((k1.kp kw j').up (by omega)) (q1.trans kw) (ok_eqd (.bl _))⟩
end
end Dv
set_option maxRecDepth 100000
set_option maxHeartbeats 4000000
/-! Dv37: lists of one's own as arguments, compared, turned into tuples, emptied; x, y, z = list(a), list(b), c. -/
namespace Dv
open PySem PySem.Spec PyProof.Rows L2
section
variable {X : Cx} {W : Wd} {Δ : List Sl} {m N : Nat} {e oe a b c : Expr} {sts : List Stmt} {D : Ends} {pos p2 : Pos} {p q : Addr} {vs us : List V} {ds es : List PyData} {l : List (Addr × HO)} {x : Str} {i : Nat}
/-- a list of one's own, as a value -/
def ownA (Z : Addr → Prop) (p : Addr) (vs : List V) (ds : List PyData) : As Z := ⟨fun H v => v = .ref p ∧ Das Z H vs ds, fun k ⟨e, h⟩ => ⟨e, h.kp k⟩⟩
theorem de_ownN (ho : PE X e (tVar i)) (hs : Δ[i]? = some (.own p vs ds)) : DE X W Δ 0 e (ownA W.Z p vs ds) :=
  pe_to ho fun σ H Q ⟨n, ln, k, z⟩ => ⟨_, (k.own hs).1, z _ H k Kp.refl ⟨rfl, (k.own hs).2⟩⟩
theorem de_ownJ {j : Nat} {ss : List (Int × Int)} (ho : PE X e (tVar i)) (hs : Δ[i]? = some (.own p vs (ss.map pr2))) (hl : l[j]? = some (p, .lst vs)) : DE X (W.pinL l) Δ 0 e ((sqJ X.K (W.pinL l).J ss).as (W.pinL l).Z) :=
  (de_ownN ho hs).imp fun H v ⟨e, h⟩ => .inr ⟨p, vs, e, fun n H' j' => (pinL_j.mp j').1 _ (List.mem_of_getElem? hl), h⟩
theorem c_tupOwn {K : PySem.W.Frag} {j : Nat} (hl : l[j]? = some (p, .lst vs)) : Cal (W.pinL l) (fun xs H Q => ∃ r ys, xs = [.ref r] ∧ ((SqL K H r ys ∧ ∀ t, H t = none → Q (.ref t) (upd H t (.tup ys))) ∨ (SqT K H r ys ∧ Q (.ref r) H))) [ownA (W.pinL l).Z p vs ds] (eqd (W.pinL l).Z (.tuple ds)) := fun n H ws w jj o Q qq => by
  obtain ⟨v, rfl, rfl, h⟩ := allo_1 o
  exact ⟨p, vs, rfl, .inl ⟨.inl (.inl ((pinL_j.mp jj).1 _ (List.mem_of_getElem? hl))), fun t ht => qq _ _ (Ext.new ht) (ok_eqd (.tup upd_same (w.new jj ht) (h.kp (Ext.new ht).kp)))⟩⟩
/-- [x, y] of two lists of one's own -/
def twoA (Z : Addr → Prop) (p q : Addr) (vs us : List V) (ds es : List PyData) : As Z := ⟨fun H v => ∃ r, v = .ref r ∧ ¬ Z r ∧ H r = some (.lst [.ref p, .ref q]) ∧ Das Z H vs ds ∧ Das Z H us es,
  fun k ⟨r, e, nz, h1, h2, h3⟩ => ⟨r, e, nz, k r _ nz h1, h2.kp k, h3.kp k⟩⟩
theorem de_two (h1 : DE X W Δ 0 a (ownA W.Z p vs ds)) (h2 : DE X W Δ 0 b (ownA W.Z q us es))
    (g1 : starEach [a, b] X.env = (false, eval a X.env) :: starEach [b] X.env := by rfl) (g2 : starEach [b] X.env = (false, eval b X.env) :: starEach [] X.env := by rfl) : DE X W Δ 0 (.List [a, b] pos) (twoA W.Z p q vs us ds es) :=
  pe_to (pe_lst (da_cons (m1 := 0) (m2 := 0) h1 (da_cons (m1 := 0) (m2 := 0) h2 da_nil g2) g1)) fun σ H Q ⟨n, ln, k, z⟩ => ⟨n, ln, k, fun ws H1 k1 q1 o1 => by
    obtain ⟨v1, v2, rfl, ⟨rfl, o2⟩, rfl, o3⟩ := allo_2 o1
    exact ⟨by show 2 ≤ sizeLine; decide, fun r hr => z _ _ (k1.ext (Ext.new hr)) (q1.trans (Ext.new hr).kp) ⟨r, rfl, k1.w.new k1.j hr, upd_same, o2.kp (Ext.new hr).kp, o3.kp (Ext.new hr).kp⟩⟩⟩
theorem o_neTwo {K : PySem.W.Frag} {j1 j2 : Nat} (hl1 : l[j1]? = some (p, .lst vs)) (hl2 : l[j2]? = some (q, .lst us)) (hs : SeqAt.shaped (.list [.list ds, .list es]) = true) :
    Op2 (W.pinL l) (rNeD K) (twoA (W.pinL l).Z p q vs us ds es) (eqd (W.pinL l).Z (.list [.list ds, .list es])) (bol (W.pinL l).Z (· = !PyData.eqv (.list [.list ds, .list es]) (.list [.list ds, .list es]))) := fun n H v u w jj o1 o2 Q qq => by
  obtain ⟨r, rfl, nz, h1, h2, h3⟩ := o1
  have lay := PyData.hasDict_of_canLay _ (SeqAt.canLay_of_shaped hs)
  have P1 := (pinL_j.mp jj).1 _ (List.mem_of_getElem? hl1)
  have P2 := (pinL_j.mp jj).1 _ (List.mem_of_getElem? hl2)
  have da : Da (fun _ => False) H (.ref r) (.list [.list ds, .list es]) := .lst h1 (fun c => c) (.cons (.lst P1 (fun c => c) (h2.mono Kp.refl fun _ c => c.elim)) (.cons (.lst P2 (fun c => c) (h3.mono Kp.refl fun _ c => c.elim)) .nil))
  exact ⟨_, _, da.dp lay, (eqd_ok o2).dp lay, hs, hs, qq _ H Ext.refl ⟨_, rfl, rfl⟩⟩
theorem das_fi {α : Type} {Z : Addr → Prop} {H : Hp} (f : α → Int) : ∀ L : List α, Das Z H (L.map fun k => V.int (f k)) (L.map fun k => PyData.int (f k))
  | [] => .nil
  | _ :: L => .cons (.int _) (das_fi f L)
/-- list(range(i, j)) -/
theorem de_listRg {i j : Int} {p1 p3 p4 : Pos} (hc : X.calm = true) (hg : Gl X "list") (hm : X.mg "list" = none) (hg2 : Gl X "range") (hm2 : X.mg "range" = none) (ha : DE X W Δ 0 a (eqd W.Z (.int i))) (hb : DE X W Δ 0 b (eqd W.Z (.int j))) (hr : RgOk i j)
    (g1 : starEach [a, b] X.env = (false, eval a X.env) :: starEach [b] X.env := by rfl) (g2 : starEach [b] X.env = (false, eval b X.env) :: starEach [] X.env := by rfl) (g3 : (backTo p4 (starEach [b] X.env)).any (·.1) = false := by rfl) :
    DE X W Δ 0 (.Call (.Name "list" p1) [.Call (.Name "range" p3) [a, b] [] p4] [] pos) (eqd W.Z (.list (fromto i j))) :=
  pe_to (pe_listRg hc hg hm (prg_2 hg2 hm2 ha hb g1 g2 g3)) fun σ H Q ⟨n, ln, k, z⟩ => ⟨n, ln, k, fun v H1 k1 q1 o1 => ⟨n, ln, k1, fun u H2 k2 q2 o2 => by
    have e1 := eqd_ok ((eqd W.Z _).mono q2 o1)
    have e2 := eqd_ok o2
    cases e1
    cases e2
    exact ⟨i, j, rfl, rfl, hr, fun r hr' => z _ _ (k2.ext (Ext.new hr')) ((q1.trans q2).trans (Ext.new hr').kp) (ok_eqd (.lst upd_same (k2.w.new k2.j hr') (das_fi _ _)))⟩⟩⟩
/-- x.clear() -/
theorem hs_clear {io j : Nat} {apos cpos : Pos} (ho : PE X oe (tVar io)) (hs : Δ[io]? = some (.own p vs ds)) (hl : l[j]? = some (p, .lst vs)) (hb : N ≤ BIG)
    (hr : HS X (Ok (W.pinL (l.set j (p, .lst []))) N (Δ.set io (.own p [] []))) sts D)
    (g1 : attributeBase oe "clear" X.env (eval oe X.env) = eval oe X.env := by rfl) (g3 : (apos.endLine == cpos.line) = true := by rfl)
    (hsw : swapsWith (.Call (.Attribute oe "clear" apos) [] [] cpos) none pos.line X.env = pure false := by rfl) :
    HS X (Ok (W.pinL l) N Δ) (.Expr (.Call (.Attribute oe "clear" apos) [] [] cpos) pos :: sts) D := by
  refine hs_cons (ps_to (ps_expr (pe_bm0 PySem.F.plainAttrs_list PySem.F.slot_list_clear PySem.F.type_list_clear mt_clear ho g1 g3) hsw) fun D' σ H z => ?_) hr
  have k := z.1
  have hp := (pinL_j.mp k.j).1 _ (List.mem_of_getElem? hl)
  obtain ⟨o1, o2⟩ := k.own hs
  refine ⟨_, o1, .inl ⟨rfl, vs, .inl (.inl hp)⟩, p, vs, rfl, rfl, hp, z.2.1 _ _ ?_⟩
  have k2 := (k.mut hl (.lst []))
  have q2 := k2.put io (s := .own p [] []) (v := .ref p) ⟨rfl, .nil⟩
  obtain ⟨hlt, e⟩ := List.getElem?_eq_some_iff.mp o1
  rw [← e, List.set_getElem_self] at q2
  exact q2
/-- x, y, z = list(a), list(b), c -/
theorem hs_par3L {i j k0 : Nat} {x y z : Str} {d : PyData} {px py pz pt l1 l2 q1 q2 : Pos} {kt k2 pt2} (hc : X.calm = true) (hN : X.N.Nodup) (hi : X.N[i]? = some x) (hj : X.N[j]? = some y) (hk : X.N[k0]? = some z) (hij : i ≠ j) (hik : i ≠ k0) (hjk : j ≠ k0)
    (hx : X.env.scope.names.lookup x = some .local) (hy : X.env.scope.names.lookup y = some .local) (hz : X.env.scope.names.lookup z = some .local) (hg : Gl X "list") (hm : X.mg "list" = none)
    (ha : DE X W Δ 0 a (eqd W.Z (.list ds))) (hb : ∀ p us, DE X (W.add p fun _ o => o = .lst us) Δ 0 b (eqd _ (.list es))) (hd : ∀ p q us ws, DE X ((W.add p fun _ o => o = .lst us).add q fun _ o => o = .lst ws) Δ 0 c (eqd _ d)) (hN2 : N ≤ BIG)
    (hr : ∀ p q us ws, HS X (Ok (W.pinL [(q, .lst ws), (p, .lst us)]) N (((Δ.set i (.own p us ds)).set j (.own q ws es)).set k0 (.val d))) sts D)
    (hw : swappedStores [.Tuple [.Name x px, .Name y py, .Name z pz] kt pt] (.Tuple [.Call (.Name "list" l1) [a] [] q1, .Call (.Name "list" l2) [b] [] q2, c] k2 pt2) X.env = pure (some [x, y, z]))
    (hs : swapsWithSole [.Tuple [.Name x px, .Name y py, .Name z pz] kt pt] (.Tuple [.Call (.Name "list" l1) [a] [] q1, .Call (.Name "list" l2) [b] [] q2, c] k2 pt2) pos.line X.env = pure false := by rfl)
    (g1 : starEach (a :: []) X.env = (false, eval a X.env) :: starEach [] X.env := by rfl) (g1' : (backTo q1 (starEach [] X.env)).any (·.1) = false := by rfl) (g2 : starEach (b :: []) X.env = (false, eval b X.env) :: starEach [] X.env := by rfl) (g2' : (backTo q2 (starEach [] X.env)).any (·.1) = false := by rfl) (g3 : starEach (c :: []) X.env = (false, eval c X.env) :: starEach [] X.env := by rfl) :
    HS X (Ok W N Δ) (.Assign [.Tuple [.Name x px, .Name y py, .Name z pz] kt pt] (.Tuple [.Call (.Name "list" l1) [a] [] q1, .Call (.Name "list" l2) [b] [] q2, c] k2 pt2) pos :: sts) D := by
  have hb' : PA X [b] (fun σ H Q => ∃ p us, tDA (W.add p fun _ o => o = .lst us) Δ (0 + 0) [eqd _ (.list es)] σ H Q) := ⟨fun po pins s σ H Q I ⟨p, us, z⟩ => (da_cons (m2 := 0) (hb p us) da_nil g2).run po pins s σ H Q I z⟩
  have hd' : PE X c (fun σ H Q => ∃ p q us ws, tD ((W.add p fun _ o => o = .lst us).add q fun _ o => o = .lst ws) Δ 0 (eqd _ d) σ H Q) := ⟨fun pins s σ H Q I ⟨p, q, us, ws, z⟩ => (hd p q us ws).run pins s σ H Q I z⟩
  refine hs_cons (mid := fun σ H => ∃ p q us ws, Ok (W.pinL [(q, .lst ws), (p, .lst us)]) N (((Δ.set i (.own p us ds)).set j (.own q ws es)).set k0 (.val d)) σ H)
    (ps_to (ps_par3 hc hN hi hj hk hij hik hjk hx hy hz (pa_cons (pe_callTy call_list_of hg hm (by rfl) (da_cons (m2 := 0) ha da_nil g1) (by decide) (by decide) g1 g1') (pa_cons (pe_callTy call_list_of hg hm (by rfl) hb' (by decide) (by decide) g2 g2') (pa_cons hd' pa_nil g3))) hw hs) fun D' σ H z => ?_) (hs_ex fun p => hs_ex fun q => hs_ex fun us => hs_ex fun ws => hr p q us ws)
  have az : ∀ {W : Wd} {p : Addr} {φ : Nat → HO → Prop} {b : Addr}, (W.add p φ).Z b → W.Z b ∨ b = p := fun {W p φ b} c => by
    rcases c with c | ⟨t, m, e⟩
    · exact .inl (.inl c)
    · rcases List.mem_cons.mp m with rfl | m
      · exact .inr e.symm
      · exact .inl (.inr ⟨t, m, e⟩)
  refine ⟨N, hN2, z.1, fun vs1 H1 k1 q1 a1 => ?_⟩
  obtain ⟨v1, rfl, o1⟩ := allo_1 a1
  have d1 := eqd_ok o1
  cases d1 with
  | lst r1 nz1 hd1 =>
    rename_i b1 us
    refine ⟨b1, us, rfl, .inl (.inl (.inl r1)), fun p hp => ?_⟩
    have kA : Ok (W.add p fun _ o => o = .lst us) N Δ σ (upd H1 p (.lst us)) := k1.pin hp (Ext.new hp).kp (k1.w.ext k1.j (Ext.new hp)) (Nat.le_refl _) (o := .lst us) upd_same ⟨0, Nat.zero_le _, rfl⟩
    have D1 : Das (W.add p fun _ o => o = .lst us).Z (upd H1 p (.lst us)) us ds := hd1.mono (Ext.new hp).kp fun b c => (az c).elim Or.inl (fun (e : b = p) => Or.inr (by rw [e]; exact hp))
    refine ⟨p, us, N, hN2, kA, fun vs2 H2 k2 q2 a2 => ?_⟩
    obtain ⟨v2, rfl, o2⟩ := allo_1 a2
    have d2 := eqd_ok o2
    cases d2 with
    | lst r2 nz2 hd2 =>
      rename_i b2 ws
      refine ⟨b2, ws, rfl, .inl (.inl (.inl r2)), fun q hq => ?_⟩
      have kB : Ok ((W.add p fun _ o => o = .lst us).add q fun _ o => o = .lst ws) N Δ σ (upd H2 q (.lst ws)) := k2.pin hq (Ext.new hq).kp (k2.w.ext k2.j (Ext.new hq)) (Nat.le_refl _) (o := .lst ws) upd_same ⟨0, Nat.zero_le _, rfl⟩
      have D1' : Das ((W.add p fun _ o => o = .lst us).add q fun _ o => o = .lst ws).Z (upd H2 q (.lst ws)) us ds := (D1.kp q2).mono (Ext.new hq).kp fun b c => (az c).elim Or.inl (fun (e : b = q) => Or.inr (by rw [e]; exact hq))
      have D2' : Das ((W.add p fun _ o => o = .lst us).add q fun _ o => o = .lst ws).Z (upd H2 q (.lst ws)) ws es := hd2.mono (Ext.new hq).kp fun b c => (az c).elim Or.inl (fun (e : b = q) => Or.inr (by rw [e]; exact hq))
      refine ⟨p, q, us, ws, N, hN2, kB, fun v3 H3 k3 q3 o3 => ?_⟩
      exact ⟨_, _, _, rfl, z.2.1 _ _ ⟨p, q, us, ws, ((k3.put i (s := .own p us ds) (v := .ref p) ⟨rfl, D1'.kp q3⟩).put j (s := .own q ws es) (v := .ref q) ⟨rfl, D2'.kp q3⟩).put k0 (s := .val d) ⟨_, rfl, eqd_ok o3⟩⟩⟩
end
end Dv
set_option maxRecDepth 100000
set_option maxHeartbeats 4000000
/-! Dv38: == and != by an own __eq__, either answer, the other side anything. -/
namespace Dv
open PySem PySem.Spec PyProof.Rows L2
section
variable {K : PySem.W.Frag} {A : Around} {E : Value → Shared → Prop} {s : Shared} {x C f : Addr} {ox : Obj} {od : Option Obj} {name : Str} {b tb : Value} {id : String}
theorem ifBound_B {M : Model} {args : List Value} {Q : Option Value → Shared → Prop} (X : K.In s.heap) (I : PySem.W.InstAt s.heap x ox C od) (hs : PySem.W.findIn K (.ref C) name = some (some (.builtin id)))
    (hb : ∀ self, bindSpecial (.builtin id) self = pure (.builtin id, [self])) (h : wpAny M A (call (.builtin id) (.ref x :: args)) (fun v => Q (some v)) E s) : wpAny M A (callSpecialIfBound? (.ref x) name args) Q E s := by
  simp only [callSpecialIfBound?, bindSpecialIfBound?]
  refine wpAny_holding (wpAny_bind (wpAny_bind (wpAny_bind (I.type.here ((PySem.W.looks_findIn X hs).here ?_)))))
  refine wpAny_bind (wpAny_askSetting (wpAny_ite ?_))
  have fin : wpAny M A (call (.builtin id) ([.ref x] ++ args) >>= fun v => pure (some v)) Q E s := wpAny_bind (wpAny_mono h (fun v s' h' => wpAny_pure h') fun _ _ h' => h')
  simp only [hb]
  split
  · exact wpAny_bind (wpAny_pure (wpAny_pure fin))
  · exact wpAny_tryCatch (wpAny_bind (wpAny_pure (wpAny_pure fin)))
open Builtin in
/-- the body of object.__ne__ where the class has its own __eq__ -/
theorem ne_body {prog : Program} {w : World} {Q : Value → Shared → Prop} (hu : A.in1.units < cLine) (X : K.In s.heap) (I : PySem.W.InstAt s.heap x ox C od) (hm : PySem.W.mroIn K C (.type "object") = some true) (hs : PySem.W.findIn K (.ref C) "__eq__" = some (some (.ref f))) (hf : PySem.W.isFn K (.ref f) = true)
    (h : wpAny (model prog w) A.in1 (call (.ref f) [.ref x, b]) (fun v s' => ∃ r, v = .bool r ∧ Q (.bool (!r)) s') E s) : wpAny (model prog w) A (call (.builtin "object.__ne__") [.ref x, b]) Q E s := by
  refine wpAny_call (codeAny_call_builtin PySem.F.slot_object_ne.plain PySem.F.entry_object_ne (PySem.W.check_slot (i := "object.__ne__") (owner := "object") (n := "__ne__") (by decide +kernel) (by decide +kernel) (I.type.andThen (PySem.W.looks_mroIn X hm)) (PySem.F.args_object_ne_2 _ _) ?_))
  unfold Builtin.«object.__ne__»
  refine wpAny_bind (m := slotArgs "__ne__" 1 _) (wpAny_pure ?_)
  refine wpAny_bind (m := cRoomFor _ _) (wpAny_cRoomFor hu ?_)
  refine wpAny_bind (m := callSpecialIfBound? (.ref x) (Str.ofString "__eq__") _) (PySem.W.ifBound_K X I hs hf (wpAny_mono h (fun r s' hq => ?_) fun _ _ y => y))
  obtain ⟨r, rfl, q⟩ := hq
  exact wpAny_bind (wpAny_truthy_bool (wpAny_pure q))
/-- a comparison whose first side answers -/
theorem cmp_one {prog : Program} {w : World} {op : CmpOp} {Q : Value → Shared → Prop} (hu : A.units < cLine) (X : K.In s.heap) (I : PySem.W.InstAt s.heap x ox C od) (hb : PySem.W.Looks (model prog w) s.heap (typeOf b) tb) (hn : PySem.W.notFirst K C tb = true)
    (one : wpAny (model prog w) A (tryCompare (.ref x) (cmpInfo op).2.1 b) (fun r s' => ∃ v, r = some v ∧ Q v s') E s) : wpAny (model prog w) A (richCompare op (.ref x) b) Q E s := by
  unfold richCompare
  simp only [oneThing_ref]
  refine wpAny_holding (wpAny_bind (wpAny_cRoomFor hu ?_))
  refine wpAny_bind (I.type.here (wpAny_bind (hb.here ?_)))
  split
  · rename_i q
    have e : PySem.W.subIn K tb (.ref C) = some false := by
      rcases Bool.or_eq_true_iff.mp hn with e | e
      · rw [beq_iff_eq.mp e] at q; simp at q
      · exact beq_iff_eq.mp e
    refine wpAny_bind ((PySem.W.looks_subIn X e).here ?_)
    simp only [Bool.false_eq_true, if_false]
    refine wpAny_bind (wpAny_mono one (fun r s' z => ?_) fun _ _ e => e)
    obtain ⟨v, rfl, hq⟩ := z
    exact wpAny_pure hq
  · refine wpAny_bind (wpAny_pure ?_)
    simp only [Bool.false_eq_true, if_false]
    refine wpAny_bind (wpAny_mono one (fun r s' z => ?_) fun _ _ e => e)
    obtain ⟨v, rfl, hq⟩ := z
    exact wpAny_pure hq
end
section
variable {X : Cx} {CX : CXT} {C f : Addr} {fd : FuncData} {ps : List Str} {n : Nat} {sp : Sp} {E : XK}
theorem call_own2 {pins : List (Addr × Obj)} {σ : L2.St} {H : Hp} {s : Shared} {A : Around} {a : Addr} {y : V} {v : Value} {Q : VK} (F : FnOk X.prog X.w X.K X.mg X.base CX n f fd ps sp) (hb : Binds X.K fd ps []) (hx : Passes CX X E) (hr : Room n A) (I : Inv X pins σ H s)
    (e0 : Env0 X.prog X.w X.K X.mg X.base A X.stack s H) (ry : RelV y v) (q : sp [.ref a, y] H Q E) : wpAny (model X.prog X.w) A (call (.ref f) [.ref a, v]) (EP X pins σ Q) X.xe s := by
  have hl := F.len _ _ _ _ q
  have r2 : Vals [V.ref a, y] [Value.ref a, v] := .cons rfl (.cons ry .nil)
  refine wpAny_call (codeAny_mono (F.run A X.stack s H ⟨[.ref a, v], []⟩ [.ref a, v] [.ref a, y] _ E hr e0 (by
    have := hb s [.ref a, v] I.kIn (by simpa using hl)
    simpa using this) r2 q) fun r s' hq => ?_)
  cases r with
  | error e => exact hx pins σ H s e s' I hq
  | ok fl =>
    cases fl with
    | ret w => exact I.after hq
    | next => exact False.elim hq
    | brk => exact False.elim hq
    | cont => exact False.elim hq
/-- x == y, x of the class at C, by its own __eq__; g is what becomes of the answer -/
def rOwnQ (K : PySem.W.Frag) (C : Addr) (sp : Sp) (E : XK) (g : Bool → Bool) : R2 := fun x y H Q => ∃ a dx fs t, x = .ref a ∧ H a = some (.ins C dx fs) ∧ TyX K H y t ∧ PySem.W.notFirst K C t = true ∧ sp [x, y] H (fun z H' => ∃ b, z = .bl b ∧ Q (.bl (g b)) H') E
theorem op_eqO (F : FnOk X.prog X.w X.K X.mg X.base CX n f fd ps sp) (hs : PySem.W.findIn X.K (.ref C) "__eq__" = some (some (.ref f))) (hf : PySem.W.isFn X.K (.ref f) = true) (hb : Binds X.K fd ps []) (hx : Passes CX X E) (hr : Room n X.A) :
    OpR X (compareOp .Eq) (rOwnQ X.K C sp E id) := by
  intro pins s σ H x y v u Q I rx ry h
  obtain ⟨a, dx, fs, t, rfl, ha, ty, hn, q⟩ := h
  cases (show v = Value.ref a from rx)
  obtain ⟨_, J, _⟩ := ins_get I.hok ha
  obtain ⟨od, J, _⟩ := J.look
  obtain ⟨P, Z, p, _⟩ := kit_of I ry ty
  show wpAny (model X.prog X.w) X.A (richCompare .Eq _ _) _ X.xe s
  refine cmp_one (op := .Eq) hr.units0 I.kIn J (Z.ty _ _ I.kIn p) hn ?_
  unfold tryCompare
  refine wpAny_bind (PySem.W.ifBound_K I.kIn J hs hf (wpAny_mono (call_own2 F hb hx hr I I.env0 ry q) (fun r s' z => ?_) fun _ _ z => z))
  obtain ⟨z, H', I', rz, b, rfl, qz⟩ := z
  cases (show r = Value.bool b from rz)
  exact wpAny_pure ⟨_, rfl, .bl b, H', I', rfl, qz⟩
theorem op_neO (F : FnOk X.prog X.w X.K X.mg X.base CX n f fd ps sp) (hs : PySem.W.findIn X.K (.ref C) "__eq__" = some (some (.ref f))) (hf : PySem.W.isFn X.K (.ref f) = true) (hb : Binds X.K fd ps []) (hne : PySem.W.findIn X.K (.ref C) "__ne__" = some (some (.builtin "object.__ne__"))) (hm : PySem.W.mroIn X.K C (.type "object") = some true) (hx : Passes CX X E) (hr : Room (n + 1) X.A) :
    OpR X (compareOp .NotEq) (rOwnQ X.K C sp E (!·)) := by
  intro pins s σ H x y v u Q I rx ry h
  obtain ⟨a, dx, fs, t, rfl, ha, ty, hn, q⟩ := h
  cases (show v = Value.ref a from rx)
  obtain ⟨_, J, _⟩ := ins_get I.hok ha
  obtain ⟨od, J, _⟩ := J.look
  obtain ⟨P, Z, p, _⟩ := kit_of I ry ty
  have hr1 : Room n X.A.in1 := Room.in1 hr
  show wpAny (model X.prog X.w) X.A (richCompare .NotEq _ _) _ X.xe s
  refine cmp_one (op := .NotEq) hr.units0 I.kIn J (Z.ty _ _ I.kIn p) hn ?_
  unfold tryCompare
  refine wpAny_bind (ifBound_B I.kIn J hne PySem.F.slot_object_ne.bind (ne_body (b := u) hr1.units0 I.kIn J hm hs hf (wpAny_mono (call_own2 F hb hx hr1 I I.env0.in1 ry q) (fun r s' z => ?_) fun _ _ z => z)))
  obtain ⟨z, H', I', rz, b, rfl, qz⟩ := z
  cases (show r = Value.bool b from rz)
  exact ⟨b, rfl, wpAny_pure ⟨_, rfl, .bl (!b), H', I', rfl, qz⟩⟩
end
end Dv
set_option maxRecDepth 100000
set_option maxHeartbeats 4000000
/-! Dv39: a comprehension with two fors, the outer one over pairs, the inner one over data. -/
namespace Dv
open PySem PySem.Spec PyProof.Rows L2
theorem ift {p q : Prop} (h : p) : if true = true then p else q := by
  rw [if_pos rfl]
  exact h
theorem Ok.swap {W : Wd} {D : Addr} {φ ψ : Nat → HO → Prop} {n : Nat} {Δ : List Sl} {σ : L2.St} {H H' : Hp} {o : HO} (k : Ok (W.add D φ) n Δ σ H) (e : Kp (W.add D φ).Z H H') (j : W.J n H') (h : H' D = some o) (hψ : ∃ m, m ≤ n ∧ ψ m o) : Ok (W.add D ψ) n Δ σ H' :=
  ⟨k.wb, add_j.mpr ⟨⟨o, h, hψ⟩, j⟩, pmono (fun _ _ => SlOk.mono e fun a z => .inl (zz a z)) k.sl, (show Kp (W.add D φ).Zb (W.add D φ).H0 H' from kp0 k e), k.nd, fun q m => by
    rcases List.mem_cons.mp m with rfl | m
    · exact k.fr (D, φ) List.mem_cons_self
    · exact k.fr q (List.mem_cons_of_mem _ m)⟩
def lcI (W : Wd) (Γ : List Sl) (i j : Nat) (xs : List PyData) (g : PyData → List PyData) : TI := fun σ H R => ∃ D φ a b, ¬ W.Z D ∧ .tuple [a, b] ∈ xs ∧ tDI (W.add D φ) ((Γ.set i (.val a)).set j (.val b)) 0 (· = g (.tuple [a, b])) σ H R
def lcE3 (W : Wd) (Γ : List Sl) (i j k : Nat) (xs : List PyData) (g : PyData → List PyData) : TE := fun σ H Q => ∃ D φ a b e, ¬ W.Z D ∧ .tuple [a, b] ∈ xs ∧ e ∈ g (.tuple [a, b]) ∧ tD (W.add D φ) (((Γ.set i (.val a)).set j (.val b)).set k (.val e)) 0 (eqd _ e) σ H Q
section
variable {X : Cx} {W : Wd} {Δ : List Sl} {m : Nat} {pos : Pos}
theorem de_lcNest {x y z' : Str} {px py pt pz : Pos} {kt : Nat} {elt iter iter1 : Expr} {scope : Scope} {own : List (Str × Nat)} {i j k : Nat} {xs : List PyData} {g : PyData → List PyData}
    (hc : X.calm = true) (hN : X.N.Nodup) (hi : DI X W Δ m (.Tuple [.Name x px, .Name y py] kt pt) iter (· = xs)) (ok : BlkOk X.N X.env.scope scope own) (hiv : i ∈ own.map (·.2)) (hjv : j ∈ own.map (·.2)) (hkv : k ∈ own.map (·.2)) (hM : (xs.flatMap g).length ≤ 1000000)
    (hpr : ∀ d ∈ xs, ∃ a b, d = .tuple [a, b])
    (hx : ∀ (s : Shared) (H : Hp) (C : Addr) (cl : List (Str × Addr)) (fp : List Addr), PG (X.blk s H scope (compEnvC scope cl C X.env) fp) (.Tuple [.Name x px, .Name y py] kt pt) (gTup X.K 2 (gCons (gName i) (gCons (gName j) gNil))))
    (hz : ∀ (s : Shared) (H : Hp) (C : Addr) (cl : List (Str × Addr)) (fp : List Addr), PG (X.blk s H scope (compEnvC scope cl C X.env) fp) (.Name z' pz) (gName k))
    (hi1 : ∀ (s : Shared) (H : Hp) (C : Addr) (cl : List (Str × Addr)) (fp : List Addr) (D : Addr) (φ : Nat → HO → Prop) (a b : PyData), ¬ W.Z D → .tuple [a, b] ∈ xs → DI (X.blk s H scope (compEnvC scope cl C X.env) fp) (W.add D φ) (((wipeS Δ (own.map (·.2))).set i (.val a)).set j (.val b)) 0 (.Name z' pz) iter1 (· = g (.tuple [a, b])))
    (he : ∀ (s : Shared) (H : Hp) (C : Addr) (cl : List (Str × Addr)) (fp : List Addr) (D : Addr) (φ : Nat → HO → Prop) (a b e : PyData), ¬ W.Z D → .tuple [a, b] ∈ xs → e ∈ g (.tuple [a, b]) → DE (X.blk s H scope (compEnvC scope cl C X.env) fp) (W.add D φ) ((((wipeS Δ (own.map (·.2))).set i (.val a)).set j (.val b)).set k (.val e)) 0 elt (eqd _ e))
    (hs : ∀ x, foldedSetIterable iter X.env x = pure x := by intro _; rfl) (hs1 : ∀ env x, foldedSetIterable iter1 env x = pure x := by intro _ _; rfl) :
    DE X W Δ m (.ListComp elt [⟨.Tuple [.Name x px, .Name y py] kt pt, iter, [], 0⟩, ⟨.Name z' pz, iter1, [], 0⟩] scope pos) (eqd W.Z (.list (xs.flatMap g))) := by
  have qi : ∀ (s : Shared) (H : Hp) (C : Addr) (cl : List (Str × Addr)) (fp : List Addr), PI (X.blk s H scope (compEnvC scope cl C X.env) fp) (.Name z' pz) iter1 (lcI W (wipeS Δ (own.map (·.2))) i j xs g) :=
    fun s H C cl fp => ⟨fun pins s' σ' H' R I ⟨D, φ, a, b, n1, n2, z⟩ => (hi1 s H C cl fp D φ a b n1 n2).run pins s' σ' H' R I z⟩
  have qe : ∀ (s : Shared) (H : Hp) (C : Addr) (cl : List (Str × Addr)) (fp : List Addr), PE (X.blk s H scope (compEnvC scope cl C X.env) fp) elt (lcE3 W (wipeS Δ (own.map (·.2))) i j k xs g) :=
    fun s H C cl fp => ⟨fun pins s' σ' H' Q I ⟨D, φ, a, b, e, n1, n2, n3, z⟩ => (he s H C cl fp D φ a b e n1 n2 n3).run pins s' σ' H' Q I z⟩
  refine pe_to (pe_lc2 (vs1 := [k]) (own := own) hc hN hi ok (fun v hv => by cases List.mem_singleton.mp hv; exact hkv) hx (fun _ _ _ _ _ => pts_nil) qi hz (fun _ _ _ _ _ => pts_nil) qe hs hs1) fun σ H Q ⟨n, l, kk, z⟩ => ⟨n, by omega, kk, fun J H1 xs' k1 q1 px sr D hD => ?_⟩
  subst px
  obtain ⟨G, Y, wk, hG, hY⟩ := sr.ex
  have nD : ¬ W.Z D := k1.w.new k1.j hD
  have lz := sizeLine_eq
  let Pv : Nat → Hp → Prop := fun i' H' => W.J (n + m) H' ∧ Kp W.Z H1 H' ∧ ∃ acc, H' D = some (.lst acc) ∧ Das (W.add D fun _ _ => True).Z H' acc ((xs'.take i').flatMap g)
  have inner : ∀ i' H', Pv i' H' → ∀ acc, H' D = some (.lst acc) → Ok (W.add D fun _ o => o = .lst acc) (n + m) Δ σ H' := fun i' H' ⟨j', e', _⟩ acc ha => k1.pin hD e' j' (Nat.le_refl _) ha ⟨0, Nat.zero_le _, rfl⟩
  refine ⟨fun i' mm H' => mm = xs'.length - i' ∧ i' ≤ xs'.length ∧ Pv i' H', ⟨xs'.length, by simp, Nat.zero_le _, k1.w.ext k1.j (.new hD), (Ext.new hD).kp, [], upd_same, .nil⟩, ?_⟩
  rintro i' mm H2 ⟨rfl, hi'l, p⟩
  obtain ⟨j2, e2, acc, ha, hd⟩ := id p
  have hGi := hG (W.add D fun _ _ => True).Z H2 (fun a y => sub_z hD a y) (e2.wide fun a y => z_add a y)
  by_cases hlt : i' < xs'.length
  · refine .inr ⟨wk.goes i' H2 hlt hGi, Pv (i' + 1), fun H' p' => ⟨xs'.length - (i' + 1), by omega, rfl, hlt, p'⟩, fun x0 H3 y0 => ?_⟩
    have y0 := wk.yields i' H2 x0 H3 hlt hGi y0
    have ko := inner i' H2 p acc ha
    obtain ⟨e3, d, hxd, hda⟩ := hY (W.add D fun _ o => o = .lst acc).Z i' H2 x0 H3 (fun a y => sub_z hD a y) (e2.wide fun a y => z_add a y) (fun a y => ko.w.alive _ H2 a ko.j y) hlt y0
    have dm : d ∈ xs' := List.mem_of_getElem? hxd
    obtain ⟨da, db, rfl⟩ := hpr d dm
    have k3 := ko.ext e3
    have tk : (xs'.take (i' + 1)).flatMap g = (xs'.take i').flatMap g ++ g (.tuple [da, db]) := by
      rw [filter_take_succ hxd, List.flatMap_append]
      simp
    cases hda with
    | tup rT nT dT =>
      cases dT with
      | cons d1 d2 =>
        cases d2 with
        | cons d2 d3 =>
          cases d3
          refine ⟨_, _, rfl, .inl (.inl rT), rfl, _, _, rfl, _, _, rfl, rfl, ?_, ?_⟩
          · rw [wipe_set _ _ hjv, wipe_set _ _ hiv]
            exact wipe_wipe _ _ fun v hv => hv
          have k3' : Ok (W.add D fun _ o => o = .lst acc) (n + m) (((wipeS Δ (own.map (·.2))).set i (.val da)).set j (.val db)) _ H3 := ⟨k3.wb, k3.j, pset (show SlOk _ _ (.val db) (some _) from ⟨_, rfl, d2⟩) j (pset (show SlOk _ _ (.val da) (some _) from ⟨_, rfl, d1⟩) i (wipe_ok _ k3.sl)), k3.kept, k3.nd, k3.fr⟩
          refine ⟨D, (fun _ o => o = .lst acc), da, db, nD, dm, n + m, by omega, k3', fun J1 H4 ys k4 q4 py sr1 => ?_⟩
          subst py
          obtain ⟨G1, Y1, wk1, hG1, hY1⟩ := sr1.ex
          have back : ∀ {H' : Hp}, Kp (W.add D fun _ o => o = .lst acc).Z H3 H' → Kp W.Z H1 H' := fun q a o na h1 => by
            have ne : a ≠ D := fun c => by
              rw [c, hD] at h1
              cases h1
            exact q a o (fun c => (add_z.mp c).elim ne na) (e3 a o (e2 a o na h1))
          obtain ⟨⟨o4, h4, _, _, eq4⟩, j4⟩ := add_j.mp k4.j
          subst eq4
          have d4 : Das (W.add D fun _ _ => True).Z H4 acc ((xs'.take i').flatMap g) := (hd.mono (e3.kp.trans (q4.wide zz)) fun a y => .inl y)
          let Pw : Nat → Hp → Prop := fun j' H' => W.J (n + m) H' ∧ Kp (W.add D fun _ o => o = .lst acc).Z H4 H' ∧ ∃ acc', H' D = some (.lst acc') ∧ Das (W.add D fun _ _ => True).Z H' acc' ((xs'.take i').flatMap g ++ (g (.tuple [da, db])).take j')
          refine ⟨fun j' mm H' => mm = (g (.tuple [da, db])).length - j' ∧ j' ≤ (g (.tuple [da, db])).length ∧ Pw j' H', ⟨(g (.tuple [da, db])).length, by simp, Nat.zero_le _, j4, Kp.refl, acc, h4, by simpa using d4⟩, ?_⟩
          rintro j' mm H5 ⟨rfl, hjl, p5⟩
          obtain ⟨j5, e5, acc', ha5, hd5⟩ := id p5
          have hGj := hG1 (W.add D fun _ o => o = .lst acc).Z H5 (fun a y => .inl y) e5
          by_cases hlt1 : j' < (g (.tuple [da, db])).length
          · refine .inr ⟨wk1.goes j' H5 hlt1 hGj, Pw (j' + 1), fun H' p' => ⟨(g (.tuple [da, db])).length - (j' + 1), by omega, rfl, hlt1, p'⟩, fun x1 H6 y1 => ?_⟩
            have y1 := wk1.yields j' H5 x1 H6 hlt1 hGj y1
            have k5 := k4.swap (ψ := fun _ o => o = .lst acc') e5 j5 ha5 ⟨0, Nat.zero_le _, rfl⟩
            obtain ⟨e6, e, hye, hde⟩ := hY1 (W.add D fun _ o => o = .lst acc').Z j' H5 x1 H6 (fun a y => .inl (zz a y)) (e5.wide zz) (fun a y => k5.w.alive _ H5 a k5.j y) hlt1 y1
            have em : e ∈ g (.tuple [da, db]) := List.mem_of_getElem? hye
            have k6 := k5.ext e6
            refine ⟨?_, ?_⟩
            · rw [wipe_set _ _ List.mem_cons_self]
              exact wipe_wipe _ _ fun v hv => hv
            refine ⟨D, (fun _ o => o = .lst acc'), da, db, e, nD, dm, em, n + m, by omega, ⟨k6.wb, k6.j, ?_, k6.kept, k6.nd, k6.fr⟩, fun y2 H7 k7 q7 o7 => ?_⟩
            · have := pset (show SlOk _ _ (.val e) (some x1) from ⟨x1, rfl, hde⟩) k (wipe_ok [k] k6.sl)
              have w1 : ((wipeS (((wipeS Δ (own.map (·.2))).set i (.val da)).set j (.val db)) [k]).set k (.val e)) = ((((wipeS Δ (own.map (·.2))).set i (.val da)).set j (.val db)).set k (.val e)) := List.set_set _
              rw [w1] at this
              exact this
            · obtain ⟨⟨o7', h7, _, _, eq7⟩, j7⟩ := add_j.mp k7.j
              subst eq7
              have d7 : Das (W.add D fun _ _ => True).Z H7 acc' ((xs'.take i').flatMap g ++ (g (.tuple [da, db])).take j') := hd5.mono (e6.kp.trans (q7.wide zz)) fun a y => .inl y
              have la := d7.length
              have sub : ((xs'.take i').flatMap g ++ (g (.tuple [da, db])).take j').length < (xs'.flatMap g).length := by
                have e0 : xs' = xs'.take i' ++ .tuple [da, db] :: xs'.drop (i' + 1) := by
                  have := List.take_append_drop i' xs'
                  rw [List.drop_eq_getElem_cons hlt] at this
                  have hg : xs'[i'] = .tuple [da, db] := by
                    rw [List.getElem?_eq_getElem hlt] at hxd
                    exact Option.some.inj hxd
                  rw [hg] at this
                  exact this.symm
                conv => rhs; rw [e0]
                rw [List.flatMap_append, List.flatMap_cons, List.length_append, List.length_append, List.length_append, List.length_take]
                omega
              have kD : Kp (W.add D fun _ _ => True).Z H7 (upd H7 D (.lst (acc' ++ [y2]))) := fun a o na h => by
                rw [upd_ne (fun c => na (add_z.mpr (.inl c)))]
                exact h
              refine ⟨acc', h7, by omega, k1.w.loc _ H7 _ j7 fun a y => upd_ne (fun c => nD (c ▸ y)), ?_, _, upd_same, ?_⟩
              · intro a o na h1
                rw [upd_ne (fun c => na (add_z.mpr (.inl c)))]
                exact q7 a o (fun c => na (zz a c)) (e6 a o (e5 a o na h1))
              · have t2 : (g (.tuple [da, db])).take (j' + 1) = (g (.tuple [da, db])).take j' ++ [e] := filter_take_succ hye
                rw [t2, ← List.append_assoc]
                exact ((d7.append (.cons ((eqd_ok o7).mono Kp.refl fun a y => .inl (zz a y)) .nil))).mono kD fun a y => .inl y
          · have ej : j' = (g (.tuple [da, db])).length := by omega
            refine .inl ⟨?_, ?_⟩
            · rw [ej]
              exact wk1.stops H5 hGj
            · refine ⟨j5, back (q4.trans e5), acc', ha5, ?_⟩
              rw [tk]
              rw [ej, List.take_length] at hd5
              exact hd5
  · have ei : i' = xs'.length := by omega
    refine .inl ⟨?_, ?_⟩
    · rw [ei]
      exact wk.stops H2 hGi
    · rw [ei, List.take_length] at hd
      have kf : Ok W (n + m) Δ σ H2 := k1.kp e2 j2
      have kr := inner i' H2 p acc ha
      exact z (.ref D) H2 kf (q1.trans e2) (ok_eqd (.lst ha nD (hd.mono Kp.refl fun a y => .inl (z_add a y))))
end
end Dv
set_option maxHeartbeats 4000000
/-! Cal6: the pieces of closed and opened stretches. Plain mathematics. -/
namespace Cal
def tag (e : Int) (ss : List St) : List Pc := ss.map fun s => (s.1, s.2, e)
theorem tag_mem {e : Int} {ss : List St} {p : Pc} : p ∈ tag e ss ↔ (p.1, p.2.1) ∈ ss ∧ p.2.2 = e := by
  unfold tag
  constructor
  · intro m
    obtain ⟨s, ms, rfl⟩ := List.mem_map.mp m
    exact ⟨ms, rfl⟩
  · rintro ⟨m, h⟩
    refine List.mem_map.mpr ⟨_, m, ?_⟩
    obtain ⟨a, b, c⟩ := p
    cases h
    rfl
theorem two_of {α : Type} {R : α → α → Prop} {l : List α} (h : l.Pairwise R) {a b : α} (ha : a ∈ l) (hb : b ∈ l) (ne : a ≠ b) : R a b ∨ R b a := by
  obtain ⟨i, hi, rfl⟩ := List.getElem_of_mem ha
  obtain ⟨j, hj, rfl⟩ := List.getElem_of_mem hb
  rcases Nat.lt_trichotomy i j with c | c | c
  · exact .inl (List.pairwise_iff_getElem.mp h i j hi hj c)
  · subst c
    exact absurd rfl ne
  · exact .inr (List.pairwise_iff_getElem.mp h j i hj hi c)
theorem asc_nodup {ss : List St} (h : Asc ss) : ss.Nodup := by
  refine List.pairwise_iff_getElem.mpr fun i j hi hj l e => ?_
  have q := List.pairwise_iff_getElem.mp h.2 i j hi hj l
  have g := h.1 _ (List.getElem_mem hi)
  rw [e] at q g
  omega
theorem tag_nodup {e : Int} {ss : List St} (h : Asc ss) : (tag e ss).Nodup := by
  unfold tag
  refine List.pairwise_map.mpr ((asc_nodup h).imp fun ne c => ne ?_)
  have c1 := congrArg Prod.fst c
  have c2 := congrArg (fun z => z.2.1) c
  exact Prod.ext c1 c2
theorem same_src {ss : List St} (h : Asc ss) {a b : Pc} (ha : (a.1, a.2.1) ∈ ss) (hb : (b.1, b.2.1) ∈ ss) (he : a.2.2 = b.2.2) (ne : a ≠ b) (hf : a.1 ≤ b.1) : a.2.1 < b.1 := by
  have ne' : ((a.1, a.2.1) : St) ≠ (b.1, b.2.1) := fun c => ne (by
    obtain ⟨a1, a2, a3⟩ := a
    obtain ⟨b1, b2, b3⟩ := b
    have c1 := congrArg Prod.fst c
    have c2 := congrArg Prod.snd c
    simp only at c1 c2 he
    rw [c1, c2, he])
  rcases two_of h.2 ha hb ne' with q | q
  · exact q
  · have g := h.1 _ hb
    have q : b.2.1 < a.1 := q
    have g : b.1 ≤ b.2.1 := g
    omega
theorem pieces_ok {cl op : List St} {ts : List Pc} (hc : Asc cl) (ho : Asc op) (hd : ∀ x, Cov op x → ¬ Cov cl x) (hp : ts.Perm (tag 0 cl ++ tag 1 op)) (hs : ts.Pairwise fun a b => a.1 ≤ b.1) : Okp ts := by
  have src : ∀ p ∈ ts, ((p.1, p.2.1) ∈ cl ∧ p.2.2 = 0) ∨ ((p.1, p.2.1) ∈ op ∧ p.2.2 = 1) := fun p m => by
    rcases List.mem_append.mp (hp.mem_iff.mp m) with m | m
    · exact .inl (tag_mem.mp m)
    · exact .inr (tag_mem.mp m)
  have good : ∀ p ∈ ts, p.1 ≤ p.2.1 := fun p m => by
    rcases src p m with ⟨q, _⟩ | ⟨q, _⟩
    · exact hc.1 _ q
    · exact ho.1 _ q
  have nd : ts.Nodup := hp.nodup_iff.mpr (List.nodup_append.mpr ⟨tag_nodup hc, tag_nodup ho, fun a ma b mb e => by
    have h1 := (tag_mem.mp ma).2
    have h2 := (tag_mem.mp mb).2
    rw [e] at h1
    omega⟩)
  refine ⟨good, fun p m => ?_, ?_⟩
  · rcases src p m with ⟨_, q⟩ | ⟨_, q⟩
    · exact .inl q
    · exact .inr q
  · refine List.pairwise_iff_getElem.mpr fun i j hi hj l => ?_
    have hf := List.pairwise_iff_getElem.mp hs i j hi hj l
    have ne := List.pairwise_iff_getElem.mp nd i j hi hj l
    have ma := List.getElem_mem hi
    have mb := List.getElem_mem hj
    generalize ts[i] = a at *
    generalize ts[j] = b at *
    have gb := good b mb
    by_cases c : a.2.1 < b.1
    · exact c
    · rcases src a ma with ⟨a1, a2⟩ | ⟨a1, a2⟩ <;> rcases src b mb with ⟨b1, b2⟩ | ⟨b1, b2⟩
      · exact same_src hc a1 b1 (by rw [a2, b2]) ne hf
      · exact absurd ⟨_, a1, by show a.1 ≤ b.1; omega, by show b.1 ≤ a.2.1; omega⟩ (hd b.1 ⟨_, b1, Int.le_refl _, gb⟩)
      · exact absurd ⟨_, b1, Int.le_refl _, gb⟩ (hd b.1 ⟨_, a1, by show a.1 ≤ b.1; omega, by show b.1 ≤ a.2.1; omega⟩)
      · exact same_src ho a1 b1 (by rw [a2, b2]) ne hf
/-- what a calendar of the stretches cs closed and os opened does -/
def Sem (pat : List Bool) (cs os : List St) (ps : List Pc) : Prop := ∀ d, opn pat ps d = true ↔ ¬ Cov cs d ∧ (Cov os d ∨ popen pat d = true)
theorem pieces_sem {pat : List Bool} {cs os cl op : List St} {ts : List Pc} (hc : ∀ x, Cov cl x ↔ Cov cs x) (ho : ∀ x, Cov op x ↔ Cov os x ∧ ¬ Cov cl x) (hp : ts.Perm (tag 0 cl ++ tag 1 op)) : Sem pat cs os ts := fun d => by
  have any1 : (ts.any fun p => decide (p.1 ≤ d ∧ d ≤ p.2.1 ∧ p.2.2 = 1)) = true ↔ Cov op d := by
    rw [List.any_eq_true]
    constructor
    · rintro ⟨p, m, h⟩
      have h := of_decide_eq_true h
      rcases List.mem_append.mp (hp.mem_iff.mp m) with m | m
      · have := (tag_mem.mp m).2
        omega
      · exact ⟨_, (tag_mem.mp m).1, h.1, h.2.1⟩
    · rintro ⟨s, m, h⟩
      exact ⟨(s.1, s.2, 1), hp.mem_iff.mpr (List.mem_append_right _ (tag_mem.mpr ⟨m, rfl⟩)), decide_eq_true ⟨h.1, h.2, rfl⟩⟩
  have any2 : (ts.any fun p => decide (p.1 ≤ d ∧ d ≤ p.2.1)) = true ↔ Cov op d ∨ Cov cl d := by
    rw [List.any_eq_true]
    constructor
    · rintro ⟨p, m, h⟩
      have h := of_decide_eq_true h
      rcases List.mem_append.mp (hp.mem_iff.mp m) with m | m
      · exact .inr ⟨_, (tag_mem.mp m).1, h⟩
      · exact .inl ⟨_, (tag_mem.mp m).1, h⟩
    · rintro (⟨s, m, h⟩ | ⟨s, m, h⟩)
      · exact ⟨(s.1, s.2, 1), hp.mem_iff.mpr (List.mem_append_right _ (tag_mem.mpr ⟨m, rfl⟩)), decide_eq_true h⟩
      · exact ⟨(s.1, s.2, 0), hp.mem_iff.mpr (List.mem_append_left _ (tag_mem.mpr ⟨m, rfl⟩)), decide_eq_true h⟩
  unfold opn
  rw [Bool.or_eq_true, Bool.and_eq_true, Bool.not_eq_true', any1, ← Bool.not_eq_true, any2, ho, hc]
  by_cases a : Cov cs d <;> by_cases b : Cov os d <;> simp [a, b]
end Cal
set_option maxHeartbeats 4000000
/-! Cal7: where the next and the last open day are to be looked for: beside the day, or beside the ends of stretches. -/
namespace Cal
/-- a day is open, by stretches and a period -/
def Opd (cs os : List St) (po : Int → Bool) (d : Int) : Prop := ¬ Cov cs d ∧ (po d = true ∨ Cov os d)
def Start (cs os : List St) (s : Int) : Prop := ∃ t, (t ∈ cs ∨ t ∈ os) ∧ (s = t.1 ∨ s = t.2 + 1)
theorem turn_at {P : Nat → Prop} (h0 : P 0) : ∀ n : Nat, ¬ P n → ∃ k, k < n ∧ P k ∧ ¬ P (k + 1)
  | 0, h => absurd h0 h
  | n + 1, h => by
    by_cases c : P n
    · exact ⟨n, by omega, c, h⟩
    · obtain ⟨k, k1, k2⟩ := turn_at h0 n c
      exact ⟨k, by omega, k2⟩
variable {cs os : List St} {po : Int → Bool} {d D : Int} {L : Nat}
theorem next_cand (hL : 1 ≤ L ∧ L ≤ 8) (hp : ∀ y, po (y + L) = po y) (hD : Opd cs os po D) (hd : d ≤ D) (hno : ∀ y, d ≤ y → y < D → ¬ Opd cs os po y) :
    D ≤ d + 7 ∨ ∃ s, Start cs os s ∧ d < s ∧ s ≤ D ∧ D ≤ s + 7 ∧ ¬ Cov cs s := by
  by_cases c0 : D ≤ d + 7
  · exact .inl c0
  right
  by_cases c1 : Cov cs (D - 1)
  · obtain ⟨t, mt, t1, t2⟩ := c1
    have e : t.2 = D - 1 := by
      by_cases c : D ≤ t.2
      · exact absurd ⟨t, mt, by omega, c⟩ hD.1
      · omega
    exact ⟨D, ⟨t, .inl mt, .inr (by omega)⟩, by omega, Int.le_refl _, by omega, hD.1⟩
  have n1 := hno (D - 1) (by omega) (by omega)
  have c2 : ¬ Cov os (D - 1) := fun c => n1 ⟨c1, .inr c⟩
  rcases hD.2 with hpo | ho
  · have ep : po (D - L) = true := by
      have := hp (D - L)
      rw [show D - (L : Int) + L = D by omega] at this
      rw [← this]
      exact hpo
    have h0 : Cov cs (D - L + ((0 : Nat) : Int)) := by
      have nl := hno (D - L) (by omega) (by omega)
      by_cases c : Cov cs (D - L)
      · simpa using c
      · exact absurd ⟨c, .inl ep⟩ nl
    have hn : ¬ Cov cs (D - L + (L : Int)) := by
      rw [show D - (L : Int) + L = D by omega]
      exact hD.1
    obtain ⟨k, k1, ⟨t, mt, t1, t2⟩, k3⟩ := turn_at (P := fun k => Cov cs (D - L + (k : Int))) h0 L hn
    have e : t.2 = D - L + k := by
      by_cases c : D - L + k + 1 ≤ t.2
      · exact absurd ⟨t, mt, by push_cast; omega, by push_cast; omega⟩ k3
      · omega
    refine ⟨D - L + k + 1, ⟨t, .inl mt, .inr (by omega)⟩, by omega, by omega, by omega, ?_⟩
    have := k3
    push_cast at this
    rwa [← Int.add_assoc] at this
  · obtain ⟨t, mt, t1, t2⟩ := ho
    have e : t.1 = D := by
      by_cases c : t.1 ≤ D - 1
      · exact absurd ⟨t, mt, c, by omega⟩ c2
      · omega
    exact ⟨D, ⟨t, .inr mt, .inl e.symm⟩, by omega, Int.le_refl _, by omega, hD.1⟩
theorem last_cand (hL : 1 ≤ L ∧ L ≤ 8) (hp : ∀ y, po (y + L) = po y) (hD : Opd cs os po D) (hd : D ≤ d) (hno : ∀ y, D < y → y ≤ d → ¬ Opd cs os po y) :
    d - 7 ≤ D ∨ ∃ s, Start cs os s ∧ s ≤ d ∧ D ≤ s - 1 ∧ s - 8 ≤ D ∧ ¬ Cov cs (s - 1) := by
  by_cases c0 : d - 7 ≤ D
  · exact .inl c0
  right
  by_cases c1 : Cov cs (D + 1)
  · obtain ⟨t, mt, t1, t2⟩ := c1
    have e : t.1 = D + 1 := by
      by_cases c : t.1 ≤ D
      · exact absurd ⟨t, mt, c, by omega⟩ hD.1
      · omega
    exact ⟨D + 1, ⟨t, .inl mt, .inl e.symm⟩, by omega, by omega, by omega, by rw [show D + 1 - 1 = D by omega]; exact hD.1⟩
  have n1 := hno (D + 1) (by omega) (by omega)
  have c2 : ¬ Cov os (D + 1) := fun c => n1 ⟨c1, .inr c⟩
  rcases hD.2 with hpo | ho
  · have ep : po (D + L) = true := by rw [hp]; exact hpo
    have h0 : Cov cs (D + L - ((0 : Nat) : Int)) := by
      have nl := hno (D + L) (by omega) (by omega)
      by_cases c : Cov cs (D + L)
      · simpa using c
      · exact absurd ⟨c, .inl ep⟩ nl
    have hn : ¬ Cov cs (D + L - (L : Int)) := by
      rw [show D + (L : Int) - L = D by omega]
      exact hD.1
    obtain ⟨k, k1, ⟨t, mt, t1, t2⟩, k3⟩ := turn_at (P := fun k => Cov cs (D + L - (k : Int))) h0 L hn
    have e : t.1 = D + L - k := by
      by_cases c : t.1 ≤ D + L - k - 1
      · exact absurd ⟨t, mt, by push_cast; omega, by push_cast; omega⟩ k3
      · omega
    refine ⟨D + L - k, ⟨t, .inl mt, .inl e.symm⟩, by omega, by omega, by omega, ?_⟩
    have := k3
    push_cast at this
    rwa [show D + (L : Int) - ((k : Int) + 1) = D + L - k - 1 by omega] at this
  · obtain ⟨t, mt, t1, t2⟩ := ho
    have e : t.2 = D := by
      by_cases c : D + 1 ≤ t.2
      · exact absurd ⟨t, mt, by omega, c⟩ c2
      · omega
    exact ⟨D + 1, ⟨t, .inr mt, .inr (by omega)⟩, by omega, by omega, by omega, by rw [show D + 1 - 1 = D by omega]; exact hD.1⟩
end Cal
set_option maxHeartbeats 4000000
/-! Cal8: open days counted. -/
namespace Cal
/-- how many of the n days from a on are open -/
def N (o : Int → Bool) (a : Int) : Nat → Int
  | 0 => 0
  | n + 1 => N o a n + b2i (o (a + (n : Int)))
theorem N_add {o : Int → Bool} {a : Int} (m : Nat) : ∀ n : Nat, N o a (m + n) = N o a m + N o (a + m) n
  | 0 => by simp [N]
  | n + 1 => by
    show N o a (m + n) + b2i (o (a + ((m + n : Nat) : Int))) = _ + (N o (a + m) n + b2i (o (a + m + (n : Int))))
    rw [N_add m n, show a + ((m + n : Nat) : Int) = a + m + (n : Int) by push_cast; omega]
    omega
theorem N_congr {o o' : Int → Bool} {a : Int} : ∀ {n : Nat}, (∀ x, a ≤ x → x < a + n → o x = o' x) → N o a n = N o' a n
  | 0, _ => rfl
  | n + 1, h => by
    show N o a n + _ = N o' a n + _
    rw [N_congr fun x h1 h2 => h x h1 (by push_cast; omega), h (a + n) (by omega) (by push_cast; omega)]
theorem N_none {o : Int → Bool} {a : Int} : ∀ {n : Nat}, (∀ x, a ≤ x → x < a + n → o x = false) → N o a n = 0
  | 0, _ => rfl
  | n + 1, h => by
    show N o a n + _ = 0
    rw [N_none fun x h1 h2 => h x h1 (by push_cast; omega), h (a + n) (by omega) (by push_cast; omega)]
    rfl
theorem N_all {o : Int → Bool} {a : Int} : ∀ {n : Nat}, (∀ x, a ≤ x → x < a + n → o x = true) → N o a n = n
  | 0, _ => rfl
  | n + 1, h => by
    show N o a n + _ = ((n + 1 : Nat) : Int)
    rw [N_all fun x h1 h2 => h x h1 (by push_cast; omega), h (a + n) (by omega) (by push_cast; omega)]
    show (n : Int) + 1 = _
    push_cast
    rfl
theorem N_pl {pat : List Bool} (h : 0 < pat.length) (a : Int) : ∀ n : Nat, N (popen pat) a n = pl pat (a + n) - pl pat a
  | 0 => by simp [N]
  | n + 1 => by
    show N (popen pat) a n + _ = _
    rw [N_pl h a n, show a + ((n + 1 : Nat) : Int) = a + (n : Int) + 1 by push_cast; omega, pl_step h]
    omega
theorem pl_turn {pat : List Bool} (h : 0 < pat.length) (a : Int) (k : Int) : pl pat (a + k * ln pat) = pl pat a + k * tot pat := by
  have hl : ln pat ≠ 0 := by unfold ln; omega
  unfold pl
  rw [Int.add_mul_ediv_right _ _ hl, Int.add_mul_emod_self_right, Int.add_mul]
  omega
theorem popen_turn {pat : List Bool} (a : Int) : popen pat (a + (pat.length : Nat)) = popen pat a := by
  unfold popen
  rw [show ((pat.length : Nat) : Int) = ln pat from rfl, Int.add_emod_right]
theorem rk_N {pat : List Bool} {ps : List Pc} (hpat : 0 < pat.length) (h : Okp ps) {d r : Int} (h1 : Rk pat ps d r) : ∀ {n : Nat} {s : Int}, Rk pat ps (d + n) s → s = r + N (opn pat ps) d n
  | 0, s, h2 => by
    rw [show d + ((0 : Nat) : Int) = d by simp] at h2
    rw [h2.one h1]
    simp [N]
  | n + 1, s, h2 => by
    obtain ⟨q, hq⟩ := rk_ex (pat := pat) h (d + n)
    have e1 := rk_N hpat h h1 hq
    rw [show d + ((n + 1 : Nat) : Int) = d + (n : Int) + 1 by push_cast; omega] at h2
    rw [hq.step hpat h h2, e1]
    show _ = r + (N (opn pat ps) d n + _)
    omega
theorem rk_up {pat : List Bool} {ps : List Pc} (hpat : 0 < pat.length) (h : Okp ps) {a b r s : Int} (h1 : Rk pat ps a r) (h2 : Rk pat ps b s) (l : a ≤ b) : s - r = N (opn pat ps) a (b - a).toNat := by
  have e : b = a + ((b - a).toNat : Int) := by omega
  rw [e] at h2
  have := rk_N hpat h h1 h2
  omega
theorem rk_open {pat : List Bool} {ps : List Pc} (hpat : 0 < pat.length) (h : Okp ps) {d r s : Int} (h1 : Rk pat ps d r) (h2 : Rk pat ps (d + 1) s) : decide (r < s) = opn pat ps d := by
  rw [h1.step hpat h h2]
  cases opn pat ps d
  · exact decide_eq_false (by show ¬ r < r + 0; omega)
  · exact decide_eq_true (by show r < r + 1; omega)
/-! pieces between neighbouring ends -/
theorem cov_same {ss : List St} {a b x : Int} (hn : ∀ t ∈ ss, ¬ (a < t.1 ∧ t.1 < b) ∧ ¬ (a < t.2 + 1 ∧ t.2 + 1 < b)) (h1 : a ≤ x) (h2 : x < b) : Cov ss x ↔ Cov ss a := by
  constructor
  · rintro ⟨t, m, t1, t2⟩
    have := (hn t m).1
    exact ⟨t, m, by omega, by omega⟩
  · rintro ⟨t, m, t1, t2⟩
    have := (hn t m).2
    exact ⟨t, m, by omega, by omega⟩
end Cal
set_option maxHeartbeats 4000000
/-! Cal9: the first open day found among candidates, and the last one. -/
namespace Cal
def fst1 (o : Int → Bool) (ws : List Int) : List Int := (ws.filter o).take 1
theorem fst1_len {o : Int → Bool} {ws : List Int} : (fst1 o ws).length ≤ 1 := by unfold fst1; rw [List.length_take]; omega
theorem fst1_mem {o : Int → Bool} {ws : List Int} {f : Int} (h : f ∈ fst1 o ws) : o f = true ∧ f ∈ ws := by
  have := List.mem_filter.mp (List.mem_of_mem_take h)
  exact ⟨this.2, this.1⟩
theorem fst1_has {o : Int → Bool} {ws : List Int} {R : Int → Int → Prop} (hp : ws.Pairwise R) {x : Int} (hx : x ∈ ws) (ho : o x = true) : ∃ f ∈ fst1 o ws, f = x ∨ R f x := by
  have m : x ∈ ws.filter o := List.mem_filter.mpr ⟨hx, ho⟩
  have p := hp.sublist (List.filter_sublist (p := o) (l := ws))
  unfold fst1
  match e : ws.filter o, m, p with
  | f :: rest, m, p =>
    refine ⟨f, by simp, ?_⟩
    rcases List.mem_cons.mp m with rfl | m
    · exact .inl rfl
    · exact .inr (List.rel_of_pairwise_cons p m)
def win (s : Int) : List Int := (List.range 8).map fun (k : Nat) => s + (k : Int)
theorem win_mem {s x : Int} : x ∈ win s ↔ s ≤ x ∧ x ≤ s + 7 := by
  unfold win
  rw [List.mem_map]
  constructor
  · rintro ⟨k, hk, rfl⟩
    have := List.mem_range.mp hk
    omega
  · rintro ⟨h1, h2⟩
    exact ⟨(x - s).toNat, List.mem_range.mpr (by omega), by omega⟩
theorem win_up (s : Int) : (win s).Pairwise (· < ·) := by
  unfold win
  rw [List.pairwise_map]
  exact List.pairwise_lt_range.imp fun h => by omega
def winB (s : Int) (c : Int) : List Int := (List.range 8).map fun (k : Nat) => s - (c + (k : Int))
theorem winB_mem {s c x : Int} : x ∈ winB s c ↔ s - c - 7 ≤ x ∧ x ≤ s - c := by
  unfold winB
  rw [List.mem_map]
  constructor
  · rintro ⟨k, hk, rfl⟩
    have := List.mem_range.mp hk
    omega
  · rintro ⟨h1, h2⟩
    exact ⟨(s - c - x).toNat, List.mem_range.mpr (by omega), by omega⟩
theorem winB_down (s c : Int) : (winB s c).Pairwise (· > ·) := by
  unfold winB
  rw [List.pairwise_map]
  exact List.pairwise_lt_range.imp fun h => by omega
/-! forward -/
structure NInv (o sh : Int → Bool) (d : Int) (ss : List Int) (F : List Int) : Prop where
  len : F.length ≤ 1
  mem : ∀ f ∈ F, o f = true ∧ d ≤ f
  w0 : ∀ x, o x = true → x ∈ win d → ∃ f ∈ F, f ≤ x
  ws : ∀ x s, o x = true → s ∈ ss → d < s → sh s = false → x ∈ win s → ∃ f ∈ F, f ≤ x
variable {o sh : Int → Bool} {d s : Int} {ss F ts : List Int}
theorem NInv.start : NInv o sh d [] (fst1 o (win d)) :=
  ⟨fst1_len, fun f m => ⟨(fst1_mem m).1, (win_mem.mp (fst1_mem m).2).1⟩, fun x h m => by
    obtain ⟨f, mf, h⟩ := fst1_has (win_up d) m h
    exact ⟨f, mf, by omega⟩, fun x s _ m => nomatch m⟩
theorem NInv.skip (h : NInv o sh d ss F) (hn : ¬ (d < s ∧ (F = [] ∨ ∃ f ∈ F, s < f) ∧ sh s = false)) : NInv o sh d (ss ++ [s]) F :=
  ⟨h.len, h.mem, h.w0, fun x t hx m h1 h2 hw => by
    rcases List.mem_append.mp m with m | m
    · exact h.ws x t hx m h1 h2 hw
    · cases List.mem_singleton.mp m
      match F, hn, h with
      | [], hn, _ => exact absurd ⟨h1, .inl rfl, h2⟩ hn
      | f :: F', hn, _ =>
        refine ⟨f, List.mem_cons_self, ?_⟩
        have := (win_mem.mp hw).1
        by_cases c : s < f
        · exact absurd ⟨h1, .inr ⟨f, List.mem_cons_self, c⟩, h2⟩ hn
        · omega⟩
theorem take1_min (hs : ts.Pairwise (· ≤ ·)) {x : Int} (m : x ∈ ts) : ∃ f ∈ ts.take 1, f ≤ x := by
  match ts, hs, m with
  | t :: ts, hs, m =>
    refine ⟨t, by simp, ?_⟩
    rcases List.mem_cons.mp m with rfl | m
    · exact Int.le_refl _
    · exact List.rel_of_pairwise_cons hs m
theorem NInv.take (h : NInv o sh d ss F) (hd : d < s) (hp : ts.Perm (fst1 o (win s) ++ F)) (hs : ts.Pairwise (· ≤ ·)) : NInv o sh d (ss ++ [s]) (ts.take 1) := by
  have old : ∀ x, (∃ f ∈ F, f ≤ x) → ∃ f ∈ ts.take 1, f ≤ x := fun x ⟨f, mf, hf⟩ => by
    obtain ⟨t, mt, ht⟩ := take1_min hs (hp.mem_iff.mpr (List.mem_append_right _ mf))
    exact ⟨t, mt, by omega⟩
  refine ⟨by rw [List.length_take]; omega, fun f m => ?_, fun x hx hw => old x (h.w0 x hx hw), fun x t hx m h1 h2 hw => ?_⟩
  · rcases List.mem_append.mp (hp.mem_iff.mp (List.mem_of_mem_take m)) with m | m
    · have q := fst1_mem m
      have := (win_mem.mp q.2).1
      exact ⟨q.1, by omega⟩
    · exact h.mem f m
  · rcases List.mem_append.mp m with m | m
    · exact old x (h.ws x t hx m h1 h2 hw)
    · cases List.mem_singleton.mp m
      obtain ⟨f, mf, hf⟩ := fst1_has (win_up s) hw hx
      obtain ⟨t, mt, ht⟩ := take1_min hs (hp.mem_iff.mpr (List.mem_append_left _ mf))
      exact ⟨t, mt, by omega⟩
theorem NInv.fin {D : Int} (h : NInv o sh d ss F) (hD : o D = true) (hd : d ≤ D) (hno : ∀ y, d ≤ y → y < D → o y = false)
    (hc : D ≤ d + 7 ∨ ∃ s, s ∈ ss ∧ d < s ∧ s ≤ D ∧ D ≤ s + 7 ∧ sh s = false) : F = [D] := by
  have key : ∃ f ∈ F, f ≤ D := by
    rcases hc with c | ⟨s, ms, h1, h2, h3, h4⟩
    · exact h.w0 D hD (win_mem.mpr ⟨hd, c⟩)
    · exact h.ws D s hD ms h1 h4 (win_mem.mpr ⟨h2, h3⟩)
  obtain ⟨f, mf, hf⟩ := key
  have q := h.mem f mf
  have e : f = D := by
    by_cases c : f < D
    · have := hno f q.2 c
      rw [q.1] at this
      cases this
    · omega
  subst e
  match F, mf, h.len with
  | [g], mf, _ => rw [List.mem_singleton.mp mf]
  | _ :: _ :: _, _, l => exact absurd l (by simp)
/-! back -/
structure BInv (o sh : Int → Bool) (d : Int) (ss : List Int) (F : List Int) : Prop where
  len : F.length ≤ 1
  mem : ∀ f ∈ F, o f = true ∧ f ≤ d
  w0 : ∀ x, o x = true → x ∈ winB d 0 → ∃ f ∈ F, x ≤ f
  ws : ∀ x s, o x = true → s ∈ ss → s ≤ d → sh (s - 1) = false → x ∈ winB s 1 → ∃ f ∈ F, x ≤ f
theorem BInv.start : BInv o sh d [] (fst1 o (winB d 0)) :=
  ⟨fst1_len, fun f m => ⟨(fst1_mem m).1, by have := (winB_mem.mp (fst1_mem m).2).2; omega⟩, fun x h m => by
    obtain ⟨f, mf, h⟩ := fst1_has (winB_down d 0) m h
    exact ⟨f, mf, by omega⟩, fun x s _ m => nomatch m⟩
theorem BInv.skip (h : BInv o sh d ss F) (hn : ¬ (s ≤ d ∧ (F = [] ∨ ∃ f ∈ F, f < s) ∧ sh (s - 1) = false)) : BInv o sh d (ss ++ [s]) F :=
  ⟨h.len, h.mem, h.w0, fun x t hx m h1 h2 hw => by
    rcases List.mem_append.mp m with m | m
    · exact h.ws x t hx m h1 h2 hw
    · cases List.mem_singleton.mp m
      match F, hn, h with
      | [], hn, _ => exact absurd ⟨h1, .inl rfl, h2⟩ hn
      | f :: F', hn, _ =>
        refine ⟨f, List.mem_cons_self, ?_⟩
        have := (winB_mem.mp hw).2
        by_cases c : f < s
        · exact absurd ⟨h1, .inr ⟨f, List.mem_cons_self, c⟩, h2⟩ hn
        · omega⟩
/-- the last one -/
def last1 (ts : List Int) : List Int := ts.drop (ts.length - 1)
theorem last1_len : (last1 ts).length ≤ 1 := by unfold last1; rw [List.length_drop]; omega
theorem last1_mem {x : Int} (m : x ∈ last1 ts) : x ∈ ts := List.mem_of_mem_drop m
theorem last1_max (hs : ts.Pairwise (· ≤ ·)) {x : Int} (m : x ∈ ts) : ∃ f ∈ last1 ts, x ≤ f := by
  obtain ⟨i, hi, rfl⟩ := List.getElem_of_mem m
  have hl : ts.length - 1 < ts.length := by omega
  refine ⟨ts[ts.length - 1], ?_, ?_⟩
  · unfold last1
    rw [List.drop_eq_getElem_cons hl]
    exact List.mem_cons_self
  · by_cases c : i = ts.length - 1
    · subst c
      exact Int.le_refl _
    · exact List.pairwise_iff_getElem.mp hs i _ hi hl (by omega)
theorem BInv.take (h : BInv o sh d ss F) (hd : s ≤ d) (hp : ts.Perm (fst1 o (winB s 1) ++ F)) (hs : ts.Pairwise (· ≤ ·)) : BInv o sh d (ss ++ [s]) (last1 ts) := by
  have old : ∀ x, (∃ f ∈ F, x ≤ f) → ∃ f ∈ last1 ts, x ≤ f := fun x ⟨f, mf, hf⟩ => by
    obtain ⟨t, mt, ht⟩ := last1_max hs (hp.mem_iff.mpr (List.mem_append_right _ mf))
    exact ⟨t, mt, by omega⟩
  refine ⟨last1_len, fun f m => ?_, fun x hx hw => old x (h.w0 x hx hw), fun x t hx m h1 h2 hw => ?_⟩
  · rcases List.mem_append.mp (hp.mem_iff.mp (last1_mem m)) with m | m
    · have q := fst1_mem m
      have := (winB_mem.mp q.2).2
      exact ⟨q.1, by omega⟩
    · exact h.mem f m
  · rcases List.mem_append.mp m with m | m
    · exact old x (h.ws x t hx m h1 h2 hw)
    · cases List.mem_singleton.mp m
      obtain ⟨f, mf, hf⟩ := fst1_has (winB_down s 1) hw hx
      obtain ⟨t, mt, ht⟩ := last1_max hs (hp.mem_iff.mpr (List.mem_append_left _ mf))
      exact ⟨t, mt, by omega⟩
theorem BInv.fin {D : Int} (h : BInv o sh d ss F) (hD : o D = true) (hd : D ≤ d) (hno : ∀ y, D < y → y ≤ d → o y = false)
    (hc : d - 7 ≤ D ∨ ∃ s, s ∈ ss ∧ s ≤ d ∧ D ≤ s - 1 ∧ s - 8 ≤ D ∧ sh (s - 1) = false) : F = [D] := by
  have key : ∃ f ∈ F, D ≤ f := by
    rcases hc with c | ⟨s, ms, h1, h2, h3, h4⟩
    · exact h.w0 D hD (winB_mem.mpr ⟨by omega, by omega⟩)
    · exact h.ws D s hD ms h1 h4 (winB_mem.mpr ⟨by omega, by omega⟩)
  obtain ⟨f, mf, hf⟩ := key
  have q := h.mem f mf
  have e : f = D := by
    by_cases c : D < f
    · have := hno f c q.2
      rw [q.1] at this
      cases this
    · omega
  subst e
  match F, mf, h.len with
  | [g], mf, _ => rw [List.mem_singleton.mp mf]
  | _ :: _ :: _, _, l => exact absurd l (by simp)
/-- the least number -/
theorem least {P : Nat → Bool} : ∀ n : Nat, P n = true → ∃ m, P m = true ∧ ∀ i, i < m → P i = false := by
  intro n
  induction n using Nat.strongRecOn with
  | _ n ih =>
    intro h
    by_cases c : ∃ i, i < n ∧ P i = true
    · obtain ⟨i, h1, h2⟩ := c
      exact ih i h1 h2
    · exact ⟨n, h, fun i hi => by
        cases e : P i with
        | false => rfl
        | true => exact absurd ⟨i, hi, e⟩ c⟩
end Cal
set_option maxHeartbeats 4000000
/-! Cal10: open days counted piece by piece. -/
namespace Cal
/-- the open days from a to b, b not included -/
def NB (o : Int → Bool) (a b : Int) : Int := N o a (b - a).toNat
theorem NB_self {o : Int → Bool} {a : Int} : NB o a a = 0 := by unfold NB; rw [Int.sub_self]; rfl
theorem NB_add {o : Int → Bool} {a b c : Int} (h1 : a ≤ b) (h2 : b ≤ c) : NB o a c = NB o a b + NB o b c := by
  unfold NB
  have e : (c - a).toNat = (b - a).toNat + (c - b).toNat := by omega
  rw [e, N_add, show a + ((b - a).toNat : Int) = b by omega]
theorem N_filter {o : Int → Bool} {a : Int} : ∀ n : Nat, (((List.range n).filter fun (k : Nat) => o (a + (k : Int))).length : Int) = N o a n
  | 0 => rfl
  | n + 1 => by
    rw [List.range_succ, List.filter_append, List.length_append]
    push_cast
    rw [N_filter n]
    show N o a n + _ = N o a n + _
    congr 1
    rw [List.filter_cons]
    cases o (a + (n : Int)) <;> rfl
section
variable {cs os : List St} {pat : List Bool} {o : Int → Bool} {a b : Int}
def NoStart (cs os : List St) (a b : Int) : Prop := ∀ s, Start cs os s → ¬ (a < s ∧ s < b)
theorem ns_cs (h : NoStart cs os a b) : ∀ t ∈ cs, ¬ (a < t.1 ∧ t.1 < b) ∧ ¬ (a < t.2 + 1 ∧ t.2 + 1 < b) := fun t m => ⟨h _ ⟨t, .inl m, .inl rfl⟩, h _ ⟨t, .inl m, .inr rfl⟩⟩
theorem ns_os (h : NoStart cs os a b) : ∀ t ∈ os, ¬ (a < t.1 ∧ t.1 < b) ∧ ¬ (a < t.2 + 1 ∧ t.2 + 1 < b) := fun t m => ⟨h _ ⟨t, .inr m, .inl rfl⟩, h _ ⟨t, .inr m, .inr rfl⟩⟩
theorem off_of {p : Prop} {c : Bool} (h : c = true ↔ p) (n : ¬ p) : c = false := by
  cases e : c with
  | false => rfl
  | true => exact absurd (h.mp e) n
theorem piece_shut (ho : ∀ x, o x = true ↔ Opd cs os (popen pat) x) (h : NoStart cs os a b) (hc : Cov cs a) : NB o a b = 0 :=
  N_none fun x h1 h2 => off_of (ho x) fun q => q.1 ((cov_same (ns_cs h) h1 (by omega)).mpr hc)
theorem piece_free (ho : ∀ x, o x = true ↔ Opd cs os (popen pat) x) (h : NoStart cs os a b) (hab : a ≤ b) (hc : ¬ Cov cs a) (hf : Cov os a) : NB o a b = b - a := by
  unfold NB
  rw [N_all fun x h1 h2 => (ho x).mpr ⟨fun c => hc ((cov_same (ns_cs h) h1 (by omega)).mp c), .inr ((cov_same (ns_os h) h1 (by omega)).mpr hf)⟩]
  omega
theorem piece_plain (hpat : 0 < pat.length) (ho : ∀ x, o x = true ↔ Opd cs os (popen pat) x) (h : NoStart cs os a b) (hab : a ≤ b) (hc : ¬ Cov cs a) (hf : ¬ Cov os a) :
    NB o a b = (b - a) / ln pat * tot pat + NB o (a + (b - a) / ln pat * ln pat) b := by
  have hl : 0 < ln pat := by unfold ln; omega
  have e1 : ∀ x, a ≤ x → x < b → o x = popen pat x := fun x h1 h2 => by
    cases e : popen pat x with
    | true => exact (ho x).mpr ⟨fun c => hc ((cov_same (ns_cs h) h1 h2).mp c), .inl e⟩
    | false => exact off_of (ho x) fun q => q.2.elim (fun z => by rw [e] at z; cases z) fun z => hf ((cov_same (ns_os h) h1 h2).mp z)
  have d0 := Int.mul_ediv_add_emod (b - a) (ln pat)
  have d1 := Int.emod_nonneg (b - a) (Int.ne_of_gt hl)
  have d2 := Int.ediv_nonneg (a := b - a) (b := ln pat) (by omega) (by omega)
  have d3 : 0 ≤ (b - a) / ln pat * ln pat := Int.mul_nonneg d2 (by omega)
  have d4 : (b - a) / ln pat * ln pat = ln pat * ((b - a) / ln pat) := Int.mul_comm _ _
  have t := pl_turn hpat a ((b - a) / ln pat)
  generalize (b - a) / ln pat * ln pat = w at d3 d4 t ⊢
  have wb : w ≤ b - a := by omega
  have n1 : NB o a b = pl pat b - pl pat a := by
    unfold NB
    rw [N_congr (o' := popen pat) fun x h1 h2 => e1 x h1 (by omega), N_pl hpat, show a + ((b - a).toNat : Int) = b by omega]
  have n2 : NB o (a + w) b = pl pat b - pl pat (a + w) := by
    unfold NB
    rw [N_congr (o' := popen pat) fun x h1 h2 => e1 x (by omega) (by omega), N_pl hpat, show a + w + ((b - (a + w)).toNat : Int) = b by omega]
  rw [n1, n2, t]
  omega
end
/-! the cuts -/
structure Cuts (cs os : List St) (b e : Int) (ts : List Int) : Prop where
  asc : ts.Pairwise (· ≤ ·)
  mem : ∀ x, x ∈ ts ↔ (Start cs os x ∧ b < x ∧ x ≤ e) ∨ x = b ∨ x = e + 1
section
variable {cs os : List St} {b e : Int} {ts : List Int}
theorem Cuts.rng (h : Cuts cs os b e ts) (hbe : b ≤ e) {x : Int} (m : x ∈ ts) : b ≤ x ∧ x ≤ e + 1 := by
  rcases (h.mem x).mp m with ⟨_, h1, h2⟩ | rfl | rfl <;> omega
theorem asc_le {ts : List Int} (h : ts.Pairwise (· ≤ ·)) {i j : Nat} {x y : Int} (hi : ts[i]? = some x) (hj : ts[j]? = some y) (l : i ≤ j) : x ≤ y := by
  by_cases c : i = j
  · subst c
    rw [hi] at hj
    cases hj
    exact Int.le_refl _
  · obtain ⟨i1, e1⟩ := List.getElem?_eq_some_iff.mp hi
    obtain ⟨j1, e2⟩ := List.getElem?_eq_some_iff.mp hj
    have := List.pairwise_iff_getElem.mp h i j i1 j1 (by omega)
    rwa [e1, e2] at this
theorem Cuts.first (h : Cuts cs os b e ts) (hbe : b ≤ e) {x : Int} (hx : ts[0]? = some x) : x = b := by
  obtain ⟨j, hj⟩ := List.mem_iff_getElem?.mp ((h.mem b).mpr (.inr (.inl rfl)))
  have h1 := asc_le h.asc hx hj (Nat.zero_le _)
  have h2 := (h.rng hbe (List.mem_of_getElem? hx)).1
  omega
theorem Cuts.last (h : Cuts cs os b e ts) (hbe : b ≤ e) {x : Int} (hx : ts[ts.length - 1]? = some x) : x = e + 1 := by
  obtain ⟨j, hj⟩ := List.mem_iff_getElem?.mp ((h.mem (e + 1)).mpr (.inr (.inr rfl)))
  have hl := (List.getElem?_eq_some_iff.mp hj).1
  have h1 := asc_le h.asc hj hx (by omega)
  have h2 := (h.rng hbe (List.mem_of_getElem? hx)).2
  omega
theorem Cuts.noStart (h : Cuts cs os b e ts) (hbe : b ≤ e) {i : Nat} {x y : Int} (hx : ts[i]? = some x) (hy : ts[i + 1]? = some y) : x ≤ y ∧ NoStart cs os x y := by
  refine ⟨asc_le h.asc hx hy (by omega), fun s hs ⟨h1, h2⟩ => ?_⟩
  have r1 := h.rng hbe (List.mem_of_getElem? hx)
  have r2 := h.rng hbe (List.mem_of_getElem? hy)
  obtain ⟨j, hj⟩ := List.mem_iff_getElem?.mp ((h.mem s).mpr (.inl ⟨hs, by omega, by omega⟩))
  by_cases c : j ≤ i
  · have := asc_le h.asc hj hx c
    omega
  · have := asc_le h.asc hy hj (by omega)
    omega
end
end Cal
set_option maxHeartbeats 4000000
/-! Cal11: the list of the open days. -/
namespace Cal
def opens (o : Int → Bool) (a : Int) (n : Nat) : List Int := ((List.range n).map fun (k : Nat) => a + (k : Int)).filter o
variable {o : Int → Bool} {a b e : Int}
theorem opens_succ (n : Nat) : opens o a (n + 1) = opens o a n ++ (if o (a + (n : Int)) = true then [a + (n : Int)] else []) := by
  unfold opens
  rw [List.range_succ, List.map_append, List.filter_append]
  congr 1
  show List.filter o [a + (n : Int)] = _
  rw [List.filter_cons]
  cases o (a + (n : Int)) <;> rfl
theorem opens_len : ∀ n : Nat, ((opens o a n).length : Int) = N o a n
  | 0 => rfl
  | n + 1 => by
    rw [opens_succ, List.length_append]
    push_cast
    rw [opens_len n]
    show N o a n + _ = N o a n + _
    congr 1
    cases o (a + (n : Int)) <;> rfl
theorem opens_add (m : Nat) : ∀ n : Nat, opens o a (m + n) = opens o a m ++ opens o (a + m) n
  | 0 => by simp [opens]
  | n + 1 => by
    show opens o a ((m + n) + 1) = _
    rw [opens_succ, opens_add m n, opens_succ, List.append_assoc, show a + ((m + n : Nat) : Int) = a + (m : Int) + (n : Int) by push_cast; omega]
theorem opens_mem {n : Nat} {x : Int} : x ∈ opens o a n ↔ o x = true ∧ a ≤ x ∧ x < a + n := by
  unfold opens
  rw [List.mem_filter, List.mem_map]
  constructor
  · rintro ⟨⟨k, hk, rfl⟩, h⟩
    have := List.mem_range.mp hk
    exact ⟨h, by omega, by omega⟩
  · rintro ⟨h, h1, h2⟩
    exact ⟨⟨(x - a).toNat, List.mem_range.mpr (by omega), by omega⟩, h⟩
theorem filter_all {p : Int → Bool} {l : List Int} (h : ∀ x ∈ l, p x = true) : l.filter p = l := List.filter_eq_self.mpr h
theorem filter_no {p : Int → Bool} {l : List Int} (h : ∀ x ∈ l, p x = false) : l.filter p = [] := List.filter_eq_nil_iff.mpr fun x m c => by rw [h x m] at c; cases c
theorem opens_ge {n : Nat} (h1 : a ≤ b) (h2 : b ≤ a + n) : (opens o a n).filter (fun x => decide (b ≤ x)) = opens o b (a + n - b).toNat := by
  have e : n = (b - a).toNat + (a + n - b).toNat := by omega
  have e2 : a + ((b - a).toNat : Int) = b := by omega
  conv => lhs; rw [e]
  rw [opens_add, List.filter_append, e2, filter_no fun x m => ?_, filter_all fun x m => ?_, List.nil_append]
  · have := (opens_mem.mp m).2
    exact decide_eq_true (by omega)
  · have := (opens_mem.mp m).2
    exact decide_eq_false (by omega)
theorem opens_le {n : Nat} (h1 : a ≤ e + 1) (h2 : e < a + n) : (opens o a n).filter (fun x => decide (x ≤ e)) = opens o a (e + 1 - a).toNat := by
  have e1 : n = (e + 1 - a).toNat + (a + n - (e + 1)).toNat := by omega
  have e2 : a + ((e + 1 - a).toNat : Int) = e + 1 := by omega
  conv => lhs; rw [e1]
  rw [opens_add, List.filter_append, e2, filter_all fun x m => ?_, filter_no fun x m => ?_, List.append_nil]
  · have := (opens_mem.mp m).2
    exact decide_eq_false (by omega)
  · have := (opens_mem.mp m).2
    exact decide_eq_true (by omega)
theorem opens_none {n : Nat} (h : e < b) : ((opens o a n).filter fun x => decide (b ≤ x) && decide (x ≤ e)) = [] :=
  filter_no fun x _ => by
    by_cases c : b ≤ x
    · rw [decide_eq_false (show ¬ x ≤ e by omega), Bool.and_false]
    · rw [decide_eq_false c, Bool.false_and]
theorem opens_both {n : Nat} (h1 : a ≤ b) (h3 : e < a + n) (h4 : b ≤ e + 1) : ((opens o a n).filter fun x => decide (b ≤ x) && decide (x ≤ e)) = opens o b (e + 1 - b).toNat := by
  have q : ((opens o a n).filter fun x => decide (b ≤ x) && decide (x ≤ e)) = ((opens o a n).filter fun x => decide (b ≤ x)).filter fun x => decide (x ≤ e) := by
    rw [List.filter_filter]
    exact List.filter_congr fun x _ => Bool.and_comm _ _
  rw [q, opens_ge h1 (by omega), opens_le h4 (by omega)]
theorem opens_at : ∀ {n k : Nat} {D : Int}, (opens o a n)[k]? = some D → o D = true ∧ a ≤ D ∧ D < a + n ∧ NB o a D = k
  | 0, k, D, h => by simp [opens] at h
  | n + 1, k, D, h => by
    rw [opens_succ] at h
    by_cases c : k < (opens o a n).length
    · rw [List.getElem?_append_left c] at h
      obtain ⟨h1, h2, h3, h4⟩ := opens_at h
      exact ⟨h1, h2, by omega, h4⟩
    · rw [List.getElem?_append_right (by omega)] at h
      by_cases q : o (a + (n : Int)) = true
      · rw [if_pos q] at h
        have hk : k - (opens o a n).length = 0 := by
          have := (List.getElem?_eq_some_iff.mp h).1
          simp at this
          omega
        rw [hk] at h
        have e : a + (n : Int) = D := by simpa using h
        subst e
        refine ⟨q, by omega, by push_cast; omega, ?_⟩
        unfold NB
        rw [show (a + (n : Int) - a).toNat = n by omega, ← opens_len n]
        omega
      · rw [if_neg q] at h
        simp at h
theorem N_nn : ∀ n : Nat, 0 ≤ N o a n
  | 0 => Int.le_refl _
  | n + 1 => by
    have := N_nn n
    have q := b2i_nn (o (a + (n : Int)))
    show 0 ≤ N o a n + _
    omega
theorem NB_lt {D E : Int} (ho : o D = true) (h : D < E) : 1 ≤ NB o D E := by
  rw [NB_add (b := D + 1) (by omega) (by omega)]
  have h1 : NB o D (D + 1) = 1 := by
    unfold NB
    rw [show (D + 1 - D).toNat = 1 by omega]
    show N o D 0 + b2i (o (D + ((0 : Nat) : Int))) = 1
    rw [show D + ((0 : Nat) : Int) = D by simp, ho]
    rfl
  have h2 : 0 ≤ NB o (D + 1) E := N_nn _
  omega
theorem nth_one {D E : Int} (h1 : o D = true) (h2 : b ≤ D) (g1 : o E = true) (g2 : b ≤ E) (e : NB o b D = NB o b E) : D = E := by
  rcases Int.lt_trichotomy D E with c | c | c
  · have := NB_add (o := o) h2 (Int.le_of_lt c)
    have := NB_lt h1 c
    omega
  · exact c
  · have := NB_add (o := o) g2 (Int.le_of_lt c)
    have := NB_lt g1 c
    omega
theorem NB_zero {D : Int} (h : NB o b D = 0) : ∀ y, b ≤ y → y < D → o y = false := fun y h1 h2 => by
  cases c : o y with
  | false => rfl
  | true =>
    have e := NB_add (o := o) h1 (Int.le_of_lt h2)
    have := NB_lt c h2
    have h3 : 0 ≤ NB o b y := N_nn _
    omega
/-- the last one -/
theorem opens_last {n : Nat} {D : Int} (h : (opens o a n)[(opens o a n).length - 1]? = some D) : o D = true ∧ a ≤ D ∧ D < a + n ∧ ∀ y, D < y → y < a + n → o y = false := by
  obtain ⟨h1, h2, h3, h4⟩ := opens_at h
  refine ⟨h1, h2, h3, fun y y1 y2 => ?_⟩
  have hl := (List.getElem?_eq_some_iff.mp h).1
  have l := opens_len (o := o) (a := a) n
  have t : N o a n = NB o a (a + n) := by unfold NB; rw [show (a + (n : Int) - a).toNat = n by omega]
  cases c : o y with
  | false => rfl
  | true =>
    have e1 := NB_add (o := o) h2 (show D ≤ a + (n : Int) by omega)
    have e2 := NB_add (o := o) (Int.le_of_lt y1) (show y ≤ a + (n : Int) by omega)
    have q1 := NB_lt h1 y1
    have q2 := NB_lt c y2
    omega
end Cal
set_option maxHeartbeats 2000000
/-! Cal12: calendars with one pattern's days and equal ranks where stretches begin or have ended have the same open days. -/
namespace Cal
theorem ex_max : ∀ {L : List Int}, L ≠ [] → ∃ m ∈ L, ∀ x ∈ L, x ≤ m
  | [], h => absurd rfl h
  | [a], _ => ⟨a, List.mem_cons_self, fun x m => by cases List.mem_singleton.mp m; exact Int.le_refl _⟩
  | a :: b :: L, _ => by
    obtain ⟨m, hm, hx⟩ := ex_max (L := b :: L) (by simp)
    by_cases c : a ≤ m
    · exact ⟨m, List.mem_cons_of_mem _ hm, fun x mx => by
        rcases List.mem_cons.mp mx with rfl | mx
        · exact c
        · exact hx x mx⟩
    · exact ⟨a, List.mem_cons_self, fun x mx => by
        rcases List.mem_cons.mp mx with rfl | mx
        · exact Int.le_refl _
        · have := hx x mx
          omega⟩
theorem ex_min {L : List Int} (h : L ≠ []) : ∃ m ∈ L, ∀ x ∈ L, m ≤ x := by
  obtain ⟨m, hm, hx⟩ := ex_max (L := L.map (- ·)) (by simpa using h)
  obtain ⟨m', hm', rfl⟩ := List.mem_map.mp hm
  exact ⟨m', hm', fun x mx => by
    have := hx (-x) (List.mem_map.mpr ⟨x, mx, rfl⟩)
    omega⟩
theorem N_le {o : Int → Bool} {a : Int} : ∀ n : Nat, N o a n ≤ n
  | 0 => Int.le_refl _
  | n + 1 => by
    show N o a n + b2i _ ≤ ((n + 1 : Nat) : Int)
    have h1 := N_le (o := o) (a := a) n
    have h2 := (b2i_nn (o (a + (n : Int)))).2
    push_cast
    omega
/-- the count around one day -/
theorem N_at {o : Int → Bool} {a y : Int} {n : Nat} (h1 : a ≤ y) (h2 : y < a + n) : ∃ m k : Nat, n = m + 1 + k ∧ y = a + m ∧ N o a n = N o a m + b2i (o y) + N o (y + 1) k := by
  refine ⟨(y - a).toNat, (a + n - y - 1).toNat, by omega, by omega, ?_⟩
  have e : n = (y - a).toNat + 1 + (a + n - y - 1).toNat := by omega
  have e1 : ((y - a).toNat : Int) = y - a := by omega
  conv => lhs; rw [e]
  rw [N_add, show (((y - a).toNat + 1 : Nat) : Int) = y - a + 1 by omega, show a + (y - a + 1) = y + 1 by omega]
  show N o a (y - a).toNat + b2i (o (a + ((y - a).toNat : Int))) + _ = _
  rw [e1, show a + (y - a) = y by omega]
/-- what a calendar is like from one of these days to the next one -/
inductive Kind (o p : Int → Bool) (a : Int) (n : Nat) : Prop
  | shut (h : ∀ x, a ≤ x → x < a + n → o x = false)
  | free (h : ∀ x, a ≤ x → x < a + n → o x = true)
  | plain (h : ∀ x, a ≤ x → x < a + n → o x = p x)
theorem kind_half {o1 o2 p : Int → Bool} {a y : Int} {n : Nat} (k1 : Kind o1 p a n) (k2 : Kind o2 p a n) (e : N o1 a n = N o2 a n) (h1 : a ≤ y) (h2 : y < a + n) (hy : o1 y = true) : o2 y = true := by
  by_cases c : o2 y = true
  · exact c
  · have c : o2 y = false := by simpa using c
    exfalso
    obtain ⟨m, k, en, ey, s1⟩ := N_at (o := o1) h1 h2
    obtain ⟨m', k', en', ey', s2⟩ := N_at (o := o2) h1 h2
    have hm : m' = m := by omega
    have hk : k' = k := by omega
    subst hm
    subst hk
    rw [hy] at s1
    rw [c] at s2
    have b1 : b2i true = 1 := rfl
    have b0 : b2i false = 0 := rfl
    rw [b1] at s1
    rw [b0] at s2
    have n1 := N_nn (o := o1) (a := a) m'
    have n2 := N_nn (o := o1) (a := y + 1) k'
    have n3 := N_le (o := o2) (a := a) m'
    have n4 := N_le (o := o2) (a := y + 1) k'
    cases k2 with
    | shut h =>
      have := N_none h
      omega
    | free h =>
      have := h y h1 h2
      rw [c] at this
      cases this
    | plain h2' =>
      have py := h2' y h1 h2
      rw [c] at py
      cases k1 with
      | shut h =>
        have := h y h1 h2
        rw [hy] at this
        cases this
      | free h =>
        have := N_all h
        omega
      | plain h =>
        have := h y h1 h2
        rw [hy, ← py] at this
        cases this
theorem kind_same {o1 o2 p : Int → Bool} {a y : Int} {n : Nat} (k1 : Kind o1 p a n) (k2 : Kind o2 p a n) (e : N o1 a n = N o2 a n) (h1 : a ≤ y) (h2 : y < a + n) : o1 y = o2 y :=
  Bool.eq_iff_iff.mpr ⟨kind_half k1 k2 e h1 h2, kind_half k2 k1 e.symm h1 h2⟩
theorem kind_of {o p : Int → Bool} {cl op : List St} {a b : Int} (ho : ∀ x, o x = true ↔ ¬ Cov cl x ∧ (Cov op x ∨ p x = true)) (hab : a ≤ b)
    (n1 : ∀ t ∈ cl, ¬ (a < t.1 ∧ t.1 < b) ∧ ¬ (a < t.2 + 1 ∧ t.2 + 1 < b)) (n2 : ∀ t ∈ op, ¬ (a < t.1 ∧ t.1 < b) ∧ ¬ (a < t.2 + 1 ∧ t.2 + 1 < b)) : Kind o p a (b - a).toNat := by
  have e : a + ((b - a).toNat : Int) = b := by omega
  by_cases c1 : Cov cl a
  · refine .shut fun x h1 h2 => ?_
    have := (cov_same n1 h1 (by omega : x < b)).mpr c1
    cases q : o x with
    | false => rfl
    | true => exact absurd this ((ho x).mp q).1
  · by_cases c2 : Cov op a
    · exact .free fun x h1 h2 => (ho x).mpr ⟨fun c => c1 ((cov_same n1 h1 (by omega : x < b)).mp c), .inl ((cov_same n2 h1 (by omega : x < b)).mpr c2)⟩
    · refine .plain fun x h1 h2 => Bool.eq_iff_iff.mpr ⟨fun q => ?_, fun q => (ho x).mpr ⟨fun c => c1 ((cov_same n1 h1 (by omega : x < b)).mp c), .inr q⟩⟩
      rcases ((ho x).mp q).2 with z | z
      · exact absurd ((cov_same n2 h1 (by omega : x < b)).mp z) c2
      · exact z
/-- equal ranks where stretches begin or have ended: the same open days -/
theorem eq_days {pat1 pat2 : List Bool} {ps1 ps2 : List Pc} {cl1 op1 cl2 op2 : List St} {T : List Int} (hl1 : 0 < pat1.length) (hl2 : 0 < pat2.length) (h1 : Okp ps1) (h2 : Okp ps2) (s1 : Sem pat1 cl1 op1 ps1) (s2 : Sem pat2 cl2 op2 ps2)
    (hp : ∀ y, popen pat1 y = popen pat2 y) (hT : ∀ s : St, s ∈ cl1 ∨ s ∈ op1 ∨ s ∈ cl2 ∨ s ∈ op2 → s.1 ∈ T ∧ s.2 + 1 ∈ T) (hr : ∀ t ∈ T, ∀ r s, Rk pat1 ps1 t r → Rk pat2 ps2 t s → r = s) (y : Int) : opn pat1 ps1 y = opn pat2 ps2 y := by
  have hp' : popen pat1 = popen pat2 := funext hp
  have s1 : ∀ x, opn pat1 ps1 x = true ↔ ¬ Cov cl1 x ∧ (Cov op1 x ∨ popen pat1 x = true) := s1
  have s2 : ∀ x, opn pat2 ps2 x = true ↔ ¬ Cov cl2 x ∧ (Cov op2 x ∨ popen pat1 x = true) := by
    intro x
    rw [hp']
    exact s2 x
  by_cases c : (∃ t ∈ T, t ≤ y) ∧ ∃ t ∈ T, y < t
  · obtain ⟨⟨ta, ma, la⟩, tb, mb, lb⟩ := c
    obtain ⟨a, ha, hax⟩ := ex_max (L := T.filter fun t => decide (t ≤ y)) (List.ne_nil_of_mem (List.mem_filter.mpr ⟨ma, decide_eq_true la⟩))
    obtain ⟨b, hb, hbx⟩ := ex_min (L := T.filter fun t => decide (y < t)) (List.ne_nil_of_mem (List.mem_filter.mpr ⟨mb, decide_eq_true lb⟩))
    obtain ⟨aT, ay⟩ := List.mem_filter.mp ha
    obtain ⟨bT, yb⟩ := List.mem_filter.mp hb
    have ay := of_decide_eq_true ay
    have yb := of_decide_eq_true yb
    have no : ∀ t ∈ T, ¬ (a < t ∧ t < b) := fun t m ⟨z1, z2⟩ => by
      by_cases q : t ≤ y
      · have := hax t (List.mem_filter.mpr ⟨m, decide_eq_true q⟩)
        omega
      · have := hbx t (List.mem_filter.mpr ⟨m, decide_eq_true (by omega)⟩)
        omega
    have k1 := kind_of (a := a) (b := b) s1 (by omega) (fun t m => ⟨no _ (hT t (.inl m)).1, no _ (hT t (.inl m)).2⟩) (fun t m => ⟨no _ (hT t (.inr (.inl m))).1, no _ (hT t (.inr (.inl m))).2⟩)
    have k2 := kind_of (a := a) (b := b) s2 (by omega) (fun t m => ⟨no _ (hT t (.inr (.inr (.inl m)))).1, no _ (hT t (.inr (.inr (.inl m)))).2⟩) (fun t m => ⟨no _ (hT t (.inr (.inr (.inr m)))).1, no _ (hT t (.inr (.inr (.inr m)))).2⟩)
    obtain ⟨r1, q1⟩ := rk_ex (pat := pat1) h1 a
    obtain ⟨r2, q2⟩ := rk_ex (pat := pat2) h2 a
    obtain ⟨t1, q3⟩ := rk_ex (pat := pat1) h1 b
    obtain ⟨t2, q4⟩ := rk_ex (pat := pat2) h2 b
    have u1 := rk_up hl1 h1 q1 q3 (by omega)
    have u2 := rk_up hl2 h2 q2 q4 (by omega)
    have ea := hr a aT _ _ q1 q2
    have eb := hr b bT _ _ q3 q4
    exact kind_same k1 k2 (by omega) ay (by omega)
  · have nc : ∀ s : St, s ∈ cl1 ∨ s ∈ op1 ∨ s ∈ cl2 ∨ s ∈ op2 → ¬ (s.1 ≤ y ∧ y ≤ s.2) := fun s m ⟨z1, z2⟩ => c ⟨⟨_, (hT s m).1, z1⟩, _, (hT s m).2, by omega⟩
    refine Bool.eq_iff_iff.mpr ((s1 y).trans (Iff.trans ?_ (s2 y).symm))
    constructor
    · rintro ⟨_, z⟩
      refine ⟨fun ⟨s, m, q⟩ => nc s (.inr (.inr (.inl m))) q, ?_⟩
      rcases z with ⟨s, m, q⟩ | z
      · exact absurd q (nc s (.inr (.inl m)))
      · exact .inr z
    · rintro ⟨_, z⟩
      refine ⟨fun ⟨s, m, q⟩ => nc s (.inl m) q, ?_⟩
      rcases z with ⟨s, m, q⟩ | z
      · exact absurd q (nc s (.inr (.inr (.inr m))))
      · exact .inr z
theorem popen_shift {pat : List Bool} {y k : Int} : popen pat (y + ln pat * k) = popen pat y := by
  unfold popen
  rw [Int.add_mul_emod_self_left]
/-- two patterns that agree on 56 days, one after the other, agree on all -/
theorem popen_eq {pat1 pat2 : List Bool} (h1 : 0 < pat1.length) (h2 : 0 < pat2.length) (e1 : pat1.length ≤ 8) (e2 : pat2.length ≤ 8) {c : Int} (h : ∀ y, c ≤ y → y < c + 56 → popen pat1 y = popen pat2 y) (y : Int) : popen pat1 y = popen pat2 y := by
  have key : ∃ (L m1 m2 : Int), 0 < L ∧ L ≤ 56 ∧ L = ln pat1 * m1 ∧ L = ln pat2 * m2 := by
    by_cases q : pat1.length = pat2.length
    · exact ⟨ln pat1, 1, 1, by unfold ln; omega, by unfold ln; omega, by omega, by unfold ln; omega⟩
    · refine ⟨ln pat1 * ln pat2, ln pat2, ln pat1, ?_, ?_, rfl, Int.mul_comm _ _⟩
      · unfold ln
        exact Int.mul_pos (by omega) (by omega)
      · have t : pat1.length * pat2.length ≤ 56 := by
          rcases Nat.lt_or_gt_of_ne q with z | z
          · exact Nat.le_trans (Nat.mul_le_mul (by omega : pat1.length ≤ 7) e2) (by decide)
          · exact Nat.le_trans (Nat.mul_le_mul e1 (by omega : pat2.length ≤ 7)) (by decide)
        unfold ln
        have : ((pat1.length * pat2.length : Nat) : Int) ≤ 56 := by omega
        rwa [Int.natCast_mul] at this
  obtain ⟨L, m1, m2, l0, l56, a1, a2⟩ := key
  have z0 := Int.emod_nonneg (y - c) (by omega : L ≠ 0)
  have z1 := Int.emod_lt_of_pos (y - c) l0
  have z2 := Int.emod_add_mul_ediv (y - c) L
  have w := h (c + (y - c) % L) (by omega) (by omega)
  have f1 : popen pat1 y = popen pat1 (c + (y - c) % L) := by
    have e : y = (c + (y - c) % L) + ln pat1 * (m1 * ((y - c) / L)) := by
      rw [← Int.mul_assoc, ← a1]
      omega
    conv => lhs; rw [e]
    exact popen_shift
  have f2 : popen pat2 y = popen pat2 (c + (y - c) % L) := by
    have e : y = (c + (y - c) % L) + ln pat2 * (m2 * ((y - c) / L)) := by
      rw [← Int.mul_assoc, ← a2]
      omega
    conv => lhs; rw [e]
    exact popen_shift
  rw [f1, f2, w]
end Cal
set_option maxHeartbeats 2000000
/-! Cal13: the same open days: one pattern's days, and equal ranks everywhere. -/
namespace Cal
theorem below (ss : List St) (ts : List Pc) : ∃ B : Int, (∀ s ∈ ss, B < s.1) ∧ ∀ p ∈ ts, B < p.1 := by
  have h1 : ∀ L : List Int, ∃ B : Int, ∀ x ∈ L, B < x := fun L => by
    induction L with
    | nil => exact ⟨0, fun _ m => nomatch m⟩
    | cons x L ih =>
      obtain ⟨B, h⟩ := ih
      refine ⟨min B (x - 1), fun y m => ?_⟩
      rcases List.mem_cons.mp m with rfl | m
      · omega
      · have := h y m
        omega
  obtain ⟨B, h⟩ := h1 (ss.map (·.1) ++ ts.map (·.1))
  exact ⟨B, fun s m => h _ (List.mem_append_left _ (List.mem_map.mpr ⟨s, m, rfl⟩)), fun p m => h _ (List.mem_append_right _ (List.mem_map.mpr ⟨p, m, rfl⟩))⟩
theorem far_open {pat : List Bool} {cs os : List St} {ps : List Pc} (h : Sem pat cs os ps) {B d : Int} (h1 : ∀ s ∈ cs ++ os, B < s.1) (hd : d ≤ B) : opn pat ps d = popen pat d := by
  have n1 : ¬ Cov cs d := fun ⟨s, m, a, _⟩ => by
    have := h1 s (List.mem_append_left _ m)
    omega
  have n2 : ¬ Cov os d := fun ⟨s, m, a, _⟩ => by
    have := h1 s (List.mem_append_right _ m)
    omega
  exact Bool.eq_iff_iff.mpr ⟨fun q => ((h d).mp q).2.elim (fun z => absurd z n2) id, fun q => (h d).mpr ⟨n1, .inr q⟩⟩
theorem same_pop {pat1 pat2 : List Bool} {ps1 ps2 : List Pc} {cs1 os1 cs2 os2 : List St} (hl1 : 0 < pat1.length) (hl2 : 0 < pat2.length) (e1 : pat1.length ≤ 8) (e2 : pat2.length ≤ 8) (s1 : Sem pat1 cs1 os1 ps1) (s2 : Sem pat2 cs2 os2 ps2)
    (h : ∀ y, opn pat1 ps1 y = opn pat2 ps2 y) (y : Int) : popen pat1 y = popen pat2 y := by
  obtain ⟨B, hB, _⟩ := below ((cs1 ++ os1) ++ (cs2 ++ os2)) []
  refine popen_eq hl1 hl2 e1 e2 (c := B - 56) (fun z z1 z2 => ?_) y
  rw [← far_open s1 (B := B) (fun s m => hB s (List.mem_append_left _ m)) (by omega : z ≤ B), ← far_open s2 (B := B) (fun s m => hB s (List.mem_append_right _ m)) (by omega : z ≤ B)]
  exact h z
theorem pl_zero (pat : List Bool) : pl pat 0 = 0 := by
  unfold pl
  rw [Int.zero_ediv, Int.zero_emod, Int.zero_mul]
  rfl
theorem pl_N {pat : List Bool} (h : 0 < pat.length) (d : Int) : pl pat d = N (popen pat) 0 d.toNat - N (popen pat) d (-d).toNat := by
  by_cases c : 0 ≤ d
  · have a := N_pl h 0 d.toNat
    rw [show (0 : Int) + (d.toNat : Int) = d by omega, pl_zero] at a
    rw [show (-d).toNat = 0 by omega, a]
    show _ = _ - 0
    omega
  · have a := N_pl h d (-d).toNat
    rw [show d + ((-d).toNat : Int) = 0 by omega, pl_zero] at a
    rw [show d.toNat = 0 by omega, a]
    show _ = 0 - _
    omega
theorem pl_same {pat1 pat2 : List Bool} (hl1 : 0 < pat1.length) (hl2 : 0 < pat2.length) (h : ∀ y, popen pat1 y = popen pat2 y) (d : Int) : pl pat1 d = pl pat2 d := by
  rw [pl_N hl1, pl_N hl2, show popen pat1 = popen pat2 from funext h]
theorem rk_low {pat : List Bool} {ps : List Pc} {d : Int} (h : ∀ p ∈ ps, d < p.1) : Rk pat ps d (pl pat d) :=
  ⟨0, ⟨Nat.zero_le _, fun j f l _ => absurd l (Nat.not_lt_zero _), fun j f _ hf => by
    obtain ⟨p, m, rfl⟩ := List.mem_map.mp (List.mem_of_getElem? hf)
    exact h p m⟩, rfl⟩
theorem rk_same {pat1 pat2 : List Bool} {ps1 ps2 : List Pc} (hl1 : 0 < pat1.length) (hl2 : 0 < pat2.length) (h1 : Okp ps1) (h2 : Okp ps2) (hp : ∀ y, popen pat1 y = popen pat2 y) (ho : ∀ y, opn pat1 ps1 y = opn pat2 ps2 y) {d r s : Int} (q1 : Rk pat1 ps1 d r) (q2 : Rk pat2 ps2 d s) : r = s := by
  obtain ⟨B, _, hB⟩ := below [] (ps1 ++ ps2)
  have g1 : ∀ p ∈ ps1, min B d < p.1 := fun p m => by
    have := hB p (List.mem_append_left _ m)
    omega
  have g2 : ∀ p ∈ ps2, min B d < p.1 := fun p m => by
    have := hB p (List.mem_append_right _ m)
    omega
  have u1 := rk_up hl1 h1 (rk_low g1) q1 (by omega)
  have u2 := rk_up hl2 h2 (rk_low g2) q2 (by omega)
  rw [show opn pat1 ps1 = opn pat2 ps2 from funext ho] at u1
  rw [pl_same hl1 hl2 hp] at u1
  omega
end Cal
set_option maxRecDepth 100000
set_option maxHeartbeats 4000000
/-! Dv40: a text, n times, n at least 1; patterns brought to one length. -/
namespace Dv
open PySem PySem.Spec PyProof.Rows L2
theorem times_list (z : Str) (n : Nat) : (times z n).cps.toList = (List.replicate n z.cps.toList).flatten := by
  have e : ∀ (l : List (Array Nat)) (a : Array Nat), (List.foldl (fun a b => a ++ b) a l).toList = a.toList ++ (l.map (·.toList)).flatten := by
    intro l
    induction l with
    | nil => exact fun a => (List.append_nil _).symm
    | cons x l ih =>
      intro a
      rw [List.foldl_cons, ih, Array.toList_append, List.map_cons, List.flatten_cons, List.append_assoc]
  show (List.foldl (fun a b => a ++ b) #[] (List.replicate n z.cps)).toList = _
  rw [e, List.map_replicate]
  rfl
theorem rep_at {α : Type} {l : List α} : ∀ {n i : Nat}, i < n * l.length → (List.replicate n l).flatten[i]? = l[i % l.length]?
  | 0, i, h => by omega
  | n + 1, i, h => by
    rw [List.replicate_succ, List.flatten_cons]
    by_cases c : i < l.length
    · rw [List.getElem?_append_left c, Nat.mod_eq_of_lt c]
    · have h2 : i - l.length < n * l.length := by
        rw [Nat.succ_mul] at h
        omega
      rw [List.getElem?_append_right (by omega), rep_at h2]
      congr 1
      conv => rhs; rw [show i = (i - l.length) + l.length by omega]
      rw [Nat.add_mod_right]
theorem times_at {z : Str} {n i : Nat} (h : i < n * z.length) : (times z n).cps.toList[i]? = z.cps.toList[i % z.length]? := by
  have hl : z.cps.toList.length = z.length := Array.length_toList
  rw [times_list, rep_at (by rw [hl]; exact h), hl]
theorem times_one (z : Str) : times z 1 = z := by
  have e := times_list z 1
  have e2 : (times z 1).cps.toList = z.cps.toList := by rw [e]; simp
  cases z with
  | mk c =>
    have : (times ⟨c⟩ 1).cps = c := Array.toList_inj.mp e2
    calc times ⟨c⟩ 1 = ⟨(times ⟨c⟩ 1).cps⟩ := rfl
      _ = _ := by rw [this]
/-- the sign of a day -/
theorem popen_at {x : Str} (hx : PatOk x) (d : Int) {c : Nat} (h : x.cps.toList[(d % x.length).toNat]? = some c) : Cal.popen (patOf x) d = (c == 111) := by
  unfold Cal.popen
  rw [pat_ln]
  unfold patOf
  rw [List.getD_eq_getElem?_getD, List.getElem?_map, h]
  rfl
theorem times_eq {x y : Str} (hx : PatOk x) (hy : PatOk y) : times x y.length = times y x.length ↔ ∀ d, Cal.popen (patOf x) d = Cal.popen (patOf y) d := by
  have x1 := hx.l1
  have y1 := hy.l1
  have hlx : x.cps.toList.length = x.length := Array.length_toList
  have hly : y.cps.toList.length = y.length := Array.length_toList
  have hL : 0 < y.length * x.length := Nat.mul_pos (by omega) (by omega)
  -- the sign of a day, in the two
  have key : ∀ (i : Nat), i < y.length * x.length → ∃ c e, x.cps.toList[i % x.length]? = some c ∧ y.cps.toList[i % y.length]? = some e ∧ (times x y.length).cps.toList[i]? = some c ∧ (times y x.length).cps.toList[i]? = some e := fun i hi => by
    have m1 := Nat.mod_lt i (show 0 < x.length by omega)
    have m2 := Nat.mod_lt i (show 0 < y.length by omega)
    refine ⟨_, _, List.getElem?_eq_getElem (by omega), List.getElem?_eq_getElem (by omega), ?_, ?_⟩
    · rw [times_at hi, List.getElem?_eq_getElem (by omega)]
    · rw [times_at (by rw [Nat.mul_comm]; exact hi), List.getElem?_eq_getElem (by omega)]
  have mods : ∀ (d : Int) (n m : Nat), 0 < n → 0 < m → ((d % ((m * n : Nat) : Int)).toNat % n : Nat) = (d % (n : Int)).toNat := fun d n m hn hm => by
    have h0 := Int.emod_nonneg d (show ((m * n : Nat) : Int) ≠ 0 by have := Nat.mul_pos hm hn; omega)
    have e : (((d % ((m * n : Nat) : Int)).toNat % n : Nat) : Int) = d % (n : Int) := by
      rw [Int.natCast_emod, Int.toNat_of_nonneg h0]
      exact Int.emod_emod_of_dvd d ⟨(m : Int), by rw [Int.natCast_mul, Int.mul_comm]⟩
    have h1 := Int.emod_nonneg d (show (n : Int) ≠ 0 by omega)
    omega
  constructor
  · intro e d
    have r0 := Int.emod_nonneg d (show ((y.length * x.length : Nat) : Int) ≠ 0 by omega)
    have r1 := Int.emod_lt_of_pos d (show (0 : Int) < ((y.length * x.length : Nat) : Int) by omega)
    obtain ⟨c, e', k1, k2, k3, k4⟩ := key (d % ((y.length * x.length : Nat) : Int)).toNat (by omega)
    rw [mods d x.length y.length (by omega) (by omega)] at k1
    rw [show y.length * x.length = x.length * y.length from Nat.mul_comm _ _, mods d y.length x.length (by omega) (by omega)] at k2
    rw [e, k4] at k3
    cases k3
    rw [popen_at hx d k1, popen_at hy d k2]
  · intro h
    have l1 : (times x y.length).cps.toList.length = y.length * x.length := (Array.length_toList).trans (times_len x y.length)
    have l2 : (times y x.length).cps.toList.length = y.length * x.length := ((Array.length_toList).trans (times_len y x.length)).trans (Nat.mul_comm _ _)
    have e : (times x y.length).cps.toList = (times y x.length).cps.toList := by
      refine List.ext_getElem? fun i => ?_
      by_cases hi : i < y.length * x.length
      · obtain ⟨c, e', k1, k2, k3, k4⟩ := key i hi
        rw [k3, k4]
        have a1 : (((i : Nat) : Int) % (x.length : Int)).toNat = i % x.length := by omega
        have a2 : (((i : Nat) : Int) % (y.length : Int)).toNat = i % y.length := by omega
        have q := h (i : Nat)
        rw [popen_at hx (i : Nat) (c := c) (by rw [a1]; exact k1), popen_at hy (i : Nat) (c := e') (by rw [a2]; exact k2)] at q
        have c1 := hx.ch c (List.mem_of_getElem? k1)
        have c2 := hy.ch e' (List.mem_of_getElem? k2)
        rcases c1 with rfl | rfl <;> rcases c2 with rfl | rfl
        · rfl
        · exact nomatch q
        · exact nomatch q
        · rfl
      · rw [List.getElem?_eq_none (by omega), List.getElem?_eq_none (by omega)]
    have e3 := Array.toList_inj.mp e
    calc times x y.length = ⟨(times x y.length).cps⟩ := rfl
      _ = ⟨(times y x.length).cps⟩ := by rw [e3]
      _ = _ := rfl
def rMulT : R2 := fun x y H Q => ∃ z n, x = .str z ∧ y = .int n ∧ 1 ≤ n ∧ n ≤ 1000 ∧ 1 ≤ z.length ∧ z.length ≤ 1000 ∧ Q (.str (times z n.toNat)) H
theorem op_mulT {X : Cx} : OpR X (binaryOp .Mult) rMulT := by
  intro pins s σ H x y v u Q I rx ry h
  obtain ⟨z, n, hx, hy, h1, h2, h3, h4, q⟩ := h
  by_cases c : 2 ≤ n
  · exact op_mulS pins s σ H x y v u Q I rx ry ⟨z, n, hx, hy, c, h2, h3, h4, q⟩
  · have n1 : n = 1 := by omega
    subst n1
    subst hx hy
    obtain ⟨t, rfl⟩ := rx
    obtain ⟨t', rfl⟩ := ry
    have e : (1 : Int).toNat = 1 := rfl
    rw [e, times_one] at q
    refine P.mul_str (by decide) (fun _ h => (nomatch h)) (fun _ h => (nomatch h)) ?_
    rw [if_neg (by decide), if_pos (by rfl)]
    exact ⟨.str z, H, I, ⟨_, rfl⟩, q⟩
section
variable {X : Cx} {W : Wd} {Δ : List Sl} {m m1 m2 m3 : Nat} {e a b c : Expr} {pos : Pos}
theorem de_mulT {z : Str} {n : Int} (ha : DE X W Δ m1 a (eqd W.Z (.str z))) (hb : DE X W Δ m2 b (eqd W.Z (.int n))) (h : 1 ≤ n ∧ n ≤ 1000 ∧ 1 ≤ z.length ∧ z.length ≤ 1000) : DE X W Δ (m1 + m2) (.BinOp a .Mult b pos) (eqd W.Z (.str (times z n.toNat))) :=
  de_op op_mulT ha hb fun N H v u w jj o1 o2 Q q => by
    have o1 := eqd_ok o1
    have o2 := eqd_ok o2
    cases o1
    cases o2
    exact ⟨z, n, rfl, rfl, h.1, h.2.1, h.2.2.1, h.2.2.2, q _ H Ext.refl (ok_eqd (.str _))⟩
end
end Dv
set_option maxRecDepth 100000
set_option maxHeartbeats 4000000
/-! Dv41: comparisons by an own __eq__ as steps; isinstance of an own class; a method without arguments. -/
namespace Dv
open PySem PySem.Spec PyProof.Rows L2
section
variable {X : Cx} {W : Wd} {Δ : List Sl} {m m1 m2 m3 : Nat} {e a b c : Expr} {pos : Pos} {A1 A2 A3 : As W.Z} {P : Bool → Prop}
def Op2J (W : Wd) (r : R2) (A1 A2 A3 : As W.Z) : Prop := ∀ n H v u, n ≤ BIG → Wok W.Z W.J → W.J n H → A1.ok H v → A2.ok H u → ∀ Q : VK, (∀ w H', Kp W.Z H H' → W.J n H' → A3.ok H' w → Q w H') → r v u H Q
theorem de_cmpJ {op : CmpOp} {r : R2} (ho : OpR X (compareOp op) r) (ha : DE X W Δ m1 a A1) (hb : DE X W Δ m2 b A2) (hr : Op2J W r A1 A2 A3) (hm : behindInMarks op b = false) : DE X W Δ (m1 + m2) (.Compare a [op] [b] pos) A3 :=
  pe_to (pe_cmpR ho ha hb hm) fun σ H Q ⟨n, l, k, z⟩ => ⟨n, big1 l, k, fun v H1 k1 q1 o1 => ⟨n + m1, big2 l, k1, fun u H2 k2 q2 o2 => hr _ H2 v u (by have := big2 l; omega) k2.w k2.j (A1.mono q2 o1) o2 Q fun w H3 e j o => z w H3 (k2.kp e j).as ((q1.trans q2).trans e) o⟩⟩
theorem dt_cmpJ {op : CmpOp} {r : R2} (ho : OpR X (compareOp op) r) (ha : DE X W Δ m1 a A1) (hb : DE X W Δ m2 b A2) (hr : Op2J W r A1 A2 (bol W.Z P)) (hm : behindInMarks op b = false) : DT X W Δ (m1 + m2) (.Compare a [op] [b] pos) P :=
  pt_to (pt_cmpR ho ha hb hm) fun σ H Q ⟨n, l, k, z⟩ => ⟨n, big1 l, k, fun v H1 k1 q1 o1 => ⟨n + m1, big2 l, k1, fun u H2 k2 q2 o2 => hr _ H2 v u (by have := big2 l; omega) k2.w k2.j (A1.mono q2 o1) o2 _ fun w H3 e j o => by
    obtain ⟨x, rfl, p⟩ := o
    exact ⟨x, rfl, z x H3 (k2.kp e j).as ((q1.trans q2).trans e) p⟩⟩⟩
/-- what isinstance asks of a class of one's own -/
structure OwnC (K : PySem.W.Frag) (C : Addr) : Prop where
  cl : Cls K C
  ha : PySem.W.findIn K (.ref C) "__class__" = some (some (.builtin "object.__class__"))
  hn : PySem.W.specialIn K (.builtin "object.__class__") "__get__" = some (some (.builtin "getset_descriptor.__get__"))
  htk : PySem.W.takesIn K (.builtin "object.__class__") = some true
  hm : PySem.W.mroIn K C (.type "object") = some true
  me : PySem.W.kitOne K (.ref C) (.ref C) = some true
/-- two objects -/
def spOO (F1 F2 : Fam) (R : Bool → Prop) : Sp := fun xs H Q _ => ∃ (Z : Addr → Prop) (J : Nat → Hp → Prop) (n : Nat) (v u : V), Wok Z J ∧ n ≤ BIG ∧ J n H ∧ xs = [v, u] ∧ F1.ok Z H v ∧ F2.ok Z H u ∧ ∀ b H', Kp Z H H' → J n H' → R b → Q (.bl b) H'
/-- an object and data -/
def spOD (F : Fam) (d : PyData) (R : Bool → Prop) : Sp := fun xs H Q _ => ∃ (Z : Addr → Prop) (J : Nat → Hp → Prop) (n : Nat) (v u : V), Wok Z J ∧ n ≤ BIG ∧ J n H ∧ xs = [v, u] ∧ F.ok Z H v ∧ Da Z H u d ∧ ∀ b H', Kp Z H H' → J n H' → R b → Q (.bl b) H'
def Obj (F : Fam) (C : Addr) : Prop := ∀ Z H v, F.ok Z H v → ∃ x dx fs, v = .ref x ∧ H x = some (.ins C dx fs)
theorem ty_obj {K : PySem.W.Frag} {C x dx : Addr} {fs : List (Str × V)} {H : Hp} (i : OwnC K C) (h : H x = some (.ins C dx fs)) : TyX K H (.ref x) (.ref C) := .base (.ins h i.cl i.ha i.hn i.htk i.hm)
theorem o_eqO {C : Addr} {F1 F2 : Fam} {R : Bool → Prop} {E : XK} {g : Bool → Bool} {K : PySem.W.Frag} (i : OwnC K C) (s1 : Obj F1 C) (s2 : Obj F2 C) : Op2J W (rOwnQ K C (spOO F1 F2 R) E g) (F1.as W.Z) (F2.as W.Z) (bol W.Z fun b => ∃ c, R c ∧ b = g c) := fun n H v u ln w jj o1 o2 Q q => by
  obtain ⟨x, dx, fs, rfl, h1⟩ := s1 _ _ _ o1
  obtain ⟨y, dy, gs, rfl, h2⟩ := s2 _ _ _ o2
  exact ⟨x, dx, fs, .ref C, rfl, h1, ty_obj i h2, by simp [PySem.W.notFirst], W.Z, W.J, n, .ref x, .ref y, w, ln, jj, rfl, o1, o2, fun b H' kp j r => ⟨b, rfl, q _ H' kp j ⟨g b, rfl, b, r, rfl⟩⟩⟩
theorem nf_ty {K : PySem.W.Frag} {C : Addr} (d : PyData) : PySem.W.notFirst K C (.type (tyD d)) = true := by
  cases d <;> rfl
theorem o_eqD {C : Addr} {F : Fam} {d : PyData} {R : Bool → Prop} {E : XK} {g : Bool → Bool} {K : PySem.W.Frag} (s1 : Obj F C) : Op2J W (rOwnQ K C (spOD F d R) E g) (F.as W.Z) (eqd W.Z d) (bol W.Z fun b => ∃ c, R c ∧ b = g c) := fun n H v u ln w jj o1 o2 Q q => by
  obtain ⟨x, dx, fs, rfl, h1⟩ := s1 _ _ _ o1
  have h2 := eqd_ok o2
  exact ⟨x, dx, fs, .type (tyD d), rfl, h1, ty_da h2, nf_ty d, W.Z, W.J, n, .ref x, u, w, ln, jj, rfl, o1, h2, fun b H' kp j r => ⟨b, rfl, q _ H' kp j ⟨g b, rfl, b, r, rfl⟩⟩⟩
theorem c_isO {K : PySem.W.Frag} {C : Addr} {F : Fam} (i : OwnC K C) (s1 : Obj F C) : Cal W (rIsi K) [F.as W.Z, raw W.Z (.ref C)] (eqd W.Z (.bool true)) := fun n H vs w jj o Q q => by
  obtain ⟨v, u, rfl, o1, rfl⟩ := allo_2 o
  obtain ⟨x, dx, fs, rfl, h1⟩ := s1 _ _ _ o1
  exact ⟨.ref x, .ref C, .ref C, .ref C, true, rfl, .own C, ty_obj i h1, i.me, q _ H Ext.refl (ok_eqd (.bl _))⟩
theorem c_isN {K : PySem.W.Frag} {C : Addr} {d : PyData} (h : PySem.W.kitOne K (.type (tyD d)) (.ref C) = some false) : Cal W (rIsi K) [eqd W.Z d, raw W.Z (.ref C)] (eqd W.Z (.bool false)) := fun n H vs w jj o Q q => by
  obtain ⟨v, u, rfl, o1, rfl⟩ := allo_2 o
  exact ⟨v, .ref C, .type (tyD d), .ref C, false, rfl, .own C, ty_da (eqd_ok o1), h, q _ H Ext.refl (ok_eqd (.bl _))⟩
/-- o.m() -/
theorem de_meth0 {k : Nat} {g : Addr} {fd : FuncData} {ps : List Str} {F F' : Fam} {pre : List PyData → Prop} {post : List PyData → PyData → Prop} {PR : PyData → Prop} {o : Expr} {mt : Str} {apos : Pos} {C : Addr} {pl : Sem Bool} (G : FnOk X.prog X.w X.K X.mg X.base CX0 k g fd ps (spO F pre post)) (ho : DE X W Δ m1 o (F'.as W.Z)) (hF : ∀ Z H v, F'.ok Z H v → F.ok Z H v) (hs : Shape F' C mt) (c : Cls X.K C) (hm : Meth X.K C mt g) (rm : Room k X.A) (hb : Binds X.K fd ps [])
    (hp : pre []) (hq : ∀ d, post [] d → PR d)
    (ht : eval (.Call (.Attribute o mt apos) [] [] pos) X.env = (do
      let ov ← eval o X.env
      standAt apos.atName
      let (f, first) ← holding [ov] (getMethod ov mt pl)
      callWith pos f first (backTo pos (starEach [] X.env)) (backToKw pos (keywordEach [] X.env))) := by rfl) :
    DE X W Δ m1 (.Call (.Attribute o mt apos) [] [] pos) (dat W.Z PR) :=
  pe_to (pe_meth0 ho c hm G rm hb .nil pass0 ht) fun σ H Q ⟨n, l, k, z⟩ => ⟨n, l, k, fun v H1 k1 q1 o1 => by
    obtain ⟨x, dx, fs, rfl, h1, h2⟩ := hs _ _ _ o1
    exact ⟨x, dx, fs, rfl, h1, h2, W.Z, W.J, n + m1, .ref x, [], [], k1.w, l, k1.j, rfl, hF _ _ _ o1, .nil, hp, fun u H' d e j od r => z u H' (k1.kp e j) (q1.trans e) ⟨d, od, hq d r⟩⟩⟩
end
end Dv
set_option maxRecDepth 100000
set_option maxHeartbeats 4000000
/-! Dv42: x = list[::-1] and x = [e, ..] as lists of one's own; list(tuple); lists of bools compared. -/
namespace Dv
open PySem PySem.Spec PyProof.Rows L2
section
variable {X : Cx} {W : Wd} {Δ : List Sl} {m m1 m2 N : Nat} {e a b oe : Expr} {es : List Expr} {D : Ends} {sts : List Stmt} {pos : Pos} {l : List (Addr × HO)} {p : Addr} {vs : List V} {ds : List PyData}
/-- x = list[::-1], a list of one's own -/
theorem hs_setRev {i : Nat} {y : Str} {pos' pb : Pos} {xs : List PyData} {k : Nat} {p1 p2 p3 : Pos} (hN : X.N.Nodup) (hi : X.N[i]? = some y) (hx : Loc X.env.scope y) (he : DE X (W.pinL l) Δ m e (eqd _ (.list xs))) (hb : N + m ≤ BIG)
    (hr : ∀ p vs, HS X (Ok (W.pinL ((p, .lst vs) :: l)) (N + m) (Δ.set i (.own p vs xs.reverse))) sts D)
    (hs : swapsWith (.Subscript e (.Slice none none (some (.UnaryOp .USub (.Constant (.int 1) k p1) p2)) p3) pb) (some (.Name y pos')) pos.line X.env = pure false := by rfl) (hf : X.fn y = true ∨ X.env.scope.names.lookup y = some .local := by first | exact .inl rfl | exact .inr rfl | assumption) :
    HS X (Ok (W.pinL l) N Δ) (.Assign [.Name y pos'] (.Subscript e (.Slice none none (some (.UnaryOp .USub (.Constant (.int 1) k p1) p2)) p3) pb) pos :: sts) D := by
  refine hs_cons (mid := fun σ H => ∃ p vs, Ok (W.pinL ((p, .lst vs) :: l)) (N + m) (Δ.set i (.own p vs xs.reverse)) σ H) (ps_to (ps_set hN hi hx (pe_revL he) hs hf) fun D' σ H z => ?_) (hs_ex fun p => hs_ex fun vs => hr p vs)
  refine ⟨N, hb, z.1, fun v H1 k1 q1 o1 => ?_⟩
  have o := eqd_ok o1
  cases o with
  | lst r nz hd =>
    rename_i b us
    refine ⟨_, us, rfl, .inl (.inl r), fun p hp => z.2.1 _ _ ⟨p, us.reverse, ?_⟩⟩
    have k2 := k1.pin hp (Kp.new hp) (k1.w.ext k1.j (Ext.new hp)) (Nat.le_refl _) (o := .lst us.reverse) upd_same (φ := fun _ o => o = .lst us.reverse) ⟨0, Nat.zero_le _, rfl⟩
    exact k2.put i (s := .own p us.reverse xs.reverse) ⟨rfl, (das_rev hd).mono (Ext.new hp).kp (fun a z => sub_z hp a z)⟩
/-- x = [e, ..], a list of one's own -/
theorem hs_lstOwn {i : Nat} {y : Str} {pos' p2 : Pos} {L : List (As (W.pinL l).Z)} {Pd : List PyData → Prop} (hN : X.N.Nodup) (hi : X.N[i]? = some y) (hx : Loc X.env.scope y) (he : DA X (W.pinL l) Δ m es L) (hz : es.length ≤ 1000) (hL : ∀ H vs, Allo H L vs → vs.length ≤ 1000 ∧ ∃ ds, Das (W.pinL l).Z H vs ds ∧ Pd ds) (hb : N + m ≤ BIG)
    (hr : ∀ p vs ds, Pd ds → HS X (Ok (W.pinL ((p, .lst vs) :: l)) (N + m) (Δ.set i (.own p vs ds))) sts D)
    (hs : swapsWith (.List es p2) (some (.Name y pos')) pos.line X.env = pure false := by rfl) (hf : X.fn y = true ∨ X.env.scope.names.lookup y = some .local := by first | exact .inl rfl | exact .inr rfl | assumption) :
    HS X (Ok (W.pinL l) N Δ) (.Assign [.Name y pos'] (.List es p2) pos :: sts) D := by
  refine hs_cons (mid := fun σ H => ∃ p vs ds, Pd ds ∧ Ok (W.pinL ((p, .lst vs) :: l)) (N + m) (Δ.set i (.own p vs ds)) σ H) (ps_to (ps_set hN hi hx (pe_lst he) hs hf) fun D' σ H z => ?_) (hs_ex fun p => hs_ex fun vs => hs_ex fun ds => hs_and (hr p vs ds))
  refine ⟨N, hb, z.1, fun vs H1 k1 q1 o1 => ?_⟩
  obtain ⟨hl, ds, hd, pd⟩ := hL H1 vs o1
  refine ⟨Nat.le_trans hl (by decide), fun p hp => z.2.1 _ _ ⟨p, vs, ds, pd, ?_⟩⟩
  have k2 := k1.pin hp (Kp.new hp) (k1.w.ext k1.j (Ext.new hp)) (Nat.le_refl _) (o := .lst vs) upd_same (φ := fun _ o => o = .lst vs) ⟨0, Nat.zero_le _, rfl⟩
  exact k2.put i (s := .own p vs ds) ⟨rfl, hd.mono (Ext.new hp).kp (fun a z => sub_z hp a z)⟩
theorem c_listT {K : PySem.W.Frag} {ds : List PyData} : Cal W (fun xs H Q => ∃ p ys, xs = [.ref p] ∧ (SqL K H p ys ∨ SqT K H p ys) ∧ ∀ l, H l = none → Q (.ref l) (upd H l (.lst ys))) [eqd W.Z (.tuple ds)] (eqd W.Z (.list ds)) := fun n H vs w jj o Q q => by
  obtain ⟨v, rfl, o1⟩ := allo_1 o
  have o1 := eqd_ok o1
  cases o1 with
  | tup r nz hd => exact ⟨_, _, rfl, .inr (.inl (.inl r)), fun p hp => q _ _ (Ext.new hp) (ok_eqd (.lst upd_same (w.new jj hp) (hd.kp (Ext.new hp).kp)))⟩
/-- an int's test, the int not known -/
theorem o_eqp {P : Int → Prop} {i : Int} {Q : Bool → Prop} (h : ∀ j, P j → Q (decide (j = i))) : Op2 W rEq (intp W.Z P) (eqd W.Z (.int i)) (bol W.Z Q) := fun n H v u w jj o1 o2 R q => by
  obtain ⟨d, o1, j, rfl, pj⟩ := o1
  exact o_eqI n H v u w jj (ok_eqd o1) o2 R fun w' H' e ⟨b, e1, e2⟩ => q w' H' e ⟨b, e1, by rw [e2]; exact h j pj⟩
end
theorem eqv_bools (bs cs : List Bool) : PyData.eqv (.list (bs.map .bool)) (.list (cs.map .bool)) = decide (bs = cs) := by
  have key : ∀ bs cs : List Bool, PyData.eqvAll (bs.map .bool) (cs.map .bool) = decide (bs = cs) := by
    intro bs
    induction bs with
    | nil =>
      intro cs
      cases cs with
      | nil => simp [PyData.eqvAll]
      | cons c cs => simp [PyData.eqvAll]
    | cons b bs ih =>
      intro cs
      cases cs with
      | nil => simp [PyData.eqvAll]
      | cons c cs =>
        rw [List.map_cons, List.map_cons]
        have e : PyData.eqvAll (.bool b :: bs.map .bool) (.bool c :: cs.map .bool) = (PyData.eqv (.bool b) (.bool c) && PyData.eqvAll (bs.map .bool) (cs.map .bool)) := by
          conv => lhs; unfold PyData.eqvAll
        rw [e, ih]
        cases b <;> cases c <;> simp [PyData.eqv]
  have e : PyData.eqv (.list (bs.map .bool)) (.list (cs.map .bool)) = PyData.eqvAll (bs.map .bool) (cs.map .bool) := by
    conv => lhs; unfold PyData.eqv
  rw [e, key]
end Dv
set_option maxRecDepth 100000
set_option maxHeartbeats 4000000
/-! Dv43: x = [e for y in xs] kept as data; what repr takes of lists of bools; [e] with a wish. -/
namespace Dv
open PySem PySem.Spec PyProof.Rows L2
section
variable {X : Cx} {W : Wd} {Δ : List Sl} {m m1 : Nat} {e : Expr} {pos p : Pos}
/-- y = [e for x in ..], each item known exactly -/
theorem hs_setLcM {D : Ends} {sts : List Stmt} {N : Nat} {spos py : Pos} {y : Str} {iy : Nat} {x : Str} {px : Pos} {elt iter : Expr} {scope : Scope} {own : List (Str × Nat)} {j : Nat} {xs : List PyData} {g : PyData → PyData}
    (hyi : X.N[iy]? = some y) (hyl : X.env.scope.names.lookup y = some .local) (hsw : swapsWith (.ListComp elt [⟨.Name x px, iter, [], 0⟩] scope pos) (some (.Name y py)) spos.line X.env = pure true)
    (hc : X.calm = true) (hN : X.N.Nodup) (hi : DI X W Δ 0 (.Name x px) iter (· = xs)) (ok : BlkOk X.N X.env.scope scope own) (hj : X.N[j]? = some x) (hjv : j ∈ own.map (·.2)) (hM2 : xs.length ≤ 1000000)
    (hx : ∀ (s : Shared) (H : Hp) (C : Addr) (cl : List (Str × Addr)) (fp : List Addr), PG (X.blk s H scope (compEnvC scope cl C X.env) fp) (.Name x px) (gName j))
    (he : ∀ (s : Shared) (H : Hp) (C : Addr) (cl : List (Str × Addr)) (fp : List Addr) (D : Addr) (φ : Nat → HO → Prop) (d : PyData), ¬ W.Z D → d ∈ xs → DE (X.blk s H scope (compEnvC scope cl C X.env) fp) (W.add D φ) ((wipeS Δ (own.map (·.2))).set j (.val d)) 0 elt (eqd _ (g d)))
    (hb : N ≤ BIG) (hr : HS X (Ok W N (Δ.set iy (.val (.list (xs.map g))))) sts D)
    (hs : ∀ x, foldedSetIterable iter X.env x = pure x := by intro _; rfl) :
    HS X (Ok W N Δ) (.Assign [.Name y py] (.ListComp elt [⟨.Name x px, iter, [], 0⟩] scope pos) spos :: sts) D :=
  hs_setLcD (m := 0) (c1 := 0) (c2 := 0) (M := xs.length) (Ps := (· = xs)) (Pt := fun _ b => b = true) (Pe := fun d z => z = g d) (R := (· = .list (xs.map g))) hyi hyl hsw hc hN hi ok hj hjv (fun ys e => by rw [e]; exact Nat.le_refl _) hM2 hx
    (fun s H C cl fp D φ ys d nD e md => dts_nil) (fun s H C cl fp D φ ys d nD e md hf => he s H C cl fp D φ d nD (by rw [← e]; exact md))
    (fun ys zs e pk => by
      subst e
      have := pk.every.fn
      rw [this, List.filter_eq_self.mpr fun _ _ => rfl]) (by simpa using hb) (fun ds e => by
      cases e
      have e0 : N + (0 + xs.length * (0 + 0)) = N := by simp
      rw [e0]
      exact hr) hs
end
theorem shw_bools {α : Type} (f : α → Bool) (ns : List α) (h : ns.length ≤ 2000) : Shw (.list (ns.map fun n => .bool (f n))) :=
  (Sw.list (b := 10) (p := 0) (n := 2000) (fun d m => by
    obtain ⟨n, _, rfl⟩ := List.mem_map.mp m
    cases f n <;> exact ⟨rfl, by decide +kernel, by decide +kernel, by decide +kernel⟩) (by rw [List.length_map]; exact h)).shw (by decide) (by decide)

section
variable {X : Cx} {W : Wd} {Δ : List Sl} {m m1 m2 : Nat} {a b : Expr} {pos : Pos}
theorem de_list1P {P1 R : PyData → Prop} (ha : DE X W Δ m a (dat W.Z P1)) (hR : ∀ d, P1 d → R (.list [d])) (h1 : starEach (a :: []) X.env = (false, eval a X.env) :: starEach [] X.env := by rfl) : DE X W Δ (m + 0) (.List [a] pos) (dat W.Z R) :=
  pe_to (pe_lst (da_cons ha da_nil h1)) fun σ H Q ⟨n, l, k, z⟩ => ⟨n, l, k, fun vs H1 k1 q1 o1 => by
    obtain ⟨d, hd, p1⟩ := allo1 o1
    refine ⟨by rw [hd.length]; show 1 ≤ sizeLine; decide, fun t ht => z _ _ (k1.ext (.new ht)) (q1.trans (Ext.new ht).kp) ⟨_, .lst upd_same (k1.w.new k1.j ht) (hd.kp (Ext.new ht).kp), hR d p1⟩⟩⟩
end
theorem shaped_bools (bs : List Bool) : SeqAt.shaped (.list (bs.map .bool)) = true := by
  have h1 : PyData.canLayAll0 (bs.map .bool) = true := by
    induction bs with
    | nil => simp [PyData.canLayAll0]
    | cons b bs ih => simp [PyData.canLayAll0, PyData.canLay0, ih]
  have h2 : PyData.depthAll (bs.map .bool) = 0 := by
    induction bs with
    | nil => simp [PyData.depthAll]
    | cons b bs ih => simp [PyData.depthAll, PyData.depth, ih (by
        simp [PyData.canLayAll0, PyData.canLay0] at h1
        exact h1)]
  unfold SeqAt.shaped
  rw [show PyData.canLay0 (.list (bs.map .bool)) = PyData.canLayAll0 (bs.map .bool) by simp [PyData.canLay0], h1, show PyData.depth (.list (bs.map .bool)) = PyData.depthAll (bs.map .bool) + 1 by simp [PyData.depth], h2]
  rfl
end Dv
set_option maxRecDepth 100000
set_option maxHeartbeats 4000000
/-! Dv44: a list of one's own that holds objects: made, grown, read, left alone, gone over by enumerate. -/
namespace Dv
open PySem PySem.Spec PyProof.Rows L2
/-- the list at p, pinned, holds objects: of the i-th Fs i holds -/
def LF (p : Addr) (vs : List V) (Fs : Nat → Fam) : Fam := ⟨fun Z H v => v = .ref p ∧ ∀ i u, vs[i]? = some u → (Fs i).ok Z H u, fun k z ⟨e, h⟩ => ⟨e, fun i u hu => (Fs i).mono k z (h i u hu)⟩⟩
/-- left alone -/
def LD (n : Nat) (Fs : Nat → Fam) : Fam := ⟨fun Z H v => ∃ p vs, v = .ref p ∧ ¬ Z p ∧ H p = some (.lst vs) ∧ vs.length = n ∧ ∀ i u, vs[i]? = some u → (Fs i).ok Z H u,
  fun {Z Z' H H' v} k z ⟨p, vs, e, h1, h2, h3, h4⟩ => ⟨p, vs, e, fun c => (z p c).elim h1 fun q => (nomatch h2.symm.trans q), k p _ h1 h2, h3, fun i u hu => (Fs i).mono k z (h4 i u hu)⟩⟩
section
variable {X : Cx} {W : Wd} {Δ : List Sl} {m N : Nat} {e a b oe : Expr} {D : Ends} {sts : List Stmt} {pos : Pos} {l : List (Addr × HO)} {p : Addr} {vs : List V} {Fs : Nat → Fam}
theorem lf_at {i : Nat} {n : Nat} {σ : L2.St} {H : Hp} (k : Ok W n Δ σ H) (hs : Δ[i]? = some (.sat (LF p vs Fs))) : σ[i]? = some (some (.ref p)) ∧ ∀ i u, vs[i]? = some u → (Fs i).ok W.Z H u := by
  obtain ⟨o, h1, v, rfl, h2, h3⟩ := pget k.sl hs
  subst h2
  exact ⟨h1, h3⟩
/-- x, y = [e], []: x holds an object -/
theorem hs_parLL {i j : Nat} {x y : Str} {F : Fam} {px py pt l1 l2 : Pos} {kt k2 pt2} (hc : X.calm = true) (hN : X.N.Nodup) (hi : X.N[i]? = some x) (hj : X.N[j]? = some y) (hij : i ≠ j)
    (hx : X.env.scope.names.lookup x = some .local) (hy : X.env.scope.names.lookup y = some .local) (ha : DE X W Δ 0 a (F.as W.Z)) (hF : Fs 0 = F) (hN2 : N ≤ BIG)
    (hr : ∀ p q v, HS X (Ok (W.pinL [(q, .lst []), (p, .lst [v])]) N ((Δ.set i (.sat (LF p [v] Fs))).set j (.own q [] []))) sts D)
    (hw : swappedStores [.Tuple [.Name x px, .Name y py] kt pt] (.Tuple [.List [a] l1, .List [] l2] k2 pt2) X.env = pure (some [x, y]))
    (hs : swapsWithSole [.Tuple [.Name x px, .Name y py] kt pt] (.Tuple [.List [a] l1, .List [] l2] k2 pt2) pos.line X.env = pure false := by rfl)
    (g1 : starEach (a :: []) X.env = (false, eval a X.env) :: starEach [] X.env := by rfl)
    (g2 : starEach [.List [a] l1, .List [] l2] X.env = (false, eval (.List [a] l1) X.env) :: starEach [.List [] l2] X.env := by rfl) (g3 : starEach [.List [] l2] X.env = (false, eval (.List [] l2) X.env) :: starEach [] X.env := by rfl) :
    HS X (Ok W N Δ) (.Assign [.Tuple [.Name x px, .Name y py] kt pt] (.Tuple [.List [a] l1, .List [] l2] k2 pt2) pos :: sts) D := by
  have hb' : PA X [] (fun σ H Q => ∃ p us, tDA (W.add p fun _ o => o = .lst us) Δ 0 [] σ H Q) := ⟨fun po pins s σ H Q I ⟨p, us, z⟩ => (da_nil (W := W.add p fun _ o => o = .lst us) (Δ := Δ)).run po pins s σ H Q I z⟩
  refine hs_cons (mid := fun σ H => ∃ p q v, Ok (W.pinL [(q, .lst []), (p, .lst [v])]) N ((Δ.set i (.sat (LF p [v] Fs))).set j (.own q [] [])) σ H)
    (ps_to (ps_par hc hN hi hj hij hx hy (pa_cons (pe_lst (da_cons (m2 := 0) ha da_nil g1)) (pa_cons (pe_lst hb') pa_nil g3) g2) hw hs) fun D' σ H z => ?_) (hs_ex fun p => hs_ex fun q => hs_ex fun v => hr p q v)
  have az : ∀ {W : Wd} {p : Addr} {φ : Nat → HO → Prop} {b : Addr}, (W.add p φ).Z b → W.Z b ∨ b = p := fun {W p φ b} c => by
    rcases c with c | ⟨t, m, e⟩
    · exact .inl (.inl c)
    · rcases List.mem_cons.mp m with rfl | m
      · exact .inr e.symm
      · exact .inl (.inr ⟨t, m, e⟩)
  refine ⟨N, hN2, z.1, fun vs1 H1 k1 q1 a1 => ?_⟩
  obtain ⟨v1, rfl, o1⟩ := allo_1 a1
  refine ⟨(by decide : 1 ≤ sizeLine), fun p hp => ?_⟩
  have kA : Ok (W.add p fun _ o => o = .lst [v1]) N Δ σ (upd H1 p (.lst [v1])) := k1.pin hp (Ext.new hp).kp (k1.w.ext k1.j (Ext.new hp)) (Nat.le_refl _) (o := .lst [v1]) upd_same ⟨0, Nat.zero_le _, rfl⟩
  have F1 : F.ok (W.add p fun _ o => o = .lst [v1]).Z (upd H1 p (.lst [v1])) v1 := F.mono (Ext.new hp).kp (fun b c => (az c).elim Or.inl (fun (e : b = p) => Or.inr (by rw [e]; exact hp))) o1
  refine ⟨p, [v1], N, hN2, kA, fun vs2 H2 k2 q2 a2 => ?_⟩
  cases a2
  refine ⟨Nat.zero_le _, fun q hq => ?_⟩
  have kB : Ok ((W.add p fun _ o => o = .lst [v1]).add q fun _ o => o = .lst []) N Δ σ (upd H2 q (.lst [])) := k2.pin hq (Ext.new hq).kp (k2.w.ext k2.j (Ext.new hq)) (Nat.le_refl _) (o := .lst []) upd_same ⟨0, Nat.zero_le _, rfl⟩
  have F2 : F.ok ((W.add p fun _ o => o = .lst [v1]).add q fun _ o => o = .lst []).Z (upd H2 q (.lst [])) v1 := F.mono (Ext.new hq).kp (fun b c => (az c).elim Or.inl (fun (e : b = q) => Or.inr (by rw [e]; exact hq))) ((F.as _).mono q2 F1)
  refine ⟨_, _, rfl, z.2.1 _ _ ⟨p, q, v1, ((kB.put i (s := .sat (LF p [v1] Fs)) (v := .ref p) ⟨_, rfl, rfl, fun i u hu => ?_⟩).put j (s := .own q [] []) (v := .ref q) ⟨rfl, .nil⟩)⟩⟩
  cases i with
  | zero =>
    cases hu
    rw [hF]
    exact F2
  | succ i => cases hu
/-- x.append(e), an object -/
theorem hs_appF {io j : Nat} {apos cpos : Pos} {F : Fam} (ho : PE X oe (tVar io)) (hs : Δ[io]? = some (.sat (LF p vs Fs))) (hl : l[j]? = some (p, .lst vs)) (he : DE X (W.pinL l) Δ m e (F.as _)) {Fs' : Nat → Fam} (hFs : ∀ i, i < vs.length → Fs' i = Fs i) (hF : Fs' vs.length = F) (hz : vs.length ≤ 1000000) (hb : N + m ≤ BIG)
    (hr : ∀ v, HS X (Ok (W.pinL (l.set j (p, .lst (vs ++ [v])))) (N + m) (Δ.set io (.sat (LF p (vs ++ [v]) Fs')))) sts D)
    (g1 : attributeBase oe "append" X.env (eval oe X.env) = eval oe X.env := by rfl)
    (g2 : (((backTo cpos (starEach [e] X.env)).all fun x => !x.1) && (backToKw cpos (keywordEach [] X.env)).all (·.1.isSome) && decide (([e].length + ([] : List Keyword).length + if ([] : List Keyword).isEmpty = true then 0 else 1) < 30)) = true := by rfl)
    (g3 : (apos.endLine == cpos.line) = true := by rfl) (g4 : starEach [e] X.env = (false, eval e X.env) :: starEach [] X.env := by rfl) (g5 : (backTo cpos (starEach [] X.env)).any (·.1) = false := by rfl) :
    HS X (Ok (W.pinL l) N Δ) (.Expr (.Call (.Attribute oe "append" apos) [e] [] cpos) pos :: sts) D := by
  refine hs_cons (mid := fun σ H => ∃ v, Ok (W.pinL (l.set j (p, .lst (vs ++ [v])))) (N + m) (Δ.set io (.sat (LF p (vs ++ [v]) Fs'))) σ H)
    (ps_to (ps_expr (pe_bm PySem.F.plainAttrs_list PySem.F.slot_list_append PySem.F.type_list_append mt_append ho (da_cons he da_nil g4) g1 g2 g3 g4 g5)) fun D' σ H z => ?_) (hs_ex fun v => hr v)
  have k := z.1
  have hp := (pinL_j.mp k.j).1 _ (List.mem_of_getElem? hl)
  refine ⟨_, (lf_at k hs).1, .inl ⟨rfl, vs, .inl (.inl hp)⟩, N, hb, k, fun us H1 k1 q1 o1 => ?_⟩
  obtain ⟨v, rfl, ov⟩ := allo_1 o1
  have hp1 := (pinL_j.mp k1.j).1 _ (List.mem_of_getElem? hl)
  refine ⟨p, vs, v, rfl, rfl, hp1, Nat.lt_of_le_of_lt hz (by decide), z.2.1 _ _ ⟨v, ?_⟩⟩
  have k2 := (k1.mut hl (.lst (vs ++ [v])))
  have hm : p ∈ l.map (·.1) := List.mem_map.mpr ⟨_, List.mem_of_getElem? hl, rfl⟩
  have e : Kp (W.pinL l).Z H1 (upd H1 p (.lst (vs ++ [v]))) := fun a u nz hu => by
    have ne : a ≠ p := fun c => nz (pinL_z.mpr (.inl (by rw [c]; exact hm)))
    rw [upd_ne ne]
    exact hu
  have zc : ∀ a, (W.pinL (l.set j (p, .lst (vs ++ [v])))).Z a → (W.pinL l).Z a ∨ H1 a = none := fun a z => .inl (by rw [pinL_z] at z ⊢; rwa [set_as hl] at z)
  obtain ⟨o2, o3⟩ := lf_at k1 hs
  have q2 := k2.put io (s := .sat (LF p (vs ++ [v]) Fs')) (v := .ref p) ⟨_, rfl, rfl, fun i u hu => by
    by_cases c : i < vs.length
    · rw [List.getElem?_append_left c] at hu
      rw [hFs i c]
      exact (Fs i).mono e zc (o3 i u hu)
    · have ei : i = vs.length := by
        have := (List.getElem?_eq_some_iff.mp hu).1
        rw [List.length_append, List.length_singleton] at this
        omega
      subst ei
      rw [List.getElem?_append_right (Nat.le_refl _), Nat.sub_self] at hu
      cases hu
      rw [hF]
      exact F.mono e zc ov⟩
  obtain ⟨hlt, es⟩ := List.getElem?_eq_some_iff.mp o2
  rw [← es, List.set_getElem_self] at q2
  exact q2
/-- x[-1], an object -/
theorem de_lastF {i0 : Nat} {j : Nat} (ho : PE X a (tVar i0)) (hs : Δ[i0]? = some (.sat (LF p vs Fs))) (hl : l[j]? = some (p, .lst vs)) (hb : DE X (W.pinL l) Δ 0 b (eqd _ (.int (-1)))) {n : Nat} (hn : vs.length = n + 1) (hp : PlainIx b := by intro _ _; rfl) :
    DE X (W.pinL l) Δ 0 (.Subscript a b pos) ((Fs n).as _) :=
  pe_to (pe_ix ix_list ho hb hp) fun σ H Q ⟨nn, ln, k, z⟩ => ⟨_, (lf_at k hs).1, nn, ln, k, fun u H1 k1 q1 o1 => by
    have o := eqd_ok o1
    cases o
    have hk : n < vs.length := by omega
    have h3 : atI vs (-1) = some vs[n] := by
      have e := List.getElem?_eq_getElem hk
      unfold atI ixN
      rw [if_neg (by decide), if_pos (by omega)]
      show vs[(-1 + (vs.length : Int)).toNat]? = _
      rw [show (-1 + (vs.length : Int)).toNat = n by omega, e]
    exact ⟨p, _, -1, vs[n], rfl, rfl, .inl (.inl ((pinL_j.mp k1.j).1 _ (List.mem_of_getElem? hl))), h3, z _ H1 k1 q1 ((lf_at k1 hs).2 n _ (List.getElem?_eq_getElem hk))⟩⟩
/-- left alone, it will not change any more -/
theorem Ok.doneF {n : Nat} {σ : L2.St} {H : Hp} {i : Nat} (k : Ok (W.pinL ((p, .lst vs) :: l)) n Δ σ H) (h : Δ[i]? = some (.sat (LF p vs Fs))) : Ok (W.pinL l) n (Δ.set i (.sat (LD vs.length Fs))) σ H := by
  obtain ⟨o1, o2⟩ := lf_at k h
  have hp := (pinL_j.mp k.j).1 _ List.mem_cons_self
  have zs : ∀ a, (W.pinL l).Z a → (W.pinL ((p, .lst vs) :: l)).Z a := fun a z => by
    rw [pinL_z] at z ⊢
    exact z.imp (fun z => List.mem_cons_of_mem _ z) id
  have nz : ¬ (W.pinL l).Z p := Ok.nz (W := W.pinL l) (p := p) k
  have k2 := (Ok.unpin (W := W.pinL l) (p := p) k).put i (s := .sat (LD vs.length Fs)) (v := .ref p) ⟨_, rfl, p, vs, rfl, nz, hp, rfl, fun i u hu => (Fs i).mono Kp.refl (fun a z => .inl (zs a z)) (o2 i u hu)⟩
  obtain ⟨hl, e⟩ := List.getElem?_eq_some_iff.mp o1
  rwa [← e, List.set_getElem_self] at k2
theorem hs_doneF {i : Nat} (h : Δ[i]? = some (.sat (LF p vs Fs))) (hr : HS X (Ok (W.pinL l) N (Δ.set i (.sat (LD vs.length Fs)))) sts D) : HS X (Ok (W.pinL ((p, .lst vs) :: l)) N Δ) sts D := hs_pre hr fun σ H k => k.doneF h
theorem de_lenLD {k : Nat} (hg : Gl X "len") (hm : X.mg "len" = none) (h : DE X W Δ m e ((LD k Fs).as W.Z))
    (he : starEach (e :: []) X.env = (false, eval e X.env) :: starEach [] X.env := by rfl) (hpl : (backTo pos (starEach [] X.env)).any (·.1) = false := by rfl) {pp : Pos} : DE X W Δ (m + 0) (.Call (.Name "len" pp) [e] [] pos) (eqd W.Z (.int k)) :=
  de_cb call_len hg hm boot_len (da_cons h da_nil he) (fun n H us w jj o Q q => by
    obtain ⟨v, rfl, p, vs, rfl, h1, h2, h3, _⟩ := allo_1 o
    exact ⟨.ref p, k, rfl, .inl ⟨vs, .inl (.inl h2), h3.symm⟩, q _ H Ext.refl (ok_eqd (.int _))⟩) (by decide) (by decide) he hpl
/-- for i, x in enumerate(list of objects, left alone) -/
def forE (W : Wd) (Ni : Nat → Nat) (Γ : List Sl) (k : Nat) (Fs : Nat → Fam) (jx jy : Nat) (rt : VK) : TS := fun D' σ H' => ∃ H i, Kp W.Zb W.H0 H ∧ i < k ∧
  HSt { nx := Ok (W.sub H) (Ni (i + 1)) Γ, ct := Ok (W.sub H) (Ni (i + 1)) Γ, bk := fun _ _ => False, rt := rt } (Ok (W.sub H) (Ni i) ((Γ.set jx (.val (.int (i : Nat)))).set jy (.sat (Fs i)))) D' σ H'
theorem hs_enumF {x y : Str} {px py pt pe pc : Pos} {kt : Nat} {body : List Stmt} {jx jy k : Nat} {Γ : List Sl} {Ni : Nat → Nat} (hp : PassesOwn (model X.prog X.w) X.A X.env X.xe) (hc : X.calm = true)
    (hg : Gl X "enumerate") (hm : X.mg "enumerate" = none) (h : DE X W Δ m e ((LD k Fs).as W.Z)) (hb : N + m ≤ BIG) (hx : PG X (.Tuple [.Name x px, .Name y py] kt pt) (gTup X.K 2 (gCons (gName jx) (gCons (gName jy) gNil))))
    (h0 : Less Γ Δ) (hN0 : N + m ≤ Ni 0)
    (hs : ∀ (H : Hp) i, Kp W.Zb W.H0 H → i < k → HS X (Ok (W.sub H) (Ni i) ((Γ.set jx (.val (.int (i : Nat)))).set jy (.sat (Fs i)))) body { nx := Ok (W.sub H) (Ni (i + 1)) Γ, ct := Ok (W.sub H) (Ni (i + 1)) Γ, bk := fun _ _ => False, rt := D.rt })
    (hr : HS X (Ok W (Ni k) Γ) sts D)
    (g1 : starEach [e] X.env = [(false, eval e X.env)] := by rfl) (g2 : starEach (e :: []) X.env = (false, eval e X.env) :: starEach [] X.env := by rfl)
    (hf : ∀ x, foldedSetIterable (.Call (.Name "enumerate" pe) [e] [] pc) X.env x = pure x := by intro _; rfl) : HS X (Ok W N Δ) (.For (.Tuple [.Name x px, .Name y py] kt pt) (.Call (.Name "enumerate" pe) [e] [] pc) body [] pos :: sts) D := by
  have tb : PSs X body (forE W Ni Γ k Fs jx jy D.rt) :=
    ⟨fun pins s σ H' D' I ⟨H, i, p0, p1, z⟩ => (hs H i p0 p1).run pins s σ H' D' I z⟩
  refine hs_cons (ps_to (ps_for hp hc (pi_enum hg hm (da_cons (m2 := 0) h da_nil g2) g1) hx tb hf) fun D' σ H z => ⟨N, hb, z.1, fun us H1 k1 q1 o1 => ?_⟩) hr
  obtain ⟨v, rfl, p, vs, rfl, nz, hv, hl, hF⟩ := allo_1 o1
  subst hl
  refine ⟨p, vs, rfl, .inl (.inl hv), ?_⟩
  let Pv : Nat → L2.St → Hp → Prop := fun i τ H' => Ok W (Ni i) Γ τ H' ∧ Kp W.Z H1 H'
  refine for_it (g := gTup X.K 2 (gCons (gName jx) (gCons (gName jy) gNil))) (tb := forE W Ni Γ vs.length Fs jx jy D.rt) (walk_enum (K := X.K) (a := p) (xs := vs)) Pv ⟨(k1.up hN0).less h0, Kp.refl⟩ (fun i τ H' _ p' => .inl (.inl (p'.2 p _ nz hv))) (fun i x0 τ H2 H3 hi p' y => ?_) (fun τ H' p' => z.2.1 _ _ p'.1)
  obtain ⟨T, a1, a2, rfl, hT, rfl, e1, e2⟩ := y
  have e1 := Option.some.inj e1
  subst e1
  have kx := (p'.1.ext (Ext.new hT) : Ok W (Ni i) Γ τ (upd H2 T (.tup [.int (i : Nat), a2])))
  refine ⟨T, [.int (i : Nat), a2], rfl, .inl (.inl upd_same), rfl, _, _, rfl, _, _, rfl, rfl, ?_⟩
  have k3 := (kx.put jx (s := .val (.int (i : Nat))) ⟨.int (i : Nat), rfl, .int _⟩).put jy (s := .sat (Fs i)) ⟨a2, rfl, (Fs i).mono ((p'.2).trans (Ext.new hT).kp) (fun a z => .inl z) (hF i a2 e2)⟩
  refine ⟨_, i, k3.kept, hi, k3.sub, fun τ' H' k' => ?_, fun v H' r => z.2.2.1 v H' r, fun _ _ f => f.elim, fun τ' H' k' => ?_⟩
  · exact ⟨k3.unsub k', (p'.2.trans (Ext.new hT).kp).trans k'.kept⟩
  · exact ⟨k3.unsub k', (p'.2.trans (Ext.new hT).kp).trans k'.kept⟩
end
end Dv
set_option maxRecDepth 100000
set_option maxHeartbeats 4000000
/-! Dv45: list(range(i, j, c)). -/
namespace Dv
open PySem PySem.Spec PyProof.Rows L2
def rgS (i c : Int) (n : Nat) : List V := (List.range n).map fun k => V.int (i + ((k : Nat) : Int) * c)
theorem vals_rgS {i c : Int} {n : Nat} {acc : Array Value} (h : ItemsOf (fun k v => ∃ t, v = .int (i + k * c) t) acc n) : Vals (rgS i c n) acc.toList := by
  have e : acc.toList.length = n := by rw [Array.length_toList]; exact h.1
  unfold rgS
  rw [← e]
  refine vals_of_get acc.toList _ fun j u hj => ?_
  obtain ⟨t, rfl⟩ := h.2 j u (by rw [← hj, Array.getElem?_toList])
  exact ⟨t, rfl⟩
theorem das_rgS {Z : Addr → Prop} {H : Hp} (i c : Int) : ∀ n : Nat, Das Z H (rgS i c n) (stepto i c n) := fun n => by
  unfold rgS stepto
  induction List.range n with
  | nil => exact .nil
  | cons k ks ih => exact .cons (.int _) ih
section
variable {X : Cx} {W : Wd} {Δ : List Sl} {a b e : Expr} {pos : Pos}
def tLR3 (ta : TA) : TE := fun σ H Q => ta σ H fun vs H1 => ∃ (i j c : Int) (n : Nat), vs = [.int i, .int j, .int c] ∧ RgC i j c n ∧ n ≤ 2 ^ 24 ∧ ∀ q, H1 q = none → Q (.ref q) (upd H1 q (.lst (rgS i c n)))
theorem pe_listRg3 {ta : TA} {p1 p3 p4 : Pos} (hc : X.calm = true) (hg : Gl X "list") (hm : X.mg "list" = none) (hg2 : Gl X "range") (hm2 : X.mg "range" = none) (ha : PA X [a, b, e] ta)
    (hs : starEach [a, b, e] X.env = (false, eval a X.env) :: starEach [b, e] X.env := by rfl) (hpl : (backTo p4 (starEach [b, e] X.env)).any (·.1) = false := by rfl)
    (na : starEach [.Call (.Name "range" p3) [a, b, e] [] p4] X.env = (false, eval (.Call (.Name "range" p3) [a, b, e] [] p4) X.env) :: starEach [] X.env := by rfl) :
    PE X (.Call (.Name "list" p1) [.Call (.Name "range" p3) [a, b, e] [] p4] [] pos) (tLR3 ta) := by
  refine ⟨fun pins s σ H Q I h => ?_⟩
  refine Call_ (ld_blt I hg hm boot_list (PyProof.Rows.callWith_type1 (args_cons (Call_ (ld_blt I hg2 hm2 boot_range (PyProof.Rows.callWith_type1 (thn (ha.run p4 pins s σ H _ I h) fun us s1 ⟨vs, H1, I1, r1, q1⟩ => ?_) hs hpl))) na) na))
  obtain ⟨i, j, k, n, ev, ⟨c0, c1, c2, c3⟩, hn, q⟩ := q1
  subst ev
  cases r1 with
  | cons r rr =>
    cases rr with
    | cons r' rr =>
      cases rr with
      | cons r'' rr =>
        cases rr
        obtain ⟨t, rfl⟩ := r
        obtain ⟨t', rfl⟩ := r'
        obtain ⟨t'', rfl⟩ := r''
        refine call_range_3 c0 (args_nil ?_) (.inl (PyProof.noPylong_small c1))
        have I2 : Inv X pins σ H1 { s1 with heap := s1.heap.push { cls := .type "range", data := .fields #[.int i t, .int j t', .int k t''] } } := I1.kept (t' := s1.toks) fun b o e => Heap.get?_push_of_some _ e
        refine call_list_range (n := n) (I2.ok.hd hc) (IsRange.new ..) c2 c3 hn fun h' tk acc c' hk e' hi => ?_
        refine ⟨.ref _, upd H1 _ (.lst (rgS i k n)), I2.laid hk (Nat.le_refl _) (show ObjOk X.prog X.w _ _ _ (.lst (rgS i k n)) from ⟨?_, acc.toList, c', vals_rgS hi, ?_⟩), rfl, q _ (I2.hok.fresh (Nat.le_refl _))⟩
        · unfold rgS
          rw [List.length_map, List.length_range, sizeLine_eq]
          omega
        · rw [Array.toArray_toList]
          exact e'
theorem de_listRg3 {i j c : Int} {n : Nat} {p1 p3 p4 : Pos} (hc : X.calm = true) (hg : Gl X "list") (hm : X.mg "list" = none) (hg2 : Gl X "range") (hm2 : X.mg "range" = none) (ha : DE X W Δ 0 a (eqd W.Z (.int i))) (hb : DE X W Δ 0 b (eqd W.Z (.int j))) (he : DE X W Δ 0 e (eqd W.Z (.int c))) (hr : RgC i j c n) (hn : n ≤ 2 ^ 24)
    (h1 : starEach [a, b, e] X.env = (false, eval a X.env) :: starEach [b, e] X.env := by rfl) (h2 : starEach [b, e] X.env = (false, eval b X.env) :: starEach [e] X.env := by rfl) (h3 : starEach [e] X.env = (false, eval e X.env) :: starEach [] X.env := by rfl)
    (h4 : (backTo p4 (starEach [b, e] X.env)).any (·.1) = false := by rfl)
    (na : starEach [.Call (.Name "range" p3) [a, b, e] [] p4] X.env = (false, eval (.Call (.Name "range" p3) [a, b, e] [] p4) X.env) :: starEach [] X.env := by rfl) :
    DE X W Δ 0 (.Call (.Name "list" p1) [.Call (.Name "range" p3) [a, b, e] [] p4] [] pos) (eqd W.Z (.list (stepto i c n))) :=
  pe_to (pe_listRg3 hc hg hm hg2 hm2 (da_cons (m1 := 0) (m2 := 0) ha (da_cons (m1 := 0) (m2 := 0) hb (da_cons (m1 := 0) (m2 := 0) he da_nil h3) h2) h1) h1 h4 na) fun σ H Q ⟨nn, ln, k, z⟩ => ⟨nn, ln, k, fun vs H1 k1 q1 o1 => by
    cases o1 with
    | cons o1 o2 =>
      obtain ⟨v2, v3, rfl, o2, o3⟩ := allo_2 o2
      have o1 := eqd_ok o1
      have o2 := eqd_ok o2
      have o3 := eqd_ok o3
      cases o1
      cases o2
      cases o3
      exact ⟨i, j, c, n, rfl, hr, hn, fun r hr' => z _ _ (k1.ext (Ext.new hr')) (q1.trans (Ext.new hr').kp) (ok_eqd (.lst upd_same (k1.w.new k1.j hr') (das_rgS i c n)))⟩⟩
end
end Dv
set_option maxRecDepth 100000
set_option maxHeartbeats 4000000
/-! Dv46: a deck: lists of one's caller that hold one another and may change. -/
namespace Dv
open PySem PySem.Spec PyProof.Rows L2
/-- an object of the zone that may change, as long as φ holds of it -/
structure ObjJ (Z : Addr → Prop) (J : Nat → Hp → Prop) (p : Addr) (φ : Nat → HO → Prop) : Prop where
  z : Z p
  is : ∀ n H, J n H → ∃ o, H p = some o ∧ ∃ m, m ≤ n ∧ φ m o
  to : ∀ n m H H' o, J n H → n ≤ m → H' p = some o → (∃ k, k ≤ m ∧ φ k o) → (∀ a, Z a → a ≠ p → H' a = H a) → J m H'
section
variable {W : Wd} {p D : Addr} {φ ψ : Nat → HO → Prop}
theorem ObjJ.add (b : ObjJ W.Z W.J p φ) (h : ¬ W.Z D) : ObjJ (W.add D ψ).Z (W.add D ψ).J p φ := by
  refine ⟨z_add p b.z, fun n H j => b.is n H (add_j.mp j).2, fun n m H H' o j l ho hb e => ?_⟩
  obtain ⟨⟨u, h1, k, l1, h2⟩, j2⟩ := add_j.mp j
  have nd : D ≠ p := fun c => h (c ▸ b.z)
  exact add_j.mpr ⟨⟨u, (e D (add_z.mpr (.inl rfl)) nd).trans h1, k, Nat.le_trans l1 l, h2⟩, b.to n m H H' o j2 l ho hb fun a z ne => e a (z_add a z) ne⟩
theorem ObjJ.own (w : Wok W.Z W.J) (h : ¬ W.Z p) : ObjJ (W.add p φ).Z (W.add p φ).J p φ := by
  refine ⟨add_z.mpr (.inl rfl), fun n H j => (add_j.mp j).1, fun n m H H' o j l ho hb e => ?_⟩
  exact add_j.mpr ⟨⟨o, ho, hb⟩, w.up n m H' (w.loc n H H' (add_j.mp j).2 fun a z => e a (z_add a z) fun c => h (c ▸ z)) l⟩
theorem ObjJ.sub {H : Hp} (b : ObjJ W.Z W.J p φ) : ObjJ (W.sub H).Z (W.sub H).J p φ :=
  ⟨sub_zz.mpr b.z, fun n H j => b.is n H (sub_jj.mp j), fun n m H H' o j l ho hb e => sub_jj.mpr (b.to n m H H' o (sub_jj.mp j) l ho hb fun a z ne => e a (sub_zz.mpr z) ne)⟩
theorem ObjJ.cut {H : Hp} {as : List Addr} (b : ObjJ W.Z W.J p φ) : ObjJ (W.cut H as).Z (W.cut H as).J p φ :=
  ⟨cut_z.mpr b.z, fun n h j => b.is n h (cut_j.mp j), fun n m h h' o j l ho hb e => cut_j.mpr (b.to n m h h' o (cut_j.mp j) l ho hb fun c z ne => e c (cut_z.mpr z) ne)⟩
theorem ObjJ.at {Z : Addr → Prop} {J : Nat → Hp → Prop} {H : Hp} (b : ObjJ Z J p φ) : ObjJ (Wd.at Z J H).Z (Wd.at Z J H).J p φ :=
  ⟨at_z.mpr b.z, fun n H j => b.is n H (at_j.mp j), fun n m H H' o j l ho hb e => at_j.mpr (b.to n m H H' o (at_j.mp j) l ho hb fun a z ne => e a (at_z.mpr z) ne)⟩
theorem ObjJ.pinL {l : List (Addr × HO)} (b : ObjJ W.Z W.J p φ) (hd : ∀ c ∈ l.map (·.1), ¬ W.Z c) : ObjJ (W.pinL l).Z (W.pinL l).J p φ := by
  have h : p ∉ l.map (·.1) := fun c => hd p c b.z
  refine ⟨pinL_z.mpr (.inr b.z), fun n H j => b.is n H (pinL_j.mp j).2, fun n m H H' o j lt ho hb e => pinL_j.mpr ⟨fun q mq => ?_, b.to n m H H' o (pinL_j.mp j).2 lt ho hb fun c z ne => e c (pinL_z.mpr (.inr z)) ne⟩⟩
  have hq : q.1 ∈ l.map (·.1) := List.mem_map.mpr ⟨q, mq, rfl⟩
  rw [e q.1 (pinL_z.mpr (.inl hq)) fun c => h (by rw [← c]; exact hq)]
  exact (pinL_j.mp j).1 q mq
end
/-- a pool: three ints, the last one small -/
def IsPool (n : Nat) (o : HO) : Prop := ∃ x f z : Int, o = .lst [.int x, .int f, .int z] ∧ 0 ≤ z ∧ z ≤ (n : Int) + 2000
/-- the deck: the pools, the number of draws -/
def IsTop (pp : Addr) (n : Nat) (o : HO) : Prop := ∃ k : Int, o = .lst [.ref pp, .int k] ∧ 0 ≤ k ∧ k ≤ (n : Int)
def IsAll (qs : List Addr) (_ : Nat) (o : HO) : Prop := o = .lst (qs.map V.ref)
structure DeckP (Z : Addr → Prop) (J : Nat → Hp → Prop) (p pp : Addr) (qs : List Addr) : Prop where
  top : ObjJ Z J p (IsTop pp)
  all : ObjJ Z J pp (IsAll qs)
  pool : ∀ q ∈ qs, ObjJ Z J q IsPool
  lo : 1 ≤ qs.length
  hi : qs.length ≤ 63
def DeckJ (Z : Addr → Prop) (J : Nat → Hp → Prop) (p : Addr) : Prop := ∃ pp qs, DeckP Z J p pp qs
section
variable {W : Wd} {p D : Addr} {ψ : Nat → HO → Prop}
theorem DeckJ.add (b : DeckJ W.Z W.J p) (h : ¬ W.Z D) : DeckJ (W.add D ψ).Z (W.add D ψ).J p :=
  let ⟨pp, qs, b⟩ := b
  ⟨pp, qs, b.top.add h, b.all.add h, fun q m => (b.pool q m).add h, b.lo, b.hi⟩
theorem DeckJ.sub {H : Hp} (b : DeckJ W.Z W.J p) : DeckJ (W.sub H).Z (W.sub H).J p :=
  let ⟨pp, qs, b⟩ := b
  ⟨pp, qs, b.top.sub, b.all.sub, fun q m => (b.pool q m).sub, b.lo, b.hi⟩
theorem DeckJ.cut {H : Hp} {as : List Addr} (b : DeckJ W.Z W.J p) : DeckJ (W.cut H as).Z (W.cut H as).J p :=
  let ⟨pp, qs, b⟩ := b
  ⟨pp, qs, b.top.cut, b.all.cut, fun q m => (b.pool q m).cut, b.lo, b.hi⟩
theorem DeckJ.at {Z : Addr → Prop} {J : Nat → Hp → Prop} {H : Hp} (b : DeckJ Z J p) : DeckJ (Wd.at Z J H).Z (Wd.at Z J H).J p :=
  let ⟨pp, qs, b⟩ := b
  ⟨pp, qs, b.top.at, b.all.at, fun q m => (b.pool q m).at, b.lo, b.hi⟩
theorem DeckJ.pinL {l : List (Addr × HO)} (b : DeckJ W.Z W.J p) (hd : ∀ c ∈ l.map (·.1), ¬ W.Z c) : DeckJ (W.pinL l).Z (W.pinL l).J p :=
  let ⟨pp, qs, b⟩ := b
  ⟨pp, qs, b.top.pinL hd, b.all.pinL hd, fun q m => (b.pool q m).pinL hd, b.lo, b.hi⟩
theorem DeckJ.z {Z : Addr → Prop} {J : Nat → Hp → Prop} (b : DeckJ Z J p) : Z p :=
  let ⟨_, _, b⟩ := b
  b.top.z
end
/-- a def that draws from the deck that it is passed first, at most c times -/
def spK (pre : List PyData → Prop) (c : List PyData → Nat) (post : List PyData → PyData → Prop) : Sp := fun xs H Q _ => ∃ (Z : Addr → Prop) (J : Nat → Hp → Prop) (n : Nat) (p : Addr) (ws : List V) (ds : List PyData),
  Wok Z J ∧ J n H ∧ DeckJ Z J p ∧ n + c ds ≤ BIG ∧ xs = .ref p :: ws ∧ Das Z H ws ds ∧ pre ds ∧ ∀ v H' d, Kp Z H H' → J (n + c ds) H' → Da Z H' v d → post ds d → Q v H'
section
variable {P : Program} {w : World} {K : PySem.W.Frag} {mg : Str → Option Value} {base : Heap} {k : Nat} {f : Addr} {fd : FuncData} {x qual : Str} {st : Stmt} {N ps : List Str} {pre : List PyData → Prop} {post : List PyData → PyData → Prop} {cst : List PyData → Nat}
theorem okK (F : Fun K x qual st f fd) (S : FnScope N ps (defScope st)) (hl : ∀ ds, pre ds → ds.length + 1 = ps.length)
    (body : ∀ (cd : Value) (B : Around) (fr : List Env) (t : Shared) (h : Hp) (e : XK), B.guards = some [] → Room k (B.deeper (envOfC qual (defScope st) t.heap.objs.size f cd)) → ∀ (Z : Addr → Prop) (J : Nat → Hp → Prop) (n : Nat) (p : Addr) (ds : List PyData), n + cst ds ≤ BIG → pre ds → DeckJ (Wd.at Z J h).Z (Wd.at Z J h).J p →
      HS (cxOf CX0 P w K mg base N qual (defScope st) f cd B fr t h e).nox (Ok (Wd.at Z J h) n (slots N (.is (.ref p) :: ds.map Sl.val))) (defBody st) { nx := fun _ H' => RT Z J h (n + cst ds) (post ds) .non H', rt := RT Z J h (n + cst ds) (post ds) }) :
    FnG P w K mg base CX0 (k + 1) f fd ps (spK pre cst post) := by
  refine okG F S (fun xs h q e z => ?_) (fun cd B fr t h xs q e gd rm z => ?_)
  · obtain ⟨Z, J, n, p, ws, ds, _, _, _, _, rfl, hd, hp, _⟩ := z
    rw [List.length_cons, hd.length]
    exact hl ds hp
  · obtain ⟨Z, J, n, p, ws, ds, wk, j, b, ln, rfl, hd, hp, fin⟩ := z
    exact ⟨_, body cd B fr t h e gd rm Z J n p ds ln hp b.at, at_ok wk j (.cons rfl (das_sl hd)), fun σ H' ⟨d, z1, z2, z3, z4⟩ => fin _ H' d z1 z2 z3 z4, fun v H' ⟨d, z1, z2, z3, z4⟩ => fin v H' d z1 z2 z3 z4, fun _ _ z => z, fun _ _ z => z⟩
end
section
variable {X : Cx} {W : Wd} {Δ : List Sl} {m m1 m2 m3 N : Nat} {e a b c : Expr} {es : List Expr} {L : List (As W.Z)} {A : As W.Z} {pos : Pos} {k : Nat} {f : Addr} {fd : FuncData} {ps : List Str} {x : Str} {p : Pos} {pre : List PyData → Prop} {post : List PyData → PyData → Prop} {D : Ends} {sts : List Stmt} {i0 : Nat}
theorem de_drawK {PR : PyData → Prop} {q : Addr} {cst : List PyData → Nat} {M : Nat} (F : FnG X.prog X.w X.K X.mg X.base CX0 k f fd ps (spK pre cst post)) (gd : X.A.guards = some []) (rm : Room k X.A) (hg : Gl X x) (hm : X.mg x = some (.ref f)) (hk : PySem.W.keepIn X.K (.ref f) = true) (hb : Binds X.K fd ps [])
    (B : DeckJ W.Z W.J q) (h0 : DE X W Δ 0 e (raw W.Z (.ref q))) (ha : DA X W Δ m es L) (hA : ∀ H vs, Allo H L vs → ∃ ds, Das W.Z H vs ds ∧ pre ds ∧ cst ds ≤ M ∧ ∀ d, post ds d → PR d)
    (h1 : (x == ("__debug__" : Str)) = false := by decide) (h2 : starEach (e :: es) X.env = (false, eval e X.env) :: starEach es X.env := by rfl) (h3 : (backTo pos (starEach es X.env)).any (·.1) = false := by rfl) :
    DE X W Δ (m + M) (.Call (.Name x p) (e :: es) [] pos) (dat W.Z PR) :=
  pe_to (pe_g F gd rm hg hm hk hb .nil pass0 (da_cons h0 ha h2) h1 h2 h3) fun σ H Q ⟨n, l, k, z⟩ => ⟨n, by omega, k, fun vs H1 k1 q1 o1 => by
    cases o1 with
    | cons o1 o2 =>
      cases (show _ = V.ref q from o1)
      obtain ⟨ds, hd, hp, hc, hq⟩ := hA H1 _ o2
      have e0 : n + (0 + m) = n + m := by omega
      rw [e0] at k1
      refine ⟨W.Z, W.J, n + m, q, _, ds, k1.w, k1.j, B, by omega, by rw [List.append_nil], hd, hp, fun v H' d e j o r => z v H' ((k1.kp e j).up (by omega)) (q1.trans e) ⟨d, o, hq d r⟩⟩⟩
/-- a draw: from 0 to less than l -/
theorem de_drawI {q : Addr} {Pl R : Int → Prop} (F : FnG X.prog X.w X.K X.mg X.base CX0 k f fd ps (spK Many (fun _ => 2) Took)) (gd : X.A.guards = some []) (rm : Room k X.A) (hg : Gl X x) (hm : X.mg x = some (.ref f)) (hk : PySem.W.keepIn X.K (.ref f) = true) (hb : Binds X.K fd ps [])
    (B : DeckJ W.Z W.J q) (h0 : DE X W Δ 0 e (raw W.Z (.ref q))) (ha : DE X W Δ m a (intp W.Z Pl)) (hR : ∀ l, Pl l → (1 ≤ l ∧ l < 1073741824) ∧ ∀ i, 0 ≤ i → i < l → R i)
    (h1 : (x == ("__debug__" : Str)) = false := by decide) (h2 : starEach [e, a] X.env = (false, eval e X.env) :: starEach [a] X.env := by rfl) (h2' : starEach [a] X.env = (false, eval a X.env) :: starEach [] X.env := by rfl) (h3 : (backTo pos (starEach [a] X.env)).any (·.1) = false := by rfl) :
    DE X W Δ (m + 2) (.Call (.Name x p) [e, a] [] pos) (intp W.Z R) :=
  (de_drawK (M := 2) (m := m + 0) F gd rm hg hm hk hb B h0 (da_cons ha da_nil h2') (fun H vs o => by
    obtain ⟨v, rfl, d', hd, l, rfl, pl⟩ := allo_1 o
    refine ⟨_, .cons hd .nil, ⟨l, rfl, (hR l pl).1⟩, Nat.le_refl _, ?_⟩
    rintro r ⟨n, i, e, rfl, i0, i1⟩
    cases e
    exact ⟨i, rfl, (hR _ pl).2 i i0 i1⟩) h1 h2 h3)
/-! ### the deck read and written -/
/-- xs[j], xs of the zone, known by its items -/
theorem de_objI {p : Addr} {φ : Nat → HO → Prop} {R : V → Prop} {jj} {pc} {j : Int} (B : ObjJ W.Z W.J p φ) (h0 : DE X W Δ m a (raw W.Z (.ref p))) (hφ : ∀ n o, n ≤ BIG → φ n o → ∃ vs v, o = .lst vs ∧ atI vs j = some v ∧ R v) :
    DE X W Δ m (.Subscript a (.Constant (.int j) jj pc) pos) ⟨fun _ v => R v, fun _ h => h⟩ :=
  pe_to (pe_ix ix_list h0 pe_int fun _ _ => rfl) fun σ H Q ⟨n, l, k, z⟩ => ⟨n, l, k, fun v H1 k1 q1 o1 => by
    cases (show v = V.ref p from o1)
    obtain ⟨o, h1, m', l', h2⟩ := B.is _ H1 k1.j
    obtain ⟨vs, v, rfl, h3, h4⟩ := hφ m' o (by omega) h2
    exact ⟨p, vs, j, v, rfl, rfl, .inl (.inl h1), h3, z v H1 k1 q1 h4⟩⟩
theorem de_objInt {p : Addr} {φ : Nat → HO → Prop} {R : Int → Prop} {jj} {pc} {j : Int} (B : ObjJ W.Z W.J p φ) (h0 : DE X W Δ m a (raw W.Z (.ref p))) (hφ : ∀ n o, n ≤ BIG → φ n o → ∃ vs i, o = .lst vs ∧ atI vs j = some (.int i) ∧ R i) :
    DE X W Δ m (.Subscript a (.Constant (.int j) jj pc) pos) (intp W.Z R) :=
  (de_objI (R := fun v => ∃ i, v = .int i ∧ R i) B h0 fun n o l h => by
    obtain ⟨vs, i, e, h1, h2⟩ := hφ n o l h
    exact ⟨vs, _, e, h1, i, rfl, h2⟩).imp fun H v ⟨i, e, r⟩ => ⟨.int i, by rw [e]; exact .int i, i, rfl, r⟩
/-- xs[e], xs of the zone -/
theorem de_objIx {p : Addr} {φ : Nat → HO → Prop} {R : V → Prop} {Pi : Int → Prop} (B : ObjJ W.Z W.J p φ) (h0 : DE X W Δ m1 a (raw W.Z (.ref p))) (hb : DE X W Δ m2 b (intp W.Z Pi)) (hφ : ∀ n o i, n ≤ BIG → φ n o → Pi i → ∃ vs v, o = .lst vs ∧ atI vs i = some v ∧ R v) (hs : PlainIx b := by intro _ _; rfl) :
    DE X W Δ (m1 + m2) (.Subscript a b pos) ⟨fun _ v => R v, fun _ h => h⟩ :=
  pe_to (pe_ix ix_list h0 hb hs) fun σ H Q ⟨n, l, k, z⟩ => ⟨n, big1 l, k, fun v H1 k1 q1 o1 => ⟨n + m1, big2 l, k1, fun u H2 k2 q2 o2 => by
    cases (show v = V.ref p from o1)
    obtain ⟨_, o2, i, rfl, pi⟩ := o2
    cases o2
    obtain ⟨o, h1, m', l', h2⟩ := B.is _ H2 k2.j
    obtain ⟨vs, v, rfl, h3, h4⟩ := hφ m' o i (by omega) h2 pi
    exact ⟨p, vs, i, v, rfl, rfl, .inl (.inl h1), h3, z v H2 (k2.up (by omega)) (q1.trans q2) h4⟩⟩⟩
/-- len(xs), xs of the zone -/
theorem c_lenJ {K : PySem.W.Frag} {p : Addr} {φ : Nat → HO → Prop} {R : Int → Prop} (B : ObjJ W.Z W.J p φ) (hφ : ∀ n o, φ n o → ∃ vs : List V, o = .lst vs ∧ R vs.length) : Cal W (fun xs H Q => ∃ x n, xs = [x] ∧ LenV K x H n ∧ Q (.int n) H) [raw W.Z (.ref p)] (intp W.Z R) := fun n H vs w jj o Q q => by
  obtain ⟨v, rfl, o1⟩ := allo_1 o
  cases (show v = V.ref p from o1)
  obtain ⟨o, h1, m', l', h2⟩ := B.is _ H jj
  obtain ⟨vs, rfl, r⟩ := hφ m' o h2
  exact ⟨_, _, rfl, .inl ⟨vs, .inl (.inl h1), rfl⟩, q _ H Ext.refl ⟨.int _, .int _, _, rfl, r⟩⟩
/-- x = e, a known value -/
theorem hs_setIs {i : Nat} {y : Str} {pos' : Pos} {S : V → Prop} (hN : X.N.Nodup) (hi : X.N[i]? = some y) (hx : Loc X.env.scope y) (he : DE X W Δ m e ⟨fun _ v => S v, fun _ h => h⟩) (hb : N + m ≤ BIG) (hr : ∀ v, S v → HS X (Ok W (N + m) (Δ.set i (.is v))) sts D)
    (hs : swapsWith e (some (.Name y pos')) pos.line X.env = pure false := by rfl) (hf : X.fn y = true ∨ X.env.scope.names.lookup y = some .local := by first | exact .inl rfl | exact .inr rfl | assumption) : HS X (Ok W N Δ) (.Assign [.Name y pos'] e pos :: sts) D :=
  hs_cons (mid := fun σ H => ∃ v, S v ∧ Ok W (N + m) (Δ.set i (.is v)) σ H) (ps_to (ps_set hN hi hx he hs hf) fun D' σ H z => ⟨N, hb, z.1, fun v H1 k1 q1 o1 => z.2.1 _ _ ⟨v, o1, k1.put i (s := .is v) rfl⟩⟩) (hs_ex fun v => hs_and fun h => hr v h)
/-- xs[j] = e, xs of the zone -/
theorem hs_putJ {p : Addr} {φ : Nat → HO → Prop} {M : Nat} {j : Int} {jj} {pc ps : Pos} {Pv : Int → Prop} (B : ObjJ W.Z W.J p φ) (h0 : PE X a (tVar i0)) (hs : Δ[i0]? = some (.is (.ref p))) (he : DE X W Δ m e (intp W.Z Pv)) (hb : N + m ≤ BIG) (hM : N + m ≤ M)
    (hφ : ∀ k o i, k ≤ N + m → φ k o → Pv i → ∃ vs jn, o = .lst vs ∧ ixN vs.length j = some jn ∧ ∃ k', k' ≤ M ∧ φ k' (.lst (vs.set jn (.int i)))) (hr : HS X (Ok W M Δ) sts D)
    (ha : ∀ v, assign (.Subscript a (.Constant (.int j) jj pc) ps) X.env v = (do let ov ← holding [v] (eval a X.env); let iv ← holding [v, ov] (eval (.Constant (.int j) jj pc) X.env); standAt ps; holding [v, ov, iv] (setItem ov iv v); release [v, ov, iv] []) := by intro _; rfl)
    (h1 : swapsWithSole [.Subscript a (.Constant (.int j) jj pc) ps] e pos.line X.env = pure false := by rfl) (h2 : swappedStores [.Subscript a (.Constant (.int j) jj pc) ps] e X.env = pure none := by rfl) :
    HS X (Ok W N Δ) (.Assign [.Subscript a (.Constant (.int j) jj pc) ps] e pos :: sts) D := by
  refine hs_cons (ps_to (ps_asg he (pg_sub h0 pe_int set_list ha) h1 h2) fun D' σ H z => ⟨N, hb, z.1, fun v H1 k1 q1 o1 => ?_⟩) hr
  obtain ⟨_, o1, i, rfl, pi⟩ := o1
  cases o1
  obtain ⟨o, b1, m', l', b2⟩ := B.is _ H1 k1.j
  obtain ⟨vs, jn, rfl, hj, k', lk, b3⟩ := hφ m' o i l' b2 pi
  refine ⟨_, k1.is hs, p, _, j, jn, rfl, rfl, b1, hj, z.2.1 _ _ ?_⟩
  have kz : Kp W.Z H1 (upd H1 p (.lst (vs.set jn (.int i)))) := fun b o nz h => by
    have ne : b ≠ p := fun c => nz (by rw [c]; exact B.z)
    rw [upd_ne ne]
    exact h
  exact k1.kp kz (B.to _ M H1 _ _ k1.j hM upd_same ⟨k', lk, b3⟩ fun b _ ne => upd_ne ne)
/-- xs[j] = xs[j] + 1, xs of the zone -/
theorem hs_incJ {p : Addr} {φ : Nat → HO → Prop} {M : Nat} {j : Int} {jj jk jl} {pc ps pd pe pf pg : Pos} {a' : Expr} (B : ObjJ W.Z W.J p φ) (ho : PE X a (tVar i0)) (ho' : PE X a' (tVar i0)) (hs : Δ[i0]? = some (.is (.ref p))) (hM : N ≤ M)
    (hφ : ∀ k o, k ≤ N → φ k o → ∃ vs jn c, o = .lst vs ∧ ixN vs.length j = some jn ∧ atI vs j = some (.int c) ∧ ∃ k', k' ≤ M ∧ φ k' (.lst (vs.set jn (.int (c + 1))))) (hr : HS X (Ok W M Δ) sts D)
    (ha : ∀ v, assign (.Subscript a (.Constant (.int j) jj pc) ps) X.env v = (do let ov ← holding [v] (eval a X.env); let iv ← holding [v, ov] (eval (.Constant (.int j) jj pc) X.env); standAt ps; holding [v, ov, iv] (setItem ov iv v); release [v, ov, iv] []) := by intro _; rfl)
    (h1 : swapsWithSole [.Subscript a (.Constant (.int j) jj pc) ps] (.BinOp (.Subscript a' (.Constant (.int j) jk pd) pe) .Add (.Constant (.int 1) jl pf) pg) pos.line X.env = pure false := by rfl)
    (h2 : swappedStores [.Subscript a (.Constant (.int j) jj pc) ps] (.BinOp (.Subscript a' (.Constant (.int j) jk pd) pe) .Add (.Constant (.int 1) jl pf) pg) X.env = pure none := by rfl) :
    HS X (Ok W N Δ) (.Assign [.Subscript a (.Constant (.int j) jj pc) ps] (.BinOp (.Subscript a' (.Constant (.int j) jk pd) pe) .Add (.Constant (.int 1) jl pf) pg) pos :: sts) D := by
  refine hs_cons (ps_to (ps_asg (pe_op op_add (pe_ix ix_list ho' pe_int fun _ _ => rfl) pe_int) (pg_sub ho pe_int set_list ha) h1 h2) fun D' σ H z => ?_) hr
  have k1 := z.1
  obtain ⟨o, b1, m', l', b2⟩ := B.is _ H k1.j
  obtain ⟨vs, jn, c, rfl, hj, hc, k', lk, b3⟩ := hφ m' o l' b2
  refine ⟨_, k1.is hs, p, _, j, .int c, rfl, rfl, .inl (.inl b1), hc, c, 1, rfl, rfl, _, k1.is hs, p, _, j, jn, rfl, rfl, b1, hj, z.2.1 _ _ ?_⟩
  have kz : Kp W.Z H (upd H p (.lst (vs.set jn (.int (c + 1))))) := fun b o nz h => by
    have ne : b ≠ p := fun c => nz (by rw [c]; exact B.z)
    rw [upd_ne ne]
    exact h
  exact k1.kp kz (B.to _ M H _ _ k1.j hM upd_same ⟨k', lk, b3⟩ fun b _ ne => upd_ne ne)
end
end Dv
set_option maxRecDepth 100000
set_option maxHeartbeats 4000000
/-! Dv47: how a deck is made. -/
namespace Dv
open PySem PySem.Spec PyProof.Rows L2
/-! ### worlds with a deck -/
def Wd.adds (W : Wd) : List Addr → Wd
  | [] => W
  | q :: qs => (W.adds qs).add q IsPool
section
variable {W : Wd} {n : Nat} {Δ : List Sl} {σ : L2.St} {H H1 H2 : Hp} {p pp : Addr} {qs : List Addr}
theorem ok_adds {C : Hp → Prop} (k : Ok W n Δ σ H) : ∀ {qs : List Addr}, qs.Nodup → (∀ q ∈ qs, H q = none) → (∀ q ∈ qs, ∃ o, H2 q = some o ∧ IsPool 0 o) → Ext H H2 →
    ∃ H', Ok (W.adds qs) n Δ σ H' ∧ Ext H' H2 ∧ (∀ a, a ∉ qs → H' a = H a) ∧ ∀ q ∈ qs, ObjJ (W.adds qs).Z (W.adds qs).J q IsPool
  | [], _, _, _, e => ⟨H, k, e, fun _ _ => rfl, fun _ m => nomatch m⟩
  | q :: qs, nd, h1, h2, e => by
    obtain ⟨n1, n2⟩ := List.nodup_cons.mp nd
    obtain ⟨H', k', e', f', b'⟩ := ok_adds (C := C) k n2 (fun r m => h1 r (List.mem_cons_of_mem _ m)) (fun r m => h2 r (List.mem_cons_of_mem _ m)) e
    obtain ⟨o, ho, io⟩ := h2 q List.mem_cons_self
    have hq : H' q = none := (f' q n1).trans (h1 q List.mem_cons_self)
    have nz : ¬ (W.adds qs).Z q := k'.w.new k'.j hq
    refine ⟨upd H' q o, k'.pin hq (Ext.new hq).kp (k'.w.ext k'.j (Ext.new hq)) (Nat.le_refl _) upd_same ⟨0, Nat.zero_le _, io⟩, fun a u hu => ?_, fun a na => ?_, fun r m => ?_⟩
    · by_cases c : a = q
      · subst c
        rw [upd_same] at hu
        cases hu
        exact ho
      · rw [upd_ne c] at hu
        exact e' a u hu
    · have : a ≠ q := fun c => na (c ▸ List.mem_cons_self)
      rw [upd_ne this]
      exact f' a fun m => na (List.mem_cons_of_mem _ m)
    · rcases List.mem_cons.mp m with rfl | m
      · exact ObjJ.own k'.w nz
      · exact (b' r m).add nz
/-- the world with a deck of one's own -/
def Wd.deck (W : Wd) (p pp : Addr) (qs : List Addr) : Wd := ((W.adds qs).add pp (IsAll qs)).add p (IsTop pp)
theorem ok_deck (k : Ok W n Δ σ H) (nd : (p :: pp :: qs).Nodup) (f1 : H p = none) (f2 : H pp = none) (f3 : ∀ q ∈ qs, H q = none) (e : Ext H H2) (h1 : H2 p = some (.lst [.ref pp, .int 0])) (h2 : H2 pp = some (.lst (qs.map V.ref)))
    (h3 : ∀ q ∈ qs, ∃ o, H2 q = some o ∧ IsPool 0 o) (lo : 1 ≤ qs.length) (hi : qs.length ≤ 63) : Ok (W.deck p pp qs) n Δ σ H2 ∧ DeckJ (W.deck p pp qs).Z (W.deck p pp qs).J p := by
  obtain ⟨n1, nd⟩ := List.nodup_cons.mp nd
  obtain ⟨n2, nd⟩ := List.nodup_cons.mp nd
  obtain ⟨H', k', e', g', b'⟩ := ok_adds (C := fun _ => True) k nd f3 h3 e
  have q1 : H' pp = none := (g' pp n2).trans f2
  have nz1 : ¬ (W.adds qs).Z pp := k'.w.new k'.j q1
  have k2 : Ok ((W.adds qs).add pp (IsAll qs)) n Δ σ (upd H' pp (.lst (qs.map V.ref))) := k'.pin q1 (Ext.new q1).kp (k'.w.ext k'.j (Ext.new q1)) (Nat.le_refl _) upd_same ⟨0, Nat.zero_le _, rfl⟩
  have npp : p ≠ pp := fun c => n1 (c ▸ List.mem_cons_self)
  have q2 : upd H' pp (.lst (qs.map V.ref)) p = none := by
    rw [upd_ne npp]
    exact (g' p fun m => n1 (List.mem_cons_of_mem _ m)).trans f1
  have nz2 : ¬ ((W.adds qs).add pp (IsAll qs)).Z p := k2.w.new k2.j q2
  have k3 : Ok (W.deck p pp qs) n Δ σ (upd (upd H' pp (.lst (qs.map V.ref))) p (.lst [.ref pp, .int 0])) := k2.pin q2 (Ext.new q2).kp (k2.w.ext k2.j (Ext.new q2)) (Nat.le_refl _) upd_same ⟨0, Nat.zero_le _, 0, rfl, Int.le_refl _, Int.le_refl _⟩
  refine ⟨k3.ext fun a u hu => ?_, pp, qs, ObjJ.own k2.w nz2, (ObjJ.own k'.w nz1).add nz2, fun q m => ((b' q m).add nz1).add nz2, lo, hi⟩
  by_cases c : a = p
  · subst c
    rw [upd_same] at hu
    cases hu
    exact h1
  · rw [upd_ne c] at hu
    by_cases c2 : a = pp
    · subst c2
      rw [upd_same] at hu
      cases hu
      exact h2
    · rw [upd_ne c2] at hu
      exact e' a u hu
end
/-- behind a turn that had a deck: it is forgotten -/
theorem Ok.unadds {W : Wd} {n : Nat} {Δ : List Sl} {σ : L2.St} {H : Hp} : ∀ {qs : List Addr}, Ok (W.adds qs) n Δ σ H → Ok W n Δ σ H
  | [], k => k
  | _ :: _, k => (Ok.unpin k).unadds
theorem Ok.undeck {W : Wd} {n : Nat} {Δ : List Sl} {σ : L2.St} {H : Hp} {p pp : Addr} {qs : List Addr} (k : Ok (W.deck p pp qs) n Δ σ H) : Ok W n Δ σ H := k.unpin.unpin.unadds
/-- a def that makes a deck from the script -/
def spDk (K : PySem.W.Frag) : Sp := fun xs H Q _ => ∃ (a : Addr) (ns : List Int), xs = [.ref a] ∧ (∀ H', Kp (fun _ => False) H H' → SqL K H' a (ns.map V.int)) ∧ ns.length ≤ 63 ∧
  ∀ p pp qs H', (p :: pp :: qs).Nodup → H p = none → H pp = none → (∀ q ∈ qs, H q = none) → Ext H H' → H' p = some (.lst [.ref pp, .int 0]) → H' pp = some (.lst (qs.map V.ref)) → (∀ q ∈ qs, ∃ o, H' q = some o ∧ IsPool 0 o) → 1 ≤ qs.length → qs.length ≤ 63 → Q (.ref p) H'
/-- a new list of three ints -/
def PoolF (h : Hp) (i : Nat) : Fam := ⟨fun Z H v => ∃ q x f, v = .ref q ∧ h q = none ∧ ¬ Z q ∧ H q = some (.lst [.int x, .int f, .int (31 * (i : Int))]),
  fun {Z Z' H H' v} k z ⟨q, x, f, e, h1, h2, h3⟩ => ⟨q, x, f, e, h1, fun c => (z q c).elim h2 fun r => (nomatch h3.symm.trans r), k q _ h2 h3⟩⟩
section
variable {X : Cx} {W : Wd} {Δ : List Sl} {m N : Nat} {e a b c : Expr} {es : List Expr} {pos : Pos} {D : Ends} {sts : List Stmt} {h : Hp} {pp : Addr} {vs : List V} {Fs : Nat → Fam} {l : List (Addr × HO)}
theorem hs_ownF {i : Nat} {p : Addr} (h0 : Δ[i]? = some (.own p [] [])) (hr : HS X (Ok W N (Δ.set i (.sat (LF p [] Fs)))) sts D) : HS X (Ok W N Δ) sts D :=
  hs_pre hr fun σ H k => by
    have e := (k.own h0).1
    have q := k.put (s := .sat (LF p [] Fs)) i (v := .ref p) ⟨_, rfl, rfl, fun i u hu => nomatch hu⟩
    rwa [set_same e] at q
theorem de_pool {i : Nat} (hh : ∀ q o, h q = some o → ¬ W.Zb q ∧ W.H0 q = some o) (hd : DA X W Δ m es [intp W.Z fun _ => True, intp W.Z fun _ => True, eqd W.Z (.int (31 * (i : Int)))]) : DE X W Δ m (.List es pos) ((PoolF h i).as W.Z) :=
  pe_to (pe_lst hd) fun σ H Q ⟨n, l, k, z⟩ => ⟨n, l, k, fun vs H1 k1 q1 o1 => by
    cases o1 with
    | cons a1 o1 =>
      cases o1 with
      | cons a2 o1 =>
        cases o1 with
        | cons a3 o1 =>
          cases o1
          obtain ⟨_, a1, x, rfl, _⟩ := a1
          obtain ⟨_, a2, f, rfl, _⟩ := a2
          have a3 := eqd_ok a3
          cases a1
          cases a2
          cases a3
          refine ⟨(by decide : 3 ≤ sizeLine), fun p hp => z _ _ (k1.ext (.new hp)) (q1.trans (Ext.new hp).kp) ⟨p, x, f, rfl, ?_, k1.w.new k1.j hp, upd_same⟩⟩
          match e : h p with
          | none => rfl
          | some u =>
            obtain ⟨h1, h2⟩ := hh p u e
            exact nomatch (k1.kept p u h1 h2).symm.trans hp⟩
theorem de_lfp {i0 : Nat} (ho : PE X a (tVar i0)) (hs : Δ[i0]? = some (.sat (LF pp vs Fs))) : DE X W Δ 0 a (raw W.Z (.ref pp)) :=
  de_val ho fun n σ H k => ⟨.ref pp, rfl, fun Q q => ⟨_, (lf_at k hs).1, q⟩⟩
/-- [pools, 0] -/
def topA (Z : Addr → Prop) (h : Hp) (pp : Addr) : As Z := ⟨fun H v => ∃ p, v = .ref p ∧ h p = none ∧ ¬ Z p ∧ H p = some (.lst [.ref pp, .int 0]), fun {H H' v} k ⟨p, e, h1, h2, h3⟩ => ⟨p, e, h1, h2, k p _ h2 h3⟩⟩
theorem de_topL (hh : ∀ q o, h q = some o → ¬ W.Zb q ∧ W.H0 q = some o) (h0 : DE X W Δ 0 a (raw W.Z (.ref pp))) (h1 : DE X W Δ 0 b (eqd W.Z (.int 0))) (g1 : starEach [a, b] X.env = (false, eval a X.env) :: starEach [b] X.env := by rfl) (g2 : starEach [b] X.env = (false, eval b X.env) :: starEach [] X.env := by rfl) :
    DE X W Δ 0 (.List [a, b] pos) (topA W.Z h pp) :=
  pe_to (pe_lst (da_cons (m1 := 0) (m2 := 0) h0 (da_cons (m1 := 0) (m2 := 0) h1 da_nil g2) g1)) fun σ H Q ⟨n, l, k, z⟩ => ⟨n, l, k, fun vs H1 k1 q1 o1 => by
    cases o1 with
    | cons a1 o1 =>
      cases o1 with
      | cons a2 o1 =>
        cases o1
        cases (show _ = V.ref pp from a1)
        have a2 := eqd_ok a2
        cases a2
        refine ⟨(by decide : 2 ≤ sizeLine), fun p hp => z _ _ (k1.ext (.new hp)) (q1.trans (Ext.new hp).kp) ⟨p, rfl, ?_, k1.w.new k1.j hp, upd_same⟩⟩
        match e : h p with
        | none => rfl
        | some u =>
          obtain ⟨h1, h2⟩ := hh p u e
          exact nomatch (k1.kept p u h1 h2).symm.trans hp⟩
/-- deck = make(script) -/
theorem hs_deck {k : Nat} {f : Addr} {fd : FuncData} {ps : List Str} {x : Str} {p' : Pos} {i : Nat} {y : Str} {pos' pc : Pos} {sa : Addr} {ns : List Int} (hN : X.N.Nodup) (hi : X.N[i]? = some y) (hx : Loc X.env.scope y)
    (F : FnG X.prog X.w X.K X.mg X.base CX0 k f fd ps (spDk X.K)) (gd : X.A.guards = some []) (rm : Room k X.A) (hg : Gl X x) (hm : X.mg x = some (.ref f)) (hk : PySem.W.keepIn X.K (.ref f) = true) (hb : Binds X.K fd ps [])
    (h0 : DE X W Δ 0 e (raw W.Z (.ref sa))) (hS : ∀ H, Kp W.Zb W.H0 H → ∀ H', Kp (fun _ => False) H H' → SqL X.K H' sa (ns.map V.int)) (hn : ns.length ≤ 63) (hb0 : N ≤ BIG)
    (hr : ∀ p pp qs, DeckJ (W.deck p pp qs).Z (W.deck p pp qs).J p → HS X (Ok (W.deck p pp qs) N (Δ.set i (.is (.ref p)))) sts D)
    (hd1 : (x == ("__debug__" : Str)) = false := by decide) (h2 : starEach [e] X.env = (false, eval e X.env) :: starEach [] X.env := by rfl) (h3 : (backTo pc (starEach [] X.env)).any (·.1) = false := by rfl)
    (hs : swapsWith (.Call (.Name x p') [e] [] pc) (some (.Name y pos')) pos.line X.env = pure false := by rfl) (hf : X.fn y = true ∨ X.env.scope.names.lookup y = some .local := by first | exact .inl rfl | exact .inr rfl | assumption) :
    HS X (Ok W N Δ) (.Assign [.Name y pos'] (.Call (.Name x p') [e] [] pc) pos :: sts) D := by
  have cl := pe_g F gd rm hg hm hk hb .nil pass0 (da_cons h0 da_nil h2) hd1 h2 h3 (p := p') (pos := pc)
  refine hs_cons (mid := fun σ H => ∃ p pp qs, DeckJ (W.deck p pp qs).Z (W.deck p pp qs).J p ∧ Ok (W.deck p pp qs) N (Δ.set i (.is (.ref p))) σ H) (ps_to (ps_set hN hi hx cl hs hf) fun D' σ H z => ?_) (hs_ex fun p => hs_ex fun pp => hs_ex fun qs => hs_and fun h => hr p pp qs h)
  refine ⟨N, by simpa using hb0, z.1, fun vs H1 k1 q1 o1 => ?_⟩
  obtain ⟨v, rfl, o2⟩ := allo_1 o1
  cases (show v = V.ref sa from o2)
  have k1' : Ok W N Δ σ H1 := by simpa using k1
  refine ⟨sa, ns, rfl, hS H1 k1'.kept, hn, fun p pp qs H2 nd f1 f2 f3 e2 g1 g2 g3 lo hi2 => ?_⟩
  obtain ⟨k2, b2⟩ := ok_deck k1' nd f1 f2 f3 e2 g1 g2 g3 lo hi2
  exact z.2.1 _ _ ⟨p, pp, qs, b2, k2.put i (s := .is (.ref p)) rfl⟩
end
end Dv
set_option maxRecDepth 100000
set_option maxHeartbeats 4000000
/-! Dv48: zip of data. -/
namespace Dv
open PySem PySem.Spec PyProof.Rows L2 RZ
theorem walk_zipT {K : PySem.W.Frag} {a b : Addr} {xs ys : List V} {n : Nat} (hn : n = min xs.length ys.length) : Walk (ItzT K a b) n (fun H => SqT K H a xs ∧ SqT K H b ys) (YPair (fun i => xs[i]?) (fun i => ys[i]?)) where
  goes := fun i _ hi q => ⟨xs, ys, xs[i]'(by omega), ys[i]'(by omega), q.1, q.2, List.getElem?_eq_getElem _, List.getElem?_eq_getElem _⟩
  stops := fun _ q => ⟨xs, ys, q.1, q.2, by omega⟩
  yields := fun i H v H' _ q ⟨T, x, z, h1, h2, h3, h4, h5⟩ => ⟨T, x, z, h1, h2, h3, h4 xs q.1, h5 ys q.2⟩
def zipD (ds es : List PyData) : List PyData := (ds.zip es).map fun p => .tuple [p.1, p.2]
theorem zipD_len {ds es : List PyData} : (zipD ds es).length = min ds.length es.length := by
  unfold zipD
  rw [List.length_map, List.length_zip]
theorem zipD_get {ds es : List PyData} {i : Nat} {x y : PyData} (h1 : ds[i]? = some x) (h2 : es[i]? = some y) : (zipD ds es)[i]? = some (.tuple [x, y]) := by
  unfold zipD
  rw [List.getElem?_map, (List.getElem?_zip_eq_some (z := (x, y))).mpr ⟨h1, h2⟩]
  rfl
section
variable {X : Cx} {W : Wd} {Δ : List Sl} {m1 m2 : Nat} {e e2 : Expr} {p pos tpos : Pos} {elts : List Expr} {kk : Nat} {d1 d2 : PyData} {ds es : List PyData}
theorem src_pair {Z : Addr → Prop} {H1 : Hp} {J : It} {G : Hp → Prop} {us vs : List V} (hu : Das Z H1 us ds) (hv : Das Z H1 vs es) (wk : Walk J (min us.length vs.length) G (YPair (fun i => us[i]?) (fun i => vs[i]?)))
    (hG : ∀ (Z' : Addr → Prop) H, (∀ a, Z' a → Z a ∨ H1 a = none) → Kp Z' H1 H → G H) : Src Z H1 J (zipD ds es) := by
  have hl : min us.length vs.length = (zipD ds es).length := by rw [zipD_len, hu.length, hv.length]
  rw [hl] at wk
  refine ⟨⟨_, _, wk, hG, fun Z' i H x H' z' k' alive hi y => ?_⟩⟩
  obtain ⟨T, x1, x2, rfl, hT, rfl, g1, g2⟩ := y
  obtain ⟨y1, e1, f1⟩ := hu.getV g1
  obtain ⟨y2, e2, f2⟩ := hv.getV g2
  have kn : Kp Z' H (upd H T (.tup [x1, x2])) := (Ext.new hT).kp
  exact ⟨Ext.new hT, .tuple [y1, y2], zipD_get e1 e2, .tup upd_same (fun z => alive T z hT) (.cons (((f1.mono Kp.refl z').kp k').kp kn) (.cons (((f2.mono Kp.refl z').kp k').kp kn) .nil))⟩
theorem di_zip2 (hg : Gl X "zip") (hm : X.mg "zip" = none) (hk : (d1 = .list ds ∧ d2 = .list es) ∨ (d1 = .tuple ds ∧ d2 = .tuple es)) (h1 : DE X W Δ m1 e (eqd W.Z d1)) (h2 : DE X W Δ m2 e2 (eqd W.Z d2))
    (hs : starEach [e, e2] X.env = (false, eval e X.env) :: starEach [e2] X.env := by rfl) (hs' : starEach [e2] X.env = (false, eval e2 X.env) :: starEach [] X.env := by rfl) (hpl : (backTo pos (starEach [e2] X.env)).any (·.1) = false := by rfl) :
    DI X W Δ (m1 + (m2 + 0)) (.Tuple elts kk tpos) (.Call (.Name "zip" p) [e, e2] [] pos) (· = zipD ds es) :=
  pi_to (pi_zipA hg hm (da_cons h1 (da_cons h2 da_nil hs') hs) hs hpl) fun σ H R ⟨n, l, k, f⟩ => ⟨n, l, k, fun vs H1 k1 q1 o1 => by
    obtain ⟨v, u, rfl, p1, p2⟩ := allo_2 o1
    have p1 := eqd_ok p1
    have p2 := eqd_ok p2
    rcases hk with ⟨rfl, rfl⟩ | ⟨rfl, rfl⟩
    · cases p1 with
      | lst r1 n1 c1 =>
        cases p2 with
        | lst r2 n2 c2 =>
          rename_i a us b vs
          exact ⟨a, b, us, vs, rfl, .inl ⟨.inl (.inl r1), .inl (.inl r2), f _ H1 _ k1 q1 rfl (src_pair c1 c2 (walk_zip rfl) fun Z' H z' k' => ⟨.inl (.inl (kpz z' k' n1 r1)), .inl (.inl (kpz z' k' n2 r2))⟩)⟩⟩
    · cases p1 with
      | tup r1 n1 c1 =>
        cases p2 with
        | tup r2 n2 c2 =>
          rename_i a us b vs
          exact ⟨a, b, us, vs, rfl, .inr ⟨.inl (.inl r1), .inl (.inl r2), f _ H1 _ k1 q1 rfl (src_pair c1 c2 (walk_zipT rfl) fun Z' H z' k' => ⟨.inl (.inl (kpz z' k' n1 r1)), .inl (.inl (kpz z' k' n2 r2))⟩)⟩⟩⟩
/-- x is None -/
def isNon : PyData → Bool
  | .none => true
  | _ => false
theorem o_isNon {d : PyData} : Op2 W (fun x y H Q => y = .non ∧ Q (.bl (decide (x = .non))) H) (eqd W.Z d) (eqd W.Z .none) (bol W.Z (· = isNon d)) := fun n H v u w jj o1 o2 Q q => by
  have o1 := eqd_ok o1
  have o2 := eqd_ok o2
  cases o2
  refine ⟨rfl, q _ H Ext.refl ⟨_, rfl, ?_⟩⟩
  cases o1 <;> rfl
/-- !=, == of truth values -/
theorem o_neBB {x y : Bool} : Op2 W rNe (eqd W.Z (.bool x)) (eqd W.Z (.bool y)) (bol W.Z (· = !decide (x = y))) := fun n H v u w jj o1 o2 Q q => by
  have o1 := eqd_ok o1
  have o2 := eqd_ok o2
  cases o1
  cases o2
  exact ⟨rfl, q _ H Ext.refl ⟨_, rfl, by cases x <;> cases y <;> rfl⟩⟩
theorem o_eqBB {x y : Bool} : Op2 W rEq (eqd W.Z (.bool x)) (eqd W.Z (.bool y)) (bol W.Z (· = decide (x = y))) := fun n H v u w jj o1 o2 Q q => by
  have o1 := eqd_ok o1
  have o2 := eqd_ok o2
  cases o1
  cases o2
  exact ⟨rfl, q _ H Ext.refl ⟨_, rfl, by cases x <;> cases y <;> rfl⟩⟩
end
end Dv
set_option maxRecDepth 100000
set_option maxHeartbeats 4000000
/-! Dv49: lists that a call gives and that may change afterwards. -/
namespace Dv
open PySem PySem.Spec PyProof.Rows L2
section
variable {W : Wd} {n n' : Nat} {Δ Δ' : List Sl} {σ : L2.St} {H H1 : Hp} {l : List (Addr × HO)}
/-- what happens in the world without the pins leaves them as they are -/
theorem Ok.again (k : Ok (W.pinL l) n Δ σ H) (e : Kp W.Z H H1) (j : W.J n' H1) : Ok (W.pinL l) n' Δ σ H1 ∧ Kp (W.pinL l).Z H H1 := by
  have kp : Kp (W.pinL l).Z H H1 := e.wide fun a z => pinL_z.mpr (.inr z)
  refine ⟨k.kp kp (pinL_j.mpr ⟨fun q m => ?_, j⟩), kp⟩
  exact e q.1 q.2 ((pinL_fr k).1 q.1 (List.mem_map.mpr ⟨q, m, rfl⟩)).1 ((pinL_j.mp k.j).1 q m)
variable {X : Cx} {m : Nat} {e : Expr} {p : Addr} {vs : List V} {ds : List PyData} {i : Nat}
/-- an expression, the list of one's own at p being data for the while -/
theorem de_unpin {A' : As (W.pinL l).Z} {A : As (W.pinL ((p, .lst vs) :: l)).Z} (hs : Δ[i]? = some (.own p vs ds)) (h : DE X (W.pinL l) (Δ.set i (.val (.list ds))) m e A') (hA : ∀ H v, A'.ok H v → A.ok H v) : DE X (W.pinL ((p, .lst vs) :: l)) Δ m e A :=
  pe_to h fun σ H Q ⟨n, ln, k, z⟩ => ⟨n, ln, k.done hs, fun v H1 k1 q1 o1 => by
    have r := Ok.again (W := W.pinL l) (l := [(p, .lst vs)]) k q1 k1.j
    exact z v H1 r.1 r.2 (hA H1 v o1)⟩
theorem dt_unpin {P : Bool → Prop} (hs : Δ[i]? = some (.own p vs ds)) (h : DT X (W.pinL l) (Δ.set i (.val (.list ds))) m e P) : DT X (W.pinL ((p, .lst vs) :: l)) Δ m e P :=
  pt_to h fun σ H Q ⟨n, ln, k, z⟩ => ⟨n, ln, k.done hs, fun b H1 k1 q1 o1 => by
    have r := Ok.again (W := W.pinL l) (l := [(p, .lst vs)]) k q1 k1.j
    exact z b H1 r.1 r.2 o1⟩
end
/-- data in, a new list out -/
def spL (pre : List PyData → Prop) (post : List PyData → List PyData → Prop) : Sp := fun xs H Q _ => ∃ (Z : Addr → Prop) (J : Nat → Hp → Prop) (n : Nat) (ds : List PyData),
  Wok Z J ∧ n ≤ BIG ∧ J n H ∧ Das Z H xs ds ∧ pre ds ∧ ∀ p vs es H', Kp Z H H' → J n H' → H p = none → H' p = some (.lst vs) → Das (fun a => Z a ∨ a = p) H' vs es → post ds es → Q (.ref p) H'
/-- a list that is new since h -/
def NewL (h : Hp) (es : List PyData) : Fam := ⟨fun Z H v => ∃ p vs, v = .ref p ∧ h p = none ∧ ¬ Z p ∧ H p = some (.lst vs) ∧ Das (fun a => Z a ∨ a = p) H vs es,
  fun {Z Z' H H' v} k z ⟨p, vs, e, h1, h2, h3, h4⟩ => ⟨p, vs, e, h1, fun c => (z p c).elim h2 fun q => (nomatch h3.symm.trans q), k p _ h2 h3, h4.mono (fun a o n h => k a o (fun c => n (.inl c)) h) fun a c => c.elim (fun c => (z a c).imp .inl id) fun c => .inl (.inr c)⟩⟩
/-- what is new now is new since h, if h was kept -/
theorem new_since {W : Wd} {n : Nat} {Δ : List Sl} {σ : L2.St} {h H1 : Hp} {q : Addr} (k : Ok W n Δ σ H1) (hh : ∀ q o, h q = some o → W.Zb q ∨ W.H0 q = some o) (hp : H1 q = none) : h q = none := by
  match eq : h q with
  | none => rfl
  | some u =>
    exfalso
    have al : ¬ W.Zb q := fun g => k.w.alive _ _ q k.j (.inl g) hp
    rcases hh q u eq with g | g
    · exact al g
    · exact nomatch (k.kept q u al g).symm.trans hp
/-- what is wanted at the return -/
def RL (Z : Addr → Prop) (J : Nat → Hp → Prop) (h : Hp) (n : Nat) (P : List PyData → Prop) : VK := fun v H' => Kp Z h H' ∧ J n H' ∧ ∃ es, (NewL h es).ok Z H' v ∧ P es
section
variable {P : Program} {w : World} {K : PySem.W.Frag} {mg : Str → Option Value} {base : Heap} {k : Nat} {f : Addr} {fd : FuncData} {x qual : Str} {st : Stmt} {N ps : List Str} {pre : List PyData → Prop} {post : List PyData → List PyData → Prop}
theorem okL (F : Fun K x qual st f fd) (S : FnScope N ps (defScope st)) (hl : ∀ ds, pre ds → ds.length = ps.length)
    (body : ∀ (cd : Value) (B : Around) (fr : List Env) (t : Shared) (h : Hp) (e : XK), Room k (B.deeper (envOfC qual (defScope st) t.heap.objs.size f cd)) → ∀ (Z : Addr → Prop) (J : Nat → Hp → Prop) (n : Nat) (ds : List PyData), n ≤ BIG → pre ds →
      HS (cxOf CX0 P w K mg base N qual (defScope st) f cd B fr t h e).nox (Ok (Wd.at Z J h) n (slots N (ds.map Sl.val))) (defBody st) { nx := fun _ _ => False, rt := RL Z J h n (post ds) }) :
    FnOk P w K mg base CX0 (k + 1) f fd ps (spL pre post) := by
  refine F.ok S (fun xs h q e z => ?_) (fun cd B fr t h xs q e rm z => ?_)
  · obtain ⟨Z, J, n, ds, _, _, _, hd, hp, _⟩ := z
    exact hd.length.trans (hl ds hp)
  · obtain ⟨Z, J, n, ds, wk, ln, j, hd, hp, fin⟩ := z
    exact ⟨_, body cd B fr t h e rm Z J n ds ln hp, at_ok wk j (das_sl hd), fun _ _ z => z.elim, fun v H' ⟨z1, z2, es, ⟨p, vs, ev, z3, _, z5, z6⟩, z7⟩ => ev ▸ fin p vs es H' z1 z2 z3 z5 z6 z7, fun _ _ z => z, fun _ _ z => z⟩
end
section
variable {X : Cx} {W : Wd} {Δ : List Sl} {m N : Nat} {e a : Expr} {es : List Expr} {L : List (As W.Z)} {pos : Pos} {k : Nat} {f : Addr} {fd : FuncData} {ps : List Str} {x : Str} {p : Pos} {pre : List PyData → Prop} {post : List PyData → List PyData → Prop} {D : Ends} {sts : List Stmt}
/-- a new list as data -/
theorem de_newD {h : Hp} {ds : List PyData} (he : DE X W Δ m e ((NewL h ds).as W.Z)) : DE X W Δ m e (eqd W.Z (.list ds)) := he.imp fun H v ⟨p, vs, e, _, h2, h3, h4⟩ => ⟨_, by rw [e]; exact .lst h3 h2 (h4.mono Kp.refl fun a z => .inl (.inl z)), rfl⟩
/-- a call that gives a new list: new since h too, if h was kept -/
theorem de_callL {h : Hp} {PR : List PyData → Prop} (F : FnOk X.prog X.w X.K X.mg X.base CX0 k f fd ps (spL pre post)) (rm : Room k X.A) (hg : Gl X x) (hm : X.mg x = some (.ref f)) (hk : PySem.W.keepIn X.K (.ref f) = true) (hb : Binds X.K fd ps [])
    (hh : ∀ q o, h q = some o → W.Zb q ∨ W.H0 q = some o) (ha : DA X W Δ m (e :: es) L) (hA : ∀ H vs, Allo H L vs → ∃ ds, Das W.Z H vs ds ∧ pre ds ∧ ∀ d, post ds d → PR d)
    (h1 : (x == ("__debug__" : Str)) = false := by decide) (h2 : starEach (e :: es) X.env = (false, eval e X.env) :: starEach es X.env := by rfl) (h3 : (backTo pos (starEach es X.env)).any (·.1) = false := by rfl) :
    DE X W Δ m (.Call (.Name x p) (e :: es) [] pos) ⟨fun H v => ∃ ds, (NewL h ds).ok W.Z H v ∧ PR ds, fun kp ⟨ds, o, q⟩ => ⟨ds, (NewL h ds).mono kp (fun a z => .inl z) o, q⟩⟩ :=
  pe_to (pe_call F rm hg hm hk hb .nil pass0 ha h1 h2 h3) fun σ H Q ⟨n, l, k, z⟩ => ⟨n, l, k, fun vs H1 k1 q1 o1 => by
    obtain ⟨ds, hd, hp, hq⟩ := hA H1 vs o1
    refine ⟨W.Z, W.J, n + m, ds, k1.w, l, k1.j, by simpa using hd, hp, fun q us rs H' kp j f1 f2 f3 po => z _ H' (k1.kp kp j) (q1.trans kp) ⟨rs, ⟨q, us, rfl, new_since k1 hh f1, k1.w.new k1.j f1, f2, f3⟩, hq rs po⟩⟩⟩
/-- x = f(..), f gives a new list: one's own from now on -/
theorem hs_callL {i : Nat} {y : Str} {pos' : Pos} {PR : List PyData → Prop} (hN : X.N.Nodup) (hi : X.N[i]? = some y) (hx : Loc X.env.scope y) (F : FnOk X.prog X.w X.K X.mg X.base CX0 k f fd ps (spL pre post)) (rm : Room k X.A) (hg : Gl X x) (hm : X.mg x = some (.ref f)) (hk : PySem.W.keepIn X.K (.ref f) = true) (hb : Binds X.K fd ps [])
    (ha : DA X W Δ m (e :: es) L) (hA : ∀ H vs, Allo H L vs → ∃ ds, Das W.Z H vs ds ∧ pre ds ∧ ∀ d, post ds d → PR d) (hb0 : N + m ≤ BIG)
    (hr : ∀ q vs ds, PR ds → HS X (Ok (W.pinL [(q, .lst vs)]) (N + m) (Δ.set i (.own q vs ds))) sts D)
    (h1 : (x == ("__debug__" : Str)) = false := by decide) (h2 : starEach (e :: es) X.env = (false, eval e X.env) :: starEach es X.env := by rfl) (h3 : (backTo pos (starEach es X.env)).any (·.1) = false := by rfl) {ap : Pos}
    (hs : swapsWith (.Call (.Name x p) (e :: es) [] pos) (some (.Name y pos')) ap.line X.env = pure false := by rfl) (hf : X.fn y = true ∨ X.env.scope.names.lookup y = some .local := by first | exact .inl rfl | exact .inr rfl | assumption) :
    HS X (Ok W N Δ) (.Assign [.Name y pos'] (.Call (.Name x p) (e :: es) [] pos) ap :: sts) D := by
  have cl := pe_call F rm hg hm hk hb .nil pass0 ha h1 h2 h3 (p := p) (pos := pos)
  refine hs_cons (mid := fun σ H => ∃ q vs ds, PR ds ∧ Ok (W.pinL [(q, .lst vs)]) (N + m) (Δ.set i (.own q vs ds)) σ H) (ps_to (ps_set hN hi hx cl hs hf) fun D' σ H z => ?_) (hs_ex fun q => hs_ex fun vs => hs_ex fun ds => hs_and fun h => hr q vs ds h)
  refine ⟨N, hb0, z.1, fun vs H1 k1 q1 o1 => ?_⟩
  obtain ⟨ds, hd, hp, hq⟩ := hA H1 vs o1
  refine ⟨W.Z, W.J, N + m, ds, k1.w, hb0, k1.j, by simpa using hd, hp, fun q us rs H' kp j f1 f2 f3 po => z.2.1 _ _ ⟨q, us, rs, hq rs po, ?_⟩⟩
  have k2 : Ok (W.pinL [(q, .lst us)]) (N + m) Δ σ H' := k1.pin f1 kp j (Nat.le_refl _) f2 ⟨0, Nat.zero_le _, rfl⟩
  exact k2.put i (s := .own q us rs) (v := .ref q) ⟨rfl, f3.mono Kp.refl fun a z => .inl ((pinL_z.mp z).elim (fun m => .inr (List.mem_singleton.mp m)) .inl)⟩
end
end Dv
set_option maxRecDepth 100000
set_option maxHeartbeats 4000000
/-! Dv50: a text split at a separator: a new list of texts. -/
namespace Dv
open PySem PySem.Spec PyProof.Rows L2
theorem das_strs {Z : Addr → Prop} {H : Hp} : ∀ ys : List Str, Das Z H (ys.map V.str) (ys.map PyData.str)
  | [] => .nil
  | y :: ys => .cons (.str y) (das_strs ys)
section
variable {X : Cx} {W : Wd} {Δ : List Sl} {m1 m2 : Nat} {o e : Expr} {pos : Pos}
theorem de_split {apos : Pos} {h : Hp} {x z : Str} (hh : ∀ q o, h q = some o → W.Zb q ∨ W.H0 q = some o) (ho : DE X W Δ m1 o (eqd W.Z (.str x))) (he : DE X W Δ m2 e (eqd W.Z (.str z))) (hz : (z.length == 0) = false) (hx : x.length + 2 ≤ sizeLine)
    (hs : starEach [e] X.env = [(false, eval e X.env)] := by rfl) (hbase : attributeBase o "split" X.env (eval o X.env) = eval o X.env := by rfl) (hline : (apos.endLine == pos.line) = true := by rfl) :
    DE X W Δ (m1 + m2) (.Call (.Attribute o "split" apos) [e] [] pos) ((NewL h ((Txt.split x z).map PyData.str)).as W.Z) :=
  pe_to (pe_split ho he hs hbase hline) fun σ H Q ⟨n, l, k, f⟩ => ⟨n, big1 l, k, fun v H1 k1 q1 o1 => by
    have o := eqd_ok o1
    cases o
    refine ⟨⟨x, rfl⟩, n + m1, big2 l, k1, fun u H2 k2 q2 o2 => ?_⟩
    have o2 := eqd_ok o2
    cases o2
    refine ⟨x, z, rfl, rfl, hz, hx, fun p hp => f _ _ ((k2.up (by omega)).ext (.new hp)) ((q1.trans q2).trans (Ext.new hp).kp) ⟨p, _, rfl, new_since k2 hh hp, k2.w.new k2.j hp, upd_same, das_strs _⟩⟩⟩
end
end Dv
set_option maxRecDepth 100000
set_option maxHeartbeats 4000000
/-! Dv51: enumerate(list), a new list written out, lists of texts compared. -/
namespace Dv
open PySem PySem.Spec PyProof.Rows L2
def enumD (ds : List PyData) : List PyData := ds.mapIdx fun i d => .tuple [.int (i : Nat), d]
theorem enumD_len {ds : List PyData} : (enumD ds).length = ds.length := List.length_mapIdx
theorem enumD_get {ds : List PyData} {i : Nat} {d : PyData} (h : ds[i]? = some d) : (enumD ds)[i]? = some (.tuple [.int (i : Nat), d]) := by
  unfold enumD
  rw [List.getElem?_mapIdx, h]
  rfl
theorem enumD_mem {ds : List PyData} {d : PyData} (h : d ∈ enumD ds) : ∃ (i : Nat) (x : PyData), d = .tuple [.int (i : Nat), x] := by
  obtain ⟨i, hi, e⟩ := List.mem_mapIdx.mp h
  exact ⟨i, _, e.symm⟩
section
variable {X : Cx} {W : Wd} {Δ : List Sl} {m : Nat} {e : Expr} {es : List Expr} {p pos tpos : Pos} {elts : List Expr} {kk : Nat} {ds : List PyData}
theorem di_enumL (hg : Gl X "enumerate") (hm : X.mg "enumerate" = none) (h : DE X W Δ m e (eqd W.Z (.list ds))) (hs : starEach [e] X.env = [(false, eval e X.env)] := by rfl) (hs' : starEach (e :: []) X.env = (false, eval e X.env) :: starEach [] X.env := by rfl) :
    DI X W Δ m (.Tuple elts kk tpos) (.Call (.Name "enumerate" p) [e] [] pos) (· = enumD ds) :=
  pi_to (pi_enum hg hm (da_cons h da_nil hs') hs) fun σ H R ⟨n, l, k, f⟩ => ⟨n, l, k, fun vs H1 k1 q1 o1 => by
    obtain ⟨v, rfl, p1⟩ := allo_1 o1
    have p1 := eqd_ok p1
    cases p1 with
    | lst r1 n1 c1 =>
      rename_i a us
      have wk : Walk (Ite X.K a) (enumD ds).length (fun H => SqL X.K H a us) (YPair (fun i => some (.int (i : Nat))) (fun i => us[i]?)) := by
        rw [enumD_len, ← c1.length]
        exact walk_enum
      refine ⟨a, us, rfl, .inl (.inl r1), f _ H1 _ k1 q1 rfl ⟨⟨_, _, wk, fun Z' H z' k' => .inl (.inl (kpz z' k' n1 r1)), fun Z' i H x H' z' k' alive hi y => ?_⟩⟩⟩
      obtain ⟨T, x1, x2, rfl, hT, rfl, g1, g2⟩ := y
      cases g1
      obtain ⟨y2, e2, f2⟩ := c1.getV g2
      exact ⟨Ext.new hT, .tuple [.int (i : Nat), y2], enumD_get e2, .tup upd_same (fun z => alive T z hT) (.cons (.int _) (.cons (((f2.mono Kp.refl z').kp k').kp (Ext.new hT).kp) .nil))⟩⟩
/-- [..], new -/
theorem de_newL {h : Hp} (hh : ∀ q o, h q = some o → W.Zb q ∨ W.H0 q = some o) (hd : DAd X W Δ m es ds) (hl : ds.length ≤ 1000 := by first | exact Nat.le_of_ble_eq_true rfl | omega) : DE X W Δ m (.List es pos) ((NewL h ds).as W.Z) :=
  pe_to (pe_lst hd) fun σ H Q ⟨n, l, k, z⟩ => ⟨n, l, k, fun vs H1 k1 q1 o1 => by
    have o := allo_das o1
    refine ⟨by rw [o.length]; exact Nat.le_trans hl (by decide), fun p hp => z _ _ (k1.ext (.new hp)) (q1.trans (Ext.new hp).kp) ⟨p, vs, rfl, new_since k1 hh hp, k1.w.new k1.j hp, upd_same, (o.mono (Z' := fun a => W.Z a ∨ a = p) Kp.refl fun a z => z.imp id fun e => by rw [e]; exact hp).kp (Ext.new hp).kp⟩⟩⟩
end
theorem strOk_of {y : Str} (h : ∀ c ∈ y.cps.toList, c < 1114112) : PyData.strOk y = true := by
  unfold PyData.strOk
  rw [← Array.all_toList, List.all_eq_true]
  exact fun c m => decide_eq_true (h c m)
theorem shaped_strs {ys : List Str} (hok : ∀ y ∈ ys, PyData.strOk y = true) : SeqAt.shaped (.list (ys.map PyData.str)) = true := by
  have h1 : PyData.canLayAll0 (ys.map PyData.str) = true := by
    induction ys with
    | nil => simp [PyData.canLayAll0]
    | cons y ys ih => simp [PyData.canLayAll0, PyData.canLay0, ih fun z m => hok z (List.mem_cons_of_mem _ m), hok y List.mem_cons_self]
  have h2 : PyData.depthAll (ys.map PyData.str) = 0 := by
    clear h1 hok
    induction ys with
    | nil => simp [PyData.depthAll]
    | cons y ys ih => simp [PyData.depthAll, PyData.depth, ih]
  unfold SeqAt.shaped
  rw [show PyData.canLay0 (.list (ys.map PyData.str)) = PyData.canLayAll0 (ys.map PyData.str) by simp [PyData.canLay0], h1, show PyData.depth (.list (ys.map PyData.str)) = PyData.depthAll (ys.map PyData.str) + 1 by simp [PyData.depth], h2]
  rfl
theorem eqv_strs : ∀ ys zs : List Str, PyData.eqvAll (ys.map PyData.str) (zs.map PyData.str) = decide (ys = zs)
  | [], [] => by simp [PyData.eqvAll]
  | [], _ :: _ => by simp [PyData.eqvAll]
  | _ :: _, [] => by simp [PyData.eqvAll]
  | y :: ys, z :: zs => by
    have ih := eqv_strs ys zs
    show (PyData.eqv (.str y) (.str z) && PyData.eqvAll (ys.map PyData.str) (zs.map PyData.str)) = _
    rw [ih, show PyData.eqv (.str y) (.str z) = decide (y = z) by simp [PyData.eqv]; rfl]
    by_cases c1 : y = z <;> by_cases c2 : ys = zs <;> simp [c1, c2]
end Dv
set_option maxRecDepth 100000
set_option maxHeartbeats 4000000
/-! Dv52: defs and methods that raise an own exception class (without own __init__). -/
namespace Dv
open PySem PySem.Spec PyProof.Rows L2
/-- what the top has left of the exception's class -/
structure XcT (K : PySem.W.Frag) (mg : Str → Option Value) (nm : Str) (cx : Addr) : Prop where
  g : mg nm = some (.ref cx)
  exc : PySem.W.excIn K cx [.type "ValueError", .type "Exception", .type "BaseException", .type "object"] "ValueError.__new__" = true
  kp : PySem.W.keepIn K (.ref cx) = true
  sub : PySem.W.subIn K (.ref cx) (.type "BaseException") = some true
  ty : PySem.W.typeIn K (.ref cx) = some (.type "type")
/-- data in, cx raised -/
def spX1 (pre : List PyData → Prop) (cx : Addr) : Sp := fun xs H _ E => ∃ (Z : Addr → Prop) (J : Nat → Hp → Prop) (n : Nat) (ds : List PyData), Wok Z J ∧ n ≤ BIG ∧ J n H ∧ Das Z H xs ds ∧ pre ds ∧ ∀ H', Kp Z H H' → J n H' → E (.ref cx) none H'
/-- an object of which F holds, then data: cx raised -/
def spOX (F : Fam) (pre : List PyData → Prop) (cx : Addr) : Sp := fun xs H _ E => ∃ (Z : Addr → Prop) (J : Nat → Hp → Prop) (n : Nat) (v : V) (ws : List V) (ds : List PyData), Wok Z J ∧ n ≤ BIG ∧ J n H ∧ xs = v :: ws ∧ F.ok Z H v ∧ Das Z H ws ds ∧ pre ds ∧ ∀ H', Kp Z H H' → J n H' → E (.ref cx) none H'
/-- what an expression that raises asks for -/
def tX (W : Wd) (Δ : List Sl) (Wx : WX) (cx : Addr) : TE := fun σ H _ => ∃ n, n ≤ BIG ∧ Ok W n Δ σ H ∧ ∀ H', Kp W.Z H H' → W.J n H' → ∀ σ', Wx (.ref cx) none σ' H'
section
variable {X : Cx} {W : Wd} {Δ : List Sl} {m N : Nat} {e a : Expr} {es : List Expr} {L : List (As W.Z)} {pos : Pos} {k : Nat} {f : Addr} {fd : FuncData} {ps : List Str} {x : Str} {p : Pos} {pre : List PyData → Prop} {D : Ends} {sts : List Stmt} {Wx : WX} {cx : Addr} {pr : L2.St → Hp → Prop} {nm : Str}
theorem hs_raiseC {s : Str} {j : Nat} {p1 p2 p3 : Pos} (hc : X.calm = true) (tk : L2N.Takes X Wx) (Y : XcT X.K X.mg nm cx) (hg : Gl X nm) (h : ∀ σ H, pr σ H → Wx (.ref cx) none σ H) (hdb : (nm == ("__debug__" : Str)) = false := by decide) :
    HS X pr (.Raise (some (.Call (.Name nm p1) [.Constant (.str s) j p2] [] p3)) none pos :: sts) D :=
  hs_cons (mid := fun _ _ => False) (ps_to (L2N.ps_raise hc tk (L2N.pmk_own PySem.F.excBase_ValueError Y.exc Y.g Y.kp (raises_own Y.sub Y.ty) hg (hdb := hdb))) fun D' σ H z => h σ H z.1) ⟨fun _ _ _ _ _ _ z => z.1.elim⟩
/-- f(..), which raises -/
theorem pe_fX (F : FnOk X.prog X.w X.K X.mg X.base (L2N.CX X.prog X.w) k f fd ps (spX1 pre cx)) (tk : L2N.Takes X Wx) (rm : Room k X.A) (hg : Gl X x) (hm : X.mg x = some (.ref f)) (hk : PySem.W.keepIn X.K (.ref f) = true) (hb : Binds X.K fd ps [])
    (ha : DA X W Δ 0 (e :: es) L) (hA : ∀ H vs, Allo H L vs → ∃ ds, Das W.Z H vs ds ∧ pre ds)
    (h1 : (x == ("__debug__" : Str)) = false := by decide) (h2 : starEach (e :: es) X.env = (false, eval e X.env) :: starEach es X.env := by rfl) (h3 : (backTo pos (starEach es X.env)).any (·.1) = false := by rfl) :
    PE X (.Call (.Name x p) (e :: es) [] pos) (tX W Δ Wx cx) :=
  pe_to (pe_call (E := fun cls d H' => ∀ σ', Wx cls d σ' H') F rm hg hm hk hb .nil (L2N.passes_call tk fun cls d σ H z => z σ) ha h1 h2 h3) fun σ H Q ⟨n, l, k, z⟩ => ⟨n, l, k, fun vs H1 k1 q1 o1 => by
    obtain ⟨ds, hd, hp⟩ := hA H1 vs o1
    exact ⟨W.Z, W.J, n, ds, k1.w, l, k1.j, by simpa using hd, hp, fun H' kp j => z H' (q1.trans kp) j⟩⟩
/-- e, which raises, as a statement -/
theorem hs_exprX (he : PE X e (tX W Δ Wx cx)) (hb : N ≤ BIG) (h : ∀ σ H, Ok W N Δ σ H → ∀ H', Kp W.Z H H' → W.J N H' → ∀ σ', Wx (.ref cx) none σ' H') (hs : swapsWith e none pos.line X.env = pure false := by rfl) : HS X (Ok W N Δ) (.Expr e pos :: sts) D :=
  hs_cons (mid := fun _ _ => False) (ps_to (ps_expr he hs) fun D' σ H z => ⟨N, hb, z.1, h σ H z.1⟩) ⟨fun _ _ _ _ _ _ z => z.1.elim⟩
end
section
variable {P : Program} {w : World} {K : PySem.W.Frag} {mg : Str → Option Value} {base : Heap} {k : Nat} {f : Addr} {fd : FuncData} {x qual : Str} {st : Stmt} {N ps : List Str} {pre : List PyData → Prop} {cx : Addr} {F : Fam}
theorem _root_.Dv.okN {x qual : Str} {st : Stmt} {f : Addr} {fd : FuncData} {N ps : List Str} {k : Nat} {sp : Sp} (F : Fun K x qual st f fd) (S : FnScope N ps (defScope st)) (len : ∀ vs H Q E, sp vs H Q E → vs.length = ps.length)
    (hbody : ∀ (cdv : Value) (A : Around) (outer : List Env) (s : Shared) (H : Hp) (vs : List V) (Q : VK) (E : XK), Room k (A.deeper (envOfC qual (defScope st) s.heap.objs.size f cdv)) → sp vs H Q E →
      ∃ t, PSs (cxOf (L2N.CX P w) P w K mg base N qual (defScope st) f cdv A outer s H E) (defBody st) t ∧ t { nx := fun _ H' => Q .non H', rt := Q } (L2.start N vs) H) : FnOk P w K mg base (L2N.CX P w) (k + 1) f fd ps sp := by
  obtain ⟨oc, od, kV, doc, pm, an, cdv, ct, osl, rfl, lk, hcd⟩ := F.ex
  exact fn_of lk hcd S len fun A outer s H vs Q E hr hsp => hbody cdv A outer s H vs Q E hr hsp
theorem okX1 (Fn : Fun K x qual st f fd) (S : FnScope N ps (defScope st)) (hl : ∀ ds, pre ds → ds.length = ps.length)
    (body : ∀ (cd : Value) (B : Around) (fr : List Env) (t : Shared) (h : Hp) (e : XK), Room k (B.deeper (envOfC qual (defScope st) t.heap.objs.size f cd)) → L2N.Takes (cxOf (L2N.CX P w) P w K mg base N qual (defScope st) f cd B fr t h e) (fun cls d _ H => e cls d H) → ∀ (Z : Addr → Prop) (J : Nat → Hp → Prop) (n : Nat) (ds : List PyData), n ≤ BIG → pre ds → (∀ H', Kp Z h H' → J n H' → e (.ref cx) none H') →
      HS (cxOf (L2N.CX P w) P w K mg base N qual (defScope st) f cd B fr t h e) (Ok (Wd.at Z J h) n (slots N (ds.map Sl.val))) (defBody st) { nx := fun _ _ => False, rt := fun _ _ => False }) :
    FnOk P w K mg base (L2N.CX P w) (k + 1) f fd ps (spX1 pre cx) := by
  refine okN Fn S (fun xs h q e z => ?_) (fun cd B fr t h xs q e rm z => ?_)
  · obtain ⟨Z, J, n, ds, _, _, _, hd, hp, _⟩ := z
    exact hd.length.trans (hl ds hp)
  · obtain ⟨Z, J, n, ds, wk, ln, j, hd, hp, fin⟩ := z
    exact ⟨_, body cd B fr t h e rm (L2N.takes_of (X := cxOf (L2N.CX P w) P w K mg base N qual (defScope st) f cd B fr t h e) (E := e) rfl rfl rfl rfl) Z J n ds ln hp fin, at_ok wk j (das_sl hd), fun _ _ z => z.elim, fun _ _ z => z.elim, fun _ _ z => z, fun _ _ z => z⟩
theorem okOX (Fn : Fun K x qual st f fd) (S : FnScope N ps (defScope st)) (hl : ∀ ds, pre ds → ds.length + 1 = ps.length)
    (body : ∀ (cd : Value) (B : Around) (fr : List Env) (t : Shared) (h : Hp) (e : XK), Room k (B.deeper (envOfC qual (defScope st) t.heap.objs.size f cd)) → L2N.Takes (cxOf (L2N.CX P w) P w K mg base N qual (defScope st) f cd B fr t h e) (fun cls d _ H => e cls d H) → ∀ (Z : Addr → Prop) (J : Nat → Hp → Prop) (n : Nat) (ds : List PyData), n ≤ BIG → pre ds → (∀ H', Kp Z h H' → J n H' → e (.ref cx) none H') →
      HS (cxOf (L2N.CX P w) P w K mg base N qual (defScope st) f cd B fr t h e) (Ok (Wd.at Z J h) n (slots N (.sat F :: ds.map Sl.val))) (defBody st) { nx := fun _ _ => False, rt := fun _ _ => False }) :
    FnOk P w K mg base (L2N.CX P w) (k + 1) f fd ps (spOX F pre cx) := by
  refine okN Fn S (fun xs h q e z => ?_) (fun cd B fr t h xs q e rm z => ?_)
  · obtain ⟨Z, J, n, v, ws, ds, _, _, _, rfl, _, hd, hp, _⟩ := z
    rw [List.length_cons, hd.length]
    exact hl ds hp
  · obtain ⟨Z, J, n, v, ws, ds, wk, ln, j, rfl, hf, hd, hp, fin⟩ := z
    exact ⟨_, body cd B fr t h e rm (L2N.takes_of (X := cxOf (L2N.CX P w) P w K mg base N qual (defScope st) f cd B fr t h e) (E := e) rfl rfl rfl rfl) Z J n ds ln hp fin, at_ok wk j (.cons ⟨v, rfl, hf⟩ (das_sl hd)), fun _ _ z => z.elim, fun _ _ z => z.elim, fun _ _ z => z, fun _ _ z => z⟩
end
/-- is it a whole number -/
def isI : PyData → Bool
  | .int _ => true
  | _ => false
def isBl : PyData → Bool
  | .bool _ => true
  | _ => false
theorem kit_int (d : PyData) : kitB (tyD d) "int" = some (isI d || isBl d) := by
  cases d with
  | none => exact (show kitB "NoneType" "int" = some false by decide +kernel)
  | bool b => exact (show kitB "bool" "int" = some true by decide +kernel)
  | int b => exact (show kitB "int" "int" = some true by decide +kernel)
  | str b => exact (show kitB "str" "int" = some false by decide +kernel)
  | list b => exact (show kitB "list" "int" = some false by decide +kernel)
  | tuple b => exact (show kitB "tuple" "int" = some false by decide +kernel)
  | dict b => exact (show kitB "dict" "int" = some false by decide +kernel)
theorem kit_bool (d : PyData) : kitB (tyD d) "bool" = some (isBl d) := by
  cases d with
  | none => exact (show kitB "NoneType" "bool" = some false by decide +kernel)
  | bool b => exact (show kitB "bool" "bool" = some true by decide +kernel)
  | int b => exact (show kitB "int" "bool" = some false by decide +kernel)
  | str b => exact (show kitB "str" "bool" = some false by decide +kernel)
  | list b => exact (show kitB "list" "bool" = some false by decide +kernel)
  | tuple b => exact (show kitB "tuple" "bool" = some false by decide +kernel)
  | dict b => exact (show kitB "dict" "bool" = some false by decide +kernel)
end Dv
set_option maxRecDepth 100000
set_option maxHeartbeats 4000000
/-! Dv53: an error that a def is passed: isinstance of it. -/
namespace Dv
open PySem PySem.Spec PyProof.Rows L2
/-- the error at a, as it is: of class D, without a dict -/
def ErrIs (a D : Addr) (oe : PySem.Obj) : Prop := oe.cls = .ref D ∧ oe.dict = none ∧ ∃ vs, oe.data = .fields vs
def ErrO (a : Addr) (oe : PySem.Obj) : HO := .ext fun h => h.get? a = some oe
theorem errO_new {P : Program} {w : World} {H : Hp} {h : Heap} {a : Addr} {oe : PySem.Obj} (e : h.get? a = some oe) : ObjOk P w H h a (ErrO a oe) := ⟨e, ⟨oe, e⟩, fun _ _ p k => k oe p⟩
/-- the error, read and never written -/
def ErrZ (a : Addr) (oe : PySem.Obj) : HO := .frz oe (ErrO a oe)
/-- isinstance(e, c) of an error that is known -/
def rIsErr (K : PySem.W.Frag) (base : Heap) : List V → Hp → VK → Prop := fun xs H Q => ∃ (a D : Addr) (oe : PySem.Obj) (c : V) (cv : Value) (b : Bool), xs = [.ref a, c] ∧ (H a = some (ErrZ a oe) ∨ base.get? a = some oe) ∧ ErrIs a D oe ∧ ExcC K D ∧ (∀ u, RelV c u → u = cv) ∧ PySem.W.kitOne K (.ref D) cv = some b ∧ Q (.bl b) H
theorem call_isErr {X : Cx} : CallR X (.builtin "isinstance") (rIsErr X.K X.base) := fun pins s σ H xs us Q I r h => by
  obtain ⟨a, D, oe, c, cv, b, rfl, ha, he, C, hcv, ek, q⟩ := h
  obtain ⟨e1, e2, vs, e3⟩ := he
  cases r with
  | cons r1 r2 =>
    cases r2 with
    | cons r3 r4 =>
      cases r4
      cases r1
      cases hcv _ r3
      have g : s.heap.get? a = some oe := ha.elim (fun ha => (I.hok a _ ha).1) fun ha => I.bk a oe ha
      have at_ : PySem.W.InstAt s.heap a oe D none := by
        cases oe
        cases e1
        cases e2
        cases e3
        exact ⟨g, rfl, rfl, trivial⟩
      exact PySem.W.kia_one (PySem.W.handS_kitx_exc C.hg C.hk C.hs C.hd C.ha C.hn C.ht C.hm) I.kIn at_ ek (fun z => nomatch z) fun tk => ⟨.bl b, H, I.kept (t' := tk) fun _ _ z => z, rfl, q⟩
/-- as a slot: the error at a -/
def ErrF (base : Heap) (a D : Addr) (oe : PySem.Obj) : Fam := ⟨fun Z H v => v = .ref a ∧ ((¬ Z a ∧ H a = some (ErrZ a oe)) ∨ base.get? a = some oe) ∧ ErrIs a D oe,
  fun {Z Z' H H' v} k z ⟨e, h, h3⟩ => ⟨e, h.imp (fun ⟨h1, h2⟩ => ⟨fun c => (z a c).elim h1 fun q => (nomatch h2.symm.trans q), k a _ h1 h2⟩) id, h3⟩⟩
section
variable {X : Cx} {W : Wd} {Δ : List Sl} {m : Nat} {e T' : Expr} {p pos : Pos} {a D C : Addr} {oe : PySem.Obj} {b : Bool}
theorem c_isErr {c : V} {cv : Value} (hD : ExcC X.K D) (hc : ∀ u, RelV c u → u = cv) (hk : PySem.W.kitOne X.K (.ref D) cv = some b) : Cal W (rIsErr X.K X.base) [(ErrF X.base a D oe).as W.Z, raw W.Z c] (eqd W.Z (.bool b)) := fun n H vs w jj o Q q => by
  obtain ⟨v, u, rfl, o1, o2⟩ := allo_2 o
  obtain ⟨e1, h2, h3⟩ := o1
  subst e1
  cases (show u = c from o2)
  exact ⟨a, D, oe, c, cv, b, rfl, h2.imp (·.2) id, h3, hD, hc, hk, q _ H Ext.refl (ok_eqd (.bl b))⟩
end
end Dv
set_option maxRecDepth 100000
set_option maxHeartbeats 4000000
/-! Dv54: a def called with the error that an except suite holds. -/
namespace Dv
open PySem PySem.Spec PyProof.Rows L2
def forgetA (H : Hp) (a : Addr) : Hp := fun b => if b = a then none else H b
theorem forget_ne {H : Hp} {a b : Addr} (h : b ≠ a) : forgetA H a b = H b := if_neg h
section
variable {P : Program} {w : World} {K : PySem.W.Frag} {mg : Str → Option Value} {base : Heap} {A : Around} {outer : List Env} {s s' : Shared} {H H' : Hp} {a : Addr} {oe : PySem.Obj}
theorem env0_err (e0 : Env0 P w K mg base A outer s H) (ha : H a = none) (g : s.heap.get? a = some oe) (hb : base.get? a = none) (hf : a ∉ L2.frs outer) : Env0 P w K mg base A outer s (upd H a (ErrZ a oe)) :=
  ⟨e0.frames, e0.mod, fun b o e => by
    have ne : b ≠ a := fun c => by rw [c, hb] at e; cases e
    rw [upd_ne ne]
    exact e0.bs b o e, e0.bsz, e0.funs, fun b m => by
    have ne : b ≠ a := fun c => hf (c ▸ m)
    rw [upd_ne ne]
    exact e0.frf b m, e0.hok.laidN (fun _ _ z => z) ha ⟨g, errO_new g⟩, e0.bare⟩
theorem un_err {fs : List Addr} (u : Un fs [] (upd H a (ErrZ a oe)) H' s.heap s'.heap) (hok : HOk P w H' s'.heap) (ha : H a = none) (g : s.heap.get? a = some oe) (hf : a ∉ fs) : Un fs [] H (forgetA H' a) s.heap s'.heap := by
  have up : ∀ b, b ≠ a → upd H a (ErrZ a oe) b = H b := fun b ne => upd_ne ne
  have fz : H' a = some (ErrZ a oe) := u.frzs a oe _ upd_same
  have g' : s'.heap.get? a = some oe := (hok a _ fz).1
  refine ⟨fun b o e n f x => ?_, fun b o e n f x => ?_, fun b o e n x => ?_, fun b o e x => u.there b o e x, fun b xs e => ?_, fun b o v e => ?_, fun b ps e => ?_⟩
  · by_cases c : b = a
    · subst c
      rw [g] at e
      cases e
      exact g'
    · exact u.keep b o e ((up b c).trans n) f x
  · have c : b ≠ a := fun c => hf (c ▸ f)
    exact u.slot b o e ((up b c).trans n) f x
  · by_cases c : b = a
    · exact if_pos c
    · rw [forget_ne c]
      exact u.free b o e ((up b c).trans n) x
  · have c : b ≠ a := fun c => by rw [c, ha] at e; cases e
    rw [forget_ne c]
    exact u.tups b xs ((up b c).trans e)
  · have c : b ≠ a := fun c => by rw [c, ha] at e; cases e
    rw [forget_ne c]
    exact u.frzs b o v ((up b c).trans e)
  · have c : b ≠ a := fun c => by rw [c, ha] at e; cases e
    rw [forget_ne c]
    exact u.tbls b ps ((up b c).trans e)
theorem objOk_forget {h : Heap} {b : Addr} (hz : H' a = some (ErrZ a oe)) : ∀ {o : HO}, ObjOk P w H' h b o → ObjOk P w (forgetA H' a) h b o
  | .lst _, x => x
  | .tup _, x => x
  | .dK _, x => x
  | .dT _, x => by
    obtain ⟨h1, h2, xs, h3, h4⟩ := x
    refine ⟨h1, h2, xs, ?_, h4⟩
    exact pmono (fun p q ⟨e1, e2, e3⟩ => ⟨e1, by rw [forget_ne fun c => by rw [c, hz] at e2; cases e2]; exact e2, e3⟩) h3
  | .set _ _, x => x
  | .ins _ _ _, x => by
    obtain ⟨h1, h2⟩ := x
    exact ⟨by rw [forget_ne fun c => by rw [c, hz] at h1; cases h1]; exact h1, h2⟩
  | .own _, x => x
  | .xd _, x => x
  | .met _ _, x => x
  | .rng _ _, x => x
  | .frz _ u, x => ⟨x.1, objOk_forget hz x.2⟩
  | .tbl _, x => x
  | .ext _, x => x
theorem hok_forget (hok : HOk P w H' s'.heap) (hz : H' a = some (ErrZ a oe)) : HOk P w (forgetA H' a) s'.heap := fun b o e => by
  have c : b ≠ a := fun c => by
    rw [c] at e
    unfold forgetA at e
    rw [if_pos rfl] at e
    cases e
  rw [forget_ne c] at e
  exact objOk_forget hz (hok b o e)
theorem ce_err {Q : VK} {u : Value} (ha : H a = none) (g : s.heap.get? a = some oe) (hf : a ∉ L2.frs outer) (h : CE outer P w (upd H a (ErrZ a oe)) s (fun v H' => Q v (forgetA H' a)) u s') : CE outer P w H s Q u s' := by
  obtain ⟨v, H', os, bare, un, hok, r, q⟩ := h
  have fz : H' a = some (ErrZ a oe) := un.frzs a oe _ upd_same
  exact ⟨v, _, os, bare, un_err (P := P) (w := w) un hok ha g hf, hok_forget hok fz, r, q⟩
end
end Dv
set_option maxRecDepth 100000
set_option maxHeartbeats 4000000
/-! Dv55: the call of a def with the error that an except suite holds. -/
namespace Dv
open PySem PySem.Spec PyProof.Rows L2
section
variable {X : Cx} {pins : List (Addr × PySem.Obj)} {σ : L2.St} {H : Hp} {s : Shared} {a : Addr} {oe : PySem.Obj} {k : Nat} {f : Addr} {fd : FuncData} {ps : List Str} {sp : Sp} {us : List Value} {vs : List V} {Q : VK} {E : XK} {x : Str} {p pos : Pos} {e : Expr} {es : List Expr} {t : TA}
/-- where the error is known: tracked, or part of the ground -/
def ErrAt (X : Cx) (H H1 : Hp) (a : Addr) (oe : PySem.Obj) : Prop := H1 = upd H a (ErrZ a oe) ∨ (H1 = H ∧ X.base.get? a = some oe)
theorem run_fnErr (F : FnOk X.prog X.w X.K X.mg X.base CX0 k f fd ps sp) (hr : Room k X.A) (hb : Binds X.K fd ps []) (I : Inv X pins σ H s) (hp : (a, oe) ∈ X.pn ++ pins) (r : Vals vs us)
    (h : ∀ H1, ErrAt X H H1 a oe → sp vs H1 (fun v H' => Q v (forgetA H' a)) E) : wpAny (model X.prog X.w) X.A (call (.ref f) us) (EP X pins σ Q) X.xe s := by
  obtain ⟨g, ha, nL, nF, _⟩ := I.pin (a, oe) hp
  have hf : a ∉ L2.frs X.stack := fun m => by
    rcases List.mem_cons.mp (I.stkSub a m) with c | c
    · exact nL c
    · exact nF c
  have r2 : Vals (vs ++ []) (us ++ []) := r.append .nil
  rw [List.append_nil, List.append_nil] at r2
  have hl : us.length = ps.length := by
    rw [← r2.length]
    exact F.len _ _ _ _ (h _ (.inl rfl))
  have hbn := hb s us I.kIn (by rw [List.append_nil]; exact hl)
  rw [List.append_nil] at hbn
  match hb0 : X.base.get? a with
  | none =>
    refine wpAny_call (codeAny_mono (F.run X.A X.stack s _ ⟨us, []⟩ us vs _ E hr (env0_err I.env0 ha g hb0 hf) hbn r2 (h _ (.inl rfl))) fun q s' hq => ?_)
    cases q with
    | error e => exact (hq : False).elim
    | ok fl =>
      cases fl with
      | ret u => exact I.after (ce_err ha g hf hq)
      | next => exact False.elim hq
      | brk => exact False.elim hq
      | cont => exact False.elim hq
  | some o =>
    have eo : o = oe := Option.some.inj ((I.bk a o hb0).symm.trans g)
    subst eo
    refine wpAny_call (codeAny_mono (F.run X.A X.stack s H ⟨us, []⟩ us vs _ E hr I.env0 hbn r2 (h H (.inr ⟨rfl, hb0⟩))) fun q s' hq => ?_)
    cases q with
    | error e => exact (hq : False).elim
    | ok fl =>
      cases fl with
      | ret u =>
        obtain ⟨v, H', os, bare, un, hok, rv, qv⟩ := hq
        have n' : H' a = none := un.free a o g ha (fun m => nomatch m)
        have eH : forgetA H' a = H' := funext fun b => by
          by_cases c : b = a
          · rw [c, n']
            exact if_pos rfl
          · exact forget_ne c
        refine I.after ⟨v, H', os, bare, un, hok, rv, ?_⟩
        rw [← eH]
        exact qv
      | next => exact False.elim hq
      | brk => exact False.elim hq
      | cont => exact False.elim hq
/-- f(.., e, ..) in the suite that holds the error at a -/
def tCallErr (X : Cx) (a : Addr) (oe : PySem.Obj) (sp : Sp) (E : XK) (t : TA) : TE := fun σ H Q => t σ H fun vs H1 => ∀ H2, ErrAt X H1 H2 a oe → sp vs H2 (fun v H' => Q v (forgetA H' a)) E
theorem pe_callErr (F : FnOk X.prog X.w X.K X.mg X.base CX0 k f fd ps sp) (hr : Room k X.A) (hg : Gl X x) (hm : X.mg x = some (.ref f)) (hk : PySem.W.keepIn X.K (.ref f) = true) (hb : Binds X.K fd ps []) (hp : (a, oe) ∈ X.pn)
    (ha : PA X (e :: es) t) (hdb : (x == ("__debug__" : Str)) = false := by decide) (he : starEach (e :: es) X.env = (false, eval e X.env) :: starEach es X.env := by rfl) (hpl : (backTo pos (starEach es X.env)).any (·.1) = false := by rfl) :
    PE X (.Call (.Name x p) (e :: es) [] pos) (tCallErr X a oe sp E t) := by
  refine ⟨fun pins s σ H Q I h => ?_⟩
  refine wpAny_Call_Name_kw (ld_glob I hg hm ?_ hdb)
  exact PySem.W.callWith_K (h₀ := X.base) I.ok.mod.kin hk (thn (ha.run pos pins s σ H _ I h) fun us s1 ⟨vs, H1, I1, r, q⟩ => ⟨I1.kIn, run_fnErr F hr hb I1 (List.mem_append_left _ hp) r q⟩) he hpl
end
end Dv
set_option maxRecDepth 100000
set_option maxHeartbeats 4000000
/-! Dv56: isinstance of a known error, of several own classes at once. -/
namespace Dv
open PySem PySem.Spec PyProof.Rows L2
theorem vals_refs : ∀ {cs : List Addr} {its : List Value}, Vals (cs.map V.ref) its → its = cs.map Value.ref
  | [], _, h => by
    cases h
    rfl
  | c :: cs, _, h => by
    cases h with
    | cons h1 h2 =>
      cases h1
      rw [vals_refs h2]
      rfl
def rIsErrT (K : PySem.W.Frag) (base : Heap) : List V → Hp → VK → Prop := fun xs H Q => ∃ (a D tp : Addr) (oe : PySem.Obj) (cs : List Addr) (b : Bool), xs = [.ref a, .ref tp] ∧ (H a = some (ErrZ a oe) ∨ base.get? a = some oe) ∧ ErrIs a D oe ∧ ExcC K D ∧ H tp = some (.tup (cs.map V.ref)) ∧ PySem.W.kitAny K (.ref D) (cs.map Value.ref) = some b ∧ Q (.bl b) H
theorem call_isErrT {X : Cx} : CallR X (.builtin "isinstance") (rIsErrT X.K X.base) := fun pins s σ H xs us Q I r h => by
  obtain ⟨a, D, tp, oe, cs, b, rfl, ha, he, C, ht, ek, q⟩ := h
  obtain ⟨e1, e2, vs, e3⟩ := he
  cases r with
  | cons r1 r2 =>
    cases r2 with
    | cons r3 r4 =>
      cases r4
      cases r1
      cases r3
      have g : s.heap.get? a = some oe := ha.elim (fun ha => (I.hok a _ ha).1) fun ha => I.bk a oe ha
      have at_ : PySem.W.InstAt s.heap a oe D none := by
        cases oe
        cases e1
        cases e2
        cases e3
        exact ⟨g, rfl, rfl, trivial⟩
      obtain ⟨_, its, hv, ob, gt, ot⟩ := I.hok tp _ ht
      cases vals_refs hv
      obtain ⟨oc, n, od⟩ := ot
      obtain ⟨c1, c2, c3, c4⟩ := ob
      cases oc
      cases od
      exact PySem.W.kia_tup (its := cs.map Value.ref) (PySem.W.handS_kitx_exc C.hg C.hk C.hs C.hd C.ha C.hn C.ht C.hm) I.kIn at_ gt ek (fun z => nomatch z) fun tk => ⟨.bl b, H, I.kept (t' := tk) fun _ _ z => z, rfl, q⟩
def clsT (Z : Addr → Prop) (cs : List Addr) : As Z := ⟨fun H v => ∃ t, v = .ref t ∧ ¬ Z t ∧ H t = some (.tup (cs.map V.ref)), fun k ⟨t, e, h1, h2⟩ => ⟨t, e, h1, k t _ h1 h2⟩⟩
theorem allo_refs {Z : Addr → Prop} {H : Hp} : ∀ {cs : List Addr} {vs : List V}, Allo H (cs.map fun c => raw Z (.ref c)) vs → vs = cs.map V.ref
  | [], _, h => by
    cases h
    rfl
  | c :: cs, _, h => by
    cases h with
    | cons h1 h2 =>
      cases (show _ = V.ref c from h1)
      rw [allo_refs h2]
      rfl
section
variable {X : Cx} {W : Wd} {Δ : List Sl} {e a b : Expr} {es : List Expr} {pos p : Pos} {kt : Nat} {D : Addr} {oe : PySem.Obj} {cs : List Addr}
theorem de_clss (h : DA X W Δ 0 es (cs.map fun c => raw W.Z (.ref c))) (hl : cs.length ≤ 100) : DE X W Δ 0 (.Tuple es kt pos) (clsT W.Z cs) :=
  pe_to (pe_tup h) fun σ H Q ⟨n, l, k, z⟩ => ⟨n, l, k, fun vs H1 k1 q1 o1 => by
    cases allo_refs o1
    refine ⟨by rw [List.length_map]; exact Nat.le_trans hl (by decide), fun t ht => z _ _ (k1.ext (.new ht)) (q1.trans (Ext.new ht).kp) ⟨t, rfl, k1.w.new k1.j ht, upd_same⟩⟩⟩
theorem c_isErrT {b : Bool} {x : Addr} (hD : ExcC X.K D) (hk : PySem.W.kitAny X.K (.ref D) (cs.map Value.ref) = some b) : Cal W (rIsErrT X.K X.base) [(ErrF X.base x D oe).as W.Z, clsT W.Z cs] (eqd W.Z (.bool b)) := fun n H vs w jj o Q q => by
  obtain ⟨v, u, rfl, o1, t, rfl, h1, h2⟩ := allo_2 o
  obtain ⟨e1, g2, g3⟩ := o1
  subst e1
  exact ⟨x, D, t, oe, cs, b, rfl, g2.imp (·.2) id, g3, hD, h2, hk, q _ H Ext.refl (ok_eqd (.bl b))⟩
end
end Dv
set_option maxRecDepth 100000
set_option maxHeartbeats 4000000
/-! Dv57: x = [.. for a, b in .. if ..] as a statement. -/
namespace Dv
open PySem PySem.Spec PyProof.Rows L2
section
variable {X : Cx} {W : Wd} {Δ : List Sl} {m : Nat} {pos : Pos}
theorem lc2_core {K : PySem.W.Frag} {own : List (Str × Nat)} {i j c1 c2 M : Nat} {Ps : List PyData → Prop} {Pt : PyData → Bool → Prop} {Pe : PyData → PyData → Prop} {R : PyData → Prop} (hiv : i ∈ own.map (·.2)) (hjv : j ∈ own.map (·.2)) (hM : ∀ xs, Ps xs → xs.length ≤ M) (hM2 : M ≤ 1000000)
    (hpr : ∀ xs, Ps xs → ∀ d ∈ xs, ∃ a b, d = .tuple [a, b]) (hR : ∀ xs ys, Ps xs → Picks Pt Pe xs ys → R (.list ys)) :
    ∀ σ H Q, tD W Δ (m + M * (c1 + c2)) (dat W.Z R) σ H Q → tLc (tDI W Δ m Ps) (gTup K 2 (gCons (gName i) (gCons (gName j) gNil))) (lcT2 W (wipeS Δ (own.map (·.2))) i j c1 Ps Pt) (lcE2 W (wipeS Δ (own.map (·.2))) i j c2 Ps Pt Pe) (own.map (·.2)) σ H Q := by
  rintro σ H Q ⟨n, l, k, z⟩
  refine ⟨n, by omega, k, fun J H1 xs k1 q1 px sr D hD => ?_⟩
  obtain ⟨G, Y, wk, hG, hY⟩ := sr.ex
  have nD : ¬ W.Z D := k1.w.new k1.j hD
  have hlen := hM xs px
  have lz := sizeLine_eq
  let Pv : Nat → Hp → Prop := fun i' H' => W.J (n + m + i' * (c1 + c2)) H' ∧ Kp W.Z H1 H' ∧ ∃ acc ys, H' D = some (.lst acc) ∧ Das (W.add D fun _ _ => True).Z H' acc ys ∧ Picks Pt Pe (xs.take i') ys
  have inner : ∀ i' H', Pv i' H' → ∀ acc, H' D = some (.lst acc) → Ok (W.add D fun _ o => o = .lst acc) (n + m + i' * (c1 + c2)) Δ σ H' := fun i' H' ⟨j', e', _⟩ acc ha => k1.pin hD e' j' (by omega) ha ⟨0, Nat.zero_le _, rfl⟩
  refine lc_it (g := gTup K 2 (gCons (gName i) (gCons (gName j) gNil))) (tt := lcT2 W (wipeS Δ (own.map (·.2))) i j c1 Ps Pt) (te := lcE2 W (wipeS Δ (own.map (·.2))) i j c2 Ps Pt Pe) (vs := own.map (·.2)) (σ := σ) (H1 := H1) (D := D) (Qd := fun H => Q (.ref D) H) wk Pv ?_ ?_ ?_ ?_
  · refine ⟨by simpa using k1.w.ext k1.j (.new hD), (Ext.new hD).kp, [], [], upd_same, .nil, ?_⟩
    rw [List.take_zero]
    exact .nil
  · intro i' H' _ ⟨_, e', _⟩
    exact hG (W.add D fun _ _ => True).Z H' (fun a y => sub_z hD a y) (e'.wide fun a y => z_add a y)
  · intro i' x0 H2 H3 hi' p y0
    obtain ⟨j2, e2, acc, ys, ha, hd, hp⟩ := p
    have ko := inner i' H2 ⟨j2, e2, acc, ys, ha, hd, hp⟩ acc ha
    obtain ⟨e3, d, hxd, hda⟩ := hY (W.add D fun _ o => o = .lst acc).Z i' H2 x0 H3 (fun a y => sub_z hD a y) (e2.wide fun a y => z_add a y) (fun a y => ko.w.alive _ H2 a ko.j y) hi' y0
    have dm : d ∈ xs := List.mem_of_getElem? hxd
    obtain ⟨da, db, rfl⟩ := hpr xs px d dm
    have k3 := ko.ext e3
    have hbig : (i' + 1) * (c1 + c2) ≤ M * (c1 + c2) := Nat.mul_le_mul_right _ (by omega)
    have hs1 : (i' + 1) * (c1 + c2) = i' * (c1 + c2) + (c1 + c2) := Nat.succ_mul _ _
    cases hda with
    | tup rT nT dT =>
      cases dT with
      | cons d1 d2 =>
        cases d2 with
        | cons d2 d3 =>
          cases d3
          refine ⟨_, _, rfl, .inl (.inl rT), rfl, _, _, rfl, _, _, rfl, rfl, ?_, D, (fun _ o => o = .lst acc), xs, da, db, nD, px, dm, n + m + i' * (c1 + c2), by omega, ?_, ?_⟩
          · rw [wipe_set _ _ hjv, wipe_set _ _ hiv]
            exact wipe_wipe _ _ fun v hv => hv
          · exact ⟨k3.wb, k3.j, pset (show SlOk _ _ (.val db) (some _) from ⟨_, rfl, d2⟩) j (pset (show SlOk _ _ (.val da) (some _) from ⟨_, rfl, d1⟩) i (wipe_ok _ k3.sl)), k3.kept, k3.nd, k3.fr⟩
          · intro b H4 k4 q4 pb
            have back : ∀ {H' : Hp}, Kp (W.add D fun _ o => o = .lst acc).Z H3 H' → Kp W.Z H1 H' := fun q a o na h1 => by
              have ne : a ≠ D := fun c => by
                rw [c, hD] at h1
                cases h1
              exact q a o (fun c => (add_z.mp c).elim ne na) (e3 a o (e2 a o na h1))
            obtain ⟨⟨o4, h4, _, _, eq4⟩, j4⟩ := add_j.mp k4.j
            subst eq4
            have d4 : Das (W.add D fun _ _ => True).Z H4 acc ys := (hd.mono (e3.kp.trans (q4.wide zz)) fun a y => .inl y)
            cases b with
            | false =>
              refine ⟨k4.w.up _ _ H4 k4.j (by omega) |> fun j => (add_j.mp j).2, back q4, acc, ys, h4, d4, ?_⟩
              rw [filter_take_succ hxd]
              exact .skip hp pb
            | true =>
              refine ⟨D, (fun _ o => o = .lst acc), xs, da, db, nD, px, dm, pb, n + m + i' * (c1 + c2) + c1, by omega, k4, fun y1 H5 k5 q5 o5 => ?_⟩
              obtain ⟨z0, hz0, pe0⟩ := o5
              obtain ⟨⟨o5, h5, _, _, eq5⟩, j5⟩ := add_j.mp k5.j
              subst eq5
              have la : acc.length = ys.length := d4.length
              have ly := hp.len
              rw [List.length_take] at ly
              have kD : Kp (W.add D fun _ _ => True).Z H5 (upd H5 D (.lst (acc ++ [y1]))) := fun a o na h => by
                rw [upd_ne (fun c => na (add_z.mpr (.inl c)))]
                exact h
              refine ⟨acc, h5, by omega, ?_, ?_, _, ys ++ [z0], upd_same, ?_, ?_⟩
              · refine k5.w.up _ (n + m + (i' + 1) * (c1 + c2)) H5 k5.j (by omega) |> fun j => ?_
                exact k1.w.loc _ H5 _ (add_j.mp j).2 fun a y => upd_ne (fun c => nD (c ▸ y))
              · intro a o na h1
                have ne : a ≠ D := fun c => by
                  rw [c, hD] at h1
                  cases h1
                rw [upd_ne ne]
                exact back (q4.trans q5) a o na h1
              · exact ((d4.mono (q5.wide zz) fun a y => .inl y).append (.cons (hz0.mono Kp.refl fun a y => .inl (zz a y)) .nil)).mono kD fun a y => .inl y
              · rw [filter_take_succ hxd]
                exact .take hp pb pe0
  · intro H' ⟨j', e', acc, ys, ha, hd, hp⟩
    rw [List.take_length] at hp
    have hbig : xs.length * (c1 + c2) ≤ M * (c1 + c2) := Nat.mul_le_mul_right _ hlen
    have kf : Ok W (n + (m + M * (c1 + c2))) Δ σ H' := (k1.kp e' j').up (by omega)
    have kr : Ok (W.add D fun _ o => o = .lst acc) _ Δ σ H' := inner _ H' ⟨j', e', acc, ys, ha, hd, by rw [List.take_length]; exact hp⟩ acc ha
    exact z (.ref D) H' kf (q1.trans e') ⟨.list ys, .lst ha nD (hd.mono Kp.refl fun a y => .inl (z_add a y)), hR xs ys px hp⟩
theorem hs_setLc2F {D : Ends} {sts : List Stmt} {N : Nat} {spos py' : Pos} {y' : Str} {iy : Nat} {x y : Str} {px py pt : Pos} {kt : Nat} {elt iter test : Expr} {scope : Scope} {own : List (Str × Nat)} {i j : Nat} {xs : List PyData} {f : PyData → Bool} {g : PyData → PyData}
    (hyi : X.N[iy]? = some y') (hyl : X.env.scope.names.lookup y' = some .local) (hsw : swapsWith (.ListComp elt [⟨.Tuple [.Name x px, .Name y py] kt pt, iter, [test], 0⟩] scope pos) (some (.Name y' py')) spos.line X.env = pure true)
    (hc : X.calm = true) (hN : X.N.Nodup) (hi : DI X W Δ 0 (.Tuple [.Name x px, .Name y py] kt pt) iter (· = xs)) (ok : BlkOk X.N X.env.scope scope own) (hiv : i ∈ own.map (·.2)) (hjv : j ∈ own.map (·.2)) (hM2 : xs.length ≤ 1000000)
    (hpr : ∀ d ∈ xs, ∃ a b, d = .tuple [a, b])
    (hx : ∀ (s : Shared) (H : Hp) (C : Addr) (cl : List (Str × Addr)) (fp : List Addr), PG (X.blk s H scope (compEnvC scope cl C X.env) fp) (.Tuple [.Name x px, .Name y py] kt pt) (gTup X.K 2 (gCons (gName i) (gCons (gName j) gNil))))
    (ht : ∀ (s : Shared) (H : Hp) (C : Addr) (cl : List (Str × Addr)) (fp : List Addr) (D : Addr) (φ : Nat → HO → Prop) (a b : PyData), ¬ W.Z D → .tuple [a, b] ∈ xs → DT (X.blk s H scope (compEnvC scope cl C X.env) fp) (W.add D φ) (((wipeS Δ (own.map (·.2))).set i (.val a)).set j (.val b)) 0 test (· = f (.tuple [a, b])))
    (he : ∀ (s : Shared) (H : Hp) (C : Addr) (cl : List (Str × Addr)) (fp : List Addr) (D : Addr) (φ : Nat → HO → Prop) (a b : PyData), ¬ W.Z D → .tuple [a, b] ∈ xs → f (.tuple [a, b]) = true → DE (X.blk s H scope (compEnvC scope cl C X.env) fp) (W.add D φ) (((wipeS Δ (own.map (·.2))).set i (.val a)).set j (.val b)) 0 elt (eqd _ (g (.tuple [a, b]))))
    (hb : N ≤ BIG) (hr : HS X (Ok W N (Δ.set iy (.val (.list ((xs.filter f).map g))))) sts D)
    (hs : ∀ x, foldedSetIterable iter X.env x = pure x := by intro _; rfl) :
    HS X (Ok W N Δ) (.Assign [.Name y' py'] (.ListComp elt [⟨.Tuple [.Name x px, .Name y py] kt pt, iter, [test], 0⟩] scope pos) spos :: sts) D := by
  have qt : ∀ (s : Shared) (H : Hp) (C : Addr) (cl : List (Str × Addr)) (fp : List Addr), PTs (X.blk s H scope (compEnvC scope cl C X.env) fp) [test] (lcT2 W (wipeS Δ (own.map (·.2))) i j 0 (· = xs) fun d b => b = f d) :=
    fun s H C cl fp => ⟨fun pins s' σ' H' Q I ⟨D, φ, ys, a, b, n1, n2, n3, z⟩ => (dts_one (ht s H C cl fp D φ a b n1 (n2 ▸ n3))).run pins s' σ' H' Q I z⟩
  have qe : ∀ (s : Shared) (H : Hp) (C : Addr) (cl : List (Str × Addr)) (fp : List Addr), PE (X.blk s H scope (compEnvC scope cl C X.env) fp) elt (lcE2 W (wipeS Δ (own.map (·.2))) i j 0 (· = xs) (fun d b => b = f d) fun d z => f d = true → z = g d) :=
    fun s H C cl fp => ⟨fun pins s' σ' H' Q I ⟨D, φ, ys, a, b, n1, n2, n3, n4, z⟩ => ((he s H C cl fp D φ a b n1 (n2 ▸ n3) n4.symm).imp (A := eqd _ (g (.tuple [a, b]))) fun H v o => (⟨_, eqd_ok o, fun _ => rfl⟩ : ∃ d, Da _ H v d ∧ (f (.tuple [a, b]) = true → d = g (.tuple [a, b])))).run pins s' σ' H' Q I z⟩
  refine hs_cons (mid := fun σ H => Ok W N (Δ.set iy (.val (.list ((xs.filter f).map g)))) σ H) (ps_to (ps_setLc hc hN hyi hyl hsw hi ok hx qt qe hs) fun D' σ H z => lc2_core (m := 0) (c1 := 0) (c2 := 0) (M := xs.length) (Ps := (· = xs)) (Pt := fun d b => b = f d) (Pe := fun d z => f d = true → z = g d) (R := (· = .list ((xs.filter f).map g))) hiv hjv (fun ys e => by rw [show ys = xs from e]; exact Nat.le_refl _) hM2 (fun ys e d md => hpr d (by rw [← show ys = xs from e]; exact md)) (fun ys zs e h => by subst e; rw [h.fn]) _ _ _ ⟨N, by simpa using hb, z.1, fun v H1 k1 q1 o1 => ?_⟩) hr
  have k2 : Ok W N Δ σ H1 := by simpa using k1
  exact z.2.1 _ _ (k2.put iy (s := .val (.list ((xs.filter f).map g))) ⟨v, rfl, eqd_ok o1⟩)
end
end Dv
set_option maxRecDepth 100000
set_option maxHeartbeats 4000000
/-! Dv58: o.m(..), which raises. -/
namespace Dv
open PySem PySem.Spec PyProof.Rows L2
section
variable {X : Cx} {W : Wd} {Δ : List Sl} {e o : Expr} {es : List Expr} {L : List (As W.Z)} {pos apos : Pos} {k : Nat} {g C cx : Addr} {fd : FuncData} {ps : List Str} {m : Str} {pre : List PyData → Prop} {F F' : Fam} {Wx : WX}
theorem pe_methX {pl : Sem Bool} (G : FnOk X.prog X.w X.K X.mg X.base (L2N.CX X.prog X.w) k g fd ps (spOX F pre cx)) (tk : L2N.Takes X Wx) (ho : DE X W Δ 0 o (F'.as W.Z)) (hF : ∀ Z H v, F'.ok Z H v → F.ok Z H v) (hs : Shape F' C m) (c : Cls X.K C) (hm : Meth X.K C m g) (rm : Room k X.A) (hb : Binds X.K fd ps [])
    (ha : DA X W Δ 0 (e :: es) L) (hA : ∀ H vs, Allo H L vs → ∃ ds, Das W.Z H vs ds ∧ pre ds)
    (hst : starEach (e :: es) X.env = (false, eval e X.env) :: starEach es X.env := by rfl) (hpl : (backTo pos (starEach es X.env)).any (·.1) = false := by rfl)
    (ht : eval (.Call (.Attribute o m apos) (e :: es) [] pos) X.env = (do
      let ov ← eval o X.env
      standAt apos.atName
      let (f, first) ← holding [ov] (getMethod ov m pl)
      callWith pos f first (backTo pos (starEach (e :: es) X.env)) (backToKw pos (keywordEach [] X.env))) := by rfl) :
    PE X (.Call (.Attribute o m apos) (e :: es) [] pos) (tX W Δ Wx cx) :=
  pe_to (pe_meth (E := fun cls d H' => ∀ σ', Wx cls d σ' H') ho c hm G rm hb .nil (L2N.passes_call tk fun cls d σ H z => z σ) ha hst hpl ht) fun σ H Q ⟨n, l, k, z⟩ => ⟨n, l, k, fun v H1 k1 q1 o1 => by
    obtain ⟨x, dx, fs, rfl, h1, h2⟩ := hs _ _ _ o1
    refine ⟨x, dx, fs, rfl, h1, h2, n, l, k1, fun vs H2 k2 q2 o2 => ?_⟩
    obtain ⟨ds, hd, hp⟩ := hA H2 vs o2
    exact ⟨W.Z, W.J, n, .ref x, vs ++ [], ds, k2.w, l, k2.j, rfl, hF _ _ _ ((F'.as W.Z).mono q2 o1), by simpa using hd, hp, fun H' kp j => z H' ((q1.trans q2).trans kp) j⟩⟩
end
end Dv
set_option maxRecDepth 100000
set_option maxHeartbeats 4000000
/-! Dv59: walks that end while an exception is handled. -/
namespace Dv
open PySem PySem.Spec PyProof.Rows L2 HotX
/-- nothing is handled, or an exception whose context is None -/
def QuietAt (A : Around) (h : Heap) : Prop := A.handled = none ∨ ∃ x, HotAt A x h
section
variable {prog : Program} {w : World} {A : Around} {E : Value → Shared → Prop} {s : Shared}
theorem hot_keep {x : Addr} {h h' : Heap} (t : HotAt A x h) (k : ∀ o, h.get? x = some o → h'.get? x = some o) : HotAt A x h' := by
  obtain ⟨h1, o, vs, e, d, c⟩ := t
  exact ⟨h1, o, vs, k o e, d, c⟩
/-- an object with two fields is no exception -/
theorem hot_ne {x it : Addr} {h : Heap} {o : PySem.Obj} {u v : Value} (t : HotAt A x h) (ho : h.get? it = some o) (hd : o.data = .fields #[u, v]) : x ≠ it := fun c => by
  obtain ⟨_, o1, vs, e, d, z⟩ := t
  rw [c, ho] at e
  cases e
  rw [hd] at d
  cases d
  cases z
theorem stop_hot {α : Type} {x1 : Addr} {Q : α → Shared → Prop} {R : Value → Shared → Prop} (hot : HotAt A x1 s.heap)
    (h : ∀ (e : Addr) (h' : Heap), (∀ b o, s.heap.get? b = some o → h'.get? b = some o) → (∃ o, h'.get? e = some o ∧ o.cls = .type "StopIteration") → R (.ref e) { s with heap := h' }) :
    wpAny (model prog w) A (newExc (.type "StopIteration") [] >>= fun e => (raiseNew e : Sem α)) Q R s := by
  obtain ⟨hh, o1, vs1, h1, d1, c1⟩ := hot
  refine wpAny_bind ?_; simp only [newExc, newTuple]; refine wpAny_bind (wpAny_newObj_type ?_ (by size_fits))
  refine wpAny_bind (m := firstArgMember _ _) (wpAny_of_eq (a := Value.none) (by first | (simp only [firstArgMember]; rfl) | rfl) (wpAny_newObj_type ?_ (by size_fits)))
  have g1 := fun (o2 o3 : PySem.Obj) => Heap.get?_push_of_some o3 (Heap.get?_push_of_some o2 h1)
  refine raiseNew_hot (x1 := x1) ⟨hh, o1, vs1, g1 _ _, d1, c1⟩ (Nat.ne_of_lt (Heap.lt_size (Heap.get?_push_of_some _ h1))) (Heap.get?_push_size _ rfl) rfl (by first | (simp only [Array.size_append]; simp; omega) | (simp; done) | (simp; omega)) (h _ _ (fun b o e => ?_) ⟨_, Heap.get?_update_self _ (Heap.get?_push_size _ rfl) rfl, rfl⟩)
  exact (Heap.get?_update_other _ _ (Nat.ne_of_gt (Heap.lt_size (Heap.get?_push_of_some _ e)))).trans (Heap.get?_push_of_some _ (Heap.get?_push_of_some _ e))
theorem list_end_q {it l : Addr} {i : Nat} {items : Array Value} {Q : Option Value → Shared → Prop} (q : QuietAt A s.heap) (hit : s.heap.IsListIter it l i) (hl : s.heap.IsList l items) (hx : items[i]? = none)
    (hQ : ∀ h', Heap.ExtBut it s.heap h' → Q none { s with heap := h' }) : wpAny (model prog w) A (pyNext (.ref it)) Q E s := by
  rcases q with hh | ⟨x1, hot⟩
  · exact wpAny_pyNext_list_end hh hit hl hx hQ
  · obtain ⟨o, ho, hc, hd⟩ := id hit; obtain ⟨ol, hol, _, nl, hdl⟩ := hl
    have ne := hot_ne hot ho hd
    unfold pyNext; refine wpAny_bind (wpAny_attempt (wpAny_callSpecial?_slot (name := Str.ofString "__next__") hit.typeIs slot_listiter_next (wpAny_call_entry slot_listiter_next hit.typeIs entry_listiter_next ?_ (args_listiter_next _))))
    show wpAny _ _ (field (.ref it) 0 >>= _) _ _ s
    refine wpAny_bind (wpAny_field ho hd (x := .ref l) rfl ?_); show wpAny _ _ (if (Value.ref l == Value.none) = true then _ else _) _ _ s
    rw [if_neg (show ¬ ((Value.ref l == Value.none) = true) from Bool.false_ne_true)]; show wpAny _ _ (field (.ref it) 1 >>= _) _ _ s
    refine wpAny_bind (wpAny_field ho hd (x := .int i 0) rfl ?_); show wpAny _ _ (seqItems? (.ref l) >>= _) _ _ s
    refine wpAny_bind (wpAny_seqItems hol hdl ?_); simp only [Int.toNat_natCast, hx]
    refine wpAny_bind (wpAny_rule (wpAny_bind (wpAny_setField ho hd (by simp) ?_))); show wpAny _ _ (newExc (.type "StopIteration") [] >>= _) _ _ _
    have sb := Heap.SameBut.update s.heap it (PySem.Obj.mapFields fun vs => vs.setIfInBounds 0 Value.none)
    refine stop_hot (x1 := x1) (hot_keep (A := A.in1) hot fun o1 e => (sb.2 x1 ne).trans e) fun e h' k ⟨oe, e1, e2⟩ => ?_
    refine wpAny_bind (wpAny_isInstance (T := "StopIteration") (b := true) ⟨oe, e1, e2⟩ isSubtype_stop (wpAny_pure (hQ _ fun b o' hb e' => k b o' ((sb.2 b hb).trans e'))))
theorem tup_end_q {it l : Addr} {i : Nat} {items : Array Value} {Q : Option Value → Shared → Prop} (q : QuietAt A s.heap) (hit : s.heap.IsTupleIter it l i) (hl : s.heap.IsTuple l items) (hx : items[i]? = none)
    (hQ : ∀ h', Heap.ExtBut it s.heap h' → Q none { s with heap := h' }) : wpAny (model prog w) A (pyNext (.ref it)) Q E s := by
  rcases q with hh | ⟨x1, hot⟩
  · exact wpAny_pyNext_tuple_end hh hit hl hx hQ
  · obtain ⟨o, ho, hc, hd⟩ := id hit; obtain ⟨ol, hol, _, nl, hdl⟩ := hl
    have ne := hot_ne hot ho hd
    unfold pyNext; refine wpAny_bind (wpAny_attempt (wpAny_callSpecial?_slot (name := Str.ofString "__next__") hit.typeIs F.slot_tuple_iterator_next (wpAny_call_entry F.slot_tuple_iterator_next hit.typeIs F.entry_tuple_iterator_next ?_ (F.args_tuple_iterator_next_1 _))))
    show wpAny _ _ (field (.ref it) 0 >>= _) _ _ s
    refine wpAny_bind (wpAny_field ho hd (x := .ref l) rfl ?_); show wpAny _ _ (if (Value.ref l == Value.none) = true then _ else _) _ _ s
    rw [if_neg (show ¬ ((Value.ref l == Value.none) = true) from Bool.false_ne_true)]; show wpAny _ _ (field (.ref it) 1 >>= _) _ _ s
    refine wpAny_bind (wpAny_field ho hd (x := .int i 0) rfl ?_); show wpAny _ _ (seqItems? (.ref l) >>= _) _ _ s
    refine wpAny_bind (wpAny_seqItems hol hdl ?_); simp only [Int.toNat_natCast, hx]
    refine wpAny_bind (wpAny_rule (wpAny_bind (wpAny_setField ho hd (by simp) ?_))); show wpAny _ _ (newExc (.type "StopIteration") [] >>= _) _ _ _
    have sb := Heap.SameBut.update s.heap it (PySem.Obj.mapFields fun vs => vs.setIfInBounds 0 Value.none)
    refine stop_hot (x1 := x1) (hot_keep (A := A.in1) hot fun o1 e => (sb.2 x1 ne).trans e) fun e h' k ⟨oe, e1, e2⟩ => ?_
    refine wpAny_bind (wpAny_isInstance (T := "StopIteration") (b := true) ⟨oe, e1, e2⟩ isSubtype_stop (wpAny_pure (hQ _ fun b o' hb e' => k b o' ((sb.2 b hb).trans e'))))
end
end Dv
set_option maxRecDepth 100000
set_option maxHeartbeats 4000000
/-! Dv60: comprehensions, also while an exception is handled; what they gather is told from outside. -/
namespace Dv
open PySem PySem.Spec PyProof.Rows L2 HotX
/-- where walks may end -/
def QuietX (X : Cx) : Prop := ∀ (pins : List (Addr × PySem.Obj)) (σ : L2.St) (H : Hp) (s : Shared), Inv X pins σ H s → QuietAt X.A s.heap
theorem quiet_calm {X : Cx} (h : X.calm = true) : QuietX X := fun _ _ _ _ I => .inl (I.ok.hd h)
theorem quiet_hot {X : Cx} (h : L2H.HotC X) : QuietX X := fun _ _ _ _ I => .inr (h.at I)
section
variable {X : Cx} {pos : Pos}
/-- (a, b, ..) = a tuple -/
theorem pg_tupQ {es : List Expr} {k : Nat} {t : TGs} {n : Nat} (qx : QuietX X) (h : PGs X es t) (hn : (assignEach es X.env).length = n := by rfl) (hst : (assignEach es X.env).findIdx? (·.1) = none := by rfl) : PG X (.Tuple es k pos) (gTup X.K n t) := ⟨fun pins s σ H v u Q I r ⟨a, xs, e1, hq, hl, hw⟩ => by
  subst e1; cases r
  obtain ⟨its, rv, ht, hz⟩ := I.tuple hq
  have ht : s.heap.IsTuple a its.toArray := ht
  have ne : a ≠ s.heap.objs.size := by
    obtain ⟨o, e, _⟩ := ht
    exact Nat.ne_of_lt (Heap.lt_size e)
  have len : (assignEach es X.env).length = its.toArray.size := by rw [hn, ← hl, rv.length]; simp
  rw [assign_Tuple]
  refine wpAny_bind (wpAny_standAt ?_)
  unfold unpack
  rw [len, hst]
  refine wpAny_bind (wpAny_holding ?_)
  unfold unpackItems notIterableAtAll
  refine wpAny_bind (wpAny_bind (wpAny_specialOf ht.typeIs F.slot_tuple_iter.lookup (wpAny_pure ?_)))
  dsimp only
  refine wpAny_bind (wpAny_holding (wpAny_pyIter_tuple ht ?_))
  refine wpAny_bind (wpAny_holding (wpAny_draw_tuple ne its.toArray.size 0 _ _ ⟨_, Heap.get?_push_size _ rfl, rfl, rfl⟩ (ht.push _) (by omega) fun h1 it1 s1 => ?_))
  rw [List.drop_zero, List.take_of_length_le (by simp), if_neg (by simp)]
  have kept : ∀ b o, s.heap.get? b = some o → h1.get? b = some o := fun b o e => s1.extBut b o (Nat.ne_of_lt (Heap.lt_size e)) (Heap.get?_push_of_some _ e)
  have q1 : QuietAt X.A h1 := (qx pins σ H s I).imp id fun ⟨x, t⟩ => ⟨x, hot_keep t fun o e => kept x o e⟩
  refine wpAny_bind (wpAny_holding (tup_end_q q1 it1 ((ht.push _).extBut s1.extBut ne) (by simp) fun h2 k2 => wpAny_pure ?_))
  have I1 : Inv X pins σ H { s with heap := h2 } := I.kept (t' := s.toks) fun b o e => k2 b o (Nat.ne_of_lt (Heap.lt_size e)) (kept b o e)
  exact h.run pins _ σ H xs _ Q I1 (by simpa using rv) hw⟩
end
/-- a walk's turns, wherever walks may end -/
structure TurnQ (P : Program) (w : World) (K : PySem.W.Frag) (tg : Expr) (J : It) (fp : List Addr) (it : Addr) (tn : Nat → Heap → Prop) : Prop where
  obj : ∀ i h, tn i h → ∀ b ∈ fp, ∃ o, h.get? b = some o ∧ ∀ v, o.data ≠ .cell v
  keep : ∀ i h h', tn i h → (∀ b ∈ fp, ∀ o, h.get? b = some o → h'.get? b = some o) → tn i h'
  item : ∀ (Y : Cx), Y.prog = P → Y.w = w → Y.K = K → ∀ (i : Nat) (pins : List (Addr × PySem.Obj)) (s : Shared) (σ : L2.St) (H : Hp), Inv Y pins σ H s → (∀ b ∈ fp, FpOk Y pins H b) → tn i s.heap → J.go i H →
    wpAny (model P w) Y.A (pyNext (.ref it)) (fun r s1 => ∃ u, r = some u ∧ wpAny (model P w) Y.A (letOwnedTupleGo tg (.ref it) u) (fun _ s2 => ∃ x H', Inv Y pins σ H' s2 ∧ RelV x u ∧ J.yld i H x H' ∧ tn (i + 1) s2.heap ∧ ∀ b ∈ fp, H' b = none) (fun _ _ => False) s1) (fun _ _ => False) s
  done : ∀ (Y : Cx), Y.prog = P → Y.w = w → Y.K = K → ∀ (i : Nat) (pins : List (Addr × PySem.Obj)) (s : Shared) (σ : L2.St) (H : Hp), QuietAt Y.A s.heap → Inv Y pins σ H s → (∀ b ∈ fp, FpOk Y pins H b) → tn i s.heap → J.stop i H →
    wpAny (model P w) Y.A (pyNext (.ref it)) (fun r s1 => r = none ∧ Inv Y pins σ H s1) (fun _ _ => False) s
  self : ∀ (A : Around) (i : Nat) (s : Shared) (Q : Value → Shared → Prop) (E : Value → Shared → Prop), tn i s.heap → Q (.ref it) s → wpAny (model P w) A (pyIter (.ref it)) Q E s
theorem turnQ_list {P : Program} {w : World} {K : PySem.W.Frag} {tg : Expr} (a it : Addr) : TurnQ P w K tg (Itl K a) [it] it (fun i h => h.IsListIter it a i) := by
  have T := turn_list (P := P) (w := w) (K := K) (tg := tg) a it
  refine ⟨T.obj, T.keep, fun Y h1 h2 h3 i pins s σ H I hf st hg => ?_, fun Y h1 h2 h3 i pins s σ H q I hf st hg => ?_, T.self⟩
  · subst h1 h2 h3
    obtain ⟨xs, x, hq, hx⟩ := hg
    obtain ⟨its, rv, p, hz⟩ := I.list hq
    obtain ⟨u, hu, ru⟩ := rv.get hx
    have f := hf it (List.mem_singleton.mpr rfl)
    refine wpAny_pyNext_list_item st p.isList (x := u) (by simpa using hu) fun h' st' sb => ?_
    obtain ⟨o, e, c, d⟩ := id st'
    exact ⟨u, rfl, go_of (s := { s with heap := h' }) e c d (by decide) ⟨x, H, I.turned (t' := s.toks) (fun b o hb e => (sb.2 b hb).trans e) f.1 f.2.1 f.2.2.2.1 f.2.2.2.2.1 f.2.2.2.2.2, ru, ⟨rfl, fun ys hy => by rw [I.list_inj hy hq]; exact hx⟩, st', fun b hb => (hf b hb).1⟩⟩
  · subst h1 h2 h3
    obtain ⟨xs, hq, hx⟩ := hg
    obtain ⟨its, rv, p, hz⟩ := I.list hq
    have f := hf it (List.mem_singleton.mpr rfl)
    have hl := rv.length
    exact list_end_q q st p.isList (by simp; omega) fun h' eb => ⟨rfl, I.turned (t' := s.toks) (fun b o hb e => eb b o hb e) f.1 f.2.1 f.2.2.2.1 f.2.2.2.2.1 f.2.2.2.2.2⟩
def PIEQ (X : Cx) (pins : List (Addr × PySem.Obj)) (σ : L2.St) (tg : Expr) (R : It → Hp → Prop) (itv : Value) (s2 : Shared) : Prop :=
  ∃ (it : Addr) (fp : List Addr) (tn : Nat → Heap → Prop) (J : It) (H' : Hp), itv = .ref it ∧ Inv X pins σ H' s2 ∧ TurnQ X.prog X.w X.K tg J fp it tn ∧ tn 0 s2.heap ∧ (∀ b ∈ fp, FpOk X pins H' b) ∧ R J H'
structure PIQ (X : Cx) (tg iter : Expr) (wi : TI) : Prop where
  run : ∀ (pins : List (Addr × PySem.Obj)) (s : Shared) (σ : L2.St) (H : Hp) (R : It → Hp → Prop), Inv X pins σ H s → wi σ H R → wpAny (model X.prog X.w) X.A (eval iter X.env) (fun v s1 => wpAny (model X.prog X.w) X.A (pyIter v) (PIEQ X pins σ tg R) X.xe s1) X.xe s
theorem piq_list {X : Cx} {tg l : Expr} {tl : TE} (hl : PE X l tl) : PIQ X tg l (iList X.K tl) := ⟨fun pins s σ H R I h => thn (hl.run pins s σ H _ I h) fun v s1 ⟨x, H1, I1, r1, a, e, ⟨xs, hq⟩, q⟩ => by
  subst e; cases r1
  obtain ⟨its, rv, p, hz⟩ := I1.list hq
  refine wpAny_pyIter_list p.isList ⟨s1.heap.objs.size, [s1.heap.objs.size], _, _, H1, rfl, I1.kept (t' := s1.toks) fun b o e => Heap.get?_push_of_some _ e, turnQ_list a _, ⟨_, Heap.get?_push_size _ rfl, rfl, rfl⟩, fun b hb => ?_, q⟩
  cases List.mem_singleton.mp hb
  exact I1.fpOk (Nat.le_refl _) (I1.hok.fresh (Nat.le_refl _))⟩
theorem piq_to {X : Cx} {tg e : Expr} {t u : TI} (p : PIQ X tg e t) (h : ∀ σ H Q, u σ H Q → t σ H Q) : PIQ X tg e u := ⟨fun pins s σ H Q I z => p.run pins s σ H Q I (h σ H Q z)⟩
/-! ### the comprehension -/
section
variable (P : Program) (w : World)
/-- a turn of the loop; app takes what is new -/
abbrev TurnWp (A : Around) (env : Env) (tg elt : Expr) (ifs : List Expr) (app : String) (it acc : Value) (R : Result → Shared → Prop) (G : Shared → Prop) (s : Shared) : Prop :=
  wpAny (model P w) A (pyNext it) (fun r s₁ => match r with
    | none => R (.ok .next) s₁
    | some v => wpAny (model P w) A (letOwnedTupleGo tg it v) (fun _ s₁' => wpAny (model P w) A (assign tg env v) (fun _ s₂ =>
        wpAny (model P w) A (forIn ifs true fun c r => if r = true then do let ok ← isTrue c env (eval c env); pure (ForInStep.yield ok) else pure (ForInStep.yield r)) (fun ok s₃ =>
          if ok = true then wpAny (model P w) A (eval elt env) (fun x s₄ => wpAny (model P w) A (call (.builtin app) [acc, x]) (fun _ s₅ => G s₅) (notedBy (model P w) A env fun e s' => R (.error e) s') s₄) (notedBy (model P w) A env fun e s' => R (.error e) s') s₃
          else G s₃) (notedBy (model P w) A env fun e s' => R (.error e) s') s₂) (notedBy (model P w) A env fun e s' => R (.error e) s') s₁') (notedBy (model P w) A env fun e s' => R (.error e) s') s₁) (notedBy (model P w) A env fun e s' => R (.error e) s') s
/-- what a comprehension gathers in: nd its node, o0 the new object, told as O, app the step -/
structure Gath (nd tg elt iter : Expr) (ifs : List Expr) (mk : Sem Value) (app : String) (o0 : PySem.Obj) (O : Addr → HO) : Prop where
  cl : clausesOf nd = [⟨tg, iter, ifs, 0⟩]
  nf : o0.isFreed = false
  make : ∀ {A : Around} {E Q : Value → Shared → Prop} {s : Shared}, Q (.ref s.heap.objs.size) { s with heap := s.heap.push o0 } → wpAny (model P w) A mk Q E s
  new : ∀ (H : Hp) (h : Heap) (D : Addr), h.get? D = some o0 → ObjOk P w H h D (O D)
  loop : ∀ {A : Around} {R : Result → Shared → Prop} {s : Shared} {it acc : Value} {env : Env} (I : Nat → Shared → Prop), (∀ n s, I n s → TurnWp P w A env tg elt ifs app it acc R (fun s' => ∃ m, m < n ∧ I m s') s) → ∀ n, I n s → codeAny (model P w) A (.compLoop nd 0 it acc env) R s
  start : ∀ {A : Around} {R : Result → Shared → Prop} {s : Shared} {it acc : Value} {env : Env}, codeAny (model P w) A (.compLoop nd 0 it acc env) R s → wpAny (model P w) A (pyIter it) (fun it' s' => codeAny (model P w) A (.compLoop nd 0 it' acc env) R s') (notedBy (model P w) A env fun x s' => R (.error x) s') s → codeAny (model P w) A (.compStart nd 0 it acc env) R s
end
theorem gath_list {P : Program} {w : World} {tg elt iter : Expr} {ifs : List Expr} {scope : Scope} {pos : Pos} : Gath P w (.ListComp elt [⟨tg, iter, ifs, 0⟩] scope pos) tg elt iter ifs (newList []) "list.append" { cls := .type "list", data := .seq ([] : List Value).toArray } (fun _ => .lst []) where
  cl := rfl
  nf := rfl
  make := fun h => wpAny_newObj_type h (by show 0 ≤ sizeLine; decide)
  new := fun H h D e => ⟨Nat.zero_le _, [], 0, .nil, e⟩
  loop := fun I t n h => compLoop_any I t n h
  start := codeAny_compStart_list
/-- what the comprehension asks for -/
def tAc (O : Addr → HO) (put : Addr → V → Hp → (Hp → Prop) → Prop) (wi : TI) (g : TG) (tt : TT) (te : TE) (vs : List Nat) : TE := fun σ H Q => wi σ H fun J H1 => ∀ D, H1 D = none → ∃ W : Nat → Nat → Hp → Prop, (∃ m, W 0 m (upd H1 D (O D))) ∧ ∀ i m H, W i m H →
  (J.stop i H ∧ Q (.ref D) H) ∨ (J.go i H ∧ ∃ Nx : Hp → Prop, (∀ H', Nx H' → ∃ m', m' < m ∧ W (i + 1) m' H') ∧ ∀ x H', J.yld i H x H' → g x (wipe σ vs) H' fun σ2 H2 => wipe σ2 vs = wipe σ vs ∧ tt σ2 H2 fun b H3 => if b = true then te σ2 H3 fun y H4 => put D y H4 Nx else Nx H3)
/-- the step, as told -/
def Puts (X : Cx) (app : String) (put : Addr → V → Hp → (Hp → Prop) → Prop) : Prop := ∀ (Y : Cx), Y.prog = X.prog → Y.w = X.w → ∀ (pins : List (Addr × PySem.Obj)) (σ : L2.St) (H : Hp) (s : Shared) (D : Addr) (y : V) (v : Value) (Nx : Hp → Prop), Inv Y pins σ H s → RelV y v → put D y H Nx →
  wpAny (model Y.prog Y.w) Y.A (call (.builtin app) [.ref D, v]) (fun _ s' => ∃ H', Inv Y pins σ H' s' ∧ Nx H') (fun _ _ => False) s
section
variable {X : Cx}
theorem ac_core {pins : List (Addr × PySem.Obj)} {s : Shared} {σ : L2.St} {H : Hp} {Q : VK} {nd elt tg iter : Expr} {ifs : List Expr} {scope : Scope} {own : List (Str × Nat)} {pos' : Pos} {wi : TI} {g : TG} {tt : TT} {te : TE} {use : Option (Value → Sem Unit)} {Qf : Value → Shared → Prop} {mk : Sem Value} {app : String} {o0 : PySem.Obj} {O : Addr → HO} {put : Addr → V → Hp → (Hp → Prop) → Prop}
    (G : Gath X.prog X.w nd tg elt iter ifs mk app o0 O) (pu : Puts X app put) (hc : X.calm = true ∨ L2H.HotC X) (hN : X.N.Nodup) (I : Inv X pins σ H s) (hi : PIQ X tg iter wi) (ok : BlkOk X.N X.env.scope scope own)
    (hg : ∀ (s : Shared) (H : Hp) (C : Addr) (cl : List (Str × Addr)) (fp : List Addr), QuietX (X.blk s H scope (compEnvC scope cl C X.env) fp) → PG (X.blk s H scope (compEnvC scope cl C X.env) fp) tg g)
    (ht : ∀ (s : Shared) (H : Hp) (C : Addr) (cl : List (Str × Addr)) (fp : List Addr), QuietX (X.blk s H scope (compEnvC scope cl C X.env) fp) → PTs (X.blk s H scope (compEnvC scope cl C X.env) fp) ifs tt)
    (he : ∀ (s : Shared) (H : Hp) (C : Addr) (cl : List (Str × Addr)) (fp : List Addr), QuietX (X.blk s H scope (compEnvC scope cl C X.env) fp) → PE (X.blk s H scope (compEnvC scope cl C X.env) fp) elt te) (hs : ∀ x, foldedSetIterable iter X.env x = pure x) (h : tAc O put wi g tt te (own.map (·.2)) σ H Q)
    (fin : ∀ D C s' m H', Inv X pins σ H' s' → Q (.ref D) H' → s'.heap.Ns C m → FpOk X pins H' C → compPost (model X.prog X.w) X.A X.xe use Qf (.ref D) C (.ok .next) s') :
    wpAny (model X.prog X.w) X.A (comprehension nd scope X.env pos' mk false (eval iter X.env) use) Qf X.xe s := by
  refine wpAny_comprehension_free (use := use) G.cl hs (closure_ok fun y hy e => (ok.free y hy e).elim (fun k => I.ok.has _ (.inl k)) fun k => I.ok.has _ (.inr k)) ok.kind (fun y hy e => by rw [ok.uniq y hy, e]) (thn (hi.run pins s σ H _ I h) fun xv s1 hx => thn hx fun itv s2 ⟨it, fp, tn, J, H2, e, I2, T, st2, f2, q⟩ => G.make ?_)
  subst e
  refine newEnv_comp ?_
  generalize hD : s2.heap.objs.size = D
  have hDn : H2 D = none := I2.hok.fresh (Nat.le_of_eq hD)
  obtain ⟨W, ⟨m0, w0⟩, turn⟩ := q D hDn
  generalize e3 : ({ s2 with heap := s2.heap.push o0 } : Shared) = s3
  have h3 : s3.heap = s2.heap.push o0 := by rw [← e3]
  have up3 : ∀ b o, s2.heap.get? b = some o → s3.heap.get? b = some o := fun b o e => by rw [h3]; exact Heap.get?_push_of_some _ e
  generalize eH : upd H2 D (O D) = H3 at w0
  have I3 : Inv X pins σ H3 s3 := by
    rw [← e3, ← eH]
    refine I2.laid (t' := s2.toks) (fun b o e => Heap.get?_push_of_some _ e) (Nat.le_of_eq hD) (G.new _ _ D ?_)
    rw [← hD]
    exact Heap.get?_push_size _ G.nf
  have f3 : ∀ b ∈ fp, FpOk X pins H3 b ∧ b < s3.heap.objs.size := fun b hb => by
    obtain ⟨o, e, _⟩ := T.obj _ _ st2 b hb
    have lt := Heap.lt_size e
    refine ⟨⟨?_, (f2 b hb).2⟩, Heap.lt_size (up3 b o e)⟩
    rw [← eH, upd_ne (fun c => absurd hD (by rw [← c]; exact Nat.ne_of_gt lt))]
    exact (f2 b hb).1
  have B0 := block_start I3 ok hN f3
  generalize ec : compEnvC scope (cellsFrom (s3.heap.objs.size + 1) scope.names (cloFrom X.env.cells scope.names [])) s3.heap.objs.size X.env = ce at B0
  have qb : QuietX (X.blk s3 H3 scope ce fp) := fun pins' σ' H' s' I' => hc.elim (fun c => .inl (I'.ok.hd c)) fun ⟨p, ⟨hh, vs, e1, c1⟩, hp⟩ => by
    have k := I3.pin p (List.mem_append_left _ hp)
    refine .inr ⟨p.1, hh, p.2, vs, I'.base.keep p.1 p.2 k.1 k.2.1 (fun c => (List.mem_cons.mp (I3.stkSub p.1 c)).elim k.2.2.1 k.2.2.2.1) (fun c => ?_), e1, c1⟩
    exact (f3 p.1 c).1.2.2.2.2.2 p (List.mem_append_left _ hp) rfl
  have pg := hg s3 H3 s3.heap.objs.size (cellsFrom (s3.heap.objs.size + 1) scope.names (cloFrom X.env.cells scope.names [])) fp
  have pt := ht s3 H3 s3.heap.objs.size (cellsFrom (s3.heap.objs.size + 1) scope.names (cloFrom X.env.cells scope.names [])) fp
  have pe := he s3 H3 s3.heap.objs.size (cellsFrom (s3.heap.objs.size + 1) scope.names (cloFrom X.env.cells scope.names [])) fp
  rw [ec] at pg pt pe
  have cL : ce.locals = s3.heap.objs.size := by rw [← ec]; rfl
  show codeAny _ _ (.compStart nd 0 (.ref it) (.ref D) (compEnvC scope (cellsFrom (s3.heap.objs.size + 1) scope.names (cloFrom X.env.cells scope.names [])) s3.heap.objs.size X.env)) (compPost (model X.prog X.w) X.A X.xe use Qf (.ref D) s3.heap.objs.size) { s3 with heap := pushCells (s3.heap.push { cls := .type "dict", data := .dict #[] }) scope.names }
  rw [ec]
  generalize e4 : ({ s3 with heap := pushCells (s3.heap.push { cls := .type "dict", data := .dict #[] }) scope.names } : Shared) = s4 at B0
  have st3 : tn 0 s3.heap := T.keep _ _ _ st2 fun b _ o e => up3 b o e
  have st4 : tn 0 s4.heap := T.keep _ _ _ st3 fun b _ o e => by rw [← e4]; exact pushCells_keeps _ _ _ _ (Heap.get?_push_of_some _ e)
  have fpB : ∀ {σ' : L2.St} {H' : Hp} {s' : Shared}, Inv (X.blk s3 H3 scope ce fp) [] σ' H' s' → (∀ b ∈ fp, H' b = none) → ∀ b ∈ fp, FpOk (X.blk s3 H3 scope ce fp) [] H' b := fun {σ' H' s'} J n b hb =>
    ⟨n b hb, (J.ok.exf b hb).1, J.ok.exfs b hb, .inl hb, fun x c e => (J.ok.exf b hb).2 x c e, fun p hp => nomatch (show p ∈ ([] : List (Addr × PySem.Obj)) ++ [] from hp)⟩
  let Iv : Nat → Shared → Prop := fun n s' => ∃ i H', Inv (X.blk s3 H3 scope ce fp) [] (wipe σ (own.map (·.2))) H' s' ∧ tn i s'.heap ∧ (∀ b ∈ fp, H' b = none) ∧ W i n H'
  have loop : codeAny (model X.prog X.w) X.A (.compLoop nd 0 (.ref it) (.ref D) ce) (compPost (model X.prog X.w) X.A X.xe use Qf (.ref D) s3.heap.objs.size) s4 := by
    refine G.loop Iv (fun n s5 hI => ?_) m0 ⟨0, H3, B0, st4, fun b hb => (f3 b hb).1.1, w0⟩
    obtain ⟨i, H5, J5, st5, n5, w5⟩ := hI
    have f5 := fpB J5 n5
    rcases turn i n H5 w5 with ⟨stop, qq⟩ | ⟨go, Nx, hNx, step⟩
    · refine thnF (T.done (X.blk s3 H3 scope ce fp) rfl rfl rfl i [] s5 _ H5 (qb _ _ _ _ J5) J5 f5 st5 stop) fun r s6 ⟨hr, J6⟩ => ?_
      subst hr
      have K6 : Inv X pins σ H5 s6 := I3.call' (ch := fp) J6.os J6.base J6.hok J6.bare fun b hb => have f := (f3 b hb).1.2; ⟨f.2.2.1, f.1, f.2.2.2.1, f.2.2.2.2⟩
      obtain ⟨m, hn, _⟩ := J6.loc
      have hn : s6.heap.Ns ce.locals m := hn
      have fr : H5 ce.locals = none := J6.free
      rw [cL] at hn fr
      exact fin D s3.heap.objs.size s6 m H5 K6 qq hn (I3.fpOk (Nat.le_refl _) fr)
    · refine thnF (T.item (X.blk s3 H3 scope ce fp) rfl rfl rfl i [] s5 _ H5 J5 f5 st5 go) fun r s6 ⟨u, hr, h6⟩ => ?_
      subst hr
      refine thnF h6 fun _ s7 ⟨x, H7, J7, r7, y7, st7, n7⟩ => ?_
      have K7 := J7.pinned (fpB J7 n7) (T.obj _ _ st7)
      have back : ∀ {τ : L2.St} {s' : Shared} {H' : Hp}, wipe τ (own.map (·.2)) = wipe (wipe σ (own.map (·.2))) (own.map (·.2)) ∨ wipe τ (own.map (·.2)) = wipe σ (own.map (·.2)) → Inv (X.blk s3 H3 scope ce fp) ([] ++ pinsAt fp s7.heap) τ H' s' → Nx H' → ∃ m, m < n ∧ Iv m s' := fun {τ s' H'} ew K nx => by
        obtain ⟨m', lt, w'⟩ := hNx H' nx
        have same : ∀ b ∈ fp, ∀ o, s7.heap.get? b = some o → s'.heap.get? b = some o ∧ H' b = none := fun b hb o e => (K.pin (b, o) (List.mem_append_right _ (List.mem_append_right _ (mem_pinsAt hb e)))).imp id (·.1)
        have ew : wipe τ (own.map (·.2)) = wipe σ (own.map (·.2)) := ew.elim (fun e => e.trans (wipe_wipe _ _ fun v hv => hv)) id
        refine ⟨m', lt, i + 1, H', (K.unpinned (pins := [])).weak (by rw [← ew, wipe_length]) (fun j v e => ?_), T.keep _ _ _ st7 fun b hb o e => (same b hb o e).1, fun b hb => ?_, w'⟩
        · rw [← ew] at e
          exact (wipe_some e).1
        · obtain ⟨o, e, _⟩ := T.obj _ _ st7 b hb
          exact (same b hb o e).2
      refine thnF ((pg qb).run _ s7 _ H7 x u _ K7 r7 (step x H7 y7)) fun _ s8 ⟨σ8, H8, K8, hw, q8⟩ => ?_
      refine thnF ((pt qb).run _ s8 σ8 H8 _ K8 q8) fun b s9 ⟨H9, K9, q9⟩ => ?_
      cases b with
      | false => exact back (.inr hw) K9 (by simpa using q9)
      | true =>
        have q9 : te σ8 H9 fun y H4 => put D y H4 Nx := by simpa using q9
        refine thnF ((pe qb).run _ s9 σ8 H9 _ K9 q9) fun z s10 ⟨yv, H10, K10, r10, pq⟩ => ?_
        exact thnF (pu (X.blk s3 H3 scope ce fp) rfl rfl _ σ8 H10 s10 D yv z Nx K10 r10 pq) fun _ s11 ⟨H11, K11, nx⟩ => back (.inr hw) K11 nx
  exact G.start loop (T.self X.A 0 _ _ _ st4 loop)
end
end Dv
set_option maxRecDepth 100000
set_option maxHeartbeats 4000000
/-! Dv61: lists gathered, also while an exception is handled; what is known of the handled one; defs called there. -/
namespace Dv
open PySem PySem.Spec PyProof.Rows L2 HotX
def putL (D : Addr) (y : V) (H : Hp) (Nx : Hp → Prop) : Prop := ∃ acc, H D = some (.lst acc) ∧ acc.length < sizeLine ∧ Nx (upd H D (.lst (acc ++ [y])))
theorem puts_list {X : Cx} : Puts X "list.append" putL := fun Y _ _ pins σ H s D y v Nx I r ⟨acc, h1, h2, n⟩ => app_ok I h1 h2 r fun s' I' => ⟨_, I', n⟩
section
variable {X : Cx} {W : Wd} {Δ : List Sl} {m : Nat} {pos : Pos}
theorem diq_list {tg e : Expr} {ds : List PyData} (h : DE X W Δ m e (eqd W.Z (.list ds))) : PIQ X tg e (tDI W Δ m (· = ds)) :=
  piq_to (piq_list h) fun σ H R ⟨n, l, k, z⟩ => ⟨n, l, k, fun v H1 k1 q1 o1 => by
    cases eqd_ok o1 with
    | lst r nz hd =>
      rename_i a vs
      refine ⟨a, rfl, ⟨_, .inl (.inl r)⟩, z _ H1 ds k1 q1 rfl ⟨⟨_, _, hd.length ▸ walk_list (K := X.K) (a := a) (xs := vs), fun Z' H z' k' => .inl (.inl (kpz z' k' nz r)), fun Z' i H x H' z' k' _ _ y => ?_⟩⟩⟩
      obtain ⟨e1, e2⟩ := y; subst e1
      obtain ⟨d, h1, h2⟩ := hd.getV e2
      exact ⟨Ext.refl, d, h1, (h2.mono Kp.refl z').kp k'⟩⟩
/-- name = [..] -/
theorem ps_setLcQ {i : Nat} {y : Str} {py spos : Pos} {elt tg iter : Expr} {ifs : List Expr} {scope : Scope} {own : List (Str × Nat)} {wi : TI} {g : TG} {tt : TT} {te : TE} (hc : X.calm = true ∨ L2H.HotC X) (hN : X.N.Nodup) (hy : X.N[i]? = some y) (hyl : X.env.scope.names.lookup y = some .local)
    (hsw : swapsWith (.ListComp elt [⟨tg, iter, ifs, 0⟩] scope pos) (some (.Name y py)) spos.line X.env = pure true) (hi : PIQ X tg iter wi) (ok : BlkOk X.N X.env.scope scope own)
    (hg : ∀ (s : Shared) (H : Hp) (C : Addr) (cl : List (Str × Addr)) (fp : List Addr), QuietX (X.blk s H scope (compEnvC scope cl C X.env) fp) → PG (X.blk s H scope (compEnvC scope cl C X.env) fp) tg g)
    (ht : ∀ (s : Shared) (H : Hp) (C : Addr) (cl : List (Str × Addr)) (fp : List Addr), QuietX (X.blk s H scope (compEnvC scope cl C X.env) fp) → PTs (X.blk s H scope (compEnvC scope cl C X.env) fp) ifs tt)
    (he : ∀ (s : Shared) (H : Hp) (C : Addr) (cl : List (Str × Addr)) (fp : List Addr), QuietX (X.blk s H scope (compEnvC scope cl C X.env) fp) → PE (X.blk s H scope (compEnvC scope cl C X.env) fp) elt te)
    (hs : ∀ x, foldedSetIterable iter X.env x = pure x := by intro _; rfl) : PS X (.Assign [.Name y py] (.ListComp elt [⟨tg, iter, ifs, 0⟩] scope pos) spos) (tAsg (tAc (fun _ => .lst []) putL wi g tt te (own.map (·.2))) (gName i)) := ⟨fun pins s σ H D I h => by
  rw [exec_Assign_Name_used _ _ _ _ hsw]
  refine wpAny_bind (wpAny_standAt (wpAny_bind ?_))
  show wpAny _ X.A (comprehension (.ListComp elt [⟨tg, iter, ifs, 0⟩] scope pos) scope X.env (firstIterPos [⟨tg, iter, ifs, 0⟩] pos) (newList []) false (eval iter X.env) (some (assign (.Name y py) X.env)) >>= fun _ => pure ()) _ _ s
  refine wpAny_bind (thn (ac_core (Q := fun x H1 => gName i x σ H1 D.nx) (Qf := fun _ s' => SP X pins D .next s') gath_list puts_list hc hN I hi ok hg ht he hs h fun L C s' m H' I' q hn f => ?_) fun _ s' hq => wpAny_pure (wpAny_pure hq))
  show wpAny _ _ (assign (.Name y py) X.env (.ref L)) _ _ _
  refine wpAny_assign_Name (store_ok2 (v := V.ref L) I' hN hy (.inl hyl) rfl (fun s2 I2 ⟨a, sb, ha⟩ => ⟨m, hn.sameBut sb fun e => ?_, fun h3 sb3 => ⟨_, H', I2.turned (t' := s2.toks) (fun b o hb e => (sb3.2 b hb).trans e) f.1 f.2.1 f.2.2.2.1 f.2.2.2.2.1 f.2.2.2.2.2, q⟩⟩) (.inr hyl))
  exact ha.elim (fun z => f.2.1 (e.trans z)) fun z => f.2.2.2.2.1 y a z e.symm⟩
theorem hs_setLc2Q {D : Ends} {sts : List Stmt} {N : Nat} {spos py' : Pos} {y' : Str} {iy : Nat} {x y : Str} {px py pt : Pos} {kt : Nat} {elt iter test : Expr} {scope : Scope} {own : List (Str × Nat)} {i j : Nat} {xs : List PyData} {f : PyData → Bool} {g : PyData → PyData}
    (hyi : X.N[iy]? = some y') (hyl : X.env.scope.names.lookup y' = some .local) (hsw : swapsWith (.ListComp elt [⟨.Tuple [.Name x px, .Name y py] kt pt, iter, [test], 0⟩] scope pos) (some (.Name y' py')) spos.line X.env = pure true)
    (hc : X.calm = true ∨ L2H.HotC X) (hN : X.N.Nodup) (hi : PIQ X (.Tuple [.Name x px, .Name y py] kt pt) iter (tDI W Δ 0 (· = xs))) (ok : BlkOk X.N X.env.scope scope own) (hiv : i ∈ own.map (·.2)) (hjv : j ∈ own.map (·.2)) (hM2 : xs.length ≤ 1000000)
    (hpr : ∀ d ∈ xs, ∃ a b, d = .tuple [a, b])
    (hx : ∀ (s : Shared) (H : Hp) (C : Addr) (cl : List (Str × Addr)) (fp : List Addr), QuietX (X.blk s H scope (compEnvC scope cl C X.env) fp) → PG (X.blk s H scope (compEnvC scope cl C X.env) fp) (.Tuple [.Name x px, .Name y py] kt pt) (gTup X.K 2 (gCons (gName i) (gCons (gName j) gNil))))
    (ht : ∀ (s : Shared) (H : Hp) (C : Addr) (cl : List (Str × Addr)) (fp : List Addr) (D : Addr) (φ : Nat → HO → Prop) (a b : PyData), ¬ W.Z D → .tuple [a, b] ∈ xs → DT (X.blk s H scope (compEnvC scope cl C X.env) fp) (W.add D φ) (((wipeS Δ (own.map (·.2))).set i (.val a)).set j (.val b)) 0 test (· = f (.tuple [a, b])))
    (he : ∀ (s : Shared) (H : Hp) (C : Addr) (cl : List (Str × Addr)) (fp : List Addr) (D : Addr) (φ : Nat → HO → Prop) (a b : PyData), ¬ W.Z D → .tuple [a, b] ∈ xs → f (.tuple [a, b]) = true → DE (X.blk s H scope (compEnvC scope cl C X.env) fp) (W.add D φ) (((wipeS Δ (own.map (·.2))).set i (.val a)).set j (.val b)) 0 elt (eqd _ (g (.tuple [a, b]))))
    (hb : N ≤ BIG) (hr : HS X (Ok W N (Δ.set iy (.val (.list ((xs.filter f).map g))))) sts D)
    (hs : ∀ x, foldedSetIterable iter X.env x = pure x := by intro _; rfl) :
    HS X (Ok W N Δ) (.Assign [.Name y' py'] (.ListComp elt [⟨.Tuple [.Name x px, .Name y py] kt pt, iter, [test], 0⟩] scope pos) spos :: sts) D := by
  have qt : ∀ (s : Shared) (H : Hp) (C : Addr) (cl : List (Str × Addr)) (fp : List Addr), QuietX (X.blk s H scope (compEnvC scope cl C X.env) fp) → PTs (X.blk s H scope (compEnvC scope cl C X.env) fp) [test] (lcT2 W (wipeS Δ (own.map (·.2))) i j 0 (· = xs) fun d b => b = f d) :=
    fun s H C cl fp _ => ⟨fun pins s' σ' H' Q I ⟨D, φ, ys, a, b, n1, n2, n3, z⟩ => (dts_one (ht s H C cl fp D φ a b n1 (n2 ▸ n3))).run pins s' σ' H' Q I z⟩
  have qe : ∀ (s : Shared) (H : Hp) (C : Addr) (cl : List (Str × Addr)) (fp : List Addr), QuietX (X.blk s H scope (compEnvC scope cl C X.env) fp) → PE (X.blk s H scope (compEnvC scope cl C X.env) fp) elt (lcE2 W (wipeS Δ (own.map (·.2))) i j 0 (· = xs) (fun d b => b = f d) fun d z => f d = true → z = g d) :=
    fun s H C cl fp _ => ⟨fun pins s' σ' H' Q I ⟨D, φ, ys, a, b, n1, n2, n3, n4, z⟩ => ((he s H C cl fp D φ a b n1 (n2 ▸ n3) n4.symm).imp (A := eqd _ (g (.tuple [a, b]))) fun H v o => (⟨_, eqd_ok o, fun _ => rfl⟩ : ∃ d, Da _ H v d ∧ (f (.tuple [a, b]) = true → d = g (.tuple [a, b])))).run pins s' σ' H' Q I z⟩
  refine hs_cons (mid := fun σ H => Ok W N (Δ.set iy (.val (.list ((xs.filter f).map g)))) σ H) (ps_to (ps_setLcQ hc hN hyi hyl hsw hi ok hx qt qe hs) fun D' σ H z => ?_) hr
  have key : tLc (tDI W Δ 0 (· = xs)) (gTup X.K 2 (gCons (gName i) (gCons (gName j) gNil))) (lcT2 W (wipeS Δ (own.map (·.2))) i j 0 (· = xs) fun d b => b = f d) (lcE2 W (wipeS Δ (own.map (·.2))) i j 0 (· = xs) (fun d b => b = f d) fun d z => f d = true → z = g d) (own.map (·.2)) σ H (fun x H1 => gName iy x σ H1 D'.nx) :=
    lc2_core (m := 0) (c1 := 0) (c2 := 0) (M := xs.length) (Ps := (· = xs)) (Pt := fun d b => b = f d) (Pe := fun d z => f d = true → z = g d) (R := (· = .list ((xs.filter f).map g))) hiv hjv (fun ys e => by rw [show ys = xs from e]; exact Nat.le_refl _) hM2 (fun ys e d md => hpr d (by rw [← show ys = xs from e]; exact md)) (fun ys zs e h => by subst e; rw [h.fn]) _ _ _ ⟨N, by simpa using hb, z.1, fun v H1 k1 q1 o1 => by
      have k2 : Ok W N Δ σ H1 := by simpa using k1
      exact z.2.1 _ _ (k2.put iy (s := .val (.list ((xs.filter f).map g))) ⟨v, rfl, eqd_ok o1⟩)⟩
  exact key
theorem pg_twoQ {x y : Str} {px py pt : Pos} {kt i j : Nat} (qx : QuietX X) (hN : X.N.Nodup) (hi : X.N[i]? = some x) (hj : X.N[j]? = some y) (hx : Loc X.env.scope x) (hy : Loc X.env.scope y)
    (fx : X.fn x = true ∨ X.env.scope.names.lookup x = some .local := by first | exact .inl rfl | exact .inr rfl | assumption) (fy : X.fn y = true ∨ X.env.scope.names.lookup y = some .local := by first | exact .inl rfl | exact .inr rfl | assumption) :
    PG X (.Tuple [.Name x px, .Name y py] kt pt) (gTup X.K 2 (gCons (gName i) (gCons (gName j) gNil))) := pg_tupQ qx (pgs_cons (pg_name hN hi hx fx) (pgs_cons (pg_name hN hj hy fy) pgs_nil))
end
/-! ### isinstance of the error that is handled -/
def rIsP (K : PySem.W.Frag) (pn : List (Addr × PySem.Obj)) : List V → Hp → VK → Prop := fun xs H Q => ∃ (a D : Addr) (oe : PySem.Obj) (c : V) (cv : Value) (b : Bool), xs = [.ref a, c] ∧ (a, oe) ∈ pn ∧ ErrIs a D oe ∧ ExcC K D ∧ (∀ u, RelV c u → u = cv) ∧ PySem.W.kitOne K (.ref D) cv = some b ∧ Q (.bl b) H
def rIsPT (K : PySem.W.Frag) (pn : List (Addr × PySem.Obj)) : List V → Hp → VK → Prop := fun xs H Q => ∃ (a D tp : Addr) (oe : PySem.Obj) (cs : List Addr) (b : Bool), xs = [.ref a, .ref tp] ∧ (a, oe) ∈ pn ∧ ErrIs a D oe ∧ ExcC K D ∧ H tp = some (.tup (cs.map V.ref)) ∧ PySem.W.kitAny K (.ref D) (cs.map Value.ref) = some b ∧ Q (.bl b) H
theorem inst_of {h : Heap} {a D : Addr} {oe : PySem.Obj} (g : h.get? a = some oe) (he : ErrIs a D oe) : PySem.W.InstAt h a oe D none := by
  obtain ⟨e1, e2, vs, e3⟩ := he
  cases oe
  cases e1
  cases e2
  cases e3
  exact ⟨g, rfl, rfl, trivial⟩
section
variable {X : Cx}
theorem call_isP : CallR X (.builtin "isinstance") (rIsP X.K X.pn) := fun pins s σ H xs us Q I r h => by
  obtain ⟨a, D, oe, c, cv, b, rfl, hp, he, C, hcv, ek, q⟩ := h
  cases r with
  | cons r1 r2 => cases r2 with
    | cons r3 r4 =>
      cases r4
      cases r1
      cases hcv _ r3
      exact PySem.W.kia_one (PySem.W.handS_kitx_exc C.hg C.hk C.hs C.hd C.ha C.hn C.ht C.hm) I.kIn (inst_of (I.pin (a, oe) (List.mem_append_left _ hp)).1 he) ek (fun z => nomatch z) fun tk => ⟨.bl b, H, I.kept (t' := tk) fun _ _ z => z, rfl, q⟩
theorem call_isPT : CallR X (.builtin "isinstance") (rIsPT X.K X.pn) := fun pins s σ H xs us Q I r h => by
  obtain ⟨a, D, tp, oe, cs, b, rfl, hp, he, C, ht, ek, q⟩ := h
  cases r with
  | cons r1 r2 => cases r2 with
    | cons r3 r4 =>
      cases r4
      cases r1
      cases r3
      obtain ⟨_, its, hv, ob, gt, ot⟩ := I.hok tp _ ht
      cases vals_refs hv
      obtain ⟨oc, n, od⟩ := ot
      obtain ⟨c1, c2, c3, c4⟩ := ob
      cases oc
      cases od
      exact PySem.W.kia_tup (its := cs.map Value.ref) (PySem.W.handS_kitx_exc C.hg C.hk C.hs C.hd C.ha C.hn C.ht C.hm) I.kIn (inst_of (I.pin (a, oe) (List.mem_append_left _ hp)).1 he) gt ek (fun z => nomatch z) fun tk => ⟨.bl b, H, I.kept (t' := tk) fun _ _ z => z, rfl, q⟩
variable {W : Wd} {Δ : List Sl} {e T' : Expr} {p pos : Pos} {a D : Addr} {oe : PySem.Obj} {b : Bool}
theorem de_isP {c : V} {cv : Value} (hg : Gl X "isinstance") (hm : X.mg "isinstance" = none) (he : DE X W Δ 0 e (raw W.Z (.ref a))) (hT : DE X W Δ 0 T' (raw W.Z c)) (hp : (a, oe) ∈ X.pn) (hi : ErrIs a D oe) (hD : ExcC X.K D) (hc : ∀ u, RelV c u → u = cv) (hk : PySem.W.kitOne X.K (.ref D) cv = some b)
    (s1 : starEach [e, T'] X.env = (false, eval e X.env) :: starEach [T'] X.env := by rfl) (s2 : starEach [T'] X.env = (false, eval T' X.env) :: starEach [] X.env := by rfl) (hpl : (backTo pos (starEach [T'] X.env)).any (·.1) = false := by rfl) : DE X W Δ 0 (.Call (.Name "isinstance" p) [e, T'] [] pos) (eqd W.Z (.bool b)) :=
  de_cb (m := 0) call_isP hg hm boot_isinstance (da_cons (m1 := 0) (m2 := 0) he (da_cons (m1 := 0) (m2 := 0) hT da_nil s2) s1) (fun n H vs w jj o Q q => by
    obtain ⟨v, u, rfl, o1, o2⟩ := allo_2 o
    cases (show v = V.ref a from o1)
    cases (show u = c from o2)
    exact ⟨a, D, oe, c, cv, b, rfl, hp, hi, hD, hc, hk, q _ H Ext.refl (ok_eqd (.bl b))⟩) (by decide) (by decide) s1 hpl
theorem de_isPT {cs : List Addr} (hg : Gl X "isinstance") (hm : X.mg "isinstance" = none) (he : DE X W Δ 0 e (raw W.Z (.ref a))) (hT : DE X W Δ 0 T' (clsT W.Z cs)) (hp : (a, oe) ∈ X.pn) (hi : ErrIs a D oe) (hD : ExcC X.K D) (hk : PySem.W.kitAny X.K (.ref D) (cs.map Value.ref) = some b)
    (s1 : starEach [e, T'] X.env = (false, eval e X.env) :: starEach [T'] X.env := by rfl) (s2 : starEach [T'] X.env = (false, eval T' X.env) :: starEach [] X.env := by rfl) (hpl : (backTo pos (starEach [T'] X.env)).any (·.1) = false := by rfl) : DE X W Δ 0 (.Call (.Name "isinstance" p) [e, T'] [] pos) (eqd W.Z (.bool b)) :=
  de_cb (m := 0) call_isPT hg hm boot_isinstance (da_cons (m1 := 0) (m2 := 0) he (da_cons (m1 := 0) (m2 := 0) hT da_nil s2) s1) (fun n H vs w jj o Q q => by
    obtain ⟨v, u, rfl, o1, t, rfl, h1, h2⟩ := allo_2 o
    cases (show v = V.ref a from o1)
    exact ⟨a, D, t, oe, cs, b, rfl, hp, hi, hD, h2, hk, q _ H Ext.refl (ok_eqd (.bl b))⟩) (by decide) (by decide) s1 hpl
end
/-! ### a def that is called there -/
theorem Fun.okH {P : Program} {w : World} {K : PySem.W.Frag} {mg : Str → Option Value} {base : Heap} {CX : CXT} {x qual : Str} {st : Stmt} {f : Addr} {fd : FuncData} {N ps : List Str} {k : Nat} {sp : Sp} (F : Fun K x qual st f fd) (S : FnScope N ps (defScope st)) (len : ∀ vs H Q E, sp vs H Q E → vs.length = ps.length)
    (hbody : ∀ (cdv : Value) (A : Around) (outer : List Env) (s : Shared) (H : Hp) (vs : List V) (Q : VK) (E : XK) (p : Addr × PySem.Obj), L2H.Hot1 A p → L2H.RoomH k (A.deeper (envOfC qual (defScope st) s.heap.objs.size f cdv)) → sp vs H Q E →
      ∃ t, PSs (L2H.cxH CX P w K mg base N qual (defScope st) f cdv A outer s H E p) (defBody st) t ∧ t { nx := fun _ H' => Q .non H', rt := Q } (L2.start N vs) H) : L2H.FnH P w K mg base CX (k + 1) f fd ps sp := by
  obtain ⟨oc, od, kV, doc, pm, an, cdv, ct, osl, rfl, lk, hcd⟩ := F.ex
  exact L2H.fn_ofH lk hcd S len fun A outer s H vs Q E p hot rm hsp => hbody cdv A outer s H vs Q E p hot rm hsp
end Dv
set_option maxRecDepth 100000
set_option maxHeartbeats 4000000
/-! Dv62: a def that is called with the error that an except suite holds: its promise speaks of the error. -/
namespace Dv
open PySem PySem.Spec PyProof.Rows L2 L2H HotX
structure FnE (P : Program) (w : World) (K : PySem.W.Frag) (mg : Str → Option Value) (base : Heap) (k : Nat) (f : Addr) (fd : FuncData) (ps : List Str) (sp : Addr × PySem.Obj → Sp) : Prop where
  len : ∀ p vs H Q E, sp p vs H Q E → vs.length = ps.length
  run : ∀ (p : Addr × PySem.Obj) (A : Around) (outer : List Env) (s : Shared) (H : Hp) (args : Args) (us : List Value) (vs : List V) (Q : VK) (E : XK), RoomH k A → Hot1 A p → PinOk outer H s p → Env0 P w K mg base A outer s H → BindsTo s fd args (ps.zip us) → Vals vs us → sp p vs H Q E →
    codeAny (model P w) A (.call (.ref f) args) (CR CX0 outer P w H s Q E) s
theorem okE {P : Program} {w : World} {K : PySem.W.Frag} {mg : Str → Option Value} {base : Heap} {x qual : Str} {st : Stmt} {f : Addr} {fd : FuncData} {N ps : List Str} {k : Nat} {sp : Addr × PySem.Obj → Sp} (F : Fun K x qual st f fd) (S : FnScope N ps (defScope st)) (len : ∀ p vs H Q E, sp p vs H Q E → vs.length = ps.length)
    (hbody : ∀ (cd : Value) (A : Around) (outer : List Env) (s : Shared) (H : Hp) (vs : List V) (Q : VK) (E : XK) (p : Addr × PySem.Obj), Hot1 A p → RoomH k (A.deeper (envOfC qual (defScope st) s.heap.objs.size f cd)) → sp p vs H Q E →
      ∃ t, PSs (cxH CX0 P w K mg base N qual (defScope st) f cd A outer s H E p) (defBody st) t ∧ t { nx := fun _ H' => Q .non H', rt := Q } (L2.start N vs) H) : FnE P w K mg base (k + 1) f fd ps sp := by
  obtain ⟨oc, od, kV, doc, pm, an, cdv, ct, osl, rfl, lk, hcd⟩ := F.ex
  refine ⟨len, fun p A outer s H args us vs Q E rm hot pin e0 bd rv hsp => ?_⟩
  have inS : ∀ b o, base.get? b = some o → s.heap.get? b = some o := fun b o e => (e0.bs b o e).1
  have KX : K.In s.heap := e0.mod.kin.keeps inS
  have kinds : ∀ y ∈ ps.zip us, (defScope st).names.lookup y.1 = some .local ∨ ((defScope st).names.lookup y.1 = some .cell ∧ ((cellsFrom (s.heap.objs.size + 1) (defScope st).names []).lookup y.1).isSome = true) := fun y hy => (S.par y.1 (List.of_mem_zip (show (y.1, y.2) ∈ _ from hy)).1).imp id fun q => ⟨q, PySem.W.cellsFrom_some _ _ _ (.inl q)⟩
  refine codeAny_call_function rm.depth (KX _ _ lk) rfl S.co S.gen rfl (PySem.W.codeRec_of KX hcd) (bd _ _ _ _ (wpAny_newFunctionEnv_cells S.kind kinds fun env he s1 ic => ?_))
  subst he
  refine ⟨(e0.mod.nolimit.keeps inS).keeps ic.toInCall.keep, codeAny_func ?_⟩
  obtain ⟨t, ht, hq⟩ := hbody cdv A outer s H vs Q E p hot (rm.deeper _) hsp
  refine wpAny_mono (ht.run [] s1 (L2.start N vs) H _ (inv_startH S pin e0 (len _ _ _ _ _ hsp) rv ic) hq) (fun fl s' hs => ?_) fun e s' hs => hs
  cases fl with
  | ret u => obtain ⟨v, σ', H', J, r, q⟩ := hs; exact ⟨v, H', J.os, J.bare, J.base, J.hok, r, q⟩
  | next => obtain ⟨σ', H', J, q⟩ := hs; exact ⟨V.non, H', J.os, J.bare, J.base, J.hok, rfl, q⟩
  | brk => exact hs.elim fun _ z => z.elim fun _ z => z.2.elim
  | cont => exact hs.elim fun _ z => z.elim fun _ z => z.2.elim
section
variable {X : Cx} {k : Nat} {f : Addr} {fd : FuncData} {ps : List Str} {sp : Addr × PySem.Obj → Sp} {x : Str} {q pos : Pos} {e : Expr} {es : List Expr} {t : TA} {p : Addr × PySem.Obj} {E : XK}
/-- f(..) while p is handled -/
theorem pe_callE (F : FnE X.prog X.w X.K X.mg X.base k f fd ps sp) (hr : RoomH k X.A) (hot : Hot1 X.A p) (hp : p ∈ X.pn) (hg : Gl X x) (hm : X.mg x = some (.ref f)) (hk : PySem.W.keepIn X.K (.ref f) = true) (hb : Binds X.K fd ps []) (ha : PA X (e :: es) t)
    (hdb : (x == ("__debug__" : Str)) = false := by decide) (he : starEach (e :: es) X.env = (false, eval e X.env) :: starEach es X.env := by rfl) (hpl : (backTo pos (starEach es X.env)).any (·.1) = false := by rfl) :
    PE X (.Call (.Name x q) (e :: es) [] pos) (fun σ H Q => t σ H fun vs H1 => sp p vs H1 Q E) := ⟨fun pins s σ H Q I h => by
  refine wpAny_Call_Name_kw (ld_glob I hg hm ?_ hdb)
  refine PySem.W.callWith_K (h₀ := X.base) I.ok.mod.kin hk (thn (ha.run pos pins s σ H _ I h) fun us s1 ⟨vs, H1, I1, r, z⟩ => ⟨I1.kIn, ?_⟩) he hpl
  have len : us.length = ps.length := by rw [← r.length]; exact F.len _ _ _ _ _ z
  have b := hb s1 us I1.kIn (by rw [List.append_nil]; exact len)
  rw [List.append_nil] at b
  have g := I1.pin p (List.mem_append_left _ hp)
  refine wpAny_call (codeAny_mono (F.run p X.A X.stack s1 H1 ⟨us, []⟩ us vs Q E hr hot ⟨g.1, g.2.1, fun hm => (List.mem_cons.mp (I1.stkSub p.1 hm)).elim g.2.2.1 g.2.2.2.1, g.2.2.2.2⟩ I1.env0 b r z) fun r s' hq => ?_)
  cases r with
  | error e => exact (hq : False).elim
  | ok fl => cases fl with
    | ret u => exact I1.after hq
    | next => exact False.elim hq
    | brk => exact False.elim hq
    | cont => exact False.elim hq⟩
end
end Dv
set_option maxRecDepth 100000
set_option maxHeartbeats 4000000
/-! Dv63: try: .. except X as n: suite that returns. -/
namespace Dv
open PySem PySem.Spec PyProof.Rows L2
theorem pss_hyp {X : Cx} {sts : List Stmt} {t : TS} (h : ∀ D σ H, σ.length = X.N.length → t D σ H → ∃ t', PSs X sts t' ∧ t' D σ H) : PSs X sts t :=
  ⟨fun pins s σ H D I z => by
    obtain ⟨t', p, z'⟩ := h D σ H I.len z
    exact p.run pins s σ H D I z'⟩
section
variable {X : Cx} {W : Wd} {Δ : List Sl} {N : Nat} {Dn : Ends} {sts body suite : List Stmt} {b₀ : Stmt} {x n : Str} {c : Value} {i : Nat} {np pos pos' : Pos} {Wout : WX} {pr mid : L2.St → Hp → Prop} {RS : Value → Option Addr → Hp → Prop}
/-- try: body except x as n: suite; what the body may raise is told by RS, all of it is caught; the suite returns -/
theorem hs_tryAs (hs : X.stack = X.env :: X.outer) (hf : X.env.frame = some X.env.locals) (hN : X.N.Nodup) (hi : X.N[i]? = some n) (hln : X.env.kindOf n = some .local) (hc : Names X x c) (tk : L2N.Takes X Wout)
    (hx : ∀ cls d H, RS cls d H → PySem.W.exmOne X.K cls c = some true)
    (hb : ∀ (Wx : WX) (pn : List (Addr × PySem.Obj)) (xe : Value → Shared → Prop), L2N.Takes (X.tr pn xe) Wx → PassesOwn (model X.prog X.w) X.A X.env xe → (∀ cls d σ' H', RS cls d H' → Wx cls d σ' H') → HS (X.tr pn xe) pr body { nx := mid, rt := Dn.rt })
    (hsu : ∀ (a : Addr) (oe : PySem.Obj) (cls : Value) (d : Option Addr) (pn : List (Addr × PySem.Obj)), L2N.Zn cls d oe → (∃ vs, oe.data = .fields vs) → HS (X.suite a ((a, oe) :: pn)) (fun σ H => σ[i]? = some (some (.ref a)) ∧ H a = none ∧ RS cls d H) (b₀ :: suite) { nx := fun _ _ => False, rt := Dn.rt })
    (hr : HS X mid sts Dn) : HS X pr (.Try body [.ExceptHandler (some (.Name x np)) (some n) (b₀ :: suite) pos'] [] [] pos :: sts) Dn := by
  refine hs_cons (mid := mid) (ps_to (L2N.ps_try_as (i := i) (tb := fun Wx D σ H => (∀ cls d σ' H', RS cls d H' → Wx cls d σ' H') ∧ pr σ H ∧ (∀ σ H, mid σ H → D.nx σ H) ∧ (∀ v H, Dn.rt v H → D.rt v H)) (ts := fun a cls d D σ H => (i < σ.length → σ[i]? = some (some (.ref a))) ∧ H a = none ∧ RS cls d H ∧ (∀ v H, Dn.rt v H → D.rt v H)) hs hf hN hi hln hc tk
      (fun Wx pn xe tk' hp => pss_hyp fun D σ H _ z => ⟨_, hb Wx pn xe tk' hp z.1, z.2.1, z.2.2.1, z.2.2.2, fun _ _ q => q.elim, fun _ _ q => q.elim⟩)
      (fun a oe cls d pn hz hd => pss_hyp fun D σ H hl z => ⟨_, hsu a oe cls d pn hz hd, ⟨z.1 (by rw [hl]; exact (List.getElem?_eq_some_iff.mp hi).1), z.2.1, z.2.2.1⟩, fun _ _ q => q.elim, z.2.2.2, fun _ _ q => q.elim, fun _ _ q => q.elim⟩))
    fun D' σ H z => ?_) hr
  refine ⟨fun cls d σ' H' r => ⟨true, hx cls d H' r, fun _ a ha => ⟨fun l => ?_, ha, r, z.2.2.1⟩, fun q => nomatch q⟩, z.1, z.2.1, z.2.2.1⟩
  exact List.getElem?_set_self (by simpa using l)
end
end Dv
set_option maxRecDepth 100000
set_option maxHeartbeats 4000000
/-! Dv64: what repr takes of great ints. -/
namespace Dv
open PySem PySem.Spec PyProof.Rows L2
theorem shown_neg (m : Nat) : (Str.ofString (toString (Int.negSucc m))).length = (Nat.toDigits 10 (m + 1)).length + 1 := by
  show (Str.ofString ("-" ++ Nat.repr (m + 1))).length = _
  rw [Str.ofString_eq_toList]
  show ((("-" ++ Nat.repr (m + 1)).toList.map Char.toNat).toArray).size = _
  rw [List.size_toArray, List.length_map]
  simp [Nat.repr, String.toList_append]
theorem shown_len {i : Int} (h : i.natAbs < 10 ^ 100) : (PyData.shown (.int i)).length ≤ 101 := by
  cases i with
  | ofNat m =>
    show (Str.ofString (toString (Int.ofNat m))).length ≤ 101
    rw [text_ofNat]
    show ((Nat.toDigits 10 m).map Char.toNat).toArray.size ≤ 101
    rw [List.size_toArray, List.length_map]
    exact Nat.le_trans (digits10_le (by decide) h) (by decide)
  | negSucc m =>
    show (Str.ofString (toString (Int.negSucc m))).length ≤ 101
    rw [shown_neg]
    exact Nat.succ_le_succ (digits10_le (by decide) h)
theorem sw_bigI {b : Nat} {i : Int} (h : i.natAbs < 10 ^ 100) : Sw b 0 (.int i) := by
  refine ⟨?_, ?_, Nat.zero_le _, Nat.le_refl _⟩
  · show decide (i.natAbs.log2 < 1920) = true
    refine decide_eq_true ?_
    by_cases h0 : i.natAbs = 0
    · rw [h0]; decide
    · exact (Nat.log2_lt h0).mpr (Nat.lt_of_lt_of_le h (by decide +kernel))
  · exact decide_eq_true (Nat.le_trans (shown_len h) (by decide))
end Dv
set_option maxRecDepth 100000
set_option maxHeartbeats 4000000
/-! Dv65: an item of a tuple, picked. -/
namespace Dv
open PySem PySem.Spec PyProof.Rows L2
section
variable {X : Cx} {W : Wd} {Δ : List Sl} {m1 m2 : Nat} {a b : Expr} {pos : Pos}
theorem de_pickT {ds : List PyData} {Pi : Int → Prop} {R : PyData → Prop} (ha : DE X W Δ m1 a (eqd W.Z (.tuple ds))) (hb : DE X W Δ m2 b (intp W.Z Pi)) (hR : ∀ i, Pi i → ∃ d, atI ds i = some d ∧ R d) (hs : PlainIx b := by intro _ _; rfl) : DE X W Δ (m1 + m2) (.Subscript a b pos) (dat W.Z R) :=
  de_ix ix_tup ha hb (fun n H v u w jj o1 o2 Q q => by
    have o1 := eqd_ok o1
    obtain ⟨_, o2, i, rfl, pi⟩ := o2
    cases o2
    obtain ⟨d, hd, hr⟩ := hR i pi
    cases o1 with
    | tup r1 n1 d1 =>
      obtain ⟨v, h3, h4⟩ := ix_das d1 hd
      exact ⟨_, _, i, v, rfl, rfl, .inl (.inl r1), h3, q v H Ext.refl ⟨d, h4, hr⟩⟩) hs
theorem cutD_mem {xs : List PyData} {lo hi : Option Int} {d : PyData} (h : d ∈ cutD xs lo hi) : d ∈ xs := List.mem_of_mem_drop (List.mem_of_mem_take h)
theorem cutD_len {xs : List PyData} {lo hi : Option Int} : (cutD xs lo hi).length ≤ xs.length := by
  unfold cutD
  rw [List.length_take, List.length_drop]
  omega
end
section
variable {W : Wd}
theorem o_catR {Q1 Q3 : List PyData → Prop} {ys : List PyData} (h : ∀ xs, Q1 xs → xs.length + ys.length ≤ sizeLine ∧ Q3 (xs ++ ys)) : Op2 W rCat (dat W.Z fun d => ∃ xs, d = .list xs ∧ Q1 xs) (eqd W.Z (.list ys)) (dat W.Z fun d => ∃ xs, d = .list xs ∧ Q3 xs) :=
  fun n H v u w jj o1 o2 Q q => o_catp (Q1 := Q1) (Q2 := (· = ys)) (Q3 := Q3) (fun xs ys' h1 h2 => by subst h2; exact h xs h1) n H v u w jj o1 ⟨_, eqd_ok o2, ys, rfl, rfl⟩ Q q
theorem o_catL {Q2 Q3 : List PyData → Prop} {xs : List PyData} (h : ∀ ys, Q2 ys → xs.length + ys.length ≤ sizeLine ∧ Q3 (xs ++ ys)) : Op2 W rCat (eqd W.Z (.list xs)) (dat W.Z fun d => ∃ xs, d = .list xs ∧ Q2 xs) (dat W.Z fun d => ∃ xs, d = .list xs ∧ Q3 xs) :=
  fun n H v u w jj o1 o2 Q q => o_catp (Q1 := (· = xs)) (Q2 := Q2) (Q3 := Q3) (fun xs' ys h1 h2 => by subst h1; exact h ys h2) n H v u w jj ⟨_, eqd_ok o1, xs, rfl, rfl⟩ o2 Q q
end
end Dv
set_option maxRecDepth 100000
set_option maxHeartbeats 4000000
/-! Dv66: enumerate of a list not known exactly; x, y = list(a), c; x[i] = e, e data with P. -/
namespace Dv
open PySem PySem.Spec PyProof.Rows L2
section
variable {X : Cx} {W : Wd} {Δ : List Sl} {m : Nat} {e : Expr} {p pos tpos : Pos} {elts : List Expr} {kk : Nat}
theorem di_enumP {Q : List PyData → Prop} (hg : Gl X "enumerate") (hm : X.mg "enumerate" = none) (h : DE X W Δ m e (dat W.Z fun d => ∃ ds, d = .list ds ∧ Q ds)) (hs : starEach [e] X.env = [(false, eval e X.env)] := by rfl) (hs' : starEach (e :: []) X.env = (false, eval e X.env) :: starEach [] X.env := by rfl) :
    DI X W Δ m (.Tuple elts kk tpos) (.Call (.Name "enumerate" p) [e] [] pos) (fun xs => ∃ ds, xs = enumD ds ∧ Q ds) :=
  pi_to (pi_enum hg hm (da_cons h da_nil hs') hs) fun σ H R ⟨n, l, k, f⟩ => ⟨n, l, k, fun vs H1 k1 q1 o1 => by
    obtain ⟨v, rfl, d, p1, ds, rfl, pq⟩ := allo_1 o1
    cases p1 with
    | lst r1 n1 c1 =>
      rename_i a us
      have wk : Walk (Ite X.K a) (enumD ds).length (fun H => SqL X.K H a us) (YPair (fun i => some (.int (i : Nat))) (fun i => us[i]?)) := by
        rw [enumD_len, ← c1.length]
        exact walk_enum
      refine ⟨a, us, rfl, .inl (.inl r1), f _ H1 _ k1 q1 ⟨ds, rfl, pq⟩ ⟨⟨_, _, wk, fun Z' H z' k' => .inl (.inl (kpz z' k' n1 r1)), fun Z' i H x H' z' k' alive hi y => ?_⟩⟩⟩
      obtain ⟨T, x1, x2, rfl, hT, rfl, g1, g2⟩ := y
      cases g1
      obtain ⟨y2, e2, f2⟩ := c1.getV g2
      exact ⟨Ext.new hT, .tuple [.int (i : Nat), y2], enumD_get e2, .tup upd_same (fun z => alive T z hT) (.cons (.int _) (.cons (((f2.mono Kp.refl z').kp k').kp (Ext.new hT).kp) .nil))⟩⟩
end
section
variable {X : Cx} {W : Wd} {Δ : List Sl} {m me N : Nat} {e a c oe ie : Expr} {D : Ends} {sts : List Stmt} {pos : Pos} {ds : List PyData}
/-- x, y = list(a), c -/
theorem hs_parLD {i k0 : Nat} {x z : Str} {d : PyData} {px pz pt l1 q1 : Pos} {kt k2 pt2} (hc : X.calm = true) (hN : X.N.Nodup) (hi : X.N[i]? = some x) (hk : X.N[k0]? = some z) (hik : i ≠ k0)
    (hx : X.env.scope.names.lookup x = some .local) (hz : X.env.scope.names.lookup z = some .local) (hg : Gl X "list") (hm : X.mg "list" = none)
    (ha : DE X W Δ 0 a (eqd W.Z (.list ds))) (hd : ∀ p us, DE X (W.add p fun _ o => o = .lst us) Δ 0 c (eqd _ d)) (hN2 : N ≤ BIG)
    (hr : ∀ p us, HS X (Ok (W.pinL [(p, .lst us)]) N ((Δ.set i (.own p us ds)).set k0 (.val d))) sts D)
    (hw : swappedStores [.Tuple [.Name x px, .Name z pz] kt pt] (.Tuple [.Call (.Name "list" l1) [a] [] q1, c] k2 pt2) X.env = pure (some [x, z]))
    (hs : swapsWithSole [.Tuple [.Name x px, .Name z pz] kt pt] (.Tuple [.Call (.Name "list" l1) [a] [] q1, c] k2 pt2) pos.line X.env = pure false := by rfl)
    (g1 : starEach (a :: []) X.env = (false, eval a X.env) :: starEach [] X.env := by rfl) (g1' : (backTo q1 (starEach [] X.env)).any (·.1) = false := by rfl) (g2 : starEach [.Call (.Name "list" l1) [a] [] q1, c] X.env = (false, eval (.Call (.Name "list" l1) [a] [] q1) X.env) :: starEach [c] X.env := by rfl) (g3 : starEach (c :: []) X.env = (false, eval c X.env) :: starEach [] X.env := by rfl) :
    HS X (Ok W N Δ) (.Assign [.Tuple [.Name x px, .Name z pz] kt pt] (.Tuple [.Call (.Name "list" l1) [a] [] q1, c] k2 pt2) pos :: sts) D := by
  have hd' : PE X c (fun σ H Q => ∃ p us, tD (W.add p fun _ o => o = .lst us) Δ 0 (eqd _ d) σ H Q) := ⟨fun pins s σ H Q I ⟨p, us, z⟩ => (hd p us).run pins s σ H Q I z⟩
  refine hs_cons (mid := fun σ H => ∃ p us, Ok (W.pinL [(p, .lst us)]) N ((Δ.set i (.own p us ds)).set k0 (.val d)) σ H)
    (ps_to (ps_par hc hN hi hk hik hx hz (pa_cons (pe_callTy call_list_of hg hm (by rfl) (da_cons (m2 := 0) ha da_nil g1) (by decide) (by decide) g1 g1') (pa_cons hd' pa_nil g3) g2) hw hs) fun D' σ H z => ?_) (hs_ex fun p => hs_ex fun us => hr p us)
  have az : ∀ {W : Wd} {p : Addr} {φ : Nat → HO → Prop} {b : Addr}, (W.add p φ).Z b → W.Z b ∨ b = p := fun {W p φ b} c => by
    rcases c with c | ⟨t, m, e⟩
    · exact .inl (.inl c)
    · rcases List.mem_cons.mp m with rfl | m
      · exact .inr e.symm
      · exact .inl (.inr ⟨t, m, e⟩)
  refine ⟨N, hN2, z.1, fun vs1 H1 k1 q1 a1 => ?_⟩
  obtain ⟨v1, rfl, o1⟩ := allo_1 a1
  have d1 := eqd_ok o1
  cases d1 with
  | lst r1 nz1 hd1 =>
    rename_i b1 us
    refine ⟨b1, us, rfl, .inl (.inl (.inl r1)), fun p hp => ?_⟩
    have kA : Ok (W.add p fun _ o => o = .lst us) N Δ σ (upd H1 p (.lst us)) := k1.pin hp (Ext.new hp).kp (k1.w.ext k1.j (Ext.new hp)) (Nat.le_refl _) (o := .lst us) upd_same ⟨0, Nat.zero_le _, rfl⟩
    have D1 : Das (W.add p fun _ o => o = .lst us).Z (upd H1 p (.lst us)) us ds := hd1.mono (Ext.new hp).kp fun b c => (az c).elim Or.inl (fun (e : b = p) => Or.inr (by rw [e]; exact hp))
    refine ⟨p, us, N, hN2, kA, fun v3 H3 k3 q3 o3 => ?_⟩
    exact ⟨_, _, rfl, z.2.1 _ _ ⟨p, us, (k3.put i (s := .own p us ds) (v := .ref p) ⟨rfl, D1.kp q3⟩).put k0 (s := .val d) ⟨_, rfl, eqd_ok o3⟩⟩⟩
variable {l : List (Addr × HO)} {q : Addr} {vs : List V}
/-- x[i] = e, x a list of one's own: i known, e data with P -/
theorem hs_stP {io j : Nat} {Pd : PyData → Prop} {ps : Pos} {i : Int} (ho : PE X oe (tVar io)) (hs : Δ[io]? = some (.own q vs ds)) (hl : l[j]? = some (q, .lst vs)) (he : DE X (W.pinL l) Δ me e (dat _ Pd)) (hi : DE X (W.pinL l) Δ 0 ie (eqd _ (.int i))) (hp : 0 ≤ i ∧ i < vs.length) (hb : N + me ≤ BIG)
    (hr : ∀ v d, Pd d → HS X (Ok (W.pinL (l.set j (q, .lst (vs.set i.toNat v)))) (N + me) (Δ.set io (.own q (vs.set i.toNat v) (ds.set i.toNat d)))) sts D)
    (ha : ∀ v, assign (.Subscript oe ie ps) X.env v = (do let ov ← holding [v] (eval oe X.env); let iv ← holding [v, ov] (eval ie X.env); standAt ps; holding [v, ov, iv] (setItem ov iv v); release [v, ov, iv] []) := by intro _; rfl)
    (h1 : swapsWithSole [.Subscript oe ie ps] e pos.line X.env = pure false := by rfl) (h2 : swappedStores [.Subscript oe ie ps] e X.env = pure none := by rfl) : HS X (Ok (W.pinL l) N Δ) (.Assign [.Subscript oe ie ps] e pos :: sts) D := by
  refine hs_cons (mid := fun σ H => ∃ v d, Pd d ∧ Ok (W.pinL (l.set j (q, .lst (vs.set i.toNat v)))) (N + me) (Δ.set io (.own q (vs.set i.toNat v) (ds.set i.toNat d))) σ H) (ps_to (ps_asg he (pg_sub ho hi set_list ha) h1 h2) fun D' σ H z0 => ⟨N, by omega, z0.1, fun v H1 k1 q1 o1 => ?_⟩) (hs_ex fun v => hs_ex fun d => hs_and (hr v d))
  obtain ⟨d, da, pd⟩ := o1
  refine ⟨_, (k1.own hs).1, N + me, hb, by simpa using k1, fun u H2 k2 q2 o2 => ?_⟩
  have o2 := eqd_ok o2
  cases o2
  have hq := (pinL_j.mp k2.j).1 _ (List.mem_of_getElem? hl)
  have jn : ixN vs.length i = some i.toNat := by
    unfold ixN
    rw [if_pos hp.1, if_pos hp.2]
  have o3 := k2.own hs
  refine ⟨q, vs, i, i.toNat, rfl, rfl, hq, jn, z0.2.1 _ _ ⟨v, d, pd, ?_⟩⟩
  have k3 := (k2.mut hl (.lst (vs.set i.toNat v))).put io (s := .own q (vs.set i.toNat v) (ds.set i.toNat d)) (v := .ref q) ⟨rfl, hs_stL.das_set (o3.2.mono (kp_mut k2 hl) (z_mut hl)) ((da.kp q2).mono (kp_mut k2 hl) (z_mut hl))⟩
  rwa [hs_app.set_self o3.1] at k3
end
end Dv
set_option maxRecDepth 100000
set_option maxHeartbeats 4000000
/-! Dv67: sets of keys of any kind: their members in some order; add. -/
namespace Dv
open PySem PySem.Spec PyProof.Rows L2
section
variable {α : Type} [DecidableEq α] {P : Program} {w : World} {κ : PySem.KeyKind P w α}
/-- rows of a set, by their keys -/
inductive Ents (κ : PySem.KeyKind P w α) : List (Int × Value) → List α → Prop
  | nil : Ents κ [] []
  | cons {e : Int × Value} {l : List (Int × Value)} {k : α} {ks : List α} : κ.is k e.2 = true → e.1 = κ.hash k → e.2.scannable = true → Ents κ l ks → Ents κ (e :: l) (k :: ks)
theorem Ents.perm {l m : List (Int × Value)} (p : l.Perm m) : ∀ {ks : List α}, Ents κ l ks → ∃ js, Ents κ m js ∧ js.Perm ks := by
  induction p with
  | nil => exact fun h => ⟨_, h, .refl _⟩
  | cons x _ ih =>
    rintro ks (_ | ⟨h1, h2, h3, h⟩)
    obtain ⟨js, q1, q2⟩ := ih h
    exact ⟨_, .cons h1 h2 h3 q1, q2.cons _⟩
  | swap x y l =>
    rintro ks (_ | ⟨h1, h2, h3, _ | ⟨g1, g2, g3, h⟩⟩)
    exact ⟨_, .cons g1 g2 g3 (.cons h1 h2 h3 h), .swap _ _ _⟩
  | trans _ _ i1 i2 =>
    intro ks h
    obtain ⟨j1, a1, b1⟩ := i1 h
    obtain ⟨j2, a2, b2⟩ := i2 a1
    exact ⟨j2, a2, b2.trans b1⟩
theorem Ents.elems {l : List (Int × Value)} {ks : List α} (h : Ents κ l ks) : ElemsOf κ l := by
  induction h with
  | nil => exact fun e m => nomatch m
  | cons h1 h2 h3 _ ih =>
    intro e m
    rcases List.mem_cons.mp m with rfl | m
    · exact ⟨⟨_, h1, h2⟩, h3⟩
    · exact ih e m
theorem Ents.mem {l : List (Int × Value)} {ks : List α} (h : Ents κ l ks) (k : α) : k ∈ ks ↔ ∃ e ∈ l, κ.is k e.2 = true := by
  induction h with
  | nil => exact ⟨fun m => (nomatch m), fun ⟨_, m, _⟩ => nomatch m⟩
  | cons h1 h2 h3 _ ih =>
    rw [List.mem_cons, ih]
    constructor
    · rintro (rfl | ⟨e, m, q⟩)
      · exact ⟨_, List.mem_cons_self, h1⟩
      · exact ⟨e, List.mem_cons_of_mem _ m, q⟩
    · rintro ⟨e, m, q⟩
      rcases List.mem_cons.mp m with rfl | m
      · exact .inl (κ.inj _ _ _ q h1)
      · exact .inr ⟨e, m, q⟩
theorem Ents.len {l : List (Int × Value)} {ks : List α} (h : Ents κ l ks) : l.length = ks.length := by
  induction h with
  | nil => rfl
  | cons _ _ _ _ ih => exact congrArg Nat.succ ih
/-- the values of keys -/
inductive KVals (κ : PySem.KeyKind P w α) : List Value → List α → Prop
  | nil : KVals κ [] []
  | cons {v : Value} {vs : List Value} {k : α} {ks : List α} : κ.is k v = true → KVals κ vs ks → KVals κ (v :: vs) (k :: ks)
theorem Ents.vals {l : List (Int × Value)} {ks : List α} (h : Ents κ l ks) : KVals κ (l.map (·.2)) ks := by
  induction h with
  | nil => exact .nil
  | cons h1 _ _ _ ih => exact .cons h1 ih
theorem KVals.perm {l m : List Value} (p : l.Perm m) : ∀ {ks : List α}, KVals κ l ks → ∃ js, KVals κ m js ∧ js.Perm ks := by
  induction p with
  | nil => exact fun h => ⟨_, h, .refl _⟩
  | cons x _ ih =>
    rintro ks (_ | ⟨h1, h⟩)
    obtain ⟨js, q1, q2⟩ := ih h
    exact ⟨_, .cons h1 q1, q2.cons _⟩
  | swap x y l =>
    rintro ks (_ | ⟨h1, _ | ⟨g1, h⟩⟩)
    exact ⟨_, .cons g1 (.cons h1 h), .swap _ _ _⟩
  | trans _ _ i1 i2 =>
    intro ks h
    obtain ⟨j1, a1, b1⟩ := i1 h
    obtain ⟨j2, a2, b2⟩ := i2 a1
    exact ⟨j2, a2, b2.trans b1⟩
variable (κ) in
/-- the set at p has just these members -/
def SetG (h : Heap) (p : Addr) (ks : List α) : Prop := ∃ o rows ep t, h.get? p = some o ∧ o.ExactSet ∧ o.data = .set rows ep t ∧ Ents κ rows.toList ks ∧ ks.Nodup ∧ rows.size < scanBound ∧ t.fits rows.size = true ∧ Ris t.place.toList ∧ (w.params.followText "set-order" = true ∨ t.led = true)
theorem SetG.at {h h' : Heap} {p : Addr} {ks : List α} (R : SetG κ h p ks) (k : ∀ o, h.get? p = some o → h'.get? p = some o) : SetG κ h' p ks := by
  obtain ⟨o, rows, ep, t, ho, r⟩ := R
  exact ⟨o, rows, ep, t, k o ho, r⟩
theorem SetG.of {h : Heap} {p : Addr} {ks : List α} (R : SetG κ h p ks) : h.SetOf κ p (fun k => decide (k ∈ ks)) ks.length := by
  obtain ⟨o, rows, ep, t, ho, hx, hd, en, nd, hb, hf, _⟩ := R
  exact ⟨o, rows, ep, t, ho, hx, hd, en.elems, fun k => by rw [decide_eq_true_iff]; exact en.mem k, hb, hf, by rw [← Array.length_toList]; exact en.len⟩
theorem setG_new (h : Heap) : SetG κ (h.push { cls := .type "set", dict := none, data := .set #[] 0 (.fresh 0 0 (!w.params.followText "set-order")) }) h.objs.size [] := by
  refine ⟨_, #[], 0, _, Heap.get?_push_size _ rfl, ⟨rfl, rfl, rfl⟩, rfl, .nil, List.nodup_nil, by decide, rfl, List.Pairwise.nil, ?_⟩
  show _ ∨ (!w.params.followText "set-order") = true
  cases w.params.followText "set-order"
  · exact .inr rfl
  · exact .inl rfl
/-- what is stored back -/
theorem kept_set {h : Heap} {p : Addr} {o : PySem.Obj} {r1 r2 : Array (Int × Value)} {ep : Nat} {t1 t2 : SetTable} (ho : h.get? p = some o) (hd : o.data = .set r1 ep t1) : (h.update p (PySem.Obj.putSet r2 t2)).get? p = some { o with data := .set r2 (ep + 1) t2 } :=
  PpSet.storeB_at ho hd
end
section
variable {α : Type} [DecidableEq α] {P : Program} {w : World} {κ : PySem.KeyKind P w α} {A : Around} {E : Value → Shared → Prop} {s : Shared} {p : Addr}
theorem setG_tail {gone : Bool → Sem Unit} (hgone : ∀ (b : Bool) (st : Shared) (T : Unit → Shared → Prop), T () st → wpAny (model P w) A (gone b) T E st)
    {o : PySem.Obj} {rows : Array (Int × Value)} {ep : Nat} {t : SetTable} (ho : s.heap.get? p = some o) (hex : o.ExactSet) (hd : o.data = .set rows ep t)
    {r1 : Array (Int × Value)} {t2 : SetTable} {ks : List α} (en : Ents κ r1.toList ks) (nd : ks.Nodup) (hb : r1.size < scanBound) (hf : t2.fits r1.size = true) (hr : Ris t2.place.toList) (hl : w.params.followText "set-order" = true ∨ t2.led = true) {dummy : Bool} {T : Option Bool → Shared → Prop}
    (hT : ∀ h' js, Heap.SameBut p s.heap h' → SetG κ h' p js → js.Perm ks → T (some true) { s with heap := h' }) :
    wpAny (model P w) A (do
        storeSet p r1 t2
        if (!dummy && t2.tooFull) = true then do
            gone (relayAll t2 r1 (SetTable.grown r1.size)).2.2
            storeSet p (relayAll t2 r1 (SetTable.grown r1.size)).1 (relayAll t2 r1 (SetTable.grown r1.size)).2.1
            pure (some true)
          else pure (some true)) T E s := by
  have o1 := kept_set (r2 := r1) (t2 := t2) ho hd
  have b1 := Heap.SameBut.update s.heap p (PySem.Obj.putSet r1 t2)
  refine wpAny_bind (wpAny_storeSet_of ho hd ?_ (fits_of_scanBound hb))
  split
  case isFalse => exact wpAny_pure (hT _ ks b1 ⟨_, r1, _, t2, o1, hex, rfl, en, nd, hb, hf, hr, hl⟩ (.refl _))
  case isTrue =>
    have q1 := relayAll_perm t2 r1 (SetTable.grown r1.size)
    have q2 := relayAll_fits t2 r1 (SetTable.grown r1.size)
    have q3 := relayAll_ris t2 r1 (SetTable.grown r1.size)
    have q4 := relayAll_led t2 r1 (SetTable.grown r1.size)
    generalize relayAll t2 r1 (SetTable.grown r1.size) = Y at q1 q2 q3 q4 ⊢
    obtain ⟨r3, t3, _⟩ := Y
    dsimp only at q1 q2 q3 q4 ⊢
    obtain ⟨js, en3, pj⟩ := en.perm q1.symm
    have z3 : r3.size = r1.size := by rw [← Array.length_toList, q1.length_eq, Array.length_toList]
    have hb3 : r3.size < scanBound := z3 ▸ hb
    refine wpAny_bind (hgone _ _ _ (wpAny_bind (wpAny_storeSet_of o1 rfl ?_ (fits_of_scanBound hb3))))
    have o2 := kept_set (r2 := r3) (t2 := t3) o1 rfl
    exact wpAny_pure (hT _ js (b1.trans (Heap.SameBut.update _ p _)) ⟨_, r3, _, t3, o2, hex, rfl, en3, pj.nodup_iff.mpr nd, hb3, q2, q3, hl.imp id fun z => q4.trans z⟩ pj)
/-- a key is added -/
theorem setG_put {k : α} {v : Value} {ks : List α} {T : Bool → Shared → Prop} (R : SetG κ s.heap p ks) (hk : κ.is k v = true) (hv : v.scannable = true) (room : ks.length + 1 < scanBound)
    (hT : ∀ h' js b, Heap.SameBut p s.heap h' → SetG κ h' p js → js.Perm (if k ∈ ks then ks else k :: ks) → T b { s with heap := h' }) :
    wpAny (model P w) A (setAddHashed p v (κ.hash k)) T E s := by
  obtain ⟨o, rows, ep, t, ho, hex, hd, en, nd, hb, hf, hr, hl⟩ := R
  have hel := en.elems
  unfold setAddHashed setAddHashedIn
  refine wpAny_holding (wpAny_bind (wpAny_setState_of ho hd hf ?_))
  dsimp only
  rw [byScan_of hv hb hel]
  simp only [↓reduceIte]
  unfold setAddByScan
  refine wpAny_bind (wpAny_bind (wpAny_rule ?_))
  refine wpAny_bind (wpAny_setScan_of hk ho hd hf hel ?_)
  cases hfi : List.findIdx? (fun e => κ.is k e.2) rows.toList with
  | some j =>
    dsimp only
    obtain ⟨hj, pj, _⟩ := List.findIdx?_eq_some_iff_getElem.mp hfi
    have hm : k ∈ ks := (en.mem k).mpr ⟨_, List.getElem_mem hj, pj⟩
    exact wpAny_pure (wpAny_pure (hT s.heap ks _ (Heap.SameBut.refl p s.heap) ⟨o, rows, ep, t, ho, hex, hd, en, nd, hb, hf, hr, hl⟩ (by rw [if_pos hm])))
  | none =>
    dsimp only
    have hm : k ∉ ks := fun c => by
      obtain ⟨e, he, q⟩ := (en.mem k).mp c
      have := List.findIdx?_eq_none_iff.mp hfi e he
      rw [q] at this
      cases this
    have way : ∀ (b : Bool) {st : Shared} {T' : Unit → Shared → Prop}, T' () st → wpAny (model P w) A (match b with | true => rule "set.scan.the-table-gave-way" | false => pure ()) T' E st := fun b st T' q => by
      cases b
      · exact wpAny_pure q
      · exact wpAny_rule q
    have q1 := layNew_perm t rows (κ.hash k) v
    have q2 := layNew_fits t rows (κ.hash k) v
    have q3 := layNew_ris t rows (κ.hash k) v hr
    have q4 := layNew_led t rows (κ.hash k) v
    generalize layNew t rows (κ.hash k) v = Y at q1 q2 q3 q4 ⊢
    obtain ⟨r1, t1, dm, gv⟩ := Y
    dsimp only at q1 q2 q3 q4 ⊢
    rw [Array.toList_push] at q1
    obtain ⟨js, en1, pj⟩ := (Ents.cons hk rfl hv en).perm (q1.trans (List.perm_append_singleton _ _)).symm
    have nd1 : js.Nodup := pj.nodup_iff.mpr (List.nodup_cons.mpr ⟨hm, nd⟩)
    have hb1 : r1.size < scanBound := by
      have e1 : r1.size = ks.length + 1 := by rw [← Array.length_toList, en1.len, pj.length_eq, List.length_cons]
      rw [e1]
      exact room
    have led1 : w.params.followText "set-order" = true ∨ t1.led = true := hl.imp id fun z => q4.trans z
    have fin : ∀ h' is, Heap.SameBut p s.heap h' → SetG κ h' p is → is.Perm js → T true { s with heap := h' } := fun h' is sb r q => hT h' is true sb r (by rw [if_neg hm]; exact q.trans pj)
    refine wpAny_bind (way _ ?_)
    split
    · refine wpAny_bind ?_
      rw [hashByValue_scannable 8 hv]
      refine wpAny_pure ?_
      refine setG_tail (κ := κ) (fun b st T' q => way b q) ho hex hd en1 nd1 hb1 ?_ ?_ ?_ (fun h' is sb r q => ?_)
      · first | (split <;> first | exact q2 | exact SetTable.fits_plain_off q2) | exact q2
      · first | (split <;> exact q3) | exact q3
      · first | (split <;> exact led1) | exact led1
      · dsimp only
        exact wpAny_pure (fin h' is sb r q)
    · refine wpAny_bind (wpAny_pure ?_)
      simp only [↓reduceIte]
      refine setG_tail (κ := κ) (fun b st T' q => way b q) ho hex hd en1 nd1 hb1 q2 q3 led1 (fun h' is sb r q => ?_)
      dsimp only
      exact wpAny_pure (fin h' is sb r q)
/-- set.add(key) -/
theorem setG_add {k : α} {v : Value} {ks : List α} {T : Value → Shared → Prop} (R : SetG κ s.heap p ks) (hk : κ.is k v = true) (hv : v.scannable = true) (room : ks.length + 1 < scanBound)
    (hT : ∀ h' js, Heap.SameBut p s.heap h' → SetG κ h' p js → js.Perm (if k ∈ ks then ks else k :: ks) → T .none { s with heap := h', toks := s.toks + 1 }) :
    wpAny (model P w) A (call (.builtin "set.add") [.ref p, v]) T E s := by
  refine wpAny_call_entry F.slot_set_add R.of.typeIs F.entry_set_add ?_ (F.args_set_add_2 _ _)
  unfold Builtin.«set.add» Builtin.Frozenset.oneOther
  simp only [List.isEmpty_nil, bind_assoc]
  unfold Builtin.Frozenset.addrOf setAdd
  refine wpAny_bind (wpAny_pure ?_)
  try dsimp only
  refine wpAny_bind (wpAny_pure ?_)
  try dsimp only
  refine wpAny_bind (wpAny_holding (wpAny_bind (κ.pyHash hk (setG_put (s := { s with toks := s.toks + 1 }) R hk hv room fun h' js b sb r q => ?_))))
  show wpAny _ _ (ret Value.none) _ _ _
  exact wpAny_pure ⟨_, rfl, hT h' js sb r q⟩
end
end Dv
set_option maxRecDepth 100000
set_option maxHeartbeats 4000000
/-! Dv68: set comprehensions over data. -/
namespace Dv
open PySem PySem.Spec PyProof.Rows L2
/-- a kind of keys, as values of the layer -/
structure KeyV (α : Type) [DecidableEq α] where
  kf : ∀ (P : Program) (w : World), PySem.KeyKind P w α
  kd : α → PyData
  kv : α → V
  da : ∀ {Z : Addr → Prop} {H : Hp} {v : V} {k : α}, Da Z H v (kd k) → v = kv k
  of : ∀ {Z : Addr → Prop} {H : Hp} (k : α), Da Z H (kv k) (kd k)
  rel : ∀ {P : Program} {w : World} {k : α} {u : Value}, RelV (kv k) u → (kf P w).is k u = true ∧ u.scannable = true
  back : ∀ {P : Program} {w : World} {k : α} {u : Value}, (kf P w).is k u = true → RelV (kv k) u
def textK : KeyV Str where
  kf := fun P w => PySem.strKind P w
  kd := .str
  kv := .str
  da := fun h => by cases h; rfl
  of := fun k => .str k
  rel := fun h => by
    obtain ⟨t, rfl⟩ := h
    exact ⟨by show Value.isStrOf _ (Value.str _ t) = true; simp [Value.isStrOf], rfl⟩
  back := fun h => by
    obtain ⟨t, rfl⟩ := Value.isStrOf_shape h
    exact ⟨t, rfl⟩
def boolV : KeyV Bool where
  kf := fun P w => PpSet.boolK P w
  kd := .bool
  kv := .bl
  da := fun h => by cases h; rfl
  of := fun k => .bl k
  rel := fun h => by
    cases h
    exact ⟨PpSet.boolK_is _ _ _, rfl⟩
  back := fun h => by
    rw [PpSet.isB_shape h]
    rfl
section
variable {α : Type} [DecidableEq α] {P : Program} {w : World} (κ : KeyV α)
/-- the set at p, tracked -/
def SetH (P : Program) (w : World) (p : Addr) (ks : List α) : HO := .ext fun h => SetG (κ.kf P w) h p ks
variable {κ}
theorem setH_ok {H : Hp} {h : Heap} {p : Addr} {ks : List α} (R : SetG (κ.kf P w) h p ks) : ObjOk P w H h p (SetH κ P w p ks) := by
  have ⟨o, _, _, _, ho, _⟩ := R
  exact ⟨R, ⟨o, ho⟩, fun h1 h2 z k => SetG.at z k⟩
theorem setH_at {X : Cx} {pins : List (Addr × PySem.Obj)} {σ : L2.St} {H : Hp} {s : Shared} {p : Addr} {ks : List α} (I : Inv X pins σ H s) (e : H p = some (SetH κ X.prog X.w p ks)) : SetG (κ.kf X.prog X.w) s.heap p ks := (I.hok p _ e).1
theorem gath_set {tg elt iter : Expr} {ifs : List Expr} {scope : Scope} {pos : Pos} : Gath P w (.SetComp elt [⟨tg, iter, ifs, 0⟩] scope pos) tg elt iter ifs (newSet (.type "set")) "set.add" { cls := .type "set", dict := none, data := .set #[] 0 (.fresh 0 0 (!w.params.followText "set-order")) } (fun D => SetH κ P w D []) where
  cl := rfl
  nf := rfl
  make := fun h => PpSet.newSet_ok h
  new := fun H h D e => setH_ok ⟨_, #[], 0, _, e, ⟨rfl, rfl, rfl⟩, rfl, .nil, List.nodup_nil, by decide, rfl, List.Pairwise.nil, by
    show _ ∨ (!w.params.followText "set-order") = true
    cases w.params.followText "set-order"
    · exact .inr rfl
    · exact .inl rfl⟩
  loop := fun I t n h => PpSet.compLoopS_any I t n h
  start := PpSet.codeAny_compStart_set
variable (κ) in
def putS (P : Program) (w : World) (D : Addr) (y : V) (H : Hp) (Nx : Hp → Prop) : Prop := ∃ k ks, y = κ.kv k ∧ H D = some (SetH κ P w D ks) ∧ ks.length + 1 < scanBound ∧ ∀ js, js.Perm (if k ∈ ks then ks else k :: ks) → Nx (upd H D (SetH κ P w D js))
theorem puts_set {X : Cx} : Puts X "set.add" (putS κ X.prog X.w) := by
  intro Y e1 e2 pins σ H s D y v Nx I r h
  rw [← e1, ← e2] at h
  obtain ⟨k, ks, rfl, hD, room, nx⟩ := h
  obtain ⟨q1, q2⟩ := κ.rel (P := Y.prog) (w := Y.w) r
  refine setG_add (setH_at I hD) q1 q2 room fun h' js sb R p => ⟨upd H D (SetH κ Y.prog Y.w D js), ?_, nx js p⟩
  obtain ⟨o, _, _, _, ho, _⟩ := id R
  exact I.write (t' := s.toks + 1) (x := D) (e := D) (o := SetH κ Y.prog Y.w D js) (by rw [hD]; exact True.intro) (.inl rfl) (fun b u hb hu => (sb.2 b hb).trans hu) ⟨o, ho⟩ (setH_ok R)
variable {X : Cx}
/-- {elt for target in iter if ..} as a value -/
theorem pe_scG {elt tg iter : Expr} {ifs : List Expr} {scope : Scope} {own : List (Str × Nat)} {pos : Pos} {wi : TI} {g : TG} {tt : TT} {te : TE} (hc : X.calm = true ∨ L2H.HotC X) (hN : X.N.Nodup) (hi : PIQ X tg iter wi) (ok : BlkOk X.N X.env.scope scope own)
    (hg : ∀ (s : Shared) (H : Hp) (C : Addr) (cl : List (Str × Addr)) (fp : List Addr), QuietX (X.blk s H scope (compEnvC scope cl C X.env) fp) → PG (X.blk s H scope (compEnvC scope cl C X.env) fp) tg g)
    (ht : ∀ (s : Shared) (H : Hp) (C : Addr) (cl : List (Str × Addr)) (fp : List Addr), QuietX (X.blk s H scope (compEnvC scope cl C X.env) fp) → PTs (X.blk s H scope (compEnvC scope cl C X.env) fp) ifs tt)
    (he : ∀ (s : Shared) (H : Hp) (C : Addr) (cl : List (Str × Addr)) (fp : List Addr), QuietX (X.blk s H scope (compEnvC scope cl C X.env) fp) → PE (X.blk s H scope (compEnvC scope cl C X.env) fp) elt te)
    (hs : ∀ x, foldedSetIterable iter X.env x = pure x := by intro _; rfl) : PE X (.SetComp elt [⟨tg, iter, ifs, 0⟩] scope pos) (tAc (fun D => SetH κ X.prog X.w D []) (putS κ X.prog X.w) wi g tt te (own.map (·.2))) := by
  refine ⟨fun pins s σ H Q I h => ?_⟩
  rw [PpSet.eval_SetComp]
  refine ac_core gath_set puts_set hc hN I hi ok hg ht he hs h fun D C s' m H' I' q hn f => ⟨m, hn, fun h'' sb => ?_⟩
  obtain ⟨f0, f1, f2, f3, f4, f5⟩ := f
  exact ⟨.ref D, H', I'.turned (t' := s'.toks) (fun b o hb e => (sb.2 b hb).trans e) f0 f1 f3 f4 f5, rfl, q⟩
end
/-! ### over data -/
theorem ac_it {O : Addr → HO} {put : Addr → V → Hp → (Hp → Prop) → Prop} {J : It} {n : Nat} {G : Hp → Prop} {Y : Nat → Hp → V → Hp → Prop} (wk : Walk J n G Y) {g : TG} {tt : TT} {te : TE} {vs : List Nat} {σ : L2.St} {H1 : Hp} {D : Addr} {Qd : Hp → Prop} (Pv : Nat → Hp → Prop) (h0 : Pv 0 (upd H1 D (O D))) (hG : ∀ i H, i ≤ n → Pv i H → G H)
    (hs : ∀ i x H H', i < n → Pv i H → Y i H x H' → g x (wipe σ vs) H' fun σ2 H2 => wipe σ2 vs = wipe σ vs ∧ tt σ2 H2 fun b H3 => if b = true then te σ2 H3 fun y H4 => put D y H4 (Pv (i + 1)) else Pv (i + 1) H3) (hd : ∀ H, Pv n H → Qd H) :
    ∃ W : Nat → Nat → Hp → Prop, (∃ m, W 0 m (upd H1 D (O D))) ∧ ∀ i m H, W i m H → (J.stop i H ∧ Qd H) ∨ (J.go i H ∧ ∃ Nx : Hp → Prop, (∀ H', Nx H' → ∃ m', m' < m ∧ W (i + 1) m' H') ∧ ∀ x H', J.yld i H x H' → g x (wipe σ vs) H' fun σ2 H2 => wipe σ2 vs = wipe σ vs ∧ tt σ2 H2 fun b H3 => if b = true then te σ2 H3 fun y H4 => put D y H4 Nx else Nx H3) := by
  refine ⟨fun i r H => r = n - i ∧ i ≤ n ∧ Pv i H, ⟨n, rfl, Nat.zero_le _, h0⟩, fun i r H ⟨er, hi, p⟩ => ?_⟩
  subst er
  have gh := hG i H hi p
  rcases Nat.lt_or_ge i n with hlt | hge
  · exact .inr ⟨wk.goes i H hlt gh, Pv (i + 1), fun H' p' => ⟨n - (i + 1), by omega, rfl, hlt, p'⟩, fun x H' y => hs i x H H' hlt p (wk.yields i H x H' hlt gh y)⟩
  · cases Nat.le_antisymm hi hge
    exact .inl ⟨wk.stops H gh, hd H p⟩
section
variable {α : Type} [DecidableEq α] {κ : KeyV α} {X : Cx} {W : Wd} {Δ : List Sl} {pos : Pos}
variable (κ) in
/-- a set whose members have R -/
def setA (P : Program) (w : World) (Z : Addr → Prop) (R : List α → Prop) : As Z := ⟨fun H v => ∃ p ks, v = .ref p ∧ ¬ Z p ∧ H p = some (SetH κ P w p ks) ∧ ks.Nodup ∧ R ks, fun k ⟨p, ks, e, h1, h2, h3⟩ => ⟨p, ks, e, h1, k p _ h1 h2, h3⟩⟩
/-- what is in it behind the first i -/
def InS (f : PyData → Bool) (kk : PyData → α) (xs : List PyData) (ks : List α) : Prop := ks.Nodup ∧ ks.length ≤ xs.length ∧ ∀ k, k ∈ ks ↔ ∃ d ∈ xs, f d = true ∧ kk d = k
theorem ins_nil {f : PyData → Bool} {kk : PyData → α} : InS f kk [] [] := ⟨List.nodup_nil, Nat.le_refl _, fun k => ⟨fun m => (nomatch m), fun ⟨_, m, _⟩ => nomatch m⟩⟩
theorem ins_skip {f : PyData → Bool} {kk : PyData → α} {xs : List PyData} {ks : List α} {d : PyData} (h : InS f kk xs ks) (hf : f d = false) : InS f kk (xs ++ [d]) ks := by
  obtain ⟨h1, h2, h3⟩ := h
  refine ⟨h1, by rw [List.length_append]; exact Nat.le_trans h2 (Nat.le_add_right _ _), fun k => (h3 k).trans ⟨fun ⟨e, m, q⟩ => ⟨e, List.mem_append_left _ m, q⟩, fun ⟨e, m, q1, q2⟩ => ?_⟩⟩
  rcases List.mem_append.mp m with m | m
  · exact ⟨e, m, q1, q2⟩
  · cases List.mem_singleton.mp m
    rw [hf] at q1
    cases q1
theorem ins_take {f : PyData → Bool} {kk : PyData → α} {xs : List PyData} {ks js : List α} {d : PyData} (h : InS f kk xs ks) (hf : f d = true) (p : js.Perm (if kk d ∈ ks then ks else kk d :: ks)) : InS f kk (xs ++ [d]) js := by
  obtain ⟨h1, h2, h3⟩ := h
  have mem : ∀ k, k ∈ js ↔ k ∈ ks ∨ k = kk d := fun k => by
    rw [p.mem_iff]
    split
    · rename_i c
      exact ⟨.inl, fun z => z.elim id fun e => e ▸ c⟩
    · rw [List.mem_cons]
      exact or_comm
  refine ⟨p.nodup_iff.mpr ?_, ?_, fun k => (mem k).trans ?_⟩
  · split
    · exact h1
    · rename_i c
      exact List.nodup_cons.mpr ⟨c, h1⟩
  · rw [p.length_eq, List.length_append]
    split
    · exact Nat.le_trans h2 (Nat.le_add_right _ _)
    · exact Nat.succ_le_succ h2
  · rw [h3 k]
    constructor
    · rintro (⟨e, m, q⟩ | rfl)
      · exact ⟨e, List.mem_append_left _ m, q⟩
      · exact ⟨d, List.mem_append_right _ List.mem_cons_self, hf, rfl⟩
    · rintro ⟨e, m, q1, q2⟩
      rcases List.mem_append.mp m with m | m
      · exact .inl ⟨e, m, q1, q2⟩
      · cases List.mem_singleton.mp m
        exact .inr q2.symm
/-- {elt for x in xs if test}, xs data -/
theorem de_setF {x : Str} {px : Pos} {elt iter test : Expr} {scope : Scope} {own : List (Str × Nat)} {j : Nat} {xs : List PyData} {f : PyData → Bool} {kk : PyData → α} (hc : X.calm = true ∨ L2H.HotC X) (hN : X.N.Nodup) (hi : PIQ X (.Name x px) iter (tDI W Δ 0 (· = xs))) (ok : BlkOk X.N X.env.scope scope own) (hjv : j ∈ own.map (·.2)) (hM2 : xs.length + 1 < scanBound)
    (hx : ∀ (s : Shared) (H : Hp) (C : Addr) (cl : List (Str × Addr)) (fp : List Addr), QuietX (X.blk s H scope (compEnvC scope cl C X.env) fp) → PG (X.blk s H scope (compEnvC scope cl C X.env) fp) (.Name x px) (gName j))
    (ht : ∀ (s : Shared) (H : Hp) (C : Addr) (cl : List (Str × Addr)) (fp : List Addr) (D : Addr) (φ : Nat → HO → Prop) (d : PyData), ¬ W.Z D → d ∈ xs → DT (X.blk s H scope (compEnvC scope cl C X.env) fp) (W.add D φ) ((wipeS Δ (own.map (·.2))).set j (.val d)) 0 test (· = f d))
    (he : ∀ (s : Shared) (H : Hp) (C : Addr) (cl : List (Str × Addr)) (fp : List Addr) (D : Addr) (φ : Nat → HO → Prop) (d : PyData), ¬ W.Z D → d ∈ xs → f d = true → DE (X.blk s H scope (compEnvC scope cl C X.env) fp) (W.add D φ) ((wipeS Δ (own.map (·.2))).set j (.val d)) 0 elt (eqd _ (κ.kd (kk d))))
    (hs : ∀ x, foldedSetIterable iter X.env x = pure x := by intro _; rfl) : DE X W Δ 0 (.SetComp elt [⟨.Name x px, iter, [test], 0⟩] scope pos) (setA κ X.prog X.w W.Z (InS f kk xs)) := by
  have qt : ∀ (s : Shared) (H : Hp) (C : Addr) (cl : List (Str × Addr)) (fp : List Addr), QuietX (X.blk s H scope (compEnvC scope cl C X.env) fp) → PTs (X.blk s H scope (compEnvC scope cl C X.env) fp) [test] (lcT W (wipeS Δ (own.map (·.2))) j 0 (· = xs) fun d b => b = f d) :=
    fun s H C cl fp _ => ⟨fun pins s' σ' H' Q I ⟨D, φ, ys, d, n1, n2, n3, z⟩ => (dts_one (ht s H C cl fp D φ d n1 (n2 ▸ n3))).run pins s' σ' H' Q I z⟩
  have qe : ∀ (s : Shared) (H : Hp) (C : Addr) (cl : List (Str × Addr)) (fp : List Addr), QuietX (X.blk s H scope (compEnvC scope cl C X.env) fp) → PE (X.blk s H scope (compEnvC scope cl C X.env) fp) elt (lcE W (wipeS Δ (own.map (·.2))) j 0 (· = xs) (fun d b => b = f d) fun d z => f d = true → z = κ.kd (kk d)) :=
    fun s H C cl fp _ => ⟨fun pins s' σ' H' Q I ⟨D, φ, ys, d, n1, n2, n3, n4, z⟩ => ((he s H C cl fp D φ d n1 (n2 ▸ n3) n4.symm).imp (A := eqd _ (κ.kd (kk d))) fun H v o => (⟨_, eqd_ok o, fun _ => rfl⟩ : ∃ z, Da _ H v z ∧ (f d = true → z = κ.kd (kk d)))).run pins s' σ' H' Q I z⟩
  refine pe_to (pe_scG (κ := κ) hc hN hi ok hx qt qe hs) ?_
  rintro σ H Q ⟨n, l, k, z⟩
  refine ⟨n, l, k, fun J H1 ys k1 q1 py sr D hD => ?_⟩
  subst py
  obtain ⟨G, Y, wk, hG, hY⟩ := sr.ex
  have nD : ¬ W.Z D := k1.w.new k1.j hD
  let Pv : Nat → Hp → Prop := fun i H' => W.J n H' ∧ Kp W.Z H1 H' ∧ ∃ ks, H' D = some (SetH κ X.prog X.w D ks) ∧ InS f kk (ys.take i) ks
  have inner : ∀ i H', Pv i H' → ∀ ks, H' D = some (SetH κ X.prog X.w D ks) → Ok (W.add D fun _ o => o = SetH κ X.prog X.w D ks) n Δ σ H' := fun i H' ⟨j', e, _⟩ ks ha => k1.pin hD e (by simpa using j') (by omega) ha ⟨0, Nat.zero_le _, rfl⟩
  refine ac_it (put := putS κ X.prog X.w) (O := fun D => SetH κ X.prog X.w D []) (g := gName j) (tt := lcT W (wipeS Δ (own.map (·.2))) j 0 (· = ys) fun d b => b = f d) (te := lcE W (wipeS Δ (own.map (·.2))) j 0 (· = ys) (fun d b => b = f d) fun d z => f d = true → z = κ.kd (kk d)) (vs := own.map (·.2)) (σ := σ) (H1 := H1) (D := D) (Qd := fun H => Q (.ref D) H) wk Pv ?_ ?_ ?_ ?_
  · exact ⟨by simpa using k1.w.ext k1.j (.new hD), (Ext.new hD).kp, [], upd_same, by rw [List.take_zero]; exact ins_nil⟩
  · intro i H' _ ⟨_, e, _⟩
    exact hG (W.add D fun _ _ => True).Z H' (fun a y => sub_z hD a y) (e.wide fun a y => z_add a y)
  · intro i x0 H2 H3 hi' p y
    obtain ⟨j2, e2, ks, ha, hp⟩ := p
    have ko := inner i H2 ⟨j2, e2, ks, ha, hp⟩ ks ha
    obtain ⟨e3, d, hxd, hda⟩ := hY (W.add D fun _ o => o = SetH κ X.prog X.w D ks).Z i H2 x0 H3 (fun a y => sub_z hD a y) (e2.wide fun a y => z_add a y) (fun a y => ko.w.alive _ H2 a ko.j y) hi' y
    have dm : d ∈ ys := List.mem_of_getElem? hxd
    have k3 := ko.ext e3
    have il : i < ys.length := (List.getElem?_eq_some_iff.mp hxd).1
    have etk : ys.take (i + 1) = ys.take i ++ [d] := by rw [List.take_add_one, hxd]; rfl
    have kl := hp.2.1
    rw [List.length_take] at kl
    refine ⟨?_, D, (fun _ o => o = SetH κ X.prog X.w D ks), ys, d, nD, rfl, dm, n, l, ?_, ?_⟩
    · rw [wipe_set _ _ hjv]
      exact wipe_wipe _ _ fun v hv => hv
    · exact ⟨k3.wb, k3.j, pset (show SlOk _ _ (.val d) (some x0) from ⟨x0, rfl, hda⟩) j (wipe_ok _ k3.sl), k3.kept, k3.nd, k3.fr⟩
    · intro b H4 k4 q4 pb
      have back : ∀ {H' : Hp}, Kp (W.add D fun _ o => o = SetH κ X.prog X.w D ks).Z H3 H' → Kp W.Z H1 H' := fun q a o na h1 => by
        have ne : a ≠ D := fun c => by
          rw [c, hD] at h1
          cases h1
        exact q a o (fun c => (add_z.mp c).elim ne na) (e3 a o (e2 a o na h1))
      obtain ⟨⟨o4, h4, _, _, eq4⟩, j4⟩ := add_j.mp k4.j
      subst eq4
      cases b with
      | false => exact ⟨by simpa using j4, back q4, ks, h4, by rw [etk]; exact ins_skip hp pb.symm⟩
      | true =>
        refine ⟨D, (fun _ o => o = SetH κ X.prog X.w D ks), ys, d, nD, rfl, dm, pb, n, l, by simpa using k4, fun y0 H5 k5 q5 o5 => ?_⟩
        obtain ⟨z0, hz0, pe0⟩ := o5
        obtain ⟨⟨o5, h5, _, _, eq5⟩, j5⟩ := add_j.mp k5.j
        subst eq5
        have ez := pe0 pb.symm
        subst ez
        refine ⟨kk d, ks, κ.da hz0, h5, Nat.lt_of_le_of_lt (by omega : ks.length + 1 ≤ ys.length + 1) hM2, fun js pj => ⟨?_, ?_, js, upd_same, by rw [etk]; exact ins_take hp pb.symm pj⟩⟩
        · exact k1.w.loc _ H5 _ (by simpa using j5) fun a y => upd_ne (fun c => nD (c ▸ y))
        · intro a o na h1
          have ne : a ≠ D := fun c => by
            rw [c, hD] at h1
            cases h1
          rw [upd_ne ne]
          exact back (q4.trans q5) a o na h1
  · intro H' ⟨j', e', ks, ha, hp⟩
    rw [List.take_length] at hp
    exact z (.ref D) H' (k1.kp e' j') (q1.trans e') ⟨D, ks, rfl, nD, ha, hp.1, hp⟩
end
end Dv
set_option maxRecDepth 100000
set_option maxHeartbeats 4000000
/-! Dv69: sorted(set of texts), sorted(list of texts): one list only. -/
namespace Dv
open PySem PySem.Spec PyProof.Rows L2
theorem kvals_strs {P : Program} {w : World} : ∀ {vs : List Value} {ks : List Str}, KVals (PySem.strKind P w) vs ks → StrsAre vs ks
  | _, _, .nil => .nil
  | _, _, .cons h r => by
    obtain ⟨t, rfl⟩ := Value.isStrOf_shape h
    exact .cons _ t (kvals_strs r)
section
variable {P : Program} {w : World} {A : Around} {E : Value → Shared → Prop} {s : Shared} {p : Addr} {ks : List Str}
theorem sorted_setT {T : Value → Shared → Prop} (R : SetG (PySem.strKind P w) s.heap p ks) (hh : A.handled = none) (few : ks.length < 64)
    (hT : ∀ (s' : Shared) (q : Addr) (out : Array Value) (c : Nat) (ss : List Str), (∀ b o, s.heap.get? b = some o → s'.heap.get? b = some o) → s'.gens = s.gens → s'.os = s.os → s.heap.objs.size ≤ q → s'.heap.get? q = some (seqObj "list" out c) → StrsAre out.toList ss → ss.Perm ks → sortedS ss = true → T (.ref q) s') :
    wpAny (model P w) A (call (.builtin "sorted") [.ref p]) T E s := by
  obtain ⟨o, rows, ep, t, ho, hex, hd, en, nd, hb, hf, hr, hl⟩ := R
  refine Calls.call_function_entry kind_sorted plain_sorted entry_sorted (args_sorted1 _) ?_
  unfold Builtin.«sorted»
  refine wpAny_bind (m := checkCount "sorted" 1 1 _) (wpAny_pure ?_)
  refine wpAny_bind (collect_set (A := A.in1) hh ⟨o, ho, hex.1, hd⟩ hf hb hr hl fun st vs k1 hz g1 o1 pm => ?_)
  obtain ⟨js, kv, pj⟩ := en.vals.perm pm.symm
  have sv := kvals_strs kv
  have vl : vs.length < 64 := by
    have e1 : vs.length = rows.toList.length := by rw [pm.length_eq, List.length_map]
    rw [e1, en.len]
    exact few
  refine wpAny_bind (wpAny_newList ?_ (by rw [sizeLine_eq]; omega))
  have hoL : (st.heap.push (seqObj "list" vs.toArray 0)).get? st.heap.objs.size = some (seqObj "list" vs.toArray 0) := Heap.get?_push_size _ rfl
  refine wpAny_bind (wpAny_holding (wpAny_call_entry slot_list_sort ⟨_, hoL, rfl⟩ entry_list_sort (list_sort_treeK strKind_oneLt hoL sv.keysOf (fun v₁ v₂ rest e => keyKind_strs (by rw [← e]; exact sv)) vl fun st' hp hs => ⟨_, rfl, ?_⟩) (args_list_sort _)))
  obtain ⟨ss, h1, h2, h3⟩ := sorted_out_str sv hp hs
  obtain ⟨c, hc⟩ := sortedHeap_at (vs := vs) (out := (arrOf st').map (·.2)) hoL
  refine wpAny_pure ⟨_, rfl, hT _ st.heap.objs.size _ c ss (fun b u e => ?_) g1 o1 hz hc h1 (h2.trans pj) h3⟩
  have q := k1 b u e
  have lt := Heap.lt_size q
  show (sortedHeap (st.heap.push (seqObj "list" vs.toArray 0)) st.heap.objs.size vs _).get? b = some u
  rw [sortedHeap_old (Nat.ne_of_lt lt) (by rw [size_push']; exact Nat.lt_succ_of_lt lt)]
  exact Heap.get?_push_of_some _ q
end
def rSortedT (P : Program) (w : World) : List V → Hp → VK → Prop := fun xs H Q => ∃ (p : Addr) (ks : List Str), xs = [V.ref p] ∧ H p = some (SetH textK P w p ks) ∧ ks.length < 64 ∧ ∀ (ss : List Str) (q : Addr), ss.Perm ks → sortedS ss = true → H q = none → Q (.ref q) (upd H q (.lst (ss.map V.str)))
theorem cr_sortedT {X : Cx} (hc : X.calm = true) : CallR X (.builtin "sorted") (rSortedT X.prog X.w) := by
  intro pins s σ H xs us Q I r h
  obtain ⟨p, ks, rfl, hp, few, q⟩ := h
  rw [Vals.ref1 r]
  refine sorted_setT (setH_at I hp) (I.ok.hd hc) few fun s' l out c ss k g o hl hg hi pm hs => ?_
  have len : (ss.map V.str).length ≤ sizeLine := by rw [List.length_map, pm.length_eq, sizeLine_eq]; omega
  have hn : H l = none := I.hok.fresh hl
  have J : Inv X pins σ (upd H l (.lst (ss.map V.str))) { s with heap := s'.heap, gens := s'.gens, drawn := s'.drawn, toks := s'.toks } :=
    I.call (ch := []) (Un.laid k hl hn) (I.hok.laid k hl ⟨len, out.toList, c, vals_of_strs hi, hg⟩) (by rw [g]; exact I.bare) (fun _ z => nomatch z)
  have e : s' = { s with heap := s'.heap, gens := s'.gens, drawn := s'.drawn, toks := s'.toks } := by
    cases s'
    cases s
    cases o
    rfl
  rw [e]
  exact ⟨.ref l, _, J, rfl, q ss l pm hs hn⟩
/-! ### one list only -/
theorem rising_of : ∀ {l : List Str} {x : Str}, risingS x l = true → (∀ y ∈ l, ¬ y.cps.toList < x.cps.toList) ∧ sortedS l = true
  | [], _, _ => ⟨fun _ m => (nomatch m), rfl⟩
  | y :: l, x, h => by
    have h : (!ltCps y.cps.toList x.cps.toList && risingS y l) = true := h
    rw [Bool.and_eq_true, Bool.not_eq_true', ltCps_eq, decide_eq_false_iff_not] at h
    obtain ⟨q1, q2⟩ := rising_of h.2
    refine ⟨fun z m => ?_, h.2⟩
    rcases List.mem_cons.mp m with rfl | m
    · exact h.1
    · exact fun c => h.1 (List.lt_of_le_of_lt (List.not_lt.mp (q1 z m)) c)
theorem cps_ext {x y : Str} (h : x.cps.toList = y.cps.toList) : x = y := by
  cases x
  cases y
  have h := Array.toList_inj.mp h
  cases h
  rfl
theorem sortedS_one : ∀ {l m : List Str}, l.Perm m → sortedS l = true → sortedS m = true → l = m
  | [], m, p, _, _ => (List.Perm.nil_eq p)
  | x :: l, [], p, _, _ => absurd p.length_eq (by simp)
  | x :: l, y :: m, p, h1, h2 => by
    have a1 := rising_of (x := x) (l := l) h1
    have a2 := rising_of (x := y) (l := m) h2
    have e : x = y := by
      rcases List.mem_cons.mp (p.mem_iff.mp List.mem_cons_self) with e | hx
      · exact e
      · rcases List.mem_cons.mp (p.mem_iff.mpr List.mem_cons_self) with e | hy
        · exact e.symm
        · exact cps_ext (List.le_antisymm (List.not_lt.mp (a1.1 y hy)) (List.not_lt.mp (a2.1 x hx)))
    subst e
    rw [sortedS_one (List.perm_cons _ |>.mp p) a1.2 a2.2]
section
variable {X : Cx} {W : Wd} {Δ : List Sl} {e : Expr} {p pos : Pos}
/-- sorted(set of texts) -/
theorem de_sortSet {R : List Str → Prop} (hc : X.calm = true) (hg : Gl X "sorted") (hm : X.mg "sorted" = none) (h : DE X W Δ 0 e (setA textK X.prog X.w W.Z R)) (few : ∀ ks, R ks → ks.length < 64)
    (he : starEach (e :: []) X.env = (false, eval e X.env) :: starEach [] X.env := by rfl) (hpl : (backTo pos (starEach [] X.env)).any (·.1) = false := by rfl) :
    DE X W Δ 0 (.Call (.Name "sorted" p) [e] [] pos) (dat W.Z fun d => ∃ ss ks : List Str, d = .list (ss.map .str) ∧ ks.Nodup ∧ R ks ∧ ss.Perm ks ∧ sortedS ss = true) :=
  pe_to (pe_callB (cr_sortedT hc) hg hm (by rfl) (da_cons (m2 := 0) h da_nil he) (by decide) (by decide) he hpl) fun σ H Q ⟨n, l, k, z⟩ => ⟨n, l, k, fun vs H1 k1 q1 o1 => by
    obtain ⟨v, rfl, q, ks, rfl, nz, hq, nd, r⟩ := allo_1 o1
    exact ⟨q, ks, rfl, hq, few ks r, fun ss a pm hs ha => z _ _ (k1.ext (.new ha)) (q1.trans (Ext.new ha).kp) ⟨_, .lst upd_same (k1.w.new k1.j ha) ((das_strs ss).kp (Ext.new ha).kp), ss, ks, rfl, nd, r, pm, hs⟩⟩⟩
/-- sorted(list of texts) -/
theorem de_sortStrs {xs : List Str} (hg : Gl X "sorted") (hm : X.mg "sorted" = none) (h : DE X W Δ 0 e (eqd W.Z (.list (xs.map .str)))) (few : xs.length < 64)
    (he : starEach (e :: []) X.env = (false, eval e X.env) :: starEach [] X.env := by rfl) (hpl : (backTo pos (starEach [] X.env)).any (·.1) = false := by rfl) :
    DE X W Δ 0 (.Call (.Name "sorted" p) [e] [] pos) (dat W.Z fun d => ∃ ss : List Str, d = .list (ss.map .str) ∧ ss.Perm xs ∧ sortedS ss = true) :=
  pe_to (pe_callB cr_sortedS hg hm (by rfl) (da_cons (m2 := 0) h da_nil he) (by decide) (by decide) he hpl) fun σ H Q ⟨n, l, k, z⟩ => ⟨n, l, k, fun vs H1 k1 q1 o1 => by
    obtain ⟨v, rfl, o⟩ := allo_1 o1
    have o := eqd_ok o
    cases o with
    | lst r nz hd =>
      rename_i a us
      have eu := hd.strs
      subst eu
      exact ⟨a, xs, rfl, .inl (.inl r), few, fun ys q pm hs ha => z _ _ (k1.ext (.new ha)) (q1.trans (Ext.new ha).kp) ⟨_, .lst upd_same (k1.w.new k1.j ha) ((das_strs ys).kp (Ext.new ha).kp), ys, rfl, pm, hs⟩⟩⟩
end
end Dv
set_option maxRecDepth 100000
set_option maxHeartbeats 4000000
/-! Dv70: def f(*v) that gives a new list; a list of one's own returned; x, y = f(a), g(b), both new lists; sorted(set) as a new list; a list taken apart. -/
namespace Dv
open PySem PySem.Spec PyProof.Rows L2
section
variable {X : Cx} {W : Wd} {Δ : List Sl} {m N : Nat} {e oe : Expr} {sts : List Stmt} {D : Ends} {pos : Pos} {p : Addr} {vs : List V} {ds : List PyData} {l : List (Addr × HO)}
/-- x.extend(e), x a list of one's own -/
theorem hs_ext {io j : Nat} {apos cpos : Pos} {Pd : List PyData → Prop} (ho : PE X oe (tVar io)) (hs : Δ[io]? = some (.own p vs ds)) (hl : l[j]? = some (p, .lst vs)) (he : DE X (W.pinL l) Δ m e (dat _ fun d => ∃ xs, d = .list xs ∧ Pd xs)) (hz : vs.length ≤ 1000000) (hz2 : ∀ xs, Pd xs → xs.length ≤ 1000000) (hb : N + m ≤ BIG)
    (hr : ∀ us xs, us.length = xs.length → Pd xs → HS X (Ok (W.pinL (l.set j (p, .lst (vs ++ us)))) (N + m) (Δ.set io (.own p (vs ++ us) (ds ++ xs)))) sts D)
    (g1 : attributeBase oe "extend" X.env (eval oe X.env) = eval oe X.env := by rfl)
    (g2 : (((backTo cpos (starEach [e] X.env)).all fun x => !x.1) && (backToKw cpos (keywordEach [] X.env)).all (·.1.isSome) && decide (([e].length + ([] : List Keyword).length + if ([] : List Keyword).isEmpty = true then 0 else 1) < 30)) = true := by rfl)
    (g3 : (apos.endLine == cpos.line) = true := by rfl) (g4 : starEach [e] X.env = (false, eval e X.env) :: starEach [] X.env := by rfl) (g5 : (backTo cpos (starEach [] X.env)).any (·.1) = false := by rfl) :
    HS X (Ok (W.pinL l) N Δ) (.Expr (.Call (.Attribute oe "extend" apos) [e] [] cpos) pos :: sts) D := by
  refine hs_cons (mid := fun σ H => ∃ us xs, (us.length = xs.length ∧ Pd xs) ∧ Ok (W.pinL (l.set j (p, .lst (vs ++ us)))) (N + m) (Δ.set io (.own p (vs ++ us) (ds ++ xs))) σ H)
    (ps_to (ps_expr (pe_bm PySem.F.plainAttrs_list PySem.F.slot_list_extend PySem.F.type_list_extend mt_extend ho (da_cons he da_nil g4) g1 g2 g3 g4 g5)) fun D' σ H z => ?_) (hs_ex fun us => hs_ex fun xs => hs_and fun h => hr us xs h.1 h.2)
  have k := z.1
  have hp := (pinL_j.mp k.j).1 _ (List.mem_of_getElem? hl)
  refine ⟨_, (k.own hs).1, .inl ⟨rfl, vs, .inl (.inl hp)⟩, N, hb, k, fun us H1 k1 q1 o1 => ?_⟩
  obtain ⟨v1, rfl, d, hd, xs, rfl, pd⟩ := allo_1 o1
  cases hd with
  | lst r nz hds =>
    rename_i b us
    have hp1 := (pinL_j.mp k1.j).1 _ (List.mem_of_getElem? hl)
    have lx := hds.length
    have zx := hz2 xs pd
    refine ⟨p, b, vs, us, rfl, rfl, hp1, r, Nat.le_trans (by omega : vs.length + us.length ≤ 2000000) (by decide), z.2.1 _ _ ⟨us, xs, ⟨lx, pd⟩, ?_⟩⟩
    have k2 := (k1.mut hl (.lst (vs ++ us)))
    have fr := pinL_fr k1
    have hm : p ∈ l.map (·.1) := List.mem_map.mpr ⟨_, List.mem_of_getElem? hl, rfl⟩
    have e : Kp (W.pinL l).Z H1 (upd H1 p (.lst (vs ++ us))) := fun a u nz hu => by
      have ne : a ≠ p := fun c => nz (pinL_z.mpr (.inl (by rw [c]; exact hm)))
      rw [upd_ne ne]
      exact hu
    have zc : ∀ a, (W.pinL (l.set j (p, .lst (vs ++ us)))).Z a → (W.pinL l).Z a ∨ H1 a = none := fun a z => .inl (by rw [pinL_z] at z ⊢; rwa [set_as hl] at z)
    have o2 := k1.own hs
    have q2 := k2.put io (s := .own p (vs ++ us) (ds ++ xs)) (v := .ref p) ⟨rfl, (o2.2.mono e zc).append (hds.mono e zc)⟩
    rwa [set_self o2.1] at q2
where
  set_self {σ : L2.St} {i : Nat} {v : V} (h : σ[i]? = some (some v)) : σ.set i (some v) = σ := by
    obtain ⟨hl, e⟩ := List.getElem?_eq_some_iff.mp h
    rw [← e, List.set_getElem_self]
end
/-- def f(*v): all that is given is a new tuple -/
def BStar (fd : FuncData) (v : Str) : Prop := ∀ rest : List Value, bindArgs fd ⟨rest, []⟩ = (newTuple rest >>= fun t => pure [(v, t)])
section
variable {P : Program} {w : World} {K : PySem.W.Frag} {mg : Str → Option Value} {base : Heap} {k : Nat} {f : Addr} {fd : FuncData} {x qual v : Str} {st : Stmt} {N : List Str} {pre : List PyData → Prop} {post : List PyData → List PyData → Prop}
theorem BStar.of (F : Fun K x qual st f fd) (h : ∀ (kV doc pm : Value) (an : Option Addr) (cdv ct : Value), (bindArgs (PySem.W.fnOf x qual (defArgs st) (defBody st) (defScope st) .none kV doc pm an cdv ct) ⟨[], []⟩ = (newTuple [] >>= fun t => pure [(v, t)])) ∧ ∀ r rs, bindArgs (PySem.W.fnOf x qual (defArgs st) (defBody st) (defScope st) .none kV doc pm an cdv ct) ⟨r :: rs, []⟩ = (newTuple (r :: rs) >>= fun t => pure [(v, t)])) : BStar fd v := by
  obtain ⟨oc, od, kV, doc, pm, an, cdv, ct, osl, rfl, lk, hcd⟩ := F.ex
  intro rest
  cases rest with
  | nil => exact (h kV doc pm an cdv ct).1
  | cons r rs => exact (h kV doc pm an cdv ct).2 r rs
theorem okStar (F : Fun K x qual st f fd) (S : FnScope N [v] (defScope st)) (hb : BStar fd v) (hl : ∀ ds, pre ds → ds.length ≤ 1000)
    (body : ∀ (cd : Value) (B : Around) (fr : List Env) (t : Shared) (h : Hp) (e : XK), Room k (B.deeper (envOfC qual (defScope st) t.heap.objs.size f cd)) → ∀ (Z : Addr → Prop) (J : Nat → Hp → Prop) (n : Nat) (ds : List PyData), n ≤ BIG → pre ds →
      HS (cxOf CX0 P w K mg base N qual (defScope st) f cd B fr t h e).nox (Ok (Wd.at Z J h) n (slots N [.val (.tuple ds)])) (defBody st) { nx := fun _ _ => False, rt := RL Z J h n (post ds) }) :
    FnR P w K mg base CX0 (k + 1) f (spL pre post) := by
  obtain ⟨oc, od, kV, doc, pm, an, cdv, ct, osl, rfl, lk, hcd⟩ := F.ex
  refine FnR.imp (StX.fn_star (ps := []) (pv := v) (sp := spL (fun xs => ∃ ds, xs = [.tuple ds] ∧ pre ds) fun xs es => ∃ ds, xs = [.tuple ds] ∧ post ds es) lk hcd S StX.cxUp_none (fun us rest h0 => ?_) fun A outer s H vs Q E hr z => ?_) fun vs H Q E z => ?_
  · cases us with
    | nil => exact hb rest
    | cons _ _ => cases h0
  · obtain ⟨Z, J, n, xs, wk, ln, j, hd, ⟨ds, rfl, hp⟩, fin⟩ := z
    refine ⟨_, (body cdv A outer s H E hr Z J n ds ln hp).nox, at_ok wk j (das_sl hd), fun _ _ z => z.elim, fun v H' ⟨z1, z2, es, ⟨p, vs, ev, z3, _, z5, z6⟩, z7⟩ => ev ▸ fin p vs es H' z1 z2 z3 z5 z6 ⟨ds, rfl, z7⟩, fun _ _ z => z, fun _ _ z => z⟩
  · obtain ⟨Z, J, n, ds, wk, ln, j, hd, hp, fin⟩ := z
    refine ⟨[], vs, rfl, rfl, by rw [hd.length]; exact Nat.le_trans (hl ds hp) (by decide), fun p h0 => ?_⟩
    have e : Ext H (upd H p (.tup vs)) := Ext.new h0
    exact ⟨Z, J, n, [.tuple ds], wk, ln, wk.ext j e, .cons (.tup upd_same (wk.new j h0) (hd.kp e.kp)) .nil, ⟨ds, rfl, hp⟩, fun q us es H' k1 j1 q0 q1 q2 ⟨ds', e2, po⟩ => by
      cases e2
      exact fin q us es H' (e.kp.trans k1) j1 (by
        match eq : H q with
        | none => rfl
        | some u => exact nomatch (e q u eq).symm.trans q0) q1 q2 po⟩
end
section
variable {X : Cx} {W : Wd} {Δ : List Sl} {m N : Nat} {e a b : Expr} {es : List Expr} {L : List (As W.Z)} {pos : Pos} {k : Nat} {f : Addr} {x : Str} {p : Pos} {pre : List PyData → Prop} {post : List PyData → List PyData → Prop} {D : Ends} {sts : List Stmt} {t : TA} {sp : Sp}
theorem pe_callR {E : XK} (F : FnR X.prog X.w X.K X.mg X.base CX0 k f sp) (rm : Room k X.A) (hg : Gl X x) (hm : X.mg x = some (.ref f)) (hk : PySem.W.keepIn X.K (.ref f) = true) (hx : Passes CX0 X E) (ha : PA X (e :: es) t)
    (hdb : (x == ("__debug__" : Str)) = false := by decide) (he : starEach (e :: es) X.env = (false, eval e X.env) :: starEach es X.env := by rfl) (hpl : (backTo pos (starEach es X.env)).any (·.1) = false := by rfl) :
    PE X (.Call (.Name x p) (e :: es) [] pos) (fun σ H Q => t σ H fun vs H1 => sp vs H1 Q E) := by
  refine ⟨fun pins s σ H Q I h => ?_⟩
  refine wpAny_Call_Name_kw (ld_glob I hg hm ?_ hdb)
  refine PySem.W.callWith_K (h₀ := X.base) I.ok.mod.kin hk (thn (ha.run pos pins s σ H _ I h) fun us s1 ⟨vs, H1, I1, r, q⟩ => ⟨I1.kIn, ?_⟩) he hpl
  exact wpAny_call (run_fnR F rm hx I1 r q)
theorem pe_callR0 {E : XK} (F : FnR X.prog X.w X.K X.mg X.base CX0 k f sp) (rm : Room k X.A) (hg : Gl X x) (hm : X.mg x = some (.ref f)) (hk : PySem.W.keepIn X.K (.ref f) = true) (hx : Passes CX0 X E)
    (hdb : (x == ("__debug__" : Str)) = false := by decide) : PE X (.Call (.Name x p) [] [] pos) (fun σ H Q => sp [] H Q E) := by
  refine ⟨fun pins s σ H Q I h => ?_⟩
  refine wpAny_Call_Name_kw (ld_glob I hg hm ?_ hdb)
  exact PySem.W.callWith_K0 I.kIn hk (wpAny_call (run_fnR (us := []) F rm hx I .nil h))
/-- f(a, ..), f(*v) gives a new list -/
theorem de_callR {PR : List PyData → Prop} (F : FnR X.prog X.w X.K X.mg X.base CX0 k f (spL pre post)) (rm : Room k X.A) (hg : Gl X x) (hm : X.mg x = some (.ref f)) (hk : PySem.W.keepIn X.K (.ref f) = true)
    (ha : DA X W Δ m (e :: es) L) (hA : ∀ H vs, Allo H L vs → ∃ ds, Das W.Z H vs ds ∧ pre ds ∧ ∀ d, post ds d → PR d)
    (h1 : (x == ("__debug__" : Str)) = false := by decide) (h2 : starEach (e :: es) X.env = (false, eval e X.env) :: starEach es X.env := by rfl) (h3 : (backTo pos (starEach es X.env)).any (·.1) = false := by rfl) :
    DE X W Δ m (.Call (.Name x p) (e :: es) [] pos) (dat W.Z fun d => ∃ es, d = .list es ∧ PR es) :=
  pe_to (pe_callR F rm hg hm hk pass0 ha h1 h2 h3) fun σ H Q ⟨n, l, k, z⟩ => ⟨n, l, k, fun vs H1 k1 q1 o1 => by
    obtain ⟨ds, hd, hp, hq⟩ := hA H1 vs o1
    refine ⟨W.Z, W.J, n + m, ds, k1.w, l, k1.j, hd, hp, fun q us rs H' kp j f1 f2 f3 po => z _ H' (k1.kp kp j) (q1.trans kp) ⟨.list rs, .lst f2 (k1.w.new k1.j f1) (f3.mono Kp.refl fun a z => .inl (.inl z)), rs, rfl, hq rs po⟩⟩⟩
theorem de_callR0 {PR : List PyData → Prop} (F : FnR X.prog X.w X.K X.mg X.base CX0 k f (spL pre post)) (rm : Room k X.A) (hg : Gl X x) (hm : X.mg x = some (.ref f)) (hk : PySem.W.keepIn X.K (.ref f) = true)
    (hA : pre [] ∧ ∀ d, post [] d → PR d) (h1 : (x == ("__debug__" : Str)) = false := by decide) :
    DE X W Δ 0 (.Call (.Name x p) [] [] pos) (dat W.Z fun d => ∃ es, d = .list es ∧ PR es) :=
  pe_to (pe_callR0 F rm hg hm hk pass0 h1) fun σ H Q ⟨n, l, k, z⟩ => ⟨W.Z, W.J, n, [], k.w, l, k.j, .nil, hA.1, fun q us rs H' kp j f1 f2 f3 po => z _ H' (k.kp kp j) kp ⟨.list rs, .lst f2 (k.w.new k.j f1) (f3.mono Kp.refl fun a z => .inl (.inl z)), rs, rfl, hA.2 rs po⟩⟩
/-- f(k = e), f gives a new list -/
theorem de_callLK0 {fd : FuncData} {ps ks : List Str} {perm : List Nat} {kws : List Keyword} {PR : List PyData → Prop} (F : FnG X.prog X.w X.K X.mg X.base CX0 k f fd ps (spL pre post)) (gd : X.A.guards = some []) (rm : Room k X.A) (hg : Gl X x) (hm : X.mg x = some (.ref f)) (hk : PySem.W.keepIn X.K (.ref f) = true) (hb : KBi X.K fd ps 0 ks perm)
    (ha : DK X W Δ m kws L) (hl : L.length = ks.length) (hA : ∀ H vs, Allo H L vs → ∃ ds, Das W.Z H (pick perm vs) ds ∧ pre ds ∧ ∀ d, post ds d → PR d)
    (h1 : (x == ("__debug__" : Str)) = false := by decide) (hall : (backToKw pos (keywordEach kws X.env)).all (·.1.isSome) = true := by rfl) (hks : (backToKw pos (keywordEach kws X.env)).filterMap (·.1) = ks := by rfl)
    (hpl : ((backTo pos (starEach [] X.env)).any (·.1) || (backToKw pos (keywordEach kws X.env)).any (·.1.isNone)) = false := by rfl) :
    DE X W Δ m (.Call (.Name x p) [] kws pos) (dat W.Z fun d => ∃ es, d = .list es ∧ PR es) :=
  pe_to (pe_gk0 F gd rm hg hm hk hb pass0 ha h1 hall hks hpl) fun σ H Q ⟨n, l, k, z⟩ => ⟨n, l, k, fun zs H1 k1 q1 o1 => by
    obtain ⟨ds, hd, hp, hq⟩ := hA H1 zs o1
    refine ⟨rfl, (allo_len o1).trans hl, W.Z, W.J, n + m, ds, k1.w, l, k1.j, hd, hp, fun q us rs H' kp j f1 f2 f3 po => z _ H' (k1.kp kp j) (q1.trans kp) ⟨.list rs, .lst f2 (k1.w.new k1.j f1) (f3.mono Kp.refl fun a z => .inl (.inl z)), rs, rfl, hq rs po⟩⟩⟩
/-- a new list as data with P -/
theorem de_newP {h : Hp} {PR : List PyData → Prop} (he : DE X W Δ m e ⟨fun H v => ∃ ds, (NewL h ds).ok W.Z H v ∧ PR ds, fun kp ⟨ds, o, q⟩ => ⟨ds, (NewL h ds).mono kp (fun a z => .inl z) o, q⟩⟩) : DE X W Δ m e (dat W.Z fun d => ∃ es, d = .list es ∧ PR es) :=
  he.imp fun H v ⟨ds, ⟨p, vs, e, _, h2, h3, h4⟩, q⟩ => ⟨.list ds, by rw [e]; exact .lst h3 h2 (h4.mono Kp.refl fun a z => .inl (.inl z)), ds, rfl, q⟩
/-- return x, x a list of one's own -/
theorem hs_retOwn {Z : Addr → Prop} {J : Nat → Hp → Prop} {h : Hp} {i n : Nat} {q : Addr} {vs : List V} {ds : List PyData} {l : List (Addr × HO)} {PR : List PyData → Prop} (ho : PE X e (tVar i)) (hs : Δ[i]? = some (.own q vs ds)) (hl : n ≤ N) (h0 : N ≤ n) (hm : (q, HO.lst vs) ∈ l) (hp : PR ds) (hb : N ≤ BIG) (hD : D.rt = RL Z J h n PR) :
    HS X (Ok ((Wd.at Z J h).pinL l) N Δ) (.Return (some e) pos :: sts) D :=
  hs_ret (m := 0) (de_ownN ho hs) hb fun v σ H k ⟨ev, hd⟩ => by
    have en : N = n := Nat.le_antisymm h0 hl
    subst en
    rw [hD]
    have fr := (pinL_fr k).1 q (List.mem_map.mpr ⟨_, hm, rfl⟩)
    obtain ⟨hq, jj⟩ := pinL_j.mp k.j
    refine ⟨k.kept, at_j.mp jj, ds, ⟨q, vs, ev, fr.2, fun z => fr.1 (at_z.mpr z), hq _ hm, ?_⟩, hp⟩
    exact hd.mono Kp.refl fun a z => .inl (z.elim (fun c => pinL_z.mpr (.inr (at_z.mpr c))) fun c => pinL_z.mpr (.inl (c ▸ List.mem_map.mpr ⟨_, hm, rfl⟩)))
end
end Dv
set_option maxRecDepth 100000
set_option maxHeartbeats 4000000
/-! Dv71: x, y = f(a), g(b), both new lists; sorted(set) as a new list; a list taken apart. -/
namespace Dv
open PySem PySem.Spec PyProof.Rows L2
section
variable {X : Cx} {W : Wd} {Δ : List Sl} {m N : Nat} {e a b : Expr} {pos : Pos} {D : Ends} {sts : List Stmt}
theorem az_add {W : Wd} {p : Addr} {φ : Nat → HO → Prop} {b : Addr} (c : (W.add p φ).Z b) : W.Z b ∨ b = p := (add_z.mp c).elim Or.inr Or.inl
/-- x, y = f(a), g(b) -/
theorem hs_par2L {i k0 k1 k2 : Nat} {x z fx gx : Str} {f1 f2 : Addr} {fd1 fd2 : FuncData} {ps1 ps2 : List Str} {pre1 pre2 : List PyData → Prop} {post1 post2 : List PyData → List PyData → Prop} {d1 d2 : PyData} {px pz pt l1 l2 q1 q2 : Pos} {kt kt2 pt2} (hc : X.calm = true) (hN : X.N.Nodup) (hi : X.N[i]? = some x) (hk : X.N[k0]? = some z) (hik : i ≠ k0)
    (hx : X.env.scope.names.lookup x = some .local) (hz : X.env.scope.names.lookup z = some .local)
    (F : FnOk X.prog X.w X.K X.mg X.base CX0 k1 f1 fd1 ps1 (spL pre1 post1)) (rm1 : Room k1 X.A) (hg1 : Gl X fx) (hm1 : X.mg fx = some (.ref f1)) (hk1 : PySem.W.keepIn X.K (.ref f1) = true) (hb1 : Binds X.K fd1 ps1 [])
    (G : FnOk X.prog X.w X.K X.mg X.base CX0 k2 f2 fd2 ps2 (spL pre2 post2)) (rm2 : Room k2 X.A) (hg2 : Gl X gx) (hm2 : X.mg gx = some (.ref f2)) (hk2 : PySem.W.keepIn X.K (.ref f2) = true) (hb2 : Binds X.K fd2 ps2 [])
    (ha : DE X W Δ 0 a (eqd W.Z d1)) (hd : ∀ p us, DE X (W.add p fun _ o => o = .lst us) Δ 0 b (eqd _ d2)) (p1 : pre1 [d1]) (p2 : pre2 [d2]) (hN2 : N ≤ BIG)
    (hr : ∀ p us es1 q ws es2, post1 [d1] es1 → post2 [d2] es2 → HS X (Ok (W.pinL [(q, .lst ws), (p, .lst us)]) N ((Δ.set i (.own p us es1)).set k0 (.own q ws es2))) sts D)
    (hw : swappedStores [.Tuple [.Name x px, .Name z pz] kt pt] (.Tuple [.Call (.Name fx l1) [a] [] q1, .Call (.Name gx l2) [b] [] q2] kt2 pt2) X.env = pure (some [x, z]))
    (hs : swapsWithSole [.Tuple [.Name x px, .Name z pz] kt pt] (.Tuple [.Call (.Name fx l1) [a] [] q1, .Call (.Name gx l2) [b] [] q2] kt2 pt2) pos.line X.env = pure false := by rfl)
    (h1 : (fx == ("__debug__" : Str)) = false := by decide) (h2 : (gx == ("__debug__" : Str)) = false := by decide)
    (g1 : starEach (a :: []) X.env = (false, eval a X.env) :: starEach [] X.env := by rfl) (g1' : (backTo q1 (starEach [] X.env)).any (·.1) = false := by rfl) (g3 : starEach (b :: []) X.env = (false, eval b X.env) :: starEach [] X.env := by rfl) (g3' : (backTo q2 (starEach [] X.env)).any (·.1) = false := by rfl)
    (g2 : starEach [.Call (.Name fx l1) [a] [] q1, .Call (.Name gx l2) [b] [] q2] X.env = (false, eval (.Call (.Name fx l1) [a] [] q1) X.env) :: starEach [.Call (.Name gx l2) [b] [] q2] X.env := by rfl) (g4 : starEach (.Call (.Name gx l2) [b] [] q2 :: []) X.env = (false, eval (.Call (.Name gx l2) [b] [] q2) X.env) :: starEach [] X.env := by rfl) :
    HS X (Ok W N Δ) (.Assign [.Tuple [.Name x px, .Name z pz] kt pt] (.Tuple [.Call (.Name fx l1) [a] [] q1, .Call (.Name gx l2) [b] [] q2] kt2 pt2) pos :: sts) D := by
  have hb' : PA X [b] (fun σ H Q => ∃ p us, tDA (W.add p fun _ o => o = .lst us) Δ (0 + 0) [eqd _ d2] σ H Q) := ⟨fun po pins s σ H Q I ⟨p, us, z⟩ => (da_cons (m2 := 0) (hd p us) da_nil g3).run po pins s σ H Q I z⟩
  refine hs_cons (mid := fun σ H => ∃ p us es1 q ws es2, (post1 [d1] es1 ∧ post2 [d2] es2) ∧ Ok (W.pinL [(q, .lst ws), (p, .lst us)]) N ((Δ.set i (.own p us es1)).set k0 (.own q ws es2)) σ H)
    (ps_to (ps_par hc hN hi hk hik hx hz (pa_cons (pe_call F rm1 hg1 hm1 hk1 hb1 .nil pass0 (da_cons (m2 := 0) ha da_nil g1) h1 g1 g1') (pa_cons (pe_call G rm2 hg2 hm2 hk2 hb2 .nil pass0 hb' h2 g3 g3') pa_nil g4) g2) hw hs) fun D' σ H z => ?_) (hs_ex fun p => hs_ex fun us => hs_ex fun es1 => hs_ex fun q => hs_ex fun ws => hs_ex fun es2 => hs_and fun h => hr p us es1 q ws es2 h.1 h.2)
  refine ⟨N, hN2, z.1, fun vs1 H1 k1 q1 a1 => ?_⟩
  obtain ⟨v1, rfl, o1⟩ := allo_1 a1
  have e1 := eqd_ok o1
  refine ⟨W.Z, W.J, N, [d1], k1.w, hN2, k1.j, by simpa using Das.cons e1 .nil, p1, fun p us es1 H' kp j f1 f2 f3 po => ?_⟩
  have kA : Ok (W.add p fun _ o => o = .lst us) N Δ σ H' := k1.pin f1 kp j (Nat.le_refl _) (o := .lst us) f2 ⟨0, Nat.zero_le _, rfl⟩
  have D1 : Das (W.add p fun _ o => o = .lst us).Z H' us es1 := f3.mono Kp.refl fun b c => .inl (az_add c)
  refine ⟨p, us, N, hN2, kA, fun v3 H3 k3 q3 a3 => ?_⟩
  obtain ⟨v4, rfl, o3⟩ := allo_1 a3
  have e3 := eqd_ok o3
  refine ⟨_, _, N, [d2], k3.w, hN2, k3.j, by simpa using Das.cons e3 .nil, p2, fun q ws es2 H4 kp4 j4 f4 f5 f6 po4 => ?_⟩
  have kB : Ok (W.pinL [(q, .lst ws), (p, .lst us)]) N Δ σ H4 := k3.pin f4 kp4 j4 (Nat.le_refl _) (o := .lst ws) f5 ⟨0, Nat.zero_le _, rfl⟩
  have D2 : Das (W.pinL [(q, .lst ws), (p, .lst us)]).Z H4 us es1 := (D1.kp q3).mono kp4 fun b c => (az_add (W := W.add p fun _ o => o = .lst us) (p := q) c).imp id fun e => by rw [e]; exact f4
  have D3 : Das (W.pinL [(q, .lst ws), (p, .lst us)]).Z H4 ws es2 := f6.mono Kp.refl fun b c => .inl (az_add (W := W.add p fun _ o => o = .lst us) (p := q) c)
  exact ⟨_, _, rfl, z.2.1 _ _ ⟨p, us, es1, q, ws, es2, ⟨po, po4⟩, (kB.put i (s := .own p us es1) (v := .ref p) ⟨rfl, D2⟩).put k0 (s := .own q ws es2) (v := .ref q) ⟨rfl, D3⟩⟩⟩
/-- sorted(set of texts), as a new list -/
theorem de_sortSetN {h : Hp} {p : Pos} {R : List Str → Prop} (hc : X.calm = true) (hg : Gl X "sorted") (hm : X.mg "sorted" = none) (hh : ∀ q o, h q = some o → W.Zb q ∨ W.H0 q = some o) (he' : DE X W Δ 0 e (setA textK X.prog X.w W.Z R)) (few : ∀ ks, R ks → ks.length < 64)
    (he : starEach (e :: []) X.env = (false, eval e X.env) :: starEach [] X.env := by rfl) (hpl : (backTo pos (starEach [] X.env)).any (·.1) = false := by rfl) :
    DE X W Δ 0 (.Call (.Name "sorted" p) [e] [] pos) ⟨fun H v => ∃ ds, (NewL h ds).ok W.Z H v ∧ ∃ ss ks : List Str, ds = ss.map .str ∧ ks.Nodup ∧ R ks ∧ ss.Perm ks ∧ sortedS ss = true, fun kp ⟨ds, o, q⟩ => ⟨ds, (NewL h ds).mono kp (fun a z => .inl z) o, q⟩⟩ :=
  pe_to (pe_callB (cr_sortedT hc) hg hm (by rfl) (da_cons (m2 := 0) he' da_nil he) (by decide) (by decide) he hpl) fun σ H Q ⟨n, l, k, z⟩ => ⟨n, l, k, fun vs H1 k1 q1 o1 => by
    obtain ⟨v, rfl, q, ks, rfl, nz, hq, nd, r⟩ := allo_1 o1
    exact ⟨q, ks, rfl, hq, few ks r, fun ss a pm hs ha => z _ _ (k1.ext (.new ha)) (q1.trans (Ext.new ha).kp) ⟨ss.map .str, ⟨a, _, rfl, new_since k1 hh ha, k1.w.new k1.j ha, upd_same, (das_strs ss).mono Kp.refl fun _ _ => .inl trivial⟩, ss, ks, rfl, nd, r, pm, hs⟩⟩⟩
/-! ### a list taken apart into names -/
theorem tg_list {es : List Expr} {k : Nat} {t : TGs} {n : Nat} {put : List Sl → PyData → List Sl} {pt : Pos} (hc : X.calm = true) (h : PGs X es t) (hn : (assignEach es X.env).length = n) (hst : (assignEach es X.env).findIdx? (·.1) = none)
    (hp : ∀ (W : Wd) n0 Δ σ H vs ds, Ok W n0 Δ σ H → Das W.Z H vs ds → ds.length = n → ∀ Q : L2.St → Hp → Prop, (∀ σ', Ok W n0 (put Δ (.list ds)) σ' H → Q σ' H) → t vs σ H Q) : TGo X (.Tuple es k pt) (fun d => ∃ ds, d = .list ds ∧ ds.length = n) put :=
  ⟨_, pg_lst hc h hn hst, fun W n0 Δ σ H v d ok o f Q q => by
    obtain ⟨ds, rfl, hl⟩ := f
    cases o with
    | lst r nz hd =>
      rename_i b us
      exact ⟨b, us, rfl, .inl (.inl r), hd.length.trans hl, hp W n0 Δ σ H us ds ok hd hl Q q⟩⟩
end
end Dv
set_option maxRecDepth 100000
set_option maxHeartbeats 4000000
namespace K50
open PySem PySem.Spec PyProof.Rows L2 Dv
def top (i : Nat) : Stmt := PySem.Challenge.pw_daychains_k50_states_that_are_known.main.body.getD i (.Pass ⟨0, 0, 0, 0⟩)
abbrev sIsInteger : Stmt := top 7
abbrev sCheckDay : Stmt := top 8
abbrev sIsOffice : Stmt := top 11
abbrev sFindClash : Stmt := top 13
abbrev sKnownState : Stmt := top 14
abbrev sIsLog : Stmt := top 15
abbrev sIsEntry : Stmt := top 16
abbrev sCheckLog : Stmt := top 17
abbrev sCheckAgreed : Stmt := top 18
abbrev sClash : Stmt := top 19
abbrev sLawDeck : Stmt := top 21
abbrev sLawDraw : Stmt := top 22
abbrev sLawCloses : Stmt := top 23
abbrev sLawFirstClash : Stmt := top 24
abbrev sLawSets : Stmt := top 25
abbrev sLawAgrees : Stmt := top 26
abbrev sLawSomeDays : Stmt := top 27
abbrev sLawEntries : Stmt := top 28
abbrev sLawKept : Stmt := top 29
abbrev sLaw : Stmt := top 30
-- is_integer: slots 0 value
theorem sc_is_integer : FnScope ["value"] ["value"] (defScope sIsInteger) := ⟨rfl, rfl, rfl, by decide +kernel, rfl, by decide +kernel, by decide +kernel⟩
-- check_day: slots 0 value
theorem sc_check_day : FnScope ["value"] ["value"] (defScope sCheckDay) := ⟨rfl, rfl, rfl, by decide +kernel, rfl, by decide +kernel, by decide +kernel⟩
-- is_office: slots 0 value, 1 sign
theorem sc_is_office : FnScope ["value", "sign"] ["value"] (defScope sIsOffice) := ⟨rfl, rfl, rfl, by decide +kernel, rfl, by decide +kernel, by decide +kernel⟩
-- find_clash: slots 0 log, 1 second, 2 first
theorem sc_find_clash : FnScope ["log", "second", "first"] ["log"] (defScope sFindClash) := ⟨rfl, rfl, rfl, by decide +kernel, rfl, by decide +kernel, by decide +kernel⟩
-- known_state: slots 0 log, 1 office, 2 day, 3 named, 4 start, 5 result
theorem sc_known_state : FnScope ["log", "office", "day", "named", "start", "result"] ["log", "office", "day"] (defScope sKnownState) := ⟨rfl, rfl, rfl, by decide +kernel, rfl, by decide +kernel, by decide +kernel⟩
-- _is_log: slots 0 value, 1 entry
theorem sc_is_log : FnScope ["value", "entry"] ["value"] (defScope sIsLog) := ⟨rfl, rfl, rfl, by decide +kernel, rfl, by decide +kernel, by decide +kernel⟩
-- _is_entry: slots 0 value, 1 office, 2 day, 3 result
theorem sc_is_entry : FnScope ["value", "office", "day", "result"] ["value"] (defScope sIsEntry) := ⟨rfl, rfl, rfl, by decide +kernel, rfl, by decide +kernel, by decide +kernel⟩
-- _check_log: slots 0 value
theorem sc_check_log : FnScope ["value"] ["value"] (defScope sCheckLog) := ⟨rfl, rfl, rfl, by decide +kernel, rfl, by decide +kernel, by decide +kernel⟩
-- _check_agreed: slots 0 value, 1 clash
theorem sc_check_agreed : FnScope ["value", "clash"] ["value"] (defScope sCheckAgreed) := ⟨rfl, rfl, rfl, by decide +kernel, rfl, by decide +kernel, by decide +kernel⟩
-- _clash: slots 0 entry, 1 other
theorem sc_clash : FnScope ["entry", "other"] ["entry", "other"] (defScope sClash) := ⟨rfl, rfl, rfl, by decide +kernel, rfl, by decide +kernel, by decide +kernel⟩
-- _law_deck: slots 0 script, 1 pools, 2 k, 3 cell
theorem sc_law_deck : FnScope ["script", "pools", "k", "cell"] ["script"] (defScope sLawDeck) := ⟨rfl, rfl, rfl, by decide +kernel, rfl, by decide +kernel, by decide +kernel⟩
-- _law_draw: slots 0 deck, 1 many, 2 pool, 3 mixed, 4 found
theorem sc_law_draw : FnScope ["deck", "many", "pool", "mixed", "found"] ["deck", "many"] (defScope sLawDraw) := ⟨rfl, rfl, rfl, by decide +kernel, rfl, by decide +kernel, by decide +kernel⟩
-- _law_closes: slots 0 entry, 1 when
theorem sc_law_closes : FnScope ["entry", "when"] ["entry", "when"] (defScope sLawCloses) := ⟨rfl, rfl, rfl, by decide +kernel, rfl, by decide +kernel, by decide +kernel⟩
-- _law_first_clash: slots 0 entries, 1 two, 2 one
theorem sc_law_first_clash : FnScope ["entries", "two", "one"] ["entries"] (defScope sLawFirstClash) := ⟨rfl, rfl, rfl, by decide +kernel, rfl, by decide +kernel, by decide +kernel⟩
-- _law_sets: slots 0 size, 1 found, 2 turn, 3 row
theorem sc_law_sets : FnScope ["size", "found", "turn", "row"] ["size"] (defScope sLawSets) := ⟨rfl, rfl, rfl, by decide +kernel, rfl, by decide +kernel, by decide +kernel⟩
-- _law_agrees: slots 0 row, 1 entries, 2 name, 3 begin, 4 there, 5 spot
theorem sc_law_agrees : FnScope ["row", "entries", "name", "begin", "there", "spot"] ["row", "entries"] (defScope sLawAgrees) := ⟨rfl, rfl, rfl, by decide +kernel, rfl, by decide +kernel, by decide +kernel⟩
-- _law_some_days: slots 0 deck, 1 size, 2 spot
theorem sc_law_some_days : FnScope ["deck", "size", "spot"] ["deck", "size"] (defScope sLawSomeDays) := ⟨rfl, rfl, rfl, by decide +kernel, rfl, by decide +kernel, by decide +kernel⟩
-- _law_entries: slots 0 deck, 1 many, 2 size, 3 most, 4 names, 5 rows, 6 found, 7 turn, 8 at, 9 begin, 10 there, 11 name
theorem sc_law_entries : FnScope ["deck", "many", "size", "most", "names", "rows", "found", "turn", "at", "begin", "there", "name"] ["deck", "many", "size", "most"] (defScope sLawEntries) := ⟨rfl, rfl, rfl, by decide +kernel, rfl, by decide +kernel, by decide +kernel⟩
-- _law_kept: slots 0 entries, 1 found, 2 entry
theorem sc_law_kept : FnScope ["entries", "found", "entry"] ["entries"] (defScope sLawKept) := ⟨rfl, rfl, rfl, by decide +kernel, rfl, by decide +kernel, by decide +kernel⟩
-- law: slots 0 script, 1 deck, 2 rows, 3 lap, 4 many, 5 entries, 6 kept, 7 name, 8 own, 9 able, 10 when, 11 both, 12 due, 13 told, 14 entry, 15 row
theorem sc_law : FnScope ["script", "deck", "rows", "lap", "many", "entries", "kept", "name", "own", "able", "when", "both", "due", "told", "entry", "row"] ["script"] (defScope sLaw) := ⟨rfl, rfl, rfl, by decide +kernel, rfl, by decide +kernel, by decide +kernel⟩
/-- where the defs stand -/
structure Ads where
  a_is_integer : Addr
  d_is_integer : FuncData
  a_check_day : Addr
  d_check_day : FuncData
  a_is_office : Addr
  d_is_office : FuncData
  a_find_clash : Addr
  d_find_clash : FuncData
  a_known_state : Addr
  d_known_state : FuncData
  a_is_log : Addr
  d_is_log : FuncData
  a_is_entry : Addr
  d_is_entry : FuncData
  a_check_log : Addr
  d_check_log : FuncData
  a_check_agreed : Addr
  d_check_agreed : FuncData
  a_clash : Addr
  d_clash : FuncData
  a_law_deck : Addr
  d_law_deck : FuncData
  a_law_draw : Addr
  d_law_draw : FuncData
  a_law_closes : Addr
  d_law_closes : FuncData
  a_law_first_clash : Addr
  d_law_first_clash : FuncData
  a_law_sets : Addr
  d_law_sets : FuncData
  a_law_agrees : Addr
  d_law_agrees : FuncData
  a_law_some_days : Addr
  d_law_some_days : FuncData
  a_law_entries : Addr
  d_law_entries : FuncData
  a_law_kept : Addr
  d_law_kept : FuncData
  a_law : Addr
  d_law : FuncData
/-- what the top has left -/
structure Txt (K : PySem.W.Frag) (mg : Str → Option Value) (a : Ads) : Prop where
  g_is_integer : mg "is_integer" = some (.ref a.a_is_integer)
  F_is_integer : Fun K "is_integer" "is_integer" sIsInteger a.a_is_integer a.d_is_integer
  b_is_integer : Binds K a.d_is_integer ["value"] []
  g_check_day : mg "check_day" = some (.ref a.a_check_day)
  F_check_day : Fun K "check_day" "check_day" sCheckDay a.a_check_day a.d_check_day
  b_check_day : Binds K a.d_check_day ["value"] []
  g_is_office : mg "is_office" = some (.ref a.a_is_office)
  F_is_office : Fun K "is_office" "is_office" sIsOffice a.a_is_office a.d_is_office
  b_is_office : Binds K a.d_is_office ["value"] []
  g_find_clash : mg "find_clash" = some (.ref a.a_find_clash)
  F_find_clash : Fun K "find_clash" "find_clash" sFindClash a.a_find_clash a.d_find_clash
  b_find_clash : Binds K a.d_find_clash ["log"] []
  g_known_state : mg "known_state" = some (.ref a.a_known_state)
  F_known_state : Fun K "known_state" "known_state" sKnownState a.a_known_state a.d_known_state
  b_known_state : Binds K a.d_known_state ["log", "office", "day"] []
  g_is_log : mg "_is_log" = some (.ref a.a_is_log)
  F_is_log : Fun K "_is_log" "_is_log" sIsLog a.a_is_log a.d_is_log
  b_is_log : Binds K a.d_is_log ["value"] []
  g_is_entry : mg "_is_entry" = some (.ref a.a_is_entry)
  F_is_entry : Fun K "_is_entry" "_is_entry" sIsEntry a.a_is_entry a.d_is_entry
  b_is_entry : Binds K a.d_is_entry ["value"] []
  g_check_log : mg "_check_log" = some (.ref a.a_check_log)
  F_check_log : Fun K "_check_log" "_check_log" sCheckLog a.a_check_log a.d_check_log
  b_check_log : Binds K a.d_check_log ["value"] []
  g_check_agreed : mg "_check_agreed" = some (.ref a.a_check_agreed)
  F_check_agreed : Fun K "_check_agreed" "_check_agreed" sCheckAgreed a.a_check_agreed a.d_check_agreed
  b_check_agreed : Binds K a.d_check_agreed ["value"] []
  g_clash : mg "_clash" = some (.ref a.a_clash)
  F_clash : Fun K "_clash" "_clash" sClash a.a_clash a.d_clash
  b_clash : Binds K a.d_clash ["entry", "other"] []
  g_law_deck : mg "_law_deck" = some (.ref a.a_law_deck)
  F_law_deck : Fun K "_law_deck" "_law_deck" sLawDeck a.a_law_deck a.d_law_deck
  b_law_deck : Binds K a.d_law_deck ["script"] []
  g_law_draw : mg "_law_draw" = some (.ref a.a_law_draw)
  F_law_draw : Fun K "_law_draw" "_law_draw" sLawDraw a.a_law_draw a.d_law_draw
  b_law_draw : Binds K a.d_law_draw ["deck", "many"] []
  g_law_closes : mg "_law_closes" = some (.ref a.a_law_closes)
  F_law_closes : Fun K "_law_closes" "_law_closes" sLawCloses a.a_law_closes a.d_law_closes
  b_law_closes : Binds K a.d_law_closes ["entry", "when"] []
  g_law_first_clash : mg "_law_first_clash" = some (.ref a.a_law_first_clash)
  F_law_first_clash : Fun K "_law_first_clash" "_law_first_clash" sLawFirstClash a.a_law_first_clash a.d_law_first_clash
  b_law_first_clash : Binds K a.d_law_first_clash ["entries"] []
  g_law_sets : mg "_law_sets" = some (.ref a.a_law_sets)
  F_law_sets : Fun K "_law_sets" "_law_sets" sLawSets a.a_law_sets a.d_law_sets
  b_law_sets : Binds K a.d_law_sets ["size"] []
  g_law_agrees : mg "_law_agrees" = some (.ref a.a_law_agrees)
  F_law_agrees : Fun K "_law_agrees" "_law_agrees" sLawAgrees a.a_law_agrees a.d_law_agrees
  b_law_agrees : Binds K a.d_law_agrees ["row", "entries"] []
  g_law_some_days : mg "_law_some_days" = some (.ref a.a_law_some_days)
  F_law_some_days : Fun K "_law_some_days" "_law_some_days" sLawSomeDays a.a_law_some_days a.d_law_some_days
  b_law_some_days : Binds K a.d_law_some_days ["deck", "size"] []
  g_law_entries : mg "_law_entries" = some (.ref a.a_law_entries)
  F_law_entries : Fun K "_law_entries" "_law_entries" sLawEntries a.a_law_entries a.d_law_entries
  b_law_entries : Binds K a.d_law_entries ["deck", "many", "size", "most"] []
  g_law_kept : mg "_law_kept" = some (.ref a.a_law_kept)
  F_law_kept : Fun K "_law_kept" "_law_kept" sLawKept a.a_law_kept a.d_law_kept
  b_law_kept : Binds K a.d_law_kept ["entries"] []
  g_law : mg "law" = some (.ref a.a_law)
  F_law : Fun K "law" "law" sLaw a.a_law a.d_law
  b_law : Binds K a.d_law ["script"] []
  c_SMALL_LETTERS : ∃ t, mg "SMALL_LETTERS" = some (.str "abcdefghijklmnopqrstuvwxyz" t)
  n_ValueError : mg "ValueError" = none
  n_all : mg "all" = none
  n_bool : mg "bool" = none
  n_int : mg "int" = none
  n_isinstance : mg "isinstance" = none
  n_len : mg "len" = none
  n_list : mg "list" = none
  n_max : mg "max" = none
  n_min : mg "min" = none
  n_range : mg "range" = none
  n_repr : mg "repr" = none
  n_set : mg "set" = none
  n_sorted : mg "sorted" = none
  n_str : mg "str" = none
  n_super : mg "super" = none
  n_tuple : mg "tuple" = none
end K50
set_option maxRecDepth 100000
set_option maxHeartbeats 4000000
namespace K50
open PySem PySem.Spec PyProof.Rows L2 Dv
section
variable {P : Program} {w : World} {K : PySem.W.Frag} {mg : Str → Option Value} {base : Heap} {a : Ads}
/-! ### the draws -/
theorem ok_law_draw (T : Txt K mg a) : FnG P w K mg base CX0 1 a.a_law_draw a.d_law_draw ["deck", "many"] (spK Many (fun _ => 2) Took) := by
  refine okK T.F_law_draw sc_law_draw (by rintro ds ⟨d, rfl, _⟩; rfl) (fun cd B fr t h e gd rm Z J n p ds ln hp b => ?_)
  obtain ⟨l, rfl, l1, l2⟩ := hp
  obtain ⟨pp, qs, b⟩ := b
  have hl : (0 : Int) < l := by omega
  have ln : n + 2 ≤ BIG := ln
  have ln0 : n ≤ BIG := by omega
  have ln1 : n + 1 ≤ BIG := by omega
  have big : BIG = 1000000000 := rfl
  have lo := b.lo
  have hi := b.hi
  have at0 : ∀ (n : Nat) (o : HO), n ≤ BIG → IsTop pp n o → ∃ vs v, o = HO.lst vs ∧ atI vs 0 = some v ∧ v = V.ref pp := fun n o _ ⟨k, e, _, _⟩ => ⟨_, _, e, rfl, rfl⟩
  refine hs_setIs (m := 0) (i := 2) (S := fun v => ∃ q ∈ qs, v = V.ref q) sc_law_draw.nd rfl (Or.inl rfl) (de_objIx (m1 := 0) (m2 := 0) (Pi := fun i => 0 ≤ i ∧ i < qs.length) b.all (de_objI (R := (· = V.ref pp)) b.top (de_is (pv 0) rfl) at0)
    (de_op (m1 := 0) (m2 := 0) op_mod (de_objInt (R := fun k => 0 ≤ k) b.top (de_is (pv 0) rfl) (fun n o _ ⟨k, e, h, _⟩ => ⟨_, k, e, rfl, h⟩))
      (de_cb (m := 0) call_len (by rfl) T.n_len (by rfl) (da_cons (m1 := 0) (m2 := 0) (de_objI (R := (· = V.ref pp)) b.top (de_is (pv 0) rfl) at0) da_nil) (c_lenJ (R := (· = (qs.length : Int))) b.all (fun n o e => ⟨_, e, by rw [List.length_map]⟩)))
      (o_intp fun i j p q => by subst q; exact ⟨by omega, Int.emod_nonneg _ (by omega), Int.emod_lt_of_pos _ (by omega)⟩))
    (fun n o i _ e ⟨i0, i1⟩ => by
      have hk : i.toNat < qs.length := by omega
      refine ⟨_, V.ref qs[i.toNat], e, ?_, _, List.getElem_mem hk, rfl⟩
      have e2 : atI (qs.map V.ref) ((i.toNat : Nat) : Int) = some (V.ref qs[i.toNat]) := atI_nat (by rw [List.getElem?_map, List.getElem?_eq_getElem hk]; rfl)
      rwa [Int.toNat_of_nonneg i0] at e2)) ln0 (fun v hv => ?_)
  obtain ⟨q, mq, rfl⟩ := hv
  have bq := b.pool q mq
  refine hs_incJ (M := n + 1) b.top (pv 0) (pv 0) rfl (by omega) (fun k o lk ⟨c, e, c0, c1⟩ => ⟨_, 1, c, e, rfl, rfl, n + 1, Nat.le_refl _, c + 1, rfl, by omega, by omega⟩) ?_
  have po : ∀ (j : Int), j = 0 ∨ j = 1 → ∀ (n : Nat) (o : HO), n ≤ BIG → IsPool n o → ∃ vs i, o = HO.lst vs ∧ atI vs j = some (V.int i) ∧ True := fun j hj n o _ ⟨x, f, z, e, _, _⟩ => by
    rcases hj with rfl | rfl
    · exact ⟨_, x, e, rfl, trivial⟩
    · exact ⟨_, f, e, rfl, trivial⟩
  refine hs_guard (m := 0) (P := fun _ => True) (PW.pt (dt_and (m1 := 0) (m2 := 0) (P1 := fun _ => True) (dt_cmp (m1 := 0) (m2 := 0) op_eq (de_objInt bq (de_is (pv 2) rfl) (po 1 (.inr rfl))) de_int (o_eqp fun _ _ => trivial) (nomark _)) (fun _ => dt_and1 (dt_cmp (m1 := 0) (m2 := 0) op_gt (de_objInt bq (de_is (pv 2) rfl) (po 0 (.inl rfl))) (ei (Pi := fun _ => True) de_int trivial) (o_cmpp fun _ _ _ _ => trivial) (nomark _))) (fun _ => trivial))) ln1 (fun _ => ?_) (fun _ => ?_)
  · refine hs_setP (m := 0) (i := 4) (Pd := fun d => ∃ i, d = .int i ∧ 0 ≤ i ∧ i < l) sc_law_draw.nd rfl (Or.inl rfl) (de_op (m1 := 0) (m2 := 0) op_mod (de_objInt bq (de_is (pv 2) rfl) (po 0 (.inl rfl))) (ei (Pi := fun i => i = l) (de_var (pv 1) rfl) rfl) (o_intp fun i j _ q => ?_)) ln1 (fun d z => ?_)
    · subst q
      exact ⟨hl, Int.emod_nonneg _ (by omega), Int.emod_lt_of_pos _ hl⟩
    obtain ⟨i, rfl, i0, i1⟩ := z
    refine hs_putJ (m := 0) (M := n + 1) (Pv := fun _ => True) bq (pv 2) rfl (de_op (m1 := 0) (m2 := 0) op_fdiv (de_objInt bq (de_is (pv 2) rfl) (po 0 (.inl rfl))) (ei (Pi := fun i => i = l) (de_var (pv 1) rfl) rfl) (o_intp (Q3 := fun _ => True) fun i j _ q => ?_)) ln1 (by omega) (fun k o i lk ⟨x, f, z, e, z0, z1⟩ _ => ⟨_, 0, e, rfl, n + 1, Nat.le_refl _, i, f, z, rfl, z0, by omega⟩) ?_
    · subst q
      exact ⟨⟨hl, l2⟩, trivial⟩
    exact hs_ret (m := 0) (de_var (pv 4) rfl) ln1 (fun v σ H k o => rt_at k ⟨_, eqd_ok o, l, i, rfl, rfl, i0, i1⟩ (by show n + 1 + 0 ≤ n + 2; omega))
  · refine hs_incJ (M := n + 2) bq (pv 2) (pv 2) rfl (by omega) (fun k o lk ⟨x, f, z, e, z0, z1⟩ => ⟨_, 2, z, e, rfl, rfl, n + 2, Nat.le_refl _, x, f, z + 1, rfl, by omega, by omega⟩) ?_
    have c3 : ∀ i : Int, 0 ≤ i → i < 162259276829213363391578010288127 + 982451653 * 2000000000 → CPowW i 3 := fun i h1 h2 => ⟨by decide, by decide, by
      have : (i.natAbs : Int) = i := by omega
      have h3 : (2 : Nat) ^ 200 ≤ 2 ^ 1000 := Nat.pow_le_pow_right (by decide) (by decide)
      have h4 : (2 : Nat) ^ 200 = 1606938044258990275541962092341162602522202993782792835301376 := by decide +kernel
      omega⟩
    have po2 : ∀ (n : Nat) (o : HO), n ≤ BIG → IsPool n o → ∃ vs i, o = HO.lst vs ∧ atI vs 2 = some (V.int i) ∧ (0 ≤ i ∧ i ≤ 1000002000) := fun n o hn ⟨x, f, z, e, z0, z1⟩ => ⟨_, z, e, rfl, z0, by omega⟩
    refine hs_setP (m := 0) (i := 3) (Pd := fun d => ∃ i, d = .int i ∧ 0 ≤ i ∧ i < 162259276829213363391578010288127 + 982451653 * 2000000000) sc_law_draw.nd rfl (Or.inl rfl)
      (de_op (m1 := 0) (m2 := 0) op_add (de_op (m1 := 0) (m2 := 0) op_mod (de_objInt bq (de_is (pv 2) rfl) (po 0 (.inl rfl))) (ei (Pi := fun i => i = 162259276829213363391578010288127) de_int rfl) (o_intp (Q3 := fun i => 0 ≤ i ∧ i < 162259276829213363391578010288127) fun i j _ q => by subst q; exact ⟨by decide, by omega, by omega⟩))
        (de_op (m1 := 0) (m2 := 0) op_mul (ei (Pi := fun i => i = 982451653) de_int rfl) (de_objInt bq (de_is (pv 2) rfl) po2) (o_intp (Q3 := fun i => 0 ≤ i ∧ i ≤ 982451653 * 1000002000) fun i j p q => ⟨.inl (by subst p; decide), by subst p; omega⟩))
        (o_intp0 fun i j p q => by omega)) ln (fun d z => ?_)
    obtain ⟨i, rfl, i0, i1⟩ := z
    refine hs_setP (m := 0) (i := 3) (Pd := fun d => ∃ i, d = .int i ∧ 0 ≤ i ∧ i < 618970019642690137449562111) sc_law_draw.nd rfl (Or.inl rfl)
      (de_op (m1 := 0) (m2 := 0) op_mod (de_op (m1 := 0) (m2 := 0) (A3 := intp _ fun _ => True) op_powW (ei (Pi := (· = i)) (de_var (pv 3) rfl) rfl) (ei (Pi := fun i => i = 3) de_int rfl) (o_intp fun i' j p q => ⟨by subst q; subst p; exact c3 _ i0 i1, trivial⟩)) (ei (Pi := fun i => i = 618970019642690137449562111) de_int rfl)
        (o_intp fun i j _ q => by subst q; exact ⟨by decide, by omega, by omega⟩)) ln (fun d z => ?_)
    obtain ⟨j, rfl, j0, j1⟩ := z
    refine hs_setP (m := 0) (i := 3) (Pd := fun d => ∃ i, d = .int i ∧ True) sc_law_draw.nd rfl (Or.inl rfl)
      (de_op (m1 := 0) (m2 := 0) op_mod
        (de_op (m1 := 0) (m2 := 0) (A3 := intp _ fun _ => True) op_powW
          (de_op (m1 := 0) (m2 := 0) op_add (ei (Pi := (· = j)) (de_var (pv 3) rfl) rfl)
            (de_op (m1 := 0) (m2 := 0) op_mul (ei (Pi := fun i => i = 49979687) de_int rfl) (de_objInt bq (de_is (pv 2) rfl) po2) (o_intp (Q3 := fun i => 0 ≤ i ∧ i ≤ 49979687 * 1000002000) fun i j p q => ⟨.inl (by subst p; decide), by subst p; omega⟩))
            (o_intp0 (Q3 := fun i => 0 ≤ i ∧ i < 162259276829213363391578010288127) fun i j p q => by omega))
          (ei (Pi := fun i => i = 3) de_int rfl) (o_intp fun i j p q => ⟨by subst q; exact c3 i p.1 (by omega), trivial⟩))
        (ei (Pi := fun i => i = 162259276829213363391578010288127) de_int rfl)
        (o_intp fun i j _ q => by subst q; exact ⟨by decide, trivial⟩)) ln (fun d z => ?_)
    obtain ⟨j2, rfl, _⟩ := z
    exact hs_ret (m := 0) (A := intp _ fun i => 0 ≤ i ∧ i < l) (de_op (m1 := 0) (m2 := 0) op_mod (de_op (m1 := 0) (m2 := 0) (A3 := intp _ fun _ => True) op_fdiv (ei (Pi := fun _ => True) (de_var (pv 3) rfl) trivial) (ei (Pi := fun i => i = 524288) de_int rfl) (o_intp fun i j _ q => ⟨by subst q; exact ⟨by decide, by decide⟩, trivial⟩))
      (ei (Pi := fun i => i = l) (de_var (pv 1) rfl) rfl) (o_intp fun i j _ q => by subst q; exact ⟨hl, Int.emod_nonneg _ (by omega), Int.emod_lt_of_pos _ hl⟩)) ln (fun v σ H k ⟨d, o, i, e, i0, i1⟩ => rt_at k ⟨d, o, l, i, rfl, e, i0, i1⟩ (by show n + 2 + 0 ≤ n + 2; omega))
end
end K50
set_option maxRecDepth 100000
set_option maxHeartbeats 4000000
namespace K50
open PySem PySem.Spec PyProof.Rows L2 Dv
section
variable {P : Program} {w : World} {K : PySem.W.Frag} {mg : Str → Option Value} {base : Heap} {a : Ads}
theorem o_ixF {W : Wd} {K : PySem.W.Frag} {sa : Addr} {ns : List Int} {i : Int} (h0 : 0 ≤ i) (h1 : i < ns.length) : Op2 W (rIxL K) ((scrF K sa ns).as W.Z) (eqd _ (.int i)) (intp _ fun _ => True) := fun n H v u w jj o1 o2 Q q => by
  obtain ⟨rfl, o3⟩ := scrF_sq o1
  have o2 := eqd_ok o2
  cases o2
  have hk : i.toNat < ns.length := by omega
  have e2 : atI (ns.map V.int) ((i.toNat : Nat) : Int) = some (.int ns[i.toNat]) := atI_nat (by rw [List.getElem?_map, List.getElem?_eq_getElem hk]; rfl)
  rw [Int.toNat_of_nonneg h0] at e2
  exact ⟨_, _, i, _, rfl, rfl, o3, e2, q _ H Ext.refl ⟨_, .int _, _, rfl, trivial⟩⟩
abbrev ND : List Str := ["script", "pools", "k", "cell"]
def dkSl (K : PySem.W.Frag) (a : Addr) (ns : List Int) (h : Hp) (pp : Addr) (u : List V) : List Sl := [.sat (scrF K a ns), .sat (LF pp u (PoolF h)), .no, .no]
theorem refs_of {Z : Addr → Prop} {h H : Hp} : ∀ {u : List V} {j : Nat}, (∀ i v, u[i]? = some v → (PoolF h (j + i)).ok Z H v) → ∃ qs : List Addr, u = qs.map V.ref
  | [], _, _ => ⟨[], rfl⟩
  | v :: u, j, f => by
    obtain ⟨q, _, _, rfl, _⟩ := f 0 v rfl
    obtain ⟨qs, rfl⟩ := refs_of (u := u) (j := j + 1) (fun i v' hv => by
      have := f (i + 1) v' (by simpa using hv)
      rwa [show j + (i + 1) = j + 1 + i by omega] at this)
    exact ⟨q :: qs, rfl⟩
theorem ok_law_deck (T : Txt K mg a) : FnG P w K mg base CX0 1 a.a_law_deck a.d_law_deck ["script"] (spDk K) := by
  refine okG T.F_law_deck sc_law_deck (fun xs h q e z => ?_) (fun cd B fr t h xs q e gd rm z => ?_)
  · obtain ⟨a', ns, rfl, _⟩ := z
    rfl
  · obtain ⟨sa, ns, rfl, hS, hn, fin⟩ := z
    have key : HS (cxOf CX0 P w K mg base ND "_law_deck" (defScope sLawDeck) a.a_law_deck cd B fr t h e).nox (Ok (Wd.at (fun _ => False) (fun _ _ => True) h) 0 (slots ND [.is (.ref sa)])) (defBody sLawDeck)
        { nx := fun _ _ => False, rt := fun v H' => ∃ p pp qs, v = V.ref p ∧ (p :: pp :: qs).Nodup ∧ h p = none ∧ h pp = none ∧ (∀ q ∈ qs, h q = none) ∧ Ext h H' ∧ H' p = some (.lst [.ref pp, .int 0]) ∧ H' pp = some (.lst (qs.map V.ref)) ∧ (∀ q ∈ qs, ∃ o, H' q = some o ∧ IsPool 0 o) ∧ 1 ≤ qs.length ∧ qs.length ≤ 63 } := by
      have b0 : (0 : Nat) ≤ BIG := Nat.zero_le _
      refine hs_scr (i0 := 0) (sa := sa) (ns := ns) rfl (fun z => at_z.mp z) hS ?_
      refine hs_newL (W := Wd.at (fun _ => False) (fun _ _ => True) h) (l := []) (i := 1) sc_law_deck.nd rfl (Or.inl rfl) b0 (fun pp => ?_)
      refine hs_fact (F := h pp = none) (fun σ H k => ((pinL_fr k).1 pp List.mem_cons_self).2) (fun hpp => ?_)
      refine hs_ownF (i := 1) (p := pp) (Fs := PoolF h) rfl ?_
      refine hs_forP (m := 0) (W := Wd.at (fun _ => False) (fun _ _ => True) h) (as := [pp]) (l0 := [(pp, .lst [])]) (ι := List V) (Ps := fun xs => ∃ i, (1 ≤ i ∧ i ≤ 63) ∧ xs = upto i) (R := fun _ i u => u.length = i) (l := fun _ _ u => [(pp, .lst u)]) (Γ := fun _ _ u => dkSl K sa ns h pp u) (Ni := fun _ => 0) PassesOwn.never rfl
        (di_range (by rfl) T.n_range (ei (Pi := fun i => 1 ≤ i ∧ i ≤ 63) (de_cb (m := 0) (call_max2 rfl) (by rfl) T.n_max (by rfl) (da_cons (m1 := 0) (m2 := 0) de_int (da_cons (m1 := 0) (m2 := 0) (de_cb (m := 0) (call_min2 rfl) (by rfl) T.n_min (by rfl) (da_cons (m1 := 0) (m2 := 0) de_int (da_cons (m1 := 0) (m2 := 0) (de_cb (m := 0) call_len (by rfl) T.n_len (by rfl) (da_cons (de_sat (pv 0) rfl) da_nil) c_lenF) da_nil)) c_min2) da_nil)) c_max2) (by split <;> split <;> omega)) (by intro i q; omega))
        b0 (tg_name (i := 2) sc_law_deck.nd rfl (Or.inl rfl)) (fun _ _ _ => rfl)
        (fun xs _ => ⟨[], rfl, rfl, .same (.same (.no (.no .nil)))⟩) (Nat.le_refl _) (fun _ _ _ _ => trivial) (fun H2 xs s d u hk2 px hd hR => ?_) (fun xs u px hR => ?_)
      · obtain ⟨iv, hiv, rfl⟩ := px
        have hil := (List.getElem?_eq_some_iff.mp hd).1
        rw [upto_len] at hil
        rw [upto_get hil] at hd
        cases hd
        have hh : ∀ q o, h q = some o → ¬ (((Wd.at (fun _ => False) (fun _ _ => True) h).cut H2 [pp]).pinL [(pp, .lst u)]).Zb q ∧ (((Wd.at (fun _ => False) (fun _ _ => True) h).cut H2 [pp]).pinL [(pp, .lst u)]).H0 q = some o := fun q o e => by
          refine ⟨fun z => at_z.mp z, ?_⟩
          show (if q ∈ [pp] then none else H2 q) = some o
          rw [if_neg (fun m => by
            cases List.mem_singleton.mp m
            rw [hpp] at e
            cases e)]
          exact hk2 q o (fun c => c) e
        refine hs_set (m := 0) (i := 3) sc_law_deck.nd rfl (Or.inl rfl) de_int b0 ?_
        refine hs_if (m := 0) (P := (· = decide ((s : Int) < ns.length))) (mid := fun σ H => ∃ c : Int, Ok (((Wd.at (fun _ => False) (fun _ _ => True) h).cut H2 [pp]).pinL [(pp, .lst u)]) 0 [.sat (scrF K sa ns), .sat (LF pp u (PoolF h)), .val (.int (s : Nat)), .val (.int c)] σ H)
          (dt_cmp op_lt (de_var (pv 2) rfl) (de_cb (m := 0) call_len (by rfl) T.n_len (by rfl) (da_cons (de_sat (pv 0) rfl) da_nil) c_lenF) o_cmp (nomark _)) b0 (fun c => ?_) (fun c => ?_) (hs_ex fun c => ?_)
        · refine hs_setP (m := 0) (i := 3) (Pd := fun d => ∃ i, d = .int i ∧ True) sc_law_deck.nd rfl (Or.inl rfl) (de_ix ix_list (de_sat (pv 0) rfl) (de_var (pv 2) rfl) (o_ixF (by omega) (by simpa using c.symm)) (fun _ _ => rfl)) b0 (fun d z => ?_)
          obtain ⟨c, rfl, _⟩ := z
          exact hs_nil fun σ H k => ⟨c, k⟩
        · exact hs_nil fun σ H k => ⟨0, k⟩
        · have cm : CMul 31 (s : Int) := .inl (by decide)
          refine hs_appF (W := (Wd.at (fun _ => False) (fun _ _ => True) h).cut H2 [pp]) (l := [(pp, .lst u)]) (m := 0) (io := 1) (j := 0) (p := pp) (vs := u) (Fs := PoolF h) (Fs' := PoolF h) (F := PoolF h s) (pv 1) rfl rfl
            (de_pool (m := 0) hh (da_cons (m1 := 0) (m2 := 0) (ei (de_var (pv 3) rfl) trivial) (da_cons (m1 := 0) (m2 := 0) (ii (de_intB (m := 0) (P := fun _ => True) (by rfl) T.n_int (DE.imp (A := bol _ fun _ => True) (de_cmp (m1 := 0) (m2 := 0) op_ge (ei (Pi := fun _ => True) (de_var (pv 3) rfl) trivial) (ei (Pi := fun _ => True) (de_pow (z := 1000000000000000000) ⟨by decide, by decide, by decide +kernel⟩ (by decide +kernel)) trivial) (o_cmpp fun _ _ _ _ => trivial) (nomark _)) fun H v o => o)) fun _ _ => trivial)
              (da_cons (m1 := 0) (m2 := 0) (de_op (m1 := 0) (m2 := 0) op_mul de_int (de_var (pv 2) rfl) (o_int cm)) da_nil))))
            (fun _ _ => rfl) (by rw [hR]) (by omega) b0 (fun v1 => hs_nil fun σ H k => ?_)
          exact ⟨u ++ [v1], by simp [hR], k.less (.same (.same (.no (.no .nil))))⟩
      · obtain ⟨iv, hiv, rfl⟩ := px
        rw [upto_len] at hR
        refine hs_ret (m := 0) (A := topA _ h pp) (de_topL (fun q o e => ⟨fun z => z, e⟩) (de_lfp (pv 1) rfl) de_int) b0 (fun v σ H k o => ?_)
        obtain ⟨p, rfl, h1, h2, h3⟩ := o
        have hl := (lf_at k (i := 1) rfl).2
        obtain ⟨qs, rfl⟩ := refs_of (j := 0) (fun i v e => by rw [Nat.zero_add]; exact hl i v e)
        rw [List.length_map] at hR
        have hq : ∀ i (hi : i < qs.length), ∃ x f, h qs[i] = none ∧ ¬ ((Wd.at (fun _ => False) (fun _ _ => True) h).pinL [(pp, .lst (qs.map V.ref))]).Z qs[i] ∧ H qs[i] = some (.lst [.int x, .int f, .int (31 * (i : Int))]) := fun i hi => by
          obtain ⟨q, x, f, e, g1, g2, g3⟩ := hl i (.ref qs[i]) (by rw [List.getElem?_map, List.getElem?_eq_getElem hi]; rfl)
          cases e
          exact ⟨x, f, g1, g2, g3⟩
        have hp := (pinL_j.mp k.j).1 (pp, .lst (qs.map V.ref)) List.mem_cons_self
        have zp : ((Wd.at (fun _ => False) (fun _ _ => True) h).pinL [(pp, .lst (qs.map V.ref))]).Z pp := pinL_z.mpr (.inl List.mem_cons_self)
        refine ⟨p, pp, qs, rfl, ?_, h1, hpp, fun q m => ?_, fun b o e => k.kept b o (fun c => c) e, h3, hp, fun q m => ?_, by omega, by omega⟩
        · refine List.nodup_cons.mpr ⟨fun m => ?_, List.nodup_cons.mpr ⟨fun m => ?_, ?_⟩⟩
          · rcases List.mem_cons.mp m with rfl | m
            · exact h2 zp
            · obtain ⟨i, hi, e⟩ := List.getElem_of_mem m
              obtain ⟨x, f, _, _, g⟩ := hq i hi
              rw [e, h3] at g
              cases g
          · obtain ⟨i, hi, e⟩ := List.getElem_of_mem m
            obtain ⟨x, f, _, g, _⟩ := hq i hi
            exact g (e ▸ zp)
          · refine List.pairwise_iff_getElem.mpr fun i j hi hj hij e => ?_
            obtain ⟨x, f, _, _, g⟩ := hq i hi
            obtain ⟨x', f', _, _, g'⟩ := hq j hj
            rw [e, g'] at g
            simp only [Option.some.injEq, HO.lst.injEq, List.cons.injEq, V.int.injEq, and_true] at g
            omega
        · obtain ⟨i, hi, rfl⟩ := List.getElem_of_mem m
          exact (hq i hi).choose_spec.choose_spec.1
        · obtain ⟨i, hi, rfl⟩ := List.getElem_of_mem m
          obtain ⟨x, f, _, _, g⟩ := hq i hi
          exact ⟨_, g, x, f, _, rfl, by omega, by omega⟩
    exact ⟨_, key, at_ok Wok.none trivial (.cons rfl .nil), fun _ _ z => z.elim, fun v H' ⟨p, pp, qs, ev, z1, z2, z3, z4, z5, z6, z7, z8, z9, z10⟩ => ev ▸ fin p pp qs H' z1 z2 z3 z4 z5 z6 z7 z8 z9 z10, fun _ _ z => z, fun _ _ z => z⟩
end
end K50
set_option maxRecDepth 100000
set_option maxHeartbeats 4000000
namespace K50
open PySem PySem.Spec PyProof.Rows L2 Dv
section
variable {P : Program} {w : World} {K : PySem.W.Frag} {mg : Str → Option Value} {base : Heap} {a : Ads}
/-! ### the program -/
def small : Str := "abcdefghijklmnopqrstuvwxyz"
def isSmall : PyData → Bool
  | .str ⟨#[c]⟩ => decide (c ∈ small.cps.toList)
  | _ => false
/-- an office -/
def office : PyData → Bool
  | .str x => (decide (1 ≤ (x.length : Int)) && decide ((x.length : Int) ≤ 8)) && ((sgn x).map isSmall).all id
  | _ => false
def lenOk : PyData → Bool
  | .str x => decide (1 ≤ (x.length : Int)) && decide ((x.length : Int) ≤ 8)
  | _ => false
def fits : PyData → Prop := fun d => ∀ x, d = .str x → x.length ≤ 100000
theorem sgn_mem {x : Str} {d : PyData} (h : d ∈ sgn x) : ∃ c, d = .str ⟨#[c]⟩ := by
  obtain ⟨c, _, rfl⟩ := List.mem_map.mp h
  exact ⟨c, rfl⟩
theorem ok_is_office (T : Txt K mg a) : FnOk P w K mg base CX0 2 a.a_is_office a.d_is_office ["value"] (sp1 fits fun d => .bool (office d)) := by
  refine okDO T.F_is_office sc_is_office (by rintro ds ⟨d, rfl, _⟩; rfl) (fun cd B fr t h e rm Z J n ds ln hp => ?_)
  obtain ⟨d, rfl, hf⟩ := hp
  refine hs_guard (P := (· = !lenOk d)) (PW.pt (dt_or (m2 := 0) (P1 := (· = !isStr d)) (dt_not (dt_val (de_isi (by rfl) T.n_isinstance (de_var (pv 0) rfl) (de_ty (by rfl) T.n_str boot_str) (kit_str d))) (by rintro b rfl; rfl)) (fun q => ?_) (fun q => ?_))) ln (fun q => ?_) (fun q => ?_)
  · obtain ⟨x, rfl⟩ := str_of (d := d) (by simpa using q)
    refine dt_or1 (dt_not (dt_le2 de_int (de_len (by rfl) T.n_len (de_var (pv 0) rfl) (lenS (hf x rfl))) de_int) (by rintro b rfl; rfl))
  · have : isStr d = false := by simpa using q
    cases d <;> first | rfl | cases this
  · refine hs_ret de_bl ln (fun v σ H k o => rt_at k ⟨_, eqd_ok o, d, rfl, ?_⟩ (Nat.le_refl _))
    cases d with
    | str x =>
      have e : (decide (1 ≤ (x.length : Int)) && decide ((x.length : Int) ≤ 8)) = false := Bool.not_eq_true' _ |>.mp q.symm
      show PyData.bool false = .bool ((decide (1 ≤ (x.length : Int)) && decide ((x.length : Int) ≤ 8)) && _)
      rw [e]
      rfl
    | _ => rfl
  · have ql : lenOk d = true := by simpa using q
    obtain ⟨x, rfl⟩ : ∃ x, d = .str x := by
      cases d <;> first | exact ⟨_, rfl⟩ | cases ql
    obtain ⟨t0, hc⟩ := T.c_SMALL_LETTERS
    have hlen : (sgn x).length ≤ 100000 := by
      rw [sgn_len]
      exact hf x rfl
    refine hs_ret (de_all (bs := (sgn x).map isSmall) rfl (by rfl) T.n_all (DE.to (de_lcM (c2 := 0) (own := [("sign", 1)]) (g := fun d => .bool (isSmall d)) rfl sc_is_office.nd (di_str (de_var (pv 0) rfl)) (blkOk_by (N := ["value", "sign"]) (sc := defScope sIsOffice) (by decide +kernel)) (j := 1) rfl (by decide) (Nat.le_trans hlen (by decide)) (fun _ _ _ _ _ => pg_name sc_is_office.nd rfl (Or.inl rfl)) (fun s H C cl fp D φ d nD dm => ?_)) (by rw [List.map_map]; rfl))) ln (fun v σ H k o => rt_at k ⟨_, eqd_ok o, _, rfl, ?_⟩ (Nat.le_refl _))
    · obtain ⟨c, rfl⟩ := sgn_mem dm
      exact bol_de (de_cmp op_inS (de_var (pv 1) rfl) (de_gstr (by rfl) hc) o_in (by with_unfolding_all rfl))
    · have e : (decide (1 ≤ (x.length : Int)) && decide ((x.length : Int) ≤ 8)) = true := ql
      show PyData.bool _ = .bool ((decide (1 ≤ (x.length : Int)) && decide ((x.length : Int) ≤ 8)) && _)
      rw [e]
      rfl

theorem kit_ii : kitB "int" "int" = some true := by decide +kernel
theorem kit_ib : kitB "int" "bool" = some false := by decide +kernel
theorem kit_tt : kitB "tuple" "tuple" = some true := by decide +kernel
theorem kit_ll : kitB "list" "list" = some true := by decide +kernel
def IsI (d : PyData) : Prop := ∃ i, d = .int i
theorem ok_is_integer (T : Txt K mg a) : FnOk P w K mg base CX0 1 a.a_is_integer a.d_is_integer ["value"] (sp1 IsI fun d => .bool true) := by
  refine okDO T.F_is_integer sc_is_integer (by rintro ds ⟨d, rfl, _⟩; rfl) (fun cd B fr t h e rm Z J n ds ln hp => ?_)
  obtain ⟨_, rfl, i, rfl⟩ := hp
  refine hs_ret (m := 0) (A := bol _ (· = true)) (de_and (m1 := 0) (m2 := 0) (P1 := (· = true)) (de_bol (de_isi (by rfl) T.n_isinstance (de_var (pv 0) rfl) (de_ty (by rfl) T.n_int boot_int) kit_ii)) (fun _ => de_one (de_not (P1 := (· = false)) (de_bol (de_isi (by rfl) T.n_isinstance (de_var (pv 0) rfl) (de_ty (by rfl) T.n_bool boot_bool) kit_ib)) (by rintro b rfl; rfl))) (fun q => absurd q (by decide))) ln (fun v σ H k o => rt_at k ?_ (Nat.le_refl _))
  obtain ⟨b, rfl, rfl⟩ := o
  exact ⟨_, .bl _, _, rfl, rfl⟩
/-- an entry of a log -/
abbrev En := Str × Int × Int
def enD (s : En) : PyData := .tuple [.str s.1, .int s.2.1, .int s.2.2]
def NaOk (x : Str) : Prop := office (.str x) = true ∧ x.length ≤ 100000
def EnOk (s : En) : Prop := NaOk s.1 ∧ s.2.1 ≤ s.2.2
def LogOk (es : List En) : Prop := (∀ s ∈ es, EnOk s) ∧ es.length ≤ 1000
def IsEn (d : PyData) : Prop := ∃ s, d = enD s ∧ EnOk s
theorem ok_is_entry (T : Txt K mg a) : FnOk P w K mg base CX0 3 a.a_is_entry a.d_is_entry ["value"] (sp1 IsEn fun _ => .bool true) := by
  refine okDO T.F_is_entry sc_is_entry (by rintro ds ⟨d, rfl, _⟩; rfl) (fun cd B fr t h e rm Z J n ds ln hp => ?_)
  obtain ⟨_, rfl, s, rfl, ⟨ho, hl⟩, hs⟩ := hp
  have rm1 : Room 1 (B.deeper (envOfC "_is_entry" (defScope sIsEntry) t.heap.objs.size a.a_is_entry cd)) := rm.mono (by decide)
  refine hs_guard (m := 0) (P := (· = false)) (PW.pt (dt_or (m1 := 0) (m2 := 0) (P1 := (· = false)) (dt_not (dt_val (de_isi (by rfl) T.n_isinstance (de_var (pv 0) rfl) (de_ty (by rfl) T.n_tuple boot_tuple) kit_tt)) (by rintro b rfl; rfl)) (fun _ => dt_or1 (DT.imp (dt_cmp (m1 := 0) (m2 := 0) op_ne (de_len (m := 0) (k := 3) (by rfl) T.n_len (de_var (pv 0) rfl) rfl) de_int o_neI (nomark _)) (fun b hb => by rw [hb]; decide))) (fun q => absurd q (by decide)))) ln (fun q => absurd q (by decide)) (fun _ => ?_)
  refine hs_asgT (m := 0) (d := enD s) (tg_trip (i := 1) (j := 2) (k := 3) rfl sc_is_entry.nd rfl rfl rfl (Or.inl rfl) (Or.inl rfl) (Or.inl rfl)) (de_var (pv 0) rfl) ⟨_, _, _, rfl⟩ ln ?_
  refine hs_ret (m := 0) (A := bol _ (· = true)) (de_and (m1 := 0) (m2 := 0) (P1 := (· = true)) (DE.imp (de_bol (fn1O (ok_is_office T) rm (by rfl) T.g_is_office T.F_is_office.kp T.b_is_office (de_var (pv 1) rfl) (by rintro x e; cases e; exact hl))) fun H v ⟨b, e, hb⟩ => ⟨b, e, by rw [hb]; exact ho⟩) (fun _ =>
    de_and (m1 := 0) (m2 := 0) (P1 := (· = true)) (de_bol (fn1O (ok_is_integer T) rm1 (by rfl) T.g_is_integer T.F_is_integer.kp T.b_is_integer (de_var (pv 2) rfl) ⟨_, rfl⟩)) (fun _ =>
      de_and (m1 := 0) (m2 := 0) (P1 := (· = true)) (de_bol (fn1O (ok_is_integer T) rm1 (by rfl) T.g_is_integer T.F_is_integer.kp T.b_is_integer (de_var (pv 3) rfl) ⟨_, rfl⟩)) (fun _ =>
        de_one ((de_cmp (m1 := 0) (m2 := 0) op_le (de_var (pv 2) rfl) (de_var (pv 3) rfl) o_cmp (nomark _)).imp fun H v ⟨b, e, hb⟩ => ⟨b, e, by rw [hb]; exact decide_eq_true hs⟩)) (fun q => absurd q (by decide))) (fun q => absurd q (by decide))) (fun q => absurd q (by decide))) ln (fun v σ H k o => rt_at k ?_ (Nat.le_refl _))
  obtain ⟨b, rfl, rfl⟩ := o
  exact ⟨_, .bl _, _, rfl, rfl⟩
def logD (es : List En) : PyData := .list (es.map enD)
def IsLg (d : PyData) : Prop := ∃ es, d = logD es ∧ LogOk es
theorem all_true {n : Nat} : ((List.replicate n true).all id) = true := by
  induction n with
  | zero => rfl
  | succ n ih => rw [List.replicate_succ, List.all_cons, ih]; rfl
theorem ok_is_log (T : Txt K mg a) : FnOk P w K mg base CX0 4 a.a_is_log a.d_is_log ["value"] (sp1 IsLg fun _ => .bool true) := by
  refine okDO T.F_is_log sc_is_log (by rintro ds ⟨d, rfl, _⟩; rfl) (fun cd B fr t h e rm Z J n ds ln hp => ?_)
  obtain ⟨_, rfl, es, rfl, he, hl⟩ := hp
  refine hs_ret (m := 0) (A := bol _ (· = true)) (de_and (m1 := 0) (m2 := 0) (P1 := (· = true)) (de_bol (de_isi (by rfl) T.n_isinstance (de_var (pv 0) rfl) (de_ty (by rfl) T.n_list boot_list) kit_ll)) (fun _ => ?_) (fun q => absurd q (by decide))) ln (fun v σ H k o => rt_at k ?_ (Nat.le_refl _))
  · refine de_one ((de_bol (v := (List.replicate es.length true).all id) (de_all (bs := List.replicate es.length true) (m := 0) rfl (by rfl) T.n_all (DE.to (DE.up (m := 0 + (es.map enD).length * (0 + 0)) (de_lcM (m := 0) (c2 := 0) (own := [("entry", 1)]) (g := fun _ => .bool true) rfl sc_is_log.nd (di_list (de_var (pv 0) rfl)) (blkOk_by (N := ["value", "entry"]) (sc := defScope sIsLog) (by decide +kernel)) (j := 1) rfl (by decide) (by rw [List.length_map]; omega) (fun _ _ _ _ _ => pg_name sc_is_log.nd rfl (Or.inl rfl))
      (fun s H C cl fp D φ d nD dm => fn1O (ok_is_entry T) rm (by rfl) T.g_is_entry T.F_is_entry.kp T.b_is_entry (de_var (pv 1) rfl) ?_)) (by omega)) ?_))).imp fun H v ⟨b, e, hb⟩ => ⟨b, e, by rw [hb, all_true]⟩)
    · obtain ⟨s, ms, rfl⟩ := List.mem_map.mp dm
      exact ⟨s, rfl, he s ms⟩
    · congr 1
      rw [List.map_map, List.map_replicate]
      exact List.eq_replicate_iff.mpr ⟨List.length_map _, fun b mb => by obtain ⟨_, _, rfl⟩ := List.mem_map.mp mb; rfl⟩
  · obtain ⟨b, rfl, rfl⟩ := o
    exact ⟨_, .bl _, _, rfl, rfl⟩
theorem ok_check_log (T : Txt K mg a) : FnOk P w K mg base CX0 5 a.a_check_log a.d_check_log ["value"] (sp1 IsLg fun _ => .none) := by
  refine okDO T.F_check_log sc_check_log (by rintro ds ⟨d, rfl, _⟩; rfl) (fun cd B fr t h e rm Z J n ds ln hp => ?_)
  obtain ⟨d, rfl, hd⟩ := hp
  refine hs_guard (m := 0) (P := (· = false)) (dt_not (P1 := (· = true)) (dt_val (fn1O (ok_is_log T) rm (by rfl) T.g_is_log T.F_is_log.kp T.b_is_log (de_var (pv 0) rfl) hd)) (by rintro b rfl; rfl)) ln (fun q => absurd q (by decide)) (fun _ => hs_nil fun σ H k => ?_)
  exact rt_at k ⟨_, .non, _, rfl, rfl⟩ (Nat.le_refl _)
/-- two entries clash -/
def clo (s : En) (w : Int) : Bool := decide (s.2.1 ≤ w) && decide (w < s.2.2)
def clB (s r : En) : Bool := decide (s.1 = r.1) && (clo s r.2.2 || clo r s.2.2)
theorem dt_lelt {X : Cx} {W : Wd} {Δ : List Sl} {e0 e1 e2 : Expr} {pos : Pos} {i j l : Int} (ha : DE X W Δ 0 e0 (eqd W.Z (.int i))) (hb : DE X W Δ 0 e1 (eqd W.Z (.int j))) (hc : DE X W Δ 0 e2 (eqd W.Z (.int l))) : True := trivial
end
end K50
set_option maxRecDepth 100000
set_option maxHeartbeats 4000000
namespace K50
open PySem PySem.Spec PyProof.Rows L2 Dv
theorem en_inj {s r : En} (h : enD s = enD r) : s = r := by
  obtain ⟨x, b, t⟩ := s
  obtain ⟨y, c, u⟩ := r
  unfold enD at h
  simp only [PyData.tuple.injEq, List.cons.injEq, PyData.str.injEq, PyData.int.injEq, and_true] at h
  obtain ⟨rfl, rfl, rfl⟩ := h
  rfl
theorem map_inj : ∀ {es rs : List En}, es.map enD = rs.map enD → es = rs
  | [], [], _ => rfl
  | [], _ :: _, h => nomatch h
  | _ :: _, [], h => nomatch h
  | s :: es, r :: rs, h => by
    rw [List.map_cons, List.map_cons, List.cons.injEq] at h
    rw [en_inj h.1, map_inj h.2]
theorem log_inj {es rs : List En} (h : logD es = logD rs) : es = rs := map_inj (PyData.list.inj h)
def cl (es : List En) (i j : Nat) : Bool := match es[i]?, es[j]? with
  | some s, some r => clB s r
  | _, _ => false
def NoCj (es : List En) (j m : Nat) : Prop := ∀ i, i < m → cl es i j = false
def NoCl (es : List En) (m : Nat) : Prop := ∀ j, j < m → NoCj es j j
def Fst (es : List En) (i j : Nat) : Prop := i < j ∧ j < es.length ∧ cl es i j = true ∧ NoCl es j ∧ NoCj es j i
def ClOut (es : List En) (d : PyData) : Prop := (∃ i j : Nat, Fst es i j ∧ d = .tuple [.int i, .int j]) ∨ (NoCl es es.length ∧ d = .none)
theorem fst_uniq {es : List En} {i j i' j' : Nat} (h : Fst es i j) (h' : Fst es i' j') : i = i' ∧ j = j' := by
  obtain ⟨h1, h2, h3, h4, h5⟩ := h
  obtain ⟨g1, g2, g3, g4, g5⟩ := h'
  have ej : j = j' := by
    rcases Nat.lt_trichotomy j j' with c | c | c
    · rw [g4 j c i h1] at h3
      cases h3
    · exact c
    · rw [h4 j' c i' g1] at g3
      cases g3
  subst ej
  refine ⟨?_, rfl⟩
  rcases Nat.lt_trichotomy i i' with c | c | c
  · rw [g5 i c] at h3
    cases h3
  · exact c
  · rw [h5 i' c] at g3
    cases g3
theorem clout_uniq {es : List En} {d d' : PyData} (h : ClOut es d) (h' : ClOut es d') : d = d' := by
  rcases h with ⟨i, j, h, rfl⟩ | ⟨h, rfl⟩
  · rcases h' with ⟨i', j', h', rfl⟩ | ⟨h', rfl⟩
    · obtain ⟨rfl, rfl⟩ := fst_uniq h h'
      rfl
    · obtain ⟨h1, h2, h3, _⟩ := h
      rw [h' j h2 i h1] at h3
      cases h3
  · rcases h' with ⟨i', j', h', rfl⟩ | ⟨h', rfl⟩
    · obtain ⟨h1, h2, h3, _⟩ := h'
      rw [h j' h2 i' h1] at h3
      cases h3
    · rfl
theorem nocj_or (es : List En) (j : Nat) : ∀ m, NoCj es j m ∨ ∃ i, i < m ∧ cl es i j = true ∧ NoCj es j i
  | 0 => .inl fun i h => absurd h (Nat.not_lt_zero _)
  | m + 1 => by
    rcases nocj_or es j m with h | ⟨i, h1, h2, h3⟩
    · cases c : cl es m j with
      | true => exact .inr ⟨m, Nat.lt_succ_self _, c, h⟩
      | false =>
        refine .inl fun i hi => ?_
        by_cases e : i = m
        · rw [e]
          exact c
        · exact h i (by omega)
    · exact .inr ⟨i, by omega, h2, h3⟩
theorem nocl_or (es : List En) : ∀ m, m ≤ es.length → NoCl es m ∨ ∃ i j, Fst es i j
  | 0, _ => .inl fun i h => absurd h (Nat.not_lt_zero _)
  | m + 1, hm => by
    rcases nocl_or es m (by omega) with h | h
    · rcases nocj_or es m m with g | ⟨i, h1, h2, h3⟩
      · refine .inl fun j hj => ?_
        by_cases e : j = m
        · rw [e]
          exact g
        · exact h j (by omega)
      · exact .inr ⟨i, m, h1, by omega, h2, h, h3⟩
    · exact .inr h
theorem clout_ex (es : List En) : ∃ d, ClOut es d := by
  rcases nocl_or es es.length (Nat.le_refl _) with h | ⟨i, j, h⟩
  · exact ⟨_, .inr ⟨h, rfl⟩⟩
  · exact ⟨_, .inl ⟨i, j, h, rfl⟩⟩
open Classical in
/-- the first clash of a log, as data -/
noncomputable def clD (d : PyData) : PyData := if h : ∃ es r, d = logD es ∧ ClOut es r then h.choose_spec.choose else .none
theorem clD_eq {es : List En} {r : PyData} (h : ClOut es r) : r = clD (logD es) := by
  have ex : ∃ es' r', logD es = logD es' ∧ ClOut es' r' := ⟨es, r, rfl, h⟩
  have key : ∀ es' r', logD es = logD es' → ClOut es' r' → r = r' := fun es' r' e g => by
    cases log_inj e
    exact clout_uniq h g
  unfold clD
  rw [dif_pos ex]
  exact key _ _ ex.choose_spec.choose_spec.1 ex.choose_spec.choose_spec.2
theorem clD_out (es : List En) : ClOut es (clD (logD es)) := by
  obtain ⟨d, h⟩ := clout_ex es
  rw [← clD_eq h]
  exact h
theorem at_en {es : List En} {i : Nat} (h : i < es.length) : atI (es.map enD) (i : Nat) = some (enD es[i]) := atI_nat (by rw [List.getElem?_map, List.getElem?_eq_getElem h]; rfl)
theorem cl_eq {es : List En} {i j : Nat} (hi : i < es.length) (hj : j < es.length) : cl es i j = clB es[i] es[j] := by
  unfold cl
  rw [List.getElem?_eq_getElem hi, List.getElem?_eq_getElem hj]
section
variable {P : Program} {w : World} {K : PySem.W.Frag} {mg : Str → Option Value} {base : Heap} {a : Ads}
theorem rt_in {Z : Addr → Prop} {J : Nat → Hp → Prop} {h H' : Hp} {n : Nat} {Pd : PyData → Prop} {W' : Wd} {Δ : List Sl} {σ : L2.St} {v : V} (k : Ok W' n Δ σ H') (o : (dat W'.Z Pd).ok H' v) (hz : ∀ a, Z a → W'.Z a) (hj : ∀ H, W'.J n H → J n H) (hk : Kp Z h H') : RT Z J h n Pd v H' := by
  obtain ⟨d, o, p⟩ := o
  exact ⟨d, hk, hj _ k.j, o.mono Kp.refl fun a z => .inl (hz a z), p⟩
def ClIn2 (ds : List PyData) : Prop := ∃ s r, ds = [enD s, enD r]
theorem ok_clash (T : Txt K mg a) : FnOk P w K mg base CX0 1 a.a_clash a.d_clash ["entry", "other"] (spD ClIn2 fun ds d => ∃ s r, ds = [enD s, enD r] ∧ d = .bool (clB s r)) := by
  refine okDO T.F_clash sc_clash (by rintro ds ⟨s, r, rfl⟩; rfl) (fun cd B fr t h e rm Z J n ds ln hp => ?_)
  obtain ⟨s, r, rfl⟩ := hp
  refine hs_ret (m := 0) (A := bol _ (· = clB s r)) (de_and (m1 := 0) (m2 := 0) (P1 := (· = decide (s.1 = r.1))) (de_cmp (m1 := 0) (m2 := 0) op_eq (de_tix (m := 0) (m1 := 0) (d := .str s.1) (ds := [.str s.1, .int s.2.1, .int s.2.2]) (de_var (pv 0) rfl) de_int rfl) (de_tix (m := 0) (m1 := 0) (d := .str r.1) (ds := [.str r.1, .int r.2.1, .int r.2.2]) (de_var (pv 1) rfl) de_int rfl) o_eqS (nomark _))
    (fun c => de_one (DE.imp (de_or (m1 := 0) (m2 := 0) (P1 := (· = clo s r.2.2)) (P := (· = (clo s r.2.2 || clo r s.2.2)))
      (de_chain (m1 := 0) (m2 := 0) (m3 := 0) op_le op_lt (de_tix (m := 0) (m1 := 0) (d := .int s.2.1) (ds := [.str s.1, .int s.2.1, .int s.2.2]) (de_var (pv 0) rfl) de_int rfl) (de_tix (m := 0) (m1 := 0) (d := .int r.2.2) (ds := [.str r.1, .int r.2.1, .int r.2.2]) (de_var (pv 1) rfl) de_int rfl) (de_tix (m := 0) (m1 := 0) (d := .int s.2.2) (ds := [.str s.1, .int s.2.1, .int s.2.2]) (de_var (pv 0) rfl) de_int rfl) o_cmp o_cmp (by rintro x y rfl rfl; rfl) (fun h => by unfold clo; rw [← h]; rfl))
      (fun c2 => de_one (DE.imp (de_chain (m1 := 0) (m2 := 0) (m3 := 0) (P := (· = clo r s.2.2)) op_le op_lt (de_tix (m := 0) (m1 := 0) (d := .int r.2.1) (ds := [.str r.1, .int r.2.1, .int r.2.2]) (de_var (pv 1) rfl) de_int rfl) (de_tix (m := 0) (m1 := 0) (d := .int s.2.2) (ds := [.str s.1, .int s.2.1, .int s.2.2]) (de_var (pv 0) rfl) de_int rfl) (de_tix (m := 0) (m1 := 0) (d := .int r.2.2) (ds := [.str r.1, .int r.2.1, .int r.2.2]) (de_var (pv 1) rfl) de_int rfl) o_cmp o_cmp (by rintro x y rfl rfl; rfl) (fun h => by unfold clo; rw [← h]; rfl)) fun H v ⟨b, e, hb⟩ => ⟨b, e, by rw [hb, ← c2]; rfl⟩))
      (fun c2 => by rw [← c2]; rfl)) fun H v ⟨b, e, hb⟩ => ⟨b, e, by rw [hb]; unfold clB; rw [← c]; rfl⟩))
    (fun c => by unfold clB; rw [← c]; rfl)) ln (fun v σ H k o => rt_at k ?_ (Nat.le_refl _))
  obtain ⟨b, rfl, rfl⟩ := o
  exact ⟨_, .bl _, s, r, rfl, rfl⟩
theorem ok_law_closes (T : Txt K mg a) : FnOk P w K mg base CX0 1 a.a_law_closes a.d_law_closes ["entry", "when"] (spD (fun ds => ∃ s i, ds = [enD s, .int i]) fun ds d => ∃ s i, ds = [enD s, .int i] ∧ d = .bool (clo s i)) := by
  refine okDO T.F_law_closes sc_law_closes (by rintro ds ⟨s, r, rfl⟩; rfl) (fun cd B fr t h e rm Z J n ds ln hp => ?_)
  obtain ⟨s, i, rfl⟩ := hp
  refine hs_ret (m := 0) (A := bol _ (· = clo s i)) (de_chain (m1 := 0) (m2 := 0) (m3 := 0) op_le op_lt (de_tix (m := 0) (m1 := 0) (d := .int s.2.1) (ds := [.str s.1, .int s.2.1, .int s.2.2]) (de_var (pv 0) rfl) de_int rfl) (de_var (pv 1) rfl) (de_tix (m := 0) (m1 := 0) (d := .int s.2.2) (ds := [.str s.1, .int s.2.1, .int s.2.2]) (de_var (pv 0) rfl) de_int rfl) o_cmp o_cmp (by rintro x y rfl rfl; rfl) (fun h => by unfold clo; rw [← h]; rfl)) ln (fun v σ H k o => rt_at k ?_ (Nat.le_refl _))
  obtain ⟨b, rfl, rfl⟩ := o
  exact ⟨_, .bl _, s, i, rfl, rfl⟩
theorem de_clash {X : Cx} {W : Wd} {Δ : List Sl} {e0 e1 : Expr} {p pos : Pos} {s r : En} (T : Txt X.K X.mg a) (rm : Room 1 X.A) (hg : Gl X "_clash") (h0 : DE X W Δ 0 e0 (eqd W.Z (enD s))) (h1 : DE X W Δ 0 e1 (eqd W.Z (enD r)))
    (s1 : starEach [e0, e1] X.env = (false, eval e0 X.env) :: starEach [e1] X.env := by rfl) (s2 : starEach [e1] X.env = (false, eval e1 X.env) :: starEach [] X.env := by rfl) (s3 : (backTo pos (starEach [e1] X.env)).any (·.1) = false := by rfl) :
    DE X W Δ 0 (.Call (.Name "_clash" p) [e0, e1] [] pos) (eqd W.Z (.bool (clB s r))) :=
  de_callO (m := 0) (ok_clash T) rm hg T.g_clash T.F_clash.kp T.b_clash (da_cons (m1 := 0) (m2 := 0) h0 (da_cons (m1 := 0) (m2 := 0) h1 da_nil s2) s1) (fun H vs o => by
    obtain ⟨d1, d2, hd, rfl, rfl⟩ := allo2 (P1 := (· = enD s)) (P2 := (· = enD r)) o
    refine ⟨_, hd, ⟨_, _, rfl⟩, ?_⟩
    rintro d ⟨s', r', e, rfl⟩
    simp only [List.cons.injEq, and_true] at e
    rw [en_inj e.1, en_inj e.2]) (by decide) s1 s3
theorem de_closes {X : Cx} {W : Wd} {Δ : List Sl} {e0 e1 : Expr} {p pos : Pos} {s : En} {i : Int} (T : Txt X.K X.mg a) (rm : Room 1 X.A) (hg : Gl X "_law_closes") (h0 : DE X W Δ 0 e0 (eqd W.Z (enD s))) (h1 : DE X W Δ 0 e1 (eqd W.Z (.int i)))
    (s1 : starEach [e0, e1] X.env = (false, eval e0 X.env) :: starEach [e1] X.env := by rfl) (s2 : starEach [e1] X.env = (false, eval e1 X.env) :: starEach [] X.env := by rfl) (s3 : (backTo pos (starEach [e1] X.env)).any (·.1) = false := by rfl) :
    DE X W Δ 0 (.Call (.Name "_law_closes" p) [e0, e1] [] pos) (eqd W.Z (.bool (clo s i))) :=
  de_callO (m := 0) (ok_law_closes T) rm hg T.g_law_closes T.F_law_closes.kp T.b_law_closes (da_cons (m1 := 0) (m2 := 0) h0 (da_cons (m1 := 0) (m2 := 0) h1 da_nil s2) s1) (fun H vs o => by
    obtain ⟨d1, d2, hd, rfl, rfl⟩ := allo2 (P1 := (· = enD s)) (P2 := (· = .int i)) o
    refine ⟨_, hd, ⟨_, _, rfl⟩, ?_⟩
    rintro d ⟨s', r', e, rfl⟩
    simp only [List.cons.injEq, and_true, PyData.int.injEq] at e
    rw [en_inj e.1, e.2]) (by decide) s1 s3
theorem ok_find_clash (T : Txt K mg a) : FnOk P w K mg base CX0 6 a.a_find_clash a.d_find_clash ["log"] (sp1 IsLg clD) := by
  refine okDO T.F_find_clash sc_find_clash (by rintro ds ⟨d, rfl, _⟩; rfl) (fun cd B fr t h e rm Z J n ds ln hp => ?_)
  obtain ⟨_, rfl, es, rfl, he, hl⟩ := hp
  have rm1 : Room 1 (B.deeper (envOfC "find_clash" (defScope sFindClash) t.heap.objs.size a.a_find_clash cd)) := rm.mono (by decide)
  refine hs_expr (m := 0) (fn1O (ok_check_log T) rm (by rfl) T.g_check_log T.F_check_log.kp T.b_check_log (de_var (pv 0) rfl) ⟨es, rfl, he, hl⟩) ln ?_
  refine hs_forP (m := 0) (W := Wd.at Z J h) (as := []) (l0 := []) (ι := Unit) (Ps := (· = upto es.length)) (R := fun _ i _ => NoCl es i) (l := fun _ _ _ => []) (Γ := fun _ _ _ => [.val (logD es), .no, .no]) (Ni := fun _ => n) PassesOwn.never rfl
    (DI.to (di_range (Pn := (· = (es.length : Int))) (by rfl) T.n_range (ei (de_len (m := 0) (k := es.length) (by rfl) T.n_len (de_var (pv 0) rfl) (by show some (es.map enD).length = _; rw [List.length_map])) rfl) (by intro i q; omega)) (by rintro xs ⟨i, rfl, rfl⟩; rfl))
    ln (tg_name (i := 1) sc_find_clash.nd rfl (Or.inl rfl)) (fun _ _ _ => rfl) (fun xs _ => ⟨(), fun j hj => absurd hj (Nat.not_lt_zero _), rfl, .same (.no (.no .nil))⟩) (Nat.le_refl _) (fun _ _ _ _ => trivial) (fun H2 xs s d u hk2 px hd hR => ?_) (fun xs u px hR => ?_)
  · subst px
    have hs : s < es.length := by
      have := (List.getElem?_eq_some_iff.mp hd).1
      rw [upto_len] at this
      omega
    rw [upto_get (by omega)] at hd
    cases hd
    refine hs_forP (m := 0) (W := (Wd.at Z J h).cut H2 []) (as := []) (l0 := []) (ι := Unit) (Ps := (· = upto s)) (R := fun _ i _ => NoCj es s i) (l := fun _ _ _ => []) (Γ := fun _ _ _ => [.val (logD es), .val (.int (s : Nat)), .no]) (Ni := fun _ => n) PassesOwn.never rfl
      (DI.to (di_range (Pn := (· = (s : Int))) (by rfl) T.n_range (ei (de_var (pv 1) rfl) rfl) (by intro i q; omega)) (by rintro xs ⟨i, rfl, rfl⟩; rfl))
      ln (tg_name (i := 2) sc_find_clash.nd rfl (Or.inl rfl)) (fun _ _ _ => rfl) (fun xs _ => ⟨(), fun j hj => absurd hj (Nat.not_lt_zero _), rfl, .same (.same (.no .nil))⟩) (Nat.le_refl _) (fun _ _ _ _ => trivial) (fun H3 xs i d u hk3 px hd hR2 => ?_) (fun xs u px hR2 => ?_)
    · subst px
      have hi : i < s := by
        have := (List.getElem?_eq_some_iff.mp hd).1
        rw [upto_len] at this
        omega
      rw [upto_get (by omega)] at hd
      cases hd
      have hi2 : i < es.length := by omega
      refine hs_guard (m := 0) (P := (· = clB es[i] es[s])) (dt_val (de_clash T rm1 (by rfl) (de_lix (m := 0) (m1 := 0) (ds := es.map enD) (d := enD es[i]) (de_var (pv 0) rfl) (de_var (pv 2) rfl) (at_en hi2)) (de_lix (m := 0) (m1 := 0) (ds := es.map enD) (d := enD es[s]) (de_var (pv 0) rfl) (de_var (pv 1) rfl) (at_en hs)))) ln (fun c => ?_) (fun c => ?_)
      · refine hs_ret (m := 0) (de_tupl (das_cons (m1 := 0) (m2 := 0) (de_var (pv 2) rfl) (das_cons (m1 := 0) (m2 := 0) (de_var (pv 1) rfl) das_nil))) ln (fun v σ H k o => ?_)
        have k2 : Kp Z h H2 := fun b o nz e => hk2 b o (fun z => nz z) e
        refine rt_in k ⟨_, eqd_ok o, logD es, rfl, clD_eq (.inl ⟨i, s, ⟨hi, hs, by rw [cl_eq hi2 hs]; exact c.symm, hR, hR2⟩, rfl⟩)⟩ (fun b z => pinL_z.mpr (.inr (cut_z.mpr (cut_z.mpr (at_z.mpr z))))) (fun H j => at_j.mp (cut_j.mp (cut_j.mp (pinL_j.mp j).2))) (fun b o nz e => ?_)
        have e2 : H2 b = some o := k2 b o nz e
        have e3 : H3 b = some o := hk3 b o (fun z => nz (at_z.mp z)) (by show (if b ∈ [] then none else H2 b) = _; rw [if_neg (fun m => nomatch m)]; exact e2)
        exact k.kept b o (fun z => nz (at_z.mp (cut_z.mp z))) (by show (if b ∈ [] then none else H3 b) = _; rw [if_neg (fun m => nomatch m)]; exact e3)
      · exact hs_nil fun σ H k => ⟨(), fun j hj => by
          by_cases c2 : j = i
          · rw [c2, cl_eq hi2 hs]
            exact c.symm
          · exact hR2 j (by omega), k.less (.same (.same (.no .nil)))⟩
    · subst px
      rw [upto_len] at hR2
      exact hs_nil fun σ H k => ⟨(), fun j hj => by
        by_cases c2 : j = s
        · rw [c2]
          exact hR2
        · exact hR j (by omega), k.less (.same (.no (.no .nil)))⟩
  · subst px
    rw [upto_len] at hR
    refine hs_ret (m := 0) de_non ln (fun v σ H k o => ?_)
    exact rt_at k ⟨_, eqd_ok o, logD es, rfl, clD_eq (.inr ⟨hR, rfl⟩)⟩ (Nat.le_refl _)
end
end K50
set_option maxRecDepth 100000
set_option maxHeartbeats 4000000
namespace K50
open PySem PySem.Spec PyProof.Rows L2 Dv
section
variable {P : Program} {w : World} {K : PySem.W.Frag} {mg : Str → Option Value} {base : Heap} {a : Ads}
theorem ok_law_first_clash (T : Txt K mg a) : FnOk P w K mg base CX0 2 a.a_law_first_clash a.d_law_first_clash ["entries"] (sp1 IsLg clD) := by
  refine okDO T.F_law_first_clash sc_law_first_clash (by rintro ds ⟨d, rfl, _⟩; rfl) (fun cd B fr t h e rm Z J n ds ln hp => ?_)
  obtain ⟨_, rfl, es, rfl, he, hl⟩ := hp
  have rm1 : Room 1 (B.deeper (envOfC "_law_first_clash" (defScope sLawFirstClash) t.heap.objs.size a.a_law_first_clash cd)) := rm.mono (by decide)
  refine hs_forP (m := 0) (W := Wd.at Z J h) (as := []) (l0 := []) (ι := Unit) (Ps := (· = upto es.length)) (R := fun _ i _ => NoCl es i) (l := fun _ _ _ => []) (Γ := fun _ _ _ => [.val (logD es), .no, .no]) (Ni := fun _ => n) PassesOwn.never rfl
    (DI.to (di_range (Pn := (· = (es.length : Int))) (by rfl) T.n_range (ei (de_len (m := 0) (k := es.length) (by rfl) T.n_len (de_var (pv 0) rfl) (by show some (es.map enD).length = _; rw [List.length_map])) rfl) (by intro i q; omega)) (by rintro xs ⟨i, rfl, rfl⟩; rfl))
    ln (tg_name (i := 1) sc_law_first_clash.nd rfl (Or.inl rfl)) (fun _ _ _ => rfl) (fun xs _ => ⟨(), fun j hj => absurd hj (Nat.not_lt_zero _), rfl, .same (.no (.no .nil))⟩) (Nat.le_refl _) (fun _ _ _ _ => trivial) (fun H2 xs s d u hk2 px hd hR => ?_) (fun xs u px hR => ?_)
  · subst px
    have hs : s < es.length := by
      have := (List.getElem?_eq_some_iff.mp hd).1
      rw [upto_len] at this
      omega
    rw [upto_get (by omega)] at hd
    cases hd
    refine hs_forP (m := 0) (W := (Wd.at Z J h).cut H2 []) (as := []) (l0 := []) (ι := Unit) (Ps := (· = upto s)) (R := fun _ i _ => NoCj es s i) (l := fun _ _ _ => []) (Γ := fun _ _ _ => [.val (logD es), .val (.int (s : Nat)), .no]) (Ni := fun _ => n) PassesOwn.never rfl
      (DI.to (di_range (Pn := (· = (s : Int))) (by rfl) T.n_range (ei (de_var (pv 1) rfl) rfl) (by intro i q; omega)) (by rintro xs ⟨i, rfl, rfl⟩; rfl))
      ln (tg_name (i := 2) sc_law_first_clash.nd rfl (Or.inl rfl)) (fun _ _ _ => rfl) (fun xs _ => ⟨(), fun j hj => absurd hj (Nat.not_lt_zero _), rfl, .same (.same (.no .nil))⟩) (Nat.le_refl _) (fun _ _ _ _ => trivial) (fun H3 xs i d u hk3 px hd hR2 => ?_) (fun xs u px hR2 => ?_)
    · subst px
      have hi : i < s := by
        have := (List.getElem?_eq_some_iff.mp hd).1
        rw [upto_len] at this
        omega
      rw [upto_get (by omega)] at hd
      cases hd
      have hi2 : i < es.length := by omega
      refine hs_if (m := 0) (P := (· = decide (es[i].1 = es[s].1))) (mid := fun σ H => cl es i s = false ∧ Ok ((((Wd.at Z J h).cut H2 []).cut H3 []).pinL []) n [.val (logD es), .val (.int (s : Nat)), .val (.int (i : Nat))] σ H)
        (dt_cmp (m1 := 0) (m2 := 0) op_eq (de_tix (m := 0) (m1 := 0) (d := .str es[i].1) (ds := [.str es[i].1, .int es[i].2.1, .int es[i].2.2]) (de_lix (m := 0) (m1 := 0) (ds := es.map enD) (d := enD es[i]) (de_var (pv 0) rfl) (de_var (pv 2) rfl) (at_en hi2)) de_int rfl) (de_tix (m := 0) (m1 := 0) (d := .str es[s].1) (ds := [.str es[s].1, .int es[s].2.1, .int es[s].2.2]) (de_lix (m := 0) (m1 := 0) (ds := es.map enD) (d := enD es[s]) (de_var (pv 0) rfl) (de_var (pv 1) rfl) (at_en hs)) de_int rfl) o_eqS (nomark _)) ln (fun c0 => ?_) (fun c0 => ?_) (hs_and fun c => ?_)
      · refine hs_guard (m := 0) (P := (· = clB es[i] es[s])) (PW.pt (dt_or (m1 := 0) (m2 := 0) (P1 := (· = clo es[i] es[s].2.2)) (dt_val (de_closes T rm1 (by rfl) (de_lix (m := 0) (m1 := 0) (ds := es.map enD) (d := enD es[i]) (de_var (pv 0) rfl) (de_var (pv 2) rfl) (at_en hi2)) (de_tix (m := 0) (m1 := 0) (d := .int es[s].2.2) (ds := [.str es[s].1, .int es[s].2.1, .int es[s].2.2]) (de_lix (m := 0) (m1 := 0) (ds := es.map enD) (d := enD es[s]) (de_var (pv 0) rfl) (de_var (pv 1) rfl) (at_en hs)) de_int rfl))) (fun c1 => dt_or1 (DT.imp (dt_val (de_closes T rm1 (by rfl) (de_lix (m := 0) (m1 := 0) (ds := es.map enD) (d := enD es[s]) (de_var (pv 0) rfl) (de_var (pv 1) rfl) (at_en hs)) (de_tix (m := 0) (m1 := 0) (d := .int es[i].2.2) (ds := [.str es[i].1, .int es[i].2.1, .int es[i].2.2]) (de_lix (m := 0) (m1 := 0) (ds := es.map enD) (d := enD es[i]) (de_var (pv 0) rfl) (de_var (pv 2) rfl) (at_en hi2)) de_int rfl))) fun b hb => by rw [hb]; unfold clB; rw [← c0, ← c1]; rfl)) (fun c1 => by unfold clB; rw [← c0, ← c1]; rfl))) ln (fun c => ?_) (fun c => ?_)
        · refine hs_ret (m := 0) (de_tupl (das_cons (m1 := 0) (m2 := 0) (de_var (pv 2) rfl) (das_cons (m1 := 0) (m2 := 0) (de_var (pv 1) rfl) das_nil))) ln (fun v σ H k o => ?_)
          have k2 : Kp Z h H2 := fun b o nz e => hk2 b o (fun z => nz z) e
          refine rt_in k ⟨_, eqd_ok o, logD es, rfl, clD_eq (.inl ⟨i, s, ⟨hi, hs, by rw [cl_eq hi2 hs]; exact c.symm, hR, hR2⟩, rfl⟩)⟩ (fun b z => pinL_z.mpr (.inr (cut_z.mpr (cut_z.mpr (at_z.mpr z))))) (fun H j => at_j.mp (cut_j.mp (cut_j.mp (pinL_j.mp j).2))) (fun b o nz e => ?_)
          have e2 : H2 b = some o := k2 b o nz e
          have e3 : H3 b = some o := hk3 b o (fun z => nz (at_z.mp z)) (by show (if b ∈ [] then none else H2 b) = _; rw [if_neg (fun m => nomatch m)]; exact e2)
          exact k.kept b o (fun z => nz (at_z.mp (cut_z.mp z))) (by show (if b ∈ [] then none else H3 b) = _; rw [if_neg (fun m => nomatch m)]; exact e3)
        · exact hs_nil fun σ H k => ⟨by rw [cl_eq hi2 hs]; exact c.symm, k⟩
      · exact hs_nil fun σ H k => ⟨by rw [cl_eq hi2 hs]; unfold clB; rw [← c0]; rfl, k⟩
      · exact hs_nil fun σ H k => ⟨(), fun j hj => by
          by_cases c2 : j = i
          · rw [c2, c]
          · exact hR2 j (by omega), k.less (.same (.same (.no .nil)))⟩
    · subst px
      rw [upto_len] at hR2
      exact hs_nil fun σ H k => ⟨(), fun j hj => by
        by_cases c2 : j = s
        · rw [c2]
          exact hR2
        · exact hR j (by omega), k.less (.same (.no (.no .nil)))⟩
  · subst px
    rw [upto_len] at hR
    refine hs_ret (m := 0) de_non ln (fun v σ H k o => ?_)
    exact rt_at k ⟨_, eqd_ok o, logD es, rfl, clD_eq (.inr ⟨hR, rfl⟩)⟩ (Nat.le_refl _)
end
end K50
set_option maxRecDepth 100000
set_option maxHeartbeats 4000000
namespace K50
open PySem PySem.Spec PyProof.Rows L2 Dv
/-! ### rows of truth values -/
def rowD (r : List Bool) : PyData := .list (r.map PyData.bool)
def rowsL : Nat → List (List Bool)
  | 0 => [[]]
  | k + 1 => (rowsL k).map (· ++ [true]) ++ (rowsL k).map (· ++ [false])
def setsD (k : Nat) : PyData := .list ((rowsL k).map rowD)
theorem rowsL_len : ∀ k, (rowsL k).length = 2 ^ k
  | 0 => rfl
  | k + 1 => by
    unfold rowsL
    rw [List.length_append, List.length_map, List.length_map, rowsL_len k, Nat.pow_succ]
    omega
theorem rowsL_of : ∀ k (r : List Bool), r ∈ rowsL k → r.length = k
  | 0, r, h => by
    cases List.mem_singleton.mp h
    rfl
  | k + 1, r, h => by
    unfold rowsL at h
    rcases List.mem_append.mp h with h | h
    · obtain ⟨x, m, rfl⟩ := List.mem_map.mp h
      rw [List.length_append, rowsL_of k x m]
      rfl
    · obtain ⟨x, m, rfl⟩ := List.mem_map.mp h
      rw [List.length_append, rowsL_of k x m]
      rfl
theorem rowsL_all : ∀ k (r : List Bool), r.length = k → r ∈ rowsL k
  | 0, r, h => by
    cases List.length_eq_zero_iff.mp h
    exact List.mem_singleton.mpr rfl
  | k + 1, r, h => by
    have hne : r ≠ [] := fun c => by
      rw [c] at h
      cases h
    have e := List.dropLast_concat_getLast hne
    have hl : r.dropLast.length = k := by
      rw [List.length_dropLast, h]
      rfl
    have m := rowsL_all k _ hl
    unfold rowsL
    rw [← e]
    cases r.getLast hne with
    | true => exact List.mem_append_left _ (List.mem_map.mpr ⟨_, m, rfl⟩)
    | false => exact List.mem_append_right _ (List.mem_map.mpr ⟨_, m, rfl⟩)
/-- the row's first open spot from b on is p, or the row's end -/
def Scan (r : List Bool) (b p : Nat) : Prop := b ≤ p ∧ (∀ i, b ≤ i → i < p → r[i]? = some false) ∧ r[p]? ≠ some false
theorem scan_uniq {r : List Bool} {b p q : Nat} (h : Scan r b p) (g : Scan r b q) : p = q := by
  obtain ⟨h1, h2, h3⟩ := h
  obtain ⟨g1, g2, g3⟩ := g
  rcases Nat.lt_trichotomy p q with c | c | c
  · exact absurd (g2 p h1 c) h3
  · exact c
  · exact absurd (h2 q g1 c) g3
def EnB (s : En) : Prop := ∃ b t : Nat, s.2.1 = b ∧ s.2.2 = t ∧ b ≤ t ∧ t ≤ 6
def Agr (r : List Bool) (es : List En) : Prop := ∀ s ∈ es, ∃ b t : Nat, s.2.1 = b ∧ s.2.2 = t ∧ Scan r b t
section
variable {P : Program} {w : World} {K : PySem.W.Frag} {mg : Str → Option Value} {base : Heap} {a : Ads}
abbrev NS : List Str := ["size", "found", "turn", "row"]
theorem ok_law_sets (T : Txt K mg a) : FnOk P w K mg base CX0 1 a.a_law_sets a.d_law_sets ["size"] (spD (fun ds => ds = [.int 7]) fun _ d => d = setsD 7) := by
  refine okDO T.F_law_sets sc_law_sets (by rintro ds rfl; rfl) (fun cd B fr t h e rm Z J n ds ln hp => ?_)
  subst hp
  have rl : ∀ (k : Nat) (d : PyData), d ∈ (rowsL k).map rowD → ∃ r, d = rowD r ∧ r.length = k := fun k d m => by
    obtain ⟨r, mr, rfl⟩ := List.mem_map.mp m
    exact ⟨r, rfl, rowsL_of k r mr⟩
  have one : ∀ (k : Nat), k < 7 → ((rowsL k).map rowD).length ≤ 64 := fun k hk => by
    rw [List.length_map, rowsL_len]
    exact Nat.le_trans (Nat.pow_le_pow_right (by decide) (show k ≤ 6 by omega)) (by decide)
  have g : ∀ (k : Nat) (b : Bool), ((rowsL k).map rowD).map (fun d => match d with | .list xs => PyData.list (xs ++ [.bool b]) | d => d) = ((rowsL k).map (· ++ [b])).map rowD := fun k b => by
    rw [List.map_map, List.map_map]
    refine List.map_congr_left fun r _ => ?_
    show PyData.list (r.map PyData.bool ++ [.bool b]) = .list ((r ++ [b]).map PyData.bool)
    rw [List.map_append]
    rfl
  refine hs_set (m := 0) (i := 1) (d := setsD 0) sc_law_sets.nd rfl (Or.inl rfl) (de_list (das_cons (m1 := 0) (m2 := 0) (de_list das_nil) das_nil)) ln ?_
  refine hs_for (m := 0) (j := 2) (Ps := (· = upto 7)) (Γ := fun _ i => [.val (.int 7), .val (setsD i), .no, .no]) (Ni := fun _ => n) PassesOwn.never rfl
    (DI.to (di_range (Pn := (· = (7 : Int))) (by rfl) T.n_range (ei (de_var (pv 0) rfl) rfl) (by intro i q; omega)) (by rintro xs ⟨i, rfl, rfl⟩; rfl))
    ln (pg_name sc_law_sets.nd rfl (Or.inl rfl)) (fun xs _ => .same (.same (.no (.no .nil)))) (Nat.le_refl _) (fun H xs i d hk px hd => ?_) (fun xs px => ?_)
  · subst px
    have hi : i < 7 := by
      have := (List.getElem?_eq_some_iff.mp hd).1
      rw [upto_len] at this
      omega
    rw [upto_get (by omega)] at hd
    cases hd
    have lc : ∀ b : Bool, ∀ {e0 : Expr} {scope : Scope} {own : List (Str × Nat)} {pos px : Pos}, True := fun _ _ _ _ _ _ => trivial
    refine hs_set (m := 0) (i := 1) (d := setsD (i + 1)) sc_law_sets.nd rfl (Or.inl rfl) (DE.to (DE.up (de_op (m1 := 0 + ((rowsL i).map rowD).length * (0 + 0)) (m2 := 0 + ((rowsL i).map rowD).length * (0 + 0)) op_cat
      (DE.to (d' := .list (((rowsL i).map (· ++ [true])).map rowD)) (de_lcM (m := 0) (c2 := 0) (own := [("row", 3)]) (g := fun d => match d with | .list xs => .list (xs ++ [.bool true]) | d => d) rfl sc_law_sets.nd (di_list (de_var (pv 1) rfl)) (blkOk_by (N := NS) (sc := defScope sLawSets) (by decide +kernel)) (j := 3) rfl (by decide) (Nat.le_trans (one i hi) (by decide)) (fun _ _ _ _ _ => pg_name sc_law_sets.nd rfl (Or.inl rfl))
        (fun s H C cl fp D φ d nD md => by
          obtain ⟨r, rfl, lr⟩ := rl i d md
          exact de_op (m1 := 0) (m2 := 0) op_cat (de_var (pv 3) rfl) (de_list (das_cons (m1 := 0) (m2 := 0) de_bl das_nil)) (o_cat (by rw [List.length_map, lr]; exact Nat.le_trans (show i + 1 ≤ 8 by omega) (by decide))))) (by rw [g]))
      (DE.to (d' := .list (((rowsL i).map (· ++ [false])).map rowD)) (de_lcM (m := 0) (c2 := 0) (own := [("row", 3)]) (g := fun d => match d with | .list xs => .list (xs ++ [.bool false]) | d => d) rfl sc_law_sets.nd (di_list (de_var (pv 1) rfl)) (blkOk_by (N := NS) (sc := defScope sLawSets) (by decide +kernel)) (j := 3) rfl (by decide) (Nat.le_trans (one i hi) (by decide)) (fun _ _ _ _ _ => pg_name sc_law_sets.nd rfl (Or.inl rfl))
        (fun s H C cl fp D φ d nD md => by
          obtain ⟨r, rfl, lr⟩ := rl i d md
          exact de_op (m1 := 0) (m2 := 0) op_cat (de_var (pv 3) rfl) (de_list (das_cons (m1 := 0) (m2 := 0) de_bl das_nil)) (o_cat (by rw [List.length_map, lr]; exact Nat.le_trans (show i + 1 ≤ 8 by omega) (by decide))))) (by rw [g]))
      (o_cat (by
        have := one i hi
        rw [List.length_map] at this
        rw [List.length_map, List.length_map, List.length_map, List.length_map]
        exact Nat.le_trans (show _ ≤ 128 by omega) (by decide)))) (by omega)) (by unfold setsD; rw [show rowsL (i + 1) = (rowsL i).map (· ++ [true]) ++ (rowsL i).map (· ++ [false]) from rfl, List.map_append])) ln (hs_nil fun σ H' k => ?_)
    exact k.less (.same (.same (.no (.no .nil))))
  · subst px
    refine hs_ret (m := 0) (de_var (pv 1) rfl) ln (fun v σ H k o => rt_at k ⟨_, eqd_ok o, ?_⟩ (Nat.le_refl _))
    rfl
end
end K50
set_option maxRecDepth 100000
set_option maxHeartbeats 4000000
namespace K50
open PySem PySem.Spec PyProof.Rows L2 Dv
section
variable {P : Program} {w : World} {K : PySem.W.Frag} {mg : Str → Option Value} {base : Heap} {a : Ads}
abbrev NA : List Str := ["row", "entries", "name", "begin", "there", "spot"]
theorem row_at {r : List Bool} {p : Nat} (h : p < r.length) : atI (r.map PyData.bool) (p : Nat) = some (.bool r[p]) := atI_nat (by rw [List.getElem?_map, List.getElem?_eq_getElem h]; rfl)
def AgIn (ds : List PyData) : Prop := ∃ (r : List Bool) (es : List En), ds = [rowD r, logD es] ∧ r.length = 7 ∧ es.length ≤ 100 ∧ ∀ s ∈ es, EnB s
def AgOut (ds : List PyData) (d : PyData) : Prop := ∃ (r : List Bool) (es : List En) (v : Bool), ds = [rowD r, logD es] ∧ d = .bool v ∧ (v = true ↔ Agr r es)
theorem row_inj {r s : List Bool} (h : rowD r = rowD s) : r = s := by
  have e := PyData.list.inj h
  induction r generalizing s with
  | nil => cases s with
    | nil => rfl
    | cons _ _ => cases e
  | cons x r ih => cases s with
    | nil => cases e
    | cons y s =>
      rw [List.map_cons, List.map_cons, List.cons.injEq, PyData.bool.injEq] at e
      rw [e.1, ih (by unfold rowD; rw [e.2]) e.2]
theorem ok_law_agrees (T : Txt K mg a) : FnOk P w K mg base CX0 1 a.a_law_agrees a.d_law_agrees ["row", "entries"] (spD AgIn AgOut) := by
  refine okDO T.F_law_agrees sc_law_agrees (by rintro ds ⟨r, es, rfl, _⟩; rfl) (fun cd B fr t h e rm Z J n ds ln hp => ?_)
  obtain ⟨r, es, rfl, hr, hl, he⟩ := hp
  refine hs_forP (m := 0) (W := Wd.at Z J h) (as := []) (l0 := []) (ι := Unit) (Ps := (· = es.map enD)) (R := fun _ i _ => Agr r (es.take i)) (l := fun _ _ _ => []) (Γ := fun _ _ _ => [.val (rowD r), .val (logD es), .no, .no, .no, .no]) (Ni := fun _ => n) PassesOwn.never rfl
    (di_list (de_var (pv 1) rfl)) ln (tg_trip (i := 2) (j := 3) (k := 4) rfl sc_law_agrees.nd rfl rfl rfl (Or.inl rfl) (Or.inl rfl) (Or.inl rfl)) (fun _ _ _ => rfl) (fun xs _ => ⟨(), fun s m => (by simp at m), rfl, .same (.same (.no (.no (.no (.no .nil)))))⟩) (Nat.le_refl _) (fun xs px d md => by
      subst px
      obtain ⟨s, _, rfl⟩ := List.mem_map.mp md
      exact ⟨_, _, _, rfl⟩) (fun H2 xs i d u hk2 px hd hR => ?_) (fun xs u px hR => ?_)
  · subst px
    have hi : i < es.length := by
      have := (List.getElem?_eq_some_iff.mp hd).1
      rwa [List.length_map] at this
    rw [List.getElem?_map, List.getElem?_eq_getElem hi] at hd
    cases hd
    obtain ⟨b, t, eb, et, bt, t6⟩ := he es[i] (List.getElem_mem hi)
    have tk : es.take (i + 1) = es.take i ++ [es[i]] := by
      rw [List.take_succ, List.getElem?_eq_getElem hi]
      rfl
    have bad : ∀ p : Nat, Scan r b p → p ≠ t → ¬ Agr r es := fun p sc ne ag => by
      obtain ⟨b', t', e1, e2, sc'⟩ := ag es[i] (List.getElem_mem hi)
      have eb' : b' = b := by omega
      have et' : t' = t := by omega
      subst eb'
      subst et'
      exact ne (scan_uniq sc sc')
    refine hs_set (m := 0) (i := 5) (d := .int (b : Nat)) sc_law_agrees.nd rfl (Or.inl rfl) (DE.to (de_var (pv 3) rfl) (by show PyData.int es[i].2.1 = _; rw [eb])) ln ?_
    refine hs_while (W := (Wd.at Z J h).cut H2 []) (ι := Nat) (R := fun p => b ≤ p ∧ p ≤ 7 ∧ ∀ i, b ≤ i → i < p → r[i]? = some false) (P := fun p v => v = (r[p]? == some false)) (μ := fun p => 7 - p) (l := fun _ => []) (Γ := fun p => [.val (rowD r), .val (logD es), .val (.str es[i].1), .val (.int es[i].2.1), .val (.int es[i].2.2), .val (.int (p : Nat))]) PassesOwn.never ln b
      ⟨Nat.le_refl _, by omega, fun i h1 h2 => by omega⟩ (fun p hp => ?_) (fun p hp hb => ?_) (fun p hp hb => ?_)
    · obtain ⟨p1, p2, p3⟩ := hp
      refine PW.pt (dt_and (m1 := 0) (m2 := 0) (P1 := (· = decide (p < 7))) (dt_chain (m1 := 0) (m2 := 0) (m3 := 0) op_le op_lt de_int (de_var (pv 5) rfl) (de_len (m := 0) (k := 7) (by rfl) T.n_len (de_var (pv 0) rfl) (by show some (r.map PyData.bool).length = _; rw [List.length_map, hr])) o_cmp o_cmp (by
        rintro x y rfl rfl
        rw [decide_eq_true (show (0 : Int) ≤ p by omega)]
        exact decide_eq_decide.mpr (by omega)) (fun q => (by rw [decide_eq_true (show (0 : Int) ≤ p by omega)] at q; cases q))) (fun q => ?_) (fun q => ?_))
      · have hp7 : p < r.length := by
          have := of_decide_eq_true q.symm
          omega
        refine dt_and1 (dt_not (P1 := (· = r[p])) (dt_val (de_lix (m := 0) (m1 := 0) (ds := r.map .bool) (de_var (pv 0) rfl) (de_var (pv 5) rfl) (row_at hp7))) (by
          rintro x rfl
          rw [List.getElem?_eq_getElem hp7]
          cases r[p] <;> rfl))
      · have hp7 : ¬ p < 7 := of_decide_eq_false q.symm
        rw [List.getElem?_eq_none (by omega)]
        rfl
    · obtain ⟨p1, p2, p3⟩ := hp
      have hf : r[p]? = some false := eq_of_beq hb.symm
      have hp7 : p < 7 := by
        have := (List.getElem?_eq_some_iff.mp hf).1
        omega
      refine hs_set (m := 0) (i := 5) (d := .int ((p + 1 : Nat) : Int)) sc_law_agrees.nd rfl (Or.inl rfl) (DE.to (de_op (m1 := 0) (m2 := 0) op_add (de_var (pv 5) rfl) de_int o_int0) (by rw [Int.natCast_add]; rfl)) ln (hs_nil fun σ H k => ⟨p + 1, ⟨⟨by omega, by omega, fun j h1 h2 => ?_⟩, by show 7 - (p + 1) < 7 - p; omega⟩, k⟩)
      by_cases c : j = p
      · rw [c]
        exact hf
      · exact p3 j h1 (by omega)
    · obtain ⟨p1, p2, p3⟩ := hp
      have sc : Scan r b p := ⟨p1, p3, fun c => by rw [c] at hb; cases hb⟩
      refine hs_guard (m := 0) (P := (· = !decide ((p : Int) = es[i].2.2))) (dt_cmp (m1 := 0) (m2 := 0) op_ne (de_var (pv 5) rfl) (de_var (pv 4) rfl) o_neI (nomark _)) ln (fun c => ?_) (fun c => ?_)
      · have ne : p ≠ t := fun c2 => by
          rw [et, c2, decide_eq_true rfl] at c
          cases c
        refine hs_ret (m := 0) de_bl ln (fun v σ H k o => ?_)
        refine rt_in k ⟨_, eqd_ok o, r, es, false, rfl, rfl, fun c => (nomatch c), fun ag => absurd ag (bad p sc ne)⟩ (fun b z => pinL_z.mpr (.inr (cut_z.mpr (at_z.mpr z)))) (fun H j => at_j.mp (cut_j.mp (pinL_j.mp j).2)) (fun x o nz e => ?_)
        exact k.kept x o (fun z => nz (at_z.mp z)) (by show (if x ∈ [] then none else H2 x) = _; rw [if_neg (fun m => nomatch m)]; exact hk2 x o (fun z => nz z) e)
      · have eq : p = t := by
          by_cases q : (p : Int) = es[i].2.2
          · omega
          · rw [decide_eq_false q] at c
            cases c
        subst eq
        refine hs_nil fun σ H k => ⟨(), fun s m => ?_, k.less (.same (.same (.no (.no (.no (.no .nil))))))⟩
        rw [tk] at m
        rcases List.mem_append.mp m with m | m
        · exact hR s m
        · cases List.mem_singleton.mp m
          exact ⟨b, p, eb, et, sc⟩
  · subst px
    rw [List.length_map, List.take_length] at hR
    exact hs_ret (m := 0) de_bl ln (fun v σ H k o => rt_at k ⟨_, eqd_ok o, r, es, true, rfl, rfl, fun _ => hR, fun _ => rfl⟩ (Nat.le_refl _))
end
end K50
set_option maxRecDepth 100000
set_option maxHeartbeats 4000000
namespace K50
open PySem PySem.Spec PyProof.Rows L2 Dv
section
variable {P : Program} {w : World} {K : PySem.W.Frag} {mg : Str → Option Value} {base : Heap} {a : Ads}
/-! ### the draws of the law -/
def RowP (d : PyData) : Prop := ∃ r : List Bool, d = rowD r ∧ r.length = 7
theorem rows_of : ∀ {zs : List PyData}, (∀ z ∈ zs, ∃ b, z = PyData.bool b) → ∃ r : List Bool, zs = r.map PyData.bool
  | [], _ => ⟨[], rfl⟩
  | z :: zs, h => by
    obtain ⟨b, rfl⟩ := h z List.mem_cons_self
    obtain ⟨r, rfl⟩ := rows_of (zs := zs) fun z m => h z (List.mem_cons_of_mem _ m)
    exact ⟨b :: r, rfl⟩
theorem ok_law_some_days (T : Txt K mg a) : FnG P w K mg base CX0 2 a.a_law_some_days a.d_law_some_days ["deck", "size"] (spK (fun ds => ds = [.int 7]) (fun _ => 14) fun _ d => RowP d) := by
  refine okK T.F_law_some_days sc_law_some_days (by rintro ds rfl; rfl) (fun cd B fr t h e gd rm Z J n p ds ln hp b => ?_)
  subst hp
  have gd' : (B.deeper (envOfC "_law_some_days" (defScope sLawSomeDays) t.heap.objs.size a.a_law_some_days cd)).guards = some [] := gd
  have ln' : n + 14 ≤ BIG := ln
  refine hs_ret (m := 14) (A := dat _ RowP) (de_lc (m := 0) (M := 7) (c1 := 0) (c2 := 2) (own := [("spot", 2)]) (Ps := (· = upto 7)) (Pt := fun _ b => b = true) (Pe := fun _ z => ∃ b, z = .bool b) rfl sc_law_some_days.nd
      (DI.to (di_range (Pn := (· = (7 : Int))) (by rfl) T.n_range (ei (de_var (pv 1) rfl) rfl) (by intro i q; omega)) (by rintro xs ⟨i, rfl, rfl⟩; rfl))
      (blkOk_by (N := ["deck", "size", "spot"]) (sc := defScope sLawSomeDays) (by decide +kernel)) (j := 2) rfl (by decide) (by rintro ys rfl; rw [upto_len]; decide) (by decide) (fun _ _ _ _ _ => pg_name sc_law_some_days.nd rfl (Or.inl rfl))
      (fun s H C cl fp D φ ys d nD _ _ => dts_nil)
      (fun s H C cl fp D φ ys d nD _ _ _ => DE.imp (A := bol _ fun _ => True) (de_cmp (m1 := 2) (m2 := 0) op_eq (de_drawI (m := 0) (Pl := (· = 3)) (R := fun _ => True) (ok_law_draw T) gd' (rm.mono (by decide)) (by rfl) T.g_law_draw T.F_law_draw.kp T.b_law_draw (b.add nD) (de_is (pv 0) rfl) (ei de_int rfl) (fun l q => by subst q; exact ⟨by decide, fun _ _ _ => trivial⟩)) de_int (o_eqp fun _ _ => trivial) (nomark _)) fun H v ⟨b, e, _⟩ => ⟨.bool b, by rw [e]; exact .bl b, b, rfl⟩)
      (by
        rintro ys zs rfl pk
        have hl := pk.full (fun _ => by decide)
        rw [upto_len] at hl
        obtain ⟨r, rfl⟩ := rows_of (pk.all fun d z _ m => m)
        exact ⟨r, rfl, by rw [List.length_map] at hl; exact hl⟩)) (by omega) (fun v σ H k o => rt_at k o (by show n + 14 ≤ n + 14; omega))
def nm3 : List Str := ["ny", "a", "ldn"]
def namesD (k : Nat) : List PyData := (nm3.take k).map .str
abbrev NE : List Str := ["deck", "many", "size", "most", "names", "rows", "found", "turn", "at", "begin", "there", "name"]
def EtOk (k : Nat) (es : List En) : Prop := es.length ≤ 8 ∧ ∀ s ∈ es, s.1 ∈ nm3.take k ∧ EnB s
def EtIn (ds : List PyData) : Prop := ∃ k : Nat, ds = [.int k, .int 7, .int 8] ∧ 1 ≤ k ∧ k ≤ 3
def EtOut (ds : List PyData) (d : PyData) : Prop := ∃ (k : Nat) (es : List En), ds = [.int k, .int 7, .int 8] ∧ d = logD es ∧ EtOk k es
structure EU where
  vs : List V
  es : List En
structure ER (k i : Nat) (u : EU) : Prop where
  lv : u.vs.length = i
  le : u.es.length = i
  ok : ∀ s ∈ u.es, s.1 ∈ nm3.take k ∧ EnB s
def eSl (q : Addr) (k : Nat) (rows : List PyData) (p : Addr) (u : EU) : List Sl := [.is (.ref q), .val (.int k), .val (.int 7), .val (.int 8), .val (.list (namesD k)), .val (.list rows), .own p u.vs (u.es.map enD), .no, .no, .no, .no, .no]
theorem names_len {k : Nat} (h : k ≤ 3) : (namesD k).length = k := by
  unfold namesD
  rw [List.length_map, List.length_take]
  exact Nat.min_eq_left h
theorem ok_law_entries (T : Txt K mg a) : FnG P w K mg base CX0 3 a.a_law_entries a.d_law_entries ["deck", "many", "size", "most"] (spK EtIn (fun _ => 200) EtOut) := by
  refine okK T.F_law_entries sc_law_entries (by rintro ds ⟨k, rfl, _⟩; rfl) (fun cd B fr t h e gd rm Z J n q ds ln hp b => ?_)
  obtain ⟨k, rfl, k1, k3⟩ := hp
  have gd' : (B.deeper (envOfC "_law_entries" (defScope sLawEntries) t.heap.objs.size a.a_law_entries cd)).guards = some [] := gd
  have ln' : n + 200 ≤ BIG := ln
  have rm1 : Room 1 (B.deeper (envOfC "_law_entries" (defScope sLawEntries) t.heap.objs.size a.a_law_entries cd)) := rm.mono (by decide)
  have zq := b.z
  refine hs_set (m := 0) (i := 4) (d := .list (namesD k)) sc_law_entries.nd rfl (Or.inl rfl) (de_slL (m1 := 0) (m2 := 0) (m3 := 0) (ds := nm3.map .str) (R := (· = .list (namesD k))) (de_list (das_cons (m1 := 0) (m2 := 0) de_str (das_cons (m1 := 0) (m2 := 0) de_str (das_cons (m1 := 0) (m2 := 0) de_str das_nil)))) do_none (do_some (ei (Pi := (· = (k : Int))) (de_var (pv 1) rfl) rfl)) (by rintro x y rfl ⟨i, rfl, rfl⟩; rw [cut_to]; unfold namesD; rw [List.map_take])) (by omega) ?_
  refine hs_setLcD (iy := 5) (m := 0) (M := 3) (c1 := 0) (c2 := 14) (own := [("name", 11)]) (Ps := (· = namesD k)) (Pt := fun _ b => b = true) (Pe := fun _ z => RowP z) (R := fun d => ∃ rows, d = .list rows ∧ rows.length = k ∧ ∀ z ∈ rows, RowP z) rfl rfl (sw_true rfl rfl rfl (by decide +kernel)) rfl sc_law_entries.nd
      (di_list (de_var (pv 4) rfl))
      (blkOk_by (N := NE) (sc := defScope sLawEntries) (by decide +kernel)) (j := 11) rfl (by decide) (by rintro ys rfl; rw [names_len k3]; exact k3) (by decide) (fun _ _ _ _ _ => pg_name sc_law_entries.nd rfl (Or.inl rfl))
      (fun s H C cl fp D φ ys d nD _ _ => dts_nil)
      (fun s H C cl fp D φ ys d nD _ _ _ => de_drawK (m := 0) (M := 14) (ok_law_some_days T) gd' (rm.mono (by decide)) (by rfl) T.g_law_some_days T.F_law_some_days.kp T.b_law_some_days (b.add nD) (de_is (pv 0) rfl) (da_cons (m1 := 0) (m2 := 0) (de_var (pv 2) rfl) da_nil) (fun H vs o => by
        obtain ⟨d', hd, rfl⟩ := allo1 o
        exact ⟨_, hd, rfl, Nat.le_refl _, fun d q => q⟩))
      (by
        rintro ys zs rfl pk
        have hl := pk.full (fun _ => by decide)
        rw [names_len k3] at hl
        exact ⟨zs, rfl, hl, pk.all fun d z _ m => m⟩) (by omega) (fun rows z => ?_)
  obtain ⟨rows', er, lr, hrow⟩ := z
  cases er
  refine hs_newL (W := Wd.at Z J h) (l := []) (i := 6) sc_law_entries.nd rfl (Or.inl rfl) (by omega) (fun p => ?_)
  refine hs_fact (F := ¬ (Wd.at Z J h).Z p) (fun σ H k => ((pinL_fr k).1 p List.mem_cons_self).1) (fun nzp => ?_)
  have b2 : DeckJ ((Wd.at Z J h).pinL [(p, .lst [])]).Z ((Wd.at Z J h).pinL [(p, .lst [])]).J q := b.pinL (fun c mc => by
    cases List.mem_singleton.mp mc
    exact nzp)
  refine hs_forP (m := 2) (W := Wd.at Z J h) (as := [p]) (l0 := [(p, .lst [])]) (ι := EU) (Ps := fun xs => ∃ i, (0 ≤ i ∧ i < 9) ∧ xs = upto i) (R := fun _ i u => ER k i u) (l := fun _ _ u => [(p, .lst u.vs)]) (Γ := fun _ _ u => eSl q k rows p u) (Ni := fun i => n + 44 + 8 * i) PassesOwn.never rfl
    (di_range (by rfl) T.n_range (de_drawI (m := 0) (Pl := (· = 9)) (ok_law_draw T) gd' rm1 (by rfl) T.g_law_draw T.F_law_draw.kp T.b_law_draw b2 (de_is (pv 0) rfl) (de_op (m1 := 0) (m2 := 0) op_add (ei (Pi := (· = 8)) (de_var (pv 3) rfl) rfl) (ei (Pi := (· = 1)) de_int rfl) (o_intp0 fun i j h1 h2 => by omega)) (fun l ql => by subst ql; exact ⟨by decide, fun i h0 h1 => ⟨h0, h1⟩⟩)) (by intro i q; omega))
    (by omega) (tg_name (i := 7) sc_law_entries.nd rfl (Or.inl rfl)) (fun _ _ _ => rfl)
    (fun xs _ => ⟨⟨[], []⟩, ⟨rfl, rfl, fun s m => nomatch m⟩, rfl, .same (.same (.same (.same (.same (.same (.same (.no (.no (.no (.no (.no .nil)))))))))))⟩) (by omega) (fun _ _ _ _ => trivial) (fun H2 xs s d u hk2 px hd hR => ?_) (fun xs u px hR => ?_)
  · obtain ⟨iv, hiv, rfl⟩ := px
    have hil := (List.getElem?_eq_some_iff.mp hd).1
    rw [upto_len] at hil
    rw [upto_get hil] at hd
    cases hd
    obtain ⟨vs, es⟩ := u
    obtain ⟨lv, le, hok⟩ := hR
    simp only at lv le hok
    have b3 : DeckJ (((Wd.at Z J h).cut H2 [p]).pinL [(p, .lst vs)]).Z (((Wd.at Z J h).cut H2 [p]).pinL [(p, .lst vs)]).J q := (b.cut (H := H2) (as := [p])).pinL (fun c mc => by
      cases List.mem_singleton.mp mc
      exact fun z => nzp (cut_z.mp z))
    refine hs_setP (m := 2) (i := 8) (Pd := fun d => ∃ j : Nat, d = .int j ∧ j < k) sc_law_entries.nd rfl (Or.inl rfl) (DE.imp (A := intp _ fun i => 0 ≤ i ∧ i < k) (de_drawI (m := 0) (Pl := (· = (k : Int))) (ok_law_draw T) gd' rm1 (by rfl) T.g_law_draw T.F_law_draw.kp T.b_law_draw b3 (de_is (pv 0) rfl) (ei (de_var (pv 1) rfl) rfl) (fun l ql => by subst ql; exact ⟨by omega, fun i h0 h1 => ⟨h0, h1⟩⟩)) fun H v ⟨d, o, i, e, i0, i1⟩ => ⟨d, o, i.toNat, by rw [e, Int.toNat_of_nonneg i0], by omega⟩) (by omega) (fun d z => ?_)
    obtain ⟨j, rfl, hj⟩ := z
    refine hs_setP (m := 2) (i := 9) (Pd := fun d => ∃ j : Nat, d = .int j ∧ j < 7) sc_law_entries.nd rfl (Or.inl rfl) (DE.imp (A := intp _ fun i => 0 ≤ i ∧ i < 7) (de_drawI (m := 0) (Pl := (· = (7 : Int))) (ok_law_draw T) gd' rm1 (by rfl) T.g_law_draw T.F_law_draw.kp T.b_law_draw b3 (de_is (pv 0) rfl) (ei (de_var (pv 2) rfl) rfl) (fun l ql => by subst ql; exact ⟨by decide, fun i h0 h1 => ⟨h0, h1⟩⟩)) fun H v ⟨d, o, i, e, i0, i1⟩ => ⟨d, o, i.toNat, by rw [e, Int.toNat_of_nonneg i0], by omega⟩) (by omega) (fun d z => ?_)
    obtain ⟨bg, rfl, hb⟩ := z
    refine hs_set (m := 0) (i := 10) (d := .int (bg : Nat)) sc_law_entries.nd rfl (Or.inl rfl) (de_var (pv 9) rfl) (by omega) ?_
    obtain ⟨row, erow, lrow⟩ := hrow (rows[j]'(by omega)) (List.getElem_mem _)
    have ixr : atI rows (j : Nat) = some (rowD row) := atI_nat (by rw [List.getElem?_eq_getElem (by omega : j < rows.length), erow])
    obtain ⟨nm, ixn, mem⟩ : ∃ nm, atI (namesD k) (j : Nat) = some (.str nm) ∧ nm ∈ nm3.take k := by
      have h3 : j < nm3.length := by show j < 3; omega
      have e : (nm3.take k)[j]? = some nm3[j] := by rw [List.getElem?_take, if_pos hj, List.getElem?_eq_getElem h3]
      refine ⟨nm3[j], atI_nat ?_, List.mem_iff_getElem?.mpr ⟨j, e⟩⟩
      unfold namesD
      rw [List.getElem?_map, e]
      rfl
    let S : Nat → List Sl := fun p' => [.is (.ref q), .val (.int k), .val (.int 7), .val (.int 8), .val (.list (namesD k)), .val (.list rows), .own p vs (es.map enD), .val (.int (s : Nat)), .val (.int (j : Nat)), .val (.int (bg : Nat)), .val (.int (p' : Nat)), .no]
    refine hs_while (W := (Wd.at Z J h).cut H2 [p]) (ι := Nat) (R := fun p' => bg ≤ p' ∧ p' ≤ 6) (P := fun p' v => v = true → p' < 6) (μ := fun p' => 6 - p') (l := fun _ => [(p, .lst vs)]) (Γ := S) PassesOwn.never (by omega) bg
      ⟨Nat.le_refl _, by omega⟩ (fun p' hp => ?_) (fun p' hp hb => ?_) (fun p' hp hb => ?_)
    · refine PW.pt (dt_and (m1 := 0) (m2 := 0) (P1 := (· = decide ((p' : Int) < 6))) (dt_cmp (m1 := 0) (m2 := 0) op_lt (de_var (pv 10) rfl) (DE.to (de_op (m1 := 0) (m2 := 0) op_sub (de_var (pv 2) rfl) de_int o_int0) rfl) o_cmp (nomark _)) (fun c => ?_) (fun c q => nomatch q))
      have h6 : (p' : Int) < 6 := of_decide_eq_true c.symm
      have hp7 : p' < row.length := by omega
      exact dt_and1 (DT.imp (dt_not (P1 := (· = row[p'])) (P := fun _ => True) (dt_val (de_lix (m := 0) (m1 := 0) (ds := row.map .bool) (de_lix (m := 0) (m1 := 0) (ds := rows) (d := rowD row) (de_var (pv 5) rfl) (de_var (pv 8) rfl) ixr) (de_var (pv 10) rfl) (row_at hp7))) (fun _ _ => trivial)) fun _ _ _ => by omega)
    · obtain ⟨p1, p2⟩ := hp
      have h6 := hb rfl
      refine hs_set (m := 0) (i := 10) (d := .int ((p' + 1 : Nat) : Int)) sc_law_entries.nd rfl (Or.inl rfl) (DE.to (de_op (m1 := 0) (m2 := 0) op_add (de_var (pv 10) rfl) de_int o_int0) (by rw [Int.natCast_add]; rfl)) (by omega) (hs_nil fun σ H k => ⟨p' + 1, ⟨⟨by omega, by omega⟩, by show 6 - (p' + 1) < 6 - p'; omega⟩, k⟩)
    · obtain ⟨p1, p2⟩ := hp
      refine hs_if (m := 2) (P := fun _ => True) (mid := fun σ H => ∃ t : Nat, (bg ≤ t ∧ t ≤ 6) ∧ Ok (((Wd.at Z J h).cut H2 [p]).pinL [(p, .lst vs)]) (n + 44 + 8 * s + 8) (S t) σ H)
        (dt_cmp (m1 := 2) (m2 := 0) op_eq (de_drawI (m := 0) (Pl := (· = (6 : Int))) (R := fun _ => True) (ok_law_draw T) gd' rm1 (by rfl) T.g_law_draw T.F_law_draw.kp T.b_law_draw b3 (de_is (pv 0) rfl) (ei de_int rfl) (fun l ql => by subst ql; exact ⟨by decide, fun i h0 h1 => trivial⟩)) de_int (o_eqp fun _ _ => trivial) (nomark _)) (by omega) (fun _ => ?_) (fun _ => ?_) (hs_ex fun t => hs_and fun ht => ?_)
      · refine hs_setP (m := 2) (i := 10) (Pd := fun d => ∃ t : Nat, d = .int t ∧ bg ≤ t ∧ t ≤ 6) sc_law_entries.nd rfl (Or.inl rfl) (DE.imp (A := intp _ fun i => (bg : Int) ≤ i ∧ i ≤ 6) (de_op (m1 := 0) (m2 := 2) op_add (ei (Pi := (· = (bg : Int))) (de_var (pv 9) rfl) rfl)
          (de_drawI (m := 0) (Pl := (· = (7 - bg : Int))) (R := fun i => 0 ≤ i ∧ i < 7 - bg) (ok_law_draw T) gd' rm1 (by rfl) T.g_law_draw T.F_law_draw.kp T.b_law_draw b3 (de_is (pv 0) rfl) (ei (de_op (m1 := 0) (m2 := 0) op_sub (de_var (pv 2) rfl) (de_var (pv 9) rfl) o_int0) rfl) (fun l ql => by subst ql; exact ⟨by omega, fun i h0 h1 => ⟨h0, h1⟩⟩)) (o_intp0 fun i j h1 h2 => by omega)) fun H v ⟨d, o, i, e, i0, i1⟩ => ⟨d, o, i.toNat, by rw [e, Int.toNat_of_nonneg (by omega)], by omega, by omega⟩) (by omega) (fun d z => ?_)
        obtain ⟨t, rfl, t0, t1⟩ := z
        exact hs_nil fun σ H k => ⟨t, ⟨t0, t1⟩, k.up (by omega)⟩
      · exact hs_nil fun σ H k => ⟨p', ⟨p1, p2⟩, k.up (by omega)⟩
      · refine hs_app (W := (Wd.at Z J h).cut H2 [p]) (l := [(p, .lst vs)]) (m := 0) (io := 6) (j := 0) (p := p) (vs := vs) (ds := es.map enD) (Pd := (· = enD (nm, (bg : Int), (t : Int)))) (pv 6) rfl rfl (de_tupl (das_cons (m1 := 0) (m2 := 0) (de_lix (m := 0) (m1 := 0) (ds := namesD k) (de_var (pv 4) rfl) (de_var (pv 8) rfl) ixn) (das_cons (m1 := 0) (m2 := 0) (de_var (pv 9) rfl) (das_cons (m1 := 0) (m2 := 0) (de_var (pv 10) rfl) das_nil)))) (by omega) (by omega) (fun v2 d2 hd2 => hs_nil fun σ H k => ?_)
        subst hd2
        have em : es.map enD ++ [enD (nm, (bg : Int), (t : Int))] = (es ++ [(nm, (bg : Int), (t : Int))]).map enD := by rw [List.map_append]; rfl
        rw [em] at k
        refine ⟨⟨vs ++ [v2], es ++ [(nm, (bg : Int), (t : Int))]⟩, ⟨by simp [lv], by simp [le], fun s m => ?_⟩, (k.less (.same (.same (.same (.same (.same (.same (.same (.no (.no (.no (.no (.no .nil))))))))))))).up (by omega)⟩
        rcases List.mem_append.mp m with m | m
        · exact hok s m
        · cases List.mem_singleton.mp m
          exact ⟨mem, bg, t, rfl, rfl, ht.1, ht.2⟩
  · obtain ⟨iv, hiv, rfl⟩ := px
    obtain ⟨vs, es⟩ := u
    obtain ⟨lv, le, hok⟩ := hR
    rw [upto_len] at lv le ⊢
    simp only at lv le hok
    refine hs_done (i := 6) (p := p) (vs := vs) (ds := es.map enD) rfl ?_
    refine hs_ret (m := 0) (de_var (pv 6) rfl) (by omega) (fun v σ H k' o => rt_at k' ⟨_, eqd_ok o, k, es, rfl, rfl, by show es.length ≤ 8; omega, hok⟩ (by show n + 44 + 8 * iv.toNat + 0 ≤ n + 200; omega))
end
end K50
set_option maxRecDepth 100000
set_option maxHeartbeats 4000000
namespace K50
open PySem PySem.Spec PyProof.Rows L2 Dv
/-! ### what the law compares: no clash, and rows that agree with all entries of an office -/
def ownL (x : Str) (es : List En) : List En := es.filter fun s => decide (s.1 = x)
def Able (es : List En) (x : Str) : Prop := ∃ r ∈ rowsL 7, Agr r (ownL x es)
theorem clo_iff {s : En} {w : Int} : clo s w = true ↔ s.2.1 ≤ w ∧ w < s.2.2 := by
  unfold clo
  rw [Bool.and_eq_true, decide_eq_true_iff, decide_eq_true_iff]
theorem clB_iff {s r : En} : clB s r = true ↔ s.1 = r.1 ∧ (clo s r.2.2 = true ∨ clo r s.2.2 = true) := by
  unfold clB
  rw [Bool.and_eq_true, decide_eq_true_iff, Bool.or_eq_true]
theorem clB_comm {s r : En} (h : clB s r = true) : clB r s = true := by
  obtain ⟨h1, h2⟩ := clB_iff.mp h
  exact clB_iff.mpr ⟨h1.symm, h2.symm⟩
/-- a row tells: no two of its entries clash -/
theorem agr_no {r : List Bool} {x : Str} {es : List En} (h : Agr r (ownL x es)) {s s' : En} (m : s ∈ es) (m' : s' ∈ es) (e : s.1 = x) (e' : s'.1 = x) : clo s s'.2.2 = false := by
  cases c : clo s s'.2.2 with
  | false => rfl
  | true =>
    exfalso
    obtain ⟨h1, h2⟩ := clo_iff.mp c
    obtain ⟨b, t, eb, et, s1, s2, s3⟩ := h s (List.mem_filter.mpr ⟨m, decide_eq_true e⟩)
    obtain ⟨b', t', eb', et', g1, g2, g3⟩ := h s' (List.mem_filter.mpr ⟨m', decide_eq_true e'⟩)
    exact g3 (s2 t' (by omega) (by omega))
theorem nocl_mem {es : List En} (h : NoCl es es.length) {s s' : En} (m : s ∈ es) (m' : s' ∈ es) (ne : s.2.2 ≠ s'.2.2) : clB s s' = false := by
  obtain ⟨i, hi, rfl⟩ := List.getElem_of_mem m
  obtain ⟨j, hj, rfl⟩ := List.getElem_of_mem m'
  rcases Nat.lt_trichotomy i j with c | c | c
  · rw [← cl_eq hi hj]
    exact h j hj i c
  · subst c
    exact absurd rfl ne
  · cases q : clB es[i] es[j] with
    | false => rfl
    | true =>
      have := h i hi j c
      rw [cl_eq hj hi, clB_comm q] at this
      cases this
/-- the days that are told to be open, no others -/
def rowOf (x : Str) (es : List En) : List Bool := (List.range 7).map fun p => decide (∃ s ∈ es, s.1 = x ∧ s.2.2 = ((p : Nat) : Int))
theorem able_of {k : Nat} {es : List En} (he : EtOk k es) (h : NoCl es es.length) (x : Str) : Able es x := by
  have hl : (rowOf x es).length = 7 := by
    unfold rowOf
    rw [List.length_map, List.length_range]
  refine ⟨rowOf x es, rowsL_all 7 _ hl, fun s m => ?_⟩
  obtain ⟨m, e⟩ := List.mem_filter.mp m
  have e : s.1 = x := of_decide_eq_true e
  obtain ⟨_, b, t, eb, et, bt, t6⟩ := he.2 s m
  have at_ : ∀ i : Nat, i < 7 → (rowOf x es)[i]? = some (decide (∃ s ∈ es, s.1 = x ∧ s.2.2 = ((i : Nat) : Int))) := fun i hi => by
    unfold rowOf
    rw [List.getElem?_map, List.getElem?_range hi]
    rfl
  refine ⟨b, t, eb, et, bt, fun i h1 h2 => ?_, ?_⟩
  · rw [at_ i (by omega)]
    refine congrArg some (decide_eq_false ?_)
    rintro ⟨s', m', e', h'⟩
    have := nocl_mem h m m' (by omega)
    have c : clB s s' = true := clB_iff.mpr ⟨e.trans e'.symm, .inl (clo_iff.mpr ⟨by omega, by omega⟩)⟩
    rw [c] at this
    cases this
  · rw [at_ t (by omega)]
    intro c
    have := Option.some.inj c
    exact absurd ⟨s, m, e, et⟩ (of_decide_eq_false this)
theorem able_iff {k : Nat} {es : List En} (he : EtOk k es) : (∀ x ∈ nm3.take k, Able es x) ↔ isNon (clD (logD es)) = true := by
  rcases clD_out es with ⟨i, j, ⟨h1, h2, h3, _⟩, e⟩ | ⟨h, e⟩
  · rw [e]
    refine ⟨fun h => ?_, fun c => nomatch c⟩
    exfalso
    have hi : i < es.length := by omega
    rw [cl_eq hi h2] at h3
    obtain ⟨en, hc⟩ := clB_iff.mp h3
    have mi : es[i] ∈ es := List.getElem_mem hi
    have mj : es[j] ∈ es := List.getElem_mem h2
    obtain ⟨r, _, ag⟩ := h es[i].1 (he.2 _ mi).1
    rcases hc with hc | hc
    · rw [agr_no ag mi mj rfl en.symm] at hc
      cases hc
    · rw [agr_no ag mj mi en.symm rfl] at hc
      cases hc
  · rw [e]
    exact ⟨fun _ => rfl, fun _ x _ => able_of he h x⟩
/-! ### the entries shown -/
theorem sw_alls : ((List.range 7).all fun k => (PyData.int ((k : Nat) : Int)).showable && PyData.leavesShort 600 (.int ((k : Nat) : Int))) = true := by decide +kernel
theorem sw_int {i : Nat} (h : i ≤ 6) : Sw 10 0 (.int (i : Nat)) := by
  have z := List.all_eq_true.mp sw_alls i (List.mem_range.mpr (by omega))
  rw [Bool.and_eq_true] at z
  exact ⟨z.1, z.2, Nat.zero_le _, Nat.le_refl _⟩
theorem sw_name {x : Str} (h : x ∈ nm3) : Sw 10 0 (.str x) := by
  have m : x = "ny" ∨ x = "a" ∨ x = "ldn" := by
    unfold nm3 at h
    simpa using h
  rcases m with rfl | rfl | rfl
  · exact (Sw.str (b := 3) (fun c mc => by revert c; decide +kernel) (by decide)).up (by decide) (by decide)
  · exact (Sw.str (b := 3) (fun c mc => by revert c; decide +kernel) (by decide)).up (by decide) (by decide)
  · exact (Sw.str (b := 3) (fun c mc => by revert c; decide +kernel) (by decide)).up (by decide) (by decide)
theorem shw_log {k : Nat} {es : List En} (he : EtOk k es) : Shw (logD es) :=
  (Sw.list (n := 8) (b := 3 * (10 + 1)) (p := 1) (fun d m => by
    obtain ⟨s, ms, rfl⟩ := List.mem_map.mp m
    obtain ⟨h1, b, t, eb, et, bt, t6⟩ := he.2 s ms
    refine Sw.tuple (n := 3) (ds := [.str s.1, .int s.2.1, .int s.2.2]) (fun d m => ?_) (Nat.le_refl _)
    simp only [List.mem_cons, List.not_mem_nil, or_false] at m
    rcases m with rfl | rfl | rfl
    · exact sw_name (List.mem_of_mem_take h1)
    · rw [eb]
      exact sw_int (by omega)
    · rw [et]
      exact sw_int (by omega)) (by rw [List.length_map]; exact he.1)).shw (by decide) (by decide)
theorem nm_ok {x : Str} (h : x ∈ nm3) : NaOk x := by
  have m : x = "ny" ∨ x = "a" ∨ x = "ldn" := by
    unfold nm3 at h
    simpa using h
  rcases m with rfl | rfl | rfl <;> exact ⟨by decide +kernel, by decide⟩
theorem log_ok {k : Nat} {es : List En} (he : EtOk k es) : LogOk es :=
  ⟨fun s m => by
    obtain ⟨h1, b, t, eb, et, bt, _⟩ := he.2 s m
    exact ⟨nm_ok (List.mem_of_mem_take h1), by omega⟩, Nat.le_trans he.1 (by decide)⟩
/-! ### the last examples -/
def E5 : List En := [("a", 0, 3), ("b", 1, 1), ("a", 4, 4), ("a", 1, 2), ("a", 2, 2)]
theorem e5_ok : LogOk E5 := by
  refine ⟨fun s m => ?_, by decide⟩
  have h : (E5.all fun s => office (.str s.1) && decide (s.1.length ≤ 100000) && decide (s.2.1 ≤ s.2.2)) = true := by decide +kernel
  have z := List.all_eq_true.mp h s m
  rw [Bool.and_eq_true, Bool.and_eq_true] at z
  exact ⟨⟨z.1.1, of_decide_eq_true z.1.2⟩, of_decide_eq_true z.2⟩
theorem e5_cl : clD (logD E5) = .tuple [.int 0, .int 3] := by
  refine (clD_eq (.inl ⟨0, 3, ⟨by decide, by decide, by decide +kernel, ?_, fun i h => absurd h (Nat.not_lt_zero _)⟩, rfl⟩)).symm
  have h : ∀ j, j < 3 → ∀ i, i < j → cl E5 i j = false := by decide +kernel
  exact h
theorem e0_ok : LogOk [] := ⟨(fun _ m => nomatch m), by decide⟩
theorem e0_cl : clD (logD []) = .none := (clD_eq (.inr ⟨fun j h => absurd h (Nat.not_lt_zero _), rfl⟩)).symm
end K50
set_option maxRecDepth 100000
set_option maxHeartbeats 4000000
/-! Dv72: set(list) of keys of any kind. -/
namespace Dv
open PySem PySem.Spec PyProof.Rows L2 TS
section
variable {α : Type} [DecidableEq α] {P : Program} {w : World} {κ : PySem.KeyKind P w α} {A : Around} {E : Value → Shared → Prop} {s : Shared}
/-- the members behind the first i of ks -/
def GotK (ks : List α) (i : Nat) (js : List α) : Prop := js.length ≤ i ∧ ∀ k, k ∈ js ↔ k ∈ ks.take i
theorem GotK.next {ks js is : List α} {i : Nat} {k : α} (g : GotK ks i js) (hk : ks[i]? = some k) (p : is.Perm (if k ∈ js then js else k :: js)) : GotK ks (i + 1) is := by
  have et : ks.take (i + 1) = ks.take i ++ [k] := by rw [List.take_add_one, hk]; rfl
  refine ⟨?_, fun x => ?_⟩
  · rw [p.length_eq]
    split
    · exact Nat.le_succ_of_le g.1
    · exact Nat.succ_le_succ g.1
  · rw [p.mem_iff, et, List.mem_append, List.mem_singleton, ← g.2 x]
    split
    · rename_i c
      exact ⟨.inl, fun z => z.elim id fun e => e ▸ c⟩
    · rw [List.mem_cons]
      exact or_comm
theorem set_updateG {I : Addr} {fp wr : List Addr} {G : Array GenState → Array GenState → Prop} {n : Nat} {Pv : Nat → Value → Prop} {St : Nat → Shared → Prop} {R : Result → Shared → Prop}
    (W : WalksS P w A.in1 I fp wr G n Pv St) (S : Addr) (hSf : S ∉ fp) (ks : List α) (hn : n = ks.length) (hfew : ks.length + 1 < scanBound) (hval : ∀ i v, Pv i v → ∃ k, ks[i]? = some k ∧ κ.is k v = true ∧ v.scannable = true) :
    ∀ (k i : Nat) (s : Shared), n - i = k → i ≤ n → St i s → (∃ js, SetG κ s.heap S js ∧ GotK ks i js) →
      (∀ s' js, Moved (S :: wr) G s s' → SetG κ s'.heap S js → GotK ks n js → R (.ok (.ret .none)) s') →
      codeAny (model P w) A (.builtin "set.update.loop" ⟨[.ref S, .ref I], []⟩) R s := by
  have hSw : S ∉ wr := fun h => hSf (W.sub _ h)
  have hsub : ∀ b ∈ wr, b ∈ S :: wr := fun b hb => List.mem_cons_of_mem _ hb
  intro k
  induction k with
  | zero =>
    intro i s hk' hi hst ⟨js, hS, g⟩ hR
    have hin : i = n := by omega
    subst hin
    refine codeAny_builtin F.entry_set_update_loop ?_
    rw [Around.under_plainId F.plain_set_update_loop _]
    show wpAny _ A.in1 (pyNext (.ref I) >>= _) _ _ s
    refine wpAny_bind (W.done s _ _ hst fun s' hm => ?_)
    show wpAny _ A.in1 (ret Value.none) _ _ s'
    exact wpAny_pure (hR s' js (hm.mono hsub) (hS.at fun o e => hm.heap S o hSw e) g)
  | succ k ih =>
    intro i s hk' hi hst ⟨js, hS, g⟩ hR
    have hlt : i < n := by omega
    refine codeAny_builtin F.entry_set_update_loop ?_
    rw [Around.under_plainId F.plain_set_update_loop _]
    show wpAny _ A.in1 (pyNext (.ref I) >>= _) _ _ s
    refine wpAny_bind (W.item i s _ _ hlt hst fun v s' hP hst' hm => ?_)
    obtain ⟨x, hp, hx, hv⟩ := hval i v hP
    have hS' : SetG κ s'.heap S js := hS.at fun o e => hm.heap S o hSw e
    show wpAny _ A.in1 (holding [v] (setAdd S v) >>= _) _ _ s'
    refine wpAny_bind (wpAny_holding ?_)
    unfold setAdd
    refine wpAny_holding ?_
    refine wpAny_bind (κ.pyHash hx ?_)
    refine setG_put (s := { s' with toks := s'.toks + 1 }) hS' hx hv (by have := g.1; omega) fun h' is b hsb hS2 pm => ?_
    have g' := g.next hp pm
    refine wpAny_pure ⟨plainId_quiet F.plain_set_update_loop _, ih (i + 1) _ (by omega) hlt (W.frame _ s' _ _ hst' (Nat.le_add_right _ _) fun b hb o e => ?_) ⟨is, hS2, g'⟩ fun s'' js2 hm'' hS'' g'' => ?_⟩
    · rw [hsb.2 b (fun h : b = S => hSf (by rw [← h]; exact hb))]; exact e
    · refine hR s'' js2 (Moved.trans W.gtrans ((hm.mono hsub).then_heap (Nat.le_add_right _ _) fun b o hb e => ?_) hm'') hS'' g''
      rw [hsb.2 b (fun h : b = S => hb (by rw [h]; exact List.mem_cons_self))]; exact e
set_option maxRecDepth 100000 in
set_option maxHeartbeats 3200000 in
/-- set(xs) -/
theorem call_set_listG {l : Addr} {items : Array Value} (ks : List α) {Q : Value → Shared → Prop} (hh : A.handled = none) (hl : s.heap.IsList l items) (hit : KVals κ items.toList ks) (hsc : ∀ v ∈ items.toList, v.scannable = true) (hfew : ks.length + 1 < scanBound)
    (h : ∀ (h' : Heap) (tk : Nat) js, SetG κ h' s.heap.objs.size js → js.length ≤ ks.length → (∀ k, k ∈ js ↔ k ∈ ks) → (∀ b o, s.heap.get? b = some o → h'.get? b = some o) → Q (.ref s.heap.objs.size) { s with heap := h', toks := tk }) :
    wpAny (model P w) A (call (.type "set") [.ref l]) Q E s := by
  have kl : ∀ {vs : List Value} {ks : List α}, KVals κ vs ks → vs.length = ks.length := by
    intro vs ks h
    induction h with
    | nil => rfl
    | cons _ _ ih => exact congrArg Nat.succ ih
  have ka : ∀ {vs : List Value} {ks : List α}, KVals κ vs ks → ∀ {i : Nat} {v : Value}, vs[i]? = some v → ∃ k, ks[i]? = some k ∧ κ.is k v = true := by
    intro vs ks h
    induction h with
    | nil => intro i v e; cases e
    | cons h1 _ ih =>
      intro i v e
      cases i with
      | zero =>
        cases e
        exact ⟨_, rfl, h1⟩
      | succ i => exact ih e
  have hisz : items.size = ks.length := by
    have q := kl hit
    rwa [Array.length_toList] at q
  obtain ⟨c, tl, hmro⟩ := F.called_set.mro
  have hmade := F.called_set.made
  have hsub := F.called_set.sub
  refine wpAny_call (codeAny_of_tree ?_)
  show wpAny _ _ (callAny (.type "set") _) _ _ _
  refine wpAny_pure ⟨Code.quiet_builtin _ (by decide +kernel), codeAny_builtin F.entry_type_call ?_⟩
  rw [Around.under_plain (weight_type_call_type "set" [.ref l] []) rfl]
  have h1 := F.called_set.notType
  have h2 := F.called_set.canCreate
  have hct := F.typeCall_set_1 (.ref l)
  repeat (any_goals (first | assumption | wp_step))
  refine codeAny_mono (code_set_led1 (.ref l) (E := E) (Q₁ := fun obj s₁ => obj = .ref s.heap.objs.size ∧ s₁ = { s with heap := s.heap.push { cls := .type "set", dict := none, data := .set #[] 0 (.fresh 0 0 (!w.params.followText "set-order")) } }) ⟨rfl, rfl⟩) fun r s₁ hr => ?_
  cases r with
  | error e => exact hr
  | ok fl =>
    cases fl with
    | ret obj =>
      obtain ⟨rfl, rfl⟩ := hr
      have hS : (s.heap.push { cls := .type "set", dict := none, data := .set #[] 0 (.fresh 0 0 (!w.params.followText "set-order")) }).get? s.heap.objs.size = some { cls := .type "set", dict := none, data := .set #[] 0 (.fresh 0 0 (!w.params.followText "set-order")) } := Heap.get?_push_size _ rfl
      have hT : Shared.TypeIs { s with heap := s.heap.push { cls := .type "set", dict := none, data := .set #[] 0 (.fresh 0 0 (!w.params.followText "set-order")) } } (.ref s.heap.objs.size) "set" := ⟨_, hS, rfl⟩
      have hli := F.called_set.init.lookup
      have hbi := F.called_set.init.bind (.ref s.heap.objs.size)
      repeat (any_goals (first | assumption | wp_step))
      refine codeAny_mono (codeAny_call_builtin (R := wants (fun r s₂ => r = .none ∧ ∃ h' tk js, s₂ = { s with heap := h', toks := tk } ∧ SetG κ h' s.heap.objs.size js ∧ GotK ks ks.length js ∧
          (∀ b o, s.heap.get? b = some o → h'.get? b = some o)) E) F.called_set.init.plain F.entry_set_init (check_set_init_1 hT ?_)) fun r₂ s₂ hr₂ => ?_
      · obtain ⟨ol, hol, hcl, nl, hdl⟩ := hl
        obtain ⟨ocls, odict, odata, oslots⟩ := ol
        simp only at hcl hdl
        subst hcl; subst hdl
        have hol' : (s.heap.push { cls := .type "set", dict := none, data := .set #[] 0 (.fresh 0 0 (!w.params.followText "set-order")) }).get? l = some { cls := .type "list", dict := odict, data := .seq items nl, slots := oslots } := Heap.get?_push_of_some _ hol
        have hsls := F.sub_list_set
        have hslf := F.sub_list_frozenset
        have hne : (Value.type "list" == Value.type "dict") = false := by decide
        have hl1 : (s.heap.push { cls := .type "set", dict := none, data := .set #[] 0 (.fresh 0 0 (!w.params.followText "set-order")) }).IsList l items := ⟨_, hol', rfl, nl, rfl⟩
        unfold Builtin.«set.__init__» noKeywords Builtin.Frozenset.updateFrom
        generalize hPI : pyIter = PI
        wp_walk
        subst hPI
        refine wpAny_pyIter_list hl1 ?_
        refine wpAny_bind (wpAny_runValue ?_)
        have hlS : l < s.heap.objs.size := Heap.lt_size hol
        have hh3 : A.in1.in1.in1.handled = none := by simp [hh]
        have hz1 : (s.heap.push { cls := .type "set", dict := none, data := .set #[] 0 (.fresh 0 0 (!w.params.followText "set-order")) }).objs.size = s.heap.objs.size + 1 := Heap.size_push ..
        have hneI : l ≠ (s.heap.push { cls := .type "set", dict := none, data := .set #[] 0 (.fresh 0 0 (!w.params.followText "set-order")) }).objs.size := by
          rw [Heap.size_push]; exact Nat.ne_of_lt (Nat.lt_succ_of_lt hlS)
        have hSf : s.heap.objs.size ∉ [(s.heap.push { cls := .type "set", dict := none, data := .set #[] 0 (.fresh 0 0 (!w.params.followText "set-order")) }).objs.size, l] := by
          rw [Heap.size_push]; simp only [List.mem_cons, List.mem_singleton, List.not_mem_nil, or_false, not_or]
          exact ⟨Nat.ne_of_lt (Nat.lt_succ_self _), Nat.ne_of_gt hlS⟩
        have hval : ∀ (i : Nat) (v : Value), items[i]? = some v → ∃ k, ks[i]? = some k ∧ κ.is k v = true ∧ v.scannable = true := fun i v hv => by
          have q : items.toList[i]? = some v := by rw [Array.getElem?_toList]; exact hv
          obtain ⟨k, e1, e2⟩ := ka hit q
          exact ⟨k, e1, e2, hsc v (List.mem_of_getElem? q)⟩
        refine set_updateG (κ := κ) ((Walks.list hh3 _ l hneI items).toS) s.heap.objs.size
          hSf ks hisz hfew hval (items.size - 0) 0 _ (by omega) (Nat.zero_le _)
          ⟨⟨_, Heap.get?_push_size _ rfl, rfl, rfl⟩, (hl1.push _)⟩ ?hS0 ?hR
        case hS0 =>
          exact ⟨[], (setG_new s.heap).at fun o e => Heap.get?_push_of_some _ e, Nat.le_refl _, fun k => ⟨fun m => (nomatch m), fun m => (nomatch m)⟩⟩
        case hR =>
          intro s' js hm hS' g'
          obtain ⟨h', g2, d', tk', os'⟩ := s'
          have eg : g2 = s.gens := hm.gens
          have ed : d' = s.drawn := hm.drawn
          have eo : os' = s.os := hm.os
          subst eg; subst ed; subst eo
          show wpAny _ _ _ _ _ _
          refine wpAny_pure ?_
          show wpAny _ _ (ret Value.none) _ _ _
          rw [hisz] at g'
          refine wpAny_pure ⟨rfl, h', tk', js, rfl, hS', g', fun b o e => ?_⟩
          have bl : b < s.heap.objs.size := Heap.lt_size e
          refine hm.heap b o ?_ (Heap.get?_push_of_some _ (Heap.get?_push_of_some _ e))
          simp only [List.mem_cons, List.not_mem_nil, or_false, not_or]
          refine ⟨Nat.ne_of_lt bl, ?_⟩
          rw [Heap.size_push]
          exact Nat.ne_of_lt (Nat.lt_succ_of_lt bl)
      · cases r₂ with
        | error e => exact hr₂
        | ok fl₂ =>
          cases fl₂ with
          | ret r =>
            obtain ⟨rfl, h', tk, js, rfl, hS', g', hk'⟩ := hr₂
            have hT2 := hS'.of.typeIs (s := { s with heap := h', toks := tk })
            repeat (any_goals (first | assumption | wp_step))
            all_goals exact h h' tk js hS' g'.1 (fun k => by rw [g'.2 k, List.take_length]) hk'
          | next => exact hr₂
          | brk => exact hr₂
          | cont => exact hr₂
    | next => exact hr
    | brk => exact hr
    | cont => exact hr
end
end Dv
set_option maxRecDepth 100000
set_option maxHeartbeats 4000000
/-! Dv73: set(list of bools), sorted(set of bools). -/
namespace Dv
open PySem PySem.Spec PyProof.Rows L2
/-- the bools of a list, once each, in order -/
def sB (bs : List Bool) : List Bool := (if false ∈ bs then [false] else []) ++ (if true ∈ bs then [true] else [])
theorem sB_self : ∀ {out : List Bool}, out.Nodup → (out.Pairwise fun x y => ¬ (y = false ∧ x = true)) → out = sB out
  | [], _, _ => rfl
  | [a], _, _ => by cases a <;> rfl
  | [a, b], nd, s => by
    cases a <;> cases b <;> first | rfl | (exfalso; exact (List.pairwise_cons.mp s).1 _ List.mem_cons_self ⟨rfl, rfl⟩) | (exfalso; simp at nd)
  | a :: b :: c :: l, nd, _ => by
    exfalso
    cases a <;> cases b <;> cases c <;> simp at nd
theorem sB_eq {xs ys : List Bool} (h : ∀ k, k ∈ xs ↔ k ∈ ys) : sB xs = sB ys := by
  unfold sB
  simp only [h]
def bvV : Value → Bool
  | .bool b => b
  | _ => false
def ltBv (v u : Value) : Bool := decide (b2i (bvV v) < b2i (bvV u))
theorem swo_bool : SrtO.Swo ltBv := by
  refine ⟨fun x y h => ?_, fun x y z h1 h2 => ?_⟩
  · unfold ltBv at *
    have := of_decide_eq_true h
    exact decide_eq_false (by omega)
  · unfold ltBv at *
    have h1 := of_decide_eq_false h1
    have h2 := of_decide_eq_false h2
    exact decide_eq_false (by omega)
theorem kk_bools (a b : Bool) : keyKind' #[.bool a, .bool b] = pure oneType' := by
  cases a <;> cases b <;> kernel_rfl
section
variable {P : Program} {w : World} {A : Around} {E : Value → Shared → Prop} {s : Shared} {p : Addr} {ks : List Bool}
theorem bools_vals {κs : List Bool} : ∀ {vs : List Value} {ks : List Bool}, KVals (PpSet.boolK P w) vs ks → vs = ks.map .bool
  | _, _, .nil => rfl
  | _, _, .cons h r => by
    rw [PpSet.isB_shape h, bools_vals (κs := κs) r]
    rfl
theorem bools_sortable {a : Addr} {vs : List Value} (hv : ∀ v ∈ vs, ∃ b, v = .bool b) (h2 : 2 ≤ vs.length) (h3 : vs.length ≤ 2) : SrtO.SortableO P w A s a vs ltBv := by
  intro h' _
  refine ⟨oneType', fun Q E hq => ?_, fun p q hp hq => ?_⟩
  · match vs, h2, h3, hv with
    | [v1, v2], _, _, hv =>
      obtain ⟨b1, rfl⟩ := hv v1 (by simp)
      obtain ⟨b2, rfl⟩ := hv v2 (by simp)
      rw [kk_bools]
      exact wpAny_pure hq
  · obtain ⟨p1, p2⟩ := p
    obtain ⟨q1, q2⟩ := q
    obtain ⟨b1, rfl⟩ := hv p1 hp
    obtain ⟨b2, rfl⟩ := hv q1 hq
    rw [keyLt'_oneType]
    exact PySem.W.oneLt_bool ⟨rfl, rfl⟩
theorem nodup_bools : ∀ {ks : List Bool}, ks.Nodup → ks.length ≤ 2
  | [], _ => by decide
  | [_], _ => by simp
  | [_, _], _ => Nat.le_refl _
  | a :: b :: c :: l, nd => by
    exfalso
    cases a <;> cases b <;> cases c <;> simp at nd
theorem sorted_setB {T : Value → Shared → Prop} (R : SetG (PpSet.boolK P w) s.heap p ks) (hh : A.handled = none)
    (hT : ∀ (s' : Shared) (q : Addr) (out : List Value) (c : Nat), (∀ b o, s.heap.get? b = some o → s'.heap.get? b = some o) → s'.gens = s.gens → s'.os = s.os → s.heap.objs.size ≤ q → s'.heap.get? q = some (seqObj "list" out.toArray c) → out = (sB ks).map .bool → T (.ref q) s') :
    wpAny (model P w) A (call (.builtin "sorted") [.ref p]) T E s := by
  obtain ⟨o, rows, ep, t, ho, hex, hd, en, nd, hb, hf, hr, hl⟩ := R
  refine Calls.call_function_entry kind_sorted plain_sorted entry_sorted (args_sorted1 _) ?_
  unfold Builtin.«sorted»
  refine wpAny_bind (m := checkCount "sorted" 1 1 _) (wpAny_pure ?_)
  refine wpAny_bind (collect_set (A := A.in1) hh ⟨o, ho, hex.1, hd⟩ hf hb hr hl fun st vs k1 hz g1 o1 pm => ?_)
  obtain ⟨js, kv, pj⟩ := en.vals.perm pm.symm
  have ev := bools_vals (κs := []) kv
  have nj : js.Nodup := pj.nodup_iff.mpr nd
  have lj := nodup_bools nj
  have vl : vs.length ≤ 2 := by rw [ev, List.length_map]; exact lj
  refine wpAny_bind (wpAny_newList ?_ (by rw [sizeLine_eq]; omega))
  have hoL : (st.heap.push (seqObj "list" vs.toArray 0)).get? st.heap.objs.size = some (seqObj "list" vs.toArray 0) := Heap.get?_push_size _ rfl
  refine wpAny_bind (wpAny_holding (wpAny_call_entry slot_list_sort ⟨_, hoL, rfl⟩ entry_list_sort (SrtO.list_sort_ord swo_bool hoL (by rw [sizeLine_eq]; omega) (fun h2 => bools_sortable (fun v m => by
    rw [ev] at m
    obtain ⟨b, _, rfl⟩ := List.mem_map.mp m
    exact ⟨b, rfl⟩) h2 vl) fun out hs hst => ⟨_, rfl, ?_⟩) (args_list_sort _)))
  obtain ⟨c, hc⟩ := sortedHeap_at (vs := vs) (out := out.toArray) hoL
  refine wpAny_pure ⟨_, rfl, hT _ st.heap.objs.size out c (fun b u e => ?_) g1 o1 hz hc ?_⟩
  · have q := k1 b u e
    have lt := Heap.lt_size q
    show (sortedHeap (st.heap.push (seqObj "list" vs.toArray 0)) st.heap.objs.size vs _).get? b = some u
    rw [sortedHeap_old (Nat.ne_of_lt lt) (by rw [size_push']; exact Nat.lt_succ_of_lt lt)]
    exact Heap.get?_push_of_some _ q
  · have po : out.Perm (js.map .bool) := by
      rw [← ev]
      exact hst.perm
    have eo : out = (out.map bvV).map .bool := by
      rw [List.map_map]
      have all : ∀ v ∈ out, (Value.bool ∘ bvV) v = v := fun v m => by
        obtain ⟨b, _, rfl⟩ := List.mem_map.mp (po.mem_iff.mp m)
        rfl
      exact ((List.map_congr_left all).trans (List.map_id' out)).symm
    have pb : (out.map bvV).Perm js := by
      have q := po.map bvV
      rw [List.map_map] at q
      have e : js.map (bvV ∘ Value.bool) = js := by
        have : (bvV ∘ Value.bool) = id := rfl
        rw [this, List.map_id]
      rwa [e] at q
    have sr : (out.map bvV).Pairwise fun x y => ¬ (y = false ∧ x = true) := by
      refine List.pairwise_map.mpr (hs.imp fun {x y} h c => ?_)
      have h := of_decide_eq_false h
      rw [c.1, c.2] at h
      exact h (by decide)
    rw [eo, sB_self (pb.nodup_iff.mpr nj) sr, sB_eq fun k => (pb.trans pj).mem_iff]
end
def rSortedB (P : Program) (w : World) : List V → Hp → VK → Prop := fun xs H Q => ∃ (p : Addr) (ks : List Bool), xs = [V.ref p] ∧ H p = some (SetH boolV P w p ks) ∧ ∀ (q : Addr), H q = none → Q (.ref q) (upd H q (.lst ((sB ks).map V.bl)))
theorem vals_bools : ∀ bs : List Bool, Vals (bs.map V.bl) (bs.map Value.bool)
  | [] => .nil
  | b :: bs => .cons rfl (vals_bools bs)
theorem cr_sortedB {X : Cx} (hc : X.calm = true) : CallR X (.builtin "sorted") (rSortedB X.prog X.w) := by
  intro pins s σ H xs us Q I r h
  obtain ⟨p, ks, rfl, hp, q⟩ := h
  rw [Vals.ref1 r]
  refine sorted_setB (setH_at I hp) (I.ok.hd hc) fun s' l out c k g o hl hg e => ?_
  have len : ((sB ks).map V.bl).length ≤ sizeLine := by
    rw [List.length_map]
    unfold sB
    split <;> split <;> decide
  have hn : H l = none := I.hok.fresh hl
  have J : Inv X pins σ (upd H l (.lst ((sB ks).map V.bl))) { s with heap := s'.heap, gens := s'.gens, drawn := s'.drawn, toks := s'.toks } :=
    I.call (ch := []) (Un.laid k hl hn) (I.hok.laid k hl ⟨len, out, c, by rw [e]; exact vals_bools _, hg⟩) (by rw [g]; exact I.bare) (fun _ z => nomatch z)
  have e : s' = { s with heap := s'.heap, gens := s'.gens, drawn := s'.drawn, toks := s'.toks } := by
    cases s'
    cases s
    cases o
    rfl
  rw [e]
  exact ⟨.ref l, _, J, rfl, q l hn⟩
def rSetB (K : PySem.W.Frag) (P : Program) (w : World) : List V → Hp → VK → Prop := fun xs H Q => ∃ (p : Addr) (bs : List Bool), xs = [V.ref p] ∧ SqL K H p (bs.map V.bl) ∧ bs.length ≤ 4000 ∧ ∀ (q : Addr) (js : List Bool), (∀ k, k ∈ js ↔ k ∈ bs) → js.Nodup → H q = none → Q (.ref q) (upd H q (SetH boolV P w q js))
theorem kvals_bools {P : Program} {w : World} : ∀ {bs : List Bool} {its : List Value}, Vals (bs.map V.bl) its → KVals (PpSet.boolK P w) its bs ∧ ∀ v ∈ its, v.scannable = true
  | [], _, .nil => ⟨.nil, fun _ m => nomatch m⟩
  | b :: bs, _, .cons h r => by
    obtain ⟨h1, h2⟩ := kvals_bools (P := P) (w := w) r
    cases h
    exact ⟨.cons (PpSet.boolK_is _ _ _) h1, fun v m => (List.mem_cons.mp m).elim (fun e => e ▸ rfl) (h2 v)⟩
theorem cr_setB {X : Cx} (hc : X.calm = true) : CallR X (.type "set") (rSetB X.K X.prog X.w) := by
  intro pins s σ H xs us Q I r h
  obtain ⟨p, bs, rfl, hp, hz, q⟩ := h
  rw [Vals.ref1 r]
  obtain ⟨its, rv, pl, hz2⟩ := I.list hp
  obtain ⟨kv, sc⟩ := kvals_bools (P := X.prog) (w := X.w) rv
  refine call_set_listG (κ := PpSet.boolK X.prog X.w) bs (I.ok.hd hc) pl.isList (by simpa using kv) (by simpa using sc) (by unfold scanBound; omega) fun h' tk js R hl mem k => ?_
  have hn : H s.heap.objs.size = none := I.hok.fresh (Nat.le_refl _)
  obtain ⟨o, rows, ep, t, ho, hex, hd, en, nd, rest⟩ := id R
  have J : Inv X pins σ (upd H s.heap.objs.size (SetH boolV X.prog X.w s.heap.objs.size js)) { s with heap := h', toks := tk } :=
    I.laid (t' := tk) k (Nat.le_refl _) (setH_ok R)
  exact ⟨.ref s.heap.objs.size, _, J, rfl, q _ js mem nd hn⟩
section
variable {X : Cx} {W : Wd} {Δ : List Sl} {e : Expr} {p p2 pos pos2 : Pos} {m : Nat}
theorem das_bools {Z : Addr → Prop} {H : Hp} : ∀ {vs : List V} {bs : List Bool}, Das Z H vs (bs.map .bool) → vs = bs.map V.bl
  | _, [], .nil => rfl
  | _, b :: bs, .cons h r => by
    cases h
    rw [das_bools r]
    rfl
/-- set(list of bools) -/
theorem de_setB {bs : List Bool} (hc : X.calm = true) (hg : Gl X "set") (hm : X.mg "set" = none) (h : DE X W Δ 0 e (eqd W.Z (.list (bs.map .bool)))) (hz : bs.length ≤ 4000)
    (he : starEach (e :: []) X.env = (false, eval e X.env) :: starEach [] X.env := by rfl) (hpl : (backTo pos (starEach [] X.env)).any (·.1) = false := by rfl) :
    DE X W Δ 0 (.Call (.Name "set" p) [e] [] pos) (setA boolV X.prog X.w W.Z fun ks => ∀ k, k ∈ ks ↔ k ∈ bs) :=
  pe_to (pe_callTy (cr_setB hc) hg hm (by rfl) (da_cons (m2 := 0) h da_nil he) (by decide) (by decide) he hpl) fun σ H Q ⟨n, l, k, z⟩ => ⟨n, l, k, fun vs H1 k1 q1 o1 => by
    obtain ⟨v, rfl, o⟩ := allo_1 o1
    have o := eqd_ok o
    cases o with
    | lst r nz hd =>
      rename_i a us
      have eu := das_bools hd
      subst eu
      exact ⟨a, bs, rfl, .inl (.inl r), hz, fun q js mem nd ha => z _ _ (k1.ext (.new ha)) (q1.trans (Ext.new ha).kp) ⟨q, js, rfl, k1.w.new k1.j ha, upd_same, nd, mem⟩⟩⟩
/-- sorted(set of bools) -/
theorem de_sortSetB {R : List Bool → Prop} (hc : X.calm = true) (hg : Gl X "sorted") (hm : X.mg "sorted" = none) (h : DE X W Δ 0 e (setA boolV X.prog X.w W.Z R))
    (he : starEach (e :: []) X.env = (false, eval e X.env) :: starEach [] X.env := by rfl) (hpl : (backTo pos (starEach [] X.env)).any (·.1) = false := by rfl) :
    DE X W Δ 0 (.Call (.Name "sorted" p) [e] [] pos) (dat W.Z fun d => ∃ ks : List Bool, d = .list ((sB ks).map .bool) ∧ R ks) :=
  pe_to (pe_callB (cr_sortedB hc) hg hm (by rfl) (da_cons (m2 := 0) h da_nil he) (by decide) (by decide) he hpl) fun σ H Q ⟨n, l, k, z⟩ => ⟨n, l, k, fun vs H1 k1 q1 o1 => by
    obtain ⟨v, rfl, q, ks, rfl, nz, hq, nd, r⟩ := allo_1 o1
    exact ⟨q, ks, rfl, hq, fun a ha => z _ _ (k1.ext (.new ha)) (q1.trans (Ext.new ha).kp) ⟨_, .lst upd_same (k1.w.new k1.j ha) (das_bls (sB ks)), ks, rfl, r⟩⟩⟩
/-- sorted(set(list of bools)) -/
theorem de_sortB {bs : List Bool} (hc : X.calm = true) (hg : Gl X "sorted") (hm : X.mg "sorted" = none) (hg2 : Gl X "set") (hm2 : X.mg "set" = none) (h : DE X W Δ 0 e (eqd W.Z (.list (bs.map .bool)))) (hz : bs.length ≤ 4000)
    (he2 : starEach (e :: []) X.env = (false, eval e X.env) :: starEach [] X.env := by rfl) (hpl2 : (backTo pos2 (starEach [] X.env)).any (·.1) = false := by rfl)
    (he : starEach (.Call (.Name "set" p2) [e] [] pos2 :: []) X.env = (false, eval (.Call (.Name "set" p2) [e] [] pos2) X.env) :: starEach [] X.env := by rfl) (hpl : (backTo pos (starEach [] X.env)).any (·.1) = false := by rfl) :
    DE X W Δ 0 (.Call (.Name "sorted" p) [.Call (.Name "set" p2) [e] [] pos2] [] pos) (eqd W.Z (.list ((sB bs).map .bool))) :=
  (de_sortSetB hc hg hm (de_setB hc hg2 hm2 h hz he2 hpl2) he hpl).imp fun H v ⟨d, o, ks, e, r⟩ => ⟨d, o, by rw [e, sB_eq r]⟩
end
end Dv
set_option maxRecDepth 100000
set_option maxHeartbeats 4000000
namespace K50
open PySem PySem.Spec PyProof.Rows L2 Dv
section
variable {P : Program} {w : World} {K : PySem.W.Frag} {mg : Str → Option Value} {base : Heap} {a : Ads}
theorem o_isNotNon {W : Wd} {d : PyData} : Op2 W (fun x y H Q => y = .non ∧ Q (.bl (!decide (x = .non))) H) (eqd W.Z d) (eqd W.Z .none) (bol W.Z (· = !isNon d)) := fun n H v u w jj o1 o2 Q q => by
  have o1 := eqd_ok o1
  have o2 := eqd_ok o2
  cases o2
  refine ⟨rfl, q _ H Ext.refl ⟨_, rfl, ?_⟩⟩
  cases o1 <;> rfl
/-! ### known_state -/
def hit (x : Str) (w : Int) (s : En) : Bool := decide (s.1 = x) && (decide (s.2.1 ≤ w) && decide (w ≤ s.2.2))
def kn (es : List En) (x : Str) (w : Int) : Str := match es.find? (hit x w) with
  | some s => if w = s.2.2 then "open" else "closed"
  | none => "free"
theorem find_at {α : Type} {p : α → Bool} {es : List α} {i : Nat} {s : α} (h : ∀ r ∈ es.take i, p r = false) (hi : es[i]? = some s) (hs : p s = true) : es.find? p = some s := by
  obtain ⟨il, e⟩ := List.getElem?_eq_some_iff.mp hi
  have ee : es = es.take i ++ es[i] :: es.drop (i + 1) := by
    rw [List.getElem_cons_drop, List.take_append_drop]
  rw [ee, List.find?_append, List.find?_eq_none.mpr (fun r m => by rw [h r m]; decide), e]
  show (s :: _).find? p = some s
  rw [List.find?_cons_of_pos hs]
theorem kn_hit {es : List En} {x : Str} {w : Int} {i : Nat} {s : En} (h : ∀ r ∈ es.take i, hit x w r = false) (hi : es[i]? = some s) (hs : hit x w s = true) : kn es x w = if w = s.2.2 then ("open" : Str) else "closed" := by
  unfold kn
  rw [find_at h hi hs]
theorem kn_free {es : List En} {x : Str} {w : Int} (h : ∀ r ∈ es, hit x w r = false) : kn es x w = "free" := by
  unfold kn
  rw [List.find?_eq_none.mpr (fun r m => by rw [h r m]; decide)]
/-- a log without clash -/
def Agd (es : List En) : Prop := LogOk es ∧ NoCl es es.length
theorem agd_cl {es : List En} (h : Agd es) : clD (logD es) = .none := (clD_eq (.inr ⟨h.2, rfl⟩)).symm
theorem ok_check_agreed (T : Txt K mg a) : FnOk P w K mg base CX0 7 a.a_check_agreed a.d_check_agreed ["value"] (sp1 (fun d => ∃ es, d = logD es ∧ Agd es) fun _ => .none) := by
  refine okDO T.F_check_agreed sc_check_agreed (by rintro ds ⟨d, rfl, _⟩; rfl) (fun cd B fr t h e rm Z J n ds ln hp => ?_)
  obtain ⟨_, rfl, es, rfl, hg⟩ := hp
  refine hs_set (m := 0) (i := 1) (d := .none) sc_check_agreed.nd rfl (Or.inl rfl) (DE.to (fn1O (ok_find_clash T) rm (by rfl) T.g_find_clash T.F_find_clash.kp T.b_find_clash (de_var (pv 0) rfl) ⟨es, rfl, hg.1⟩) (agd_cl hg)) ln ?_
  refine hs_guard (m := 0) (P := (· = false)) (dt_cmp (m1 := 0) (m2 := 0) op_notN (de_var (pv 1) rfl) de_non o_isNotNon (nomark _)) ln (fun q => absurd q (by decide)) (fun _ => hs_nil fun σ H k => rt_at k ⟨_, .non, _, rfl, rfl⟩ (Nat.le_refl _))
theorem ok_check_day (T : Txt K mg a) : FnOk P w K mg base CX0 2 a.a_check_day a.d_check_day ["value"] (sp1 IsI fun _ => .none) := by
  refine okDO T.F_check_day sc_check_day (by rintro ds ⟨d, rfl, _⟩; rfl) (fun cd B fr t h e rm Z J n ds ln hp => ?_)
  obtain ⟨_, rfl, i, rfl⟩ := hp
  refine hs_guard (m := 0) (P := (· = false)) (dt_not (P1 := (· = true)) (dt_val (fn1O (ok_is_integer T) rm (by rfl) T.g_is_integer T.F_is_integer.kp T.b_is_integer (de_var (pv 0) rfl) ⟨i, rfl⟩)) (by rintro b rfl; rfl)) ln (fun q => absurd q (by decide)) (fun _ => hs_nil fun σ H k => rt_at k ⟨_, .non, _, rfl, rfl⟩ (Nat.le_refl _))
def KnIn (ds : List PyData) : Prop := ∃ es x i, ds = [logD es, .str x, .int i] ∧ Agd es ∧ NaOk x
def KnOut (ds : List PyData) (d : PyData) : Prop := ∃ es x i, ds = [logD es, .str x, .int i] ∧ d = .str (kn es x i)
theorem ok_known_state (T : Txt K mg a) : FnOk P w K mg base CX0 8 a.a_known_state a.d_known_state ["log", "office", "day"] (spD KnIn KnOut) := by
  refine okDO T.F_known_state sc_known_state (by rintro ds ⟨es, x, i, rfl, _⟩; rfl) (fun cd B fr t h e rm Z J n ds ln hp => ?_)
  obtain ⟨es, x, day, rfl, hg, hx⟩ := hp
  refine hs_expr (m := 0) (fn1O (ok_check_agreed T) rm (by rfl) T.g_check_agreed T.F_check_agreed.kp T.b_check_agreed (de_var (pv 0) rfl) ⟨es, rfl, hg⟩) ln ?_
  refine hs_guard (m := 0) (P := (· = false)) (dt_not (P1 := (· = true)) (dt_val (DE.to (fn1O (ok_is_office T) (rm.mono (by decide)) (by rfl) T.g_is_office T.F_is_office.kp T.b_is_office (de_var (pv 1) rfl) (by rintro y e; cases e; exact hx.2)) (congrArg PyData.bool hx.1))) (by rintro b rfl; rfl)) ln (fun q => absurd q (by decide)) (fun _ => ?_)
  refine hs_expr (m := 0) (fn1O (ok_check_day T) (rm.mono (by decide)) (by rfl) T.g_check_day T.F_check_day.kp T.b_check_day (de_var (pv 2) rfl) ⟨day, rfl⟩) ln ?_
  refine hs_forP (m := 0) (W := Wd.at Z J h) (as := []) (l0 := []) (ι := Unit) (Ps := (· = es.map enD)) (R := fun _ i _ => ∀ r ∈ es.take i, hit x day r = false) (l := fun _ _ _ => []) (Γ := fun _ _ _ => [.val (logD es), .val (.str x), .val (.int day), .no, .no, .no]) (Ni := fun _ => n) PassesOwn.never rfl
    (di_list (de_var (pv 0) rfl)) ln (tg_trip (i := 3) (j := 4) (k := 5) rfl sc_known_state.nd rfl rfl rfl (Or.inl rfl) (Or.inl rfl) (Or.inl rfl)) (fun _ _ _ => rfl) (fun xs _ => ⟨(), fun s m => (by simp at m), rfl, Less.refl _⟩) (Nat.le_refl _) (fun xs px d md => by
      subst px
      obtain ⟨s, _, rfl⟩ := List.mem_map.mp md
      exact ⟨_, _, _, rfl⟩) (fun H2 xs i d u hk2 px hd hR => ?_) (fun xs u px hR => ?_)
  · subst px
    have hi : i < es.length := by
      have := (List.getElem?_eq_some_iff.mp hd).1
      rwa [List.length_map] at this
    rw [List.getElem?_map, List.getElem?_eq_getElem hi] at hd
    cases hd
    have tk : es.take (i + 1) = es.take i ++ [es[i]] := by
      rw [List.take_succ, List.getElem?_eq_getElem hi]
      rfl
    refine hs_guard (m := 0) (P := (· = hit x day es[i])) (PW.pt (dt_and (m1 := 0) (m2 := 0) (P1 := (· = decide (es[i].1 = x))) (dt_cmp (m1 := 0) (m2 := 0) op_eq (de_var (d := .str es[i].1) (pv 3) rfl) (de_var (pv 1) rfl) o_eqS (nomark _)) (fun c => dt_and1 (DT.imp (dt_le2 (m1 := 0) (m2 := 0) (m3 := 0) (i := es[i].2.1) (j := day) (l := es[i].2.2) (de_var (pv 4) rfl) (de_var (pv 2) rfl) (de_var (pv 5) rfl)) fun b hb => by
        rw [hb]
        unfold hit
        rw [← c]
        rfl)) (fun c => by
        unfold hit
        rw [← c]
        rfl))) ln (fun c => ?_) (fun c => ?_)
    · refine hs_ret (m := 0) (A := eqd _ (.str (kn es x day))) (de_if (m1 := 0) (m2 := 0) (m3 := 0) (P := (· = decide (day = es[i].2.2))) (dt_cmp (m1 := 0) (m2 := 0) op_eq (de_var (pv 2) rfl) (de_var (d := .int es[i].2.2) (pv 5) rfl) o_eqI (nomark _)) (fun c2 => DE.to de_str ?_) (fun c2 => DE.to de_str ?_)) ln (fun v σ H k o => ?_)
      · rw [kn_hit hR (List.getElem?_eq_getElem hi) c.symm, if_pos (of_decide_eq_true c2.symm)]
      · rw [kn_hit hR (List.getElem?_eq_getElem hi) c.symm, if_neg (of_decide_eq_false c2.symm)]
      · refine rt_in k ⟨_, eqd_ok o, es, x, day, rfl, rfl⟩ (fun b z => pinL_z.mpr (.inr (cut_z.mpr (at_z.mpr z)))) (fun H j => at_j.mp (cut_j.mp (pinL_j.mp j).2)) (fun b o nz e => ?_)
        exact k.kept b o (fun z => nz (at_z.mp z)) (by show (if b ∈ [] then none else H2 b) = _; rw [if_neg (fun m => nomatch m)]; exact hk2 b o (fun z => nz z) e)
    · exact hs_nil fun σ H k => ⟨(), fun r m => by
        rw [tk] at m
        rcases List.mem_append.mp m with m | m
        · exact hR r m
        · cases List.mem_singleton.mp m
          exact c.symm, k.less (.same (.same (.same (.no (.no (.no .nil))))))⟩
  · subst px
    rw [List.length_map, List.take_length] at hR
    exact hs_ret (m := 0) (DE.to de_str (congrArg PyData.str (kn_free hR).symm)) ln (fun v σ H k o => rt_at k ⟨_, eqd_ok o, es, x, day, rfl, rfl⟩ (Nat.le_refl _))
end
end K50
set_option maxRecDepth 100000
set_option maxHeartbeats 4000000
namespace K50
open PySem PySem.Spec PyProof.Rows L2 Dv
/-! ### no clash, by members -/
def NoC (es : List En) : Prop := ∀ s ∈ es, ∀ s' ∈ es, clB s s' = false
theorem clB_same {s s' : En} (h : s.2.2 = s'.2.2) : clB s s' = false := by
  cases q : clB s s' with
  | false => rfl
  | true =>
    exfalso
    obtain ⟨_, h1⟩ := clB_iff.mp q
    rcases h1 with h1 | h1
    · have := (clo_iff.mp h1).2
      omega
    · have := (clo_iff.mp h1).2
      omega
theorem noc_of {es : List En} (h : NoCl es es.length) : NoC es := fun s m s' m' => by
  by_cases c : s.2.2 = s'.2.2
  · exact clB_same c
  · exact nocl_mem h m m' c
theorem nocl_of {es : List En} (h : NoC es) : NoCl es es.length := fun j hj i hi => by
  rw [cl_eq (by omega) hj]
  exact h _ (List.getElem_mem _) _ (List.getElem_mem _)
theorem noc_rev {es : List En} (h : NoC es) : NoC es.reverse := fun s m s' m' => h s (List.mem_reverse.mp m) s' (List.mem_reverse.mp m')
/-! ### what is known -/
def Opn (es : List En) (x : Str) (w : Int) : Prop := ∃ s ∈ es, s.1 = x ∧ s.2.2 = w
def Cls (es : List En) (x : Str) (w : Int) : Prop := ∃ s ∈ es, s.1 = x ∧ s.2.1 ≤ w ∧ w < s.2.2
noncomputable instance (es : List En) (x : Str) (w : Int) : Decidable (Opn es x w) := Classical.propDecidable _
theorem hit_iff {x : Str} {w : Int} {s : En} : hit x w s = true ↔ s.1 = x ∧ s.2.1 ≤ w ∧ w ≤ s.2.2 := by
  unfold hit
  rw [Bool.and_eq_true, Bool.and_eq_true, decide_eq_true_iff, decide_eq_true_iff, decide_eq_true_iff]
theorem no_both {es : List En} (h : NoC es) {x : Str} {w : Int} (h1 : Opn es x w) (h2 : Cls es x w) : False := by
  obtain ⟨s, m, e, ew⟩ := h1
  obtain ⟨r, m', e', b1, b2⟩ := h2
  have q := h r m' s m
  rw [clB_iff.mpr ⟨e'.trans e.symm, .inl (clo_iff.mpr (by rw [ew]; exact ⟨b1, b2⟩))⟩] at q
  cases q
theorem kn_open {es : List En} (h : NoC es) (hb : ∀ s ∈ es, s.2.1 ≤ s.2.2) {x : Str} {w : Int} (h1 : Opn es x w) : kn es x w = "open" := by
  unfold kn
  cases q : es.find? (hit x w) with
  | none =>
    exfalso
    obtain ⟨s, m, e, ew⟩ := h1
    have := List.find?_eq_none.mp q s m
    exact this (hit_iff.mpr ⟨e, by rw [← ew]; exact hb s m, by rw [ew]; exact Int.le_refl _⟩)
  | some s =>
    have m := List.mem_of_find?_eq_some q
    obtain ⟨e, b1, b2⟩ := hit_iff.mp (List.find?_some q)
    have ew : w = s.2.2 := by
      by_cases c : w = s.2.2
      · exact c
      · exact (no_both h h1 ⟨s, m, e, b1, by omega⟩).elim
    show (if w = s.2.2 then ("open" : Str) else "closed") = "open"
    rw [if_pos ew]
theorem kn_closed {es : List En} (h : NoC es) {x : Str} {w : Int} (h1 : Cls es x w) : kn es x w = "closed" := by
  unfold kn
  cases q : es.find? (hit x w) with
  | none =>
    exfalso
    obtain ⟨s, m, e, b1, b2⟩ := h1
    exact List.find?_eq_none.mp q s m (hit_iff.mpr ⟨e, b1, by omega⟩)
  | some s =>
    have m := List.mem_of_find?_eq_some q
    obtain ⟨e, b1, b2⟩ := hit_iff.mp (List.find?_some q)
    show (if w = s.2.2 then ("open" : Str) else "closed") = "closed"
    rw [if_neg]
    intro ew
    exact no_both h ⟨s, m, e, ew.symm⟩ h1
theorem kn_none {es : List En} {x : Str} {w : Int} (h1 : ¬ Opn es x w) (h2 : ¬ Cls es x w) : kn es x w = "free" := kn_free fun s m => by
  cases q : hit x w s with
  | false => rfl
  | true =>
    exfalso
    obtain ⟨e, b1, b2⟩ := hit_iff.mp q
    by_cases c : s.2.2 = w
    · exact h1 ⟨s, m, e, c⟩
    · exact h2 ⟨s, m, e, b1, by omega⟩
theorem kn_rev {es : List En} (h : NoC es) (hb : ∀ s ∈ es, s.2.1 ≤ s.2.2) {x : Str} {w : Int} : kn es.reverse x w = kn es x w := by
  have mo : Opn es.reverse x w ↔ Opn es x w := ⟨fun ⟨s, m, q⟩ => ⟨s, List.mem_reverse.mp m, q⟩, fun ⟨s, m, q⟩ => ⟨s, List.mem_reverse.mpr m, q⟩⟩
  have mc : Cls es.reverse x w ↔ Cls es x w := ⟨fun ⟨s, m, q⟩ => ⟨s, List.mem_reverse.mp m, q⟩, fun ⟨s, m, q⟩ => ⟨s, List.mem_reverse.mpr m, q⟩⟩
  by_cases c1 : Opn es x w
  · rw [kn_open h hb c1, kn_open (noc_rev h) (fun s m => hb s (List.mem_reverse.mp m)) (mo.mpr c1)]
  · by_cases c2 : Cls es x w
    · rw [kn_closed h c2, kn_closed (noc_rev h) (mc.mpr c2)]
    · rw [kn_none c1 c2, kn_none (fun q => c1 (mo.mp q)) (fun q => c2 (mc.mp q))]
/-! ### by the rows -/
noncomputable def fR (es : List En) (d : PyData) : Bool := @decide (∃ r, d = rowD r ∧ Agr r es) (Classical.propDecidable _)
theorem fR_iff {es : List En} {r : List Bool} : fR es (rowD r) = true ↔ Agr r es := by
  unfold fR
  refine ⟨fun h => ?_, fun h => @decide_eq_true _ (Classical.propDecidable _) ⟨r, rfl, h⟩⟩
  obtain ⟨r', e, g⟩ := @of_decide_eq_true _ (Classical.propDecidable _) h
  rw [row_inj e]
  exact g
noncomputable def ableR (x : Str) (es : List En) : List (List Bool) := (rowsL 7).filter fun r => fR (ownL x es) (rowD r)
theorem able_mem {x : Str} {es : List En} {r : List Bool} : r ∈ ableR x es ↔ r.length = 7 ∧ Agr r (ownL x es) := by
  unfold ableR
  rw [List.mem_filter, fR_iff]
  exact ⟨fun ⟨h1, h2⟩ => ⟨rowsL_of 7 r h1, h2⟩, fun ⟨h1, h2⟩ => ⟨rowsL_all 7 r h1, h2⟩⟩
/-- a row that agrees, v where nothing is known -/
noncomputable def rowV (v : Bool) (x : Str) (es : List En) : List Bool := (List.range 7).map fun p => if Opn es x (p : Nat) then true else @ite _ (Cls es x (p : Nat)) (Classical.propDecidable _) false v
theorem rowV_at {v : Bool} {x : Str} {es : List En} {i : Nat} (hi : i < 7) : (rowV v x es)[i]? = some (if Opn es x (i : Nat) then true else @ite _ (Cls es x (i : Nat)) (Classical.propDecidable _) false v) := by
  unfold rowV
  rw [List.getElem?_map, List.getElem?_range hi]
  rfl
theorem rowV_able {v : Bool} {x : Str} {es : List En} {k : Nat} (he : EtOk k es) (h : NoC es) : rowV v x es ∈ ableR x es := by
  refine able_mem.mpr ⟨by unfold rowV; rw [List.length_map, List.length_range], fun s m => ?_⟩
  obtain ⟨m, e⟩ := List.mem_filter.mp m
  have e : s.1 = x := of_decide_eq_true e
  obtain ⟨_, b, t, eb, et, bt, t6⟩ := he.2 s m
  refine ⟨b, t, eb, et, bt, fun i h1 h2 => ?_, ?_⟩
  · have c2 : Cls es x (i : Nat) := ⟨s, m, e, by omega, by omega⟩
    rw [rowV_at (by omega), if_neg (fun c1 => no_both h c1 c2), if_pos c2]
  · rw [rowV_at (by omega), if_pos ⟨s, m, e, et⟩]
    intro q
    cases q
noncomputable def bsAt (x : Str) (es : List En) (w : Nat) : List Bool := (ableR x es).map fun r => r.getD w false
theorem bs_open {x : Str} {es : List En} {k w : Nat} (he : EtOk k es) (h : NoC es) (hw : w < 7) (h1 : Opn es x (w : Nat)) : sB (bsAt x es w) = [true] := by
  have all : ∀ b, b ∈ bsAt x es w ↔ b = true := fun b => by
    unfold bsAt
    rw [List.mem_map]
    constructor
    · rintro ⟨r, m, rfl⟩
      obtain ⟨l, ag⟩ := able_mem.mp m
      obtain ⟨s, ms, e, ew⟩ := h1
      obtain ⟨b, t, eb, et, _, _, hn⟩ := ag s (List.mem_filter.mpr ⟨ms, decide_eq_true e⟩)
      have : t = w := by omega
      subst this
      rw [List.getD_eq_getElem?_getD]
      rw [List.getElem?_eq_getElem (by omega)] at hn ⊢
      cases q : r[t] with
      | true => rfl
      | false => rw [q] at hn; exact absurd rfl hn
    · rintro rfl
      refine ⟨rowV true x es, rowV_able he h, ?_⟩
      rw [List.getD_eq_getElem?_getD, rowV_at hw, if_pos h1]
      rfl
  have : sB (bsAt x es w) = sB [true] := sB_eq fun b => (all b).trans List.mem_singleton.symm
  rw [this]
  rfl
theorem bs_closed {x : Str} {es : List En} {k w : Nat} (he : EtOk k es) (h : NoC es) (hw : w < 7) (h1 : Cls es x (w : Nat)) : sB (bsAt x es w) = [false] := by
  have all : ∀ b, b ∈ bsAt x es w ↔ b = false := fun b => by
    unfold bsAt
    rw [List.mem_map]
    constructor
    · rintro ⟨r, m, rfl⟩
      obtain ⟨l, ag⟩ := able_mem.mp m
      obtain ⟨s, ms, e, b1, b2⟩ := h1
      obtain ⟨b, t, eb, et, _, hn, _⟩ := ag s (List.mem_filter.mpr ⟨ms, decide_eq_true e⟩)
      rw [List.getD_eq_getElem?_getD, hn w (by omega) (by omega)]
      rfl
    · rintro rfl
      refine ⟨rowV true x es, rowV_able he h, ?_⟩
      rw [List.getD_eq_getElem?_getD, rowV_at hw, if_neg (fun c => no_both h c h1), if_pos h1]
      rfl
  have : sB (bsAt x es w) = sB [false] := sB_eq fun b => (all b).trans List.mem_singleton.symm
  rw [this]
  rfl
theorem bs_free {x : Str} {es : List En} {k w : Nat} (he : EtOk k es) (h : NoC es) (hw : w < 7) (h1 : ¬ Opn es x (w : Nat)) (h2 : ¬ Cls es x (w : Nat)) : sB (bsAt x es w) = [false, true] := by
  have all : ∀ b, b ∈ bsAt x es w := fun b => by
    unfold bsAt
    refine List.mem_map.mpr ⟨rowV b x es, rowV_able he h, ?_⟩
    rw [List.getD_eq_getElem?_getD, rowV_at hw, if_neg h1, if_neg h2]
    rfl
  have : sB (bsAt x es w) = sB [false, true] := sB_eq fun b => ⟨fun _ => by cases b <;> simp, fun _ => all b⟩
  rw [this]
  rfl
/-- the law's due -/
def dueOf (bs : List Bool) : Str := if bs.length = 2 then "free" else if bs.head?.getD false = true then "open" else "closed"
theorem due_kn {x : Str} {es : List En} {k w : Nat} (he : EtOk k es) (h : NoC es) (hw : w < 7) : (sB (bsAt x es w) = [true] ∨ sB (bsAt x es w) = [false] ∨ sB (bsAt x es w) = [false, true]) ∧ dueOf (sB (bsAt x es w)) = kn es x (w : Nat) := by
  have hb : ∀ s ∈ es, s.2.1 ≤ s.2.2 := fun s m => by
    obtain ⟨_, b, t, eb, et, bt, _⟩ := he.2 s m
    omega
  by_cases c1 : Opn es x (w : Nat)
  · rw [bs_open he h hw c1, kn_open h hb c1]
    exact ⟨.inl rfl, rfl⟩
  · by_cases c2 : Cls es x (w : Nat)
    · rw [bs_closed he h hw c2, kn_closed h c2]
      exact ⟨.inr (.inl rfl), rfl⟩
    · rw [bs_free he h hw c1 c2, kn_none c1 c2]
      exact ⟨.inr (.inr rfl), rfl⟩
section
variable {P : Program} {w : World} {K : PySem.W.Frag} {mg : Str → Option Value} {base : Heap} {a : Ads}
theorem clD_no {es : List En} (h : isNon (clD (logD es)) = true) : NoCl es es.length := by
  rcases clD_out es with ⟨i, j, _, e⟩ | ⟨q, _⟩
  · rw [e] at h
    cases h
  · exact q
theorem et_sub {k : Nat} {es js : List En} (he : EtOk k es) (hl : js.length ≤ es.length) (hs : ∀ s ∈ js, s ∈ es) : EtOk k js := ⟨Nat.le_trans hl he.1, fun s m => he.2 s (hs s m)⟩
theorem ok_law_kept (T : Txt K mg a) : FnOk P w K mg base CX0 3 a.a_law_kept a.d_law_kept ["entries"] (spD (fun ds => ∃ k es, ds = [logD es] ∧ EtOk k es) fun ds d => ∃ es js, ds = [logD es] ∧ d = logD js ∧ js.length ≤ es.length ∧ (∀ s ∈ js, s ∈ es) ∧ NoC js) := by
  refine okDO T.F_law_kept sc_law_kept (by rintro ds ⟨k, es, rfl, _⟩; rfl) (fun cd B fr t h e rm Z J n ds ln hp => ?_)
  obtain ⟨k, es, rfl, he⟩ := hp
  have le8 := he.1
  refine hs_newL (W := Wd.at Z J h) (l := []) (i := 1) sc_law_kept.nd rfl (Or.inl rfl) ln (fun p => ?_)
  refine hs_forP (m := 0) (W := Wd.at Z J h) (as := [p]) (l0 := [(p, .lst [])]) (ι := List V × List En) (Ps := (· = es.map enD)) (R := fun _ i q => q.1.length = q.2.length ∧ q.2.length ≤ i ∧ (∀ s ∈ q.2, s ∈ es) ∧ NoC q.2) (l := fun _ _ q => [(p, .lst q.1)]) (Γ := fun _ i q => [.val (logD es), .own p q.1 (q.2.map enD), .no]) (Ni := fun _ => n)
    PassesOwn.never rfl (di_list (de_var (pv 0) rfl)) ln (tg_name (i := 2) sc_law_kept.nd rfl (Or.inl rfl)) (fun _ _ _ => rfl) (fun xs _ => ⟨([], []), ⟨rfl, Nat.le_refl _, fun _ m => (nomatch m), fun _ m => nomatch m⟩, rfl, Less.refl _⟩) (Nat.le_refl _) (fun _ _ _ _ => trivial) (fun H xs i d q hk px hd r => ?_) (fun xs q px r => ?_)
  · subst px
    obtain ⟨us, js⟩ := q
    obtain ⟨hlen, hji, hs, hn⟩ := r
    have hlen : us.length = js.length := hlen
    have hji : js.length ≤ i := hji
    have hi : i < es.length := by
      have := (List.getElem?_eq_some_iff.mp hd).1
      rwa [List.length_map] at this
    rw [List.getElem?_map, List.getElem?_eq_getElem hi] at hd
    cases hd
    have mi := List.getElem_mem hi
    generalize es[i] = s at mi
    have hs2 : ∀ r ∈ js ++ [s], r ∈ es := fun r m => (List.mem_append.mp m).elim (hs r) fun m => List.mem_singleton.mp m ▸ mi
    have l2 : (js ++ [s]).length ≤ i + 1 := by rw [List.length_append]; exact Nat.succ_le_succ hji
    have lk2 : LogOk (js ++ [s]) := log_ok (et_sub he (by omega) hs2)
    refine hs_if (m := 0) (P := (· = isNon (clD (logD (js ++ [s]))))) (dt_unpin (i := 1) (p := p) (vs := us) (ds := js.map enD) (l := []) rfl (dt_cmp (m1 := 0) (m2 := 0) op_isN (fn1O (ok_law_first_clash T) (rm.mono (by decide)) (by rfl) T.g_law_first_clash T.F_law_first_clash.kp T.b_law_first_clash (DE.to (d' := logD (js ++ [s])) (de_op (m1 := 0) (m2 := 0) op_cat (de_var (d := .list (js.map enD)) (pv 1) rfl) (de_list (ds := [enD s]) (das_cons (m1 := 0) (m2 := 0) (de_var (pv 2) rfl) das_nil)) (o_cat ?_)) ?_) ⟨_, rfl, lk2⟩) de_non o_isNon (nomark _))) ln (fun c => ?_) (fun c => ?_) (hs_nil fun σ H k => k)
    · rw [List.length_map, List.length_singleton]
      exact Nat.le_trans (by omega : _ ≤ 100) (by decide)
    · unfold logD
      rw [List.map_append]
      rfl
    · refine hs_app (m := 0) (io := 1) (j := 0) (p := p) (vs := us) (ds := js.map enD) (Pd := (· = enD s)) (pv 1) rfl rfl (de_var (pv 2) rfl) (by omega) ln (fun v d hd => hs_nil fun σ H' k => ?_)
      subst hd
      refine ⟨(us ++ [v], js ++ [s]), ⟨by show (us ++ [v]).length = (js ++ [s]).length; rw [List.length_append, List.length_append, hlen] <;> rfl, l2, hs2, noc_of (clD_no c.symm)⟩, k.less ?_⟩
      show Less [_, .own p _ ((js ++ [s]).map enD), _] _
      rw [List.map_append]
      exact .same (.same (.no .nil))
    · exact hs_nil fun σ H' k => ⟨(us, js), ⟨hlen, Nat.le_succ_of_le hji, hs, hn⟩, k.less (.same (.same (.no .nil)))⟩
  · subst px
    obtain ⟨us, js⟩ := q
    obtain ⟨hlen, hji, hs, hn⟩ := r
    rw [List.length_map] at hji
    refine hs_done (i := 1) rfl ?_
    exact hs_ret (m := 0) (de_var (pv 1) rfl) ln (fun v σ H k o => rt_at k ⟨_, eqd_ok o, es, js, rfl, rfl, hji, hs, hn⟩ (Nat.le_refl _))
end
end K50
set_option maxRecDepth 100000
set_option maxHeartbeats 4000000
namespace K50
open PySem PySem.Spec PyProof.Rows L2 Dv
section
variable {P : Program} {w : World} {K : PySem.W.Frag} {mg : Str → Option Value} {base : Heap} {a : Ads}
variable {X : Cx} {W : Wd} {Δ : List Sl} {e e0 e1 e2 : Expr} {pos p1 : Pos}
theorem kn_in {es : List En} {x : Str} {i : Int} {ds : List PyData} {d : PyData} (h : KnOut [logD es, .str x, .int i] d) : d = .str (kn es x i) := by
  obtain ⟨es', x', i', e, rfl⟩ := h
  simp only [List.cons.injEq, PyData.str.injEq, PyData.int.injEq, and_true] at e
  obtain ⟨e1, rfl, rfl⟩ := e
  rw [log_inj e1]
/-- known_state(log, office, day) -/
theorem de_kn {es : List En} {x : Str} {i : Int} (T : Txt X.K X.mg a) (rm : Room 8 X.A) (hg : Gl X "known_state") (h0 : DE X W Δ 0 e0 (eqd W.Z (logD es))) (h1 : DE X W Δ 0 e1 (eqd W.Z (.str x))) (h2 : DE X W Δ 0 e2 (eqd W.Z (.int i))) (ag : Agd es) (hx : NaOk x)
    (g1 : starEach (e0 :: [e1, e2]) X.env = (false, eval e0 X.env) :: starEach [e1, e2] X.env := by rfl) (g2 : starEach (e1 :: [e2]) X.env = (false, eval e1 X.env) :: starEach [e2] X.env := by rfl) (g3 : starEach (e2 :: []) X.env = (false, eval e2 X.env) :: starEach [] X.env := by rfl) (g4 : (backTo pos (starEach [e1, e2] X.env)).any (·.1) = false := by rfl) :
    DE X W Δ 0 (.Call (.Name "known_state" p1) [e0, e1, e2] [] pos) (eqd W.Z (.str (kn es x i))) :=
  DE.imp (de_callO (m := 0) (PR := (· = .str (kn es x i))) (ok_known_state T) rm hg T.g_known_state T.F_known_state.kp T.b_known_state (da_cons (m1 := 0) (m2 := 0) h0 (da_cons (m1 := 0) (m2 := 0) h1 (da_cons (m1 := 0) (m2 := 0) h2 da_nil g3) g2) g1) (fun H vs o => ⟨_, allo_das (ds := [logD es, .str x, .int i]) o, ⟨es, x, i, rfl, ag, hx⟩, fun d q => kn_in (ds := []) q⟩) (by decide) g1 g4) fun H v o => o
theorem kb_known (T : Txt K mg a) : KBi K a.d_known_state ["log", "office", "day"] 0 [("day" : Str), "office", "log"] [2, 1, 0] := KBi.of T.F_known_state fun _ _ _ _ _ _ us ws h1 h2 => match us, ws, h1, h2 with | [], [_, _, _], _, _ => rfl
theorem de_knK {es : List En} {x : Str} {i : Int} {q1 q2 q3 : Pos} (T : Txt X.K X.mg a) (gd : X.A.guards = some []) (rm : Room 8 X.A) (hg : Gl X "known_state") (h0 : DE X W Δ 0 e0 (eqd W.Z (.int i))) (h1 : DE X W Δ 0 e1 (eqd W.Z (.str x))) (h2 : DE X W Δ 0 e2 (eqd W.Z (logD es))) (ag : Agd es) (hx : NaOk x)
    (hall : (backToKw pos (keywordEach [⟨some "day", e0, q1⟩, ⟨some "office", e1, q2⟩, ⟨some "log", e2, q3⟩] X.env)).all (·.1.isSome) = true := by rfl) (hks : (backToKw pos (keywordEach [⟨some "day", e0, q1⟩, ⟨some "office", e1, q2⟩, ⟨some "log", e2, q3⟩] X.env)).filterMap (·.1) = [("day" : Str), "office", "log"] := by rfl)
    (hpl : ((backTo pos (starEach [] X.env)).any (·.1) || (backToKw pos (keywordEach [⟨some "day", e0, q1⟩, ⟨some "office", e1, q2⟩, ⟨some "log", e2, q3⟩] X.env)).any (·.1.isNone)) = false := by rfl) :
    DE X W Δ 0 (.Call (.Name "known_state" p1) [] [⟨some "day", e0, q1⟩, ⟨some "office", e1, q2⟩, ⟨some "log", e2, q3⟩] pos) (eqd W.Z (.str (kn es x i))) :=
  DE.imp (de_callK0 (PR := (· = .str (kn es x i))) (.of (ok_known_state T)) gd rm hg T.g_known_state T.F_known_state.kp (kb_known T) (dk_cons (m1 := 0) (m2 := 0) h0 (dk_cons (m1 := 0) (m2 := 0) h1 (dk_cons (m1 := 0) (m2 := 0) h2 dk_nil))) rfl (fun H vs o => ⟨_, pick_das (allo_das (ds := [.int i, .str x, logD es]) o) [2, 1, 0], ⟨es, x, i, rfl, ag, hx⟩, fun d q => kn_in (ds := []) q⟩) (by decide) hall hks hpl) fun H v o => o
end
def NL : List Str := ["script", "deck", "rows", "lap", "many", "entries", "kept", "name", "own", "able", "when", "both", "due", "told", "entry", "row"]
def fN (x : Str) : PyData → Bool
  | .tuple (.str y :: _) => decide (y = x)
  | _ => false
theorem own_eq (x : Str) (es : List En) : ((es.map enD).filter (fN x)).map id = (ownL x es).map enD := by
  rw [List.map_id, List.filter_map]
  rfl
theorem able_eq (x : Str) (es : List En) : (((rowsL 7).map rowD).filter (fR (ownL x es))).map id = (ableR x es).map rowD := by
  rw [List.map_id, List.filter_map]
  rfl
def gRow (w : Nat) : PyData → PyData
  | .list ds => ds.getD w .none
  | _ => .none
theorem bs_eq {x : Str} {es : List En} {w : Nat} (hw : w < 7) : ((ableR x es).map rowD).map (gRow w) = (bsAt x es w).map .bool := by
  unfold bsAt
  rw [List.map_map, List.map_map]
  refine List.map_congr_left fun r m => ?_
  have l := (able_mem.mp m).1
  show (r.map PyData.bool).getD w .none = .bool (r.getD w false)
  rw [List.getD_eq_getElem?_getD, List.getD_eq_getElem?_getD, List.getElem?_map, List.getElem?_eq_getElem (by omega)]
  rfl
end K50
set_option maxRecDepth 100000
set_option maxHeartbeats 4000000
namespace K50
open PySem PySem.Spec PyProof.Rows L2 Dv
section
variable {P : Program} {w : World} {K : PySem.W.Frag} {mg : Str → Option Value} {base : Heap} {a : Ads}
def gSl (K : PySem.W.Frag) (sa : Addr) (ns : List Int) (p : Addr) : List Sl := [.sat (scrF K sa ns), .is (.ref p), .val (setsD 7), .no, .no, .no, .no, .no, .no, .no, .no, .no, .no, .no, .no, .no]
def hSl (K : PySem.W.Frag) (sa : Addr) (ns : List Int) (p : Addr) (i k : Nat) (es : List En) : List Sl := [.sat (scrF K sa ns), .is (.ref p), .val (setsD 7), .val (.int (i : Nat)), .val (.int (k : Nat)), .val (logD es), .val (.str (logD es).shown), .no, .no, .no, .no, .no, .no, .no, .no, .no]
noncomputable def jSl (K : PySem.W.Frag) (sa : Addr) (ns : List Int) (p : Addr) (i k : Nat) (es : List En) (x : Str) : List Sl := [.sat (scrF K sa ns), .is (.ref p), .val (setsD 7), .val (.int (i : Nat)), .val (.int (k : Nat)), .val (logD es), .val (.str (logD es).shown), .val (.str x), .val (logD (ownL x es)), .val (.list ((ableR x es).map rowD)), .no, .no, .no, .no, .no, .no]
theorem kn_far {k : Nat} {es : List En} (he : EtOk k es) (x : Str) {i : Int} (h : i < 0 ∨ 6 < i) : kn es x i = "free" := kn_none (fun ⟨s, m, _, e⟩ => by
    obtain ⟨_, b, t, eb, et, bt, t6⟩ := he.2 s m
    omega) (fun ⟨s, m, _, b1, b2⟩ => by
    obtain ⟨_, b, t, eb, et, bt, t6⟩ := he.2 s m
    omega)
theorem kn_ok (es : List En) (x : Str) (w : Int) : PyData.strOk (kn es x w) = true := by
  unfold kn
  split
  · split <;> decide +kernel
  · decide +kernel
theorem ok_law (T : Txt K mg a) : FnG P w K mg base CX0 9 a.a_law a.d_law ["script"] (spLaw K 63) := by
  refine okLaw T.F_law sc_law (fun cd B fr t h e gd rm sa ns hn hS => ?_)
  have gd' : (B.deeper (envOfC "law" (defScope sLaw) t.heap.objs.size a.a_law cd)).guards = some [] := gd
  have hu := room_u rm
  have rm1 : Room 1 (B.deeper (envOfC "law" (defScope sLaw) t.heap.objs.size a.a_law cd)) := rm.mono (by decide)
  have rm3 : Room 3 (B.deeper (envOfC "law" (defScope sLaw) t.heap.objs.size a.a_law cd)) := rm.mono (by decide)
  have big : BIG = 1000000000 := rfl
  have len7 : ((rowsL 7).map rowD).length ≤ 1000000 := by
    rw [List.length_map, rowsL_len]
    decide
  refine hs_scr (i0 := 0) (sa := sa) (ns := ns) rfl (fun z => at_z.mp z) hS ?_
  refine hs_deck (i := 1) (sa := sa) (ns := ns) sc_law.nd rfl (Or.inl rfl) (ok_law_deck T) gd' rm1 (by rfl) T.g_law_deck T.F_law_deck.kp T.b_law_deck (de_scrR (ns := ns) (pv 0) rfl) (fun H k' H' k2 => hS H' (fun b o nz e => k2 b o (fun c => c) (k' b o (fun z => nz z) e))) hn (by omega) (fun p pp qs b => ?_)
  refine hs_set (m := 0) (i := 2) (d := setsD 7) sc_law.nd rfl (Or.inl rfl) (de_callO (m := 0) (PR := (· = setsD 7)) (ok_law_sets T) rm1 (by rfl) T.g_law_sets T.F_law_sets.kp T.b_law_sets (da_cons (m1 := 0) (m2 := 0) de_int da_nil) (fun H vs o => by
    obtain ⟨d, hd, rfl⟩ := allo1 o
    exact ⟨_, hd, rfl, fun d q => q⟩)) (by omega) ?_
  refine hs_for (m := 0) (j := 3) (Ps := fun xs => ∃ i, (1 ≤ i ∧ i ≤ 20) ∧ xs = upto i) (Γ := fun _ _ => gSl K sa ns p) (Ni := fun i => 300 * i) PassesOwn.never rfl
    (di_range (by rfl) T.n_range (ei (Pi := fun i => 1 ≤ i ∧ i ≤ 20) (de_cb (m := 0) (call_max2 rfl) (by rfl) T.n_max (by rfl) (da_cons (m1 := 0) (m2 := 0) de_int (da_cons (m1 := 0) (m2 := 0) (de_cb (m := 0) (call_min2 rfl) (by rfl) T.n_min (by rfl) (da_cons (m1 := 0) (m2 := 0) de_int (da_cons (m1 := 0) (m2 := 0) (de_cb (m := 0) call_len (by rfl) T.n_len (by rfl) (da_cons (de_sat (pv 0) rfl) da_nil) c_lenF) da_nil)) c_min2) da_nil)) c_max2) (by split <;> split <;> omega)) (by intro i q; omega))
    (by omega) (pg_name sc_law.nd rfl (Or.inl rfl)) (fun xs _ => Less.refl _) (by omega) (fun H xs i d hk px hd => ?_) (fun xs px => ?_)
  · obtain ⟨i8, ⟨i1, i2⟩, rfl⟩ := px
    have hil : i < i8.toNat := by
      rw [← upto_len]
      exact (List.getElem?_eq_some_iff.mp hd).1
    rw [upto_get hil] at hd
    cases hd
    have hi20 : i < 20 := by omega
    have b1 := b.sub (H := H)
    refine hs_setP (m := 2) (i := 4) (Pd := fun d => ∃ k : Nat, d = .int k ∧ 1 ≤ k ∧ k ≤ 3) sc_law.nd rfl (Or.inl rfl) (DE.imp (A := intp _ fun i => 1 ≤ i ∧ i ≤ 3) (de_op (m1 := 0) (m2 := 2) op_add (ei (Pi := (· = 1)) de_int rfl) (de_drawI (m := 0) (Pl := (· = 3)) (R := fun i => 0 ≤ i ∧ i < 3) (ok_law_draw T) gd' rm1 (by rfl) T.g_law_draw T.F_law_draw.kp T.b_law_draw b1 (de_is (pv 1) rfl) (ei de_int rfl) (fun l ql => by subst ql; exact ⟨by decide, fun i h0 h1 => ⟨h0, h1⟩⟩)) (o_intp0 fun i j h1 h2 => by omega)) fun H v ⟨d, o, i, e, i0, i1⟩ => ⟨d, o, i.toNat, by rw [e, Int.toNat_of_nonneg (by omega)], by omega, by omega⟩) (by omega) (fun d z => ?_)
    obtain ⟨k, rfl, k1, k3⟩ := z
    refine hs_setP (m := 200) (i := 5) (Pd := fun d => ∃ es, d = logD es ∧ EtOk k es ∧ NoC es) sc_law.nd rfl (Or.inr rfl) (de_callO (m := 200) (L := [dat _ fun d => ∃ es, d = logD es ∧ EtOk k es]) (ok_law_kept T) rm3 (by rfl) T.g_law_kept T.F_law_kept.kp T.b_law_kept (da_cons (m1 := 200) (m2 := 0) (de_drawK (m := 0) (M := 200) (PR := fun d => ∃ es, d = logD es ∧ EtOk k es) (ok_law_entries T) gd' rm3 (by rfl) T.g_law_entries T.F_law_entries.kp T.b_law_entries b1 (de_is (pv 1) rfl) (da_cons (m1 := 0) (m2 := 0) (de_var (pv 4) rfl) (da_cons (m1 := 0) (m2 := 0) de_int (da_cons (m1 := 0) (m2 := 0) de_int da_nil))) (fun H vs o => by
      cases o with
      | cons o1 o =>
        obtain ⟨d2, d3, hd, rfl, rfl⟩ := allo2 (P1 := (· = .int 7)) (P2 := (· = .int 8)) o
        refine ⟨_, .cons (eqd_ok o1) hd, ⟨k, rfl, k1, k3⟩, Nat.le_refl _, ?_⟩
        rintro d ⟨k', es, e, rfl, ok⟩
        simp only [List.cons.injEq, PyData.int.injEq, and_true] at e
        have ek : k' = k := by omega
        subst ek
        exact ⟨es, rfl, ok⟩)) da_nil) (fun H vs o => by
      obtain ⟨v, rfl, d, hd, es, rfl, he⟩ := allo_1 o
      refine ⟨_, .cons hd .nil, ⟨k, es, rfl, he⟩, ?_⟩
      rintro d ⟨es', js, e, rfl, l, sb, nc⟩
      rw [← log_inj (List.cons.inj e).1] at l sb
      exact ⟨js, rfl, et_sub he l sb, nc⟩)) (by omega) (fun d z => ?_)
    obtain ⟨es, rfl, he, nc⟩ := z
    have lk := log_ok he
    have sh := shw_log he
    have ag : Agd es := ⟨lk, nocl_of nc⟩
    have hb : ∀ s ∈ es, s.2.1 ≤ s.2.2 := fun s m => by
      obtain ⟨_, b, t, eb, et, bt, _⟩ := he.2 s m
      omega
    have agr : Agd es.reverse := ⟨⟨fun s m => lk.1 s (List.mem_reverse.mp m), by rw [List.length_reverse]; exact lk.2⟩, nocl_of (noc_rev nc)⟩
    have lenE : (es.map enD).length ≤ 8 := by
      rw [List.length_map]
      exact he.1
    refine hs_set (m := 0) (i := 6) (d := .str (logD es).shown) sc_law.nd rfl (Or.inl rfl) (de_repr gd' hu (by rfl) T.n_repr (de_var (pv 5) rfl) sh.s sh.z sh.p) (by omega) ?_
    refine hs_for (m := 0) (j := 7) (Ps := (· = nm3.map PyData.str)) (Γ := fun _ _ => hSl K sa ns p i k es) (Ni := fun _ => 300 * i + 202) PassesOwn.never rfl
      (di_list (de_list (ds := nm3.map PyData.str) (das_cons (m1 := 0) (m2 := 0) de_str (das_cons (m1 := 0) (m2 := 0) de_str (das_cons (m1 := 0) (m2 := 0) de_str das_nil)))))
      (by omega) (pg_name sc_law.nd rfl (Or.inr rfl)) (fun xs _ => Less.refl _) (by omega) (fun H2 xs s d hk2 px hd => ?_) (fun xs px => ?_)
    · subst px
      obtain ⟨x, mx, rfl⟩ := List.mem_map.mp (List.mem_of_getElem? hd)
      have hx := nm_ok mx
      refine hs_set (m := 0) (i := 8) (d := logD (ownL x es)) sc_law.nd rfl (Or.inr rfl) (DE.to (DE.up (m := 0 + (es.map enD).length * (0 + 0)) (de_lcF (m := 0) (c1 := 0) (c2 := 0) (own := [("entry", 14)]) (f := fN x) (g := id) rfl sc_law.nd (di_list (de_var (pv 5) rfl)) (blkOk_by (N := NL) (sc := defScope sLaw) (by decide +kernel)) (j := 14) rfl (by decide) (by omega) (fun _ _ _ _ _ => pg_name sc_law.nd rfl (Or.inl rfl))
        (fun s' H C cl fp D φ d nD dm => by
          obtain ⟨en, _, rfl⟩ := List.mem_map.mp dm
          exact dt_cmp (m1 := 0) (m2 := 0) op_eq (de_tix (m := 0) (m1 := 0) (d := .str en.1) (ds := [.str en.1, .int en.2.1, .int en.2.2]) (de_var (pv 14) rfl) de_int rfl) (de_var (pv 7) rfl) o_eqS (nomark _)) (fun s' H C cl fp D φ d nD dm _ => de_var (pv 14) rfl)) (by omega)) (by unfold logD; rw [own_eq])) (by omega) ?_
      refine hs_setLcF (iy := 9) (own := [("row", 15)]) (xs := (rowsL 7).map rowD) (f := fR (ownL x es)) (g := id) rfl rfl (sw_true rfl rfl rfl (by decide +kernel)) rfl sc_law.nd (di_list (de_var (pv 2) rfl)) (blkOk_by (N := NL) (sc := defScope sLaw) (by decide +kernel)) (j := 15) rfl (by decide) len7 (fun _ _ _ _ _ => pg_name sc_law.nd rfl (Or.inl rfl))
        (fun s' H C cl fp D φ d nD dm => by
          obtain ⟨r, mr, rfl⟩ := List.mem_map.mp dm
          exact dt_val (de_callO (m := 0) (PR := (· = .bool (fR (ownL x es) (rowD r)))) (ok_law_agrees T) rm1 (by rfl) T.g_law_agrees T.F_law_agrees.kp T.b_law_agrees (da_cons (m1 := 0) (m2 := 0) (de_var (pv 15) rfl) (da_cons (m1 := 0) (m2 := 0) (de_var (pv 8) rfl) da_nil)) (fun H vs o => by
            obtain ⟨d1, d2, hd, rfl, rfl⟩ := allo2 (P1 := (· = rowD r)) (P2 := (· = logD (ownL x es))) o
            refine ⟨_, hd, ⟨r, ownL x es, rfl, rowsL_of 7 r mr, ?_, fun s m => (he.2 s (List.mem_filter.mp m).1).2⟩, ?_⟩
            · exact Nat.le_trans (List.length_filter_le _ _) (Nat.le_trans he.1 (by decide))
            · rintro d ⟨r', es', v', e, rfl, hv⟩
              simp only [List.cons.injEq, and_true] at e
              rw [← row_inj e.1, ← log_inj e.2, ← fR_iff] at hv
              exact congrArg PyData.bool (Bool.eq_iff_iff.mpr hv)))) (fun s' H C cl fp D φ d nD dm _ => de_var (pv 15) rfl) (by omega) ?_
      rw [able_eq]
      refine hs_for (m := 0) (j := 10) (Ps := (· = upto 7)) (Γ := fun _ _ => jSl K sa ns p i k es x) (Ni := fun _ => 300 * i + 202) PassesOwn.never rfl
        (DI.to (di_range (by rfl) T.n_range (ei (Pi := (· = 7)) de_int rfl) (by rintro j rfl; decide)) (by rintro xs ⟨i, rfl, e⟩; exact e)) (by omega) (pg_name sc_law.nd rfl (Or.inr rfl)) (fun xs _ => Less.refl _) (by omega) (fun H3 xs wn d hk3 px hd => ?_) (fun xs px => ?_)
      · subst px
        have hw : wn < 7 := by
          have := (List.getElem?_eq_some_iff.mp hd).1
          rw [upto_len] at this
          exact this
        rw [upto_get hw] at hd
        cases hd
        obtain ⟨h3, hdue⟩ := due_kn (x := x) he nc hw
        have lenA : ((ableR x es).map rowD).length ≤ 128 := by
          rw [List.length_map]
          unfold ableR
          refine Nat.le_trans (List.length_filter_le _ _) ?_
          rw [rowsL_len]
          decide
        have lenB : (bsAt x es wn).length ≤ 4000 := by
          unfold bsAt
          rw [List.length_map]
          rw [List.length_map] at lenA
          omega
        refine hs_set (m := 0) (i := 11) (d := .list ((sB (bsAt x es wn)).map .bool)) sc_law.nd rfl (Or.inl rfl) (de_sortB (bs := bsAt x es wn) rfl (by rfl) T.n_sorted (by rfl) T.n_set (DE.to (DE.up (m := 0 + ((ableR x es).map rowD).length * (0 + 0)) (de_lcM (c2 := 0) (own := [("row", 15)]) (g := gRow wn) rfl sc_law.nd (di_list (de_var (pv 9) rfl)) (blkOk_by (N := NL) (sc := defScope sLaw) (by decide +kernel)) (j := 15) rfl (by decide) (by omega) (fun _ _ _ _ _ => pg_name sc_law.nd rfl (Or.inl rfl)) (fun s H C cl fp D φ d nD dm => by
            obtain ⟨r, mr, rfl⟩ := List.mem_map.mp dm
            have lr := (able_mem.mp mr).1
            refine de_lix (m := 0) (m1 := 0) (ds := r.map .bool) (de_var (pv 15) rfl) (de_var (pv 10) rfl) ?_
            rw [row_at (by omega)]
            show some (PyData.bool r[wn]) = some ((r.map PyData.bool).getD wn .none)
            rw [List.getD_eq_getElem?_getD, List.getElem?_map, List.getElem?_eq_getElem (by omega)]
            rfl)) (by omega)) (by rw [bs_eq hw])) lenB) (by omega) ?_
        refine hs_set (m := 0) (i := 12) (d := .str (kn es x (wn : Nat))) sc_law.nd rfl (Or.inl rfl) ?_ (by omega) ?_
        · rw [← hdue]
          rcases h3 with h3 | h3 | h3
          · rw [h3]
            refine de_if (m1 := 0) (m2 := 0) (m3 := 0) (P := (· = false)) (DT.imp (dt_cmp (m1 := 0) (m2 := 0) op_eq (de_len (m := 0) (k := 1) (by rfl) T.n_len (de_var (pv 11) rfl) rfl) de_int o_eqI (nomark _)) fun b hb => by rw [hb]; rfl) (fun c => absurd c (by decide)) (fun _ => ?_)
            exact de_lix (m := 0) (m1 := 0) (ds := [.str "closed", .str "open"]) (i := 1) (de_list (das_cons (m1 := 0) (m2 := 0) de_str (das_cons (m1 := 0) (m2 := 0) de_str das_nil))) (DE.imp (de_intB (m := 0) (P := (· = true)) (by rfl) T.n_int (de_bol (de_lix (m := 0) (m1 := 0) (ds := [.bool true]) (de_var (pv 11) rfl) de_int rfl))) fun H v ⟨d, o, j, e1, bb, e2, e3⟩ => ⟨d, o, by rw [e1, e3, e2]; rfl⟩) rfl
          · rw [h3]
            refine de_if (m1 := 0) (m2 := 0) (m3 := 0) (P := (· = false)) (DT.imp (dt_cmp (m1 := 0) (m2 := 0) op_eq (de_len (m := 0) (k := 1) (by rfl) T.n_len (de_var (pv 11) rfl) rfl) de_int o_eqI (nomark _)) fun b hb => by rw [hb]; rfl) (fun c => absurd c (by decide)) (fun _ => ?_)
            exact de_lix (m := 0) (m1 := 0) (ds := [.str "closed", .str "open"]) (i := 0) (de_list (das_cons (m1 := 0) (m2 := 0) de_str (das_cons (m1 := 0) (m2 := 0) de_str das_nil))) (DE.imp (de_intB (m := 0) (P := (· = false)) (by rfl) T.n_int (de_bol (de_lix (m := 0) (m1 := 0) (ds := [.bool false]) (de_var (pv 11) rfl) de_int rfl))) fun H v ⟨d, o, j, e1, bb, e2, e3⟩ => ⟨d, o, by rw [e1, e3, e2]; rfl⟩) rfl
          · rw [h3]
            exact de_if (m1 := 0) (m2 := 0) (m3 := 0) (P := (· = true)) (DT.imp (dt_cmp (m1 := 0) (m2 := 0) op_eq (de_len (m := 0) (k := 2) (by rfl) T.n_len (de_var (pv 11) rfl) rfl) de_int o_eqI (nomark _)) fun b hb => by rw [hb]; rfl) (fun _ => de_str) (fun c => absurd c (by decide))
        · have ok2 : ∀ y ∈ [kn es x (wn : Nat), kn es x (wn : Nat)], PyData.strOk y = true := fun y m => by
            simp only [List.mem_cons, List.not_mem_nil, or_false, or_self] at m
            rw [m]
            exact kn_ok es x _
          have shp := shaped_strs ok2
          refine hs_set (m := 0) (i := 13) (d := .list ([kn es x (wn : Nat), kn es x (wn : Nat)].map .str)) sc_law.nd rfl (Or.inl rfl) (de_list (das_cons (m1 := 0) (m2 := 0) (de_kn T rm (by rfl) (de_var (pv 5) rfl) (de_var (pv 7) rfl) (de_var (pv 10) rfl) ag hx) (das_cons (m1 := 0) (m2 := 0) (DE.to (de_knK (es := es.reverse) (x := x) (i := (wn : Nat)) T gd' rm (by rfl) (de_var (pv 10) rfl) (de_var (pv 7) rfl) (DE.to (de_revL (xs := es.map enD) (de_var (pv 5) rfl)) (by unfold logD; rw [List.map_reverse])) agr hx) (by rw [kn_rev nc hb])) das_nil))) (by omega) ?_
          refine hs_guard (m := 0) (P := (· = false)) (DT.imp (dt_cmp (m1 := 0) (m2 := 0) (op_neD hu) (de_var (pv 13) rfl) (de_list (ds := [kn es x (wn : Nat), kn es x (wn : Nat)].map .str) (das_cons (m1 := 0) (m2 := 0) (de_var (pv 12) rfl) (das_cons (m1 := 0) (m2 := 0) (de_var (pv 12) rfl) das_nil))) (o_ne shp shp) (nomark _)) fun b hb => by rw [hb]; exact congrArg not ((eqv_strs _ _).trans (decide_eq_true rfl))) (by omega) (fun c => absurd c (by decide)) (fun _ => hs_nil fun σ H k' => ?_)
          exact k'.less (.same (.same (.same (.same (.same (.same (.same (.same (.same (.same (.no (.no (.no (.no (.same (.same .nil))))))))))))))))
      · subst px
        have okf : ∀ y ∈ [("free" : Str), "free", "free", "free"], PyData.strOk y = true := by decide +kernel
        have shp := shaped_strs okf
        refine hs_guard (m := 0) (P := (· = false)) (DT.imp (dt_cmp (m1 := 0) (m2 := 0) (op_neD hu) (DE.up (m := 0 + 4 * (0 + 0)) (de_lcM (c2 := 0) (own := [("when", 10)]) (xs := [.int (-1), .int (-1000000000000000000000000000000), .int 7, .int 1000000000000000000000000000000]) (g := fun _ => .str "free") rfl sc_law.nd
          (di_tup (de_tupl (das_cons (m1 := 0) (m2 := 0) (de_neg de_int) (das_cons (m1 := 0) (m2 := 0) (de_neg (de_pow (z := 1000000000000000000000000000000) ⟨by decide, by decide, by decide +kernel⟩ (by decide +kernel))) (das_cons (m1 := 0) (m2 := 0) de_int (das_cons (m1 := 0) (m2 := 0) (de_pow (z := 1000000000000000000000000000000) ⟨by decide, by decide, by decide +kernel⟩ (by decide +kernel)) das_nil))))))
          (blkOk_by (N := NL) (sc := defScope sLaw) (by decide +kernel)) (j := 10) rfl (by decide) (by decide) (fun _ _ _ _ _ => pg_name sc_law.nd rfl (Or.inl rfl)) (fun s H C cl fp D φ d nD dm => ?_)) (by omega)) (de_op (m1 := 0) (m2 := 0) op_rep (de_list (ds := [.str "free"]) (das_cons (m1 := 0) (m2 := 0) de_str das_nil)) de_int (o_rep (by decide) (by decide) (by decide))) (o_ne shp shp) (nomark _)) fun b hb => by rw [hb]; exact congrArg not ((eqv_strs ["free", "free", "free", "free"] ["free", "free", "free", "free"]).trans (decide_eq_true rfl))) (by omega) (fun c => absurd c (by decide)) (fun _ => hs_nil fun σ H k' => ?_)
        · simp only [List.mem_cons, List.not_mem_nil, or_false] at dm
          have far : ∃ j : Int, d = .int j ∧ (j < 0 ∨ 6 < j) := by
            rcases dm with rfl | rfl | rfl | rfl
            · exact ⟨_, rfl, by decide⟩
            · exact ⟨_, rfl, by decide⟩
            · exact ⟨_, rfl, by decide⟩
            · exact ⟨_, rfl, by decide⟩
          obtain ⟨j, rfl, fj⟩ := far
          exact DE.to (de_kn T rm (by rfl) (de_var (pv 5) rfl) (de_var (pv 7) rfl) (de_var (pv 10) rfl) ag hx) (congrArg PyData.str (kn_far he x fj))
        · exact k'.less (.same (.same (.same (.same (.same (.same (.same (.no (.no (.no (.same (.same (.same (.same (.same (.same .nil))))))))))))))))
    · subst px
      refine hs_guard (m := 2) (P := (· = false)) (PW.pt (dt_or (m1 := 2) (m2 := 0) (P1 := (· = false)) (DT.imp (dt_cmp (m1 := 2) (m2 := 0) op_ne (DE.imp (de_callO (m := 2) (L := [eqd _ (logD es), eqd _ (.str "zz"), intp _ fun i => 0 ≤ i ∧ i < 7]) (PR := (· = .str "free")) (ok_known_state T) rm (by rfl) T.g_known_state T.F_known_state.kp T.b_known_state
          (da_cons (m1 := 0) (m2 := 2) (de_var (pv 5) rfl) (da_cons (m1 := 0) (m2 := 2) de_str (da_cons (m1 := 2) (m2 := 0) (de_drawI (m := 0) (Pl := (· = 7)) (R := fun i => 0 ≤ i ∧ i < 7) (ok_law_draw T) gd' rm1 (by rfl) T.g_law_draw T.F_law_draw.kp T.b_law_draw b1 (de_is (pv 1) rfl) (ei de_int rfl) (fun l ql => by subst ql; exact ⟨by decide, fun i h0 h1 => ⟨h0, h1⟩⟩)) da_nil))) (fun H vs o => ?_)) fun H v o => o) de_str o_neS (nomark _)) fun b hb => by rw [hb]; decide)
        (fun _ => dt_or1 (DT.imp (dt_cmp (m1 := 0) (m2 := 0) op_ne (de_repr gd' hu (by rfl) T.n_repr (de_var (pv 5) rfl) sh.s sh.z sh.p) (de_var (pv 6) rfl) o_neS (nomark _)) fun b hb => by rw [hb]; simp)) (fun c => absurd c (by decide)))) (by omega) (fun c => absurd c (by decide)) (fun _ => hs_nil fun σ H k' => ?_)
      · cases o with
        | cons o1 o =>
          cases o with
          | cons o2 o =>
            obtain ⟨v, rfl, d, hd, j, rfl, _⟩ := allo_1 o
            refine ⟨_, .cons (eqd_ok o1) (.cons (eqd_ok o2) (.cons hd .nil)), ⟨es, "zz", j, rfl, ag, by decide +kernel, by decide⟩, fun d q => ?_⟩
            rw [kn_in (ds := []) q]
            have nz : ∀ s ∈ es, s.1 ≠ "zz" := fun s m e => by
              have := List.mem_of_mem_take (he.2 s m).1
              rw [e] at this
              revert this
              decide +kernel
            exact congrArg PyData.str (kn_none (fun ⟨s, m, e, _⟩ => nz s m e) (fun ⟨s, m, e, _⟩ => nz s m e))
      · exact (k'.less (.same (.same (.same (.no (.no (.no (.no (.same (.same (.same (.same (.same (.same (.same (.same (.same .nil))))))))))))))))).up (by show 300 * i + 202 + 2 ≤ 300 * (i + 1); omega)
  · have bg : 300 * xs.length ≤ BIG := by
      obtain ⟨i, q, rfl⟩ := px
      rw [upto_len]
      omega
    have nc0 : NoC [(("ny" : Str), (-1000000000000000000000000000000 : Int), (1000000000000000000000000000000 : Int))] := fun s m s' m' => by
      cases List.mem_singleton.mp m
      cases List.mem_singleton.mp m'
      exact clB_same rfl
    have ag0 : Agd [(("ny" : Str), (-1000000000000000000000000000000 : Int), (1000000000000000000000000000000 : Int))] := ⟨⟨fun s m => by
      cases List.mem_singleton.mp m
      exact ⟨nm_ok (by decide +kernel), by decide⟩, by decide⟩, nocl_of nc0⟩
    refine hs_ret (m := 0) (A := bol _ (· = true)) (DE.imp (de_cmp (m1 := 0) (m2 := 0) op_eq (de_kn T rm (by rfl) (DE.to (de_list (ds := [enD (("ny" : Str), (-1000000000000000000000000000000 : Int), (1000000000000000000000000000000 : Int))]) (das_cons (m1 := 0) (m2 := 0) (de_tupl (das_cons (m1 := 0) (m2 := 0) de_str (das_cons (m1 := 0) (m2 := 0) (de_neg (de_pow (z := 1000000000000000000000000000000) ⟨by decide, by decide, by decide +kernel⟩ (by decide +kernel))) (das_cons (m1 := 0) (m2 := 0) (de_pow (z := 1000000000000000000000000000000) ⟨by decide, by decide, by decide +kernel⟩ (by decide +kernel)) das_nil)))) das_nil)) rfl) de_str de_int ag0 (nm_ok (by decide +kernel))) de_str o_eqS (nomark _)) fun H u ⟨b, e, hb⟩ => ⟨b, e, by rw [hb, kn_closed nc0 ⟨_, List.mem_singleton.mpr rfl, rfl, by decide, by decide⟩]; decide⟩) bg (fun v σ H k o => ?_)
    obtain ⟨b, rfl, rfl⟩ := o
    rfl
end
end K50
set_option maxRecDepth 100000
set_option maxHeartbeats 4000000
namespace K50
open PySem PySem.Spec PyProof.Rows L2 Dv
theorem txt_mk {P : Program} {w : World} {K : PySem.W.Frag} {h : Heap} {mg : Str → Option Value} (X : K.In h) (G : h.Ns mainGlobals mg)
    {f0 : Addr} {od0 an0 : Option Addr} {sl0 : Array (Option Value)} {oc0 kV0 dc0 pm0 cd0 ct0 : Value}
    (a0 : PySem.W.nsIn K mainGlobals "is_integer" = some (some (.ref f0))) (l0 : K.lookup f0 = some ⟨oc0, od0, .func (PySem.W.fnOf "is_integer" "is_integer" (defArgs sIsInteger) (defBody sIsInteger) (defScope sIsInteger) .none kV0 dc0 pm0 an0 cd0 ct0), sl0⟩) (c0 : PySem.W.codeIn K cd0 "is_integer" = true) (k0 : PySem.W.keepIn K (.ref f0) = true)
    {f1 : Addr} {od1 an1 : Option Addr} {sl1 : Array (Option Value)} {oc1 kV1 dc1 pm1 cd1 ct1 : Value}
    (a1 : PySem.W.nsIn K mainGlobals "check_day" = some (some (.ref f1))) (l1 : K.lookup f1 = some ⟨oc1, od1, .func (PySem.W.fnOf "check_day" "check_day" (defArgs sCheckDay) (defBody sCheckDay) (defScope sCheckDay) .none kV1 dc1 pm1 an1 cd1 ct1), sl1⟩) (c1 : PySem.W.codeIn K cd1 "check_day" = true) (k1 : PySem.W.keepIn K (.ref f1) = true)
    {f2 : Addr} {od2 an2 : Option Addr} {sl2 : Array (Option Value)} {oc2 kV2 dc2 pm2 cd2 ct2 : Value}
    (a2 : PySem.W.nsIn K mainGlobals "is_office" = some (some (.ref f2))) (l2 : K.lookup f2 = some ⟨oc2, od2, .func (PySem.W.fnOf "is_office" "is_office" (defArgs sIsOffice) (defBody sIsOffice) (defScope sIsOffice) .none kV2 dc2 pm2 an2 cd2 ct2), sl2⟩) (c2 : PySem.W.codeIn K cd2 "is_office" = true) (k2 : PySem.W.keepIn K (.ref f2) = true)
    {f3 : Addr} {od3 an3 : Option Addr} {sl3 : Array (Option Value)} {oc3 kV3 dc3 pm3 cd3 ct3 : Value}
    (a3 : PySem.W.nsIn K mainGlobals "find_clash" = some (some (.ref f3))) (l3 : K.lookup f3 = some ⟨oc3, od3, .func (PySem.W.fnOf "find_clash" "find_clash" (defArgs sFindClash) (defBody sFindClash) (defScope sFindClash) .none kV3 dc3 pm3 an3 cd3 ct3), sl3⟩) (c3 : PySem.W.codeIn K cd3 "find_clash" = true) (k3 : PySem.W.keepIn K (.ref f3) = true)
    {f4 : Addr} {od4 an4 : Option Addr} {sl4 : Array (Option Value)} {oc4 kV4 dc4 pm4 cd4 ct4 : Value}
    (a4 : PySem.W.nsIn K mainGlobals "known_state" = some (some (.ref f4))) (l4 : K.lookup f4 = some ⟨oc4, od4, .func (PySem.W.fnOf "known_state" "known_state" (defArgs sKnownState) (defBody sKnownState) (defScope sKnownState) .none kV4 dc4 pm4 an4 cd4 ct4), sl4⟩) (c4 : PySem.W.codeIn K cd4 "known_state" = true) (k4 : PySem.W.keepIn K (.ref f4) = true)
    {f5 : Addr} {od5 an5 : Option Addr} {sl5 : Array (Option Value)} {oc5 kV5 dc5 pm5 cd5 ct5 : Value}
    (a5 : PySem.W.nsIn K mainGlobals "_is_log" = some (some (.ref f5))) (l5 : K.lookup f5 = some ⟨oc5, od5, .func (PySem.W.fnOf "_is_log" "_is_log" (defArgs sIsLog) (defBody sIsLog) (defScope sIsLog) .none kV5 dc5 pm5 an5 cd5 ct5), sl5⟩) (c5 : PySem.W.codeIn K cd5 "_is_log" = true) (k5 : PySem.W.keepIn K (.ref f5) = true)
    {f6 : Addr} {od6 an6 : Option Addr} {sl6 : Array (Option Value)} {oc6 kV6 dc6 pm6 cd6 ct6 : Value}
    (a6 : PySem.W.nsIn K mainGlobals "_is_entry" = some (some (.ref f6))) (l6 : K.lookup f6 = some ⟨oc6, od6, .func (PySem.W.fnOf "_is_entry" "_is_entry" (defArgs sIsEntry) (defBody sIsEntry) (defScope sIsEntry) .none kV6 dc6 pm6 an6 cd6 ct6), sl6⟩) (c6 : PySem.W.codeIn K cd6 "_is_entry" = true) (k6 : PySem.W.keepIn K (.ref f6) = true)
    {f7 : Addr} {od7 an7 : Option Addr} {sl7 : Array (Option Value)} {oc7 kV7 dc7 pm7 cd7 ct7 : Value}
    (a7 : PySem.W.nsIn K mainGlobals "_check_log" = some (some (.ref f7))) (l7 : K.lookup f7 = some ⟨oc7, od7, .func (PySem.W.fnOf "_check_log" "_check_log" (defArgs sCheckLog) (defBody sCheckLog) (defScope sCheckLog) .none kV7 dc7 pm7 an7 cd7 ct7), sl7⟩) (c7 : PySem.W.codeIn K cd7 "_check_log" = true) (k7 : PySem.W.keepIn K (.ref f7) = true)
    {f8 : Addr} {od8 an8 : Option Addr} {sl8 : Array (Option Value)} {oc8 kV8 dc8 pm8 cd8 ct8 : Value}
    (a8 : PySem.W.nsIn K mainGlobals "_check_agreed" = some (some (.ref f8))) (l8 : K.lookup f8 = some ⟨oc8, od8, .func (PySem.W.fnOf "_check_agreed" "_check_agreed" (defArgs sCheckAgreed) (defBody sCheckAgreed) (defScope sCheckAgreed) .none kV8 dc8 pm8 an8 cd8 ct8), sl8⟩) (c8 : PySem.W.codeIn K cd8 "_check_agreed" = true) (k8 : PySem.W.keepIn K (.ref f8) = true)
    {f9 : Addr} {od9 an9 : Option Addr} {sl9 : Array (Option Value)} {oc9 kV9 dc9 pm9 cd9 ct9 : Value}
    (a9 : PySem.W.nsIn K mainGlobals "_clash" = some (some (.ref f9))) (l9 : K.lookup f9 = some ⟨oc9, od9, .func (PySem.W.fnOf "_clash" "_clash" (defArgs sClash) (defBody sClash) (defScope sClash) .none kV9 dc9 pm9 an9 cd9 ct9), sl9⟩) (c9 : PySem.W.codeIn K cd9 "_clash" = true) (k9 : PySem.W.keepIn K (.ref f9) = true)
    {f10 : Addr} {od10 an10 : Option Addr} {sl10 : Array (Option Value)} {oc10 kV10 dc10 pm10 cd10 ct10 : Value}
    (a10 : PySem.W.nsIn K mainGlobals "_law_deck" = some (some (.ref f10))) (l10 : K.lookup f10 = some ⟨oc10, od10, .func (PySem.W.fnOf "_law_deck" "_law_deck" (defArgs sLawDeck) (defBody sLawDeck) (defScope sLawDeck) .none kV10 dc10 pm10 an10 cd10 ct10), sl10⟩) (c10 : PySem.W.codeIn K cd10 "_law_deck" = true) (k10 : PySem.W.keepIn K (.ref f10) = true)
    {f11 : Addr} {od11 an11 : Option Addr} {sl11 : Array (Option Value)} {oc11 kV11 dc11 pm11 cd11 ct11 : Value}
    (a11 : PySem.W.nsIn K mainGlobals "_law_draw" = some (some (.ref f11))) (l11 : K.lookup f11 = some ⟨oc11, od11, .func (PySem.W.fnOf "_law_draw" "_law_draw" (defArgs sLawDraw) (defBody sLawDraw) (defScope sLawDraw) .none kV11 dc11 pm11 an11 cd11 ct11), sl11⟩) (c11 : PySem.W.codeIn K cd11 "_law_draw" = true) (k11 : PySem.W.keepIn K (.ref f11) = true)
    {f12 : Addr} {od12 an12 : Option Addr} {sl12 : Array (Option Value)} {oc12 kV12 dc12 pm12 cd12 ct12 : Value}
    (a12 : PySem.W.nsIn K mainGlobals "_law_closes" = some (some (.ref f12))) (l12 : K.lookup f12 = some ⟨oc12, od12, .func (PySem.W.fnOf "_law_closes" "_law_closes" (defArgs sLawCloses) (defBody sLawCloses) (defScope sLawCloses) .none kV12 dc12 pm12 an12 cd12 ct12), sl12⟩) (c12 : PySem.W.codeIn K cd12 "_law_closes" = true) (k12 : PySem.W.keepIn K (.ref f12) = true)
    {f13 : Addr} {od13 an13 : Option Addr} {sl13 : Array (Option Value)} {oc13 kV13 dc13 pm13 cd13 ct13 : Value}
    (a13 : PySem.W.nsIn K mainGlobals "_law_first_clash" = some (some (.ref f13))) (l13 : K.lookup f13 = some ⟨oc13, od13, .func (PySem.W.fnOf "_law_first_clash" "_law_first_clash" (defArgs sLawFirstClash) (defBody sLawFirstClash) (defScope sLawFirstClash) .none kV13 dc13 pm13 an13 cd13 ct13), sl13⟩) (c13 : PySem.W.codeIn K cd13 "_law_first_clash" = true) (k13 : PySem.W.keepIn K (.ref f13) = true)
    {f14 : Addr} {od14 an14 : Option Addr} {sl14 : Array (Option Value)} {oc14 kV14 dc14 pm14 cd14 ct14 : Value}
    (a14 : PySem.W.nsIn K mainGlobals "_law_sets" = some (some (.ref f14))) (l14 : K.lookup f14 = some ⟨oc14, od14, .func (PySem.W.fnOf "_law_sets" "_law_sets" (defArgs sLawSets) (defBody sLawSets) (defScope sLawSets) .none kV14 dc14 pm14 an14 cd14 ct14), sl14⟩) (c14 : PySem.W.codeIn K cd14 "_law_sets" = true) (k14 : PySem.W.keepIn K (.ref f14) = true)
    {f15 : Addr} {od15 an15 : Option Addr} {sl15 : Array (Option Value)} {oc15 kV15 dc15 pm15 cd15 ct15 : Value}
    (a15 : PySem.W.nsIn K mainGlobals "_law_agrees" = some (some (.ref f15))) (l15 : K.lookup f15 = some ⟨oc15, od15, .func (PySem.W.fnOf "_law_agrees" "_law_agrees" (defArgs sLawAgrees) (defBody sLawAgrees) (defScope sLawAgrees) .none kV15 dc15 pm15 an15 cd15 ct15), sl15⟩) (c15 : PySem.W.codeIn K cd15 "_law_agrees" = true) (k15 : PySem.W.keepIn K (.ref f15) = true)
    {f16 : Addr} {od16 an16 : Option Addr} {sl16 : Array (Option Value)} {oc16 kV16 dc16 pm16 cd16 ct16 : Value}
    (a16 : PySem.W.nsIn K mainGlobals "_law_some_days" = some (some (.ref f16))) (l16 : K.lookup f16 = some ⟨oc16, od16, .func (PySem.W.fnOf "_law_some_days" "_law_some_days" (defArgs sLawSomeDays) (defBody sLawSomeDays) (defScope sLawSomeDays) .none kV16 dc16 pm16 an16 cd16 ct16), sl16⟩) (c16 : PySem.W.codeIn K cd16 "_law_some_days" = true) (k16 : PySem.W.keepIn K (.ref f16) = true)
    {f17 : Addr} {od17 an17 : Option Addr} {sl17 : Array (Option Value)} {oc17 kV17 dc17 pm17 cd17 ct17 : Value}
    (a17 : PySem.W.nsIn K mainGlobals "_law_entries" = some (some (.ref f17))) (l17 : K.lookup f17 = some ⟨oc17, od17, .func (PySem.W.fnOf "_law_entries" "_law_entries" (defArgs sLawEntries) (defBody sLawEntries) (defScope sLawEntries) .none kV17 dc17 pm17 an17 cd17 ct17), sl17⟩) (c17 : PySem.W.codeIn K cd17 "_law_entries" = true) (k17 : PySem.W.keepIn K (.ref f17) = true)
    {f18 : Addr} {od18 an18 : Option Addr} {sl18 : Array (Option Value)} {oc18 kV18 dc18 pm18 cd18 ct18 : Value}
    (a18 : PySem.W.nsIn K mainGlobals "_law_kept" = some (some (.ref f18))) (l18 : K.lookup f18 = some ⟨oc18, od18, .func (PySem.W.fnOf "_law_kept" "_law_kept" (defArgs sLawKept) (defBody sLawKept) (defScope sLawKept) .none kV18 dc18 pm18 an18 cd18 ct18), sl18⟩) (c18 : PySem.W.codeIn K cd18 "_law_kept" = true) (k18 : PySem.W.keepIn K (.ref f18) = true)
    {f19 : Addr} {od19 an19 : Option Addr} {sl19 : Array (Option Value)} {oc19 kV19 dc19 pm19 cd19 ct19 : Value}
    (a19 : PySem.W.nsIn K mainGlobals "law" = some (some (.ref f19))) (l19 : K.lookup f19 = some ⟨oc19, od19, .func (PySem.W.fnOf "law" "law" (defArgs sLaw) (defBody sLaw) (defScope sLaw) .none kV19 dc19 pm19 an19 cd19 ct19), sl19⟩) (c19 : PySem.W.codeIn K cd19 "law" = true) (k19 : PySem.W.keepIn K (.ref f19) = true)
    {t_SMALL_LETTERS : Tok} (x_SMALL_LETTERS : PySem.W.nsIn K mainGlobals "SMALL_LETTERS" = some (some (.str "abcdefghijklmnopqrstuvwxyz" t_SMALL_LETTERS)))
    (z_ValueError : PySem.W.nsIn K mainGlobals "ValueError" = some none)
    (z_all : PySem.W.nsIn K mainGlobals "all" = some none)
    (z_bool : PySem.W.nsIn K mainGlobals "bool" = some none)
    (z_int : PySem.W.nsIn K mainGlobals "int" = some none)
    (z_isinstance : PySem.W.nsIn K mainGlobals "isinstance" = some none)
    (z_len : PySem.W.nsIn K mainGlobals "len" = some none)
    (z_list : PySem.W.nsIn K mainGlobals "list" = some none)
    (z_max : PySem.W.nsIn K mainGlobals "max" = some none)
    (z_min : PySem.W.nsIn K mainGlobals "min" = some none)
    (z_range : PySem.W.nsIn K mainGlobals "range" = some none)
    (z_repr : PySem.W.nsIn K mainGlobals "repr" = some none)
    (z_set : PySem.W.nsIn K mainGlobals "set" = some none)
    (z_sorted : PySem.W.nsIn K mainGlobals "sorted" = some none)
    (z_str : PySem.W.nsIn K mainGlobals "str" = some none)
    (z_super : PySem.W.nsIn K mainGlobals "super" = some none)
    (z_tuple : PySem.W.nsIn K mainGlobals "tuple" = some none) :
    ∃ a : Ads, a.a_law = f19 ∧ Txt K mg a ∧ (∀ (s : Shared) (u : Value), BindsTo s a.d_law ⟨[u], []⟩ [("script", u)]) := by
  have F0 := fun_mk (st := sIsInteger) l0 c0 k0
  have B0 := F0.binds (ps := ["value"]) fun _ _ _ _ _ _ us hl => match us, hl with | [_], _ => rfl
  have F1 := fun_mk (st := sCheckDay) l1 c1 k1
  have B1 := F1.binds (ps := ["value"]) fun _ _ _ _ _ _ us hl => match us, hl with | [_], _ => rfl
  have F2 := fun_mk (st := sIsOffice) l2 c2 k2
  have B2 := F2.binds (ps := ["value"]) fun _ _ _ _ _ _ us hl => match us, hl with | [_], _ => rfl
  have F3 := fun_mk (st := sFindClash) l3 c3 k3
  have B3 := F3.binds (ps := ["log"]) fun _ _ _ _ _ _ us hl => match us, hl with | [_], _ => rfl
  have F4 := fun_mk (st := sKnownState) l4 c4 k4
  have B4 := F4.binds (ps := ["log", "office", "day"]) fun _ _ _ _ _ _ us hl => match us, hl with | [_, _, _], _ => rfl
  have F5 := fun_mk (st := sIsLog) l5 c5 k5
  have B5 := F5.binds (ps := ["value"]) fun _ _ _ _ _ _ us hl => match us, hl with | [_], _ => rfl
  have F6 := fun_mk (st := sIsEntry) l6 c6 k6
  have B6 := F6.binds (ps := ["value"]) fun _ _ _ _ _ _ us hl => match us, hl with | [_], _ => rfl
  have F7 := fun_mk (st := sCheckLog) l7 c7 k7
  have B7 := F7.binds (ps := ["value"]) fun _ _ _ _ _ _ us hl => match us, hl with | [_], _ => rfl
  have F8 := fun_mk (st := sCheckAgreed) l8 c8 k8
  have B8 := F8.binds (ps := ["value"]) fun _ _ _ _ _ _ us hl => match us, hl with | [_], _ => rfl
  have F9 := fun_mk (st := sClash) l9 c9 k9
  have B9 := F9.binds (ps := ["entry", "other"]) fun _ _ _ _ _ _ us hl => match us, hl with | [_, _], _ => rfl
  have F10 := fun_mk (st := sLawDeck) l10 c10 k10
  have B10 := F10.binds (ps := ["script"]) fun _ _ _ _ _ _ us hl => match us, hl with | [_], _ => rfl
  have F11 := fun_mk (st := sLawDraw) l11 c11 k11
  have B11 := F11.binds (ps := ["deck", "many"]) fun _ _ _ _ _ _ us hl => match us, hl with | [_, _], _ => rfl
  have F12 := fun_mk (st := sLawCloses) l12 c12 k12
  have B12 := F12.binds (ps := ["entry", "when"]) fun _ _ _ _ _ _ us hl => match us, hl with | [_, _], _ => rfl
  have F13 := fun_mk (st := sLawFirstClash) l13 c13 k13
  have B13 := F13.binds (ps := ["entries"]) fun _ _ _ _ _ _ us hl => match us, hl with | [_], _ => rfl
  have F14 := fun_mk (st := sLawSets) l14 c14 k14
  have B14 := F14.binds (ps := ["size"]) fun _ _ _ _ _ _ us hl => match us, hl with | [_], _ => rfl
  have F15 := fun_mk (st := sLawAgrees) l15 c15 k15
  have B15 := F15.binds (ps := ["row", "entries"]) fun _ _ _ _ _ _ us hl => match us, hl with | [_, _], _ => rfl
  have F16 := fun_mk (st := sLawSomeDays) l16 c16 k16
  have B16 := F16.binds (ps := ["deck", "size"]) fun _ _ _ _ _ _ us hl => match us, hl with | [_, _], _ => rfl
  have F17 := fun_mk (st := sLawEntries) l17 c17 k17
  have B17 := F17.binds (ps := ["deck", "many", "size", "most"]) fun _ _ _ _ _ _ us hl => match us, hl with | [_, _, _, _], _ => rfl
  have F18 := fun_mk (st := sLawKept) l18 c18 k18
  have B18 := F18.binds (ps := ["entries"]) fun _ _ _ _ _ _ us hl => match us, hl with | [_], _ => rfl
  have F19 := fun_mk (st := sLaw) l19 c19 k19
  have B19 := F19.binds (ps := ["script"]) fun _ _ _ _ _ _ us hl => match us, hl with | [_], _ => rfl
  refine ⟨⟨f0, PySem.W.fnOf "is_integer" "is_integer" (defArgs sIsInteger) (defBody sIsInteger) (defScope sIsInteger) .none kV0 dc0 pm0 an0 cd0 ct0, f1, PySem.W.fnOf "check_day" "check_day" (defArgs sCheckDay) (defBody sCheckDay) (defScope sCheckDay) .none kV1 dc1 pm1 an1 cd1 ct1, f2, PySem.W.fnOf "is_office" "is_office" (defArgs sIsOffice) (defBody sIsOffice) (defScope sIsOffice) .none kV2 dc2 pm2 an2 cd2 ct2, f3, PySem.W.fnOf "find_clash" "find_clash" (defArgs sFindClash) (defBody sFindClash) (defScope sFindClash) .none kV3 dc3 pm3 an3 cd3 ct3, f4, PySem.W.fnOf "known_state" "known_state" (defArgs sKnownState) (defBody sKnownState) (defScope sKnownState) .none kV4 dc4 pm4 an4 cd4 ct4, f5, PySem.W.fnOf "_is_log" "_is_log" (defArgs sIsLog) (defBody sIsLog) (defScope sIsLog) .none kV5 dc5 pm5 an5 cd5 ct5, f6, PySem.W.fnOf "_is_entry" "_is_entry" (defArgs sIsEntry) (defBody sIsEntry) (defScope sIsEntry) .none kV6 dc6 pm6 an6 cd6 ct6, f7, PySem.W.fnOf "_check_log" "_check_log" (defArgs sCheckLog) (defBody sCheckLog) (defScope sCheckLog) .none kV7 dc7 pm7 an7 cd7 ct7, f8, PySem.W.fnOf "_check_agreed" "_check_agreed" (defArgs sCheckAgreed) (defBody sCheckAgreed) (defScope sCheckAgreed) .none kV8 dc8 pm8 an8 cd8 ct8, f9, PySem.W.fnOf "_clash" "_clash" (defArgs sClash) (defBody sClash) (defScope sClash) .none kV9 dc9 pm9 an9 cd9 ct9, f10, PySem.W.fnOf "_law_deck" "_law_deck" (defArgs sLawDeck) (defBody sLawDeck) (defScope sLawDeck) .none kV10 dc10 pm10 an10 cd10 ct10, f11, PySem.W.fnOf "_law_draw" "_law_draw" (defArgs sLawDraw) (defBody sLawDraw) (defScope sLawDraw) .none kV11 dc11 pm11 an11 cd11 ct11, f12, PySem.W.fnOf "_law_closes" "_law_closes" (defArgs sLawCloses) (defBody sLawCloses) (defScope sLawCloses) .none kV12 dc12 pm12 an12 cd12 ct12, f13, PySem.W.fnOf "_law_first_clash" "_law_first_clash" (defArgs sLawFirstClash) (defBody sLawFirstClash) (defScope sLawFirstClash) .none kV13 dc13 pm13 an13 cd13 ct13, f14, PySem.W.fnOf "_law_sets" "_law_sets" (defArgs sLawSets) (defBody sLawSets) (defScope sLawSets) .none kV14 dc14 pm14 an14 cd14 ct14, f15, PySem.W.fnOf "_law_agrees" "_law_agrees" (defArgs sLawAgrees) (defBody sLawAgrees) (defScope sLawAgrees) .none kV15 dc15 pm15 an15 cd15 ct15, f16, PySem.W.fnOf "_law_some_days" "_law_some_days" (defArgs sLawSomeDays) (defBody sLawSomeDays) (defScope sLawSomeDays) .none kV16 dc16 pm16 an16 cd16 ct16, f17, PySem.W.fnOf "_law_entries" "_law_entries" (defArgs sLawEntries) (defBody sLawEntries) (defScope sLawEntries) .none kV17 dc17 pm17 an17 cd17 ct17, f18, PySem.W.fnOf "_law_kept" "_law_kept" (defArgs sLawKept) (defBody sLawKept) (defScope sLawKept) .none kV18 dc18 pm18 an18 cd18 ct18, f19, PySem.W.fnOf "law" "law" (defArgs sLaw) (defBody sLaw) (defScope sLaw) .none kV19 dc19 pm19 an19 cd19 ct19⟩, rfl, ?_, fun s u => .of_eq rfl⟩
  exact ⟨PySem.W.mg_of X G a0, F0, B0, PySem.W.mg_of X G a1, F1, B1, PySem.W.mg_of X G a2, F2, B2, PySem.W.mg_of X G a3, F3, B3, PySem.W.mg_of X G a4, F4, B4, PySem.W.mg_of X G a5, F5, B5, PySem.W.mg_of X G a6, F6, B6, PySem.W.mg_of X G a7, F7, B7, PySem.W.mg_of X G a8, F8, B8, PySem.W.mg_of X G a9, F9, B9, PySem.W.mg_of X G a10, F10, B10, PySem.W.mg_of X G a11, F11, B11, PySem.W.mg_of X G a12, F12, B12, PySem.W.mg_of X G a13, F13, B13, PySem.W.mg_of X G a14, F14, B14, PySem.W.mg_of X G a15, F15, B15, PySem.W.mg_of X G a16, F16, B16, PySem.W.mg_of X G a17, F17, B17, PySem.W.mg_of X G a18, F18, B18, PySem.W.mg_of X G a19, F19, B19, ⟨t_SMALL_LETTERS, PySem.W.mg_of X G x_SMALL_LETTERS⟩, PySem.W.mg_none_of X G z_ValueError, PySem.W.mg_none_of X G z_all, PySem.W.mg_none_of X G z_bool, PySem.W.mg_none_of X G z_int, PySem.W.mg_none_of X G z_isinstance, PySem.W.mg_none_of X G z_len, PySem.W.mg_none_of X G z_list, PySem.W.mg_none_of X G z_max, PySem.W.mg_none_of X G z_min, PySem.W.mg_none_of X G z_range, PySem.W.mg_none_of X G z_repr, PySem.W.mg_none_of X G z_set, PySem.W.mg_none_of X G z_sorted, PySem.W.mg_none_of X G z_str, PySem.W.mg_none_of X G z_super, PySem.W.mg_none_of X G z_tuple⟩

theorem all_mk {P : Program} {w : World} {K : PySem.W.Frag} {h : Heap} {mg : Str → Option Value} {fa : Addr} (X : K.In h) (G : h.Ns mainGlobals mg) (hmg : mg "law" = some (.ref fa))
    {f0 : Addr} {od0 an0 : Option Addr} {sl0 : Array (Option Value)} {oc0 kV0 dc0 pm0 cd0 ct0 : Value}
    (a0 : PySem.W.nsIn K mainGlobals "is_integer" = some (some (.ref f0))) (l0 : K.lookup f0 = some ⟨oc0, od0, .func (PySem.W.fnOf "is_integer" "is_integer" (defArgs sIsInteger) (defBody sIsInteger) (defScope sIsInteger) .none kV0 dc0 pm0 an0 cd0 ct0), sl0⟩) (c0 : PySem.W.codeIn K cd0 "is_integer" = true) (k0 : PySem.W.keepIn K (.ref f0) = true)
    {f1 : Addr} {od1 an1 : Option Addr} {sl1 : Array (Option Value)} {oc1 kV1 dc1 pm1 cd1 ct1 : Value}
    (a1 : PySem.W.nsIn K mainGlobals "check_day" = some (some (.ref f1))) (l1 : K.lookup f1 = some ⟨oc1, od1, .func (PySem.W.fnOf "check_day" "check_day" (defArgs sCheckDay) (defBody sCheckDay) (defScope sCheckDay) .none kV1 dc1 pm1 an1 cd1 ct1), sl1⟩) (c1 : PySem.W.codeIn K cd1 "check_day" = true) (k1 : PySem.W.keepIn K (.ref f1) = true)
    {f2 : Addr} {od2 an2 : Option Addr} {sl2 : Array (Option Value)} {oc2 kV2 dc2 pm2 cd2 ct2 : Value}
    (a2 : PySem.W.nsIn K mainGlobals "is_office" = some (some (.ref f2))) (l2 : K.lookup f2 = some ⟨oc2, od2, .func (PySem.W.fnOf "is_office" "is_office" (defArgs sIsOffice) (defBody sIsOffice) (defScope sIsOffice) .none kV2 dc2 pm2 an2 cd2 ct2), sl2⟩) (c2 : PySem.W.codeIn K cd2 "is_office" = true) (k2 : PySem.W.keepIn K (.ref f2) = true)
    {f3 : Addr} {od3 an3 : Option Addr} {sl3 : Array (Option Value)} {oc3 kV3 dc3 pm3 cd3 ct3 : Value}
    (a3 : PySem.W.nsIn K mainGlobals "find_clash" = some (some (.ref f3))) (l3 : K.lookup f3 = some ⟨oc3, od3, .func (PySem.W.fnOf "find_clash" "find_clash" (defArgs sFindClash) (defBody sFindClash) (defScope sFindClash) .none kV3 dc3 pm3 an3 cd3 ct3), sl3⟩) (c3 : PySem.W.codeIn K cd3 "find_clash" = true) (k3 : PySem.W.keepIn K (.ref f3) = true)
    {f4 : Addr} {od4 an4 : Option Addr} {sl4 : Array (Option Value)} {oc4 kV4 dc4 pm4 cd4 ct4 : Value}
    (a4 : PySem.W.nsIn K mainGlobals "known_state" = some (some (.ref f4))) (l4 : K.lookup f4 = some ⟨oc4, od4, .func (PySem.W.fnOf "known_state" "known_state" (defArgs sKnownState) (defBody sKnownState) (defScope sKnownState) .none kV4 dc4 pm4 an4 cd4 ct4), sl4⟩) (c4 : PySem.W.codeIn K cd4 "known_state" = true) (k4 : PySem.W.keepIn K (.ref f4) = true)
    {f5 : Addr} {od5 an5 : Option Addr} {sl5 : Array (Option Value)} {oc5 kV5 dc5 pm5 cd5 ct5 : Value}
    (a5 : PySem.W.nsIn K mainGlobals "_is_log" = some (some (.ref f5))) (l5 : K.lookup f5 = some ⟨oc5, od5, .func (PySem.W.fnOf "_is_log" "_is_log" (defArgs sIsLog) (defBody sIsLog) (defScope sIsLog) .none kV5 dc5 pm5 an5 cd5 ct5), sl5⟩) (c5 : PySem.W.codeIn K cd5 "_is_log" = true) (k5 : PySem.W.keepIn K (.ref f5) = true)
    {f6 : Addr} {od6 an6 : Option Addr} {sl6 : Array (Option Value)} {oc6 kV6 dc6 pm6 cd6 ct6 : Value}
    (a6 : PySem.W.nsIn K mainGlobals "_is_entry" = some (some (.ref f6))) (l6 : K.lookup f6 = some ⟨oc6, od6, .func (PySem.W.fnOf "_is_entry" "_is_entry" (defArgs sIsEntry) (defBody sIsEntry) (defScope sIsEntry) .none kV6 dc6 pm6 an6 cd6 ct6), sl6⟩) (c6 : PySem.W.codeIn K cd6 "_is_entry" = true) (k6 : PySem.W.keepIn K (.ref f6) = true)
    {f7 : Addr} {od7 an7 : Option Addr} {sl7 : Array (Option Value)} {oc7 kV7 dc7 pm7 cd7 ct7 : Value}
    (a7 : PySem.W.nsIn K mainGlobals "_check_log" = some (some (.ref f7))) (l7 : K.lookup f7 = some ⟨oc7, od7, .func (PySem.W.fnOf "_check_log" "_check_log" (defArgs sCheckLog) (defBody sCheckLog) (defScope sCheckLog) .none kV7 dc7 pm7 an7 cd7 ct7), sl7⟩) (c7 : PySem.W.codeIn K cd7 "_check_log" = true) (k7 : PySem.W.keepIn K (.ref f7) = true)
    {f8 : Addr} {od8 an8 : Option Addr} {sl8 : Array (Option Value)} {oc8 kV8 dc8 pm8 cd8 ct8 : Value}
    (a8 : PySem.W.nsIn K mainGlobals "_check_agreed" = some (some (.ref f8))) (l8 : K.lookup f8 = some ⟨oc8, od8, .func (PySem.W.fnOf "_check_agreed" "_check_agreed" (defArgs sCheckAgreed) (defBody sCheckAgreed) (defScope sCheckAgreed) .none kV8 dc8 pm8 an8 cd8 ct8), sl8⟩) (c8 : PySem.W.codeIn K cd8 "_check_agreed" = true) (k8 : PySem.W.keepIn K (.ref f8) = true)
    {f9 : Addr} {od9 an9 : Option Addr} {sl9 : Array (Option Value)} {oc9 kV9 dc9 pm9 cd9 ct9 : Value}
    (a9 : PySem.W.nsIn K mainGlobals "_clash" = some (some (.ref f9))) (l9 : K.lookup f9 = some ⟨oc9, od9, .func (PySem.W.fnOf "_clash" "_clash" (defArgs sClash) (defBody sClash) (defScope sClash) .none kV9 dc9 pm9 an9 cd9 ct9), sl9⟩) (c9 : PySem.W.codeIn K cd9 "_clash" = true) (k9 : PySem.W.keepIn K (.ref f9) = true)
    {f10 : Addr} {od10 an10 : Option Addr} {sl10 : Array (Option Value)} {oc10 kV10 dc10 pm10 cd10 ct10 : Value}
    (a10 : PySem.W.nsIn K mainGlobals "_law_deck" = some (some (.ref f10))) (l10 : K.lookup f10 = some ⟨oc10, od10, .func (PySem.W.fnOf "_law_deck" "_law_deck" (defArgs sLawDeck) (defBody sLawDeck) (defScope sLawDeck) .none kV10 dc10 pm10 an10 cd10 ct10), sl10⟩) (c10 : PySem.W.codeIn K cd10 "_law_deck" = true) (k10 : PySem.W.keepIn K (.ref f10) = true)
    {f11 : Addr} {od11 an11 : Option Addr} {sl11 : Array (Option Value)} {oc11 kV11 dc11 pm11 cd11 ct11 : Value}
    (a11 : PySem.W.nsIn K mainGlobals "_law_draw" = some (some (.ref f11))) (l11 : K.lookup f11 = some ⟨oc11, od11, .func (PySem.W.fnOf "_law_draw" "_law_draw" (defArgs sLawDraw) (defBody sLawDraw) (defScope sLawDraw) .none kV11 dc11 pm11 an11 cd11 ct11), sl11⟩) (c11 : PySem.W.codeIn K cd11 "_law_draw" = true) (k11 : PySem.W.keepIn K (.ref f11) = true)
    {f12 : Addr} {od12 an12 : Option Addr} {sl12 : Array (Option Value)} {oc12 kV12 dc12 pm12 cd12 ct12 : Value}
    (a12 : PySem.W.nsIn K mainGlobals "_law_closes" = some (some (.ref f12))) (l12 : K.lookup f12 = some ⟨oc12, od12, .func (PySem.W.fnOf "_law_closes" "_law_closes" (defArgs sLawCloses) (defBody sLawCloses) (defScope sLawCloses) .none kV12 dc12 pm12 an12 cd12 ct12), sl12⟩) (c12 : PySem.W.codeIn K cd12 "_law_closes" = true) (k12 : PySem.W.keepIn K (.ref f12) = true)
    {f13 : Addr} {od13 an13 : Option Addr} {sl13 : Array (Option Value)} {oc13 kV13 dc13 pm13 cd13 ct13 : Value}
    (a13 : PySem.W.nsIn K mainGlobals "_law_first_clash" = some (some (.ref f13))) (l13 : K.lookup f13 = some ⟨oc13, od13, .func (PySem.W.fnOf "_law_first_clash" "_law_first_clash" (defArgs sLawFirstClash) (defBody sLawFirstClash) (defScope sLawFirstClash) .none kV13 dc13 pm13 an13 cd13 ct13), sl13⟩) (c13 : PySem.W.codeIn K cd13 "_law_first_clash" = true) (k13 : PySem.W.keepIn K (.ref f13) = true)
    {f14 : Addr} {od14 an14 : Option Addr} {sl14 : Array (Option Value)} {oc14 kV14 dc14 pm14 cd14 ct14 : Value}
    (a14 : PySem.W.nsIn K mainGlobals "_law_sets" = some (some (.ref f14))) (l14 : K.lookup f14 = some ⟨oc14, od14, .func (PySem.W.fnOf "_law_sets" "_law_sets" (defArgs sLawSets) (defBody sLawSets) (defScope sLawSets) .none kV14 dc14 pm14 an14 cd14 ct14), sl14⟩) (c14 : PySem.W.codeIn K cd14 "_law_sets" = true) (k14 : PySem.W.keepIn K (.ref f14) = true)
    {f15 : Addr} {od15 an15 : Option Addr} {sl15 : Array (Option Value)} {oc15 kV15 dc15 pm15 cd15 ct15 : Value}
    (a15 : PySem.W.nsIn K mainGlobals "_law_agrees" = some (some (.ref f15))) (l15 : K.lookup f15 = some ⟨oc15, od15, .func (PySem.W.fnOf "_law_agrees" "_law_agrees" (defArgs sLawAgrees) (defBody sLawAgrees) (defScope sLawAgrees) .none kV15 dc15 pm15 an15 cd15 ct15), sl15⟩) (c15 : PySem.W.codeIn K cd15 "_law_agrees" = true) (k15 : PySem.W.keepIn K (.ref f15) = true)
    {f16 : Addr} {od16 an16 : Option Addr} {sl16 : Array (Option Value)} {oc16 kV16 dc16 pm16 cd16 ct16 : Value}
    (a16 : PySem.W.nsIn K mainGlobals "_law_some_days" = some (some (.ref f16))) (l16 : K.lookup f16 = some ⟨oc16, od16, .func (PySem.W.fnOf "_law_some_days" "_law_some_days" (defArgs sLawSomeDays) (defBody sLawSomeDays) (defScope sLawSomeDays) .none kV16 dc16 pm16 an16 cd16 ct16), sl16⟩) (c16 : PySem.W.codeIn K cd16 "_law_some_days" = true) (k16 : PySem.W.keepIn K (.ref f16) = true)
    {f17 : Addr} {od17 an17 : Option Addr} {sl17 : Array (Option Value)} {oc17 kV17 dc17 pm17 cd17 ct17 : Value}
    (a17 : PySem.W.nsIn K mainGlobals "_law_entries" = some (some (.ref f17))) (l17 : K.lookup f17 = some ⟨oc17, od17, .func (PySem.W.fnOf "_law_entries" "_law_entries" (defArgs sLawEntries) (defBody sLawEntries) (defScope sLawEntries) .none kV17 dc17 pm17 an17 cd17 ct17), sl17⟩) (c17 : PySem.W.codeIn K cd17 "_law_entries" = true) (k17 : PySem.W.keepIn K (.ref f17) = true)
    {f18 : Addr} {od18 an18 : Option Addr} {sl18 : Array (Option Value)} {oc18 kV18 dc18 pm18 cd18 ct18 : Value}
    (a18 : PySem.W.nsIn K mainGlobals "_law_kept" = some (some (.ref f18))) (l18 : K.lookup f18 = some ⟨oc18, od18, .func (PySem.W.fnOf "_law_kept" "_law_kept" (defArgs sLawKept) (defBody sLawKept) (defScope sLawKept) .none kV18 dc18 pm18 an18 cd18 ct18), sl18⟩) (c18 : PySem.W.codeIn K cd18 "_law_kept" = true) (k18 : PySem.W.keepIn K (.ref f18) = true)
    {f19 : Addr} {od19 an19 : Option Addr} {sl19 : Array (Option Value)} {oc19 kV19 dc19 pm19 cd19 ct19 : Value}
    (a19 : PySem.W.nsIn K mainGlobals "law" = some (some (.ref f19))) (l19 : K.lookup f19 = some ⟨oc19, od19, .func (PySem.W.fnOf "law" "law" (defArgs sLaw) (defBody sLaw) (defScope sLaw) .none kV19 dc19 pm19 an19 cd19 ct19), sl19⟩) (c19 : PySem.W.codeIn K cd19 "law" = true) (k19 : PySem.W.keepIn K (.ref f19) = true)
    {t_SMALL_LETTERS : Tok} (x_SMALL_LETTERS : PySem.W.nsIn K mainGlobals "SMALL_LETTERS" = some (some (.str "abcdefghijklmnopqrstuvwxyz" t_SMALL_LETTERS)))
    (z_ValueError : PySem.W.nsIn K mainGlobals "ValueError" = some none)
    (z_all : PySem.W.nsIn K mainGlobals "all" = some none)
    (z_bool : PySem.W.nsIn K mainGlobals "bool" = some none)
    (z_int : PySem.W.nsIn K mainGlobals "int" = some none)
    (z_isinstance : PySem.W.nsIn K mainGlobals "isinstance" = some none)
    (z_len : PySem.W.nsIn K mainGlobals "len" = some none)
    (z_list : PySem.W.nsIn K mainGlobals "list" = some none)
    (z_max : PySem.W.nsIn K mainGlobals "max" = some none)
    (z_min : PySem.W.nsIn K mainGlobals "min" = some none)
    (z_range : PySem.W.nsIn K mainGlobals "range" = some none)
    (z_repr : PySem.W.nsIn K mainGlobals "repr" = some none)
    (z_set : PySem.W.nsIn K mainGlobals "set" = some none)
    (z_sorted : PySem.W.nsIn K mainGlobals "sorted" = some none)
    (z_str : PySem.W.nsIn K mainGlobals "str" = some none)
    (z_super : PySem.W.nsIn K mainGlobals "super" = some none)
    (z_tuple : PySem.W.nsIn K mainGlobals "tuple" = some none) :
    ∃ fd : FuncData, (∀ (s : Shared) (u : Value), BindsTo s fd ⟨[u], []⟩ [("script", u)]) ∧ ∀ base : Heap, K.In base → base.Ns mainGlobals mg → FnG P w K mg base CX0 9 fa fd ["script"] (spLaw K 63) := by
  obtain ⟨a, ea, T, hb⟩ := txt_mk (P := P) (w := w) X G a0 l0 c0 k0 a1 l1 c1 k1 a2 l2 c2 k2 a3 l3 c3 k3 a4 l4 c4 k4 a5 l5 c5 k5 a6 l6 c6 k6 a7 l7 c7 k7 a8 l8 c8 k8 a9 l9 c9 k9 a10 l10 c10 k10 a11 l11 c11 k11 a12 l12 c12 k12 a13 l13 c13 k13 a14 l14 c14 k14 a15 l15 c15 k15 a16 l16 c16 k16 a17 l17 c17 k17 a18 l18 c18 k18 a19 l19 c19 k19 x_SMALL_LETTERS z_ValueError z_all z_bool z_int z_isinstance z_len z_list z_max z_min z_range z_repr z_set z_sorted z_str z_super z_tuple
  have e : fa = a.a_law := Value.ref.inj (Option.some.inj (hmg.symm.trans T.g_law))
  subst e
  exact ⟨a.d_law, hb, fun base _ _ => ok_law T⟩
end K50
open PySem PySem.W PyProof.Rows in
set_option maxRecDepth 100000 in
set_option maxHeartbeats 0 in
theorem PySem.Challenge.cw_daychains_k50_states_that_are_known_holds : PySem.Challenge.rw_daychains_k50_states_that_are_known.Holds := by
  w_on; o_law; k_head; (case hw => w_witness2)
  k_fill
  refine Dv.end_g (l := PySem.Challenge.rw_daychains_k50_states_that_are_known) (n := 63) (k := 9) (x := "script") rfl (by decide) rfl ⟨rfl, by decide, by decide⟩ (fun w h Y => PySem.W.kIn_of Y) ?F
  case F =>
    intro w mg fa h KX G hmg
    refine' K50.all_mk KX G hmg ?a0 ?l0 ?c0 ?k0 ?a1 ?l1 ?c1 ?k1 ?a2 ?l2 ?c2 ?k2 ?a3 ?l3 ?c3 ?k3 ?a4 ?l4 ?c4 ?k4 ?a5 ?l5 ?c5 ?k5 ?a6 ?l6 ?c6 ?k6 ?a7 ?l7 ?c7 ?k7 ?a8 ?l8 ?c8 ?k8 ?a9 ?l9 ?c9 ?k9 ?a10 ?l10 ?c10 ?k10 ?a11 ?l11 ?c11 ?k11 ?a12 ?l12 ?c12 ?k12 ?a13 ?l13 ?c13 ?k13 ?a14 ?l14 ?c14 ?k14 ?a15 ?l15 ?c15 ?k15 ?a16 ?l16 ?c16 ?k16 ?a17 ?l17 ?c17 ?k17 ?a18 ?l18 ?c18 ?k18 ?a19 ?l19 ?c19 ?k19 ?x_SMALL_LETTERS ?z_ValueError ?z_all ?z_bool ?z_int ?z_isinstance ?z_len ?z_list ?z_max ?z_min ?z_range ?z_repr ?z_set ?z_sorted ?z_str ?z_super ?z_tuple
    (case a0 => k_is); (case l0 => k_is); (case c0 => k_is); (case k0 => k_is); (case a1 => k_is); (case l1 => k_is)
    (case c1 => k_is); (case k1 => k_is); (case a2 => k_is); (case l2 => k_is); (case c2 => k_is); (case k2 => k_is)
    (case a3 => k_is); (case l3 => k_is); (case c3 => k_is); (case k3 => k_is); (case a4 => k_is); (case l4 => k_is)
    (case c4 => k_is); (case k4 => k_is); (case a5 => k_is); (case l5 => k_is); (case c5 => k_is); (case k5 => k_is)
    (case a6 => k_is); (case l6 => k_is); (case c6 => k_is); (case k6 => k_is); (case a7 => k_is); (case l7 => k_is)
    (case c7 => k_is); (case k7 => k_is); (case a8 => k_is); (case l8 => k_is); (case c8 => k_is); (case k8 => k_is)
    (case a9 => k_is); (case l9 => k_is); (case c9 => k_is); (case k9 => k_is); (case a10 => k_is); (case l10 => k_is)
    (case c10 => k_is); (case k10 => k_is); (case a11 => k_is); (case l11 => k_is); (case c11 => k_is); (case k11 => k_is)
    (case a12 => k_is); (case l12 => k_is); (case c12 => k_is); (case k12 => k_is); (case a13 => k_is); (case l13 => k_is)
    (case c13 => k_is); (case k13 => k_is); (case a14 => k_is); (case l14 => k_is); (case c14 => k_is); (case k14 => k_is)
    (case a15 => k_is); (case l15 => k_is); (case c15 => k_is); (case k15 => k_is); (case a16 => k_is); (case l16 => k_is)
    (case c16 => k_is); (case k16 => k_is); (case a17 => k_is); (case l17 => k_is); (case c17 => k_is); (case k17 => k_is)
    (case a18 => k_is); (case l18 => k_is); (case c18 => k_is); (case k18 => k_is); (case a19 => k_is); (case l19 => k_is)
    (case c19 => k_is); (case k19 => k_is); (case x_SMALL_LETTERS => k_is); (case z_ValueError => k_is); (case z_all => k_is); (case z_bool => k_is)
    (case z_int => k_is); (case z_isinstance => k_is); (case z_len => k_is); (case z_list => k_is); (case z_max => k_is); (case z_min => k_is)
    (case z_range => k_is); (case z_repr => k_is); (case z_set => k_is); (case z_sorted => k_is); (case z_str => k_is); (case z_super => k_is)
    (case z_tuple => k_is)
