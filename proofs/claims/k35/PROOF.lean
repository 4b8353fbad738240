import PyProof.Rows.All
import Wide.All
import OpenK.AllK
import Wide.FinOn
import HandS.ForMost
import PyProof.ReprRoads
import HandS.NoneIn
import HandS.IsInst
import HandS.Conv
import KE.GoesMore
import HandS.Style
import HandS.RevRange
import HandS.TupAny
import HandS.Flow
import PyProof.EqKinds
import PyProof.NeKinds
import PyProof.EqAt
import PyProof.ListStr
import PyProof.StrLawsOcc
import HandS.Text
import HandS.Zip
import HandS.Sort
import HandS.SortOrd
import HandS.SortRule
import HandS.SortInts
import HandS.SortKw
import KE.DataMinKey
import PyProof.SeqI3
import PyProof.ListCopy
import PyProof.Rows.SortShell
import HandS.Small
import HandS.Dict
import KE.SortKeyHeap
import KE.SortData
import HandS.Call
import HandS.SetFor
import PyProof.Rows.IntBool
import HandS.TupMul
import KE.KEqDict
import HandS.Replace
import HandS.ReplaceList
import KE.DataMinMax
import HandS.TupSets
import KE.KDictDisplayH
import KE.KIndexOf
import PyProof.ReprBulk
import HandS.ForExc
import HandS.ExcField
import KE.KExcInit
import KE.KExcIs
import HandS.WordsExc
import HandS.ExcIs
import HandS.Star
import HandS.Wide
import HandS.GenList
import PyProof.TupleOfGen
import HandS.Rev
import PyProof.Rows.StrInSeq3
import KE.KExcLine
import PySem.Challenge.RW_duelsets_k35_whole_counts
set_option Elab.async false
set_option linter.all false
set_option maxRecDepth 100000
namespace DS
open PySem PySem.Spec PyProof.Rows L2
/-! ### promises that hold where no repr is under way -/
structure FnG (P : Program) (w : World) (K : PySem.W.Frag) (mg : Str → Option Value) (base : Heap) (CX : CXT) (k : Nat) (f : Addr) (fd : FuncData) (ps : List Str) (sp : Sp) : Prop where
  len : ∀ vs H Q E, sp vs H Q E → vs.length = ps.length
  go : ∀ (A : Around) (outer : List Env) (s : Shared) (H : Hp) (args : Args) (us : List Value) (vs : List V) (Q : VK) (E : XK), A.guards = some [] → Room k A → Env0 P w K mg base A outer s H →
    BindsTo s fd args (ps.zip us) → Vals vs us → sp vs H Q E → codeAny (model P w) A (.call (.ref f) args) (CR CX outer P w H s Q E) s
section
variable {P : Program} {w : World} {K : PySem.W.Frag} {mg : Str → Option Value} {base : Heap} {CX : CXT} {k : Nat} {f : Addr} {fd : FuncData} {ps : List Str} {sp : Sp}
theorem FnG.of (F : FnOk P w K mg base CX k f fd ps sp) : FnG P w K mg base CX k f fd ps sp := ⟨F.len, fun A outer s H args us vs Q E _ => F.run A outer s H args us vs Q E⟩
theorem FnG.up {j : Nat} (F : FnG P w K mg base CX j f fd ps sp) (h : j ≤ k) : FnG P w K mg base CX k f fd ps sp := ⟨F.len, fun A outer s H args us vs Q E hg hr => F.go A outer s H args us vs Q E hg (hr.mono h)⟩
/-- a def by its body, where no repr is under way -/
theorem FnG.body {x qual : Str} {st : Stmt} {N : List Str} (F : Fun K x qual st f fd) (S : FnScope N ps (defScope st)) (len : ∀ vs H Q E, sp vs H Q E → vs.length = ps.length)
    (hb : ∀ (cdv : Value) (A : Around) (outer : List Env) (s : Shared) (H : Hp) (vs : List V) (Q : VK) (E : XK), A.guards = some [] → Room k (A.deeper (envOfC qual (defScope st) s.heap.objs.size f cdv)) → sp vs H Q E →
      ∃ t, PSs (cxOf CX P w K mg base N qual (defScope st) f cdv A outer s H E) (defBody st) t ∧ t { nx := fun _ H' => Q .non H', rt := Q } (start N vs) H) : FnG P w K mg base CX (k + 1) f fd ps sp := by
  obtain ⟨oc, od, kV, doc, pm, an, cdv, ct, osl, rfl, lk, hcd⟩ := F.ex
  refine ⟨len, fun A outer s H args us vs Q E hg hr e0 bind r want => ?_⟩
  have kin : K.In s.heap := e0.mod.kin.keeps fun b o e => (e0.bs b o e).1
  have nolim : s.heap.NoLimit := e0.mod.nolimit.keeps fun b o e => (e0.bs b o e).1
  refine codeAny_call_function hr.depth (kin _ _ lk) rfl S.co S.gen rfl (PySem.W.codeRec_of kin hcd) (bind _ _ _ _ (wpAny_newFunctionEnv_cells S.kind ?kinds fun env he s1 x => ?inside))
  case kinds =>
    intro y hy
    obtain ⟨n, v⟩ := y
    rcases S.par n (List.of_mem_zip hy).1 with q | q
    · exact .inl q
    · exact .inr ⟨q, PySem.W.cellsFrom_some _ _ _ (.inl q)⟩
  case inside =>
    subst he
    refine ⟨nolim.keeps x.toInCall.keep, codeAny_func ?_⟩
    obtain ⟨t, ht, hq⟩ := hb cdv A outer s H vs Q E hg (hr.deeper _) want
    have I := inv_start (CX := CX) (E := E) S hr.hd e0 (len _ _ _ _ want) r x
    refine wpAny_mono (ht.run [] s1 (start N vs) H _ I hq) (fun fl s' hs => ?_) fun _ _ h => h
    cases fl with
    | ret u =>
      obtain ⟨v, σ', H', J, rv, q⟩ := hs
      exact ⟨v, H', J.os, J.bare, J.base, J.hok, rv, q⟩
    | next =>
      obtain ⟨σ', H', J, q⟩ := hs
      exact ⟨.non, H', J.os, J.bare, J.base, J.hok, rfl, q⟩
    | brk =>
      obtain ⟨_, _, _, q⟩ := hs
      exact q.elim
    | cont =>
      obtain ⟨_, _, _, q⟩ := hs
      exact q.elim
theorem FnG.ok {x qual : Str} {st : Stmt} {N : List Str} (F : Fun K x qual st f fd) (S : FnScope N ps (defScope st)) (len : ∀ vs H Q E, sp vs H Q E → vs.length = ps.length)
    (hb : ∀ (cdv : Value) (A : Around) (outer : List Env) (s : Shared) (H : Hp) (vs : List V) (Q : VK) (E : XK), (A.deeper (envOfC qual (defScope st) s.heap.objs.size f cdv)).guards = some [] → Room k (A.deeper (envOfC qual (defScope st) s.heap.objs.size f cdv)) → sp vs H Q E →
      ∃ t, PSs (cxOf CX0 P w K mg base N qual (defScope st) f cdv A outer s H E).nox (defBody st) t ∧ t { nx := fun _ H' => Q .non H', rt := Q } (start N vs) H) : FnG P w K mg base CX0 (k + 1) f fd ps sp :=
  FnG.body F S len fun cdv A outer s H vs Q E hg hr h => by
    obtain ⟨t, ht, q⟩ := hb cdv A outer s H vs Q E hg hr h
    exact ⟨t, ht.nox, q⟩
end
section
variable {X : Cx} {CX : CXT} {k : Nat} {f : Addr} {fd : FuncData} {ps : List Str} {sp : Sp} {dvs : List V} {ds : List Value} {E : XK} {x : Str} {p pos : Pos} {e : Expr} {es : List Expr} {t : TA}
/-- f(e, ..) by such a promise -/
theorem pe_callG (F : FnG X.prog X.w X.K X.mg X.base CX k f fd ps sp) (hgd : X.A.guards = some []) (hr : Room k X.A) (hg : Gl X x) (hm : X.mg x = some (.ref f)) (hk : PySem.W.keepIn X.K (.ref f) = true) (hb : Binds X.K fd ps ds) (hd : Vals dvs ds) (hx : Passes CX X E)
    (ha : PA X (e :: es) t) (hdb : (x == ("__debug__" : Str)) = false := by decide) (he : starEach (e :: es) X.env = (false, eval e X.env) :: starEach es X.env := by rfl) (hpl : (backTo pos (starEach es X.env)).any (·.1) = false := by rfl) :
    PE X (.Call (.Name x p) (e :: es) [] pos) (tCall sp dvs E t) := by
  refine ⟨fun pins s σ H Q I h => wpAny_Call_Name_kw (ld_glob I hg hm ?_ hdb)⟩
  refine PySem.W.callWith_K (h₀ := X.base) I.ok.mod.kin hk (thn (ha.run pos pins s σ H _ I h) fun us s1 hz => ?_) he hpl
  obtain ⟨vs, H1, I1, r, q⟩ := hz
  refine ⟨I1.kIn, ?_⟩
  have r2 : Vals (vs ++ dvs) (us ++ ds) := r.append hd
  have hl : (us ++ ds).length = ps.length := by
    rw [← r2.length]
    exact F.len _ _ _ _ q
  refine wpAny_call (codeAny_mono (F.go X.A X.stack s1 H1 ⟨us, []⟩ _ _ Q E hgd hr I1.env0 (hb s1 us I1.kIn hl) r2 q) fun r s' hq => ?_)
  match r, hq with
  | .error e, hq => exact hx pins σ H1 s1 e s' I1 hq
  | .ok (.ret u), hq => exact I1.after hq
  | .ok .next, hq => exact hq.elim
  | .ok .brk, hq => exact hq.elim
  | .ok .cont, hq => exact hq.elim
end
/-! ### the law's call: nothing is under way around it -/
section
variable {P : Program} {w : World} {K : PySem.W.Frag} {mg mb : Str → Option Value} {s₁ : Shared} {a : Addr} {vs : List Value} {ns : List Int} {H : Hp}
/-- the state ahead of the law's call, with nothing tracked but the script -/
theorem env_top (kin : K.In s₁.heap) (ng : s₁.heap.Ns mainGlobals mg) (nb : s₁.heap.Ns builtinsNs mb) (bb : ∀ x : Str, x ≠ "__name__" → mb x = bootBuiltins x) (lim : s₁.heap.NoLimit) (gen : s₁.gens = #[])
    (obj : s₁.heap.get? a = some { cls := .type "list", data := .seq vs.toArray }) (ok : HOk P w H s₁.heap) (only : ∀ b, H b ≠ none → b = a) (apart : H a ≠ none → K.lookup a = none) :
    K.In (hidT s₁.heap H) ∧ (hidT s₁.heap H).Ns mainGlobals mg ∧ Env0 P w K mg (hidT s₁.heap H) callerA [] s₁ H := by
  have free : ∀ {b : Addr} {m : Str → Option Value}, s₁.heap.Ns b m → (hidT s₁.heap H).Ns b m := fun {b m} n => by
    obtain ⟨o, es, ep, e, d, r⟩ := n
    refine ⟨o, es, ep, hidT_get e ?_, d, r⟩
    cases q : H b with
    | none => rfl
    | some u =>
      have z := only b (by rw [q]; exact fun z => nomatch z)
      rw [z, obj] at e
      cases e
      cases d
  have kb : K.In (hidT s₁.heap H) := fun b o e => hidT_get (kin b o e) (by
    cases q : H b with
    | none => rfl
    | some u =>
      have z := only b (by rw [q]; exact fun z => nomatch z)
      have y := apart (by rw [← z, q]; exact fun z => nomatch z)
      rw [z, y] at e
      cases e)
  obtain ⟨mc, l1, l2⟩ := lim
  exact ⟨kb, free ng, rfl, ⟨kb, free ng, ⟨mb, free nb, bb⟩, mc, free l1, l2⟩, fun b o e => of_hidT e, Nat.le_of_eq (hidT_size _ _), trivial, fun b hb => absurd hb List.not_mem_nil, ok, .of_eq gen⟩
theorem top_call {CX : CXT} {k : Nat} {fa : Addr} {fd : FuncData} {x : Str} {sp : Sp} (kin : K.In s₁.heap) (ng : s₁.heap.Ns mainGlobals mg) (nb : s₁.heap.Ns builtinsNs mb) (bb : ∀ x : Str, x ≠ "__name__" → mb x = bootBuiltins x) (lim : s₁.heap.NoLimit) (gen : s₁.gens = #[])
    (obj : s₁.heap.get? a = some { cls := .type "list", data := .seq vs.toArray }) (hin : IntsAre vs ns) (len : ns.length ≤ sizeLine) (room : Room k callerA)
    (F : ∀ base : Heap, K.In base → base.Ns mainGlobals mg → FnG P w K mg base CX k fa fd [x] sp) (bind : ∀ (s : Shared) (u : Value), BindsTo s fd ⟨[u], []⟩ [(x, u)])
    (want : ∀ H : Hp, Only H → SqL K H a (ns.map V.int) → sp [.ref a] H (fun v _ => v = .bl true) fun _ _ _ => False) (noX : ∀ H e s', CX [] H s₁ (fun _ _ _ => False) e s' → False) :
    codeAny (model P w) callerA (.call (.ref fa) ⟨[.ref a], []⟩) (fun r s' => r = .ok (.ret (.bool true)) ∧ OldK s₁.heap s'.heap ∧ s'.os = s₁.os ∧ AllBare s'.gens) s₁ := by
  have rv := vals_ints hin
  have ln := hin.length
  have main : ∀ H : Hp, Only H → SqL K H a (ns.map V.int) → HOk P w H s₁.heap → (∀ b, H b ≠ none → b = a) → (H a ≠ none → K.lookup a = none) →
      codeAny (model P w) callerA (.call (.ref fa) ⟨[.ref a], []⟩) (fun r s' => r = .ok (.ret (.bool true)) ∧ OldK s₁.heap s'.heap ∧ s'.os = s₁.os ∧ AllBare s'.gens) s₁ := by
    intro H hO hS ok only apart
    obtain ⟨kb, nsb, e0⟩ := env_top (P := P) (w := w) kin ng nb bb lim gen obj ok only apart
    refine codeAny_mono ((F _ kb nsb).go callerA [] s₁ H ⟨[.ref a], []⟩ [.ref a] [.ref a] _ _ rfl room e0 (bind s₁ (.ref a)) (.cons rfl .nil) (want H hO hS)) fun r s' h => ?_
    match r, h with
    | .error e, h => exact (noX H e s' h).elim
    | .ok .next, h => exact h.elim
    | .ok .brk, h => exact h.elim
    | .ok .cont, h => exact h.elim
    | .ok (.ret u), h =>
      obtain ⟨v, H', os, bare, un, ok', rr, q⟩ := h
      have q2 : v = .bl true := q
      subst q2
      obtain rfl : u = Value.bool true := rr
      refine ⟨rfl, OldK.of_keep fun b o e => ?_, os, bare⟩
      rcases hO b with z | ⟨ob, xs, z⟩
      · exact un.keep b o e z (fun y => absurd y List.not_mem_nil) List.not_mem_nil
      · have k1 := (ok b _ z).1
        have k2 := (ok' b _ (un.frzs b ob _ z)).1
        rw [e] at k1
        cases k1
        exact k2
  cases hk : K.lookup a with
  | some o =>
    have e := kin a o hk
    rw [obj] at e
    cases e
    refine main (fun _ => none) (fun _ => .inl rfl) (.inr ⟨_, vs.toArray, _, hk, rfl, rfl, rfl, ?_, rv⟩) (fun b u z => nomatch z) (fun b z => absurd rfl z) (fun z => absurd rfl z)
    rw [List.size_toArray, ln]
    exact len
  | none =>
    have at_a : (fun b => if b = a then some (HO.frz { cls := .type "list", data := .seq vs.toArray } (.lst (ns.map V.int))) else none : Hp) a = some (.frz { cls := .type "list", data := .seq vs.toArray } (.lst (ns.map V.int))) := if_pos rfl
    refine main (fun b => if b = a then some (.frz { cls := .type "list", data := .seq vs.toArray } (.lst (ns.map V.int))) else none) (fun b => ?_) (.inl (.inr ⟨_, at_a⟩)) (fun b u z => ?_) (fun b z => ?_) (fun _ => hk)
    · by_cases e : b = a
      · exact .inr ⟨_, _, if_pos e⟩
      · exact .inl (if_neg e)
    · by_cases e : b = a
      · subst e
        rw [at_a] at z
        cases z
        refine ⟨obj, ?_, vs, _, rv, obj⟩
        rw [List.length_map]
        exact len
      · have z2 := (if_neg e).symm.trans z
        cases z2
    · by_cases e : b = a
      · exact e
      · exact absurd (if_neg e) z
end
/-- the end of a law whose promise needs that no repr is under way -/
theorem walk_top {l : PySem.W.OpenLaw} {n k : Nat} {q : Program} {loose : List Str} {XP : (Str → Option Value) → Heap → Prop} {YP : World → Heap → Prop} {d : DefRec} {K : Params → PySem.W.Frag} {sp : World → Sp} {x : Str}
    (most : l.most = some n) (le : n ≤ sizeLine) (dflt : d.params.defaults = []) (room : Room k callerA) (hY : ∀ (w : World) (h : Heap), YP w h → (K w.params).In h)
    (F : ∀ (w : World) (mg : Str → Option Value) (fa : Addr) (h : Heap), (K w.params).In h → h.Ns mainGlobals mg → mg d.name = some (.ref fa) →
      ∃ fd : FuncData, (∀ (s : Shared) (u : Value), BindsTo s fd ⟨[u], []⟩ [(x, u)]) ∧ ∀ base : Heap, (K w.params).In base → base.Ns mainGlobals mg → FnG l.prog w (K w.params) mg base CX0 k fa fd [x] (sp w))
    (want : ∀ (w : World) (H : Hp) (a : Addr) (ns : List Int), ns.length ≤ n → Only H → SqL (K w.params) H a (ns.map V.int) → sp w [.ref a] H (fun v _ => v = .bl true) fun _ _ _ => False) :
    PySem.W.WalkO q loose XP YP l.row.toRowW d [] (fun f vs => PySem.call f vs) := by
  refine Att.attach_call most dflt fun w s₀ s₁ mg mb fa o pm cd doc a vs ns G Y ho hd hcd hmg hobj hints hlen hg => ?_
  obtain ⟨fd, hb, hF⟩ := F w mg fa _ (hY w _ Y) G.T.g hmg
  exact top_call (hY w _ Y) G.T.g G.T.b G.T.builtins G.T.nolimit hg hobj hints (Nat.le_trans hlen le) room hF hb (fun H hO hS => want w H a ns hlen hO hS) (fun _ _ _ h => h)
end DS
namespace DS
open PySem PySem.Spec PyProof.Rows L2
/-! ### values of any kind, dicts among them -/
/-- a key as data -/
def kD : L2.Key → PyData
  | .inl i => .int i
  | .inr x => .str x
def kT (k : List L2.Key) : PyData := .tuple (k.map kD)
mutual
inductive Dx (K : PySem.W.Frag) (H : Hp) : V → PyData → Prop
  | non : Dx K H .non .none
  | bl (b : Bool) : Dx K H (.bl b) (.bool b)
  | int (i : Int) : Dx K H (.int i) (.int i)
  | str (x : Str) : Dx K H (.str x) (.str x)
  | lst {a : Addr} {xs : List V} {ds : List PyData} (h : SqL K H a xs) (r : DxAll K H xs ds) : Dx K H (.ref a) (.list ds)
  | tup {a : Addr} {xs : List V} {ds : List PyData} (h : SqT K H a xs) (r : DxAll K H xs ds) : Dx K H (.ref a) (.tuple ds)
  | dic {a : Addr} {kvs : List (L2.Key × V)} {ds : List PyData} {es : List (PyData × PyData)} (h : H a = some (.dK kvs)) (r : DxAll K H (kvs.map (·.2)) ds) (e : es = (kvs.map fun p => kD p.1).zip ds) : Dx K H (.ref a) (.dict es)
  | dct {a : Addr} {kvs : List (List L2.Key × V)} {ds : List PyData} {es : List (PyData × PyData)} (h : H a = some (.dT kvs)) (r : DxAll K H (kvs.map (·.2)) ds) (e : es = (kvs.map fun p => kT p.1).zip ds) : Dx K H (.ref a) (.dict es)
inductive DxAll (K : PySem.W.Frag) (H : Hp) : List V → List PyData → Prop
  | nil : DxAll K H [] []
  | cons {v : V} {vs : List V} {d : PyData} {ds : List PyData} (h : Dx K H v d) (r : DxAll K H vs ds) : DxAll K H (v :: vs) (d :: ds)
end
/-! the same of the machine's heap -/
mutual
inductive Rx (h : Heap) : Value → PyData → Prop
  | non : Rx h .none .none
  | bl (b : Bool) : Rx h (.bool b) (.bool b)
  | int (i : Int) (t : Tok) : Rx h (.int i t) (.int i)
  | str (x : Str) (t : Tok) : Rx h (.str x t) (.str x)
  | lst {a : Addr} {o : Obj} {n : Nat} {vs : List Value} {ds : List PyData} (h1 : h.get? a = some o) (h2 : o.cls = .type "list") (h3 : o.data = .seq vs.toArray n) (h4 : RxAll h vs ds) : Rx h (.ref a) (.list ds)
  | tup {a : Addr} {o : Obj} {n : Nat} {vs : List Value} {ds : List PyData} (h1 : h.get? a = some o) (h2 : o.cls = .type "tuple") (h3 : o.data = .seq vs.toArray n) (h4 : RxAll h vs ds) : Rx h (.ref a) (.tuple ds)
  | dic {a : Addr} {o : Obj} {n : Nat} {es : Array DictEntry} {kvs : List (PyData × PyData)} (h1 : h.get? a = some o) (h2 : o.cls = .type "dict") (h3 : o.data = .dict es n) (h4 : (a == sysModules) = false) (h5 : RxAll h (es.toList.map (·.key)) (kvs.map (·.1))) (h6 : RxAll h (es.toList.map (·.val)) (kvs.map (·.2))) : Rx h (.ref a) (.dict kvs)
inductive RxAll (h : Heap) : List Value → List PyData → Prop
  | nil : RxAll h [] []
  | cons {v : Value} {vs : List Value} {d : PyData} {ds : List PyData} (h1 : Rx h v d) (h2 : RxAll h vs ds) : RxAll h (v :: vs) (d :: ds)
end
theorem DxAll.length {K : PySem.W.Frag} {H : Hp} : ∀ {vs : List V} {ds : List PyData}, DxAll K H vs ds → vs.length = ds.length
  | _, _, .nil => rfl
  | _, _, .cons _ r => by rw [List.length_cons, List.length_cons, r.length]
theorem fst_zip {α β : Type} : ∀ {l : List α} {m : List β}, l.length = m.length → (l.zip m).map (·.1) = l
  | [], _, _ => by simp
  | x :: l, [], h => nomatch h
  | x :: l, y :: m, h => by
    rw [List.zip_cons_cons, List.map_cons, fst_zip (Nat.succ.inj h)]
theorem snd_zip {α β : Type} : ∀ {l : List α} {m : List β}, l.length = m.length → (l.zip m).map (·.2) = m
  | [], [], _ => rfl
  | [], y :: m, h => nomatch h
  | x :: l, [], h => nomatch h
  | x :: l, y :: m, h => by
    rw [List.zip_cons_cons, List.map_cons, snd_zip (Nat.succ.inj h)]
theorem rx_key {h : Heap} {k : L2.Key} {u : Value} (e : RelV (kV k) u) : Rx h u (kD k) := by
  cases k with
  | inl i => obtain ⟨t, rfl⟩ := e; exact .int i t
  | inr x => obtain ⟨t, rfl⟩ := e; exact .str x t
theorem rx_keys {h : Heap} : ∀ {ks : List L2.Key} {us : List Value}, Vals (ks.map kV) us → RxAll h us (ks.map kD)
  | [], _, .nil => .nil
  | k :: ks, _, .cons r t => .cons (rx_key r) (rx_keys t)
theorem rx_mix {P : Program} {w : World} {h : Heap} : ∀ {kvs : List (L2.Key × V)} {vs : List (L2.Key × Value)} {es : List DictEntry}, KV kvs vs → Pairs (mixKind P w) es vs → RxAll h (es.map (·.key)) (kvs.map fun p => kD p.1) ∧ Vals (kvs.map (·.2)) (es.map (·.val))
  | _, _, _, .nil, .nil => ⟨.nil, .nil⟩
  | _, _, _, .cons (a := p) (b := q) z t, .cons (e := e) k1 k2 r => by
    obtain ⟨i1, i2⟩ := rx_mix (h := h) t r
    refine ⟨.cons ?_ i1, .cons ?_ i2⟩
    · rcases keyIs_shape (show keyIs q.1 e.key = true from k1) with ⟨i, u, e1, e2⟩ | ⟨x, u, e1, e2⟩
      · show Rx h e.key (kD p.1)
        rw [z.1, e1, e2]
        exact .int i u
      · show Rx h e.key (kD p.1)
        rw [z.1, e1, e2]
        exact .str x u
    · show RelV p.2 e.val
      rw [k2]
      exact z.2
section
variable {X : Cx} {pins : List (Addr × Obj)} {σ : L2.St} {H : Hp} {s : Shared}
theorem rx_tups (I : Inv X pins σ H s) : ∀ {kvs : List (List L2.Key × V)} {xs : List (List L2.Key × Addr × Value)}, Paired (fun (p : List L2.Key × V) (q : List L2.Key × Addr × Value) => p.1 = q.1 ∧ H q.2.1 = some (.tup (p.1.map kV)) ∧ RelV p.2 q.2.2) kvs xs → RxAll s.heap (xs.map fun x => Value.ref x.2.1) (kvs.map fun p => kT p.1) ∧ Vals (kvs.map (·.2)) (xs.map fun x => x.2.2)
  | _, _, .nil => ⟨.nil, .nil⟩
  | _, _, .cons z t => by
    obtain ⟨i1, i2⟩ := rx_tups I t
    refine ⟨.cons ?_ i1, .cons z.2.2 i2⟩
    obtain ⟨its, rv, ⟨o, ho, hc, n, hd⟩, _⟩ := I.tuple (.inl (.inl z.2.1))
    exact .tup ho hc hd (rx_keys rv)
mutual
theorem Dx.rx (I : Inv X pins σ H s) : ∀ {v : V} {u : Value} {d : PyData}, Dx X.K H v d → RelV v u → Rx s.heap u d
  | _, _, _, .non, r => by cases r; exact .non
  | _, _, _, .bl b, r => by cases r; exact .bl b
  | _, _, _, .int i, r => by obtain ⟨t, rfl⟩ := r; exact .int i t
  | _, _, _, .str x, r => by obtain ⟨t, rfl⟩ := r; exact .str x t
  | _, _, _, .lst h a, r => by
    cases r
    obtain ⟨its, rv, ⟨o, n, ho, hc, _, hd⟩, _⟩ := I.list h
    exact .lst ho hc hd (DxAll.rx I a rv)
  | _, _, _, .tup h a, r => by
    cases r
    obtain ⟨its, rv, ⟨o, ho, hc, n, hd⟩, _⟩ := I.tuple h
    exact .tup ho hc hd (DxAll.rx I a rv)
  | _, _, _, .dic (kvs := kvs) (ds := ds) h a e, r => by
    cases r
    subst e
    obtain ⟨_, hs, vs, kv, o, es, ep, ho, hx, hd, hk, hp, _⟩ := I.hok _ _ h
    obtain ⟨k1, k2⟩ := rx_mix (h := s.heap) kv hp
    have len := a.length
    rw [List.length_map] at len
    refine .dic ho hx.1 hd hs ?_ ?_
    · rw [fst_zip (by rw [List.length_map]; exact len)]
      exact k1
    · rw [snd_zip (by rw [List.length_map]; exact len)]
      exact DxAll.rx I a k2
  | _, _, _, .dct (kvs := kvs) (ds := ds) h a e, r => by
    cases r
    subst e
    obtain ⟨_, hs, xs, kv, o, es, ep, ho, hx, hd, hk, _⟩ := I.hok _ _ h
    obtain ⟨k1, k2⟩ := rx_tups I kv
    have len := a.length
    rw [List.length_map] at len
    have m1 : es.toList.map (·.key) = xs.map fun x => Value.ref x.2.1 := by rw [hk, List.map_map]; rfl
    have m2 : es.toList.map (·.val) = xs.map fun x => x.2.2 := by rw [hk, List.map_map]; rfl
    refine .dic ho hx.1 hd hs ?_ ?_
    · rw [fst_zip (by rw [List.length_map]; exact len), m1]
      exact k1
    · rw [snd_zip (by rw [List.length_map]; exact len), m2]
      exact DxAll.rx I a k2
theorem DxAll.rx (I : Inv X pins σ H s) : ∀ {vs : List V} {us : List Value} {ds : List PyData}, DxAll X.K H vs ds → Vals vs us → RxAll s.heap us ds
  | _, _, _, .nil, r => by cases r; exact .nil
  | _, _, _, .cons h a, r => by
    cases r with
    | cons r1 r2 => exact .cons (Dx.rx I h r1) (DxAll.rx I a r2)
end
end
section
variable {h : Heap}
mutual
theorem Rx.reads : ∀ {u : Value} {d : PyData}, Rx h u d → ∃ as, Reads h u d as
  | _, _, .non => ⟨_, .none⟩
  | _, _, .bl b => ⟨_, .bool b⟩
  | _, _, .int i t => ⟨_, .int i t⟩
  | _, _, .str x t => ⟨_, .str x t⟩
  | _, _, .lst h1 h2 h3 h4 => by
    obtain ⟨as, r⟩ := RxAll.reads h4
    exact ⟨_, .list h1 h2 h3 r⟩
  | _, _, .tup h1 h2 h3 h4 => by
    obtain ⟨as, r⟩ := RxAll.reads h4
    exact ⟨_, .tuple h1 h2 h3 r⟩
  | _, _, .dic h1 h2 h3 h4 h5 h6 => by
    obtain ⟨as, r⟩ := RxAll.reads h5
    obtain ⟨bs, q⟩ := RxAll.reads h6
    exact ⟨_, .dict h1 h2 h3 r q⟩
theorem RxAll.reads : ∀ {us : List Value} {ds : List PyData}, RxAll h us ds → ∃ as, ReadsAll h us ds as
  | _, _, .nil => ⟨_, .nil⟩
  | _, _, .cons h1 h2 => by
    obtain ⟨as, r⟩ := Rx.reads h1
    obtain ⟨bs, q⟩ := RxAll.reads h2
    exact ⟨_, .cons r q⟩
end
variable {prog : Program} {w : World}
end
end DS
namespace DS
open PySem PySem.Spec PyProof.Rows L2
/-! ### enumerate of a tuple, of a text -/
/-- n pairs (i, f i), while G stands -/
def Itp (G : Hp → Prop) (n : Nat) (f : Nat → V) : It :=
  ⟨fun i H => i < n ∧ G H, fun i H v H' => ∃ T, v = .ref T ∧ H T = none ∧ H' = upd H T (.tup [.int (i : Nat), f i]), fun i H => i = n ∧ G H⟩
section
variable {prog : Program} {w : World} {A : Around} {E : Value → Shared → Prop} {s : Shared}
set_option maxHeartbeats 1000000 in
theorem new_enumT (l : Addr) (items : Array Value) (n : Nat) (dct : Option Addr) (sl : Array (Option Value)) :
    Meets (Builtin.«enumerate.__new__» ⟨[.type "enumerate", .ref l], []⟩) (fun _ R s => s.heap.get? l = some { cls := .type "tuple", dict := dct, data := .seq items n, slots := sl } ∧
      R (.ok (.ret (.ref (s.heap.push { cls := .type "tuple_iterator", data := .fields #[.ref l, .int 0 0] }).objs.size)))
        { s with heap := (s.heap.push { cls := .type "tuple_iterator", data := .fields #[.ref l, .int 0 0] }).push { cls := .type "enumerate", data := .fields #[.none, .bool false, .ref s.heap.objs.size, rawInt 0, .none, .none] } }) :=
  .of_wp fun prog w A R s h => by
    obtain ⟨hp, g, d, tk, os⟩ := s
    obtain ⟨hl, h⟩ := h
    have hsub := sub_enumerate
    have hL : Heap.IsTuple (Shared.heap ⟨hp, g, d, tk, os⟩) l items := ⟨_, hl, rfl, n, rfl⟩
    wp_walk using AutoSeq1.wpAny_loadPart' hl
    refine wpAny_stack_any fun st => wpAny_pure ?_
    split
    · rename_i c _ _ _ _ _
      cases (c == Value.type "enumerate")
      · wp_walk using AutoSeq1.wpAny_loadPart' hl, wpAny_pyIter_tuple hL
        exact ⟨_, rfl, h⟩
      · wp_walk using AutoSeq1.wpAny_loadPart' hl, wpAny_pyIter_tuple hL
        exact ⟨_, rfl, h⟩
    · wp_walk using AutoSeq1.wpAny_loadPart' hl, wpAny_pyIter_tuple hL
      exact ⟨_, rfl, h⟩
theorem call_enumT {l : Addr} {items : Array Value} {Q : Value → Shared → Prop} (hL : s.heap.IsTuple l items)
    (h : ∀ h', IsEnum h' (s.heap.objs.size + 1) s.heap.objs.size 0 .none → h'.IsTupleIter s.heap.objs.size l 0 → (∀ b o, s.heap.get? b = some o → h'.get? b = some o) → Q (.ref (s.heap.objs.size + 1)) { s with heap := h' }) :
    wpAny (model prog w) A (call (.type "enumerate") [.ref l]) Q E s := by
  obtain ⟨⟨c, dct, dt, sl⟩, hl, hc, n, hd⟩ := hL
  simp only at hc hd
  subst hc hd
  refine callType_new F.called_enumerate (by decide) (F.typeCall_enumerate_1 _) (F.newCall_enumerate_1 _) (fun obj => F.args_object_init_2 obj _) F.entry_enumerate_new (new_enumT l items n dct sl) ⟨hl, ?_⟩
  have hz : (s.heap.push { cls := .type "tuple_iterator", data := .fields #[.ref l, .int 0 0] }).objs.size = s.heap.objs.size + 1 := Heap.size_push ..
  show _ ∧ _
  rw [hz]
  have he : IsEnum ((s.heap.push { cls := .type "tuple_iterator", data := .fields #[.ref l, .int 0 0] }).push { cls := .type "enumerate", data := .fields #[.none, .bool false, .ref s.heap.objs.size, rawInt 0, .none, .none] }) (s.heap.objs.size + 1) s.heap.objs.size 0 .none := by
    have e := Heap.get?_push_size (s.heap.push { cls := .type "tuple_iterator", data := .fields #[.ref l, .int 0 0] }) (o := { cls := .type "enumerate", data := .fields #[.none, .bool false, .ref s.heap.objs.size, rawInt 0, .none, .none] }) rfl
    rw [hz] at e
    exact e
  refine ⟨⟨_, he, rfl⟩, h _ he ⟨_, Heap.get?_push_of_some _ (Heap.get?_push_size _ rfl), rfl, rfl⟩ fun b o x => Heap.get?_push_of_some _ (Heap.get?_push_of_some _ x)⟩
end
/-- what an enumerate over some iterator it needs: L tells where it stands, and from G and L its draws -/
theorem turn_pairs {P : Program} {w : World} {K : PySem.W.Frag} {elts : List Expr} {kk : Nat} {tpos : Pos} {e it : Addr} {G : Hp → Prop} {n : Nat} {f : Nat → V} {L : Nat → Heap → Prop}
    (live : ∀ i h, L i h → ∃ o, h.get? it = some o ∧ ∀ v, o.data ≠ .cell v) (keep : ∀ i h h', L i h → (∀ o, h.get? it = some o → h'.get? it = some o) → L i h')
    (dr : ∀ (X : Cx), X.prog = P → X.w = w → X.K = K → X.calm = true → ∀ (pins : List (Addr × Obj)) (s : Shared) (σ : L2.St) (H : Hp), Inv X pins σ H s → FpOk X pins H it → FpOk X pins H e → G H →
      ∀ i : Nat, L i s.heap → (∃ old, IsEnum s.heap e it ((i : Nat) : Int) old) → e ≠ it → ∃ (fp : List Addr) (Pd : Nat → Value → Prop) (St : Nat → Heap → Prop), Draws P w X.A.in1 it fp n Pd St ∧ e ∉ fp ∧ (∀ i, L i s.heap → St i s.heap) ∧ (∀ i h, St i h → L i h) ∧ ∀ i u, i < n → Pd i u → RelV (f i) u) :
    Turn P w K (.Tuple elts kk tpos) (Itp G n f) [e, it] e (fun i h => (∃ old, IsEnum h e it ((i : Nat) : Int) old) ∧ L i h ∧ e ≠ it) where
  mem := List.mem_cons_self
  obj := fun i h st b hb => by
    obtain ⟨⟨old, he⟩, hl, _⟩ := st
    rcases List.mem_cons.mp hb with z | z
    · rw [z]
      exact ⟨_, he, fun v q => nomatch q⟩
    · rw [List.mem_singleton.mp z]
      exact live i h hl
  keep := fun i h h' st k => by
    obtain ⟨⟨old, he⟩, hl, hne⟩ := st
    exact ⟨⟨old, k e List.mem_cons_self _ he⟩, keep i h h' hl fun o q => k it (List.mem_cons_of_mem _ List.mem_cons_self) o q, hne⟩
  item := by
    intro X hP hw hK hc i pins s σ H E I hf st hg
    obtain ⟨⟨old, he⟩, hl, hne⟩ := st
    have fit := hf it (List.mem_cons_of_mem _ List.mem_cons_self)
    have fe := hf e List.mem_cons_self
    obtain ⟨fp, Pd, St, D, nfp, inn, outt, rel⟩ := dr X hP hw hK hc pins s σ H I fit fe hg.2 i hl ⟨old, he⟩ hne
    subst hP hw hK
    have hel : e < s.heap.objs.size := Heap.lt_size he
    have hil : it < s.heap.objs.size := by
      obtain ⟨o, q, _⟩ := live i _ hl
      exact Heap.lt_size q
    refine wpAny_pyNext_enum_itemD D he (inn i hl) hg.1 hne nfp fun u h' tk hPu ho hst' hT hsz hk => ?_
    refine ⟨_, rfl, wpAny_letOwnedTupleGo_enum (s := { s with heap := h', toks := tk + 1 }) ho fun h'' he' sb => ?_⟩
    have hT2 : h''.get? s.heap.objs.size = some { cls := .type "tuple", data := .seq #[.int i tk, u] } := (sb.2 _ (Nat.ne_of_gt hel)).trans hT
    have new : ObjOk X.prog X.w (upd H s.heap.objs.size (.tup [.int (i : Nat), f i])) h'' s.heap.objs.size (.tup [.int (i : Nat), f i]) :=
      ⟨(show 2 ≤ sizeLine by decide), [.int i tk, u], .cons ⟨_, rfl⟩ (.cons (rel i u hg.1 hPu) .nil), ⟨_, hT2, rfl, _, rfl⟩⟩
    have I1 : Inv X pins σ (upd H s.heap.objs.size (.tup [.int (i : Nat), f i])) { s with heap := h'', toks := tk + 1 } := by
      refine I.turnedNew (ch := [e, it]) (fun b ob hb q => ?_) hf (Nat.le_refl _) new
      have b1 : b ≠ e := fun z => hb (by rw [z]; exact List.mem_cons_self)
      have b2 : b ≠ it := fun z => hb (by rw [z]; exact List.mem_cons_of_mem _ List.mem_cons_self)
      exact (sb.2 b b1).trans (hk b ob b1 b2 q)
    refine ⟨.ref s.heap.objs.size, _, I1, rfl, ⟨_, rfl, I.hok.fresh (Nat.le_refl _), rfl⟩, ⟨⟨u, ?_⟩, keep _ _ _ (outt _ _ hst') fun o q => (sb.2 it (Ne.symm hne)).trans q, hne⟩, fun b hb => ?_⟩
    · have e1 : ((i + 1 : Nat) : Int) = (i : Int) + 1 := by omega
      rw [e1]
      exact he'
    · have hb' : b < s.heap.objs.size := by
        rcases List.mem_cons.mp hb with z | z
        · rw [z]
          exact hel
        · rw [List.mem_singleton.mp z]
          exact hil
      rw [upd_ne (Nat.ne_of_lt hb')]
      exact (hf b hb).1
  done := by
    intro X hP hw hK hc i pins s σ H E I hf st hg
    obtain ⟨⟨old, he⟩, hl, hne⟩ := st
    have fit := hf it (List.mem_cons_of_mem _ List.mem_cons_self)
    have fe := hf e List.mem_cons_self
    obtain ⟨fp, Pd, St, D, nfp, inn, outt, rel⟩ := dr X hP hw hK hc pins s σ H I fit fe hg.2 i hl ⟨old, he⟩ hne
    subst hP hw hK
    obtain ⟨rfl, _⟩ := hg
    obtain ⟨f0, f1, f2, f3, f4, f5⟩ := fit
    exact wpAny_pyNext_enum_endD D he (inn _ hl) fun h' eb => ⟨rfl, I.turned (t' := s.toks) (fun b o hb q => eb b o hb q) f0 f1 f3 f4 f5⟩
  self := fun A i s Q E st h => by
    obtain ⟨⟨_, he⟩, _⟩ := st
    exact wpAny_pyIter_enum he h
/-! as rules -/
section
variable {X : Cx}
theorem pi_pairs {pins : List (Addr × Obj)} {σ : L2.St} {H : Hp} {s : Shared} {elts : List Expr} {kk : Nat} {tpos : Pos} {R : It → Hp → Prop} {J : It} {L : Nat → Heap → Prop} {h' : Heap} {Er : Value → Shared → Prop} (I : Inv X pins σ H s)
    (he : IsEnum h' (s.heap.objs.size + 1) s.heap.objs.size 0 .none) (hit : L 0 h') (hk : ∀ b o, s.heap.get? b = some o → h'.get? b = some o)
    (T : Turn X.prog X.w X.K (.Tuple elts kk tpos) J [s.heap.objs.size + 1, s.heap.objs.size] (s.heap.objs.size + 1) (fun i h => (∃ old, IsEnum h (s.heap.objs.size + 1) s.heap.objs.size ((i : Nat) : Int) old) ∧ L i h ∧ s.heap.objs.size + 1 ≠ s.heap.objs.size)) (q : R J H) :
    wpAny (model X.prog X.w) X.A (pyIter (.ref (s.heap.objs.size + 1))) (PIE X pins σ (.Tuple elts kk tpos) R) Er { s with heap := h' } := by
  refine wpAny_pyIter_enum he ?_
  refine ⟨s.heap.objs.size + 1, [s.heap.objs.size + 1, s.heap.objs.size], _, _, H, rfl, I.kept (t' := s.toks) hk, T, ⟨⟨.none, he⟩, hit, Nat.succ_ne_self _⟩, fun b hb => ?_, q⟩
  have hle : s.heap.objs.size ≤ b := by
    rcases List.mem_cons.mp hb with z | z
    · rw [z]
      exact Nat.le_succ _
    · rw [List.mem_singleton.mp z]
      exact Nat.le_refl _
  exact I.fpOk hle (I.hok.fresh hle)
def iEnumT (K : PySem.W.Frag) (ta : TA) : TI := fun σ H R => ta σ H fun vs H1 => ∃ a xs, vs = [.ref a] ∧ SqT K H1 a xs ∧ R (Itp (fun H => SqT K H a xs) xs.length (fun i => xs.getD i .non)) H1
theorem pi_enumT {e : Expr} {ta : TA} {p pos tpos : Pos} {elts : List Expr} {kk : Nat} (hg : Gl X "enumerate") (hm : X.mg "enumerate" = none) (ha : PA X [e] ta) (hs : starEach [e] X.env = [(false, eval e X.env)] := by rfl) :
    PI X (.Tuple elts kk tpos) (.Call (.Name "enumerate" p) [e] [] pos) (iEnumT X.K ta) := by
  refine ⟨fun pins s σ H R I h => ?_⟩
  refine Call_ (ld_blt I hg hm boot_enumerate (PyProof.Rows.callWith_type1 (thn (ha.run pos pins s σ H _ I h) fun us s1 ⟨vs, H1, I1, r1, q1⟩ => ?_) hs rfl))
  obtain ⟨a, xs, ex, hq, q⟩ := q1
  subst ex
  obtain ⟨u, rfl, ru⟩ := vals1 r1
  obtain rfl : u = Value.ref a := ru
  obtain ⟨its, rv, p', hz⟩ := I1.tuple hq
  refine call_enumT (show s1.heap.IsTuple a its.toArray from p') fun h' he hit hk => ?_
  refine pi_pairs (L := fun i h => h.IsTupleIter s1.heap.objs.size a i) I1 he hit hk (turn_pairs (fun i h hl => ?_) (fun i h h' hl k => ?_) ?_) q
  · obtain ⟨o, ho, hc, hd⟩ := hl
    exact ⟨o, ho, fun v q => by rw [hd] at q; cases q⟩
  · exact hl.at k
  · intro Y hP hw hK hc pins2 s2 σ2 H2 I2 f1 f2 g i hl hen hne
    rw [← hK] at g
    obtain ⟨its2, rv2, p2, _⟩ := I2.tuple g
    have hai : a ≠ s1.heap.objs.size := fun z => by
      obtain ⟨o, ho, hc, hd⟩ := hl
      obtain ⟨o2, ho2, hc2, _⟩ := p2
      rw [z, ho] at ho2
      cases ho2
      rw [hc] at hc2
      exact absurd (Value.type.inj hc2) (by decide)
    have hea : s1.heap.objs.size + 1 ≠ a := fun z => by
      obtain ⟨old, ho⟩ := hen
      obtain ⟨o2, ho2, hc2, _⟩ := p2
      rw [← z] at ho2
      have e := ho.symm.trans ho2
      cases e
      exact absurd (Value.type.inj hc2) (by decide)
    have ln : its2.toArray.size = xs.length := by rw [List.size_toArray, ← rv2.length]
    have D := Draws.tuple (prog := X.prog) (w := X.w) (A := Y.A.in1) (I2.ok.hd hc) s1.heap.objs.size a hai its2.toArray
    rw [ln] at D
    refine ⟨_, _, _, D, fun hm => ?_, fun i hl => ⟨hl, p2⟩, fun i h hst => hst.1, fun i u hi hu => ?_⟩
    · rcases List.mem_cons.mp hm with z | z
      · exact hne z
      · exact hea (List.mem_singleton.mp z)
    · have hx : xs[i]? = some xs[i] := List.getElem?_eq_getElem hi
      obtain ⟨u', hu', ru'⟩ := rv2.get hx
      have : u = u' := by
        have h1 : its2[i]? = some u := by simpa using hu
        rw [hu'] at h1
        exact (Option.some.inj h1).symm
      rw [this, List.getD_eq_getElem?_getD, hx]
      exact ru'
def iEnumS (ta : TA) : TI := fun σ H R => ta σ H fun vs H1 => ∃ x : Str, vs = [.str x] ∧ R (Itp (fun _ => True) x.cps.size (fun i => .str ⟨#[x.cps.getD i 0]⟩)) H1
theorem pi_enumS {e : Expr} {ta : TA} {p pos tpos : Pos} {elts : List Expr} {kk : Nat} (hg : Gl X "enumerate") (hm : X.mg "enumerate" = none) (ha : PA X [e] ta) (hs : starEach [e] X.env = [(false, eval e X.env)] := by rfl) :
    PI X (.Tuple elts kk tpos) (.Call (.Name "enumerate" p) [e] [] pos) (iEnumS ta) := by
  refine ⟨fun pins s σ H R I h => ?_⟩
  refine Call_ (ld_blt I hg hm boot_enumerate (PyProof.Rows.callWith_type1 (thn (ha.run pos pins s σ H _ I h) fun us s1 ⟨vs, H1, I1, r1, q1⟩ => ?_) hs rfl))
  obtain ⟨x, ex, q⟩ := q1
  subst ex
  obtain ⟨u, rfl, t, rfl⟩ := vals1 r1
  refine call_enumerate_str fun h' he hit _ hk => ?_
  refine pi_pairs (L := fun i h => h.IsStrIter s1.heap.objs.size (strIterType x) x t i) I1 he hit hk (turn_pairs (fun i h hl => ?_) (fun i h h' hl k => ?_) ?_) q
  · obtain ⟨o, ho, hc, hd⟩ := hl
    exact ⟨o, ho, fun v q => by rw [hd] at q; cases q⟩
  · obtain ⟨o, ho, hr⟩ := hl
    exact ⟨o, k o ho, hr⟩
  · intro Y hP hw hK hc pins2 s2 σ2 H2 I2 f1 f2 g i hl hen hne
    have D := Draws.text (prog := X.prog) (w := X.w) (A := Y.A.in1) (I2.ok.hd hc) s1.heap.objs.size x t
    refine ⟨_, _, _, D, fun hm => hne (List.mem_singleton.mp hm), fun i hl => hl, fun i h hst => hst, fun i u hi hu => ?_⟩
    obtain ⟨c, tk, hc, rfl⟩ := hu
    have e : x.cps.getD i 0 = c := by
      rw [Array.getD_eq_getD_getElem?, hc]
      rfl
    show RelV (.str ⟨#[x.cps.getD i 0]⟩) _
    rw [e]
    exact ⟨tk, rfl⟩
end
/-! what a for and a comprehension over such pairs ask -/
end DS
namespace DS
open PySem PySem.Spec PyProof.Rows L2
/-! ### data: the heap with some addresses hidden -/
abbrev Hid := Addr → Prop
open Classical in
noncomputable def Fz (O : Hid) (H : Hp) : Hp := fun a => if O a then none else H a
theorem fz_in {O : Hid} {H : Hp} {a : Addr} (h : O a) : Fz O H a = none := by unfold Fz; rw [if_pos h]
theorem fz_out {O : Hid} {H : Hp} {a : Addr} (h : ¬ O a) : Fz O H a = H a := by unfold Fz; rw [if_neg h]
theorem fz_get {O : Hid} {H : Hp} {a : Addr} {o : HO} (h : Fz O H a = some o) : H a = some o ∧ ¬ O a := by
  by_cases k : O a
  · rw [fz_in k] at h
    cases h
  · rw [fz_out k] at h
    exact ⟨h, k⟩
theorem fz_sub (O : Hid) (H : Hp) : Same (Fz O H) H := fun _ _ h => (fz_get h).1
theorem _root_.L2.Same.fz {H H' : Hp} (s : Same H H') (O : Hid) : Same (Fz O H) (Fz O H') := fun b o h => by
  obtain ⟨h1, h2⟩ := fz_get h
  rw [fz_out h2]
  exact s b o h1
theorem fz_less {O O' : Hid} (h : ∀ b, O' b → O b) (H : Hp) : Same (Fz O H) (Fz O' H) := fun b o e => by
  obtain ⟨h1, h2⟩ := fz_get e
  rw [fz_out fun z => h2 (h b z)]
  exact h1
/-- what is hidden is there -/
def Al (O : Hid) (H : Hp) : Prop := ∀ a, O a → H a ≠ none
theorem Al.same {O : Hid} {H H' : Hp} (h : Al O H) (s : Same H H') : Al O H' := fun a z => by
  cases e : H a with
  | none => exact absurd e (h a z)
  | some o => rw [s a o e]; exact fun q => nomatch q
theorem Al.new {O : Hid} {H : Hp} {p : Addr} (h : Al O H) (n : H p = none) : ¬ O p := fun z => h p z n
theorem fz_upd {O : Hid} {H : Hp} {p : Addr} {o : HO} (h : O p) : Fz O (upd H p o) = Fz O H := by
  funext b
  by_cases k : O b
  · rw [fz_in k, fz_in k]
  · rw [fz_out k, fz_out k, upd_ne fun z => k (by rw [z]; exact h)]
theorem sqT_same {K : PySem.W.Frag} {H H' : Hp} {a : Addr} {xs : List V} (e : Same H H') (h : SqT K H a xs) : SqT K H' a xs := by
  rcases h with (h | ⟨o, h⟩) | h
  · exact .inl (.inl (e a _ h))
  · exact .inl (.inr ⟨o, e a _ h⟩)
  · exact .inr h
mutual
theorem Dx.same {K : PySem.W.Frag} {H H' : Hp} (s : Same H H') : ∀ {v : V} {d : PyData}, Dx K H v d → Dx K H' v d
  | _, _, .non => .non
  | _, _, .bl b => .bl b
  | _, _, .int i => .int i
  | _, _, .str x => .str x
  | _, _, .lst h r => .lst (s.seq h) (DxAll.same s r)
  | _, _, .tup h r => .tup (sqT_same s h) (DxAll.same s r)
  | _, _, .dic h r e => .dic (s _ _ h) (DxAll.same s r) e
  | _, _, .dct h r e => .dct (s _ _ h) (DxAll.same s r) e
theorem DxAll.same {K : PySem.W.Frag} {H H' : Hp} (s : Same H H') : ∀ {vs : List V} {ds : List PyData}, DxAll K H vs ds → DxAll K H' vs ds
  | _, _, .nil => .nil
  | _, _, .cons h r => .cons (Dx.same s h) (DxAll.same s r)
end
theorem DxAll.len {K : PySem.W.Frag} {H : Hp} : ∀ {vs : List V} {ds : List PyData}, DxAll K H vs ds → vs.length = ds.length
  | _, _, .nil => rfl
  | _, _, .cons _ r => by rw [List.length_cons, List.length_cons, r.len]
theorem DxAll.get {K : PySem.W.Frag} {H : Hp} : ∀ {vs : List V} {ds : List PyData} {i : Nat} {d : PyData}, DxAll K H vs ds → ds[i]? = some d → ∃ v, vs[i]? = some v ∧ Dx K H v d
  | _, _, _, _, .nil, e => by simp at e
  | _, _, 0, _, .cons h _, e => by simp at e; subst e; exact ⟨_, rfl, h⟩
  | _, _, i + 1, d, .cons _ r, e => by
    obtain ⟨v, h1, h2⟩ := DxAll.get (i := i) (d := d) r (by simpa using e)
    exact ⟨v, by simpa using h1, h2⟩
theorem DxAll.get' {K : PySem.W.Frag} {H : Hp} : ∀ {vs : List V} {ds : List PyData} {i : Nat} {v : V}, DxAll K H vs ds → vs[i]? = some v → ∃ d, ds[i]? = some d ∧ Dx K H v d
  | _, _, _, _, .nil, e => by simp at e
  | _, _, 0, _, .cons h _, e => by simp at e; subst e; exact ⟨_, rfl, h⟩
  | _, _, i + 1, v, .cons _ r, e => by
    obtain ⟨d, h1, h2⟩ := DxAll.get' (i := i) (v := v) r (by simpa using e)
    exact ⟨d, by simpa using h1, h2⟩
theorem DxAll.append {K : PySem.W.Frag} {H : Hp} : ∀ {vs us : List V} {ds es : List PyData}, DxAll K H vs ds → DxAll K H us es → DxAll K H (vs ++ us) (ds ++ es)
  | _, _, _, _, .nil, k => k
  | _, _, _, _, .cons h r, k => .cons h (r.append k)
theorem DxAll.take {K : PySem.W.Frag} {H : Hp} : ∀ {vs : List V} {ds : List PyData} (n : Nat), DxAll K H vs ds → DxAll K H (vs.take n) (ds.take n)
  | _, _, 0, _ => .nil
  | _, _, _ + 1, .nil => .nil
  | _, _, n + 1, .cons h r => .cons h (r.take n)
theorem DxAll.drop {K : PySem.W.Frag} {H : Hp} : ∀ {vs : List V} {ds : List PyData} (n : Nat), DxAll K H vs ds → DxAll K H (vs.drop n) (ds.drop n)
  | _, _, 0, h => h
  | _, _, _ + 1, .nil => .nil
  | _, _, n + 1, .cons _ r => r.drop n
theorem DxAll.reverse {K : PySem.W.Frag} {H : Hp} : ∀ {vs : List V} {ds : List PyData}, DxAll K H vs ds → DxAll K H vs.reverse ds.reverse
  | _, _, .nil => .nil
  | _, _, .cons h r => by
    rw [List.reverse_cons, List.reverse_cons]
    exact r.reverse.append (.cons h .nil)
theorem DxAll.ints {K : PySem.W.Frag} {H : Hp} : ∀ ns : List Int, DxAll K H (ns.map V.int) (ns.map PyData.int)
  | [] => .nil
  | n :: ns => .cons (.int n) (DxAll.ints ns)
/-! ### slots as data -/
inductive Ent where
  | na
  | dat (d : PyData)
  | own (ds : List PyData)
  | rows (dss : List (List PyData))
  | dct (kvs : List (List Key × PyData))
  | dck (kvs : List (Key × PyData))
  | dk
  | err (a : Addr) (d : Option Addr) (f : Option (Str × PyData))
  | tn (ds : List PyData)
  | sd (l : Bool) (d : PyData)
abbrev Dn := List Ent
inductive RowsOk (K : PySem.W.Frag) (O : Hid) (H : Hp) : List Addr → List (List PyData) → Prop
  | nil : RowsOk K O H [] []
  | cons {q : Addr} {qs : List Addr} {vs : List V} {ds : List PyData} {dss : List (List PyData)} (h1 : O q) (h2 : H q = some (.lst vs)) (h3 : DxAll K (Fz O H) vs ds) (r : RowsOk K O H qs dss) : RowsOk K O H (q :: qs) (ds :: dss)
inductive KvOk {κ : Type} (K : PySem.W.Frag) (H : Hp) : List (κ × V) → List (κ × PyData) → Prop
  | nil : KvOk K H [] []
  | cons {k : κ} {v : V} {d : PyData} {kvs : List (κ × V)} {kds : List (κ × PyData)} (h : Dx K H v d) (r : KvOk K H kvs kds) : KvOk K H ((k, v) :: kvs) ((k, d) :: kds)
theorem RowsOk.shift {K : PySem.W.Frag} {O O' : Hid} {H H' : Hp} (o : ∀ p, O p → O' p) (f : Same (Fz O H) (Fz O' H')) : ∀ {qs : List Addr} {dss : List (List PyData)}, RowsOk K O H qs dss → (∀ q ∈ qs, H' q = H q) → RowsOk K O' H' qs dss
  | _, _, .nil, _ => .nil
  | _, _, .cons h1 h2 h3 r, k => .cons (o _ h1) ((k _ List.mem_cons_self).trans h2) (h3.same f) (r.shift o f fun q hq => k q (List.mem_cons_of_mem _ hq))
theorem RowsOk.there {K : PySem.W.Frag} {O : Hid} {H : Hp} : ∀ {qs : List Addr} {dss : List (List PyData)}, RowsOk K O H qs dss → ∀ q ∈ qs, O q ∧ ∃ vs, H q = some (.lst vs)
  | _, _, .cons h1 h2 h3 r, q, hq => by
    rcases List.mem_cons.mp hq with e | hq
    · subst e
      exact ⟨h1, _, h2⟩
    · exact r.there q hq
theorem RowsOk.len {K : PySem.W.Frag} {O : Hid} {H : Hp} : ∀ {qs : List Addr} {dss : List (List PyData)}, RowsOk K O H qs dss → qs.length = dss.length
  | _, _, .nil => rfl
  | _, _, .cons _ _ _ r => by rw [List.length_cons, List.length_cons, r.len]
theorem RowsOk.get {K : PySem.W.Frag} {O : Hid} {H : Hp} : ∀ {qs : List Addr} {dss : List (List PyData)} {i : Nat} {ds : List PyData}, RowsOk K O H qs dss → dss[i]? = some ds → ∃ q vs, qs[i]? = some q ∧ O q ∧ H q = some (.lst vs) ∧ DxAll K (Fz O H) vs ds
  | _, _, _, _, .nil, e => by simp at e
  | _, _, 0, _, .cons h1 h2 h3 r, e => by
    cases e
    exact ⟨_, _, rfl, h1, h2, h3⟩
  | _, _, i + 1, ds, .cons _ _ _ r, e => r.get (i := i) e
theorem KvOk.same {κ : Type} {K : PySem.W.Frag} {H H' : Hp} (f : Same H H') : ∀ {kvs : List (κ × V)} {kds : List (κ × PyData)}, KvOk K H kvs kds → KvOk K H' kvs kds
  | _, _, .nil => .nil
  | _, _, .cons h r => .cons (h.same f) (r.same f)
/-- a tuple that is told of as one; a list or a tuple of such ones -/
def SdT (K : PySem.W.Frag) (H : Hp) (v : V) (d : PyData) : Prop := ∃ b xs ds, v = .ref b ∧ d = .tuple ds ∧ H b = some (.tup xs) ∧ DxAll K H xs ds
def SdL (K : PySem.W.Frag) (H : Hp) (v : V) (d : PyData) : Prop := ∃ b vs ds, v = .ref b ∧ ((H b = some (.lst vs) ∧ d = .list ds) ∨ (H b = some (.tup vs) ∧ d = .tuple ds)) ∧ Paired (SdT K H) vs ds
def SdB (K : PySem.W.Frag) (H : Hp) (l : Bool) (v : V) (d : PyData) : Prop := if l = true then SdL K H v d else SdT K H v d
theorem SdT.same {K : PySem.W.Frag} {H H' : Hp} {v : V} {d : PyData} (f : Same H H') (h : SdT K H v d) : SdT K H' v d := let ⟨b, xs, ds, e1, e2, z, r⟩ := h; ⟨b, xs, ds, e1, e2, f _ _ z, r.same f⟩
theorem SdL.same {K : PySem.W.Frag} {H H' : Hp} {v : V} {d : PyData} (f : Same H H') (h : SdL K H v d) : SdL K H' v d := let ⟨b, vs, ds, e, z, r⟩ := h; ⟨b, vs, ds, e, z.imp (fun k => ⟨f _ _ k.1, k.2⟩) (fun k => ⟨f _ _ k.1, k.2⟩), Paired.mapP r fun _ _ k => k.same f⟩
theorem SdB.same {K : PySem.W.Frag} {H H' : Hp} {v : V} {d : PyData} {l : Bool} (f : Same H H') (h : SdB K H l v d) : SdB K H' l v d := by
  cases l
  · exact SdT.same f h
  · exact SdL.same f h
theorem SdT.dx {K : PySem.W.Frag} {H : Hp} {v : V} {d : PyData} (h : SdT K H v d) : Dx K H v d := by
  obtain ⟨b, xs, ds, rfl, rfl, z, r⟩ := h
  exact .tup (.inl (.inl z)) r
theorem SdL.dx {K : PySem.W.Frag} {H : Hp} {v : V} {d : PyData} (h : SdL K H v d) : Dx K H v d := by
  obtain ⟨b, vs, ds, rfl, z, r⟩ := h
  have all : DxAll K H vs ds := by
    clear z
    induction r with
    | nil => exact .nil
    | cons h _ ih => exact .cons h.dx ih
  rcases z with ⟨z, rfl⟩ | ⟨z, rfl⟩
  · exact .lst (.inl (.inl z)) all
  · exact .tup (.inl (.inl z)) all
theorem SdB.dx {K : PySem.W.Frag} {H : Hp} {v : V} {d : PyData} {l : Bool} (h : SdB K H l v d) : Dx K H v d := by
  cases l
  · exact SdT.dx h
  · exact SdL.dx h
def EntOk (K : PySem.W.Frag) (O : Hid) (H : Hp) (dv : V) (ov : Option V) : Ent → Prop
  | .na => True
  | .dat d => ∃ v, ov = some v ∧ Dx K (Fz O H) v d
  | .own ds => ∃ p vs, ov = some (.ref p) ∧ O p ∧ H p = some (.lst vs) ∧ DxAll K (Fz O H) vs ds
  | .rows dss => ∃ p qs, ov = some (.ref p) ∧ O p ∧ H p = some (.lst (qs.map V.ref)) ∧ p ∉ qs ∧ qs.Nodup ∧ RowsOk K O H qs dss
  | .dct kds => ∃ p kvs, ov = some (.ref p) ∧ O p ∧ H p = some (.dT kvs) ∧ KvOk K (Fz O H) kvs kds
  | .dck kds => ∃ p kvs, ov = some (.ref p) ∧ O p ∧ H p = some (.dK kvs) ∧ KvOk K (Fz O H) kvs kds
  | .dk => ov = some dv
  | .tn ds => ∃ p vs o, ov = some (.ref p) ∧ Fz O H p = some (.frz o (.tup vs)) ∧ o.cls = .type "tuple" ∧ o.dict = none ∧ DxAll K (Fz O H) vs ds
  | .sd l d => ∃ v, ov = some v ∧ SdB K (Fz O H) l v d
  | .err a d f => ov = some (.ref a) ∧ (f = none → d = none) ∧ ∀ y x, f = some (y, x) → ∃ dd v, d = some dd ∧ Fz O H dd = some (.xd [(y, v)]) ∧ Dx K (Fz O H) v x
/-- the addresses of one's own in an entry -/
def Hd (H : Hp) (ov : Option V) : Ent → Addr → Prop
  | .own _, q => ov = some (.ref q)
  | .dct _, q => ov = some (.ref q)
  | .dck _, q => ov = some (.ref q)
  | .rows _, q => ov = some (.ref q) ∨ ∃ p vs, ov = some (.ref p) ∧ H p = some (.lst vs) ∧ V.ref q ∈ vs
  | _, _ => False
theorem mem_refs {qs : List Addr} {q : Addr} (h : V.ref q ∈ qs.map V.ref) : q ∈ qs := by
  obtain ⟨x, h1, h2⟩ := List.mem_map.mp h
  cases h2
  exact h1
/-- what an entry says, in another heap that is the same at its own addresses -/
theorem EntOk.shift {K : PySem.W.Frag} {O O' : Hid} {H H' : Hp} {dv : V} {ov : Option V} (o : ∀ p, O p → O' p) (f : Same (Fz O H) (Fz O' H')) : ∀ {e : Ent}, EntOk K O H dv ov e → (∀ q, Hd H ov e q → H' q = H q) → EntOk K O' H' dv ov e
  | .na, _, _ => trivial
  | .dat d, ⟨v, h1, h2⟩, _ => ⟨v, h1, h2.same f⟩
  | .own ds, ⟨p, vs, h1, h2, h3, h4⟩, k => ⟨p, vs, h1, o p h2, (k p h1).trans h3, h4.same f⟩
  | .rows dss, ⟨p, qs, h1, h2, h3, h4, h5, h6⟩, k => ⟨p, qs, h1, o p h2, (k p (.inl h1)).trans h3, h4, h5, h6.shift o f fun q hq => k q (.inr ⟨p, _, h1, h3, List.mem_map_of_mem hq⟩)⟩
  | .dct kds, ⟨p, vs, h1, h2, h3, h4⟩, k => ⟨p, vs, h1, o p h2, (k p h1).trans h3, h4.same f⟩
  | .dck kds, ⟨p, vs, h1, h2, h3, h4⟩, k => ⟨p, vs, h1, o p h2, (k p h1).trans h3, h4.same f⟩
  | .dk, h, _ => h
  | .tn ds, ⟨p, vs, o, h1, h2, h3, h4, h5⟩, _ => ⟨p, vs, o, h1, f p _ h2, h3, h4, h5.same f⟩
  | .sd l d, ⟨v, h1, h2⟩, _ => ⟨v, h1, h2.same f⟩
  | .err a d g, ⟨h, k0, k⟩, _ => ⟨h, k0, fun y x e => by
    obtain ⟨dd, v, h1, h2, h3⟩ := k y x e
    exact ⟨dd, v, h1, f dd _ h2, h3.same f⟩⟩
/-- an entry's own addresses are hidden, and there -/
theorem EntOk.hd {K : PySem.W.Frag} {O : Hid} {H : Hp} {dv : V} {ov : Option V} {q : Addr} {e : Ent} (h : EntOk K O H dv ov e) (k : Hd H ov e q) : O q ∧ ∃ x, H q = some x := by
  cases e with
  | own ds =>
    obtain ⟨p, vs, h1, h2, h3, h4⟩ := h
    rw [show ov = some (.ref q) from k] at h1
    cases h1
    exact ⟨h2, _, h3⟩
  | dct ds =>
    obtain ⟨p, vs, h1, h2, h3, h4⟩ := h
    rw [show ov = some (.ref q) from k] at h1
    cases h1
    exact ⟨h2, _, h3⟩
  | dck ds =>
    obtain ⟨p, vs, h1, h2, h3, h4⟩ := h
    rw [show ov = some (.ref q) from k] at h1
    cases h1
    exact ⟨h2, _, h3⟩
  | rows ds =>
    obtain ⟨p, qs, h1, h2, h3, h4, h5, h6⟩ := h
    rcases (show ov = some (.ref q) ∨ ∃ p vs, ov = some (.ref p) ∧ H p = some (.lst vs) ∧ V.ref q ∈ vs from k) with k | ⟨p', vs, k1, k2, k3⟩
    · rw [k] at h1
      cases h1
      exact ⟨h2, _, h3⟩
    · rw [k1] at h1
      cases h1
      rw [h3] at k2
      cases k2
      obtain ⟨z1, vs, z2⟩ := h6.there q (mem_refs k3)
      exact ⟨z1, _, z2⟩
  | na => exact (show False from k).elim
  | dat d => exact (show False from k).elim
  | dk => exact (show False from k).elim
  | err a d f => exact (show False from k).elim
  | tn ds => exact (show False from k).elim
  | sd l d => exact (show False from k).elim
theorem Hd.eq {K : PySem.W.Frag} {O : Hid} {H H' : Hp} {dv : V} {ov : Option V} {q : Addr} {e : Ent} (h : EntOk K O H dv ov e) (z : ∀ q, Hd H ov e q → H' q = H q) (k : Hd H' ov e q) : Hd H ov e q := by
  cases e with
  | rows ds =>
    obtain ⟨p, qs, h1, h2, h3, h4, h5, h6⟩ := h
    rcases (show ov = some (.ref q) ∨ ∃ p vs, ov = some (.ref p) ∧ H' p = some (.lst vs) ∧ V.ref q ∈ vs from k) with k | ⟨p', vs, k1, k2, k3⟩
    · exact .inl k
    · rw [k1] at h1
      cases h1
      refine .inr ⟨_, vs, k1, ?_, k3⟩
      rw [← z _ (.inl k1)]
      exact k2
  | own ds => exact k
  | dct ds => exact k
  | dck ds => exact k
  | na => exact k
  | dat d => exact k
  | dk => exact k
  | err a d f => exact k
  | tn ds => exact k
  | sd l d => exact k
theorem EntOk.same {K : PySem.W.Frag} {O : Hid} {H H' : Hp} {dv : V} {ov : Option V} (s : Same H H') {e : Ent} (h : EntOk K O H dv ov e) : EntOk K O H' dv ov e :=
  h.shift (fun _ z => z) (s.fz O) fun q k => by
    obtain ⟨_, x, z⟩ := h.hd k
    rw [z]
    exact s q x z
def RepE (K : PySem.W.Frag) (O : Hid) (H : Hp) (dv : V) (σ : L2.St) (ρ : Dn) : Prop := ρ.length = σ.length ∧ ∀ (i : Nat) (e : Ent), ρ[i]? = some e → ∃ ov, σ[i]? = some ov ∧ EntOk K O H dv ov e
section
variable {K : PySem.W.Frag} {O : Hid} {H H' : Hp} {dv : V} {σ : L2.St} {ρ : Dn}
theorem RepE.same (h : RepE K O H dv σ ρ) (s : Same H H') : RepE K O H' dv σ ρ := ⟨h.1, fun i e q => by
  obtain ⟨ov, h1, h2⟩ := h.2 i e q
  exact ⟨ov, h1, h2.same s⟩⟩
theorem RepE.set (h : RepE K O H dv σ ρ) {ov : Option V} {e : Ent} (k : EntOk K O H dv ov e) (i : Nat) : RepE K O H dv (σ.set i ov) (ρ.set i e) := ⟨by rw [List.length_set, List.length_set]; exact h.1, fun j f q => by
  by_cases hj : i = j
  · subst hj
    have lt : i < ρ.length := by
      have := (List.getElem?_eq_some_iff.mp q).1
      rwa [List.length_set] at this
    rw [List.getElem?_set_self lt] at q
    cases q
    exact ⟨ov, List.getElem?_set_self (by rw [← h.1]; exact lt), k⟩
  · rw [List.getElem?_set_ne hj] at q
    rw [List.getElem?_set_ne hj]
    exact h.2 j f q⟩
def wipeE (ρ : Dn) : List Nat → Dn
  | [] => ρ
  | v :: vs => (wipeE ρ vs).set v .na
theorem RepE.wipe (h : RepE K O H dv σ ρ) : ∀ vs : List Nat, RepE K O H dv (wipe σ vs) (wipeE ρ vs)
  | [] => h
  | v :: vs => RepE.set (h.wipe vs) (ov := none) (e := .na) trivial v
end
/-! ### pure expressions: what they give, of the slots as data -/
abbrev DF := Dn → Option PyData
def tF (K : PySem.W.Frag) (f : DF) : TE := fun σ H Q => ∃ O dv ρ d, Al O H ∧ RepE K O H dv σ ρ ∧ f ρ = some d ∧ ∀ v H', Same H H' → Dx K (Fz O H') v d → Q v H'
structure PF (X : Cx) (e : Expr) (f : DF) : Prop where
  pe : PE X e (tF X.K f)
def tFT (K : PySem.W.Frag) (f : Dn → Option Bool) : TT := fun σ H Q => ∃ O dv ρ b, Al O H ∧ RepE K O H dv σ ρ ∧ f ρ = some b ∧ ∀ H', Same H H' → Q b H'
structure PFT (X : Cx) (e : Expr) (f : Dn → Option Bool) : Prop where
  pt : PT X e (tFT X.K f)
def tFA (K : PySem.W.Frag) (f : Dn → Option (List PyData)) : TA := fun σ H Q => ∃ O dv ρ ds, Al O H ∧ RepE K O H dv σ ρ ∧ f ρ = some ds ∧ ∀ vs H', Same H H' → DxAll K (Fz O H') vs ds → Q vs H'
structure PFA (X : Cx) (es : List Expr) (f : Dn → Option (List PyData)) : Prop where
  pa : PA X es (tFA X.K f)
theorem _root_.L2.PE.imp {X : Cx} {e : Expr} {t t' : TE} (h : PE X e t) (k : ∀ σ H Q, t' σ H Q → t σ H Q) : PE X e t' := ⟨fun pins s σ H Q I q => h.run pins s σ H Q I (k σ H Q q)⟩
theorem _root_.L2.PT.imp {X : Cx} {e : Expr} {t t' : TT} (h : PT X e t) (k : ∀ σ H Q, t' σ H Q → t σ H Q) : PT X e t' := ⟨fun pins s σ H Q I q => h.run pins s σ H Q I (k σ H Q q)⟩
theorem _root_.L2.PA.imp {X : Cx} {es : List Expr} {t t' : TA} (h : PA X es t) (k : ∀ σ H Q, t' σ H Q → t σ H Q) : PA X es t' := ⟨fun pos pins s σ H Q I q => h.run pos pins s σ H Q I (k σ H Q q)⟩
theorem _root_.L2.PS.imp {X : Cx} {st : Stmt} {t t' : TS} (h : PS X st t) (k : ∀ D σ H, t' D σ H → t D σ H) : PS X st t' := ⟨fun pins s σ H D I q => h.run pins s σ H D I (k D σ H q)⟩
theorem _root_.L2.PSs.imp {X : Cx} {st : List Stmt} {t t' : TS} (h : PSs X st t) (k : ∀ D σ H, t' D σ H → t D σ H) : PSs X st t' := ⟨fun pins s σ H D I q => h.run pins s σ H D I (k D σ H q)⟩
theorem _root_.L2.PI.imp {X : Cx} {tg e : Expr} {t t' : TI} (h : PI X tg e t) (k : ∀ σ H Q, t' σ H Q → t σ H Q) : PI X tg e t' := ⟨fun pins s σ H Q I q => h.run pins s σ H Q I (k σ H Q q)⟩
section
variable {X : Cx} {a b : Expr} {fa fb : DF} {pos : Pos}
/-! names, constants -/
def getD (i : Nat) : DF := fun ρ => match ρ[i]? with | some (.dat d) => some d | some (.tn ds) => some (.tuple ds) | some (.sd _ d) => some d | _ => none
theorem getD_some {i : Nat} {ρ : Dn} {d : PyData} (h : getD i ρ = some d) : ρ[i]? = some (.dat d) ∨ (∃ ds, ρ[i]? = some (.tn ds) ∧ d = .tuple ds) ∨ ∃ l, ρ[i]? = some (.sd l d) := by
  unfold getD at h
  split at h
  · rename_i e
    cases h
    exact .inl e
  · rename_i ds e
    cases h
    exact .inr (.inl ⟨ds, e, rfl⟩)
  · rename_i l d2 e
    cases h
    exact .inr (.inr ⟨l, e⟩)
  · cases h
theorem pf_var {i : Nat} {x : Str} (hN : X.N[i]? = some x) (hv : Vis X.env.scope x) (hd : (x == ("__debug__" : Str)) = false := by decide) (hcd : (x == ("__classdict__" : Str)) = false := by decide) : PF X (.Name x pos) (getD i) :=
  ⟨(pe_var hN hv hd hcd).imp fun σ H Q ⟨O, dv, ρ, d, al, r, e, q⟩ => by
    rcases getD_some e with e' | ⟨ds, e', rfl⟩ | ⟨l, e'⟩
    · obtain ⟨ov, h1, v, rfl, h3⟩ := r.2 i _ e'
      exact ⟨v, h1, q v H (Same.refl H) h3⟩
    · obtain ⟨ov, h1, p, vs, o, rfl, h3, _, _, h5⟩ := r.2 i _ e'
      exact ⟨.ref p, h1, q (.ref p) H (Same.refl H) (.tup (.inl (.inr ⟨o, h3⟩)) h5)⟩
    · obtain ⟨ov, h1, v, rfl, h3⟩ := r.2 i _ e'
      exact ⟨v, h1, q v H (Same.refl H) h3.dx⟩⟩
def cD (d : PyData) : DF := fun _ => some d
theorem pf_int {i j} : PF X (.Constant (.int i) j pos) (cD (.int i)) := ⟨pe_int.imp fun σ H Q ⟨O, dv, ρ, d, al, r, e, q⟩ => by cases e; exact q _ _ (Same.refl H) (.int i)⟩
theorem pf_bl {i j} : PF X (.Constant (.bool i) j pos) (cD (.bool i)) := ⟨pe_bl.imp fun σ H Q ⟨O, dv, ρ, d, al, r, e, q⟩ => by cases e; exact q _ _ (Same.refl H) (.bl i)⟩
theorem pf_non {j} : PF X (.Constant .none j pos) (cD .none) := ⟨pe_non.imp fun σ H Q ⟨O, dv, ρ, d, al, r, e, q⟩ => by cases e; exact q _ _ (Same.refl H) .non⟩
theorem pf_str {x j} : PF X (.Constant (.str x) j pos) (cD (.str x)) := ⟨pe_str.imp fun σ H Q ⟨O, dv, ρ, d, al, r, e, q⟩ => by cases e; exact q _ _ (Same.refl H) (.str x)⟩
/-! arguments, displays -/
def nilA : Dn → Option (List PyData) := fun _ => some []
def consA (f : DF) (g : Dn → Option (List PyData)) : Dn → Option (List PyData) := fun ρ => (f ρ).bind fun d => (g ρ).bind fun ds => some (d :: ds)
theorem pfa_nil : PFA X [] nilA := ⟨pa_nil.imp fun σ H Q ⟨O, dv, ρ, d, al, r, e, q⟩ => by cases e; exact q _ _ (Same.refl H) .nil⟩
theorem pfa_cons {e : Expr} {es : List Expr} {f : DF} {g : Dn → Option (List PyData)} (ha : PF X e f) (hr : PFA X es g) (hs : starEach (e :: es) X.env = (false, eval e X.env) :: starEach es X.env := by rfl) : PFA X (e :: es) (consA f g) :=
  ⟨(pa_cons ha.pe hr.pa hs).imp fun σ H Q ⟨O, dv, ρ, ds, al, r, e, q⟩ => by
    obtain ⟨d, e1, e⟩ := Option.bind_eq_some_iff.mp e
    obtain ⟨es, e2, e⟩ := Option.bind_eq_some_iff.mp e
    cases e
    refine ⟨O, dv, ρ, d, al, r, e1, fun v H1 s1 h1 => ⟨O, dv, ρ, es, al.same s1, r.same s1, e2, fun vs H2 s2 h2 => ?_⟩⟩
    exact q _ _ (s1.trans s2) (.cons (h1.same (s2.fz O)) h2)⟩
def lim : Nat := 1000000
theorem lim_le {n : Nat} (h : n < lim) : n < sizeLine := Nat.lt_trans h (by rw [sizeLine_eq]; decide)
def tupF (g : Dn → Option (List PyData)) : DF := fun ρ => (g ρ).bind fun ds => if ds.length < lim then some (.tuple ds) else none
theorem new_same {H : Hp} {p : Addr} {o : HO} (h : H p = none) : Same H (upd H p o) := fun b x e => by
  rw [upd_ne (ne_of_none e h)]
  exact e
theorem DxAll.new {K : PySem.W.Frag} {O : Hid} {H : Hp} {p : Addr} {o : HO} {vs : List V} {ds : List PyData} (al : Al O H) (n : H p = none) (h : DxAll K (Fz O H) vs ds) : DxAll K (Fz O (upd H p o)) vs ds := h.same (L2.Same.fz (new_same n) O)
theorem Dx.newT {K : PySem.W.Frag} {O : Hid} {H : Hp} {p : Addr} {vs : List V} {ds : List PyData} (al : Al O H) (n : H p = none) (h : DxAll K (Fz O H) vs ds) : Dx K (Fz O (upd H p (.tup vs))) (.ref p) (.tuple ds) :=
  .tup (.inl (.inl (by rw [fz_out (al.new n), upd_same]))) (h.new al n)
theorem Dx.newL {K : PySem.W.Frag} {O : Hid} {H : Hp} {p : Addr} {vs : List V} {ds : List PyData} (al : Al O H) (n : H p = none) (h : DxAll K (Fz O H) vs ds) : Dx K (Fz O (upd H p (.lst vs))) (.ref p) (.list ds) :=
  .lst (.inl (.inl (by rw [fz_out (al.new n), upd_same]))) (h.new al n)
/-! a new list -/
def hide (O : Hid) (p : Addr) : Hid := fun a => O a ∨ a = p
def tFL (K : PySem.W.Frag) (f : Dn → Option (List PyData)) : TE := fun σ H Q => ∃ O dv ρ ds, Al O H ∧ RepE K O H dv σ ρ ∧ f ρ = some ds ∧ ∀ p vs H', Same H H' → H p = none → H' p = some (.lst vs) → DxAll K (Fz (hide O p) H') vs ds → Q (.ref p) H'
structure PFL (X : Cx) (e : Expr) (f : Dn → Option (List PyData)) : Prop where
  pe : PE X e (tFL X.K f)
def lstI (f : Dn → Option (List PyData)) : DF := fun ρ => (f ρ).map .list
theorem PFL.pf {e : Expr} {f : Dn → Option (List PyData)} (h : PFL X e f) : PF X e (lstI f) := ⟨h.pe.imp fun σ H Q ⟨O, dv, ρ, d, al, r, e, q⟩ => by
  obtain ⟨ds, e1, rfl⟩ := Option.map_eq_some_iff.mp e
  refine ⟨O, dv, ρ, ds, al, r, e1, fun p vs H' s np hp dx => q _ H' s (.lst (.inl (.inl ?_)) (dx.same (fz_less (fun b z => .inl z) H')))⟩
  rw [fz_out (al.new np)]
  exact hp⟩
theorem DxAll.hide {K : PySem.W.Frag} {O : Hid} {H : Hp} {p : Addr} {o : HO} {vs : List V} {ds : List PyData} (n : H p = none) (h : DxAll K (Fz O H) vs ds) : DxAll K (Fz (hide O p) (upd H p o)) vs ds := h.same fun b x z => by
  obtain ⟨z1, z2⟩ := fz_get z
  have ne := ne_of_none z1 n
  rw [fz_out fun w => w.elim z2 ne, upd_ne ne]
  exact z1
theorem pf_tup {es : List Expr} {x1} {g : Dn → Option (List PyData)} (h : PFA X es g) : PF X (.Tuple es x1 pos) (tupF g) :=
  ⟨(pe_tup h.pa).imp fun σ H Q ⟨O, dv, ρ, d, al, r, e, q⟩ => by
    obtain ⟨ds, e1, e⟩ := Option.bind_eq_some_iff.mp e
    split at e
    case isFalse => cases e
    cases e
    rename_i hl
    refine ⟨O, dv, ρ, ds, al, r, e1, fun vs H1 s1 h1 => ⟨Nat.le_of_lt (lim_le (by rw [h1.len]; exact hl)), fun p np => ?_⟩⟩
    exact q _ _ (s1.trans (new_same np)) (Dx.newT (al.same s1) np h1)⟩
def limA (g : Dn → Option (List PyData)) : Dn → Option (List PyData) := fun ρ => (g ρ).bind fun ds => if ds.length < lim then some ds else none
theorem pfl_lst {es : List Expr} {g : Dn → Option (List PyData)} (h : PFA X es g) : PFL X (.List es pos) (limA g) :=
  ⟨(pe_lst h.pa).imp fun σ H Q ⟨O, dv, ρ, d, al, r, e, q⟩ => by
    obtain ⟨ds, e1, e⟩ := Option.bind_eq_some_iff.mp e
    split at e
    case isFalse => cases e
    cases e
    rename_i hl
    refine ⟨O, dv, ρ, d, al, r, e1, fun vs H1 s1 h1 => ⟨Nat.le_of_lt (lim_le (by rw [h1.len]; exact hl)), fun p np => ?_⟩⟩
    exact q p vs _ (s1.trans (new_same np)) (s1.free np) upd_same (h1.hide np)⟩
/-! operations by values -/
/-- what an operation gives, by data -/
def r2F (K : PySem.W.Frag) (g : PyData → PyData → Option PyData) : R2 := fun x y H Q => ∃ O d e c, Al O H ∧ Dx K (Fz O H) x d ∧ Dx K (Fz O H) y e ∧ g d e = some c ∧ ∀ v H', Same H H' → Dx K (Fz O H') v c → Q v H'
def bin2 (g : PyData → PyData → Option PyData) (fa fb : DF) : DF := fun ρ => (fa ρ).bind fun d => (fb ρ).bind fun e => g d e
theorem t2F {K : PySem.W.Frag} {g : PyData → PyData → Option PyData} {σ : L2.St} {H : Hp} {Q : VK} (h : tF K (bin2 g fa fb) σ H Q) : tOp (r2F K g) (tF K fa) (tF K fb) σ H Q := by
  obtain ⟨O, dv, ρ, d, al, r, e, q⟩ := h
  obtain ⟨x, e1, e⟩ := Option.bind_eq_some_iff.mp e
  obtain ⟨y, e2, e⟩ := Option.bind_eq_some_iff.mp e
  refine ⟨O, dv, ρ, x, al, r, e1, fun v H1 s1 h1 => ⟨O, dv, ρ, y, al.same s1, r.same s1, e2, fun u H2 s2 h2 => ?_⟩⟩
  exact ⟨O, x, y, d, (al.same s1).same s2, h1.same (s2.fz O), h2, e, fun w H3 s3 h3 => q w H3 ((s1.trans s2).trans s3) h3⟩
theorem pf_op {op : Operator} {g : PyData → PyData → Option PyData} (ho : OpR X (binaryOp op) (r2F X.K g)) (ha : PF X a fa) (hb : PF X b fb) : PF X (.BinOp a op b pos) (bin2 g fa fb) :=
  ⟨(pe_op ho ha.pe hb.pe).imp fun _ _ _ h => t2F h⟩
theorem pf_cmp {op : CmpOp} {g : PyData → PyData → Option PyData} (ho : OpR X (compareOp op) (r2F X.K g)) (ha : PF X a fa) (hb : PF X b fb) (hm : behindInMarks op b = false) : PF X (.Compare a [op] [b] pos) (bin2 g fa fb) :=
  ⟨(pe_cmpR ho ha.pe hb.pe hm).imp fun _ _ _ h => t2F h⟩
def toB : PyData → Option Bool
  | .bool b => some b
  | _ => none
theorem toB_some {d : PyData} {b : Bool} (h : toB d = some b) : d = .bool b := by
  cases d <;> simp [toB] at h
  rw [h]
def tstF (f : DF) : Dn → Option Bool := fun ρ => (f ρ).bind toB
theorem pft_cmp {op : CmpOp} {g : PyData → PyData → Option PyData} (ho : OpR X (compareOp op) (r2F X.K g)) (ha : PF X a fa) (hb : PF X b fb) (hm : behindInMarks op b = false) : PFT X (.Compare a [op] [b] pos) (tstF (bin2 g fa fb)) :=
  ⟨(pt_cmpR ho ha.pe hb.pe hm).imp fun σ H Q ⟨O, dv, ρ, t, al, r, e, q⟩ => by
    obtain ⟨d, e1, e2⟩ := Option.bind_eq_some_iff.mp e
    rw [toB_some e2] at e1
    refine t2F ⟨O, dv, ρ, _, al, r, e1, fun v H' s h => ?_⟩
    cases h
    exact ⟨_, rfl, q H' s⟩⟩
/-- a bool's expression as a test -/
theorem pft_val {e : Expr} {f : DF} (h : PF X e f) (he : ∀ whole, isTrue e X.env whole = (do let v ← whole; standAt e.pos; holding [v] (truthy v)) := by intro _; rfl) : PFT X e (tstF f) :=
  ⟨(pt_val h.pe he).imp fun σ H Q ⟨O, dv, ρ, t, al, r, e, q⟩ => by
    obtain ⟨d, e1, e2⟩ := Option.bind_eq_some_iff.mp e
    rw [toB_some e2] at e1
    refine ⟨O, dv, ρ, _, al, r, e1, fun v H' s h => ?_⟩
    cases h
    exact ⟨_, rfl, q H' s⟩⟩
end
end DS
namespace DS
open PySem PySem.Spec PyProof.Rows L2
/-! ### iterators over data -/
def ItD (K : PySem.W.Frag) (O : Hid) (H1 : Hp) (J : It) (xs : List PyData) : Prop := ∀ O' H, Same (Fz O H1) (Fz O' H) → Al O' H →
  (∀ i, i < xs.length → J.go i H) ∧ J.stop xs.length H ∧ ∀ i x H2 d, xs[i]? = some d → J.yld i H x H2 → Same H H2 ∧ Dx K (Fz O' H2) x d
def iF (K : PySem.W.Frag) (f : Dn → Option (List PyData)) : TI := fun σ H R => ∃ O dv ρ xs, Al O H ∧ RepE K O H dv σ ρ ∧ f ρ = some xs ∧ ∀ J H', Same H H' → ItD K O H' J xs → R J H'
structure PIF (X : Cx) (tg e : Expr) (f : Dn → Option (List PyData)) : Prop where
  pi : PI X tg e (iF X.K f)
theorem _root_.L2.PI.or {X : Cx} {tg e : Expr} {t u : TI} (h : PI X tg e t) (k : PI X tg e u) : PI X tg e (fun σ H R => t σ H R ∨ u σ H R) := ⟨fun pins s σ H R I q => q.elim (h.run pins s σ H R I) (k.run pins s σ H R I)⟩
section
variable {K : PySem.W.Frag} {O : Hid} {H : Hp} {a : Addr} {vs : List V} {ds : List PyData}
theorem itd_list (h : SqL K (Fz O H) a vs) (r : DxAll K (Fz O H) vs ds) : ItD K O H (Itl K a) ds := fun O' H' s al => by
  have h1 : SqL K H' a vs := (s.trans (fz_sub O' H')).seq h
  have ln := r.len
  refine ⟨fun i hi => ?_, ⟨vs, h1, Nat.le_of_eq ln⟩, fun i x H2 d e y => ?_⟩
  · exact ⟨vs, vs[i]'(by omega), h1, by simp⟩
  · obtain ⟨rfl, y⟩ := y
    obtain ⟨v, e1, e2⟩ := r.get e
    have := y vs h1
    rw [e1] at this
    cases this
    exact ⟨Same.refl _, e2.same s⟩
theorem itd_tup (h : SqT K (Fz O H) a vs) (r : DxAll K (Fz O H) vs ds) : ItD K O H (Itt K a) ds := fun O' H' s al => by
  have h1 : SqT K H' a vs := sqT_same (s.trans (fz_sub O' H')) h
  have ln := r.len
  refine ⟨fun i hi => ?_, ⟨vs, h1, Nat.le_of_eq ln⟩, fun i x H2 d e y => ?_⟩
  · exact ⟨vs, vs[i]'(by omega), h1, by simp⟩
  · obtain ⟨rfl, y⟩ := y
    obtain ⟨v, e1, e2⟩ := r.get e
    have := y vs h1
    rw [e1] at this
    cases this
    exact ⟨Same.refl _, e2.same s⟩
def rngD (lo : Int) (n : Nat) : List PyData := (List.range n).map fun i => .int (lo + (i : Nat))
theorem itd_range (lo : Int) (n : Nat) : ItD K O H (Itr lo n) (rngD lo n) := fun O' H' s al => by
  have ln : (rngD lo n).length = n := by simp [rngD]
  refine ⟨fun i hi => by rw [ln] at hi; exact hi, by rw [ln]; exact Nat.le_refl _, fun i x H2 d e y => ?_⟩
  obtain ⟨rfl, rfl⟩ := y
  unfold rngD at e
  rw [List.getElem?_map] at e
  cases q : (List.range n)[i]? with
  | none => rw [q] at e; cases e
  | some j =>
    rw [q] at e
    have : j = i := by
      have := (List.getElem?_eq_some_iff.mp q).2
      simpa using this.symm
    subst this
    cases e
    exact ⟨Same.refl _, .int _⟩
end
def itemsD : PyData → Option (List PyData)
  | .list ds => some ds
  | .tuple ds => some ds
  | _ => none
def seqI (f : DF) : Dn → Option (List PyData) := fun ρ => (f ρ).bind itemsD
section
variable {X : Cx} {tg e : Expr} {f : DF} {pos p : Pos}
/-- over a list or a tuple -/
theorem pif_seq (h : PF X e f) : PIF X tg e (seqI f) := ⟨((pi_list h.pe).or (pi_tup h.pe)).imp fun σ H R ⟨O, dv, ρ, xs, al, r, e, q⟩ => by
  obtain ⟨d, e1, e2⟩ := Option.bind_eq_some_iff.mp e
  cases d with
  | list ds =>
    cases e2
    refine .inl ⟨O, dv, ρ, _, al, r, e1, fun v H' s hv => ?_⟩
    cases hv with
    | lst hs ha => exact ⟨_, rfl, ⟨_, (fz_sub O H').seq hs⟩, q _ H' s (itd_list hs ha)⟩
  | tuple ds =>
    cases e2
    refine .inr ⟨O, dv, ρ, _, al, r, e1, fun v H' s hv => ?_⟩
    cases hv with
    | tup hs ha => exact ⟨_, rfl, ⟨_, sqT_same (fz_sub O H') hs⟩, q _ H' s (itd_tup hs ha)⟩
  | _ => cases e2⟩
def toI : PyData → Option Int
  | .int i => some i
  | _ => none
theorem toI_some {d : PyData} {i : Int} (h : toI d = some i) : d = .int i := by
  cases d <;> simp [toI] at h
  rw [h]
def okR (i : Int) : Bool := decide (-1000000 ≤ i ∧ i ≤ 1000000)
def rng1I (f : DF) : Dn → Option (List PyData) := fun ρ => (f ρ).bind fun d => (toI d).bind fun j => if okR j then some (rngD 0 j.toNat) else none
def rng2I (f g : DF) : Dn → Option (List PyData) := fun ρ => (f ρ).bind fun d => (toI d).bind fun i => (g ρ).bind fun d => (toI d).bind fun j => if okR i && okR j then some (rngD i (j - i).toNat) else none
theorem okR_of {i : Int} (h : okR i = true) : -(2 ^ 62) ≤ i ∧ i < 2 ^ 62 := by
  unfold okR at h
  have := of_decide_eq_true h
  omega
theorem pif_range1 (hg : Gl X "range") (hm : X.mg "range" = none) (ha : PF X e f) (hs : starEach [e] X.env = [(false, eval e X.env)] := by rfl) : PIF X tg (.Call (.Name "range" p) [e] [] pos) (rng1I f) :=
  ⟨(pi_range1 hg hm (pa_cons ha.pe pa_nil (by rw [hs]; rfl)) hs).imp fun σ H R ⟨O, dv, ρ, xs, al, r, e, q⟩ => by
    obtain ⟨d, e1, e⟩ := Option.bind_eq_some_iff.mp e
    obtain ⟨j, e2, e⟩ := Option.bind_eq_some_iff.mp e
    rw [toI_some e2] at e1
    split at e
    case isFalse => cases e
    rename_i hj
    cases e
    refine ⟨O, dv, ρ, _, al, r, e1, fun v H' s hv => ?_⟩
    cases hv
    exact ⟨j, rfl, (okR_of hj).1, (okR_of hj).2, q _ H' s (itd_range 0 _)⟩⟩
theorem pif_range2 {e2 : Expr} {f2 : DF} (hg : Gl X "range") (hm : X.mg "range" = none) (ha : PF X e f) (hb : PF X e2 f2) (hs : starEach [e, e2] X.env = [(false, eval e X.env), (false, eval e2 X.env)] := by rfl) (hs2 : starEach [e2] X.env = [(false, eval e2 X.env)] := by rfl) : PIF X tg (.Call (.Name "range" p) [e, e2] [] pos) (rng2I f f2) :=
  ⟨(pi_range2 hg hm (pa_cons ha.pe (pa_cons hb.pe pa_nil (by rw [hs2]; rfl)) (by rw [hs, hs2])) hs hs2).imp fun σ H R ⟨O, dv, ρ, xs, al, r, e, q⟩ => by
    obtain ⟨d, e1, e⟩ := Option.bind_eq_some_iff.mp e
    obtain ⟨i, e2, e⟩ := Option.bind_eq_some_iff.mp e
    obtain ⟨d2, e3, e⟩ := Option.bind_eq_some_iff.mp e
    obtain ⟨j, e4, e⟩ := Option.bind_eq_some_iff.mp e
    rw [toI_some e2] at e1
    rw [toI_some e4] at e3
    split at e
    case isFalse => cases e
    rename_i hj
    have hj := Bool.and_eq_true_iff.mp hj
    cases e
    refine ⟨O, dv, ρ, _, al, r, e1, fun v H' s hv => ⟨O, dv, ρ, _, al.same s, r.same s, e3, fun v2 H2 s2 hv2 => ?_⟩⟩
    cases hv
    cases hv2
    exact ⟨i, j, rfl, ⟨(okR_of hj.1).1, (okR_of hj.1).2, (okR_of hj.2).1, (okR_of hj.2).2⟩, q _ H2 (s.trans s2) (itd_range i _)⟩⟩
end
/-! ### targets -/
theorem wipe_get (σ : L2.St) : ∀ (vs : List Nat) (j : Nat), (wipe σ vs)[j]? = if j ∈ vs then σ[j]?.map (fun _ => none) else σ[j]?
  | [], j => by simp [wipe]
  | v :: vs, j => by
    unfold wipe
    by_cases h : v = j
    · subst h
      rw [if_pos List.mem_cons_self]
      by_cases lt : v < (wipe σ vs).length
      · rw [List.getElem?_set_self lt]
        rw [wipe_length] at lt
        rw [List.getElem?_eq_getElem lt]
        rfl
      · rw [List.getElem?_eq_none (by rw [List.length_set]; omega)]
        rw [wipe_length] at lt
        rw [List.getElem?_eq_none (by omega)]
        rfl
    · rw [List.getElem?_set_ne h, wipe_get σ vs j]
      have : (j ∈ v :: vs) ↔ j ∈ vs := by simp [Ne.symm h]
      by_cases k : j ∈ vs
      · rw [if_pos k, if_pos (this.mpr k)]
      · rw [if_neg k, if_neg fun z => k (this.mp z)]
theorem wipe_set {σ : L2.St} {vs : List Nat} {i : Nat} {ov : Option V} (h : i ∈ vs) : wipe (σ.set i ov) vs = wipe σ vs := by
  refine List.ext_getElem? fun j => ?_
  rw [wipe_get, wipe_get]
  by_cases k : j ∈ vs
  · rw [if_pos k, if_pos k]
    by_cases e : i = j
    · subst e
      by_cases lt : i < σ.length
      · rw [List.getElem?_set_self lt, List.getElem?_eq_getElem lt]
        rfl
      · rw [List.getElem?_eq_none (by rw [List.length_set]; omega), List.getElem?_eq_none (by omega)]
    · rw [List.getElem?_set_ne e]
  · rw [if_neg k, if_neg k]
    have e : i ≠ j := fun z => k (z ▸ h)
    rw [List.getElem?_set_ne e]
theorem wipe_wipe (σ : L2.St) (vs : List Nat) : wipe (wipe σ vs) vs = wipe σ vs := by
  refine List.ext_getElem? fun j => ?_
  rw [wipe_get, wipe_get]
  by_cases k : j ∈ vs
  · rw [if_pos k, if_pos k, Option.map_map]
    rfl
  · rw [if_neg k, if_neg k]
def tG (K : PySem.W.Frag) (sl : List Nat) (g : PyData → Dn → Option Dn) : TG := fun v σ H Q => ∃ O dv ρ d ρ2, Al O H ∧ RepE K O H dv σ ρ ∧ Dx K (Fz O H) v d ∧ g d ρ = some ρ2 ∧
  ∀ σ2, RepE K O H dv σ2 ρ2 → (∀ vs : List Nat, (∀ i ∈ sl, i ∈ vs) → wipe σ2 vs = wipe σ vs) → Q σ2 H
structure PGF (X : Cx) (tg : Expr) (sl : List Nat) (g : PyData → Dn → Option Dn) : Prop where
  pg : PG X tg (tG X.K sl g)
theorem _root_.L2.PG.imp {X : Cx} {tg : Expr} {t t' : TG} (h : PG X tg t) (k : ∀ v σ H Q, t' v σ H Q → t v σ H Q) : PG X tg t' := ⟨fun pins s σ H v u Q I r q => h.run pins s σ H v u Q I r (k v σ H Q q)⟩
def setN (i : Nat) : PyData → Dn → Option Dn := fun d ρ => some (ρ.set i (.dat d))
theorem pgf_name {X : Cx} {pos : Pos} {i : Nat} {x : Str} (hN : X.N.Nodup) (hi : X.N[i]? = some x) (hx : Loc X.env.scope x) (hf : X.fn x = true ∨ X.env.scope.names.lookup x = some .local := by first | exact .inl rfl | exact .inr rfl | assumption) : PGF X (.Name x pos) [i] (setN i) :=
  ⟨(pg_name hN hi hx hf).imp fun v σ H Q ⟨O, dv, ρ, d, ρ2, al, r, dx, e, q⟩ => by
    cases e
    exact q _ (r.set (ov := some v) (e := .dat d) ⟨v, rfl, dx⟩ i) fun vs h => wipe_set (h i List.mem_cons_self)⟩
/-- a, b, .. = a tuple's items -/
def setMany : List Nat → List PyData → Dn → Option Dn
  | [], [], ρ => some ρ
  | i :: is, d :: ds, ρ => setMany is ds (ρ.set i (.dat d))
  | _, _, _ => none
def tGs (K : PySem.W.Frag) (sl : List Nat) : TGs := fun vs σ H Q => ∃ O dv ρ ds ρ2, Al O H ∧ RepE K O H dv σ ρ ∧ DxAll K (Fz O H) vs ds ∧ setMany sl ds ρ = some ρ2 ∧
  ∀ σ2, RepE K O H dv σ2 ρ2 → (∀ vs : List Nat, (∀ i ∈ sl, i ∈ vs) → wipe σ2 vs = wipe σ vs) → Q σ2 H
structure PGsF (X : Cx) (es : List Expr) (sl : List Nat) : Prop where
  pgs : PGs X es (tGs X.K sl)
theorem pgsf_nil {X : Cx} : PGsF X [] [] := ⟨⟨fun pins s σ H vs us Q I r ⟨O, dv, ρ, ds, ρ2, al, re, dx, e, q⟩ => pgs_nil.run pins s σ H vs us Q I r (by
  cases ds with
  | nil =>
    cases dx
    cases e
    exact ⟨rfl, q σ re fun _ _ => rfl⟩
  | cons d ds => cases e)⟩⟩
theorem pgsf_cons {X : Cx} {x : Str} {pos : Pos} {es : List Expr} {i : Nat} {sl : List Nat} (hN : X.N.Nodup) (hi : X.N[i]? = some x) (hx : Loc X.env.scope x) (h2 : PGsF X es sl)
    (hf : X.fn x = true ∨ X.env.scope.names.lookup x = some .local := by first | exact .inl rfl | exact .inr rfl | assumption) (hs : (assignEach (.Name x pos :: es) X.env).map (·.2) = assign (.Name x pos) X.env :: (assignEach es X.env).map (·.2) := by rfl) : PGsF X (.Name x pos :: es) (i :: sl) :=
  ⟨⟨fun pins s σ H vs us Q I r ⟨O, dv, ρ, ds, ρ2, al, re, dx, e, q⟩ => (pgs_cons (pg_name hN hi hx hf) h2.pgs hs).run pins s σ H vs us Q I r (by
    cases ds with
    | nil => cases e
    | cons d ds =>
      cases dx with
      | cons dh dr =>
        refine ⟨_, _, rfl, O, dv, _, ds, ρ2, al, re.set (ov := some _) (e := .dat d) ⟨_, rfl, dh⟩ i, dr, e, fun σ2 h3 h4 => q σ2 h3 fun ws hw => ?_⟩
        rw [h4 ws fun j hj => hw j (List.mem_cons_of_mem _ hj), wipe_set (hw i List.mem_cons_self)])⟩⟩
def tupD : PyData → Option (List PyData)
  | .tuple ds => some ds
  | _ => none
def setT (sl : List Nat) : PyData → Dn → Option Dn := fun d ρ => (tupD d).bind fun ds => if ds.length = sl.length then setMany sl ds ρ else none
theorem pgf_tup {X : Cx} {es : List Expr} {k : Nat} {pos : Pos} {sl : List Nat} (hc : X.calm = true) (h : PGsF X es sl) (hn : (assignEach es X.env).length = sl.length := by rfl) (hst : (assignEach es X.env).findIdx? (·.1) = none := by rfl) : PGF X (.Tuple es k pos) sl (setT sl) :=
  ⟨(pg_tup hc h.pgs hn hst).imp fun v σ H Q ⟨O, dv, ρ, d, ρ2, al, r, dx, e, q⟩ => by
    obtain ⟨ds, e1, e2⟩ := Option.bind_eq_some_iff.mp e
    split at e2
    case isFalse => cases e2
    rename_i hl
    cases dx with
    | tup hs ha =>
      cases e1
      exact ⟨_, _, rfl, sqT_same (fz_sub O H) hs, by rw [ha.len]; exact hl, O, dv, ρ, _, ρ2, al, r, ha, e2, q⟩
    | _ => cases e1⟩
/-! ### comprehensions -/
def compM (h : PyData → Option (Option PyData)) : List PyData → Option (List PyData)
  | [] => some []
  | x :: xs => (h x).bind fun o => (compM h xs).bind fun ys => some (o.toList ++ ys)
theorem compM_snoc (h : PyData → Option (Option PyData)) (x : PyData) : ∀ xs : List PyData, compM h (xs ++ [x]) = (compM h xs).bind fun ys => (h x).bind fun o => some (ys ++ o.toList)
  | [] => by
    simp only [List.nil_append, compM]
    cases h x <;> simp
  | y :: xs => by
    simp only [List.cons_append, compM]
    rw [compM_snoc h x xs]
    cases h y <;> cases compM h xs <;> cases h x <;> simp
theorem compM_take {h : PyData → Option (Option PyData)} {xs ys : List PyData} (e : compM h xs = some ys) (i : Nat) : ∃ zs, compM h (xs.take i) = some zs ∧ zs.length ≤ i := by
  induction xs generalizing i ys with
  | nil => exact ⟨[], by simp [compM], Nat.zero_le _⟩
  | cons x xs ih =>
    simp only [compM] at e
    obtain ⟨o, e1, e⟩ := Option.bind_eq_some_iff.mp e
    obtain ⟨zs, e2, e⟩ := Option.bind_eq_some_iff.mp e
    cases i with
    | zero => exact ⟨[], rfl, Nat.le_refl _⟩
    | succ i =>
      obtain ⟨ws, e3, l⟩ := ih e2 i
      refine ⟨o.toList ++ ws, by simp [List.take_succ_cons, compM, e1, e3], ?_⟩
      have : o.toList.length ≤ 1 := by cases o <;> simp
      rw [List.length_append]
      omega
def stepC (g : PyData → Dn → Option Dn) (tt : Dn → Option Bool) (te : DF) (ρ : Dn) : PyData → Option (Option PyData) := fun x => (g x ρ).bind fun ρ2 => (tt ρ2).bind fun b => if b = true then (te ρ2).map some else some none
def lcL (fi : Dn → Option (List PyData)) (g : PyData → Dn → Option Dn) (tt : Dn → Option Bool) (te : DF) (vs : List Nat) : Dn → Option (List PyData) := fun ρ => (fi ρ).bind fun xs => if xs.length < lim then compM (stepC g tt te (wipeE ρ vs)) xs else none
theorem RepE.shift {K : PySem.W.Frag} {O O' : Hid} {H H' : Hp} {dv : V} {σ : L2.St} {ρ : Dn} (h : RepE K O H dv σ ρ) (s : Same H H') (f : Same (Fz O H) (Fz O' H')) (o : ∀ p, O p → O' p) : RepE K O' H' dv σ ρ := ⟨h.1, fun i e q => by
  obtain ⟨ov, h1, h2⟩ := h.2 i e q
  refine ⟨ov, h1, h2.shift o f fun q k => ?_⟩
  obtain ⟨_, x, z⟩ := h2.hd k
  rw [z]
  exact s q x z⟩
def yesT : Dn → Option Bool := fun _ => some true
structure PTsF (X : Cx) (ifs : List Expr) (f : Dn → Option Bool) : Prop where
  pts : PTs X ifs (tFT X.K f)
theorem ptsf_nil {X : Cx} : PTsF X [] yesT := ⟨⟨fun pins s σ H Q I ⟨O, dv, ρ, b, al, r, e, q⟩ => pts_nil.run pins s σ H Q I (by cases e; exact q H (Same.refl H))⟩⟩
theorem ptsf_one {X : Cx} {c : Expr} {f : Dn → Option Bool} (h : PFT X c f) : PTsF X [c] f := ⟨⟨fun pins s σ H Q I q => (pts_one h.pt).run pins s σ H Q I q⟩⟩
theorem tlcF {K : PySem.W.Frag} {fi : Dn → Option (List PyData)} {sl vs : List Nat} {g : PyData → Dn → Option Dn} {tt : Dn → Option Bool} {te : DF} {σ : L2.St} {H : Hp} {Q : VK} (hsl : ∀ i ∈ sl, i ∈ vs) (h : tFL K (lcL fi g tt te vs) σ H Q) :
    tLc (iF K fi) (tG K sl g) (tFT K tt) (tF K te) vs σ H Q := by
    obtain ⟨O, dv, ρ, d, al, r, e, q⟩ := h
    obtain ⟨xs, e1, e⟩ := Option.bind_eq_some_iff.mp e
    split at e
    case isFalse => cases e
    rename_i hl
    have ey := e
    refine ⟨O, dv, ρ, xs, al, r, e1, fun J H1 s1 it D nD => ?_⟩
    let O' : Hid := fun a => O a ∨ a = D
    have nO : ¬ O D := (al.same s1).new nD
    have r1 := r.same s1
    -- what holds of each heap within
    have key : ∀ H2 : Hp, Same H1 H2 → (∃ acc, H2 D = some (.lst acc)) → Same (Fz O H1) (Fz O' H2) ∧ Al O' H2 := fun H2 s2 ⟨acc, hD⟩ => by
      refine ⟨fun b o z => ?_, fun b z => ?_⟩
      · obtain ⟨z1, z2⟩ := fz_get z
        rw [fz_out fun w => w.elim z2 fun w => by rw [w, nD] at z1; cases z1]
        exact s2 b o z1
      · rcases z with z | z
        · exact (al.same s1).same s2 b z
        · rw [z, hD]
          exact fun z => nomatch z
    refine ⟨fun i m H2 => m = xs.length - i ∧ i ≤ xs.length ∧ Same H1 H2 ∧ ∃ acc zs, H2 D = some (.lst acc) ∧ compM (stepC g tt te (wipeE ρ vs)) (xs.take i) = some zs ∧ DxAll K (Fz O' H2) acc zs,
      ⟨xs.length, by simp, Nat.zero_le _, new_same nD, [], [], upd_same, by simp [compM], .nil⟩, ?_⟩
    rintro i m H2 ⟨rfl, hi, s2, acc, zs, hD, ez, dz⟩
    obtain ⟨k1, k2⟩ := key H2 s2 ⟨acc, hD⟩
    obtain ⟨g1, g2, g3⟩ := it O' H2 k1 k2
    by_cases hlt : i < xs.length
    · refine .inr ⟨g1 i hlt, _, fun H' p' => ⟨xs.length - (i + 1), by omega, rfl, hlt, p'⟩, fun x H3 y => ?_⟩
      have ex : xs[i]? = some xs[i] := List.getElem?_eq_getElem hlt
      obtain ⟨s3, dx⟩ := g3 i x H3 _ ex y
      obtain ⟨zs', ez', lz'⟩ := compM_take ey (i + 1)
      have et : xs.take (i + 1) = xs.take i ++ [xs[i]] := by rw [List.take_succ, ex]; rfl
      rw [et, compM_snoc, ez] at ez'
      obtain ⟨o, eo, ez'⟩ := Option.bind_eq_some_iff.mp (show ((stepC g tt te (wipeE ρ vs)) xs[i]).bind (fun o => some (zs ++ o.toList)) = some zs' from ez')
      have eo0 := eo
      unfold stepC at eo
      obtain ⟨ρ2, e2, eo⟩ := Option.bind_eq_some_iff.mp eo
      obtain ⟨b, e3, eo⟩ := Option.bind_eq_some_iff.mp eo
      have al3 := k2.same s3
      have r3 : RepE K O' H3 dv (wipe σ vs) (wipeE ρ vs) := ((r1.wipe _).shift s2 k1 fun p h => .inl h).same s3
      have snoc : ∀ o', stepC g tt te (wipeE ρ vs) xs[i] = some o' → compM (stepC g tt te (wipeE ρ vs)) (xs.take (i + 1)) = some (zs ++ o'.toList) := fun o' h => by
        rw [et, compM_snoc, ez]
        simp [h]
      refine ⟨O', dv, _, _, ρ2, al3, r3, dx, e2, fun σ2 r4 hw => ⟨(hw _ hsl).trans (wipe_wipe _ _), O', dv, ρ2, b, al3, r4, e3, fun H4 s4 => ?_⟩⟩
      cases b with
      | false =>
        refine iteF ?_
        simp only [Bool.false_eq_true, if_false] at eo
        cases eo
        refine ⟨(s2.trans s3).trans s4, acc, zs, s4 _ _ (s3 _ _ hD), ?_, (dz.same (s3.fz O')).same (s4.fz O')⟩
        rw [snoc _ eo0]
        simp
      | true =>
        refine iteT ?_
        simp only [if_true] at eo
        obtain ⟨y2, e4, rfl⟩ := Option.map_eq_some_iff.mp eo
        refine ⟨O', dv, ρ2, y2, al3.same s4, r4.same s4, e4, fun u H5 s5 du => ⟨acc, s5 _ _ (s4 _ _ (s3 _ _ hD)), ?_, ?_⟩⟩
        · have lacc : acc.length = zs.length := dz.len
          obtain ⟨ws, ew, lw⟩ := compM_take ey i
          rw [ez] at ew
          cases ew
          exact lim_le (by omega)
        · have nn : ∀ b o, H1 b = some o → b ≠ D := fun b o z w => by rw [w, nD] at z; cases z
          refine ⟨fun b o z => ?_, acc ++ [u], zs ++ [y2], upd_same, snoc _ eo0, ?_⟩
          · rw [upd_ne (nn b o z)]
            exact s5 _ _ (s4 _ _ (s3 _ _ (s2 _ _ z)))
          · rw [fz_upd (show O' D from .inr rfl)]
            exact (((dz.same (s3.fz O')).same (s4.fz O')).same (s5.fz O')).append (.cons du .nil)
    · have ei : i = xs.length := by omega
      subst ei
      rw [List.take_length, ey] at ez
      cases ez
      exact .inl ⟨g2, q D acc _ (s1.trans s2) (s1.free nD) hD dz⟩
theorem pfl_lc {X : Cx} {elt tg iter : Expr} {ifs : List Expr} {scope : Scope} {own : List (Str × Nat)} {pos : Pos} {fi : Dn → Option (List PyData)} {sl : List Nat} {g : PyData → Dn → Option Dn} {tt : Dn → Option Bool} {te : DF} (hc : X.calm = true) (hN : X.N.Nodup) (hi : PIF X tg iter fi) (ok : BlkOk X.N X.env.scope scope own)
    (hg : ∀ (s : Shared) (H : Hp) (C : Addr) (cl : List (Str × Addr)) (fp : List Addr), PGF (X.blk s H scope (compEnvC scope cl C X.env) fp) tg sl g) (ht : ∀ (s : Shared) (H : Hp) (C : Addr) (cl : List (Str × Addr)) (fp : List Addr), PTsF (X.blk s H scope (compEnvC scope cl C X.env) fp) ifs tt)
    (he : ∀ (s : Shared) (H : Hp) (C : Addr) (cl : List (Str × Addr)) (fp : List Addr), PF (X.blk s H scope (compEnvC scope cl C X.env) fp) elt te) (hsl : ∀ i ∈ sl, i ∈ own.map (·.2) := by decide) (hs : ∀ x, foldedSetIterable iter X.env x = pure x := by intro _; rfl) :
    PFL X (.ListComp elt [⟨tg, iter, ifs, 0⟩] scope pos) (lcL fi g tt te (own.map (·.2))) :=
  ⟨(pe_lc (g := tG X.K sl g) (tt := tFT X.K tt) (te := tF X.K te) hc hN hi.pi ok (fun s H C cl fp => (hg s H C cl fp).pg) (fun s H C cl fp => (ht s H C cl fp).pts) (fun s H C cl fp => (he s H C cl fp).pe) hs).imp fun σ H Q h => tlcF hsl h⟩
end DS
namespace DS
open PySem PySem.Spec PyProof.Rows L2 PySem.SeqAt
/-! ### a dict is no text -/
theorem dict_no_str (l : Addr) (es : Array DictEntry) (n : Nat) (dd : Option Addr) (sl : Array (Option Value)) (b : Str) (u : Tok) :
    Meets (Builtin.«dict.__eq__» ⟨[.ref l, .str b u], []⟩) (fun _ R s => s.heap.get? l = some { cls := .type "dict", dict := dd, data := .dict es n, slots := sl } ∧ R (.ok (.ret .notImplemented)) s) :=
  .of_wp fun prog w A R s h => by
    obtain ⟨hp, g, d, tk, os⟩ := s
    obtain ⟨hl, h⟩ := h
    have f1 := F.sub_str_dict
    wp_walk using wpAny_loadPart' hl, wpAny_load hl
    exact ⟨_, rfl, h⟩
theorem str_no_dict (b : Str) (u : Tok) (l : Addr) (es : Array DictEntry) (n : Nat) (dd : Option Addr) (sl : Array (Option Value)) :
    Meets (Builtin.«str.__eq__» ⟨[.str b u, .ref l], []⟩) (fun _ R s => s.heap.get? l = some { cls := .type "dict", dict := dd, data := .dict es n, slots := sl } ∧ R (.ok (.ret .notImplemented)) s) :=
  .of_wp fun prog w A R s h => by
    obtain ⟨hp, g, d, tk, os⟩ := s
    obtain ⟨hl, h⟩ := h
    wp_walk using wpAny_loadPart' hl, wpAny_load hl
    exact ⟨_, rfl, h⟩
section
variable {A : Around} {s : Shared}
theorem rc_dict_str {l : Addr} {o : Obj} {es : Array DictEntry} {n : Nat} (b : Str) (u : Tok) (h1 : s.heap.get? l = some o) (h2 : o.cls = .type "dict") (h3 : o.data = .dict es n) (hu : A.units < cLine) : RcAt A s (.ref l) (.str b u) false := fun prog w E Q h => by
  obtain ⟨cls, dd, data, sl⟩ := o
  simp only at h2 h3
  subst h2 h3
  exact rc_eq_decline_or (k := false) ⟨_, h1, rfl⟩ (typeIs_str s b u) (by decide) F.sub_str_dict F.slot_dict_eq F.slot_str_eq_refl
    (fun _ hq => call_meets F.slot_dict_eq ⟨_, h1, rfl⟩ F.entry_dict_eq (F.args_dict_eq_2 _ _) (dict_no_str l es n dd sl b u) ⟨h1, hq⟩)
    (fun _ hq => call_meets F.slot_str_eq_refl (typeIs_str s b u) F.entry_str_eq (F.args_str_eq_2 _ _) (str_no_dict b u l es n dd sl) ⟨h1, hq⟩)
    (fun _ hq => wpAny_of_eq (rfl : isSame (.ref l) (.str b u) = pure false) hq) (.inr hu) h
theorem rc_str_dict {l : Addr} {o : Obj} {es : Array DictEntry} {n : Nat} (b : Str) (u : Tok) (h1 : s.heap.get? l = some o) (h2 : o.cls = .type "dict") (h3 : o.data = .dict es n) (hu : A.units < cLine) : RcAt A s (.str b u) (.ref l) false := fun prog w E Q h => by
  obtain ⟨cls, dd, data, sl⟩ := o
  simp only at h2 h3
  subst h2 h3
  exact rc_eq_decline_or (k := false) (typeIs_str s b u) ⟨_, h1, rfl⟩ (by decide) F.sub_dict_str F.slot_str_eq F.slot_dict_eq_refl
    (fun _ hq => call_meets F.slot_str_eq (typeIs_str s b u) F.entry_str_eq (F.args_str_eq_2 _ _) (str_no_dict b u l es n dd sl) ⟨h1, hq⟩)
    (fun _ hq => call_meets F.slot_dict_eq_refl ⟨_, h1, rfl⟩ F.entry_dict_eq (F.args_dict_eq_2 _ _) (dict_no_str l es n dd sl b u) ⟨h1, hq⟩)
    (fun _ hq => wpAny_of_eq (rfl : isSame (.str b u) (.ref l) = pure false) hq) (.inr hu) h
end
end DS
namespace DS
open PySem PySem.Spec PyProof.Rows L2
/-- t == () -/
theorem op_eqE {X : Cx} (hu : X.A.units + 64 < cLine) : OpR X (compareOp .Eq) (fun x y H Q => ∃ a b xs, x = .ref a ∧ y = .ref b ∧ SqT X.K H a xs ∧ SqT X.K H b [] ∧ Q (.bl (decide (xs.length = 0))) H) := by
  intro pins s σ H x y v u Q I rx ry h
  obtain ⟨a, b, xs, rfl, rfl, ha, hb, q⟩ := h
  cases rx
  cases ry
  obtain ⟨its, r1, p1, _⟩ := I.tuple ha
  obtain ⟨its2, r2, p2, _⟩ := I.tuple hb
  cases r2
  have t := SeqAt.RcAt.tuples (A := X.A) (e := fun _ => true) (show s.heap.IsTuple a its.toArray from p1) (show s.heap.IsTuple b ([] : List Value).toArray from p2) (by omega) (fun j j1 j2 => absurd j2 (by simp))
  refine t X.prog X.w _ _ ⟨.bl _, H, I, rfl, ?_⟩
  cases its with
  | nil =>
    cases r1
    exact q
  | cons z its =>
    cases r1 with
    | cons r1 r2 => exact q
/-- l != [] -/
theorem op_neL {X : Cx} (hu : X.A.units + 64 < cLine) : OpR X (compareOp .NotEq) (fun x y H Q => ∃ a b xs, x = .ref a ∧ y = .ref b ∧ SqL X.K H a xs ∧ SqL X.K H b [] ∧ Q (.bl (!decide (xs.length = 0))) H) := by
  intro pins s σ H x y v u Q I rx ry h
  obtain ⟨a, b, xs, rfl, rfl, ha, hb, q⟩ := h
  cases rx
  cases ry
  obtain ⟨its, r1, p1, _⟩ := I.list ha
  obtain ⟨its2, r2, p2, _⟩ := I.list hb
  cases r2
  cases its with
  | nil =>
    cases r1
    have t := SeqAt.RcNeAt.lists (A := X.A) (e := fun _ => true) (show s.heap.IsList a ([] : List Value).toArray from p1.isList) (show s.heap.IsList b ([] : List Value).toArray from p2.isList) rfl (by omega) (fun j j1 j2 => absurd j2 (by simp))
    exact t X.prog X.w _ _ ⟨.bl _, H, I, rfl, q⟩
  | cons z its =>
    have t := SeqAt.RcNeAt.lists_lengths (A := X.A) (show s.heap.IsList a (z :: its).toArray from p1.isList) (show s.heap.IsList b ([] : List Value).toArray from p2.isList) (by simp) (by omega)
    cases r1 with
    | cons r1 r2 => exact t X.prog X.w _ _ ⟨.bl _, H, I, rfl, q⟩
end DS
namespace DS
open PySem PySem.Spec PyProof.Rows L2
/-! ### operations on data -/
section
variable {X : Cx}
def gI (h : Int → Int → PyData) : PyData → PyData → Option PyData := fun d e => (toI d).bind fun i => (toI e).bind fun j => some (h i j)
def gIC (c : Int → Int → Bool) (h : Int → Int → PyData) : PyData → PyData → Option PyData := fun d e => (toI d).bind fun i => (toI e).bind fun j => if c i j = true then some (h i j) else none
theorem _root_.L2.OpR.imp {f : Value → Value → Sem Value} {r r' : R2} (h : OpR X f r) (k : ∀ x y H Q, r' x y H Q → r x y H Q) : OpR X f r' := fun pins s σ H x y v u Q I rx ry q => h pins s σ H x y v u Q I rx ry (k x y H Q q)
theorem opI0F {f : Value → Value → Sem Value} {h : Int → Int → V} {hd : Int → Int → PyData} (ho : OpR X f (rI0 h)) (k : ∀ (K : PySem.W.Frag) (H : Hp) (i j : Int), Dx K H (h i j) (hd i j)) : OpR X f (r2F X.K (gI hd)) :=
  ho.imp fun x y H Q ⟨O, d, e, c, al, dx, dy, g, q⟩ => by
    obtain ⟨i, e1, g⟩ := Option.bind_eq_some_iff.mp g
    obtain ⟨j, e2, g⟩ := Option.bind_eq_some_iff.mp g
    cases g
    rw [toI_some e1] at dx
    rw [toI_some e2] at dy
    cases dx
    cases dy
    exact ⟨i, j, rfl, rfl, q _ H (Same.refl H) (k _ _ i j)⟩
theorem opIF {f : Value → Value → Sem Value} {C : Int → Int → Prop} {h : Int → Int → V} {hd : Int → Int → PyData} {c : Int → Int → Bool} (ho : OpR X f (rI C h)) (hc : ∀ i j, c i j = true → C i j) (k : ∀ (K : PySem.W.Frag) (H : Hp) (i j : Int), Dx K H (h i j) (hd i j)) : OpR X f (r2F X.K (gIC c hd)) :=
  ho.imp fun x y H Q ⟨O, d, e, cc, al, dx, dy, g, q⟩ => by
    obtain ⟨i, e1, g⟩ := Option.bind_eq_some_iff.mp g
    obtain ⟨j, e2, g⟩ := Option.bind_eq_some_iff.mp g
    split at g
    case isFalse => cases g
    rename_i hh
    cases g
    rw [toI_some e1] at dx
    rw [toI_some e2] at dy
    cases dx
    cases dy
    exact ⟨i, j, rfl, rfl, hc i j hh, q _ H (Same.refl H) (k _ _ i j)⟩
theorem of_sub : OpR X (binaryOp .Sub) (r2F X.K (gI fun i j => .int (i - j))) := opI0F op_sub fun _ _ _ _ => .int _
def cMul (i j : Int) : Bool := decide (-(2 ^ 64) < i ∧ i < 2 ^ 64) || decide (-(2 ^ 64) < j ∧ j < 2 ^ 64)
theorem of_mul : OpR X (binaryOp .Mult) (r2F X.K (gIC cMul fun i j => .int (i * j))) := opIF op_mul (fun i j h => by
  unfold cMul at h
  rcases Bool.or_eq_true_iff.mp h with h | h
  · exact .inl (of_decide_eq_true h)
  · exact .inr (of_decide_eq_true h)) fun _ _ _ _ => .int _
def cPos (_ j : Int) : Bool := decide (0 < j)
theorem of_mod : OpR X (binaryOp .Mod) (r2F X.K (gIC cPos fun i j => .int (i % j))) := opIF op_mod (fun i j h => of_decide_eq_true h) fun _ _ _ _ => .int _
def cDiv (_ j : Int) : Bool := decide (0 < j ∧ j < 1073741824)
theorem of_fdiv : OpR X (binaryOp .FloorDiv) (r2F X.K (gIC cDiv fun i j => .int (i / j))) := opIF op_fdiv (fun i j h => (of_decide_eq_true h : 0 < j ∧ j < 1073741824)) fun _ _ _ _ => .int _
theorem of_lt : OpR X (compareOp .Lt) (r2F X.K (gI fun i j => .bool (decide (i < j)))) := opI0F op_lt fun _ _ _ _ => .bl _
theorem of_le : OpR X (compareOp .LtE) (r2F X.K (gI fun i j => .bool (decide (i ≤ j)))) := opI0F op_le fun _ _ _ _ => .bl _
theorem of_gt : OpR X (compareOp .Gt) (r2F X.K (gI fun i j => .bool (decide (j < i)))) := opI0F op_gt fun _ _ _ _ => .bl _
theorem of_ge : OpR X (compareOp .GtE) (r2F X.K (gI fun i j => .bool (decide (j ≤ i)))) := opI0F op_ge fun _ _ _ _ => .bl _
/-! == and != of data -/
def isStr : PyData → Bool
  | .str _ => true
  | _ => false
theorem isStr_eq {d : PyData} (h : isStr d = true) : ∃ x, d = .str x := by cases d <;> first | exact ⟨_, rfl⟩ | cases h
def cmpOk (d e : PyData) : Bool := (SeqAt.shaped d && SeqAt.shaped e) || (isStr d && isStr e)
def isTup : PyData → Bool
  | .tuple _ => true
  | _ => false
def isLst : PyData → Bool
  | .list _ => true
  | _ => false
/-- x == (), x a tuple; x == [], x a list -/
def eqNil (d e : PyData) : Bool := match e with
  | .tuple [] => isTup d
  | .list [] => isLst d
  | _ => false
theorem eqNil_eq {d e : PyData} (h : eqNil d e = true) : ∃ xs, (d = .tuple xs ∧ e = .tuple []) ∨ (d = .list xs ∧ e = .list []) := by
  cases e with
  | tuple ys =>
    cases ys with
    | nil => cases d <;> first | exact ⟨_, .inl ⟨rfl, rfl⟩⟩ | cases h
    | cons y ys => cases h
  | list ys =>
    cases ys with
    | nil => cases d <;> first | exact ⟨_, .inr ⟨rfl, rfl⟩⟩ | cases h
    | cons y ys => cases h
  | _ => cases h
def strX (d e : PyData) : Bool := isStr d != isStr e
def gEq (d e : PyData) : Option PyData := if cmpOk d e = true then some (.bool (PyData.eqv d e)) else if (eqNil d e || strX d e) = true then some (.bool (PyData.eqv d e)) else none
def gNe (d e : PyData) : Option PyData := if cmpOk d e = true then some (.bool (!PyData.eqv d e)) else if eqNil d e = true then some (.bool (!PyData.eqv d e)) else none
theorem eqv_nil (xs : List PyData) : PyData.eqv (.tuple xs) (.tuple []) = decide (xs.length = 0) := by cases xs <;> simp [PyData.eqv, PyData.eqvAll]
theorem eqv_nilL (xs : List PyData) : PyData.eqv (.list xs) (.list []) = decide (xs.length = 0) := by cases xs <;> simp [PyData.eqv, PyData.eqvAll]
theorem op_eqL {X : Cx} (hu : X.A.units + 64 < cLine) : OpR X (compareOp .Eq) (fun x y H Q => ∃ a b xs, x = .ref a ∧ y = .ref b ∧ SqL X.K H a xs ∧ SqL X.K H b [] ∧ Q (.bl (decide (xs.length = 0))) H) := by
  intro pins s σ H x y v u Q I rx ry h
  obtain ⟨a, b, xs, rfl, rfl, ha, hb, q⟩ := h
  cases rx
  cases ry
  obtain ⟨its, r1, p1, _⟩ := I.list ha
  obtain ⟨its2, r2, p2, _⟩ := I.list hb
  cases r2
  cases its with
  | nil =>
    cases r1
    have t := SeqAt.RcAt.lists (A := X.A) (e := fun _ => true) (show s.heap.IsList a ([] : List Value).toArray from p1.isList) (show s.heap.IsList b ([] : List Value).toArray from p2.isList) rfl (by omega) (fun j j1 j2 => absurd j2 (by simp))
    exact t X.prog X.w _ _ ⟨.bl _, H, I, rfl, q⟩
  | cons z its =>
    have t := SeqAt.RcAt.lists_lengths (A := X.A) (show s.heap.IsList a (z :: its).toArray from p1.isList) (show s.heap.IsList b ([] : List Value).toArray from p2.isList) (by simp) (by omega)
    cases r1 with
    | cons r1 r2 => exact t X.prog X.w _ _ ⟨.bl _, H, I, rfl, q⟩
theorem op_neE {X : Cx} (hu : X.A.units + 64 < cLine) : OpR X (compareOp .NotEq) (fun x y H Q => ∃ a b xs, x = .ref a ∧ y = .ref b ∧ SqT X.K H a xs ∧ SqT X.K H b [] ∧ Q (.bl (!decide (xs.length = 0))) H) := by
  intro pins s σ H x y v u Q I rx ry h
  obtain ⟨a, b, xs, rfl, rfl, ha, hb, q⟩ := h
  cases rx
  cases ry
  obtain ⟨its, r1, p1, _⟩ := I.tuple ha
  obtain ⟨its2, r2, p2, _⟩ := I.tuple hb
  cases r2
  have t := SeqAt.RcNeAt.tuples (A := X.A) (e := fun _ => true) (show s.heap.IsTuple a its.toArray from p1) (show s.heap.IsTuple b ([] : List Value).toArray from p2) (by omega) (fun j j1 j2 => absurd j2 (by simp))
  refine t X.prog X.w _ _ ⟨.bl _, H, I, rfl, ?_⟩
  cases its with
  | nil =>
    cases r1
    exact q
  | cons z its =>
    cases r1 with
    | cons r1 r2 => exact q
/-- a text and what is none -/
theorem rc_strX {X : Cx} {pins : List (Addr × Obj)} {σ : L2.St} {H : Hp} {s : Shared} (I : Inv X pins σ H s) (hu : X.A.units + 64 < cLine) {x y : V} {v u : Value} {d e : PyData} (dx : Dx X.K H x d) (dy : Dx X.K H y e) (rx : RelV x v) (ry : RelV y u) (h : strX d e = true) : SeqAt.RcAt X.A s v u false ∧ PyData.eqv d e = false := by
  have ax := Dx.rx I dx rx
  have ay := Dx.rx I dy ry
  have room : X.A.units < cLine := by omega
  cases ax with
  | str z t =>
    cases ay with
    | str z t => cases h
    | non => exact ⟨SeqAt.RcAt.str_none z t, by simp [PyData.eqv]⟩
    | bl b => exact ⟨SeqAt.RcAt.str_bool z t b, by simp [PyData.eqv]⟩
    | int i t2 => exact ⟨SeqAt.RcAt.str_int z t i t2, by simp [PyData.eqv]⟩
    | lst h1 h2 h3 h4 => exact ⟨SeqAt.RcAt.str_list z t ⟨_, h1, h2, _, h3⟩ room, by simp [PyData.eqv]⟩
    | tup h1 h2 h3 h4 => exact ⟨SeqAt.RcAt.str_tuple z t ⟨_, h1, h2, _, h3⟩ room, by simp [PyData.eqv]⟩
    | dic h1 h2 h3 h4 h5 h6 => exact ⟨rc_str_dict z t h1 h2 h3 room, by simp [PyData.eqv]⟩
  | non =>
    cases ay with
    | str z t => exact ⟨SeqAt.RcAt.none_str z t, by simp [PyData.eqv]⟩
    | _ => cases h
  | bl b =>
    cases ay with
    | str z t => exact ⟨SeqAt.RcAt.bool_str b z t, by simp [PyData.eqv]⟩
    | _ => cases h
  | int i t2 =>
    cases ay with
    | str z t => exact ⟨SeqAt.RcAt.int_str i t2 z t, by simp [PyData.eqv]⟩
    | _ => cases h
  | lst h1 h2 h3 h4 =>
    cases ay with
    | str z t => exact ⟨SeqAt.RcAt.list_str z t ⟨_, h1, h2, _, h3⟩ room, by simp [PyData.eqv]⟩
    | _ => cases h
  | tup h1 h2 h3 h4 =>
    cases ay with
    | str z t => exact ⟨SeqAt.RcAt.tuple_str z t ⟨_, h1, h2, _, h3⟩ room, by simp [PyData.eqv]⟩
    | _ => cases h
  | dic h1 h2 h3 h4 h5 h6 =>
    cases ay with
    | str z t => exact ⟨rc_dict_str z t h1 h2 h3 room, by simp [PyData.eqv]⟩
    | _ => cases h
theorem of_eq (hu : X.A.units + 64 < cLine) : OpR X (compareOp .Eq) (r2F X.K gEq) := by
  intro pins s σ H x y v u Q I rx ry ⟨O, d, e, c, al, dx, dy, g, q⟩
  unfold gEq at g
  split at g
  case isTrue h =>
    cases g
    rcases Bool.or_eq_true_iff.mp h with h | h
    · have h := Bool.and_eq_true_iff.mp h
      obtain ⟨as, r1⟩ := Rx.reads (Dx.rx I (dx.same (fz_sub O H)) rx)
      obtain ⟨bs, r2⟩ := Rx.reads (Dx.rx I (dy.same (fz_sub O H)) ry)
      exact SeqAt.compareEq_shaped r1 r2 h.1 h.2 hu ⟨.bl _, H, I, rfl, q _ H (Same.refl H) (.bl _)⟩
    · have h := Bool.and_eq_true_iff.mp h
      obtain ⟨x1, rfl⟩ := isStr_eq h.1
      obtain ⟨y1, rfl⟩ := isStr_eq h.2
      cases dx
      cases dy
      refine op_eq pins s σ H _ _ v u Q I rx ry ⟨rfl, ?_⟩
      have := q _ H (Same.refl H) (.bl _)
      rw [PyData.eqv] at this
      rw [dec_str]
      exact this
  case isFalse =>
    split at g
    case isFalse => cases g
    rename_i h
    cases g
    rcases Bool.or_eq_true_iff.mp h with h | h
    · obtain ⟨xs, ⟨rfl, rfl⟩ | ⟨rfl, rfl⟩⟩ := eqNil_eq h
      · have q := q _ H (Same.refl H) (.bl _)
        rw [eqv_nil] at q
        cases dx with
        | tup h1 h2 =>
          cases dy with
          | tup h3 h4 =>
            cases h4
            refine op_eqE hu pins s σ H _ _ v u Q I rx ry ⟨_, _, _, rfl, rfl, sqT_same (fz_sub O H) h1, sqT_same (fz_sub O H) h3, ?_⟩
            rw [h2.length]
            exact q
      · have q := q _ H (Same.refl H) (.bl _)
        rw [eqv_nilL] at q
        cases dx with
        | lst h1 h2 =>
          cases dy with
          | lst h3 h4 =>
            cases h4
            refine op_eqL hu pins s σ H _ _ v u Q I rx ry ⟨_, _, _, rfl, rfl, (fz_sub O H).seq h1, (fz_sub O H).seq h3, ?_⟩
            rw [h2.length]
            exact q
    · obtain ⟨rc, e0⟩ := rc_strX I hu (dx.same (fz_sub O H)) (dy.same (fz_sub O H)) rx ry h
      rw [e0] at q
      exact rc X.prog X.w _ _ ⟨.bl _, H, I, rfl, q _ H (Same.refl H) (.bl _)⟩
theorem of_ne (hu : X.A.units + 64 < cLine) : OpR X (compareOp .NotEq) (r2F X.K gNe) := by
  intro pins s σ H x y v u Q I rx ry ⟨O, d, e, c, al, dx, dy, g, q⟩
  unfold gNe at g
  split at g
  case isTrue h =>
    cases g
    rcases Bool.or_eq_true_iff.mp h with h | h
    · have h := Bool.and_eq_true_iff.mp h
      obtain ⟨as, r1⟩ := Rx.reads (Dx.rx I (dx.same (fz_sub O H)) rx)
      obtain ⟨bs, r2⟩ := Rx.reads (Dx.rx I (dy.same (fz_sub O H)) ry)
      exact SeqAt.compareNe_shaped r1 r2 h.1 h.2 hu ⟨.bl _, H, I, rfl, q _ H (Same.refl H) (.bl _)⟩
    · have h := Bool.and_eq_true_iff.mp h
      obtain ⟨x1, rfl⟩ := isStr_eq h.1
      obtain ⟨y1, rfl⟩ := isStr_eq h.2
      cases dx
      cases dy
      refine op_ne pins s σ H _ _ v u Q I rx ry ⟨rfl, ?_⟩
      have := q _ H (Same.refl H) (.bl _)
      rw [PyData.eqv] at this
      rw [dec_str]
      exact this
  case isFalse =>
    split at g
    case isFalse => cases g
    rename_i h
    cases g
    obtain ⟨xs, ⟨rfl, rfl⟩ | ⟨rfl, rfl⟩⟩ := eqNil_eq h
    · have q := q _ H (Same.refl H) (.bl _)
      rw [eqv_nil] at q
      cases dx with
      | tup h1 h2 =>
        cases dy with
        | tup h3 h4 =>
          cases h4
          refine op_neE hu pins s σ H _ _ v u Q I rx ry ⟨_, _, _, rfl, rfl, sqT_same (fz_sub O H) h1, sqT_same (fz_sub O H) h3, ?_⟩
          rw [h2.length]
          exact q
    · have q := q _ H (Same.refl H) (.bl _)
      rw [eqv_nilL] at q
      cases dx with
      | lst h1 h2 =>
        cases dy with
        | lst h3 h4 =>
          cases h4
          refine op_neL hu pins s σ H _ _ v u Q I rx ry ⟨_, _, _, rfl, rfl, (fz_sub O H).seq h1, (fz_sub O H).seq h3, ?_⟩
          rw [h2.length]
          exact q
/-! is None -/
def isNone : PyData → Bool
  | .none => true
  | _ => false
def gIsN (d e : PyData) : Option PyData := if isNone e = true then some (.bool (isNone d)) else none
def gNotN (d e : PyData) : Option PyData := if isNone e = true then some (.bool (!isNone d)) else none
theorem dx_none {K : PySem.W.Frag} {H : Hp} {v : V} {d : PyData} (h : Dx K H v d) : decide (v = .non) = isNone d := by
  cases h <;> rfl
theorem isNone_eq {d : PyData} (h : isNone d = true) : d = .none := by cases d <;> first | rfl | cases h
theorem of_isN : OpR X (compareOp .Is) (r2F X.K gIsN) := op_isN.imp fun x y H Q ⟨O, d, e, c, al, dx, dy, g, q⟩ => by
  unfold gIsN at g
  split at g
  case isFalse => cases g
  rename_i h
  cases g
  rw [isNone_eq h] at dy
  cases dy
  refine ⟨rfl, ?_⟩
  rw [dx_none dx]
  exact q _ H (Same.refl H) (.bl _)
theorem of_notN : OpR X (compareOp .IsNot) (r2F X.K gNotN) := op_notN.imp fun x y H Q ⟨O, d, e, c, al, dx, dy, g, q⟩ => by
  unfold gNotN at g
  split at g
  case isFalse => cases g
  rename_i h
  cases g
  rw [isNone_eq h] at dy
  cases dy
  refine ⟨rfl, ?_⟩
  rw [dx_none dx]
  exact q _ H (Same.refl H) (.bl _)
/-! in, not in: among ints -/
def intsD : List PyData → Option (List Int)
  | [] => some []
  | d :: ds => (toI d).bind fun i => (intsD ds).bind fun is => some (i :: is)
theorem intsD_some : ∀ {ds : List PyData} {is : List Int}, intsD ds = some is → ds = is.map .int
  | [], _, h => by cases h; rfl
  | d :: ds, is, h => by
    obtain ⟨i, e1, h⟩ := Option.bind_eq_some_iff.mp h
    obtain ⟨js, e2, h⟩ := Option.bind_eq_some_iff.mp h
    cases h
    rw [toI_some e1, intsD_some e2]
    rfl
theorem intsD_map : ∀ is : List Int, intsD (is.map .int) = some is
  | [] => rfl
  | i :: is => by simp [intsD, toI, intsD_map is]
theorem dxAll_ints {K : PySem.W.Frag} {H : Hp} : ∀ {is : List Int} {vs : List V}, DxAll K H vs (is.map PyData.int) → vs = is.map V.int
  | [], _, h => by cases h; rfl
  | i :: is, _, h => by
    cases h with
    | cons h1 h2 =>
      cases h1
      rw [dxAll_ints h2]
      rfl
def gIn (neg : Bool) (d e : PyData) : Option PyData := (toI d).bind fun i => (itemsD e).bind fun ds => (intsD ds).bind fun is => some (.bool (if neg then !(is.contains i) else is.contains i))
theorem in_ints (i : Int) : ∀ is : List Int, inV (.int i) (is.map V.int) = is.contains i
  | [] => rfl
  | j :: is => by
    have ih := in_ints i is
    unfold inV at ih ⊢
    rw [List.map_cons, List.any_cons, ih, List.contains_cons]
    congr 1
    show (decide (j = i) : Bool) = (i == j)
    by_cases h : j = i
    · subst h; simp
    · simp [h, Ne.symm h]
theorem flat_ints : ∀ is : List Int, (is.map V.int).all flatV = true
  | [] => rfl
  | j :: is => by rw [List.map_cons, List.all_cons, flat_ints is]; rfl
theorem rInF {neg : Bool} {x y : V} {H : Hp} {Q : VK} (h : r2F X.K (gIn neg) x y H Q) : rIn X.K neg x y H Q := by
  obtain ⟨O, d, e, c, al, dx, dy, g, q⟩ := h
  obtain ⟨i, e1, g⟩ := Option.bind_eq_some_iff.mp g
  obtain ⟨ds, e2, g⟩ := Option.bind_eq_some_iff.mp g
  obtain ⟨is, e3, g⟩ := Option.bind_eq_some_iff.mp g
  cases g
  rw [toI_some e1] at dx
  cases dx
  have ed := intsD_some e3
  subst ed
  have fin : ∀ vs, vs = is.map V.int → Q (.bl (if neg then !inV (.int i) vs else inV (.int i) vs)) H := fun vs h => by
    rw [h, in_ints]
    exact q _ H (Same.refl H) (.bl _)
  cases dy with
  | lst hs ha =>
    cases e2
    exact ⟨_, _, rfl, .inl ((fz_sub O H).seq hs), rfl, by rw [dxAll_ints ha]; exact flat_ints _, fin _ (dxAll_ints ha)⟩
  | tup hs ha =>
    cases e2
    exact ⟨_, _, rfl, .inr (sqT_same (fz_sub O H) hs), rfl, by rw [dxAll_ints ha]; exact flat_ints _, fin _ (dxAll_ints ha)⟩
  | _ => cases e2
theorem of_notIn : OpR X (compareOp .NotIn) (r2F X.K (gIn true)) := op_notIn_seq.imp fun _ _ _ _ h => rInF h
/-! + of lists, of tuples -/
def gCat : PyData → PyData → Option PyData
  | .list a, .list b => if a.length + b.length < lim then some (.list (a ++ b)) else none
  | .tuple a, .tuple b => if a.length + b.length < lim then some (.tuple (a ++ b)) else none
  | _, _ => none
end
/-! ### connectives, tests -/
section
variable {X : Cx} {a b c : Expr} {fa fb fc : DF} {rest : List Expr} {pos : Pos}
def andF (fa fb : DF) : DF := fun ρ => (fa ρ).bind fun d => (toB d).bind fun k => if k = true then fb ρ else some (.bool false)
def notF (fa : DF) : DF := fun ρ => (fa ρ).bind fun d => (toB d).bind fun k => some (.bool (!k))
theorem pf_one {op} (h : PF X a fa) : PF X (.BoolOp op [a] pos) fa := ⟨pe_one h.pe⟩
theorem pf_and (ha : PF X a fa) (hb : PF X (.BoolOp .And (b :: rest) pos) fb) : PF X (.BoolOp .And (a :: b :: rest) pos) (andF fa fb) := ⟨(pe_and ha.pe hb.pe).imp fun σ H Q ⟨O, dv, ρ, d, al, r, e, q⟩ => by
  obtain ⟨x, e1, e⟩ := Option.bind_eq_some_iff.mp e
  obtain ⟨k, e2, e⟩ := Option.bind_eq_some_iff.mp e
  rw [toB_some e2] at e1
  refine ⟨O, dv, ρ, _, al, r, e1, fun v H1 s1 h1 => ?_⟩
  cases h1
  refine ⟨k, rfl, ?_⟩
  cases k with
  | true => exact ⟨O, dv, ρ, d, al.same s1, r.same s1, e, fun v H2 s2 h2 => q v H2 (s1.trans s2) h2⟩
  | false => cases e; exact q _ H1 s1 (.bl _)⟩
theorem pf_not (ha : PF X a fa) : PF X (.UnaryOp .Not a pos) (notF fa) := ⟨(pe_not ha.pe).imp fun σ H Q ⟨O, dv, ρ, d, al, r, e, q⟩ => by
  obtain ⟨x, e1, e⟩ := Option.bind_eq_some_iff.mp e
  obtain ⟨k, e2, e⟩ := Option.bind_eq_some_iff.mp e
  cases e
  rw [toB_some e2] at e1
  refine ⟨O, dv, ρ, _, al, r, e1, fun v H1 s1 h1 => ?_⟩
  cases h1
  exact ⟨k, rfl, q _ H1 s1 (.bl _)⟩⟩
/-! the same as tests -/
structure PFW (X : Cx) (e : Expr) (f : Dn → Option Bool) : Prop where
  pw : PW X e (tFT X.K f)
theorem _root_.L2.PW.imp {e : Expr} {t t' : TT} (h : PW X e t) (k : ∀ σ H Q, t' σ H Q → t σ H Q) : PW X e t' := ⟨fun wh pins s σ H Q I q => h.run wh pins s σ H Q I (k σ H Q q)⟩
def andT (f g : Dn → Option Bool) : Dn → Option Bool := fun ρ => (f ρ).bind fun k => if k = true then g ρ else some false
def orT (f g : Dn → Option Bool) : Dn → Option Bool := fun ρ => (f ρ).bind fun k => if k = true then some true else g ρ
def notT (f : Dn → Option Bool) : Dn → Option Bool := fun ρ => (f ρ).bind fun k => some (!k)
variable {ga gb : Dn → Option Bool}
theorem PFW.pft {e : Expr} (h : PFW X e ga) : PFT X e ga := ⟨h.pw.pt⟩
theorem pfw_and1 (h : PFT X a ga) : PFW X (.BoolOp .And [a] pos) ga := ⟨pw_and1 h.pt⟩
theorem pfw_or1 (h : PFT X a ga) : PFW X (.BoolOp .Or [a] pos) ga := ⟨pw_or1 h.pt⟩
theorem pfw_and (ha : PFT X a ga) (hb : PFW X (.BoolOp .And (b :: rest) pos) gb) : PFW X (.BoolOp .And (a :: b :: rest) pos) (andT ga gb) := ⟨(pw_and ha.pt hb.pw).imp fun σ H Q ⟨O, dv, ρ, d, al, r, e, q⟩ => by
  obtain ⟨k, e1, e⟩ := Option.bind_eq_some_iff.mp e
  refine ⟨O, dv, ρ, _, al, r, e1, fun H1 s1 => ?_⟩
  cases k with
  | true => exact ⟨O, dv, ρ, d, al.same s1, r.same s1, e, fun H2 s2 => q H2 (s1.trans s2)⟩
  | false => cases e; exact q H1 s1⟩
theorem pfw_or (ha : PFT X a ga) (hb : PFW X (.BoolOp .Or (b :: rest) pos) gb) : PFW X (.BoolOp .Or (a :: b :: rest) pos) (orT ga gb) := ⟨(pw_or ha.pt hb.pw).imp fun σ H Q ⟨O, dv, ρ, d, al, r, e, q⟩ => by
  obtain ⟨k, e1, e⟩ := Option.bind_eq_some_iff.mp e
  refine ⟨O, dv, ρ, _, al, r, e1, fun H1 s1 => ?_⟩
  cases k with
  | false => exact ⟨O, dv, ρ, d, al.same s1, r.same s1, e, fun H2 s2 => q H2 (s1.trans s2)⟩
  | true => cases e; exact q H1 s1⟩
theorem pft_not (ha : PFT X a ga) : PFT X (.UnaryOp .Not a pos) (notT ga) := ⟨(pt_not ha.pt).imp fun σ H Q ⟨O, dv, ρ, d, al, r, e, q⟩ => by
  obtain ⟨k, e1, e⟩ := Option.bind_eq_some_iff.mp e
  cases e
  exact ⟨O, dv, ρ, _, al, r, e1, fun H1 s1 => q H1 s1⟩⟩
/-- a if c else b -/
def ifF (g : Dn → Option Bool) (fa fb : DF) : DF := fun ρ => (g ρ).bind fun k => if k = true then fa ρ else fb ρ
theorem pf_ifExp (hc : PFT X c ga) (ha : PF X a fa) (hb : PF X b fb) : PF X (.IfExp c a b pos) (ifF ga fa fb) := ⟨(pe_ifExp hc.pt ha.pe hb.pe).imp fun σ H Q ⟨O, dv, ρ, d, al, r, e, q⟩ => by
  obtain ⟨k, e1, e⟩ := Option.bind_eq_some_iff.mp e
  refine ⟨O, dv, ρ, _, al, r, e1, fun H1 s1 => ?_⟩
  cases k with
  | true => exact ⟨O, dv, ρ, d, al.same s1, r.same s1, e, fun v H2 s2 h2 => q v H2 (s1.trans s2) h2⟩
  | false => exact ⟨O, dv, ρ, d, al.same s1, r.same s1, e, fun v H2 s2 h2 => q v H2 (s1.trans s2) h2⟩⟩
/-! ### items, parts -/
def ixD (d e : PyData) : Option PyData := (toI e).bind fun i => match d with
  | .list ds => atI ds i
  | .tuple ds => atI ds i
  | .str z => if z.length < lim then (atI z.cps.toList i).map fun c => .str ⟨#[c]⟩ else none
  | _ => none
theorem DxAll.at {K : PySem.W.Frag} {H : Hp} {vs : List V} {ds : List PyData} {i : Int} {d : PyData} (h : DxAll K H vs ds) (e : atI ds i = some d) : ∃ v, atI vs i = some v ∧ Dx K H v d := by
  unfold atI at e ⊢
  rw [h.len]
  obtain ⟨j, e1, e2⟩ := Option.bind_eq_some_iff.mp e
  obtain ⟨v, h1, h2⟩ := h.get e2
  exact ⟨v, by rw [e1]; exact h1, h2⟩
theorem of_ix : IxR X (r2F X.K ixD) := fun va sl pins s σ H x y v u Q I rx ry ⟨O, d, e, c, al, dx, dy, g, q⟩ hs => by
  obtain ⟨i, e1, g⟩ := Option.bind_eq_some_iff.mp g
  rw [toI_some e1] at dy
  cases dy
  refine ix_seq va sl pins s σ H x _ v u Q I rx ry ?_ hs
  cases dx with
  | lst h1 h2 =>
    obtain ⟨w, e2, e3⟩ := h2.at g
    exact .inl ⟨_, _, _, _, rfl, rfl, (fz_sub O H).seq h1, e2, q _ H (Same.refl H) e3⟩
  | tup h1 h2 =>
    obtain ⟨w, e2, e3⟩ := h2.at g
    exact .inr (.inl ⟨_, _, _, _, rfl, rfl, sqT_same (fz_sub O H) h1, e2, q _ H (Same.refl H) e3⟩)
  | str z =>
    simp only at g
    split at g
    case isFalse => cases g
    rename_i hl
    obtain ⟨cc, e2, rfl⟩ := Option.map_eq_some_iff.mp g
    exact .inr (.inr ⟨_, _, _, rfl, rfl, Nat.le_of_lt (lim_le hl), e2, q _ H (Same.refl H) (.str _)⟩)
  | _ => cases g
theorem pf_ix (ha : PF X a fa) (hb : PF X b fb) (hs : PlainIx b := by exact fun _ _ => rfl) : PF X (.Subscript a b pos) (bin2 ixD fa fb) := ⟨(pe_ix of_ix ha.pe hb.pe hs).imp fun _ _ _ h => t2F h⟩
end
/-! ### calls -/
def rcF (K : PySem.W.Frag) (g : List PyData → Option PyData) : List V → Hp → VK → Prop := fun vs H Q => ∃ O ds c, Al O H ∧ DxAll K (Fz O H) vs ds ∧ g ds = some c ∧ ∀ v H', Same H H' → Dx K (Fz O H') v c → Q v H'
def callA (g : List PyData → Option PyData) (fa : Dn → Option (List PyData)) : DF := fun ρ => (fa ρ).bind g
section
variable {X : Cx} {x : Str} {p pos : Pos} {e : Expr} {es : List Expr} {fa : Dn → Option (List PyData)} {id T : String} {g : List PyData → Option PyData}
theorem tcF {σ : L2.St} {H : Hp} {Q : VK} (h : tF X.K (callA g fa) σ H Q) : tCB (rcF X.K g) (tFA X.K fa) σ H Q := by
  obtain ⟨O, dv, ρ, d, al, r, e, q⟩ := h
  obtain ⟨ds, e1, e⟩ := Option.bind_eq_some_iff.mp e
  exact ⟨O, dv, ρ, ds, al, r, e1, fun vs H1 s1 h1 => ⟨O, ds, d, al.same s1, h1, e, fun v H2 s2 h2 => q v H2 (s1.trans s2) h2⟩⟩
theorem pf_callB (hc : CallR X (.builtin id) (rcF X.K g)) (hg : Gl X x) (hm : X.mg x = none) (hv : bootBuiltins x = some (.builtin id)) (ha : PFA X (e :: es) fa) (hn : x ≠ "__name__" := by decide) (hdb : (x == ("__debug__" : Str)) = false := by decide)
    (he : starEach (e :: es) X.env = (false, eval e X.env) :: starEach es X.env := by rfl) (hpl : (backTo pos (starEach es X.env)).any (·.1) = false := by rfl) : PF X (.Call (.Name x p) (e :: es) [] pos) (callA g fa) :=
  ⟨(pe_callB hc hg hm hv ha.pa hn hdb he hpl).imp fun _ _ _ h => tcF h⟩
theorem pf_callTy (hc : CallR X (.type T) (rcF X.K g)) (hg : Gl X x) (hm : X.mg x = none) (hv : bootBuiltins x = some (.type T)) (ha : PFA X (e :: es) fa) (hn : x ≠ "__name__" := by decide) (hdb : (x == ("__debug__" : Str)) = false := by decide)
    (he : starEach (e :: es) X.env = (false, eval e X.env) :: starEach es X.env := by rfl) (hpl : (backTo pos (starEach es X.env)).any (·.1) = false := by rfl) : PF X (.Call (.Name x p) (e :: es) [] pos) (callA g fa) :=
  ⟨(pe_callTy hc hg hm hv ha.pa hn hdb he hpl).imp fun _ _ _ h => tcF h⟩
theorem _root_.L2.CallR.imp {f : Value} {r r' : List V → Hp → VK → Prop} (h : CallR X f r) (k : ∀ xs H Q, r' xs H Q → r xs H Q) : CallR X f r' := fun pins s σ H xs us Q I rs q => h pins s σ H xs us Q I rs (k xs H Q q)
def lenD : List PyData → Option PyData
  | [.list ds] => some (.int ds.length)
  | [.tuple ds] => some (.int ds.length)
  | [.str z] => if z.length < lim then some (.int z.length) else none
  | _ => none
theorem cf_len : CallR X (.builtin "len") (rcF X.K lenD) := (call_len_seq.or call_len_str).imp fun xs H Q ⟨O, ds, c, al, h, g, q⟩ => by
  match ds, h, g with
  | [.list ds], .cons (.lst h1 h2) .nil, g =>
    cases g
    refine .inl ⟨_, _, rfl, .inl ((fz_sub O H).seq h1), ?_⟩
    rw [h2.len]
    exact q _ H (Same.refl H) (.int _)
  | [.tuple ds], .cons (.tup h1 h2) .nil, g =>
    cases g
    refine .inl ⟨_, _, rfl, .inr (sqT_same (fz_sub O H) h1), ?_⟩
    rw [h2.len]
    exact q _ H (Same.refl H) (.int _)
  | [.str z], .cons (.str _) .nil, g =>
    simp only [lenD] at g
    split at g
    case isFalse => cases g
    rename_i hl
    cases g
    exact .inr ⟨z, rfl, Nat.le_of_lt (lim_le hl), q _ H (Same.refl H) (.int _)⟩
def toTup : List PyData → Option PyData
  | [.list ds] => some (.tuple ds)
  | [.tuple ds] => some (.tuple ds)
  | _ => none
theorem cf_tuple : CallR X (.type "tuple") (rcF X.K toTup) := call_tuple_of.imp fun xs H Q ⟨O, ds, c, al, h, g, q⟩ => by
  match ds, h, g with
  | [.list ds], .cons (.lst h1 h2) .nil, g =>
    cases g
    exact ⟨_, _, rfl, .inl ⟨(fz_sub O H).seq h1, fun l nl => q _ _ (new_same nl) (Dx.newT al nl h2)⟩⟩
  | [.tuple ds], .cons (.tup h1 h2) .nil, g =>
    cases g
    exact ⟨_, _, rfl, .inr ⟨sqT_same (fz_sub O H) h1, q _ H (Same.refl H) (.tup h1 h2)⟩⟩
def boolsD : List PyData → Option (List Bool)
  | [] => some []
  | d :: ds => (toB d).bind fun i => (boolsD ds).bind fun is => some (i :: is)
theorem boolsD_some : ∀ {ds : List PyData} {is : List Bool}, boolsD ds = some is → ds = is.map .bool
  | [], _, h => by cases h; rfl
  | d :: ds, is, h => by
    obtain ⟨i, e1, h⟩ := Option.bind_eq_some_iff.mp h
    obtain ⟨js, e2, h⟩ := Option.bind_eq_some_iff.mp h
    cases h
    rw [toB_some e1, boolsD_some e2]
    rfl
theorem boolsD_map : ∀ is : List Bool, boolsD (is.map .bool) = some is
  | [] => rfl
  | i :: is => by simp [boolsD, toB, boolsD_map is]
theorem dxAll_bools {K : PySem.W.Frag} {H : Hp} : ∀ {is : List Bool} {vs : List V}, DxAll K H vs (is.map PyData.bool) → vs = is.map V.bl
  | [], _, h => by cases h; rfl
  | i :: is, _, h => by
    cases h with
    | cons h1 h2 =>
      cases h1
      rw [dxAll_bools h2]
      rfl
def allD : List PyData → Option PyData
  | [.list ds] => (boolsD ds).map fun bs => .bool (bs.all _root_.id)
  | _ => none
def anyD : List PyData → Option PyData
  | [.list ds] => (boolsD ds).map fun bs => .bool (bs.any _root_.id)
  | _ => none
theorem cf_all (hc : X.calm = true) : CallR X (.builtin "all") (rcF X.K allD) := (cr_all hc).imp fun xs H Q ⟨O, ds, c, al, h, g, q⟩ => by
  match ds, h, g with
  | [.list ds], .cons (.lst h1 h2) .nil, g =>
    obtain ⟨bs, e1, rfl⟩ := Option.map_eq_some_iff.mp g
    rw [boolsD_some e1] at h2
    rw [dxAll_bools h2] at h1
    exact ⟨_, bs, rfl, (fz_sub O H).seq h1, q _ H (Same.refl H) (.bl _)⟩
theorem cf_any (hc : X.calm = true) : CallR X (.builtin "any") (rcF X.K anyD) := (cr_any hc).imp fun xs H Q ⟨O, ds, c, al, h, g, q⟩ => by
  match ds, h, g with
  | [.list ds], .cons (.lst h1 h2) .nil, g =>
    obtain ⟨bs, e1, rfl⟩ := Option.map_eq_some_iff.mp g
    rw [boolsD_some e1] at h2
    rw [dxAll_bools h2] at h1
    exact ⟨_, bs, rfl, (fz_sub O H).seq h1, q _ H (Same.refl H) (.bl _)⟩
def intD : List PyData → Option PyData
  | [.int i] => some (.int i)
  | [.bool b] => some (.int (if b then 1 else 0))
  | _ => none
theorem cf_int : CallR X (.type "int") (rcF X.K intD) := call_int1.imp fun xs H Q ⟨O, ds, c, al, h, g, q⟩ => by
  match ds, h, g with
  | [.int i], .cons (.int _) .nil, g =>
    cases g
    exact .inl ⟨i, rfl, q _ H (Same.refl H) (.int _)⟩
  | [.bool b], .cons (.bl _) .nil, g =>
    cases g
    exact .inr ⟨b, rfl, q _ H (Same.refl H) (.int _)⟩
/-! repr -/
def reprD : List PyData → Option PyData
  | [d] => if d.showable = true ∧ d.depth ≤ 40 ∧ d.shown.length < lim then some (.str d.shown) else none
  | _ => none
/-! list(range(n)), tuple(range(n)) -/
theorem rg_dx {K : PySem.W.Frag} {H : Hp} (a b : Int) : DxAll K H (rgV a b) (rngD a (b - a).toNat) := by
  unfold rgV rngD
  have : ∀ l : List Nat, DxAll K H (l.map fun i => V.int (a + (i : Nat))) (l.map fun i => PyData.int (a + (i : Nat))) := fun l => by
    induction l with
    | nil => exact .nil
    | cons x l ih => exact .cons (.int _) ih
  exact this _
theorem okR_rg {i j : Int} (h1 : okR i = true) (h2 : okR j = true) : RgOk i j := by
  unfold okR at h1 h2
  have := of_decide_eq_true h1
  have := of_decide_eq_true h2
  exact ⟨by omega, by omega, by omega, by omega, by omega⟩
def tupI (f : Dn → Option (List PyData)) : DF := fun ρ => (f ρ).map .tuple
/-- a range, as an argument -/
structure PRF (X : Cx) (e : Expr) (f : Dn → Option (List PyData)) : Prop where
  lst : ∀ (hc : X.calm = true) {p pos : Pos} (hg : Gl X "list") (hm : X.mg "list" = none), starEach [e] X.env = (false, eval e X.env) :: starEach [] X.env → PF X (.Call (.Name "list" p) [e] [] pos) (lstI f)
  tup : ∀ (hc : X.calm = true) {p pos : Pos} (hg : Gl X "tuple") (hm : X.mg "tuple" = none), starEach [e] X.env = (false, eval e X.env) :: starEach [] X.env → PF X (.Call (.Name "tuple" p) [e] [] pos) (tupI f)
variable {f f2 : DF} {e2 : Expr}
theorem tRgF {σ : L2.St} {H : Hp} {k : List PyData → PyData} {Q : VK} {kk : Int → Int → Hp → Prop} (h : tF X.K (fun ρ => (rng1I f ρ).map k) σ H Q)
    (hk : ∀ O i H', Al O H' → Same H H' → okR i = true → (∀ v H2, Same H' H2 → Dx X.K (Fz O H2) v (k (rngD 0 (i - 0).toNat)) → Q v H2) → kk 0 i H') : tRg1 (tF X.K f) σ H kk := by
  obtain ⟨O, dv, ρ, d, al, r, e, q⟩ := h
  obtain ⟨xs, e0, rfl⟩ := Option.map_eq_some_iff.mp e
  obtain ⟨d, e1, e3⟩ := Option.bind_eq_some_iff.mp e0
  obtain ⟨j, e2, e4⟩ := Option.bind_eq_some_iff.mp e3
  rw [toI_some e2] at e1
  split at e4
  case isFalse => cases e4
  rename_i hj
  cases e4
  refine ⟨O, dv, ρ, _, al, r, e1, fun v H1 s1 h1 => ?_⟩
  cases h1
  refine ⟨j, rfl, hk O j H1 (al.same s1) s1 hj fun v H2 s2 h2 => q v H2 (s1.trans s2) ?_⟩
  rw [Int.sub_zero] at h2
  exact h2
theorem prf_1 {p1 pos1 : Pos} (hg : Gl X "range") (hm : X.mg "range" = none) (ha : PF X e f) (na : starEach [e] X.env = (false, eval e X.env) :: starEach [] X.env := by rfl) : PRF X (.Call (.Name "range" p1) [e] [] pos1) (rng1I f) where
  lst := fun hc {p pos} hg' hm' hs => ⟨(pe_listRg hc hg' hm' (prg_1 hg hm ha.pe na) hs).imp fun σ H Q h => tRgF (k := .list) h fun O i H' al s ok q =>
    ⟨okR_rg (by decide) ok, fun l nl => q _ _ (new_same nl) (Dx.newL al nl (rg_dx 0 i))⟩⟩
  tup := fun hc {p pos} hg' hm' hs => ⟨(pe_tupRg hc hg' hm' (prg_1 hg hm ha.pe na) hs).imp fun σ H Q h => tRgF (k := .tuple) h fun O i H' al s ok q =>
    ⟨okR_rg (by decide) ok, fun l nl => q _ _ (new_same nl) (Dx.newT al nl (rg_dx 0 i))⟩⟩
/-! ### defs of the program -/
def spF (K : PySem.W.Frag) (n : Nat) (sem : List PyData → Option PyData) : Sp := fun vs H Q _ => ∃ O ds c, Al O H ∧ DxAll K (Fz O H) vs ds ∧ ds.length = n ∧ sem ds = some c ∧ ∀ v H', Same H H' → Dx K (Fz O H') v c → Q v H'
theorem spF_len {K : PySem.W.Frag} {n : Nat} {sem : List PyData → Option PyData} {vs : List V} {H : Hp} {Q : VK} {E : XK} (h : spF K n sem vs H Q E) : vs.length = n := by
  obtain ⟨O, ds, c, al, h1, h2, _⟩ := h
  rw [h1.len, h2]
def callU (n : Nat) (sem : List PyData → Option PyData) (fa : Dn → Option (List PyData)) : DF := fun ρ => (fa ρ).bind fun ds => if ds.length = n then sem ds else none
theorem pf_call {CX : CXT} {k n : Nat} {f : Addr} {fd : FuncData} {ps : List Str} {sem : List PyData → Option PyData} {E : XK} (F : FnG X.prog X.w X.K X.mg X.base CX k f fd ps (spF X.K n sem)) (hgd : X.A.guards = some []) (hr : Room k X.A) (hg : Gl X x) (hm : X.mg x = some (.ref f)) (hk : PySem.W.keepIn X.K (.ref f) = true) (hb : Binds X.K fd ps []) (hx : Passes CX X E)
    (ha : PFA X (e :: es) fa) (hdb : (x == ("__debug__" : Str)) = false := by decide) (he : starEach (e :: es) X.env = (false, eval e X.env) :: starEach es X.env := by rfl) (hpl : (backTo pos (starEach es X.env)).any (·.1) = false := by rfl) :
    PF X (.Call (.Name x p) (e :: es) [] pos) (callU n sem fa) :=
  ⟨(pe_callG F hgd hr hg hm hk hb .nil hx ha.pa hdb he hpl).imp fun σ H Q ⟨O, dv, ρ, d, al, r, e, q⟩ => by
    obtain ⟨ds, e1, e⟩ := Option.bind_eq_some_iff.mp e
    split at e
    case isFalse => cases e
    rename_i hl
    refine ⟨O, dv, ρ, ds, al, r, e1, fun vs H1 s1 h1 => ⟨O, ds, d, al.same s1, ?_, hl, e, fun v H2 s2 h2 => q v H2 (s1.trans s2) h2⟩⟩
    rw [List.append_nil]
    exact h1⟩
end
end DS
namespace DS
open PySem PySem.Spec PyProof.Rows L2
/-! ### isinstance -/
def tyN : PyData → String
  | .none => "NoneType"
  | .bool _ => "bool"
  | .int _ => "int"
  | .str _ => "str"
  | .list _ => "list"
  | .tuple _ => "tuple"
  | .dict _ => "dict"
theorem tyL {K : PySem.W.Frag} {H : Hp} {a : Addr} {xs : List V} (h : SqL K H a xs) : TyX K H (.ref a) (.type "list") := by
  rcases h with (h | ⟨o, h⟩) | ⟨o, its, n, h, hc, _⟩
  · exact .base (.lst h)
  · exact .base (.frz h)
  · exact .kList h hc
theorem tyT {K : PySem.W.Frag} {H : Hp} {a : Addr} {xs : List V} (h : SqT K H a xs) : TyX K H (.ref a) (.type "tuple") := by
  rcases h with (h | ⟨o, h⟩) | ⟨o, its, n, h, hc, _⟩
  · exact .base (.tup h)
  · exact .fTuple h
  · exact .kTuple h hc
theorem Dx.tyX {K : PySem.W.Frag} {H : Hp} {x : V} {d : PyData} (h : Dx K H x d) : TyX K H x (.type (tyN d)) := by
  cases h with
  | non => exact .base .non
  | bl b => exact .base (.bl b)
  | int i => exact .base (.int i)
  | str y => exact .base (.str y)
  | lst h _ => exact tyL h
  | tup h _ => exact tyT h
  | dic h _ _ => exact .base (.dK h)
  | dct h _ _ => exact .base (.dT h)
def isiS (a T : String) : Bool := a == T || (a == "bool" && T == "int")
/-- T is one of the built-in classes -/
def KitT (T : String) : Prop := ∀ d : PyData, kitB (tyN d) T = some (isiS (tyN d) T)
theorem kitT_of {T : String} (h : (["NoneType", "bool", "int", "str", "list", "tuple", "dict"].all fun a => kitB a T == some (isiS a T)) = true) : KitT T := fun d => by
  simp only [List.all_cons, List.all_nil, Bool.and_eq_true, beq_iff_eq] at h
  obtain ⟨h1, h2, h3, h4, h5, h6, h7, _⟩ := h
  cases d <;> assumption
theorem kit_tInt : KitT "int" := kitT_of (by decide +kernel)
theorem kit_tBool : KitT "bool" := kitT_of (by decide +kernel)
theorem kit_tStr : KitT "str" := kitT_of (by decide +kernel)
theorem kit_tList : KitT "list" := kitT_of (by decide +kernel)
theorem kit_tTuple : KitT "tuple" := kitT_of (by decide +kernel)
theorem kit_tDict : KitT "dict" := kitT_of (by decide +kernel)
def isiF (T : String) (f : DF) : DF := fun ρ => (f ρ).map fun d => .bool (isiS (tyN d) T)
def isiF2 (T U : String) (f : DF) : DF := fun ρ => (f ρ).map fun d => .bool (isiS (tyN d) T || isiS (tyN d) U)
section
variable {X : Cx} {e : Expr} {f : DF} {p p1 p2 pos : Pos} {x y z : Str} {T U : String}
theorem _root_.L2.TyX.same {K : PySem.W.Frag} {H H' : Hp} {v : V} {d : PyData} (h : Dx K H v d) (s : Same H H') : TyX K H' v (.type (tyN d)) := (h.same s).tyX
theorem pf_isi (hg : Gl X "isinstance") (hm : X.mg "isinstance" = none) (kt : KitT T) (hx : Gl X x) (mx : X.mg x = none) (bx : bootBuiltins x = some (.type T)) (he : PF X e f)
    (h1 : starEach [e, .Name x p1] X.env = (false, eval e X.env) :: starEach [.Name x p1] X.env := by rfl) (h2 : starEach [.Name x p1] X.env = (false, eval (.Name x p1) X.env) :: starEach [] X.env := by rfl) (h3 : (backTo pos (starEach [.Name x p1] X.env)).any (·.1) = false := by rfl) (n1 : x ≠ "__name__" := by decide) (n2 : (x == ("__debug__" : Str)) = false := by decide) :
    PF X (.Call (.Name "isinstance" p) [e, .Name x p1] [] pos) (isiF T f) :=
  ⟨(pe_callB call_isi hg hm (by decide +kernel) (pa_cons he.pe (pa_cons (pe_bltn (v := .ty T) hx mx bx rfl n1 n2) pa_nil h2) h1) (by decide) (by decide) h1 h3).imp fun σ H Q ⟨O, dv, ρ, c, al, r, e, q⟩ => by
    obtain ⟨d, e1, rfl⟩ := Option.map_eq_some_iff.mp e
    refine ⟨O, dv, ρ, d, al, r, e1, fun v H1 s1 hd => ⟨v, .ty T, .type (tyN d), .type T, _, rfl, .ty T, (hd.same (fz_sub O H1)).tyX, kit_ty (kt d), q _ H1 s1 (.bl _)⟩⟩⟩
theorem pf_isi2 {k0} {p3 : Pos} (hg : Gl X "isinstance") (hm : X.mg "isinstance" = none) (kt : KitT T) (ku : KitT U) (hx : Gl X x) (mx : X.mg x = none) (bx : bootBuiltins x = some (.type T)) (hy : Gl X y) (my : X.mg y = none) (by' : bootBuiltins y = some (.type U)) (he : PF X e f)
    (h1 : starEach [e, .Tuple [.Name x p1, .Name y p2] k0 p3] X.env = (false, eval e X.env) :: starEach [.Tuple [.Name x p1, .Name y p2] k0 p3] X.env := by rfl) (h2 : starEach [.Tuple [.Name x p1, .Name y p2] k0 p3] X.env = (false, eval (.Tuple [.Name x p1, .Name y p2] k0 p3) X.env) :: starEach [] X.env := by rfl) (h3 : (backTo pos (starEach [.Tuple [.Name x p1, .Name y p2] k0 p3] X.env)).any (·.1) = false := by rfl)
    (h4 : starEach [.Name x p1, .Name y p2] X.env = (false, eval (.Name x p1) X.env) :: starEach [.Name y p2] X.env := by rfl) (h5 : starEach [.Name y p2] X.env = (false, eval (.Name y p2) X.env) :: starEach [] X.env := by rfl)
    (n1 : x ≠ "__name__" := by decide) (n2 : (x == ("__debug__" : Str)) = false := by decide) (n3 : y ≠ "__name__" := by decide) (n4 : (y == ("__debug__" : Str)) = false := by decide) :
    PF X (.Call (.Name "isinstance" p) [e, .Tuple [.Name x p1, .Name y p2] k0 p3] [] pos) (isiF2 T U f) :=
  ⟨(pe_callB call_isiT hg hm (by decide +kernel) (pa_cons he.pe (pa_cons (pe_tup (pa_cons (pe_bltn (v := .ty T) hx mx bx rfl n1 n2) (pa_cons (pe_bltn (v := .ty U) hy my by' rfl n3 n4) pa_nil h5) h4)) pa_nil h2) h1) (by decide) (by decide) h1 h3).imp fun σ H Q ⟨O, dv, ρ, c, al, r, e, q⟩ => by
    obtain ⟨d, e1, rfl⟩ := Option.map_eq_some_iff.mp e
    refine ⟨O, dv, ρ, d, al, r, e1, fun v H1 s1 hd => ⟨(show 2 ≤ sizeLine by decide), fun t nt => ⟨v, t, [.ty T, .ty U], .type (tyN d), [.type T, .type U], _, rfl, upd_same, .cons (.ty T) (.cons (.ty U) .nil), ?_, ?_, q _ _ (s1.trans (new_same nt)) (.bl _)⟩⟩⟩
    · exact ((hd.same (fz_sub O H1)).same (new_same nt)).tyX
    · refine kitAny_cons (kit_ty (kt d)) (fun h => kitAny_cons (kit_ty (ku d)) (fun h2 => ?_) (fun h2 => ?_)) (fun h => ?_)
      · rw [h, h2]
        exact kitAny_nil
      · rw [h, h2]
        rfl
      · rw [h]
        rfl⟩
end
/-! ### the state behind a def's statements -/
structure Fr where
  H0 : Hp
  O0 : Hid
  M : Hid
  dv : V
  Dk : Hp → Nat → Prop
structure RepS (K : PySem.W.Frag) (S : Fr) (B : Hp) (O : Hid) (H : Hp) (σ : L2.St) (ρ : Dn) (n : Nat) : Prop where
  al : Al O H
  rep : RepE K O H S.dv σ ρ
  kp : ∀ b x, S.H0 b = some x → ¬ S.M b → H b = some x
  sub : ∀ b, S.O0 b → O b
  mo : ∀ b, S.M b → O b
  fz : Same B (Fz O H)
  ow : ∀ (i : Nat) (e : Ent) (ov : Option V) (q : Addr), ρ[i]? = some e → σ[i]? = some ov → Hd H ov e q → S.H0 q = none ∧ ¬ S.M q ∧ ∀ (j : Nat) (e' : Ent) (ov' : Option V), ρ[j]? = some e' → σ[j]? = some ov' → Hd H ov' e' q → i = j
  dk : S.Dk H n
/-- the deck's word looks at the deck alone -/
structure Fr.Ok (S : Fr) : Prop where
  dk : ∀ (H H' : Hp) (n : Nat), (∀ a, S.M a → H' a = H a) → S.Dk H n → S.Dk H' n
  al : Al S.O0 S.H0
section
variable {K : PySem.W.Frag} {S : Fr} {B B' H H' : Hp} {O : Hid} {σ : L2.St} {ρ : Dn} {n : Nat}
theorem RepS.ent (h : RepS K S B O H σ ρ n) {i : Nat} {e : Ent} {ov : Option V} (e1 : ρ[i]? = some e) (e2 : σ[i]? = some ov) : EntOk K O H S.dv ov e := by
  obtain ⟨ov', h1, h2⟩ := h.rep.2 i e e1
  rw [e2] at h1
  cases h1
  exact h2
/-- the words about one's own addresses, in another heap that is the same there -/
theorem RepS.ow' (h : RepS K S B O H σ ρ n) (k : ∀ (i : Nat) (e : Ent) (ov : Option V) (q : Addr), ρ[i]? = some e → σ[i]? = some ov → Hd H ov e q → H' q = H q) :
    ∀ (i : Nat) (e : Ent) (ov : Option V) (q : Addr), ρ[i]? = some e → σ[i]? = some ov → Hd H' ov e q → S.H0 q = none ∧ ¬ S.M q ∧ ∀ (j : Nat) (e' : Ent) (ov' : Option V), ρ[j]? = some e' → σ[j]? = some ov' → Hd H' ov' e' q → i = j := fun i e ov q e1 e2 e3 => by
  have b : ∀ (j : Nat) (e' : Ent) (ov' : Option V), ρ[j]? = some e' → σ[j]? = some ov' → Hd H' ov' e' q → Hd H ov' e' q := fun j e' ov' z1 z2 z3 => Hd.eq (h.ent z1 z2) (fun q' k' => k j e' ov' q' z1 z2 k') z3
  obtain ⟨h1, h2, h3⟩ := h.ow i e ov q e1 e2 (b i e ov e1 e2 e3)
  exact ⟨h1, h2, fun j e' ov' z1 z2 z3 => h3 j e' ov' z1 z2 (b j e' ov' z1 z2 z3)⟩
theorem RepS.sameAt (h : RepS K S B O H σ ρ n) (s : Same H H') : ∀ (i : Nat) (e : Ent) (ov : Option V) (q : Addr), ρ[i]? = some e → σ[i]? = some ov → Hd H ov e q → H' q = H q := fun i e ov q e1 e2 k => by
  obtain ⟨_, x, z⟩ := (h.ent e1 e2).hd k
  rw [z]
  exact s q x z
theorem RepS.same (h : RepS K S B O H σ ρ n) (ok : S.Ok) (s : Same H H') : RepS K S B O H' σ ρ n where
  al := h.al.same s
  rep := h.rep.same s
  kp := fun b x e m => s b x (h.kp b x e m)
  sub := h.sub
  mo := h.mo
  fz := h.fz.trans (s.fz O)
  ow := h.ow' (h.sameAt s)
  dk := ok.dk H H' n (fun a m => by
    cases e : H a with
    | none => exact absurd e (h.al a (h.mo a m))
    | some o => exact s a o e) h.dk
theorem RepS.base (h : RepS K S B O H σ ρ n) (s : Same B' B) : RepS K S B' O H σ ρ n := ⟨h.al, h.rep, h.kp, h.sub, h.mo, s.trans h.fz, h.ow, h.dk⟩
theorem RepS.here (h : RepS K S B O H σ ρ n) : RepS K S (Fz O H) O H σ ρ n := ⟨h.al, h.rep, h.kp, h.sub, h.mo, Same.refl _, h.ow, h.dk⟩
def notOwn (e : Ent) : Prop := ∀ H ov q, ¬ Hd H ov e q
theorem notOwn_dat {d : PyData} : notOwn (.dat d) := fun _ _ _ h => h
theorem RepS.set (h : RepS K S B O H σ ρ n) {v : V} {e : Ent} (k : EntOk K O H S.dv (some v) e) (no : notOwn e) (i : Nat) : RepS K S B O H (σ.set i (some v)) (ρ.set i e) n where
  al := h.al
  rep := h.rep.set k i
  kp := h.kp
  sub := h.sub
  mo := h.mo
  fz := h.fz
  ow := fun j e' ov q e1 e2 e3 => by
    have ne : ∀ (j : Nat) e' ov, (ρ.set i e)[j]? = some e' → Hd H ov e' q → i ≠ j := fun j e' ov z z3 w => by
      subst w
      have lt : i < ρ.length := by
        have := (List.getElem?_eq_some_iff.mp z).1
        rwa [List.length_set] at this
      rw [List.getElem?_set_self lt] at z
      cases z
      exact no H ov q z3
    have n1 := ne j e' ov e1 e3
    rw [List.getElem?_set_ne n1] at e1 e2
    obtain ⟨h1, h2, h3⟩ := h.ow j e' ov q e1 e2 e3
    refine ⟨h1, h2, fun l es ol e4 e5 e6 => ?_⟩
    have n2 := ne l es ol e4 e6
    rw [List.getElem?_set_ne n2] at e4 e5
    exact h3 l es ol e4 e5 e6
  dk := h.dk
/-- new objects of one's own, put into slot i: their addresses A -/
theorem RepS.fresh (h : RepS K S B O H σ ρ n) (ok : S.Ok) {A : Addr → Prop} {v : V} {e : Ent} {H' : Hp} (s : Same H H') (nA : ∀ q, A q → H q = none) (k : EntOk K (fun a => O a ∨ A a) H' S.dv (some v) e) (there : ∀ q, A q → H' q ≠ none) (inA : ∀ q, Hd H' (some v) e q → A q) (i : Nat) :
    RepS K S B (fun a => O a ∨ A a) H' (σ.set i (some v)) (ρ.set i e) n := by
  have f : Same (Fz O H) (Fz (fun a => O a ∨ A a) H') := fun b o z => by
    obtain ⟨z1, z2⟩ := fz_get z
    rw [fz_out fun w => w.elim z2 fun w => by rw [nA b w] at z1; cases z1]
    exact s b o z1
  have news : ∀ q, A q → S.H0 q = none ∧ ¬ S.M q := fun q hq => by
    have nm : ¬ S.M q := fun z => h.al q (h.mo q z) (nA q hq)
    refine ⟨?_, nm⟩
    cases z : S.H0 q with
    | none => rfl
    | some x =>
      have := h.kp q x z nm
      rw [nA q hq] at this
      cases this
  have old : ∀ (j : Nat) e' ov q, ρ[j]? = some e' → σ[j]? = some ov → Hd H ov e' q → ¬ A q := fun j e' ov q z1 z2 z3 w => by
    obtain ⟨_, x, z⟩ := (h.ent z1 z2).hd z3
    rw [nA q w] at z
    cases z
  refine ⟨fun a z => ?_, (h.rep.shift s f fun b z => .inl z).set k i, fun b x e m => s b x (h.kp b x e m), fun b z => .inl (h.sub b z), fun b z => .inl (h.mo b z), fun b o z => f b o (h.fz b o z), fun j e' ov q e1 e2 e3 => ?_, ok.dk H H' n (fun a m => ?_) h.dk⟩
  · rcases z with z | z
    · exact h.al.same s a z
    · exact there a z
  · have ow1 := h.ow' (h.sameAt s)
    by_cases hj : i = j
    · subst hj
      have lt : i < σ.length := by
        have := (List.getElem?_eq_some_iff.mp e2).1
        rwa [List.length_set] at this
      rw [List.getElem?_set_self lt] at e2
      rw [List.getElem?_set_self (by rw [h.rep.1]; exact lt)] at e1
      cases e1
      cases e2
      have hA := inA q e3
      refine ⟨(news q hA).1, (news q hA).2, fun l fs ol e4 e5 e6 => ?_⟩
      by_cases hl : i = l
      · exact hl
      · rw [List.getElem?_set_ne hl] at e4 e5
        exact absurd hA (old l fs ol q e4 e5 (Hd.eq (h.ent e4 e5) (fun q' k' => h.sameAt s l fs ol q' e4 e5 k') e6))
    · rw [List.getElem?_set_ne hj] at e1 e2
      obtain ⟨h1, h2, h3⟩ := ow1 j e' ov q e1 e2 e3
      refine ⟨h1, h2, fun l fs ol e4 e5 e6 => ?_⟩
      by_cases hl : i = l
      · subst hl
        have lt : i < σ.length := by
          have := (List.getElem?_eq_some_iff.mp e5).1
          rwa [List.length_set] at this
        rw [List.getElem?_set_self lt] at e5
        rw [List.getElem?_set_self (by rw [h.rep.1]; exact lt)] at e4
        cases e4
        cases e5
        exact absurd (inA q e6) (old j e' ov q e1 e2 (Hd.eq (h.ent e1 e2) (fun q' k' => h.sameAt s j e' ov q' e1 e2 k') e3))
      · rw [List.getElem?_set_ne hl] at e4 e5
        exact h3 l fs ol e4 e5 e6
  · cases z : H a with
    | none => exact absurd z (h.al a (h.mo a m))
    | some o => exact s a o z
/-- a new list of one's own in slot i -/
theorem RepS.new (h : RepS K S B O H σ ρ n) (ok : S.Ok) {p : Addr} {vs : List V} {ds : List PyData} {H' : Hp} (s : Same H H') (np : H p = none) (hp : H' p = some (.lst vs)) (dx : DxAll K (Fz (hide O p) H') vs ds) (i : Nat) :
    RepS K S B (hide O p) H' (σ.set i (some (.ref p))) (ρ.set i (.own ds)) n :=
  h.fresh ok (A := fun a => a = p) (v := .ref p) (e := .own ds) s (fun q e => by rw [e]; exact np) ⟨p, vs, rfl, .inr rfl, hp, dx⟩ (fun q e => by rw [e, hp]; exact fun w => nomatch w) (fun q e => by cases e; rfl) i
/-- an object of one's own, in slot i, changed -/
theorem RepS.poke (h : RepS K S B O H σ ρ n) (ok : S.Ok) {q : Addr} {o : HO} {i : Nat} {e e' : Ent} {ov : Option V} (e1 : ρ[i]? = some e) (e2 : σ[i]? = some ov) (hq : Hd H ov e q) (new : EntOk K O (upd H q o) S.dv ov e') (sub : ∀ a, Hd (upd H q o) ov e' a → Hd H ov e a) :
    RepS K S B O (upd H q o) σ (ρ.set i e') n := by
  have h3 := ((h.ent e1 e2).hd hq).1
  obtain ⟨f1, f2, f3⟩ := h.ow i e ov q e1 e2 hq
  have li : i < ρ.length := (List.getElem?_eq_some_iff.mp e1).1
  have fe : Fz O (upd H q o) = Fz O H := fz_upd h3
  have oth : ∀ (j : Nat) g og a, i ≠ j → ρ[j]? = some g → σ[j]? = some og → Hd H og g a → (upd H q o) a = H a := fun j g og a hj z1 z2 z3 => upd_ne fun w => hj (f3 j g og z1 z2 (by rw [← w]; exact z3))
  refine ⟨fun a z => ?_, ⟨by rw [List.length_set]; exact h.rep.1, fun j g z => ?_⟩, fun b x z m => ?_, h.sub, h.mo, by rw [fe]; exact h.fz, fun j g og a z1 z2 z3 => ?_, ok.dk H _ n (fun a m => ?_) h.dk⟩
  · by_cases w : a = q
    · rw [w, upd_same]
      exact fun w => nomatch w
    · rw [upd_ne w]
      exact h.al a z
  · by_cases hj : i = j
    · subst hj
      rw [List.getElem?_set_self li] at z
      cases z
      exact ⟨_, e2, new⟩
    · rw [List.getElem?_set_ne hj] at z
      obtain ⟨og, k1, k2⟩ := h.rep.2 j g z
      exact ⟨og, k1, k2.shift (fun _ z => z) (by rw [fe]; exact Same.refl _) fun a k => oth j g og a hj z k1 k⟩
  · rw [upd_ne fun w => by rw [w, f1] at z; cases z]
    exact h.kp b x z m
  · -- the old words
    have old : ∀ (l : Nat) g og, (ρ.set i e')[l]? = some g → σ[l]? = some og → Hd (upd H q o) og g a → ∃ g', ρ[l]? = some g' ∧ Hd H og g' a := fun l g og y1 y2 y3 => by
      by_cases hl : i = l
      · subst hl
        rw [List.getElem?_set_self li] at y1
        cases y1
        rw [e2] at y2
        cases y2
        exact ⟨e, e1, sub a y3⟩
      · rw [List.getElem?_set_ne hl] at y1
        exact ⟨g, y1, Hd.eq (h.ent y1 y2) (fun a' k' => oth l g og a' hl y1 y2 k') y3⟩
    obtain ⟨g', y1, y2⟩ := old j g og z1 z2 z3
    obtain ⟨k1, k2, k3⟩ := h.ow j g' og a y1 z2 y2
    refine ⟨k1, k2, fun l gl ol w1 w2 w3 => ?_⟩
    obtain ⟨g2, y3, y4⟩ := old l gl ol w1 w2 w3
    exact k3 l g2 ol y3 w2 y4
  · exact upd_ne fun w => f2 (by rw [← w]; exact m)
/-- a list of one's own changed -/
theorem RepS.put (h : RepS K S B O H σ ρ n) (ok : S.Ok) {p : Addr} {vs : List V} {ds es : List PyData} {i : Nat} (e1 : ρ[i]? = some (.own ds)) (e2 : σ[i]? = some (some (.ref p))) (dx : DxAll K (Fz O H) vs es) :
    RepS K S B O (upd H p (.lst vs)) σ (ρ.set i (.own es)) n := by
  have h3 := ((h.ent e1 e2).hd (q := p) rfl).1
  exact h.poke ok e1 e2 (q := p) rfl ⟨p, vs, rfl, h3, upd_same, by rw [fz_upd h3]; exact dx⟩ fun a z => z
/-- an entry of one's own is data from here on -/
theorem RepS.melt (h : RepS K S B O H σ ρ n) (ok : S.Ok) {i : Nat} {e : Ent} {v : V} {d : PyData} (e1 : ρ[i]? = some e) (e2 : σ[i]? = some (some v)) (dx : Dx K (Fz (fun a => O a ∧ ¬ Hd H (some v) e a) H) v d) :
    RepS K S B (fun a => O a ∧ ¬ Hd H (some v) e a) H σ (ρ.set i (.dat d)) n := by
  have li : i < ρ.length := (List.getElem?_eq_some_iff.mp e1).1
  have ss : Same (Fz O H) (Fz (fun a => O a ∧ ¬ Hd H (some v) e a) H) := fz_less (fun b z => z.1) H
  have own := fun a (k : Hd H (some v) e a) => h.ow i e (some v) a e1 e2 k
  refine ⟨fun a z => h.al a z.1, ⟨by rw [List.length_set]; exact h.rep.1, fun j g z => ?_⟩, h.kp, fun b z => ⟨h.sub b z, fun k => ok.al b z (own b k).1⟩, fun b z => ⟨h.mo b z, fun k => (own b k).2.1 z⟩, h.fz.trans ss, fun j g og a z1 z2 z3 => ?_, h.dk⟩
  · by_cases hj : i = j
    · subst hj
      rw [List.getElem?_set_self li] at z
      cases z
      exact ⟨_, e2, v, rfl, dx⟩
    · rw [List.getElem?_set_ne hj] at z
      obtain ⟨og, k1, k2⟩ := h.rep.2 j g z
      refine ⟨og, k1, ?_⟩
      have nn : ∀ a, Hd H og g a → ¬ Hd H (some v) e a := fun a y1 y2 => hj ((own a y2).2.2 j g og z k1 y1)
      cases g with
      | na => trivial
      | dat d =>
        obtain ⟨v, k3, k4⟩ := k2
        exact ⟨v, k3, k4.same ss⟩
      | own fs =>
        obtain ⟨p, ws, k3, k4, k5, k6⟩ := k2
        exact ⟨p, ws, k3, ⟨k4, nn p k3⟩, k5, k6.same ss⟩
      | rows fs =>
        obtain ⟨p, qs, k3, k4, k5, k6, k7, k8⟩ := k2
        refine ⟨p, qs, k3, ⟨k4, nn p (.inl k3)⟩, k5, k6, k7, ?_⟩
        have : ∀ {qs' : List Addr} {dss : List (List PyData)}, RowsOk K O H qs' dss → (∀ q ∈ qs', q ∈ qs) → RowsOk K (fun a => O a ∧ ¬ Hd H (some v) e a) H qs' dss := fun {qs' dss} r => by
          induction r with
          | nil => exact fun _ => .nil
          | cons a1 a2 a3 a4 ih => exact fun m => .cons ⟨a1, nn _ (.inr ⟨p, _, k3, k5, List.mem_map_of_mem (m _ List.mem_cons_self)⟩)⟩ a2 (a3.same ss) (ih fun q hq => m q (List.mem_cons_of_mem _ hq))
        exact this k8 fun q hq => hq
      | dct fs =>
        obtain ⟨p, ws, k3, k4, k5, k6⟩ := k2
        exact ⟨p, ws, k3, ⟨k4, nn p k3⟩, k5, k6.same ss⟩
      | dck fs =>
        obtain ⟨p, ws, k3, k4, k5, k6⟩ := k2
        exact ⟨p, ws, k3, ⟨k4, nn p k3⟩, k5, k6.same ss⟩
      | dk => exact k2
      | tn fs =>
        obtain ⟨p, ws, o, k3, k4, k5, k6, k7⟩ := k2
        exact ⟨p, ws, o, k3, ss p _ k4, k5, k6, k7.same ss⟩
      | sd l d =>
        obtain ⟨v, k3, k4⟩ := k2
        exact ⟨v, k3, k4.same ss⟩
      | err a0 d0 f0 =>
        obtain ⟨k3, k30, k4⟩ := k2
        refine ⟨k3, k30, fun y x q => ?_⟩
        obtain ⟨dd, v, w1, w2, w3⟩ := k4 y x q
        exact ⟨dd, v, w1, ss dd _ w2, w3.same ss⟩
  · have ne : ∀ (l : Nat) g og, (ρ.set i (.dat d))[l]? = some g → Hd H og g a → i ≠ l ∧ ρ[l]? = some g := fun l g og y1 y3 => by
      have nl : i ≠ l := fun w => by
        subst w
        rw [List.getElem?_set_self li] at y1
        cases y1
        exact y3
      rw [List.getElem?_set_ne nl] at y1
      exact ⟨nl, y1⟩
    obtain ⟨_, y1⟩ := ne j g og z1 z3
    obtain ⟨k1, k2, k3⟩ := h.ow j g og a y1 z2 z3
    exact ⟨k1, k2, fun l gl ol w1 w2 w3 => k3 l gl ol (ne l gl ol w1 w3).2 w2 w3⟩
theorem RepS.freeze (h : RepS K S B O H σ ρ n) (ok : S.Ok) {ds : List PyData} {i : Nat} (e1 : ρ[i]? = some (.own ds)) : ∃ O', RepS K S B O' H σ (ρ.set i (.dat (.list ds))) n := by
  obtain ⟨ov, h1, p, us, h2, h3, h4, h5⟩ := h.rep.2 i _ e1
  subst h2
  refine ⟨_, h.melt ok e1 h1 (.lst (.inl (.inl ?_)) (h5.same (fz_less (fun b z => z.1) H)))⟩
  rw [fz_out fun w => w.2 rfl]
  exact h4
theorem kv_dx {κ : Type} {H : Hp} : ∀ {kvs : List (κ × V)} {kds : List (κ × PyData)}, KvOk K H kvs kds → DxAll K H (kvs.map (·.2)) (kds.map (·.2)) ∧ kvs.map (·.1) = kds.map (·.1)
  | _, _, .nil => ⟨.nil, rfl⟩
  | _, _, .cons h r => ⟨.cons h (kv_dx r).1, by rw [List.map_cons, List.map_cons, (kv_dx r).2]⟩
theorem zip_kv {κ : Type} (f : κ → PyData) (kds : List (κ × PyData)) : kds.map (fun p => (f p.1, p.2)) = ((kds.map (·.1)).map f).zip (kds.map (·.2)) := by
  induction kds with
  | nil => rfl
  | cons p l ih => rw [List.map_cons, List.map_cons, List.map_cons, List.map_cons, List.zip_cons_cons, ih]
/-- dicts as data -/
def dctD (kds : List (List Key × PyData)) : PyData := .dict (kds.map fun p => (kT p.1, p.2))
def dckD (kds : List (Key × PyData)) : PyData := .dict (kds.map fun p => (kD p.1, p.2))
theorem RepS.freezeT (h : RepS K S B O H σ ρ n) (ok : S.Ok) {kds : List (List Key × PyData)} {i : Nat} (e1 : ρ[i]? = some (.dct kds)) : ∃ O', RepS K S B O' H σ (ρ.set i (.dat (dctD kds))) n := by
  obtain ⟨ov, h1, p, kvs, h2, h3, h4, h5⟩ := h.rep.2 i _ e1
  subst h2
  obtain ⟨d1, d2⟩ := kv_dx h5
  refine ⟨_, h.melt ok e1 h1 (.dct (kvs := kvs) ?_ (d1.same (fz_less (fun b z => z.1) H)) ?_)⟩
  · rw [fz_out fun w => w.2 rfl]
    exact h4
  · rw [zip_kv kT kds, ← d2, List.map_map]
    rfl
theorem RepS.freezeK (h : RepS K S B O H σ ρ n) (ok : S.Ok) {kds : List (Key × PyData)} {i : Nat} (e1 : ρ[i]? = some (.dck kds)) : ∃ O', RepS K S B O' H σ (ρ.set i (.dat (dckD kds))) n := by
  obtain ⟨ov, h1, p, kvs, h2, h3, h4, h5⟩ := h.rep.2 i _ e1
  subst h2
  obtain ⟨d1, d2⟩ := kv_dx h5
  refine ⟨_, h.melt ok e1 h1 (.dic (kvs := kvs) ?_ (d1.same (fz_less (fun b z => z.1) H)) ?_)⟩
  · rw [fz_out fun w => w.2 rfl]
    exact h4
  · rw [zip_kv kD kds, ← d2, List.map_map]
    rfl
theorem rows_dx {A : Addr → Prop} : ∀ {qs : List Addr} {dss : List (List PyData)}, RowsOk K O H qs dss → (∀ q ∈ qs, A q) → DxAll K (Fz (fun a => O a ∧ ¬ A a) H) (qs.map V.ref) (dss.map PyData.list)
  | _, _, .nil, _ => .nil
  | _, _, .cons (q := q) h1 h2 h3 r, m => .cons (.lst (.inl (.inl (by rw [fz_out fun w => w.2 (m q List.mem_cons_self)]; exact h2))) (h3.same (fz_less (fun b z => z.1) H))) (rows_dx r fun x hx => m x (List.mem_cons_of_mem _ hx))
theorem RepS.freezeR (h : RepS K S B O H σ ρ n) (ok : S.Ok) {dss : List (List PyData)} {i : Nat} (e1 : ρ[i]? = some (.rows dss)) : ∃ O', RepS K S B O' H σ (ρ.set i (.dat (.list (dss.map .list)))) n := by
  obtain ⟨ov, h1, p, qs, h2, h3, h4, h5, h6, h7⟩ := h.rep.2 i _ e1
  subst h2
  refine ⟨_, h.melt ok e1 h1 (.lst (.inl (.inl ?_)) (rows_dx h7 fun q hq => .inr ⟨p, _, rfl, h4, List.mem_map_of_mem hq⟩))⟩
  rw [fz_out fun w => w.2 (.inl rfl)]
  exact h4
end
end DS
namespace DS
open PySem PySem.Spec PyProof.Rows L2
/-! ### statements over data -/
structure EnD where
  nx : Dn → Nat → Prop
  rt : PyData → Nat → Prop
  bk : Dn → Nat → Prop
  ct : Dn → Nat → Prop
abbrev TD := EnD → Dn → Nat → Prop
structure Ends2 (K : PySem.W.Frag) (S : Fr) (B : Hp) (DD : EnD) (D : Ends) : Prop where
  nx : ∀ O' σ' H' ρ' n', RepS K S B O' H' σ' ρ' n' → DD.nx ρ' n' → D.nx σ' H'
  bk : ∀ O' σ' H' ρ' n', RepS K S B O' H' σ' ρ' n' → DD.bk ρ' n' → D.bk σ' H'
  ct : ∀ O' σ' H' ρ' n', RepS K S B O' H' σ' ρ' n' → DD.ct ρ' n' → D.ct σ' H'
  rt : ∀ v H' d n', Dx K (Fz S.O0 H') v d → (∀ b x, S.H0 b = some x → ¬ S.M b → H' b = some x) → Al S.O0 H' → S.Dk H' n' → DD.rt d n' → D.rt v H'
def tS (K : PySem.W.Frag) (S : Fr) (T : TD) : TS := fun D σ H => ∃ B O ρ n DD, RepS K S B O H σ ρ n ∧ T DD ρ n ∧ Ends2 K S B DD D
structure PD (X : Cx) (S : Fr) (st : Stmt) (T : TD) : Prop where
  ps : PS X st (tS X.K S T)
structure PDs (X : Cx) (S : Fr) (st : List Stmt) (T : TD) : Prop where
  pss : PSs X st (tS X.K S T)
section
variable {X : Cx} {S : Fr} {st : Stmt} {rest : List Stmt} {T U : TD} {pos : Pos}
theorem RepS.out {K : PySem.W.Frag} {B H' : Hp} {O : Hid} {σ : L2.St} {ρ : Dn} {n : Nat} {v : V} {d : PyData} {D : Ends} {DD : EnD} (h : RepS K S B O H' σ ρ n) (E : Ends2 K S B DD D) (dx : Dx K (Fz O H') v d) (q : DD.rt d n) : D.rt v H' :=
  E.rt v H' d n (dx.same (fz_less h.sub H')) h.kp (fun a z => h.al a (h.sub a z)) h.dk q
def dNil : TD := fun DD ρ n => DD.nx ρ n
def dSeq (T U : TD) : TD := fun DD ρ n => T { DD with nx := fun ρ' n' => U DD ρ' n' } ρ n
theorem pds_nil : PDs X S [] dNil := ⟨pss_nil.imp fun D σ H ⟨B, O, ρ, n, DD, r, t, E⟩ => E.nx O σ H ρ n r t⟩
theorem pds_cons (h1 : PD X S st T) (h2 : PDs X S rest U) : PDs X S (st :: rest) (dSeq T U) := ⟨(pss_cons h1.ps h2.pss).imp fun D σ H ⟨B, O, ρ, n, DD, r, t, E⟩ =>
  ⟨B, O, ρ, n, _, r, t, ⟨fun O' σ' H' ρ' n' r' u => ⟨B, O', ρ', n', DD, r', u, E⟩, E.bk, E.ct, E.rt⟩⟩⟩
theorem pds_one (h1 : PD X S st T) : PDs X S [st] T := ⟨pss_one h1.ps⟩
/-! return, names, if -/
def dRet (f : DF) : TD := fun DD ρ n => ∃ d, f ρ = some d ∧ DD.rt d n
theorem pd_ret (ok : S.Ok) {e : Expr} {f : DF} (h : PF X e f) : PD X S (.Return (some e) pos) (dRet f) := ⟨(ps_ret h.pe).imp fun D σ H ⟨B, O, ρ, n, DD, r, ⟨d, e1, t⟩, E⟩ =>
  ⟨O, S.dv, ρ, d, r.al, r.rep, e1, fun v H' s dx => (r.same ok s).out E dx t⟩⟩
def dSet (i : Nat) (f : DF) : TD := fun DD ρ n => ∃ d, f ρ = some d ∧ DD.nx (ρ.set i (.dat d)) n
theorem dSet_ok (ok : S.Ok) {i : Nat} {f : DF} {K : PySem.W.Frag} {D : Ends} {σ : L2.St} {H : Hp} (h : tS K S (dSet i f) D σ H) : tAsg (tF K f) (gName i) D σ H := by
  obtain ⟨B, O, ρ, n, DD, r, ⟨d, e1, t⟩, E⟩ := h
  exact ⟨O, S.dv, ρ, d, r.al, r.rep, e1, fun v H' s dx => E.nx O _ H' _ n ((r.same ok s).set (v := v) (e := .dat d) ⟨v, rfl, dx⟩ notOwn_dat i) t⟩
theorem pd_set (ok : S.Ok) {i : Nat} {x : Str} {e : Expr} {f : DF} {pos' : Pos} (hN : X.N.Nodup) (hi : X.N[i]? = some x) (hx : Loc X.env.scope x) (he : PF X e f) (hs : swapsWith e (some (.Name x pos')) pos.line X.env = pure false := by rfl) (hf : X.fn x = true ∨ X.env.scope.names.lookup x = some .local := by first | exact .inl rfl | exact .inr rfl | assumption) :
    PD X S (.Assign [.Name x pos'] e pos) (dSet i f) := ⟨(ps_set hN hi hx he.pe hs hf).imp fun D σ H h => dSet_ok ok h⟩
/-- a new list of one's own -/
def dOwn (i : Nat) (f : Dn → Option (List PyData)) : TD := fun DD ρ n => ∃ ds, f ρ = some ds ∧ DD.nx (ρ.set i (.own ds)) n
theorem dOwn_ok (ok : S.Ok) {i : Nat} {f : Dn → Option (List PyData)} {K : PySem.W.Frag} {D : Ends} {σ : L2.St} {H : Hp} (h : tS K S (dOwn i f) D σ H) : tAsg (tFL K f) (gName i) D σ H := by
  obtain ⟨B, O, ρ, n, DD, r, ⟨ds, e1, t⟩, E⟩ := h
  exact ⟨O, S.dv, ρ, ds, r.al, r.rep, e1, fun p vs H' s np hp dx => E.nx _ _ H' _ n (r.new ok s np hp dx i) t⟩
theorem pd_own (ok : S.Ok) {i : Nat} {x : Str} {e : Expr} {f : Dn → Option (List PyData)} {pos' : Pos} (hN : X.N.Nodup) (hi : X.N[i]? = some x) (hx : Loc X.env.scope x) (he : PFL X e f) (hs : swapsWith e (some (.Name x pos')) pos.line X.env = pure false := by rfl) (hf : X.fn x = true ∨ X.env.scope.names.lookup x = some .local := by first | exact .inl rfl | exact .inr rfl | assumption) :
    PD X S (.Assign [.Name x pos'] e pos) (dOwn i f) := ⟨(ps_set hN hi hx he.pe hs hf).imp fun D σ H h => dOwn_ok ok h⟩
/-- name = [.. for ..] on one row -/
theorem tFL_of {K : PySem.W.Frag} {f : Dn → Option (List PyData)} {σ : L2.St} {H : Hp} {Q : VK} (h : tF K (lstI f) σ H Q) : tFL K f σ H Q := by
  obtain ⟨O, dv, ρ, d, al, r, e, q⟩ := h
  obtain ⟨ds, e1, rfl⟩ := Option.map_eq_some_iff.mp e
  refine ⟨O, dv, ρ, ds, al, r, e1, fun p vs H' s np hp dx => q _ H' s (.lst (.inl (.inl ?_)) (dx.same (fz_less (fun b z => .inl z) H')))⟩
  rw [fz_out (al.new np)]
  exact hp
section
variable {i : Nat} {y : Str} {py : Pos} {elt tg iter : Expr} {ifs : List Expr} {scope : Scope} {own : List (Str × Nat)} {spos : Pos} {fi : Dn → Option (List PyData)} {sl : List Nat} {g : PyData → Dn → Option Dn} {tt : Dn → Option Bool} {te : DF}
theorem ps_lcF (hc : X.calm = true) (hN : X.N.Nodup) (hy : X.N[i]? = some y) (hyl : X.env.scope.names.lookup y = some .local)
    (hsw : swapsWith (.ListComp elt [⟨tg, iter, ifs, 0⟩] scope pos) (some (.Name y py)) spos.line X.env = pure true) (hi : PIF X tg iter fi) (ok : BlkOk X.N X.env.scope scope own)
    (hg : ∀ (s : Shared) (H : Hp) (C : Addr) (cl : List (Str × Addr)) (fp : List Addr), PGF (X.blk s H scope (compEnvC scope cl C X.env) fp) tg sl g) (ht : ∀ (s : Shared) (H : Hp) (C : Addr) (cl : List (Str × Addr)) (fp : List Addr), PTsF (X.blk s H scope (compEnvC scope cl C X.env) fp) ifs tt)
    (he : ∀ (s : Shared) (H : Hp) (C : Addr) (cl : List (Str × Addr)) (fp : List Addr), PF (X.blk s H scope (compEnvC scope cl C X.env) fp) elt te) (hsl : ∀ i ∈ sl, i ∈ own.map (·.2) := by decide) (hs : ∀ x, foldedSetIterable iter X.env x = pure x := by intro _; rfl) :
    PS X (.Assign [.Name y py] (.ListComp elt [⟨tg, iter, ifs, 0⟩] scope pos) spos) (tAsg (tFL X.K (lcL fi g tt te (own.map (·.2)))) (gName i)) :=
  (ps_setLc (g := tG X.K sl g) (tt := tFT X.K tt) (te := tF X.K te) hc hN hy hyl hsw hi.pi ok (fun s H C cl fp => (hg s H C cl fp).pg) (fun s H C cl fp => (ht s H C cl fp).pts) (fun s H C cl fp => (he s H C cl fp).pe) hs).imp fun D σ H h => tlcF hsl h
theorem pd_setLc (ok0 : S.Ok) (hc : X.calm = true) (hN : X.N.Nodup) (hy : X.N[i]? = some y) (hyl : X.env.scope.names.lookup y = some .local)
    (hsw : swapsWith (.ListComp elt [⟨tg, iter, ifs, 0⟩] scope pos) (some (.Name y py)) spos.line X.env = pure true) (hi : PIF X tg iter fi) (ok : BlkOk X.N X.env.scope scope own)
    (hg : ∀ (s : Shared) (H : Hp) (C : Addr) (cl : List (Str × Addr)) (fp : List Addr), PGF (X.blk s H scope (compEnvC scope cl C X.env) fp) tg sl g) (ht : ∀ (s : Shared) (H : Hp) (C : Addr) (cl : List (Str × Addr)) (fp : List Addr), PTsF (X.blk s H scope (compEnvC scope cl C X.env) fp) ifs tt)
    (he : ∀ (s : Shared) (H : Hp) (C : Addr) (cl : List (Str × Addr)) (fp : List Addr), PF (X.blk s H scope (compEnvC scope cl C X.env) fp) elt te) (hsl : ∀ i ∈ sl, i ∈ own.map (·.2) := by decide) (hs : ∀ x, foldedSetIterable iter X.env x = pure x := by intro _; rfl) :
    PD X S (.Assign [.Name y py] (.ListComp elt [⟨tg, iter, ifs, 0⟩] scope pos) spos) (dSet i (lstI (lcL fi g tt te (own.map (·.2))))) :=
  ⟨(ps_lcF hc hN hy hyl hsw hi ok hg ht he hsl hs).imp fun D σ H h => tFL_of (dSet_ok ok0 h)⟩
end
/-- a, b = x, y -/
def dPar (i j : Nat) (g : Dn → Option (List PyData)) : TD := fun DD ρ n => ∃ x y, g ρ = some [x, y] ∧ DD.nx ((ρ.set i (.dat x)).set j (.dat y)) n
def dIf (g : Dn → Option Bool) (T U : TD) : TD := fun DD ρ n => ∃ b, g ρ = some b ∧ if b = true then T DD ρ n else U DD ρ n
theorem pd_if (ok : S.Ok) {c : Expr} {a b : List Stmt} {g : Dn → Option Bool} (hc : PFT X c g) (ha : PDs X S a T) (hb : PDs X S b U) : PD X S (.If c a b pos) (dIf g T U) := ⟨(ps_if hc.pt ha.pss hb.pss).imp fun D σ H ⟨B, O, ρ, n, DD, r, ⟨k, e1, t⟩, E⟩ =>
  ⟨O, S.dv, ρ, k, r.al, r.rep, e1, fun H' s => by
    cases k with
    | true => exact ⟨B, O, ρ, n, DD, r.same ok s, t, E⟩
    | false => exact ⟨B, O, ρ, n, DD, r.same ok s, t, E⟩⟩⟩
/-! for -/
def dFor (fi : Dn → Option (List PyData)) (g : PyData → Dn → Option Dn) (T : TD) : TD := fun DD ρ n => ∃ xs, fi ρ = some xs ∧ ∃ I : Nat → Dn → Nat → Prop, I 0 ρ n ∧
  (∀ i x ρ' n', xs[i]? = some x → I i ρ' n' → ∃ ρ2, g x ρ' = some ρ2 ∧ T { nx := I (i + 1), ct := I (i + 1), bk := DD.nx, rt := DD.rt } ρ2 n') ∧ ∀ ρ' n', I xs.length ρ' n' → DD.nx ρ' n'
/-- a target's slots are no lists of one's own behind it -/
def Sets (g : PyData → Dn → Option Dn) (sl : List Nat) : Prop := ∀ d ρ ρ2, g d ρ = some ρ2 → ρ2.length = ρ.length ∧ (∀ j : Nat, j ∉ sl → ρ2[j]? = ρ[j]?) ∧ ∀ j ∈ sl, ∀ e, ρ2[j]? = some e → notOwn e
theorem sets_name (i : Nat) : Sets (setN i) [i] := fun d ρ ρ2 e => by
  cases e
  refine ⟨List.length_set, fun j hj => List.getElem?_set_ne fun z => hj (by simp [z]), fun j hj g z => ?_⟩
  have : j = i := by simpa using hj
  subst this
  by_cases lt : j < ρ.length
  · rw [List.getElem?_set_self lt] at z
    cases z
    exact notOwn_dat
  · rw [List.getElem?_eq_none (by rw [List.length_set]; omega)] at z
    cases z
theorem setMany_ok : ∀ (sl : List Nat) (ds : List PyData) (ρ ρ2 : Dn), setMany sl ds ρ = some ρ2 → ρ2.length = ρ.length ∧ (∀ j : Nat, j ∉ sl → ρ2[j]? = ρ[j]?) ∧ ∀ j ∈ sl, ∀ e, ρ2[j]? = some e → notOwn e
  | [], [], ρ, ρ2, e => by cases e; exact ⟨rfl, fun _ _ => rfl, fun _ h => nomatch h⟩
  | [], _ :: _, _, _, e => nomatch e
  | _ :: _, [], _, _, e => nomatch e
  | i :: sl, d :: ds, ρ, ρ2, e => by
    obtain ⟨h1, h2, h3⟩ := setMany_ok sl ds (ρ.set i (.dat d)) ρ2 e
    refine ⟨h1.trans List.length_set, fun j hj => ?_, fun j hj fs z => ?_⟩
    · rw [h2 j fun z => hj (List.mem_cons_of_mem _ z), List.getElem?_set_ne fun z => hj (by rw [z]; exact List.mem_cons_self)]
    · by_cases k : j ∈ sl
      · exact h3 j k fs z
      · have : j = i := (List.mem_cons.mp hj).resolve_right k
        subst this
        rw [h2 j k] at z
        by_cases lt : j < ρ.length
        · rw [List.getElem?_set_self lt] at z
          cases z
          exact notOwn_dat
        · rw [List.getElem?_eq_none (by rw [List.length_set]; omega)] at z
          cases z
theorem sets_tup (sl : List Nat) : Sets (setT sl) sl := fun d ρ ρ2 e => by
  obtain ⟨ds, e1, e2⟩ := Option.bind_eq_some_iff.mp e
  split at e2
  case isFalse => cases e2
  exact setMany_ok sl ds ρ ρ2 e2
theorem RepS.target {K : PySem.W.Frag} {B H : Hp} {O : Hid} {σ σ2 : L2.St} {ρ ρ2 : Dn} {n : Nat} {g : PyData → Dn → Option Dn} {sl : List Nat} {d : PyData} (h : RepS K S B O H σ ρ n) (hg : Sets g sl) (e : g d ρ = some ρ2) (r : RepE K O H S.dv σ2 ρ2)
    (w : ∀ vs : List Nat, (∀ i ∈ sl, i ∈ vs) → wipe σ2 vs = wipe σ vs) : RepS K S B O H σ2 ρ2 n := by
  obtain ⟨h1, h2, h3⟩ := hg d ρ ρ2 e
  have hw := w sl fun i hi => hi
  have same : ∀ j : Nat, j ∉ sl → σ2[j]? = σ[j]? := fun j hj => by
    have e1 := wipe_get σ2 sl j
    have e2 := wipe_get σ sl j
    rw [if_neg hj] at e1 e2
    rw [← e1, ← e2, hw]
  refine ⟨h.al, r, h.kp, h.sub, h.mo, h.fz, fun i g og q e1 e2 e3 => ?_, h.dk⟩
  have ni : i ∉ sl := fun z => h3 i z g e1 _ _ _ e3
  rw [h2 i ni] at e1
  rw [same i ni] at e2
  obtain ⟨k1, k2, k3⟩ := h.ow i g og q e1 e2 e3
  refine ⟨k1, k2, fun j es os e4 e5 e6 => ?_⟩
  have nj : j ∉ sl := fun z => h3 j z es e4 _ _ _ e6
  rw [h2 j nj] at e4
  rw [same j nj] at e5
  exact k3 j es os e4 e5 e6
theorem pd_for (ok : S.Ok) {tg iter : Expr} {body : List Stmt} {fi : Dn → Option (List PyData)} {sl : List Nat} {g : PyData → Dn → Option Dn} (hp : PassesOwn (model X.prog X.w) X.A X.env X.xe) (hc : X.calm = true) (hi : PIF X tg iter fi) (hg : PGF X tg sl g) (sg : Sets g sl) (hb : PDs X S body T)
    (hs : ∀ x, foldedSetIterable iter X.env x = pure x := by intro _; rfl) : PD X S (.For tg iter body [] pos) (dFor fi g T) := ⟨(ps_for hp hc hi.pi hg.pg hb.pss hs).imp fun D σ H ⟨B, O, ρ, n, DD, r, ⟨xs, e1, I, i0, step, fin⟩, E⟩ => by
  refine ⟨O, S.dv, ρ, xs, r.al, r.rep, e1, fun J H1 s1 it => ?_⟩
  have r1 := (r.same ok s1).here
  have bb : Same B (Fz O H1) := (r.same ok s1).fz
  refine ⟨fun i m σ' H' => m = xs.length - i ∧ i ≤ xs.length ∧ ∃ O' ρ' n', RepS X.K S (Fz O H1) O' H' σ' ρ' n' ∧ I i ρ' n', ⟨xs.length, by simp, Nat.zero_le _, O, ρ, n, r1, i0⟩, ?_⟩
  rintro i m σ' H' ⟨rfl, hi, O', ρ', n', r', inv⟩
  obtain ⟨g1, g2, g3⟩ := it O' H' r'.fz r'.al
  by_cases hlt : i < xs.length
  · have ex : xs[i]? = some xs[i] := List.getElem?_eq_getElem hlt
    obtain ⟨ρ2, e2, tb⟩ := step i _ ρ' n' ex inv
    refine .inr ⟨g1 i hlt, fun σ2 H2 => ∃ O2 ρ2 n2, RepS X.K S (Fz O H1) O2 H2 σ2 ρ2 n2 ∧ I (i + 1) ρ2 n2, fun σ2 H2 ⟨O2, ρ2, n2, r2, i2⟩ => ⟨xs.length - (i + 1), by omega, rfl, hlt, O2, ρ2, n2, r2, i2⟩, fun x H2 y => ?_⟩
    obtain ⟨s2, dx⟩ := g3 i x H2 _ ex y
    have r2 := r'.same ok s2
    refine ⟨O', S.dv, ρ', _, ρ2, r2.al, r2.rep, dx, e2, fun σ2 re w => ⟨Fz O H1, O', ρ2, n', _, r2.target sg e2 re w, tb, ?_⟩⟩
    exact ⟨fun O3 σ3 H3 ρ3 n3 r3 q => ⟨O3, ρ3, n3, r3, q⟩, fun O3 σ3 H3 ρ3 n3 r3 q => E.nx O3 σ3 H3 ρ3 n3 (r3.base bb) q, fun O3 σ3 H3 ρ3 n3 r3 q => ⟨O3, ρ3, n3, r3, q⟩, E.rt⟩
  · have ei : i = xs.length := by omega
    subst ei
    exact .inl ⟨g2, E.nx O' σ' H' ρ' n' (r'.base bb) (fin ρ' n' inv)⟩⟩
/-! while -/
def dWhile (g : Dn → Option Bool) (T : TD) : TD := fun DD ρ n => ∃ I : Nat → Dn → Nat → Prop, (∃ m, I m ρ n) ∧ ∀ m ρ' n', I m ρ' n' → ∃ b, g ρ' = some b ∧
  if b = true then T { nx := fun ρ2 n2 => ∃ m', m' < m ∧ I m' ρ2 n2, ct := fun ρ2 n2 => ∃ m', m' < m ∧ I m' ρ2 n2, bk := DD.nx, rt := DD.rt } ρ' n' else DD.nx ρ' n'
theorem pd_while (ok : S.Ok) {c : Expr} {body : List Stmt} {g : Dn → Option Bool} (hp : PassesOwn (model X.prog X.w) X.A X.env X.xe) (hc : PFT X c g) (hb : PDs X S body T) : PD X S (.While c body [] pos) (dWhile g T) := ⟨(ps_while hp hc.pt hb.pss).imp fun D σ H ⟨B, O, ρ, n, DD, r, ⟨I, ⟨m0, i0⟩, step⟩, E⟩ => by
  refine ⟨fun m σ' H' => ∃ O' ρ' n', RepS X.K S B O' H' σ' ρ' n' ∧ I m ρ' n', ⟨m0, O, ρ, n, r, i0⟩, ?_⟩
  rintro m σ' H' ⟨O', ρ', n', r', inv⟩
  obtain ⟨b, e1, t⟩ := step m ρ' n' inv
  refine ⟨O', S.dv, ρ', b, r'.al, r'.rep, e1, fun H2 s2 => ?_⟩
  have r2 := r'.same ok s2
  cases b with
  | true =>
    refine iteT ⟨fun σ2 H2 => ∃ m', m' < m ∧ ∃ O2 ρ2 n2, RepS X.K S B O2 H2 σ2 ρ2 n2 ∧ I m' ρ2 n2, fun σ2 H2 h => h, B, O', ρ', n', _, r2, t, ?_⟩
    exact ⟨fun O3 σ3 H3 ρ3 n3 r3 ⟨m', lt, q⟩ => ⟨m', lt, O3, ρ3, n3, r3, q⟩, fun O3 σ3 H3 ρ3 n3 r3 q => E.nx O3 σ3 H3 ρ3 n3 r3 q, fun O3 σ3 H3 ρ3 n3 r3 ⟨m', lt, q⟩ => ⟨m', lt, O3, ρ3, n3, r3, q⟩, E.rt⟩
  | false => exact iteF (E.nx O' σ' H2 ρ' n' r2 t)⟩
/-! x.append(e), x a list of one's own in slot i -/
def getO (i : Nat) : Dn → Option (List PyData) := fun ρ => match ρ[i]? with | some (.own ds) => some ds | _ => none
theorem getO_some {i : Nat} {ρ : Dn} {ds : List PyData} (h : getO i ρ = some ds) : ρ[i]? = some (.own ds) := by
  unfold getO at h
  split at h
  · rename_i e
    cases h
    exact e
  · cases h
def dApp (i : Nat) (f : DF) : TD := fun DD ρ n => ∃ ds d, getO i ρ = some ds ∧ f ρ = some d ∧ ds.length < lim ∧ DD.nx (ρ.set i (.own (ds ++ [d]))) n
theorem pd_append (ok : S.Ok) {i : Nat} {x : Str} {e : Expr} {f : DF} {p apos cpos : Pos} (hN : X.N[i]? = some x) (hv : Vis X.env.scope x) (he : PF X e f)
    (hbase : attributeBase (.Name x p) "append" X.env (eval (.Name x p) X.env) = eval (.Name x p) X.env := by rfl)
    (hfew : ((backTo cpos (starEach [e] X.env)).all (fun x => !x.1) && (backToKw cpos (keywordEach [] X.env)).all (fun x => x.1.isSome) && decide ([e].length + ([] : List Keyword).length + (if ([] : List Keyword).isEmpty then 0 else 1) < 30)) = true := by rfl)
    (hline : (apos.endLine == cpos.line) = true := by rfl) (hs : starEach [e] X.env = (false, eval e X.env) :: starEach [] X.env := by rfl) (hplain : (backTo cpos (starEach [] X.env)).any (·.1) = false := by rfl)
    (hsw : swapsWith (.Call (.Attribute (.Name x p) "append" apos) [e] [] cpos) none pos.line X.env = pure false := by rfl) (hd : (x == ("__debug__" : Str)) = false := by decide) (hcd : (x == ("__classdict__" : Str)) = false := by decide) :
    PD X S (.Expr (.Call (.Attribute (.Name x p) "append" apos) [e] [] cpos) pos) (dApp i f) := ⟨(ps_expr (pe_bm PySem.F.plainAttrs_list PySem.F.slot_list_append PySem.F.type_list_append mt_append (pe_var hN hv hd hcd) (pa_cons he.pe pa_nil hs) hbase hfew hline hs hplain) hsw).imp fun D σ H ⟨B, O, ρ, n, DD, r, ⟨ds, d, e1, e2, hl, t⟩, E⟩ => by
  have e1' := getO_some e1
  obtain ⟨ov, h1, q, us, h2, h3, h4, h5⟩ := r.rep.2 i _ e1'
  subst h2
  refine ⟨.ref q, h1, .inl ⟨rfl, _, SqL.of h4⟩, O, S.dv, ρ, d, r.al, r.rep, e2, fun v H' s dx => ⟨q, us, v, rfl, rfl, s _ _ h4, lim_le (by rw [h5.len]; exact hl), ?_⟩⟩
  have r2 := r.same ok s
  exact E.nx O σ _ _ n (r2.put ok e1' h1 ((h5.same (s.fz O)).append (.cons dx .nil))) t⟩
/-- what was of one's own is data from here on -/
def frzO (i : Nat) (ρ : Dn) : Option Dn := match ρ[i]? with
  | some (.own ds) => some (ρ.set i (.dat (.list ds)))
  | some (.rows dss) => some (ρ.set i (.dat (.list (dss.map .list))))
  | some (.dct kds) => some (ρ.set i (.dat (dctD kds)))
  | some (.dck kds) => some (ρ.set i (.dat (dckD kds)))
  | _ => none
theorem pds_freeze (ok : S.Ok) (i : Nat) {sts : List Stmt} (h : PDs X S sts T) : PDs X S sts (fun DD ρ n => T DD ρ n ∨ ∃ ρ', frzO i ρ = some ρ' ∧ T DD ρ' n) := ⟨h.pss.imp fun D σ H ⟨B, O, ρ, n, DD, r, t, E⟩ => by
  rcases t with t | ⟨ρ', e1, t⟩
  · exact ⟨B, O, ρ, n, DD, r, t, E⟩
  · unfold frzO at e1
    split at e1
    · rename_i ds e2
      cases e1
      obtain ⟨O', r'⟩ := r.freeze ok e2
      exact ⟨B, O', _, n, DD, r', t, E⟩
    · rename_i ds e2
      cases e1
      obtain ⟨O', r'⟩ := r.freezeR ok e2
      exact ⟨B, O', _, n, DD, r', t, E⟩
    · rename_i ds e2
      cases e1
      obtain ⟨O', r'⟩ := r.freezeT ok e2
      exact ⟨B, O', _, n, DD, r', t, E⟩
    · rename_i ds e2
      cases e1
      obtain ⟨O', r'⟩ := r.freezeK ok e2
      exact ⟨B, O', _, n, DD, r', t, E⟩
    · cases e1⟩
end
/-! ### a def by its body -/
def startD (N : Nat) (ds : List PyData) : Dn := ds.map .dat ++ List.replicate (N - ds.length) .na
theorem repE_start {K : PySem.W.Frag} {O : Hid} {H : Hp} {dv : V} {N : List Str} {vs : List V} {ds : List PyData} (h : DxAll K (Fz O H) vs ds) : RepE K O H dv (L2.start N vs) (startD N.length ds) := by
  have hl := h.len
  refine ⟨by simp [startD, L2.start, hl], fun i e q => ?_⟩
  unfold startD at q
  unfold L2.start
  by_cases lt : i < ds.length
  · rw [List.getElem?_append_left (by rw [List.length_map]; exact lt), List.getElem?_map] at q
    rw [List.getElem?_append_left (by rw [List.length_map]; omega), List.getElem?_map]
    cases z : ds[i]? with
    | none => rw [z] at q; cases q
    | some d =>
      rw [z] at q
      cases q
      obtain ⟨v, h1, h2⟩ := h.get z
      exact ⟨some v, by rw [h1]; rfl, v, rfl, h2⟩
  · rw [List.getElem?_append_right (by rw [List.length_map]; omega), List.getElem?_replicate] at q
    rw [List.getElem?_append_right (by rw [List.length_map]; omega), List.getElem?_replicate]
    split at q
    case isFalse => cases q
    rename_i z
    cases q
    rw [List.length_map] at z
    refine ⟨none, ?_, trivial⟩
    rw [if_pos (by rw [List.length_map]; omega)]
def noDeck (H : Hp) (O : Hid) : Fr := ⟨H, O, fun _ => False, .non, fun _ _ => True⟩
theorem noDeck_ok {H : Hp} {O : Hid} (al : Al O H) : (noDeck H O).Ok := ⟨fun _ _ _ _ _ => trivial, al⟩
section
variable {P : Program} {w : World} {K : PySem.W.Frag} {mg : Str → Option Value} {base : Heap}
/-- a def without a deck, by its statements -/
theorem fn_data {x qual : Str} {st : Stmt} {N ps : List Str} {f : Addr} {fd : FuncData} {k n : Nat} {sem : List PyData → Option PyData} (F : Fun K x qual st f fd) (Sc : FnScope N ps (defScope st)) (hn : ps.length = n)
    (hb : ∀ (cdv : Value) (A : Around) (outer : List Env) (s : Shared) (H : Hp) (E : XK) (O : Hid), Al O H → (A.deeper (envOfC qual (defScope st) s.heap.objs.size f cdv)).guards = some [] → Room k (A.deeper (envOfC qual (defScope st) s.heap.objs.size f cdv)) →
      ∃ T, PDs (cxOf CX0 P w K mg base N qual (defScope st) f cdv A outer s H E).nox (noDeck H O) (defBody st) T ∧ ∀ ds d, ds.length = n → sem ds = some d → T ⟨fun _ _ => d = .none, fun e _ => e = d, fun _ _ => False, fun _ _ => False⟩ (startD N.length ds) 0) : FnG P w K mg base CX0 (k + 1) f fd ps (spF K n sem) := by
  refine FnG.ok F Sc (fun vs H Q E h => by rw [spF_len h, hn]) (fun cdv A outer s H vs Q E hg hr h => ?_)
  obtain ⟨O, ds, d, al, hd, hl, es, q⟩ := h
  obtain ⟨T, pt, want⟩ := hb cdv A outer s H E O al hg hr
  refine ⟨_, pt.pss, Fz O H, O, _, 0, _, ⟨al, repE_start hd, fun b y e _ => e, fun _ h => h, fun _ h => h.elim, Same.refl _, fun i g og q e1 e2 e3 => ?_, trivial⟩, want ds d hl es, ?_⟩
  · unfold startD at e1
    by_cases lt : i < ds.length
    · rw [List.getElem?_append_left (by rw [List.length_map]; exact lt), List.getElem?_map] at e1
      cases z : ds[i]? with
      | none => rw [z] at e1; cases e1
      | some d => rw [z] at e1; cases e1; exact e3.elim
    · rw [List.getElem?_append_right (by rw [List.length_map]; omega), List.getElem?_replicate] at e1
      split at e1 <;> cases e1
      exact e3.elim
  · refine ⟨fun O' σ' H' ρ' n' r e => ?_, fun O' σ' H' ρ' n' r e => e, fun O' σ' H' ρ' n' r e => e, fun v H' e n' dx kp _ _ h => ?_⟩
    · refine q _ H' (fun b y z => r.kp b y z fun h => h) ?_
      rw [show d = PyData.none from e]
      exact .non
    · rw [show e = d from h] at dx
      exact q v H' (fun b y z => kp b y z fun h => h) dx
end
end DS
namespace DS
open PySem PySem.Spec PyProof.Rows L2
/-! ### statements as functions of the slots -/
inductive Res where
  | nx (ρ : Dn)
  | rt (d : PyData)
  | bk (ρ : Dn)
  | ct (ρ : Dn)
abbrev SF := Dn → Option Res
def EnD.ends (DD : EnD) (n : Nat) : Res → Prop
  | .nx ρ => DD.nx ρ n
  | .rt d => DD.rt d n
  | .bk ρ => DD.bk ρ n
  | .ct ρ => DD.ct ρ n
def dFun (f : SF) : TD := fun DD ρ n => ∃ r, f ρ = some r ∧ DD.ends n r
structure PZ (X : Cx) (S : Fr) (st : Stmt) (f : SF) : Prop where
  pd : PD X S st (dFun f)
structure PZs (X : Cx) (S : Fr) (st : List Stmt) (f : SF) : Prop where
  pds : PDs X S st (dFun f)
theorem PD.imp {X : Cx} {S : Fr} {st : Stmt} {T T' : TD} (h : PD X S st T) (k : ∀ DD ρ n, T' DD ρ n → T DD ρ n) : PD X S st T' := ⟨h.ps.imp fun D σ H ⟨B, O, ρ, n, DD, r, t, E⟩ => ⟨B, O, ρ, n, DD, r, k _ _ _ t, E⟩⟩
theorem PDs.imp {X : Cx} {S : Fr} {st : List Stmt} {T T' : TD} (h : PDs X S st T) (k : ∀ DD ρ n, T' DD ρ n → T DD ρ n) : PDs X S st T' := ⟨h.pss.imp fun D σ H ⟨B, O, ρ, n, DD, r, t, E⟩ => ⟨B, O, ρ, n, DD, r, k _ _ _ t, E⟩⟩
section
variable {X : Cx} {S : Fr} {st : Stmt} {rest : List Stmt} {f g h : SF} {pos : Pos}
def sNil : SF := fun ρ => some (.nx ρ)
def sSeq (f g : SF) : SF := fun ρ => (f ρ).bind fun r => match r with
  | .nx ρ' => g ρ'
  | .rt d => some (.rt d)
  | .bk ρ' => some (.bk ρ')
  | .ct ρ' => some (.ct ρ')
theorem pzs_nil : PZs X S [] sNil := ⟨pds_nil.imp fun DD ρ n ⟨r, e, t⟩ => by cases e; exact t⟩
theorem pzs_one (h1 : PZ X S st f) : PZs X S [st] f := ⟨pds_one h1.pd⟩
theorem pzs_cons (h1 : PZ X S st f) (h2 : PZs X S rest g) : PZs X S (st :: rest) (sSeq f g) := ⟨(pds_cons h1.pd h2.pds).imp fun DD ρ n ⟨r, e, t⟩ => by
  obtain ⟨r1, e1, e2⟩ := Option.bind_eq_some_iff.mp e
  refine ⟨r1, e1, ?_⟩
  cases r1 with
  | nx ρ' => exact ⟨r, e2, t⟩
  | rt d => cases e2; exact t
  | bk ρ' => cases e2; exact t
  | ct ρ' => cases e2; exact t⟩
def sRet (f : DF) : SF := fun ρ => (f ρ).bind fun d => some (.rt d)
theorem pz_ret (ok : S.Ok) {e : Expr} {f : DF} (h : PF X e f) : PZ X S (.Return (some e) pos) (sRet f) := ⟨(pd_ret ok h).imp fun DD ρ n ⟨r, e, t⟩ => by
  obtain ⟨d, e1, e2⟩ := Option.bind_eq_some_iff.mp e
  cases e2
  exact ⟨d, e1, t⟩⟩
def sSet (i : Nat) (f : DF) : SF := fun ρ => (f ρ).bind fun d => some (.nx (ρ.set i (.dat d)))
theorem dSet_sSet {i : Nat} {f : DF} {DD : EnD} {ρ : Dn} {n : Nat} (h : dFun (sSet i f) DD ρ n) : dSet i f DD ρ n := by
  obtain ⟨r, e, t⟩ := h
  obtain ⟨d, e1, e2⟩ := Option.bind_eq_some_iff.mp e
  cases e2
  exact ⟨d, e1, t⟩
theorem pz_of_set {i : Nat} {f : DF} (h : PD X S st (dSet i f)) : PZ X S st (sSet i f) := ⟨h.imp fun _ _ _ h => dSet_sSet h⟩
def sOwn (i : Nat) (f : Dn → Option (List PyData)) : SF := fun ρ => (f ρ).bind fun d => some (.nx (ρ.set i (.own d)))
theorem pz_of_own {i : Nat} {f : Dn → Option (List PyData)} (h : PD X S st (dOwn i f)) : PZ X S st (sOwn i f) := ⟨h.imp fun DD ρ n ⟨r, e, t⟩ => by
  obtain ⟨d, e1, e2⟩ := Option.bind_eq_some_iff.mp e
  cases e2
  exact ⟨d, e1, t⟩⟩
def sApp (i : Nat) (f : DF) : SF := fun ρ => (getO i ρ).bind fun ds => (f ρ).bind fun d => if ds.length < lim then some (.nx (ρ.set i (.own (ds ++ [d])))) else none
theorem pz_of_app {i : Nat} {f : DF} (h : PD X S st (dApp i f)) : PZ X S st (sApp i f) := ⟨h.imp fun DD ρ n ⟨r, e, t⟩ => by
  obtain ⟨ds, e1, e2⟩ := Option.bind_eq_some_iff.mp e
  obtain ⟨d, e3, e4⟩ := Option.bind_eq_some_iff.mp e2
  split at e4
  case isFalse => cases e4
  rename_i hl
  cases e4
  exact ⟨ds, d, e1, e3, hl, t⟩⟩
def sIf (g : Dn → Option Bool) (f h : SF) : SF := fun ρ => (g ρ).bind fun b => if b = true then f ρ else h ρ
theorem pz_if (ok : S.Ok) {c : Expr} {a b : List Stmt} {t : Dn → Option Bool} (hc : PFT X c t) (ha : PZs X S a f) (hb : PZs X S b g) : PZ X S (.If c a b pos) (sIf t f g) := ⟨(pd_if ok hc ha.pds hb.pds).imp fun DD ρ n ⟨r, e, w⟩ => by
  obtain ⟨k, e1, e2⟩ := Option.bind_eq_some_iff.mp e
  refine ⟨k, e1, ?_⟩
  cases k with
  | true => exact ⟨r, e2, w⟩
  | false => exact ⟨r, e2, w⟩⟩
/-- a list of one's own is data from here on -/
def frzD (i : Nat) (ρ : Dn) : Dn := (frzO i ρ).getD ρ
theorem pzs_freeze (ok : S.Ok) (i : Nat) {sts : List Stmt} (h : PZs X S sts f) : PZs X S sts (fun ρ => f (frzD i ρ)) := ⟨(pds_freeze ok i h.pds).imp fun DD ρ n ⟨r, e, t⟩ => by
  have e : f (frzD i ρ) = some r := e
  unfold frzD at e
  cases z : frzO i ρ with
  | some ρ' =>
    rw [z] at e
    exact .inr ⟨ρ', rfl, r, e, t⟩
  | none =>
    rw [z] at e
    exact .inl ⟨r, e, t⟩⟩
/-! loops -/
def runFor (g : PyData → Dn → Option Dn) (f : SF) : List PyData → SF
  | [], ρ => some (.nx ρ)
  | x :: xs, ρ => (g x ρ).bind fun ρ1 => (f ρ1).bind fun r => match r with
    | .nx ρ2 => runFor g f xs ρ2
    | .ct ρ2 => runFor g f xs ρ2
    | .bk ρ2 => some (.nx ρ2)
    | .rt d => some (.rt d)
def sFor (fi : Dn → Option (List PyData)) (g : PyData → Dn → Option Dn) (f : SF) : SF := fun ρ => (fi ρ).bind fun xs => runFor g f xs ρ
theorem pz_for (ok : S.Ok) {tg iter : Expr} {body : List Stmt} {fi : Dn → Option (List PyData)} {sl : List Nat} {g : PyData → Dn → Option Dn} (hp : PassesOwn (model X.prog X.w) X.A X.env X.xe) (hc : X.calm = true) (hi : PIF X tg iter fi) (hg : PGF X tg sl g) (sg : Sets g sl) (hb : PZs X S body f)
    (hs : ∀ x, foldedSetIterable iter X.env x = pure x := by intro _; rfl) : PZ X S (.For tg iter body [] pos) (sFor fi g f) := ⟨(pd_for ok hp hc hi hg sg hb.pds hs).imp fun DD ρ n ⟨r, e, t⟩ => by
  obtain ⟨xs, e1, e2⟩ := Option.bind_eq_some_iff.mp e
  refine ⟨xs, e1, fun i ρ' n' => n' = n ∧ ∃ r', runFor g f (xs.drop i) ρ' = some r' ∧ DD.ends n r', ⟨rfl, r, e2, t⟩, fun i x ρ' n' ex ⟨en, r', e3, t'⟩ => ?_, fun ρ' n' ⟨en, r', e3, t'⟩ => ?_⟩
  · subst en
    have ed : xs.drop i = x :: xs.drop (i + 1) := by
      obtain ⟨lt, e0⟩ := List.getElem?_eq_some_iff.mp ex
      rw [List.drop_eq_getElem_cons lt, e0]
    rw [ed] at e3
    obtain ⟨ρ1, e4, e5⟩ := Option.bind_eq_some_iff.mp e3
    obtain ⟨r1, e6, e7⟩ := Option.bind_eq_some_iff.mp e5
    refine ⟨ρ1, e4, r1, e6, ?_⟩
    cases r1 with
    | nx ρ2 => exact ⟨rfl, r', e7, t'⟩
    | ct ρ2 => exact ⟨rfl, r', e7, t'⟩
    | bk ρ2 => cases e7; exact t'
    | rt d => cases e7; exact t'
  · subst en
    rw [List.drop_length] at e3
    cases e3
    exact t'⟩
def runWhile (t : Dn → Option Bool) (f : SF) : Nat → SF
  | 0, _ => none
  | m + 1, ρ => (t ρ).bind fun b => if b = true then (f ρ).bind fun r => match r with
    | .nx ρ2 => runWhile t f m ρ2
    | .ct ρ2 => runWhile t f m ρ2
    | .bk ρ2 => some (.nx ρ2)
    | .rt d => some (.rt d) else some (.nx ρ)
def sWhile (m : Nat) (t : Dn → Option Bool) (f : SF) : SF := runWhile t f m
theorem pz_while (m : Nat) (ok : S.Ok) {c : Expr} {body : List Stmt} {t : Dn → Option Bool} (hp : PassesOwn (model X.prog X.w) X.A X.env X.xe) (hc : PFT X c t) (hb : PZs X S body f) : PZ X S (.While c body [] pos) (sWhile m t f) := ⟨(pd_while ok hp hc hb.pds).imp fun DD ρ n ⟨r, e, w⟩ => by
  refine ⟨fun m ρ' n' => n' = n ∧ ∃ r', runWhile t f m ρ' = some r' ∧ DD.ends n r', ⟨m, rfl, r, e, w⟩, fun m ρ' n' ⟨en, r', e3, t'⟩ => ?_⟩
  subst en
  cases m with
  | zero => cases e3
  | succ m =>
    obtain ⟨b, e4, e5⟩ := Option.bind_eq_some_iff.mp e3
    refine ⟨b, e4, ?_⟩
    cases b with
    | false =>
      simp only [Bool.false_eq_true, if_false] at e5 ⊢
      cases e5
      exact t'
    | true =>
      simp only [if_true] at e5 ⊢
      obtain ⟨r1, e6, e7⟩ := Option.bind_eq_some_iff.mp e5
      refine ⟨r1, e6, ?_⟩
      cases r1 with
      | nx ρ2 => exact ⟨m, Nat.lt_succ_self _, rfl, r', e7, t'⟩
      | ct ρ2 => exact ⟨m, Nat.lt_succ_self _, rfl, r', e7, t'⟩
      | bk ρ2 => cases e7; exact t'
      | rt d => cases e7; exact t'⟩
end
/-- what a def gives -/
def semZ (N : Nat) (f : SF) : List PyData → Option PyData := fun ds => (f (startD N ds)).bind fun r => match r with
  | .rt d => some d
  | .nx _ => some .none
  | _ => none
section
variable {P : Program} {w : World} {K : PySem.W.Frag} {mg : Str → Option Value} {base : Heap}
theorem fn_z {x qual : Str} {st : Stmt} {N ps : List Str} {fa : Addr} {fd : FuncData} {k n : Nat} {f : SF} (F : Fun K x qual st fa fd) (Sc : FnScope N ps (defScope st)) (hn : ps.length = n)
    (hb : ∀ (cdv : Value) (A : Around) (outer : List Env) (s : Shared) (H : Hp) (E : XK) (O : Hid), Al O H → (A.deeper (envOfC qual (defScope st) s.heap.objs.size fa cdv)).guards = some [] → Room k (A.deeper (envOfC qual (defScope st) s.heap.objs.size fa cdv)) →
      PZs (cxOf CX0 P w K mg base N qual (defScope st) fa cdv A outer s H E).nox (noDeck H O) (defBody st) f) : FnG P w K mg base CX0 (k + 1) fa fd ps (spF K n (semZ N.length f)) :=
  fn_data F Sc hn fun cdv A outer s H E O al hg hr => ⟨_, (hb cdv A outer s H E O al hg hr).pds, fun ds d hl es => by
    obtain ⟨r, e1, e2⟩ := Option.bind_eq_some_iff.mp es
    refine ⟨r, e1, ?_⟩
    cases r with
    | rt d => cases e2; rfl
    | nx ρ => cases e2; rfl
    | bk ρ => cases e2
    | ct ρ => cases e2⟩
end
end DS
namespace DS
open PySem PySem.Spec PyProof.Rows L2
end DS
namespace DS
open PySem PySem.Spec PyProof.Rows L2
section
variable {prog : Program} {w : World} {A : Around} {E : Value → Shared → Prop} {s : Shared}
end
section
variable {X : Cx}
end
end DS
namespace DS
open PySem PySem.Spec PyProof.Rows L2
/-! ### sum of a tuple of numbers -/
section
variable {prog : Program} {w : World} {A : Around} {E : Value → Shared → Prop} {s : Shared} {l : Addr} {its : List Value} {ns : List Int} {Q : Value → Shared → Prop}
theorem sum_tup (hh : A.handled = none) (hl : s.heap.IsTuple l its.toArray) (hi : IntsAre its ns)
    (q : ∀ h' tk t', (∀ b o, s.heap.get? b = some o → h'.get? b = some o) → Q (.int ns.sum t') { s with heap := h', toks := tk }) : wpAny (model prog w) A (call (.builtin "sum") [.ref l]) Q E s := by
  obtain ⟨xs, e⟩ := hi.allInts.items
  have hn : numsOf (intItems xs).toList = ns := by rw [← e]; exact hi.numsOf
  rw [nums_intItems] at hn
  rw [e] at hl
  have lt : l < s.heap.objs.size := by
    obtain ⟨o, ho, _⟩ := hl
    exact Heap.lt_size ho
  refine call_sum_walkG (wpAny_pyIter_tuple hl ?_)
  refine ⟨_, _, _, _, _, _, numAt xs, rfl, Walks.tuple (A := A.in1) hh _ l (Nat.ne_of_lt lt) (intItems xs), ⟨⟨_, Heap.get?_push_size _ rfl, rfl, rfl⟩, hl.push _⟩, ?_, (fun _ _ => intItems_at), fun h' tk t' hk => ?_⟩
  · intro b hb
    show b < (s.heap.push _).objs.size
    rw [Heap.size_push]
    rcases List.mem_cons.mp hb with z | z
    · rw [z]
      exact Nat.lt_succ_self _
    · rw [List.mem_singleton.mp z]
      exact Nat.lt_succ_of_lt lt
  · have := q h' tk t' fun b o e => hk b o (fun z => absurd (Heap.lt_size e) (by rw [List.mem_singleton.mp z]; exact Nat.lt_irrefl _)) (Heap.get?_push_of_some _ e)
    rw [← hn] at this
    simpa [intItems, preSum_eq, List.take_of_length_le] using this
end
def rSumT (K : PySem.W.Frag) : List V → Hp → VK → Prop := fun vs H Q => ∃ (a : Addr) (ns : List Int), vs = [V.ref a] ∧ SqT K H a (ns.map V.int) ∧ Q (.int ns.sum) H
theorem cr_sumT {X : Cx} (hc : X.calm = true) : CallR X (.builtin "sum") (rSumT X.K) := by
  intro pins s σ H vs us Q I r h
  obtain ⟨a, ns, rfl, hs, q⟩ := h
  obtain ⟨its, rv, hl, _⟩ := I.tuple hs
  rw [Vals.ref1 r]
  exact sum_tup (I.ok.hd hc) hl rv.ints fun h' tk t' hk => ⟨.int _, H, I.kept hk, ⟨_, rfl⟩, q⟩
/-! ### a sign counted -/
open Builtin Builtin.Str PySem.StrLaws in
theorem occ_one (x : Str) (c lim : Nat) : ∀ (n lo : Nat) (st : Array Nat × Nat), lo + n = x.cps.size + 1 → st.2 ≤ lo → st.1.size + n ≤ lim → (forIn (List.range' lo n) st (occBody x ⟨#[c]⟩ x.cps.size lim)).run.fst.size = st.1.size + ((List.range' lo n).filter fun j => decide (j < x.cps.size ∧ x.cps.getD j 0 = c)).length
  | 0, lo, st, h1, h2, h3 => by simp
  | n + 1, lo, st, h1, h2, h3 => by
    rw [List.range'_succ, List.forIn_cons, List.filter_cons]
    have key : (((st.fst.size < lim ∧ st.snd ≤ lo) ∧ lo + Str.length ⟨#[c]⟩ ≤ x.cps.size) ∧ subAt x ⟨#[c]⟩ lo = true) ↔ (lo < x.cps.size ∧ x.cps.getD lo 0 = c) := by
      have e1 : Str.length ⟨#[c]⟩ = 1 := rfl
      rw [e1]
      constructor
      · rintro ⟨⟨_, h4⟩, h5⟩
        refine ⟨by omega, ?_⟩
        unfold subAt at h5
        rw [e1] at h5
        have h6 : x.cps.extract lo (lo + 1) = #[c] := by simpa using h5
        have h7 : (x.cps.extract lo (lo + 1))[0]? = some c := by rw [h6]; rfl
        rw [Array.getElem?_extract] at h7
        rw [Array.getD_eq_getD_getElem?]
        have h8 : (0 : Nat) < min (lo + 1) x.cps.size - lo := by omega
        rw [if_pos h8] at h7
        rw [show lo = lo + 0 from rfl, h7]
        rfl
      · rintro ⟨h4, h5⟩
        refine ⟨⟨⟨by omega, h2⟩, by omega⟩, ?_⟩
        unfold subAt
        rw [e1]
        have h6 : x.cps.extract lo (lo + 1) = #[c] := by
          apply Array.ext
          · simp
            omega
          · intro i hi1 hi2
            have : i = 0 := by
              simp at hi2
              omega
            subst this
            rw [Array.getElem_extract]
            rw [Array.getD_eq_getD_getElem?, Array.getElem?_eq_getElem h4] at h5
            simpa using h5
        simpa using h6
    unfold occBody
    by_cases h : lo < x.cps.size ∧ x.cps.getD lo 0 = c
    · rw [if_pos (key.mpr h), if_pos (decide_eq_true h)]
      have := occ_one x c lim n (lo + 1) (st.1.push lo, lo + Str.length ⟨#[c]⟩) (by omega) (Nat.le_refl _) (by simp; omega)
      unfold occBody at this
      simp only [pure_bind]
      refine this.trans ?_
      simp
      omega
    · rw [if_neg (fun z => h (key.mp z)), if_neg (by simp only [decide_eq_true_eq]; exact h)]
      have := occ_one x c lim n (lo + 1) st (by omega) (by omega) (by omega)
      unfold occBody at this
      simp only [pure_bind]
      exact this
/-- how often a sign stands in a row -/
def cnt (x : Str) (c : Nat) : Nat := ((List.range x.cps.size).filter fun j => decide (x.cps.getD j 0 = c)).length
theorem count_one (x : Str) (c : Nat) : Txt.count x ⟨#[c]⟩ = (cnt x c : Int) := by
  unfold Txt.count cnt
  rw [PySem.StrLaws.occ_eq, Array.length_toList]
  have e : x.length = x.cps.size := rfl
  rw [e, Nat.sub_zero, occ_one x c (x.cps.size + 1) (x.cps.size + 1) 0 (#[], 0) (by omega) (Nat.le_refl _) (by simp)]
  rw [← List.range_eq_range', List.range_succ, List.filter_append]
  have l0 : ([x.cps.size].filter fun j => decide (j < x.cps.size ∧ x.cps.getD j 0 = c)) = [] := by
    rw [List.filter_cons, if_neg (by simp)]
    rfl
  rw [l0, List.append_nil]
  have : (List.range x.cps.size).filter (fun j => decide (j < x.cps.size ∧ x.cps.getD j 0 = c)) = (List.range x.cps.size).filter fun j => decide (x.cps.getD j 0 = c) := by
    apply List.filter_congr
    intro j hj
    have := List.mem_range.mp hj
    simp [this]
  rw [this]
  simp
end DS
namespace DS
open PySem PySem.Spec PyProof.Rows L2
section
variable {X : Cx} {a b e : Expr} {fa fb f : DF} {p pos : Pos}
theorem pf_v (i : Nat) {x : Str} {pos : Pos} (hN : X.N[i]? = some x := by rfl) (hv : Vis X.env.scope x := by first | exact Or.inl rfl | exact Or.inr (Or.inl rfl) | exact Or.inr (Or.inr rfl)) (hd : (x == ("__debug__" : Str)) = false := by decide)
    (hcd : (x == ("__classdict__" : Str)) = false := by decide) : PF X (.Name x pos) (getD i) := pf_var hN hv hd hcd
/-! + -/
def gAdd (d e : PyData) : Option PyData := match d, e with
  | .int i, .int j => some (.int (i + j))
  | .list xs, .list ys => if xs.length + ys.length < lim then some (.list (xs ++ ys)) else none
  | .tuple xs, .tuple ys => if xs.length + ys.length < lim then some (.tuple (xs ++ ys)) else none
  | .str x, .str y => if x.length + y.length < lim then some (.str (x ++ y)) else none
  | _, _ => none
/-- two lists that are read, joined -/
theorem op_catK : OpR X (binaryOp .Add) (fun x y H Q => ∃ l b xs zs, x = .ref l ∧ y = .ref b ∧ SqL X.K H l xs ∧ SqL X.K H b zs ∧ xs.length + zs.length ≤ sizeLine ∧ ∀ p, H p = none → Q (.ref p) (upd H p (.lst (xs ++ zs)))) := by
  intro pins s σ H x y v u Q I rx ry h
  obtain ⟨l, b, xs, zs, rfl, rfl, hH, hB, hz, q⟩ := h
  cases rx
  cases ry
  obtain ⟨its, r, ⟨⟨c1, d1, t1, s1⟩, n1, ho, hc, hdd, hd⟩, h1⟩ := I.list hH
  obtain ⟨jts, r', ⟨⟨c2, d2, t2, s2⟩, n2, ho2, hc2, hdd2, hd2⟩, h2⟩ := I.list hB
  simp only at hc hd hc2 hd2
  subst hc hd hc2 hd2
  have e : its.toArray ++ jts.toArray = (its ++ jts).toArray := by simp
  refine concat_meets ⟨_, ho, rfl⟩ ⟨_, ho2, rfl⟩ noFill_list_add seq_list_add PySem.F.slot_list_add PySem.F.entry_list_add (PySem.F.args_list_add_2 _ _) (list_addW l b its.toArray jts.toArray n1 n2 d1 d2 s1 s2 (by rw [List.size_toArray, List.size_toArray, ← r.length, ← r'.length]; exact hz)) ⟨ho, ho2, ?_⟩
  rw [e]
  exact ⟨.ref _, _, I.lnew (t' := s.toks) (r.append r') (by rw [List.length_append]; exact hz), rfl, q _ I.fresh⟩
theorem of_addA : OpR X (binaryOp .Add) (r2F X.K gAdd) := (op_add.or (op_catK.or (op_catA.or op_add_str))).imp fun x y H Q ⟨O, d, e, c, al, dx, dy, g, q⟩ => by
  match d, e, dx, dy, g with
  | .int i, .int j, .int _, .int _, g =>
    cases g
    exact .inl ⟨i, j, rfl, rfl, q _ H (Same.refl H) (.int _)⟩
  | .list xs, .list ys, .lst h1 h2, .lst h3 h4, g =>
    simp only [gAdd] at g
    split at g
    case isFalse => cases g
    rename_i hl
    cases g
    refine .inr (.inl ⟨_, _, _, _, rfl, rfl, (fz_sub O H).seq h1, (fz_sub O H).seq h3, Nat.le_of_lt (lim_le (by rw [h2.len, h4.len]; exact hl)), fun p np => q _ _ (new_same np) (Dx.newL al np (h2.append h4))⟩)
  | .tuple xs, .tuple ys, .tup h1 h2, .tup h3 h4, g =>
    simp only [gAdd] at g
    split at g
    case isFalse => cases g
    rename_i hl
    cases g
    refine .inr (.inr (.inl ⟨_, _, _, _, rfl, rfl, sqT_same (fz_sub O H) h1, sqT_same (fz_sub O H) h3, Nat.le_of_lt (lim_le (by rw [h2.len, h4.len]; exact hl)), fun z => ?_, fun z1 z2 => ?_, fun _ _ p np => q _ _ (new_same np) (Dx.newT al np (h2.append h4))⟩))
    · subst z
      cases h2
      exact q _ H (Same.refl H) (.tup h3 h4)
    · subst z2
      cases h4
      rw [List.append_nil] at q
      exact q _ H (Same.refl H) (.tup h1 h2)
  | .str x, .str y, .str _, .str _, g =>
    simp only [gAdd] at g
    split at g
    case isFalse => cases g
    rename_i hl
    cases g
    exact .inr (.inr (.inr ⟨_, _, rfl, rfl, Nat.le_of_lt (lim_le hl), q _ H (Same.refl H) (.str _)⟩))
/-! [..] * n, [..] + [..] as new lists -/
def repL (g : Dn → Option (List PyData)) (fb : DF) : Dn → Option (List PyData) := fun ρ => (g ρ).bind fun ds => (fb ρ).bind fun e => (toI e).bind fun k => if okR k && decide (ds.length * k.toNat < lim) && decide (ds.length < lim) then some (List.replicate k.toNat ds).flatten else none
theorem DxAll.rep {K : PySem.W.Frag} {H : Hp} {vs : List V} {ds : List PyData} (h : DxAll K H vs ds) : ∀ k : Nat, DxAll K H (List.replicate k vs).flatten (List.replicate k ds).flatten
  | 0 => .nil
  | k + 1 => by
    rw [List.replicate_succ, List.replicate_succ, List.flatten_cons, List.flatten_cons]
    exact h.append (h.rep k)
theorem pfl_rep {es : List Expr} {pos1 : Pos} {g : Dn → Option (List PyData)} (h : PFA X es g) (hb : PF X b fb) : PFL X (.BinOp (.List es pos1) .Mult b pos) (repL g fb) := ⟨(pe_op op_rep (pe_lst h.pa) hb.pe).imp fun σ H Q ⟨O, dv, ρ, d, al, r, e, q⟩ => by
  obtain ⟨ds, e1, e2⟩ := Option.bind_eq_some_iff.mp e
  obtain ⟨y, e3, e4⟩ := Option.bind_eq_some_iff.mp e2
  obtain ⟨k, e5, e6⟩ := Option.bind_eq_some_iff.mp e4
  rw [toI_some e5] at e3
  split at e6
  case isFalse => cases e6
  rename_i hh
  simp only [Bool.and_eq_true, decide_eq_true_eq] at hh
  cases e6
  refine ⟨O, dv, ρ, ds, al, r, e1, fun vs H1 s1 h1 => ⟨Nat.le_of_lt (lim_le (by rw [h1.len]; exact hh.2)), fun p np => ?_⟩⟩
  have s2 := s1.trans (new_same (o := .lst vs) np)
  refine ⟨O, dv, ρ, _, al.same s2, r.same s2, e3, fun v H2 s3 hv => ?_⟩
  cases hv
  have h2 := okR_of hh.1.1
  refine ⟨p, k, vs, rfl, rfl, s3 _ _ upd_same, by omega, by omega, Nat.le_of_lt (lim_le (by rw [h1.len]; exact hh.1.2)), fun l nl => ?_⟩
  have s4 := s2.trans s3
  exact q l _ _ (s4.trans (new_same nl)) (s4.free nl) upd_same (DxAll.hide nl (((h1.same ((new_same np).fz O)).same (s3.fz O)).rep _))⟩
/-! enumerate, reversed(range) -/
def enumD (ds : List PyData) : List PyData := ds.mapIdx fun i d => .tuple [.int i, d]
def chrsD (z : Str) : List PyData := z.cps.toList.map fun c => .str ⟨#[c]⟩
def seqS : PyData → Option (List PyData)
  | .list ds => some ds
  | .tuple ds => some ds
  | .str z => some (chrsD z)
  | _ => none
def enumI (f : DF) : Dn → Option (List PyData) := fun ρ => (f ρ).bind fun d => (seqS d).map enumD
theorem enumD_len (ds : List PyData) : (enumD ds).length = ds.length := by simp [enumD]
theorem enumD_get {ds : List PyData} {i : Nat} {d : PyData} (h : (enumD ds)[i]? = some d) : ∃ x, ds[i]? = some x ∧ d = .tuple [.int i, x] := by
  unfold enumD at h
  rw [List.getElem?_mapIdx] at h
  obtain ⟨x, h1, h2⟩ := Option.map_eq_some_iff.mp h
  exact ⟨x, h1, h2.symm⟩
theorem pair_new {K : PySem.W.Frag} {O : Hid} {H : Hp} {T : Addr} {x y : V} {d e : PyData} (al : Al O H) (nT : H T = none) (h1 : Dx K (Fz O H) x d) (h2 : Dx K (Fz O H) y e) : Same H (upd H T (.tup [x, y])) ∧ Dx K (Fz O (upd H T (.tup [x, y]))) (.ref T) (.tuple [d, e]) :=
  ⟨new_same nT, Dx.newT al nT (.cons h1 (.cons h2 .nil))⟩
theorem pif_enum {p pos tpos : Pos} {elts : List Expr} {kk : Nat} (hg : Gl X "enumerate") (hm : X.mg "enumerate" = none) (ha : PF X e f) (hs : starEach [e] X.env = [(false, eval e X.env)] := by rfl) :
    PIF X (.Tuple elts kk tpos) (.Call (.Name "enumerate" p) [e] [] pos) (enumI f) :=
  have hpa : PA X [e] (tCons (tF X.K f) tNil) := pa_cons ha.pe pa_nil (by rw [hs]; rfl)
  ⟨((pi_enum hg hm hpa hs).or ((pi_enumT hg hm hpa hs).or (pi_enumS hg hm hpa hs))).imp fun σ H R ⟨O, dv, ρ, xs, al, r, e, q⟩ => by
    obtain ⟨d, e1, e2⟩ := Option.bind_eq_some_iff.mp e
    obtain ⟨ds, e3, rfl⟩ := Option.map_eq_some_iff.mp e2
    match d, e3 with
    | .list ds, e3 =>
      cases e3
      refine .inl ⟨O, dv, ρ, _, al, r, e1, fun v H' s hv => ?_⟩
      cases hv with
      | @lst a vs _ h1 h2 =>
        refine ⟨_, _, rfl, (fz_sub O H').seq h1, q _ H' s fun O' H2 s2 al2 => ?_⟩
        have h3 : SqL X.K H2 a vs := (s2.trans (fz_sub O' H2)).seq h1
        have ln := h2.len
        refine ⟨fun i hi => ?_, ?_, fun i x H3 d' ed y => ?_⟩
        · rw [enumD_len] at hi
          exact ⟨vs, vs[i]'(by omega), h3, by simp⟩
        · exact ⟨vs, h3, by rw [enumD_len]; omega⟩
        · obtain ⟨T, x', rfl, nT, rfl, y⟩ := y
          obtain ⟨dd, e4, rfl⟩ := enumD_get ed
          obtain ⟨v, e5, e6⟩ := h2.get e4
          have := y vs h3
          rw [e5] at this
          cases this
          exact pair_new al2 nT (.int _) (e6.same s2)
    | .tuple ds, e3 =>
      cases e3
      refine .inr (.inl ⟨O, dv, ρ, _, al, r, e1, fun v H' s hv => ?_⟩)
      cases hv with
      | @tup a vs _ h1 h2 =>
        refine ⟨_, _, rfl, sqT_same (fz_sub O H') h1, q _ H' s fun O' H2 s2 al2 => ?_⟩
        have h3 : SqT X.K H2 a vs := sqT_same (s2.trans (fz_sub O' H2)) h1
        have ln := h2.len
        refine ⟨fun i hi => ?_, ?_, fun i x H3 d' ed y => ?_⟩
        · rw [enumD_len] at hi
          exact ⟨by omega, h3⟩
        · exact ⟨by rw [enumD_len]; omega, h3⟩
        · obtain ⟨T, rfl, nT, rfl⟩ := y
          obtain ⟨dd, e4, rfl⟩ := enumD_get ed
          obtain ⟨v, e5, e6⟩ := h2.get e4
          have e7 : vs.getD i .non = v := by rw [List.getD_eq_getElem?_getD, e5]; rfl
          show Same H2 (upd H2 T (.tup [.int (i : Nat), vs.getD i .non])) ∧ Dx X.K (Fz O' (upd H2 T (.tup [.int (i : Nat), vs.getD i .non]))) (.ref T) _
          rw [e7]
          exact pair_new al2 nT (.int _) (e6.same s2)
    | .str z, e3 =>
      cases e3
      refine .inr (.inr ⟨O, dv, ρ, _, al, r, e1, fun v H' s hv => ?_⟩)
      cases hv
      refine ⟨z, rfl, q _ H' s fun O' H2 s2 al2 => ?_⟩
      have ln : (enumD (chrsD z)).length = z.cps.size := by rw [enumD_len]; simp [chrsD]
      refine ⟨fun i hi => ?_, ?_, fun i x H3 d' ed y => ?_⟩
      · rw [ln] at hi
        exact ⟨hi, trivial⟩
      · exact ⟨ln, trivial⟩
      · obtain ⟨T, rfl, nT, rfl⟩ := y
        obtain ⟨dd, e4, rfl⟩ := enumD_get ed
        unfold chrsD at e4
        rw [List.getElem?_map] at e4
        obtain ⟨c, e5, rfl⟩ := Option.map_eq_some_iff.mp e4
        have e6 : z.cps.getD i 0 = c := by
          rw [Array.getD_eq_getD_getElem?, ← Array.getElem?_toList, e5]
          rfl
        show Same H2 (upd H2 T (.tup [.int (i : Nat), .str ⟨#[z.cps.getD i 0]⟩])) ∧ Dx X.K (Fz O' (upd H2 T (.tup [.int (i : Nat), .str ⟨#[z.cps.getD i 0]⟩]))) (.ref T) _
        rw [e6]
        exact pair_new al2 nT (.int _) (.str _)⟩
def revI (f : DF) : Dn → Option (List PyData) := fun ρ => (f ρ).bind fun d => (toI d).bind fun j => if okR j then some (rngD 0 j.toNat).reverse else none
theorem pif_rev {p1 p2 pos1 pos2 : Pos} {tg : Expr} (hg : Gl X "reversed") (hm : X.mg "reversed" = none) (hg2 : Gl X "range") (hm2 : X.mg "range" = none) (ha : PF X e f) (na : starEach [e] X.env = (false, eval e X.env) :: starEach [] X.env := by rfl)
    (hs : starEach [.Call (.Name "range" p1) [e] [] pos1] X.env = (false, eval (.Call (.Name "range" p1) [e] [] pos1) X.env) :: starEach [] X.env := by rfl) :
    PIF X tg (.Call (.Name "reversed" p2) [.Call (.Name "range" p1) [e] [] pos1] [] pos2) (revI f) := ⟨(pi_revR hg hm (prg_1 hg2 hm2 ha.pe na) hs).imp fun σ H R ⟨O, dv, ρ, xs, al, r, e, q⟩ => by
  obtain ⟨d, e1, e2⟩ := Option.bind_eq_some_iff.mp e
  obtain ⟨j, e3, e4⟩ := Option.bind_eq_some_iff.mp e2
  rw [toI_some e3] at e1
  split at e4
  case isFalse => cases e4
  rename_i hj
  cases e4
  refine ⟨O, dv, ρ, _, al, r, e1, fun v H' s hv => ?_⟩
  cases hv
  refine ⟨j, rfl, by decide, by decide, (okR_of hj).1, (okR_of hj).2, q _ H' s fun O' H2 s2 al2 => ?_⟩
  have ln : (rngD 0 j.toNat).reverse.length = j.toNat := by simp [rngD]
  have ej : (j - 0).toNat = j.toNat := by rw [Int.sub_zero]
  refine ⟨fun i hi => ?_, ?_, fun i x H3 d' ed y => ?_⟩
  · rw [ln] at hi
    show i < (j - 0).toNat
    omega
  · show (j - 0).toNat ≤ _
    omega
  · obtain ⟨rfl, rfl⟩ := y
    have lt : i < j.toNat := by rw [← ln]; exact (List.getElem?_eq_some_iff.mp ed).1
    refine ⟨Same.refl _, ?_⟩
    rw [List.getElem?_reverse (by rw [← List.length_reverse, ln]; exact lt)] at ed
    simp only [rngD, List.length_map, List.length_range, List.getElem?_map] at ed
    rw [List.getElem?_range (by omega)] at ed
    cases ed
    have : (0 + (((j - 0).toNat : Nat) : Int) - 1 + (i : Nat) * -1 : Int) = 0 + ((j.toNat - 1 - i : Nat) : Int) := by omega
    rw [this]
    exact .int _⟩
end
end DS
namespace DS
open PySem PySem.Spec PyProof.Rows L2
/-! ### expressions with draws -/
abbrev TXP := Dn → Nat → (PyData → Dn → Nat → Prop) → Prop
abbrev TXB := Dn → Nat → (Bool → Dn → Nat → Prop) → Prop
abbrev TXA := Dn → Nat → (List PyData → Dn → Nat → Prop) → Prop
def MonoX {α : Type} (T : Dn → Nat → (α → Dn → Nat → Prop) → Prop) : Prop := ∀ ρ n Q Q', (∀ d ρ' n', Q d ρ' n' → Q' d ρ' n') → T ρ n Q → T ρ n Q'
def tX (K : PySem.W.Frag) (S : Fr) (T : TXP) : TE := fun σ H Q => ∃ B O ρ n, RepS K S B O H σ ρ n ∧ T ρ n (fun d ρ' n' => ∀ v H', RepS K S B O H' σ ρ' n' → Dx K (Fz O H') v d → Q v H')
structure PX (X : Cx) (S : Fr) (e : Expr) (T : TXP) : Prop where
  pe : PE X e (tX X.K S T)
  mono : MonoX T
def tXT (K : PySem.W.Frag) (S : Fr) (T : TXB) : TT := fun σ H Q => ∃ B O ρ n, RepS K S B O H σ ρ n ∧ T ρ n (fun b ρ' n' => ∀ H', RepS K S B O H' σ ρ' n' → Q b H')
structure PXT (X : Cx) (S : Fr) (e : Expr) (T : TXB) : Prop where
  pt : PT X e (tXT X.K S T)
  mono : MonoX T
def tXA (K : PySem.W.Frag) (S : Fr) (T : TXA) : TA := fun σ H Q => ∃ B O ρ n, RepS K S B O H σ ρ n ∧ T ρ n (fun ds ρ' n' => ∀ vs H', RepS K S B O H' σ ρ' n' → DxAll K (Fz O H') vs ds → Q vs H')
structure PXA (X : Cx) (S : Fr) (es : List Expr) (T : TXA) : Prop where
  pa : PA X es (tXA X.K S T)
  mono : MonoX T
section
variable {X : Cx} {S : Fr} {a b c e : Expr} {Ta Tb Tc : TXP} {pos p : Pos} {rest : List Expr}
def xF (f : DF) : TXP := fun ρ n Q => ∃ d, f ρ = some d ∧ Q d ρ n
theorem px_pf (ok : S.Ok) {f : DF} (h : PF X e f) : PX X S e (xF f) := ⟨h.pe.imp fun σ H Q ⟨B, O, ρ, n, r, d, e1, q⟩ => ⟨O, S.dv, ρ, d, r.al, r.rep, e1, fun v H' s dx => q v H' (r.same ok s) dx⟩, fun ρ n Q Q' k ⟨d, e, q⟩ => ⟨d, e, k _ _ _ q⟩⟩
def xT (f : Dn → Option Bool) : TXB := fun ρ n Q => ∃ d, f ρ = some d ∧ Q d ρ n
/-- two in a row -/
theorem tX2 {K : PySem.W.Frag} {σ : L2.St} {H : Hp} {R : V → V → Hp → Prop} (mb : MonoX Tb) (ma : MonoX Ta) {B : Hp} {O : Hid} {ρ : Dn} {n : Nat} (r : RepS K S B O H σ ρ n) {P : PyData → PyData → Dn → Nat → Prop}
    (h : Ta ρ n fun d ρ1 n1 => Tb ρ1 n1 fun e ρ2 n2 => P d e ρ2 n2) (k : ∀ d e ρ2 n2 H2 x y, RepS K S B O H2 σ ρ2 n2 → Dx K (Fz O H2) x d → Dx K (Fz O H2) y e → P d e ρ2 n2 → R x y H2) :
    tX K S Ta σ H fun x H1 => tX K S Tb σ H1 fun y H2 => R x y H2 := by
  refine ⟨B, O, ρ, n, r, ma _ _ _ _ (fun d ρ1 n1 h1 x H1 r1 dx => ?_) h⟩
  refine ⟨Fz O H1, O, ρ1, n1, r1.here, mb _ _ _ _ (fun e ρ2 n2 h2 y H2 r2 dy => ?_) h1⟩
  exact k d e ρ2 n2 H2 x y (r2.base r1.fz) (dx.same r2.fz) dy h2
def x2 (g : PyData → PyData → Option PyData) (Ta Tb : TXP) : TXP := fun ρ n Q => Ta ρ n fun d ρ1 n1 => Tb ρ1 n1 fun e ρ2 n2 => ∃ c, g d e = some c ∧ Q c ρ2 n2
theorem x2_mono {g : PyData → PyData → Option PyData} (ma : MonoX Ta) (mb : MonoX Tb) : MonoX (x2 g Ta Tb) := fun ρ n Q Q' k h => ma _ _ _ _ (fun d ρ1 n1 h1 => mb _ _ _ _ (fun e ρ2 n2 ⟨c, e1, q⟩ => ⟨c, e1, k _ _ _ q⟩) h1) h
theorem tX2F (ok : S.Ok) {g : PyData → PyData → Option PyData} {σ : L2.St} {H : Hp} {Q : VK} (ma : MonoX Ta) (mb : MonoX Tb) (h : tX X.K S (x2 g Ta Tb) σ H Q) : tOp (r2F X.K g) (tX X.K S Ta) (tX X.K S Tb) σ H Q := by
  obtain ⟨B, O, ρ, n, r, t⟩ := h
  exact tX2 mb ma r t fun d e ρ2 n2 H2 x y r2 dx dy ⟨c, e1, q⟩ => ⟨O, d, e, c, r2.al, dx, dy, e1, fun v H3 s3 dv => q v H3 (r2.same ok s3) dv⟩
theorem px_op (ok : S.Ok) {op : Operator} {g : PyData → PyData → Option PyData} (ho : OpR X (binaryOp op) (r2F X.K g)) (ha : PX X S a Ta) (hb : PX X S b Tb) : PX X S (.BinOp a op b pos) (x2 g Ta Tb) :=
  ⟨(pe_op ho ha.pe hb.pe).imp fun _ _ _ h => tX2F ok ha.mono hb.mono h, x2_mono ha.mono hb.mono⟩
theorem px_cmp (ok : S.Ok) {op : CmpOp} {g : PyData → PyData → Option PyData} (ho : OpR X (compareOp op) (r2F X.K g)) (ha : PX X S a Ta) (hb : PX X S b Tb) (hm : behindInMarks op b = false) : PX X S (.Compare a [op] [b] pos) (x2 g Ta Tb) :=
  ⟨(pe_cmpR ho ha.pe hb.pe hm).imp fun _ _ _ h => tX2F ok ha.mono hb.mono h, x2_mono ha.mono hb.mono⟩
theorem px_ix (ok : S.Ok) (ha : PX X S a Ta) (hb : PX X S b Tb) (hs : PlainIx b := by exact fun _ _ => rfl) : PX X S (.Subscript a b pos) (x2 ixD Ta Tb) :=
  ⟨(pe_ix of_ix ha.pe hb.pe hs).imp fun _ _ _ h => tX2F ok ha.mono hb.mono h, x2_mono ha.mono hb.mono⟩
/-! tests -/
variable {Ba Bb : TXB}
structure PXW (X : Cx) (S : Fr) (e : Expr) (T : TXB) : Prop where
  pw : PW X e (tXT X.K S T)
  mono : MonoX T
/-- and, or as values (bools) -/
def xAndV (Ta Tb : TXP) : TXP := fun ρ n Q => Ta ρ n fun d ρ1 n1 => ∃ k, d = .bool k ∧ if k = true then Tb ρ1 n1 Q else Q (.bool false) ρ1 n1
def xOrV (Ta Tb : TXP) : TXP := fun ρ n Q => Ta ρ n fun d ρ1 n1 => ∃ k, d = .bool k ∧ if k = true then Q (.bool true) ρ1 n1 else Tb ρ1 n1 Q
theorem px_one {op} (h : PX X S a Ta) : PX X S (.BoolOp op [a] pos) Ta := ⟨pe_one h.pe, h.mono⟩
theorem px_and (ha : PX X S a Ta) (hb : PX X S (.BoolOp .And (b :: rest) pos) Tb) : PX X S (.BoolOp .And (a :: b :: rest) pos) (xAndV Ta Tb) := ⟨(pe_and ha.pe hb.pe).imp fun σ H Q ⟨B, O, ρ, n, r, t⟩ => by
  refine ⟨B, O, ρ, n, r, ha.mono _ _ _ _ (fun d ρ1 n1 ⟨k, e, z⟩ v H1 r1 dx => ?_) t⟩
  subst e
  cases dx
  refine ⟨k, rfl, ?_⟩
  cases k with
  | true => exact ⟨B, O, ρ1, n1, r1, z⟩
  | false => exact z _ H1 r1 (.bl _), fun ρ n Q Q' k h => ha.mono _ _ _ _ (fun d ρ1 n1 ⟨b, e, z⟩ => ⟨b, e, by
  cases b with
  | true => exact hb.mono _ _ _ _ k z
  | false => exact k _ _ _ z⟩) h⟩
theorem px_or (ha : PX X S a Ta) (hb : PX X S (.BoolOp .Or (b :: rest) pos) Tb) : PX X S (.BoolOp .Or (a :: b :: rest) pos) (xOrV Ta Tb) := ⟨(pe_or ha.pe hb.pe).imp fun σ H Q ⟨B, O, ρ, n, r, t⟩ => by
  refine ⟨B, O, ρ, n, r, ha.mono _ _ _ _ (fun d ρ1 n1 ⟨k, e, z⟩ v H1 r1 dx => ?_) t⟩
  subst e
  cases dx
  refine ⟨k, rfl, ?_⟩
  cases k with
  | false => exact ⟨B, O, ρ1, n1, r1, z⟩
  | true => exact z _ H1 r1 (.bl _), fun ρ n Q Q' k h => ha.mono _ _ _ _ (fun d ρ1 n1 ⟨b, e, z⟩ => ⟨b, e, by
  cases b with
  | false => exact hb.mono _ _ _ _ k z
  | true => exact k _ _ _ z⟩) h⟩
/-! arguments, displays, calls -/
def xNil : TXA := fun ρ n Q => Q [] ρ n
def xCons (T : TXP) (R : TXA) : TXA := fun ρ n Q => T ρ n fun d ρ1 n1 => R ρ1 n1 fun ds ρ2 n2 => Q (d :: ds) ρ2 n2
theorem pxa_nil : PXA X S [] xNil := ⟨pa_nil.imp fun σ H Q ⟨B, O, ρ, n, r, t⟩ => t [] H r .nil, fun ρ n Q Q' k h => k _ _ _ h⟩
theorem pxa_cons {es : List Expr} {R : TXA} (ha : PX X S e Ta) (hr : PXA X S es R) (hs : starEach (e :: es) X.env = (false, eval e X.env) :: starEach es X.env := by rfl) : PXA X S (e :: es) (xCons Ta R) :=
  ⟨(pa_cons ha.pe hr.pa hs).imp fun σ H Q ⟨B, O, ρ, n, r, t⟩ => by
    refine ⟨B, O, ρ, n, r, ha.mono _ _ _ _ (fun d ρ1 n1 z v H1 r1 dx => ?_) t⟩
    refine ⟨Fz O H1, O, ρ1, n1, r1.here, hr.mono _ _ _ _ (fun ds ρ2 n2 z2 vs H2 r2 dxs => ?_) z⟩
    exact z2 (v :: vs) H2 (r2.base r1.fz) (.cons (dx.same r2.fz) dxs), fun ρ n Q Q' k h => ha.mono _ _ _ _ (fun d ρ1 n1 z => hr.mono _ _ _ _ (fun ds ρ2 n2 z2 => k _ _ _ z2) z) h⟩
variable {R : TXA} {es : List Expr}
def xLst (R : TXA) : TXP := fun ρ n Q => R ρ n fun ds ρ1 n1 => ds.length < lim ∧ Q (.list ds) ρ1 n1
theorem px_lst (ok : S.Ok) (h : PXA X S es R) : PX X S (.List es pos) (xLst R) := ⟨(pe_lst h.pa).imp fun σ H Q ⟨B, O, ρ, n, r, t⟩ =>
  ⟨B, O, ρ, n, r, h.mono _ _ _ _ (fun ds ρ1 n1 ⟨hl, z⟩ vs H1 r1 dx => ⟨Nat.le_of_lt (lim_le (by rw [dx.len]; exact hl)), fun p np => z _ _ (r1.same ok (new_same np)) (Dx.newL r1.al np dx)⟩) t⟩, fun ρ n Q Q' k h' => h.mono _ _ _ _ (fun d ρ1 n1 ⟨l, z⟩ => ⟨l, k _ _ _ z⟩) h'⟩
def xCall (g : List PyData → Option PyData) (R : TXA) : TXP := fun ρ n Q => R ρ n fun ds ρ1 n1 => ∃ c, g ds = some c ∧ Q c ρ1 n1
theorem xCall_mono {g : List PyData → Option PyData} (m : MonoX R) : MonoX (xCall g R) := fun ρ n Q Q' k h => m _ _ _ _ (fun d ρ1 n1 ⟨c, e, z⟩ => ⟨c, e, k _ _ _ z⟩) h
section
variable {x : Str} {id T : String} {g : List PyData → Option PyData}
theorem txF (ok : S.Ok) (m : MonoX R) {σ : L2.St} {H : Hp} {Q : VK} (h : tX X.K S (xCall g R) σ H Q) : tCB (rcF X.K g) (tXA X.K S R) σ H Q := by
  obtain ⟨B, O, ρ, n, r, t⟩ := h
  exact ⟨B, O, ρ, n, r, m _ _ _ _ (fun ds ρ1 n1 ⟨c, e, z⟩ vs H1 r1 dx => ⟨O, ds, c, r1.al, dx, e, fun v H2 s2 h2 => z v H2 (r1.same ok s2) h2⟩) t⟩
theorem px_callTy (ok : S.Ok) (hc : CallR X (.type T) (rcF X.K g)) (hg : Gl X x) (hm : X.mg x = none) (hv : bootBuiltins x = some (.type T)) (ha : PXA X S (e :: es) R) (hn : x ≠ "__name__" := by decide) (hdb : (x == ("__debug__" : Str)) = false := by decide)
    (he : starEach (e :: es) X.env = (false, eval e X.env) :: starEach es X.env := by rfl) (hpl : (backTo pos (starEach es X.env)).any (·.1) = false := by rfl) : PX X S (.Call (.Name x p) (e :: es) [] pos) (xCall g R) :=
  ⟨(pe_callTy hc hg hm hv ha.pa hn hdb he hpl).imp fun _ _ _ h => txF ok ha.mono h, xCall_mono ha.mono⟩
def xCallU (m : Nat) (sem : List PyData → Option PyData) (R : TXA) : TXP := fun ρ n Q => R ρ n fun ds ρ1 n1 => ds.length = m ∧ ∃ c, sem ds = some c ∧ Q c ρ1 n1
end
/-! a call that is handed the deck -/
abbrev FamT := V → Hid → (Hp → Nat → Prop) → Prop
abbrev WD := List PyData → Nat → (PyData → Nat → Prop) → Prop
def spD (Fam : FamT) (K : PySem.W.Frag) (m : Nat) (W : WD) : Sp := fun vs H Q _ => ∃ dv M Dk us O ds n, vs = dv :: us ∧ Fam dv M Dk ∧ Dk H n ∧ Al O H ∧ (∀ b, M b → O b) ∧ DxAll K (Fz O H) us ds ∧ ds.length = m ∧
  W ds n fun d n' => ∀ v H', (∀ b x, H b = some x → ¬ M b → H' b = some x) → Dk H' n' → Al O H' → Dx K (Fz O H') v d → Q v H'
def MonoW (W : WD) : Prop := ∀ ds n Q Q', (∀ d n', Q d n' → Q' d n') → W ds n Q → W ds n Q'
/-- what a call leaves of the state -/
theorem RepS.after {K : PySem.W.Frag} {B H H' : Hp} {O : Hid} {σ : L2.St} {ρ : Dn} {n n' : Nat} (r : RepS K S B O H σ ρ n) (kp : ∀ b x, H b = some x → ¬ S.M b → H' b = some x) (dk : S.Dk H' n') (al : Al O H') : RepS K S B O H' σ ρ n' := by
  have f : Same (Fz O H) (Fz O H') := fun b o z => by
    obtain ⟨z1, z2⟩ := fz_get z
    rw [fz_out z2]
    exact kp b o z1 fun w => z2 (r.mo b w)
  have at_ : ∀ (i : Nat) (e : Ent) (ov : Option V) (q : Addr), ρ[i]? = some e → σ[i]? = some ov → Hd H ov e q → H' q = H q := fun i e ov q e1 e2 k => by
    obtain ⟨_, x, z⟩ := (r.ent e1 e2).hd k
    rw [z]
    exact kp q x z (r.ow i e ov q e1 e2 k).2.1
  refine ⟨al, ⟨r.rep.1, fun i e q => ?_⟩, fun b x e m => kp b x (r.kp b x e m) m, r.sub, r.mo, r.fz.trans f, r.ow' at_, dk⟩
  obtain ⟨ov, h1, h2⟩ := r.rep.2 i e q
  exact ⟨ov, h1, h2.shift (fun _ z => z) f fun a k => at_ i e ov a q h1 k⟩
def getK (i : Nat) (ρ : Dn) : Prop := ρ[i]? = some .dk
def xDraw (i m : Nat) (W : WD) (R : TXA) : TXP := fun ρ n Q => getK i ρ ∧ R ρ n fun ds ρ1 n1 => ds.length = m ∧ W ds n1 fun d n2 => Q d ρ1 n2
theorem px_callD (ok : S.Ok) {Fam : FamT} {k m i : Nat} {y : Str} {p1 : Pos} {f : Addr} {fd : FuncData} {ps : List Str} {W : WD} {x : Str} (F : FnG X.prog X.w X.K X.mg X.base CX0 k f fd ps (spD Fam X.K m W)) (mw : MonoW W) (fam : Fam S.dv S.M S.Dk) (hgd : X.A.guards = some []) (hr : Room k X.A) (hg : Gl X x) (hm : X.mg x = some (.ref f)) (hk : PySem.W.keepIn X.K (.ref f) = true) (hb : Binds X.K fd ps [])
    (hN : X.N[i]? = some y) (hv : Vis X.env.scope y) (ha : PXA X S es R) (hdb : (x == ("__debug__" : Str)) = false := by decide) (hs : starEach (.Name y p1 :: es) X.env = (false, eval (.Name y p1) X.env) :: starEach es X.env := by rfl) (hpl : (backTo pos (starEach es X.env)).any (·.1) = false := by rfl)
    (hd : (y == ("__debug__" : Str)) = false := by decide) (hcd : (y == ("__classdict__" : Str)) = false := by decide) :
    PX X S (.Call (.Name x p) (.Name y p1 :: es) [] pos) (xDraw i m W R) :=
  ⟨(pe_callG F hgd hr hg hm hk hb .nil pass0 (E := fun _ _ _ => False) (pa_cons (pe_var hN hv hd hcd) ha.pa hs) hdb hs hpl).imp fun σ H Q ⟨B, O, ρ, n, r, ⟨gk, t⟩⟩ => by
    obtain ⟨ov, h1, h2⟩ := r.rep.2 i _ gk
    have h2 : ov = some S.dv := h2
    subst h2
    refine ⟨S.dv, h1, B, O, ρ, n, r, ha.mono _ _ _ _ (fun ds ρ1 n1 ⟨hl, w⟩ vs H1 r1 dx => ?_) t⟩
    refine ⟨S.dv, S.M, S.Dk, vs, O, ds, n1, by rw [List.append_nil], fam, r1.dk, r1.al, r1.mo, dx, hl, mw _ _ _ _ (fun d n2 z v H2 kp dk al dx2 => ?_) w⟩
    exact z v H2 (r1.after kp dk al) dx2, fun ρ n Q Q' k ⟨gk, h⟩ => ⟨gk, ha.mono _ _ _ _ (fun d ρ1 n1 ⟨l, z⟩ => ⟨l, mw _ _ _ _ (fun d n2 z2 => k _ _ _ z2) z⟩) h⟩⟩
/-! statements with draws -/
def dRetX (T : TXP) : TD := fun DD ρ n => T ρ n fun d _ n' => DD.rt d n'
def dSetX (i : Nat) (T : TXP) : TD := fun DD ρ n => T ρ n fun d ρ' n' => DD.nx (ρ'.set i (.dat d)) n'
theorem pd_setX {i : Nat} {x : Str} {pos' : Pos} (hN : X.N.Nodup) (hi : X.N[i]? = some x) (hx : Loc X.env.scope x) (he : PX X S e Ta) (hs : swapsWith e (some (.Name x pos')) pos.line X.env = pure false := by rfl) (hf : X.fn x = true ∨ X.env.scope.names.lookup x = some .local := by first | exact .inl rfl | exact .inr rfl | assumption) :
    PD X S (.Assign [.Name x pos'] e pos) (dSetX i Ta) := ⟨(ps_set hN hi hx he.pe hs hf).imp fun D σ H ⟨B, O, ρ, n, DD, r, t, E⟩ => ⟨B, O, ρ, n, r, he.mono _ _ _ _ (fun d ρ1 n1 z v H1 r1 dx => E.nx O _ H1 _ n1 (r1.set (v := v) (e := .dat d) ⟨v, rfl, dx⟩ notOwn_dat i) z) t⟩⟩
def dParX (i j : Nat) (R : TXA) : TD := fun DD ρ n => R ρ n fun ds ρ1 n1 => ∃ x y, ds = [x, y] ∧ DD.nx ((ρ1.set i (.dat x)).set j (.dat y)) n1
end
/-! ### a def that is handed the deck -/
def startK (N : Nat) (ds : List PyData) : Dn := .dk :: startD (N - 1) ds
structure FamOk (Fam : FamT) : Prop where
  dk : ∀ dv M Dk, Fam dv M Dk → ∀ (H H' : Hp) (n : Nat), (∀ a, M a → H' a = H a) → Dk H n → Dk H' n
section
variable {P : Program} {w : World} {K : PySem.W.Frag} {mg : Str → Option Value} {base : Heap}
theorem fn_deck {Fam : FamT} (fo : FamOk Fam) {x qual : Str} {st : Stmt} {N ps : List Str} {f : Addr} {fd : FuncData} {k m : Nat} {W : WD} (F : Fun K x qual st f fd) (Sc : FnScope N ps (defScope st)) (hn : ps.length = m + 1) (hN : 0 < N.length)
    (hb : ∀ (cdv : Value) (A : Around) (outer : List Env) (s : Shared) (H : Hp) (E : XK) (S : Fr), S.Ok → Fam S.dv S.M S.Dk → S.H0 = H → (A.deeper (envOfC qual (defScope st) s.heap.objs.size f cdv)).guards = some [] → Room k (A.deeper (envOfC qual (defScope st) s.heap.objs.size f cdv)) →
      ∃ T, PDs (cxOf CX0 P w K mg base N qual (defScope st) f cdv A outer s H E).nox S (defBody st) T ∧ ∀ ds n Q, ds.length = m → W ds n Q → T ⟨fun _ n' => Q .none n', fun e n' => Q e n', fun _ _ => False, fun _ _ => False⟩ (startK N.length ds) n) : FnG P w K mg base CX0 (k + 1) f fd ps (spD Fam K m W) := by
  refine FnG.ok F Sc (fun vs H Q E h => ?_) (fun cdv A outer s H vs Q E hg hr h => ?_)
  · obtain ⟨dv, M, Dk, us, O, ds, n, rfl, _, _, _, _, dx, hl, _⟩ := h
    rw [List.length_cons, dx.len, hl, hn]
  · obtain ⟨dv, M, Dk, us, O, ds, n, rfl, fam, dk, al, mo, dx, hl, w⟩ := h
    obtain ⟨T, pt, want⟩ := hb cdv A outer s H E ⟨H, O, M, dv, Dk⟩ ⟨fo.dk dv M Dk fam, al⟩ fam rfl hg hr
    refine ⟨_, pt.pss, Fz O H, O, _, n, _, ⟨al, ?_, fun b y e _ => e, fun _ h => h, mo, Same.refl _, fun i g og q e1 e2 e3 => ?_, dk⟩, want ds n _ hl w, ?_⟩
    · have e1 : L2.start N (dv :: us) = some dv :: L2.start (N.tail) us := by
        unfold L2.start
        rw [List.map_cons, List.cons_append, List.length_cons, List.length_tail]
        congr 3
        omega
      rw [e1]
      have r0 := repE_start (K := K) (O := O) (H := H) (dv := dv) (N := N.tail) dx
      have e2 : N.tail.length = N.length - 1 := List.length_tail
      refine ⟨by unfold startK; rw [List.length_cons, List.length_cons, ← e2, r0.1], fun i e q => ?_⟩
      cases i with
      | zero =>
        cases q
        exact ⟨_, rfl, rfl⟩
      | succ i =>
        have q : (startD (N.length - 1) ds)[i]? = some e := q
        rw [← e2] at q
        exact r0.2 i e q
    · exfalso
      unfold startK at e1
      cases i with
      | zero => cases e1; exact e3
      | succ i =>
        have e1 : (startD (N.length - 1) ds)[i]? = some g := e1
        unfold startD at e1
        by_cases lt : i < ds.length
        · rw [List.getElem?_append_left (by rw [List.length_map]; exact lt), List.getElem?_map] at e1
          cases z : ds[i]? with
          | none => rw [z] at e1; cases e1
          | some d => rw [z] at e1; cases e1; exact e3
        · rw [List.getElem?_append_right (by rw [List.length_map]; omega), List.getElem?_replicate] at e1
          split at e1 <;> cases e1
          exact e3
    · refine ⟨fun O' σ' H' ρ' n' r e => ?_, fun O' σ' H' ρ' n' r e => e, fun O' σ' H' ρ' n' r e => e, fun v H' e n' dx kp al' dk' h => ?_⟩
      · refine e .non H' r.kp r.dk (fun a z => r.al a (r.sub a z)) .non
      · exact h v H' kp dk' al' dx
end
end DS
namespace DS
open PySem PySem.Spec PyProof.Rows L2
section
variable {X : Cx} {S : Fr} {a b c e : Expr} {fa fb f : DF} {Ta Tb : TXP} {pos p : Pos}
/-! ### list(range(n)) as a new list -/
/-! list(e) as a new list -/
def toLstL (f : DF) : Dn → Option (List PyData) := fun ρ => (f ρ).bind itemsD
theorem pfl_list (hg : Gl X "list") (hm : X.mg "list" = none) (ha : PF X e f) (hs : starEach [e] X.env = (false, eval e X.env) :: starEach [] X.env := by rfl) (hpl : (backTo pos (starEach [] X.env)).any (·.1) = false := by rfl) :
    PFL X (.Call (.Name "list" p) [e] [] pos) (toLstL f) := ⟨(pe_callTy call_list_of hg hm (by decide +kernel) (pa_cons ha.pe pa_nil hs) (by decide) (by decide) hs hpl).imp fun σ H Q ⟨O, dv, ρ, d, al, r, e, q⟩ => by
  obtain ⟨x, e1, e2⟩ := Option.bind_eq_some_iff.mp e
  refine ⟨O, dv, ρ, x, al, r, e1, fun v H' s hv => ?_⟩
  cases hv with
  | lst h1 h2 =>
    cases e2
    exact ⟨_, _, rfl, .inl ((fz_sub O H').seq h1), fun l nl => q l _ _ (s.trans (new_same nl)) (s.free nl) upd_same (DxAll.hide nl h2)⟩
  | tup h1 h2 =>
    cases e2
    exact ⟨_, _, rfl, .inr (sqT_same (fz_sub O H') h1), fun l nl => q l _ _ (s.trans (new_same nl)) (s.free nl) upd_same (DxAll.hide nl h2)⟩
  | _ => cases e2⟩
/-! ### reading a list of one's own -/
theorem own_at {K : PySem.W.Frag} {O : Hid} {H : Hp} {dv : V} {σ : L2.St} {ρ : Dn} {i : Nat} {ds : List PyData} (r : RepE K O H dv σ ρ) (h : getO i ρ = some ds) : ∃ q vs, σ[i]? = some (some (.ref q)) ∧ O q ∧ H q = some (.lst vs) ∧ DxAll K (Fz O H) vs ds := by
  obtain ⟨ov, h1, q, us, h2, h3, h4, h5⟩ := r.2 i _ (getO_some h)
  subst h2
  exact ⟨q, us, h1, h3, h4, h5⟩
def lenO (i : Nat) : DF := fun ρ => (getO i ρ).map fun ds => .int ds.length
theorem pf_lenO (i : Nat) {x : Str} {p1 : Pos} (hg : Gl X "len") (hm : X.mg "len" = none) (hN : X.N[i]? = some x := by rfl) (hv : Vis X.env.scope x := by first | exact Or.inl rfl | exact Or.inr (Or.inl rfl) | exact Or.inr (Or.inr rfl)) (hd : (x == ("__debug__" : Str)) = false := by decide) (hcd : (x == ("__classdict__" : Str)) = false := by decide)
    (hs : starEach [.Name x p1] X.env = (false, eval (.Name x p1) X.env) :: starEach [] X.env := by rfl) (hpl : (backTo pos (starEach [] X.env)).any (·.1) = false := by rfl) : PF X (.Call (.Name "len" p) [.Name x p1] [] pos) (lenO i) :=
  ⟨(pe_callB call_len_seq hg hm PySem.boot_len (pa_cons (pe_var hN hv hd hcd) pa_nil hs) (by decide) (by decide) hs hpl).imp fun σ H Q ⟨O, dv, ρ, d, al, r, e, q⟩ => by
    obtain ⟨ds, e1, rfl⟩ := Option.map_eq_some_iff.mp e
    obtain ⟨p, vs, h1, h2, h3, h4⟩ := own_at r e1
    refine ⟨.ref p, h1, p, vs, rfl, .inl (SqL.of h3), ?_⟩
    rw [h4.len]
    exact q _ H (Same.refl H) (.int _)⟩
/-- its truth -/
def ownT (i : Nat) : Dn → Option Bool := fun ρ => (getO i ρ).map fun ds => !ds.isEmpty
theorem pft_own (i : Nat) {x : Str} (hN : X.N[i]? = some x := by rfl) (hv : Vis X.env.scope x := by first | exact Or.inl rfl | exact Or.inr (Or.inl rfl) | exact Or.inr (Or.inr rfl)) (hd : (x == ("__debug__" : Str)) = false := by decide) (hcd : (x == ("__classdict__" : Str)) = false := by decide)
    (he : ∀ whole, isTrue (.Name x pos) X.env whole = (do let v ← whole; standAt (Expr.Name x pos).pos; holding [v] (truthy v)) := by intro _; rfl) : PFT X (.Name x pos) (ownT i) := ⟨(pt_truth (pe_var hN hv hd hcd) he).imp fun σ H Q ⟨O, dv, ρ, d, al, r, e, q⟩ => by
  obtain ⟨ds, e1, rfl⟩ := Option.map_eq_some_iff.mp e
  obtain ⟨p, vs, h1, h2, h3, h4⟩ := own_at r e1
  refine ⟨.ref p, h1, _, .inl ⟨vs, SqL.of h3, rfl⟩, ?_⟩
  have : (!vs.isEmpty) = !ds.isEmpty := by cases h4 <;> rfl
  rw [this]
  exact q H (Same.refl H)⟩
/-- x != [] -/
def ownNeT (i : Nat) : Dn → Option Bool := fun ρ => (getO i ρ).bind fun ds => if ds.length < lim then some (!ds.isEmpty) else none
theorem pft_ownNe (i : Nat) {x : Str} {p1 p2 : Pos} (hu : X.A.units + 64 < cLine) (hN : X.N[i]? = some x := by rfl) (hv : Vis X.env.scope x := by first | exact Or.inl rfl | exact Or.inr (Or.inl rfl) | exact Or.inr (Or.inr rfl)) (hd : (x == ("__debug__" : Str)) = false := by decide) (hcd : (x == ("__classdict__" : Str)) = false := by decide) :
    PFT X (.Compare (.Name x p1) [.NotEq] [.List [] p2] pos) (ownNeT i) := ⟨(pt_cmpR (op_neL hu) (pe_var hN hv hd hcd) (pe_lst pa_nil) (nomark _)).imp fun σ H Q ⟨O, dv, ρ, d, al, r, e, q⟩ => by
  obtain ⟨ds, e1, e2⟩ := Option.bind_eq_some_iff.mp e
  split at e2
  case isFalse => cases e2
  cases e2
  obtain ⟨p, vs, h1, h2, h3, h4⟩ := own_at r e1
  refine ⟨.ref p, h1, Nat.zero_le _, fun z nz => ⟨p, z, vs, rfl, rfl, SqL.of (new_same nz _ _ h3), SqL.of upd_same, _, rfl, ?_⟩⟩
  have : (!decide (vs.length = 0)) = !ds.isEmpty := by cases h4 <;> simp
  rw [this]
  exact q _ (new_same nz)⟩
/-! ### pop -/
def xPopAt (i : Nat) (T : TXP) : TXP := fun ρ n Q => T ρ n fun d ρ1 n1 => ∃ j : Nat, d = .int j ∧ ∃ ds x, getO i ρ1 = some ds ∧ ds.length < lim ∧ ds[j]? = some x ∧ Q x (ρ1.set i (.own (ds.eraseIdx j))) n1
theorem eraseDx {K : PySem.W.Frag} {H : Hp} : ∀ {vs : List V} {ds : List PyData} (j : Nat), DxAll K H vs ds → DxAll K H (vs.eraseIdx j) (ds.eraseIdx j)
  | _, _, _, .nil => .nil
  | _, _, 0, .cons h r => r
  | _, _, j + 1, .cons h r => .cons h (eraseDx j r)
theorem seqIxN {n j : Nat} (h : j < n) : seqIndex? (j : Int) n = some j := by
  unfold seqIndex?
  simp
  omega
theorem px_popAt (ok : S.Ok) (i : Nat) {x : Str} {p1 apos cpos : Pos} (he : PX X S e Ta) (hN : X.N[i]? = some x := by rfl) (hv : Vis X.env.scope x := by first | exact Or.inl rfl | exact Or.inr (Or.inl rfl) | exact Or.inr (Or.inr rfl))
    (hbase : attributeBase (.Name x p1) "pop" X.env (eval (.Name x p1) X.env) = eval (.Name x p1) X.env := by rfl)
    (hfew : ((backTo cpos (starEach [e] X.env)).all (fun x => !x.1) && (backToKw cpos (keywordEach [] X.env)).all (fun x => x.1.isSome) && decide ([e].length + ([] : List Keyword).length + (if ([] : List Keyword).isEmpty then 0 else 1) < 30)) = true := by rfl)
    (hline : (apos.endLine == cpos.line) = true := by rfl) (hs : starEach [e] X.env = (false, eval e X.env) :: starEach [] X.env := by rfl) (hplain : (backTo cpos (starEach [] X.env)).any (·.1) = false := by rfl)
    (hd : (x == ("__debug__" : Str)) = false := by decide) (hcd : (x == ("__classdict__" : Str)) = false := by decide) :
    PX X S (.Call (.Attribute (.Name x p1) "pop" apos) [e] [] cpos) (fun ρ n Q => (∃ ds, getO i ρ = some ds) ∧ xPopAt i Ta ρ n Q) :=
  ⟨(pe_bm PySem.F.plainAttrs_list PySem.F.slot_list_pop PySem.F.type_list_pop mt_popAt (pe_var hN hv hd hcd) (pa_cons he.pe pa_nil hs) hbase hfew hline hs hplain).imp fun σ H Q ⟨B, O, ρ, n, r, ⟨ds0, e0⟩, t⟩ => by
    obtain ⟨q0, us0, h1, h2, h3, h4⟩ := own_at r.rep e0
    refine ⟨.ref q0, h1, .inl ⟨rfl, _, SqL.of h3⟩, B, O, ρ, n, r, he.mono _ _ _ _ (fun d ρ1 n1 ⟨j, ed, ds, y, e1, hl, e2, z⟩ v H1 r1 dx => ?_) t⟩
    subst ed
    cases dx
    obtain ⟨q1, us, g1, g2, g3, g4⟩ := own_at r1.rep e1
    rw [h1] at g1
    cases g1
    obtain ⟨w, w1, w2⟩ := g4.get e2
    have lj : j < us.length := (List.getElem?_eq_some_iff.mp w1).1
    have lu : us.length < 1000000 := by rw [g4.len]; exact hl
    refine ⟨q0, us, j, j, w, rfl, rfl, g3, by omega, by omega, seqIxN lj, w1, ?_⟩
    have r2 := r1.put ok (getO_some e1) h1 (eraseDx j g4)
    refine z w _ r2 (w2.same ?_)
    rw [fz_upd g2]
    exact Same.refl _, fun ρ n Q Q' k ⟨h0, h⟩ => ⟨h0, he.mono _ _ _ _ (fun d ρ1 n1 ⟨j, ed, ds, y, e1, hl, e2, z⟩ => ⟨j, ed, ds, y, e1, hl, e2, k _ _ _ z⟩) h⟩⟩
def xPop (i : Nat) : TXP := fun ρ n Q => ∃ ds x, getO i ρ = some (ds ++ [x]) ∧ Q x (ρ.set i (.own ds)) n
theorem px_pop (ok : S.Ok) (i : Nat) {x : Str} {p1 apos cpos : Pos} (hN : X.N[i]? = some x := by rfl) (hv : Vis X.env.scope x := by first | exact Or.inl rfl | exact Or.inr (Or.inl rfl) | exact Or.inr (Or.inr rfl))
    (hbase : attributeBase (.Name x p1) "pop" X.env (eval (.Name x p1) X.env) = eval (.Name x p1) X.env := by rfl) (hline : (apos.endLine == cpos.line) = true := by rfl) (hd : (x == ("__debug__" : Str)) = false := by decide) (hcd : (x == ("__classdict__" : Str)) = false := by decide) :
    PX X S (.Call (.Attribute (.Name x p1) "pop" apos) [] [] cpos) (xPop i) :=
  ⟨(pe_bm0 PySem.F.plainAttrs_list PySem.F.slot_list_pop PySem.F.type_list_pop mt_pop (pe_var hN hv hd hcd) hbase hline).imp fun σ H Q ⟨B, O, ρ, n, r, ds, y, e1, z⟩ => by
    obtain ⟨q, us, g1, g2, g3, g4⟩ := own_at r.rep e1
    have ll : us.length = ds.length + 1 := by rw [g4.len, List.length_append]; rfl
    obtain ⟨w, w1, w2⟩ := g4.get (i := ds.length) (d := y) (by simp)
    refine ⟨.ref q, g1, .inl ⟨rfl, _, SqL.of g3⟩, q, us, w, rfl, rfl, g3, by rw [ll]; exact w1, ?_⟩
    have dl : DxAll X.K (Fz O H) us.dropLast ds := by
      have := g4.take ds.length
      rw [List.take_left] at this
      rw [List.dropLast_eq_take, ll]
      exact this
    refine z w _ (r.put ok (getO_some e1) g1 dl) (w2.same ?_)
    rw [fz_upd g2]
    exact Same.refl _, fun ρ n Q Q' k ⟨ds, y, e1, z⟩ => ⟨ds, y, e1, k _ _ _ z⟩⟩
/-! ### methods of texts -/
def strsD : List PyData → Option (List Str)
  | [] => some []
  | .str x :: ds => (strsD ds).map fun xs => x :: xs
  | _ => none
theorem strsD_some : ∀ {ds : List PyData} {xs : List Str}, strsD ds = some xs → ds = xs.map .str
  | [], _, h => by cases h; rfl
  | .str x :: ds, xs, h => by
    obtain ⟨ys, e1, rfl⟩ := Option.map_eq_some_iff.mp h
    rw [strsD_some e1]
    rfl
theorem strsD_map : ∀ xs : List Str, strsD (xs.map .str) = some xs
  | [] => rfl
  | x :: xs => by simp [strsD, strsD_map xs]
theorem dxAll_strs {K : PySem.W.Frag} {H : Hp} : ∀ {xs : List Str} {vs : List V}, DxAll K H vs (xs.map PyData.str) → vs = xs.map V.str
  | [], _, h => by cases h; rfl
  | x :: xs, _, h => by
    cases h with
    | cons h1 h2 =>
      cases h1
      rw [dxAll_strs h2]
      rfl
def joinD (d e : PyData) : Option PyData := match d with
  | .str a => (itemsD e).bind fun ds => (strsD ds).bind fun ys => if (ys.map (·.length)).sum + ys.length * a.length < lim then some (.str (Txt.join a ys)) else none
  | _ => none
def countD (d e : PyData) : Option PyData := match d, e with
  | .str a, .str b => some (.int (Txt.count a b))
  | _, _ => none
theorem pf_count (ha : PF X a fa) (hb : PF X b fb) {apos cpos : Pos} (hbase : attributeBase a "count" X.env (eval a X.env) = eval a X.env := by rfl)
    (hfew : ((backTo cpos (starEach [b] X.env)).all (fun x => !x.1) && (backToKw cpos (keywordEach [] X.env)).all (fun x => x.1.isSome) && decide ([b].length + ([] : List Keyword).length + (if ([] : List Keyword).isEmpty then 0 else 1) < 30)) = true := by rfl)
    (hline : (apos.endLine == cpos.line) = true := by rfl) (hs : starEach [b] X.env = (false, eval b X.env) :: starEach [] X.env := by rfl) (hplain : (backTo cpos (starEach [] X.env)).any (·.1) = false := by rfl) :
    PF X (.Call (.Attribute a "count" apos) [b] [] cpos) (bin2 countD fa fb) := ⟨(pe_bm PySem.F.plainAttrs_str PySem.F.slot_str_count PySem.F.type_str_count mt_count ha.pe (pa_cons hb.pe pa_nil hs) hbase hfew hline hs hplain).imp fun σ H Q ⟨O, dv, ρ, d, al, r, e, q⟩ => by
  obtain ⟨x, e1, e2⟩ := Option.bind_eq_some_iff.mp e
  obtain ⟨y, e3, e4⟩ := Option.bind_eq_some_iff.mp e2
  match x, y, e4 with
  | .str x, .str y, e4 =>
    cases e4
    refine ⟨O, dv, ρ, _, al, r, e1, fun v H1 s1 h1 => ?_⟩
    cases h1
    refine ⟨rfl, O, dv, ρ, _, al.same s1, r.same s1, e3, fun v2 H2 s2 h2 => ?_⟩
    cases h2
    exact ⟨x, y, rfl, rfl, q _ H2 (s1.trans s2) (.int _)⟩⟩
theorem pf_join (ha : PF X a fa) (hb : PF X b fb) {apos cpos : Pos} (hbase : attributeBase a "join" X.env (eval a X.env) = eval a X.env := by rfl)
    (hfew : ((backTo cpos (starEach [b] X.env)).all (fun x => !x.1) && (backToKw cpos (keywordEach [] X.env)).all (fun x => x.1.isSome) && decide ([b].length + ([] : List Keyword).length + (if ([] : List Keyword).isEmpty then 0 else 1) < 30)) = true := by rfl)
    (hline : (apos.endLine == cpos.line) = true := by rfl) (hs : starEach [b] X.env = (false, eval b X.env) :: starEach [] X.env := by rfl) (hplain : (backTo cpos (starEach [] X.env)).any (·.1) = false := by rfl) :
    PF X (.Call (.Attribute a "join" apos) [b] [] cpos) (bin2 joinD fa fb) := ⟨(pe_bm PySem.F.plainAttrs_str PySem.F.slot_str_join PySem.F.type_str_join mt_join ha.pe (pa_cons hb.pe pa_nil hs) hbase hfew hline hs hplain).imp fun σ H Q ⟨O, dv, ρ, d, al, r, e, q⟩ => by
  obtain ⟨x, e1, e2⟩ := Option.bind_eq_some_iff.mp e
  obtain ⟨y, e3, e4⟩ := Option.bind_eq_some_iff.mp e2
  match x, e4 with
  | .str x, e4 =>
    obtain ⟨ds, e5, e6⟩ := Option.bind_eq_some_iff.mp e4
    obtain ⟨ys, e7, e8⟩ := Option.bind_eq_some_iff.mp e6
    split at e8
    case isFalse => cases e8
    rename_i hl
    cases e8
    rw [strsD_some e7] at e5
    have hz : (ys.map (·.length)).sum + ys.length * x.length ≤ 16777216 := by
      have : lim = 1000000 := rfl
      omega
    refine ⟨O, dv, ρ, _, al, r, e1, fun v H1 s1 h1 => ?_⟩
    cases h1
    refine ⟨rfl, O, dv, ρ, _, al.same s1, r.same s1, e3, fun v2 H2 s2 h2 => ?_⟩
    cases h2 with
    | lst h3 h4 =>
      cases e5
      rw [dxAll_strs h4] at h3
      exact ⟨x, _, ys, rfl, rfl, .inl ((fz_sub O H2).seq h3), hz, q _ H2 (s1.trans s2) (.str _)⟩
    | tup h3 h4 =>
      cases e5
      rw [dxAll_strs h4] at h3
      exact ⟨x, _, ys, rfl, rfl, .inr (sqT_same (fz_sub O H2) h3), hz, q _ H2 (s1.trans s2) (.str _)⟩
    | _ => cases e5⟩
end
end DS
namespace DS
open PySem PySem.Spec PyProof.Rows L2
section
variable {K : PySem.W.Frag} {S : Fr} {B B' H H' : Hp} {O : Hid} {σ : L2.St} {ρ : Dn} {n : Nat}
/-! ### wiped slots -/
theorem wipeE_get (ρ : Dn) : ∀ (vs : List Nat) (j : Nat), (wipeE ρ vs)[j]? = if j ∈ vs then ρ[j]?.map (fun _ => Ent.na) else ρ[j]?
  | [], j => by simp [wipeE]
  | v :: vs, j => by
    unfold wipeE
    have hl : (wipeE ρ vs).length = ρ.length := by
      clear j
      induction vs with
      | nil => rfl
      | cons x xs ih => unfold wipeE; rw [List.length_set, ih]
    by_cases h : v = j
    · subst h
      rw [if_pos List.mem_cons_self]
      by_cases lt : v < (wipeE ρ vs).length
      · rw [List.getElem?_set_self lt]
        rw [hl] at lt
        rw [List.getElem?_eq_getElem lt]
        rfl
      · rw [List.getElem?_eq_none (by rw [List.length_set]; omega)]
        rw [hl] at lt
        rw [List.getElem?_eq_none (by omega)]
        rfl
    · rw [List.getElem?_set_ne h, wipeE_get ρ vs j]
      have : (j ∈ v :: vs) ↔ j ∈ vs := by simp [Ne.symm h]
      by_cases k : j ∈ vs
      · rw [if_pos k, if_pos (this.mpr k)]
      · rw [if_neg k, if_neg fun z => k (this.mp z)]
theorem RepS.wipe (h : RepS K S B O H σ ρ n) (vs : List Nat) : RepS K S B O H (wipe σ vs) (wipeE ρ vs) n := by
  refine ⟨h.al, h.rep.wipe vs, h.kp, h.sub, h.mo, h.fz, fun i e ov q e1 e2 e3 => ?_, h.dk⟩
  have b : ∀ (j : Nat) (e' : Ent) (ov' : Option V), (wipeE ρ vs)[j]? = some e' → (L2.wipe σ vs)[j]? = some ov' → Hd H ov' e' q → ρ[j]? = some e' ∧ σ[j]? = some ov' := fun j e' ov' z1 z2 z3 => by
    rw [wipeE_get] at z1
    rw [wipe_get] at z2
    by_cases k : j ∈ vs
    · rw [if_pos k] at z1
      obtain ⟨_, _, z⟩ := Option.map_eq_some_iff.mp z1
      rw [← z] at z3
      exact z3.elim
    · rw [if_neg k] at z1 z2
      exact ⟨z1, z2⟩
  obtain ⟨y1, y2⟩ := b i e ov e1 e2 e3
  obtain ⟨h1, h2, h3⟩ := h.ow i e ov q y1 y2 e3
  refine ⟨h1, h2, fun j e' ov' z1 z2 z3 => ?_⟩
  obtain ⟨w1, w2⟩ := b j e' ov' z1 z2 z3
  exact h3 j e' ov' w1 w2 z3
/-! ### a list that is being made -/
def Fr.wi (S : Fr) (D : Addr) (o : HO) : Fr := { S with H0 := upd S.H0 D o }
theorem RepS.turn {D : Addr} {o o' : HO} (h : RepS K (S.wi D o) B O H σ ρ n) (ok : S.Ok) (hO : O D) (nM : ¬ S.M D) : RepS K (S.wi D o') B O (upd H D o') σ ρ n := by
  have fe : Fz O (upd H D o') = Fz O H := fz_upd hO
  have ne : ∀ (i : Nat) (e : Ent) (ov : Option V) (q : Addr), ρ[i]? = some e → σ[i]? = some ov → Hd H ov e q → q ≠ D := fun i e ov q e1 e2 k w => by
    have := (h.ow i e ov q e1 e2 k).1
    have : upd S.H0 D o q = none := this
    rw [w, upd_same] at this
    cases this
  have at_ : ∀ (i : Nat) (e : Ent) (ov : Option V) (q : Addr), ρ[i]? = some e → σ[i]? = some ov → Hd H ov e q → (upd H D o') q = H q := fun i e ov q e1 e2 k => upd_ne (ne i e ov q e1 e2 k)
  refine ⟨fun a z => ?_, ⟨h.rep.1, fun i e q => ?_⟩, fun b x z m => ?_, h.sub, h.mo, by rw [fe]; exact h.fz, fun i e ov q e1 e2 e3 => ?_, ok.dk H _ n (fun a m => upd_ne fun w => nM (by rw [← w]; exact m)) h.dk⟩
  · by_cases w : a = D
    · rw [w, upd_same]
      exact fun w => nomatch w
    · rw [upd_ne w]
      exact h.al a z
  · obtain ⟨ov, h1, h2⟩ := h.rep.2 i e q
    exact ⟨ov, h1, h2.shift (fun _ z => z) (by rw [fe]; exact Same.refl _) fun a k => at_ i e ov a q h1 k⟩
  · have z : upd S.H0 D o' b = some x := z
    by_cases w : b = D
    · rw [w, upd_same] at z ⊢
      exact z
    · rw [upd_ne w] at z ⊢
      refine h.kp b x ?_ m
      show upd S.H0 D o b = some x
      rw [upd_ne w]
      exact z
  · have k0 := Hd.eq (h.ent e1 e2) (fun q' k' => at_ i e ov q' e1 e2 k') e3
    obtain ⟨h1, h2, h3⟩ := h.ow' at_ i e ov q e1 e2 e3
    refine ⟨?_, h2, h3⟩
    have h1 : upd S.H0 D o q = none := h1
    show upd S.H0 D o' q = none
    rw [upd_ne (ne i e ov q e1 e2 k0)] at h1 ⊢
    exact h1
end
/-! ### comprehensions with draws -/
structure Like (S S' : Fr) : Prop where
  dv : S'.dv = S.dv
  m : S'.M = S.M
  dk : S'.Dk = S.Dk
theorem Like.fam {S S' : Fr} {Fam : FamT} (l : Like S S') (h : Fam S.dv S.M S.Dk) : Fam S'.dv S'.M S'.Dk := by rw [l.dv, l.m, l.dk]; exact h
theorem Like.refl (S : Fr) : Like S S := ⟨rfl, rfl, rfl⟩
end DS
namespace DS
open PySem PySem.Spec PyProof.Rows L2
/-! ### [[..] * n for ..]: rows of one's own -/
theorem RowsOk.snoc {K : PySem.W.Frag} {O : Hid} {H : Hp} {q : Addr} {vs : List V} {ds : List PyData} (h1 : O q) (h2 : H q = some (.lst vs)) (h3 : DxAll K (Fz O H) vs ds) : ∀ {qs : List Addr} {dss : List (List PyData)}, RowsOk K O H qs dss → RowsOk K O H (qs ++ [q]) (dss ++ [ds])
  | _, _, .nil => .cons h1 h2 h3 .nil
  | _, _, .cons a b c r => .cons a b c (RowsOk.snoc h1 h2 h3 r)
section
variable {X : Cx} {S : Fr} {a b c e : Expr} {fa fb fc f : DF} {pos p : Pos}
/-! rows[a][b] = c -/
theorem RowsOk.put {K : PySem.W.Frag} {O : Hid} {H : Hp} {q : Addr} {ws : List V} {es : List PyData} (dx : DxAll K (Fz O H) ws es) (hO : O q) : ∀ {qs : List Addr} {dss : List (List PyData)} {j : Nat}, RowsOk K O H qs dss → qs.Nodup → qs[j]? = some q → RowsOk K O (upd H q (.lst ws)) qs (dss.set j es)
  | _, _, 0, .cons (vs := vs) (ds := ds) h1 h2 h3 r, nd, e => by
    cases e
    have nq := (List.nodup_cons.mp nd).1
    refine .cons h1 upd_same (by rw [fz_upd hO]; exact dx) (r.shift (fun _ z => z) (by rw [fz_upd hO]; exact Same.refl _) fun x hx => upd_ne fun w => nq (w ▸ hx))
  | _, _, j + 1, .cons (q := q0) h1 h2 h3 r, nd, e => by
    have nd' := List.nodup_cons.mp nd
    have mem : q ∈ _ := List.mem_of_getElem? (show _[j]? = some q from e)
    have ne : q0 ≠ q := fun w => nd'.1 (by rw [w]; exact mem)
    refine .cons h1 (by rw [upd_ne ne]; exact h2) (by rw [fz_upd hO]; exact h3) (RowsOk.put dx hO (j := j) r nd'.2 e)
theorem setDx {K : PySem.W.Frag} {H : Hp} {v : V} {d : PyData} (h : Dx K H v d) : ∀ {vs : List V} {ds : List PyData} (j : Nat), DxAll K H vs ds → DxAll K H (vs.set j v) (ds.set j d)
  | _, _, _, .nil => .nil
  | _, _, 0, .cons _ r => .cons h r
  | _, _, j + 1, .cons a r => .cons a (setDx h j r)
theorem ixN_nat {n j : Nat} (hj : j < n) : ixN n (j : Int) = some j := by
  unfold ixN
  rw [if_pos (by omega), if_pos (by omega)]
  simp
end
/-! ### the law's def: the deck is made first -/
section
variable {X : Cx} {sts : List Stmt} {T : TD}
theorem pss_anyE : PSs X sts (fun D σ H => ∃ (S : Fr) (T : TD), PDs X S sts T ∧ tS X.K S T D σ H) :=
  ⟨fun pins s σ H D I ⟨S, T, h, t⟩ => h.pss.run pins s σ H D I t⟩
end
end DS
namespace DS
open PySem PySem.Spec PyProof.Rows L2
/-! ### decks: cells, rests, a count -/
structure Deck (H : Hp) (d c r : Addr) (n : Nat) : Prop where
  ex : ∃ (cs rs : List Int) (k : Nat), H d = some (.lst [.ref c, .ref r, .int k]) ∧ H c = some (.lst (cs.map V.int)) ∧ H r = some (.lst (rs.map V.int)) ∧
    cs.length = rs.length ∧ 0 < cs.length ∧ cs.length ≤ 64 ∧ k ≤ n
  dc : d ≠ c
  dr : d ≠ r
  cr : c ≠ r
/-- all but the deck's own two objects that change stays -/
def Frm (d r : Addr) (H H' : Hp) : Prop := ∀ b x, H b = some x → b ≠ d → b ≠ r → H' b = some x
theorem Frm.refl {d r : Addr} {H : Hp} : Frm d r H H := fun _ _ e _ _ => e
theorem Frm.trans {d r : Addr} {H H1 H2 : Hp} (h : Frm d r H H1) (k : Frm d r H1 H2) : Frm d r H H2 := fun b x e h1 h2 => k b x (h b x e h1 h2) h1 h2
theorem same_new {H : Hp} {p : Addr} {o : HO} (h : H p = none) : Same H (upd H p o) := new_same h
theorem get_map {α β : Type} {l : List α} {f : α → β} {i : Nat} {y : β} (h : (l.map f)[i]? = some y) : ∃ x, l[i]? = some x ∧ y = f x := by
  rw [List.getElem?_map] at h
  cases e : l[i]? with
  | none => rw [e] at h; cases h
  | some x => rw [e] at h; cases h; exact ⟨x, rfl, rfl⟩
theorem line_lt {n : Nat} (h : n ≤ 100000) : n < sizeLine := Nat.lt_of_le_of_lt h (by decide)
def spLaw (K : PySem.W.Frag) : Sp := fun vs H Q _ => ∃ (a : Addr) (ns : List Int), vs = [.ref a] ∧ SqL K H a (ns.map V.int) ∧ ns.length ≤ 63 ∧ ∀ H', Q (.bl true) H'
/-- a def that is never called -/
theorem fn_never {P : Program} {w : World} {K : PySem.W.Frag} {mg : Str → Option Value} {base : Heap} {k n : Nat} {f : Addr} {fd : FuncData} {ps : List Str} {sem : List PyData → Option PyData} (hn : ps.length = n) (h : ∀ ds, sem ds = none) : FnG P w K mg base CX0 k f fd ps (spF K n sem) :=
  ⟨fun vs H Q E h => by rw [spF_len h, hn], fun A outer s H args us vs Q E _ _ _ _ _ ⟨O, ds, c, h1, h2, h3, h4, h5⟩ => by rw [h ds] at h4; cases h4⟩
end DS
namespace DS
open PySem PySem.Spec PyProof.Rows L2
section
variable {X : Cx} {S : Fr} {a b e : Expr} {fa fb f : DF} {Ta : TXP} {p pos : Pos}
/-! ### zip -/
/-! ### slices, abs, not -/
structure PFO (X : Cx) (e : Option Expr) (f : Dn → Option (Option Int)) : Prop where
  po : PO X e (fun σ H Q => ∃ O dv ρ o, Al O H ∧ RepE X.K O H dv σ ρ ∧ f ρ = some o ∧ ∀ H', Same H H' → Q o H')
def noP : Dn → Option (Option Int) := fun _ => some none
def someP (f : DF) : Dn → Option (Option Int) := fun ρ => (f ρ).bind fun d => (toI d).map some
theorem pfo_none : PFO X none noP := ⟨⟨fun pins s σ H Q I ⟨O, dv, ρ, o, al, r, e, q⟩ => po_none.run pins s σ H Q I (by cases e; exact q H (Same.refl H))⟩⟩
theorem pfo_some (h : PF X e f) : PFO X (some e) (someP f) := ⟨⟨fun pins s σ H Q I ⟨O, dv, ρ, o, al, r, e, q⟩ => (po_some h.pe).run pins s σ H Q I (by
  obtain ⟨d, e1, e2⟩ := Option.bind_eq_some_iff.mp e
  obtain ⟨i, e3, rfl⟩ := Option.map_eq_some_iff.mp e2
  rw [toI_some e3] at e1
  refine ⟨O, dv, ρ, _, al, r, e1, fun v H' s hv => ?_⟩
  cases hv
  exact ⟨i, rfl, q H' s⟩)⟩⟩
def cutD (xs : List PyData) (lo hi : Option Int) : List PyData := (xs.drop (HT.sIx xs.length 0 lo)).take (HT.sIx xs.length xs.length hi - HT.sIx xs.length 0 lo)
def sliceD (d : PyData) (lo hi : Option Int) : Option PyData := match d with
  | .list xs => some (.list (cutD xs lo hi))
  | .tuple xs => some (.tuple (cutD xs lo hi))
  | .str z => if z.length < lim then some (.str (cutS z lo hi)) else none
  | _ => none
def sliceF (f : DF) (fl fh : Dn → Option (Option Int)) : DF := fun ρ => (f ρ).bind fun d => (fl ρ).bind fun l => (fh ρ).bind fun h => sliceD d l h
theorem DxAll.cut {K : PySem.W.Frag} {H : Hp} {vs : List V} {ds : List PyData} (h : DxAll K H vs ds) (lo hi : Option Int) : DxAll K H (cutV vs lo hi) (cutD ds lo hi) := by
  unfold cutV cutD
  rw [h.len]
  exact (h.drop _).take _
theorem cutD_all {xs : List PyData} {lo hi : Option Int} (h : HT.sIx xs.length 0 lo = 0 ∧ HT.sIx xs.length xs.length hi = xs.length) : cutD xs lo hi = xs := by
  unfold cutD
  rw [h.1, h.2, List.drop_zero, Nat.sub_zero, List.take_length]
/-! more statements with draws -/
def dAppX (i : Nat) (T : TXP) : TD := fun DD ρ n => (∃ ds, getO i ρ = some ds) ∧ T ρ n fun d ρ1 n1 => ∃ ds, getO i ρ1 = some ds ∧ ds.length < lim ∧ DD.nx (ρ1.set i (.own (ds ++ [d]))) n1
theorem pd_appX (ok : S.Ok) {i : Nat} {x : Str} {p1 apos cpos : Pos} (he : PX X S e Ta) (hN : X.N[i]? = some x) (hv : Vis X.env.scope x)
    (hbase : attributeBase (.Name x p1) "append" X.env (eval (.Name x p1) X.env) = eval (.Name x p1) X.env := by rfl)
    (hfew : ((backTo cpos (starEach [e] X.env)).all (fun x => !x.1) && (backToKw cpos (keywordEach [] X.env)).all (fun x => x.1.isSome) && decide ([e].length + ([] : List Keyword).length + (if ([] : List Keyword).isEmpty then 0 else 1) < 30)) = true := by rfl)
    (hline : (apos.endLine == cpos.line) = true := by rfl) (hs : starEach [e] X.env = (false, eval e X.env) :: starEach [] X.env := by rfl) (hplain : (backTo cpos (starEach [] X.env)).any (·.1) = false := by rfl)
    (hsw : swapsWith (.Call (.Attribute (.Name x p1) "append" apos) [e] [] cpos) none pos.line X.env = pure false := by rfl) (hd : (x == ("__debug__" : Str)) = false := by decide) (hcd : (x == ("__classdict__" : Str)) = false := by decide) :
    PD X S (.Expr (.Call (.Attribute (.Name x p1) "append" apos) [e] [] cpos) pos) (dAppX i Ta) := ⟨(ps_expr (pe_bm PySem.F.plainAttrs_list PySem.F.slot_list_append PySem.F.type_list_append mt_append (pe_var hN hv hd hcd) (pa_cons he.pe pa_nil hs) hbase hfew hline hs hplain) hsw).imp fun D σ H ⟨B, O, ρ, n, DD, r, ⟨⟨ds0, e0⟩, t⟩, E⟩ => by
  obtain ⟨q0, us0, h1, h2, h3, h4⟩ := own_at r.rep e0
  refine ⟨.ref q0, h1, .inl ⟨rfl, _, SqL.of h3⟩, B, O, ρ, n, r, he.mono _ _ _ _ (fun d ρ1 n1 ⟨ds, e1, hl, z⟩ v H1 r1 dx => ?_) t⟩
  obtain ⟨q1, us, g1, g2, g3, g4⟩ := own_at r1.rep e1
  rw [h1] at g1
  cases g1
  exact ⟨q0, us, v, rfl, rfl, g3, lim_le (by rw [g4.len]; exact hl), E.nx O σ _ _ n1 (r1.put ok (getO_some e1) h1 (g4.append (.cons dx .nil))) z⟩⟩
end
end DS
namespace DS
open PySem PySem.Spec PyProof.Rows L2
/-! ### is True, is not True, of bools -/
section
variable {X : Cx}
end
end DS
namespace DS
open PySem
/-! ### the order of tuples of ints -/
/-! ### all sets of lo, .., lo + m - 1, in order -/
/-! ### the sets from binary digits -/
def dg : Nat → Nat → Nat → List Int
  | _, 0, _ => []
  | lo, m + 1, x => (if x % 2 = 1 then [(lo : Int)] else []) ++ dg (lo + 1) m (x / 2)
end DS
namespace DS
open PySem PySem.Spec PyProof.Rows L2
/-- v is a tuple of the ints s -/
def TupI (K : PySem.W.Frag) (H : Hp) (v : V) (s : List Int) : Prop := ∃ a, v = .ref a ∧ SqT K H a (s.map V.int)
section
variable {prog : Program} {w : World} {A : Around} {E : Value → Shared → Prop} {s : Shared}
/-- a tuple of the ints ns -/
def TI (h : Heap) (v : Value) (ns : List Int) : Prop := ∃ a its, v = .ref a ∧ IsTup h a its ∧ IntsAre its.toList ns
end
end DS
namespace DS
open PySem PySem.Spec PyProof.Rows L2
/-! ### min(t, key=len), t a tuple of tuples -/
/-- the place of the first one with the least number -/
def least (ls : Nat → Nat) (n : Nat) : Nat := argBest (fun i j => decide (((ls i : Nat) : Int) < ((ls j : Nat) : Int))) (n - 1)
section
variable {X : Cx}
end
end DS
namespace DS
open PySem PySem.Spec PyProof.Rows L2
/-! ### sorted(t), t a tuple of ints -/
section
variable {prog : Program} {w : World} {A : Around} {E : Value → Shared → Prop} {s : Shared}
theorem gather_tup {l : Addr} {us : List Value} {Q : List Value → Shared → Prop} (hl : s.heap.IsTuple l us.toArray) (hz : us.length ≤ sizeLine)
    (k : Q us { s with heap := (s.heap.push (seqObj "list" #[] 0)).update s.heap.objs.size (Obj.mapSeq (· ++ us.toArray)) }) : wpAny (model prog w) A (collect (.ref l)) Q E s := by
  obtain ⟨o, ho, hc, n, hd⟩ := hl
  have up : (s.heap.push (seqObj "list" #[] 0)).get? l = some o := Heap.get?_push_of_some _ ho
  have nw : (s.heap.push (seqObj "list" #[] 0)).get? s.heap.objs.size = some (seqObj "list" #[] 0) := Heap.get?_push_size _ rfl
  have got := get?_update_seq nw (· ++ us.toArray)
  unfold collect
  refine wpAny_bind (wpAny_runValue (codeAny_builtin entry_proto_collect' (wpAny_bind (wpAny_newList (wpAny_pure ⟨Code.quiet_builtin _ (by decide +kernel), codeAny_builtin entry_list_iadd' ?_⟩)))))
  show wpAny _ _ (Builtin.List.listExtendWith (.ref _) (.ref l) (.ref _)) _ _ _
  unfold Builtin.List.listExtendWith
  have isT : (Value.type "tuple" == Value.type "list" || Value.type "tuple" == Value.type "tuple") = true := rfl
  refine wpAny_bind (wpAny_typeOf (T := "tuple") ⟨o, up, hc⟩ ?_)
  rw [if_pos (by simpa using isT)]
  refine wpAny_bind (listItems_at up hd (wpAny_bind (listItems_at nw rfl ?_)))
  rw [if_neg (by simp)]
  refine wpAny_bind (listUpdate_at nw rfl (wpAny_pure ?_) (Nat.zero_le _) (by simp; omega))
  show wpAny _ _ (load s.heap.objs.size >>= _) _ _ { s with heap := _ }
  refine wpAny_bind (wpAny_load got (wpAny_pure ?_))
  rw [show ((#[] : Array Value) ++ us.toArray).toList = us by simp]
  exact k
end
end DS
namespace DS
open PySem PySem.Spec PyProof.Rows L2
/-! ### sorted(l): tuples of ints, the empty one first, two or more -/
def tupI? : PyData → Option (List Int)
  | .tuple ds => intsD ds
  | _ => none
def tupsI? : List PyData → Option (List (List Int))
  | [] => some []
  | d :: ds => (tupI? d).bind fun i => (tupsI? ds).bind fun is => some (i :: is)
section
variable {X : Cx}
theorem TupI.sm {K : PySem.W.Frag} {H H' : Hp} {v : V} {s : List Int} (h : TupI K H v s) (e : Same H H') : TupI K H' v s := by
  obtain ⟨a, rfl, h⟩ := h
  exact ⟨a, rfl, sqT_same e h⟩
/-! ### min(t, key=len), t a tuple of tuples -/
def lenT : PyData → Option Nat
  | .tuple ds => some ds.length
  | _ => none
def lensD : List PyData → Option (List Nat)
  | [] => some []
  | d :: ds => (lenT d).bind fun i => (lensD ds).bind fun is => some (i :: is)
theorem lensD_get : ∀ {ds : List PyData} {ls : List Nat}, lensD ds = some ls → ∀ (i : Nat) (d : PyData), ds[i]? = some d → ∃ es, d = .tuple es ∧ es.length = ls.getD i 0
  | [], _, _, i, d, e => by simp at e
  | d :: ds, ls, h, i, d', e => by
    obtain ⟨n, e1, h⟩ := Option.bind_eq_some_iff.mp h
    obtain ⟨ns, e2, h⟩ := Option.bind_eq_some_iff.mp h
    cases h
    cases i with
    | zero =>
      cases e
      cases d <;> first | (simp [lenT] at e1; done) | skip
      case tuple es => exact ⟨es, rfl, by simpa [lenT] using e1⟩
    | succ i =>
      obtain ⟨es, k1, k2⟩ := lensD_get e2 i d' (by simpa using e)
      exact ⟨es, k1, by simpa using k2⟩
end
end DS
namespace DS
open PySem PySem.Spec PyProof.Rows L2
/-! ### new entries: data, a list or a dict of one's own -/
def plus (O : Hid) (A : Addr → Prop) : Hid := fun a => O a ∨ A a
theorem fz_plus {O : Hid} {A : Addr → Prop} {H H' : Hp} (s : Same H H') (nA : ∀ q, A q → H q = none) : Same (Fz O H) (Fz (plus O A) H') := fun b o z => by
  obtain ⟨z1, z2⟩ := fz_get z
  rw [fz_out fun w => w.elim z2 fun w => by rw [nA b w] at z1; cases z1]
  exact s b o z1
theorem al_plus {O : Hid} {A : Addr → Prop} {H H' : Hp} (al : Al O H) (s : Same H H') (th : ∀ q, A q → H' q ≠ none) : Al (plus O A) H' := fun a z => z.elim (al.same s a) (th a)
def tFN (K : PySem.W.Frag) (g : Dn → Option Ent) : TE := fun σ H Q => ∃ O dv ρ E, Al O H ∧ RepE K O H dv σ ρ ∧ g ρ = some E ∧ ∀ v A H', Same H H' → (∀ q, A q → H q = none) → EntOk K (plus O A) H' dv (some v) E → (∀ q, A q → H' q ≠ none) → (∀ q, Hd H' (some v) E q → A q) → Q v H'
structure PN (X : Cx) (e : Expr) (g : Dn → Option Ent) : Prop where
  pe : PE X e (tFN X.K g)
def datN (f : DF) : Dn → Option Ent := fun ρ => (f ρ).map .dat
def ownN (f : Dn → Option (List PyData)) : Dn → Option Ent := fun ρ => (f ρ).map .own
def dctN : Dn → Option Ent := fun _ => some (.dct [])
section
variable {X : Cx} {S : Fr} {a b e : Expr} {f fa fb fc : DF} {ga gb : Dn → Option Ent} {pos : Pos}
theorem pn_dat (h : PF X e f) : PN X e (datN f) := ⟨h.pe.imp fun σ H Q ⟨O, dv, ρ, E, al, r, e, q⟩ => by
  obtain ⟨d, e1, rfl⟩ := Option.map_eq_some_iff.mp e
  exact ⟨O, dv, ρ, d, al, r, e1, fun v H' s dx => q v (fun _ => False) H' s (fun _ z => z.elim) ⟨v, rfl, dx.same (fz_less (fun b z => z.elim (fun z => z) fun z => z.elim) H')⟩ (fun _ z => z.elim) (fun _ z => z)⟩⟩
theorem pn_own {g : Dn → Option (List PyData)} (h : PFL X e g) : PN X e (ownN g) := ⟨h.pe.imp fun σ H Q ⟨O, dv, ρ, E, al, r, e, q⟩ => by
  obtain ⟨ds, e1, rfl⟩ := Option.map_eq_some_iff.mp e
  exact ⟨O, dv, ρ, ds, al, r, e1, fun p vs H' s np hp dx => q _ (fun a => a = p) H' s (fun x z => by rw [z]; exact np) ⟨p, vs, rfl, .inr rfl, hp, dx⟩ (fun x z => by rw [z, hp]; exact fun w => nomatch w) (fun x z => by cases z; rfl)⟩⟩
theorem pn_dct : PN X (.Dict [] [] pos) dctN := ⟨pe_dnewT.imp fun σ H Q ⟨O, dv, ρ, E, al, r, e, q⟩ p np => by
  cases e
  exact q _ (fun a => a = p) _ (new_same np) (fun x z => by rw [z]; exact np) ⟨p, [], rfl, .inr rfl, upd_same, .nil⟩ (fun x z => by rw [z, upd_same]; exact fun w => nomatch w) (fun x z => by cases z; rfl)⟩
def dSetN (i : Nat) (g : Dn → Option Ent) : TD := fun DD ρ n => ∃ E, g ρ = some E ∧ DD.nx (ρ.set i E) n
theorem pd_setN (ok : S.Ok) {i : Nat} {x : Str} {pos' : Pos} (hN : X.N.Nodup) (hi : X.N[i]? = some x) (hx : Loc X.env.scope x) (he : PN X e ga) (hs : swapsWith e (some (.Name x pos')) pos.line X.env = pure false := by rfl) (hf : X.fn x = true ∨ X.env.scope.names.lookup x = some .local := by first | exact .inl rfl | exact .inr rfl | assumption) :
    PD X S (.Assign [.Name x pos'] e pos) (dSetN i ga) := ⟨(ps_set hN hi hx he.pe hs hf).imp fun D σ H ⟨B, O, ρ, n, DD, r, ⟨E, e1, t⟩, En⟩ =>
  ⟨O, S.dv, ρ, E, r.al, r.rep, e1, fun v A H' s nA k th inn => En.nx _ _ H' _ n (r.fresh ok s nA k th inn i) t⟩⟩
def dParN (i j : Nat) (ga gb : Dn → Option Ent) : TD := fun DD ρ n => ∃ E F, ga ρ = some E ∧ gb ρ = some F ∧ DD.nx ((ρ.set i E).set j F) n
theorem pd_parN (ok : S.Ok) {i j : Nat} {x y : Str} {px py pt : Pos} {kt k2 pt2} (hc : X.calm = true) (hN : X.N.Nodup) (hi : X.N[i]? = some x) (hj : X.N[j]? = some y) (hij : i ≠ j)
    (hx : X.env.scope.names.lookup x = some .local) (hy : X.env.scope.names.lookup y = some .local) (ha : PN X a ga) (hb : PN X b gb)
    (hw : swappedStores [.Tuple [.Name x px, .Name y py] kt pt] (.Tuple [a, b] k2 pt2) X.env = pure (some [x, y]))
    (hs : swapsWithSole [.Tuple [.Name x px, .Name y py] kt pt] (.Tuple [a, b] k2 pt2) pos.line X.env = pure false := by rfl)
    (s1 : starEach [a, b] X.env = (false, eval a X.env) :: starEach [b] X.env := by rfl) (s2 : starEach [b] X.env = (false, eval b X.env) :: starEach [] X.env := by rfl) :
    PD X S (.Assign [.Tuple [.Name x px, .Name y py] kt pt] (.Tuple [a, b] k2 pt2) pos) (dParN i j ga gb) := ⟨(ps_par hc hN hi hj hij hx hy (pa_cons ha.pe (pa_cons hb.pe pa_nil s2) s1) hw hs).imp fun D σ H ⟨B, O, ρ, n, DD, r, ⟨E, F, e1, e2, t⟩, En⟩ =>
  ⟨O, S.dv, ρ, E, r.al, r.rep, e1, fun v A H1 s1 nA k th inn => ⟨plus O A, S.dv, ρ, F, al_plus r.al s1 th, r.rep.shift s1 (fz_plus s1 nA) (fun p z => .inl z), e2, fun u A2 H2 s2 nA2 k2 th2 inn2 =>
    ⟨_, _, rfl, En.nx _ _ H2 _ n ((r.fresh ok s1 nA k th inn i).fresh ok s2 nA2 k2 th2 inn2 j) t⟩⟩⟩⟩
def dParXN (i j : Nat) (T : TXP) (gb : Dn → Option Ent) : TD := fun DD ρ n => T ρ n fun d ρ1 n1 => ∃ F, gb ρ1 = some F ∧ DD.nx ((ρ1.set i (.dat d)).set j F) n1
/-! ### keys -/
def keyOf : PyData → Option Key
  | .int i => some (.inl i)
  | .str x => some (.inr x)
  | _ => none
def keysOf : List PyData → Option (List Key)
  | [] => some []
  | d :: ds => (keyOf d).bind fun k => (keysOf ds).map fun ks => k :: ks
theorem keyOf_dx {K : PySem.W.Frag} {H : Hp} {v : V} {d : PyData} {k : Key} (h : Dx K H v d) (e : keyOf d = some k) : v = kV k := by
  cases h <;> cases e <;> rfl
theorem keysOf_dx {K : PySem.W.Frag} {H : Hp} : ∀ {vs : List V} {ds : List PyData} {ks : List Key}, DxAll K H vs ds → keysOf ds = some ks → vs = ks.map kV
  | _, _, _, .nil, e => by cases e; rfl
  | _, _, _, .cons h r, e => by
    obtain ⟨k, e1, e⟩ := Option.bind_eq_some_iff.mp e
    obtain ⟨ks, e2, rfl⟩ := Option.map_eq_some_iff.mp e
    rw [keyOf_dx h e1, keysOf_dx r e2]
    rfl
theorem keyOf_kD (k : Key) : keyOf (kD k) = some k := by cases k <;> rfl
theorem keysOf_kD : ∀ ks : List Key, keysOf (ks.map kD) = some ks
  | [] => rfl
  | k :: ks => by simp [keysOf, keyOf_kD, keysOf_kD ks]
abbrev KeyD := Key ⊕ List Key
def KyOk (H : Hp) (y : V) : KeyD → Prop
  | .inl k => y = kV k
  | .inr ks => ∃ b, y = .ref b ∧ H b = some (.tup (ks.map kV))
theorem KyOk.same {H H' : Hp} {y : V} (s : Same H H') : ∀ {k : KeyD}, KyOk H y k → KyOk H' y k
  | .inl _, h => h
  | .inr _, ⟨b, h1, h2⟩ => ⟨b, h1, s _ _ h2⟩
def tFK (K : PySem.W.Frag) (f : Dn → Option KeyD) : TE := fun σ H Q => ∃ O dv ρ k, Al O H ∧ RepE K O H dv σ ρ ∧ f ρ = some k ∧ ∀ y H', Same H H' → KyOk H' y k → Q y H'
structure PKY (X : Cx) (e : Expr) (f : Dn → Option KeyD) : Prop where
  pe : PE X e (tFK X.K f)
def tupK (g : Dn → Option (List PyData)) : Dn → Option KeyD := fun ρ => (g ρ).bind fun ds => if ds.length < lim then (keysOf ds).map .inr else none
theorem pk_tup {es : List Expr} {g : Dn → Option (List PyData)} {x1} (h : PFA X es g) : PKY X (.Tuple es x1 pos) (tupK g) := ⟨(pe_tup h.pa).imp fun σ H Q ⟨O, dv, ρ, k, al, r, e, q⟩ => by
  obtain ⟨ds, e1, e⟩ := Option.bind_eq_some_iff.mp e
  split at e
  case isFalse => cases e
  rename_i hl
  obtain ⟨k, e2, rfl⟩ := Option.map_eq_some_iff.mp e
  refine ⟨O, dv, ρ, ds, al, r, e1, fun vs H1 s1 h1 => ⟨Nat.le_of_lt (lim_le (by rw [h1.len]; exact hl)), fun p np => ?_⟩⟩
  refine q _ _ (s1.trans (new_same np)) ⟨p, rfl, ?_⟩
  rw [upd_same, keysOf_dx h1 e2]⟩
/-! ### dicts -/
abbrev DV := List (List Key × PyData) ⊕ List (Key × PyData)
def DiOk (K : PySem.W.Frag) (O : Hid) (H : Hp) (a : Addr) : DV → Prop
  | .inl kds => ∃ kvs, H a = some (.dT kvs) ∧ KvOk K (Fz O H) kvs kds
  | .inr kds => ∃ kvs, H a = some (.dK kvs) ∧ KvOk K (Fz O H) kvs kds
theorem DiOk.same {K : PySem.W.Frag} {O : Hid} {H H' : Hp} {a : Addr} (s : Same H H') : ∀ {m : DV}, DiOk K O H a m → DiOk K O H' a m
  | .inl _, ⟨kvs, h1, h2⟩ => ⟨kvs, s _ _ h1, h2.same (s.fz O)⟩
  | .inr _, ⟨kvs, h1, h2⟩ => ⟨kvs, s _ _ h1, h2.same (s.fz O)⟩
def tFDi (K : PySem.W.Frag) (f : Dn → Option DV) : TE := fun σ H Q => ∃ O dv ρ m, Al O H ∧ RepE K O H dv σ ρ ∧ f ρ = some m ∧ ∀ a H', Same H H' → DiOk K O H' a m → Q (.ref a) H'
structure PDI (X : Cx) (e : Expr) (f : Dn → Option DV) : Prop where
  pe : PE X e (tFDi X.K f)
def getC (i : Nat) : Dn → Option DV := fun ρ => match ρ[i]? with
  | some (.dct kds) => some (.inl kds)
  | some (.dck kds) => some (.inr kds)
  | _ => none
def entC : DV → Ent
  | .inl kds => .dct kds
  | .inr kds => .dck kds
theorem getC_some {i : Nat} {ρ : Dn} {m : DV} (h : getC i ρ = some m) : ρ[i]? = some (entC m) := by
  unfold getC at h
  split at h
  · rename_i e
    cases h
    exact e
  · rename_i e
    cases h
    exact e
  · cases h
theorem entC_ok {K : PySem.W.Frag} {O : Hid} {H : Hp} {dv : V} {ov : Option V} : ∀ {m : DV}, EntOk K O H dv ov (entC m) → ∃ p, ov = some (.ref p) ∧ O p ∧ DiOk K O H p m
  | .inl _, ⟨p, kvs, h1, h2, h3, h4⟩ => ⟨p, h1, h2, kvs, h3, h4⟩
  | .inr _, ⟨p, kvs, h1, h2, h3, h4⟩ => ⟨p, h1, h2, kvs, h3, h4⟩
theorem pdi_own (i : Nat) {x : Str} (hN : X.N[i]? = some x := by rfl) (hv : Vis X.env.scope x := by first | exact Or.inl rfl | exact Or.inr (Or.inl rfl) | exact Or.inr (Or.inr rfl)) (hd : (x == ("__debug__" : Str)) = false := by decide) (hcd : (x == ("__classdict__" : Str)) = false := by decide) : PDI X (.Name x pos) (getC i) :=
  ⟨(pe_var hN hv hd hcd).imp fun σ H Q ⟨O, dv, ρ, m, al, r, e, q⟩ => by
    obtain ⟨ov, h1, h2⟩ := r.2 i _ (getC_some e)
    obtain ⟨p, rfl, h3, h4⟩ := entC_ok h2
    exact ⟨_, h1, q p H (Same.refl H) h4⟩⟩
/-- a dict that is data -/
def unT : List (PyData × PyData) → Option (List (List Key × PyData))
  | [] => some []
  | (.tuple ks, d) :: r => (keysOf ks).bind fun k => (unT r).map fun l => (k, d) :: l
  | _ :: _ => none
theorem unT_kT : ∀ kds : List (List Key × PyData), unT (kds.map fun p => (kT p.1, p.2)) = some kds
  | [] => rfl
  | (k, d) :: r => by
    show (keysOf (k.map kD)).bind _ = _
    rw [keysOf_kD]
    show (unT (r.map _)).map _ = _
    rw [unT_kT r]
    rfl
def unK : List (PyData × PyData) → Option (List (Key × PyData))
  | [] => some []
  | (k, d) :: r => (keyOf k).bind fun k => (unK r).map fun l => (k, d) :: l
theorem unK_kD : ∀ kds : List (Key × PyData), unK (kds.map fun p => (kD p.1, p.2)) = some kds
  | [] => rfl
  | (k, d) :: r => by
    show (keyOf (kD k)).bind _ = _
    rw [keyOf_kD]
    show (unK (r.map _)).map _ = _
    rw [unK_kD r]
    rfl
def datC (b : Bool) (f : DF) : Dn → Option DV := fun ρ => (f ρ).bind fun d => match d with
  | .dict es => if es.isEmpty = true then none else if b = true then (unT es).map .inl else (unK es).map .inr
  | _ => none
theorem kv_of {κ : Type} {K : PySem.W.Frag} {H : Hp} : ∀ {kvs : List (κ × V)} {ds : List PyData}, DxAll K H (kvs.map (·.2)) ds → KvOk K H kvs ((kvs.map (·.1)).zip ds)
  | [], _, .nil => .nil
  | (k, v) :: kvs, _, .cons h r => .cons h (kv_of r)
theorem zip_fst {κ : Type} (g : κ → PyData) : ∀ (kvs : List κ) (ds : List PyData), kvs.length = ds.length → (kvs.map g).zip ds = ((kvs.zip ds).map fun p => (g p.1, p.2))
  | [], [], _ => rfl
  | k :: kvs, d :: ds, h => by rw [List.map_cons, List.zip_cons_cons, List.zip_cons_cons, List.map_cons, zip_fst g kvs ds (Nat.succ.inj h)]
theorem pdi_dat (b : Bool) (h : PF X e f) : PDI X e (datC b f) := ⟨h.pe.imp fun σ H Q ⟨O, dv, ρ, m, al, r, e, q⟩ => by
  obtain ⟨d, e1, e⟩ := Option.bind_eq_some_iff.mp e
  refine ⟨O, dv, ρ, d, al, r, e1, fun v H' s dx => ?_⟩
  cases dx with
  | dic h1 h2 e3 =>
    rename_i a kvs ds es
    have len := h2.len
    rw [List.length_map] at len
    have e4 : es = ((kvs.map (·.1)).zip ds).map fun p => (kD p.1, p.2) := by
      rw [e3, ← zip_fst kD _ _ (by rw [List.length_map]; exact len), List.map_map]
      rfl
    simp only at e
    split at e
    case isTrue => cases e
    rename_i ne
    cases b with
    | true =>
      exfalso
      simp only [if_true] at e
      cases kvs with
      | nil => apply ne; rw [e4]; rfl
      | cons p kvs =>
        cases ds with
        | nil => cases len
        | cons d ds =>
          rw [e4] at e
          obtain ⟨k, v⟩ := p
          cases k <;> cases e
    | false =>
      simp only [Bool.false_eq_true, if_false] at e
      rw [e4, unK_kD] at e
      cases e
      exact q _ H' s ⟨kvs, (fz_get h1).1, kv_of h2⟩
  | dct h1 h2 e3 =>
    rename_i a kvs ds es
    have len := h2.len
    rw [List.length_map] at len
    have e4 : es = ((kvs.map (·.1)).zip ds).map fun p => (kT p.1, p.2) := by
      rw [e3, ← zip_fst kT _ _ (by rw [List.length_map]; exact len), List.map_map]
      rfl
    simp only at e
    split at e
    case isTrue => cases e
    rename_i ne
    cases b with
    | false =>
      exfalso
      simp only [Bool.false_eq_true, if_false] at e
      cases kvs with
      | nil => apply ne; rw [e4]; rfl
      | cons p kvs =>
        cases ds with
        | nil => cases len
        | cons d ds =>
          rw [e4] at e
          cases e
    | true =>
      simp only [if_true] at e
      rw [e4, unT_kT] at e
      cases e
      exact q _ H' s ⟨kvs, (fz_get h1).1, kv_of h2⟩
  | _ => cases e⟩
def valD {κ : Type} [DecidableEq κ] (kds : List (κ × PyData)) (k : κ) : Option PyData := (kds.find? fun p => decide (p.1 = k)).map (·.2)
def putD {κ : Type} [DecidableEq κ] (kds : List (κ × PyData)) (k : κ) (d : PyData) : List (κ × PyData) :=
  if (kds.any fun p => decide (p.1 = k)) = true then kds.map (fun p => if p.1 = k then (p.1, d) else p) else kds ++ [(k, d)]
theorem kv_val {κ : Type} [DecidableEq κ] {K : PySem.W.Frag} {H : Hp} (k : κ) : ∀ {kvs : List (κ × V)} {kds : List (κ × PyData)}, KvOk K H kvs kds → (∀ d, valD kds k = some d → ∃ v, valV kvs k = some v ∧ Dx K H v d) ∧ (valD kds k = none → valV kvs k = none)
  | _, _, .nil => ⟨fun d e => (nomatch e), fun _ => rfl⟩
  | _, _, .cons (k := k') (v := v) (d := d) (kvs := kvs) (kds := kds) h r => by
    have ih := kv_val k r
    by_cases e : k' = k
    · have e1 : valD ((k', d) :: kds) k = some d := by simp [valD, List.find?_cons, e]
      have e2 : valV ((k', v) :: kvs) k = some v := valV_pos e
      rw [e1, e2]
      exact ⟨fun d' z => by cases z; exact ⟨v, rfl, h⟩, fun z => nomatch z⟩
    · have e1 : valD ((k', d) :: kds) k = valD kds k := by simp [valD, List.find?_cons, e]
      have e2 : valV ((k', v) :: kvs) k = valV kvs k := valV_neg e
      rw [e1, e2]
      exact ih
theorem kv_any {κ : Type} [DecidableEq κ] {K : PySem.W.Frag} {H : Hp} (k : κ) : ∀ {kvs : List (κ × V)} {kds : List (κ × PyData)}, KvOk K H kvs kds → (kvs.any fun p => decide (p.1 = k)) = (kds.any fun p => decide (p.1 = k))
  | _, _, .nil => rfl
  | _, _, .cons h r => by rw [List.any_cons, List.any_cons, kv_any k r]
theorem kv_len {κ : Type} {K : PySem.W.Frag} {H : Hp} : ∀ {kvs : List (κ × V)} {kds : List (κ × PyData)}, KvOk K H kvs kds → kvs.length = kds.length
  | _, _, .nil => rfl
  | _, _, .cons h r => by rw [List.length_cons, List.length_cons, kv_len r]
theorem kv_map {κ : Type} [DecidableEq κ] {K : PySem.W.Frag} {H : Hp} {v : V} {d : PyData} (k : κ) (dx : Dx K H v d) : ∀ {kvs : List (κ × V)} {kds : List (κ × PyData)}, KvOk K H kvs kds → KvOk K H (kvs.map fun p => if p.1 = k then (p.1, v) else p) (kds.map fun p => if p.1 = k then (p.1, d) else p)
  | _, _, .nil => .nil
  | _, _, .cons (k := k') h r => by
    rw [List.map_cons, List.map_cons]
    by_cases e : k' = k
    · rw [if_pos e, if_pos e]
      exact .cons dx (kv_map k dx r)
    · rw [if_neg e, if_neg e]
      exact .cons h (kv_map k dx r)
theorem kv_snoc {κ : Type} {K : PySem.W.Frag} {H : Hp} {v : V} {d : PyData} (k : κ) (dx : Dx K H v d) : ∀ {kvs : List (κ × V)} {kds : List (κ × PyData)}, KvOk K H kvs kds → KvOk K H (kvs ++ [(k, v)]) (kds ++ [(k, d)])
  | _, _, .nil => .cons dx .nil
  | _, _, .cons h r => .cons h (kv_snoc k dx r)
theorem kv_put {κ : Type} [DecidableEq κ] {K : PySem.W.Frag} {H : Hp} {v : V} {d : PyData} (k : κ) (dx : Dx K H v d) {kvs : List (κ × V)} {kds : List (κ × PyData)} (h : KvOk K H kvs kds) : KvOk K H (putK kvs k v) (putD kds k d) := by
  unfold putK putD
  rw [kv_any k h]
  split
  · exact kv_map k dx h
  · exact kv_snoc k dx h
/-- what a dict holds at a key -/
def lookO : DV → KeyD → Option (Option PyData)
  | .inl kds, .inr ks => some (valD kds ks)
  | .inr kds, .inl k => some (valD kds k)
  | _, _ => none
theorem dget_ok {K : PySem.W.Frag} {O : Hid} {H : Hp} {a : Addr} {y : V} : ∀ {m : DV} {k : KeyD} {o : Option PyData}, DiOk K O H a m → KyOk H y k → lookO m k = some o → (∀ d, o = some d → ∃ v, DGet H a y (some v) ∧ Dx K (Fz O H) v d) ∧ (o = none → DGet H a y none)
  | .inl kds, .inr ks, o, ⟨kvs, h1, h2⟩, ⟨b, e1, e2⟩, e => by
    cases e
    subst e1
    have kv := kv_val ks h2
    refine ⟨fun d e => ?_, fun e => ?_⟩
    · obtain ⟨v, k1, k2⟩ := kv.1 d e
      exact ⟨v, by rw [← k1]; exact .t h1 e2, k2⟩
    · rw [← kv.2 e]
      exact .t h1 e2
  | .inr kds, .inl k, o, ⟨kvs, h1, h2⟩, ek, e => by
    cases e
    have ek : y = kV k := ek
    subst ek
    have kv := kv_val k h2
    refine ⟨fun d e => ?_, fun e => ?_⟩
    · obtain ⟨v, k1, k2⟩ := kv.1 d e
      exact ⟨v, by rw [← k1]; exact .k h1, k2⟩
    · rw [← kv.2 e]
      exact .k h1
  | .inl _, .inl _, _, _, _, e => nomatch e
  | .inr _, .inr _, _, _, _, e => nomatch e
variable {gd : Dn → Option DV} {gk : Dn → Option KeyD}
/-- d[k] -/
def dgetF (gd : Dn → Option DV) (gk : Dn → Option KeyD) : DF := fun ρ => (gd ρ).bind fun m => (gk ρ).bind fun k => (lookO m k).bind fun o => o
theorem pf_dget (hu : X.A.units + 64 < cLine) (hd : PDI X a gd) (hk : PKY X b gk) (hs : NoSl b := by exact fun _ _ => rfl) : PF X (.Subscript a b pos) (dgetF gd gk) := ⟨(pe_dget (by omega) hd.pe hk.pe hs).imp fun σ H Q ⟨O, dv, ρ, d, al, r, e, q⟩ => by
  obtain ⟨m, e1, e⟩ := Option.bind_eq_some_iff.mp e
  obtain ⟨k, e2, e⟩ := Option.bind_eq_some_iff.mp e
  obtain ⟨o, e3, e4⟩ := Option.bind_eq_some_iff.mp e
  refine ⟨O, dv, ρ, m, al, r, e1, fun p H1 s1 h1 => ⟨O, dv, ρ, k, al.same s1, r.same s1, e2, fun y H2 s2 h2 => ?_⟩⟩
  obtain ⟨v, k1, k2⟩ := (dget_ok (h1.same s2) h2 e3).1 d e4
  exact ⟨p, v, rfl, k1, q v H2 (s1.trans s2) k2⟩⟩
end
end DS
namespace DS
open PySem PySem.Spec PyProof.Rows L2
/-! ### sorted(l, key=len), l a list of tuples -/
def leN {α : Type} (x y : α × Nat) : Bool := decide (x.2 ≤ y.2)
theorem each_of : ∀ {bs : List (V × Nat)} {its : List Value}, Vals (bs.map (·.1)) its → PySem.W.EachIs (fun (v : Value) (b : V × Nat) => RelV b.1 v) its bs
  | [], _, .nil => .nil
  | b :: bs, _, .cons r t => .cons r (each_of t)
theorem of_each : ∀ {bs : List (V × Nat)} {its : List Value}, PySem.W.EachIs (fun (v : Value) (b : V × Nat) => RelV b.1 v) its bs → Vals (bs.map (·.1)) its
  | [], _, .nil => .nil
  | b :: bs, _, .cons r t => .cons r (of_each t)
section
variable {X : Cx}
end
end DS
namespace DS
open PySem PySem.Spec PyProof.Rows L2
section
variable {X : Cx} {S : Fr} {a b e : Expr} {f fa fb fc : DF} {gd : Dn → Option DV} {gk : Dn → Option KeyD} {pos : Pos}
/-! ### k in d -/
theorem _root_.L2.PC.imp {op : CmpOp} {t t' : TE} (h : PC X op a b t) (k : ∀ σ H Q, t' σ H Q → t σ H Q) : PC X op a b t' := ⟨fun pins s σ H Q I q => h.run pins s σ H Q I (k σ H Q q)⟩
/-! ### d[k] = v, d a dict of one's own -/
def putC : DV → KeyD → PyData → Option DV
  | .inl kds, .inr ks, d => if kds.length < lim then some (.inl (putD kds ks d)) else none
  | .inr kds, .inl k, d => if kds.length < lim then some (.inr (putD kds k d)) else none
  | _, _, _ => none
theorem putC_ok {K : PySem.W.Frag} {O : Hid} {H : Hp} {p : Addr} {y v : V} {d : PyData} (hp : O p) (dx : Dx K (Fz O H) v d) : ∀ {m m' : DV} {k : KeyD}, DiOk K O H p m → KyOk H y k → putC m k d = some m' → ∃ o, DPut H p y v (upd H p o) ∧ DiOk K O (upd H p o) p m'
  | .inl kds, m', .inr ks, ⟨kvs, h1, h2⟩, ⟨b, e1, e2⟩, e => by
    simp only [putC] at e
    split at e
    case isFalse => cases e
    rename_i hl
    cases e
    subst e1
    refine ⟨_, .t h1 e2 (lim_le (by rw [kv_len h2]; exact hl)), _, upd_same, ?_⟩
    rw [fz_upd hp]
    exact kv_put ks dx h2
  | .inr kds, m', .inl k, ⟨kvs, h1, h2⟩, ek, e => by
    simp only [putC] at e
    split at e
    case isFalse => cases e
    rename_i hl
    cases e
    have ek : y = kV k := ek
    subst ek
    refine ⟨_, .k h1 (lim_le (by rw [kv_len h2]; exact hl)), _, upd_same, ?_⟩
    rw [fz_upd hp]
    exact kv_put k dx h2
  | .inl _, _, .inl _, _, _, e => nomatch e
  | .inr _, _, .inr _, _, _, e => nomatch e
theorem entC_of {K : PySem.W.Frag} {O : Hid} {H : Hp} {dv : V} {p : Addr} (hp : O p) : ∀ {m : DV}, DiOk K O H p m → EntOk K O H dv (some (.ref p)) (entC m)
  | .inl _, ⟨kvs, h1, h2⟩ => ⟨p, kvs, rfl, hp, h1, h2⟩
  | .inr _, ⟨kvs, h1, h2⟩ => ⟨p, kvs, rfl, hp, h1, h2⟩
theorem entC_hd {H : Hp} {p : Addr} (m : DV) : Hd H (some (.ref p)) (entC m) p := by cases m <;> rfl
theorem entC_hd' {H H' : Hp} {ov : Option V} {q : Addr} (m m' : DV) (h : Hd H ov (entC m) q) : Hd H' ov (entC m') q := by cases m <;> cases m' <;> exact h
def dPutC (i : Nat) (gk : Dn → Option KeyD) (fc : DF) : TD := fun DD ρ n => ∃ m k d m', fc ρ = some d ∧ getC i ρ = some m ∧ gk ρ = some k ∧ putC m k d = some m' ∧ DD.nx (ρ.set i (entC m')) n
theorem pd_dset (ok : S.Ok) (hu : X.A.units + 64 < cLine) (i : Nat) {x : Str} {p1 p3 : Pos} (hk : PKY X b gk) (hc : PF X e fc) (hN : X.N[i]? = some x := by rfl) (hv : Vis X.env.scope x := by first | exact Or.inl rfl | exact Or.inr (Or.inl rfl) | exact Or.inr (Or.inr rfl)) (hd : (x == ("__debug__" : Str)) = false := by decide) (hcd : (x == ("__classdict__" : Str)) = false := by decide)
    (hA : ∀ v, assign (.Subscript (.Name x p1) b p3) X.env v = (do
      let ov ← holding [v] (eval (.Name x p1) X.env)
      let iv ← holding [v, ov] (eval b X.env)
      standAt p3
      holding [v, ov, iv] (setItem ov iv v)
      release [v, ov, iv] []) := by intro _; rfl)
    (hs : swapsWithSole [.Subscript (.Name x p1) b p3] e pos.line X.env = pure false := by rfl) (hw : swappedStores [.Subscript (.Name x p1) b p3] e X.env = pure none := by rfl)
    (h1 : (assignEach [.Subscript (.Name x p1) b p3] X.env).map (·.2) = [assign (.Subscript (.Name x p1) b p3) X.env] := by rfl) :
    PD X S (.Assign [.Subscript (.Name x p1) b p3] e pos) (dPutC i gk fc) := ⟨(ps_asg hc.pe (pg_sub (pe_var hN hv hd hcd) hk.pe (set_dict (by omega)) hA) hs hw h1).imp fun D σ H ⟨B, O, ρ, n, DD, r, ⟨m, k, d, m', e1, e2, e3, e4, t⟩, E⟩ => by
  refine ⟨O, S.dv, ρ, d, r.al, r.rep, e1, fun v H1 s1 dv => ?_⟩
  have r1 := r.same ok s1
  obtain ⟨ov, z1, z2⟩ := r1.rep.2 i _ (getC_some e2)
  obtain ⟨p, rfl, z3, z4⟩ := entC_ok z2
  refine ⟨.ref p, z1, O, S.dv, ρ, k, r1.al, r1.rep, e3, fun y H2 s2 hy => ?_⟩
  have r2 := r1.same ok s2
  obtain ⟨o, w1, w2⟩ := putC_ok z3 (dv.same (s2.fz O)) (z4.same s2) hy e4
  exact ⟨p, _, rfl, w1, E.nx O σ _ _ n (r2.poke ok (getC_some e2) z1 (q := p) (entC_hd m) (entC_of z3 w2) fun a z => entC_hd' _ _ z) t⟩⟩
/-! ### l[i] = v, l a list of one's own -/
def dPutO (i : Nat) (fb fc : DF) : TD := fun DD ρ n => ∃ (x : PyData) (j : Nat) (ds : List PyData), fc ρ = some x ∧ getO i ρ = some ds ∧ (∃ k, fb ρ = some (.int k) ∧ ixN ds.length k = some j) ∧ DD.nx (ρ.set i (.own (ds.set j x))) n
theorem pd_lset (ok : S.Ok) (i : Nat) {x : Str} {p1 p3 : Pos} (hb : PF X b fb) (hc : PF X e fc) (hN : X.N[i]? = some x := by rfl) (hv : Vis X.env.scope x := by first | exact Or.inl rfl | exact Or.inr (Or.inl rfl) | exact Or.inr (Or.inr rfl)) (hd : (x == ("__debug__" : Str)) = false := by decide) (hcd : (x == ("__classdict__" : Str)) = false := by decide)
    (hA : ∀ v, assign (.Subscript (.Name x p1) b p3) X.env v = (do
      let ov ← holding [v] (eval (.Name x p1) X.env)
      let iv ← holding [v, ov] (eval b X.env)
      standAt p3
      holding [v, ov, iv] (setItem ov iv v)
      release [v, ov, iv] []) := by intro _; rfl)
    (hs : swapsWithSole [.Subscript (.Name x p1) b p3] e pos.line X.env = pure false := by rfl) (hw : swappedStores [.Subscript (.Name x p1) b p3] e X.env = pure none := by rfl)
    (h1 : (assignEach [.Subscript (.Name x p1) b p3] X.env).map (·.2) = [assign (.Subscript (.Name x p1) b p3) X.env] := by rfl) :
    PD X S (.Assign [.Subscript (.Name x p1) b p3] e pos) (dPutO i fb fc) := ⟨(ps_asg hc.pe (pg_sub (pe_var hN hv hd hcd) hb.pe set_list hA) hs hw h1).imp fun D σ H ⟨B, O, ρ, n, DD, r, ⟨d, j, ds, e1, e2, ⟨k, e3, e4⟩, t⟩, E⟩ => by
  refine ⟨O, S.dv, ρ, d, r.al, r.rep, e1, fun v H1 s1 dv => ?_⟩
  have r1 := r.same ok s1
  obtain ⟨p, vs, z1, z2, z3, z4⟩ := own_at r1.rep e2
  refine ⟨.ref p, z1, O, S.dv, ρ, _, r1.al, r1.rep, e3, fun y H2 s2 hy => ?_⟩
  cases hy
  have r2 := r1.same ok s2
  refine ⟨p, vs, k, j, rfl, rfl, s2 _ _ z3, by rw [z4.len]; exact e4, ?_⟩
  exact E.nx O σ _ _ n (r2.put ok (getO_some e2) z1 (setDx (dv.same (s2.fz O)) j (z4.same (s2.fz O)))) t⟩
/-! ### min, max of two ints -/
def min2D : List PyData → Option PyData
  | [.int i, .int j] => some (.int (if j < i then j else i))
  | _ => none
/-! ### sum, max, min of a list of ints -/
def sumD : List PyData → Option PyData
  | [.list ds] => (intsD ds).map fun is => .int is.sum
  | _ => none
/-! ### sorted(l, key=len) -/
def sortLenD : PyData → Option PyData
  | .list ds => (lensD ds).map fun ls => .list (((ds.zip ls).mergeSort leN).map (·.1))
  | _ => none
def sortLenF (f : DF) : DF := fun ρ => (f ρ).bind sortLenD
theorem lens_len : ∀ {ds : List PyData} {ls : List Nat}, lensD ds = some ls → ds.length = ls.length
  | [], _, h => by cases h; rfl
  | d :: ds, _, h => by
    obtain ⟨n, e1, h⟩ := Option.bind_eq_some_iff.mp h
    obtain ⟨ns, e2, h⟩ := Option.bind_eq_some_iff.mp h
    cases h
    rw [List.length_cons, List.length_cons, lens_len e2]
theorem zip3 {α β γ : Type} : ∀ (xs : List α) (ds : List β) (ls : List γ), xs.length = ds.length → ds.length = ls.length → ((xs.zip ds).zip ls).map (fun t => (t.1.1, t.2)) = xs.zip ls ∧ ((xs.zip ds).zip ls).map (fun t => (t.1.2, t.2)) = ds.zip ls
  | [], [], _, _, _ => ⟨rfl, rfl⟩
  | x :: xs, d :: ds, [], _, h => nomatch h
  | x :: xs, d :: ds, l :: ls, h1, h2 => by
    obtain ⟨a, b⟩ := zip3 xs ds ls (Nat.succ.inj h1) (Nat.succ.inj h2)
    simp only [List.zip_cons_cons, List.map_cons, a, b, and_self]
end
end DS
namespace DS
open PySem PySem.Spec PyProof.Rows L2
section
variable {X : Cx} {S : Fr} {st : Stmt}
def sSetN (i : Nat) (g : Dn → Option Ent) : SF := fun ρ => (g ρ).bind fun E => some (.nx (ρ.set i E))
theorem pz_of_setN {i : Nat} {g : Dn → Option Ent} (h : PD X S st (dSetN i g)) : PZ X S st (sSetN i g) := ⟨h.imp fun DD ρ n ⟨r, e, t⟩ => by
  obtain ⟨E, e1, e2⟩ := Option.bind_eq_some_iff.mp e
  cases e2
  exact ⟨E, e1, t⟩⟩
def sPutC (i : Nat) (gk : Dn → Option KeyD) (fc : DF) : SF := fun ρ => (fc ρ).bind fun d => (getC i ρ).bind fun m => (gk ρ).bind fun k => (putC m k d).bind fun m' => some (.nx (ρ.set i (entC m')))
theorem pz_of_putC {i : Nat} {gk : Dn → Option KeyD} {fc : DF} (h : PD X S st (dPutC i gk fc)) : PZ X S st (sPutC i gk fc) := ⟨h.imp fun DD ρ n ⟨r, e, t⟩ => by
  obtain ⟨d, e1, e⟩ := Option.bind_eq_some_iff.mp e
  obtain ⟨m, e2, e⟩ := Option.bind_eq_some_iff.mp e
  obtain ⟨k, e3, e⟩ := Option.bind_eq_some_iff.mp e
  obtain ⟨m', e4, e⟩ := Option.bind_eq_some_iff.mp e
  cases e
  exact ⟨m, k, d, m', e1, e2, e3, e4, t⟩⟩
def sPutO (i : Nat) (fb fc : DF) : SF := fun ρ => (fc ρ).bind fun x => (getO i ρ).bind fun ds => (fb ρ).bind fun k => (toI k).bind fun k => (ixN ds.length k).bind fun j => some (.nx (ρ.set i (.own (ds.set j x))))
theorem pz_of_putO {i : Nat} {fb fc : DF} (h : PD X S st (dPutO i fb fc)) : PZ X S st (sPutO i fb fc) := ⟨h.imp fun DD ρ n ⟨r, e, t⟩ => by
  obtain ⟨x, e1, e⟩ := Option.bind_eq_some_iff.mp e
  obtain ⟨ds, e2, e⟩ := Option.bind_eq_some_iff.mp e
  obtain ⟨d, e3, e⟩ := Option.bind_eq_some_iff.mp e
  obtain ⟨k, e4, e⟩ := Option.bind_eq_some_iff.mp e
  obtain ⟨j, e5, e⟩ := Option.bind_eq_some_iff.mp e
  cases e
  rw [toI_some e4] at e3
  exact ⟨x, j, ds, e1, e2, ⟨k, e3, e5⟩, t⟩⟩
def sPop (t i : Nat) : SF := fun ρ => (getO i ρ).bind fun ds => (ds.getLast?).bind fun x => some (.nx ((ρ.set i (.own ds.dropLast)).set t (.dat x)))
theorem pz_of_pop {t i : Nat} (h : PD X S st (dSetX t (xPop i))) : PZ X S st (sPop t i) := ⟨h.imp fun DD ρ n ⟨r, e, w⟩ => by
  obtain ⟨ds, e1, e⟩ := Option.bind_eq_some_iff.mp e
  obtain ⟨x, e2, e⟩ := Option.bind_eq_some_iff.mp e
  cases e
  refine ⟨ds.dropLast, x, ?_, w⟩
  rw [e1]
  congr 1
  obtain ⟨hn, hl⟩ := List.getLast?_eq_some_iff.mp e2
  rw [hl, List.dropLast_concat]⟩
/-- x, y = a, b where a name is a cell: a tuple is made and taken apart -/
theorem pd_parC (ok : S.Ok) {i j : Nat} {x y : Str} {a b : Expr} {ga gb : Dn → Option Ent} {px py pt pos : Pos} {kt k2 pt2} (hc : X.calm = true) (hN : X.N.Nodup) (hi : X.N[i]? = some x) (hj : X.N[j]? = some y)
    (hx : Loc X.env.scope x) (hy : Loc X.env.scope y) (ha : PN X a ga) (hb : PN X b gb)
    (hw : swappedStores [.Tuple [.Name x px, .Name y py] kt pt] (.Tuple [a, b] k2 pt2) X.env = pure none := by rfl)
    (hs : swapsWithSole [.Tuple [.Name x px, .Name y py] kt pt] (.Tuple [a, b] k2 pt2) pos.line X.env = pure false := by rfl)
    (h1 : (assignEach [.Tuple [.Name x px, .Name y py] kt pt] X.env).map (·.2) = [assign (.Tuple [.Name x px, .Name y py] kt pt) X.env] := by rfl)
    (hfx : X.fn x = true ∨ X.env.scope.names.lookup x = some .local := by first | exact .inl rfl | exact .inr rfl | assumption) (hfy : X.fn y = true ∨ X.env.scope.names.lookup y = some .local := by first | exact .inl rfl | exact .inr rfl | assumption)
    (s1 : starEach [a, b] X.env = (false, eval a X.env) :: starEach [b] X.env := by rfl) (s2 : starEach [b] X.env = (false, eval b X.env) :: starEach [] X.env := by rfl)
    (e1 : (assignEach [.Name x px, .Name y py] X.env).map (·.2) = assign (.Name x px) X.env :: (assignEach [.Name y py] X.env).map (·.2) := by rfl) (e2 : (assignEach [.Name y py] X.env).map (·.2) = assign (.Name y py) X.env :: (assignEach [] X.env).map (·.2) := by rfl)
    (hn : (assignEach [.Name x px, .Name y py] X.env).length = 2 := by rfl) (hst : (assignEach [.Name x px, .Name y py] X.env).findIdx? (·.1) = none := by rfl) :
    PD X S (.Assign [.Tuple [.Name x px, .Name y py] kt pt] (.Tuple [a, b] k2 pt2) pos) (dParN i j ga gb) := ⟨(ps_asg (pe_tup (pa_cons ha.pe (pa_cons hb.pe pa_nil s2) s1)) (pg_tup hc (pgs_cons (pg_name hN hi hx hfx) (pgs_cons (pg_name hN hj hy hfy) pgs_nil e2) e1) hn hst) hs hw h1).imp fun D σ H ⟨B, O, ρ, n, DD, r, ⟨E, F, e1, e2, t⟩, En⟩ =>
  ⟨O, S.dv, ρ, E, r.al, r.rep, e1, fun v A H1 s1 nA k th inn => ⟨plus O A, S.dv, ρ, F, al_plus r.al s1 th, r.rep.shift s1 (fz_plus s1 nA) (fun p z => .inl z), e2, fun u A2 H2 s2 nA2 k2 th2 inn2 =>
    ⟨(show 2 ≤ sizeLine by decide), fun q nq => ⟨q, [v, u], rfl, .inl (.inl upd_same), rfl, v, [u], rfl, u, [], rfl, rfl, En.nx _ _ _ _ n (((r.fresh ok s1 nA k th inn i).fresh ok s2 nA2 k2 th2 inn2 j).same ok (new_same nq)) t⟩⟩⟩⟩⟩
end
/-! ### draws, with a bound on the count of one's own -/
end DS
namespace DS
open PySem PySem.Spec PyProof.Rows L2
section
variable {X : Cx}
end
end DS
namespace DS
open PySem PySem.Spec PyProof.Rows L2
/-! ### sorted(set(t)), t a tuple of ints -/
/-! ### x in l, l a list of one's own -/
section
variable {X : Cx} {a : Expr} {f : DF}
end
/-! ### {text: number} as data -/
end DS
namespace DS
open PySem PySem.Spec PyProof.Rows L2
section
variable {X : Cx} {S : Fr} {T : TD} {Ta : TXP} {pos : Pos}
end
end DS
set_option maxHeartbeats 4000000
namespace DS
open PySem PySem.Spec PyProof.Rows L2
/-! ### + and - of a bool and an int, str of an int, a bool, a text -/
section
variable {X : Cx}
def b2i (c : Bool) : Int := if c = true then 1 else 0
def gAddB (d e : PyData) : Option PyData := match d, e with
  | .bool c, .int j => some (.int (b2i c + j))
  | d, e => gAdd d e
def strD : List PyData → Option PyData
  | [.int i] => if i.natAbs < 10 ^ 40 then some (.str (toString i)) else none
  | [.bool c] => some (.str (if c then "True" else "False"))
  | _ => none
end
end DS
namespace DS
open PySem PySem.Spec PyProof.Rows L2
section
variable {X : Cx} {a b : Expr} {fa fb : DF} {pos : Pos}
/-- two lists joined: a new one -/
def addL (fa fb : DF) : Dn → Option (List PyData) := fun ρ => (fa ρ).bind fun d => (fb ρ).bind fun e => match d, e with
  | .list xs, .list ys => if xs.length + ys.length < lim then some (xs ++ ys) else none
  | _, _ => none
end
end DS
set_option maxHeartbeats 4000000
namespace DS
open PySem PySem.Spec PyProof.Rows L2
/-! ### tuple * int -/
theorem tuple_mul1 (l : Addr) (items : Array Value) (n : Nat) (dd : Option Addr) (sl : Array (Option Value)) (x : Int) (u : Tok) (c0 : (decide (x < -(2 ^ 63)) || decide (x ≥ 2 ^ 63)) = false) (c1 : (items.isEmpty || x == 1) = true) :
    Meets (Builtin.«tuple.__mul__» ⟨[.ref l, .int x u], []⟩) (fun _ R s => s.heap.get? l = some { cls := .type "tuple", dict := dd, data := .seq items n, slots := sl } ∧
      R (.ok (.ret (Value.ref l))) s) :=
  .of_wp fun prog w A R s h => by
    obtain ⟨hp, g, d, tk, os⟩ := s
    obtain ⟨hl, h⟩ := h
    have f1 := AutoSeq1.idx_int
    wp_walk using wpAny_loadPart' hl
    repeat (first
      | (refine wpAny_ite_false (decide_eq_false (by rw [c0]; exact Bool.false_ne_true)) ?_; wp_walk using wpAny_loadPart' hl)
      | (refine wpAny_ite_true (decide_eq_true c1) ?_; wp_walk using wpAny_loadPart' hl))
    exact ⟨_, rfl, h⟩
section
variable {X : Cx}
theorem op_rep1 : OpR X (binaryOp .Mult) (fun x y H Q => ∃ l xs, x = .ref l ∧ y = .int 1 ∧ SqT X.K H l xs ∧ Q (.ref l) H) := by
  intro pins s σ H x y v u Q I rx ry h
  obtain ⟨l, xs, rfl, rfl, hT, q⟩ := h
  cases rx
  obtain ⟨t, rfl⟩ := ry
  obtain ⟨its, r, ⟨⟨cls, dd, data, sl⟩, ho, hc, n, hd⟩, hs⟩ := I.tuple hT
  simp only at hc hd
  subst hc hd
  have c0 : (decide ((1 : Int) < -(2 ^ 63)) || decide ((1 : Int) ≥ 2 ^ 63)) = false := by decide
  have c1 : (its.toArray.isEmpty || (1 : Int) == 1) = true := by rw [show ((1 : Int) == 1) = true from rfl, Bool.or_true]
  refine wpAny_binaryOp_repeat_ref (T := "tuple") (U := "int") (by decide) ⟨_, ho, rfl⟩ (fun s' => typeIs_int s' 1 t) noFill_tuple_mul F.fills_int_mul F.slot_int_rmul repeat_tuple F.slot_int_index.lookup
    (call_meets F.slot_int_rmul (typeIs_int s 1 t) F.entry_int_rmul (F.args_int_rmul_2 _ _) (int_rmul_tuple 1 t l its.toArray n dd sl)
      ⟨ho, rfl, ⟨_, ho, rfl⟩, call_meets F.slot_tuple_mul ⟨_, ho, rfl⟩ F.entry_tuple_mul (F.args_tuple_mul_2 _ _) (tuple_mul1 l its.toArray n dd sl 1 t c0 c1) ⟨ho, ?_⟩⟩)
  exact ⟨.ref l, H, I, rfl, q⟩
/-- a product, of a tuple too -/
def gMulT (d e : PyData) : Option PyData := match d, e with
  | .tuple xs, .int k => if xs ≠ [] ∧ 1 ≤ k ∧ k ≤ 1000 ∧ xs.length ≤ 1000 then some (.tuple (List.replicate k.toNat xs).flatten) else none
  | d, e => gIC cMul (fun i j => .int (i * j)) d e
theorem of_mulT : OpR X (binaryOp .Mult) (r2F X.K gMulT) := ((op_rep1.or op_repT).or of_mul).imp fun x y H Q ⟨O, d, e, c, al, dx, dy, g, q⟩ => by
  unfold gMulT at g
  split at g
  · rename_i xs k
    split at g
    case isFalse => cases g
    rename_i hh
    obtain ⟨h0, h1, h2, h3⟩ := hh
    cases g
    cases dx with
    | tup t1 t2 =>
      cases dy
      have hl : _ = xs.length := t2.len
      by_cases e : k = 1
      · subst e
        refine .inl (.inl ⟨_, _, rfl, rfl, sqT_same (fz_sub O H) t1, q _ H (Same.refl H) ?_⟩)
        have : (List.replicate (1 : Int).toNat xs).flatten = xs := by simp
        rw [this]
        exact .tup t1 t2
      · refine .inl (.inr ⟨_, k, _, rfl, rfl, sqT_same (fz_sub O H) t1, fun z => ?_, by omega, h2, by omega, fun p np => ?_⟩)
        · rw [z] at hl
          exact h0 (List.eq_nil_of_length_eq_zero hl.symm)
        · exact q _ _ (new_same np) (Dx.newT al np (t2.rep _))
  · exact .inr ⟨O, _, _, c, al, dx, dy, g, q⟩
end
end DS
set_option maxHeartbeats 4000000
namespace DS
open PySem PySem.Spec PyProof.Rows L2
/-! ### comprehensions whose test draws -/
end DS
namespace DS
open PySem PySem.Spec PyProof.Rows L2
/-! ### or, and over values of any truth -/
section
variable {X : Cx} {a b : Expr} {rest : List Expr} {fa fb : DF} {pos : Pos}
end
end DS
set_option maxHeartbeats 4000000
namespace DS
open PySem PySem.Spec PyProof.Rows L2
/-! ### decks of any family: the law's start -/
def spBegin (Fam : FamT) (K : PySem.W.Frag) : Sp := fun vs H Q _ => ∃ (a : Addr) (ns : List Int), vs = [.ref a] ∧ SqL K H a (ns.map V.int) ∧ ns.length ≤ 63 ∧
  ∀ (H' : Hp) (dv : V) (M : Hid) (Dk : Hp → Nat → Prop), Fam dv M Dk → Al M H' → Dk H' 0 → Q dv H'
theorem fn_lawF {Fam : FamT} (fo : FamOk Fam) {P : Program} {w : World} {K : PySem.W.Frag} {mg : Str → Option Value} {base : Heap} {qual : Str} {st : Stmt} {N : List Str} {xs xd fn : Str} {f fS : Addr} {fd dS : FuncData} {k i : Nat} {px pe p1 p2 pos : Pos} {rest : List Stmt}
    (F : Fun K "law" qual st f fd) (Sc : FnScope N [xs] (defScope st)) (GS : FnG P w K mg base CX0 k fS dS [xs] (spBegin Fam K)) (kS : PySem.W.keepIn K (.ref fS) = true) (gS : mg fn = some (.ref fS)) (bS : Binds K dS [xs] [])
    (hbody : defBody st = .Assign [.Name xd px] (.Call (.Name fn p1) [.Name xs p2] [] pe) pos :: rest)
    (hN0 : N[0]? = some xs) (hNi : N[i]? = some xd) (hi : 0 < i)
    (hst : ∀ (cdv : Value) (A : Around) (outer : List Env) (s : Shared) (H : Hp) (E : XK), (A.deeper (envOfC qual (defScope st) s.heap.objs.size f cdv)).guards = some [] → Room k (A.deeper (envOfC qual (defScope st) s.heap.objs.size f cdv)) →
      ∃ t1, PS (cxOf CX0 P w K mg base N qual (defScope st) f cdv A outer s H E).nox (.Assign [.Name xd px] (.Call (.Name fn p1) [.Name xs p2] [] pe) pos) t1 ∧ (∀ D σ H, tAsg (tCall (spBegin Fam K) [] (fun _ _ _ => False) (tCons (tVar 0) tNil)) (gName i) D σ H → t1 D σ H) ∧
      ∀ S : Fr, S.Ok → Fam S.dv S.M S.Dk → ∃ T, PDs (cxOf CX0 P w K mg base N qual (defScope st) f cdv A outer s H E).nox S rest T ∧ T ⟨fun _ _ => False, fun d _ => d = .bool true, fun _ _ => False, fun _ _ => False⟩ ((List.replicate N.length .na).set i .dk) 0) : FnG P w K mg base CX0 (k + 1) f fd [xs] (spLaw K) := by
  refine FnG.ok F Sc (fun vs H Q E h => ?_) (fun cdv A outer s H vs Q E hg hr h => ?_)
  · obtain ⟨a, ns, rfl, _⟩ := h
    rfl
  · obtain ⟨a, ns, rfl, ha, hn, q⟩ := h
    obtain ⟨t1, ht1, im, hrest⟩ := hst cdv A outer s H E hg hr
    rw [hbody]
    refine ⟨_, pss_cons ht1 pss_anyE, im _ _ _ ?_⟩
    have hlt : i < N.length := (List.getElem?_eq_some_iff.mp hNi).1
    have ls : (L2.start N [.ref a]).length = N.length := by
      unfold L2.start
      simp
      omega
    refine ⟨.ref a, rfl, a, ns, rfl, ha, hn, fun H' dv M Dk fam al D => ?_⟩
    obtain ⟨T, hT, want⟩ := hrest ⟨H', M, M, dv, Dk⟩ ⟨fo.dk dv M Dk fam, al⟩ fam
    refine ⟨⟨H', M, M, dv, Dk⟩, T, hT, Fz M H', M, (List.replicate N.length .na).set i .dk, 0, _, ⟨al, ⟨?_, fun j e z => ?_⟩, fun b x e _ => e, fun _ z => z, fun _ z => z, Same.refl _, fun j e ov x z1 z2 z3 => ?_, D⟩, want, ?_⟩
    · rw [List.length_set, List.length_replicate, List.length_set, ls]
    · by_cases hj : i = j
      · subst hj
        rw [List.getElem?_set_self (by rw [List.length_replicate]; exact hlt)] at z
        cases z
        exact ⟨some dv, List.getElem?_set_self (by rw [ls]; exact hlt), rfl⟩
      · rw [List.getElem?_set_ne hj, List.getElem?_replicate] at z
        split at z
        case isFalse => cases z
        rename_i hjl
        cases z
        have : j < ((L2.start N [.ref a]).set i (some dv)).length := by rw [List.length_set, ls]; exact hjl
        exact ⟨_, List.getElem?_eq_getElem this, trivial⟩
    · exfalso
      by_cases hj : i = j
      · subst hj
        rw [List.getElem?_set_self (by rw [List.length_replicate]; exact hlt)] at z1
        cases z1
        exact z3
      · rw [List.getElem?_set_ne hj, List.getElem?_replicate] at z1
        split at z1
        case isFalse => cases z1
        cases z1
        exact z3
    · refine ⟨fun O' σ' H2 ρ' n' _ e => e.elim, fun O' σ' H2 ρ' n' _ e => e, fun O' σ' H2 ρ' n' _ e => e, fun v H2 e n' dx _ _ _ h => ?_⟩
      rw [show e = .bool true from h] at dx
      cases dx
      exact q H2
/-! ### decks [cells, count, rests] -/
structure Deck2 (H : Hp) (d c r : Addr) (n : Nat) : Prop where
  ex : ∃ (cs rs : List Int) (k : Nat), H d = some (.lst [.ref c, .int k, .ref r]) ∧ H c = some (.lst (cs.map V.int)) ∧ H r = some (.lst (rs.map V.int)) ∧
    cs.length = rs.length ∧ 0 < cs.length ∧ cs.length ≤ 64 ∧ k ≤ n
  dc : d ≠ c
  dr : d ≠ r
  cr : c ≠ r
/-- a draw below at most a milliard -/
def wDrG (B : Nat) : WD := fun ds n Q => ∃ m : Int, ds = [.int m] ∧ 0 < m ∧ m < 1000000000 ∧ n < B ∧ ∀ k : Int, 0 ≤ k → k < m → Q (.int k) (n + 1)
theorem wDrG_mono (B : Nat) : MonoW (wDrG B) := fun ds n Q Q' k ⟨m, e, h1, h2, h3, q⟩ => ⟨m, e, h1, h2, h3, fun j a b => k _ _ (q j a b)⟩
end DS
namespace DS
open PySem PySem.Spec PyProof.Rows L2
section
variable {X : Cx} {S : Fr} {pos : Pos}
end
end DS
set_option maxHeartbeats 4000000
namespace DS
open PySem PySem.Spec PyProof.Rows L2
/-! ### iterators that draw -/
def tXI (K : PySem.W.Frag) (S : Fr) (T : TXA) : L2.TI := fun σ H R => ∃ B O ρ n, RepS K S B O H σ ρ n ∧ T ρ n fun xs ρ' n' => ∀ J H', RepS K S B O H' σ ρ' n' → ItD K O H' J xs → R J H'
structure PXI (X : Cx) (S : Fr) (tg e : Expr) (T : TXA) : Prop where
  pi : PI X tg e (tXI X.K S T)
  mono : MonoX T
section
variable {X : Cx} {S : Fr} {tg e : Expr} {Ta : TXP} {p pos : Pos}
/-! for over them -/
end
/-! ### comprehensions over them, with or without a test that draws -/
/-- tests -/
structure PXTs (X : Cx) (S : Fr) (ifs : List Expr) (T : TXB) : Prop where
  pts : PTs X ifs (tXT X.K S T)
  mono : MonoX T
section
variable {X : Cx} {S : Fr} {elt tg iter : Expr} {ifs : List Expr} {scope : Scope} {own : List (Str × Nat)} {pos : Pos} {Ti : TXA} {sl : List Nat} {g : PyData → Dn → Option Dn} {Tt : TXB} {Te : TXP}
end
end DS
namespace DS
open PySem PySem.Spec PyProof.Rows L2
/-! ### a pair that is made and is a dict's key at once -/
def tFK2 (K : PySem.W.Frag) (f : Dn → Option (List Key)) : TE := fun σ H Q => ∃ O dv ρ ks, Al O H ∧ RepE K O H dv σ ρ ∧ f ρ = some ks ∧ ∀ b H', Same H H' → H' b = some (.tup (ks.map kV)) → Dx K (Fz O H') (.ref b) (.tuple (ks.map kD)) → Q (.ref b) H'
structure PK2 (X : Cx) (e : Expr) (f : Dn → Option (List Key)) : Prop where
  pe : PE X e (tFK2 X.K f)
section
variable {X : Cx} {S : Fr} {a b c : Expr} {pos : Pos}
end
end DS
set_option maxHeartbeats 4000000
namespace DS
open PySem PySem.Spec PyProof.Rows L2
/-! ### in, of items of any kind that == takes -/
theorem reads_one_all {h : Heap} : (∀ {v : Value} {d : PyData} {as : List Addr}, Reads h v d as → ∀ d' as', Reads h v d' as' → d = d') ∧ (∀ {vs : List Value} {ds : List PyData} {as : List Addr}, ReadsAll h vs ds as → ∀ ds' as', ReadsAll h vs ds' as' → ds = ds') := by
  have key : ∀ (n : Nat), (∀ {v : Value} {d : PyData} {as : List Addr}, sizeOf d < n → Reads h v d as → ∀ d' as', Reads h v d' as' → d = d') := by
    intro n
    induction n with
    | zero => intro v d as hn; omega
    | succ n ih =>
      have all : ∀ (xs : List PyData), sizeOf xs ≤ n → ∀ (vs : List Value) (as : List Addr), ReadsAll h vs xs as → ∀ ds' as', ReadsAll h vs ds' as' → xs = ds' := by
        intro xs
        induction xs with
        | nil =>
          intro _ vs as r ds' as' r'
          cases r
          cases r'
          rfl
        | cons x xs ihx =>
          intro hs vs as r ds' as' r'
          cases r with
          | cons r1 r2 =>
            cases r' with
            | cons s1 s2 =>
              have e1 : sizeOf (x :: xs) = 1 + sizeOf x + sizeOf xs := by simp
              rw [ih (by omega) r1 _ _ s1, ihx (by omega) _ _ r2 _ _ s2]
      intro v d as hn r d' as' r'
      cases r with
      | none => cases r'; rfl
      | bool b => cases r'; rfl
      | int i t => cases r'; rfl
      | str x t => cases r'; rfl
      | list h1 h2 h3 h4 =>
        rename_i a o vs k xs as
        have hx : sizeOf xs ≤ n := by simp at hn; omega
        cases r' with
        | list g1 g2 g3 g4 =>
          rw [h1] at g1; cases g1
          rw [h3] at g3; cases g3
          rw [all _ hx _ _ h4 _ _ g4]
        | tuple g1 g2 g3 g4 => rw [h1] at g1; cases g1; rw [h2] at g2; injection g2 with e; exact absurd e (by decide)
        | dict g1 g2 g3 g4 g5 => rw [h1] at g1; cases g1; rw [h2] at g2; injection g2 with e; exact absurd e (by decide)
      | tuple h1 h2 h3 h4 =>
        rename_i a o vs k xs
        have hx : sizeOf xs ≤ n := by simp at hn; omega
        cases r' with
        | tuple g1 g2 g3 g4 =>
          rw [h1] at g1; cases g1
          rw [h3] at g3; cases g3
          rw [all _ hx _ _ h4 _ _ g4]
        | list g1 g2 g3 g4 => rw [h1] at g1; cases g1; rw [h2] at g2; injection g2 with e; exact absurd e (by decide)
        | dict g1 g2 g3 g4 g5 => rw [h1] at g1; cases g1; rw [h2] at g2; injection g2 with e; exact absurd e (by decide)
      | dict h1 h2 h3 h4 h5 =>
        rename_i a o es k kvs as bs
        have z1 : ∀ kvs : List (PyData × PyData), sizeOf (kvs.map (·.1)) ≤ sizeOf kvs ∧ sizeOf (kvs.map (·.2)) ≤ sizeOf kvs := by
          intro kvs
          induction kvs with
          | nil => simp
          | cons p kvs ih => obtain ⟨a, b⟩ := p; simp; omega
        obtain ⟨za, zb⟩ := z1 kvs
        have hx : sizeOf kvs ≤ n := by simp at hn; omega
        cases r' with
        | dict g1 g2 g3 g4 g5 =>
          rename_i kvs' _ _
          rw [h1] at g1; cases g1
          rw [h3] at g3; cases g3
          have e1 := all _ (by omega) _ _ h4 _ _ g4
          have e2 := all _ (by omega) _ _ h5 _ _ g5
          congr 1
          have : ∀ (l m : List (PyData × PyData)), l.map (·.1) = m.map (·.1) → l.map (·.2) = m.map (·.2) → l = m := by
            intro l
            induction l with
            | nil => intro m e _; cases m with
              | nil => rfl
              | cons p m => simp at e
            | cons p l ih => intro m e1 e2; cases m with
              | nil => simp at e1
              | cons q m =>
                simp at e1 e2
                rw [ih m e1.2 e2.2]
                obtain ⟨a, b⟩ := p
                obtain ⟨c, d⟩ := q
                simp at e1 e2
                rw [e1.1, e2.1]
          exact this _ _ e1 e2
        | list g1 g2 g3 g4 => rw [h1] at g1; cases g1; rw [h2] at g2; injection g2 with e; exact absurd e (by decide)
        | tuple g1 g2 g3 g4 => rw [h1] at g1; cases g1; rw [h2] at g2; injection g2 with e; exact absurd e (by decide)
  have one : ∀ {v : Value} {d : PyData} {as : List Addr}, Reads h v d as → ∀ d' as', Reads h v d' as' → d = d' := fun r => key _ (Nat.lt_succ_self _) r
  refine ⟨one, ?_⟩
  intro vs ds as r
  have : ∀ (xs : List PyData) (vs : List Value) (as : List Addr), ReadsAll h vs xs as → ∀ ds' as', ReadsAll h vs ds' as' → xs = ds' := by
    intro xs
    induction xs with
    | nil =>
      intro vs as r ds' as' r'
      cases r
      cases r'
      rfl
    | cons x xs ihx =>
      intro vs as r ds' as' r'
      cases r with
      | cons r1 r2 =>
        cases r' with
        | cons s1 s2 => rw [one r1 _ _ s1, ihx _ _ r2 _ _ s2]
  exact this _ _ _ r
section
variable {X : Cx}
end
end DS
namespace DS
open PySem PySem.Spec PyProof.Rows L2
section
variable {X : Cx}
end
end DS
namespace DS
open PySem PySem.Spec PyProof.Rows L2
/-! ### a text or a tuple from its end -/
section
variable {X : Cx}
variable {P : Program} {w : World} {K : PySem.W.Frag} {mg : Str → Option Value} {base : Heap} {e : Expr} {f : DF} {pos : Pos}
end
end DS
namespace DS
open PySem PySem.Spec PyProof.Rows L2
/-! ### a.replace("x", "y") in a display, behind a written text -/
def PET1 (X : Cx) (e : Expr) (t : TE) : Prop :=
  ∀ (pins : List (Addr × Obj)) (s : Shared) (σ : L2.St) (H : Hp) (Q : VK), 1 ≤ s.toks → Inv X pins σ H s → t σ H Q → wpAny (model X.prog X.w) X.A (eval e X.env) (EP X pins σ Q) X.xe s
def PAT1 (X : Cx) (es : List Expr) (t : TA) : Prop :=
  ∀ (pos : Pos) (pins : List (Addr × Obj)) (s : Shared) (σ : L2.St) (H : Hp) (Q : List V → Hp → Prop), 1 ≤ s.toks → Inv X pins σ H s → t σ H Q → wpAny (model X.prog X.w) X.A (spliced (backTo pos (starEach es X.env))) (AP X pins σ Q) X.xe s
def PEO (X : Cx) (e : Expr) (t : TE) : Prop :=
  ∀ (pins : List (Addr × Obj)) (s : Shared) (σ : L2.St) (H : Hp) (Q : VK), Inv X pins σ H s → t σ H Q → wpAny (model X.prog X.w) X.A (eval e X.env) (fun v s1 => 1 ≤ s1.toks ∧ EP X pins σ Q v s1) X.xe s
section
variable {X : Cx} {e a : Expr} {es : List Expr} {te : TE} {ta : TA} {pos : Pos}
/-! the same over data -/
structure PF1 (X : Cx) (e : Expr) (f : DF) : Prop where
  pe : PET1 X e (tF X.K f)
structure PFA1 (X : Cx) (es : List Expr) (f : Dn → Option (List PyData)) : Prop where
  pa : PAT1 X es (tFA X.K f)
structure PFO1 (X : Cx) (e : Expr) (f : DF) : Prop where
  pe : PEO X e (tF X.K f)
variable {f fa : DF} {g : Dn → Option (List PyData)}
end
end DS
namespace DS
open PySem PySem.Spec PyProof.Rows L2
/-! ### a text in a text -/
def gInT (neg : Bool) (d e : PyData) : Option PyData := match d, e with
  | .str i, .str j => some (.bool (if neg then (Builtin.Str.occurrences j i 0 j.length 1).isEmpty else !(Builtin.Str.occurrences j i 0 j.length 1).isEmpty))
  | _, _ => none
section
variable {X : Cx}
end
end DS
set_option maxHeartbeats 4000000
namespace DS
open PySem PySem.Spec PyProof.Rows L2
def z_outsiders : SF := (sRet (callA toTup (consA (lstI (lcL (rng1I (callA lenD (consA (getD 0) nilA))) (setN 2) (tstF (bin2 (gIn true) (getD 2) (getD 1))) (getD 2) [2])) nilA)))
def sem_outsiders : List PyData → Option PyData := semZ 3 z_outsiders
def z_beats : SF := (sRet (bin2 gEq (bin2 ixD (bin2 ixD (getD 0) (getD 1)) (getD 2)) (cD (.str "+"))))
def sem_beats : List PyData → Option PyData := semZ 3 z_beats
def z_beats_all : SF := (sRet (callA allD (consA (lstI (lcL (seqI (getD 2)) (setN 3) yesT (callU 3 sem_beats (consA (getD 0) (consA (getD 1) (consA (getD 3) nilA)))) [3])) nilA)))
def sem_beats_all : List PyData → Option PyData := semZ 4 z_beats_all
def z_is_dominant : SF := (sSeq (sSet 2 (callU 2 sem_outsiders (consA (getD 0) (consA (getD 1) nilA))))
  (sRet (callA allD (consA (lstI (lcL (seqI (getD 1)) (setN 3) yesT (callU 3 sem_beats_all (consA (getD 0) (consA (getD 3) (consA (getD 2) nilA)))) [3])) nilA))))
def sem_is_dominant : List PyData → Option PyData := semZ 4 z_is_dominant
def z_scores : SF := (sRet (callA toTup (consA (lstI (lcL (seqI (getD 0)) (setN 1) yesT (bin2 countD (getD 1) (cD (.str "+"))) [1])) nilA)))
def sem_scores : List PyData → Option PyData := semZ 2 z_scores
def z_dominant_sets : SF := (sSeq (sSet 1 (callU 1 sem_scores (consA (getD 0) nilA)))
  (sSeq (sOwn 2 (limA nilA))
  (sSeq (sFor (revI (callA lenD (consA (getD 0) nilA))) (setN 3)
  (sSeq (sSet 4 (callA toTup (consA (lstI (lcL (enumI (getD 1)) (setT [5, 6]) (tstF (bin2 (gI fun i j => .bool (decide (j ≤ i))) (getD 6) (getD 3))) (getD 5) [5, 6])) nilA)))
  (sIf (andT (tstF (bin2 gEq (bin2 gAdd (callA lenD (consA (getD 4) nilA)) (getD 3)) (callA lenD (consA (getD 0) nilA)))) (tstF (callU 2 sem_is_dominant (consA (getD 0) (consA (getD 4) nilA))))) (sApp 2 (getD 4)) sNil)))
  (fun ρ => (sRet (callA toTup (consA (getD 2) nilA))) (frzD 2 ρ)))))
def sem_dominant_sets : List PyData → Option PyData := semZ 7 z_dominant_sets
def z_is_full : SF := (sRet (notF (callA anyD (consA (lstI (lcL (rng1I (callA lenD (consA (getD 0) nilA))) (setN 2) yesT (callU 3 sem_beats_all (consA (getD 0) (consA (getD 2) (consA (getD 1) nilA)))) [2])) nilA))))
def sem_is_full : List PyData → Option PyData := semZ 3 z_is_full
def z_loses_to_all : SF := (sRet (callA allD (consA (lstI (lcL (seqI (getD 2)) (setN 3) yesT (bin2 gEq (bin2 ixD (bin2 ixD (getD 0) (getD 1)) (getD 3)) (cD (.str "-"))) [3])) nilA)))
def sem_loses_to_all : List PyData → Option PyData := semZ 4 z_loses_to_all
def z_pick_table : SF := (sRet (callA toTup (consA (lstI (lcL (seqI (getD 1)) (setN 2) yesT (bin2 joinD (cD (.str "")) (lstI (lcL (seqI (getD 1)) (setN 3) yesT (bin2 ixD (bin2 ixD (getD 0) (getD 2)) (getD 3)) [3]))) [2])) nilA)))
def sem_pick_table : List PyData → Option PyData := semZ 4 z_pick_table
def z_relabel_table : SF := (sRet (callU 2 sem_pick_table (consA (getD 0) (consA (getD 1) nilA))))
def sem_relabel_table : List PyData → Option PyData := semZ 2 z_relabel_table
def z_top_set : SF := (sRet (bin2 ixD (callU 1 sem_dominant_sets (consA (getD 0) nilA)) (cD (.int 0))))
def sem_top_set : List PyData → Option PyData := semZ 1 z_top_set
end DS
namespace DS
open PySem PySem.Spec PyProof.Rows L2
/-! ### lists of tuples that are told of as tuples; walked, and the items as keys -/
def tSd (K : PySem.W.Frag) (f : DF) : TE := fun σ H Q => ∃ O dv ρ d, Al O H ∧ RepE K O H dv σ ρ ∧ f ρ = some d ∧ ∀ v H', Same H H' → SdL K (Fz O H') v d → Q v H'
structure PSD (X : Cx) (e : Expr) (f : DF) : Prop where
  pe : PE X e (tSd X.K f)
def ItS (K : PySem.W.Frag) (O : Hid) (H1 : Hp) (J : It) (xs : List PyData) : Prop := ∀ O' H, Same (Fz O H1) (Fz O' H) → Al O' H →
  (∀ i, i < xs.length → J.go i H) ∧ J.stop xs.length H ∧ ∀ i x H2 d, xs[i]? = some d → J.yld i H x H2 → Same H H2 ∧ SdT K (Fz O' H2) x d
def iSd (K : PySem.W.Frag) (f : Dn → Option (List PyData)) : L2.TI := fun σ H R => ∃ O dv ρ xs, Al O H ∧ RepE K O H dv σ ρ ∧ f ρ = some xs ∧ ∀ J H', Same H H' → ItS K O H' J xs → R J H'
structure PISD (X : Cx) (tg e : Expr) (f : Dn → Option (List PyData)) : Prop where
  pi : PI X tg e (iSd X.K f)
section
variable {K : PySem.W.Frag} {O : Hid} {H : Hp} {a : Addr} {vs : List V} {ds : List PyData}
theorem paired_get {F : V → PyData → Prop} : ∀ {vs : List V} {ds : List PyData} {i : Nat} {d : PyData}, Paired F vs ds → ds[i]? = some d → ∃ v, vs[i]? = some v ∧ F v d
  | _, _, _, _, .nil, e => by simp at e
  | _, _, 0, _, .cons h _, e => by simp at e; subst e; exact ⟨_, rfl, h⟩
  | _, _, i + 1, d, .cons _ r, e => by
    obtain ⟨v, h1, h2⟩ := paired_get (i := i) (d := d) r (by simpa using e)
    exact ⟨v, by simpa using h1, h2⟩
theorem its_list (h : SqL K (Fz O H) a vs) (r : Paired (SdT K (Fz O H)) vs ds) : ItS K O H (Itl K a) ds := fun O' H' s al => by
  have h1 : SqL K H' a vs := (s.trans (fz_sub O' H')).seq h
  have ln := Paired.length r
  refine ⟨fun i hi => ?_, ⟨vs, h1, Nat.le_of_eq ln⟩, fun i x H2 d e y => ?_⟩
  · exact ⟨vs, vs[i]'(by omega), h1, by simp⟩
  · obtain ⟨rfl, y⟩ := y
    obtain ⟨v, e1, e2⟩ := paired_get r e
    have := y vs h1
    rw [e1] at this
    cases this
    exact ⟨Same.refl _, e2.same s⟩
theorem its_tup (h : SqT K (Fz O H) a vs) (r : Paired (SdT K (Fz O H)) vs ds) : ItS K O H (Itt K a) ds := fun O' H' s al => by
  have h1 : SqT K H' a vs := sqT_same (s.trans (fz_sub O' H')) h
  have ln := Paired.length r
  refine ⟨fun i hi => ?_, ⟨vs, h1, Nat.le_of_eq ln⟩, fun i x H2 d e y => ?_⟩
  · exact ⟨vs, vs[i]'(by omega), h1, by simp⟩
  · obtain ⟨rfl, y⟩ := y
    obtain ⟨v, e1, e2⟩ := paired_get r e
    have := y vs h1
    rw [e1] at this
    cases this
    exact ⟨Same.refl _, e2.same s⟩
end
section
variable {X : Cx} {S : Fr} {tg e : Expr} {f : DF} {i : Nat} {x : Str} {pos pos' : Pos}
theorem pisd_seq (h : PSD X e f) : PISD X tg e (seqI f) := ⟨((pi_list h.pe).or (pi_tup h.pe)).imp fun σ H R ⟨O, dv, ρ, xs, al, r, e, q⟩ => by
  obtain ⟨d, e1, e2⟩ := Option.bind_eq_some_iff.mp e
  cases d with
  | list ds =>
    cases e2
    refine .inl ⟨O, dv, ρ, _, al, r, e1, fun v H' s hv => ?_⟩
    obtain ⟨b, vs, ds', e3, ⟨hb, hd⟩ | ⟨_, hd⟩, pr⟩ := hv
    · cases hd
      exact ⟨b, e3, ⟨_, (fz_sub O H').seq (.inl (.inl hb))⟩, q _ H' s (its_list (.inl (.inl hb)) pr)⟩
    · cases hd
  | tuple ds =>
    cases e2
    refine .inr ⟨O, dv, ρ, _, al, r, e1, fun v H' s hv => ?_⟩
    obtain ⟨b, vs, ds', e3, ⟨_, hd⟩ | ⟨hb, hd⟩, pr⟩ := hv
    · cases hd
    · cases hd
      exact ⟨b, e3, ⟨_, sqT_same (fz_sub O H') (.inl (.inl hb))⟩, q _ H' s (its_tup (.inl (.inl hb)) pr)⟩
  | _ => cases e2⟩
def setS (i : Nat) : PyData → Dn → Option Dn := fun d ρ => some (ρ.set i (.sd false d))
theorem sets_sd (i : Nat) : Sets (setS i) [i] := fun d ρ ρ2 e => by
  cases e
  refine ⟨List.length_set, fun j hj => List.getElem?_set_ne fun z => hj (by simp [z]), fun j hj e' e2 => ?_⟩
  have ej : j = i := List.mem_singleton.mp hj
  subst ej
  have li : j < ρ.length := by
    have := (List.getElem?_eq_some_iff.mp e2).1
    rwa [List.length_set] at this
  rw [List.getElem?_set_self li] at e2
  cases e2
  exact fun _ _ _ z => z
def tGS (K : PySem.W.Frag) (i : Nat) : TG := fun v σ H Q => ∃ O dv ρ d, Al O H ∧ RepE K O H dv σ ρ ∧ SdT K (Fz O H) v d ∧
  ∀ σ2, RepE K O H dv σ2 (ρ.set i (.sd false d)) → (∀ vs : List Nat, (∀ j ∈ [i], j ∈ vs) → wipe σ2 vs = wipe σ vs) → Q σ2 H
theorem pg_sd (hN : X.N.Nodup) (hi : X.N[i]? = some x) (hx : Loc X.env.scope x) (hf : X.fn x = true ∨ X.env.scope.names.lookup x = some .local := by first | exact .inl rfl | exact .inr rfl | assumption) : PG X (.Name x pos) (tGS X.K i) :=
  (pg_name hN hi hx hf).imp fun v σ H Q ⟨O, dv, ρ, d, al, r, dx, q⟩ => q _ (r.set (ov := some v) (e := .sd false d) ⟨v, rfl, dx⟩ i) fun vs h => wipe_set (h i List.mem_cons_self)
theorem pd_forS (ok : S.Ok) {body : List Stmt} {fi : Dn → Option (List PyData)} {T : TD} (hp : PassesOwn (model X.prog X.w) X.A X.env X.xe) (hc : X.calm = true) (hi : PISD X (.Name x pos') tg fi) (hN : X.N.Nodup) (hi' : X.N[i]? = some x) (hx : Loc X.env.scope x) (hb : PDs X S body T)
    (hf : X.fn x = true ∨ X.env.scope.names.lookup x = some .local := by first | exact .inl rfl | exact .inr rfl | assumption) (hs : ∀ x, foldedSetIterable tg X.env x = pure x := by intro _; rfl) : PD X S (.For (.Name x pos') tg body [] pos) (dFor fi (setS i) T) := ⟨(ps_for hp hc hi.pi (pg_sd hN hi' hx hf) hb.pss hs).imp fun D σ H ⟨B, O, ρ, n, DD, r, ⟨xs, e1, I, i0, step, fin⟩, E⟩ => by
  refine ⟨O, S.dv, ρ, xs, r.al, r.rep, e1, fun J H1 s1 it => ?_⟩
  have r1 := (r.same ok s1).here
  have bb : Same B (Fz O H1) := (r.same ok s1).fz
  refine ⟨fun i m σ' H' => m = xs.length - i ∧ i ≤ xs.length ∧ ∃ O' ρ' n', RepS X.K S (Fz O H1) O' H' σ' ρ' n' ∧ I i ρ' n', ⟨xs.length, by simp, Nat.zero_le _, O, ρ, n, r1, i0⟩, ?_⟩
  rintro k m σ' H' ⟨rfl, hi, O', ρ', n', r', inv⟩
  obtain ⟨g1, g2, g3⟩ := it O' H' r'.fz r'.al
  by_cases hlt : k < xs.length
  · have ex : xs[k]? = some xs[k] := List.getElem?_eq_getElem hlt
    obtain ⟨ρ2, e2, tb⟩ := step k _ ρ' n' ex inv
    refine .inr ⟨g1 k hlt, fun σ2 H2 => ∃ O2 ρ2 n2, RepS X.K S (Fz O H1) O2 H2 σ2 ρ2 n2 ∧ I (k + 1) ρ2 n2, fun σ2 H2 ⟨O2, ρ2, n2, r2, i2⟩ => ⟨xs.length - (k + 1), by omega, rfl, hlt, O2, ρ2, n2, r2, i2⟩, fun x H2 y => ?_⟩
    obtain ⟨s2, dx⟩ := g3 k x H2 _ ex y
    have r2 := r'.same ok s2
    cases e2
    refine ⟨O', S.dv, ρ', _, r2.al, r2.rep, dx, fun σ2 re w => ⟨Fz O H1, O', _, n', _, r2.target (sets_sd i) rfl re w, tb, ?_⟩⟩
    exact ⟨fun O3 σ3 H3 ρ3 n3 r3 q => ⟨O3, ρ3, n3, r3, q⟩, fun O3 σ3 H3 ρ3 n3 r3 q => E.nx O3 σ3 H3 ρ3 n3 (r3.base bb) q, fun O3 σ3 H3 ρ3 n3 r3 q => ⟨O3, ρ3, n3, r3, q⟩, E.rt⟩
  · have ei : k = xs.length := by omega
    subst ei
    exact .inl ⟨g2, E.nx O' σ' H' ρ' n' (r'.base bb) (fin ρ' n' inv)⟩⟩
theorem pz_forS (ok : S.Ok) {body : List Stmt} {fi : Dn → Option (List PyData)} {h : SF} (hp : PassesOwn (model X.prog X.w) X.A X.env X.xe) (hc : X.calm = true) (hi : PISD X (.Name x pos') tg fi) (hN : X.N.Nodup) (hi' : X.N[i]? = some x) (hx : Loc X.env.scope x) (hb : PZs X S body h)
    (hf : X.fn x = true ∨ X.env.scope.names.lookup x = some .local := by first | exact .inl rfl | exact .inr rfl | assumption) (hs : ∀ x, foldedSetIterable tg X.env x = pure x := by intro _; rfl) : PZ X S (.For (.Name x pos') tg body [] pos) (sFor fi (setS i) h) := ⟨(pd_forS ok hp hc hi hN hi' hx hb.pds hf hs).imp fun DD ρ n ⟨r, e, t⟩ => by
  obtain ⟨xs, e1, e2⟩ := Option.bind_eq_some_iff.mp e
  refine ⟨xs, e1, fun k ρ' n' => n' = n ∧ ∃ r', runFor (setS i) h (xs.drop k) ρ' = some r' ∧ DD.ends n r', ⟨rfl, r, e2, t⟩, fun k x ρ' n' ex ⟨en, r', e3, t'⟩ => ?_, fun ρ' n' ⟨en, r', e3, t'⟩ => ?_⟩
  · subst en
    have ed : xs.drop k = x :: xs.drop (k + 1) := by
      obtain ⟨lt, e0⟩ := List.getElem?_eq_some_iff.mp ex
      rw [List.drop_eq_getElem_cons lt, e0]
    rw [ed] at e3
    obtain ⟨ρ1, e4, e5⟩ := Option.bind_eq_some_iff.mp e3
    obtain ⟨r1, e6, e7⟩ := Option.bind_eq_some_iff.mp e5
    refine ⟨ρ1, e4, r1, e6, ?_⟩
    cases r1 with
    | nx ρ2 => exact ⟨rfl, r', e7, t'⟩
    | ct ρ2 => exact ⟨rfl, r', e7, t'⟩
    | bk ρ2 => cases e7; exact t'
    | rt d => cases e7; exact t'
  · subst en
    rw [List.drop_length] at e3
    cases e3
    exact t'⟩
end
end DS
namespace DS
open PySem PySem.Spec PyProof.Rows L2
/-! ### expressions that give such lists -/
theorem paired_append {F : V → PyData → Prop} : ∀ {vs us : List V} {ds es : List PyData}, Paired F vs ds → Paired F us es → Paired F (vs ++ us) (ds ++ es)
  | _, _, _, _, .nil, k => k
  | _, _, _, _, .cons h r, k => .cons h (paired_append r k)
theorem paired_take {F : V → PyData → Prop} : ∀ {vs : List V} {ds : List PyData} (n : Nat), Paired F vs ds → Paired F (vs.take n) (ds.take n)
  | _, _, 0, _ => .nil
  | _, _, _ + 1, .nil => .nil
  | _, _, n + 1, .cons h r => .cons h (paired_take n r)
theorem paired_drop {F : V → PyData → Prop} : ∀ {vs : List V} {ds : List PyData} (n : Nat), Paired F vs ds → Paired F (vs.drop n) (ds.drop n)
  | _, _, 0, h => h
  | _, _, _ + 1, .nil => .nil
  | _, _, n + 1, .cons _ r => paired_drop n r
theorem sdl_list {K : PySem.W.Frag} {H : Hp} {v : V} {xs : List PyData} (h : SdL K H v (.list xs)) : ∃ b vs, v = .ref b ∧ H b = some (.lst vs) ∧ Paired (SdT K H) vs xs := by
  obtain ⟨b, vs, ds, e, ⟨hb, hd⟩ | ⟨_, hd⟩, pr⟩ := h
  · cases hd
    exact ⟨b, vs, e, hb, pr⟩
  · cases hd
theorem sdl_new {K : PySem.W.Frag} {O : Hid} {H : Hp} {p : Addr} {vs : List V} {ds : List PyData} (al : Al O H) (np : H p = none) (pr : Paired (SdT K (Fz O H)) vs ds) : SdL K (Fz O (upd H p (.lst vs))) (.ref p) (.list ds) := by
  have no := al.new np
  refine ⟨p, vs, ds, rfl, .inl ⟨by rw [fz_out no, upd_same], rfl⟩, Paired.mapP pr fun _ _ k => k.same ((new_same np).fz O)⟩
theorem sdl_newT {K : PySem.W.Frag} {O : Hid} {H : Hp} {p : Addr} {vs : List V} {ds : List PyData} (al : Al O H) (np : H p = none) (pr : Paired (SdT K (Fz O H)) vs ds) : SdL K (Fz O (upd H p (.tup vs))) (.ref p) (.tuple ds) := by
  have no := al.new np
  refine ⟨p, vs, ds, rfl, .inr ⟨by rw [fz_out no, upd_same], rfl⟩, Paired.mapP pr fun _ _ k => k.same ((new_same np).fz O)⟩
section
variable {X : Cx} {a b e : Expr} {f fa fb : DF} {i : Nat} {x : Str} {pos : Pos}
def getS (i : Nat) : DF := fun ρ => match ρ[i]? with | some (.sd true d) => some d | _ => none
theorem psd_var (hi : X.N[i]? = some x) (hv : Vis X.env.scope x) (hd : (x == ("__debug__" : Str)) = false := by decide) (hcd : (x == ("__classdict__" : Str)) = false := by decide) : PSD X (.Name x pos) (getS i) :=
  ⟨(pe_var hi hv hd hcd).imp fun σ H Q ⟨O, dv, ρ, d, al, r, e, q⟩ => by
    unfold getS at e
    split at e
    case h_2 => cases e
    rename_i d' ei
    cases e
    obtain ⟨ov, h1, v, rfl, h3⟩ := r.2 i _ ei
    exact ⟨v, h1, q v H (Same.refl H) h3⟩⟩
theorem psd_add (ha : PSD X a fa) (hb : PSD X b fb) : PSD X (.BinOp a .Add b pos) (lstI (addL fa fb)) := ⟨(pe_op op_catK ha.pe hb.pe).imp fun σ H Q ⟨O, dv, ρ, d, al, r, e, q⟩ => by
  obtain ⟨ds, e0, rfl⟩ := Option.map_eq_some_iff.mp e
  obtain ⟨x, e1, e3⟩ := Option.bind_eq_some_iff.mp e0
  obtain ⟨y, e2, e4⟩ := Option.bind_eq_some_iff.mp e3
  split at e4
  case h_2 => cases e4
  rename_i xs ys
  split at e4
  case isFalse => cases e4
  rename_i hl
  cases e4
  refine ⟨O, dv, ρ, _, al, r, e1, fun v H1 s1 d1 => ⟨O, dv, ρ, _, al.same s1, r.same s1, e2, fun u H2 s2 d2 => ?_⟩⟩
  obtain ⟨b1, vs, rfl, h1, p1⟩ := sdl_list (d1.same (s2.fz O))
  obtain ⟨b2, us, rfl, h2, p2⟩ := sdl_list d2
  refine ⟨_, _, _, _, rfl, rfl, .inl (.inl (fz_get h1).1), .inl (.inl (fz_get h2).1), Nat.le_of_lt (lim_le (by rw [Paired.length p1, Paired.length p2]; exact hl)), fun p np => ?_⟩
  exact q _ _ ((s1.trans s2).trans (new_same np)) (sdl_new ((al.same s1).same s2) np (paired_append p1 p2))⟩
theorem psd_slice {lo hi : Option Expr} {fl fh : Dn → Option (Option Int)} {p2 : Pos} (he : PSD X e f) (hl : PFO X lo fl) (hu : PFO X hi fh) (hf : ∀ ρ d, f ρ = some d → ∃ ds, d = .list ds) : PSD X (.Subscript e (.Slice lo hi none p2) pos) (sliceF f fl fh) :=
  ⟨(pe_slice sl_list he.pe hl.po hu.po).imp fun σ H Q ⟨O, dv, ρ, c, al, r, e, q⟩ => by
    obtain ⟨d, e1, e2⟩ := Option.bind_eq_some_iff.mp e
    obtain ⟨l, e3, e4⟩ := Option.bind_eq_some_iff.mp e2
    obtain ⟨u, e5, e6⟩ := Option.bind_eq_some_iff.mp e4
    obtain ⟨ds, rfl⟩ := hf ρ d e1
    cases e6
    refine ⟨O, dv, ρ, _, al, r, e1, fun v H1 s1 hv => ⟨O, dv, ρ, l, al.same s1, r.same s1, e3, fun H2 s2 => ⟨O, dv, ρ, u, (al.same s1).same s2, (r.same s1).same s2, e5, fun H3 s3 => ?_⟩⟩⟩
    have s13 := s2.trans s3
    obtain ⟨b1, vs, rfl, h1, p1⟩ := sdl_list (hv.same (s13.fz O))
    refine ⟨b1, vs, rfl, .inl (.inl (fz_get h1).1), fun p np => q _ _ ((s1.trans s13).trans (new_same np)) ?_⟩
    have := sdl_new (p := p) ((al.same s1).same s13) np (paired_take (HT.sIx ds.length ds.length u - HT.sIx ds.length 0 l) (paired_drop (HT.sIx ds.length 0 l) p1))
    unfold cutV
    rw [Paired.length p1]
    exact this⟩
end
/-- a def that gives such a list -/
def spSd (K : PySem.W.Frag) (n : Nat) (sem : List PyData → Option PyData) : Sp := fun vs H Q _ => ∃ O ds c, Al O H ∧ DxAll K (Fz O H) vs ds ∧ ds.length = n ∧ sem ds = some c ∧ ∀ v H', Same H H' → SdL K (Fz O H') v c → Q v H'
section
variable {X : Cx} {e : Expr} {es : List Expr} {f : DF} {fa : Dn → Option (List PyData)} {x : Str} {p pos : Pos}
theorem psd_call {CX : CXT} {k n : Nat} {f : Addr} {fd : FuncData} {ps : List Str} {sem : List PyData → Option PyData} {E : XK} (F : FnG X.prog X.w X.K X.mg X.base CX k f fd ps (spSd X.K n sem)) (hgd : X.A.guards = some []) (hr : Room k X.A) (hg : Gl X x) (hm : X.mg x = some (.ref f)) (hk : PySem.W.keepIn X.K (.ref f) = true) (hb : Binds X.K fd ps []) (hx : Passes CX X E)
    (ha : PFA X (e :: es) fa) (hdb : (x == ("__debug__" : Str)) = false := by decide) (he : starEach (e :: es) X.env = (false, eval e X.env) :: starEach es X.env := by rfl) (hpl : (backTo pos (starEach es X.env)).any (·.1) = false := by rfl) :
    PSD X (.Call (.Name x p) (e :: es) [] pos) (callU n sem fa) :=
  ⟨(pe_callG F hgd hr hg hm hk hb .nil hx ha.pa hdb he hpl).imp fun σ H Q ⟨O, dv, ρ, d, al, r, e, q⟩ => by
    obtain ⟨ds, e1, e⟩ := Option.bind_eq_some_iff.mp e
    split at e
    case isFalse => cases e
    rename_i hl
    refine ⟨O, dv, ρ, ds, al, r, e1, fun vs H1 s1 h1 => ⟨O, ds, d, al.same s1, ?_, hl, e, fun v H2 s2 h2 => q v H2 (s1.trans s2) h2⟩⟩
    rw [List.append_nil]
    exact h1⟩
end
end DS
namespace DS
open PySem PySem.Spec PyProof.Rows L2
section
variable {X : Cx} {S : Fr} {st : Stmt} {e : Expr} {f : DF} {i : Nat} {x : Str} {p pos pos' : Pos}
/-! ### name = such a list; tuple(l); [()] -/
def dSetSd (i : Nat) (f : DF) : TD := fun DD ρ n => ∃ d, f ρ = some d ∧ DD.nx (ρ.set i (.sd true d)) n
theorem pd_setSd (ok : S.Ok) (hN : X.N.Nodup) (hi : X.N[i]? = some x) (hx : Loc X.env.scope x) (he : PSD X e f) (hs : swapsWith e (some (.Name x pos')) pos.line X.env = pure false := by rfl) (hf : X.fn x = true ∨ X.env.scope.names.lookup x = some .local := by first | exact .inl rfl | exact .inr rfl | assumption) :
    PD X S (.Assign [.Name x pos'] e pos) (dSetSd i f) := ⟨(ps_set hN hi hx he.pe hs hf).imp fun D σ H ⟨B, O, ρ, n, DD, r, ⟨d, e1, t⟩, E⟩ =>
  ⟨O, S.dv, ρ, d, r.al, r.rep, e1, fun v H' s dx => E.nx _ _ H' _ n ((r.same ok s).set (v := v) (e := .sd true d) ⟨v, rfl, dx⟩ (fun _ _ _ z => z) i) t⟩⟩
def sSetSd (i : Nat) (f : DF) : SF := fun ρ => (f ρ).bind fun d => some (.nx (ρ.set i (.sd true d)))
theorem pz_of_setSd (h : PD X S st (dSetSd i f)) : PZ X S st (sSetSd i f) := ⟨h.imp fun DD ρ n ⟨r, e, t⟩ => by
  obtain ⟨d, e1, e2⟩ := Option.bind_eq_some_iff.mp e
  cases e2
  exact ⟨d, e1, t⟩⟩
theorem psd_tuple {nm : Str} (he : PSD X e f) (hg : Gl X nm) (hm : X.mg nm = none) (hv : bootBuiltins nm = some (.type "tuple")) (hn : nm ≠ "__name__" := by decide) (hdb : (nm == ("__debug__" : Str)) = false := by decide)
    (hs : starEach [e] X.env = (false, eval e X.env) :: starEach [] X.env := by rfl) (hpl : (backTo pos (starEach [] X.env)).any (·.1) = false := by rfl) : PSD X (.Call (.Name nm p) [e] [] pos) (callA toTup (consA f nilA)) :=
  ⟨(pe_callTy call_tuple_of hg hm hv (pa_cons he.pe pa_nil hs) hn hdb hs hpl).imp fun σ H Q ⟨O, dv, ρ, c, al, r, e, q⟩ => by
    obtain ⟨ts, e1, e2⟩ := Option.bind_eq_some_iff.mp e
    obtain ⟨d, e3, e4⟩ := Option.bind_eq_some_iff.mp (show (f ρ).bind _ = some ts from e1)
    cases e4
    refine ⟨O, dv, ρ, d, al, r, e3, fun v H1 s1 hv => ?_⟩
    obtain ⟨b, vs, ds, rfl, hb, pr⟩ := hv
    rcases hb with ⟨hb, rfl⟩ | ⟨hb, rfl⟩
    · cases e2
      exact ⟨b, vs, rfl, .inl ⟨.inl (.inl (fz_get hb).1), fun l nl => q _ _ (s1.trans (new_same nl)) (sdl_newT (al.same s1) nl pr)⟩⟩
    · cases e2
      exact ⟨b, vs, rfl, .inr ⟨.inl (.inl (fz_get hb).1), q _ H1 s1 ⟨b, vs, ds, rfl, .inr ⟨hb, rfl⟩, pr⟩⟩⟩⟩
theorem psd_one {p2 : Pos} {k0} (hs : starEach [.Tuple [] k0 p2] X.env = (false, eval (.Tuple [] k0 p2) X.env) :: starEach [] X.env := by rfl) : PSD X (.List [.Tuple [] k0 p2] pos) (lstI (limA (consA (tupF nilA) nilA))) :=
  ⟨(pe_lst (pa_cons (pe_tup pa_nil) pa_nil hs)).imp fun σ H Q ⟨O, dv, ρ, c, al, r, e, q⟩ => by
    cases e
    refine ⟨by decide, fun q1 n1 => ⟨(by decide : 1 ≤ sizeLine), fun p1 np => ?_⟩⟩
    have al1 := al.same (new_same n1 (o := .tup []))
    refine q _ _ ((new_same n1).trans (new_same np)) (sdl_new al1 np (.cons ?_ .nil))
    exact ⟨q1, [], [], rfl, rfl, by rw [fz_out (al.new n1), upd_same], .nil⟩⟩
end
end DS
namespace DS
open PySem PySem.Spec PyProof.Rows L2
/-! ### comprehensions whose items are tuples told of as tuples -/
def tSt (K : PySem.W.Frag) (f : DF) : TE := fun σ H Q => ∃ O dv ρ d, Al O H ∧ RepE K O H dv σ ρ ∧ f ρ = some d ∧ ∀ v H', Same H H' → SdT K (Fz O H') v d → Q v H'
structure PST (X : Cx) (e : Expr) (f : DF) : Prop where
  pe : PE X e (tSt X.K f)
theorem pmap {K : PySem.W.Frag} {H H' : Hp} {vs : List V} {ds : List PyData} (h : Paired (SdT K H) vs ds) (s : Same H H') : Paired (SdT K H') vs ds := Paired.mapP h fun _ _ k => k.same s
theorem tlcS {K : PySem.W.Frag} {fi : Dn → Option (List PyData)} {sl vs : List Nat} {g : PyData → Dn → Option Dn} {tt : Dn → Option Bool} {te : DF} {σ : L2.St} {H : Hp} {Q : VK} (hsl : ∀ i ∈ sl, i ∈ vs) (h : tSd K (lstI (lcL fi g tt te vs)) σ H Q) :
    tLc (iF K fi) (tG K sl g) (tFT K tt) (tSt K te) vs σ H Q := by
    obtain ⟨O, dv, ρ, d, al, r, e, q⟩ := h
    obtain ⟨ys, e0, rfl⟩ := Option.map_eq_some_iff.mp e
    obtain ⟨xs, e1, ey⟩ := Option.bind_eq_some_iff.mp e0
    split at ey
    case isFalse => cases ey
    rename_i hl
    refine ⟨O, dv, ρ, xs, al, r, e1, fun J H1 s1 it D nD => ?_⟩
    let O' : Hid := fun a => O a ∨ a = D
    have nO : ¬ O D := (al.same s1).new nD
    have r1 := r.same s1
    -- what holds of each heap within
    have key : ∀ H2 : Hp, Same H1 H2 → (∃ acc, H2 D = some (.lst acc)) → Same (Fz O H1) (Fz O' H2) ∧ Al O' H2 := fun H2 s2 ⟨acc, hD⟩ => by
      refine ⟨fun b o z => ?_, fun b z => ?_⟩
      · obtain ⟨z1, z2⟩ := fz_get z
        rw [fz_out fun w => w.elim z2 fun w => by rw [w, nD] at z1; cases z1]
        exact s2 b o z1
      · rcases z with z | z
        · exact (al.same s1).same s2 b z
        · rw [z, hD]
          exact fun z => nomatch z
    refine ⟨fun i m H2 => m = xs.length - i ∧ i ≤ xs.length ∧ Same H1 H2 ∧ ∃ acc zs, H2 D = some (.lst acc) ∧ compM (stepC g tt te (wipeE ρ vs)) (xs.take i) = some zs ∧ Paired (SdT K (Fz O' H2)) acc zs,
      ⟨xs.length, by simp, Nat.zero_le _, new_same nD, [], [], upd_same, by simp [compM], .nil⟩, ?_⟩
    rintro i m H2 ⟨rfl, hi, s2, acc, zs, hD, ez, dz⟩
    obtain ⟨k1, k2⟩ := key H2 s2 ⟨acc, hD⟩
    obtain ⟨g1, g2, g3⟩ := it O' H2 k1 k2
    by_cases hlt : i < xs.length
    · refine .inr ⟨g1 i hlt, _, fun H' p' => ⟨xs.length - (i + 1), by omega, rfl, hlt, p'⟩, fun x H3 y => ?_⟩
      have ex : xs[i]? = some xs[i] := List.getElem?_eq_getElem hlt
      obtain ⟨s3, dx⟩ := g3 i x H3 _ ex y
      obtain ⟨zs', ez', lz'⟩ := compM_take ey (i + 1)
      have et : xs.take (i + 1) = xs.take i ++ [xs[i]] := by rw [List.take_succ, ex]; rfl
      rw [et, compM_snoc, ez] at ez'
      obtain ⟨o, eo, ez'⟩ := Option.bind_eq_some_iff.mp (show ((stepC g tt te (wipeE ρ vs)) xs[i]).bind (fun o => some (zs ++ o.toList)) = some zs' from ez')
      have eo0 := eo
      unfold stepC at eo
      obtain ⟨ρ2, e2, eo⟩ := Option.bind_eq_some_iff.mp eo
      obtain ⟨b, e3, eo⟩ := Option.bind_eq_some_iff.mp eo
      have al3 := k2.same s3
      have r3 : RepE K O' H3 dv (wipe σ vs) (wipeE ρ vs) := ((r1.wipe _).shift s2 k1 fun p h => .inl h).same s3
      have snoc : ∀ o', stepC g tt te (wipeE ρ vs) xs[i] = some o' → compM (stepC g tt te (wipeE ρ vs)) (xs.take (i + 1)) = some (zs ++ o'.toList) := fun o' h => by
        rw [et, compM_snoc, ez]
        simp [h]
      refine ⟨O', dv, _, _, ρ2, al3, r3, dx, e2, fun σ2 r4 hw => ⟨(hw _ hsl).trans (wipe_wipe _ _), O', dv, ρ2, b, al3, r4, e3, fun H4 s4 => ?_⟩⟩
      cases b with
      | false =>
        refine iteF ?_
        simp only [Bool.false_eq_true, if_false] at eo
        cases eo
        refine ⟨(s2.trans s3).trans s4, acc, zs, s4 _ _ (s3 _ _ hD), ?_, pmap (pmap dz (s3.fz O')) (s4.fz O')⟩
        rw [snoc _ eo0]
        simp
      | true =>
        refine iteT ?_
        simp only [if_true] at eo
        obtain ⟨y2, e4, rfl⟩ := Option.map_eq_some_iff.mp eo
        refine ⟨O', dv, ρ2, y2, al3.same s4, r4.same s4, e4, fun u H5 s5 du => ⟨acc, s5 _ _ (s4 _ _ (s3 _ _ hD)), ?_, ?_⟩⟩
        · have lacc : acc.length = zs.length := Paired.length dz
          obtain ⟨ws, ew, lw⟩ := compM_take ey i
          rw [ez] at ew
          cases ew
          exact lim_le (by omega)
        · have nn : ∀ b o, H1 b = some o → b ≠ D := fun b o z w => by rw [w, nD] at z; cases z
          refine ⟨fun b o z => ?_, acc ++ [u], zs ++ [y2], upd_same, snoc _ eo0, ?_⟩
          · rw [upd_ne (nn b o z)]
            exact s5 _ _ (s4 _ _ (s3 _ _ (s2 _ _ z)))
          · rw [fz_upd (show O' D from .inr rfl)]
            exact paired_append (pmap (pmap (pmap dz (s3.fz O')) (s4.fz O')) (s5.fz O')) (.cons du .nil)
    · have ei : i = xs.length := by omega
      subst ei
      rw [List.take_length, ey] at ez
      cases ez
      refine .inl ⟨g2, q (.ref D) _ (s1.trans s2) ⟨D, acc, ys, rfl, .inl ⟨by rw [fz_out nO]; exact hD, rfl⟩, pmap dz (fz_less (fun b z => .inl z) _)⟩⟩
theorem psd_lc {X : Cx} {elt tg iter : Expr} {ifs : List Expr} {scope : Scope} {own : List (Str × Nat)} {pos : Pos} {fi : Dn → Option (List PyData)} {sl : List Nat} {g : PyData → Dn → Option Dn} {tt : Dn → Option Bool} {te : DF} (hc : X.calm = true) (hN : X.N.Nodup) (hi : PIF X tg iter fi) (ok : BlkOk X.N X.env.scope scope own)
    (hg : ∀ (s : Shared) (H : Hp) (C : Addr) (cl : List (Str × Addr)) (fp : List Addr), PGF (X.blk s H scope (compEnvC scope cl C X.env) fp) tg sl g) (ht : ∀ (s : Shared) (H : Hp) (C : Addr) (cl : List (Str × Addr)) (fp : List Addr), PTsF (X.blk s H scope (compEnvC scope cl C X.env) fp) ifs tt)
    (he : ∀ (s : Shared) (H : Hp) (C : Addr) (cl : List (Str × Addr)) (fp : List Addr), PST (X.blk s H scope (compEnvC scope cl C X.env) fp) elt te) (hsl : ∀ i ∈ sl, i ∈ own.map (·.2) := by decide) (hs : ∀ x, foldedSetIterable iter X.env x = pure x := by intro _; rfl) :
    PSD X (.ListComp elt [⟨tg, iter, ifs, 0⟩] scope pos) (lstI (lcL fi g tt te (own.map (·.2)))) :=
  ⟨(pe_lc (g := tG X.K sl g) (tt := tFT X.K tt) (te := tSt X.K te) hc hN hi.pi ok (fun s H C cl fp => (hg s H C cl fp).pg) (fun s H C cl fp => (ht s H C cl fp).pts) (fun s H C cl fp => (he s H C cl fp).pe) hs).imp fun σ H Q h => tlcS hsl h⟩
theorem pst_tup {X : Cx} {es : List Expr} {x1} {g : Dn → Option (List PyData)} {pos : Pos} (h : PFA X es g) : PST X (.Tuple es x1 pos) (tupF g) :=
  ⟨(pe_tup h.pa).imp fun σ H Q ⟨O, dv, ρ, d, al, r, e, q⟩ => by
    obtain ⟨ds, e1, e⟩ := Option.bind_eq_some_iff.mp e
    split at e
    case isFalse => cases e
    cases e
    rename_i hl
    refine ⟨O, dv, ρ, ds, al, r, e1, fun vs H1 s1 h1 => ⟨Nat.le_of_lt (lim_le (by rw [h1.len]; exact hl)), fun p np => ?_⟩⟩
    have no := (al.same s1).new np
    exact q _ _ (s1.trans (new_same np)) ⟨p, _, _, rfl, rfl, by rw [fz_out no, upd_same], h1.same ((new_same np).fz O)⟩⟩
/-- a tuple joined to a tuple -/
theorem pst_cat {X : Cx} {a b : Expr} {fa fb : DF} {pos : Pos} (ha : PST X a fa) (hb : PF X b fb) (ht : ∀ ρ d, fa ρ = some d → ∃ x xs, d = .tuple (x :: xs)) : PST X (.BinOp a .Add b pos) (bin2 gAdd fa fb) :=
  ⟨(pe_op op_catA ha.pe hb.pe).imp fun σ H Q ⟨O, dv, ρ, c, al, r, e, q⟩ => by
    obtain ⟨d1, e1, e2⟩ := Option.bind_eq_some_iff.mp e
    obtain ⟨d2, e3, e4⟩ := Option.bind_eq_some_iff.mp e2
    obtain ⟨x, xs, rfl⟩ := ht ρ d1 e1
    cases d2 with
    | tuple ys =>
      have e4 : (if (x :: xs).length + ys.length < lim then some (PyData.tuple (x :: xs ++ ys)) else none) = some c := e4
      split at e4
      case isFalse => cases e4
      rename_i hl
      cases e4
      refine ⟨O, dv, ρ, _, al, r, e1, fun v H1 s1 h1 => ⟨O, dv, ρ, _, al.same s1, r.same s1, e3, fun u H2 s2 h2 => ?_⟩⟩
      obtain ⟨b1, vs, ds, rfl, ed, hb1, k2⟩ := h1.same (s2.fz O)
      cases ed
      cases h2 with
      | tup k3 k4 =>
        have s12 := s1.trans s2
        refine ⟨_, _, _, _, rfl, rfl, .inl (.inl (fz_get hb1).1), sqT_same (fz_sub O H2) k3, Nat.le_of_lt (lim_le (by rw [k2.len, k4.len]; exact hl)), fun z => ?_, fun z1 z2 => ?_, fun _ _ p np => ?_⟩
        · subst z
          cases k2
        · subst z2
          cases k4
          rw [List.append_nil] at q
          exact q _ H2 s12 ⟨b1, vs, _, rfl, rfl, hb1, k2⟩
        · have no := ((al.same s1).same s2).new np
          exact q _ _ (s12.trans (new_same np)) ⟨p, _, _, rfl, rfl, by rw [fz_out no, upd_same], (k2.append k4).same ((new_same np).fz O)⟩
    | _ => cases e4⟩
end DS
namespace DS
open PySem PySem.Spec PyProof.Rows L2
/-! ### a def that gives a list of tuples told of as tuples -/
structure EndsS (K : PySem.W.Frag) (S : Fr) (B : Hp) (DD : EnD) (D : Ends) : Prop where
  nx : ∀ O' σ' H' ρ' n', RepS K S B O' H' σ' ρ' n' → DD.nx ρ' n' → D.nx σ' H'
  bk : ∀ O' σ' H' ρ' n', RepS K S B O' H' σ' ρ' n' → DD.bk ρ' n' → D.bk σ' H'
  ct : ∀ O' σ' H' ρ' n', RepS K S B O' H' σ' ρ' n' → DD.ct ρ' n' → D.ct σ' H'
  rt : ∀ v H' d n', SdL K (Fz S.O0 H') v d → (∀ b x, S.H0 b = some x → ¬ S.M b → H' b = some x) → DD.rt d n' → D.rt v H'
def tSS (K : PySem.W.Frag) (S : Fr) (T : TD) : TS := fun D σ H => ∃ B O ρ n DD, RepS K S B O H σ ρ n ∧ T DD ρ n ∧ EndsS K S B DD D
structure PDsS (X : Cx) (S : Fr) (st : List Stmt) (T : TD) : Prop where
  pss : PSs X st (tSS X.K S T)
section
variable {X : Cx} {S : Fr} {st : Stmt} {rest : List Stmt} {T U : TD} {e : Expr} {f : DF} {pos : Pos}
def dSeqS (T U : TD) : TD := fun DD ρ n => T ⟨fun ρ' n' => U DD ρ' n', fun _ _ => False, DD.bk, DD.ct⟩ ρ n
theorem pdss_cons (h1 : PD X S st T) (h2 : PDsS X S rest U) : PDsS X S (st :: rest) (dSeqS T U) := ⟨(pss_cons h1.ps h2.pss).imp fun D σ H ⟨B, O, ρ, n, DD, r, t, E⟩ =>
  ⟨B, O, ρ, n, _, r, t, ⟨fun O' σ' H' ρ' n' r' u => ⟨B, O', ρ', n', DD, r', u, E⟩, E.bk, E.ct, fun _ _ _ _ _ _ _ _ z => z.elim⟩⟩⟩
def dRetS (f : DF) : TD := fun DD ρ n => ∃ d, f ρ = some d ∧ DD.rt d n
theorem pdss_ret (ok : S.Ok) (he : PSD X e f) : PDsS X S [.Return (some e) pos] (dRetS f) := ⟨(pss_one (ps_ret he.pe)).imp fun D σ H ⟨B, O, ρ, n, DD, r, ⟨d, e1, t⟩, E⟩ =>
  ⟨O, S.dv, ρ, d, r.al, r.rep, e1, fun v H' s k => E.rt v H' d n (k.same (fz_less r.sub H')) (fun b x z m => s b x (r.kp b x z m)) t⟩⟩
end
section
variable {P : Program} {w : World} {K : PySem.W.Frag} {mg : Str → Option Value} {base : Heap}
theorem fn_sd {x qual : Str} {st : Stmt} {N ps : List Str} {f : Addr} {fd : FuncData} {k n : Nat} {sem : List PyData → Option PyData} (F : Fun K x qual st f fd) (Sc : FnScope N ps (defScope st)) (hn : ps.length = n)
    (hb : ∀ (cdv : Value) (A : Around) (outer : List Env) (s : Shared) (H : Hp) (E : XK) (O : Hid), Al O H → (A.deeper (envOfC qual (defScope st) s.heap.objs.size f cdv)).guards = some [] → Room k (A.deeper (envOfC qual (defScope st) s.heap.objs.size f cdv)) →
      ∃ T, PDsS (cxOf CX0 P w K mg base N qual (defScope st) f cdv A outer s H E).nox (noDeck H O) (defBody st) T ∧ ∀ ds d, ds.length = n → sem ds = some d → T ⟨fun _ _ => False, fun e _ => e = d, fun _ _ => False, fun _ _ => False⟩ (startD N.length ds) 0) : FnG P w K mg base CX0 (k + 1) f fd ps (spSd K n sem) := by
  refine FnG.ok F Sc (fun vs H Q E h => ?_) (fun cdv A outer s H vs Q E hg hr h => ?_)
  · obtain ⟨O, ds, c, al, h1, h2, _⟩ := h
    rw [h1.len, h2, hn]
  obtain ⟨O, ds, d, al, hd, hl, es, q⟩ := h
  obtain ⟨T, pt, want⟩ := hb cdv A outer s H E O al hg hr
  refine ⟨_, pt.pss, Fz O H, O, _, 0, _, ⟨al, repE_start hd, fun b y e _ => e, fun _ h => h, fun _ h => h.elim, Same.refl _, fun i g og q e1 e2 e3 => ?_, trivial⟩, want ds d hl es, ?_⟩
  · unfold startD at e1
    by_cases lt : i < ds.length
    · rw [List.getElem?_append_left (by rw [List.length_map]; exact lt), List.getElem?_map] at e1
      cases z : ds[i]? with
      | none => rw [z] at e1; cases e1
      | some d => rw [z] at e1; cases e1; exact e3.elim
    · rw [List.getElem?_append_right (by rw [List.length_map]; omega), List.getElem?_replicate] at e1
      split at e1 <;> cases e1
      exact e3.elim
  · refine ⟨fun O' σ' H' ρ' n' r e => e.elim, fun O' σ' H' ρ' n' r e => e, fun O' σ' H' ρ' n' r e => e, fun v H' e n' dx kp h => ?_⟩
    rw [show e = d from h] at dx
    exact q v H' (fun b y z => kp b y z fun h => h) dx
end
end DS
namespace DS
open PySem PySem.Spec PyProof.Rows L2
/-! ### own lists and dicts, lent as data to an expression that gives a flat value -/
section
variable {K : PySem.W.Frag} {S : Fr} {B H : Hp} {O : Hid} {σ : L2.St} {ρ : Dn} {n : Nat}
def flatD : PyData → Bool
  | .none => true
  | .bool _ => true
  | .int _ => true
  | .str _ => true
  | _ => false
theorem Dx.flat {H' : Hp} {v : V} {d : PyData} (h : Dx K H v d) (f : flatD d = true) : Dx K H' v d := by
  cases h with
  | non => exact .non
  | bl b => exact .bl b
  | int i => exact .int i
  | str x => exact .str x
  | _ => cases f
end
section
variable {X : Cx} {S : Fr} {c e : Expr} {t : Dn → Option Bool} {f : DF} {pos : Pos}
variable {a b : List Stmt} {fa fb : SF}
end
end DS
namespace DS
open PySem PySem.Spec PyProof.Rows L2
/-! ### d[k] = f(.., d, ..): a dict of one's own, lent to what it then takes in -/
/-- flat, or a tuple of flat ones -/
def flatT : PyData → Bool
  | .tuple ds => ds.all flatD
  | d => flatD d
section
variable {K : PySem.W.Frag} {S : Fr} {B H : Hp} {O O' : Hid} {σ : L2.St} {ρ : Dn} {n : Nat}
theorem RepS.lendT (h : RepS K S B O H σ ρ n) (ok : S.Ok) {kds : List (List Key × PyData)} {i : Nat} (e1 : ρ[i]? = some (.dct kds)) :
    ∃ (O' : Hid) (p : Addr), RepS K S B O' H σ (ρ.set i (.dat (dctD kds))) n ∧ (∃ kvs, H p = some (.dT kvs)) ∧ ∀ q, O q → ¬ O' q → q = p := by
  obtain ⟨ov, h1, p, kvs, h2, h3, h4, h5⟩ := h.rep.2 i _ e1
  subst h2
  obtain ⟨d1, d2⟩ := kv_dx h5
  refine ⟨_, p, h.melt ok e1 h1 (.dct (kvs := kvs) ?_ (d1.same (fz_less (fun b z => z.1) H)) ?_), ⟨kvs, h4⟩, fun q h6 h7 => ?_⟩
  · rw [fz_out fun w => w.2 rfl]
    exact h4
  · rw [zip_kv kT kds, ← d2, List.map_map]
    rfl
  · by_cases e : q = p
    · exact e
    · exact absurd ⟨h6, fun z => e (by have z : (some (V.ref p)) = some (V.ref q) := z; cases z; rfl)⟩ h7
theorem DxAll.flat {K : PySem.W.Frag} {H H' : Hp} : ∀ {vs : List V} {ds : List PyData}, DxAll K H vs ds → ds.all flatD = true → DxAll K H' vs ds
  | _, _, .nil, _ => .nil
  | _, _, .cons h r, f => by
    rw [List.all_cons, Bool.and_eq_true] at f
    exact .cons (h.flat f.1) (r.flat f.2)
theorem Dx.flatT {v : V} {d : PyData} {p : Addr} (h : Dx K (Fz O' H) v d) (f : flatT d = true) (hp : ∃ kvs, H p = some (.dT kvs)) (ho : ∀ q, O q → ¬ O' q → q = p) : Dx K (Fz O H) v d := by
  obtain ⟨kvs, hp⟩ := hp
  have out : ∀ {b u}, Fz O' H b = some u → (∀ kvs, u ≠ .dT kvs) → Fz O H b = some u := fun {b u} e ne => by
    obtain ⟨e1, e2⟩ := fz_get e
    rw [fz_out fun z => ?_]
    · exact e1
    · have := ho b z e2
      subst this
      rw [hp] at e1
      cases e1
      exact ne _ rfl
  cases h with
  | tup hs r =>
    refine .tup ?_ (r.flat f)
    rcases hs with (hs | ⟨o, hs⟩) | hs
    · exact .inl (.inl (out hs fun _ z => by cases z))
    · exact .inl (.inr ⟨o, out hs fun _ z => by cases z⟩)
    · exact .inr hs
  | non => exact .non
  | bl b => exact .bl b
  | int i => exact .int i
  | str x => exact .str x
  | lst _ _ => cases f
  | dic _ _ _ => cases f
  | dct _ _ _ => cases f
end
def lntT (i : Nat) (f : DF) : DF := fun ρ => match ρ[i]? with
  | some (.dct kds) => (f (ρ.set i (.dat (dctD kds)))).bind fun d => if flatT d = true then some d else none
  | _ => none
section
variable {X : Cx} {S : Fr} {b e : Expr} {gk : Dn → Option KeyD} {fc : DF} {pos : Pos}
theorem pd_dsetL (ok : S.Ok) (hu : X.A.units + 64 < cLine) (i : Nat) {x : Str} {p1 p3 : Pos} (hk : PKY X b gk) (hc : PF X e fc) (hN : X.N[i]? = some x := by rfl) (hv : Vis X.env.scope x := by first | exact Or.inl rfl | exact Or.inr (Or.inl rfl) | exact Or.inr (Or.inr rfl)) (hd : (x == ("__debug__" : Str)) = false := by decide) (hcd : (x == ("__classdict__" : Str)) = false := by decide)
    (hA : ∀ v, assign (.Subscript (.Name x p1) b p3) X.env v = (do
      let ov ← holding [v] (eval (.Name x p1) X.env)
      let iv ← holding [v, ov] (eval b X.env)
      standAt p3
      holding [v, ov, iv] (setItem ov iv v)
      release [v, ov, iv] []) := by intro _; rfl)
    (hs : swapsWithSole [.Subscript (.Name x p1) b p3] e pos.line X.env = pure false := by rfl) (hw : swappedStores [.Subscript (.Name x p1) b p3] e X.env = pure none := by rfl)
    (h1 : (assignEach [.Subscript (.Name x p1) b p3] X.env).map (·.2) = [assign (.Subscript (.Name x p1) b p3) X.env] := by rfl) :
    PD X S (.Assign [.Subscript (.Name x p1) b p3] e pos) (dPutC i gk (lntT i fc)) := ⟨(ps_asg hc.pe (pg_sub (pe_var hN hv hd hcd) hk.pe (set_dict (by omega)) hA) hs hw h1).imp fun D σ H ⟨B, O, ρ, n, DD, r, ⟨m, k, d, m', e1, e2, e3, e4, t⟩, E⟩ => by
  unfold lntT at e1
  split at e1
  case h_2 => cases e1
  rename_i kds ei
  obtain ⟨d', e5, e6⟩ := Option.bind_eq_some_iff.mp e1
  split at e6
  case isFalse => cases e6
  rename_i fl
  cases e6
  obtain ⟨O', p0, r', hp, ho⟩ := r.lendT ok ei
  refine ⟨O', S.dv, _, d, r'.al, r'.rep, e5, fun v H1 s1 dv => ?_⟩
  have r1 := r.same ok s1
  obtain ⟨kvs, hp⟩ := hp
  have dv := dv.flatT (O := O) fl ⟨kvs, s1 _ _ hp⟩ ho
  obtain ⟨ov, z1, z2⟩ := r1.rep.2 i _ (getC_some e2)
  obtain ⟨p, rfl, z3, z4⟩ := entC_ok z2
  refine ⟨.ref p, z1, O, S.dv, ρ, k, r1.al, r1.rep, e3, fun y H2 s2 hy => ?_⟩
  have r2 := r1.same ok s2
  obtain ⟨o, w1, w2⟩ := putC_ok z3 (dv.same (s2.fz O)) (z4.same s2) hy e4
  exact ⟨p, _, rfl, w1, E.nx O σ _ _ n (r2.poke ok (getC_some e2) z1 (q := p) (entC_hd m) (entC_of z3 w2) fun a z => entC_hd' _ _ z) t⟩⟩
end
end DS
set_option maxHeartbeats 2000000
namespace DS
open PySem PySem.Spec PyProof.Rows L2
/-! ### sorted(l), l any list of data that can be compared -/
def tupB : PyData → Bool
  | .tuple (_ :: _) => true
  | _ => false
def othB : PyData → Bool
  | .none => false
  | .tuple _ => false
  | _ => true
def okSort (ds : List PyData) : Bool := ds.all (fun x => ds.all fun y => PySem.W.alike x y) && (ds.all tupB || ds.all othB) && ds.all fun d => decide (d.depth < 20)
theorem okSort_parts {ds : List PyData} (h : okSort ds = true) : (∀ x ∈ ds, ∀ y ∈ ds, PySem.W.alike x y = true) ∧ PySem.W.Sortable ds ∧ ∀ d ∈ ds, d.depth < 20 := by
  unfold okSort at h
  simp only [Bool.and_eq_true, Bool.or_eq_true, List.all_eq_true, decide_eq_true_eq] at h
  obtain ⟨⟨h1, h2⟩, h3⟩ := h
  refine ⟨h1, ?_, h3⟩
  rcases h2 with h2 | h2
  · refine .inl fun d hd => ?_
    have := h2 d hd
    cases d <;> first | (simp [tupB] at this; done) | skip
    case tuple xs =>
      cases xs with
      | nil => simp [tupB] at this
      | cons x r => exact ⟨x, r, rfl⟩
  · refine .inr fun d hd => ?_
    have := h2 d hd
    cases d <;> first | (simp [othB] at this; done) | exact ⟨fun z => (nomatch z), fun _ z => (nomatch z)⟩
section
variable {X : Cx}
/-! tuples of ints -/
/-! ### sorted(set(l)), l a list of tuples of ints, none empty -/
section
variable {P : Program} {w : World} {A : Around} {E : Value → Shared → Prop} {s : Shared}
end
/-! ### sorted(t), t a tuple of tuples of ints -/
/-! ### max(l, key=len), l a list of tuples -/
def most (ls : Nat → Nat) (n : Nat) : Nat := argBest (fun i j => decide (((ls i : Nat) : Int) > ((ls j : Nat) : Int))) (n - 1)
/-! ### max(l), l a list of data that can be compared -/
theorem depthAll_lt {k : Nat} : ∀ {ds : List PyData}, (∀ d ∈ ds, d.depth < k) → 0 < k → PyData.depthAll ds < k
  | [], _, hk => by rw [PyData.depthAll]; exact hk
  | d :: ds, h, hk => by
    rw [PyData.depthAll]
    exact Nat.max_lt.mpr ⟨h d List.mem_cons_self, depthAll_lt (fun e he => h e (List.mem_cons_of_mem _ he)) hk⟩
end
end DS
namespace DS
open PySem PySem.Spec PyProof.Rows L2
/-! ### tuples told of as tuples: names, slices, joined, as keys -/
def getT (i : Nat) : DF := fun ρ => match ρ[i]? with | some (.sd false d) => some d | _ => none
section
variable {X : Cx} {S : Fr} {st : Stmt} {a b e : Expr} {f fa fb : DF} {i : Nat} {x : Str} {p pos pos' : Pos}
theorem pst_v (i : Nat) (hi : X.N[i]? = some x := by rfl) (hv : Vis X.env.scope x := by first | exact Or.inl rfl | exact Or.inr (Or.inl rfl) | exact Or.inr (Or.inr rfl)) (hd : (x == ("__debug__" : Str)) = false := by decide) (hcd : (x == ("__classdict__" : Str)) = false := by decide) : PST X (.Name x pos) (getT i) :=
  ⟨(pe_var hi hv hd hcd).imp fun σ H Q ⟨O, dv, ρ, d, al, r, e, q⟩ => by
    unfold getT at e
    split at e
    case h_2 => cases e
    rename_i d' ei
    cases e
    obtain ⟨ov, h1, v, rfl, h3⟩ := r.2 i _ ei
    exact ⟨v, h1, q v H (Same.refl H) h3⟩⟩
theorem sdt_tup {K : PySem.W.Frag} {H : Hp} {v : V} {d : PyData} (h : SdT K H v d) : ∃ b xs ds, v = .ref b ∧ d = .tuple ds ∧ H b = some (.tup xs) ∧ DxAll K H xs ds := h
theorem pst_slice {lo hi : Option Expr} {fl fh : Dn → Option (Option Int)} {p2 : Pos} (he : PST X e f) (hl : PFO X lo fl) (hu : PFO X hi fh) : PST X (.Subscript e (.Slice lo hi none p2) pos) (sliceF f fl fh) :=
  ⟨(pe_slice sl_tupA he.pe hl.po hu.po).imp fun σ H Q ⟨O, dv, ρ, c, al, r, e, q⟩ => by
    obtain ⟨d, e1, e2⟩ := Option.bind_eq_some_iff.mp e
    obtain ⟨l, e3, e4⟩ := Option.bind_eq_some_iff.mp e2
    obtain ⟨u, e5, e6⟩ := Option.bind_eq_some_iff.mp e4
    refine ⟨O, dv, ρ, _, al, r, e1, fun v H1 s1 hv => ⟨O, dv, ρ, l, al.same s1, r.same s1, e3, fun H2 s2 => ⟨O, dv, ρ, u, (al.same s1).same s2, (r.same s1).same s2, e5, fun H3 s3 => ?_⟩⟩⟩
    have s13 := s2.trans s3
    obtain ⟨b1, vs, ds, rfl, rfl, h1, p1⟩ := sdt_tup (hv.same (s13.fz O))
    cases e6
    have al3 := (al.same s1).same s13
    refine ⟨b1, vs, rfl, .inl (.inl (fz_get h1).1), fun w => ?_, fun _ p np => ?_⟩
    · rw [p1.len] at w
      refine q _ H3 (s1.trans s13) ⟨b1, vs, _, rfl, ?_, h1, p1⟩
      rw [cutD_all w]
    · have no := al3.new np
      exact q _ _ ((s1.trans s13).trans (new_same np)) ⟨p, _, _, rfl, rfl, by rw [fz_out no, upd_same], (p1.cut _ _).same ((new_same np).fz O)⟩⟩
theorem pst_cat2 (ha : PST X a fa) (hb : PST X b fb) : PST X (.BinOp a .Add b pos) (bin2 gAdd fa fb) :=
  ⟨(pe_op op_catA ha.pe hb.pe).imp fun σ H Q ⟨O, dv, ρ, c, al, r, e, q⟩ => by
    obtain ⟨d1, e1, e2⟩ := Option.bind_eq_some_iff.mp e
    obtain ⟨d2, e3, e4⟩ := Option.bind_eq_some_iff.mp e2
    refine ⟨O, dv, ρ, _, al, r, e1, fun v H1 s1 h1 => ⟨O, dv, ρ, _, al.same s1, r.same s1, e3, fun u H2 s2 h2 => ?_⟩⟩
    obtain ⟨b1, vs, xs, rfl, rfl, hb1, k2⟩ := sdt_tup (h1.same (s2.fz O))
    obtain ⟨b2, us, ys, rfl, rfl, hb2, k4⟩ := sdt_tup h2
    have e4 : (if xs.length + ys.length < lim then some (PyData.tuple (xs ++ ys)) else none) = some c := e4
    split at e4
    case isFalse => cases e4
    rename_i hl
    cases e4
    have s12 := s1.trans s2
    refine ⟨_, _, _, _, rfl, rfl, .inl (.inl (fz_get hb1).1), .inl (.inl (fz_get hb2).1), Nat.le_of_lt (lim_le (by rw [k2.len, k4.len]; exact hl)), fun z => ?_, fun z1 z2 => ?_, fun _ _ p np => ?_⟩
    · subst z
      cases k2
      exact q _ H2 s12 ⟨b2, us, _, rfl, rfl, hb2, k4⟩
    · subst z2
      cases k4
      rw [List.append_nil] at q
      exact q _ H2 s12 ⟨b1, vs, _, rfl, rfl, hb1, k2⟩
    · have no := ((al.same s1).same s2).new np
      exact q _ _ (s12.trans (new_same np)) ⟨p, _, _, rfl, rfl, by rw [fz_out no, upd_same], (k2.append k4).same ((new_same np).fz O)⟩⟩
def stK (f : DF) : Dn → Option KeyD := fun ρ => (f ρ).bind fun d => match d with | .tuple ds => (keysOf ds).map .inr | _ => none
theorem pk_st (h : PST X e f) : PKY X e (stK f) := ⟨h.pe.imp fun σ H Q ⟨O, dv, ρ, k, al, r, e, q⟩ => by
  obtain ⟨d, e1, e2⟩ := Option.bind_eq_some_iff.mp e
  refine ⟨O, dv, ρ, d, al, r, e1, fun v H' s hv => ?_⟩
  obtain ⟨b, xs, ds, rfl, rfl, hb, dx⟩ := sdt_tup hv
  obtain ⟨ks, e3, rfl⟩ := Option.map_eq_some_iff.mp e2
  refine q _ H' s ⟨b, rfl, ?_⟩
  rw [← keysOf_dx dx e3]
  exact (fz_get hb).1⟩
end
/-! ### a def with parameters that are such tuples -/
def spM (K : PySem.W.Frag) (n : Nat) (mk : Nat → Bool) (sem : List PyData → Option PyData) : Sp := fun vs H Q _ => ∃ O ds c, Al O H ∧ DxAll K (Fz O H) vs ds ∧ (∀ i v d, mk i = true → vs[i]? = some v → ds[i]? = some d → SdT K (Fz O H) v d) ∧ ds.length = n ∧ sem ds = some c ∧ ∀ v H', Same H H' → Dx K (Fz O H') v c → Q v H'
def startM (mk : Nat → Bool) (N : Nat) (ds : List PyData) : Dn := ds.mapIdx (fun i d => if mk i = true then .sd false d else .dat d) ++ List.replicate (N - ds.length) .na
theorem repE_startM {K : PySem.W.Frag} {O : Hid} {H : Hp} {dv : V} {N : List Str} {vs : List V} {ds : List PyData} {mk : Nat → Bool} (h : DxAll K (Fz O H) vs ds) (hm : ∀ i v d, mk i = true → vs[i]? = some v → ds[i]? = some d → SdT K (Fz O H) v d) : RepE K O H dv (L2.start N vs) (startM mk N.length ds) := by
  have hl := h.len
  refine ⟨by simp [startM, L2.start, hl], fun i e q => ?_⟩
  unfold startM at q
  unfold L2.start
  by_cases lt : i < ds.length
  · rw [List.getElem?_append_left (by rw [List.length_mapIdx]; exact lt), List.getElem?_mapIdx] at q
    rw [List.getElem?_append_left (by rw [List.length_map]; omega), List.getElem?_map]
    cases z : ds[i]? with
    | none => rw [z] at q; cases q
    | some d =>
      rw [z] at q
      obtain ⟨v, h1, h2⟩ := h.get z
      have q : (if mk i = true then Ent.sd false d else Ent.dat d) = e := Option.some.inj q
      by_cases m : mk i = true
      · rw [if_pos m] at q
        subst q
        exact ⟨some v, by rw [h1]; rfl, v, rfl, hm i v d m h1 z⟩
      · rw [if_neg m] at q
        subst q
        exact ⟨some v, by rw [h1]; rfl, v, rfl, h2⟩
  · rw [List.getElem?_append_right (by rw [List.length_mapIdx]; omega), List.getElem?_replicate] at q
    rw [List.getElem?_append_right (by rw [List.length_map]; omega), List.getElem?_replicate]
    split at q
    case isFalse => cases q
    rename_i z
    cases q
    rw [List.length_mapIdx] at z
    refine ⟨none, ?_, trivial⟩
    rw [if_pos (by rw [List.length_map]; omega)]
def semM (mk : Nat → Bool) (N : Nat) (f : SF) (ds : List PyData) : Option PyData := (f (startM mk N ds)).bind fun r => match r with
  | .nx _ => some .none
  | .rt d => some d
  | _ => none
section
variable {P : Program} {w : World} {K : PySem.W.Frag} {mg : Str → Option Value} {base : Heap}
theorem fn_zM {x qual : Str} {st : Stmt} {N ps : List Str} {f : Addr} {fd : FuncData} {k n : Nat} {mk : Nat → Bool} {h : SF} (F : Fun K x qual st f fd) (Sc : FnScope N ps (defScope st)) (hn : ps.length = n)
    (hb : ∀ (cdv : Value) (A : Around) (outer : List Env) (s : Shared) (H : Hp) (E : XK) (O : Hid), Al O H → (A.deeper (envOfC qual (defScope st) s.heap.objs.size f cdv)).guards = some [] → Room k (A.deeper (envOfC qual (defScope st) s.heap.objs.size f cdv)) →
      PZs (cxOf CX0 P w K mg base N qual (defScope st) f cdv A outer s H E).nox (noDeck H O) (defBody st) h) : FnG P w K mg base CX0 (k + 1) f fd ps (spM K n mk (semM mk N.length h)) := by
  refine FnG.ok F Sc (fun vs H Q E h => ?_) (fun cdv A outer s H vs Q E hg hr hh => ?_)
  · obtain ⟨O, ds, c, al, h1, _, h2, _⟩ := h
    rw [h1.len, h2, hn]
  obtain ⟨O, ds, d, al, hd, hm, hl, es, q⟩ := hh
  have pt := hb cdv A outer s H E O al hg hr
  obtain ⟨r, e1, e2⟩ := Option.bind_eq_some_iff.mp es
  refine ⟨_, pt.pds.pss, Fz O H, O, _, 0, ⟨fun _ _ => d = .none, fun e _ => e = d, fun _ _ => False, fun _ _ => False⟩, ⟨al, repE_startM hd hm, fun b y e _ => e, fun _ h => h, fun _ h => h.elim, Same.refl _, fun i g og q e1 e2 e3 => ?_, trivial⟩, ⟨r, e1, ?_⟩, ?_⟩
  · unfold startM at e1
    by_cases lt : i < ds.length
    · rw [List.getElem?_append_left (by rw [List.length_mapIdx]; exact lt), List.getElem?_mapIdx] at e1
      cases z : ds[i]? with
      | none => rw [z] at e1; cases e1
      | some d =>
        rw [z] at e1
        have e1 : (if mk i = true then Ent.sd false d else Ent.dat d) = g := Option.some.inj e1
        by_cases m : mk i = true
        · rw [if_pos m] at e1
          subst e1
          exact e3.elim
        · rw [if_neg m] at e1
          subst e1
          exact e3.elim
    · rw [List.getElem?_append_right (by rw [List.length_mapIdx]; omega), List.getElem?_replicate] at e1
      split at e1 <;> cases e1
      exact e3.elim
  · cases r with
    | nx ρ' => cases e2; exact rfl
    | rt d' => cases e2; exact rfl
    | bk ρ' => cases e2
    | ct ρ' => cases e2
  · refine ⟨fun O' σ' H' ρ' n' r e => ?_, fun O' σ' H' ρ' n' r e => e, fun O' σ' H' ρ' n' r e => e, fun v H' e n' dx kp _ _ h => ?_⟩
    · refine q _ H' (fun b y z => r.kp b y z fun h => h) ?_
      rw [show d = PyData.none from e]
      exact .non
    · rw [show e = d from h] at dx
      exact q v H' (fun b y z => kp b y z fun h => h) dx
end
/-- the arguments of such a def: each data, or such a tuple -/
def tAM (K : PySem.W.Frag) (mk : List Bool) (g : Dn → Option (List PyData)) : TA := fun σ H Q => ∃ O dv ρ ds, Al O H ∧ RepE K O H dv σ ρ ∧ g ρ = some ds ∧ ∀ vs H', Same H H' → DxAll K (Fz O H') vs ds → (∀ (i : Nat) v d, mk[i]? = some true → vs[i]? = some v → ds[i]? = some d → SdT K (Fz O H') v d) → Q vs H'
structure PFM (X : Cx) (es : List Expr) (mk : List Bool) (g : Dn → Option (List PyData)) : Prop where
  pa : PA X es (tAM X.K mk g)
section
variable {X : Cx} {e : Expr} {es : List Expr} {f : DF} {g : Dn → Option (List PyData)} {mk : List Bool} {x : Str} {p pos : Pos}
theorem pfm_nil : PFM X [] [] nilA := ⟨pa_nil.imp fun σ H Q ⟨O, dv, ρ, ds, al, r, e, q⟩ => by
  cases e
  exact q [] H (Same.refl H) .nil fun i v d h => by simp at h⟩
theorem pfm_dat (he : PF X e f) (hr : PFM X es mk g) (hs : starEach (e :: es) X.env = (false, eval e X.env) :: starEach es X.env := by rfl) : PFM X (e :: es) (false :: mk) (consA f g) :=
  ⟨(pa_cons he.pe hr.pa hs).imp fun σ H Q ⟨O, dv, ρ, ds, al, r, e, q⟩ => by
    obtain ⟨d, e1, e2⟩ := Option.bind_eq_some_iff.mp (show (f ρ).bind (fun d => (g ρ).bind fun ds => some (d :: ds)) = some ds from e)
    obtain ⟨ds', e3, e4⟩ := Option.bind_eq_some_iff.mp e2
    cases e4
    refine ⟨O, dv, ρ, d, al, r, e1, fun v H1 s1 h1 => ⟨O, dv, ρ, ds', al.same s1, r.same s1, e3, fun vs H2 s2 h2 h3 => q _ H2 (s1.trans s2) (.cons (h1.same (s2.fz O)) h2) fun i v' d' m k1 k2 => ?_⟩⟩
    cases i with
    | zero => cases m
    | succ i => exact h3 i v' d' (by simpa using m) (by simpa using k1) (by simpa using k2)⟩
theorem pfm_st (he : PST X e f) (hr : PFM X es mk g) (hs : starEach (e :: es) X.env = (false, eval e X.env) :: starEach es X.env := by rfl) : PFM X (e :: es) (true :: mk) (consA f g) :=
  ⟨(pa_cons he.pe hr.pa hs).imp fun σ H Q ⟨O, dv, ρ, ds, al, r, e, q⟩ => by
    obtain ⟨d, e1, e2⟩ := Option.bind_eq_some_iff.mp (show (f ρ).bind (fun d => (g ρ).bind fun ds => some (d :: ds)) = some ds from e)
    obtain ⟨ds', e3, e4⟩ := Option.bind_eq_some_iff.mp e2
    cases e4
    refine ⟨O, dv, ρ, d, al, r, e1, fun v H1 s1 h1 => ⟨O, dv, ρ, ds', al.same s1, r.same s1, e3, fun vs H2 s2 h2 h3 => q _ H2 (s1.trans s2) (.cons (h1.dx.same (s2.fz O)) h2) fun i v' d' m k1 k2 => ?_⟩⟩
    cases i with
    | zero =>
      cases k1
      cases k2
      exact h1.same (s2.fz O)
    | succ i => exact h3 i v' d' (by simpa using m) (by simpa using k1) (by simpa using k2)⟩
theorem pf_callM {CX : CXT} {k n : Nat} {fa : Addr} {fd : FuncData} {ps : List Str} {mf : Nat → Bool} {sem : List PyData → Option PyData} {E : XK} (F : FnG X.prog X.w X.K X.mg X.base CX k fa fd ps (spM X.K n mf sem)) (hgd : X.A.guards = some []) (hr : Room k X.A) (hg : Gl X x) (hm : X.mg x = some (.ref fa)) (hk : PySem.W.keepIn X.K (.ref fa) = true) (hb : Binds X.K fd ps []) (hx : Passes CX X E)
    (ha : PFM X (e :: es) mk g) (hmk : ∀ i, mf i = true → mk[i]? = some true) (hdb : (x == ("__debug__" : Str)) = false := by decide) (he : starEach (e :: es) X.env = (false, eval e X.env) :: starEach es X.env := by rfl) (hpl : (backTo pos (starEach es X.env)).any (·.1) = false := by rfl) :
    PF X (.Call (.Name x p) (e :: es) [] pos) (callU n sem g) :=
  ⟨(pe_callG F hgd hr hg hm hk hb .nil hx ha.pa hdb he hpl).imp fun σ H Q ⟨O, dv, ρ, d, al, r, e, q⟩ => by
    obtain ⟨ds, e1, e⟩ := Option.bind_eq_some_iff.mp e
    split at e
    case isFalse => cases e
    rename_i hl
    refine ⟨O, dv, ρ, ds, al, r, e1, fun vs H1 s1 h1 h2 => ⟨O, ds, d, al.same s1, ?_, fun i v d' m k1 k2 => h2 i v d' (hmk i m) (by rw [List.append_nil] at k1; exact k1) k2, hl, e, fun v H2 s2 h2 => q v H2 (s1.trans s2) h2⟩⟩
    rw [List.append_nil]
    exact h1⟩
end
end DS
namespace DS
open PySem PySem.Spec PyProof.Rows L2
/-! ### sorted(t, key=len), t a tuple of tuples -/
def tSrtLT (K : PySem.W.Frag) (ta : TA) : TE := fun σ H Q => ta σ H fun vs H1 => ∃ (a : Addr) (bs : List (V × Nat)), vs = [.ref a] ∧ SqT K H1 a (bs.map (·.1)) ∧ (∀ b ∈ bs, ∃ p ys, b.1 = .ref p ∧ SqT K H1 p ys ∧ ys.length = b.2) ∧
  ∀ p, H1 p = none → Q (.ref p) (upd H1 p (.lst ((bs.mergeSort leN).map (·.1))))
section
variable {X : Cx}
theorem pe_srtLT {e : Expr} {ta : TA} {p pl pos kp : Pos} (hc : X.calm = true) (hu : X.A.units + 64 < cLine) (hg : Gl X "sorted") (hm : X.mg "sorted" = none) (hg2 : Gl X "len") (hm2 : X.mg "len" = none) (ha : PA X [e] ta)
    (he : backTo pos (starEach [e] X.env) = (false, eval e X.env) :: backTo pos (starEach [] X.env) := by rfl) (hpl : (backTo pos (starEach [e] X.env)).any (·.1) = false := by rfl) :
    PE X (.Call (.Name "sorted" p) [e] [⟨some "key", .Name "len" pl, kp⟩] pos) (tSrtLT X.K ta) := by
  constructor
  intro pins s σ H Q I h
  refine wpAny_Call_Name_kw (ld_blt I hg hm boot_sorted (callWith_kw (thn (ha.run pos pins s σ H _ I h) fun us s1 ⟨vs, H1, I1, r1, q1⟩ => ?_) he hpl rfl rfl))
  show wpAny _ _ (evalAll ((do let v ← eval (.Name "len" pl) X.env; standAt pos; pure v) :: [])) _ _ s1
  refine wpAny_evalAll_cons (wpAny_bind (ld_blt I1 hg2 hm2 boot_len (wpAny_bind (wpAny_standAt (wpAny_pure (wpAny_evalAll_nil ?_))))))
  obtain ⟨a, bs, rfl, hq, hx, q⟩ := q1
  obtain ⟨u, rfl, ru⟩ := vals1 r1
  obtain rfl : u = Value.ref a := ru
  obtain ⟨its, rv, hT, hz⟩ := I1.tuple hq
  have lz : its.length ≤ sizeLine := by
    rw [← rv.length]
    exact hz
  have up : ∀ b o, s1.heap.get? b = some o → ((s1.heap.push (seqObj "list" #[] 0)).update s1.heap.objs.size (Obj.mapSeq (· ++ its.toArray))).get? b = some o := fun b o z => by
    rw [Heap.get?_update_ne _ _ _ _ (Nat.ne_of_lt (Heap.lt_size z))]
    exact Heap.get?_push_of_some _ z
  have sz : ((s1.heap.push (seqObj "list" #[] 0)).update s1.heap.objs.size (Obj.mapSeq (· ++ its.toArray))).objs.size = s1.heap.objs.size + 1 := by rw [Heap.size_update, size_push']
  show wpAny _ _ (call (.builtin "sorted") [.ref a] [(Str.ofString "key", .builtin "len")]) _ _ s1
  refine call_function_entry_kw kind_sorted plain_sorted entry_sorted (ksk_s1 _ _) (wpAny_bind (m := checkCount "sorted" 1 1 _) (wpAny_pure (wpAny_bind (gather_tup hT lz (wpAny_bind (wpAny_newList ?_ lz))))))
  generalize hg1 : (s1.heap.push (seqObj "list" #[] 0)).update s1.heap.objs.size (Obj.mapSeq (· ++ its.toArray)) = g at up sz ⊢
  dsimp only
  rw [sz]
  have at_ : (g.push (seqObj "list" its.toArray 0)).get? (s1.heap.objs.size + 1) = some (seqObj "list" its.toArray 0) := by
    rw [← sz]
    exact Heap.get?_push_size _ rfl
  have old : ∀ {h' : Heap}, PySem.W.KeepsBut (s1.heap.objs.size + 1) (g.push (seqObj "list" its.toArray 0)) h' → ∀ b o, s1.heap.get? b = some o → h'.get? b = some o := fun kp b o z =>
    kp b o (Nat.ne_of_lt (Nat.lt_succ_of_lt (Heap.lt_size z))) (Heap.get?_push_of_some _ (up b o z))
  refine wpAny_bind (wpAny_holding (PySem.W.list_sort_key_data (s := { s1 with heap := g.push (seqObj "list" its.toArray 0) }) (b := false) (fun b : V × Nat => PyData.int (b.2 : Int)) at_ (each_of rv) (PySem.W.AllAlike.of fun _ _ => by simp [PySem.W.alike]) (.inr fun d hd => ?_) ?_ (fun b _ => ?_) (ksk_l1 _ _) (ksk_t4 _ _) (fun v b hR hb h tk kp => ?_) fun out c h' tk kp hD ho eo => ?_))
  · obtain ⟨b, _, rfl⟩ := List.mem_map.mp hd
    exact ⟨fun z => (nomatch z), fun _ z => (nomatch z)⟩
  · have := rv.length
    rw [List.length_map] at this
    omega
  · have : (PyData.int (b.2 : Int)).depth = 0 := by simp [PyData.depth]
    show X.A.units + 1 + 1 + _ < cLine
    omega
  · obtain ⟨p, ys, e1, e2, e3⟩ := hx b hb
    rw [e1] at hR
    obtain rfl : v = Value.ref p := hR
    have I2 : Inv X pins σ H1 { s1 with heap := h, toks := tk } := I1.kept (old kp)
    obtain ⟨its2, rv2, hT2, hz2⟩ := I2.tuple e2
    have hl2 := rv2.length
    have line := line63
    refine len_tuple hT2 (by simp only [List.size_toArray] <;> omega) ⟨h, _, rfl, fun _ _ e => e, ?_⟩
    rw [show (its2.toArray.size : Int) = (b.2 : Int) by rw [List.size_toArray, ← hl2, e3]]
    exact .int _ _
  · have e1 : bs.mergeSort (PySem.W.dataLe false fun b : V × Nat => .int (b.2 : Int)) = bs.mergeSort leN := by
      rw [PySem.W.dataLe_int]
      refine PySem.W.sort_congr fun x _ y _ => ?_
      exact decide_eq_decide.mpr (by omega)
    rw [e1] at eo
    have nf : H1 (s1.heap.objs.size + 1) = none := I1.hok.fresh (Nat.le_succ _)
    refine wpAny_pure ⟨_, rfl, .ref _, upd H1 _ (.lst ((bs.mergeSort leN).map (·.1))), I1.laid (t' := tk) (old kp) (Nat.le_succ _) ⟨?_, out, c, of_each eo, hD⟩, rfl, q _ nf⟩
    rw [List.length_map, List.length_mergeSort]
    rw [List.length_map] at hz
    exact hz
end
def sortLenTD : PyData → Option PyData
  | .tuple ds => (lensD ds).map fun ls => .list (((ds.zip ls).mergeSort leN).map (·.1))
  | _ => none
def sortLenTF (f : DF) : DF := fun ρ => (f ρ).bind sortLenTD
theorem paired_all {F : V → PyData → Prop} : ∀ {xs : List V} {ds : List PyData}, Paired F xs ds → ∀ p ∈ xs.zip ds, F p.1 p.2
  | _, _, .nil => fun p hp => by simp at hp
  | _, _, .cons h r => fun p hp => by
    rcases List.mem_cons.mp hp with e | hp
    · rw [e]; exact h
    · exact paired_all r p hp
theorem sd_sort {K : PySem.W.Frag} {H : Hp} {xs : List V} {ds : List PyData} {ls : List Nat} (h : Paired (SdT K H) xs ds) (hl : ds.length = ls.length) : Paired (SdT K H) (((xs.zip ls).mergeSort leN).map (·.1)) (((ds.zip ls).mergeSort leN).map (·.1)) := by
  have l1 : xs.length = ds.length := Paired.length h
  obtain ⟨e1, e2⟩ := zip3 xs ds ls l1 hl
  have m1 : (((xs.zip ds).zip ls).mergeSort leN).map (fun t => (t.1.1, t.2)) = (xs.zip ls).mergeSort leN :=
    (PySem.W.sort_maps (r := leN) (s := leN) (l := (xs.zip ds).zip ls) (fun t => (t.1.1, t.2)) (fun _ _ _ _ => rfl)).trans (congrArg (fun l => l.mergeSort leN) e1)
  have m2 : (((xs.zip ds).zip ls).mergeSort leN).map (fun t => (t.1.2, t.2)) = (ds.zip ls).mergeSort leN :=
    (PySem.W.sort_maps (r := leN) (s := leN) (l := (xs.zip ds).zip ls) (fun t => (t.1.2, t.2)) (fun _ _ _ _ => rfl)).trans (congrArg (fun l => l.mergeSort leN) e2)
  rw [← m1, ← m2, List.map_map, List.map_map]
  have fin : ∀ l : List ((V × PyData) × Nat), (∀ t ∈ l, SdT K H t.1.1 t.1.2) → Paired (SdT K H) (l.map fun t => t.1.1) (l.map fun t => t.1.2) := fun l => by
    induction l with
    | nil => exact fun _ => .nil
    | cons t l ih => exact fun hm => .cons (hm t List.mem_cons_self) (ih fun u hu => hm u (List.mem_cons_of_mem _ hu))
  exact fin _ fun t ht => paired_all h _ (List.of_mem_zip ((List.mergeSort_perm _ leN).mem_iff.mp ht)).1
theorem psd_sortLen {X : Cx} {e : Expr} {f : DF} {p pl pos kp : Pos} (hc : X.calm = true) (hu : X.A.units + 64 < cLine) (hg : Gl X "sorted") (hm : X.mg "sorted" = none) (hg2 : Gl X "len") (hm2 : X.mg "len" = none) (ha : PSD X e f) (hs : starEach [e] X.env = (false, eval e X.env) :: starEach [] X.env := by rfl)
    (he : backTo pos (starEach [e] X.env) = (false, eval e X.env) :: backTo pos (starEach [] X.env) := by rfl) (hpl : (backTo pos (starEach [e] X.env)).any (·.1) = false := by rfl) :
    PSD X (.Call (.Name "sorted" p) [e] [⟨some "key", .Name "len" pl, kp⟩] pos) (sortLenTF f) :=
  ⟨(pe_srtLT hc hu hg hm hg2 hm2 (pa_cons ha.pe pa_nil hs) he hpl).imp fun σ H Q ⟨O, dv, ρ, d, al, r, e, q⟩ => by
    obtain ⟨t, e1, e2⟩ := Option.bind_eq_some_iff.mp e
    refine ⟨O, dv, ρ, t, al, r, e1, fun v H1 s1 hv => ?_⟩
    obtain ⟨b, vs, ds, rfl, ⟨_, rfl⟩ | ⟨hb, rfl⟩, pr⟩ := hv
    · cases e2
    obtain ⟨ls, e3, rfl⟩ := Option.map_eq_some_iff.mp e2
    have len := Paired.length pr
    have len2 := lens_len e3
    refine ⟨b, vs.zip ls, rfl, ?_, fun x hx => ?_, fun p np => ?_⟩
    · rw [fst_zip (by omega)]
      exact .inl (.inl (fz_get hb).1)
    · obtain ⟨bv, bn⟩ := x
      obtain ⟨i, hi⟩ := List.getElem?_of_mem hx
      obtain ⟨w1, w2⟩ := List.getElem?_zip_eq_some.mp hi
      have hd : ∃ d', ds[i]? = some d' := ⟨_, List.getElem?_eq_getElem (by
        have := (List.getElem?_eq_some_iff.mp w1).1
        omega)⟩
      obtain ⟨d', e5⟩ := hd
      obtain ⟨v', w3, dx⟩ := paired_get pr e5
      rw [w1] at w3
      cases w3
      obtain ⟨es, rfl, e6⟩ := lensD_get e3 i d' e5
      obtain ⟨b2, ys, es', rfl, e7, hb2, m2⟩ := dx
      cases e7
      refine ⟨_, _, rfl, .inl (.inl (fz_get hb2).1), ?_⟩
      rw [m2.len, e6]
      simp [List.getD, w2]
    · exact q _ _ (s1.trans (new_same np)) (sdl_new (al.same s1) np (sd_sort (pmap pr (Same.refl _)) len2))⟩
end DS
namespace DS
open PySem PySem.Spec PyProof.Rows L2
/-! ### {k: v}, the key a tuple told of as one -/
end DS
namespace DS
open PySem PySem.Spec PyProof.Rows L2
/-! ### a def that gives a list of tuples, by its statements as functions -/
structure PZsS (X : Cx) (S : Fr) (st : List Stmt) (h : SF) : Prop where
  pds : PDsS X S st (dFun h)
def sSeqS (f g : SF) : SF := fun ρ => (f ρ).bind fun r => match r with
  | .nx ρ' => g ρ'
  | _ => none
theorem PDsS.imp {X : Cx} {S : Fr} {st : List Stmt} {T T' : TD} (h : PDsS X S st T) (k : ∀ DD ρ n, T' DD ρ n → T DD ρ n) : PDsS X S st T' := ⟨h.pss.imp fun D σ H ⟨B, O, ρ, n, DD, r, t, E⟩ => ⟨B, O, ρ, n, DD, r, k _ _ _ t, E⟩⟩
section
variable {X : Cx} {S : Fr} {st : Stmt} {rest : List Stmt} {f g h : SF} {e : Expr} {fe : DF} {pos : Pos}
theorem pzss_cons (h1 : PZ X S st f) (h2 : PZsS X S rest g) : PZsS X S (st :: rest) (sSeqS f g) := ⟨(pdss_cons h1.pd h2.pds).imp fun DD ρ n ⟨r, e, t⟩ => by
  obtain ⟨r1, e1, e2⟩ := Option.bind_eq_some_iff.mp e
  refine ⟨r1, e1, ?_⟩
  cases r1 with
  | nx ρ' => exact ⟨r, e2, t⟩
  | _ => cases e2⟩
theorem pzss_ret (ok : S.Ok) (he : PSD X e fe) : PZsS X S [.Return (some e) pos] (sRet fe) := ⟨(pdss_ret ok he).imp fun DD ρ n ⟨r, e, t⟩ => by
  obtain ⟨d, e1, e2⟩ := Option.bind_eq_some_iff.mp e
  cases e2
  exact ⟨d, e1, t⟩⟩
end
def semS (N : Nat) (f : SF) (ds : List PyData) : Option PyData := (f (startD N ds)).bind fun r => match r with
  | .rt d => some d
  | _ => none
theorem fn_zS {P : Program} {w : World} {K : PySem.W.Frag} {mg : Str → Option Value} {base : Heap} {x qual : Str} {st : Stmt} {N ps : List Str} {f : Addr} {fd : FuncData} {k n : Nat} {h : SF} (F : Fun K x qual st f fd) (Sc : FnScope N ps (defScope st)) (hn : ps.length = n)
    (hb : ∀ (cdv : Value) (A : Around) (outer : List Env) (s : Shared) (H : Hp) (E : XK) (O : Hid), Al O H → (A.deeper (envOfC qual (defScope st) s.heap.objs.size f cdv)).guards = some [] → Room k (A.deeper (envOfC qual (defScope st) s.heap.objs.size f cdv)) →
      PZsS (cxOf CX0 P w K mg base N qual (defScope st) f cdv A outer s H E).nox (noDeck H O) (defBody st) h) : FnG P w K mg base CX0 (k + 1) f fd ps (spSd K n (semS N.length h)) :=
  fn_sd F Sc hn fun cdv A outer s H E O al hg hr => ⟨_, (hb cdv A outer s H E O al hg hr).pds, fun ds d hl e => by
    obtain ⟨r, e1, e2⟩ := Option.bind_eq_some_iff.mp e
    refine ⟨r, e1, ?_⟩
    cases r with
    | rt d' => cases e2; exact rfl
    | _ => cases e2⟩
/-! ### for over a list of such tuples; min of a list of ints -/
def minD : List PyData → Option PyData
  | [.list ds] => (intsD ds).bind fun is => is.min?.map .int
  | _ => none
/-! ### tuple(range(..)) told of as a tuple -/
theorem pst_rng {X : Cx} {e : Expr} {f : DF} {p1 pos1 p pos : Pos} (hc : X.calm = true) (hg' : Gl X "tuple") (hm' : X.mg "tuple" = none) (hg : Gl X "range") (hm : X.mg "range" = none) (ha : PF X e f) (na : starEach [e] X.env = (false, eval e X.env) :: starEach [] X.env := by rfl)
    (hs : starEach [.Call (.Name "range" p1) [e] [] pos1] X.env = (false, eval (.Call (.Name "range" p1) [e] [] pos1) X.env) :: starEach [] X.env := by rfl) : PST X (.Call (.Name "tuple" p) [.Call (.Name "range" p1) [e] [] pos1] [] pos) (tupI (rng1I f)) :=
  ⟨(pe_tupRg hc hg' hm' (prg_1 hg hm ha.pe na) hs).imp fun σ H Q ⟨O, dv, ρ, d, al, r, e, q⟩ => by
    obtain ⟨xs, e0, rfl⟩ := Option.map_eq_some_iff.mp e
    obtain ⟨d, e1, e3⟩ := Option.bind_eq_some_iff.mp e0
    obtain ⟨j, e2, e4⟩ := Option.bind_eq_some_iff.mp e3
    rw [toI_some e2] at e1
    split at e4
    case isFalse => cases e4
    rename_i ok
    cases e4
    refine ⟨O, dv, ρ, _, al, r, e1, fun v H1 s1 hv => ?_⟩
    cases hv
    refine ⟨j, rfl, okR_rg (by decide) ok, fun l nl => ?_⟩
    have no := (al.same s1).new nl
    refine q _ _ (s1.trans (new_same nl)) ⟨l, _, _, rfl, ?_, by rw [fz_out no, upd_same], rg_dx 0 j⟩
    simp⟩
def onlyL (f : DF) : DF := fun ρ => (f ρ).bind fun d => match d with | .list ds => some (.list ds) | _ => none
theorem psd_only {X : Cx} {e : Expr} {f : DF} (h : PSD X e f) : PSD X e (onlyL f) := ⟨h.pe.imp fun σ H Q ⟨O, dv, ρ, d, al, r, e, q⟩ => by
  obtain ⟨d', e1, e2⟩ := Option.bind_eq_some_iff.mp e
  refine ⟨O, dv, ρ, d', al, r, e1, ?_⟩
  cases d' with
  | list ds => cases e2; exact q
  | _ => cases e2⟩
theorem onlyL_lst {f : DF} {ρ : Dn} {d : PyData} (h : onlyL f ρ = some d) : ∃ ds, d = .list ds := by
  obtain ⟨d', _, h⟩ := Option.bind_eq_some_iff.mp h
  cases d' with
  | list ds => cases h; exact ⟨ds, rfl⟩
  | _ => cases h
theorem tup1_ne {f : DF} {ρ : Dn} {d : PyData} (h : tupF (consA f nilA) ρ = some d) : ∃ x xs, d = .tuple (x :: xs) := by
  obtain ⟨ds, e, h⟩ := Option.bind_eq_some_iff.mp h
  split at h
  case isFalse => cases h
  cases h
  obtain ⟨x, e1, e2⟩ := Option.bind_eq_some_iff.mp e
  cases e2
  exact ⟨x, [], rfl⟩
end DS
namespace DS
open PySem PySem.Spec PyProof.Rows L2
/-! ### max of a tuple, min of a list or of a tuple, of data that can be compared -/
def maxTD : List PyData → Option PyData
  | [.tuple (d :: ds)] => if okSort (d :: ds) = true then some (PySem.W.maxD d ds) else none
  | _ => none
def minAD : List PyData → Option PyData
  | [.list (d :: ds)] => if okSort (d :: ds) = true then some (PySem.W.minD d ds) else none
  | [.tuple (d :: ds)] => if okSort (d :: ds) = true then some (PySem.W.minD d ds) else none
  | _ => none
section
variable {X : Cx}
/-- what is picked out of comparable items is one of them -/
theorem pick_ok {pins : List (Addr × Obj)} {σ : L2.St} {H : Hp} {s : Shared} {O : Hid} {vs : List V} {its : List Value} {ds : List PyData} {Q : V → Hp → Prop} {c : PyData} (I : Inv X pins σ H s) (h2 : DxAll X.K (Fz O H) vs ds) (rv : Vals vs its)
    (q : ∀ v H', Same H H' → Dx X.K (Fz O H') v c → Q v H') : ∀ (i : Nat) (v : Value) (h' : Heap) (tk : Nat) (bs : List Addr), its.toArray[i]? = some v → Reads h' v c bs → (∀ b o, s.heap.get? b = some o → h'.get? b = some o) → EP X pins σ Q v { s with heap := h', toks := tk } := fun i v h' tk bs hv rd k => by
  have hv : its[i]? = some v := by simpa using hv
  have lt : i < vs.length := by rw [rv.length]; exact (List.getElem?_eq_some_iff.mp hv).1
  have ex : vs[i]? = some vs[i] := List.getElem?_eq_getElem lt
  obtain ⟨v', hv', rx2⟩ := rv.get ex
  rw [hv] at hv'
  cases hv'
  obtain ⟨d', e5, dx⟩ := h2.get' ex
  have I2 : Inv X pins σ H { s with heap := h', toks := tk } := I.kept k
  obtain ⟨cs, rd2⟩ := Rx.reads (Dx.rx I2 (dx.same (fz_sub O H)) rx2)
  have e6 := reads_one_all.1 rd _ _ rd2
  refine ⟨_, H, I2, rx2, q _ H (Same.refl H) ?_⟩
  rw [e6]
  exact dx
theorem alike_ok {d0 : PyData} {ds : List PyData} (hok : okSort (d0 :: ds) = true) : PySem.W.AlikeAll (d0 :: ds) ∧ PyData.depthAll (d0 :: ds) < 20 := by
  obtain ⟨al1, so, dp⟩ := okSort_parts hok
  refine ⟨⟨al1, fun x hx z => ?_⟩, depthAll_lt dp (by decide)⟩
  rcases so with so | so
  · obtain ⟨y, r, e⟩ := so x hx
    rw [z] at e
    cases e
  · exact (so x hx).1 z
theorem cf_minA (hc : X.calm = true) (hu : X.A.units + 64 < cLine) : CallR X (.builtin "min") (rcF X.K minAD) := by
  intro pins s σ H xs us Q I rs h
  obtain ⟨O, ds, c, al, hx, g, q⟩ := h
  match ds, hx, g with
  | [.list (d0 :: ds)], .cons (.lst (a := a) (xs := vs) h1 h2) .nil, g =>
    change (if okSort (d0 :: ds) = true then some (PySem.W.minD d0 ds) else none) = some c at g
    split at g
    case isFalse => cases g
    rename_i hok
    cases g
    obtain ⟨a1, a2⟩ := alike_ok hok
    obtain ⟨u, rfl, ru⟩ := vals1 rs
    cases ru
    obtain ⟨its, rv, hT, hz⟩ := I.list ((fz_sub O H).seq h1)
    obtain ⟨as, rx⟩ := RxAll.reads (DxAll.rx I (h2.same (fz_sub O H)) rv)
    exact PySem.W.min_list_data (as := as) (I.ok.hd hc) hT.isList (by simpa using rx) a1 (by omega) (pick_ok I h2 rv q)
  | [.tuple (d0 :: ds)], .cons (.tup (a := a) (xs := vs) h1 h2) .nil, g =>
    change (if okSort (d0 :: ds) = true then some (PySem.W.minD d0 ds) else none) = some c at g
    split at g
    case isFalse => cases g
    rename_i hok
    cases g
    obtain ⟨a1, a2⟩ := alike_ok hok
    obtain ⟨u, rfl, ru⟩ := vals1 rs
    cases ru
    obtain ⟨its, rv, hT, hz⟩ := I.tuple (sqT_same (fz_sub O H) h1)
    obtain ⟨as, rx⟩ := RxAll.reads (DxAll.rx I (h2.same (fz_sub O H)) rv)
    exact PySem.W.min_tuple_data (as := as) (I.ok.hd hc) hT (by simpa using rx) a1 (by omega) (pick_ok I h2 rv q)
end
end DS
namespace DS
open PySem PySem.Spec PyProof.Rows L2
end DS
namespace DS
open PySem PySem.Spec PyProof.Rows L2
section
variable {X : Cx} {S : Fr}
/-- a, b = x, y with draws, where a name is a cell -/
theorem pd_parXC (ok : S.Ok) {i j : Nat} {x y : Str} {a b : Expr} {R : TXA} {px py pt pos : Pos} {kt k2 pt2} (hc : X.calm = true) (hN : X.N.Nodup) (hi : X.N[i]? = some x) (hj : X.N[j]? = some y)
    (hx : Loc X.env.scope x) (hy : Loc X.env.scope y) (ha : PXA X S [a, b] R)
    (hw : swappedStores [.Tuple [.Name x px, .Name y py] kt pt] (.Tuple [a, b] k2 pt2) X.env = pure none := by rfl)
    (hs : swapsWithSole [.Tuple [.Name x px, .Name y py] kt pt] (.Tuple [a, b] k2 pt2) pos.line X.env = pure false := by rfl)
    (h1 : (assignEach [.Tuple [.Name x px, .Name y py] kt pt] X.env).map (·.2) = [assign (.Tuple [.Name x px, .Name y py] kt pt) X.env] := by rfl)
    (hfx : X.fn x = true ∨ X.env.scope.names.lookup x = some .local := by first | exact .inl rfl | exact .inr rfl | assumption) (hfy : X.fn y = true ∨ X.env.scope.names.lookup y = some .local := by first | exact .inl rfl | exact .inr rfl | assumption)
    (e1 : (assignEach [.Name x px, .Name y py] X.env).map (·.2) = assign (.Name x px) X.env :: (assignEach [.Name y py] X.env).map (·.2) := by rfl) (e2 : (assignEach [.Name y py] X.env).map (·.2) = assign (.Name y py) X.env :: (assignEach [] X.env).map (·.2) := by rfl)
    (hn : (assignEach [.Name x px, .Name y py] X.env).length = 2 := by rfl) (hst : (assignEach [.Name x px, .Name y py] X.env).findIdx? (·.1) = none := by rfl) :
    PD X S (.Assign [.Tuple [.Name x px, .Name y py] kt pt] (.Tuple [a, b] k2 pt2) pos) (dParX i j R) := ⟨(ps_asg (pe_tup ha.pa) (pg_tup hc (pgs_cons (pg_name hN hi hx hfx) (pgs_cons (pg_name hN hj hy hfy) pgs_nil e2) e1) hn hst) hs hw h1).imp fun D σ H ⟨B, O, ρ, n, DD, r, t, E⟩ =>
  ⟨B, O, ρ, n, r, ha.mono _ _ _ _ (fun ds ρ1 n1 ⟨d, e, e1, z⟩ vs H1 r1 dx => by
    subst e1
    cases dx with
    | cons h1 h2 =>
      cases h2 with
      | cons h2 h3 =>
        cases h3
        exact ⟨(show 2 ≤ sizeLine by decide), fun q nq => ⟨q, _, rfl, .inl (.inl upd_same), rfl, _, _, rfl, _, [], rfl, rfl, E.nx O _ _ _ n1 (((r1.set (e := .dat d) ⟨_, rfl, h1⟩ notOwn_dat i).set (e := .dat e) ⟨_, rfl, h2⟩ notOwn_dat j).same ok (new_same nq)) z⟩⟩) t⟩⟩
/-! rows of one's own, as functions -/
end
end DS
namespace DS
open PySem PySem.Spec PyProof.Rows L2
/-! ### numbers as data -/
def ni (i : Nat) : PyData := .int (i : Int)
theorem rngD0 (m : Nat) : rngD 0 m = (List.range m).map ni := by
  unfold rngD ni
  refine List.map_congr_left fun i _ => ?_
  rw [Int.zero_add]
theorem rngD_at (lo m : Nat) : rngD (lo : Int) m = (List.range m).map fun i => ni (lo + i) := by
  unfold rngD ni
  refine List.map_congr_left fun i _ => ?_
  rw [Int.natCast_add]
theorem okR_nat {m : Nat} (h : m ≤ 1000000) : okR (m : Int) = true := by
  unfold okR
  refine decide_eq_true ?_
  omega
theorem rng1_nat {f : DF} {ρ : Dn} {m : Nat} (e : f ρ = some (ni m)) (h : m ≤ 1000000) : rng1I f ρ = some ((List.range m).map ni) := by
  unfold rng1I
  rw [e]
  show (if okR (m : Int) = true then some (rngD 0 (m : Int).toNat) else none) = _
  rw [if_pos (okR_nat h), Int.toNat_natCast, rngD0]
theorem rng2_nat {f g : DF} {ρ : Dn} {l m : Nat} (e : f ρ = some (ni l)) (e2 : g ρ = some (ni m)) (h : l ≤ 1000000) (h2 : m ≤ 1000000) : rng2I f g ρ = some ((List.range (m - l)).map fun i => ni (l + i)) := by
  unfold rng2I
  rw [e]
  show ((g ρ).bind fun d => (toI d).bind fun j => if (okR (l : Int) && okR j) = true then some (rngD (l : Int) (j - (l : Int)).toNat) else none) = _
  rw [e2]
  show (if (okR (l : Int) && okR (m : Int)) = true then some (rngD (l : Int) ((m : Int) - (l : Int)).toNat) else none) = _
  rw [if_pos (by rw [okR_nat h, okR_nat h2]; rfl)]
  have : ((m : Int) - (l : Int)).toNat = m - l := by omega
  rw [this, rngD_at]
theorem erase_perm' {α : Type} : ∀ (l : List α) (j : Nat) (h : j < l.length), (l[j] :: l.eraseIdx j).Perm l
  | [], j, h => absurd h (Nat.not_lt_zero _)
  | x :: l, 0, _ => List.Perm.refl _
  | x :: l, j + 1, h => by
    have ih := erase_perm' l j (Nat.lt_of_succ_lt_succ h)
    exact (List.Perm.swap x (l[j]'(Nat.lt_of_succ_lt_succ h)) (l.eraseIdx j)).trans (List.Perm.cons x ih)
/-! ### tables -/
def sgn (b : Nat → Nat → Bool) (i j : Nat) : Nat := if i = j then 46 else if b i j then 43 else 45
def rowS (n : Nat) (b : Nat → Nat → Bool) (i : Nat) : Str := ⟨((List.range n).map (sgn b i)).toArray⟩
def tabD (n : Nat) (b : Nat → Nat → Bool) : PyData := .tuple ((List.range n).map fun i => .str (rowS n b i))
/-- of each two one wins -/
structure Tour (n : Nat) (b : Nat → Nat → Bool) : Prop where
  one : 1 ≤ n
  nine : n ≤ 9
  anti : ∀ i j, i < n → j < n → i ≠ j → b i j = !b j i
  diag : ∀ i, b i i = false
theorem str_ext' {x y : Str} (h : x.cps.toList = y.cps.toList) : x = y := by
  cases x with
  | mk a =>
    cases y with
    | mk b =>
      have e : a.toList = b.toList := h
      rw [Array.toList_inj.mp e]
/-- texts of one sign each, put together -/
theorem join_signs : ∀ cs : List Nat, Txt.join (Str.ofString "") (cs.map fun c => (⟨#[c]⟩ : Str)) = ⟨cs.toArray⟩ := by
  intro cs
  have e := join_plain_closes (Str.ofString "") (cs.map fun c => (⟨#[c]⟩ : Str))
  rw [eq_of_beq e]
  refine str_ext' ?_
  show _ = cs
  induction cs with
  | nil => rfl
  | cons c r ih =>
    cases r with
    | nil => rfl
    | cons c2 r =>
      show ((⟨#[c]⟩ : Str) ++ Str.ofString "" ++ Str.join (Str.ofString "") ((c2 :: r).map fun c => (⟨#[c]⟩ : Str))).cps.toList = _
      have e2 := ih (join_plain_closes (Str.ofString "") ((c2 :: r).map fun c => (⟨#[c]⟩ : Str)))
      rw [Str.cps_append, Str.cps_append, Array.toList_append, Array.toList_append, e2]
      rfl
theorem rowS_len (n : Nat) (b : Nat → Nat → Bool) (i : Nat) : (rowS n b i).length = n := by
  show ((List.range n).map (sgn b i)).toArray.size = n
  simp
section
variable {n : Nat} {b : Nat → Nat → Bool} {i j : Nat}
theorem ix_tab (hi : i < n) : ixD (tabD n b) (ni i) = some (.str (rowS n b i)) := by
  show atI ((List.range n).map fun i => PyData.str (rowS n b i)) (i : Int) = _
  refine atI_nat ?_
  rw [List.getElem?_map, List.getElem?_range hi]
  rfl
theorem ix_row (hn : n ≤ 1000) (hj : j < n) : ixD (.str (rowS n b i)) (ni j) = some (.str ⟨#[sgn b i j]⟩) := by
  show (if (rowS n b i).length < lim then (atI (rowS n b i).cps.toList (j : Int)).map fun c => PyData.str ⟨#[c]⟩ else none) = _
  rw [rowS_len, if_pos (by show n < 1000000; omega)]
  have : atI (rowS n b i).cps.toList (j : Int) = some (sgn b i j) := by
    refine atI_nat ?_
    show ((List.range n).map (sgn b i))[j]? = _
    rw [List.getElem?_map, List.getElem?_range hj]
    rfl
  rw [this]
  rfl
/-- one beats the other, as a sign -/
def bt (b : Nat → Nat → Bool) (i j : Nat) : Bool := !decide (i = j) && b i j
theorem gEq_of {d e : PyData} {r : Bool} (h1 : (SeqAt.shaped d && SeqAt.shaped e) = true) (h2 : PyData.eqv d e = r) : gEq d e = some (.bool r) := by
  unfold gEq cmpOk
  rw [h1, Bool.true_or, if_pos rfl, h2]
theorem gNe_of {d e : PyData} {r : Bool} (h1 : (SeqAt.shaped d && SeqAt.shaped e) = true) (h2 : PyData.eqv d e = r) : gNe d e = some (.bool (!r)) := by
  unfold gNe cmpOk
  rw [h1, Bool.true_or, if_pos rfl, h2]
theorem eq_plus : gEq (.str ⟨#[sgn b i j]⟩) (.str (Str.ofString "+")) = some (.bool (bt b i j)) := by
  unfold sgn bt
  by_cases h : i = j
  · rw [if_pos h, decide_eq_true h]
    show _ = some (PyData.bool false)
    exact gEq_of (by decide +kernel) (by decide +kernel)
  · rw [if_neg h, decide_eq_false h]
    cases b i j
    · exact gEq_of (by decide +kernel) (by decide +kernel)
    · exact gEq_of (by decide +kernel) (by decide +kernel)
theorem len_tab : lenD [tabD n b] = some (ni n) := by
  show some (PyData.int ((List.range n).map fun i => PyData.str (rowS n b i)).length) = _
  rw [List.length_map, List.length_range]
  rfl
end
/-! ### small steps -/
theorem gEq_int (i j : Int) : gEq (.int i) (.int j) = some (.bool (i == j)) := by
  refine gEq_of ?_ ?_
  · simp [SeqAt.shaped, PyData.canLay0, PyData.depth]
  · simp [PyData.eqv]
theorem gNe_int (i j : Int) : gNe (.int i) (.int j) = some (.bool (!(i == j))) := by
  refine gNe_of ?_ ?_
  · simp [SeqAt.shaped, PyData.canLay0, PyData.depth]
  · simp [PyData.eqv]
theorem mul_small {h : Int → Int → PyData} {i : Int} (k : -(2 ^ 64) < i ∧ i < 2 ^ 64) (j : Int) : gIC cMul h (.int i) (.int j) = some (h i j) := by
  show (if cMul i j = true then some (h i j) else none) = _
  rw [if_pos (by unfold cMul; rw [decide_eq_true k]; rfl)]
theorem div_pos {h : Int → Int → PyData} {j : Int} (k : 0 < j ∧ j < 1073741824) (i : Int) : gIC cDiv h (.int i) (.int j) = some (h i j) := by
  show (if cDiv i j = true then some (h i j) else none) = _
  exact if_pos (decide_eq_true k)
/-! comprehensions, where each item is known -/
section
variable {fi : Dn → Option (List PyData)} {g : PyData → Dn → Option Dn} {tt : Dn → Option Bool} {te : DF} {vs : List Nat} {ρ : Dn} {xs : List PyData} {h : PyData → Option PyData}
/-- a step without a test -/
theorem step_map {i : Nat} {x y : PyData} (e : te (ρ.set i (.dat x)) = some y) : stepC (setN i) yesT te ρ x = some (some y) := by
  show ((te (ρ.set i (.dat x))).map some) = _
  rw [e]
  rfl
end
theorem filterMap_some {α β : Type} (f : α → β) : ∀ l : List α, l.filterMap (fun x => some (f x)) = l.map f
  | [] => rfl
  | x :: l => by rw [List.filterMap_cons]; simp [filterMap_some f l]
/-! ### rows of signs -/
/-- the pair x, y is drawn -/
def Dr (M : Nat → Nat → Nat) (x y : Nat) : Prop := (M x y = 43 ∧ M y x = 45) ∨ (M x y = 45 ∧ M y x = 43)
/-- in the order os the pairs ahead of (i, i + 1 + c) are drawn -/
structure Prs (os : List Nat) (m i c : Nat) (M : Nat → Nat → Nat) : Prop where
  diag : ∀ a, a < m → M a a = 46
  drawn : ∀ x y (hx : x < os.length) (hy : y < os.length), x < y → (x < i ∨ (x = i ∧ y < i + 1 + c)) → Dr M os[x] os[y]
theorem Prs.start {os : List Nat} {m : Nat} : Prs os m 0 0 (fun _ _ => 46) := ⟨fun _ _ => rfl, fun x y hx hy lt h => by omega⟩
theorem Prs.next {os : List Nat} {m i c : Nat} {M : Nat → Nat → Nat} (h : Prs os m i c M) (hl : os.length ≤ i + 1 + c) : Prs os m (i + 1) 0 M := ⟨h.diag, fun x y hx hy lt k => h.drawn x y hx hy lt (by omega)⟩
theorem Prs.all {os : List Nat} {m : Nat} {M : Nat → Nat → Nat} (hp : os.Perm (List.range m)) (h : Prs os m m 0 M) : ∀ x y, x < m → y < m → x ≠ y → Dr M x y := fun x y hx hy ne => by
  have l : os.length = m := by rw [hp.length_eq, List.length_range]
  have at_ : ∀ z, z < m → ∃ i, ∃ h : i < os.length, os[i] = z := fun z hz => List.mem_iff_getElem.mp (hp.mem_iff.mpr (List.mem_range.mpr hz))
  obtain ⟨i, hi, rfl⟩ := at_ x hx
  obtain ⟨j, hj, rfl⟩ := at_ y hy
  rcases Nat.lt_trichotomy i j with k | k | k
  · exact h.drawn i j hi hj k (.inl (by omega))
  · subst k
    exact absurd rfl ne
  · rcases h.drawn j i hj hi k (.inl (by omega)) with ⟨a, b⟩ | ⟨a, b⟩
    · exact .inr ⟨b, a⟩
    · exact .inl ⟨b, a⟩
/-- tuple([''.join(row) for row in rows]) -/
theorem join_row (cs : List Nat) (hl : cs.length ≤ 1000) : joinD (.str (Str.ofString "")) (.list (cs.map fun c => .str ⟨#[c]⟩)) = some (.str ⟨cs.toArray⟩) := by
  have e : (cs.map fun c => PyData.str ⟨#[c]⟩) = (cs.map fun c => (⟨#[c]⟩ : Str)).map .str := by rw [List.map_map]; rfl
  show (strsD (cs.map fun c => PyData.str ⟨#[c]⟩)).bind _ = _
  rw [e, strsD_map]
  show (if (((cs.map fun c => (⟨#[c]⟩ : Str)).map (·.length)).sum + (cs.map fun c => (⟨#[c]⟩ : Str)).length * (Str.ofString "").length < lim) then some (PyData.str (Txt.join (Str.ofString "") (cs.map fun c => (⟨#[c]⟩ : Str)))) else none) = _
  have s1 : ∀ l : List Nat, ((l.map fun c => (⟨#[c]⟩ : Str)).map (·.length)).sum = l.length := fun l => by
    induction l with
    | nil => rfl
    | cons x l ih =>
      simp only [List.map_cons, List.sum_cons, List.length_cons, ih]
      show 1 + l.length = _
      omega
  rw [if_pos (by
    rw [s1, show (Str.ofString "").length = 0 from rfl]
    show _ < 1000000
    omega), join_signs]
end DS
namespace DS
open PySem PySem.Spec PyProof.Rows L2
/-! ### how a def's meaning is found, part by part -/
section
variable {ρ : Dn} {fa fb f : DF} {x y z d : PyData}
theorem bin2_eq {g : PyData → PyData → Option PyData} (e1 : fa ρ = some x) (e2 : fb ρ = some y) (e3 : g x y = some z) : bin2 g fa fb ρ = some z := by
  unfold bin2
  rw [e1]
  show (fb ρ).bind _ = _
  rw [e2]
  exact e3
theorem tst_eq {b : Bool} (e : f ρ = some (.bool b)) : tstF f ρ = some b := by
  unfold tstF
  rw [e]
  rfl
theorem andT_eq {ga gb : Dn → Option Bool} {a b : Bool} (e1 : ga ρ = some a) (e2 : a = true → gb ρ = some b) : andT ga gb ρ = some (a && b) := by
  unfold andT
  rw [e1]
  cases a with
  | true => exact e2 rfl
  | false => rfl
theorem orT_eq {ga gb : Dn → Option Bool} {a b : Bool} (e1 : ga ρ = some a) (e2 : a = false → gb ρ = some b) : orT ga gb ρ = some (a || b) := by
  unfold orT
  rw [e1]
  cases a with
  | false => exact e2 rfl
  | true => rfl
theorem notT_eq {ga : Dn → Option Bool} {a : Bool} (e1 : ga ρ = some a) : notT ga ρ = some (!a) := by
  unfold notT
  rw [e1]
  rfl
theorem ifF_eq {g : Dn → Option Bool} {b : Bool} (e1 : g ρ = some b) (e2 : (if b = true then fa ρ else fb ρ) = some z) : ifF g fa fb ρ = some z := by
  unfold ifF
  rw [e1]
  exact e2
theorem call1 {g : List PyData → Option PyData} (e1 : f ρ = some x) (e2 : g [x] = some z) : callA g (consA f nilA) ρ = some z := by
  unfold callA consA
  rw [e1]
  exact e2
theorem callU_eq {n : Nat} {sem : List PyData → Option PyData} {fs : Dn → Option (List PyData)} {ds : List PyData} (e1 : fs ρ = some ds) (hl : ds.length = n) (e2 : sem ds = some z) : callU n sem fs ρ = some z := by
  unfold callU
  rw [e1]
  show (if ds.length = n then sem ds else none) = _
  rw [if_pos hl, e2]
theorem consA_eq {g : Dn → Option (List PyData)} {ds : List PyData} (e1 : f ρ = some x) (e2 : g ρ = some ds) : consA f g ρ = some (x :: ds) := by
  unfold consA
  rw [e1]
  show (g ρ).bind _ = _
  rw [e2]
  rfl
theorem tupF_eq {g : Dn → Option (List PyData)} {ds : List PyData} (e : g ρ = some ds) (h : ds.length < lim) : tupF g ρ = some (.tuple ds) := by
  unfold tupF
  rw [e]
  show (if ds.length < lim then _ else _) = _
  rw [if_pos h]
theorem lstF_eq {g : Dn → Option (List PyData)} {ds : List PyData} (e : g ρ = some ds) (h : ds.length < lim) : lstI (limA g) ρ = some (.list ds) := by
  unfold lstI limA
  rw [e]
  show Option.map _ (if ds.length < lim then _ else _) = _
  rw [if_pos h]
  rfl
/-! comprehensions -/
section
variable {α : Type} {fi : Dn → Option (List PyData)} {gt : PyData → Dn → Option Dn} {tt : Dn → Option Bool} {te : DF} {vs : List Nat} {l : List α} {g : α → PyData} {k : α → Option PyData}
theorem compM_of {h : PyData → Option (Option PyData)} : ∀ {l : List α}, (∀ x ∈ l, h (g x) = some (k x)) → compM h (l.map g) = some (l.filterMap k)
  | [], _ => rfl
  | x :: l, e => by
    simp only [List.map_cons, compM]
    rw [e x List.mem_cons_self, compM_of fun y hy => e y (List.mem_cons_of_mem _ hy), List.filterMap_cons]
    cases k x <;> rfl
theorem lc_of (e1 : fi ρ = some (l.map g)) (hl : l.length < lim) (hs : ∀ x ∈ l, stepC gt tt te (wipeE ρ vs) (g x) = some (k x)) : lcL fi gt tt te vs ρ = some (l.filterMap k) := by
  unfold lcL
  rw [e1]
  show (if (l.map g).length < lim then _ else _) = _
  rw [if_pos (by rw [List.length_map]; exact hl), compM_of hs]
theorem lst_of (e1 : fi ρ = some (l.map g)) (hl : l.length < lim) (hs : ∀ x ∈ l, stepC gt tt te (wipeE ρ vs) (g x) = some (k x)) : lstI (lcL fi gt tt te vs) ρ = some (.list (l.filterMap k)) := by
  unfold lstI
  rw [lc_of e1 hl hs]
  rfl
/-- all items kept -/
theorem lst_map {m : α → PyData} (e1 : fi ρ = some (l.map g)) (hl : l.length < lim) (hs : ∀ x ∈ l, stepC gt tt te (wipeE ρ vs) (g x) = some (some (m x))) : lstI (lcL fi gt tt te vs) ρ = some (.list (l.map m)) := by
  rw [lst_of (k := fun x => some (m x)) e1 hl hs, filterMap_some]
theorem tup_map {m : α → PyData} (e1 : fi ρ = some (l.map g)) (hl : l.length < lim) (hs : ∀ x ∈ l, stepC gt tt te (wipeE ρ vs) (g x) = some (some (m x))) : callA toTup (consA (lstI (lcL fi gt tt te vs)) nilA) ρ = some (.tuple (l.map m)) := call1 (lst_map e1 hl hs) rfl
/-- some kept, as they are -/
theorem filterMap_if {p : α → Bool} {m : α → PyData} : ∀ l : List α, l.filterMap (fun x => if p x = true then some (m x) else none) = (l.filter p).map m
  | [] => rfl
  | x :: l => by
    rw [List.filterMap_cons, List.filter_cons, filterMap_if l]
    cases p x <;> rfl
theorem lst_sel {p : α → Bool} {m : α → PyData} (e1 : fi ρ = some (l.map g)) (hl : l.length < lim) (hs : ∀ x ∈ l, stepC gt tt te (wipeE ρ vs) (g x) = some (if p x = true then some (m x) else none)) : lstI (lcL fi gt tt te vs) ρ = some (.list ((l.filter p).map m)) := by
  rw [lst_of (k := fun x => if p x = true then some (m x) else none) e1 hl hs, filterMap_if]
theorem tup_sel {p : α → Bool} {m : α → PyData} (e1 : fi ρ = some (l.map g)) (hl : l.length < lim) (hs : ∀ x ∈ l, stepC gt tt te (wipeE ρ vs) (g x) = some (if p x = true then some (m x) else none)) : callA toTup (consA (lstI (lcL fi gt tt te vs)) nilA) ρ = some (.tuple ((l.filter p).map m)) := call1 (lst_sel e1 hl hs) rfl
theorem all_of {p : α → Bool} (e1 : f ρ = some (.list (l.map fun x => .bool (p x)))) : callA allD (consA f nilA) ρ = some (.bool (l.all p)) := by
  refine call1 e1 ?_
  show (boolsD (l.map fun x => PyData.bool (p x))).map _ = _
  have : (l.map fun x => PyData.bool (p x)) = (l.map p).map .bool := by rw [List.map_map]; rfl
  rw [this, boolsD_map]
  show some (PyData.bool ((l.map p).all _root_.id)) = _
  rw [List.all_map]
  rfl
theorem seq_lst (e : f ρ = some (.list (l.map g))) : seqI f ρ = some (l.map g) := by
  unfold seqI
  rw [e]
  rfl
theorem seq_tup (e : f ρ = some (.tuple (l.map g))) : seqI f ρ = some (l.map g) := by
  unfold seqI
  rw [e]
  rfl
end
/-! statements -/
theorem sem_ret {N : Nat} {ds : List PyData} (e : f (startD N ds) = some d) : semZ N (sRet f) ds = some d := by
  unfold semZ sRet
  rw [e]
  rfl
theorem ret_eq (e : f ρ = some d) : sRet f ρ = some (.rt d) := by
  unfold sRet
  rw [e]
  rfl
theorem sem_of {N : Nat} {g : SF} {ds : List PyData} (e : g (startD N ds) = some (.rt d)) : semZ N g ds = some d := by
  unfold semZ
  rw [e]
  rfl
theorem if_eq {t : Dn → Option Bool} {g h : SF} {b : Bool} {r : Res} (e : t ρ = some b) (e2 : (if b = true then g ρ else h ρ) = some r) : sIf t g h ρ = some r := by
  unfold sIf
  rw [e]
  exact e2
theorem seq_nx {g h : SF} {ρ' : Dn} {r : Res} (e : g ρ = some (.nx ρ')) (e2 : h ρ' = some r) : sSeq g h ρ = some r := by
  unfold sSeq
  rw [e]
  exact e2
theorem seq_rt {g h : SF} (e : g ρ = some (.rt d)) : sSeq g h ρ = some (.rt d) := by
  unfold sSeq
  rw [e]
  rfl
theorem set_eq {i : Nat} (e : f ρ = some d) : sSet i f ρ = some (.nx (ρ.set i (.dat d))) := by
  unfold sSet
  rw [e]
  rfl
end
/-! ### equal lists of numbers -/
theorem eqv_lists : ∀ as bs : List Nat, PyData.eqvAll (as.map ni) (bs.map ni) = (as == bs)
  | [], [] => by simp [PyData.eqvAll]
  | [], b :: bs => by simp [PyData.eqvAll]
  | a :: as, [] => by simp [PyData.eqvAll]
  | a :: as, b :: bs => by
    rw [List.map_cons, List.map_cons, PyData.eqvAll, eqv_lists as bs]
    show (PyData.eqv (.int (a : Int)) (.int (b : Int)) && _) = _
    rw [PyData.eqv]
    by_cases h : a = b
    · subst h
      simp
    · have : ((a : Int) == (b : Int)) = false := by
        rw [beq_eq_false_iff_ne]
        omega
      rw [this]
      simp [h]
theorem shaped_ints (as : List Nat) : PyData.canLayAll0 (as.map ni) = true ∧ PyData.depthAll (as.map ni) = 0 := by
  induction as with
  | nil => exact ⟨by simp [PyData.canLayAll0], by simp [PyData.depthAll]⟩
  | cons a as ih => exact ⟨by simp [PyData.canLayAll0, ni, PyData.canLay0, ih.1], by simp [PyData.depthAll, ni, PyData.depth, ih.2]⟩
theorem shaped_lst (as : List Nat) : SeqAt.shaped (.list (as.map ni)) = true := by
  simp [SeqAt.shaped, PyData.canLay0, PyData.depth, (shaped_ints as).1, (shaped_ints as).2]
theorem shaped_tup (as : List Nat) : SeqAt.shaped (.tuple (as.map ni)) = true := by
  simp [SeqAt.shaped, PyData.canLay0, PyData.depth, (shaped_ints as).1, (shaped_ints as).2]
theorem eq_lsts (as bs : List Nat) : gEq (.list (as.map ni)) (.list (bs.map ni)) = some (.bool (as == bs)) :=
  gEq_of (by rw [shaped_lst, shaped_lst]; rfl) (by rw [PyData.eqv, eqv_lists])
theorem eq_tups (as bs : List Nat) : gEq (.tuple (as.map ni)) (.tuple (bs.map ni)) = some (.bool (as == bs)) :=
  gEq_of (by rw [shaped_tup, shaped_tup]; rfl) (by rw [PyData.eqv, eqv_lists])
theorem ne_lsts (as bs : List Nat) : gNe (.list (as.map ni)) (.list (bs.map ni)) = some (.bool (!(as == bs))) :=
  gNe_of (by rw [shaped_lst, shaped_lst]; rfl) (by rw [PyData.eqv, eqv_lists])
theorem ne_tups (as bs : List Nat) : gNe (.tuple (as.map ni)) (.tuple (bs.map ni)) = some (.bool (!(as == bs))) :=
  gNe_of (by rw [shaped_tup, shaped_tup]; rfl) (by rw [PyData.eqv, eqv_lists])
theorem gEq_bool (a b : Bool) : gEq (.bool a) (.bool b) = some (.bool (a == b)) := by
  refine gEq_of ?_ ?_
  · simp [SeqAt.shaped, PyData.canLay0, PyData.depth]
  · simp [PyData.eqv]
theorem gNe_bool (a b : Bool) : gNe (.bool a) (.bool b) = some (.bool (!(a == b))) := by
  refine gNe_of ?_ ?_
  · simp [SeqAt.shaped, PyData.canLay0, PyData.depth]
  · simp [PyData.eqv]
/-- texts that are compared -/
theorem gEq_str (x y : Str) : gEq (.str x) (.str y) = some (.bool (x == y)) := by
  unfold gEq cmpOk
  rw [show (isStr (.str x) && isStr (.str y)) = true from rfl, Bool.or_true, if_pos rfl, PyData.eqv]
theorem gNe_str (x y : Str) : gNe (.str x) (.str y) = some (.bool (!(x == y))) := by
  unfold gNe cmpOk
  rw [show (isStr (.str x) && isStr (.str y)) = true from rfl, Bool.or_true, if_pos rfl, PyData.eqv]
end DS
namespace DS
open PySem PySem.Spec PyProof.Rows L2
section
variable {g : PyData → Dn → Option Dn} {tt : Dn → Option Bool} {te : DF} {ρ ρ1 : Dn} {d y : PyData} {k : Bool}
theorem step_mapG (e1 : g d ρ = some ρ1) (e2 : te ρ1 = some y) : stepC g yesT te ρ d = some (some y) := by
  unfold stepC
  rw [e1]
  show ((te ρ1).map some) = _
  rw [e2]
  rfl
theorem step_ifG (e1 : g d ρ = some ρ1) (e : tt ρ1 = some k) (e2 : k = true → te ρ1 = some y) : stepC g tt te ρ d = some (if k = true then some y else none) := by
  unfold stepC
  rw [e1]
  show ((tt ρ1).bind fun b => if b = true then (te ρ1).map some else some none) = _
  rw [e]
  show (if k = true then (te ρ1).map some else some none) = _
  cases k with
  | true =>
    rw [if_pos rfl, if_pos rfl, e2 rfl]
    rfl
  | false => rfl
end
/-- what _law_same finds the same as itself -/
def okSame : Nat → PyData → Bool
  | 0, _ => false
  | m + 1, .list ds => decide (ds.length < 1000000) && ds.all (okSame m)
  | m + 1, .tuple ds => decide (ds.length < 1000000) && ds.all (okSame m)
  | _ + 1, .dict _ => false
  | _ + 1, _ => true
theorem bt_eq {n : Nat} {b : Nat → Nat → Bool} (t : Tour n b) (i j : Nat) : bt b i j = b i j := by
  unfold bt
  by_cases h : i = j
  · subst h
    rw [t.diag]
    simp
  · rw [decide_eq_false h]
    rfl
end DS
set_option maxHeartbeats 4000000
namespace DS
open PySem PySem.Spec PyProof.Rows L2
section
variable {n : Nat} {b : Nat → Nat → Bool} {i j : Nat}
theorem two_eq {f g h : DF} {ρ : Dn} (t : Tour n b) (e1 : f ρ = some (tabD n b)) (e2 : g ρ = some (ni i)) (e3 : h ρ = some (ni j)) (hi : i < n) (hj : j < n) : bin2 gEq (bin2 ixD (bin2 ixD f g) h) (cD (.str "+")) ρ = some (.bool (b i j)) :=
  (bin2_eq (bin2_eq (bin2_eq e1 e2 (ix_tab hi)) e3 (ix_row (Nat.le_trans t.nine (by decide)) hj)) rfl eq_plus).trans (by rw [bt_eq t])
theorem beats_eq (t : Tour n b) (hi : i < n) (hj : j < n) : sem_beats [tabD n b, ni i, ni j] = some (.bool (b i j)) :=
  sem_ret (two_eq t rfl rfl rfl hi hj)
theorem small (t : Tour n b) : (List.range n).length < lim := by
  rw [List.length_range]
  have := t.nine
  show n < 1000000
  omega
theorem beats_all_eq (t : Tour n b) (hi : i < n) {l : List Nat} (hl : ∀ j ∈ l, j < n) (h9 : l.length < lim) : sem_beats_all [tabD n b, ni i, .tuple (l.map ni)] = some (.bool (l.all (b i))) := by
  refine sem_ret (all_of (lst_map (l := l) (g := ni) (m := fun j => .bool (b i j)) (seq_tup rfl) h9 fun j hj => ?_))
  exact step_mapG rfl (callU_eq (ds := [tabD n b, ni i, ni j]) rfl rfl (beats_eq t hi (hl j hj)))
theorem filter_small (t : Tour n b) (p : Nat → Bool) : ((List.range n).filter p).length < lim := Nat.lt_of_le_of_lt (List.length_filter_le _ _) (small t)
end
end DS
namespace DS
/-! ### covering sets: the mathematics, over the numbers below n -/
section
variable {n : Nat} {b : Nat → Nat → Bool}
/-- c is a witness for x in M -/
def Wt (b : Nat → Nat → Bool) (M : Nat → Prop) (c x : Nat) : Prop := b c x = true ∧ ∀ l, M l → b x l = true → b c l = true
structure Cv (n : Nat) (b : Nat → Nat → Bool) (M : Nat → Prop) : Prop where
  some : ∃ x, M x
  low : ∀ x, M x → x < n
  wit : ∀ x, x < n → ¬ M x → ∃ c, M c ∧ Wt b M c x
theorem len_sub : ∀ {l m : List Nat}, l.Nodup → (∀ x ∈ l, x ∈ m) → l.length ≤ m.length
  | [], _, _, _ => Nat.zero_le _
  | x :: l, m, hd, hs => by
    have h1 := List.nodup_cons.mp hd
    have h2 := hs x List.mem_cons_self
    have h3 : l.length ≤ (m.erase x).length := len_sub h1.2 fun y hy => by
      have : y ≠ x := fun e => h1.1 (e ▸ hy)
      exact (List.mem_erase_of_ne this).mpr (hs y (List.mem_cons_of_mem _ hy))
    rw [List.length_erase_of_mem h2] at h3
    have := List.length_pos_of_mem h2
    rw [List.length_cons]
    omega
/-- no run of numbers below n without a repetition -/
theorem repeats (f : Nat → Nat) (h : ∀ i, f i < n) : ∃ i j, i < j ∧ f i = f j := by
  apply Classical.byContradiction
  intro no
  have nd : ((List.range (n + 1)).map f).Nodup := by
    refine List.pairwise_map.mpr (List.Pairwise.imp ?_ List.pairwise_lt_range)
    exact fun {i j} lt e => no ⟨i, j, lt, e⟩
  have := len_sub (m := List.range n) nd fun x hx => by
    obtain ⟨i, _, rfl⟩ := List.mem_map.mp hx
    exact List.mem_range.mpr (h i)
  rw [List.length_map, List.length_range, List.length_range] at this
  omega
section
variable (anti : ∀ i j, i < n → j < n → i ≠ j → b i j = !b j i) (diag : ∀ i, b i i = false)
include anti diag
/-- two disjoint kinds of numbers, and a step from each kind to the other one: it cannot go on for ever -/
theorem no_walk {A B : Nat → Prop} (la : ∀ x, A x → x < n) (lb : ∀ x, B x → x < n) (c : Nat → Nat) (ev : ∀ k, B (c (2 * k)) ∧ ¬ A (c (2 * k))) (od : ∀ k, A (c (2 * k + 1)) ∧ ¬ B (c (2 * k + 1)))
    (w1 : ∀ k, Wt b A (c (2 * k + 1)) (c (2 * k))) (w2 : ∀ k, Wt b B (c (2 * k + 2)) (c (2 * k + 1))) : False := by
  have low : ∀ k, c k < n := fun k => by
    rcases Nat.mod_two_eq_zero_or_one k with e | e
    · have : k = 2 * (k / 2) := by omega
      rw [this]
      exact lb _ (ev _).1
    · have : k = 2 * (k / 2) + 1 := by omega
      rw [this]
      exact la _ (od _).1
  -- a step beats what came before it
  have up : ∀ k, b (c (k + 1)) (c k) = true := fun k => by
    rcases Nat.mod_two_eq_zero_or_one k with e | e
    · have : k = 2 * (k / 2) := by omega
      rw [this]
      exact (w1 _).1
    · have : k = 2 * (k / 2) + 1 := by omega
      rw [this]
      exact (w2 _).1
  -- of different kinds: what a number beats, its step beats
  have r1 : ∀ k j, (k + j) % 2 = 1 → b (c k) (c j) = true → b (c (k + 1)) (c j) = true := fun k j hp h => by
    rcases Nat.mod_two_eq_zero_or_one k with e | e
    · have e1 : k = 2 * (k / 2) := by omega
      have e2 : j = 2 * (j / 2) + 1 := by omega
      rw [e1] at h ⊢
      rw [e2] at h ⊢
      exact (w1 _).2 _ (od _).1 h
    · have e1 : k = 2 * (k / 2) + 1 := by omega
      have e2 : j = 2 * (j / 2) := by omega
      rw [e1] at h ⊢
      rw [e2] at h ⊢
      exact (w2 _).2 _ (ev _).1 h
  have ne : ∀ k j, (k + j) % 2 = 1 → c k ≠ c j := fun k j hp e => by
    rcases Nat.mod_two_eq_zero_or_one k with z | z
    · have e1 : k = 2 * (k / 2) := by omega
      have e2 : j = 2 * (j / 2) + 1 := by omega
      rw [e1, e2] at e
      exact (ev (k / 2)).2 (e ▸ (od (j / 2)).1)
    · have e1 : k = 2 * (k / 2) + 1 := by omega
      have e2 : j = 2 * (j / 2) := by omega
      rw [e1, e2] at e
      exact (od (k / 2)).2 (e ▸ (ev (j / 2)).1)
  have flip : ∀ i j, i ≠ j → i < n → j < n → b i j = false → b j i = true := fun i j h hi hj e => by
    have := anti i j hi hj h
    rw [e] at this
    cases q : b j i with
    | true => rfl
    | false =>
      rw [q] at this
      cases this
  have asym : ∀ i j, i < n → j < n → b i j = true → b j i = false := fun i j hi hj e => by
    by_cases h : i = j
    · rw [h] at e
      rw [diag] at e
      cases e
    · have := anti i j hi hj h
      rw [e] at this
      cases q : b j i with
      | false => rfl
      | true =>
        rw [q] at this
        cases this
  -- of one kind: two steps further apart
  have r2 : ∀ j k, (j + k) % 2 = 1 → b (c j) (c (k + 1)) = true → b (c (j + 1)) (c k) = true := fun j k hp h => by
    refine r1 j k hp (flip _ _ (ne k j (by omega)) (low k) (low j) ?_)
    cases q : b (c k) (c j) with
    | false => rfl
    | true =>
      have := r1 k j (by omega) q
      rw [asym _ _ (low _) (low _) h] at this
      cases this
  have all : ∀ t k, t ≤ k → b (c (k + 2 + t)) (c (k - t)) = true := by
    intro t
    induction t with
    | zero => exact fun k _ => r1 (k + 1) k (by omega) (up k)
    | succ t ih =>
      intro k hk
      have h := ih k (by omega)
      have e1 : k - t = (k - (t + 1)) + 1 := by omega
      rw [e1] at h
      have := r2 (k + 2 + t) (k - (t + 1)) (by omega) h
      exact this
  obtain ⟨i, j, lt, e⟩ := repeats (n := n) (fun i => c (2 * i)) fun i => low _
  have h := all (j - i - 1) (i + j - 1) (by omega)
  have e1 : i + j - 1 + 2 + (j - i - 1) = 2 * j := by omega
  have e2 : i + j - 1 - (j - i - 1) = 2 * i := by omega
  rw [e1, e2] at h
  have e : c (2 * i) = c (2 * j) := e
  rw [e, diag] at h
  cases h
open Classical in
/-- from a number of B alone one comes to a number of both that beats as much of both -/
theorem reach {A B : Nat → Prop} (ca : Cv n b A) (cb : Cv n b B) (x : Nat) (hb : B x) (ha : ¬ A x) : ∃ c, (A c ∧ B c) ∧ ∀ l, A l → B l → b x l = true → b c l = true := by
  apply byContradiction
  intro no
  have no : ∀ y, (∀ l, A l → B l → b x l = true → b y l = true) → ¬ (A y ∧ B y) := fun y h k => no ⟨y, k, h⟩
  have exf : ∀ y, ∃ c, B y → ¬ A y → A c ∧ Wt b A c y := fun y => by
    by_cases h : B y ∧ ¬ A y
    · obtain ⟨c, h1, h2⟩ := ca.wit y (cb.low y h.1) h.2
      exact ⟨c, fun _ _ => ⟨h1, h2⟩⟩
    · exact ⟨0, fun h1 h2 => absurd ⟨h1, h2⟩ h⟩
  have exg : ∀ y, ∃ c, A y → ¬ B y → B c ∧ Wt b B c y := fun y => by
    by_cases h : A y ∧ ¬ B y
    · obtain ⟨c, h1, h2⟩ := cb.wit y (ca.low y h.1) h.2
      exact ⟨c, fun _ _ => ⟨h1, h2⟩⟩
    · exact ⟨0, fun h1 h2 => absurd ⟨h1, h2⟩ h⟩
  let f := fun y => choose (exf y)
  let g := fun y => choose (exg y)
  have hf : ∀ y, B y → ¬ A y → A (f y) ∧ Wt b A (f y) y := fun y => choose_spec (exf y)
  have hg : ∀ y, A y → ¬ B y → B (g y) ∧ Wt b B (g y) y := fun y => choose_spec (exg y)
  let d : Nat → Nat := fun k => Nat.rec x (fun _ y => g (f y)) k
  have dS : ∀ k, d (k + 1) = g (f (d k)) := fun k => rfl
  have D : ∀ k, B (d k) ∧ ¬ A (d k) ∧ ∀ l, A l → B l → b x l = true → b (d k) l = true := by
    intro k
    induction k with
    | zero => exact ⟨hb, ha, fun l _ _ h => h⟩
    | succ k ih =>
      obtain ⟨h1, h2, h3⟩ := ih
      obtain ⟨f1, f2⟩ := hf _ h1 h2
      have q1 : ∀ l, A l → B l → b x l = true → b (f (d k)) l = true := fun l la lb h => f2.2 l la (h3 l la lb h)
      have f3 : ¬ B (f (d k)) := fun z => no _ q1 ⟨f1, z⟩
      obtain ⟨g1, g2⟩ := hg _ f1 f3
      have q2 : ∀ l, A l → B l → b x l = true → b (d (k + 1)) l = true := fun l la lb h => g2.2 l lb (q1 l la lb h)
      exact ⟨g1, fun z => no _ q2 ⟨z, g1⟩, q2⟩
  have F : ∀ k, A (f (d k)) ∧ ¬ B (f (d k)) := fun k => by
    obtain ⟨h1, h2, h3⟩ := D k
    obtain ⟨f1, f2⟩ := hf _ h1 h2
    exact ⟨f1, fun z => no _ (fun l la lb h => f2.2 l la (h3 l la lb h)) ⟨f1, z⟩⟩
  let c : Nat → Nat := fun k => if k % 2 = 0 then d (k / 2) else f (d (k / 2))
  have c0 : ∀ k, c (2 * k) = d k := fun k => by
    have e1 : 2 * k % 2 = 0 := by omega
    have e2 : 2 * k / 2 = k := by omega
    show (if 2 * k % 2 = 0 then d (2 * k / 2) else f (d (2 * k / 2))) = d k
    rw [if_pos e1, e2]
  have c1 : ∀ k, c (2 * k + 1) = f (d k) := fun k => by
    have e1 : ¬ (2 * k + 1) % 2 = 0 := by omega
    have e2 : (2 * k + 1) / 2 = k := by omega
    show (if (2 * k + 1) % 2 = 0 then d ((2 * k + 1) / 2) else f (d ((2 * k + 1) / 2))) = f (d k)
    rw [if_neg e1, e2]
  refine no_walk anti diag (A := A) (B := B) ca.low cb.low c (fun k => ?_) (fun k => ?_) (fun k => ?_) (fun k => ?_)
  · rw [c0]
    exact ⟨(D k).1, (D k).2.1⟩
  · rw [c1]
    exact F k
  · rw [c0, c1]
    exact (hf _ (D k).1 (D k).2.1).2
  · rw [c1, show 2 * k + 2 = 2 * (k + 1) from by omega, c0, dS]
    exact (hg _ (F k).1 (F k).2).2
end
end
end DS
namespace DS
/-! ### the least covering set, and the table of the uncovered ones -/
section
variable {n : Nat} {b : Nat → Nat → Bool}
/-- the least one -/
structure Lc (n : Nat) (b : Nat → Nat → Bool) (M : Nat → Prop) : Prop where
  cv : Cv n b M
  least : ∀ A, Cv n b A → ∀ x, M x → A x
def sco (n : Nat) (b : Nat → Nat → Bool) (c : Nat) : Nat := ((List.range n).filter (b c)).length
theorem nd_range (p : Nat → Bool) : ((List.range n).filter p).Nodup := List.Pairwise.sublist List.filter_sublist List.nodup_range
section
variable (diag : ∀ i, b i i = false)
include diag
section
variable (anti : ∀ i j, i < n → j < n → i ≠ j → b i j = !b j i)
include anti
end
end
/-- ascending lists with the same members are one -/
theorem asc_ext : ∀ {l m : List Nat}, l.Pairwise (· < ·) → m.Pairwise (· < ·) → (∀ x, x ∈ l ↔ x ∈ m) → l = m
  | [], [], _, _, _ => rfl
  | [], y :: m, _, _, h => nomatch (h y).mpr List.mem_cons_self
  | x :: l, [], _, _, h => nomatch (h x).mp List.mem_cons_self
  | x :: l, y :: m, h1, h2, h => by
    obtain ⟨a1, a2⟩ := List.pairwise_cons.mp h1
    obtain ⟨b1, b2⟩ := List.pairwise_cons.mp h2
    have e : x = y := by
      rcases List.mem_cons.mp ((h x).mp List.mem_cons_self) with e | hx
      · exact e
      · rcases List.mem_cons.mp ((h y).mpr List.mem_cons_self) with e | hy
        · exact e.symm
        · have := b1 x hx
          have := a1 y hy
          omega
    subst e
    congr 1
    refine asc_ext a2 b2 fun z => ⟨fun hz => ?_, fun hz => ?_⟩
    · rcases List.mem_cons.mp ((h z).mp (List.mem_cons_of_mem _ hz)) with e | k
      · have := a1 z hz
        omega
      · exact k
    · rcases List.mem_cons.mp ((h z).mpr (List.mem_cons_of_mem _ hz)) with e | k
      · have := b1 z hz
        omega
      · exact k
end
/-! ### all sets, as lists of numbers -/
def Sn : Nat → Nat → List (List Nat)
  | _, 0 => [[]]
  | lo, m + 1 => ([] :: (Sn (lo + 1) m).map fun s => lo :: s) ++ (Sn (lo + 1) m).drop 1
theorem Sn_head : ∀ lo m : Nat, Sn lo m = [] :: (Sn lo m).drop 1
  | _, 0 => rfl
  | _, _ + 1 => rfl
theorem Sn_len : ∀ m lo : Nat, (Sn lo m).length = 2 ^ m
  | 0, _ => rfl
  | m + 1, lo => by
    have h := Sn_len m (lo + 1)
    have p : 0 < 2 ^ m := Nat.two_pow_pos m
    show ((([] : List Nat) :: (Sn (lo + 1) m).map fun s => lo :: s) ++ (Sn (lo + 1) m).drop 1).length = 2 ^ (m + 1)
    rw [List.length_append, List.length_cons, List.length_map, List.length_drop, h, Nat.pow_succ]
    omega
theorem Sn_mem : ∀ (m lo : Nat) (s : List Nat), s ∈ Sn lo m ↔ (s.Pairwise (· < ·) ∧ ∀ x ∈ s, lo ≤ x ∧ x < lo + m)
  | 0, lo, s => by
    constructor
    · intro h
      rw [List.mem_singleton.mp h]
      exact ⟨.nil, fun x hx => nomatch hx⟩
    · intro ⟨_, h⟩
      cases s with
      | nil => exact List.mem_cons_self
      | cons x s =>
        have := h x List.mem_cons_self
        omega
  | m + 1, lo, s => by
    have ih := Sn_mem m (lo + 1)
    have split : s ∈ Sn lo (m + 1) ↔ (s = [] ∨ (∃ t, t ∈ Sn (lo + 1) m ∧ lo :: t = s)) ∨ s ∈ (Sn (lo + 1) m).drop 1 := by
      show s ∈ (([] : List Nat) :: (Sn (lo + 1) m).map fun s => lo :: s) ++ (Sn (lo + 1) m).drop 1 ↔ _
      rw [List.mem_append, List.mem_cons, List.mem_map]
    rw [split]
    constructor
    · intro h
      rcases h with (e | ⟨t, ht, e⟩) | h
      · subst e
        exact ⟨.nil, fun x hx => nomatch hx⟩
      · subst e
        obtain ⟨h1, h2⟩ := (ih t).mp ht
        refine ⟨List.pairwise_cons.mpr ⟨fun y hy => by have := h2 y hy; omega, h1⟩, fun x hx => ?_⟩
        rcases List.mem_cons.mp hx with e | hx
        · omega
        · have := h2 x hx
          omega
      · obtain ⟨h1, h2⟩ := (ih s).mp (List.mem_of_mem_drop h)
        exact ⟨h1, fun x hx => by have := h2 x hx; omega⟩
    · intro ⟨h1, h2⟩
      cases s with
      | nil => exact .inl (.inl rfl)
      | cons x s =>
        obtain ⟨a1, a2⟩ := List.pairwise_cons.mp h1
        by_cases e : x = lo
        · subst e
          refine .inl (.inr ⟨s, (ih s).mpr ⟨a2, fun y hy => ?_⟩, rfl⟩)
          have := a1 y hy
          have := h2 y (List.mem_cons_of_mem _ hy)
          omega
        · refine .inr ?_
          have hx := h2 x List.mem_cons_self
          have : x :: s ∈ Sn (lo + 1) m := (ih _).mpr ⟨h1, fun y hy => by
            have k := h2 y hy
            rcases List.mem_cons.mp hy with q | q
            · omega
            · have := a1 y q
              omega⟩
          rw [Sn_head] at this
          rcases List.mem_cons.mp this with q | q
          · cases q
          · exact q
/-! the same, one number after the other from below -/
end DS
set_option maxHeartbeats 4000000
namespace DS
open PySem PySem.Spec PyProof.Rows L2
/-! ### loops -/
theorem for_yes {g : PyData → Dn → Option Dn} {f : SF} {fi : Dn → Option (List PyData)} {xs : List PyData} {ρ ρ' : Dn} (e : fi ρ = some xs) (e2 : runFor g f xs ρ = some (.nx ρ')) : sFor fi g f ρ = some (.nx ρ') := by
  unfold sFor
  rw [e]
  exact e2
/-! ### uncovered alternatives -/
section
variable {n : Nat} {b : Nat → Nat → Bool} {i j : Nat}
/-! ### sets -/
def tupN (M : List Nat) : PyData := .tuple (M.map ni)
theorem has_eq (c : Nat) (l : List Nat) : (l.map fun k : Nat => (k : Int)).contains (c : Int) = l.contains c := by
  rw [Bool.eq_iff_iff, List.contains_iff_mem, List.contains_iff_mem, List.mem_map]
  constructor
  · intro ⟨k, h, e⟩
    have : k = c := by omega
    rw [← this]
    exact h
  · exact fun h => ⟨c, h, rfl⟩
theorem ints_ni (l : List Nat) : l.map ni = (l.map fun k : Nat => (k : Int)).map .int := by rw [List.map_map]; rfl
theorem notin_eq (c : Nat) (l : List Nat) : gIn true (ni c) (tupN l) = some (.bool (!l.contains c)) := by
  show (intsD (l.map ni)).bind _ = _
  rw [ints_ni, intsD_map]
  show some (PyData.bool (!(l.map fun k : Nat => (k : Int)).contains (c : Int))) = _
  rw [has_eq]
/-- c is a witness for x -/
def wit (b : Nat → Nat → Bool) (M : List Nat) (c x : Nat) : Bool := b c x && (M.filter (b x)).all (b c)
def outs (n : Nat) (M : List Nat) : List Nat := (List.range n).filter fun x => !M.contains x
def cvB (n : Nat) (b : Nat → Nat → Bool) (M : List Nat) : Bool := decide (0 < M.length) && (outs n M).all fun x => (M.find? fun c => wit b M c x).isSome
variable {M : List Nat}
theorem outs_eq (t : Tour n b) : sem_outsiders [tabD n b, tupN M] = some (tupN (outs n M)) := by
  refine sem_ret (tup_sel (l := List.range n) (g := ni) (p := fun x => !M.contains x) (m := ni) (rng1_nat (call1 (x := tabD n b) rfl len_tab) (by have := t.nine; omega)) (small t) fun j hj => ?_)
  exact step_ifG rfl (tst_eq (bin2_eq rfl rfl (notin_eq j M))) fun _ => rfl
theorem set_low (h : M ∈ Sn 0 n) : ∀ k ∈ M, k < n := fun k hk => by
  have := ((Sn_mem n 0 M).mp h).2 k hk
  omega
theorem set_nd (h : M ∈ Sn 0 n) : M.Nodup := ((Sn_mem n 0 M).mp h).1.imp fun {a b} h e => by omega
theorem set_len (h : M ∈ Sn 0 n) : M.length ≤ n := by
  have := len_sub (m := List.range n) (set_nd h) fun x hx => List.mem_range.mpr (set_low h x hx)
  rw [List.length_range] at this
  exact this
theorem set_lim (t : Tour n b) (h : M ∈ Sn 0 n) : M.length < lim := Nat.lt_of_le_of_lt (set_len h) (by have := t.nine; show n < 1000000; omega)
end
end DS
set_option maxHeartbeats 4000000
namespace DS
open PySem PySem.Spec PyProof.Rows L2
/-! ### all sets -/
def tupsN (ss : List (List Nat)) : PyData := .list (ss.map tupN)
theorem cutD1 (xs : List PyData) : cutD xs (some 1) none = xs.drop 1 := by
  unfold cutD
  have e1 : HT.sIx xs.length 0 (some 1) = min 1 xs.length := HT.sIx_nat xs.length 0 1
  have e2 : HT.sIx xs.length xs.length none = xs.length := HT.sIx_none _ _
  rw [e1, e2]
  cases xs with
  | nil => rfl
  | cons x xs =>
    have : min 1 (x :: xs).length = 1 := by rw [List.length_cons]; omega
    rw [this]
    show List.take ((x :: xs).length - 1) xs = xs
    rw [List.length_cons, Nat.add_sub_cancel]
    exact List.take_length
theorem gAdd_tup {xs ys : List PyData} (h : xs.length + ys.length < lim) : gAdd (.tuple xs) (.tuple ys) = some (.tuple (xs ++ ys)) := if_pos h
theorem pow_lim {m : Nat} (h : m ≤ 9) : 2 ^ m ≤ 512 := Nat.pow_le_pow_right (by decide) h
section
variable {n : Nat} {b : Nat → Nat → Bool}
/-! the law's own -/
/-! ### covering sets -/
def cvs (n : Nat) (b : Nat → Nat → Bool) : List (List Nat) := (Sn 0 n).filter (cvB n b)
variable {M : List Nat}
end
end DS
set_option maxHeartbeats 4000000
namespace DS
open PySem PySem.Spec PyProof.Rows L2
section
variable {n : Nat} {b : Nat → Nat → Bool} {M : List Nat}
theorem full_mem : List.range n ∈ Sn 0 n := (Sn_mem n 0 _).mpr ⟨List.pairwise_lt_range, fun x hx => by have := List.mem_range.mp hx; omega⟩
theorem sel_mem (p : Nat → Bool) : (List.range n).filter p ∈ Sn 0 n := (Sn_mem n 0 _).mpr ⟨List.Pairwise.sublist List.filter_sublist List.pairwise_lt_range, fun x hx => by have := List.mem_range.mp (List.mem_filter.mp hx).1; omega⟩
/-! min by len -/
theorem lensD_map : ∀ ss : List (List Nat), lensD (ss.map tupN) = some (ss.map List.length)
  | [] => rfl
  | s :: ss => by
    rw [show lensD (List.map tupN (s :: ss)) = (some (s.map ni).length).bind fun i => (lensD (ss.map tupN)).bind fun is => some (i :: is) from rfl, lensD_map ss, List.length_map]
    rfl
/-! the table of some alternatives -/
def nth (l : List Nat) (i : Nat) : Nat := l.getD i 0
theorem nth_eq {l : List Nat} {i : Nat} (h : i < l.length) : nth l i = l[i] := by
  unfold nth
  rw [List.getD_eq_getElem?_getD, List.getElem?_eq_getElem h]
  rfl
theorem nth_mem {l : List Nat} {i : Nat} (h : i < l.length) : nth l i ∈ l := by
  rw [nth_eq h]
  exact List.getElem_mem h
theorem nth_all (l : List Nat) : (List.range l.length).map (nth l) = l := by
  refine List.ext_getElem (by simp) fun i h1 h2 => ?_
  rw [List.getElem_map, List.getElem_range, nth_eq h2]
def sub (b : Nat → Nat → Bool) (l : List Nat) : Nat → Nat → Bool := fun i j => b (nth l i) (nth l j)
/-! the smallest one -/
end
end DS
set_option maxHeartbeats 4000000
namespace DS
open PySem PySem.Spec PyProof.Rows L2
/-! ### values that can be shown -/
structure Shw (k B : Nat) (d : PyData) : Prop where
  sh : d.showable = true
  dp : d.depth ≤ k
  lv : d.leavesShort 40 = true
  bk : d.bulk ≤ B
theorem shw_all {k B : Nat} : ∀ {ds : List PyData}, (∀ d ∈ ds, Shw k B d) → PyData.showableAll ds = true ∧ PyData.depthAll ds ≤ k ∧ PyData.leavesShortAll 40 ds = true ∧ PyData.bulkAll ds ≤ ds.length * (B + 1)
  | [], _ => ⟨by simp [PyData.showableAll], by simp [PyData.depthAll], by simp [PyData.leavesShortAll], by simp [PyData.bulkAll]⟩
  | d :: ds, h => by
    obtain ⟨a1, a2, a3, a4⟩ := h d List.mem_cons_self
    obtain ⟨b1, b2, b3, b4⟩ := shw_all fun e he => h e (List.mem_cons_of_mem _ he)
    refine ⟨by simp [PyData.showableAll, a1, b1], by simp only [PyData.depthAll]; omega, by simp [PyData.leavesShortAll, a3, b3], ?_⟩
    simp only [PyData.bulkAll, List.length_cons, Nat.succ_mul]
    omega
theorem Shw.tup {k B : Nat} {ds : List PyData} (h : ∀ d ∈ ds, Shw k B d) : Shw (k + 1) (ds.length * (B + 1)) (.tuple ds) := by
  obtain ⟨b1, b2, b3, b4⟩ := shw_all h
  exact ⟨by simp [PyData.showable, b1], by simp only [PyData.depth]; omega, by simp [PyData.leavesShort, b3], by simp only [PyData.bulk]; exact b4⟩
theorem Shw.lst {k B : Nat} {ds : List PyData} (h : ∀ d ∈ ds, Shw k B d) : Shw (k + 1) (ds.length * (B + 1)) (.list ds) := by
  obtain ⟨b1, b2, b3, b4⟩ := shw_all h
  exact ⟨by simp [PyData.showable, b1], by simp only [PyData.depth]; omega, by simp [PyData.leavesShort, b3], by simp only [PyData.bulk]; exact b4⟩
theorem Shw.le {k B k' B' : Nat} {d : PyData} (h : Shw k B d) (hk : k ≤ k') (hB : B ≤ B') : Shw k' B' d := ⟨h.sh, Nat.le_trans h.dp hk, h.lv, Nat.le_trans h.bk hB⟩
theorem shw_int {i : Int} (h : i.natAbs < 10 ^ 30) : Shw 0 0 (.int i) := ⟨by
  simp only [PyData.showable, decide_eq_true_eq]
  by_cases h0 : i.natAbs = 0
  · rw [h0]; decide
  · exact Nat.lt_trans (Nat.log2_lt h0 |>.mpr (Nat.lt_trans h (show 10 ^ 30 < 2 ^ 100 by decide))) (by decide), by simp [PyData.depth], by
  simp only [PyData.leavesShort, decide_eq_true_eq]
  have e := int_text_length_le10 (k := 30) (by decide) h
  first
    | exact Nat.le_trans e (by decide)
    | (rw [PyData.shown_int, PySem.ofString_length]; exact Nat.le_trans e (by decide)), by simp [PyData.bulk]⟩
theorem Shw.repr {k B : Nat} {d : PyData} (h : Shw k B d) (hk : k ≤ 40) (hB : B ≤ 15000) : reprD [d] = some (.str d.shown) := by
  show (if _ then _ else _) = _
  have := PyData.shown_le_bulk 40 (by decide) d h.lv
  have hb := h.bk
  rw [if_pos ⟨h.sh, Nat.le_trans h.dp hk, show _ < 1000000 by omega⟩]
end DS
set_option maxHeartbeats 4000000
namespace DS
open PySem PySem.Spec PyProof.Rows L2
/-! ### values of any kind, by their size -/
mutual
def okI (c : Nat) : PyData → Bool
  | .none | .bool _ => true
  | .int i => decide (i.natAbs ≤ 10 ^ 29 + c)
  | .str x => x.cps.toList.all fun q => decide (q < 0x110000)
  | .list xs | .tuple xs => okIAll c xs
  | .dict kvs => okIKv c kvs
def okIAll (c : Nat) : List PyData → Bool
  | [] => true
  | x :: xs => okI c x && okIAll c xs
def okIKv (c : Nat) : List (PyData × PyData) → Bool
  | [] => true
  | (k, v) :: r => okI c k && okI c v && okIKv c r
end
theorem int_ok {c : Nat} {i : Int} (hc : c ≤ 1000) (h : i.natAbs ≤ 10 ^ 29 + c) : i.natAbs < 10 ^ 30 := by
  have : (10 : Nat) ^ 29 + 1000 < 10 ^ 30 := by decide
  omega
mutual
theorem okI_show {c : Nat} (hc : c ≤ 1000) : ∀ d : PyData, okI c d = true → d.showable = true ∧ d.leavesShort 40 = true
  | .none, _ => ⟨by simp [PyData.showable], by simp [PyData.leavesShort]⟩
  | .bool _, _ => ⟨by simp [PyData.showable], by simp [PyData.leavesShort]⟩
  | .int i, h => ⟨(shw_int (int_ok hc (of_decide_eq_true (by simpa [okI] using h)))).sh, (shw_int (int_ok hc (of_decide_eq_true (by simpa [okI] using h)))).lv⟩
  | .str x, h => ⟨by simp [PyData.showable], by
    have h : ∀ q ∈ x.cps.toList, q < 0x110000 := fun q hq => of_decide_eq_true (List.all_eq_true.mp (show (x.cps.toList.all fun q => decide (q < 0x110000)) = true by simpa only [okI] using h) q hq)
    have h2 : ∀ q ∈ x.cps.toList, q < 16 ^ 8 := fun q hq => Nat.lt_trans (h q hq) (by decide)
    have h3 : (x.cps.toList.all fun q => decide (q < 16 ^ 8)) = true := List.all_eq_true.mpr fun q hq => decide_eq_true (h2 q hq)
    simpa [PyData.leavesShort] using h3⟩
  | .list xs, h => by
    obtain ⟨a, b⟩ := okI_showAll hc xs (by simpa [okI] using h)
    exact ⟨by simp [PyData.showable, a], by simp [PyData.leavesShort, b]⟩
  | .tuple xs, h => by
    obtain ⟨a, b⟩ := okI_showAll hc xs (by simpa [okI] using h)
    exact ⟨by simp [PyData.showable, a], by simp [PyData.leavesShort, b]⟩
  | .dict kvs, h => by
    obtain ⟨a, b⟩ := okI_showKv hc kvs (by simpa [okI] using h)
    exact ⟨by simp [PyData.showable, a], by simp [PyData.leavesShort, b]⟩
theorem okI_showAll {c : Nat} (hc : c ≤ 1000) : ∀ ds : List PyData, okIAll c ds = true → PyData.showableAll ds = true ∧ PyData.leavesShortAll 40 ds = true
  | [], _ => ⟨by simp [PyData.showableAll], by simp [PyData.leavesShortAll]⟩
  | d :: ds, h => by
    have h : okI c d = true ∧ okIAll c ds = true := by simpa [okIAll] using h
    obtain ⟨a1, a2⟩ := okI_show hc d h.1
    obtain ⟨b1, b2⟩ := okI_showAll hc ds h.2
    exact ⟨by simp [PyData.showableAll, a1, b1], by simp [PyData.leavesShortAll, a2, b2]⟩
theorem okI_showKv {c : Nat} (hc : c ≤ 1000) : ∀ ds : List (PyData × PyData), okIKv c ds = true → PyData.showableKv ds = true ∧ PyData.leavesShortKv 40 ds = true
  | [], _ => ⟨by simp [PyData.showableKv], by simp [PyData.leavesShortKv]⟩
  | (k, d) :: ds, h => by
    have h : (okI c k = true ∧ okI c d = true) ∧ okIKv c ds = true := by simpa [okIKv] using h
    obtain ⟨z1, z2⟩ := okI_show hc k h.1.1
    obtain ⟨a1, a2⟩ := okI_show hc d h.1.2
    obtain ⟨b1, b2⟩ := okI_showKv hc ds h.2
    exact ⟨by simp [PyData.showableKv, z1, a1, b1], by simp [PyData.leavesShortKv, z2, a2, b2]⟩
end
structure AV (c k B : Nat) (d : PyData) : Prop where
  ok : okI c d = true
  dp : d.depth ≤ k
  bk : d.bulk ≤ B
/-! lists -/
def bsum : List PyData → Nat
  | [] => 0
  | x :: xs => x.bulk + 1 + bsum xs
theorem bulk_sum : ∀ xs : List PyData, PyData.bulkAll xs = bsum xs
  | [] => by simp [PyData.bulkAll, bsum]
  | x :: xs => by simp only [PyData.bulkAll, bsum, bulk_sum xs]
theorem bsum_app : ∀ xs ys : List PyData, bsum (xs ++ ys) = bsum xs + bsum ys
  | [], ys => by simp [bsum]
  | x :: xs, ys => by rw [List.cons_append, bsum, bsum, bsum_app xs ys]; omega
theorem bsum_len : ∀ xs : List PyData, xs.length ≤ bsum xs
  | [] => Nat.le_refl _
  | x :: xs => by
    have := bsum_len xs
    rw [List.length_cons, bsum]
    omega
theorem okI_all {c : Nat} : ∀ {xs : List PyData}, okIAll c xs = true ↔ ∀ x ∈ xs, okI c x = true
  | [] => ⟨(fun _ x hx => nomatch hx), fun _ => by simp [okIAll]⟩
  | x :: xs => by
    simp only [okIAll, Bool.and_eq_true, okI_all, List.mem_cons, forall_eq_or_imp]
theorem dep_all {k : Nat} : ∀ {xs : List PyData}, PyData.depthAll xs ≤ k ↔ ∀ x ∈ xs, x.depth ≤ k
  | [] => ⟨(fun _ x hx => nomatch hx), fun _ => by simp [PyData.depthAll]⟩
  | x :: xs => by
    simp only [PyData.depthAll, List.mem_cons, forall_eq_or_imp, ← dep_all (xs := xs)]
    omega
mutual
theorem okI_up {c c' : Nat} (h : c ≤ c') : ∀ d : PyData, okI c d = true → okI c' d = true
  | .none, _ => by simp [okI]
  | .bool _, _ => by simp [okI]
  | .int i, q => by
    have : i.natAbs ≤ 10 ^ 29 + c := of_decide_eq_true (by simpa [okI] using q)
    simp only [okI, decide_eq_true_eq]
    omega
  | .str x, q => by simpa [okI] using q
  | .list xs, q => by simpa [okI] using okI_upAll h xs (by simpa [okI] using q)
  | .tuple xs, q => by simpa [okI] using okI_upAll h xs (by simpa [okI] using q)
  | .dict kvs, q => by simpa [okI] using okI_upKv h kvs (by simpa [okI] using q)
theorem okI_upAll {c c' : Nat} (h : c ≤ c') : ∀ d : List PyData, okIAll c d = true → okIAll c' d = true
  | [], _ => by simp [okIAll]
  | x :: xs, q => by
    have q : okI c x = true ∧ okIAll c xs = true := by simpa [okIAll] using q
    simp [okIAll, okI_up h x q.1, okI_upAll h xs q.2]
theorem okI_upKv {c c' : Nat} (h : c ≤ c') : ∀ d : List (PyData × PyData), okIKv c d = true → okIKv c' d = true
  | [], _ => by simp [okIKv]
  | (k, x) :: xs, q => by
    have q : (okI c k = true ∧ okI c x = true) ∧ okIKv c xs = true := by simpa [okIKv] using q
    simp [okIKv, okI_up h k q.1.1, okI_up h x q.1.2, okI_upKv h xs q.2]
end
theorem AV.up {c k B c' k' B' : Nat} {d : PyData} (h : AV c k B d) (hc : c ≤ c') (hk : k ≤ k') (hB : B ≤ B') : AV c' k' B' d := ⟨okI_up hc d h.ok, Nat.le_trans h.dp hk, Nat.le_trans h.bk hB⟩
theorem AV.tup {c k B : Nat} {ys : List PyData} : AV c (k + 1) B (.tuple ys) ↔ (∀ y ∈ ys, okI c y = true ∧ y.depth ≤ k) ∧ bsum ys ≤ B := by
  constructor
  · rintro ⟨h1, h2, h3⟩
    have h1 : okIAll c ys = true := by simpa [okI] using h1
    simp only [PyData.depth] at h2
    simp only [PyData.bulk, bulk_sum] at h3
    have h2 := dep_all.mp (show PyData.depthAll ys ≤ k by omega)
    exact ⟨fun y hy => ⟨okI_all.mp h1 y hy, h2 y hy⟩, h3⟩
  · rintro ⟨h1, h2⟩
    refine ⟨by simpa [okI] using okI_all.mpr fun y hy => (h1 y hy).1, ?_, by simp only [PyData.bulk, bulk_sum]; exact h2⟩
    have := dep_all.mpr fun y hy => (h1 y hy).2
    simp only [PyData.depth]
    omega
theorem AV.lst {c k B : Nat} {ys : List PyData} : AV c (k + 1) B (.list ys) ↔ (∀ y ∈ ys, okI c y = true ∧ y.depth ≤ k) ∧ bsum ys ≤ B := by
  constructor
  · rintro ⟨h1, h2, h3⟩
    have h1 : okIAll c ys = true := by simpa [okI] using h1
    simp only [PyData.depth] at h2
    simp only [PyData.bulk, bulk_sum] at h3
    have h2 := dep_all.mp (show PyData.depthAll ys ≤ k by omega)
    exact ⟨fun y hy => ⟨okI_all.mp h1 y hy, h2 y hy⟩, h3⟩
  · rintro ⟨h1, h2⟩
    refine ⟨by simpa [okI] using okI_all.mpr fun y hy => (h1 y hy).1, ?_, by simp only [PyData.bulk, bulk_sum]; exact h2⟩
    have := dep_all.mpr fun y hy => (h1 y hy).2
    simp only [PyData.depth]
    omega
/-! slices -/
theorem cut_to (xs : List PyData) (j : Nat) : cutD xs none (some (j : Int)) = xs.take j := by
  unfold cutD
  rw [HT.sIx_none, HT.sIx_nat, List.drop_zero, Nat.sub_zero]
  by_cases h : j ≤ xs.length
  · rw [Nat.min_eq_left h]
  · rw [Nat.min_eq_right (by omega), List.take_length, List.take_of_length_le (by omega)]
theorem cut_from (xs : List PyData) (j : Nat) : cutD xs (some (j : Int)) none = xs.drop j := by
  unfold cutD
  rw [HT.sIx_none, HT.sIx_nat]
  by_cases h : j ≤ xs.length
  · rw [Nat.min_eq_left h, List.take_of_length_le (by rw [List.length_drop]; exact Nat.le_refl _)]
  · rw [Nat.min_eq_right (by omega), Nat.sub_self, List.take_zero, List.drop_of_length_le (by omega)]
theorem cut_last (xs : List PyData) : cutD xs (some (-1)) none = xs.drop (xs.length - 1) := by
  unfold cutD
  have e : HT.sIx xs.length 0 (some (-1)) = xs.length - 1 := by
    show (if (-1 : Int) < 0 then ((-1 : Int) + (xs.length : Int)).toNat else min (-1 : Int).toNat xs.length) = _
    rw [if_pos (by decide)]
    omega
  rw [HT.sIx_none, e, List.take_of_length_le (by rw [List.length_drop]; exact Nat.le_refl _)]
theorem bsum_drop (xs : List PyData) (j : Nat) : bsum (xs.drop j) ≤ bsum xs := by
  have := bsum_app (xs.take j) (xs.drop j)
  rw [List.take_append_drop] at this
  omega
theorem AV.drop {c k B : Nat} {ys : List PyData} (h : AV c (k + 1) B (.tuple ys)) (j : Nat) : AV c (k + 1) B (.tuple (ys.drop j)) := by
  obtain ⟨h1, h2⟩ := AV.tup.mp h
  exact AV.tup.mpr ⟨fun y hy => h1 y (List.mem_of_mem_drop hy), Nat.le_trans (bsum_drop ys j) h2⟩
theorem AV.list {c k B : Nat} {ys : List PyData} (h : AV c (k + 1) B (.tuple ys)) : AV c (k + 1) B (.list ys) := AV.lst.mpr (AV.tup.mp h)
theorem AV.item {c k B : Nat} {ys : List PyData} (h : AV c (k + 1) B (.tuple ys)) {j : Nat} (hj : j < ys.length) : AV c k ys[j].bulk ys[j] := by
  obtain ⟨h1, h2⟩ := AV.tup.mp h
  exact ⟨(h1 _ (List.getElem_mem hj)).1, (h1 _ (List.getElem_mem hj)).2, Nat.le_refl _⟩
theorem AV.len {c k B : Nat} {ys : List PyData} (h : AV c k B (.tuple ys)) : ys.length ≤ B := by
  have := h.bk
  simp only [PyData.bulk, bulk_sum] at this
  exact Nat.le_trans (bsum_len ys) this
end DS
set_option maxHeartbeats 4000000
namespace DS
open PySem PySem.Spec PyProof.Rows L2
/-! ### dominant sets: the mathematics -/
def domB (n : Nat) (b : Nat → Nat → Bool) (M : List Nat) : Bool := M.all fun x => (outs n M).all (b x)
def memb (n : Nat) (b : Nat → Nat → Bool) (k : Nat) : List Nat := (List.range n).filter fun i => decide (k ≤ sco n b i)
def goodL (n : Nat) (b : Nat → Nat → Bool) (k : Nat) : Bool := decide ((memb n b k).length + k = n) && domB n b (memb n b k)
def domS (n : Nat) (b : Nat → Nat → Bool) : List (List Nat) := ((List.range n).reverse.filter (goodL n b)).map (memb n b)
section
variable {n : Nat} {b : Nat → Nat → Bool} {M : List Nat}
theorem mem_outs {x : Nat} : x ∈ outs n M ↔ x < n ∧ x ∉ M := by
  unfold outs
  rw [List.mem_filter, List.mem_range]
  simp
theorem domB_iff : domB n b M = true ↔ ∀ x ∈ M, ∀ y, y < n → y ∉ M → b x y = true := by
  unfold domB
  rw [List.all_eq_true]
  constructor
  · exact fun h x hx y hy hn => List.all_eq_true.mp (h x hx) y (mem_outs.mpr ⟨hy, hn⟩)
  · exact fun h x hx => List.all_eq_true.mpr fun y hy => h x hx y (mem_outs.mp hy).1 (mem_outs.mp hy).2
theorem asc_of (h : M ∈ Sn 0 n) : M.Pairwise (· < ·) := ((Sn_mem n 0 M).mp h).1
theorem outs_nd : (outs n M).Nodup := nd_range _
theorem inside_eq (h : M ∈ Sn 0 n) : (List.range n).filter (fun x => M.contains x) = M :=
  asc_ext (List.Pairwise.sublist List.filter_sublist List.pairwise_lt_range) (asc_of h) fun x => by
    rw [List.mem_filter, List.mem_range, List.contains_iff_mem]
    exact ⟨fun z => z.2, fun z => ⟨set_low h x z, z⟩⟩
theorem outs_len (h : M ∈ Sn 0 n) : (outs n M).length + M.length = n := by
  have p := (List.filter_append_perm (fun x => M.contains x) (List.range n)).length_eq
  rw [List.length_append, List.length_range, inside_eq h] at p
  have : (List.filter (fun x => !M.contains x) (List.range n)).length = (outs n M).length := rfl
  omega
theorem memb_of (t : Tour n b) (h : M ∈ Sn 0 n) (d : domB n b M = true) : memb n b (n - M.length) = M := by
  have ol := outs_len h
  have dd := domB_iff.mp d
  refine asc_ext (List.Pairwise.sublist List.filter_sublist List.pairwise_lt_range) (asc_of h) fun x => ?_
  unfold memb
  rw [List.mem_filter, List.mem_range, decide_eq_true_iff]
  constructor
  · intro ⟨hx, hk⟩
    apply Classical.byContradiction
    intro nx
    have : (x :: (List.range n).filter (b x)).length ≤ (outs n M).length := len_sub (List.nodup_cons.mpr ⟨(fun z => by
        have := (List.mem_filter.mp z).2
        rw [t.diag] at this
        exact Bool.false_ne_true this), nd_range _⟩) fun y hy => by
      rcases List.mem_cons.mp hy with e | hy
      · rw [e]
        exact mem_outs.mpr ⟨hx, nx⟩
      · obtain ⟨y1, y2⟩ := List.mem_filter.mp hy
        have y1 := List.mem_range.mp y1
        refine mem_outs.mpr ⟨y1, fun ym => ?_⟩
        have e1 := dd y ym x hx nx
        have e2 := t.anti y x y1 hx (fun e => nx (e ▸ ym))
        rw [e1, y2] at e2
        cases e2
    rw [List.length_cons] at this
    have e : sco n b x = ((List.range n).filter (b x)).length := rfl
    omega
  · intro hx
    have hn := set_low h x hx
    refine ⟨hn, ?_⟩
    have : (outs n M).length ≤ ((List.range n).filter (b x)).length := len_sub outs_nd fun y hy => by
      obtain ⟨y1, y2⟩ := mem_outs.mp hy
      exact List.mem_filter.mpr ⟨List.mem_range.mpr y1, dd x hx y y1 y2⟩
    have e : sco n b x = ((List.range n).filter (b x)).length := rfl
    omega
theorem memb_mem (k : Nat) : memb n b k ∈ Sn 0 n := sel_mem _
theorem domS_mem (t : Tour n b) : M ∈ domS n b ↔ M ∈ Sn 0 n ∧ 0 < M.length ∧ domB n b M = true := by
  unfold domS
  rw [List.mem_map]
  constructor
  · rintro ⟨k, hk, rfl⟩
    obtain ⟨k1, k2⟩ := List.mem_filter.mp hk
    have k1 := List.mem_range.mp (List.mem_reverse.mp k1)
    obtain ⟨g1, g2⟩ := Bool.and_eq_true_iff.mp k2
    have g1 := of_decide_eq_true g1
    exact ⟨memb_mem k, by omega, g2⟩
  · rintro ⟨h1, h2, h3⟩
    have e := memb_of t h1 h3
    have l := set_len h1
    refine ⟨n - M.length, List.mem_filter.mpr ⟨List.mem_reverse.mpr (List.mem_range.mpr (by omega)), ?_⟩, e⟩
    unfold goodL
    rw [e, h3, Bool.and_true, decide_eq_true_iff]
    omega
theorem domS_up : (domS n b).Pairwise fun x y => x.length < y.length := by
  refine List.pairwise_map.mpr ?_
  have p : ((List.range n).reverse.filter (goodL n b)).Pairwise (fun x y => y < x) := List.Pairwise.sublist List.filter_sublist (List.pairwise_reverse.mpr List.pairwise_lt_range)
  refine List.Pairwise.imp_of_mem (fun {x y} hx hy lt => ?_) p
  have f : ∀ k, k ∈ (List.range n).reverse.filter (goodL n b) → (memb n b k).length + k = n := fun k hk => of_decide_eq_true (Bool.and_eq_true_iff.mp (List.mem_filter.mp hk).2).1
  have := f x hx
  have := f y hy
  omega
def leLen (x y : List Nat) : Bool := decide (x.length ≤ y.length)
theorem leLen_sort (ss : List (List Nat)) : (ss.mergeSort leLen).Pairwise fun x y => x.length ≤ y.length := by
  have := List.pairwise_mergeSort (le := leLen) (fun a b c h1 h2 => by
    unfold leLen at *
    rw [decide_eq_true_iff] at *
    omega) (fun a b => by
    unfold leLen
    rw [Bool.or_eq_true, decide_eq_true_iff, decide_eq_true_iff]
    omega) ss
  exact this.imp fun {a b} h => of_decide_eq_true h
theorem sortLen_sets (ss : List (List Nat)) {f : DF} {ρ : Dn} (e : f ρ = some (.list (ss.map tupN))) : sortLenF f ρ = some (.list ((ss.mergeSort leLen).map tupN)) := by
  unfold sortLenF
  rw [e]
  show (lensD (ss.map tupN)).map _ = _
  rw [lensD_map]
  show some (PyData.list _) = some (PyData.list _)
  congr 2
  have e1 : (ss.map tupN).zip (ss.map List.length) = ss.map fun s => (tupN s, s.length) := by
    rw [List.zip_map']
  have e2 := PySem.W.sort_maps (r := leLen) (s := leN) (l := ss) (fun s => (tupN s, s.length)) (fun _ _ _ _ => rfl)
  rw [e1, ← e2, List.map_map]
  rfl
/-! ### what the defs give -/
theorem count_row (t : Tour n b) (i : Nat) : Txt.count (rowS n b i) (Str.ofString "+") = sco n b i := by
  have e : (Str.ofString "+") = ⟨#[43]⟩ := by decide +kernel
  rw [e, count_one]
  have : cnt (rowS n b i) 43 = sco n b i := by
    have sz : (rowS n b i).cps.size = n := rowS_len n b i
    unfold cnt sco
    rw [sz]
    congr 1
    refine List.filter_congr fun j hj => ?_
    have hj := List.mem_range.mp hj
    have ge : (rowS n b i).cps.getD j 0 = sgn b i j := by
      unfold rowS
      simp [Array.getD, hj]
    rw [ge]
    have := bt_eq t i j
    unfold bt at this
    rw [← this]
    unfold sgn
    by_cases h : i = j
    · simp [h]
    · cases b i j <;> simp [h]
  rw [this]
theorem scores_eq (t : Tour n b) : sem_scores [tabD n b] = some (.tuple ((List.range n).map fun i => ni (sco n b i))) := by
  refine sem_ret (tup_map (l := List.range n) (g := fun i => .str (rowS n b i)) (m := fun i => ni (sco n b i)) (seq_tup rfl) (small t) fun i hi => ?_)
  refine step_mapG rfl (bin2_eq rfl rfl ?_)
  show some (PyData.int (Txt.count (rowS n b i) (Str.ofString "+"))) = _
  rw [count_row t]
  rfl
theorem is_dom_eq (t : Tour n b) (hM : ∀ k ∈ M, k < n) (h9 : M.length < lim) : sem_is_dominant [tabD n b, tupN M] = some (.bool (domB n b M)) := by
  refine sem_of (seq_nx (set_eq (d := tupN (outs n M)) (callU_eq (ds := [tabD n b, tupN M]) rfl rfl (outs_eq t))) (ret_eq ?_))
  refine all_of (lst_map (l := M) (g := ni) (m := fun x => .bool ((outs n M).all (b x))) (seq_tup rfl) h9 fun x hx => ?_)
  exact step_mapG rfl (callU_eq (ds := [tabD n b, ni x, tupN (outs n M)]) rfl rfl (beats_all_eq t (hM x hx) (fun j hj => (mem_outs.mp hj).1) (filter_small t _)))
end
end DS
set_option maxHeartbeats 4000000
namespace DS
open PySem PySem.Spec PyProof.Rows L2
/-- a loop that puts something to a list, turn by turn -/
theorem run_acc {α : Type} {g : PyData → Dn → Option Dn} {f : SF} {h : α → PyData} {St : List PyData → Dn → Prop} {u : α → List PyData} : ∀ {l : List α} {acc : List PyData} {ρ : Dn}, (∀ x ∈ l, ∀ acc ρ, St acc ρ → acc.length < lim → ∃ ρ1 ρ2, g (h x) ρ = some ρ1 ∧ f ρ1 = some (.nx ρ2) ∧ St (acc ++ u x) ρ2) → (∀ x ∈ l, (u x).length ≤ 1) → acc.length + l.length < lim → St acc ρ →
    ∃ ρ', runFor g f (l.map h) ρ = some (.nx ρ') ∧ St (acc ++ l.flatMap u) ρ'
  | [], acc, ρ, _, _, _, i0 => ⟨ρ, rfl, by rw [List.flatMap_nil, List.append_nil]; exact i0⟩
  | x :: l, acc, ρ, st, hu, hl, i0 => by
    rw [List.length_cons] at hl
    obtain ⟨ρ1, ρ2, e1, e2, i2⟩ := st x List.mem_cons_self acc ρ i0 (by omega)
    have h1 := hu x List.mem_cons_self
    obtain ⟨ρ', e3, i3⟩ := run_acc (l := l) (acc := acc ++ u x) (ρ := ρ2) (fun y hy => st y (List.mem_cons_of_mem _ hy)) (fun y hy => hu y (List.mem_cons_of_mem _ hy)) (by rw [List.length_append]; omega) i2
    refine ⟨ρ', ?_, by rw [List.flatMap_cons, ← List.append_assoc]; exact i3⟩
    show (g (h x) ρ).bind _ = _
    rw [e1]
    show (f ρ1).bind _ = _
    rw [e2]
    exact e3
theorem app_eq {i : Nat} {f : DF} {ρ : Dn} {ds : List PyData} {d : PyData} (e1 : getO i ρ = some ds) (e2 : f ρ = some d) (hl : ds.length < lim) : sApp i f ρ = some (.nx (ρ.set i (.own (ds ++ [d])))) := by
  unfold sApp
  rw [e1]
  show (f ρ).bind _ = _
  rw [e2]
  show (if ds.length < lim then _ else _) = _
  rw [if_pos hl]
theorem own_eq {i : Nat} {g : Dn → Option (List PyData)} {ρ : Dn} {ds : List PyData} (e : g ρ = some ds) : sOwn i g ρ = some (.nx (ρ.set i (.own ds))) := by
  unfold sOwn
  rw [e]
  rfl
theorem rev_range {f : DF} {ρ : Dn} {n : Nat} (e : f ρ = some (ni n)) (h : n ≤ 1000000) : revI f ρ = some ((List.range n).reverse.map ni) := by
  unfold revI
  rw [e]
  show (if okR (n : Int) = true then some (rngD 0 (n : Int).toNat).reverse else none) = _
  rw [if_pos (okR_nat h), Int.toNat_natCast, rngD0, List.map_reverse]
theorem enum_nats (l : List Nat) : enumD (l.map ni) = (List.range l.length).map fun i => .tuple [ni i, ni (l.getD i 0)] := by
  unfold enumD
  refine List.ext_getElem? fun i => ?_
  rw [List.getElem?_mapIdx, List.getElem?_map, List.getElem?_map]
  by_cases h : i < l.length
  · rw [List.getElem?_eq_getElem h, List.getElem?_range h]
    simp [h]
    rfl
  · rw [List.getElem?_eq_none (by omega), List.getElem?_eq_none (by rw [List.length_range]; omega)]
    rfl
section
variable {n : Nat} {b : Nat → Nat → Bool} {M : List Nat}
theorem flat_sel {α β : Type} (p : α → Bool) (f : α → β) (l : List α) : (l.flatMap fun x => if p x = true then [f x] else []) = (l.filter p).map f := by
  induction l with
  | nil => rfl
  | cons x l ih =>
    rw [List.flatMap_cons, ih]
    cases h : p x <;> simp [List.filter_cons, h]
abbrev stepDom : SF := (sSeq (sSet 4 (callA toTup (consA (lstI (lcL (enumI (getD 1)) (setT [5, 6]) (tstF (bin2 (gI fun i j => .bool (decide (j ≤ i))) (getD 6) (getD 3))) (getD 5) [5, 6])) nilA)))
  (sIf (andT (tstF (bin2 gEq (bin2 gAdd (callA lenD (consA (getD 4) nilA)) (getD 3)) (callA lenD (consA (getD 0) nilA)))) (tstF (callU 2 sem_is_dominant (consA (getD 0) (consA (getD 4) nilA))))) (sApp 2 (getD 4)) sNil))
theorem step_dom (t : Tour n b) {k : Nat} (hk : k < n) {acc : List PyData} (hl : acc.length < lim) (e4 : Ent) : ∃ e4', stepDom [.dat (tabD n b), .dat (.tuple ((List.range n).map fun i => ni (sco n b i))), .own acc, .dat (ni k), e4, .na, .na] = some (.nx [.dat (tabD n b), .dat (.tuple ((List.range n).map fun i => ni (sco n b i))), .own (acc ++ if goodL n b k = true then [tupN (memb n b k)] else []), .dat (ni k), e4', .na, .na]) := by
  refine ⟨.dat (tupN (memb n b k)), seq_nx (set_eq (d := tupN (memb n b k)) ?_) ?_⟩
  · have en : enumI (getD 1) [.dat (tabD n b), .dat (.tuple ((List.range n).map fun i => ni (sco n b i))), .own acc, .dat (ni k), e4, .na, .na] = some ((List.range n).map fun i => .tuple [ni i, ni (sco n b i)]) := by
      have e0 := enum_nats ((List.range n).map (sco n b))
      rw [List.map_map, List.length_map, List.length_range] at e0
      show some (enumD ((List.range n).map (ni ∘ sco n b))) = _
      rw [e0]
      refine congrArg some (List.map_congr_left fun i hi => ?_)
      have := List.mem_range.mp hi
      simp [List.getD, this]
    refine tup_sel (l := List.range n) (g := fun i => .tuple [ni i, ni (sco n b i)]) (p := fun i => decide (k ≤ sco n b i)) (m := ni) en (small t) fun i hi => ?_
    refine step_ifG rfl (tst_eq (bin2_eq rfl rfl ?_)) fun _ => rfl
    show some (PyData.bool (decide ((k : Int) ≤ (sco n b i : Int)))) = _
    congr 2
    exact decide_eq_decide.mpr (by omega)
  · have ml := set_len (memb_mem (n := n) (b := b) k)
    have c1 : tstF (bin2 gEq (bin2 gAdd (callA lenD (consA (getD 4) nilA)) (getD 3)) (callA lenD (consA (getD 0) nilA))) [.dat (tabD n b), .dat (.tuple ((List.range n).map fun i => ni (sco n b i))), .own acc, .dat (ni k), .dat (tupN (memb n b k)), .na, .na] = some (decide ((memb n b k).length + k = n)) := by
      refine tst_eq (bin2_eq (x := ni ((memb n b k).length + k)) (y := ni n) (bin2_eq (call1 (x := tupN (memb n b k)) (z := ni (memb n b k).length) rfl ?_) rfl rfl) (call1 (x := tabD n b) rfl len_tab) ((gEq_int _ _).trans ?_))
      · show some (PyData.int (((memb n b k).map ni).length : Int)) = _
        rw [List.length_map]
        rfl
      · congr 2
        rw [Bool.eq_iff_iff, beq_iff_eq, decide_eq_true_iff]
        omega
    have c2 := is_dom_eq t (set_low (memb_mem (n := n) (b := b) k)) (set_lim t (memb_mem (n := n) (b := b) k))
    refine if_eq (b := goodL n b k) (andT_eq c1 fun _ => tst_eq (callU_eq (ds := [tabD n b, tupN (memb n b k)]) rfl rfl c2)) ?_
    cases hg : goodL n b k with
    | true => exact app_eq rfl rfl hl
    | false =>
      simp only [Bool.false_eq_true, if_false, List.append_nil]
      rfl
theorem dom_sets_eq (t : Tour n b) : sem_dominant_sets [tabD n b] = some (.tuple ((domS n b).map tupN)) := by
  have h9 := t.nine
  refine sem_of (seq_nx (set_eq (callU_eq (ds := [tabD n b]) rfl rfl (scores_eq t))) (seq_nx (own_eq (ds := []) rfl) ?_))
  obtain ⟨ρ', e1, e3, e4, rfl⟩ := run_acc (l := (List.range n).reverse) (g := setN 3) (f := stepDom) (h := ni) (u := fun k => if goodL n b k = true then [tupN (memb n b k)] else []) (acc := [])
    (St := fun acc ρ => ∃ e3 e4, ρ = [.dat (tabD n b), .dat (.tuple ((List.range n).map fun i => ni (sco n b i))), .own acc, e3, e4, .na, .na])
    (ρ := [.dat (tabD n b), .dat (.tuple ((List.range n).map fun i => ni (sco n b i))), .own [], .na, .na, .na, .na]) (fun k hk acc ρ ⟨e3, e4, er⟩ hl => by
      subst er
      obtain ⟨e4', e⟩ := step_dom t (List.mem_range.mp (List.mem_reverse.mp hk)) hl e4
      exact ⟨_, _, rfl, e, _, _, rfl⟩) (fun k _ => by split <;> simp) (by rw [List.length_reverse, List.length_range]; show 0 + n < 1000000; omega) ⟨_, _, rfl⟩
  refine seq_nx (for_yes (rev_range (call1 (x := tabD n b) rfl len_tab) (by omega)) e1) ?_
  rw [List.nil_append, flat_sel]
  refine ret_eq (call1 (x := .list (((List.range n).reverse.filter (goodL n b)).map fun k => tupN (memb n b k))) rfl ?_)
  show some (PyData.tuple _) = _
  unfold domS
  rw [List.map_map]
  rfl
/-! ### layers -/
theorem full_dom (t : Tour n b) : List.range n ∈ domS n b := (domS_mem t).mpr ⟨full_mem, by rw [List.length_range]; exact t.one, domB_iff.mpr fun x _ y hy hn => absurd (List.mem_range.mpr hy) hn⟩
theorem top_eq (t : Tour n b) : ∃ M r, domS n b = M :: r ∧ sem_top_set [tabD n b] = some (tupN M) := by
  have := full_dom t
  cases e : domS n b with
  | nil => rw [e] at this; cases this
  | cons M r =>
    refine ⟨M, r, rfl, sem_ret (bin2_eq (callU_eq (ds := [tabD n b]) rfl rfl (dom_sets_eq t)) rfl ?_)⟩
    rw [e]
    exact atI_nat (j := 0) rfl
end
end DS
set_option maxHeartbeats 4000000
namespace DS
open PySem PySem.Spec PyProof.Rows L2
/-! ### steps: who was reached from whom -/
def upS (s : Nat → Option Nat) (v j : Nat) : Nat → Option Nat := fun i => if i = v then some j else s i
/-- what the search holds: D, all that were reached, in their order -/
structure Bf (n : Nat) (b : Nat → Nat → Bool) (one : Nat) (D : List Nat) (s : Nat → Option Nat) : Prop where
  nd : D.Nodup
  low : ∀ v ∈ D, v < n
  hd : one ∈ D
  s1 : s one = none
  out : ∀ v, v ∉ D → s v = none
  par : ∀ v ∈ D, v ≠ one → ∃ j, s v = some j ∧ b j v = true ∧ j ∈ D ∧ D.idxOf j < D.idxOf v
section
variable {n : Nat} {b : Nat → Nat → Bool} {one : Nat} {D : List Nat} {s : Nat → Option Nat}
theorem Bf.start (h : one < n) : Bf n b one [one] fun _ => none := ⟨by simp, by simpa using h, by simp, rfl, fun _ _ => rfl, fun v hv ne => absurd (List.mem_singleton.mp hv) ne⟩
theorem Bf.add (h : Bf n b one D s) {j v : Nat} (hj : j ∈ D) (hv : v < n) (hb : b j v = true) (nv : v ∉ D) : Bf n b one (D ++ [v]) (upS s v j) := by
  have io : ∀ x ∈ D, (D ++ [v]).idxOf x = D.idxOf x := fun x hx => by rw [List.idxOf_append, if_pos hx]
  have iv : (D ++ [v]).idxOf v = D.length := by rw [List.idxOf_append, if_neg nv]; simp
  have ne : ∀ x ∈ D, x ≠ v := fun x hx e => nv (e ▸ hx)
  refine ⟨List.nodup_append.mpr ⟨h.nd, by simp, fun x hx y hy => by rw [List.mem_singleton.mp hy]; exact ne x hx⟩, fun x hx => ?_, List.mem_append_left _ h.hd, ?_, fun x hx => ?_, fun x hx nx => ?_⟩
  · rcases List.mem_append.mp hx with hx | hx
    · exact h.low x hx
    · rw [List.mem_singleton.mp hx]; exact hv
  · unfold upS
    rw [if_neg (ne one h.hd)]
    exact h.s1
  · unfold upS
    rw [if_neg fun e => hx (by rw [e]; simp)]
    exact h.out x fun z => hx (List.mem_append_left _ z)
  · by_cases hD : x ∈ D
    · obtain ⟨i, k1, k2, k3, k4⟩ := h.par x hD nx
      refine ⟨i, by unfold upS; rw [if_neg (ne x hD)]; exact k1, k2, List.mem_append_left _ k3, ?_⟩
      rw [io i k3, io x hD]
      exact k4
    · have e : x = v := by
        rcases List.mem_append.mp hx with z | z
        · exact absurd z hD
        · exact List.mem_singleton.mp z
      subst e
      refine ⟨j, by unfold upS; rw [if_pos rfl], hb, List.mem_append_left _ hj, ?_⟩
      rw [io j hj, iv]
      exact List.idxOf_lt_length_of_mem hj
theorem Bf.isNone (h : Bf n b one D s) {v : Nat} (ne : v ≠ one) : (s v).isNone = true ↔ v ∉ D := by
  constructor
  · intro e z
    obtain ⟨i, k1, _⟩ := h.par v z ne
    rw [k1] at e
    cases e
  · intro z
    rw [h.out v z]
    rfl
/-! ### the search as it is written -/
theorem Bf.len (h : Bf n b one D s) : D.length ≤ n := by
  have := len_sub (m := List.range n) h.nd fun x hx => List.mem_range.mpr (h.low x hx)
  rwa [List.length_range] at this
/-- all that those reach who were looked at -/
def Cls (n : Nat) (b : Nat → Nat → Bool) (P D : List Nat) : Prop := ∀ p ∈ P, ∀ v, v < n → b p v = true → v ∈ D
end
end DS
set_option maxHeartbeats 4000000
namespace DS
open PySem PySem.Spec PyProof.Rows L2
/-- the walk back, of at most k places -/
def walkT (s : Nat → Option Nat) (g : Nat) : Nat → Nat → Bool
  | 0, _ => false
  | k + 1, x => if x = g then true else match s x with
    | some j => walkT s g k j
    | none => false
section
variable {n : Nat} {b : Nat → Nat → Bool} {one : Nat} {D M : List Nat} {s : Nat → Option Nat}
theorem eq_nats (x y : Nat) : gEq (ni x) (ni y) = some (.bool (decide (x = y))) := (gEq_int _ _).trans (by
  congr 2
  rw [Bool.eq_iff_iff, beq_iff_eq, decide_eq_true_iff]
  omega)
theorem ne_nats (x y : Nat) : gNe (ni x) (ni y) = some (.bool (!decide (x = y))) := (gNe_int _ _).trans (by
  congr 3
  rw [Bool.eq_iff_iff, beq_iff_eq, decide_eq_true_iff]
  omega)
theorem in_eq (c : Nat) (l : List Nat) : gIn false (ni c) (tupN l) = some (.bool (l.contains c)) := by
  show (intsD (l.map ni)).bind _ = _
  rw [ints_ni, intsD_map]
  show some (PyData.bool ((l.map fun k : Nat => (k : Int)).contains (c : Int))) = _
  rw [has_eq]
def stepB? (b : Nat → Nat → Bool) (s : Nat → Option Nat) (o : Nat) : Bool := match s o with
  | some j => b j o
  | none => false
def okS (n : Nat) (b : Nat → Nat → Bool) (one : Nat) (s : Nat → Option Nat) : Bool := (s one).isNone && ((outs n [one]).all (stepB? b s) && (List.range n).all fun x => walkT s one n x)
end
end DS
set_option maxHeartbeats 4000000
namespace DS
open PySem PySem.Spec PyProof.Rows L2
section
variable {n : Nat} {b : Nat → Nat → Bool} {one : Nat} {D M : List Nat} {s : Nat → Option Nat}
/-! ### who is in the top set -/
/-- of the dominant sets the first one lies in all -/
theorem top_in (t : Tour n b) {T r : List Nat} {rs : List (List Nat)} (e : domS n b = T :: rs) (h : r ∈ domS n b) : ∀ x ∈ T, x ∈ r := by
  have hT := (domS_mem t).mp (e ▸ List.mem_cons_self : T ∈ domS n b)
  have hr := (domS_mem t).mp h
  have le : T.length ≤ r.length := by
    rw [e] at h
    rcases List.mem_cons.mp h with q | q
    · rw [q]; exact Nat.le_refl _
    · have := (List.pairwise_cons.mp (e ▸ domS_up (n := n) (b := b))).1 r q
      omega
  intro x hx
  rw [← memb_of t hT.1 hT.2.2] at hx
  rw [← memb_of t hr.1 hr.2.2]
  obtain ⟨x1, x2⟩ := List.mem_filter.mp hx
  refine List.mem_filter.mpr ⟨x1, decide_eq_true ?_⟩
  have := of_decide_eq_true x2
  omega
/-- what is closed under wins and has one of the top set is all -/
theorem closed_all (t : Tour n b) {T : List Nat} {rs : List (List Nat)} (e : domS n b = T :: rs) (hT : one ∈ T) (h1 : one ∈ D) (hc : Cls n b D D) : ∀ x, x < n → x ∈ D := by
  intro x hx
  apply Classical.byContradiction
  intro nx
  have hM : outs n D ∈ domS n b := (domS_mem t).mpr ⟨sel_mem _, List.length_pos_of_mem (mem_outs.mpr ⟨hx, nx⟩), domB_iff.mpr fun y hy z hz nz => by
    obtain ⟨y1, y2⟩ := mem_outs.mp hy
    have zD : z ∈ D := Classical.byContradiction fun q => nz (mem_outs.mpr ⟨hz, q⟩)
    have ne : y ≠ z := fun q => y2 (q ▸ zD)
    cases hb : b y z with
    | true => rfl
    | false =>
      have := t.anti z y hz y1 ne.symm
      rw [hb] at this
      exact absurd (hc z zD y y1 this) y2⟩
  exact (mem_outs.mp (top_in t e hM one hT)).2 h1
theorem Bf.walk (h : Bf n b one D s) : ∀ (k x : Nat), x ∈ D → D.idxOf x < k → walkT s one k x = true
  | 0, x, _, hk => by omega
  | k + 1, x, hx, hk => by
    rw [walkT]
    by_cases e : x = one
    · rw [if_pos e]
    · rw [if_neg e]
      obtain ⟨j, k1, _, k3, k4⟩ := h.par x hx e
      rw [k1]
      exact h.walk k j k3 (by omega)
theorem Bf.ok (h : Bf n b one D s) (all : ∀ x, x < n → x ∈ D) : okS n b one s = true := by
  unfold okS
  rw [h.s1]
  refine Bool.and_eq_true_iff.mpr ⟨rfl, Bool.and_eq_true_iff.mpr ⟨List.all_eq_true.mpr fun o ho => ?_, List.all_eq_true.mpr fun x hx => ?_⟩⟩
  · obtain ⟨o1, o2⟩ := mem_outs.mp ho
    obtain ⟨j, k1, k2, _⟩ := h.par o (all o o1) (by simpa using o2)
    unfold stepB?
    rw [k1]
    exact k2
  · have hx := all x (List.mem_range.mp hx)
    exact h.walk n x hx (Nat.lt_of_lt_of_le (List.idxOf_lt_length_of_mem hx) h.len)
end
end DS
set_option maxHeartbeats 4000000
namespace DS
open PySem PySem.Spec PyProof.Rows L2
/-! ### certificates of any kind -/
section
variable {n : Nat} {b : Nat → Nat → Bool} {one : Nat}
end
end DS
set_option maxHeartbeats 4000000
namespace DS
open PySem PySem.Spec PyProof.Rows L2
/-! ### sets of any kind -/
section
variable {n : Nat} {b : Nat → Nat → Bool} {one : Nat} {M : List Nat}
/-! ### which word -/
end
end DS
set_option maxHeartbeats 4000000
namespace DS
open PySem PySem.Spec PyProof.Rows L2
/-! ### readings by simp -/
section
variable {ρ : Dn} {f fa fb fc : DF} {α : Type}
@[simp] theorem e_getD0 {d : PyData} {l : Dn} : getD 0 (.dat d :: l) = some d := rfl
@[simp] theorem e_getDs {i : Nat} {e : Ent} {l : Dn} : getD (i + 1) (e :: l) = getD i l := rfl
@[simp] theorem e_getO0 {d : List PyData} {l : Dn} : getO 0 (.own d :: l) = some d := rfl
@[simp] theorem e_getOs {i : Nat} {e : Ent} {l : Dn} : getO (i + 1) (e :: l) = getO i l := rfl
@[simp] theorem e_getD0own {d : List PyData} {l : Dn} : getD 0 (.own d :: l) = none := rfl
@[simp] theorem e_getD0na {l : Dn} : getD 0 (.na :: l) = none := rfl
@[simp] theorem e_getO0dat {d : PyData} {l : Dn} : getO 0 (.dat d :: l) = none := rfl
@[simp] theorem e_cD {d : PyData} : cD d ρ = some d := rfl
@[simp] theorem e_nilA : nilA ρ = some [] := rfl
@[simp] theorem e_consA {g : Dn → Option (List PyData)} : consA f g ρ = (f ρ).bind fun d => (g ρ).bind fun ds => some (d :: ds) := rfl
@[simp] theorem e_tupF {g : Dn → Option (List PyData)} : tupF g ρ = (g ρ).bind fun ds => if ds.length < 1000000 then some (.tuple ds) else none := rfl
@[simp] theorem e_limA {g : Dn → Option (List PyData)} : limA g ρ = (g ρ).bind fun ds => if ds.length < 1000000 then some ds else none := rfl
@[simp] theorem e_lstI {g : Dn → Option (List PyData)} : lstI g ρ = (g ρ).map .list := rfl
@[simp] theorem e_bin2 {g : PyData → PyData → Option PyData} : bin2 g fa fb ρ = (fa ρ).bind fun d => (fb ρ).bind fun e => g d e := rfl
@[simp] theorem e_tstF : tstF f ρ = (f ρ).bind toB := rfl
@[simp] theorem e_toB {b : Bool} : toB (.bool b) = some b := rfl
@[simp] theorem e_toI {i : Int} : toI (.int i) = some i := rfl
@[simp] theorem e_toI' {i : Nat} : toI (ni i) = some (i : Int) := rfl
@[simp] theorem e_seqI : seqI f ρ = (f ρ).bind itemsD := rfl
@[simp] theorem e_itemsT {xs : List PyData} : itemsD (.tuple xs) = some xs := rfl
@[simp] theorem e_itemsL {xs : List PyData} : itemsD (.list xs) = some xs := rfl
@[simp] theorem e_itemsN {xs : List Nat} : itemsD (tupN xs) = some (xs.map ni) := rfl
@[simp] theorem e_andF : andF fa fb ρ = (fa ρ).bind fun d => (toB d).bind fun k => if k = true then fb ρ else some (.bool false) := rfl
@[simp] theorem e_notF : notF fa ρ = (fa ρ).bind fun d => (toB d).bind fun k => some (.bool (!k)) := rfl
@[simp] theorem e_andT {ga gb : Dn → Option Bool} : andT ga gb ρ = (ga ρ).bind fun k => if k = true then gb ρ else some false := rfl
@[simp] theorem e_orT {ga gb : Dn → Option Bool} : orT ga gb ρ = (ga ρ).bind fun k => if k = true then some true else gb ρ := rfl
@[simp] theorem e_notT {ga : Dn → Option Bool} : notT ga ρ = (ga ρ).bind fun k => some (!k) := rfl
@[simp] theorem e_ifF {g : Dn → Option Bool} : ifF g fa fb ρ = (g ρ).bind fun k => if k = true then fa ρ else fb ρ := rfl
@[simp] theorem e_callA {g : List PyData → Option PyData} {fs : Dn → Option (List PyData)} : callA g fs ρ = (fs ρ).bind g := rfl
@[simp] theorem e_callU {n : Nat} {sem : List PyData → Option PyData} {fs : Dn → Option (List PyData)} : callU n sem fs ρ = (fs ρ).bind fun ds => if ds.length = n then sem ds else none := rfl
@[simp] theorem e_isiF {T : String} : isiF T f ρ = (f ρ).map fun d => .bool (isiS (tyN d) T) := rfl
@[simp] theorem e_isiF2 {T U : String} : isiF2 T U f ρ = (f ρ).map fun d => .bool (isiS (tyN d) T || isiS (tyN d) U) := rfl
@[simp] theorem e_yesT : yesT ρ = some true := rfl
@[simp] theorem e_setN {i : Nat} {d : PyData} : setN i d ρ = some (ρ.set i (.dat d)) := rfl
@[simp] theorem e_stepC {g : PyData → Dn → Option Dn} {tt : Dn → Option Bool} {te : DF} {x : PyData} : stepC g tt te ρ x = (g x ρ).bind fun ρ2 => (tt ρ2).bind fun b => if b = true then (te ρ2).map some else some none := rfl
@[simp] theorem e_wipe0 : wipeE ρ [] = ρ := rfl
@[simp] theorem e_wipeS {v : Nat} {vs : List Nat} : wipeE ρ (v :: vs) = (wipeE ρ vs).set v .na := rfl
/-- the items of a comprehension, over what they are made of -/
def compA (l : List α) (F : α → Option (Option PyData)) : Option (List PyData) := l.foldr (fun x r => (F x).bind fun o => r.bind fun ys => some (o.toList ++ ys)) (some [])
theorem compA_congr {l l' : List α} {F G : α → Option (Option PyData)} (e : l = l') (h : ∀ x, x ∈ l' → F x = G x) : compA l F = compA l' G := by
  subst e
  induction l with
  | nil => rfl
  | cons x l ih =>
    show (F x).bind _ = (G x).bind _
    rw [h x List.mem_cons_self]
    congr
    funext o
    show (compA l F).bind _ = (compA l G).bind _
    rw [ih fun y hy => h y (List.mem_cons_of_mem _ hy)]
/-- what holds of a function where it is asked: elsewhere it is whatever it is -/
theorem guard {α β : Type} {P : α → Prop} [DecidablePred P] {F G : α → β} (h : ∀ x, P x → F x = G x) : ∃ J : α → β, ∀ x, F x = if P x then G x else J x := ⟨F, fun x => by
  by_cases k : P x
  · rw [if_pos k, h x k]
  · rw [if_neg k]⟩
@[simp] theorem compA_guard {l : List α} {P : α → Prop} [DecidablePred P] {F G : α → Option (Option PyData)} (h : ∀ x, x ∈ l → P x) : (compA l fun x => if P x then F x else G x) = compA l F := compA_congr rfl fun x hx => if_pos (h x hx)
@[simp] theorem compA_guard2 {l : List α} {P Q : α → Prop} [DecidablePred P] [DecidablePred Q] {F G K : α → Option (Option PyData)} (h : ∀ x, x ∈ l → P x) : (compA l fun x => if Q x then (if P x then F x else G x) else K x) = compA l fun x => if Q x then F x else K x := compA_congr rfl fun x hx => by rw [if_pos (h x hx)]
@[simp] theorem compA_guard3 {l : List α} {P Q : α → Prop} [DecidablePred P] [DecidablePred Q] {F G K : α → Option (Option PyData)} (h : ∀ x, x ∈ l → P x) : (compA l fun x => if Q x then K x else (if P x then F x else G x)) = compA l fun x => if Q x then K x else F x := compA_congr rfl fun x hx => by rw [if_pos (h x hx)]
theorem compM_A {h : PyData → Option (Option PyData)} : ∀ xs : List PyData, compM h xs = compA xs h
  | [] => rfl
  | x :: xs => by
    show (h x).bind _ = (h x).bind _
    congr
    funext o
    rw [compM_A xs]
    rfl
@[simp] theorem e_lcL {fi : Dn → Option (List PyData)} {g : PyData → Dn → Option Dn} {tt : Dn → Option Bool} {te : DF} {vs : List Nat} : lcL fi g tt te vs ρ = (fi ρ).bind fun xs => if xs.length < 1000000 then (compA xs fun x => (g x (wipeE ρ vs)).bind fun ρ2 => (tt ρ2).bind fun b => if b = true then (te ρ2).map some else some none) else none := by
  show (fi ρ).bind _ = _
  congr
  funext xs
  rw [compM_A]
  rfl
@[simp] theorem compA_map {β : Type} {g : α → β} {F : β → Option (Option PyData)} : ∀ {l : List α}, compA (l.map g) F = compA l fun x => F (g x)
  | [] => rfl
  | x :: l => by
    show (F (g x)).bind _ = (F (g x)).bind _
    congr
    funext o
    show (compA (l.map g) F).bind _ = _
    rw [compA_map]
    rfl
@[simp] theorem compA_all {m : α → PyData} : ∀ {l : List α}, (compA l fun x => some (some (m x))) = some (l.map m)
  | [] => rfl
  | x :: l => by
    show (compA l _).bind _ = _
    rw [compA_all]
    rfl
@[simp] theorem compA_if {p : α → Prop} [DecidablePred p] {m : α → PyData} : ∀ {l : List α}, (compA l fun x => if p x then some (some (m x)) else some none) = some ((l.filter fun x => decide (p x)).map m)
  | [] => rfl
  | x :: l => by
    show Option.bind (if p x then some (some (m x)) else some none) (fun o => (compA l fun x => if p x then some (some (m x)) else some none).bind fun ys => some (o.toList ++ ys)) = _
    rw [compA_if, List.filter_cons]
    by_cases h : p x
    · rw [if_pos h, if_pos (decide_eq_true h)]
      rfl
    · rw [if_neg h, if_neg (by rw [decide_eq_false h]; exact Bool.false_ne_true)]
      rfl
/-- what a def hands back -/
def finR : Res → Option PyData
  | .rt d => some d
  | .nx _ => some .none
  | _ => none
@[simp] theorem finR_rt {d : PyData} : finR (.rt d) = some d := rfl
@[simp] theorem finR_nx {ρ : Dn} : finR (.nx ρ) = some .none := rfl
@[simp] theorem e_semZ {N : Nat} {g : SF} {ds : List PyData} : semZ N g ds = (g (startD N ds)).bind finR := by
  unfold semZ
  congr
/-- what follows -/
def seqR (b : SF) : Res → Option Res
  | .nx ρ' => b ρ'
  | .rt d => some (.rt d)
  | .bk ρ' => some (.bk ρ')
  | .ct ρ' => some (.ct ρ')
@[simp] theorem seqR_nx {b : SF} {ρ : Dn} : seqR b (.nx ρ) = b ρ := rfl
@[simp] theorem seqR_rt {b : SF} {d : PyData} : seqR b (.rt d) = some (.rt d) := rfl
@[simp] theorem seqR_bk {b : SF} {ρ : Dn} : seqR b (.bk ρ) = some (.bk ρ) := rfl
@[simp] theorem seqR_ct {b : SF} {ρ : Dn} : seqR b (.ct ρ) = some (.ct ρ) := rfl
@[simp] theorem ite_bind {α β : Type} {c : Prop} [Decidable c] {x y : Option α} {g : α → Option β} : (if c then x else y).bind g = if c then x.bind g else y.bind g := by
  split <;> rfl
@[simp] theorem ite_mapO {α β : Type} {c : Prop} [Decidable c] {x y : Option α} {g : α → β} : (if c then x else y).map g = if c then x.map g else y.map g := by
  split <;> rfl
@[simp] theorem e_sNil : sNil ρ = some (.nx ρ) := rfl
@[simp] theorem e_sRet : sRet f ρ = (f ρ).bind fun d => some (.rt d) := rfl
@[simp] theorem e_sSet {i : Nat} : sSet i f ρ = (f ρ).bind fun d => some (.nx (ρ.set i (.dat d))) := rfl
@[simp] theorem e_sOwn {i : Nat} {g : Dn → Option (List PyData)} : sOwn i g ρ = (g ρ).bind fun d => some (.nx (ρ.set i (.own d))) := rfl
@[simp] theorem e_sIf {g : Dn → Option Bool} {a b : SF} : sIf g a b ρ = (g ρ).bind fun k => if k = true then a ρ else b ρ := rfl
@[simp] theorem e_sSeq {a b : SF} : sSeq a b ρ = (a ρ).bind (seqR b) := by
  unfold sSeq
  congr
@[simp] theorem e_start {N : Nat} {ds : List PyData} : startD N ds = ds.map .dat ++ List.replicate (N - ds.length) .na := rfl
@[simp] theorem e_gI {h : Int → Int → PyData} {d e : PyData} : gI h d e = (toI d).bind fun i => (toI e).bind fun j => some (h i j) := rfl
@[simp] theorem e_gIsN {d : PyData} : gIsN d .none = some (.bool (isNone d)) := rfl
@[simp] theorem e_gNotN {d : PyData} : gNotN d .none = some (.bool (!isNone d)) := rfl
@[simp] theorem e_eq_nats (x y : Nat) : gEq (ni x) (ni y) = some (.bool (decide (x = y))) := eq_nats x y
@[simp] theorem e_ne_nats (x y : Nat) : gNe (ni x) (ni y) = some (.bool (!decide (x = y))) := ne_nats x y
@[simp] theorem e_gEq_int (i j : Int) : gEq (.int i) (.int j) = some (.bool (i == j)) := gEq_int i j
@[simp] theorem e_gNe_int (i j : Int) : gNe (.int i) (.int j) = some (.bool (!(i == j))) := gNe_int i j
@[simp] theorem e_gEq_bool (i j : Bool) : gEq (.bool i) (.bool j) = some (.bool (i == j)) := gEq_bool i j
@[simp] theorem e_gNe_bool (i j : Bool) : gNe (.bool i) (.bool j) = some (.bool (!(i == j))) := gNe_bool i j
@[simp] theorem e_gEq_str (i j : Str) : gEq (.str i) (.str j) = some (.bool (i == j)) := gEq_str i j
@[simp] theorem e_gNe_str (i j : Str) : gNe (.str i) (.str j) = some (.bool (!(i == j))) := gNe_str i j
@[simp] theorem e_eq_lsts (i j : List Nat) : gEq (.list (i.map ni)) (.list (j.map ni)) = some (.bool (i == j)) := eq_lsts i j
@[simp] theorem e_eq_tups (i j : List Nat) : gEq (tupN i) (tupN j) = some (.bool (i == j)) := eq_tups i j
@[simp] theorem e_ne_lsts (i j : List Nat) : gNe (.list (i.map ni)) (.list (j.map ni)) = some (.bool (!(i == j))) := ne_lsts i j
@[simp] theorem e_ne_tups (i j : List Nat) : gNe (tupN i) (tupN j) = some (.bool (!(i == j))) := ne_tups i j
@[simp] theorem e_notin_eq (c : Nat) (l : List Nat) : gIn true (ni c) (tupN l) = some (.bool (!l.contains c)) := notin_eq c l
@[simp] theorem e_in_eq (c : Nat) (l : List Nat) : gIn false (ni c) (tupN l) = some (.bool (l.contains c)) := in_eq c l
@[simp] theorem e_lenT {xs : List PyData} : lenD [.tuple xs] = some (ni xs.length) := rfl
@[simp] theorem e_lenL {xs : List PyData} : lenD [.list xs] = some (ni xs.length) := rfl
@[simp] theorem e_lenN {xs : List Nat} : lenD [tupN xs] = some (ni xs.length) := by
  show some (ni (xs.map ni).length) = _
  rw [List.length_map]
@[simp] theorem e_len_tab {n : Nat} {b : Nat → Nat → Bool} : lenD [tabD n b] = some (ni n) := len_tab
@[simp] theorem e_fold (M : List Nat) : PyData.tuple (M.map ni) = tupN M := rfl
@[simp] theorem e_toTup {xs : List PyData} : toTup [.list xs] = some (.tuple xs) := rfl
@[simp] theorem e_all {p : α → Bool} {l : List α} : allD [.list (l.map fun x => .bool (p x))] = some (.bool (l.all p)) := by
  have := all_of (f := cD (.list (l.map fun x => .bool (p x)))) (ρ := []) (l := l) (p := p) rfl
  exact this
theorem e_eqNil0 {xs : List PyData} : gEq (.tuple xs) (.tuple []) = some (.bool xs.isEmpty) := by
  have ev : PyData.eqv (.tuple xs) (.tuple []) = xs.isEmpty := by rw [eqv_nil]; cases xs <;> rfl
  unfold gEq
  rw [ev]
  split
  · rfl
  · rw [if_pos (by rfl)]
@[simp] theorem e_eqNilT {xs : List PyData} : gEq (.tuple xs) (.tuple []) = some (.bool xs.isEmpty) := e_eqNil0
@[simp] theorem e_eqNilN {xs : List Nat} : gEq (tupN xs) (.tuple []) = some (.bool xs.isEmpty) := e_eqNil0.trans (by cases xs <;> rfl)
@[simp] theorem e_neNilT {xs : List PyData} : gNe (.tuple xs) (.tuple []) = some (.bool (!xs.isEmpty)) := by
  have ev : PyData.eqv (.tuple xs) (.tuple []) = xs.isEmpty := by rw [eqv_nil]; cases xs <;> rfl
  unfold gNe
  rw [ev]
  split
  · rfl
  · rw [if_pos (by rfl)]
@[simp] theorem e_neNilN {xs : List Nat} : gNe (tupN xs) (.tuple []) = some (.bool (!xs.isEmpty)) := e_neNilT.trans (by cases xs <;> rfl)
@[simp] theorem e_eqNilL {xs : List PyData} : gEq (.list xs) (.list []) = some (.bool xs.isEmpty) := by
  have ev : PyData.eqv (.list xs) (.list []) = xs.isEmpty := by rw [eqv_nilL]; cases xs <;> rfl
  unfold gEq
  rw [ev]
  split
  · rfl
  · rw [if_pos (by rfl)]
@[simp] theorem e_neNilL {xs : List PyData} : gNe (.list xs) (.list []) = some (.bool (!xs.isEmpty)) := by
  have ev : PyData.eqv (.list xs) (.list []) = xs.isEmpty := by rw [eqv_nilL]; cases xs <;> rfl
  unfold gNe
  rw [ev]
  split
  · rfl
  · rw [if_pos (by rfl)]
@[simp] theorem e_enumI : enumI f ρ = (f ρ).bind fun d => (seqS d).map enumD := rfl
@[simp] theorem e_seqT {xs : List PyData} : seqS (.tuple xs) = some xs := rfl
@[simp] theorem e_seqL {xs : List PyData} : seqS (.list xs) = some xs := rfl
@[simp] theorem e_seqN {xs : List Nat} : seqS (tupN xs) = some (xs.map ni) := rfl
@[simp] theorem e_enumL {ds : List PyData} : (enumD ds).length = ds.length := enumD_len ds
theorem enum_range (ds : List PyData) : enumD ds = (List.range ds.length).map fun j => .tuple [ni j, ds.getD j .none] := by
  apply List.ext_getElem?
  intro j
  unfold enumD
  rw [List.getElem?_mapIdx, List.getElem?_map]
  by_cases h : j < ds.length
  · rw [List.getElem?_range h, List.getElem?_eq_getElem h]
    simp [ni, h]
  · rw [List.getElem?_eq_none (by omega), List.getElem?_eq_none (by rw [List.length_range]; omega)]
    rfl
@[simp] theorem compA_enum {ds : List PyData} {F : PyData → Option (Option PyData)} : compA (enumD ds) F = compA (List.range ds.length) fun j => F (.tuple [ni j, ds.getD j .none]) := by
  rw [enum_range, compA_map]
@[simp] theorem e_setT {i j : Nat} {x y : PyData} : setT [i, j] (.tuple [x, y]) ρ = some ((ρ.set i (.dat x)).set j (.dat y)) := rfl
@[simp] theorem e_rng1I : rng1I f ρ = (f ρ).bind fun d => (toI d).bind fun j => if okR j then some (rngD 0 j.toNat) else none := rfl
@[simp] theorem e_okR {m : Nat} : okR (m : Int) = decide (m ≤ 1000000) := by
  unfold okR
  rw [decide_eq_decide]
  omega
@[simp] theorem e_okR_0 : okR 0 = true := rfl
@[simp] theorem e_okR_1 : okR 1 = true := rfl
@[simp] theorem e_okR_2 : okR 2 = true := rfl
@[simp] theorem e_okR_3 : okR 3 = true := rfl
@[simp] theorem e_okR_4 : okR 4 = true := rfl
@[simp] theorem e_okR_5 : okR 5 = true := rfl
@[simp] theorem e_okR_6 : okR 6 = true := rfl
@[simp] theorem e_okR_7 : okR 7 = true := rfl
@[simp] theorem e_okR_8 : okR 8 = true := rfl
@[simp] theorem e_okR_9 : okR 9 = true := rfl
@[simp] theorem e_okR_10 : okR 10 = true := rfl
@[simp] theorem e_okR_11 : okR 11 = true := rfl
@[simp] theorem e_okR_12 : okR 12 = true := rfl
@[simp] theorem e_okR_13 : okR 13 = true := rfl
@[simp] theorem e_okR_14 : okR 14 = true := rfl
@[simp] theorem e_okR_15 : okR 15 = true := rfl
@[simp] theorem e_okR_16 : okR 16 = true := rfl
@[simp] theorem e_okR_17 : okR 17 = true := rfl
@[simp] theorem e_okR_18 : okR 18 = true := rfl
@[simp] theorem e_okR_19 : okR 19 = true := rfl
@[simp] theorem e_okR_20 : okR 20 = true := rfl
@[simp] theorem e_okR_21 : okR 21 = true := rfl
@[simp] theorem e_okR_22 : okR 22 = true := rfl
@[simp] theorem e_okR_23 : okR 23 = true := rfl
@[simp] theorem e_okR_24 : okR 24 = true := rfl
@[simp] theorem e_okR_25 : okR 25 = true := rfl
@[simp] theorem e_okR_26 : okR 26 = true := rfl
@[simp] theorem e_okR_27 : okR 27 = true := rfl
@[simp] theorem e_okR_28 : okR 28 = true := rfl
@[simp] theorem e_okR_29 : okR 29 = true := rfl
@[simp] theorem e_okR_30 : okR 30 = true := rfl
@[simp] theorem e_okR_40 : okR 40 = true := rfl
@[simp] theorem e_okR_60 : okR 60 = true := rfl
@[simp] theorem e_okR_63 : okR 63 = true := rfl
@[simp] theorem e_okR_64 : okR 64 = true := rfl
@[simp] theorem e_rngD {m : Nat} : rngD 0 m = (List.range m).map ni := rngD0 m
@[simp] theorem e_ix0T {x : PyData} {xs : List PyData} : ixD (.tuple (x :: xs)) (.int 0) = some x := by
  show atI (x :: xs) ((0 : Nat) : Int) = _
  exact atI_nat rfl
@[simp] theorem e_ix1T {x y : PyData} {xs : List PyData} : ixD (.tuple (x :: y :: xs)) (.int 1) = some y := by
  show atI (x :: y :: xs) ((1 : Nat) : Int) = _
  exact atI_nat rfl
@[simp] theorem e_ix0L {x : PyData} {xs : List PyData} : ixD (.list (x :: xs)) (.int 0) = some x := by
  show atI (x :: xs) ((0 : Nat) : Int) = _
  exact atI_nat rfl
@[simp] theorem e_ix1L {x y : PyData} {xs : List PyData} : ixD (.list (x :: y :: xs)) (.int 1) = some y := by
  show atI (x :: y :: xs) ((1 : Nat) : Int) = _
  exact atI_nat rfl
theorem e_ixT {xs : List PyData} {i : Nat} (h : i < xs.length) : ixD (.tuple xs) (ni i) = some (xs.getD i .none) := atI_nat (by
  rw [List.getElem?_eq_getElem h]
  simp [h])
theorem e_ixL {xs : List PyData} {i : Nat} (h : i < xs.length) : ixD (.list xs) (ni i) = some (xs.getD i .none) := atI_nat (by
  rw [List.getElem?_eq_getElem h]
  simp [h])
@[simp] theorem sgn_plus {b : Nat → Nat → Bool} {i j : Nat} : ((⟨#[sgn b i j]⟩ : Str) = Str.ofString "+") ↔ bt b i j = true := by
  have : ∀ c : Nat, ((⟨#[c]⟩ : Str) = Str.ofString "+") ↔ c = 43 := fun c => by
    rw [show Str.ofString "+" = (⟨#[43]⟩ : Str) by decide +kernel]
    simp
  rw [this]
  unfold sgn bt
  by_cases h : i = j
  · simp [h]
  · cases hb : b i j <;> simp [h]
@[simp] theorem sgn_minus {b : Nat → Nat → Bool} {i j : Nat} : ((⟨#[sgn b i j]⟩ : Str) = Str.ofString "-") ↔ (i ≠ j ∧ b i j = false) := by
  have : ∀ c : Nat, ((⟨#[c]⟩ : Str) = Str.ofString "-") ↔ c = 45 := fun c => by
    rw [show Str.ofString "-" = (⟨#[45]⟩ : Str) by decide +kernel]
    simp
  rw [this]
  unfold sgn
  by_cases h : i = j
  · simp [h]
  · cases hb : b i j <;> simp [h]
@[simp] theorem e_eqNI (x : Nat) (i : Int) : gEq (ni x) (.int i) = some (.bool (decide ((x : Int) = i))) := (gEq_int _ _).trans (by congr 2)
@[simp] theorem e_eqIN (x : Nat) (i : Int) : gEq (.int i) (ni x) = some (.bool (decide (i = (x : Int)))) := (gEq_int _ _).trans (by congr 2)
@[simp] theorem e_neNI (x : Nat) (i : Int) : gNe (ni x) (.int i) = some (.bool (!decide ((x : Int) = i))) := (gNe_int _ _).trans (by congr 3)
@[simp] theorem e_neIN (x : Nat) (i : Int) : gNe (.int i) (ni x) = some (.bool (!decide (i = (x : Int)))) := (gNe_int _ _).trans (by congr 3)
@[simp] theorem ite_sel1 {a c : Prop} [Decidable a] [Decidable c] {x : PyData} : (if a then (if c then some (some x) else some none) else some none) = if a ∧ c then some (some x) else some none := by
  by_cases h : a <;> simp [h]
@[simp] theorem ite_sel2 {a c : Prop} [Decidable a] [Decidable c] {x : PyData} : (if a then some none else (if c then some (some x) else some none)) = if ¬ a ∧ c then some (some x) else some none := by
  by_cases h : a <;> simp [h]
@[simp] theorem ite_sel3 {a : Prop} [Decidable a] {x : PyData} : (if a then some none else some (some x)) = if ¬ a then some (some x) else some none := by
  by_cases h : a <;> simp [h]
@[simp] theorem e_tyNone : tyN .none = "NoneType" := rfl
@[simp] theorem e_tyBool {c : Bool} : tyN (.bool c) = "bool" := rfl
@[simp] theorem e_tyInt {i : Int} : tyN (.int i) = "int" := rfl
@[simp] theorem e_tyNi {i : Nat} : tyN (ni i) = "int" := rfl
@[simp] theorem e_tyStr {x : Str} : tyN (.str x) = "str" := rfl
@[simp] theorem e_tyList {xs : List PyData} : tyN (.list xs) = "list" := rfl
@[simp] theorem e_tyTup {xs : List PyData} : tyN (.tuple xs) = "tuple" := rfl
@[simp] theorem e_tyTupN {xs : List Nat} : tyN (tupN xs) = "tuple" := rfl
@[simp] theorem e_tyDict {xs : List (PyData × PyData)} : tyN (.dict xs) = "dict" := rfl
@[simp] theorem e_isiS {a T : String} : isiS a T = (a == T || (a == "bool" && T == "int")) := rfl
@[simp] theorem e_tupI {g : Dn → Option (List PyData)} : tupI g ρ = (g ρ).map .tuple := rfl
@[simp] theorem e_gIC {c : Int → Int → Bool} {h : Int → Int → PyData} {d e : PyData} : gIC c h d e = (toI d).bind fun i => (toI e).bind fun j => if c i j = true then some (h i j) else none := rfl
@[simp] theorem e_cMul {i j : Int} : cMul i j = (decide (-(2 ^ 64) < i ∧ i < 2 ^ 64) || decide (-(2 ^ 64) < j ∧ j < 2 ^ 64)) := rfl
@[simp] theorem e_cPos {i j : Int} : cPos i j = decide (0 < j) := rfl
@[simp] theorem e_cDiv {i j : Int} : cDiv i j = decide (0 < j ∧ j < 1073741824) := rfl
@[simp] theorem e_noP : noP ρ = some none := rfl
@[simp] theorem e_someP : someP f ρ = (f ρ).bind fun d => (toI d).map some := rfl
@[simp] theorem e_sliceF {fl fh : Dn → Option (Option Int)} : sliceF f fl fh ρ = (f ρ).bind fun d => (fl ρ).bind fun l => (fh ρ).bind fun h => sliceD d l h := rfl
@[simp] theorem e_sliceT {xs : List PyData} {l h : Option Int} : sliceD (.tuple xs) l h = some (.tuple (cutD xs l h)) := rfl
@[simp] theorem e_sliceL {xs : List PyData} {l h : Option Int} : sliceD (.list xs) l h = some (.list (cutD xs l h)) := rfl
@[simp] theorem e_cutTo {xs : List PyData} {j : Nat} : cutD xs none (some (j : Int)) = xs.take j := cut_to xs j
@[simp] theorem e_cutFrom {xs : List PyData} {j : Nat} : cutD xs (some (j : Int)) none = xs.drop j := cut_from xs j
@[simp] theorem e_cutFrom1 {xs : List PyData} {j : Nat} : cutD xs (some ((j : Int) + 1)) none = xs.drop (j + 1) := cut_from xs (j + 1)
@[simp] theorem e_cut1 {xs : List PyData} : cutD xs (some 1) none = xs.drop 1 := cut_from xs 1
@[simp] theorem e_cut2 {xs : List PyData} : cutD xs (some 2) none = xs.drop 2 := cut_from xs 2
@[simp] theorem e_cutTo1 {xs : List PyData} : cutD xs none (some 1) = xs.take 1 := cut_to xs 1
@[simp] theorem e_cutTo2 {xs : List PyData} : cutD xs none (some 2) = xs.take 2 := cut_to xs 2
@[simp] theorem e_cutLast {xs : List PyData} : cutD xs (some (-1)) none = xs.drop (xs.length - 1) := cut_last xs
@[simp] theorem e_cutInit {xs : List PyData} : cutD xs none (some (-1)) = xs.take (xs.length - 1) := by
  unfold cutD
  rw [HT.sIx_none]
  have : HT.sIx xs.length xs.length (some (-1)) = xs.length - 1 := by
    unfold HT.sIx
    simp
    omega
  rw [this, List.drop_zero, Nat.sub_zero]
@[simp] theorem e_toTupT {xs : List PyData} : toTup [.tuple xs] = some (.tuple xs) := rfl
@[simp] theorem e_toTupN {M : List Nat} : toTup [tupN M] = some (tupN M) := rfl
@[simp] theorem e_gAddNT {M : List Nat} {ys : List PyData} : gAdd (tupN M) (.tuple ys) = if M.length + ys.length < 1000000 then some (.tuple (M.map ni ++ ys)) else none := by
  show (if (M.map ni).length + ys.length < 1000000 then _ else _) = _
  rw [List.length_map]
@[simp] theorem e_gAddTN {M : List Nat} {ys : List PyData} : gAdd (.tuple ys) (tupN M) = if ys.length + M.length < 1000000 then some (.tuple (ys ++ M.map ni)) else none := by
  show (if ys.length + (M.map ni).length < 1000000 then _ else _) = _
  rw [List.length_map]
@[simp] theorem e_gAddNN {M N : List Nat} : gAdd (tupN M) (tupN N) = if M.length + N.length < 1000000 then some (tupN (M ++ N)) else none := by
  show (if (M.map ni).length + (N.map ni).length < 1000000 then _ else _) = _
  rw [List.length_map, List.length_map, ← List.map_append]
  rfl
@[simp] theorem e_intB {c : Bool} : intD [.bool c] = some (.int (if c = true then 1 else 0)) := rfl
@[simp] theorem e_intI {i : Int} : intD [.int i] = some (.int i) := rfl
@[simp] theorem e_intN {i : Nat} : intD [ni i] = some (ni i) := rfl
@[simp] theorem e_gAddI {i j : Int} : gAdd (.int i) (.int j) = some (.int (i + j)) := rfl
@[simp] theorem e_gAddN {i : Nat} {j : Int} : gAdd (ni i) (.int j) = some (.int (i + j)) := rfl
@[simp] theorem e_gAddT {xs ys : List PyData} : gAdd (.tuple xs) (.tuple ys) = if xs.length + ys.length < 1000000 then some (.tuple (xs ++ ys)) else none := rfl
@[simp] theorem e_gAddL {xs ys : List PyData} : gAdd (.list xs) (.list ys) = if xs.length + ys.length < 1000000 then some (.list (xs ++ ys)) else none := rfl
@[simp] theorem ni_inj {i j : Nat} : ni i = ni j ↔ i = j := by
  unfold ni
  simp
  omega
@[simp] theorem tupN_inj {M N : List Nat} : tupN M = tupN N ↔ M = N := by
  unfold tupN
  constructor
  · intro h
    have h : M.map ni = N.map ni := by injection h
    exact (List.map_inj_right (fun x y h => ni_inj.mp h)).mp h
  · intro h
    rw [h]
@[simp] theorem ite_some2 {a : Prop} [Decidable a] {x y : PyData} : (if a then some (some x) else some (some y)) = some (some (if a then x else y)) := by
  by_cases h : a <;> simp [h]
end
end DS
set_option maxHeartbeats 4000000
namespace DS
open PySem PySem.Spec PyProof.Rows L2
/-! ### readings with draws, by simp -/
section
variable {ρ : Dn} {n : Nat} {Q : PyData → Dn → Nat → Prop} {QB : Bool → Dn → Nat → Prop} {QA : List PyData → Dn → Nat → Prop} {f : DF} {T Ta Tb : TXP} {B Ba Bb : TXB} {R : TXA} {DD : EnD} {U V : TD}
@[simp] theorem ex_two {α β : Type} {a : α} {b : β} {P : α → β → Prop} : (∃ x y, (a = x ∧ b = y) ∧ P x y) ↔ P a b := ⟨fun ⟨_, _, ⟨e1, e2⟩, h⟩ => by subst e1 e2; exact h, fun h => ⟨_, _, ⟨rfl, rfl⟩, h⟩⟩
@[simp] theorem w_F : xF f ρ n Q ↔ ∃ d, f ρ = some d ∧ Q d ρ n := Iff.rfl
@[simp] theorem w_T {f : Dn → Option Bool} : xT f ρ n QB ↔ ∃ d, f ρ = some d ∧ QB d ρ n := Iff.rfl
@[simp] theorem w_AndV : xAndV Ta Tb ρ n Q ↔ Ta ρ n fun d ρ1 n1 => ∃ k, d = .bool k ∧ if k = true then Tb ρ1 n1 Q else Q (.bool false) ρ1 n1 := Iff.rfl
@[simp] theorem w_OrV : xOrV Ta Tb ρ n Q ↔ Ta ρ n fun d ρ1 n1 => ∃ k, d = .bool k ∧ if k = true then Q (.bool true) ρ1 n1 else Tb ρ1 n1 Q := Iff.rfl
@[simp] theorem w_Nil : xNil ρ n QA ↔ QA [] ρ n := Iff.rfl
@[simp] theorem w_Cons : xCons T R ρ n QA ↔ T ρ n fun d ρ1 n1 => R ρ1 n1 fun ds ρ2 n2 => QA (d :: ds) ρ2 n2 := Iff.rfl
@[simp] theorem w_Lst : xLst R ρ n Q ↔ R ρ n fun ds ρ1 n1 => ds.length < 1000000 ∧ Q (.list ds) ρ1 n1 := Iff.rfl
@[simp] theorem w_Call {g : List PyData → Option PyData} : xCall g R ρ n Q ↔ R ρ n fun ds ρ1 n1 => ∃ c, g ds = some c ∧ Q c ρ1 n1 := Iff.rfl
@[simp] theorem w_CallU {m : Nat} {sem : List PyData → Option PyData} : xCallU m sem R ρ n Q ↔ R ρ n fun ds ρ1 n1 => ds.length = m ∧ ∃ c, sem ds = some c ∧ Q c ρ1 n1 := Iff.rfl
@[simp] theorem w_Draw {i m : Nat} {W : WD} : xDraw i m W R ρ n Q ↔ getK i ρ ∧ R ρ n fun ds ρ1 n1 => ds.length = m ∧ W ds n1 fun d n2 => Q d ρ1 n2 := Iff.rfl
@[simp] theorem w_x2 {g : PyData → PyData → Option PyData} : x2 g Ta Tb ρ n Q ↔ Ta ρ n fun x ρ1 n1 => Tb ρ1 n1 fun y ρ2 n2 => ∃ c, g x y = some c ∧ Q c ρ2 n2 := Iff.rfl
@[simp] theorem w_getK0 : getK 0 (.dk :: ρ) := rfl
@[simp] theorem w_getKs {i : Nat} {e : Ent} : getK (i + 1) (e :: ρ) ↔ getK i ρ := Iff.rfl
@[simp] theorem w_PopAt {i : Nat} : xPopAt i T ρ n Q ↔ T ρ n fun d ρ1 n1 => ∃ j : Nat, d = .int j ∧ ∃ ds x, getO i ρ1 = some ds ∧ ds.length < 1000000 ∧ ds[j]? = some x ∧ Q x (ρ1.set i (.own (ds.eraseIdx j))) n1 := Iff.rfl
@[simp] theorem w_dNil : dNil DD ρ n ↔ DD.nx ρ n := Iff.rfl
@[simp] theorem w_dSeq : dSeq U V DD ρ n ↔ U { DD with nx := fun ρ' n' => V DD ρ' n' } ρ n := Iff.rfl
@[simp] theorem w_dRet : dRet f DD ρ n ↔ ∃ d, f ρ = some d ∧ DD.rt d n := Iff.rfl
@[simp] theorem w_dSet {i : Nat} : dSet i f DD ρ n ↔ ∃ d, f ρ = some d ∧ DD.nx (ρ.set i (.dat d)) n := Iff.rfl
@[simp] theorem w_dOwn {i : Nat} {f : Dn → Option (List PyData)} : dOwn i f DD ρ n ↔ ∃ ds, f ρ = some ds ∧ DD.nx (ρ.set i (.own ds)) n := Iff.rfl
@[simp] theorem w_dPar {i j : Nat} {g : Dn → Option (List PyData)} : dPar i j g DD ρ n ↔ ∃ x y, g ρ = some [x, y] ∧ DD.nx ((ρ.set i (.dat x)).set j (.dat y)) n := Iff.rfl
@[simp] theorem w_dIf {g : Dn → Option Bool} : dIf g U V DD ρ n ↔ ∃ b, g ρ = some b ∧ if b = true then U DD ρ n else V DD ρ n := Iff.rfl
@[simp] theorem w_dApp {i : Nat} : dApp i f DD ρ n ↔ ∃ ds d, getO i ρ = some ds ∧ f ρ = some d ∧ ds.length < 1000000 ∧ DD.nx (ρ.set i (.own (ds ++ [d]))) n := Iff.rfl
@[simp] theorem w_dRetX : dRetX T DD ρ n ↔ T ρ n fun d _ n' => DD.rt d n' := Iff.rfl
@[simp] theorem w_dSetX {i : Nat} : dSetX i T DD ρ n ↔ T ρ n fun d ρ' n' => DD.nx (ρ'.set i (.dat d)) n' := Iff.rfl
@[simp] theorem w_dParX {i j : Nat} : dParX i j R DD ρ n ↔ R ρ n fun ds ρ1 n1 => ∃ x y, ds = [x, y] ∧ DD.nx ((ρ1.set i (.dat x)).set j (.dat y)) n1 := Iff.rfl
@[simp] theorem w_dAppX {i : Nat} : dAppX i T DD ρ n ↔ (∃ ds, getO i ρ = some ds) ∧ T ρ n fun d ρ1 n1 => ∃ ds, getO i ρ1 = some ds ∧ ds.length < 1000000 ∧ DD.nx (ρ1.set i (.own (ds ++ [d]))) n1 := Iff.rfl
@[simp] theorem w_startK {N : Nat} {ds : List PyData} : startK N ds = .dk :: (ds.map .dat ++ List.replicate (N - 1 - ds.length) .na) := rfl
/-- for over a list that is known -/
theorem for_of {α : Type} {fi : Dn → Option (List PyData)} {g : PyData → Dn → Option Dn} {l : List α} {h : α → PyData} (e : fi ρ = some (l.map h)) (I : Nat → Dn → Nat → Prop) (h0 : I 0 ρ n)
    (hs : ∀ i (hi : i < l.length) ρ' n', I i ρ' n' → ∃ ρ2, g (h l[i]) ρ' = some ρ2 ∧ U { nx := I (i + 1), ct := I (i + 1), bk := DD.nx, rt := DD.rt } ρ2 n') (hend : ∀ ρ' n', I l.length ρ' n' → DD.nx ρ' n') : dFor fi g U DD ρ n := by
  refine ⟨_, e, I, h0, fun i x ρ' n' ex hI => ?_, fun ρ' n' hI => hend ρ' n' (by rwa [List.length_map] at hI)⟩
  rw [List.getElem?_map] at ex
  obtain ⟨y, hy, rfl⟩ := Option.map_eq_some_iff.mp ex
  obtain ⟨hi, rfl⟩ := List.getElem?_eq_some_iff.mp hy
  exact hs i hi ρ' n' hI
/-- for over range(m) -/
theorem for_rng {fi : Dn → Option (List PyData)} {g : PyData → Dn → Option Dn} {m : Nat} (e : fi ρ = some ((List.range m).map ni)) (I : Nat → Dn → Nat → Prop) (h0 : I 0 ρ n)
    (hs : ∀ i ρ' n', i < m → I i ρ' n' → ∃ ρ2, g (ni i) ρ' = some ρ2 ∧ U { nx := I (i + 1), ct := I (i + 1), bk := DD.nx, rt := DD.rt } ρ2 n') (hend : ∀ ρ' n', I m ρ' n' → DD.nx ρ' n') : dFor fi g U DD ρ n := by
  refine for_of e I h0 (fun i hi ρ' n' hI => ?_) fun ρ' n' hI => hend ρ' n' (by rwa [List.length_range] at hI)
  rw [List.length_range] at hi
  rw [List.getElem_range]
  exact hs i ρ' n' hi hI
end
end DS
set_option maxHeartbeats 4000000
namespace DS
open PySem PySem.Spec PyProof.Rows L2
/-! ### sizes of values, composed -/
theorem AV.take {c k B : Nat} {ys : List PyData} (h : AV c (k + 1) B (.tuple ys)) (j : Nat) : AV c (k + 1) B (.tuple (ys.take j)) := by
  have h1 := AV.tup.mp h
  refine AV.tup.mpr ⟨fun y hy => h1.1 y (List.mem_of_mem_take hy), ?_⟩
  have := bsum_app (ys.take j) (ys.drop j)
  rw [List.take_append_drop] at this
  omega
theorem AV.nil {c k B : Nat} : AV c (k + 1) B (.tuple []) := AV.tup.mpr ⟨fun y hy => (nomatch hy), Nat.zero_le _⟩
theorem AV.consT {c k B B' : Nat} {x : PyData} {xs : List PyData} (h : AV c k B x) (h' : AV c (k + 1) B' (.tuple xs)) : AV c (k + 1) (B + 1 + B') (.tuple (x :: xs)) := by
  have h2 := AV.tup.mp h'
  refine AV.tup.mpr ⟨fun y hy => (List.mem_cons.mp hy).elim (fun e => by rw [e]; exact ⟨h.ok, h.dp⟩) (h2.1 y), ?_⟩
  have := h.bk
  simp only [bsum]
  omega
theorem AV.all {c k B : Nat} {xs : List PyData} (h : ∀ x ∈ xs, AV c k B x) : AV c (k + 1) (xs.length * (B + 1)) (.tuple xs) := by
  induction xs with
  | nil => exact AV.nil
  | cons x xs ih => exact ((h x List.mem_cons_self).consT (ih fun y hy => h y (List.mem_cons_of_mem _ hy))).up (Nat.le_refl _) (Nat.le_refl _) (by rw [List.length_cons, Nat.add_mul]; omega)
@[simp] theorem e_frz0 {ds : List PyData} {l : Dn} : frzO 0 (.own ds :: l) = some (.dat (.list ds) :: l) := rfl
@[simp] theorem e_frz0d {d : PyData} {l : Dn} : frzO 0 (.dat d :: l) = none := rfl
@[simp] theorem e_frzs {i : Nat} {e : Ent} {l : Dn} : frzO (i + 1) (e :: l) = (frzO i l).map (e :: ·) := by
  unfold frzO
  rw [List.getElem?_cons_succ]
  cases h : l[i]? with
  | none => rfl
  | some x => cases x <;> rfl
@[simp] theorem e_frzD {i : Nat} {ρ : Dn} : frzD i ρ = (frzO i ρ).getD ρ := rfl
def joinL (d e : PyData) : Option (List PyData) := match d, e with
  | .list xs, .list ys => if xs.length + ys.length < 1000000 then some (xs ++ ys) else none
  | _, _ => none
@[simp] theorem e_addL {fa fb : DF} {ρ : Dn} : addL fa fb ρ = (fa ρ).bind fun d => (fb ρ).bind fun e => joinL d e := rfl
@[simp] theorem e_joinL {xs ys : List PyData} : joinL (.list xs) (.list ys) = if xs.length + ys.length < 1000000 then some (xs ++ ys) else none := rfl
@[simp] theorem e_mulT {xs : List PyData} {k : Nat} : gMulT (.tuple xs) (ni k) = if xs ≠ [] ∧ (1 : Int) ≤ k ∧ (k : Int) ≤ 1000 ∧ xs.length ≤ 1000 then some (.tuple (List.replicate k xs).flatten) else none := rfl
@[simp] theorem e_addBT {xs ys : List PyData} : gAddB (.tuple xs) (.tuple ys) = if xs.length + ys.length < 1000000 then some (.tuple (xs ++ ys)) else none := rfl
@[simp] theorem e_addBI {i j : Int} : gAddB (.int i) (.int j) = some (.int (i + j)) := rfl
@[simp] theorem e_addBN {i : Nat} {j : Int} : gAddB (ni i) (.int j) = some (.int (i + j)) := rfl
@[simp] theorem e_addBB {c : Bool} {j : Int} : gAddB (.bool c) (.int j) = some (.int (b2i c + j)) := rfl
end DS
set_option maxHeartbeats 4000000
namespace DS
open PySem PySem.Spec PyProof.Rows L2
/-! ### dicts by what they hold -/
section
variable {κ : Type} [DecidableEq κ]
theorem valD_map (k j : κ) (d : PyData) : ∀ kds : List (κ × PyData), valD (kds.map fun p => if p.1 = k then (p.1, d) else p) j = if j = k then (valD kds k).map fun _ => d else valD kds j
  | [] => by simp [valD]
  | (k', d') :: kds => by
    have ih := valD_map k j d kds
    unfold valD at ih ⊢
    rw [List.map_cons]
    by_cases h1 : k' = k
    · subst h1
      by_cases h2 : j = k'
      · subst h2
        simp [List.find?_cons]
      · have h3 : ¬ k' = j := fun e => h2 e.symm
        rw [if_neg h2] at ih ⊢
        simp only [if_true, List.find?_cons, h3, decide_false] at ih ⊢
        exact ih
    · rw [if_neg h1]
      by_cases h2 : j = k
      · subst h2
        rw [if_pos rfl] at ih ⊢
        simp only [List.find?_cons, h1, decide_false]
        exact ih
      · rw [if_neg h2] at ih ⊢
        by_cases h3 : k' = j
        · simp [List.find?_cons, h3]
        · simp only [List.find?_cons, h3, decide_false]
          exact ih
theorem valD_any (k : κ) : ∀ kds : List (κ × PyData), (kds.any fun p => decide (p.1 = k)) = (valD kds k).isSome
  | [] => rfl
  | (k', d') :: kds => by
    have ih := valD_any k kds
    unfold valD at ih ⊢
    by_cases h : k' = k
    · simp [List.find?_cons, h]
    · simp only [List.any_cons, List.find?_cons, h, decide_false, Bool.false_or]
      exact ih
theorem valD_put (kds : List (κ × PyData)) (k j : κ) (d : PyData) : valD (putD kds k d) j = if j = k then some d else valD kds j := by
  unfold putD
  by_cases h : (kds.any fun p => decide (p.1 = k)) = true
  · rw [if_pos h, valD_map]
    rw [valD_any] at h
    obtain ⟨x, hx⟩ := Option.isSome_iff_exists.mp h
    rw [hx]
    rfl
  · rw [if_neg h]
    rw [valD_any] at h
    have hn : valD kds k = none := by
      cases e : valD kds k with
      | none => rfl
      | some x => rw [e] at h; exact absurd rfl h
    unfold valD at hn ⊢
    rw [List.find?_append]
    by_cases hj : j = k
    · subst hj
      rw [if_pos rfl]
      have : kds.find? (fun p => decide (p.1 = j)) = none := by
        cases e : kds.find? (fun p => decide (p.1 = j)) with
        | none => rfl
        | some x => rw [e] at hn; cases hn
      rw [this]
      simp
    · rw [if_neg hj]
      have h3 : ¬ k = j := fun e => hj e.symm
      cases e : kds.find? (fun p => decide (p.1 = j)) with
      | none => simp [h3]
      | some x => simp
theorem putD_len (kds : List (κ × PyData)) (k : κ) (d : PyData) : (putD kds k d).length ≤ kds.length + 1 := by
  unfold putD
  split
  · rw [List.length_map]; omega
  · rw [List.length_append]; exact Nat.le_refl _
end
/-- a pair of numbers as a key -/
def kk (x y : Nat) : List Key := [.inl (x : Int), .inl (y : Int)]
theorem kk_inj {x y x' y' : Nat} (h : kk x y = kk x' y') : x = x' ∧ y = y' := by
  injection h with h1 h2
  injection h2 with h2 _
  injection h1 with h1
  injection h2 with h2
  omega
/-! ### winners kept in a dict -/
/-- what stands at (x, y) and (y, x) -/
def Bo (kds : List (List Key × PyData)) (x y : Nat) : Prop := ∃ w : Bool, valD kds (kk x y) = some (.bool w) ∧ valD kds (kk y x) = some (.bool (!w))
theorem Bo.put {kds : List (List Key × PyData)} {x y : Nat} (w : Bool) (ne : x ≠ y) : Bo (putD (putD kds (kk x y) (.bool w)) (kk y x) (.bool (!w))) x y := by
  refine ⟨w, ?_, ?_⟩
  · rw [valD_put, if_neg fun e => ne (kk_inj e).1, valD_put, if_pos rfl]
  · rw [valD_put, if_pos rfl]
theorem Bo.keep {kds : List (List Key × PyData)} {x y x' y' : Nat} (h : Bo kds x' y') (n1 : ¬ (x' = x ∧ y' = y)) (n2 : ¬ (x' = y ∧ y' = x)) (d e : PyData) : Bo (putD (putD kds (kk x y) d) (kk y x) e) x' y' := by
  obtain ⟨w, h1, h2⟩ := h
  refine ⟨w, ?_, ?_⟩
  · rw [valD_put, if_neg fun q => n2 (kk_inj q), valD_put, if_neg fun q => n1 (kk_inj q)]
    exact h1
  · rw [valD_put, if_neg fun q => n1 ⟨(kk_inj q).2, (kk_inj q).1⟩, valD_put, if_neg fun q => n2 ⟨(kk_inj q).2, (kk_inj q).1⟩]
    exact h2
/-- the pairs (x, y), x < y < m, with x < i, or x = i and y < i + 1 + c -/
structure Bos (m i c : Nat) (kds : List (List Key × PyData)) : Prop where
  all : ∀ x y, x < y → y < m → (x < i ∨ (x = i ∧ y < i + 1 + c)) → Bo kds x y
theorem Bos.start {m : Nat} : Bos m 0 0 [] := ⟨fun x y lt h9 h => by omega⟩
theorem Bos.next {i c m : Nat} {kds : List (List Key × PyData)} (h : Bos m i c kds) (hl : m ≤ i + 1 + c) : Bos m (i + 1) 0 kds := ⟨fun x y lt hm hx => h.all x y lt hm (by omega)⟩
theorem Bos.put {i c m : Nat} {kds : List (List Key × PyData)} (h : Bos m i c kds) (w : Bool) : Bos m i (c + 1) (putD (putD kds (kk i (i + 1 + c)) (.bool w)) (kk (i + 1 + c) i) (.bool (!w))) := ⟨fun x y lt hm hx => by
  by_cases e : x = i ∧ y = i + 1 + c
  · obtain ⟨rfl, rfl⟩ := e
    exact Bo.put w (by omega)
  · exact (h.all x y lt hm (by omega)).keep e (by omega) _ _⟩
theorem Bo.symm {kds : List (List Key × PyData)} {x y : Nat} (h : Bo kds x y) : Bo kds y x := by
  obtain ⟨w, h1, h2⟩ := h
  exact ⟨!w, h2, by rw [Bool.not_not]; exact h1⟩
/-- who wins, by the dict -/
def bw (kds : List (List Key × PyData)) (x y : Nat) : Bool := match valD kds (kk x y) with
  | some (.bool v) => v
  | _ => false
theorem Bo.bw {kds : List (List Key × PyData)} {x y : Nat} (h : Bo kds x y) : bw kds x y = !bw kds y x ∧ valD kds (kk x y) = some (.bool (DS.bw kds x y)) := by
  obtain ⟨w, h1, h2⟩ := h
  unfold DS.bw
  rw [h1, h2]
  simp
/-- the sign -/
def sg (kds : List (List Key × PyData)) (x y : Nat) : Nat := if x = y then 46 else if bw kds x y then 43 else 45
def nthL (l : List Nat) (i : Nat) : Nat := l.getD i 0
theorem nthL_ne {l : List Nat} (nd : l.Nodup) {i j : Nat} (hi : i < l.length) (hj : j < l.length) (ne : i ≠ j) : nthL l i ≠ nthL l j := fun e => by
  have e : l[i] = l[j] := by simpa [nthL, hi, hj] using e
  have pw := List.pairwise_iff_getElem.mp nd
  rcases Nat.lt_or_gt_of_ne ne with h | h
  · exact pw i j hi hj h e
  · exact pw j i hj hi h e.symm
end DS
set_option maxHeartbeats 4000000
namespace DS
open PySem PySem.Spec PyProof.Rows L2
/-! ### readings of the newer constructs, by simp -/
section
variable {ρ : Dn} {n : Nat} {Q : PyData → Dn → Nat → Prop} {QA : List PyData → Dn → Nat → Prop} {QB : Bool → Dn → Nat → Prop} {f : DF} {T Te : TXP} {Tt : TXB} {Ti : TXA} {DD : EnD} {U V : TD} {g : PyData → Dn → Option Dn} {vs : List Nat}
@[simp] theorem e_keysOf2 {i j : Nat} : keysOf [ni i, ni j] = some (kk i j) := rfl
@[simp] theorem e_kkD {i j : Nat} : (kk i j).map kD = [ni i, ni j] := rfl
@[simp] theorem e_getC0 {kds : List (List Key × PyData)} {l : Dn} : getC 0 (.dct kds :: l) = some (.inl kds) := rfl
@[simp] theorem e_getC0k {kds : List (Key × PyData)} {l : Dn} : getC 0 (.dck kds :: l) = some (.inr kds) := rfl
@[simp] theorem e_getCs {i : Nat} {e : Ent} {l : Dn} : getC (i + 1) (e :: l) = getC i l := rfl
@[simp] theorem e_putT {kds : List (List Key × PyData)} {k : List Key} {d : PyData} : putC (.inl kds) (.inr k) d = if kds.length < 1000000 then some (.inl (putD kds k d)) else none := rfl
@[simp] theorem e_putK {kds : List (Key × PyData)} {k : Key} {d : PyData} : putC (.inr kds) (.inl k) d = if kds.length < 1000000 then some (.inr (putD kds k d)) else none := rfl
@[simp] theorem e_entT {kds : List (List Key × PyData)} : entC (.inl kds) = .dct kds := rfl
@[simp] theorem e_entK {kds : List (Key × PyData)} : entC (.inr kds) = .dck kds := rfl
@[simp] theorem w_setN' {i : Nat} {gg : Dn → Option Ent} : dSetN i gg DD ρ n ↔ ∃ E, gg ρ = some E ∧ DD.nx (ρ.set i E) n := Iff.rfl
@[simp] theorem w_parN {i j : Nat} {ga gb : Dn → Option Ent} : dParN i j ga gb DD ρ n ↔ ∃ E F, ga ρ = some E ∧ gb ρ = some F ∧ DD.nx ((ρ.set i E).set j F) n := Iff.rfl
@[simp] theorem w_parXN {i j : Nat} {gb : Dn → Option Ent} : dParXN i j T gb DD ρ n ↔ T ρ n fun d ρ1 n1 => ∃ F, gb ρ1 = some F ∧ DD.nx ((ρ1.set i (.dat d)).set j F) n1 := Iff.rfl
@[simp] theorem w_putC {i : Nat} {gk : Dn → Option KeyD} {fc : DF} : dPutC i gk fc DD ρ n ↔ ∃ m k d m', fc ρ = some d ∧ getC i ρ = some m ∧ gk ρ = some k ∧ putC m k d = some m' ∧ DD.nx (ρ.set i (entC m')) n := Iff.rfl
@[simp] theorem w_putO {i : Nat} {fb fc : DF} : dPutO i fb fc DD ρ n ↔ ∃ (x : PyData) (j : Nat) (ds : List PyData), fc ρ = some x ∧ getO i ρ = some ds ∧ (∃ k, fb ρ = some (.int k) ∧ ixN ds.length k = some j) ∧ DD.nx (ρ.set i (.own (ds.set j x))) n := Iff.rfl
@[simp] theorem e_sApp {i : Nat} : sApp i f ρ = (getO i ρ).bind fun ds => (f ρ).bind fun d => if ds.length < 1000000 then some (.nx (ρ.set i (.own (ds ++ [d])))) else none := rfl
@[simp] theorem w_drG {B : Nat} {m : Int} {Q : PyData → Nat → Prop} : wDrG B [.int m] n Q ↔ 0 < m ∧ m < 1000000000 ∧ n < B ∧ ∀ k : Nat, (k : Int) < m → Q (ni k) (n + 1) := by
  constructor
  · rintro ⟨m', e, h1, h2, h3, q⟩
    cases e
    exact ⟨h1, h2, h3, fun k hk => q k (by omega) hk⟩
  · rintro ⟨h1, h2, h3, q⟩
    refine ⟨m, rfl, h1, h2, h3, fun k h0 hk => ?_⟩
    obtain ⟨j, rfl⟩ : ∃ j : Nat, k = (j : Int) := ⟨k.toNat, by omega⟩
    exact q j hk
@[simp] theorem w_drGn {B m : Nat} {Q : PyData → Nat → Prop} : wDrG B [ni m] n Q ↔ 0 < m ∧ m < 1000000000 ∧ n < B ∧ ∀ k : Nat, k < m → Q (ni k) (n + 1) := by
  show wDrG B [.int (m : Int)] n Q ↔ _
  rw [w_drG]
  constructor
  · rintro ⟨h1, h2, h3, q⟩
    exact ⟨by omega, by omega, h3, fun k hk => q k (by omega)⟩
  · rintro ⟨h1, h2, h3, q⟩
    exact ⟨by omega, by omega, h3, fun k hk => q k (by omega)⟩
@[simp] theorem e_ownN {f : Dn → Option (List PyData)} : ownN f ρ = (f ρ).map .own := rfl
@[simp] theorem e_datN : datN f ρ = (f ρ).map .dat := rfl
@[simp] theorem e_dctN : dctN ρ = some (.dct []) := rfl
@[simp] theorem e_toLstL2 : toLstL f ρ = (f ρ).bind itemsD := rfl
@[simp] theorem e_lenO {i : Nat} : lenO i ρ = (getO i ρ).map fun ds => ni ds.length := rfl
@[simp] theorem e_ownNeT {i : Nat} : ownNeT i ρ = (getO i ρ).bind fun ds => if ds.length < 1000000 then some (!ds.isEmpty) else none := rfl
@[simp] theorem e_ownT {i : Nat} : ownT i ρ = (getO i ρ).map fun ds => !ds.isEmpty := rfl
@[simp] theorem cast_eq {i j : Nat} : ((i : Int) = (j : Int)) ↔ i = j := by omega
@[simp] theorem ni_int {i : Nat} {j : Int} : ni i = .int j ↔ (i : Int) = j := by
  unfold ni
  simp
@[simp] theorem int_ni {i : Nat} {j : Int} : PyData.int j = ni i ↔ j = (i : Int) := by
  unfold ni
  simp
theorem shaped_str {x : Str} (h : PyData.strOk x = true) : SeqAt.shaped (.str x) = true := by simp [SeqAt.shaped, PyData.canLay0, PyData.depth, h]
@[simp] theorem shaped_plus : SeqAt.shaped (.str (Str.ofString "+")) = true := shaped_str (by decide +kernel)
@[simp] theorem shaped_minus : SeqAt.shaped (.str (Str.ofString "-")) = true := shaped_str (by decide +kernel)
@[simp] theorem shaped_sgn {b : Nat → Nat → Bool} {i j : Nat} : SeqAt.shaped (.str ⟨#[sgn b i j]⟩) = true := by
  have : sgn b i j = 46 ∨ sgn b i j = 43 ∨ sgn b i j = 45 := by
    unfold sgn
    split
    · exact .inl rfl
    · split
      · exact .inr (.inl rfl)
      · exact .inr (.inr rfl)
  rcases this with h | h | h <;> rw [h] <;> exact shaped_str (by decide +kernel)
@[simp] theorem shaped_int {i : Int} : SeqAt.shaped (.int i) = true := by simp [SeqAt.shaped, PyData.canLay0, PyData.depth]
@[simp] theorem shaped_nat {i : Nat} : SeqAt.shaped (ni i) = true := by simp [ni, SeqAt.shaped, PyData.canLay0, PyData.depth]
@[simp] theorem shaped_tupN {M : List Nat} : SeqAt.shaped (tupN M) = true := shaped_tup M
end
end DS
set_option maxHeartbeats 4000000
namespace DS
open PySem PySem.Spec PySem.Calls PyProof.Rows L2
/-! ### own errors that keep one value -/
def initA (p1 p2 : Pos) : Arguments where
  posonlyargs := []
  args := [⟨"self", none, p1⟩, ⟨"value", none, p2⟩]
  vararg := none
  kwonlyargs := []
  kw_defaults := []
  kwarg := none
  defaults := []
def initB (q1 q2 q3 q4 : Pos) : List Stmt := [Stmt.Assign [Expr.Attribute (Expr.Name "self" q1) "value" q2] (Expr.Name "value" q3) q4]
def initS : Scope where
  kind := .function
  names := [("self", .local), ("value", .local)]
  isGenerator := false
  isCoroutine := false
  more := []
/-- what is written of the class at C and of its __init__ at f -/
structure OwnX (K : PySem.W.Frag) (C f : Addr) : Prop where
  base : ∃ (B n i : String) (l : List Value), ExcBaseFacts B n i l ∧ StoreFacts B l "object.__setattr__" "object" ∧ PySem.W.excInitIn K C l n = true ∧ PySem.W.excOver K C l = true
  sa : PySem.W.findIn K (.ref C) "__setattr__" = some (some (.builtin "object.__setattr__"))
  ga : PySem.W.findIn K (.ref C) "__getattribute__" = some (some (.builtin "BaseException.__getattribute__"))
  gg : PySem.W.findIn K (.ref C) "__getattr__" = some none
  no : PySem.W.findIn K (.ref C) "value" = some none
  ini : PySem.W.findIn K (.ref C) "__init__" = some (some (.ref f))
  ft : PySem.W.typeIn K (.ref f) = some (.type "function")
  kp : PySem.W.keepIn K (.ref C) = true
  ex : PySem.W.subIn K (.ref C) (.type "BaseException") = some true
  ty : PySem.W.typeIn K (.ref C) = some (.type "type")
  hd : PySem.W.hasDictIn K C = true
  ca : PySem.W.findIn K (.ref C) "__class__" = some (some (.builtin "object.__class__"))
  cg : PySem.W.specialIn K (.builtin "object.__class__") "__get__" = some (some (.builtin "getset_descriptor.__get__"))
  ct : PySem.W.takesIn K (.builtin "object.__class__") = some true
  mo : PySem.W.mroIn K C (.type "object") = some true
  fn : ∃ (nm : Str) (oc : Value) (od : Option Addr) (doc pm : Value) (an : Option Addr) (cdv c3 : Value) (osl : Array (Option Value)) (p1 p2 q1 q2 q3 q4 : Pos),
    K.lookup f = some ⟨oc, od, .func (PySem.W.fnOf "__init__" nm (initA p1 p2) (initB q1 q2 q3 q4) initS .none .none doc pm an cdv c3), osl⟩ ∧ PySem.W.codeIn K cdv nm = true
/-- the error at e as it was made of v, its dict at d -/
structure Made1 (h h' : Heap) (e C d : Addr) (v : Value) : Prop where
  old : ∀ b o, h.get? b = some o → h'.get? b = some o
  big : h.objs.size ≤ e
  obj : ∃ t1 : Addr, h'.get? e = some { cls := .ref C, dict := some d, data := .fields #[.ref t1, .none, .none, .none, .bool false, .none] }
  dbig : h.objs.size ≤ d
  ne : d ≠ e
  ns : h'.Ns1 d (fun y => if y = "value" then some v else none)
section
variable {prog : Program} {w : World} {A : Around} {E : Value → Shared → Prop} {R : Result → Shared → Prop} {K : PySem.W.Frag} {C f : Addr} {hp : Heap} {g : Array GenState} {dr : Drawn} {t : Nat} {os : OsState}
end
section
variable {X : Cx} {C f : Addr}
end
end DS
namespace DS
open PySem PySem.Spec PyProof.Rows L2
/-! ### try with several clauses that name the error alike -/
abbrev Clause := Value × (Addr → Value → Option Addr → TS)
/-- the clauses keep their readings -/
inductive Each (X : Cx) (n : Str) : List ExceptHandler → List Clause → Prop
  | nil : Each X n [] []
  | cons {x : Str} {c : Value} {ts : Addr → Value → Option Addr → TS} {b₀ : Stmt} {su : List Stmt} {p1 p2 : Pos} {hs : List ExceptHandler} {l : List Clause} (nm : Names X x c)
      (ok : ∀ (a : Addr) (oe : Obj) (cls : Value) (d : Option Addr) (pn : List (Addr × Obj)), Zc cls d oe → (∃ vs, oe.data = .fields vs) → PSs (X.suite a ((a, oe) :: pn)) (b₀ :: su) (ts a cls d)) (r : Each X n hs l) :
      Each X n (.ExceptHandler (some (.Name x p1)) (some n) (b₀ :: su) p2 :: hs) ((c, ts) :: l)
section
variable {X : Cx} {n : Str} {i : Nat} {body : List Stmt} {h₀ : ExceptHandler} {hs : List ExceptHandler} {l : List Clause} {pos : Pos} {tb : WX → TS} {out : WX}
end
end DS
namespace DS
open PySem PySem.Spec PyProof.Rows L2
/-! ### errors as data -/
structure ErrD where
  c : Str
  fs : Option (Str × PyData)
def ErrAt (K : PySem.W.Frag) (mg : Str → Option Value) (O : Hid) (H : Hp) (e : ErrD) (cls : Value) (d : Option Addr) : Prop :=
  mg e.c = some cls ∧ (e.fs = none → d = none) ∧ ∀ y x, e.fs = some (y, x) → ∃ dd v, d = some dd ∧ Fz O H dd = some (.xd [(y, v)]) ∧ Dx K (Fz O H) v x
theorem ErrAt.shift {K : PySem.W.Frag} {mg : Str → Option Value} {O O' : Hid} {H H' : Hp} {e : ErrD} {cls : Value} {d : Option Addr} (f : Same (Fz O H) (Fz O' H')) (h : ErrAt K mg O H e cls d) : ErrAt K mg O' H' e cls d := ⟨h.1, h.2.1, fun y x q => by
  obtain ⟨dd, v, h1, h2, h3⟩ := h.2.2 y x q
  exact ⟨dd, v, h1, f dd _ h2, h3.same f⟩⟩
abbrev RX := Except ErrD PyData
section
variable {X : Cx} {CX : CXT} {k m : Nat} {f : Addr} {fd : FuncData} {ps : List Str} {sp : Sp} {E : L2.St → XK} {x : Str} {p pos : Pos} {e : Expr} {es : List Expr} {t : TA}
end
/-! ### expressions that may raise -/
abbrev DFX := Dn → Option RX
def tFX (K : PySem.W.Frag) (mg : Str → Option Value) (S : Fr) (W : WX) (f : DFX) : TE := fun σ H Q => ∃ B O ρ n r, RepS K S B O H σ ρ n ∧ f ρ = some r ∧ (∀ d, r = .ok d → ∀ v H', Same H H' → Dx K (Fz O H') v d → Q v H') ∧
  ∀ e, r = .error e → ∀ cls d H', Same H H' → ErrAt K mg O H' e cls d → W cls d σ H'
structure PFX (X : Cx) (S : Fr) (W : WX) (e : Expr) (f : DFX) : Prop where
  pe : PE X e (tFX X.K X.mg S W f)
abbrev DAX := Dn → Option (Except ErrD (List PyData))
def tFAX (K : PySem.W.Frag) (mg : Str → Option Value) (S : Fr) (W : WX) (f : DAX) : TA := fun σ H Q => ∃ B O ρ n r, RepS K S B O H σ ρ n ∧ f ρ = some r ∧ (∀ ds, r = .ok ds → ∀ vs H', Same H H' → DxAll K (Fz O H') vs ds → Q vs H') ∧
  ∀ e, r = .error e → ∀ cls d H', Same H H' → ErrAt K mg O H' e cls d → W cls d σ H'
structure PFAX (X : Cx) (S : Fr) (W : WX) (es : List Expr) (f : DAX) : Prop where
  pa : PA X es (tFAX X.K X.mg S W f)
section
variable {X : Cx} {S : Fr} {W : WX} {e a b c : Expr} {es : List Expr} {p pos : Pos}
end
/-! ### statements that may raise -/
abbrev XP := ErrD → Dn → Nat → Prop
abbrev TDX := EnD → XP → Dn → Nat → Prop
def EndX (K : PySem.W.Frag) (mg : Str → Option Value) (S : Fr) (B : Hp) (XD : XP) (W : WX) : Prop := ∀ e O' cls d σ' H' ρ' n', XD e ρ' n' → RepS K S B O' H' σ' ρ' n' → ErrAt K mg O' H' e cls d → W cls d σ' H'
def tSX (K : PySem.W.Frag) (mg : Str → Option Value) (S : Fr) (W : WX) (T : TDX) : TS := fun D σ H => ∃ B O ρ n DD XD, RepS K S B O H σ ρ n ∧ T DD XD ρ n ∧ Ends2 K S B DD D ∧ EndX K mg S B XD W
structure PDX (X : Cx) (S : Fr) (W : WX) (st : Stmt) (T : TDX) : Prop where
  ps : PS X st (tSX X.K X.mg S W T)
structure PDsX (X : Cx) (S : Fr) (W : WX) (st : List Stmt) (T : TDX) : Prop where
  pss : PSs X st (tSX X.K X.mg S W T)
abbrev SFX := Dn → Option (Except (ErrD × Dn) Res)
def dFX (f : SFX) : TDX := fun DD XD ρ n => ∃ r, f ρ = some r ∧ (∀ z, r = .ok z → DD.ends n z) ∧ ∀ e ρ', r = .error (e, ρ') → XD e ρ' n
structure PZX (X : Cx) (S : Fr) (W : WX) (st : Stmt) (f : SFX) : Prop where
  pd : PDX X S W st (dFX f)
structure PZsX (X : Cx) (S : Fr) (W : WX) (st : List Stmt) (f : SFX) : Prop where
  pds : PDsX X S W st (dFX f)
section
variable {X : Cx} {S : Fr} {W : WX} {st : Stmt} {rest : List Stmt} {f g : SFX} {T U : TDX} {pos : Pos}
theorem PDX.imp {T T' : TDX} (h : PDX X S W st T) (k : ∀ DD XD ρ n, T' DD XD ρ n → T DD XD ρ n) : PDX X S W st T' := ⟨h.ps.imp fun D σ H ⟨B, O, ρ, n, DD, XD, rs, t, E, EX⟩ => ⟨B, O, ρ, n, DD, XD, rs, k _ _ _ _ t, E, EX⟩⟩
theorem PDsX.imp {st : List Stmt} {T T' : TDX} (h : PDsX X S W st T) (k : ∀ DD XD ρ n, T' DD XD ρ n → T DD XD ρ n) : PDsX X S W st T' := ⟨h.pss.imp fun D σ H ⟨B, O, ρ, n, DD, XD, rs, t, E, EX⟩ => ⟨B, O, ρ, n, DD, XD, rs, k _ _ _ _ t, E, EX⟩⟩
end
/-! ### a def that may raise -/
section
variable {P : Program} {w : World} {K : PySem.W.Frag} {mg : Str → Option Value} {base : Heap}
end
end DS
namespace DS
open PySem PySem.Spec PyProof.Rows L2
/-! ### raise, and try -/
/-- what an own class of errors must have to be looked at -/
structure OwnC (K : PySem.W.Frag) (C : Addr) : Prop where
  ga : PySem.W.findIn K (.ref C) "__getattribute__" = some (some (.builtin "BaseException.__getattribute__"))
  gg : PySem.W.findIn K (.ref C) "__getattr__" = some none
  ex : PySem.W.subIn K (.ref C) (.type "BaseException") = some true
  ty : PySem.W.typeIn K (.ref C) = some (.type "type")
  hd : PySem.W.hasDictIn K C = true
  ca : PySem.W.findIn K (.ref C) "__class__" = some (some (.builtin "object.__class__"))
  cg : PySem.W.specialIn K (.builtin "object.__class__") "__get__" = some (some (.builtin "getset_descriptor.__get__"))
  ct : PySem.W.takesIn K (.builtin "object.__class__") = some true
  mo : PySem.W.mroIn K C (.type "object") = some true
theorem OwnX.c {K : PySem.W.Frag} {C f : Addr} (T : OwnX K C f) : OwnC K C := ⟨T.ga, T.gg, T.ex, T.ty, T.hd, T.ca, T.cg, T.ct, T.mo⟩
section
variable {X : Cx} {S : Fr} {W : WX} {a : Expr} {f : DF} {x : Str} {p pos pos' : Pos} {C fi : Addr}
end
/-! the ends of suites that name the error -/
structure ClF where
  n : Str
  x : Value
  h : Addr → Option Addr → Str → SF
inductive EachF (X : Cx) (S : Fr) (Cs : List Str) (n : Str) : List ExceptHandler → List ClF → Prop
  | nil : EachF X S Cs n [] []
  | cons {x : Str} {c : ClF} {b₀ : Stmt} {su : List Stmt} {p1 p2 : Pos} {hs : List ExceptHandler} {l : List ClF} (nm : Names X x c.x) (hn : X.mg c.n = some c.x)
      (ok : ∀ (a : Addr) (oe : Obj) (cls : Value) (d : Option Addr) (pn : List (Addr × Obj)) (e : Str), Zc cls d oe → (∃ vs, oe.data = .fields vs) → X.mg e = some cls → e ∈ Cs → PZs (X.suite a ((a, oe) :: pn)) S (b₀ :: su) (c.h a d e)) (r : EachF X S Cs n hs l) :
      EachF X S Cs n (.ExceptHandler (some (.Name x p1)) (some n) (b₀ :: su) p2 :: hs) (c :: l)
def tsF (K : PySem.W.Frag) (mg : Str → Option Value) (S : Fr) (Cs : List Str) (c : ClF) : Addr → Value → Option Addr → TS := fun a cls d D σ H => ∃ e, mg e = some cls ∧ e ∈ Cs ∧ tS K S (dFun (c.h a d e)) D σ H
section
variable {X : Cx} {S : Fr} {W : WX} {Cs : List Str} {n : Str} {i : Nat} {body : List Stmt} {h₀ : ExceptHandler} {hs : List ExceptHandler} {l : List ClF} {pos : Pos} {fb : SFX} {kt : Str → Str → Option Bool}
theorem EachF.each (h : EachF X S Cs n hs l) : Each X n hs (l.map fun c => (c.x, tsF X.K X.mg S Cs c)) := by
  induction h with
  | nil => exact .nil
  | cons nm hn ok r ih => exact .cons nm (fun a oe cls d pn hz hf => ⟨fun pins s σ H D I ⟨e, he, hm, t⟩ => (ok a oe cls d pn e hz hf he hm).pds.pss.run pins s σ H D I t⟩) ih
end
/-! ### what a suite asks of its error -/
section
variable {X : Cx} {a C : Addr} {oe : Obj} {cls : Value} {d : Option Addr} {pn : List (Addr × Obj)} {i : Nat}
/-- a class that is named -/
structure PCl (X : Cx) (e : Expr) (cv : Value) : Prop where
  ex : ∃ v, PE X e (tC v) ∧ ∀ u, RelV v u → u = cv
/-- the classes of a tuple -/
inductive PCls (X : Cx) : List Expr → List Value → Prop
  | nil : PCls X [] []
  | cons {e : Expr} {es : List Expr} {cv : Value} {cvs : List Value} (h : PCl X e cv) (r : PCls X es cvs) (hs : starEach (e :: es) X.env = (false, eval e X.env) :: starEach es X.env := by rfl) : PCls X (e :: es) (cv :: cvs)
theorem PCls.pa {X : Cx} {es : List Expr} {cvs : List Value} (h : PCls X es cvs) : ∃ vs : List V, PA X es (fun σ H Q => Q vs H) ∧ (∀ ws, Vals vs ws → ws = cvs) ∧ vs.length = cvs.length := by
  induction h with
  | nil => exact ⟨[], pa_nil.imp fun σ H Q q => q, fun ws r => by cases r; rfl, rfl⟩
  | cons h r hs ih =>
    obtain ⟨v, pv, rv⟩ := h.ex
    obtain ⟨vs, pvs, rvs, hl⟩ := ih
    refine ⟨v :: vs, (pa_cons pv pvs hs).imp fun σ H Q q => q, fun ws r => ?_, by rw [List.length_cons, List.length_cons, hl]⟩
    cases r with
    | cons r1 r2 => rw [rv _ r1, rvs _ r2]
end
end DS
namespace DS
open PySem PySem.Spec PyProof.Rows L2
/-! ### tables of what is known of classes -/
end DS
set_option maxHeartbeats 4000000
namespace DS
open PySem PySem.Spec PyProof.Rows L2
/-! ### readings of what may raise, by simp -/
section
variable {ρ : Dn} {f : DF} {fx : DFX} {ga : Dn → Option (List PyData)} {gx : DAX} {sf sg : SFX} {s : SF} {d : PyData} {e : ErrD} {i : Nat} {c y z : Str} {l : Dn} {a : Addr} {dd : Option Addr}
@[simp] theorem ex_map_ok {α β : Type} {g : α → β} {x : α} : Except.map (ε := ErrD) g (.ok x) = .ok (g x) := rfl
@[simp] theorem ex_map_er {α β : Type} {g : α → β} : Except.map (ε := ErrD) g (.error e) = .error e := rfl
end
end DS
namespace DS
open PySem PySem.Spec PyProof.Rows L2
section
variable {X : Cx} {S : Fr}
/-! ### comprehensions with two fors -/
theorem RepE.but {K : PySem.W.Frag} {O O' : Hid} {H H' : Hp} {dv : V} {σ : L2.St} {ρ : Dn} {D : Addr} (h : RepE K O H dv σ ρ) (s : ∀ b o, b ≠ D → H b = some o → H' b = some o) (nD : ∀ (i : Nat) (e : Ent) (ov : Option V) (q : Addr), ρ[i]? = some e → σ[i]? = some ov → Hd H ov e q → q ≠ D) (f : Same (Fz O H) (Fz O' H')) (o : ∀ p, O p → O' p) : RepE K O' H' dv σ ρ := ⟨h.1, fun i e q => by
  obtain ⟨ov, h1, h2⟩ := h.2 i e q
  refine ⟨ov, h1, h2.shift o f fun q' k => ?_⟩
  obtain ⟨oq, x, z⟩ := h2.hd k
  rw [z]
  exact s q' x (nD i e ov q' q h1 k) z⟩
end
end DS
namespace DS
open PySem PySem.Spec PyProof.Rows L2
/-! ### defs with *v alone: f(a, ..), which may raise -/
structure FnV (P : Program) (w : World) (K : PySem.W.Frag) (mg : Str → Option Value) (base : Heap) (CX : CXT) (k : Nat) (f : Addr) (sp : Sp) : Prop where
  go : ∀ (A : Around) (outer : List Env) (s : Shared) (H : Hp) (us : List Value) (vs : List V) (Q : VK) (E : XK), A.guards = some [] → Room k A → Env0 P w K mg base A outer s H → Vals vs us → sp vs H Q E →
    codeAny (model P w) A (.call (.ref f) ⟨us, []⟩) (CR CX outer P w H s Q E) s
theorem FnV.up {P : Program} {w : World} {K : PySem.W.Frag} {mg : Str → Option Value} {base : Heap} {CX : CXT} {k j : Nat} {f : Addr} {sp : Sp} (F : FnV P w K mg base CX j f sp) (h : j ≤ k) : FnV P w K mg base CX k f sp := ⟨fun A outer s H us vs Q E hg hr => F.go A outer s H us vs Q E hg (hr.mono h)⟩
section
variable {P : Program} {w : World} {K : PySem.W.Frag} {mg : Str → Option Value} {base : Heap}
end
section
variable {X : Cx} {S : Fr} {W : WX} {e : Expr} {es : List Expr} {p pos : Pos} {k : Nat} {f : Addr} {x : Str} {sem : List PyData → Option RX} {fs : Dn → Option (List PyData)}
end
end DS
namespace DS
open PySem PySem.Spec PyProof.Rows L2
/-! ### x += l, x a list of one's own -/
section
variable {M : Model} {A : Around} {E : Value → Shared → Prop} {s : Shared}
end
section
variable {X : Cx}
variable {S : Fr} {pos : Pos}
/-! ### a, b, c, d = l, l a list -/
end
end DS
namespace DS
open PySem PySem.Spec PyProof.Rows L2
/-! ### a call with a list of one's own among its arguments, and a plain result -/
def tV (K : PySem.W.Frag) (f : DF) : TE := fun σ H Q => ∃ O dv ρ d, Al O H ∧ RepE K O H dv σ ρ ∧ f ρ = some d ∧ ∀ v H', Same H H' → Dx K H' v d → Q v H'
structure PV (X : Cx) (e : Expr) (f : DF) : Prop where
  pe : PE X e (tV X.K f)
def tVA (K : PySem.W.Frag) (f : Dn → Option (List PyData)) : TA := fun σ H Q => ∃ O dv ρ ds, Al O H ∧ RepE K O H dv σ ρ ∧ f ρ = some ds ∧ ∀ vs H', Same H H' → DxAll K H' vs ds → Q vs H'
structure PVA (X : Cx) (es : List Expr) (f : Dn → Option (List PyData)) : Prop where
  pa : PA X es (tVA X.K f)
section
variable {X : Cx} {e : Expr} {es : List Expr} {f : DF} {fa : Dn → Option (List PyData)} {p pos : Pos} {x : Str}
theorem PF.pv (h : PF X e f) : PV X e f := ⟨h.pe.imp fun σ H Q ⟨O, dv, ρ, d, al, r, ed, q⟩ => ⟨O, dv, ρ, d, al, r, ed, fun v H' s dx => q v H' s (dx.same (fz_sub O H'))⟩⟩
/-! their meanings, by simp -/
end
end DS
namespace DS
open PySem PySem.Spec PyProof.Rows L2
/-! ### x += e, of numbers -/
section
variable {X : Cx} {S : Fr} {pos : Pos}
end
end DS
set_option maxHeartbeats 4000000
namespace DS
open PySem PySem.Spec PyProof.Rows L2
def zS_all_sets : SF := (sSeqS (sSetSd 1 (lstI (limA (consA (tupF nilA) nilA))))
  (sSeqS (sFor (revI (callA lenD (consA (getD 0) nilA))) (setN 2)
  (sSetSd 1 (lstI (addL (lstI (addL (lstI (limA (consA (tupF nilA) nilA))) (lstI (lcL (seqI (getD 1)) (setN 3) yesT (bin2 gAdd (tupF (consA (getD 2) nilA)) (getD 3)) [3])))) (sliceF (onlyL (getS 1)) (someP (cD (.int 1))) noP)))))
  (sRet (callA toTup (consA (getS 1) nilA)))))
def semS_all_sets : List PyData → Option PyData := semS 4 zS_all_sets
end DS
namespace DS
open PySem PySem.Spec PyProof.Rows L2
/-! ### numbers changed in place; // by a large divisor; three names out of a tuple -/
def sAugO (c : Int → Int → Bool) (g : Int → Int → Int) (i : Nat) (f : DF) : SF := fun ρ => (getD i ρ).bind fun d => (toI d).bind fun a => (f ρ).bind fun e => (toI e).bind fun b => if c a b = true then some (.nx (ρ.set i (.dat (.int (g a b))))) else none
section
variable {X : Cx} {S : Fr} {pos : Pos}
theorem pz_augO {op : Operator} {C : Int → Int → Prop} {g : Int → Int → Int} {c : Int → Int → Bool} (ip : PIp X op (rI C fun i j => .int (g i j))) (hc : ∀ a b, c a b = true → C a b) (ok : S.Ok) {i : Nat} {x : Str} {e : Expr} {f : DF} {pos' : Pos} (hN : X.N.Nodup) (hi : X.N[i]? = some x) (hx : Loc X.env.scope x) (he : PF X e f) (hf : X.fn x = true ∨ X.env.scope.names.lookup x = some .local := by first | exact .inl rfl | exact .inr rfl | assumption) :
    PZ X S (.AugAssign (.Name x pos') op e pos) (sAugO c g i f) := ⟨⟨(ps_aug hN hi hx he.pe ip hf).imp fun D σ H ⟨B, O, ρ, n, DD, r, ⟨q, e1, t⟩, E⟩ => by
  obtain ⟨d, d1, e2⟩ := Option.bind_eq_some_iff.mp e1
  obtain ⟨a, d2, e2⟩ := Option.bind_eq_some_iff.mp e2
  obtain ⟨k, d3, e2⟩ := Option.bind_eq_some_iff.mp e2
  obtain ⟨b, d4, e2⟩ := Option.bind_eq_some_iff.mp e2
  split at e2
  case isFalse => cases e2
  rename_i hab
  cases e2
  rw [toI_some d2] at d1
  rw [toI_some d4] at d3
  rcases getD_some d1 with d5 | ⟨_, _, d5⟩ | ⟨l, d5⟩
  · obtain ⟨ov, h1, v, rfl, h3⟩ := r.rep.2 i _ d5
    cases h3
    refine ⟨.int a, h1, O, S.dv, ρ, .int b, r.al, r.rep, d3, fun u H' s dx => ?_⟩
    cases dx
    exact ⟨a, b, rfl, rfl, hc a b hab, E.nx O _ H' _ n ((r.same ok s).set (v := .int (g a b)) (e := .dat (.int (g a b))) ⟨_, rfl, .int _⟩ notOwn_dat i) t⟩
  · cases d5
  · obtain ⟨ov, h1, v, rfl, h3⟩ := r.rep.2 i _ d5
    have h3 := h3.dx
    cases h3
    refine ⟨.int a, h1, O, S.dv, ρ, .int b, r.al, r.rep, d3, fun u H' s dx => ?_⟩
    cases dx
    exact ⟨a, b, rfl, rfl, hc a b hab, E.nx O _ H' _ n ((r.same ok s).set (v := .int (g a b)) (e := .dat (.int (g a b))) ⟨_, rfl, .int _⟩ notOwn_dat i) t⟩⟩⟩
theorem pz_augM (ok : S.Ok) {i : Nat} {x : Str} {e : Expr} {f : DF} {pos' : Pos} (hN : X.N.Nodup) (hi : X.N[i]? = some x) (hx : Loc X.env.scope x) (he : PF X e f) (hf : X.fn x = true ∨ X.env.scope.names.lookup x = some .local := by first | exact .inl rfl | exact .inr rfl | assumption) :
    PZ X S (.AugAssign (.Name x pos') .Mult e pos) (sAugO cMul (fun a b => a * b) i f) := pz_augO iop_mul (fun a b h => (Bool.or_eq_true_iff.mp h).imp of_decide_eq_true of_decide_eq_true) ok hN hi hx he hf
def sUnp3 (i j k : Nat) (f : DF) : SF := fun ρ => (f ρ).bind fun d => match d with
  | .tuple [x, y, z] => some (.nx (((ρ.set i (.dat x)).set j (.dat y)).set k (.dat z)))
  | _ => none
@[simp] theorem e_sAugO {c : Int → Int → Bool} {g : Int → Int → Int} {i : Nat} {f : DF} {ρ : Dn} : sAugO c g i f ρ = (getD i ρ).bind fun d => (toI d).bind fun a => (f ρ).bind fun e => (toI e).bind fun b => if c a b = true then some (.nx (ρ.set i (.dat (.int (g a b))))) else none := rfl
@[simp] theorem e_sUnp3 {i j k : Nat} {f : DF} {ρ : Dn} {x y z : PyData} (h : f ρ = some (.tuple [x, y, z])) : sUnp3 i j k f ρ = some (.nx (((ρ.set i (.dat x)).set j (.dat y)).set k (.dat z))) := by
  unfold sUnp3
  rw [h]
  rfl
/-! sum of a tuple of ints -/
def sumTD : List PyData → Option PyData
  | [.tuple ds] => (intsD ds).map fun is => .int is.sum
  | _ => none
theorem cf_sumT (hc : X.calm = true) : CallR X (.builtin "sum") (rcF X.K sumTD) := (cr_sumT hc).imp fun xs H Q ⟨O, ds, c, al, h, g, q⟩ => by
  match ds, h, g with
  | [.tuple ds], .cons (.tup h1 h2) .nil, g =>
    obtain ⟨is, e1, rfl⟩ := Option.map_eq_some_iff.mp g
    rw [intsD_some e1] at h2
    rw [dxAll_ints h2] at h1
    exact ⟨_, is, rfl, sqT_same (fz_sub O H) h1, q _ H (Same.refl H) (.int _)⟩
/-! x + l, x a list of one's own: a new list -/
end
end DS
namespace DS
open PySem PySem.Spec PyProof.Rows L2
/-! ### l[i] += v, l a list of one's own that holds a number there -/
def tgL : V → V → Hp → VK → Prop := fun o i H Q => ∃ p xs k x, o = .ref p ∧ i = .int k ∧ 0 ≤ k ∧ H p = some (.lst xs) ∧ xs[k.toNat]? = some x ∧ Q x H
theorem pget_list {X : Cx} : PGet X tgL := by
  intro pins s σ H o i ov iv Q I r1 r2 h
  obtain ⟨p, xs, k, x, rfl, rfl, hk, hp, hx, q⟩ := h
  cases r1
  obtain ⟨t, rfl⟩ := r2
  obtain ⟨its, r, pl, hz⟩ := I.list (.inl (.inl hp))
  obtain ⟨w, ew, rw'⟩ := r.get hx
  have hl : k.toNat < its.length := (List.getElem?_eq_some_iff.mp ew).1
  have hn := line63
  have hl2 := r.length
  exact wpAny_getItem_list pl.isList hk (by omega) (by simpa using ew) ⟨x, H, I, rw', q⟩
def dAugI (i : Nat) (fb fc : DF) : TD := fun DD ρ n => ∃ (ds : List PyData) (j : Nat) (u v : Int), getO i ρ = some ds ∧ fb ρ = some (.int (j : Int)) ∧ ds[j]? = some (.int u) ∧ fc ρ = some (.int v) ∧ DD.nx (ρ.set i (.own (ds.set j (.int (u + v))))) n
theorem pd_laug {X : Cx} {S : Fr} {pos : Pos} {b e : Expr} {fb fc : DF} (ok : S.Ok) (i : Nat) {x : Str} {p1 p3 : Pos} (hb : PF X b fb) (hc : PF X e fc) (hN : X.N[i]? = some x := by rfl) (hv : Vis X.env.scope x := by first | exact Or.inl rfl | exact Or.inr (Or.inl rfl) | exact Or.inr (Or.inr rfl)) (hd : (x == ("__debug__" : Str)) = false := by decide) (hcd : (x == ("__classdict__" : Str)) = false := by decide)
    (ha : ∀ ov iv new, augStore b ov iv new = (do holding [new, ov, iv] (setItem ov iv new); release [new, ov, iv] []; pure .next) := by intros; rfl) :
    PD X S (.AugAssign (.Subscript (.Name x p1) b p3) .Add e pos) (dAugI i fb fc) := ⟨(ps_augS (pe_var hN hv hd hcd) hb.pe pget_list hc.pe ip_add set_list ha).imp fun D σ H ⟨B, O, ρ, n, DD, r, ⟨ds, j, u, v, e1, e2, e3, e4, t⟩, E⟩ => by
  obtain ⟨p, vs, z1, z2, z3, z4⟩ := own_at r.rep e1
  refine ⟨.ref p, z1, O, S.dv, ρ, _, r.al, r.rep, e2, fun y H1 s1 hy => ?_⟩
  cases hy
  have r1 := r.same ok s1
  obtain ⟨w, ew, dw⟩ := z4.get e3
  cases dw
  refine ⟨p, vs, j, .int u, rfl, rfl, Int.natCast_nonneg j, s1 _ _ z3, by simpa using ew, O, S.dv, ρ, _, r1.al, r1.rep, e4, fun y2 H2 s2 hy2 => ?_⟩
  cases hy2
  have r2 := r1.same ok s2
  have hj : j < vs.length := (List.getElem?_eq_some_iff.mp ew).1
  exact ⟨u, v, rfl, rfl, p, vs, j, j, rfl, rfl, s2 _ _ (s1 _ _ z3), ixN_nat hj, E.nx O σ _ _ n (r2.put ok (getO_some e1) z1 (setDx (.int _) j (z4.same ((s1.trans s2).fz O)))) t⟩⟩
def natI (d : PyData) : Option Nat := match d with
  | .int k => if 0 ≤ k then some k.toNat else none
  | _ => none
theorem natI_some {d : PyData} {j : Nat} (h : natI d = some j) : d = .int (j : Int) := by
  unfold natI at h
  split at h
  · split at h
    case isFalse => cases h
    rename_i k hk
    cases h
    rw [Int.toNat_of_nonneg hk]
  · cases h
@[simp] theorem natI_ni (j : Nat) : natI (ni j) = some j := by simp [natI, ni]
def sAugI (i : Nat) (fb fc : DF) : SF := fun ρ => (getO i ρ).bind fun ds => (fb ρ).bind fun b => (natI b).bind fun j => (ds[j]?).bind fun d => (toI d).bind fun u => (fc ρ).bind fun e => (toI e).bind fun v => some (.nx (ρ.set i (.own (ds.set j (.int (u + v))))))
theorem pz_of_augI {X : Cx} {S : Fr} {st : Stmt} {i : Nat} {fb fc : DF} (h : PD X S st (dAugI i fb fc)) : PZ X S st (sAugI i fb fc) := ⟨h.imp fun DD ρ n ⟨r, e, t⟩ => by
  obtain ⟨ds, e1, e⟩ := Option.bind_eq_some_iff.mp e
  obtain ⟨d1, e2, e⟩ := Option.bind_eq_some_iff.mp e
  obtain ⟨j, e3, e⟩ := Option.bind_eq_some_iff.mp e
  obtain ⟨d2, e4, e⟩ := Option.bind_eq_some_iff.mp e
  obtain ⟨u, e5, e⟩ := Option.bind_eq_some_iff.mp e
  obtain ⟨d3, e6, e⟩ := Option.bind_eq_some_iff.mp e
  obtain ⟨v, e7, e⟩ := Option.bind_eq_some_iff.mp e
  cases e
  rw [natI_some e3] at e2
  rw [toI_some e5] at e4
  rw [toI_some e7] at e6
  exact ⟨ds, j, u, v, e1, e2, e4, e6, t⟩⟩
@[simp] theorem e_sAugI {i : Nat} {fb fc : DF} {ρ : Dn} : sAugI i fb fc ρ = (getO i ρ).bind fun ds => (fb ρ).bind fun b => (natI b).bind fun j => (ds[j]?).bind fun d => (toI d).bind fun u => (fc ρ).bind fun e => (toI e).bind fun v => some (.nx (ρ.set i (.own (ds.set j (.int (u + v)))))) := rfl
end DS
namespace DS
open PySem PySem.Spec PyProof.Rows L2 GenW
/-! ### generators over data: what is out so far, and the slots -/
section
variable {X : Cx} {st : Stmt} {rest : List Stmt} {pos : Pos}
theorem _root_.L2.GS.imp {t t' : TGn} (h : GS X st t) (k : ∀ D ys σ H, t' D ys σ H → t D ys σ H) : GS X st t' := ⟨fun A S ip R n ys s₀ c fs K J gd lv s σ H D g hn kk hI ht => h.run A S ip R n ys s₀ c fs K J gd lv s σ H D g hn kk hI (k _ _ _ _ ht)⟩
theorem _root_.L2.GSs.imp {t t' : TGn} (h : GSs X rest t) (k : ∀ D ys σ H, t' D ys σ H → t D ys σ H) : GSs X rest t' := ⟨fun A S ip R n ys s₀ c fs K J gd lv s σ H D g hn kk hI ht => h.run A S ip R n ys s₀ c fs K J gd lv s σ H D g hn kk hI (k _ _ _ _ ht)⟩
end
abbrev GFd := List PyData → Dn → Option (Res × List PyData)
structure Ends3 (K : PySem.W.Frag) (S : Fr) (DD : Res → List PyData → Prop) (D : GEnds) : Prop where
  nx : ∀ B O σ H ρ n ys ds, RepS K S B O H σ ρ n → DxAll K B ys ds → DD (.nx ρ) ds → D.nx ys σ H
  bk : ∀ B O σ H ρ n ys ds, RepS K S B O H σ ρ n → DxAll K B ys ds → DD (.bk ρ) ds → D.bk ys σ H
  ct : ∀ B O σ H ρ n ys ds, RepS K S B O H σ ρ n → DxAll K B ys ds → DD (.ct ρ) ds → D.ct ys σ H
def tGD (K : PySem.W.Frag) (S : Fr) (f : GFd) : TGn := fun D ys σ H => ∃ B O ρ n ds DD r ds', RepS K S B O H σ ρ n ∧ DxAll K B ys ds ∧ f ds ρ = some (r, ds') ∧ (∀ d, r ≠ .rt d) ∧ DD r ds' ∧ Ends3 K S DD D
structure GZ (X : Cx) (S : Fr) (st : Stmt) (f : GFd) : Prop where
  gs : GS X st (tGD X.K S f)
structure GZs (X : Cx) (S : Fr) (st : List Stmt) (f : GFd) : Prop where
  gss : GSs X st (tGD X.K S f)
section
variable {X : Cx} {S : Fr} {st : Stmt} {rest : List Stmt} {f g : GFd} {pos : Pos}
/-- a statement that hands out nothing -/
def gPlain (f : SF) : GFd := fun ds ρ => (f ρ).map fun r => (r, ds)
def gNil : GFd := fun ds ρ => some (.nx ρ, ds)
def gSeq (f g : GFd) : GFd := fun ds ρ => (f ds ρ).bind fun x => match x with
  | (.nx ρ', ds') => g ds' ρ'
  | (.rt d, ds') => some (.rt d, ds')
  | (.bk ρ', ds') => some (.bk ρ', ds')
  | (.ct ρ', ds') => some (.ct ρ', ds')
theorem gzs_cons (h1 : GZ X S st f) (h2 : GZs X S rest g) : GZs X S (st :: rest) (gSeq f g) := ⟨(gss_cons h1.gs h2.gss).imp fun D ys σ H ⟨B, O, ρ, n, ds, DD, r, ds', R, dx, e, no, w, E⟩ => by
  obtain ⟨⟨r1, ds1⟩, e1, e2⟩ := Option.bind_eq_some_iff.mp e
  have k : ∀ d, r1 ≠ .rt d := fun d z => by
    subst z
    cases e2
    exact no d rfl
  refine ⟨B, O, ρ, n, ds, fun x es => match x with | .nx ρ' => g es ρ' = some (r, ds') | x => DD x es, r1, ds1, R, dx, e1, k, ?_, ⟨fun B' O' σ' H' ρ' n' ys' es r' dx' z => ⟨B', O', ρ', n', es, DD, r, ds', r', dx', z, no, w, E⟩, E.bk, E.ct⟩⟩
  cases r1 with
  | nx ρ' => exact e2
  | rt d => exact absurd rfl (k d)
  | bk ρ' => cases e2; exact w
  | ct ρ' => cases e2; exact w⟩
def gYield (f : DF) : GFd := fun ds ρ => (f ρ).bind fun d => if ds.length < lim then some (.nx ρ, ds ++ [d]) else none
def gWhile (t : Dn → Option Bool) (f : GFd) : Nat → GFd
  | 0, _, _ => none
  | m + 1, ds, ρ => (t ρ).bind fun b => if b = true then (f ds ρ).bind fun x => match x with
    | (.nx ρ', ds') => gWhile t f m ds' ρ'
    | (.ct ρ', ds') => gWhile t f m ds' ρ'
    | (.bk ρ', ds') => some (.nx ρ', ds')
    | (.rt d, ds') => some (.rt d, ds') else some (.nx ρ, ds)
end
section
variable {X : Cx} {S : Fr}
/-- a, b = l.pop(), l a list of one's own -/
def dUnpX (i j : Nat) (T : TXP) : TD := fun DD ρ n => T ρ n fun d ρ1 n1 => ∃ x y, d = .tuple [x, y] ∧ DD.nx ((ρ1.set i (.dat x)).set j (.dat y)) n1
theorem pd_unpX (ok : S.Ok) {i j : Nat} {x y : Str} {a : Expr} {T : TXP} {px py pt pos : Pos} {kt} (hc : X.calm = true) (hN : X.N.Nodup) (hi : X.N[i]? = some x) (hj : X.N[j]? = some y)
    (hx : Loc X.env.scope x) (hy : Loc X.env.scope y) (ha : PX X S a T)
    (hw : swappedStores [.Tuple [.Name x px, .Name y py] kt pt] a X.env = pure none := by rfl)
    (hs : swapsWithSole [.Tuple [.Name x px, .Name y py] kt pt] a pos.line X.env = pure false := by rfl)
    (h1 : (assignEach [.Tuple [.Name x px, .Name y py] kt pt] X.env).map (·.2) = [assign (.Tuple [.Name x px, .Name y py] kt pt) X.env] := by rfl)
    (hfx : X.fn x = true ∨ X.env.scope.names.lookup x = some .local := by first | exact .inl rfl | exact .inr rfl | assumption) (hfy : X.fn y = true ∨ X.env.scope.names.lookup y = some .local := by first | exact .inl rfl | exact .inr rfl | assumption)
    (e1 : (assignEach [.Name x px, .Name y py] X.env).map (·.2) = assign (.Name x px) X.env :: (assignEach [.Name y py] X.env).map (·.2) := by rfl) (e2 : (assignEach [.Name y py] X.env).map (·.2) = assign (.Name y py) X.env :: (assignEach [] X.env).map (·.2) := by rfl)
    (hn : (assignEach [.Name x px, .Name y py] X.env).length = 2 := by rfl) (hst : (assignEach [.Name x px, .Name y py] X.env).findIdx? (·.1) = none := by rfl) :
    PD X S (.Assign [.Tuple [.Name x px, .Name y py] kt pt] a pos) (dUnpX i j T) := ⟨(ps_asg ha.pe (pg_tup hc (pgs_cons (pg_name hN hi hx hfx) (pgs_cons (pg_name hN hj hy hfy) pgs_nil e2) e1) hn hst) hs hw h1).imp fun D σ H ⟨B, O, ρ, n, DD, r, t, E⟩ =>
  ⟨B, O, ρ, n, r, ha.mono _ _ _ _ (fun d ρ1 n1 ⟨x, y, ed, t⟩ v H' r1 dx => by
    subst ed
    cases dx with
    | tup ht h =>
      cases h with
      | cons h1 h2 =>
        cases h2 with
        | cons h2 h3 =>
          cases h3
          exact ⟨_, _, rfl, sqT_same (fz_sub O H') ht, rfl, _, _, rfl, _, [], rfl, rfl, E.nx O _ _ _ n1 ((r1.set (e := .dat x) ⟨_, rfl, h1⟩ notOwn_dat i).set (e := .dat y) ⟨_, rfl, h2⟩ notOwn_dat j) t⟩) t⟩⟩
def sPopU (i j l : Nat) : SF := fun ρ => (getO l ρ).bind fun ds => (ds.getLast?).bind fun d => match d with
  | .tuple [x, y] => some (.nx (((ρ.set l (.own ds.dropLast)).set i (.dat x)).set j (.dat y)))
  | _ => none
theorem pz_of_popU {st : Stmt} {i j l : Nat} (h : PD X S st (dUnpX i j (xPop l))) : PZ X S st (sPopU i j l) := ⟨h.imp fun DD ρ n ⟨r, e, w⟩ => by
  obtain ⟨ds, e1, e⟩ := Option.bind_eq_some_iff.mp e
  obtain ⟨d, e2, e⟩ := Option.bind_eq_some_iff.mp e
  match d, e2, e with
  | .tuple [x, y], e2, e =>
    cases e
    refine ⟨ds.dropLast, .tuple [x, y], ?_, x, y, rfl, w⟩
    rw [e1]
    congr 1
    obtain ⟨hn, hl⟩ := List.getLast?_eq_some_iff.mp e2
    rw [hl, List.dropLast_concat]⟩
end
/-! ### a generator def, and list(g) -/
def semG (N : Nat) (f : GFd) : List PyData → Option (List PyData) := fun ds => (f [] (startD N ds)).bind fun x => match x with
  | (.nx _, out) => some out
  | _ => none
section
variable {P : Program} {w : World} {K : PySem.W.Frag} {mg : Str → Option Value} {base : Heap}
end
section
variable {X : Cx} {k n : Nat} {f : Addr} {fd : FuncData} {ps : List Str} {sem : List PyData → Option (List PyData)} {x nm : Str} {p p2 pos pos' : Pos} {e : Expr} {es : List Expr} {fa : Dn → Option (List PyData)}
end
end DS
set_option maxHeartbeats 4000000
namespace DS
open PySem PySem.Spec PyProof.Rows L2
def zM_counts_within : SF := (sSeq (sOwn 3 (repL (consA (cD (.int 0)) nilA) (callA lenD (consA (getD 0) nilA))))
  (sSeq (sIf (tstF (bin2 gEq (callA lenD (consA (getD 1) nilA)) (cD (.int 1)))) (sSeq (sPutO 3 (bin2 ixD (getD 1) (cD (.int 0))) (cD (.int 1)))
  (fun ρ => (sRet (callA toTup (consA (getD 3) nilA))) (frzD 3 ρ))) sNil)
  (sSeq (sFor (enumI (getD 1)) (setT [4, 5])
  (sFor (enumI (dgetF (datC true (getD 2)) (stK (bin2 gAdd (sliceF (getT 1) noP (someP (getD 4))) (sliceF (getT 1) (someP (bin2 gAdd (getD 4) (cD (.int 1)))) noP))))) (setT [6, 7])
  (sAugI 3 (ifF (tstF (callU 3 sem_beats (consA (getD 0) (consA (getD 5) (consA (getD 6) nilA))))) (getD 5) (getD 6)) (getD 7))))
  (fun ρ => (sRet (callA toTup (consA (getD 3) nilA))) (frzD 3 ρ)))))
def semM_counts_within : List PyData → Option PyData := semM (fun i => decide (i = 1)) 8 zM_counts_within
theorem mk_counts_within : ∀ i : Nat, (fun i : Nat => decide (i = 1)) i = true → ([false, true, false] : List Bool)[i]? = some true := fun i h => by
  have e : i = 1 := by simpa using h
  subst e
  rfl
def z_sequence_counts : SF := (sSeq (sSetN 1 dctN)
  (sSeq (sFor (seqI (sortLenTF (callU 1 semS_all_sets (consA (getD 0) nilA)))) (setS 2)
  (sIf (tstF (bin2 (gI fun i j => .bool (decide (j < i))) (callA lenD (consA (getD 2) nilA)) (cD (.int 0)))) (sPutC 1 (stK (getT 2)) (lntT 1 (callU 3 semM_counts_within (consA (getD 0) (consA (getT 2) (consA (getD 1) nilA)))))) sNil))
  (sRet (dgetF (getC 1) (stK (tupI (rng1I (callA lenD (consA (getD 0) nilA)))))))))
def sem_sequence_counts : List PyData → Option PyData := semZ 3 z_sequence_counts
def z_number_of_orders : SF := (sSeq (sSet 1 (cD (.int 1)))
  (sSeq (sFor (rng2I (cD (.int 2)) (bin2 gAdd (getD 0) (cD (.int 1)))) (setN 2)
  (sAugO cMul (fun a b => a * b) 1 (getD 2)))
  (sRet (getD 1))))
def sem_number_of_orders : List PyData → Option PyData := semZ 3 z_number_of_orders
def z_careful_counts : SF := (sSeq (sOwn 1 (repL (consA (cD (.int 0)) nilA) (callA lenD (consA (getD 0) nilA))))
  (sSeq (sOwn 2 (limA (consA (tupF (consA (tupI (rng1I (callA lenD (consA (getD 0) nilA)))) (consA (callU 1 sem_number_of_orders (consA (callA lenD (consA (getD 0) nilA)) nilA)) nilA))) nilA)))
  (sSeq (sWhile 1000000 (ownT 2)
  (sSeq (sPopU 3 4 2)
  (sSeq (sSet 5 (bin2 (gIC cDiv fun i j => .int (i / j)) (getD 4) (callA lenD (consA (getD 3) nilA))))
  (sFor (seqI (getD 3)) (setN 6)
  (sSeq (sSet 7 (callA toTup (consA (lstI (lcL (seqI (getD 3)) (setN 8) (tstF (callU 3 sem_beats (consA (getD 0) (consA (getD 8) (consA (getD 6) nilA))))) (getD 8) [8])) nilA)))
  (sIf (tstF (bin2 gEq (callA lenD (consA (getD 7) nilA)) (cD (.int 0)))) (sAugI 1 (getD 6) (getD 5)) (sApp 2 (tupF (consA (getD 7) (consA (getD 5) nilA))))))))))
  (fun ρ => (sRet (callA toTup (consA (getD 1) nilA))) (frzD 1 ρ)))))
def sem_careful_counts : List PyData → Option PyData := semZ 9 z_careful_counts
end DS
/-! what runs without waking the generators that sleep leaves them as they are -/
namespace DS
open PySem
open Sem (wp)
/-- a frame that is no generator's, at the same place -/
def calmF : Frame → Frame
  | .gen _ _ _ c p => .ret (fun _ => .unsupported "") none false [] c p []
  | f => f
/-- a sleeper that can't be woken -/
def stun : GenState → GenState
  | .suspended _ _ c p fs cl => .suspended (fun _ => .unsupported "") [] c p (fs.map calmF) cl
  | y => y
theorem stun_seen (y : GenState) : (stun y).seen = y.seen := by
  cases y with
  | suspended k l c p fs cl =>
    have e : (fs.map calmF).map Frame.where_ = fs.map Frame.where_ := by
      rw [List.map_map]
      refine List.map_congr_left fun f _ => ?_
      cases f <;> rfl
    show (GenStatus.suspended, some ((c, p) :: (fs.map calmF).map Frame.where_)) = _
    rw [e]
    rfl
  | _ => rfl
theorem stun_bare (y : GenState) : (stun y).bare = y.bare := by cases y <;> rfl
def sleeps : GenState → Prop
  | .suspended .. => True
  | .running => True
  | _ => False
theorem stun_not {y : GenState} (h : ¬ sleeps y) : stun y = y := by
  cases y with
  | suspended => exact absurd trivial h
  | _ => rfl
theorem sleeps_stun {y : GenState} (h : sleeps y) : (∃ l c p fs cl, stun y = .suspended (fun _ => .unsupported "") l c p fs cl) ∨ y = .running := by
  cases y with
  | suspended k l c p fs cl => exact .inl ⟨_, _, _, _, _, rfl⟩
  | running => exact .inr rfl
  | _ => exact h.elim
theorem stun_run {y : GenState} (h : stun y = .running) : y = .running := by
  cases y with
  | running => rfl
  | _ => cases h
/-- no generator's frame within -/
def plainG : GenState → Prop
  | .suspended _ _ _ _ fs _ => splitAtGen fs = none
  | _ => True
def plainE : End → Prop
  | .susp _ _ _ _ _ _ fs => splitAtGen fs = none
  | _ => True
theorem plainE_gen {e : End} (h : plainE e) : plainG e.genState := by cases e <;> exact h
theorem split_app {a b : List Frame} (ha : splitAtGen a = none) (hb : splitAtGen b = none) : splitAtGen (a ++ b) = none := by
  induction a with
  | nil => exact hb
  | cons f a ih =>
    cases f with
    | gen => cases ha
    | ret k h g l c p kp =>
      have h2 : splitAtGen a = none := by
        have : (splitAtGen a).map _ = none := ha
        exact Option.map_eq_none_iff.mp this
      show (splitAtGen (a ++ b)).map _ = none
      rw [ih h2]
      rfl
theorem split_tl {f : Frame} {fs : List Frame} (h : splitAtGen (f :: fs) = none) : splitAtGen fs = none := by
  cases f with
  | gen => cases h
  | ret k h' g l c p kp => exact Option.map_eq_none_iff.mp (show (splitAtGen fs).map _ = none from h)
theorem runs_stuck {M : Model} {Γ : Ctx} {p : Pos} {w : String} {s s' : Shared} {e : End} : ∀ {fs : List Frame}, ¬ Runs M Γ p (.unsupported w) fs s e s' := fun {fs} h => by
  generalize ht : (Sem.unsupported w : Sem PySem.Fin) = t at h
  induction h <;> first | (cases ht; done) | (rename_i ih; exact ih ht) | (rename_i ih _; exact ih ht) | (rename_i ih _ _; exact ih ht) | (rename_i ih1 ih2; exact ih1 ht)
/-- z: who stood there at first; s0: the same state with the sleepers of z stunned -/
structure Sim (z : Array GenState) (s0 s : Shared) : Prop where
  heap : s0.heap = s.heap
  drawn : s0.drawn = s.drawn
  toks : s0.toks = s.toks
  os : s0.os = s.os
  size : s0.gens.size = s.gens.size
  more : z.size ≤ s.gens.size
  old : ∀ (i : Nat) (y : GenState), z[i]? = some y → sleeps y → s.gens[i]? = some y ∧ s0.gens[i]? = some (stun y)
  new : ∀ (i : Nat), (∀ y, z[i]? = some y → ¬ sleeps y) → s0.gens[i]? = s.gens[i]? ∧ ∀ y, s.gens[i]? = some y → plainG y
theorem Sim.start (s : Shared) : Sim s.gens { s with gens := s.gens.map stun } s := by
  refine ⟨rfl, rfl, rfl, rfl, by simp, Nat.le_refl _, fun i y h k => ⟨h, by simp [h]⟩, fun i h => ⟨?_, fun y e => ?_⟩⟩
  · show (s.gens.map stun)[i]? = _
    rw [Array.getElem?_map]
    cases e : s.gens[i]? with
    | none => rfl
    | some y => rw [Option.map_some, stun_not (h y e)]
  · have := h y e
    cases y with
    | suspended => exact absurd trivial this
    | _ => trivial
theorem Sim.setGen {z : Array GenState} {s0 s : Shared} (h : Sim z s0 s) {g : Nat} {x : GenState} (hg : ∀ y, z[g]? = some y → ¬ sleeps y) (hx : plainG x) : Sim z (s0.setGen g x) (s.setGen g x) := by
  have at_ : ∀ (a : Array GenState) (i : Nat), (a.setIfInBounds g x)[i]? = if g = i then (if g < a.size then some x else none) else a[i]? := fun a i => by
    rw [Array.getElem?_setIfInBounds]
  refine ⟨h.heap, h.drawn, h.toks, h.os, by show (s0.gens.setIfInBounds g x).size = (s.gens.setIfInBounds g x).size; simp [h.size], by show z.size ≤ (s.gens.setIfInBounds g x).size; simp [h.more], fun i y e k => ?_, fun i e => ?_⟩
  · have ne : g ≠ i := fun w => by subst w; exact hg y e k
    show (s.gens.setIfInBounds g x)[i]? = _ ∧ (s0.gens.setIfInBounds g x)[i]? = _
    rw [at_, at_, if_neg ne, if_neg ne]
    exact h.old i y e k
  · show (s0.gens.setIfInBounds g x)[i]? = (s.gens.setIfInBounds g x)[i]? ∧ ∀ y, (s.gens.setIfInBounds g x)[i]? = some y → plainG y
    rw [at_, at_]
    by_cases w : g = i
    · rw [if_pos w, if_pos w, h.size]
      refine ⟨rfl, fun y q => ?_⟩
      split at q
      · cases q; exact hx
      · cases q
    · rw [if_neg w, if_neg w]
      exact h.new i e
theorem Sim.push {z : Array GenState} {s0 s : Shared} (h : Sim z s0 s) (c : Code) : Sim z { s0 with gens := s0.gens.push (.fresh c) } { s with gens := s.gens.push (.fresh c) } := by
  refine ⟨h.heap, h.drawn, h.toks, h.os, by simp [h.size], by have := h.more; simp; omega, fun i y e k => ?_, fun i e => ?_⟩
  · obtain ⟨h1, h2⟩ := h.old i y e k
    show (s.gens.push _)[i]? = _ ∧ (s0.gens.push _)[i]? = _
    rw [Array.getElem?_push, Array.getElem?_push]
    have l1 := (Array.getElem?_eq_some_iff.mp h1).1
    have l2 := (Array.getElem?_eq_some_iff.mp h2).1
    rw [if_neg (by omega), if_neg (by omega)]
    exact ⟨h1, h2⟩
  · obtain ⟨h1, h2⟩ := h.new i e
    show (s0.gens.push _)[i]? = (s.gens.push _)[i]? ∧ ∀ y, (s.gens.push _)[i]? = some y → plainG y
    rw [Array.getElem?_push, Array.getElem?_push, h.size]
    split
    · exact ⟨rfl, fun y q => by cases q; trivial⟩
    · exact ⟨h1, h2⟩
/-- one who stands there is the same, or is an old sleeper -/
theorem Sim.at {z : Array GenState} {s0 s : Shared} (h : Sim z s0 s) {g : Nat} {y0 : GenState} (e : s0.gens[g]? = some y0) : (∃ y, sleeps y ∧ s.gens[g]? = some y ∧ y0 = stun y) ∨ (s.gens[g]? = some y0 ∧ plainG y0 ∧ ∀ y, z[g]? = some y → ¬ sleeps y) := by
  cases q : z[g]? with
  | none =>
    have k : ∀ y, z[g]? = some y → ¬ sleeps y := fun y w => by rw [q] at w; cases w
    obtain ⟨h1, h2⟩ := h.new g k
    rw [e] at h1
    exact .inr ⟨h1.symm, h2 _ h1.symm, fun y w => by cases w⟩
  | some y =>
    by_cases sl : sleeps y
    · obtain ⟨h1, h2⟩ := h.old g y q sl
      rw [e] at h2
      cases h2
      exact .inl ⟨y, sl, h1, rfl⟩
    · have k : ∀ y', z[g]? = some y' → ¬ sleeps y' := fun y' w => by rw [q] at w; cases w; exact sl
      obtain ⟨h1, h2⟩ := h.new g k
      rw [e] at h1
      exact .inr ⟨h1.symm, h2 _ h1.symm, fun y' w => by cases w; exact sl⟩
theorem Sim.awake {z : Array GenState} {s0 s : Shared} (h : Sim z s0 s) {g : Nat} {y0 : GenState} (e : s0.gens[g]? = some y0) (n : ¬ sleeps y0) : s.gens[g]? = some y0 ∧ ∀ y, z[g]? = some y → ¬ sleeps y := by
  rcases h.at e with ⟨y, sl, _, ey⟩ | ⟨h1, _, h3⟩
  · rcases sleeps_stun sl with ⟨l, c, p, fs, cl, q⟩ | q
    · rw [ey, q] at n
      exact absurd trivial n
    · rw [ey, q] at n
      exact absurd trivial n
  · exact ⟨h1, h3⟩
theorem Sim.runs {z : Array GenState} {s0 s : Shared} (h : Sim z s0 s) {g : Nat} (e : s0.gens[g]? = some .running) : s.gens[g]? = some .running := by
  rcases h.at e with ⟨y, sl, h1, ey⟩ | ⟨h1, _, _⟩
  · rw [stun_run ey.symm] at h1
    exact h1
  · exact h1
theorem Sim.hp {z : Array GenState} {s0 s : Shared} (h : Sim z s0 s) {h1 h2 : Heap} (e : h1 = h2) : Sim z { s0 with heap := h1 } { s with heap := h2 } := ⟨e, h.drawn, h.toks, h.os, h.size, h.more, h.old, h.new⟩
theorem Sim.tk {z : Array GenState} {s0 s : Shared} (h : Sim z s0 s) {a b : Nat} (e : a = b) : Sim z { s0 with toks := a } { s with toks := b } := ⟨h.heap, h.drawn, e, h.os, h.size, h.more, h.old, h.new⟩
theorem Sim.dr {z : Array GenState} {s0 s : Shared} (h : Sim z s0 s) {a b : Drawn} (e : a = b) : Sim z { s0 with drawn := a } { s with drawn := b } := ⟨h.heap, e, h.toks, h.os, h.size, h.more, h.old, h.new⟩
theorem Sim.sy {z : Array GenState} {s0 s : Shared} (h : Sim z s0 s) {a b : OsState} (e : a = b) : Sim z { s0 with os := a } { s with os := b } := ⟨h.heap, h.drawn, h.toks, e, h.size, h.more, h.old, h.new⟩
theorem runs_sim {M : Model} {Γ : Ctx} {p : Pos} {t : Sem PySem.Fin} {fs : List Frame} {s0 s0' : Shared} {e : End} (h : Runs M Γ p t fs s0 e s0') : ∀ {z : Array GenState} {s : Shared}, Sim z s0 s → splitAtGen fs = none → ∃ s', Runs M Γ p t fs s e s' ∧ Sim z s0' s' ∧ plainE e := by
  induction h with
  | done => intro z s S n; exact ⟨s, .done, S, trivial⟩
  | raise => intro z s S n; exact ⟨s, .raise, S, trivial⟩
  | again hq _ ih => intro z s S n; obtain ⟨s', a, b, c⟩ := ih S n; exact ⟨s', .again hq a, b, c⟩
  | rule _ ih => intro z s S n; obtain ⟨s', a, b, c⟩ := ih S n; exact ⟨s', .rule a, b, c⟩
  | «at» _ ih => intro z s S n; obtain ⟨s', a, b, c⟩ := ih S n; exact ⟨s', .at a, b, c⟩
  | load ho _ ih => intro z s S n; obtain ⟨s', a, b, c⟩ := ih S n; exact ⟨s', .load (by rw [← S.heap]; exact ho) a, b, c⟩
  | update ho _ ih =>
    intro z s S n
    obtain ⟨s', a, b, c⟩ := ih (S.hp (congrArg (fun h => Heap.update h _ _) S.heap)) n
    exact ⟨s', .update (by rw [← S.heap]; exact ho) a, b, c⟩
  | loadIfAlive _ ih => intro z s S n; obtain ⟨s', a, b, c⟩ := ih S n; rw [S.heap] at a; exact ⟨s', .loadIfAlive a, b, c⟩
  | point _ ih => intro z s S n; obtain ⟨s', a, b, c⟩ := ih S n; exact ⟨s', .point a, b, c⟩
  | alloc _ ih =>
    intro z s S n
    obtain ⟨s', a, b, c⟩ := ih (S.hp (congrArg (fun h => Heap.push h _) S.heap)) n
    rw [S.heap] at a
    exact ⟨s', .alloc a, b, c⟩
  | fresh _ ih =>
    intro z s S n
    obtain ⟨s', a, b, c⟩ := ih (S.tk (congrArg (· + 1) S.toks)) n
    rw [S.toks] at a
    exact ⟨s', .fresh a, b, c⟩
  | ask _ ih => intro z s S n; obtain ⟨s', a, b, c⟩ := ih S n; exact ⟨s', .ask a, b, c⟩
  | choose hn _ ih =>
    intro z s S n
    obtain ⟨s', a, b, c⟩ := ih (S.dr (congrArg (fun d => Drawn.bump d _) S.drawn)) n
    rw [S.drawn] at a
    exact ⟨s', .choose hn a, b, c⟩
  | os _ ih =>
    intro z s S n
    obtain ⟨s', a, b, c⟩ := ih (S.sy (congrArg (fun o => (Os.step o _).1) S.os)) n
    rw [S.os] at a
    exact ⟨s', .os a, b, c⟩
  | handled _ ih => intro z s S n; obtain ⟨s', a, b, c⟩ := ih S n; exact ⟨s', .handled a, b, c⟩
  | genState hg _ ih =>
    intro z s S n
    obtain ⟨s', a, b, c⟩ := ih S n
    rcases S.at hg with ⟨y, _, h1, rfl⟩ | ⟨h1, _⟩
    · exact ⟨s', .genState h1 (by rw [← stun_seen]; exact a), b, c⟩
    · exact ⟨s', .genState h1 a, b, c⟩
  | stack _ ih => intro z s S n; obtain ⟨s', a, b, c⟩ := ih S n; exact ⟨s', .stack a, b, c⟩
  | thread _ ih => intro z s S n; obtain ⟨s', a, b, c⟩ := ih S n; exact ⟨s', .thread a, b, c⟩
  | newGen _ ih =>
    intro z s S n
    obtain ⟨s', a, b, c⟩ := ih (S.push _) n
    rw [S.size] at a
    exact ⟨s', .newGen a, b, c⟩
  | call _ _ ih1 ih2 =>
    intro z s S n
    obtain ⟨s1, a1, b1, _⟩ := ih1 S rfl
    obtain ⟨s', a, b, c⟩ := ih2 b1 n
    exact ⟨s', .call a1 a, b, c⟩
  | callSusp _ ih =>
    intro z s S n
    obtain ⟨s1, a1, b1, c1⟩ := ih S rfl
    exact ⟨s1, .callSusp a1, b1, split_app c1 rfl⟩
  | «yield» => intro z s S n; exact ⟨s, .yield, S, rfl⟩
  | resumeFresh hg _ hq _ ih1 ih2 =>
    intro z s S n
    obtain ⟨h1, h2⟩ := S.awake hg (fun z => z)
    obtain ⟨s1, a1, b1, c1⟩ := ih1 (S.setGen h2 trivial) rfl
    obtain ⟨s', a, b, c⟩ := ih2 (b1.setGen h2 (plainE_gen c1)) n
    exact ⟨s', .resumeFresh h1 a1 hq a, b, c⟩
  | resumeSuspended hg hr hq _ ih1 ih2 =>
    intro z s S n
    rcases S.at hg with ⟨y, sl, h1, ey⟩ | ⟨h1, pl, h2⟩
    · rcases sleeps_stun sl with ⟨l, c, p, fs, cl, q⟩ | q
      · rw [q] at ey
        cases ey
        exact absurd hr runs_stuck
      · rw [q] at ey
        cases ey
    · obtain ⟨s1, a1, b1, c1⟩ := ih1 (S.setGen h2 trivial) pl
      obtain ⟨s', a, b, c⟩ := ih2 (b1.setGen h2 (plainE_gen c1)) n
      exact ⟨s', .resumeSuspended h1 a1 hq a, b, c⟩
  | resumeJustStarted hg hv _ ih => intro z s S n; obtain ⟨h1, _⟩ := S.awake hg (fun z => z); obtain ⟨s', a, b, c⟩ := ih S n; exact ⟨s', .resumeJustStarted h1 hv a, b, c⟩
  | resumeThrowFresh hg _ ih => intro z s S n; obtain ⟨h1, h2⟩ := S.awake hg (fun z => z); obtain ⟨s', a, b, c⟩ := ih (S.setGen h2 trivial) n; exact ⟨s', .resumeThrowFresh h1 a, b, c⟩
  | resumeRunning hg _ ih => intro z s S n; have h1 := S.runs hg; obtain ⟨s', a, b, c⟩ := ih S n; exact ⟨s', .resumeRunning h1 a, b, c⟩
  | resumeFinished hg _ ih => intro z s S n; obtain ⟨h1, _⟩ := S.awake hg (fun z => z); obtain ⟨s', a, b, c⟩ := ih S n; exact ⟨s', .resumeFinished h1 a, b, c⟩
  | segRet _ _ ih1 ih2 =>
    intro z s S n
    obtain ⟨s1, a1, b1, _⟩ := ih1 S rfl
    obtain ⟨s', a, b, c⟩ := ih2 b1 (split_tl n)
    exact ⟨s', .segRet a1 a, b, c⟩
  | segGen _ _ _ _ => intro z s S n; cases n
  | segSuspOut hs _ ih =>
    intro z s S n
    obtain ⟨s1, a1, b1, c1⟩ := ih S rfl
    exact ⟨s1, .segSuspOut hs a1, b1, split_app c1 n⟩
  | segSuspGen hs _ _ _ _ _ => intro z s S n; rw [hs] at n; cases n
theorem wakes_sim {M : Model} {Γ : Ctx} {p : Pos} {g : Nat} {r : Resume} {s0 s0' : Shared} {res : GenResult} (h : Wakes M Γ p g r s0 res s0') {z : Array GenState} {s : Shared} (S : Sim z s0 s) : ∃ s', Wakes M Γ p g r s res s' ∧ Sim z s0' s' := by
  cases e : s0.gens[g]? with
  | none => unfold Wakes at h; rw [e] at h; exact h.elim
  | some y0 =>
    rcases S.at e with ⟨y, sl, h1, ey⟩ | ⟨h1, pl, h2⟩
    · rcases sleeps_stun sl with ⟨l, c, p, fs, cl, q⟩ | q
      · exfalso
        unfold Wakes at h
        rw [e, ey, q] at h
        obtain ⟨_, _, hr, _⟩ := h
        exact runs_stuck hr
      · subst q
        unfold Wakes at h ⊢
        rw [e, ey] at h
        rw [h1]
        exact ⟨s, ⟨h.1, rfl⟩, by rw [h.2]; exact S⟩
    · unfold Wakes at h ⊢
      rw [e] at h
      rw [h1]
      cases y0 with
      | fresh c =>
        match r, h with
        | .send .none, h =>
          obtain ⟨e1, s1, hr, hq, h3, h4⟩ := h
          obtain ⟨s', a, b, c⟩ := runs_sim hr (S.setGen h2 trivial) rfl
          exact ⟨_, ⟨e1, s', a, hq, h3, rfl⟩, by rw [h4]; exact b.setGen h2 (plainE_gen c)⟩
        | .throw x, h =>
          obtain ⟨h3, h4⟩ := h
          exact ⟨_, ⟨h3, rfl⟩, by rw [h4]; exact S.setGen h2 trivial⟩
        | .send v, h =>
          cases v with
          | none =>
            obtain ⟨e1, s1, hr, hq, h3, h4⟩ := h
            obtain ⟨s', a, b, c⟩ := runs_sim hr (S.setGen h2 trivial) rfl
            exact ⟨_, ⟨e1, s', a, hq, h3, rfl⟩, by rw [h4]; exact b.setGen h2 (plainE_gen c)⟩
          | _ =>
            obtain ⟨h3, h4⟩ := h
            exact ⟨s, ⟨h3, rfl⟩, by rw [h4]; exact S⟩
      | suspended k l c p fs cl =>
        obtain ⟨e1, s1, hr, hq, h3, h4⟩ := h
        obtain ⟨s', a, b, c⟩ := runs_sim hr (S.setGen h2 trivial) pl
        exact ⟨_, ⟨e1, s', a, hq, h3, rfl⟩, by rw [h4]; exact b.setGen h2 (plainE_gen c)⟩
      | running => obtain ⟨h3, h4⟩ := h; exact ⟨s, ⟨h3, rfl⟩, by rw [h4]; exact S⟩
      | finished => obtain ⟨h3, h4⟩ := h; exact ⟨s, ⟨h3, rfl⟩, by rw [h4]; exact S⟩
theorem wp_sim {α : Type} (M : Model) (Γ : Ctx) (t : Sem α) : ∀ (Q : α → Pos → Shared → Prop) (E : Value → Pos → Shared → Prop) (p : Pos) (s0 s : Shared) (z : Array GenState), Sim z s0 s → wp M Γ t Q E p s0 →
    wp M Γ t (fun a p' s' => ∃ s0', Sim z s0' s' ∧ Q a p' s0') (fun e p' s' => ∃ s0', Sim z s0' s' ∧ E e p' s0') p s := by
  induction t with
  | pure a => intro Q E p s0 s z S h; exact ⟨s0, S, h⟩
  | raise e => intro Q E p s0 s z S h; exact ⟨s0, S, h⟩
  | unsupported _ => intro Q E p s0 s z S h; exact h
  | finish _ => intro Q E p s0 s z S h; exact h
  | rule _ k ih => intro Q E p s0 s z S h; exact ih () Q E p s0 s z S h
  | «at» p' k ih => intro Q E p s0 s z S h; exact ih () Q E p' s0 s z S h
  | load a _ k ih => intro Q E p s0 s z S h; obtain ⟨o, ho, h⟩ := h; exact ⟨o, by rw [← S.heap]; exact ho, ih o Q E p s0 s z S h⟩
  | update a _ f k ih =>
    intro Q E p s0 s z S h
    exact ⟨by rw [← S.heap]; exact h.1, ih () Q E p _ _ z (S.hp (congrArg (fun h => Heap.update h a f) S.heap)) h.2⟩
  | loadIfAlive a k ih =>
    intro Q E p s0 s z S h
    have h' := ih _ Q E p s0 s z S h
    rw [S.heap] at h'
    exact h'
  | point _ k ih => intro Q E p s0 s z S h; exact ih () Q E p s0 s z S h
  | register _ _ => intro Q E p s0 s z S h; exact h
  | alloc o k ih =>
    intro Q E p s0 s z S h
    have h' := ih _ Q E p _ _ z (S.hp (congrArg (fun h => Heap.push h o) S.heap)) (show wp M Γ (k s0.heap.objs.size) Q E p { s0 with heap := s0.heap.push o } from h)
    rw [S.heap] at h'
    exact h'
  | fresh k ih =>
    intro Q E p s0 s z S h
    have h' := ih _ Q E p _ _ z (S.tk (congrArg (· + 1) S.toks)) (show wp M Γ (k s0.toks) Q E p { s0 with toks := s0.toks + 1 } from h)
    rw [S.toks] at h'
    exact h'
  | ask k ih => intro Q E p s0 s z S h; exact ih _ Q E p s0 s z S h
  | choose src m k ih =>
    intro Q E p s0 s z S h
    refine ⟨h.1, ?_⟩
    have h' := ih _ Q E p _ _ z (S.dr (congrArg (fun d => Drawn.bump d src) S.drawn)) h.2
    rw [S.drawn] at h'
    exact h'
  | os q _ k ih =>
    intro Q E p s0 s z S h
    have h' := ih _ Q E p _ _ z (S.sy (congrArg (fun o => (Os.step o q).1) S.os)) (show wp M Γ (k (Os.step s0.os q).2) Q E p { s0 with os := (Os.step s0.os q).1 } from h)
    rw [S.os] at h'
    exact h'
  | call c hd _ _ k ih =>
    intro Q E p s0 s z S h
    obtain ⟨r, s1, hr, h⟩ := h
    obtain ⟨s', a, b, _⟩ := runs_sim hr S rfl
    exact ⟨r, s', a, ih r Q E p s1 s' z b h⟩
  | handled own k ih => intro Q E p s0 s z S h; exact ih _ Q E p s0 s z S h
  | genState g k ih =>
    intro Q E p s0 s z S h
    obtain ⟨st, hs, h⟩ := h
    rcases S.at hs with ⟨y, _, h1, rfl⟩ | ⟨h1, _⟩
    · refine ⟨y, h1, ?_⟩
      rw [← stun_seen]
      exact ih _ Q E p s0 s z S h
    · exact ⟨st, h1, ih _ Q E p s0 s z S h⟩
  | newGen c k ih =>
    intro Q E p s0 s z S h
    have h' := ih _ Q E p _ _ z (S.push c) (show wp M Γ (k s0.gens.size) Q E p { s0 with gens := s0.gens.push (.fresh c) } from h)
    rw [S.size] at h'
    exact h'
  | resume g r _ k ih =>
    intro Q E p s0 s z S h
    obtain ⟨res, s1, hw, h⟩ := h
    obtain ⟨s', a, b⟩ := wakes_sim hw S
    exact ⟨res, s', a, ih res Q E p s1 s' z b h⟩
  | «yield» _ _ _ _ => intro Q E p s0 s z S h; exact h
  | stack k ih => intro Q E p s0 s z S h; exact ih _ Q E p s0 s z S h
  | fork _ _ => intro Q E p s0 s z S h; exact h
  | thread k ih => intro Q E p s0 s z S h; exact ih _ Q E p s0 s z S h
  | await _ _ _ _ _ => intro Q E p s0 s z S h; exact h
/-- who slept sleeps on, as before -/
structure KG (s s' : Shared) : Prop where
  size : s.gens.size ≤ s'.gens.size
  old : ∀ (i : Nat) (y : GenState), s.gens[i]? = some y → sleeps y → s'.gens[i]? = some y
theorem KG.refl (s : Shared) : KG s s := ⟨Nat.le_refl _, fun _ _ h _ => h⟩
theorem KG.trans {a b c : Shared} (h : KG a b) (k : KG b c) : KG a c := ⟨Nat.le_trans h.size k.size, fun i y e s => k.old i y (h.old i y e s) s⟩
theorem Sim.kg {s s0' s' : Shared} (h : Sim s.gens s0' s') : KG s s' := ⟨h.more, fun i y e k => (h.old i y e k).1⟩
theorem Sim.bare {z : Array GenState} {s0' s' : Shared} (h : Sim z s0' s') (hz : ∀ y ∈ z, y.bare = true) (h0 : PyProof.Rows.AllBare s0'.gens) : PyProof.Rows.AllBare s'.gens := fun y hy => by
  obtain ⟨i, hi, e⟩ := Array.mem_iff_getElem.mp hy
  have e' : s'.gens[i]? = some y := by rw [Array.getElem?_eq_getElem hi, e]
  have hi0 : i < s0'.gens.size := by rw [h.size]; exact hi
  rcases h.at (Array.getElem?_eq_getElem hi0) with ⟨y', sl, h1, ey⟩ | ⟨h1, _⟩
  · rw [e'] at h1
    cases h1
    have := h0 s0'.gens[i] (Array.getElem_mem hi0)
    rw [ey, stun_bare] at this
    exact this
  · rw [e'] at h1
    cases h1
    exact h0 _ (Array.getElem_mem hi0)
/-- what is known of all states is known of this one, and who sleeps is left as it is -/
theorem wpAny_kg {α : Type} {M : Model} {A : Around} {t : Sem α} {s : Shared} {Q : α → Shared → Prop} {E : Value → Shared → Prop} (h : wpAny M A t Q E { s with gens := s.gens.map stun }) :
    wpAny M A t (fun a s' => ∃ s0', Sim s.gens s0' s' ∧ Q a s0') (fun e s' => ∃ s0', Sim s.gens s0' s' ∧ E e s0') s := fun Γ p hΓ =>
  wp_sim M Γ t _ _ p _ s s.gens (Sim.start s) (h Γ p hΓ)
end DS
/-! a generator's run in turns: each turn begins with what its consumer tells then -/
namespace DS
open PySem
open Sem (wp)
section
variable {Θ : Type}
abbrev EndV (Θ : Type) := Nat → Θ → Result → Shared → Prop
abbrev OutV (Θ : Type) := Nat → Θ → Value → Shared → (Θ → Shared → Prop) → Prop
abbrev GoV (Θ : Type) := Θ → Code → Sem PySem.Fin → List Frame → Shared → Prop
def LastV (R : EndV Θ) (Y : OutV Θ) (n : Nat) (th : Θ) (e : End) (s' : Shared) (go : GoV Θ) : Prop := match e with
  | .ret r => R n th r s'
  | .susp v g l k c p fs => 0 < n ∧ (End.susp v g l k c p fs).quiet = true ∧ Y (n - 1) th v s' fun th' s2 => go th' c (k (.send .none)) fs s2
def TurnV (M : Model) (A : Around) (R : EndV Θ) (Y : OutV Θ) (n : Nat) (go : GoV Θ) : GoV Θ := fun th c t fs s => ∀ Γ p, Γ.code = c → Γ.Woken A → ∃ e s', Runs M Γ p t fs s e s' ∧ LastV R Y n th e s' go
def SegV (M : Model) (A : Around) (R : EndV Θ) (Y : OutV Θ) : Nat → GoV Θ
  | 0 => TurnV M A R Y 0 fun _ _ _ _ _ => False
  | n + 1 => TurnV M A R Y (n + 1) (SegV M A R Y n)
def NextV (M : Model) (A : Around) (R : EndV Θ) (Y : OutV Θ) : Nat → GoV Θ
  | 0 => fun _ _ _ _ _ => False
  | n + 1 => SegV M A R Y n
theorem segV_iff {M : Model} {A : Around} {R : EndV Θ} {Y : OutV Θ} {n : Nat} {th : Θ} {c : Code} {t : Sem PySem.Fin} {fs : List Frame} {s : Shared} : SegV M A R Y n th c t fs s ↔ TurnV M A R Y n (NextV M A R Y n) th c t fs s := by
  cases n <;> exact Iff.rfl
variable {M : Model} {A : Around} {R : EndV Θ} {Y : OutV Θ} {n : Nat} {th : Θ} {c : Code} {fs : List Frame} {s : Shared}
theorem segV_wrap {α : Type} {m : Sem α} {K : α → Sem PySem.Fin} {J : Value → Sem PySem.Fin} {gd : Bool → Bool} {lv : List Value → List Value}
    (h : wpAny M (A.over c fs) m (fun a s' => SegV M A R Y n th c (K a) fs s') (fun _ _ => False) s) : SegV M A R Y n th c (m.wrap K J gd lv) fs s := by
  rw [segV_iff]
  intro Γ p hc hΓ
  subst hc
  exact runs_wrap_of_wp K J gd lv m (h (Γ.over fs) p (hΓ.over fs)) (fun a p' s' h' => segV_iff.mp h' Γ p' rfl hΓ) fun x p' s' h' => h'.elim
theorem segV_bind {α β : Type} {m : Sem α} {f : α → Sem β} {K : β → Sem PySem.Fin} {J : Value → Sem PySem.Fin} {gd : Bool → Bool} {lv : List Value → List Value}
    (h : wpAny M (A.over c fs) m (fun a s' => SegV M A R Y n th c ((f a).wrap K J gd lv) fs s') (fun _ _ => False) s) : SegV M A R Y n th c ((m >>= f).wrap K J gd lv) fs s := by
  rw [Sem.bind_eq_wrap', Sem.wrap_wrap]
  exact segV_wrap h
theorem segV_call {c' : Code} {h : Option Value} {g : Bool} {l : List Value} {k : Result → Sem PySem.Fin} (hc : ∀ p, SegV M A R Y n th c' (M.den c') (.ret k h g l c p [] :: fs) s) : SegV M A R Y n th c (.call c' h g l k) fs s := by
  rw [segV_iff]
  intro Γ p e hΓ
  subst e
  obtain ⟨e, s', hr, he⟩ := segV_iff.mp (hc p) (Γ.goto c') p rfl (hΓ.goto c')
  exact ⟨e, s', runs_call_seg hr, he⟩
theorem segV_leaf {k : Result → Sem PySem.Fin} {h : Option Value} {g : Bool} {l : List Value} {c1 : Code} {p1 : Pos} {kp : List Value} (r : Result) (hk : SegV M A R Y n th c1 (k r) fs s) : SegV M A R Y n th c (leafOf r) (.ret k h g l c1 p1 kp :: fs) s := by
  rw [segV_iff]
  intro Γ p e hΓ
  subst e
  obtain ⟨e, s', hr, he⟩ := segV_iff.mp hk (Γ.goto c1) p1 rfl (hΓ.goto c1)
  exact ⟨e, s', Runs.pop r hr, he⟩
theorem segV_again {c' : Code} (hq : c'.quiet = true) (hc : SegV M A R Y n th c' (M.den c') fs s) : SegV M A R Y n th c (.pure (.again c')) fs s := by
  rw [segV_iff]
  intro Γ p e hΓ
  subst e
  obtain ⟨e, s', hr, he⟩ := segV_iff.mp hc (Γ.goto c') p rfl (hΓ.goto c')
  exact ⟨e, s', Runs.head (c₁ := c') (fun _ _ x => .again hq x) hr, he⟩
theorem segV_end (r : Result) (h : R n th r s) : SegV M A R Y n th c (leafOf r) [] s := by
  rw [segV_iff]
  intro Γ p e _
  subst e
  exact ⟨.ret r, s, Runs.leaf r, h⟩
theorem segV_yield {v : Value} {g : Bool} {l : List Value} {k : Resume → Sem PySem.Fin} (hfs : splitAtGen fs = none) (hg : g = false) (hfg : fs.any Frame.guarded = false)
    (h : Y n th v s fun th' s2 => SegV M A R Y n th' c (k (.send .none)) fs s2) : SegV M A R Y (n + 1) th c (.yield v g l k) fs s := by
  intro Γ p e _
  subst e
  exact ⟨_, s, Runs.yield' fs hfs, Nat.succ_pos n, by simp [End.quiet, hg, hfg], h⟩
/-! a generator that is woken -/
def GoesV (M : Model) (A : Around) (R : EndV Θ) (Y : OutV Θ) (n : Nat) (th : Θ) (gs : GenState) (s : Shared) : Prop := match gs with
  | .fresh c => SegV M A R Y n th c (M.den c) [] s
  | .suspended k _ c _ fs _ => SegV M A R Y n th c (k (.send .none)) fs s
  | _ => False
theorem wake_in {Γ : Ctx} {A : Around} (h : Γ.In A) (c : Code) (p : Pos) : (Γ.wake c p).Woken A := h.wake c p
theorem resumeV {α : Type} {E : Value → Shared → Prop} {g : Nat} {gs : GenState} {l : List Value} {k : GenResult → Sem α} {Q : α → Shared → Prop} (hg : s.gens[g]? = some gs) (hgo : GoesV M A R Y n th gs (s.setGen g .running))
    (hR : ∀ x s1, R n th x s1 → wpAny M A (k (End.ret x).result) Q E (s1.setGen g .finished))
    (hY : ∀ m v s1 gs', n = m + 1 → gs'.bare = true → sleeps gs' → Y m th v s1 (fun th' s2 => GoesV M A R Y m th' gs' s2) → wpAny M A (k (.yielded v)) Q E (s1.setGen g gs')) :
    wpAny M A (.resume g (.send .none) l k) Q E s := by
  intro Γ p hΓ
  rw [Sem.wp_resume]
  have quiet : ∀ e s1, LastV R Y n th e s1 (NextV M A R Y n) → e.quiet = true := fun e s1 he => by
    cases e with
    | ret x => rfl
    | susp => exact he.2.1
  have fin : ∀ e s1, LastV R Y n th e s1 (NextV M A R Y n) → wp M Γ (k e.result) (fun a _ s' => Q a s') (fun x _ s' => E x s') p (s1.setGen g e.genState) := fun e s1 he => by
    cases e with
    | ret x => exact hR x s1 he Γ p hΓ
    | susp v g0 l0 k0 c0 p0 fs0 =>
      obtain ⟨h1, h2, h3⟩ := he
      cases n with
      | zero => exact absurd h1 (Nat.lt_irrefl _)
      | succ m => exact hY m v s1 _ rfl (End.bare_of_quiet h2) trivial h3 Γ p hΓ
  cases gs with
  | fresh c =>
    obtain ⟨e, s1, hr, he⟩ := segV_iff.mp hgo (Γ.wake c p) p rfl (wake_in hΓ c p)
    exact ⟨_, _, by unfold Wakes; rw [hg]; exact ⟨e, s1, hr, quiet e s1 he, rfl, rfl⟩, fin e s1 he⟩
  | suspended k0 l0 c0 p0 fs0 cl =>
    obtain ⟨e, s1, hr, he⟩ := segV_iff.mp hgo (Γ.wake c0 p) p0 rfl (wake_in hΓ c0 p)
    exact ⟨_, _, by unfold Wakes; rw [hg]; exact ⟨e, s1, hr, quiet e s1 he, rfl, rfl⟩, fin e s1 he⟩
  | running => exact hgo.elim
  | finished => exact hgo.elim
end
section
variable {Θ : Type} {P : Program} {w : World} {A : Around} {E : Value → Shared → Prop} {s : Shared}
/-- next(g) of a generator without errors -/
theorem nextV {a : Addr} {g n : Nat} {th : Θ} {gs : GenState} {F : Nat → Θ → Shared → Prop} {Y : OutV Θ} {Q : Option Value → Shared → Prop} (hh : A.handled = none) (hl : s.heap.NoLimit) (hroom : A.depth < recursionLimit) (hg : s.heap.IsGen a g) (hgs : s.gens[g]? = some gs)
    (hgo : GoesV (model P w) A.in1 (fun n th r s1 => (r = .ok (.ret .none) ∨ r = .ok .next) ∧ F n th s1) Y n th gs (s.setGen g .running))
    (hY : ∀ m v s1 gs', n = m + 1 → gs'.bare = true → sleeps gs' → Y m th v s1 (fun th' s2 => GoesV (model P w) A.in1 (fun n th r s1 => (r = .ok (.ret .none) ∨ r = .ok .next) ∧ F n th s1) Y m th' gs' s2) → Q (some v) (s1.setGen g gs'))
    (hF : ∀ s1, F n th s1 → ∀ h', (∀ b o, s1.heap.get? b = some o → h'.get? b = some o) → Q none { s1.setGen g .finished with heap := h' }) :
    wpAny (model P w) A (pyNext (.ref a)) Q E s := by
  unfold pyNext
  refine wpAny_bind (wpAny_attempt (wpAny_callSpecial?_slot (name := Str.ofString "__next__") hg.typeIs slot_gen_next (wpAny_call_entry slot_gen_next hg.typeIs entry_gen_next ?_ (args_gen_next _))))
  show wpAny _ A.in1 (Builtin.Generator.genWake (.ref a) (.send .none)) _ _ s
  unfold Builtin.Generator.genWake
  refine wpAny_bind (wpAny_holding (wpAny_genNumber hg (wpAny_bind (wpAny_genState hgs ?_))))
  cases gs with
  | running => exact hgo.elim
  | finished => exact hgo.elim
  | _ =>
    refine wpAny_bind (wpAny_roomToWake hl hroom ?_)
    show wpAny _ A.in1 (.resume g (.send .none) [] _) _ _ s
    refine resumeV hgs hgo (fun x s1 hx => ?_) fun m v s1 gs' hm hb hsl hv => wpAny_pure ⟨v, rfl, wpAny_pure (hY m v s1 gs' hm hb hsl hv)⟩
    obtain ⟨hr, hp⟩ := hx
    have hres : End.result (.ret x) = .returned .none := by rcases hr with hr | hr <;> rw [hr] <;> rfl
    first | rw [hres] | simp only [hres]
    show wpAny _ A.in1 (newExc (.type "StopIteration") [] >>= _) _ _ _
    refine wpAny_bind ?_
    simp only [newExc, newTuple]
    refine wpAny_bind (wpAny_newObj_type ?_ (by size_fits))
    refine wpAny_bind (m := firstArgMember _ _) (wpAny_of_eq (a := Value.none) (by first | rfl | (simp only [firstArgMember]; rfl)) ?_)
    refine wpAny_newObj_type ?_ (by size_fits)
    simp only [raiseNew]
    refine wpAny_bind (wpAny_bind (wpAny_handled ?_))
    first | rw [show A.in1.handled = none from hh] | rw [hh]
    refine wpAny_throw ?_
    refine wpAny_bind (wpAny_isInstance (T := "StopIteration") (b := true) ⟨_, Heap.get?_push_size _ rfl, rfl⟩ isSubtype_stop ?_)
    exact wpAny_pure (hF s1 hp _ fun b o hb => Heap.get?_push_of_some _ (Heap.get?_push_of_some _ hb))
end
/-! ### statements, in turns -/
section
variable {Θ : Type} {M : Model} {A : Around} {R : EndV Θ} {Y : OutV Θ} {n : Nat} {th : Θ} {c : Code} {fs : List Frame} {s : Shared} {env : Env} {K : Flow → Sem PySem.Fin} {J : Value → Sem PySem.Fin} {gd : Bool → Bool} {lv : List Value → List Value}
theorem segV_nil (h : SegV M A R Y n th c (K .next) fs s) : SegV M A R Y n th c ((execs [] env).wrap K J gd lv) fs s := h
theorem segV_cons {st : Stmt} {rest : List Stmt} (h : SegV M A R Y n th c ((exec st env).wrap (fun f => match f with | .next => (execs rest env).wrap K J gd lv | f => K f) J gd lv) fs s) :
    SegV M A R Y n th c ((execs (st :: rest) env).wrap K J gd lv) fs s := by rw [execs_cons_wrap]; exact h
theorem segV_stand {p' : Pos} {α : Type} {m : Sem α} {K : α → Sem PySem.Fin} (h : SegV M A R Y n th c (m.wrap K J gd lv) fs s) : SegV M A R Y n th c ((standAt p' >>= fun _ => m).wrap K J gd lv) fs s :=
  segV_bind (wpAny_standAt h)
theorem segV_Yield {e : Expr} {yp pos : Pos} (hfs : splitAtGen fs = none) (hgd : gd false = false) (hfg : fs.any Frame.guarded = false)
    (h : wpAny M (A.over c fs) (eval e env) (fun v s' => Y n th v s' fun th' s2 => SegV M A R Y n th' c (K .next) fs s2) (fun _ _ => False) s) (hco : env.scope.isCoroutine = false := by rfl) (hi : interactive env = false := by rfl) :
    SegV M A R Y (n + 1) th c ((exec (.Expr (.Yield (some e) yp) pos) env).wrap K J gd lv) fs s := by
  rw [exec_Expr env _ pos hi rfl]
  have hy : ∀ v, yieldOut env v = yieldValue v := fun v => by simp only [yieldOut, hco, Bool.false_eq_true, if_false]
  show SegV M A R Y (n + 1) th c ((standAt pos >>= fun _ => (eval e env >>= fun v => (standAt yp >>= fun _ => yieldOut env v)) >>= fun x => dropValue (.Yield (some e) yp) pos x).wrap K J gd lv) fs s
  simp only [hy]
  refine segV_stand ?_
  rw [Sem.bind_eq_wrap', Sem.bind_eq_wrap', Sem.wrap_wrap, Sem.wrap_wrap]
  refine segV_wrap (wpAny_mono h (fun v s' h' => ?_) fun _ _ x => x)
  refine segV_wrap (m := standAt yp) (gd := id) (lv := id) (J := .raise) (wpAny_standAt ?_)
  exact segV_yield hfs hgd hfg h'
/-- what stands behind a loop's code -/
abbrev backV (K : Flow → Sem PySem.Fin) (J : Value → Sem PySem.Fin) (gd : Bool → Bool) (lv : List Value → List Value) (env : Env) : Result → Sem PySem.Fin := fun r => ((match r with | .ok f => (.pure f : Sem Flow) | .error e => .raise e).onRaise fun (x : Value) => do
  if (← field x 1) == Value.none then unsupported "frame.own-activation:exception-without-traceback"
  setFlight x env.frame).wrap K J gd lv
theorem segV_own {c' : Code} (h : ∀ p, SegV M A R Y n th c' (M.den c') (.ret (backV K J gd lv env) none (gd false) (lv []) c p [] :: fs) s) : SegV M A R Y n th c ((runOwn c' env).wrap K J gd lv) fs s := segV_call h
theorem segV_While {test : Expr} {body orelse : List Stmt} {pos : Pos} (h : ∀ p, SegV M A R Y n th (.whileLoop test body orelse env) (M.den (.whileLoop test body orelse env)) (.ret (backV K J gd lv env) none (gd false) (lv []) c p [] :: fs) s) :
    SegV M A R Y n th c ((exec (.While test body orelse pos) env).wrap K J gd lv) fs s := segV_stand (segV_own h)
end
section
variable {Θ : Type} {P : Program} {w : World} {A : Around} {R : EndV Θ} {Y : OutV Θ} {n : Nat} {th : Θ} {fs : List Frame} {s : Shared} {env : Env}
/-- the errors' side of a loop's code (not reached here) -/
abbrev notedV (env : Env) : Value → Sem PySem.Fin := fun e => (do noteFrame e env; theTreesLotGoes e : Sem Unit).wrap (fun _ => .raise e) .raise id id
theorem segV_whileLoop {test : Expr} {body : List Stmt} (h : wpAny (model P w) (A.over (.whileLoop test body [] env) fs) (isTrue test env (eval test env)) (fun b s' =>
      if b = true then SegV (model P w) A R Y n th (.whileLoop test body [] env) ((execs body env).wrap (fun f => match f with | .next => .pure (.again (.whileLoop test body [] env)) | .cont => .pure (.again (.whileLoop test body [] env)) | .brk => .pure (.done .next) | .ret v => .pure (.done (.ret v))) (notedV env) id id) fs s'
      else SegV (model P w) A R Y n th (.whileLoop test body [] env) (.pure (.done .next)) fs s') (fun _ _ => False) s) :
    SegV (model P w) A R Y n th (.whileLoop test body [] env) ((model P w).den (.whileLoop test body [] env)) fs s := by
  show SegV _ A R Y n th _ ((whileTurn test body [] env).onRaise (fun x => do noteFrame x env; theTreesLotGoes x)) fs s
  unfold whileTurn
  rw [Sem.onRaise_eq_wrap]
  refine segV_bind (wpAny_mono h (fun b s' hb => ?_) fun _ _ z => z)
  cases b with
  | true =>
    rw [if_pos rfl] at hb ⊢
    rw [Sem.bind_eq_wrap', Sem.wrap_wrap]
    rw [Sem.wrap_congr (execs body env) _ _ (K' := fun f => match f with | .next => .pure (.again (.whileLoop test body [] env)) | .cont => .pure (.again (.whileLoop test body [] env)) | .brk => .pure (.done .next) | .ret v => .pure (.done (.ret v))) (H' := notedV env) (fun f => by cases f <;> rfl) (fun e => by first | exact Sem.bind_eq_wrap _ _ | (show (do noteFrame e env; theTreesLotGoes e : Sem Unit).bind (fun _ => .raise e) = _; rw [Sem.bind_eq_wrap]))]
    exact hb
  | false =>
    rw [if_neg Bool.false_ne_true] at hb ⊢
    exact hb
theorem segV_func {body : List Stmt} (h : SegV (model P w) A R Y n th (.func body env) ((execs body env).wrap (fun f => .pure (.done (.ret (match f with | .ret v => v | _ => .none)))) (fun e => (leaving env e).wrap (fun _ => .raise e) .raise id id) id id) fs s) :
    SegV (model P w) A R Y n th (.func body env) ((model P w).den (.func body env)) fs s := by
  show SegV _ A R Y n th _ (.point [] fun _ => ((execs body env).onRaise (leaving env)) >>= _) fs s
  refine segV_wrap (m := point) (K := fun _ => _) (J := .raise) (gd := id) (lv := fun _ => []) (wpAny_point ?_)
  rw [Sem.onRaise_eq_wrap, Sem.bind_eq_wrap', Sem.wrap_wrap]
  rw [Sem.wrap_congr (execs body env) _ _ (K' := fun f => .pure (.done (.ret (match f with | .ret v => v | _ => .none)))) (H' := fun e => (leaving env e).wrap (fun _ => .raise e) .raise id id) (fun f => by cases f <;> rfl) (fun e => by rw [Sem.bind_eq_wrap, Sem.wrap_wrap]; rfl)]
  exact h
end
end DS
/-! a generator def's statements, run in turns -/
namespace DS
open PySem PySem.Spec PyProof.Rows L2 GenW
abbrev Pins := List (Addr × Obj)
/-! ### the heap below an address -/
def cutH (L : Addr) (h : Heap) : Heap := { h with objs := h.objs.extract 0 L }
theorem cut_at {L : Addr} {h : Heap} {b : Addr} (lt : b < L) : (cutH L h).get? b = h.get? b := by
  have e : (h.objs.extract 0 L)[b]? = h.objs[b]? := by
    rw [Array.getElem?_extract]
    split
    · rw [Nat.zero_add]
    · rename_i k
      rw [Array.getElem?_eq_none]
      exact Nat.le_of_not_lt fun z => k (by rw [Nat.sub_zero]; exact Nat.lt_min.mpr ⟨lt, z⟩)
  unfold Heap.get? cutH
  simp only [e]
theorem cut_get {L : Addr} {h : Heap} {b : Addr} {o : Obj} (e : (cutH L h).get? b = some o) : b < L ∧ h.get? b = some o := by
  have lt : b < L := by
    have := Heap.lt_size e
    have q : (cutH L h).objs.size ≤ L := by
      show (h.objs.extract 0 L).size ≤ L
      rw [Array.size_extract]
      exact Nat.le_trans (Nat.sub_le _ _) (Nat.min_le_left _ _)
    exact Nat.lt_of_lt_of_le this q
  rw [cut_at lt] at e
  exact ⟨lt, e⟩
theorem cut_size {L : Addr} {h : Heap} (le : L ≤ h.objs.size) : (cutH L h).objs.size = L := by
  show (h.objs.extract 0 L).size = L
  rw [Array.size_extract]
  exact Nat.min_eq_left le
abbrev cutSG (L : Addr) (s : Shared) : Shared := { s with heap := cutH L s.heap }
theorem cut_frames {L : Addr} {h base : Heap} : ∀ {l : List Env}, (∀ b ∈ frs l, b < L) → h.FunFrames base l → (cutH L h).FunFrames base l
  | [], _, _ => trivial
  | env :: r, k, ⟨h1, ⟨A, o, hf, hn, ho, hd⟩, h3⟩ => by
    have sub : ∀ b ∈ frs r, b ∈ frs (env :: r) := fun b hb => by
      unfold frs at hb ⊢
      rw [List.filterMap_cons, hf]
      exact List.mem_cons_of_mem _ hb
    have hA : A ∈ frs (env :: r) := by
      unfold frs
      rw [List.filterMap_cons, hf]
      exact List.mem_cons_self
    exact ⟨h1, ⟨A, o, hf, hn, (cut_at (k A hA)).trans ho, hd⟩, cut_frames (fun b hb => k b (sub b hb)) h3⟩
/-! ### a generator -/
structure GD where
  P : Program
  w : World
  K : PySem.W.Frag
  mg : Str → Option Value
  base : Heap
  N : List Str
  qual : Str
  scope : Scope
  f : Addr
  cd : Value
  A : Around
  outer : List Env
  L : Addr
  a : Addr
  g : Nat
  go : Obj
abbrev GD.env (D : GD) : Env := envOfC D.qual D.scope D.L D.f D.cd
/-- what the consumer tells as it wakes it: the state, what it says, what is to stay -/
structure Wp where
  H : Hp
  O : Addr → Prop
  G : Addr → Prop
structure Th where
  s : Shared
  w : Wp
  pc : Pins
abbrev Th.H (th : Th) : Hp := th.w.H
def GD.cx (D : GD) (th : Th) : Cx where
  prog := D.P
  w := D.w
  K := D.K
  mg := D.mg
  base := D.base
  A := D.A.deeper D.env
  N := D.N
  s_0 := cutSG D.L th.s
  H_0 := th.H
  env := D.env
  outer := D.outer
  stack := D.env :: D.outer
  ex := []
  calm := true
  fn := fun _ => true
  pn := th.pc ++ [(D.a, D.go)]
  xe := fun _ _ => False
structure GD.Ok (D : GD) : Prop where
  mod : Mod D.K D.mg D.base
  kind : D.scope.kind = .function
  cells : ∀ x, D.env.cells.lookup x = none
  noc : ∀ x, D.env.kindOf x ≠ some .cell ∧ D.env.kindOf x ≠ some .free
  frames : D.A.frames = some D.outer
  hd : D.A.handled = none
  gds : D.A.guards = some []
  bsz : D.base.objs.size ≤ D.L
  low : ∀ b ∈ frs D.outer, b < D.L
  La : D.L < D.a
  cls : D.go.cls = .type "generator"
  dat : ∃ nm qn, D.go.data = .fields #[.int D.g 0, nm, qn]
  slots : D.go.slots = #[]
theorem GD.Ok.gen {D : GD} (ok : D.Ok) {h : Heap} (e : h.get? D.a = some D.go) : h.IsGen D.a D.g := by
  obtain ⟨nm, qn, d⟩ := ok.dat
  exact ⟨D.go, nm, qn, e, ok.cls, d, ok.slots⟩
theorem GD.Ok.ncell {D : GD} (ok : D.Ok) : ∀ v, D.go.data ≠ .cell v := fun v q => by
  obtain ⟨nm, qn, d⟩ := ok.dat
  rw [d] at q
  cases q
/-- the older sleepers sleep on -/
structure KGn (g : Nat) (s s' : Shared) : Prop where
  size : s.gens.size ≤ s'.gens.size
  old : ∀ (i : Nat) (y : GenState), i < g → s.gens[i]? = some y → sleeps y → s'.gens[i]? = some y
theorem KGn.refl (g : Nat) (s : Shared) : KGn g s s := ⟨Nat.le_refl _, fun _ _ _ h _ => h⟩
theorem KGn.trans {g : Nat} {a b c : Shared} (h : KGn g a b) (k : KGn g b c) : KGn g a c := ⟨Nat.le_trans h.size k.size, fun i y l e s => k.old i y l (h.old i y l e s) s⟩
theorem KG.n {g : Nat} {a b : Shared} (h : KG a b) : KGn g a b := ⟨h.size, fun i y _ => h.old i y⟩
/-- all sleepers but g sleep on -/
structure KGx (g : Nat) (s s' : Shared) : Prop where
  size : s.gens.size ≤ s'.gens.size
  old : ∀ (i : Nat) (y : GenState), i ≠ g → s.gens[i]? = some y → sleeps y → s'.gens[i]? = some y
theorem KGx.refl (g : Nat) (s : Shared) : KGx g s s := ⟨Nat.le_refl _, fun _ _ _ h _ => h⟩
theorem KGx.trans {g : Nat} {a b c : Shared} (h : KGx g a b) (k : KGx g b c) : KGx g a c := ⟨Nat.le_trans h.size k.size, fun i y l e s => k.old i y l (h.old i y l e s) s⟩
theorem KG.x {g : Nat} {a b : Shared} (h : KG a b) : KGx g a b := ⟨h.size, fun i y _ => h.old i y⟩
/-- running -/
structure GJ (D : GD) (th : Th) (ip : Pins) (σ : L2.St) (H : Hp) (s : Shared) : Prop where
  inv : Inv (D.cx th) ip σ H s
  kg : KGn D.g th.s s
  dis : ∀ p ∈ th.pc, ∀ q ∈ ip, q.1 ≠ p.1
  disa : ∀ p ∈ th.pc, D.a ≠ p.1
  run : s.gens[D.g]? = some .running
  sz : D.g < th.s.gens.size
  lsz : D.L ≤ th.s.heap.objs.size
/-- asleep, gp what is to stay; the consumer wakes it -/
structure Wk (D : GD) (gp : Pins) (s1 : Shared) (th : Th) : Prop where
  bs : ∀ b o, D.base.get? b = some o → th.s.heap.get? b = some o ∧ th.H b = none
  ff : th.s.heap.FunFrames D.base D.outer
  frf : ∀ b ∈ frs D.outer, th.H b = none
  hok : HOk D.P D.w th.H th.s.heap
  bare : AllBare th.s.gens
  gps : ∀ p ∈ gp, th.s.heap.get? p.1 = some p.2 ∧ th.H p.1 = none
  pcs : ∀ p ∈ th.pc, th.s.heap.get? p.1 = some p.2 ∧ th.H p.1 = none ∧ p.1 ∉ frs D.outer ∧ (∀ v, p.2.data ≠ .cell v) ∧ ∀ q ∈ gp, q.1 ≠ p.1
  kg : KGx D.g s1 th.s
  run : th.s.gens[D.g]? = some .running
/-- what a turn leaves -/
structure Ys (D : GD) (th : Th) (gp : Pins) (H1 : Hp) (s1 : Shared) : Prop where
  os : s1.os = th.s.os
  bare : AllBare s1.gens
  un : Un (frs D.outer) [] th.H H1 (cutH D.L th.s.heap) s1.heap
  pcs : ∀ p ∈ th.pc, s1.heap.get? p.1 = some p.2 ∧ H1 p.1 = none
  hok : HOk D.P D.w H1 s1.heap
  gps : ∀ p ∈ gp, s1.heap.get? p.1 = some p.2 ∧ H1 p.1 = none ∧ D.L ≤ p.1 ∧ ∀ v, p.2.data ≠ .cell v
  gen : s1.heap.get? D.a = some D.go
  dis : ∀ p ∈ th.pc, ∀ q ∈ gp, q.1 ≠ p.1
  kg : KGn D.g th.s s1
abbrev YlT := Nat → Wp → V → Hp → (Wp → Prop) → Prop
abbrev EnT := Nat → Wp → Hp → Prop
def OutG (D : GD) (yl : YlT) : OutV Th := fun n th v s1 k => ∃ x gp H1 C, RelV x v ∧ Ys D th gp H1 s1 ∧ (D.a, D.go) ∈ gp ∧ yl n th.w x H1 C ∧ ∀ th', Wk D gp s1 th' → C th'.w → k th' th'.s
abbrev EndG (D : GD) (en : EnT) : EndV Th := fun n th r s1 => (r = .ok (.ret .none) ∨ r = .ok .next) ∧ ∃ H1, Ys D th [] H1 s1 ∧ en n th.w H1
/-! ### the state's word, carried over -/
theorem inv_gens {X : Cx} {pins : Pins} {σ : L2.St} {H : Hp} {s s' : Shared} (I : Inv X pins σ H s) (hh : s'.heap = s.heap) (ho : s'.os = s.os) (hb : AllBare s'.gens) : Inv X pins σ H s' := by
  obtain ⟨h', g', d', t', o'⟩ := s'
  have hh : h' = s.heap := hh
  have ho : o' = s.os := ho
  subst hh ho
  exact ⟨I.ok, I.os, hb, I.base, I.loc, I.cell, I.free, I.freeC, I.pin, I.hok, I.len⟩
theorem bare_stun {s : Shared} (h : AllBare s.gens) : AllBare (s.gens.map stun) := fun y hy => by
  obtain ⟨x, hx, e⟩ := Array.mem_map.mp hy
  rw [← e, stun_bare]
  exact h x hx
theorem Sim.inv {X : Cx} {pins : Pins} {σ : L2.St} {H : Hp} {s s0' s' : Shared} (S : Sim s.gens s0' s') (hb : AllBare s.gens) (I : Inv X pins σ H s0') : Inv X pins σ H s' :=
  inv_gens I S.heap.symm S.os.symm (S.bare hb I.bare)
theorem inv_stun {X : Cx} {pins : Pins} {σ : L2.St} {H : Hp} {s : Shared} (I : Inv X pins σ H s) : Inv X pins σ H { s with gens := s.gens.map stun } := inv_gens I rfl rfl (bare_stun I.bare)
theorem Sim.sp {X : Cx} {pins : Pins} {D : Ends} {f : Flow} {s s0' s' : Shared} (S : Sim s.gens s0' s') (hb : AllBare s.gens) (h : SP X pins D f s0') : SP X pins D f s' := by
  cases f with
  | next => obtain ⟨σ, H, I, q⟩ := h; exact ⟨σ, H, S.inv hb I, q⟩
  | brk => obtain ⟨σ, H, I, q⟩ := h; exact ⟨σ, H, S.inv hb I, q⟩
  | cont => obtain ⟨σ, H, I, q⟩ := h; exact ⟨σ, H, S.inv hb I, q⟩
  | ret u => obtain ⟨v, σ, H, I, q⟩ := h; exact ⟨v, σ, H, S.inv hb I, q⟩
theorem cut_le {L : Addr} {h : Heap} : (cutH L h).objs.size ≤ L := by
  show (h.objs.extract 0 L).size ≤ L
  rw [Array.size_extract]
  exact Nat.le_trans (Nat.sub_le _ _) (Nat.min_le_left _ _)
/-- a rule for all states holds, and who sleeps sleeps on -/
theorem kg_run {α : Type} {X : Cx} {t : Sem α} {s : Shared} {Q : α → Shared → Prop} {M : Model} {A : Around} (hb : AllBare s.gens) (h : wpAny M A t Q (fun _ _ => False) { s with gens := s.gens.map stun }) (hQ : ∀ a s0' s', Sim s.gens s0' s' → Q a s0' → Q a s') :
    wpAny M A t (fun a s' => Q a s' ∧ KG s s') (fun _ _ => False) s :=
  wpAny_mono (wpAny_kg h) (fun a s' ⟨s0', S, q⟩ => ⟨hQ a s0' s' S q, S.kg⟩) fun _ _ ⟨_, _, z⟩ => z
theorem wake_inv0 {D : GD} (ok : D.Ok) {th' : Th} {ip : Pins} {σ : L2.St} {s s1 : Shared} {lo : Obj} {gp : Pins}
    (loc : ∃ m, s.heap.Ns D.L m ∧ ∀ (i : Nat) (x : Str) (v : V), D.N[i]? = some x → σ[i]? = some (some v) → Vis D.scope x → ∃ u, L2.RelV v u ∧ Look D.env s.heap m x u) (len : σ.length = D.N.length) (old : ∀ q ∈ ip, q.1 ≠ D.L ∧ q.1 ∉ frs D.outer ∧ ∀ v, q.2.data ≠ .cell v) (el : s.heap.get? D.L = some lo) (hgp : gp = (D.a, D.go) :: (D.L, lo) :: ip) (W : Wk D gp s1 th') : GJ D th' ip σ th'.H th'.s := by
  have eL : th'.s.heap.get? D.L = some lo ∧ th'.H D.L = none := W.gps (D.L, lo) (by rw [hgp]; simp)
  have eA : th'.s.heap.get? D.a = some D.go ∧ th'.H D.a = none := W.gps (D.a, D.go) (by rw [hgp]; simp)
  have le : D.L ≤ th'.s.heap.objs.size := Nat.le_of_lt (Heap.lt_size eL.1)
  have noc : ∀ x c, D.env.cells.lookup x = some c → False := fun x c e => by rw [ok.cells x] at e; cases e
  refine ⟨⟨⟨ok.mod, ok.kind, rfl, rfl, ?_, fun x y c e => (noc x c e).elim, fun x h => ?_, fun x c _ e => (noc x c e).elim, fun _ => ok.hd, Around.frames_deeper ok.frames, .inr ⟨rfl, rfl⟩, fun b h => (nomatch h), fun b o e => ?_, ?_, fun b o _ h => (nomatch h), fun b h => (nomatch h), cut_frames ok.low W.ff, W.frf⟩,
    rfl, W.bare, Un.kept fun b o e => (cut_get e).2, ?_, fun x c e => (noc x c e).elim, eL.2, fun x c e => (noc x c e).elim, fun p hp => ?_, W.hok, len⟩, KGn.refl _ _, fun p hp q hq => ?_, fun p hp => ?_, W.run, (Array.getElem?_eq_some_iff.mp W.run).1, le⟩
  · show (cutH D.L th'.s.heap).objs.size ≤ D.L
    rw [cut_size le]
    exact Nat.le_refl _
  · exact (h.elim (fun z => (ok.noc x).1 z) fun z => (ok.noc x).2 z).elim
  · obtain ⟨h1, h2⟩ := W.bs b o e
    exact ⟨(cut_at (Nat.lt_of_lt_of_le (Heap.lt_size e) ok.bsz)).trans h1, h2⟩
  · show D.base.objs.size ≤ (cutH D.L th'.s.heap).objs.size
    rw [cut_size le]
    exact ok.bsz
  · obtain ⟨m, ⟨o, es, ep, ho, hd, hr⟩, hl⟩ := loc
    have : o = lo := by
      have e : s.heap.get? D.L = some o := ho
      rw [el] at e
      exact (Option.some.inj e).symm
    subst this
    refine ⟨m, ⟨o, es, ep, eL.1, hd, hr⟩, fun i x v h1 h2 h3 => ?_⟩
    obtain ⟨u, r, l⟩ := hl i x v h1 h2 h3
    refine ⟨u, r, ?_⟩
    rcases l with l | ⟨_, c, e, _⟩
    · exact .inl l
    · exact (noc x c e).elim
  · rcases List.mem_append.mp hp with hp | hp
    · rcases List.mem_append.mp hp with hp | hp
      · obtain ⟨h1, h2, h3, h4, h5⟩ := W.pcs p hp
        exact ⟨h1, h2, fun z => h5 (D.L, lo) (by rw [hgp]; simp) z.symm, h3, h4⟩
      · rw [List.mem_singleton.mp hp]
        refine ⟨eA.1, eA.2, fun z => ?_, fun z => ?_, ok.ncell⟩
        · have e : D.a = D.L := z
          have h2 := ok.La
          rw [e] at h2
          exact Nat.lt_irrefl _ h2
        · exact Nat.lt_irrefl _ (Nat.lt_trans ok.La (ok.low D.a z))
    · obtain ⟨h1, h2⟩ := W.gps p (by rw [hgp]; exact List.mem_cons_of_mem _ (List.mem_cons_of_mem _ hp))
      obtain ⟨h3, h4, h5⟩ := old p hp
      exact ⟨h1, h2, h3, h4, h5⟩
  · exact (W.pcs p hp).2.2.2.2 q (by rw [hgp]; exact List.mem_cons_of_mem _ (List.mem_cons_of_mem _ hq))
  · exact (W.pcs p hp).2.2.2.2 (D.a, D.go) (by rw [hgp]; exact List.mem_cons_self)
theorem wake_inv {D : GD} (ok : D.Ok) {th th' : Th} {ip : Pins} {σ : L2.St} {H : Hp} {s s1 : Shared} {lo : Obj} {gp : Pins} (J : GJ D th ip σ H s) (el : s.heap.get? D.L = some lo) (hgp : gp = (D.a, D.go) :: (D.L, lo) :: ip) (W : Wk D gp s1 th') : GJ D th' ip σ th'.H th'.s :=
  wake_inv0 ok J.inv.loc J.inv.len (fun q hq => by
    obtain ⟨_, _, h3, h4, h5⟩ := J.inv.pin q (List.mem_append_right _ hq)
    exact ⟨h3, h4, h5⟩) el hgp W
/-- the frame's object, as it stands -/
theorem GJ.frame {D : GD} {th : Th} {ip : Pins} {σ : L2.St} {H : Hp} {s : Shared} (J : GJ D th ip σ H s) : ∃ lo, s.heap.get? D.L = some lo ∧ H D.L = none ∧ ∀ v, lo.data ≠ .cell v := by
  obtain ⟨m, ⟨o, es, ep, ho, hd, _⟩, _⟩ := J.inv.loc
  exact ⟨o, ho, J.inv.free, fun v q => by rw [hd] at q; cases q⟩
theorem GJ.gen {D : GD} {th : Th} {ip : Pins} {σ : L2.St} {H : Hp} {s : Shared} (J : GJ D th ip σ H s) : s.heap.get? D.a = some D.go ∧ H D.a = none := by
  obtain ⟨h1, h2, _⟩ := J.inv.pin (D.a, D.go) (List.mem_append_left _ (List.mem_append_right _ (List.mem_singleton.mpr rfl)))
  exact ⟨h1, h2⟩
/-- what its own iterators are: young -/
def Young (D : GD) (ip : Pins) : Prop := ∀ p ∈ ip, D.L ≤ p.1
theorem GJ.ys {D : GD} (ok : D.Ok) {th : Th} {ip : Pins} {σ : L2.St} {H : Hp} {s : Shared} (J : GJ D th ip σ H s) (yg : Young D ip) {lo : Obj} (el : s.heap.get? D.L = some lo) (nc : ∀ v, lo.data ≠ .cell v) : Ys D th ((D.a, D.go) :: (D.L, lo) :: ip) H s where
  os := J.inv.os
  bare := J.inv.bare
  un := J.inv.base
  pcs := fun p hp => by
    obtain ⟨h1, h2, _⟩ := J.inv.pin p (List.mem_append_left _ (List.mem_append_left _ hp))
    exact ⟨h1, h2⟩
  hok := J.inv.hok
  gps := fun p hp => by
    rcases List.mem_cons.mp hp with e | hp
    · subst e
      obtain ⟨h1, h2⟩ := J.gen
      exact ⟨h1, h2, Nat.le_of_lt ok.La, ok.ncell⟩
    · rcases List.mem_cons.mp hp with e | hp
      · subst e
        exact ⟨el, J.inv.free, Nat.le_refl _, nc⟩
      · obtain ⟨h1, h2, _, _, h5⟩ := J.inv.pin p (List.mem_append_right _ hp)
        exact ⟨h1, h2, yg p hp, h5⟩
  gen := J.gen.1
  dis := fun p hp q hq => by
    rcases List.mem_cons.mp hq with e | hq
    · subst e
      exact J.disa p hp
    · rcases List.mem_cons.mp hq with e | hq
      · subst e
        obtain ⟨_, _, h3, _⟩ := J.inv.pin p (List.mem_append_left _ (List.mem_append_left _ hp))
        exact fun z => h3 z.symm
      · exact J.dis p hp q hq
  kg := J.kg
theorem Ys.none {D : GD} {th : Th} {gp : Pins} {H : Hp} {s : Shared} (h : Ys D th gp H s) : Ys D th [] H s := ⟨h.os, h.bare, h.un, h.pcs, h.hok, fun p hp => (nomatch hp), h.gen, fun p hp q hq => (nomatch hq), h.kg⟩
theorem segV_Yield0 {Θ : Type} {M : Model} {A : Around} {R : EndV Θ} {Y : OutV Θ} {n : Nat} {th : Θ} {c : Code} {fs : List Frame} {s : Shared} {env : Env} {K : Flow → Sem PySem.Fin} {J : Value → Sem PySem.Fin} {gd : Bool → Bool} {lv : List Value → List Value} {e : Expr} {yp pos : Pos}
    (h : wpAny M (A.over c fs) (eval e env) (fun _ _ => False) (fun _ _ => False) s) (hco : env.scope.isCoroutine = false := by rfl) (hi : interactive env = false := by rfl) :
    SegV M A R Y n th c ((exec (.Expr (.Yield (some e) yp) pos) env).wrap K J gd lv) fs s := by
  rw [exec_Expr env _ pos hi rfl]
  show SegV M A R Y n th c ((standAt pos >>= fun _ => (eval e env >>= fun v => (standAt yp >>= fun _ => yieldOut env v)) >>= fun x => dropValue (.Yield (some e) yp) pos x).wrap K J gd lv) fs s
  refine segV_stand ?_
  rw [Sem.bind_eq_wrap', Sem.bind_eq_wrap', Sem.wrap_wrap, Sem.wrap_wrap]
  exact segV_wrap (wpAny_mono h (fun v s' h' => h'.elim) fun _ _ x => x)
/-! ### statements -/
structure EndsL where
  nx : Nat → Wp → L2.St → Hp → Prop
  bk : Nat → Wp → L2.St → Hp → Prop := fun _ _ _ _ => False
  ct : Nat → Wp → L2.St → Hp → Prop := fun _ _ _ _ => False
abbrev TLn := EndsL → Nat → Wp → L2.St → Hp → Prop
def GSL (D : GD) (ip : Pins) (E : EndsL) (n : Nat) (th : Th) (f : Flow) (s : Shared) : Prop := match f with
  | .next => ∃ σ H, GJ D th ip σ H s ∧ E.nx n th.w σ H
  | .brk => ∃ σ H, GJ D th ip σ H s ∧ E.bk n th.w σ H
  | .cont => ∃ σ H, GJ D th ip σ H s ∧ E.ct n th.w σ H
  | .ret _ => False
/-- where the code stands -/
structure GPl (D : GD) (c : Code) (fs : List Frame) (gd : Bool → Bool) : Prop where
  over : D.A.over c fs = D.A.deeper D.env
  split : splitAtGen fs = none
  guard : fs.any Frame.guarded = false
  gd : gd false = false
def GKont (D : GD) (yl : YlT) (en : EnT) (ip : Pins) (E : EndsL) (s : Shared) (c : Code) (fs : List Frame) (K : Flow → Sem PySem.Fin) : Prop :=
  ∀ (n : Nat) (th : Th) (s' : Shared) (f : Flow), KGx D.g s s' → GSL D ip E n th f s' → SegV (model D.P D.w) D.A (EndG D en) (OutG D yl) n th c (K f) fs s'
structure LS (D : GD) (yl : YlT) (en : EnT) (st : Stmt) (t : TLn) : Prop where
  run : ∀ (ip : Pins) (n : Nat) (th : Th) (c : Code) (fs : List Frame) (K : Flow → Sem PySem.Fin) (J : Value → Sem PySem.Fin) (gd : Bool → Bool) (lv : List Value → List Value) (s : Shared) (σ : L2.St) (H : Hp) (E : EndsL),
    GPl D c fs gd → Young D ip → GKont D yl en ip E s c fs K → GJ D th ip σ H s → t E n th.w σ H → SegV (model D.P D.w) D.A (EndG D en) (OutG D yl) n th c ((exec st D.env).wrap K J gd lv) fs s
structure LSs (D : GD) (yl : YlT) (en : EnT) (st : List Stmt) (t : TLn) : Prop where
  run : ∀ (ip : Pins) (n : Nat) (th : Th) (c : Code) (fs : List Frame) (K : Flow → Sem PySem.Fin) (J : Value → Sem PySem.Fin) (gd : Bool → Bool) (lv : List Value → List Value) (s : Shared) (σ : L2.St) (H : Hp) (E : EndsL),
    GPl D c fs gd → Young D ip → GKont D yl en ip E s c fs K → GJ D th ip σ H s → t E n th.w σ H → SegV (model D.P D.w) D.A (EndG D en) (OutG D yl) n th c ((execs st D.env).wrap K J gd lv) fs s
section
variable {D : GD} {yl : YlT} {en : EnT} {st : Stmt} {rest : List Stmt} {pos : Pos}
theorem LS.imp {t t' : TLn} (h : LS D yl en st t) (k : ∀ E n H0 σ H, t' E n H0 σ H → t E n H0 σ H) : LS D yl en st t' := ⟨fun ip n th c fs K J gd lv s σ H E g y kk hI ht => h.run ip n th c fs K J gd lv s σ H E g y kk hI (k _ _ _ _ _ ht)⟩
theorem LSs.imp {t t' : TLn} (h : LSs D yl en rest t) (k : ∀ E n H0 σ H, t' E n H0 σ H → t E n H0 σ H) : LSs D yl en rest t' := ⟨fun ip n th c fs K J gd lv s σ H E g y kk hI ht => h.run ip n th c fs K J gd lv s σ H E g y kk hI (k _ _ _ _ _ ht)⟩
def tLPlain (t : TS) : TLn := fun E n H0 σ H => t ⟨E.nx n H0, fun _ _ => False, E.bk n H0, E.ct n H0⟩ σ H
theorem ls_plain {t : TS} (h : ∀ th, PS (D.cx th) st t) : LS D yl en st (tLPlain t) := by
  refine ⟨fun ip n th c fs K J gd lv s σ H E g y kk hI ht => segV_wrap ?_⟩
  rw [g.over]
  have hb := hI.inv.bare
  refine wpAny_mono (kg_run (X := D.cx th) hb ((h th).run ip _ σ H _ (inv_stun hI.inv) ht) fun f s0' s' S q => S.sp hb q) (fun f s' ⟨q, kg⟩ => kk n th s' f kg.x ?_) fun _ _ z => z
  cases f with
  | next => obtain ⟨σ', H', I, q⟩ := q; exact ⟨σ', H', ⟨I, hI.kg.trans kg.n, hI.dis, hI.disa, kg.old D.g _ hI.run trivial, hI.sz, hI.lsz⟩, q⟩
  | brk => obtain ⟨σ', H', I, q⟩ := q; exact ⟨σ', H', ⟨I, hI.kg.trans kg.n, hI.dis, hI.disa, kg.old D.g _ hI.run trivial, hI.sz, hI.lsz⟩, q⟩
  | cont => obtain ⟨σ', H', I, q⟩ := q; exact ⟨σ', H', ⟨I, hI.kg.trans kg.n, hI.dis, hI.disa, kg.old D.g _ hI.run trivial, hI.sz, hI.lsz⟩, q⟩
  | ret u => obtain ⟨v, σ', H', I, r, q⟩ := q; exact q.elim
def tL0 : TLn := fun E n H0 σ H => E.nx n H0 σ H
theorem lss_nil : LSs D yl en [] tL0 := ⟨fun ip n th c fs K J gd lv s σ H E g y kk hI ht => segV_nil (kk n th s .next (KGx.refl _ s) ⟨σ, H, hI, ht⟩)⟩
def tLThen (t u : TLn) : TLn := fun E n H0 σ H => t { E with nx := fun n' H0' σ' H' => u E n' H0' σ' H' } n H0 σ H
theorem lss_cons {t u : TLn} (a : LS D yl en st t) (b : LSs D yl en rest u) : LSs D yl en (st :: rest) (tLThen t u) := by
  refine ⟨fun ip n th c fs K J gd lv s σ H E g y kk hI ht => segV_cons (a.run ip n th c fs _ J gd lv s σ H _ g y (fun n' th' s' f kg hs => ?_) hI ht)⟩
  cases f with
  | next =>
    obtain ⟨σ', H', I', q⟩ := hs
    exact b.run ip n' th' c fs K J gd lv s' σ' H' E g y (fun n2 th2 s2 f2 kg2 hs2 => kk n2 th2 s2 f2 (kg.trans kg2) hs2) I' q
  | brk => exact kk n' th' s' .brk kg hs
  | cont => exact kk n' th' s' .cont kg hs
  | ret u => exact hs.elim
theorem gpl_loop {c c' : Code} {fs : List Frame} {gd : Bool → Bool} {k : Result → Sem PySem.Fin} {l : List Value} {p : Pos} (g : GPl D c fs gd) (hw : c'.weight = 0) (hu : c'.cUnits = 0) : GPl D c' (.ret k none (gd false) l c p [] :: fs) id where
  over := (over_loop hw hu).trans g.over
  split := by
    show (splitAtGen fs).map _ = none
    rw [g.split]
    rfl
  guard := by
    show (gd false || fs.any Frame.guarded) = false
    rw [g.gd, g.guard]
    rfl
  gd := rfl
/-- behind a loop -/
theorem back_next {E : EndsL} {ip : Pins} {n : Nat} {th : Th} {s s' : Shared} {c c' : Code} {fs : List Frame} {K : Flow → Sem PySem.Fin} {J : Value → Sem PySem.Fin} {gd : Bool → Bool} {lv : List Value → List Value} {env : Env} {l : List Value} {p : Pos} {G : Bool}
    (kk : GKont D yl en ip E s c fs K) (kg : KGx D.g s s') (q : GSL D ip E n th .next s') : SegV (model D.P D.w) D.A (EndG D en) (OutG D yl) n th c' (.pure (.done .next)) (.ret (backV K J gd lv env) none G l c p [] :: fs) s' :=
  segV_leaf (.ok .next) (kk n th s' .next kg q)
def tLWhile (c : TT) (tb : TLn) : TLn := fun E n H0 σ H => ∃ W : Nat → Nat → Wp → L2.St → Hp → Prop, (∃ m, W m n H0 σ H) ∧ ∀ m n H0 σ H, W m n H0 σ H →
  c σ H fun b H1 => if b = true then ∃ N : Nat → Wp → L2.St → Hp → Prop, (∀ n' H0' σ' H', N n' H0' σ' H' → ∃ m', m' < m ∧ W m' n' H0' σ' H') ∧ tb { nx := N, ct := N, bk := E.nx } n H0 σ H1 else E.nx n H0 σ H1
theorem ls_while {test : Expr} {body : List Stmt} {tc : TT} {tb : TLn} (hc : ∀ th, PT (D.cx th) test tc) (hb : LSs D yl en body tb) : LS D yl en (.While test body [] pos) (tLWhile tc tb) := by
  refine ⟨fun ip n th c fs K J gd lv s σ H E g y kk hI ht => segV_While fun p => ?_⟩
  obtain ⟨W, ⟨m0, w0⟩, turn⟩ := ht
  have gl := gpl_loop (k := backV K J gd lv D.env) (c' := .whileLoop test body [] D.env) (l := lv []) (p := p) g rfl rfl
  have loop : ∀ (m n : Nat) (th : Th) (s1 : Shared) (σ : L2.St) (H : Hp), KGx D.g s s1 → W m n th.w σ H → GJ D th ip σ H s1 →
      SegV (model D.P D.w) D.A (EndG D en) (OutG D yl) n th (.whileLoop test body [] D.env) ((model D.P D.w).den (.whileLoop test body [] D.env)) (.ret (backV K J gd lv D.env) none (gd false) (lv []) c p [] :: fs) s1 := by
    intro m
    induction m using Nat.strongRecOn with
    | ind m ih =>
      intro n th s1 σ H kg0 w hI
      refine segV_whileLoop ?_
      rw [gl.over]
      have bb := hI.inv.bare
      refine wpAny_mono (kg_run (X := D.cx th) bb ((hc th).run ip _ σ H _ (inv_stun hI.inv) (turn m n th.w σ H w)) fun d s0' s' S ⟨H1, I1, q⟩ => ⟨H1, S.inv bb I1, q⟩) (fun d s' ⟨⟨H1, I1, q⟩, kg⟩ => ?_) fun _ _ z => z
      have J1 : GJ D th ip σ H1 s' := ⟨I1, hI.kg.trans kg.n, hI.dis, hI.disa, kg.old D.g _ hI.run trivial, hI.sz, hI.lsz⟩
      cases d with
      | true =>
        obtain ⟨N, hN, q⟩ := q
        rw [if_pos rfl]
        refine hb.run ip n th _ _ _ _ id id s' σ H1 _ gl y (fun n2 th2 s2 f2 kg2 hs2 => ?_) J1 q
        have kg3 := kg0.trans (kg.x.trans kg2)
        cases f2 with
        | next =>
          obtain ⟨σ2, H2, I2, nn⟩ := hs2
          obtain ⟨m', hm, w2⟩ := hN n2 th2.w σ2 H2 nn
          exact segV_again rfl (ih m' hm n2 th2 s2 σ2 H2 kg3 w2 I2)
        | cont =>
          obtain ⟨σ2, H2, I2, nn⟩ := hs2
          obtain ⟨m', hm, w2⟩ := hN n2 th2.w σ2 H2 nn
          exact segV_again rfl (ih m' hm n2 th2 s2 σ2 H2 kg3 w2 I2)
        | brk => exact back_next kk kg3 hs2
        | ret v => exact hs2.elim
      | false =>
        rw [if_neg Bool.false_ne_true]
        exact back_next kk (kg0.trans kg.x) ⟨σ, H1, J1, q⟩
  exact loop m0 n th s σ H (KGx.refl _ s) w0 hI
def tLYield (yl : YlT) (te : TE) : TLn := fun E n H0 σ H => te σ H fun x H1 => ∃ m, n = m + 1 ∧ ∃ C, yl m H0 x H1 C ∧ ∀ w', C w' → E.nx m w' σ w'.H
theorem ls_yield (ok : D.Ok) {e : Expr} {yp : Pos} {te : TE} (h : ∀ th, PE (D.cx th) e te) (hco : D.env.scope.isCoroutine = false := by rfl) (hi : interactive D.env = false := by rfl) : LS D yl en (.Expr (.Yield (some e) yp) pos) (tLYield yl te) := by
  refine ⟨fun ip n th c fs K J gd lv s σ H E g y kk hI ht => ?_⟩
  have bb := hI.inv.bare
  have run := kg_run (X := D.cx th) bb ((h th).run ip _ σ H _ (inv_stun hI.inv) ht) fun d s0' s' S ⟨x, H1, I1, r, q⟩ => ⟨x, H1, S.inv bb I1, r, q⟩
  cases n with
  | zero =>
    refine segV_Yield0 ?_ hco hi
    rw [g.over]
    exact wpAny_mono run (fun v s' ⟨⟨x, H1, I1, r, m, em, _⟩, kg⟩ => nomatch em) fun _ _ z => z
  | succ n =>
    refine segV_Yield g.split g.gd g.guard ?_ hco hi
    rw [g.over]
    refine wpAny_mono run (fun v s' ⟨⟨x, H1, I1, r, m, em, C, hy, hC⟩, kg⟩ => ?_) fun _ _ z => z
    cases em
    have J1 : GJ D th ip σ H1 s' := ⟨I1, hI.kg.trans kg.n, hI.dis, hI.disa, kg.old D.g _ hI.run trivial, hI.sz, hI.lsz⟩
    obtain ⟨lo, el, _, nc⟩ := J1.frame
    refine ⟨x, _, H1, C, r, J1.ys ok y el nc, List.mem_cons_self, hy, fun th' W hc => ?_⟩
    exact kk n th' th'.s .next (kg.x.trans W.kg) ⟨σ, th'.H, wake_inv ok J1 el rfl W, hC th'.w hc⟩
end
end DS
/-! a generator def's promise; for over its calls -/
namespace DS
open PySem PySem.Spec PyProof.Rows L2 GenW
/-- older than L -/
structure LowX (X : Cx) (L : Addr) : Prop where
  s0 : X.s_0.heap.objs.size ≤ L
  loc : X.env.locals < L
  cel : ∀ x c, X.env.cells.lookup x = some c → c < L
  fs : ∀ b ∈ X.fs, b < L
  stk : ∀ b ∈ frs X.stack, b < L
theorem low_of {X : Cx} {pins : Pins} {σ : L2.St} {H : Hp} {s : Shared} {L : Addr} (I : Inv X pins σ H s) (le : s.heap.objs.size ≤ L) : LowX X L := by
  have fs : ∀ b ∈ X.fs, b < L := fun b hb => by
    obtain ⟨_, o, ho, _⟩ := I.funs.mem hb
    exact Nat.lt_of_lt_of_le (Heap.lt_size ho) le
  have lc := Nat.lt_of_lt_of_le I.lt le
  refine ⟨Nat.le_trans I.sz le, lc, fun x c e => ?_, fs, fun b hb => ?_⟩
  · obtain ⟨v, o, ho, _⟩ := I.cell x c e
    exact Nat.lt_of_lt_of_le (Heap.lt_size ho) le
  · rcases List.mem_cons.mp (I.stkSub b hb) with e | hb
    · rw [e]; exact lc
    · exact fs b hb
/-- its generator sleeps (or has not begun); C: where it may be woken -/
def Slp (D : GD) (yl : YlT) (en : EnT) (n : Nat) (gp : Pins) (C : Wp → Prop) (s : Shared) : Prop :=
  ∃ gs s1, s.gens[D.g]? = some gs ∧ KGx D.g s1 s ∧ (D.a, D.go) ∈ gp ∧ ∀ th, Wk D gp s1 th → C th.w → GoesV (model D.P D.w) D.A (EndG D en) (OutG D yl) n th gs th.s
theorem Slp.keep {D : GD} {yl : YlT} {en : EnT} {n : Nat} {gp : Pins} {C : Wp → Prop} {s s' : Shared} (h : Slp D yl en n gp C s) (sl : ∀ gs, s.gens[D.g]? = some gs → sleeps gs) (kg : KG s s') : Slp D yl en n gp C s' ∧ ∀ gs, s'.gens[D.g]? = some gs → sleeps gs := by
  obtain ⟨gs, s1, e, k, m, w⟩ := h
  have e' := kg.old D.g gs e (sl gs e)
  exact ⟨⟨gs, s1, e', k.trans kg.x, m, w⟩, fun gs' z => by rw [e'] at z; cases z; exact sl gs e⟩
theorem kgn_set {g : Nat} {x y : GenState} {s s1 : Shared} (h : KGn g (s.setGen g x) s1) : KGn g s (s1.setGen g y) := by
  have sz : ∀ (t : Shared) (z : GenState), (t.setGen g z).gens.size = t.gens.size := fun t z => setGen_size t g z
  have ne : ∀ (t : Shared) (z : GenState) (i : Nat), i < g → (t.setGen g z).gens[i]? = t.gens[i]? := fun t z i l => by
    show (t.gens.setIfInBounds g z)[i]? = _
    rw [Array.getElem?_setIfInBounds_ne (by omega)]
  refine ⟨by rw [sz]; have := h.size; rw [sz] at this; exact this, fun i w l e k => ?_⟩
  rw [ne _ _ i l]
  exact h.old i w l (by rw [ne _ _ i l]; exact e) k
section
variable {X : Cx} {N : List Str} {qual : Str} {scope : Scope} {f : Addr} {cd : Value} {L a : Addr} {g : Nat} {go : Obj}
/-- a generator that X's frame wakes -/
abbrev GD.of (X : Cx) (N : List Str) (qual : Str) (scope : Scope) (f : Addr) (cd : Value) (L a : Addr) (g : Nat) (go : Obj) : GD := ⟨X.prog, X.w, X.K, X.mg, X.base, N, qual, scope, f, cd, X.A.in1, X.stack, L, a, g, go⟩
/-- the consumer's word behind a turn -/
theorem ys_inv {pins gp : Pins} {σ : L2.St} {H H1 : Hp} {s s1 s2 : Shared} (I : Inv X pins σ H s) (lw : LowX X L) {O0 G0 : Addr → Prop} (Y : Ys (GD.of X N qual scope f cd L a g go) ⟨s.setGen g .running, ⟨H, O0, G0⟩, X.pn ++ pins⟩ gp H1 s1)
    (hos : s2.os = s1.os) (hbare : AllBare s2.gens) (kp : ∀ b o, s1.heap.get? b = some o → s2.heap.get? b = some o) : Inv X pins σ H1 s2 := by
  let ch : List Addr := (List.range s.heap.objs.size).filter fun b => decide (L ≤ b ∧ ∀ p ∈ X.pn ++ pins, p.1 ≠ b)
  have nch : ∀ b o, s.heap.get? b = some o → b ∉ ch → b < L ∨ ∃ p ∈ X.pn ++ pins, p.1 = b := fun b o e hx => by
    by_cases l : b < L
    · exact .inl l
    · refine .inr ?_
      by_cases k : ∃ p ∈ X.pn ++ pins, p.1 = b
      · exact k
      · exfalso
        refine hx (List.mem_filter.mpr ⟨List.mem_range.mpr (Heap.lt_size e), decide_eq_true ⟨Nat.le_of_not_lt l, fun p hp z => k ⟨p, hp, z⟩⟩⟩)
  have un1 : Un (frs X.stack) ch H H1 s.heap s1.heap := by
    refine ⟨fun b o e n hb hx => ?_, fun b o e n hb hx => ?_, fun b o e n hx => ?_, fun b o e hx => ?_, Y.un.tups, Y.un.frzs, Y.un.tbls⟩
    · rcases nch b o e hx with l | ⟨p, hp, ep⟩
      · exact Y.un.keep b o ((cut_at l).trans e) n hb (fun z => nomatch z)
      · subst ep
        obtain ⟨q, _⟩ := Y.pcs p hp
        obtain ⟨q', _⟩ := I.pin p hp
        rw [e] at q'
        rw [q]
        exact q'.symm
    · rcases nch b o e hx with l | ⟨p, hp, ep⟩
      · exact Y.un.slot b o ((cut_at l).trans e) n hb (fun z => nomatch z)
      · subst ep
        obtain ⟨q, _⟩ := Y.pcs p hp
        obtain ⟨q', _⟩ := I.pin p hp
        rw [e] at q'
        refine ⟨o.slots, ?_⟩
        rw [q]
        exact q'.symm
    · rcases nch b o e hx with l | ⟨p, hp, ep⟩
      · exact Y.un.free b o ((cut_at l).trans e) n (fun z => nomatch z)
      · subst ep
        exact (Y.pcs p hp).2
    · rcases nch b o e hx with l | ⟨p, hp, ep⟩
      · exact Y.un.there b o ((cut_at l).trans e) (fun z => nomatch z)
      · subst ep
        exact ⟨_, (Y.pcs p hp).1⟩
  refine I.call' (ch := ch) (hos.trans Y.os) (un1.trans (Un.kept kp)) (Y.hok.kept kp) hbare fun b hb => ?_
  obtain ⟨_, h2⟩ := List.mem_filter.mp hb
  obtain ⟨h3, h4⟩ := of_decide_eq_true h2
  exact ⟨.inr (Nat.le_trans lw.s0 h3), fun z => by rw [z] at h3; exact Nat.lt_irrefl _ (Nat.lt_of_lt_of_le lw.loc h3), fun x c e z => Nat.lt_irrefl _ (Nat.lt_of_lt_of_le (lw.cel x c e) (by rw [z]; exact h3)), h4⟩
/-- one turn: an item, or the end -/
theorem gen_turn {yl : YlT} {en : EnT} {n : Nat} {pins gp : Pins} {C : Wp → Prop} {σ : L2.St} {H : Wp} {s : Shared} {E : Value → Shared → Prop} (hc : X.calm = true) (ok : (GD.of X N qual scope f cd L a g go).Ok) (hd : X.A.depth < recursionLimit) (lw : LowX X L) (I : Inv X (pins ++ gp) σ H.H s)
    (S : Slp (GD.of X N qual scope f cd L a g go) yl en n gp C s) (hC : C H) (dis : ∀ p ∈ X.pn ++ pins, ∀ q ∈ gp, q.1 ≠ p.1) :
    wpAny (model X.prog X.w) X.A (pyNext (.ref a)) (fun r s2 => (∃ m v x H1 C' gp', n = m + 1 ∧ r = some v ∧ RelV x v ∧ Inv X (pins ++ gp') σ H1 s2 ∧ (∀ p ∈ X.pn ++ pins, ∀ q ∈ gp', q.1 ≠ p.1) ∧ Young (GD.of X N qual scope f cd L a g go) gp' ∧ Slp (GD.of X N qual scope f cd L a g go) yl en m gp' C' s2 ∧ (∀ gs, s2.gens[g]? = some gs → sleeps gs) ∧ yl m H x H1 C' ∧ KGn g s s2)
      ∨ (r = none ∧ ∃ H1, Inv X pins σ H1 s2 ∧ en n H H1 ∧ KGn g s s2)) E s := by
  obtain ⟨gs, s1, egs, kx, hm, goes⟩ := S
  have I0 : Inv X pins σ H.H s := I.unpinned
  have hg : s.heap.IsGen a g := ok.gen (I.pin (a, go) (List.mem_append_right _ (List.mem_append_right _ hm))).1
  have gl : g < s.gens.size := (Array.getElem?_eq_some_iff.mp egs).1
  have W : Wk (GD.of X N qual scope f cd L a g go) gp s1 ⟨s.setGen g .running, H, X.pn ++ pins⟩ := by
    refine ⟨I.bs, I.stack, I.stkFree, I.hok, allBare_setGen I.bare rfl, fun p hp => ?_, fun p hp => ?_, ⟨?_, ?_⟩, setGen_at gl⟩
    · obtain ⟨h1, h2, _⟩ := I.pin p (List.mem_append_right _ (List.mem_append_right _ hp))
      exact ⟨h1, h2⟩
    · obtain ⟨h1, h2, h3, h4, h5⟩ := I0.pin p hp
      refine ⟨h1, h2, fun z => ?_, h5, dis p hp⟩
      rcases List.mem_cons.mp (I.stkSub p.1 z) with e | e
      · exact h3 e
      · exact h4 e
    · show s1.gens.size ≤ (s.setGen g .running).gens.size
      rw [setGen_size]
      exact kx.size
    · intro i y ne e k
      show (s.gens.setIfInBounds g .running)[i]? = some y
      rw [Array.getElem?_setIfInBounds_ne (Ne.symm ne)]
      exact kx.old i y ne e k
  refine nextV (Θ := Th) (g := g) (n := n) (th := Th.mk (s.setGen g .running) H (X.pn ++ pins)) (gs := gs) (F := fun n th s1 => ∃ H1, Ys (GD.of X N qual scope f cd L a g go) th [] H1 s1 ∧ en n th.w H1) (Y := OutG (GD.of X N qual scope f cd L a g go) yl) (I.ok.hd hc) I.nolimit hd hg egs (goes _ W hC) (fun m v s2 gs' en' hb hsl hv => ?_) fun s2 ⟨H1, Y, e⟩ h' kp => ?_
  · obtain ⟨x, gp', H1, C', rv, Y, hm', hy, hk⟩ := hv
    have I1 : Inv X pins σ H1 (s2.setGen g gs') := ys_inv I0 lw Y rfl (allBare_setGen Y.bare hb) fun _ _ e => e
    have gl2 : g < s2.gens.size := by
      have q := Y.kg.size
      have q2 : (s.setGen g .running).gens.size = s.gens.size := setGen_size _ _ _
      have q3 : (s.setGen g .running).gens.size ≤ s2.gens.size := q
      omega
    have e2 : (s2.setGen g gs').gens[g]? = some gs' := setGen_at gl2
    refine .inl ⟨m, v, x, H1, C', gp', en', rfl, rv, I1.pins_of fun p hp => ?_, Y.dis, fun p hp => (Y.gps p hp).2.2.1, ⟨gs', s2, e2, ?_, hm', hk⟩, fun z hz => by rw [e2] at hz; cases hz; exact hsl, hy, kgn_set Y.kg⟩
    · rcases List.mem_append.mp hp with hp | hp
      · exact I1.pin p (List.mem_append_right _ hp)
      · obtain ⟨h1, h2, h3, h4⟩ := Y.gps p hp
        exact ⟨h1, h2, fun z => Nat.lt_irrefl _ (Nat.lt_of_lt_of_le lw.loc (z ▸ h3)), fun z => Nat.lt_irrefl _ (Nat.lt_of_lt_of_le (lw.fs _ z) h3), h4⟩
    · refine ⟨by rw [setGen_size]; exact Nat.le_refl _, fun i y ne e k => ?_⟩
      show (s2.gens.setIfInBounds g gs')[i]? = some y
      rw [Array.getElem?_setIfInBounds_ne (Ne.symm ne)]
      exact e
  · exact .inr ⟨rfl, H1, ys_inv I0 lw Y rfl (allBare_setGen Y.bare rfl) kp, e, by
      have := kgn_set (y := .finished) Y.kg
      exact ⟨this.size, this.old⟩⟩
end
/-! ### the promise of a generator def -/
abbrev SpL := List V → Hp → Nat → YlT → EnT → (Wp → Prop) → Prop
def LMade (P : Program) (w : World) (K : PySem.W.Frag) (mg : Str → Option Value) (base : Heap) (k : Nat) (outer : List Env) (s : Shared) (n : Nat) (yl : YlT) (en : EnT) (C : Wp → Prop) (u : Value) (s' : Shared) : Prop :=
  ∃ (N : List Str) (qual : Str) (scope : Scope) (f : Addr) (cd : Value) (L a : Addr) (go : Obj) (gp : Pins) (gs : GenState), u = .ref a ∧ s.heap.objs.size ≤ L ∧ (a, go) ∈ gp ∧ (∀ p ∈ gp, L ≤ p.1 ∧ s'.heap.get? p.1 = some p.2 ∧ ∀ v, p.2.data ≠ .cell v) ∧ s'.os = s.os ∧ gs.bare = true ∧ s'.gens = s.gens.push gs ∧
    (∀ b o, s.heap.get? b = some o → s'.heap.get? b = some o) ∧ ∀ Aw : Around, Room k Aw → Aw.frames = some outer → Aw.guards = some [] → (GD.mk P w K mg base N qual scope f cd Aw outer L a s.gens.size go).Ok ∧
      ∀ th, Wk (GD.mk P w K mg base N qual scope f cd Aw outer L a s.gens.size go) gp s' th → C th.w → GoesV (model P w) Aw (EndG (GD.mk P w K mg base N qual scope f cd Aw outer L a s.gens.size go) en) (OutG (GD.mk P w K mg base N qual scope f cd Aw outer L a s.gens.size go) yl) n th gs th.s
structure LFn (P : Program) (w : World) (K : PySem.W.Frag) (mg : Str → Option Value) (base : Heap) (k : Nat) (f : Addr) (fd : FuncData) (ps : List Str) (sp : SpL) : Prop where
  len : ∀ vs H n yl en C, sp vs H n yl en C → vs.length = ps.length
  run : ∀ (A : Around) (outer : List Env) (s : Shared) (H : Hp) (args : Args) (us : List Value) (vs : List V) (n : Nat) (yl : YlT) (en : EnT) (C : Wp → Prop), Room k A → Env0 P w K mg base A outer s H → BindsTo s fd args (ps.zip us) → Vals vs us → sp vs H n yl en C →
    codeAny (model P w) A (.call (.ref f) args) (fun r s' => match r with | .ok (.ret u) => LMade P w K mg base k outer s n yl en C u s' | _ => False) s
theorem lfn_of {P : Program} {w : World} {K : PySem.W.Frag} {mg : Str → Option Value} {base : Heap} {k : Nat} {f : Addr} {name qual : Str} {params : Arguments} {body : List Stmt} {scope : Scope} {dV kV doc pm cdv ct oc : Value} {an od : Option Addr} {osl : Array (Option Value)} {N ps : List Str} {sp : SpL}
    (lk : K.lookup f = some ⟨oc, od, .func (PySem.W.fnOf name qual params body scope dV kV doc pm an cdv ct), osl⟩) (hcd : PySem.W.codeIn K cdv qual = true) (S : GScope N ps scope) (hce : ∀ i : Addr, cellsFrom i scope.names [] = []) (hnc : ∀ y ∈ scope.names, y.2 ≠ .cell)
    (len : ∀ vs H n yl en C, sp vs H n yl en C → vs.length = ps.length)
    (hbody : ∀ (A : Around) (outer : List Env) (L a : Addr) (g : Nat) (go : Obj) (vs : List V) (H : Hp) (n : Nat) (yl : YlT) (en : EnT) (C : Wp → Prop), (GD.mk P w K mg base N qual scope f cdv A outer L a g go).Ok → Room k (A.deeper (envOfC qual scope L f cdv)) → sp vs H n yl en C →
      ∃ t, LSs (GD.mk P w K mg base N qual scope f cdv A outer L a g go) yl en body t ∧ ∀ w, C w → t { nx := fun n' w' _ H' => en n' w' H' } n w (start N vs) w.H) :
    LFn P w K mg base (k + 1) f (PySem.W.fnOf name qual params body scope dV kV doc pm an cdv ct) ps sp := by
  refine ⟨len, fun A outer s H args us vs n yl en C hr e0 hb r hsp => ?_⟩
  have hl := len _ _ _ _ _ _ hsp
  have KX : K.In s.heap := e0.mod.kin.keeps fun b o e => (e0.bs b o e).1
  have lim : s.heap.NoLimit := e0.mod.nolimit.keeps fun b o e => (e0.bs b o e).1
  have hkind : ∀ y ∈ ps.zip us, scope.names.lookup y.1 = some .local ∨ (scope.names.lookup y.1 = some .cell ∧ ((cellsFrom (s.heap.objs.size + 1) scope.names []).lookup y.1).isSome = true) := fun ⟨n, v⟩ hy => by
    rcases S.par n (List.of_mem_zip hy).1 with q | q
    · exact .inl q
    · exact .inr ⟨q, PySem.W.cellsFrom_some _ _ _ (.inl q)⟩
  refine codeAny_call_generator hr.depth (KX _ _ lk) rfl S.co S.gen rfl (PySem.W.codeRec_of KX hcd) (hb _ _ _ _ ?_)
  refine wpAny_newFunctionEnv_cells S.kind hkind fun env he s1 x => ?_
  subst he
  have lim1 : s1.heap.NoLimit := lim.keeps x.toInCall.keep
  refine ⟨lim1, ?_⟩
  obtain ⟨h1, tk, es1, hk1⟩ := x.done
  have os1 : s1.os = s.os := by rw [es1]
  have gen1 : s1.gens = s.gens := by rw [es1]
  have lt1 : s.heap.objs.size < s1.heap.objs.size := x.toInCall.ns.lt
  have kp1 : ∀ b o, s.heap.get? b = some o → s1.heap.get? b = some o := x.toInCall.keep
  obtain ⟨lo, les, lep, hlo, hld, _⟩ := id x.toInCall.ns
  have low : ∀ b ∈ frs outer, b < s.heap.objs.size := fun b hb => by
    obtain ⟨_, o, ho, _⟩ := e0.funs.mem hb
    exact Heap.lt_size ho
  have I1 : Inv (gcxOf P w K mg base N qual scope f cdv A outer s H (fun _ _ _ => False) []) [] (start N vs) H s1 := inv_startG S hr.hd e0 hl r x
  have main : ∀ (go : Obj) (nm qn : Value) (tk2 : Nat), go.cls = .type "generator" → go.data = .fields #[.int s1.gens.size 0, nm, qn] → go.slots = #[] → (∀ h : Heap, (h.push go).get? h.objs.size = some go) →
      LMade P w K mg base (k + 1) outer s n yl en C (.ref s1.heap.objs.size) { s1 with gens := s1.gens.push (.fresh (.func body (envOfC qual scope s.heap.objs.size f cdv))), toks := tk2, heap := s1.heap.push go } := by
    intro go nm qn tk2 hgc hgd0 hgs hgp
    have nogo : ∀ v, go.data ≠ .cell v := fun v q => by rw [hgd0] at q; cases q
    refine ⟨N, qual, scope, f, cdv, s.heap.objs.size, s1.heap.objs.size, go, [(s1.heap.objs.size, go), (s.heap.objs.size, lo)], _, rfl, Nat.le_refl _, List.mem_cons_self, fun p hp => ?_, os1, rfl, by rw [gen1], fun b o e => Heap.get?_push_of_some _ (kp1 b o e), fun Aw hrw hfr hgd => ?_⟩
    · rcases List.mem_cons.mp hp with e | hp
      · subst e
        exact ⟨Nat.le_of_lt lt1, hgp _, nogo⟩
      · rw [List.mem_singleton.mp hp]
        exact ⟨Nat.le_refl _, Heap.get?_push_of_some _ hlo, fun v q => by rw [hld] at q; cases q⟩
    · have ok : (GD.mk P w K mg base N qual scope f cdv Aw outer s.heap.objs.size s1.heap.objs.size s.gens.size go).Ok := by
        refine ⟨e0.mod, S.kind, fun x => ?_, fun x => ⟨fun z => ?_, fun z => ?_⟩, hfr, hrw.hd, hgd, e0.bsz, low, lt1, hgc, ⟨nm, qn, by rw [hgd0, gen1]⟩, hgs⟩
        · show (cellsFrom (s.heap.objs.size + 1) scope.names []).lookup x = none
          rw [hce]
          rfl
        · exact hnc _ (PySem.mem_of_lookup z) rfl
        · exact S.nofree _ (PySem.mem_of_lookup z) rfl
      refine ⟨ok, fun th W hC => ?_⟩
      obtain ⟨t, ht, hq⟩ := hbody Aw outer s.heap.objs.size s1.heap.objs.size s.gens.size go vs H n yl en C ok (hrw.deeper _) hsp
      have J := wake_inv0 (ip := []) (σ := start N vs) (s := s1) ok I1.loc I1.len (fun q hq => (nomatch hq)) hlo rfl W
      refine segV_func (ht.run [] n th _ [] _ _ id id th.s (start N vs) th.H _ ⟨over_func, rfl, rfl, rfl⟩ (fun p hp => (nomatch hp)) (fun n' th' s' fl kg hs => ?_) J (hq th.w hC))
      cases fl with
      | next =>
        obtain ⟨σ', H', J', q⟩ := hs
        obtain ⟨lo', el', _, nc'⟩ := J'.frame
        exact segV_end (.ok (.ret .none)) ⟨.inl rfl, H', (J'.ys ok (fun p hp => (nomatch hp)) el' nc').none, q⟩
      | brk => obtain ⟨_, _, _, q⟩ := hs; exact q.elim
      | cont => obtain ⟨_, _, _, q⟩ := hs; exact q.elim
      | ret u => exact hs.elim
  exact main _ _ _ _ rfl rfl rfl fun h => Heap.get?_push_size _ rfl
end DS
/-! for over a generator def's call: in a plain def, in a generator def; for over what is walked, in a generator def -/
namespace DS
open PySem PySem.Spec PyProof.Rows L2 GenW
section
variable {X : Cx} {k : Nat} {f : Addr} {fd : FuncData} {ps : List Str} {sp : SpL} {x : Str} {p pos pos' : Pos} {e : Expr} {es : List Expr} {ta : TA}
/-- f(e, ..): the generator is made -/
theorem eval_gen (hx : X.xe = fun _ _ => False) (F : LFn X.prog X.w X.K X.mg X.base k f fd ps sp) (hr : Room k X.A) (hg : Gl X x) (hm : X.mg x = some (.ref f)) (hk : PySem.W.keepIn X.K (.ref f) = true) (hb : Binds X.K fd ps []) (ha : PA X (e :: es) ta)
    (hdb : (x == ("__debug__" : Str)) = false) (he : starEach (e :: es) X.env = (false, eval e X.env) :: starEach es X.env) (hpl : (backTo pos' (starEach es X.env)).any (·.1) = false)
    {pins : Pins} {s : Shared} {σ : L2.St} {H : Hp} {Z : Nat → YlT → EnT → (Wp → Prop) → Hp → Prop} (I : Inv X pins σ H s) (h : ta σ H fun vs H1 => ∃ n yl en C, sp vs H1 n yl en C ∧ Z n yl en C H1) :
    wpAny (model X.prog X.w) X.A (eval (.Call (.Name x p) (e :: es) [] pos') X.env) (fun u s2 => ∃ n yl en C H1 s1, Z n yl en C H1 ∧ Inv X pins σ H1 s1 ∧ LMade X.prog X.w X.K X.mg X.base k X.stack s1 n yl en C u s2 ∧ KG s s1) (fun _ _ => False) s := by
  refine wpAny_Call_Name_kw (ld_glob I hg hm ?_ hdb)
  have r0 := ha.run pos' pins _ σ H _ (inv_stun I) h
  rw [hx] at r0
  refine PySem.W.callWith_K (h₀ := X.base) I.ok.mod.kin hk (wpAny_mono (kg_run (X := X) I.bare r0 fun us s0' s' S ⟨vs, H1, I1, q⟩ => ⟨vs, H1, S.inv I.bare I1, q⟩) (fun us s1 ⟨⟨vs, H1, I1, r, n, yl, en, C, hs, z⟩, kg⟩ => ⟨I1.kIn, ?_⟩) fun _ _ z => z) he hpl
  have r2 : Vals (vs ++ []) (us ++ []) := r.append .nil
  have hl2 : (us ++ []).length = ps.length := by rw [← r2.length, List.append_nil]; exact F.len _ _ _ _ _ _ hs
  refine wpAny_call (codeAny_mono (F.run X.A X.stack s1 H1 ⟨us, []⟩ (us ++ []) (vs ++ []) n yl en C hr I1.env0 (hb s1 us I1.kIn hl2) r2 (by rw [List.append_nil]; exact hs)) fun r s' hq => ?_)
  cases r with
  | error e => exact False.elim hq
  | ok fl =>
    cases fl with
    | ret u => exact ⟨n, yl, en, C, H1, s1, z, I1, hq, kg⟩
    | next => exact False.elim hq
    | brk => exact False.elim hq
    | cont => exact False.elim hq
/-- the generator is there, and asleep -/
theorem made_slp {pins : Pins} {n : Nat} {yl : YlT} {en : EnT} {C : Wp → Prop} {σ : L2.St} {H : Hp} {u : Value} {s1 s2 : Shared} (hc : X.calm = true) (hgd : X.A.guards = some []) (hr : Room (k + 1) X.A) (I : Inv X pins σ H s1) (M : LMade X.prog X.w X.K X.mg X.base k X.stack s1 n yl en C u s2) :
    ∃ (N : List Str) (qual : Str) (scope : Scope) (f : Addr) (cd : Value) (L a : Addr) (go : Obj) (gp : Pins), u = .ref a ∧ s1.heap.objs.size ≤ L ∧ (GD.of X N qual scope f cd L a s1.gens.size go).Ok ∧ LowX X L ∧ Inv X (pins ++ gp) σ H s2 ∧ (∀ p ∈ X.pn ++ pins, ∀ q ∈ gp, q.1 ≠ p.1) ∧ (∀ p ∈ X.pn ++ pins, p.1 < L) ∧
      Young (GD.of X N qual scope f cd L a s1.gens.size go) gp ∧ Slp (GD.of X N qual scope f cd L a s1.gens.size go) yl en n gp C s2 ∧ s2.heap.IsGen a s1.gens.size ∧ KG s1 s2 ∧ s1.gens.size < s2.gens.size := by
  obtain ⟨N, qual, scope, f, cd, L, a, go, gp, gs, eu, hL, hm, hgp, os, hb, hgs, kp, wake⟩ := M
  obtain ⟨ok, goes⟩ := wake X.A.in1 ⟨hr.hd, by have := hr.dp; show X.A.depth + 3 * k + 5 < _; omega, by have := hr.un; show X.A.units + 1 + 16 * k + 200 < _; omega⟩ I.ok.frames hgd
  have lw : LowX X L := low_of I hL
  have plow : ∀ p ∈ X.pn ++ pins, p.1 < L := fun p hp => Nat.lt_of_lt_of_le (Heap.lt_size (I.pin p hp).1) hL
  have I2 : Inv X pins σ H s2 := I.call' (ch := []) os (Un.kept kp) (I.hok.kept kp) (by rw [hgs]; exact AllBare.push I.bare hb) fun b z => by simp at z
  have kg : KG s1 s2 := ⟨by rw [hgs]; simp, fun i y e _ => by rw [hgs, Array.getElem?_push, if_neg (Nat.ne_of_lt (Array.getElem?_eq_some_iff.mp e).1)]; exact e⟩
  refine ⟨N, qual, scope, f, cd, L, a, go, gp, eu, hL, ok, lw, I2.pins_of fun p hp => ?_, fun p hp q hq z => ?_, plow, fun p hp => (hgp p hp).1, ⟨gs, s2, ?_, KGx.refl _ _, hm, fun th W hC => goes th W hC⟩, ok.gen (hgp _ hm).2.1, kg, by rw [hgs]; simp⟩
  · rcases List.mem_append.mp hp with hp | hp
    · exact I2.pin p (List.mem_append_right _ hp)
    · obtain ⟨h1, h2, h3⟩ := hgp p hp
      exact ⟨h2, I.hok.fresh (Nat.le_trans hL h1), fun z => Nat.lt_irrefl _ (Nat.lt_of_lt_of_le lw.loc (z ▸ h1)), fun z => Nat.lt_irrefl _ (Nat.lt_of_lt_of_le (lw.fs _ z) h1), h3⟩
  · have h1 := plow p hp
    have h2 := (hgp q hq).1
    rw [z] at h2
    exact Nat.lt_irrefl _ (Nat.lt_of_lt_of_le h1 h2)
  · show s2.gens[s1.gens.size]? = some gs
    rw [hgs, Array.getElem?_push, if_pos rfl]
end
/-! ### for x in f(..), in a plain def -/
def tForG (sp : SpL) (ta : TA) (g : TG) (tb : TS) : TS := fun D σ H => ta σ H fun vs H1 => ∃ n yl en C, sp vs H1 n yl en C ∧ ∃ (W : Nat → L2.St → Wp → Prop) (w : Wp), w.H = H1 ∧ W n σ w ∧ C w ∧
  (∀ m w y H' C', yl m w y H' C' → ∀ σ, W (m + 1) σ w → g y σ H' fun σ2 H2 => tb { D with nx := fun σ3 H3 => ∃ w' : Wp, w'.H = H3 ∧ W m σ3 w' ∧ C' w', ct := fun σ3 H3 => ∃ w' : Wp, w'.H = H3 ∧ W m σ3 w' ∧ C' w', bk := D.nx } σ2 H2) ∧ ∀ m w H', en m w H' → ∀ σ, W m σ w → D.nx σ H'
theorem go_gen {M : Model} {A : Around} {E : Value → Shared → Prop} {s : Shared} {tg : Expr} {a : Addr} {g : Nat} {u : Value} {Q : Unit → Shared → Prop} (h : s.heap.IsGen a g) (hQ : Q () s) : wpAny M A (letOwnedTupleGo tg (.ref a) u) Q E s := by
  obtain ⟨o, nm, qn, ho, hc, hd, _⟩ := h
  exact go_of ho hc hd (by decide) hQ
section
variable {X : Cx} {k : Nat} {f : Addr} {fd : FuncData} {ps : List Str} {sp : SpL} {x : Str} {p pos pos' : Pos} {e : Expr} {es : List Expr} {ta : TA} {tg : Expr} {body : List Stmt} {g : TG} {tb : TS}
theorem ps_forG (hx : X.xe = fun _ _ => False) (hc : X.calm = true) (hgd : X.A.guards = some []) (F : LFn X.prog X.w X.K X.mg X.base k f fd ps sp) (hr : Room (k + 1) X.A) (hgl : Gl X x) (hm : X.mg x = some (.ref f)) (hk : PySem.W.keepIn X.K (.ref f) = true) (hbi : Binds X.K fd ps []) (ha : PA X (e :: es) ta) (hg : PG X tg g) (hb : PSs X body tb)
    (hdb : (x == ("__debug__" : Str)) = false := by decide) (he : starEach (e :: es) X.env = (false, eval e X.env) :: starEach es X.env := by rfl) (hpl : (backTo pos' (starEach es X.env)).any (·.1) = false := by rfl)
    (hs : ∀ y, foldedSetIterable (.Call (.Name x p) (e :: es) [] pos') X.env y = pure y := by intro _; rfl) : PS X (.For tg (.Call (.Name x p) (e :: es) [] pos') body [] pos) (tForG sp ta g tb) := by
  refine ⟨fun pins s σ H D I h => ?_⟩
  have hp : PassesOwn (model X.prog X.w) X.A X.env X.xe := by rw [hx]; exact .never
  refine wpAny_For (wpAny_mono (eval_gen hx F (hr.mono (Nat.le_succ k)) hgl hm hk hbi ha hdb he hpl I (Z := fun n yl en C H1 => ∃ (W : Nat → L2.St → Wp → Prop) (w : Wp), w.H = H1 ∧ W n σ w ∧ C w ∧ (∀ m w y H' C', yl m w y H' C' → ∀ σ, W (m + 1) σ w → g y σ H' fun σ2 H2 => tb { D with nx := fun σ3 H3 => ∃ w' : Wp, w'.H = H3 ∧ W m σ3 w' ∧ C' w', ct := fun σ3 H3 => ∃ w' : Wp, w'.H = H3 ∧ W m σ3 w' ∧ C' w', bk := D.nx } σ2 H2) ∧ ∀ m w H', en m w H' → ∀ σ, W m σ w → D.nx σ H') h) (fun u s2 ⟨n, yl, en, C, H1, s1, z, I1, M, _⟩ => ?_) fun _ _ z => z.elim) hs
  obtain ⟨W, w0, e0, W0, c0, hy, hend⟩ := z
  subst e0
  obtain ⟨N, qual, scope, fa, cd, L, a, go, gp, eu, hL, ok, lw, I2, dis, plow, yg, S, hgen, kg, lt⟩ := made_slp hc hgd hr I1 M
  subst eu
  refine wpAny_pyIter_gen hgen ?_
  refine codeAny_forLoop_any (fun m s' => ∃ σ' H' gp' C', Inv X (pins ++ gp') σ' (Wp.H H') s' ∧ (∀ p ∈ X.pn ++ pins, ∀ q ∈ gp', q.1 ≠ p.1) ∧ Slp (GD.of X N qual scope fa cd L a s1.gens.size go) yl en m gp' C' s' ∧ W m σ' H' ∧ C' H') ?_ n ⟨σ, w0, gp, C, I2, dis, S, W0, c0⟩
  rintro m s3 ⟨σ3, H3, gp3, C3, I3, dis3, S3, w3, c3⟩
  refine wpAny_passesOwn hp (thn (gen_turn hc ok (by have := hr.dp; omega) lw I3 S3 c3 dis3) fun r s4 h4 => ?_)
  rcases h4 with ⟨m', v, y, H4, C4, gp4, em, er, rv, I4, dis4, yg4, S4, sl4, hyl, kg4⟩ | ⟨er, H4, I4, hen, kg4⟩
  · subst em er
    have hm4 : (a, go) ∈ gp4 := let ⟨_, _, _, _, q, _⟩ := S4; q
    have hg4 : s4.heap.IsGen a s1.gens.size := ok.gen (I4.pin (a, go) (List.mem_append_right _ (List.mem_append_right _ hm4))).1
    refine wpAny_passesOwn hp (go_gen hg4 ?_)
    have q4 := hy m' H3 y H4 C4 hyl σ3 w3
    have run1 := (hg.run (pins ++ gp4) { s4 with gens := s4.gens.map stun } σ3 H4 y v _ (inv_stun I4) rv q4)
    rw [hx] at run1
    refine wpAny_passesOwn hp (wpAny_mono (kg_run (X := X) I4.bare run1 fun _ s0' s' SS ⟨σ5, H5, I5, q5⟩ => ⟨σ5, H5, SS.inv I4.bare I5, q5⟩) (fun _ s5 ⟨⟨σ5, H5, I5, q5⟩, kg5⟩ => ?_) fun _ _ z => z.elim)
    have run2 := (hb.run (pins ++ gp4) { s5 with gens := s5.gens.map stun } σ5 H5 _ (inv_stun I5) q5)
    rw [hx] at run2
    refine wpAny_passesOwn hp (wpAny_mono (kg_run (X := X) I5.bare run2 fun fl s0' s' SS q => SS.sp I5.bare q) (fun fl s6 ⟨q6, kg6⟩ => ?_) fun _ _ z => z.elim)
    have again : ∀ {σ7 : L2.St} {H7 : Hp}, Inv X (pins ++ gp4) σ7 H7 s6 → (∃ w' : Wp, w'.H = H7 ∧ W m' σ7 w' ∧ C4 w') → ∃ m2, m2 < m' + 1 ∧ ∃ σ' H' gp' C', Inv X (pins ++ gp') σ' (Wp.H H') s6 ∧ (∀ p ∈ X.pn ++ pins, ∀ q ∈ gp', q.1 ≠ p.1) ∧ Slp (GD.of X N qual scope fa cd L a s1.gens.size go) yl en m2 gp' C' s6 ∧ W m2 σ' H' ∧ C' H' := fun {σ7 H7} I7 ⟨w7, e7, a7, b7⟩ => by
      subst e7
      exact ⟨m', Nat.lt_succ_self _, σ7, w7, gp4, C4, I7, dis4, (S4.keep sl4 (kg5.trans kg6)).1, a7, b7⟩
    cases fl with
    | next => obtain ⟨σ7, H7, I7, n7⟩ := q6; exact again I7 n7
    | cont => obtain ⟨σ7, H7, I7, n7⟩ := q6; exact again I7 n7
    | brk => obtain ⟨σ7, H7, I7, q7⟩ := q6; exact ⟨σ7, H7, I7.unpinned, q7⟩
    | ret v => obtain ⟨x7, σ7, H7, I7, r7, q7⟩ := q6; exact ⟨x7, σ7, H7, I7.unpinned, r7, q7⟩
  · subst er
    exact wpAny_execs_nil ⟨σ3, H4, I4, hend m H3 H4 hen σ3 w3⟩
end
/-! ### in a generator def -/
section
variable {D : GD} {yl0 : YlT} {en0 : EnT} {pos pos' : Pos} {tg : Expr} {body : List Stmt} {g : TG} {tb : TLn}
/-- a turn that leaves the frame where it was -/
theorem GJ.step {th : Th} {ip ip' : Pins} {σ σ' : L2.St} {H H' : Hp} {s s' : Shared} (J : GJ D th ip σ H s) (I : Inv (D.cx th) ip' σ' H' s') (kg : KG s s') (dis : ∀ p ∈ th.pc, ∀ q ∈ ip', q.1 ≠ p.1) : GJ D th ip' σ' H' s' := ⟨I, J.kg.trans kg.n, dis, J.disa, kg.old D.g _ J.run trivial, J.sz, J.lsz⟩
/-- a turn of what is walked, its record -/
structure FpG (D : GD) (ip : Pins) (fp : List Addr) : Prop where
  loc : ∀ b ∈ fp, b ≠ D.L ∧ b ∉ frs D.outer ∧ D.L ≤ b ∧ D.a ≠ b
  dis : ∀ b ∈ fp, ∀ p ∈ ip, p.1 ≠ b
theorem FpG.ok (okD : D.Ok) {ip : Pins} {fp : List Addr} {th : Th} {H : Hp} (h : FpG D ip fp) (hn : ∀ b ∈ fp, H b = none) (hd : ∀ p ∈ th.pc, ∀ b ∈ fp, p.1 ≠ b) : ∀ b ∈ fp, FpOk (D.cx th) ip H b := fun b hb => by
  obtain ⟨h1, h2, h3, h4⟩ := h.loc b hb
  refine ⟨hn b hb, h1, h2, .inr (Nat.le_trans cut_le h3), fun x c e => ?_, fun p hp => ?_⟩
  · have e : D.env.cells.lookup x = some c := e
    rw [okD.cells x] at e
    cases e
  · rcases List.mem_append.mp hp with hp | hp
    · rcases List.mem_append.mp hp with hp | hp
      · exact hd p hp b hb
      · rw [List.mem_singleton.mp hp]; exact h4
    · exact h.dis b hb p hp
end
end DS
/-! generators in turns, over data -/
namespace DS
open PySem PySem.Spec PyProof.Rows L2 GenW
/-! ### other addresses hidden -/
theorem RowsOk.rehide {K : PySem.W.Frag} {O O' : Hid} {H H' : Hp} (f : Same (Fz O H) (Fz O' H')) : ∀ {qs : List Addr} {dss : List (List PyData)}, RowsOk K O H qs dss → (∀ q ∈ qs, H' q = H q ∧ O' q) → RowsOk K O' H' qs dss
  | _, _, .nil, _ => .nil
  | _, _, .cons h1 h2 h3 r, k => .cons (k _ List.mem_cons_self).2 ((k _ List.mem_cons_self).1.trans h2) (h3.same f) (r.rehide f fun q hq => k q (List.mem_cons_of_mem _ hq))
theorem EntOk.rehide {K : PySem.W.Frag} {O O' : Hid} {H H' : Hp} {dv : V} {ov : Option V} (f : Same (Fz O H) (Fz O' H')) : ∀ {e : Ent}, EntOk K O H dv ov e → (∀ q, Hd H ov e q → H' q = H q ∧ O' q) → EntOk K O' H' dv ov e
  | .na, _, _ => trivial
  | .dat d, ⟨v, h1, h2⟩, _ => ⟨v, h1, h2.same f⟩
  | .own ds, ⟨p, vs, h1, h2, h3, h4⟩, k => ⟨p, vs, h1, (k p h1).2, (k p h1).1.trans h3, h4.same f⟩
  | .rows dss, ⟨p, qs, h1, h2, h3, h4, h5, h6⟩, k => ⟨p, qs, h1, (k p (.inl h1)).2, (k p (.inl h1)).1.trans h3, h4, h5, h6.rehide f fun q hq => k q (.inr ⟨p, _, h1, h3, List.mem_map_of_mem hq⟩)⟩
  | .dct kds, ⟨p, vs, h1, h2, h3, h4⟩, k => ⟨p, vs, h1, (k p h1).2, (k p h1).1.trans h3, h4.same f⟩
  | .dck kds, ⟨p, vs, h1, h2, h3, h4⟩, k => ⟨p, vs, h1, (k p h1).2, (k p h1).1.trans h3, h4.same f⟩
  | .dk, h, _ => h
  | .tn ds, ⟨p, vs, o, h1, h2, h3, h4, h5⟩, _ => ⟨p, vs, o, h1, f p _ h2, h3, h4, h5.same f⟩
  | .sd l d, ⟨v, h1, h2⟩, _ => ⟨v, h1, h2.same f⟩
  | .err a d g, ⟨h, k0, k⟩, _ => ⟨h, k0, fun y x e => by
    obtain ⟨dd, v, h1, h2, h3⟩ := k y x e
    exact ⟨dd, v, h1, f dd _ h2, h3.same f⟩⟩
/-- the addresses of one's own, all together -/
def OwnAt (σ : L2.St) (ρ : Dn) (H : Hp) : Hid := fun q => ∃ (i : Nat) (e : Ent) (ov : Option V), ρ[i]? = some e ∧ σ[i]? = some ov ∧ Hd H ov e q
theorem RepE.rehide {K : PySem.W.Frag} {O O' : Hid} {H H' : Hp} {dv : V} {σ : L2.St} {ρ : Dn} (h : RepE K O H dv σ ρ) (f : Same (Fz O H) (Fz O' H')) (k : ∀ q, OwnAt σ ρ H q → H' q = H q ∧ O' q) : RepE K O' H' dv σ ρ := ⟨h.1, fun i e q => by
  obtain ⟨ov, h1, h2⟩ := h.2 i e q
  exact ⟨ov, h1, h2.rehide f fun a z => k a ⟨i, e, ov, q, h1, z⟩⟩⟩
/-! ### a turn's frame -/
/-- Z, Hz: what stands besides (the own things of a generator that it walks) -/
structure ZOk (Z : Hid) (Hz : Hp) (w : Wp) : Prop where
  al : Al w.O w.H
  nn : ∀ q, Z q → Hz q ≠ none
  old : ∀ q, Z q → w.G q ∨ w.H q = none
open Classical in
noncomputable def segF (Z : Hid) (Hz : Hp) (w : Wp) : Fr := ⟨fun b => if Z b then Hz b else Fz w.G w.H b, fun b => (w.O b ∧ ¬ w.G b) ∨ Z b, fun _ => False, .non, fun _ _ => True⟩
theorem seg_in {Z : Hid} {Hz : Hp} {w : Wp} {b : Addr} (h : Z b) : (segF Z Hz w).H0 b = Hz b := if_pos h
theorem seg_out {Z : Hid} {Hz : Hp} {w : Wp} {b : Addr} (h : ¬ Z b) : (segF Z Hz w).H0 b = Fz w.G w.H b := if_neg h
theorem segF_ok {Z : Hid} {Hz : Hp} {w : Wp} (z : ZOk Z Hz w) : (segF Z Hz w).Ok := ⟨fun _ _ _ _ _ => trivial, fun b hb => by
  by_cases k : Z b
  · rw [seg_in k]; exact z.nn b k
  · rw [seg_out k]
    rcases hb with ⟨h1, h2⟩ | h
    · rw [fz_out h2]; exact z.al b h1
    · exact absurd h k⟩
theorem seg_none {Z : Hid} {Hz : Hp} {w : Wp} (z : ZOk Z Hz w) {q : Addr} (h : (segF Z Hz w).H0 q = none) : ¬ Z q ∧ (w.G q ∨ w.H q = none) := by
  by_cases k : Z q
  · rw [seg_in k] at h; exact absurd h (z.nn q k)
  · refine ⟨k, ?_⟩
    rw [seg_out k] at h
    by_cases g : w.G q
    · exact .inl g
    · rw [fz_out g] at h; exact .inr h
/-- where it may be woken: what it saw, and what is its own, stands -/
structure WkD (Og G1 : Hid) (H1 : Hp) (w : Wp) : Prop where
  al : Al w.O w.H
  G : w.G = G1
  vis : ∀ b o, Fz Og H1 b = some o → Fz w.O w.H b = some o
  own : ∀ q, G1 q → w.H q = H1 q ∧ w.O q
/-- what a turn leaves as it was -/
def Kept (w : Wp) (H1 : Hp) : Prop := ∀ b o, w.H b = some o → ¬ w.G b → H1 b = some o
def ylD (K : PySem.W.Frag) (N : Nat) (out : List PyData) : YlT := fun m w x H1 C => ∃ i d Og G1, m + (i + 1) = N ∧ out[i]? = some d ∧ Dx K (Fz Og H1) x d ∧ Kept w H1 ∧ (∀ b, w.O b → ¬ w.G b → Og b) ∧ (∀ q, G1 q → Og q ∧ (w.G q ∨ w.H q = none) ∧ H1 q ≠ none) ∧ ∀ w', WkD Og G1 H1 w' → C w'
def enD (N : Nat) (out : List PyData) : EnT := fun m w H1 => m + out.length = N ∧ Kept w H1
structure EndsG (K : PySem.W.Frag) (N : Nat) (Z : Hid) (Hz : Hp) (B : Hp) (DD : Res → List PyData → Prop) (E : EndsL) : Prop where
  nx : ∀ w Og σ H ρ n ds, ZOk Z Hz w → RepS K (segF Z Hz w) B Og H σ ρ 0 → n + ds.length = N → DD (.nx ρ) ds → E.nx n w σ H
  bk : ∀ w Og σ H ρ n ds, ZOk Z Hz w → RepS K (segF Z Hz w) B Og H σ ρ 0 → n + ds.length = N → DD (.bk ρ) ds → E.bk n w σ H
  ct : ∀ w Og σ H ρ n ds, ZOk Z Hz w → RepS K (segF Z Hz w) B Og H σ ρ 0 → n + ds.length = N → DD (.ct ρ) ds → E.ct n w σ H
def tLD (K : PySem.W.Frag) (N : Nat) (out : List PyData) (f : GFd) : TLn := fun E n w σ H => ∃ Z Hz B Og ρ ds DD r ds', ZOk Z Hz w ∧ RepS K (segF Z Hz w) B Og H σ ρ 0 ∧ n + ds.length = N ∧ f ds ρ = some (r, ds') ∧ ds' <+: out ∧ (∀ d, r ≠ .rt d) ∧ DD r ds' ∧ EndsG K N Z Hz B DD E
def Grow (f : GFd) : Prop := ∀ ds ρ r ds', f ds ρ = some (r, ds') → ds <+: ds'
structure LZ (D : GD) (st : Stmt) (f : GFd) : Prop where
  ls : ∀ N out, out.length ≤ N → LS D (ylD D.K N out) (enD N out) st (tLD D.K N out f)
  gr : Grow f
structure LZs (D : GD) (st : List Stmt) (f : GFd) : Prop where
  ls : ∀ N out, out.length ≤ N → LSs D (ylD D.K N out) (enD N out) st (tLD D.K N out f)
  gr : Grow f
theorem kept_rep {K : PySem.W.Frag} {Z : Hid} {Hz : Hp} {w : Wp} {B : Hp} {Og : Hid} {H : Hp} {σ : L2.St} {ρ : Dn} (z : ZOk Z Hz w) (R : RepS K (segF Z Hz w) B Og H σ ρ 0) : Kept w H := fun b o e g => R.kp b o (by
  rw [seg_out fun k => (z.old b k).elim g (fun y => by rw [e] at y; cases y), fz_out g]
  exact e) fun z => z
/-- woken again -/
theorem wake_rep {K : PySem.W.Frag} {Z : Hid} {Hz : Hp} {w w' : Wp} {B : Hp} {Og : Hid} {H : Hp} {σ : L2.St} {ρ : Dn} (zk : ZOk Z Hz w) (R : RepS K (segF Z Hz w) B Og H σ ρ 0) (W : WkD Og (fun q => OwnAt σ ρ H q ∨ Z q) H w') : ∃ Og', RepS K (segF Z Hz w') B Og' w'.H σ ρ 0 ∧ ZOk Z Hz w' := by
  have vis : Same (Fz Og H) (Fz (fun b => Fz Og H b = none ∧ w'.H b ≠ none) w'.H) := fun b o e => by
    have h1 := W.vis b o e
    rw [fz_out fun z => by rw [z.1] at e; cases e]
    exact (fz_get h1).1
  have own : ∀ q, OwnAt σ ρ H q → w'.H q = H q ∧ (Fz Og H q = none ∧ w'.H q ≠ none) := fun q hq => by
    obtain ⟨i, e, ov, e1, e2, e3⟩ := id hq
    obtain ⟨h1, _⟩ := W.own q (.inl hq)
    obtain ⟨h3, x, h4⟩ := (R.ent e1 e2).hd e3
    exact ⟨h1, fz_in h3, by rw [h1, h4]; exact fun z => nomatch z⟩
  have zz : ∀ q, Z q → ∃ x, Hz q = some x ∧ H q = some x ∧ w'.H q = some x ∧ Fz Og H q = none := fun q hq => by
    cases e : Hz q with
    | none => exact absurd e (zk.nn q hq)
    | some x =>
      have h1 := R.kp q x ((seg_in hq).trans e) fun z => z
      exact ⟨x, rfl, h1, (W.own q (.inr hq)).1.trans h1, fz_in (R.sub q (.inr hq))⟩
  refine ⟨fun b => Fz Og H b = none ∧ w'.H b ≠ none, ⟨fun b z => z.2, R.rep.rehide vis own, fun b x e _ => ?_, fun b hb => ?_, fun b z => z.elim, R.fz.trans vis, fun i e ov q e1 e2 e3 => ?_, trivial⟩, ⟨W.al, zk.nn, fun q hq => .inl (by rw [W.G]; exact .inr hq)⟩⟩
  · by_cases k : Z b
    · rw [seg_in k] at e
      obtain ⟨y, h1, _, h3, _⟩ := zz b k
      rw [e] at h1
      cases h1
      exact h3
    · rw [seg_out k] at e
      exact (fz_get e).1
  · rcases hb with ⟨h1, _⟩ | hb
    · refine ⟨?_, W.al b h1⟩
      cases z : Fz Og H b with
      | none => rfl
      | some o => exact absurd h1 (fz_get (W.vis b o z)).2
    · obtain ⟨y, _, _, h3, h4⟩ := zz b hb
      exact ⟨h4, by rw [h3]; exact fun z => nomatch z⟩
  · have back : ∀ (j : Nat) (e' : Ent) (ov' : Option L2.V), ρ[j]? = some e' → σ[j]? = some ov' → Hd w'.H ov' e' q → Hd H ov' e' q := fun j e' ov' z1 z2 z3 => Hd.eq (R.ent z1 z2) (fun a za => (own a ⟨j, e', ov', z1, z2, za⟩).1) z3
    have h1 := back i e ov e1 e2 e3
    obtain ⟨k, _⟩ := seg_none zk (R.ow i e ov q e1 e2 h1).1
    refine ⟨?_, fun z => z, fun j e' ov' z1 z2 z3 => (R.ow i e ov q e1 e2 h1).2.2 j e' ov' z1 z2 (back j e' ov' z1 z2 z3)⟩
    rw [seg_out k, W.G]
    exact fz_in (.inl ⟨i, e, ov, e1, e2, h1⟩)
section
variable {D : GD} {st : Stmt} {rest : List Stmt} {f g : GFd} {pos : Pos}
theorem lz_plain {f : SF} (h : ∀ th S, S.Ok → PZ (D.cx th) S st f) : LZ D st (gPlain f) where
  gr := fun ds ρ r ds' e => by
    obtain ⟨r1, _, e2⟩ := Option.map_eq_some_iff.mp e
    cases e2
    exact List.prefix_refl _
  ls := fun N out hN => (ls_plain (t := fun De σ H => ∃ S, S.Ok ∧ tS D.K S (dFun f) De σ H) fun th => ⟨fun pins s σ H De I ⟨S, ok, q⟩ => (h th S ok).pd.ps.run pins s σ H De I q⟩).imp fun E n w σ H ⟨Z, Hz, B, Og, ρ, ds, DD, r, ds', al, R, en, e, pre, no, q, Ed⟩ => by
    obtain ⟨r1, e1, e2⟩ := Option.map_eq_some_iff.mp e
    cases e2
    refine ⟨segF Z Hz w, segF_ok al, B, Og, ρ, 0, ⟨fun ρ' m => m = 0 ∧ DD (.nx ρ') ds, fun _ _ => False, fun ρ' m => m = 0 ∧ DD (.bk ρ') ds, fun ρ' m => m = 0 ∧ DD (.ct ρ') ds⟩, R, ⟨r, e1, ?_⟩, ⟨fun O' σ' H' ρ' n' r' z => ?_, fun O' σ' H' ρ' n' r' z => ?_, fun O' σ' H' ρ' n' r' z => ?_, fun _ _ _ _ _ _ _ _ z => z.elim⟩⟩
    · cases r with
      | nx ρ' => exact ⟨rfl, q⟩
      | rt d => exact absurd rfl (no d)
      | bk ρ' => exact ⟨rfl, q⟩
      | ct ρ' => exact ⟨rfl, q⟩
    · obtain ⟨z1, z2⟩ := z
      subst z1
      exact Ed.nx w O' σ' H' ρ' n ds al r' en z2
    · obtain ⟨z1, z2⟩ := z
      subst z1
      exact Ed.bk w O' σ' H' ρ' n ds al r' en z2
    · obtain ⟨z1, z2⟩ := z
      subst z1
      exact Ed.ct w O' σ' H' ρ' n ds al r' en z2
theorem lzs_nil : LZs D [] gNil where
  gr := fun ds ρ r ds' e => by cases e; exact List.prefix_refl _
  ls := fun N out hN => lss_nil.imp fun E n w σ H ⟨Z, Hz, B, Og, ρ, ds, DD, r, ds', al, R, en, e, pre, no, q, Ed⟩ => by
    cases e
    exact Ed.nx w Og σ H ρ n ds al R en q
theorem lzs_cons (h1 : LZ D st f) (h2 : LZs D rest g) : LZs D (st :: rest) (gSeq f g) where
  gr := fun ds ρ r ds' e => by
    obtain ⟨⟨r1, ds1⟩, e1, e2⟩ := Option.bind_eq_some_iff.mp e
    have p1 := h1.gr _ _ _ _ e1
    cases r1 with
    | nx ρ' => exact p1.trans (h2.gr _ _ _ _ e2)
    | rt d => cases e2; exact p1
    | bk ρ' => cases e2; exact p1
    | ct ρ' => cases e2; exact p1
  ls := fun N out hN => (lss_cons (h1.ls N out hN) (h2.ls N out hN)).imp fun E n w σ H ⟨Z, Hz, B, Og, ρ, ds, DD, r, ds', al, R, en, e, pre, no, q, Ed⟩ => by
    obtain ⟨⟨r1, ds1⟩, e1, e2⟩ := Option.bind_eq_some_iff.mp e
    have k : ∀ d, r1 ≠ .rt d := fun d z => by
      subst z
      cases e2
      exact no d rfl
    have pre1 : ds1 <+: out := by
      cases r1 with
      | nx ρ' => exact (h2.gr _ _ _ _ e2).trans pre
      | rt d => exact absurd rfl (k d)
      | bk ρ' => cases e2; exact pre
      | ct ρ' => cases e2; exact pre
    refine ⟨Z, Hz, B, Og, ρ, ds, fun x es => match x with | .nx ρ' => g es ρ' = some (r, ds') | x => DD x es, r1, ds1, al, R, en, e1, pre1, k, ?_, ⟨fun w' Og' σ' H' ρ' n' es al' R' en' z => ⟨Z, Hz, B, Og', ρ', es, DD, r, ds', al', R', en', z, pre, no, q, Ed⟩, Ed.bk, Ed.ct⟩⟩
    cases r1 with
    | nx ρ' => exact e2
    | rt d => exact absurd rfl (k d)
    | bk ρ' => cases e2; exact q
    | ct ρ' => cases e2; exact q
theorem lz_yield (ok : D.Ok) {e : Expr} {f : DF} {yp : Pos} (he : ∀ th, PF (D.cx th) e f) (hco : D.env.scope.isCoroutine = false := by rfl) (hi : interactive D.env = false := by rfl) : LZ D (.Expr (.Yield (some e) yp) pos) (gYield f) where
  gr := fun ds ρ r ds' e => by
    obtain ⟨d, _, e2⟩ := Option.bind_eq_some_iff.mp e
    split at e2
    · cases e2; exact List.prefix_append _ _
    · cases e2
  ls := fun N out hN => (ls_yield ok (te := tF D.K f) (fun th => (he th).pe) hco hi).imp fun E n w σ H ⟨Z, Hz, B, Og, ρ, ds, DD, r, ds', al, R, en, e, pre, no, q, Ed⟩ => by
    obtain ⟨d, e1, e2⟩ := Option.bind_eq_some_iff.mp e
    split at e2
    case isFalse => cases e2
    cases e2
    refine ⟨Og, .non, ρ, d, R.al, R.rep, e1, fun v H' s hv => ?_⟩
    have R2 := R.same (segF_ok al) s
    have ei : out[ds.length]? = some d := by
      obtain ⟨tl, et⟩ := pre
      rw [← et, List.append_assoc, List.getElem?_append_right (Nat.le_refl _), Nat.sub_self]
      rfl
    have lt : ds.length < out.length := (List.getElem?_eq_some_iff.mp ei).1
    refine ⟨n - 1, by omega, WkD Og (fun q => OwnAt σ ρ H' q ∨ Z q) H', ⟨ds.length, d, Og, fun q => OwnAt σ ρ H' q ∨ Z q, by omega, ei, hv, kept_rep al R2, fun b h1 h2 => R2.sub b (.inl ⟨h1, h2⟩), fun q hq => ?_, fun w' z => z⟩, fun w' W => ?_⟩
    · rcases hq with hq | hq
      · obtain ⟨i, e, ov, e1, e2, e3⟩ := hq
        obtain ⟨h1, x, h2⟩ := (R2.ent e1 e2).hd e3
        exact ⟨h1, (seg_none al (R2.ow i e ov q e1 e2 e3).1).2, by rw [h2]; exact fun z => nomatch z⟩
      · refine ⟨R2.sub q (.inr hq), al.old q hq, ?_⟩
        cases e : Hz q with
        | none => exact absurd e (al.nn q hq)
        | some x =>
          rw [R2.kp q x ((seg_in hq).trans e) fun z => z]
          exact fun z => nomatch z
    · obtain ⟨Og', R3, al3⟩ := wake_rep al R2 W
      exact Ed.nx w' Og' σ w'.H ρ (n - 1) _ al3 R3 (by rw [List.length_append, List.length_singleton]; omega) q
theorem gWhile_grow {t : Dn → Option Bool} {f : GFd} (h : Grow f) : ∀ m, Grow (gWhile t f m)
  | 0, ds, ρ, r, ds', e => by cases e
  | m + 1, ds, ρ, r, ds', e => by
    obtain ⟨b, _, e2⟩ := Option.bind_eq_some_iff.mp e
    cases b with
    | false =>
      simp only [Bool.false_eq_true, if_false] at e2
      cases e2
      exact List.prefix_refl _
    | true =>
      simp only [if_true] at e2
      obtain ⟨⟨r1, ds1⟩, e3, e4⟩ := Option.bind_eq_some_iff.mp e2
      have p1 := h _ _ _ _ e3
      cases r1 with
      | nx ρ3 => exact p1.trans (gWhile_grow h m _ _ _ _ e4)
      | ct ρ3 => exact p1.trans (gWhile_grow h m _ _ _ _ e4)
      | bk ρ3 => cases e4; exact p1
      | rt d => cases e4; exact p1
theorem lz_while (m : Nat) {c : Expr} {body : List Stmt} {t : Dn → Option Bool} (hc : ∀ th, PFT (D.cx th) c t) (hb : LZs D body f) : LZ D (.While c body [] pos) (gWhile t f m) where
  gr := gWhile_grow hb.gr m
  ls := fun N out hN => (ls_while (tc := tFT D.K t) (fun th => (hc th).pt) (hb.ls N out hN)).imp fun E n w σ H ⟨Z, Hz, B, Og, ρ, ds, DD, r, ds', al, R, en, e, pre, no, q, Ed⟩ => by
    refine ⟨fun m n w σ H => ∃ Og ρ es, ZOk Z Hz w ∧ RepS D.K (segF Z Hz w) B Og H σ ρ 0 ∧ n + es.length = N ∧ gWhile t f m es ρ = some (r, ds'), ⟨m, Og, ρ, ds, al, R, en, e⟩, ?_⟩
    rintro m n w σ H ⟨Og, ρ, es, al, R, en, e⟩
    cases m with
    | zero => cases e
    | succ m =>
      obtain ⟨b, e1, e2⟩ := Option.bind_eq_some_iff.mp e
      refine ⟨Og, .non, ρ, b, R.al, R.rep, e1, fun H2 s => ?_⟩
      have R2 := R.same (segF_ok al) s
      cases b with
      | false =>
        simp only [Bool.false_eq_true, if_false] at e2
        cases e2
        exact iteF (Ed.nx w Og σ H2 ρ n _ al R2 en q)
      | true =>
        simp only [if_true] at e2
        obtain ⟨⟨r1, ds1⟩, e3, e4⟩ := Option.bind_eq_some_iff.mp e2
        have k : ∀ d, r1 ≠ .rt d := fun d z => by
          subst z
          cases e4
          exact no d rfl
        have pre1 : ds1 <+: out := by
          cases r1 with
          | nx ρ3 => exact (gWhile_grow hb.gr m _ _ _ _ e4).trans pre
          | ct ρ3 => exact (gWhile_grow hb.gr m _ _ _ _ e4).trans pre
          | bk ρ3 => cases e4; exact pre
          | rt d => exact absurd rfl (k d)
        refine iteT ⟨fun n' w' σ' H' => ∃ m', m' < m + 1 ∧ ∃ Og ρ es, ZOk Z Hz w' ∧ RepS D.K (segF Z Hz w') B Og H' σ' ρ 0 ∧ n' + es.length = N ∧ gWhile t f m' es ρ = some (r, ds'), fun _ _ _ _ h => h,
          Z, Hz, B, Og, ρ, es, fun x es => match x with | .nx ρ' => gWhile t f m es ρ' = some (r, ds') | .ct ρ' => gWhile t f m es ρ' = some (r, ds') | .bk ρ' => DD (.nx ρ') es | .rt _ => False, r1, ds1, al, R2, en, e3, pre1, k, ?_,
          ⟨fun w' Og' σ' H' ρ' n' es' al' R' en' z => ⟨m, Nat.lt_succ_self _, Og', ρ', es', al', R', en', z⟩, fun w' Og' σ' H' ρ' n' es' al' R' en' z => Ed.nx w' Og' σ' H' ρ' n' es' al' R' en' z, fun w' Og' σ' H' ρ' n' es' al' R' en' z => ⟨m, Nat.lt_succ_self _, Og', ρ', es', al', R', en', z⟩⟩⟩
        cases r1 with
        | nx ρ3 => exact e4
        | ct ρ3 => exact e4
        | bk ρ3 => cases e4; exact q
        | rt d => exact absurd rfl (k d)
/-! for -/
end
end DS
/-! a generator def over data; for over its calls -/
namespace DS
open PySem PySem.Spec PyProof.Rows L2 GenW
def spLF (K : PySem.W.Frag) (na : Nat) (sem : List PyData → Option (List PyData)) : SpL := fun vs H n yl en C => ∃ O ds out, Al O H ∧ DxAll K (Fz O H) vs ds ∧ ds.length = na ∧ sem ds = some out ∧ out.length ≤ n ∧ yl = ylD K n out ∧ en = enD n out ∧ C = WkD O (fun _ => False) H
section
variable {P : Program} {w : World} {K : PySem.W.Frag} {mg : Str → Option Value} {base : Heap}
theorem lfn_z {x qual : Str} {st : Stmt} {N ps : List Str} {fa : Addr} {fd : FuncData} {k n : Nat} {f : GFd} (F : Fun K x qual st fa fd) (Sc : GScope N ps (defScope st)) (hn : ps.length = n) (hce : ∀ i : Addr, cellsFrom i (defScope st).names [] = []) (hnc : ∀ y ∈ (defScope st).names, y.2 ≠ .cell)
    (hb : ∀ (cdv : Value) (A : Around) (outer : List Env) (L a : Addr) (g : Nat) (go : Obj), (GD.mk P w K mg base N qual (defScope st) fa cdv A outer L a g go).Ok → (A.deeper (envOfC qual (defScope st) L fa cdv)).guards = some [] → Room k (A.deeper (envOfC qual (defScope st) L fa cdv)) →
      LZs (GD.mk P w K mg base N qual (defScope st) fa cdv A outer L a g go) (defBody st) f) : LFn P w K mg base (k + 1) fa fd ps (spLF K n (semG N.length f)) := by
  obtain ⟨oc, od, kV, doc, pm, an, cdv, ct, osl, rfl, lk, hcd⟩ := F.ex
  refine lfn_of lk hcd Sc hce hnc (fun vs H n' yl en C ⟨O, ds, out, al, h1, h2, _⟩ => by rw [h1.len, h2, hn]) fun A outer L a g go vs H n' yl en C ok hr hsp => ?_
  obtain ⟨O, ds, out, al, dx, hl, es, hle, e1, e2, e3⟩ := hsp
  subst e1 e2 e3
  refine ⟨_, (hb cdv A outer L a g go ok ok.gds hr).ls n' out hle, fun w' W => ?_⟩
  obtain ⟨⟨r, out'⟩, e1, e2⟩ := Option.bind_eq_some_iff.mp es
  have vis : Same (Fz O H) (Fz (fun b => Fz O H b = none ∧ w'.H b ≠ none) w'.H) := fun b o e => by
    have h1 := W.vis b o e
    rw [fz_out fun z => by rw [z.1] at e; cases e]
    exact (fz_get h1).1
  have zk : ZOk (fun _ => False) w'.H w' := ⟨W.al, fun _ z => z.elim, fun _ z => z.elim⟩
  refine ⟨fun _ => False, w'.H, _, fun b => Fz O H b = none ∧ w'.H b ≠ none, _, [], fun x es => ∃ ρ, x = .nx ρ ∧ es = out, r, out', zk, ⟨fun b z => z.2, repE_start (dx.same vis), fun b x e _ => (fz_get ((seg_out fun z => z).symm.trans e)).1, fun b hb => ?_, fun b z => z.elim, Same.refl _, fun i g og q e1 e2 e3 => ?_, trivial⟩, rfl, e1, ?_, ?_, ?_, ?_⟩
  · rcases hb with ⟨h1, _⟩ | h1
    · refine ⟨?_, W.al b h1⟩
      cases z : Fz O H b with
      | none => rfl
      | some o => exact absurd h1 (fz_get (W.vis b o z)).2
    · exact h1.elim
  · unfold startD at e1
    by_cases lt : i < ds.length
    · rw [List.getElem?_append_left (by rw [List.length_map]; exact lt), List.getElem?_map] at e1
      cases z : ds[i]? with
      | none => rw [z] at e1; cases e1
      | some d => rw [z] at e1; cases e1; exact e3.elim
    · rw [List.getElem?_append_right (by rw [List.length_map]; omega), List.getElem?_replicate] at e1
      split at e1 <;> cases e1
      exact e3.elim
  · cases r with
    | nx ρ => cases e2; exact List.prefix_refl _
    | rt d => cases e2
    | bk ρ => cases e2
    | ct ρ => cases e2
  · intro d z
    subst z
    cases e2
  · cases r with
    | nx ρ => cases e2; exact ⟨ρ, rfl, rfl⟩
    | rt d => cases e2
    | bk ρ => cases e2
    | ct ρ => cases e2
  · refine ⟨fun w2 Og σ' H' ρ' n2 es al2 R en z => ?_, fun w2 Og σ' H' ρ' n2 es al2 R en z => ?_, fun w2 Og σ' H' ρ' n2 es al2 R en z => ?_⟩
    · obtain ⟨ρ, _, z2⟩ := z
      subst z2
      exact ⟨en, kept_rep al2 R⟩
    · obtain ⟨ρ, z1, _⟩ := z
      cases z1
    · obtain ⟨ρ, z1, _⟩ := z
      cases z1
end
def itG (na : Nat) (sem : List PyData → Option (List PyData)) (fa : Dn → Option (List PyData)) : Dn → Option (List PyData) := fun ρ => (fa ρ).bind fun ds => if ds.length = na then sem ds else none
theorem itG_some {na : Nat} {sem : List PyData → Option (List PyData)} {fa : Dn → Option (List PyData)} {ρ : Dn} {out : List PyData} (h : itG na sem fa ρ = some out) : ∃ ds, fa ρ = some ds ∧ ds.length = na ∧ sem ds = some out := by
  obtain ⟨ds, e1, e⟩ := Option.bind_eq_some_iff.mp h
  split at e
  case isFalse => cases e
  rename_i hl
  exact ⟨ds, e1, hl, e⟩
/-! ### the consumer's word -/
/-- G is hidden like one's own, and in no slot -/
def Virt (S : Fr) (O G : Hid) (σ : L2.St) (ρ : Dn) (H : Hp) : Prop := ∀ q, G q → O q ∧ S.H0 q = none ∧ ¬ S.M q ∧ H q ≠ none ∧ ¬ OwnAt σ ρ H q
theorem virt_none {S : Fr} {O : Hid} {σ : L2.St} {ρ : Dn} {H : Hp} : Virt S O (fun _ => False) σ ρ H := fun _ z => z.elim
section
variable {K : PySem.W.Frag} {S : Fr} {B : Hp} {O G G1 : Hid} {H H' : Hp} {σ : L2.St} {ρ : Dn} {n : Nat}
/-- behind a turn of the generator -/
theorem RepS.turned (ok : S.Ok) (R : RepS K S B O H σ ρ n) (V : Virt S O G σ ρ H) (kp : ∀ b o, H b = some o → ¬ G b → H' b = some o) (g1 : ∀ q, G1 q → (G q ∨ H q = none) ∧ H' q ≠ none) :
    RepS K S B (fun b => (O b ∧ ¬ G b) ∨ G1 b) H' σ ρ n ∧ Virt S (fun b => (O b ∧ ¬ G b) ∨ G1 b) G1 σ ρ H' := by
  have own : ∀ q, OwnAt σ ρ H q → H' q = H q ∧ (O q ∧ ¬ G q) := fun q hq => by
    obtain ⟨i, e, ov, e1, e2, e3⟩ := id hq
    obtain ⟨h1, x, h2⟩ := (R.ent e1 e2).hd e3
    have h3 : ¬ G q := fun z => (V q z).2.2.2.2 hq
    exact ⟨by rw [h2]; exact kp q x h2 h3, h1, h3⟩
  have ownE : ∀ (i : Nat) (e : Ent) (ov : Option L2.V) (q : Addr), ρ[i]? = some e → σ[i]? = some ov → Hd H ov e q → H' q = H q := fun i e ov q e1 e2 e3 => (own q ⟨i, e, ov, e1, e2, e3⟩).1
  have notG1 : ∀ b o, H b = some o → ¬ O b → ¬ G1 b := fun b o e h z => by
    rcases (g1 b z).1 with y | y
    · exact h (V b y).1
    · rw [e] at y; cases y
  have vis : Same (Fz O H) (Fz (fun b => (O b ∧ ¬ G b) ∨ G1 b) H') := fun b o e => by
    obtain ⟨e1, e2⟩ := fz_get e
    rw [fz_out fun z => z.elim (fun y => e2 y.1) (notG1 b o e1 e2)]
    exact kp b o e1 fun z => e2 (V b z).1
  have mem : ∀ b, S.M b → O b ∧ ¬ G b ∧ ∃ o, H b = some o ∧ H' b = some o := fun b m => by
    have h1 := R.mo b m
    have h2 : ¬ G b := fun z => (V b z).2.2.1 m
    cases e : H b with
    | none => exact absurd e (R.al b h1)
    | some o => exact ⟨h1, h2, o, rfl, kp b o e h2⟩
  refine ⟨⟨fun b z => ?_, R.rep.rehide vis fun q hq => ⟨(own q hq).1, .inl (own q hq).2⟩, fun b x e m => ?_, fun b z => ?_, fun b m => .inl ⟨(mem b m).1, (mem b m).2.1⟩, R.fz.trans vis, R.ow' ownE, ok.dk H H' n (fun a m => ?_) R.dk⟩, fun q hq => ⟨.inr hq, ?_, ?_, (g1 q hq).2, fun z => ?_⟩⟩
  · rcases z with ⟨z1, z2⟩ | z
    · cases e : H b with
      | none => exact absurd e (R.al b z1)
      | some o => rw [kp b o e z2]; exact fun y => nomatch y
    · exact (g1 b z).2
  · exact kp b x (R.kp b x e m) fun z => by rw [(V b z).2.1] at e; cases e
  · exact .inl ⟨R.sub b z, fun y => ok.al b z (V b y).2.1⟩
  · obtain ⟨_, _, o, e1, e2⟩ := mem a m
    rw [e1, e2]
  · rcases (g1 q hq).1 with y | y
    · exact (V q y).2.1
    · cases e : S.H0 q with
      | none => rfl
      | some x =>
        have := R.kp q x e fun m => by
          obtain ⟨_, _, o, e1, _⟩ := mem q m
          rw [y] at e1
          cases e1
        rw [y] at this
        cases this
  · intro m
    rcases (g1 q hq).1 with y | y
    · exact (V q y).2.2.1 m
    · obtain ⟨_, _, o, e1, _⟩ := mem q m
      rw [y] at e1
      cases e1
  · obtain ⟨i, e, ov, e1, e2, e3⟩ := z
    have e4 : Hd H ov e q := Hd.eq (R.ent e1 e2) (fun a za => ownE i e ov a e1 e2 za) e3
    obtain ⟨h1, x, h2⟩ := (R.ent e1 e2).hd e4
    rcases (g1 q hq).1 with y | y
    · exact (V q y).2.2.2.2 ⟨i, e, ov, e1, e2, e4⟩
    · rw [h2] at y; cases y
open Classical in
/-- the frame in which the body runs: G stands -/
noncomputable def bodyF (S : Fr) (O G : Hid) (H : Hp) : Fr := ⟨fun b => if O b ∧ ¬ G b then S.H0 b else H b, fun b => S.O0 b ∨ G b, S.M, S.dv, S.Dk⟩
theorem bodyF_own {q : Addr} (h1 : O q) (h2 : ¬ G q) : (bodyF S O G H).H0 q = S.H0 q := if_pos ⟨h1, h2⟩
theorem bodyF_else {q : Addr} (h : ¬ (O q ∧ ¬ G q)) : (bodyF S O G H).H0 q = H q := if_neg h
theorem bodyF_ok (ok : S.Ok) (R : RepS K S B O H σ ρ n) (V : Virt S O G σ ρ H) : (bodyF S O G H).Ok := ⟨ok.dk, fun b z => by
  rcases z with z | z
  · rw [bodyF_own (R.sub b z) fun y => ok.al b z (V b y).2.1]
    exact ok.al b z
  · rw [bodyF_else fun y => y.2 z]
    exact (V b z).2.2.2.1⟩
theorem RepS.inBody (R : RepS K S B O H σ ρ n) (V : Virt S O G σ ρ H) : RepS K (bodyF S O G H) (Fz O H) O H σ ρ n := by
  refine ⟨R.al, R.rep, fun b x e m => ?_, fun b z => z.elim (R.sub b) fun y => (V b y).1, R.mo, Same.refl _, fun i e ov q e1 e2 e3 => ?_, R.dk⟩
  · by_cases z : O b ∧ ¬ G b
    · rw [bodyF_own z.1 z.2] at e
      exact R.kp b x e m
    · rw [bodyF_else z] at e
      exact e
  · obtain ⟨h1, h2, h3⟩ := R.ow i e ov q e1 e2 e3
    refine ⟨?_, h2, h3⟩
    rw [bodyF_own ((R.ent e1 e2).hd e3).1 fun z => (V q z).2.2.2.2 ⟨i, e, ov, e1, e2, e3⟩]
    exact h1
theorem body_kp (R : RepS K S B O H σ ρ n) {b : Addr} {x : HO} (e : S.H0 b = some x) (m : ¬ S.M b) : (bodyF S O G H).H0 b = some x := by
  by_cases z : O b ∧ ¬ G b
  · rw [bodyF_own z.1 z.2]; exact e
  · rw [bodyF_else z]; exact R.kp b x e m
/-- back out of it -/
theorem RepS.outBody {O2 : Hid} {H2 : Hp} {σ2 : L2.St} {ρ2 : Dn} {n2 : Nat} (R : RepS K S B O H σ ρ n) (V : Virt S O G σ ρ H) (R2 : RepS K (bodyF S O G H) (Fz O H) O2 H2 σ2 ρ2 n2) : RepS K S B O2 H2 σ2 ρ2 n2 ∧ Virt S O2 G σ2 ρ2 H2 ∧ ∀ q, G q → H2 q = H q := by
  have gk : ∀ q, G q → ∃ o, H q = some o ∧ H2 q = some o ∧ (bodyF S O G H).H0 q = some o := fun q hq => by
    have h1 : (bodyF S O G H).H0 q = H q := bodyF_else fun y => y.2 hq
    cases e : H q with
    | none => exact absurd e (V q hq).2.2.2.1
    | some o => exact ⟨o, rfl, R2.kp q o (h1.trans e) (V q hq).2.2.1, h1.trans e⟩
  refine ⟨⟨R2.al, R2.rep, fun b x e m => R2.kp b x (body_kp R e m) m, fun b z => R2.sub b (.inl z), R2.mo, R.fz.trans R2.fz, fun i e ov q e1 e2 e3 => ?_, R2.dk⟩, fun q hq => ⟨R2.sub q (.inr hq), (V q hq).2.1, (V q hq).2.2.1, ?_, fun ⟨i, e, ov, e1, e2, e3⟩ => ?_⟩, fun q hq => ?_⟩
  · obtain ⟨h1, h2, h3⟩ := R2.ow i e ov q e1 e2 e3
    refine ⟨?_, h2, h3⟩
    cases z : S.H0 q with
    | none => rfl
    | some x =>
      rw [body_kp R z h2] at h1
      cases h1
  · obtain ⟨o, _, h2, _⟩ := gk q hq
    rw [h2]
    exact fun y => nomatch y
  · obtain ⟨h1, _, _⟩ := R2.ow i e ov q e1 e2 e3
    obtain ⟨o, _, _, h4⟩ := gk q hq
    rw [h4] at h1
    cases h1
  · obtain ⟨o, h1, h2, _⟩ := gk q hq
    rw [h1, h2]
end
section
variable {X : Cx} {S : Fr} {k na : Nat} {f : Addr} {fd : FuncData} {ps : List Str} {sem : List PyData → Option (List PyData)} {x : Str} {p pos pos' : Pos} {e : Expr} {es : List Expr} {fa : Dn → Option (List PyData)} {tg : Expr} {body : List Stmt} {sl : List Nat} {g : PyData → Dn → Option Dn} {T : TD}
/-- what is like S for the body -/
structure LikeF (S S' : Fr) : Prop where
  ok : S'.Ok
  dv : S'.dv = S.dv
  M : S'.M = S.M
  Dk : S'.Dk = S.Dk
theorem LikeF.like {S S' : Fr} (l : LikeF S S') : Like S S' := ⟨l.dv, l.M, l.Dk⟩
theorem _root_.DS.LFn.up {P : Program} {w : World} {K : PySem.W.Frag} {mg : Str → Option Value} {base : Heap} {k k' : Nat} {f : Addr} {fd : FuncData} {ps : List Str} {sp : SpL} (F : LFn P w K mg base k f fd ps sp) (h : k ≤ k') : LFn P w K mg base k' f fd ps sp := ⟨F.len, fun A outer s H args us vs n yl en C hr e0 hb r hs => codeAny_mono (F.run A outer s H args us vs n yl en C (hr.mono h) e0 hb r hs) fun r s' q => by
  cases r with
  | error e => exact q
  | ok fl =>
    cases fl with
    | ret u =>
      obtain ⟨N, qual, scope, f', cd, L, a, go, gp, gs, h1, h2, h3, h4, h5, h6, h7, h8, h9⟩ := q
      exact ⟨N, qual, scope, f', cd, L, a, go, gp, gs, h1, h2, h3, h4, h5, h6, h7, h8, fun Aw hr' => h9 Aw (hr'.mono h)⟩
    | next => exact q
    | brk => exact q
    | cont => exact q⟩
theorem pd_forG (ok : S.Ok) (hx : X.xe = fun _ _ => False) (hc : X.calm = true) (hgd : X.A.guards = some []) (F : LFn X.prog X.w X.K X.mg X.base k f fd ps (spLF X.K na sem)) (hr : Room (k + 1) X.A) (hgl : Gl X x) (hm : X.mg x = some (.ref f)) (hk : PySem.W.keepIn X.K (.ref f) = true) (hbi : Binds X.K fd ps [])
    (ha : PFA X (e :: es) fa) (hg : PGF X tg sl g) (sg : Sets g sl) (hb : ∀ S', LikeF S S' → PDs X S' body T)
    (hdb : (x == ("__debug__" : Str)) = false := by decide) (he : starEach (e :: es) X.env = (false, eval e X.env) :: starEach es X.env := by rfl) (hpl : (backTo pos' (starEach es X.env)).any (·.1) = false := by rfl)
    (hs : ∀ y, foldedSetIterable (.Call (.Name x p) (e :: es) [] pos') X.env y = pure y := by intro _; rfl) : PD X S (.For tg (.Call (.Name x p) (e :: es) [] pos') body [] pos) (dFor (itG na sem fa) g T) :=
  ⟨(ps_forG (tb := fun D σ H => ∃ S', LikeF S S' ∧ tS X.K S' T D σ H) hx hc hgd F hr hgl hm hk hbi ha.pa hg.pg ⟨fun pins s σ H D I ⟨S', l, q⟩ => (hb S' l).pss.run pins s σ H D I q⟩ hdb he hpl hs).imp fun D σ H ⟨B, O, ρ, n, DD, r, ⟨xs, e0, I, i0, step, fin⟩, E⟩ => by
    obtain ⟨ds, e1, hl, e2⟩ := itG_some e0
    refine ⟨O, S.dv, ρ, ds, r.al, r.rep, e1, fun vs H1 s1 dx => ?_⟩
    have r1 := r.same ok s1
    refine ⟨xs.length, ylD X.K xs.length xs, enD xs.length xs, WkD O (fun _ => False) H1, ⟨O, ds, xs, r1.al, dx, hl, e2, Nat.le_refl _, rfl, rfl, rfl⟩,
      fun m σ' w => ∃ i ρ' n', i + m = xs.length ∧ RepS X.K S B w.O w.H σ' ρ' n' ∧ Virt S w.O w.G σ' ρ' w.H ∧ I i ρ' n', ⟨H1, O, fun _ => False⟩, rfl, ⟨0, ρ, n, by simp, r1, virt_none, i0⟩, ⟨r1.al, rfl, fun _ _ e => e, fun _ z => z.elim⟩, fun m w y H' C' hy σ' hw => ?_, fun m w H' hen σ' hw => ?_⟩
    · obtain ⟨i, ρ', n', ei, R, V, inv⟩ := hw
      obtain ⟨i', d, Og, G1, em, ed, dy, kp, og, g1, hC⟩ := hy
      have ii : i' = i := by omega
      subst ii
      obtain ⟨R2, V2⟩ := R.turned ok V kp fun q hq => (g1 q hq).2
      obtain ⟨ρ2, e3, tb⟩ := step _ d ρ' n' ed inv
      have og2 : ∀ b, ((w.O b ∧ ¬ w.G b) ∨ G1 b) → Og b := fun b z => z.elim (fun y => og b y.1 y.2) fun y => (g1 b y).1
      refine ⟨fun b => (w.O b ∧ ¬ w.G b) ∨ G1 b, S.dv, ρ', d, ρ2, R2.al, R2.rep, dy.same (fz_less og2 H'), e3, fun σ2 re wp => ?_⟩
      have R3 := R2.target sg e3 re wp
      have V3 : Virt S (fun b => (w.O b ∧ ¬ w.G b) ∨ G1 b) G1 σ2 ρ2 H' := fun q hq => by
        obtain ⟨h1, h2, h3, h4, h5⟩ := V2 q hq
        refine ⟨h1, h2, h3, h4, fun ⟨j, e', ov', z1, z2, z3⟩ => h5 ?_⟩
        obtain ⟨t1, t2, t3⟩ := sg d ρ' ρ2 e3
        have nj : j ∉ sl := fun z => t3 j z e' z1 _ _ _ z3
        rw [t2 j nj] at z1
        have hw := wp sl fun i hi => hi
        have z4 : (wipe σ2 sl)[j]? = (wipe σ' sl)[j]? := by rw [hw]
        rw [wipe_get, wipe_get, if_neg nj, if_neg nj] at z4
        exact ⟨j, e', ov', z1, z4 ▸ z2, z3⟩
      refine ⟨bodyF S (fun b => (w.O b ∧ ¬ w.G b) ∨ G1 b) G1 H', ⟨bodyF_ok ok R3 V3, rfl, rfl, rfl⟩, _, _, ρ2, n', _, R3.inBody V3, tb, ?_⟩
      have out := fun {O4 : Hid} {H4 : Hp} {σ4 : L2.St} {ρ4 : Dn} {n4 : Nat} (R4 : RepS X.K (bodyF S (fun b => (w.O b ∧ ¬ w.G b) ∨ G1 b) G1 H') (Fz (fun b => (w.O b ∧ ¬ w.G b) ∨ G1 b) H') O4 H4 σ4 ρ4 n4) => R3.outBody V3 R4
      have nxt : ∀ O4 σ4 H4 ρ4 n4, RepS X.K (bodyF S (fun b => (w.O b ∧ ¬ w.G b) ∨ G1 b) G1 H') (Fz (fun b => (w.O b ∧ ¬ w.G b) ∨ G1 b) H') O4 H4 σ4 ρ4 n4 → I (i' + 1) ρ4 n4 →
          ∃ w' : Wp, w'.H = H4 ∧ (∃ i ρ' n', i + m = xs.length ∧ RepS X.K S B w'.O w'.H σ4 ρ' n' ∧ Virt S w'.O w'.G σ4 ρ' w'.H ∧ I i ρ' n') ∧ C' w' := fun O4 σ4 H4 ρ4 n4 R4 i4 => by
        obtain ⟨h1, h2, h3⟩ := out R4
        exact ⟨⟨H4, O4, G1⟩, rfl, ⟨i' + 1, ρ4, n4, by omega, h1, h2, i4⟩, hC _ ⟨h1.al, rfl, fun b o z => R4.fz b o (fz_less og2 H' b o z), fun q hq => ⟨h3 q hq, (h2 q hq).1⟩⟩⟩
      refine ⟨nxt, fun O4 σ4 H4 ρ4 n4 R4 z => E.nx O4 σ4 H4 ρ4 n4 (out R4).1 z, nxt, fun v H4 d n4 dv kp4 al4 dk4 z => E.rt v H4 d n4 (dv.same (fz_less (fun b y => .inl y) H4)) (fun b x e m => kp4 b x (body_kp R3 e m) m) (fun a y => al4 a (.inl y)) dk4 z⟩
    · obtain ⟨i, ρ', n', ei, R, V, inv⟩ := hw
      obtain ⟨em, kp⟩ := hen
      have ii : i = xs.length := by omega
      subst ii
      exact E.nx _ σ' H' ρ' n' (R.turned ok V kp (G1 := fun _ => False) fun q z => z.elim).1 (fin ρ' n' inv)⟩
theorem pz_forG {h : SF} (ok : S.Ok) (hx : X.xe = fun _ _ => False) (hc : X.calm = true) (hgd : X.A.guards = some []) (F : LFn X.prog X.w X.K X.mg X.base k f fd ps (spLF X.K na sem)) (hr : Room (k + 1) X.A) (hgl : Gl X x) (hm : X.mg x = some (.ref f)) (hk : PySem.W.keepIn X.K (.ref f) = true) (hbi : Binds X.K fd ps [])
    (ha : PFA X (e :: es) fa) (hg : PGF X tg sl g) (sg : Sets g sl) (hb : ∀ S', LikeF S S' → PZs X S' body h)
    (hdb : (x == ("__debug__" : Str)) = false := by decide) (he : starEach (e :: es) X.env = (false, eval e X.env) :: starEach es X.env := by rfl) (hpl : (backTo pos' (starEach es X.env)).any (·.1) = false := by rfl)
    (hs : ∀ y, foldedSetIterable (.Call (.Name x p) (e :: es) [] pos') X.env y = pure y := by intro _; rfl) : PZ X S (.For tg (.Call (.Name x p) (e :: es) [] pos') body [] pos) (sFor (itG na sem fa) g h) := ⟨(pd_forG ok hx hc hgd F hr hgl hm hk hbi ha hg sg (fun S' l => (hb S' l).pds) hdb he hpl hs).imp fun DD ρ n ⟨r, e, t⟩ => by
  obtain ⟨xs, e1, e2⟩ := Option.bind_eq_some_iff.mp e
  refine ⟨xs, e1, fun i ρ' n' => n' = n ∧ ∃ r', runFor g h (xs.drop i) ρ' = some r' ∧ DD.ends n r', ⟨rfl, r, e2, t⟩, fun i x ρ' n' ex ⟨en, r', e3, t'⟩ => ?_, fun ρ' n' ⟨en, r', e3, t'⟩ => ?_⟩
  · subst en
    obtain ⟨lt, e0⟩ := List.getElem?_eq_some_iff.mp ex
    rw [List.drop_eq_getElem_cons lt, e0] at e3
    obtain ⟨ρ1, e4, e5⟩ := Option.bind_eq_some_iff.mp e3
    obtain ⟨r1, e6, e7⟩ := Option.bind_eq_some_iff.mp e5
    refine ⟨ρ1, e4, r1, e6, ?_⟩
    cases r1 with
    | nx ρ2 => exact ⟨rfl, r', e7, t'⟩
    | ct ρ2 => exact ⟨rfl, r', e7, t'⟩
    | bk ρ2 => cases e7; exact t'
    | rt d => cases e7; exact t'
  · subst en
    rw [List.drop_length] at e3
    cases e3
    exact t'⟩
end
section
variable {D : GD} {k na : Nat} {f : Addr} {fd : FuncData} {ps : List Str} {sem : List PyData → Option (List PyData)} {x : Str} {p pos pos' : Pos} {e : Expr} {es : List Expr} {fa : Dn → Option (List PyData)} {tg : Expr} {body : List Stmt} {sl : List Nat} {g : PyData → Dn → Option Dn} {h : GFd}
end
end DS
/-! tuple(f(..)), f a generator def -/
namespace DS
open PySem PySem.Spec PyProof.Rows L2 GenW
/-- within a builtin's code -/
abbrev Cx.under (X : Cx) (A : Around) : Cx := { X with A := A }
section
variable {X : Cx} {N : List Str} {qual : Str} {scope : Scope} {f : Addr} {cd : Value} {L a : Addr} {g : Nat} {go : Obj}
end
section
variable {X : Cx} {k : Nat} {f : Addr} {fd : FuncData} {ps : List Str} {sp : SpL} {x nm : Str} {p p2 pos pos' : Pos} {e : Expr} {es : List Expr} {ta : TA}
end
section
variable {X : Cx} {k na : Nat} {f : Addr} {fd : FuncData} {ps : List Str} {sem : List PyData → Option (List PyData)} {x nm : Str} {p p2 pos pos' : Pos} {e : Expr} {es : List Expr} {fa : Dn → Option (List PyData)}
end
end DS
namespace DS
open PySem PySem.Spec PyProof.Rows L2
/-! ### sorted(l, reverse=True), l a list of data that can be compared -/
section
variable {X : Cx} {nm : Str} {p pos : Pos} {e : Expr} {f : DF}
/-! ### len(set(l)), l a list of ints -/
end
end DS
set_option maxHeartbeats 4000000
namespace DS
open PySem PySem.Spec PyProof.Rows L2
def z_each_chain_from : GFd := (gSeq (gPlain (sOwn 2 (limA (consA (tupF (consA (getD 1) nilA)) nilA))))
  (gSeq (gWhile (ownT 2)
  (gSeq (gPlain (sPop 3 2))
  (gSeq (gYield (getD 3))
  (gSeq (gPlain (sFor (revI (callA lenD (consA (getD 0) nilA))) (setN 4)
  (sIf (tstF (callU 3 sem_loses_to_all (consA (getD 0) (consA (getD 4) (consA (getD 3) nilA))))) (sApp 2 (bin2 gAdd (getD 3) (tupF (consA (getD 4) nilA)))) sNil)))
  gNil))) 1000000)
  gNil))
def semg_each_chain_from : List PyData → Option (List PyData) := semG 5 z_each_chain_from
def z_first_full_chain : SF := (sSeq (sFor (itG 2 semg_each_chain_from (consA (getD 0) (consA (getD 1) nilA))) (setN 2)
  (sIf (tstF (callU 2 sem_is_full (consA (getD 0) (consA (getD 2) nilA)))) (sRet (getD 2)) sNil))
  (sRet (cD .none)))
def sem_first_full_chain : List PyData → Option PyData := semZ 3 z_first_full_chain
def z_chain_tops : SF := (sRet (callA toTup (consA (lstI (lcL (rng1I (callA lenD (consA (getD 0) nilA))) (setN 1) (tstF (bin2 gNotN (callU 2 sem_first_full_chain (consA (getD 0) (consA (getD 1) nilA))) (cD .none))) (getD 1) [1])) nilA)))
def sem_chain_tops : List PyData → Option PyData := semZ 2 z_chain_tops
end DS
namespace DS
open PySem PySem.Spec PyProof.Rows L2 RT
/-! ### reversed(x), x a list or a tuple -/
section
variable {X : Cx} {tg e : Expr} {f : DF} {p pos : Pos}
end
end DS
namespace DS
open PySem PySem.Spec PyProof.Rows L2
/-! ### xs.remove(t), xs a list of texts that has t -/
section
variable {X : Cx}
end
end DS
namespace DS
open PySem PySem.Spec PyProof.Rows L2
/-! ### a.split(b), x.remove(t), int(t): texts -/
section
variable {X : Cx} {S : Fr}
end
end DS
namespace DS
open PySem PySem.Spec PyProof.Rows L2
/-! ### a.join(b) where the parts draw; a.replace behind other writings -/
section
variable {X : Cx} {S : Fr} {a b e : Expr} {Ta Tb : TXP} {es : List Expr} {te : TE} {ta : TA} {pos : Pos} {f fa fb : DF} {g : Dn → Option (List PyData)}
/-! a written text first: behind it a token is out -/
/-! a text of some signs, repeated -/
theorem op_mulS : OpR X (binaryOp .Mult) (fun x y H Q => ∃ (z : Str) (n : Int), x = .str z ∧ y = .int n ∧ MulOk z n ∧ Q (.str (Txt.mul z n)) H) := by
  intro pins s σ H x y v u Q I rx ry h
  obtain ⟨z, n, rfl, rfl, hok, q⟩ := h
  obtain ⟨t, rfl⟩ := rx
  obtain ⟨t2, rfl⟩ := ry
  exact PySem.SB.mul hok fun t' k => ⟨.str _, H, I.tok k, ⟨t', rfl⟩, q⟩
theorem mulOk_small {z : Str} {n : Int} (h0 : 0 ≤ n) (h1 : n ≤ 1000) (hz : z.length ≤ 100) : MulOk z n := by
  refine ⟨?_, fun h _ => ?_, fun h _ => ?_⟩
  · simp
    omega
  · have : (z.length : Int) * n ≤ 2 ^ 63 - 1 := by
      have : (z.length : Int) * n ≤ 100 * 1000 := Int.mul_le_mul (by omega) h1 h0 (by decide)
      omega
    have := (Int.le_ediv_iff_mul_le (a := (z.length : Int)) (b := 2 ^ 63 - 1) (c := n) (by omega)).mpr this
    omega
  · have : z.length * n.toNat ≤ 100 * 1000 := Nat.mul_le_mul hz (by omega)
    generalize z.length * n.toNat = w at this
    refine decide_eq_false (p := w > sizeLine) ?_
    rw [sizeLine_eq]
    omega
def gMulS (d e : PyData) : Option PyData := match d, e with
  | .str z, .int n => if 0 ≤ n ∧ n ≤ 1000 ∧ z.length ≤ 100 then some (.str (Txt.mul z n)) else none
  | _, _ => none
theorem of_mulS : OpR X (binaryOp .Mult) (r2F X.K gMulS) := op_mulS.imp fun x y H Q ⟨O, d, e, c, al, dx, dy, g, q⟩ => by
  match d, e, g with
  | .str z, .int n, g =>
    obtain ⟨⟨h0, h1, h2⟩, e⟩ := Option.ite_none_right_eq_some.mp g
    cases e
    cases dx
    cases dy
    exact ⟨z, n, rfl, rfl, mulOk_small h0 h1 h2, q _ H (Same.refl H) (.str _)⟩
@[simp] theorem e_gMulS {z : Str} {n : Int} : gMulS (.str z) (.int n) = if 0 ≤ n ∧ n ≤ 1000 ∧ z.length ≤ 100 then some (.str (Txt.mul z n)) else none := rfl
/-! a new list of one's own, joined of two that draw -/
end
end DS
set_option maxHeartbeats 4000000
namespace DS
open PySem PySem.Spec PyProof.Rows L2
def topS (i : Nat) : Stmt := PySem.Challenge.pw_duelsets_k35_whole_counts.main.body.getD i (.Pass ⟨0, 0, 0, 0⟩)
abbrev s_beats : Stmt := topS 1
theorem sc_beats : FnScope ["table", "one", "other"] ["table", "one", "other"] (defScope s_beats) := ⟨rfl, rfl, rfl, by decide +kernel, rfl, by decide +kernel, by decide +kernel⟩
abbrev s_beats_all : Stmt := topS 2
theorem sc_beats_all : FnScope ["table", "one", "others", "other"] ["table", "one", "others"] (defScope s_beats_all) := ⟨rfl, rfl, rfl, by decide +kernel, rfl, by decide +kernel, by decide +kernel⟩
abbrev s_outsiders : Stmt := topS 3
theorem sc_outsiders : FnScope ["table", "members", "one"] ["table", "members"] (defScope s_outsiders) := ⟨rfl, rfl, rfl, by decide +kernel, rfl, by decide +kernel, by decide +kernel⟩
abbrev s_scores : Stmt := topS 4
theorem sc_scores : FnScope ["table", "row"] ["table"] (defScope s_scores) := ⟨rfl, rfl, rfl, by decide +kernel, rfl, by decide +kernel, by decide +kernel⟩
abbrev s_pick_table : Stmt := topS 5
theorem sc_pick_table : FnScope ["table", "picked", "i", "j"] ["table", "picked"] (defScope s_pick_table) := ⟨rfl, rfl, rfl, by decide +kernel, rfl, by decide +kernel, by decide +kernel⟩
abbrev s_relabel_table : Stmt := topS 6
theorem sc_relabel_table : FnScope ["table", "order"] ["table", "order"] (defScope s_relabel_table) := ⟨rfl, rfl, rfl, by decide +kernel, rfl, by decide +kernel, by decide +kernel⟩
abbrev s_all_sets : Stmt := topS 7
theorem sc_all_sets : FnScope ["table", "sets", "one", "rest"] ["table"] (defScope s_all_sets) := ⟨rfl, rfl, rfl, by decide +kernel, rfl, by decide +kernel, by decide +kernel⟩
abbrev s_dominant_sets : Stmt := topS 9
theorem sc_dominant_sets : FnScope ["table", "counts", "found", "left", "members", "one", "wins"] ["table"] (defScope s_dominant_sets) := ⟨rfl, rfl, rfl, by decide +kernel, rfl, by decide +kernel, by decide +kernel⟩
abbrev s_is_dominant : Stmt := topS 10
theorem sc_is_dominant : FnScope ["table", "members", "others", "one"] ["table", "members"] (defScope s_is_dominant) := ⟨rfl, rfl, rfl, by decide +kernel, rfl, by decide +kernel, by decide +kernel⟩
abbrev s_top_set : Stmt := topS 11
theorem sc_top_set : FnScope ["table"] ["table"] (defScope s_top_set) := ⟨rfl, rfl, rfl, by decide +kernel, rfl, by decide +kernel, by decide +kernel⟩
abbrev s_sequence_counts : Stmt := topS 13
theorem sc_sequence_counts : FnScope ["table", "counts", "members"] ["table"] (defScope s_sequence_counts) := ⟨rfl, rfl, rfl, by decide +kernel, rfl, by decide +kernel, by decide +kernel⟩
abbrev s_counts_within : Stmt := topS 14
theorem sc_counts_within : FnScope ["table", "members", "smaller", "found", "at", "last", "winner", "many"] ["table", "members", "smaller"] (defScope s_counts_within) := ⟨rfl, rfl, rfl, by decide +kernel, rfl, by decide +kernel, by decide +kernel⟩
abbrev s_careful_counts : Stmt := topS 15
theorem sc_careful_counts : FnScope ["table", "counts", "waiting", "able", "many", "many_each", "one", "still_able", "other"] ["table"] (defScope s_careful_counts) := ⟨rfl, rfl, rfl, by decide +kernel, rfl, by decide +kernel, by decide +kernel⟩
abbrev s_number_of_orders : Stmt := topS 16
theorem sc_number_of_orders : FnScope ["size", "product", "factor"] ["size"] (defScope s_number_of_orders) := ⟨rfl, rfl, rfl, by decide +kernel, rfl, by decide +kernel, by decide +kernel⟩
abbrev s_is_full : Stmt := topS 18
theorem sc_is_full : FnScope ["table", "chain", "one"] ["table", "chain"] (defScope s_is_full) := ⟨rfl, rfl, rfl, by decide +kernel, rfl, by decide +kernel, by decide +kernel⟩
abbrev s_chain_tops : Stmt := topS 19
theorem sc_chain_tops : FnScope ["table", "one"] ["table"] (defScope s_chain_tops) := ⟨rfl, rfl, rfl, by decide +kernel, rfl, by decide +kernel, by decide +kernel⟩
abbrev s_first_full_chain : Stmt := topS 20
theorem sc_first_full_chain : FnScope ["table", "top", "chain"] ["table", "top"] (defScope s_first_full_chain) := ⟨rfl, rfl, rfl, by decide +kernel, rfl, by decide +kernel, by decide +kernel⟩
abbrev s_each_chain_from : Stmt := topS 21
theorem sc_each_chain_from : GScope ["table", "top", "waiting", "chain", "one"] ["table", "top"] (defScope s_each_chain_from) := ⟨rfl, rfl, rfl, by decide +kernel, rfl, by decide +kernel, by decide +kernel⟩
abbrev s_loses_to_all : Stmt := topS 22
theorem sc_loses_to_all : FnScope ["table", "one", "others", "other"] ["table", "one", "others"] (defScope s_loses_to_all) := ⟨rfl, rfl, rfl, by decide +kernel, rfl, by decide +kernel, by decide +kernel⟩
abbrev s__law_begin : Stmt := topS 24
theorem sc__law_begin : FnScope ["_law_script", "_law_cell", "_law_greats", "_law_whole"] ["_law_script"] (defScope s__law_begin) := ⟨rfl, rfl, rfl, by decide +kernel, rfl, by decide +kernel, by decide +kernel⟩
abbrev s__law_next : Stmt := topS 25
theorem sc__law_next : FnScope ["_law_deck", "_law_many", "_law_rest", "_law_mixed_here"] ["_law_deck", "_law_many"] (defScope s__law_next) := ⟨rfl, rfl, rfl, by decide +kernel, rfl, by decide +kernel, by decide +kernel⟩
abbrev s__law_mixed : Stmt := topS 26
theorem sc__law_mixed : FnScope ["_law_deck", "_law_items", "_law_rest", "_law_found"] ["_law_deck", "_law_items"] (defScope s__law_mixed) := ⟨rfl, rfl, rfl, by decide +kernel, rfl, by decide +kernel, by decide +kernel⟩
abbrev s__law_table : Stmt := topS 27
theorem sc__law_table : FnScope ["_law_deck", "_law_least", "_law_most", "_law_size", "_law_way", "_law_names", "_law_signs", "_law_i", "_law_j", "_law_copies", "_law_is_won", "_law_one", "_law_other"] ["_law_deck", "_law_least", "_law_most"] (defScope s__law_table) := ⟨rfl, rfl, rfl, by decide +kernel, rfl, by decide +kernel, by decide +kernel⟩
abbrev s__law_same : Stmt := topS 28
theorem sc__law_same : FnScope ["_law_found", "_law_due", "_law_k"] ["_law_found", "_law_due"] (defScope s__law_same) := ⟨rfl, rfl, rfl, by decide +kernel, rfl, by decide +kernel, by decide +kernel⟩
abbrev s__law_both : Stmt := topS 29
theorem sc__law_both : FnScope ["_law_table_here"] ["_law_table_here"] (defScope s__law_both) := ⟨rfl, rfl, rfl, by decide +kernel, rfl, by decide +kernel, by decide +kernel⟩
abbrev s__law_number : Stmt := topS 30
theorem sc__law_number : FnScope ["_law_size", "_law_found", "_law_number_here"] ["_law_size"] (defScope s__law_number) := ⟨rfl, rfl, rfl, by decide +kernel, rfl, by decide +kernel, by decide +kernel⟩
abbrev s__law_with : Stmt := topS 31
theorem sc__law_with : FnScope ["_law_table_here", "_law_sign", "_law_other", "_law_row"] ["_law_table_here", "_law_sign"] (defScope s__law_with) := ⟨rfl, rfl, rfl, by decide +kernel, rfl, by decide +kernel, by decide +kernel⟩
abbrev s__law_positive : Stmt := topS 32
theorem sc__law_positive : FnScope ["_law_counts", "_law_one", "_law_number_here"] ["_law_counts"] (defScope s__law_positive) := ⟨rfl, rfl, rfl, by decide +kernel, rfl, by decide +kernel, by decide +kernel⟩
abbrev s_law : Stmt := topS 33
theorem sc_law : FnScope ["_law_script", "_law_deck", "_law_least", "_law_most", "_law_table_here", "_law_found", "_law_size", "_law_tops", "_law_order", "_law_due", "_law_best", "_law_counts", "_law_one", "_law_number_here"] ["_law_script"] (defScope s_law) := ⟨rfl, rfl, rfl, by decide +kernel, rfl, by decide +kernel, by decide +kernel⟩
structure Ad where
  f_beats : Addr
  d_beats : FuncData
  f_beats_all : Addr
  d_beats_all : FuncData
  f_outsiders : Addr
  d_outsiders : FuncData
  f_scores : Addr
  d_scores : FuncData
  f_pick_table : Addr
  d_pick_table : FuncData
  f_relabel_table : Addr
  d_relabel_table : FuncData
  f_all_sets : Addr
  d_all_sets : FuncData
  f_dominant_sets : Addr
  d_dominant_sets : FuncData
  f_is_dominant : Addr
  d_is_dominant : FuncData
  f_top_set : Addr
  d_top_set : FuncData
  f_sequence_counts : Addr
  d_sequence_counts : FuncData
  f_counts_within : Addr
  d_counts_within : FuncData
  f_careful_counts : Addr
  d_careful_counts : FuncData
  f_number_of_orders : Addr
  d_number_of_orders : FuncData
  f_is_full : Addr
  d_is_full : FuncData
  f_chain_tops : Addr
  d_chain_tops : FuncData
  f_first_full_chain : Addr
  d_first_full_chain : FuncData
  f_each_chain_from : Addr
  d_each_chain_from : FuncData
  f_loses_to_all : Addr
  d_loses_to_all : FuncData
  f__law_begin : Addr
  d__law_begin : FuncData
  f__law_next : Addr
  d__law_next : FuncData
  f__law_mixed : Addr
  d__law_mixed : FuncData
  f__law_table : Addr
  d__law_table : FuncData
  f__law_same : Addr
  d__law_same : FuncData
  f__law_both : Addr
  d__law_both : FuncData
  f__law_number : Addr
  d__law_number : FuncData
  f__law_with : Addr
  d__law_with : FuncData
  f__law_positive : Addr
  d__law_positive : FuncData
  f_law : Addr
  d_law : FuncData
structure Tx (K : PySem.W.Frag) (mg : Str → Option Value) (a : Ad) : Prop where
  F_beats : Fun K "beats" "beats" s_beats a.f_beats a.d_beats
  b_beats : Binds K a.d_beats ["table", "one", "other"] []
  g_beats : mg "beats" = some (.ref a.f_beats)
  F_beats_all : Fun K "beats_all" "beats_all" s_beats_all a.f_beats_all a.d_beats_all
  b_beats_all : Binds K a.d_beats_all ["table", "one", "others"] []
  g_beats_all : mg "beats_all" = some (.ref a.f_beats_all)
  F_outsiders : Fun K "outsiders" "outsiders" s_outsiders a.f_outsiders a.d_outsiders
  b_outsiders : Binds K a.d_outsiders ["table", "members"] []
  g_outsiders : mg "outsiders" = some (.ref a.f_outsiders)
  F_scores : Fun K "scores" "scores" s_scores a.f_scores a.d_scores
  b_scores : Binds K a.d_scores ["table"] []
  g_scores : mg "scores" = some (.ref a.f_scores)
  F_pick_table : Fun K "pick_table" "pick_table" s_pick_table a.f_pick_table a.d_pick_table
  b_pick_table : Binds K a.d_pick_table ["table", "picked"] []
  g_pick_table : mg "pick_table" = some (.ref a.f_pick_table)
  F_relabel_table : Fun K "relabel_table" "relabel_table" s_relabel_table a.f_relabel_table a.d_relabel_table
  b_relabel_table : Binds K a.d_relabel_table ["table", "order"] []
  g_relabel_table : mg "relabel_table" = some (.ref a.f_relabel_table)
  F_all_sets : Fun K "all_sets" "all_sets" s_all_sets a.f_all_sets a.d_all_sets
  b_all_sets : Binds K a.d_all_sets ["table"] []
  g_all_sets : mg "all_sets" = some (.ref a.f_all_sets)
  F_dominant_sets : Fun K "dominant_sets" "dominant_sets" s_dominant_sets a.f_dominant_sets a.d_dominant_sets
  b_dominant_sets : Binds K a.d_dominant_sets ["table"] []
  g_dominant_sets : mg "dominant_sets" = some (.ref a.f_dominant_sets)
  F_is_dominant : Fun K "is_dominant" "is_dominant" s_is_dominant a.f_is_dominant a.d_is_dominant
  b_is_dominant : Binds K a.d_is_dominant ["table", "members"] []
  g_is_dominant : mg "is_dominant" = some (.ref a.f_is_dominant)
  F_top_set : Fun K "top_set" "top_set" s_top_set a.f_top_set a.d_top_set
  b_top_set : Binds K a.d_top_set ["table"] []
  g_top_set : mg "top_set" = some (.ref a.f_top_set)
  F_sequence_counts : Fun K "sequence_counts" "sequence_counts" s_sequence_counts a.f_sequence_counts a.d_sequence_counts
  b_sequence_counts : Binds K a.d_sequence_counts ["table"] []
  g_sequence_counts : mg "sequence_counts" = some (.ref a.f_sequence_counts)
  F_counts_within : Fun K "counts_within" "counts_within" s_counts_within a.f_counts_within a.d_counts_within
  b_counts_within : Binds K a.d_counts_within ["table", "members", "smaller"] []
  g_counts_within : mg "counts_within" = some (.ref a.f_counts_within)
  F_careful_counts : Fun K "careful_counts" "careful_counts" s_careful_counts a.f_careful_counts a.d_careful_counts
  b_careful_counts : Binds K a.d_careful_counts ["table"] []
  g_careful_counts : mg "careful_counts" = some (.ref a.f_careful_counts)
  F_number_of_orders : Fun K "number_of_orders" "number_of_orders" s_number_of_orders a.f_number_of_orders a.d_number_of_orders
  b_number_of_orders : Binds K a.d_number_of_orders ["size"] []
  g_number_of_orders : mg "number_of_orders" = some (.ref a.f_number_of_orders)
  F_is_full : Fun K "is_full" "is_full" s_is_full a.f_is_full a.d_is_full
  b_is_full : Binds K a.d_is_full ["table", "chain"] []
  g_is_full : mg "is_full" = some (.ref a.f_is_full)
  F_chain_tops : Fun K "chain_tops" "chain_tops" s_chain_tops a.f_chain_tops a.d_chain_tops
  b_chain_tops : Binds K a.d_chain_tops ["table"] []
  g_chain_tops : mg "chain_tops" = some (.ref a.f_chain_tops)
  F_first_full_chain : Fun K "first_full_chain" "first_full_chain" s_first_full_chain a.f_first_full_chain a.d_first_full_chain
  b_first_full_chain : Binds K a.d_first_full_chain ["table", "top"] []
  g_first_full_chain : mg "first_full_chain" = some (.ref a.f_first_full_chain)
  F_each_chain_from : Fun K "each_chain_from" "each_chain_from" s_each_chain_from a.f_each_chain_from a.d_each_chain_from
  b_each_chain_from : Binds K a.d_each_chain_from ["table", "top"] []
  g_each_chain_from : mg "each_chain_from" = some (.ref a.f_each_chain_from)
  F_loses_to_all : Fun K "loses_to_all" "loses_to_all" s_loses_to_all a.f_loses_to_all a.d_loses_to_all
  b_loses_to_all : Binds K a.d_loses_to_all ["table", "one", "others"] []
  g_loses_to_all : mg "loses_to_all" = some (.ref a.f_loses_to_all)
  F__law_begin : Fun K "_law_begin" "_law_begin" s__law_begin a.f__law_begin a.d__law_begin
  b__law_begin : Binds K a.d__law_begin ["_law_script"] []
  g__law_begin : mg "_law_begin" = some (.ref a.f__law_begin)
  F__law_next : Fun K "_law_next" "_law_next" s__law_next a.f__law_next a.d__law_next
  b__law_next : Binds K a.d__law_next ["_law_deck", "_law_many"] []
  g__law_next : mg "_law_next" = some (.ref a.f__law_next)
  F__law_mixed : Fun K "_law_mixed" "_law_mixed" s__law_mixed a.f__law_mixed a.d__law_mixed
  b__law_mixed : Binds K a.d__law_mixed ["_law_deck", "_law_items"] []
  g__law_mixed : mg "_law_mixed" = some (.ref a.f__law_mixed)
  F__law_table : Fun K "_law_table" "_law_table" s__law_table a.f__law_table a.d__law_table
  b__law_table : Binds K a.d__law_table ["_law_deck", "_law_least", "_law_most"] []
  g__law_table : mg "_law_table" = some (.ref a.f__law_table)
  F__law_same : Fun K "_law_same" "_law_same" s__law_same a.f__law_same a.d__law_same
  b__law_same : Binds K a.d__law_same ["_law_found", "_law_due"] []
  g__law_same : mg "_law_same" = some (.ref a.f__law_same)
  F__law_both : Fun K "_law_both" "_law_both" s__law_both a.f__law_both a.d__law_both
  b__law_both : Binds K a.d__law_both ["_law_table_here"] []
  g__law_both : mg "_law_both" = some (.ref a.f__law_both)
  F__law_number : Fun K "_law_number" "_law_number" s__law_number a.f__law_number a.d__law_number
  b__law_number : Binds K a.d__law_number ["_law_size"] []
  g__law_number : mg "_law_number" = some (.ref a.f__law_number)
  F__law_with : Fun K "_law_with" "_law_with" s__law_with a.f__law_with a.d__law_with
  b__law_with : Binds K a.d__law_with ["_law_table_here", "_law_sign"] []
  g__law_with : mg "_law_with" = some (.ref a.f__law_with)
  F__law_positive : Fun K "_law_positive" "_law_positive" s__law_positive a.f__law_positive a.d__law_positive
  b__law_positive : Binds K a.d__law_positive ["_law_counts"] []
  g__law_positive : mg "_law_positive" = some (.ref a.f__law_positive)
  F_law : Fun K "law" "law" s_law a.f_law a.d_law
  b_law : Binds K a.d_law ["_law_script"] []
  g_law : mg "law" = some (.ref a.f_law)
  z_all : mg "all" = none
  z_tuple : mg "tuple" = none
  z_range : mg "range" = none
  z_len : mg "len" = none
  z_reversed : mg "reversed" = none
  z_enumerate : mg "enumerate" = none
  z_sorted : mg "sorted" = none
  z_any : mg "any" = none
  z_abs : mg "abs" = none
  z_int : mg "int" = none
  z_list : mg "list" = none
  z_isinstance : mg "isinstance" = none
  z_dict : mg "dict" = none
  z_str : mg "str" = none
  z_bool : mg "bool" = none
  z_sum : mg "sum" = none
  z_min : mg "min" = none
section
variable {P : Program} {w : World} {K : PySem.W.Frag} {mg : Str → Option Value} {base : Heap} {a : Ad}
theorem ok_beats (T : Tx K mg a) : FnG P w K mg base CX0 1 a.f_beats a.d_beats ["table", "one", "other"] (spF K 3 sem_beats) :=
  fn_z (k := 0) T.F_beats sc_beats rfl fun cdv A outer s H E O al hgd hr =>
    have nd := sc_beats.nd
    have ok := noDeck_ok al
    (pzs_one (pz_ret ok (pf_cmp (of_eq hr.units) (pf_ix (pf_ix (pf_v 0) (pf_v 1)) (pf_v 2)) pf_str (nomark _))))
theorem ok_outsiders (T : Tx K mg a) : FnG P w K mg base CX0 1 a.f_outsiders a.d_outsiders ["table", "members"] (spF K 2 sem_outsiders) :=
  fn_z (k := 0) T.F_outsiders sc_outsiders rfl fun cdv A outer s H E O al hgd hr =>
    have nd := sc_outsiders.nd
    have ok := noDeck_ok al
    (pzs_one (pz_ret ok (pf_callTy cf_tuple (by rfl) T.z_tuple (by decide +kernel) (pfa_cons (pfl_lc rfl nd (pif_range1 (by rfl) T.z_range (pf_callB cf_len (by rfl) T.z_len (by decide +kernel) (pfa_cons (pf_v 0) pfa_nil))) (blkOk_by (own := [("one", 2)]) (by rfl)) (fun _ _ _ _ _ => (pgf_name (i := 2) nd rfl (by first | exact Or.inl rfl | exact Or.inr rfl))) (fun _ _ _ _ _ => (ptsf_one (pft_cmp of_notIn (pf_v 2) (pf_v 1) (by with_unfolding_all rfl)))) (fun _ _ _ _ _ => (pf_v 2))).pf pfa_nil))))
theorem ok_scores (T : Tx K mg a) : FnG P w K mg base CX0 1 a.f_scores a.d_scores ["table"] (spF K 1 sem_scores) :=
  fn_z (k := 0) T.F_scores sc_scores rfl fun cdv A outer s H E O al hgd hr =>
    have nd := sc_scores.nd
    have ok := noDeck_ok al
    (pzs_one (pz_ret ok (pf_callTy cf_tuple (by rfl) T.z_tuple (by decide +kernel) (pfa_cons (pfl_lc rfl nd (pif_seq (pf_v 0)) (blkOk_by (own := [("row", 1)]) (by rfl)) (fun _ _ _ _ _ => (pgf_name (i := 1) nd rfl (by first | exact Or.inl rfl | exact Or.inr rfl))) (fun _ _ _ _ _ => ptsf_nil) (fun _ _ _ _ _ => (pf_count (pf_v 1) pf_str))).pf pfa_nil))))
theorem ok_pick_table (T : Tx K mg a) : FnG P w K mg base CX0 1 a.f_pick_table a.d_pick_table ["table", "picked"] (spF K 2 sem_pick_table) :=
  fn_z (k := 0) T.F_pick_table sc_pick_table rfl fun cdv A outer s H E O al hgd hr =>
    have nd := sc_pick_table.nd
    have ok := noDeck_ok al
    (pzs_one (pz_ret ok (pf_callTy cf_tuple (by rfl) T.z_tuple (by decide +kernel) (pfa_cons (pfl_lc rfl nd (pif_seq (pf_v 1)) (blkOk_by (own := [("i", 2)]) (by rfl)) (fun _ _ _ _ _ => (pgf_name (i := 2) nd rfl (by first | exact Or.inl rfl | exact Or.inr rfl))) (fun _ _ _ _ _ => ptsf_nil) (fun _ _ _ _ _ => (pf_join pf_str (pfl_lc rfl nd (pif_seq (pf_v 1)) (blkOk_by (own := [("j", 3)]) (by rfl)) (fun _ _ _ _ _ => (pgf_name (i := 3) nd rfl (by first | exact Or.inl rfl | exact Or.inr rfl))) (fun _ _ _ _ _ => ptsf_nil) (fun _ _ _ _ _ => (pf_ix (pf_ix (pf_v 0) (pf_v 2)) (pf_v 3)))).pf))).pf pfa_nil))))
theorem okS_all_sets (T : Tx K mg a) : FnG P w K mg base CX0 1 a.f_all_sets a.d_all_sets ["table"] (spSd K 1 semS_all_sets) :=
  fn_zS (k := 0) T.F_all_sets sc_all_sets rfl fun cdv A outer s H E O al hgd hr =>
    have nd := sc_all_sets.nd
    have ok := noDeck_ok al
    (pzss_cons (pz_of_setSd (pd_setSd (i := 1) ok nd rfl (by first | exact Or.inl rfl | exact Or.inr rfl) psd_one))
      (pzss_cons (pz_for ok PassesOwn.never rfl (pif_rev (by rfl) T.z_reversed (by rfl) T.z_range (pf_callB cf_len (by rfl) T.z_len (by decide +kernel) (pfa_cons (pf_v 0) pfa_nil))) (pgf_name (i := 2) nd rfl (by first | exact Or.inl rfl | exact Or.inr rfl)) (sets_name 2)
      (pzs_one (pz_of_setSd (pd_setSd (i := 1) ok nd rfl (by first | exact Or.inl rfl | exact Or.inr rfl) (psd_add (psd_add psd_one (psd_lc rfl nd (pif_seq (pf_v 1)) (blkOk_by (own := [("rest", 3)]) (by rfl)) (fun _ _ _ _ _ => (pgf_name (i := 3) nd rfl (by first | exact Or.inl rfl | exact Or.inr rfl))) (fun _ _ _ _ _ => ptsf_nil) (fun _ _ _ _ _ => (pst_cat (pst_tup (pfa_cons (pf_v 2) pfa_nil)) (pf_v 3) (by intro ρ d h; exact tup1_ne h))))) (psd_slice (psd_only (psd_var (i := 1) rfl (by first | exact Or.inl rfl | exact Or.inr (Or.inl rfl) | exact Or.inr (Or.inr rfl)))) (pfo_some pf_int) pfo_none (by intro ρ d h; exact onlyL_lst h)))))))
      (pzss_ret ok (psd_tuple (psd_var (i := 1) rfl (by first | exact Or.inl rfl | exact Or.inr (Or.inl rfl) | exact Or.inr (Or.inr rfl))) (by rfl) T.z_tuple (by rfl)))))
theorem ok_number_of_orders (T : Tx K mg a) : FnG P w K mg base CX0 1 a.f_number_of_orders a.d_number_of_orders ["size"] (spF K 1 sem_number_of_orders) :=
  fn_z (k := 0) T.F_number_of_orders sc_number_of_orders rfl fun cdv A outer s H E O al hgd hr =>
    have nd := sc_number_of_orders.nd
    have ok := noDeck_ok al
    (pzs_cons (pz_of_set (pd_set (i := 1) ok nd rfl (by first | exact Or.inl rfl | exact Or.inr rfl) pf_int))
      (pzs_cons (pz_for ok PassesOwn.never rfl (pif_range2 (by rfl) T.z_range pf_int (pf_op of_addA (pf_v 0) pf_int)) (pgf_name (i := 2) nd rfl (by first | exact Or.inl rfl | exact Or.inr rfl)) (sets_name 2)
      (pzs_one (pz_augM (i := 1) ok nd rfl (by first | exact Or.inl rfl | exact Or.inr rfl) (pf_v 2))))
      (pzs_one (pz_ret ok (pf_v 1)))))
theorem ok_loses_to_all (T : Tx K mg a) : FnG P w K mg base CX0 1 a.f_loses_to_all a.d_loses_to_all ["table", "one", "others"] (spF K 3 sem_loses_to_all) :=
  fn_z (k := 0) T.F_loses_to_all sc_loses_to_all rfl fun cdv A outer s H E O al hgd hr =>
    have nd := sc_loses_to_all.nd
    have ok := noDeck_ok al
    (pzs_one (pz_ret ok (pf_callB (cf_all rfl) (by rfl) T.z_all (by decide +kernel) (pfa_cons (pfl_lc rfl nd (pif_seq (pf_v 2)) (blkOk_by (own := [("other", 3)]) (by rfl)) (fun _ _ _ _ _ => (pgf_name (i := 3) nd rfl (by first | exact Or.inl rfl | exact Or.inr rfl))) (fun _ _ _ _ _ => ptsf_nil) (fun _ _ _ _ _ => (pf_cmp (of_eq hr.units) (pf_ix (pf_ix (pf_v 0) (pf_v 1)) (pf_v 3)) pf_str (nomark _)))).pf pfa_nil))))
def z__law_same (rec_ : List PyData → Option PyData) : SF := (sSeq (sIf (tstF (isiF2 "tuple" "list" (getD 1))) (sSeq (sIf (tstF (bin2 gNe (isiF "tuple" (getD 0)) (isiF "tuple" (getD 1)))) (sRet (cD (.bool false))) sNil)
  (sSeq (sIf (orT (tstF (bin2 gNe (isiF "list" (getD 0)) (isiF "list" (getD 1)))) (tstF (bin2 gNe (callA lenD (consA (getD 0) nilA)) (callA lenD (consA (getD 1) nilA))))) (sRet (cD (.bool false))) sNil)
  (sRet (bin2 gEq (lstI (lcL (rng1I (callA lenD (consA (getD 1) nilA))) (setN 2) (notT (tstF (callU 2 rec_ (consA (bin2 ixD (getD 0) (getD 2)) (consA (bin2 ixD (getD 1) (getD 2)) nilA))))) (getD 2) [2])) (lstI (limA nilA)))))) sNil)
  (sSeq (sIf (tstF (isiF "dict" (getD 1))) (sRet (andF (isiF "dict" (getD 0)) (bin2 gEq (getD 0) (getD 1)))) sNil)
  (sSeq (sIf (tstF (bin2 gIsN (getD 1) (cD .none))) (sRet (bin2 gIsN (getD 0) (cD .none))) sNil)
  (sSeq (sIf (tstF (isiF "str" (getD 1))) (sRet (andF (isiF "str" (getD 0)) (bin2 gEq (getD 0) (getD 1)))) sNil)
  (sRet (andF (isiF "int" (getD 0)) (andF (bin2 gEq (isiF "bool" (getD 0)) (isiF "bool" (getD 1))) (bin2 gEq (getD 0) (getD 1)))))))))
def sem__law_same : Nat → List PyData → Option PyData
  | 0 => fun _ => none
  | m + 1 => semZ 3 (z__law_same (sem__law_same m))
theorem ok__law_same (T : Tx K mg a) : ∀ m : Nat, FnG P w K mg base CX0 (m + 1) a.f__law_same a.d__law_same ["_law_found", "_law_due"] (spF K 2 (sem__law_same m))
  | 0 => fn_never rfl fun _ => rfl
  | m + 1 => fn_z (k := m + 1) T.F__law_same sc__law_same rfl fun cdv A outer s H E O al hgd hr =>
    have nd := sc__law_same.nd
    have ok := noDeck_ok al
    have IH := ok__law_same T m
    (pzs_cons (pz_if ok (pft_val (pf_isi2 (by rfl) T.z_isinstance kit_tTuple kit_tList (by rfl) T.z_tuple (by decide +kernel) (by rfl) T.z_list (by decide +kernel) (pf_v 1))) (pzs_cons (pz_if ok (pft_cmp (of_ne hr.units) (pf_isi (by rfl) T.z_isinstance kit_tTuple (by rfl) T.z_tuple (by decide +kernel) (pf_v 0)) (pf_isi (by rfl) T.z_isinstance kit_tTuple (by rfl) T.z_tuple (by decide +kernel) (pf_v 1)) (nomark _)) (pzs_one (pz_ret ok pf_bl)) pzs_nil)
      (pzs_cons (pz_if ok (pfw_or (pft_cmp (of_ne hr.units) (pf_isi (by rfl) T.z_isinstance kit_tList (by rfl) T.z_list (by decide +kernel) (pf_v 0)) (pf_isi (by rfl) T.z_isinstance kit_tList (by rfl) T.z_list (by decide +kernel) (pf_v 1)) (nomark _)) (pfw_or1 (pft_cmp (of_ne hr.units) (pf_callB cf_len (by rfl) T.z_len (by decide +kernel) (pfa_cons (pf_v 0) pfa_nil)) (pf_callB cf_len (by rfl) T.z_len (by decide +kernel) (pfa_cons (pf_v 1) pfa_nil)) (nomark _)))).pft (pzs_one (pz_ret ok pf_bl)) pzs_nil)
      (pzs_one (pz_ret ok (pf_cmp (of_eq hr.units) (pfl_lc rfl nd (pif_range1 (by rfl) T.z_range (pf_callB cf_len (by rfl) T.z_len (by decide +kernel) (pfa_cons (pf_v 1) pfa_nil))) (blkOk_by (own := [("_law_k", 2)]) (by rfl)) (fun _ _ _ _ _ => (pgf_name (i := 2) nd rfl (by first | exact Or.inl rfl | exact Or.inr rfl))) (fun _ _ _ _ _ => (ptsf_one (pft_not (pft_val (pf_call IH hgd hr (by rfl) T.g__law_same T.F__law_same.kp T.b__law_same pass0 (pfa_cons (pf_ix (pf_v 0) (pf_v 2)) (pfa_cons (pf_ix (pf_v 1) (pf_v 2)) pfa_nil))))))) (fun _ _ _ _ _ => (pf_v 2))).pf (pfl_lst pfa_nil).pf (nomark _)))))) pzs_nil)
      (pzs_cons (pz_if ok (pft_val (pf_isi (by rfl) T.z_isinstance kit_tDict (by rfl) T.z_dict (by decide +kernel) (pf_v 1))) (pzs_one (pz_ret ok (pf_and (pf_isi (by rfl) T.z_isinstance kit_tDict (by rfl) T.z_dict (by decide +kernel) (pf_v 0)) (pf_one (pf_cmp (of_eq hr.units) (pf_v 0) (pf_v 1) (nomark _)))))) pzs_nil)
      (pzs_cons (pz_if ok (pft_cmp of_isN (pf_v 1) pf_non (nomark _)) (pzs_one (pz_ret ok (pf_cmp of_isN (pf_v 0) pf_non (nomark _)))) pzs_nil)
      (pzs_cons (pz_if ok (pft_val (pf_isi (by rfl) T.z_isinstance kit_tStr (by rfl) T.z_str (by decide +kernel) (pf_v 1))) (pzs_one (pz_ret ok (pf_and (pf_isi (by rfl) T.z_isinstance kit_tStr (by rfl) T.z_str (by decide +kernel) (pf_v 0)) (pf_one (pf_cmp (of_eq hr.units) (pf_v 0) (pf_v 1) (nomark _)))))) pzs_nil)
      (pzs_one (pz_ret ok (pf_and (pf_isi (by rfl) T.z_isinstance kit_tInt (by rfl) T.z_int (by decide +kernel) (pf_v 0)) (pf_and (pf_cmp (of_eq hr.units) (pf_isi (by rfl) T.z_isinstance kit_tBool (by rfl) T.z_bool (by decide +kernel) (pf_v 0)) (pf_isi (by rfl) T.z_isinstance kit_tBool (by rfl) T.z_bool (by decide +kernel) (pf_v 1)) (nomark _)) (pf_one (pf_cmp (of_eq hr.units) (pf_v 0) (pf_v 1) (nomark _)))))))))))
def z__law_number : SF := (sSeq (sSet 1 (cD (.int 1)))
  (sSeq (sFor (rng1I (getD 0)) (setN 2)
  (sSet 1 (bin2 (gIC cMul fun i j => .int (i * j)) (getD 1) (bin2 gAdd (getD 2) (cD (.int 1))))))
  (sRet (getD 1))))
def sem__law_number : List PyData → Option PyData := semZ 3 z__law_number
theorem ok__law_number (T : Tx K mg a) : FnG P w K mg base CX0 1 a.f__law_number a.d__law_number ["_law_size"] (spF K 1 sem__law_number) :=
  fn_z (k := 0) T.F__law_number sc__law_number rfl fun cdv A outer s H E O al hgd hr =>
    have nd := sc__law_number.nd
    have ok := noDeck_ok al
    (pzs_cons (pz_of_set (pd_set (i := 1) ok nd rfl (by first | exact Or.inl rfl | exact Or.inr rfl) pf_int))
      (pzs_cons (pz_for ok PassesOwn.never rfl (pif_range1 (by rfl) T.z_range (pf_v 0)) (pgf_name (i := 2) nd rfl (by first | exact Or.inl rfl | exact Or.inr rfl)) (sets_name 2)
      (pzs_one (pz_of_set (pd_set (i := 1) ok nd rfl (by first | exact Or.inl rfl | exact Or.inr rfl) (pf_op of_mul (pf_v 1) (pf_op of_addA (pf_v 2) pf_int))))))
      (pzs_one (pz_ret ok (pf_v 1)))))
def z__law_with : SF := (sSeq (sSet 2 (bin2 ixD (lstI (limA (consA (cD (.str "-")) (consA (cD (.str "+")) nilA)))) (callA intD (consA (bin2 gEq (getD 1) (cD (.str "-"))) nilA))))
  (sRet (bin2 gAdd (callA toTup (consA (lstI (lcL (seqI (getD 0)) (setN 3) yesT (bin2 gAdd (getD 3) (getD 1)) [3])) nilA)) (tupF (consA (bin2 gAdd (bin2 gMulS (getD 2) (callA lenD (consA (getD 0) nilA))) (cD (.str "."))) nilA)))))
def sem__law_with : List PyData → Option PyData := semZ 4 z__law_with
theorem ok__law_with (T : Tx K mg a) : FnG P w K mg base CX0 1 a.f__law_with a.d__law_with ["_law_table_here", "_law_sign"] (spF K 2 sem__law_with) :=
  fn_z (k := 0) T.F__law_with sc__law_with rfl fun cdv A outer s H E O al hgd hr =>
    have nd := sc__law_with.nd
    have ok := noDeck_ok al
    (pzs_cons (pz_of_set (pd_set (i := 2) ok nd rfl (by first | exact Or.inl rfl | exact Or.inr rfl) (pf_ix (pfl_lst (pfa_cons pf_str (pfa_cons pf_str pfa_nil))).pf (pf_callTy cf_int (by rfl) T.z_int (by decide +kernel) (pfa_cons (pf_cmp (of_eq hr.units) (pf_v 1) pf_str (nomark _)) pfa_nil)))))
      (pzs_one (pz_ret ok (pf_op of_addA (pf_callTy cf_tuple (by rfl) T.z_tuple (by decide +kernel) (pfa_cons (pfl_lc rfl nd (pif_seq (pf_v 0)) (blkOk_by (own := [("_law_row", 3)]) (by rfl)) (fun _ _ _ _ _ => (pgf_name (i := 3) nd rfl (by first | exact Or.inl rfl | exact Or.inr rfl))) (fun _ _ _ _ _ => ptsf_nil) (fun _ _ _ _ _ => (pf_op of_addA (pf_v 3) (pf_v 1)))).pf pfa_nil)) (pf_tup (pfa_cons (pf_op of_addA (pf_op of_mulS (pf_v 2) (pf_callB cf_len (by rfl) T.z_len (by decide +kernel) (pfa_cons (pf_v 0) pfa_nil))) pf_str) pfa_nil))))))
def z__law_positive : SF := (sRet (callA toTup (consA (lstI (lcL (enumI (getD 0)) (setT [1, 2]) (tstF (bin2 (gI fun i j => .bool (decide (j < i))) (getD 2) (cD (.int 0)))) (getD 1) [1, 2])) nilA)))
def sem__law_positive : List PyData → Option PyData := semZ 3 z__law_positive
theorem ok__law_positive (T : Tx K mg a) : FnG P w K mg base CX0 1 a.f__law_positive a.d__law_positive ["_law_counts"] (spF K 1 sem__law_positive) :=
  fn_z (k := 0) T.F__law_positive sc__law_positive rfl fun cdv A outer s H E O al hgd hr =>
    have nd := sc__law_positive.nd
    have ok := noDeck_ok al
    (pzs_one (pz_ret ok (pf_callTy cf_tuple (by rfl) T.z_tuple (by decide +kernel) (pfa_cons (pfl_lc rfl nd (pif_enum (by rfl) T.z_enumerate (pf_v 0)) (blkOk_by (own := [("_law_one", 1), ("_law_number_here", 2)]) (by rfl)) (fun _ _ _ _ _ => (pgf_tup rfl (pgsf_cons (i := 1) nd rfl (by first | exact Or.inl rfl | exact Or.inr rfl) (pgsf_cons (i := 2) nd rfl (by first | exact Or.inl rfl | exact Or.inr rfl) pgsf_nil)))) (fun _ _ _ _ _ => (ptsf_one (pft_cmp of_gt (pf_v 2) pf_int (nomark _)))) (fun _ _ _ _ _ => (pf_v 1))).pf pfa_nil))))
theorem ok_beats_all (T : Tx K mg a) : FnG P w K mg base CX0 2 a.f_beats_all a.d_beats_all ["table", "one", "others"] (spF K 3 sem_beats_all) :=
  fn_z (k := 1) T.F_beats_all sc_beats_all rfl fun cdv A outer s H E O al hgd hr =>
    have nd := sc_beats_all.nd
    have ok := noDeck_ok al
    (pzs_one (pz_ret ok (pf_callB (cf_all rfl) (by rfl) T.z_all (by decide +kernel) (pfa_cons (pfl_lc rfl nd (pif_seq (pf_v 2)) (blkOk_by (own := [("other", 3)]) (by rfl)) (fun _ _ _ _ _ => (pgf_name (i := 3) nd rfl (by first | exact Or.inl rfl | exact Or.inr rfl))) (fun _ _ _ _ _ => ptsf_nil) (fun _ _ _ _ _ => (pf_call ((ok_beats T).up (by first | decide | omega)) hgd hr (by rfl) T.g_beats T.F_beats.kp T.b_beats pass0 (pfa_cons (pf_v 0) (pfa_cons (pf_v 1) (pfa_cons (pf_v 3) pfa_nil)))))).pf pfa_nil))))
theorem ok_relabel_table (T : Tx K mg a) : FnG P w K mg base CX0 2 a.f_relabel_table a.d_relabel_table ["table", "order"] (spF K 2 sem_relabel_table) :=
  fn_z (k := 1) T.F_relabel_table sc_relabel_table rfl fun cdv A outer s H E O al hgd hr =>
    have nd := sc_relabel_table.nd
    have ok := noDeck_ok al
    (pzs_one (pz_ret ok (pf_call ((ok_pick_table T).up (by first | decide | omega)) hgd hr (by rfl) T.g_pick_table T.F_pick_table.kp T.b_pick_table pass0 (pfa_cons (pf_v 0) (pfa_cons (pf_v 1) pfa_nil)))))
theorem ok_counts_within (T : Tx K mg a) : FnG P w K mg base CX0 2 a.f_counts_within a.d_counts_within ["table", "members", "smaller"] (spM K 3 (fun i => decide (i = 1)) semM_counts_within) :=
  fn_zM (k := 1) T.F_counts_within sc_counts_within rfl fun cdv A outer s H E O al hgd hr =>
    have nd := sc_counts_within.nd
    have ok := noDeck_ok al
    (pzs_cons (pz_of_own (pd_own (i := 3) ok nd rfl (by first | exact Or.inl rfl | exact Or.inr rfl) (pfl_rep (pfa_cons pf_int pfa_nil) (pf_callB cf_len (by rfl) T.z_len (by decide +kernel) (pfa_cons (pf_v 0) pfa_nil)))))
      (pzs_cons (pz_if ok (pft_cmp (of_eq hr.units) (pf_callB cf_len (by rfl) T.z_len (by decide +kernel) (pfa_cons (pf_v 1) pfa_nil)) pf_int (nomark _)) (pzs_cons (pz_of_putO (pd_lset ok 3 (pf_ix (pf_v 1) pf_int) pf_int))
      (pzs_freeze ok 3 (pzs_one (pz_ret ok (pf_callTy cf_tuple (by rfl) T.z_tuple (by decide +kernel) (pfa_cons (pf_v 3) pfa_nil)))))) pzs_nil)
      (pzs_cons (pz_for ok PassesOwn.never rfl (pif_enum (by rfl) T.z_enumerate (pf_v 1)) (pgf_tup rfl (pgsf_cons (i := 4) nd rfl (by first | exact Or.inl rfl | exact Or.inr rfl) (pgsf_cons (i := 5) nd rfl (by first | exact Or.inl rfl | exact Or.inr rfl) pgsf_nil))) (sets_tup [4, 5])
      (pzs_one (pz_for ok PassesOwn.never rfl (pif_enum (by rfl) T.z_enumerate (pf_dget hr.units (pdi_dat true (pf_v 2)) (pk_st (pst_cat2 (pst_slice (pst_v 1) pfo_none (pfo_some (pf_v 4))) (pst_slice (pst_v 1) (pfo_some (pf_op of_addA (pf_v 4) pf_int)) pfo_none))))) (pgf_tup rfl (pgsf_cons (i := 6) nd rfl (by first | exact Or.inl rfl | exact Or.inr rfl) (pgsf_cons (i := 7) nd rfl (by first | exact Or.inl rfl | exact Or.inr rfl) pgsf_nil))) (sets_tup [6, 7])
      (pzs_one (pz_of_augI (pd_laug ok 3 (pf_ifExp (pft_val (pf_call ((ok_beats T).up (by first | decide | omega)) hgd hr (by rfl) T.g_beats T.F_beats.kp T.b_beats pass0 (pfa_cons (pf_v 0) (pfa_cons (pf_v 5) (pfa_cons (pf_v 6) pfa_nil))))) (pf_v 5) (pf_v 6)) (pf_v 7)))))))
      (pzs_freeze ok 3 (pzs_one (pz_ret ok (pf_callTy cf_tuple (by rfl) T.z_tuple (by decide +kernel) (pfa_cons (pf_v 3) pfa_nil))))))))
theorem ok_careful_counts (T : Tx K mg a) : FnG P w K mg base CX0 2 a.f_careful_counts a.d_careful_counts ["table"] (spF K 1 sem_careful_counts) :=
  fn_z (k := 1) T.F_careful_counts sc_careful_counts rfl fun cdv A outer s H E O al hgd hr =>
    have nd := sc_careful_counts.nd
    have ok := noDeck_ok al
    (pzs_cons (pz_of_own (pd_own (i := 1) ok nd rfl (by first | exact Or.inl rfl | exact Or.inr rfl) (pfl_rep (pfa_cons pf_int pfa_nil) (pf_callB cf_len (by rfl) T.z_len (by decide +kernel) (pfa_cons (pf_v 0) pfa_nil)))))
      (pzs_cons (pz_of_own (pd_own (i := 2) ok nd rfl (by first | exact Or.inl rfl | exact Or.inr rfl) (pfl_lst (pfa_cons (pf_tup (pfa_cons ((prf_1 (by rfl) T.z_range (pf_callB cf_len (by rfl) T.z_len (by decide +kernel) (pfa_cons (pf_v 0) pfa_nil))).tup rfl (by rfl) T.z_tuple (by rfl)) (pfa_cons (pf_call ((ok_number_of_orders T).up (by first | decide | omega)) hgd hr (by rfl) T.g_number_of_orders T.F_number_of_orders.kp T.b_number_of_orders pass0 (pfa_cons (pf_callB cf_len (by rfl) T.z_len (by decide +kernel) (pfa_cons (pf_v 0) pfa_nil)) pfa_nil)) pfa_nil))) pfa_nil))))
      (pzs_cons (pz_while 1000000 ok PassesOwn.never (pft_own 2)
      (pzs_cons (pz_of_popU (pd_unpX (i := 3) (j := 4) ok rfl nd rfl rfl (by first | exact Or.inl rfl | exact Or.inr rfl) (by first | exact Or.inl rfl | exact Or.inr rfl) (px_pop ok 2)))
      (pzs_cons (pz_of_set (pd_set (i := 5) ok nd rfl (by first | exact Or.inl rfl | exact Or.inr rfl) (pf_op of_fdiv (pf_v 4) (pf_callB cf_len (by rfl) T.z_len (by decide +kernel) (pfa_cons (pf_v 3) pfa_nil)))))
      (pzs_one (pz_for ok PassesOwn.never rfl (pif_seq (pf_v 3)) (pgf_name (i := 6) nd rfl (by first | exact Or.inl rfl | exact Or.inr rfl)) (sets_name 6)
      (pzs_cons (pz_of_set (pd_set (i := 7) ok nd rfl (by first | exact Or.inl rfl | exact Or.inr rfl) (pf_callTy cf_tuple (by rfl) T.z_tuple (by decide +kernel) (pfa_cons (pfl_lc rfl nd (pif_seq (pf_v 3)) (blkOk_by (own := [("other", 8)]) (by rfl)) (fun _ _ _ _ _ => (pgf_name (i := 8) nd rfl (by first | exact Or.inl rfl | exact Or.inr rfl))) (fun _ _ _ _ _ => (ptsf_one (pft_val (pf_call ((ok_beats T).up (by first | decide | omega)) hgd hr (by rfl) T.g_beats T.F_beats.kp T.b_beats pass0 (pfa_cons (pf_v 0) (pfa_cons (pf_v 8) (pfa_cons (pf_v 6) pfa_nil))))))) (fun _ _ _ _ _ => (pf_v 8))).pf pfa_nil))))
      (pzs_one (pz_if ok (pft_cmp (of_eq hr.units) (pf_callB cf_len (by rfl) T.z_len (by decide +kernel) (pfa_cons (pf_v 7) pfa_nil)) pf_int (nomark _)) (pzs_one (pz_of_augI (pd_laug ok 1 (pf_v 6) (pf_v 5)))) (pzs_one (pz_of_app (pd_append (i := 2) ok rfl (by first | exact Or.inl rfl | exact Or.inr (Or.inl rfl) | exact Or.inr (Or.inr rfl)) (pf_tup (pfa_cons (pf_v 7) (pfa_cons (pf_v 5) pfa_nil))))))))))))))
      (pzs_freeze ok 1 (pzs_one (pz_ret ok (pf_callTy cf_tuple (by rfl) T.z_tuple (by decide +kernel) (pfa_cons (pf_v 1) pfa_nil))))))))
theorem okl_each_chain_from (T : Tx K mg a) : LFn P w K mg base 2 a.f_each_chain_from a.d_each_chain_from ["table", "top"] (spLF K 2 semg_each_chain_from) :=
  lfn_z (k := 1) T.F_each_chain_from sc_each_chain_from rfl (by intro _; rfl) (by decide +kernel) fun cdv A outer L a g go okD hgd hr =>
    have nd := sc_each_chain_from.nd
    (lzs_cons (lz_plain (fun th S ok => (pz_of_own (pd_own (i := 2) ok nd rfl (by first | exact Or.inl rfl | exact Or.inr rfl) (pfl_lst (pfa_cons (pf_tup (pfa_cons (pf_v 1) pfa_nil)) pfa_nil))))))
      (lzs_cons (lz_while 1000000 (fun th => (pft_own 2)) (lzs_cons (lz_plain (fun th S ok => (pz_of_pop (pd_setX (i := 3) nd rfl (by first | exact Or.inl rfl | exact Or.inr rfl) (px_pop ok 2)))))
      (lzs_cons (lz_yield okD (fun th => (pf_v 3)))
      (lzs_cons (lz_plain (fun th S ok => (pz_for ok PassesOwn.never rfl (pif_rev (by rfl) T.z_reversed (by rfl) T.z_range (pf_callB cf_len (by rfl) T.z_len (by decide +kernel) (pfa_cons (pf_v 0) pfa_nil))) (pgf_name (i := 4) nd rfl (by first | exact Or.inl rfl | exact Or.inr rfl)) (sets_name 4)
      (pzs_one (pz_if ok (pft_val (pf_call ((ok_loses_to_all T).up (by first | decide | omega)) hgd hr (by rfl) T.g_loses_to_all T.F_loses_to_all.kp T.b_loses_to_all pass0 (pfa_cons (pf_v 0) (pfa_cons (pf_v 4) (pfa_cons (pf_v 3) pfa_nil))))) (pzs_one (pz_of_app (pd_append (i := 2) ok rfl (by first | exact Or.inl rfl | exact Or.inr (Or.inl rfl) | exact Or.inr (Or.inr rfl)) (pf_op of_addA (pf_v 3) (pf_tup (pfa_cons (pf_v 4) pfa_nil)))))) pzs_nil)))))
      lzs_nil))))
      lzs_nil))
theorem ok_is_dominant (T : Tx K mg a) : FnG P w K mg base CX0 3 a.f_is_dominant a.d_is_dominant ["table", "members"] (spF K 2 sem_is_dominant) :=
  fn_z (k := 2) T.F_is_dominant sc_is_dominant rfl fun cdv A outer s H E O al hgd hr =>
    have nd := sc_is_dominant.nd
    have ok := noDeck_ok al
    (pzs_cons (pz_of_set (pd_set (i := 2) ok nd rfl (by first | exact Or.inl rfl | exact Or.inr rfl) (pf_call ((ok_outsiders T).up (by first | decide | omega)) hgd hr (by rfl) T.g_outsiders T.F_outsiders.kp T.b_outsiders pass0 (pfa_cons (pf_v 0) (pfa_cons (pf_v 1) pfa_nil)))))
      (pzs_one (pz_ret ok (pf_callB (cf_all rfl) (by rfl) T.z_all (by decide +kernel) (pfa_cons (pfl_lc rfl nd (pif_seq (pf_v 1)) (blkOk_by (own := [("one", 3)]) (by rfl)) (fun _ _ _ _ _ => (pgf_name (i := 3) nd rfl (by first | exact Or.inl rfl | exact Or.inr rfl))) (fun _ _ _ _ _ => ptsf_nil) (fun _ _ _ _ _ => (pf_call ((ok_beats_all T).up (by first | decide | omega)) hgd hr (by rfl) T.g_beats_all T.F_beats_all.kp T.b_beats_all pass0 (pfa_cons (pf_v 0) (pfa_cons (pf_v 3) (pfa_cons (pf_v 2) pfa_nil)))))).pf pfa_nil)))))
theorem ok_sequence_counts (T : Tx K mg a) : FnG P w K mg base CX0 3 a.f_sequence_counts a.d_sequence_counts ["table"] (spF K 1 sem_sequence_counts) :=
  fn_z (k := 2) T.F_sequence_counts sc_sequence_counts rfl fun cdv A outer s H E O al hgd hr =>
    have nd := sc_sequence_counts.nd
    have ok := noDeck_ok al
    (pzs_cons (pz_of_setN (pd_setN (i := 1) ok nd rfl (by first | exact Or.inl rfl | exact Or.inr rfl) pn_dct))
      (pzs_cons (pz_forS (i := 2) ok PassesOwn.never rfl (pisd_seq (psd_sortLen rfl hr.units (by rfl) T.z_sorted (by rfl) T.z_len (psd_call ((okS_all_sets T).up (by first | decide | omega)) hgd hr (by rfl) T.g_all_sets T.F_all_sets.kp T.b_all_sets pass0 (pfa_cons (pf_v 0) pfa_nil)))) nd rfl (by first | exact Or.inl rfl | exact Or.inr rfl)
      (pzs_one (pz_if ok (pft_cmp of_gt (pf_callB cf_len (by rfl) T.z_len (by decide +kernel) (pfa_cons (pf_v 2) pfa_nil)) pf_int (nomark _)) (pzs_one (pz_of_putC (pd_dsetL ok hr.units 1 (pk_st (pst_v 2)) (pf_callM ((ok_counts_within T).up (by first | decide | omega)) hgd hr (by rfl) T.g_counts_within T.F_counts_within.kp T.b_counts_within pass0 (pfm_dat (pf_v 0) (pfm_st (pst_v 2) (pfm_dat (pf_v 1) pfm_nil))) mk_counts_within)))) pzs_nil)))
      (pzs_one (pz_ret ok (pf_dget hr.units (pdi_own 1) (pk_st (pst_rng rfl (by rfl) T.z_tuple (by rfl) T.z_range (pf_callB cf_len (by rfl) T.z_len (by decide +kernel) (pfa_cons (pf_v 0) pfa_nil)))))))))
theorem ok_is_full (T : Tx K mg a) : FnG P w K mg base CX0 3 a.f_is_full a.d_is_full ["table", "chain"] (spF K 2 sem_is_full) :=
  fn_z (k := 2) T.F_is_full sc_is_full rfl fun cdv A outer s H E O al hgd hr =>
    have nd := sc_is_full.nd
    have ok := noDeck_ok al
    (pzs_one (pz_ret ok (pf_not (pf_callB (cf_any rfl) (by rfl) T.z_any (by decide +kernel) (pfa_cons (pfl_lc rfl nd (pif_range1 (by rfl) T.z_range (pf_callB cf_len (by rfl) T.z_len (by decide +kernel) (pfa_cons (pf_v 0) pfa_nil))) (blkOk_by (own := [("one", 2)]) (by rfl)) (fun _ _ _ _ _ => (pgf_name (i := 2) nd rfl (by first | exact Or.inl rfl | exact Or.inr rfl))) (fun _ _ _ _ _ => ptsf_nil) (fun _ _ _ _ _ => (pf_call ((ok_beats_all T).up (by first | decide | omega)) hgd hr (by rfl) T.g_beats_all T.F_beats_all.kp T.b_beats_all pass0 (pfa_cons (pf_v 0) (pfa_cons (pf_v 2) (pfa_cons (pf_v 1) pfa_nil)))))).pf pfa_nil)))))
theorem ok_dominant_sets (T : Tx K mg a) : FnG P w K mg base CX0 4 a.f_dominant_sets a.d_dominant_sets ["table"] (spF K 1 sem_dominant_sets) :=
  fn_z (k := 3) T.F_dominant_sets sc_dominant_sets rfl fun cdv A outer s H E O al hgd hr =>
    have nd := sc_dominant_sets.nd
    have ok := noDeck_ok al
    (pzs_cons (pz_of_set (pd_set (i := 1) ok nd rfl (by first | exact Or.inl rfl | exact Or.inr rfl) (pf_call ((ok_scores T).up (by first | decide | omega)) hgd hr (by rfl) T.g_scores T.F_scores.kp T.b_scores pass0 (pfa_cons (pf_v 0) pfa_nil))))
      (pzs_cons (pz_of_own (pd_own (i := 2) ok nd rfl (by first | exact Or.inl rfl | exact Or.inr rfl) (pfl_lst pfa_nil)))
      (pzs_cons (pz_for ok PassesOwn.never rfl (pif_rev (by rfl) T.z_reversed (by rfl) T.z_range (pf_callB cf_len (by rfl) T.z_len (by decide +kernel) (pfa_cons (pf_v 0) pfa_nil))) (pgf_name (i := 3) nd rfl (by first | exact Or.inl rfl | exact Or.inr rfl)) (sets_name 3)
      (pzs_cons (pz_of_set (pd_set (i := 4) ok nd rfl (by first | exact Or.inl rfl | exact Or.inr rfl) (pf_callTy cf_tuple (by rfl) T.z_tuple (by decide +kernel) (pfa_cons (pfl_lc rfl nd (pif_enum (by rfl) T.z_enumerate (pf_v 1)) (blkOk_by (own := [("one", 5), ("wins", 6)]) (by rfl)) (fun _ _ _ _ _ => (pgf_tup rfl (pgsf_cons (i := 5) nd rfl (by first | exact Or.inl rfl | exact Or.inr rfl) (pgsf_cons (i := 6) nd rfl (by first | exact Or.inl rfl | exact Or.inr rfl) pgsf_nil)))) (fun _ _ _ _ _ => (ptsf_one (pft_cmp of_ge (pf_v 6) (pf_v 3) (nomark _)))) (fun _ _ _ _ _ => (pf_v 5))).pf pfa_nil))))
      (pzs_one (pz_if ok (pfw_and (pft_cmp (of_eq hr.units) (pf_op of_addA (pf_callB cf_len (by rfl) T.z_len (by decide +kernel) (pfa_cons (pf_v 4) pfa_nil)) (pf_v 3)) (pf_callB cf_len (by rfl) T.z_len (by decide +kernel) (pfa_cons (pf_v 0) pfa_nil)) (nomark _)) (pfw_and1 (pft_val (pf_call ((ok_is_dominant T).up (by first | decide | omega)) hgd hr (by rfl) T.g_is_dominant T.F_is_dominant.kp T.b_is_dominant pass0 (pfa_cons (pf_v 0) (pfa_cons (pf_v 4) pfa_nil)))))).pft (pzs_one (pz_of_app (pd_append (i := 2) ok rfl (by first | exact Or.inl rfl | exact Or.inr (Or.inl rfl) | exact Or.inr (Or.inr rfl)) (pf_v 4)))) pzs_nil))))
      (pzs_freeze ok 2 (pzs_one (pz_ret ok (pf_callTy cf_tuple (by rfl) T.z_tuple (by decide +kernel) (pfa_cons (pf_v 2) pfa_nil))))))))
def z__law_both : SF := (sRet (lstI (limA (consA (callU 1 sem_sequence_counts (consA (getD 0) nilA)) (consA (callU 1 sem_careful_counts (consA (getD 0) nilA)) nilA)))))
def sem__law_both : List PyData → Option PyData := semZ 1 z__law_both
theorem ok__law_both (T : Tx K mg a) : FnG P w K mg base CX0 4 a.f__law_both a.d__law_both ["_law_table_here"] (spF K 1 sem__law_both) :=
  fn_z (k := 3) T.F__law_both sc__law_both rfl fun cdv A outer s H E O al hgd hr =>
    have nd := sc__law_both.nd
    have ok := noDeck_ok al
    (pzs_one (pz_ret ok (pfl_lst (pfa_cons (pf_call ((ok_sequence_counts T).up (by first | decide | omega)) hgd hr (by rfl) T.g_sequence_counts T.F_sequence_counts.kp T.b_sequence_counts pass0 (pfa_cons (pf_v 0) pfa_nil)) (pfa_cons (pf_call ((ok_careful_counts T).up (by first | decide | omega)) hgd hr (by rfl) T.g_careful_counts T.F_careful_counts.kp T.b_careful_counts pass0 (pfa_cons (pf_v 0) pfa_nil)) pfa_nil))).pf))
theorem ok_top_set (T : Tx K mg a) : FnG P w K mg base CX0 5 a.f_top_set a.d_top_set ["table"] (spF K 1 sem_top_set) :=
  fn_z (k := 4) T.F_top_set sc_top_set rfl fun cdv A outer s H E O al hgd hr =>
    have nd := sc_top_set.nd
    have ok := noDeck_ok al
    (pzs_one (pz_ret ok (pf_ix (pf_call ((ok_dominant_sets T).up (by first | decide | omega)) hgd hr (by rfl) T.g_dominant_sets T.F_dominant_sets.kp T.b_dominant_sets pass0 (pfa_cons (pf_v 0) pfa_nil)) pf_int)))
theorem ok_first_full_chain (T : Tx K mg a) : FnG P w K mg base CX0 6 a.f_first_full_chain a.d_first_full_chain ["table", "top"] (spF K 2 sem_first_full_chain) :=
  fn_z (k := 5) T.F_first_full_chain sc_first_full_chain rfl fun cdv A outer s H E O al hgd hr =>
    have nd := sc_first_full_chain.nd
    have ok := noDeck_ok al
    (pzs_cons (pz_forG ok rfl rfl hgd ((okl_each_chain_from T).up (by first | decide | omega)) hr (by rfl) T.g_each_chain_from T.F_each_chain_from.kp T.b_each_chain_from (pfa_cons (pf_v 0) (pfa_cons (pf_v 1) pfa_nil)) (pgf_name (i := 2) nd rfl (by first | exact Or.inl rfl | exact Or.inr rfl)) (sets_name 2) (fun S lk => have ok := lk.ok;
      (pzs_one (pz_if ok (pft_val (pf_call ((ok_is_full T).up (by first | decide | omega)) hgd hr (by rfl) T.g_is_full T.F_is_full.kp T.b_is_full pass0 (pfa_cons (pf_v 0) (pfa_cons (pf_v 2) pfa_nil)))) (pzs_one (pz_ret ok (pf_v 2))) pzs_nil))))
      (pzs_one (pz_ret ok pf_non)))
theorem ok_chain_tops (T : Tx K mg a) : FnG P w K mg base CX0 7 a.f_chain_tops a.d_chain_tops ["table"] (spF K 1 sem_chain_tops) :=
  fn_z (k := 6) T.F_chain_tops sc_chain_tops rfl fun cdv A outer s H E O al hgd hr =>
    have nd := sc_chain_tops.nd
    have ok := noDeck_ok al
    (pzs_one (pz_ret ok (pf_callTy cf_tuple (by rfl) T.z_tuple (by decide +kernel) (pfa_cons (pfl_lc rfl nd (pif_range1 (by rfl) T.z_range (pf_callB cf_len (by rfl) T.z_len (by decide +kernel) (pfa_cons (pf_v 0) pfa_nil))) (blkOk_by (own := [("one", 1)]) (by rfl)) (fun _ _ _ _ _ => (pgf_name (i := 1) nd rfl (by first | exact Or.inl rfl | exact Or.inr rfl))) (fun _ _ _ _ _ => (ptsf_one (pft_cmp of_notN (pf_call ((ok_first_full_chain T).up (by first | decide | omega)) hgd hr (by rfl) T.g_first_full_chain T.F_first_full_chain.kp T.b_first_full_chain pass0 (pfa_cons (pf_v 0) (pfa_cons (pf_v 1) pfa_nil))) pf_non (nomark _)))) (fun _ _ _ _ _ => (pf_v 1))).pf pfa_nil))))
end
end DS
namespace DS
open PySem PySem.Spec PyProof.Rows L2
/-! ### decks [digits, whole, count] -/
structure Deck3 (H : Hp) (d g : Addr) (n : Nat) : Prop where
  ex : ∃ (gs : List Int) (w : Int) (k : Nat), H d = some (.lst [.ref g, .int w, .int k]) ∧ H g = some (.lst (gs.map V.int)) ∧ gs.length ≤ 64 ∧ 0 ≤ w ∧ w < 2305843009213693951 ∧ k ≤ n
  dg : d ≠ g
def fam3 : FamT := fun dv M Dk => ∃ d g, dv = .ref d ∧ M = (fun a => a = d ∨ a = g) ∧ Dk = fun H n => Deck3 H d g n
theorem fam3_ok : FamOk fam3 := ⟨fun dv M Dk ⟨d, g, e1, e2, e3⟩ H H' n k h => by
  subst e2 e3
  obtain ⟨⟨gs, w, m, h1, h2, h3⟩, a⟩ := h
  exact ⟨⟨gs, w, m, by rw [k d (.inl rfl)]; exact h1, by rw [k g (.inr rfl)]; exact h2, h3⟩, a⟩⟩
def spDr3 (B : Nat) : Sp := fun vs H Q _ => ∃ (d g : Addr) (n : Nat) (m : Int), vs = [.ref d, .int m] ∧ Deck3 H d g n ∧ n < B ∧ 0 < m ∧ m < 1000000000 ∧
  ∀ (H' : Hp) (k : Int), 0 ≤ k → k < m → Deck3 H' d g (n + 1) → Frm d g H H' → Q (.int k) H'
theorem dr3_of {B : Nat} {P : Program} {w : World} {K : PySem.W.Frag} {mg : Str → Option Value} {base : Heap} {k : Nat} {f : Addr} {fd : FuncData} {ps : List Str} (F : FnOk P w K mg base CX0 k f fd ps (spDr3 B)) : FnG P w K mg base CX0 k f fd ps (spD fam3 K 1 (wDrG B)) :=
  FnG.of (F.imp fun vs H Q E ⟨dv, M, Dk, us, O, ds, n, e1, ⟨d, g, e2, e3, e4⟩, dk, al, mo, dx, hl, m, e5, h1, h2, h3, q⟩ => by
    subst e1 e2 e3 e4 e5
    cases dx with
    | cons x1 x2 =>
      cases x1
      cases x2
      refine ⟨d, g, n, m, rfl, dk, h3, h1, h2, fun H' k a b D' f => q k a b _ H' (fun b x e nm => f b x e (fun z => nm (.inl z)) fun z => nm (.inr z)) D' (fun a z => ?_) (.int _)⟩
      obtain ⟨⟨gs, w, m, g1, g2, g3⟩, _⟩ := D'
      by_cases e1 : a = d
      · rw [e1, g1]
        exact fun w => nomatch w
      · by_cases e2 : a = g
        · rw [e2, g2]
          exact fun w => nomatch w
        · cases e : H a with
          | none => exact absurd e (al a z)
          | some o =>
            rw [f a o e e1 e2]
            exact fun w => nomatch w)
section
variable {X : Cx} {S : Fr} {a b e : Expr} {Ta Tb : TXP} {pos : Pos}
/-- a, b = x, {} with draws, where a name is a cell -/
theorem pd_parXNC (ok : S.Ok) {T : TXP} {gb : Dn → Option Ent} {i j : Nat} {x y : Str} {px py pt : Pos} {kt k2 pt2} (hc : X.calm = true) (hN : X.N.Nodup) (hi : X.N[i]? = some x) (hj : X.N[j]? = some y)
    (hx : Loc X.env.scope x) (hy : Loc X.env.scope y) (ha : PX X S a T) (hb : PN X b gb)
    (hw : swappedStores [.Tuple [.Name x px, .Name y py] kt pt] (.Tuple [a, b] k2 pt2) X.env = pure none := by rfl)
    (hs : swapsWithSole [.Tuple [.Name x px, .Name y py] kt pt] (.Tuple [a, b] k2 pt2) pos.line X.env = pure false := by rfl)
    (h1 : (assignEach [.Tuple [.Name x px, .Name y py] kt pt] X.env).map (·.2) = [assign (.Tuple [.Name x px, .Name y py] kt pt) X.env] := by rfl)
    (hfx : X.fn x = true ∨ X.env.scope.names.lookup x = some .local := by first | exact .inl rfl | exact .inr rfl | assumption) (hfy : X.fn y = true ∨ X.env.scope.names.lookup y = some .local := by first | exact .inl rfl | exact .inr rfl | assumption)
    (e1 : (assignEach [.Name x px, .Name y py] X.env).map (·.2) = assign (.Name x px) X.env :: (assignEach [.Name y py] X.env).map (·.2) := by rfl) (e2 : (assignEach [.Name y py] X.env).map (·.2) = assign (.Name y py) X.env :: (assignEach [] X.env).map (·.2) := by rfl)
    (hn : (assignEach [.Name x px, .Name y py] X.env).length = 2 := by rfl) (hst : (assignEach [.Name x px, .Name y py] X.env).findIdx? (·.1) = none := by rfl)
    (s1 : starEach [a, b] X.env = (false, eval a X.env) :: starEach [b] X.env := by rfl) (s2 : starEach [b] X.env = (false, eval b X.env) :: starEach [] X.env := by rfl) :
    PD X S (.Assign [.Tuple [.Name x px, .Name y py] kt pt] (.Tuple [a, b] k2 pt2) pos) (dParXN i j T gb) := ⟨(ps_asg (pe_tup (pa_cons ha.pe (pa_cons hb.pe pa_nil s2) s1)) (pg_tup hc (pgs_cons (pg_name hN hi hx hfx) (pgs_cons (pg_name hN hj hy hfy) pgs_nil e2) e1) hn hst) hs hw h1).imp fun D σ H ⟨B, O, ρ, n, DD, r, t, En⟩ =>
  ⟨B, O, ρ, n, r, ha.mono _ _ _ _ (fun d ρ1 n1 ⟨F, e2, z⟩ v H1 r1 dx => ⟨O, S.dv, ρ1, F, r1.al, r1.rep, e2, fun u A2 H2 s2 nA2 k2 th2 inn2 =>
    ⟨(show 2 ≤ sizeLine by decide), fun q nq => ⟨q, _, rfl, .inl (.inl upd_same), rfl, _, _, rfl, _, [], rfl, rfl, En.nx _ _ _ _ n1 ((((r1.set (v := v) (e := .dat d) ⟨v, rfl, dx⟩ notOwn_dat i).fresh ok s2 nA2 k2 th2 inn2 j)).same ok (new_same nq)) z⟩⟩⟩) t⟩⟩
end
end DS
set_option maxHeartbeats 4000000
namespace DS
open PySem PySem.Spec PyProof.Rows L2
section
variable {P : Program} {w : World} {K : PySem.W.Frag} {mg : Str → Option Value} {base : Heap} {a : Ad}
theorem ok__law_begin (T : Tx K mg a) : FnG P w K mg base CX0 1 a.f__law_begin a.d__law_begin ["_law_script"] (spBegin fam3 K) := by
  refine FnG.of (T.F__law_begin.ok (k := 0) sc__law_begin (fun vs H Q E h => ?_) (fun cdv A outer s H vs Q E hr h => ?_))
  · obtain ⟨a, ns, rfl, _⟩ := h
    rfl
  · obtain ⟨a, ns, rfl, ha, hn, q⟩ := h
    have nd := sc__law_begin.nd
    refine ⟨_, pss_cons (ps_setLc (i := 2) (own := [("_law_cell", 1)]) (g := gName 1) rfl nd rfl rfl (sw_true rfl rfl rfl (by decide +kernel)) (pi_list (pv 0)) (blkOk_by (own := [("_law_cell", 1)]) (by rfl))
        (fun _ _ _ _ _ => pg_name (i := 1) nd rfl (.inl rfl)) (fun _ _ _ _ _ => pts_one (pt_cmpR op_ge (pe_callB call_abs (by rfl) T.z_abs (by decide +kernel) (pa_cons (pv 1) pa_nil)) (pe_op op_pow pe_int pe_int) (nomark _)))
        (fun _ _ _ _ _ => pe_callB call_abs (by rfl) T.z_abs (by decide +kernel) (pa_cons (pv 1) pa_nil)))
      (pss_cons (ps_set (i := 3) nd rfl (.inl rfl) (pe_op op_add pe_int (pe_callB call_len_seq (by rfl) T.z_len PySem.boot_len (pa_cons (pv 0) pa_nil))))
      (pss_cons (ps_for PassesOwn.never rfl (pi_list (pv 0)) (pg_name (i := 1) nd rfl (.inl rfl))
        (pss_one (ps_set (i := 3) nd rfl (.inl rfl) (pe_op op_mod (pe_op op_add (pe_op op_add (pe_op op_mul (pv 3) pe_int) (pe_op op_mul pe_int (pe_callB call_abs (by rfl) T.z_abs (by decide +kernel) (pa_cons (pv 1) pa_nil))))
          (pe_callTy call_int1 (by rfl) T.z_int (by decide +kernel) (pa_cons (pe_cmpR op_lt (pv 1) pe_int (nomark _)) pa_nil))) pe_int))))
      (pss_one (ps_ret (pe_lst (pa_cons (pe_revL (pv 2)) (pa_cons (pv 3) (pa_cons pe_int pa_nil)))))))), ?_⟩
    refine ⟨.ref a, rfl, a, rfl, ⟨_, ha⟩, fun D nD => ?_⟩
    refine lc_list (xs := ns.map V.int) (fun i H6 => ∃ gs : List Int, gs.length ≤ i ∧ H6 = upd H D (.lst (gs.map V.int))) ⟨[], Nat.le_refl _, rfl⟩
      (fun i H6 _ ⟨gs, _, e⟩ => by rw [e]; exact (new_same nD).seq ha) (fun i x H6 hx ⟨gs, lg, e⟩ => ?_) (fun H6 ⟨gs, lg, e⟩ => ?_)
    · subst e
      obtain ⟨y, hy, rfl⟩ := get_map hx
      have hi : i < ns.length := (List.getElem?_eq_some_iff.mp hy).1
      refine ⟨rfl, _, rfl, y, rfl, 10, 18, rfl, rfl, ⟨by decide, by decide, by decide⟩, _, _, rfl, rfl, _, rfl, ?_⟩
      refine ite2 (fun h => ?_) (fun h => ?_)
      · refine ⟨_, rfl, y, rfl, _, upd_same, line_lt (by rw [List.length_map]; omega), gs ++ [if y < 0 then -y else y], by rw [List.length_append, List.length_singleton]; omega, ?_⟩
        rw [upd_upd, List.map_append]
        rfl
      · exact ⟨gs, by omega, rfl⟩
    · subst e
      rw [List.length_map] at lg
      have s1 : Same H (upd H D (.lst (gs.map V.int))) := new_same nD
      have HD : (upd H D (.lst (gs.map V.int))) D = some (.lst (gs.map V.int)) := upd_same
      generalize upd H D (.lst (gs.map V.int)) = H1 at s1 HD ⊢
      have ha1 := s1.seq ha
      refine ⟨.ref a, rfl, a, _, rfl, .inl ha1, 66, _, rfl, rfl, ?_⟩
      refine ⟨_, rfl, a, rfl, ⟨_, ha1⟩, for_list (xs := ns.map V.int) (fun i σ H2 => H2 = H1 ∧ ∃ (o : Option V) (w : Int), σ = [some (.ref a), o, some (.ref D), some (.int w)] ∧ 0 ≤ w ∧ w < 2305843009213693951) ⟨rfl, none, _, rfl, by omega, by rw [List.length_map]; omega⟩
        (fun i σ H2 _ ⟨e, _⟩ => by rw [e]; exact ha1) (fun i x σ H2 hx ⟨e, o, w, e2, w0, w1⟩ => ?_) (fun σ H2 ⟨e, o, w, e2, w0, w1⟩ => ?_)⟩
      · subst e e2
        obtain ⟨y, hy, rfl⟩ := get_map hx
        refine ⟨_, rfl, _, _, rfl, rfl, .inl ⟨by omega, by omega⟩, ?_⟩
        refine ⟨_, rfl, y, rfl, _, _, rfl, rfl, .inl ⟨by decide, by decide⟩, _, _, rfl, rfl, _, rfl, _, _, rfl, rfl, .inr ⟨_, rfl, _, _, rfl, rfl, _, _, rfl, rfl, (show (0 : Int) < 2305843009213693951 by decide), ?_⟩⟩
        exact ⟨rfl, _, _, rfl, Int.emod_nonneg _ (by decide), Int.emod_lt_of_pos _ (by decide)⟩
      · subst e e2
        refine ⟨.ref D, rfl, D, _, rfl, SqL.of HD, fun p np => ?_⟩
        have s2 : Same H (upd H2 p (.lst (gs.map V.int).reverse)) := s1.trans (new_same np)
        have Hp1 : (upd H2 p (.lst (gs.map V.int).reverse)) p = some (.lst (gs.reverse.map V.int)) := by rw [upd_same, List.map_reverse]
        generalize upd H2 p (.lst (gs.map V.int).reverse) = H3 at s2 Hp1 ⊢
        refine ⟨.int w, rfl, (show 3 ≤ sizeLine by decide), fun d nd0 => ?_⟩
        have ne : d ≠ p := (ne_of_none Hp1 nd0).symm
        have h1 : (upd H3 d (.lst [.ref p, .int w, .int 0])) d = some (.lst [.ref p, .int w, .int 0]) := upd_same
        have h2 : (upd H3 d (.lst [.ref p, .int w, .int 0])) p = some (.lst (gs.reverse.map V.int)) := by
          rw [upd_ne ne.symm]
          exact Hp1
        refine q _ (.ref d) (fun a => a = d ∨ a = p) (fun H n => Deck3 H d p n) ⟨d, p, rfl, rfl, rfl⟩ (fun x hx => ?_) ⟨⟨gs.reverse, w, 0, h1, h2, by rw [List.length_reverse]; omega, w0, w1, Nat.le_refl _⟩, ne⟩
        rcases hx with e | e
        · rw [e, h1]
          exact fun w => nomatch w
        · rw [e, h2]
          exact fun w => nomatch w
theorem ok0__law_next (T : Tx K mg a) : FnOk P w K mg base CX0 1 a.f__law_next a.d__law_next ["_law_deck", "_law_many"] (spDr3 (2 ^ 20)) := by
  refine T.F__law_next.ok (k := 0) sc__law_next (fun vs H Q E h => ?_) (fun cdv A outer s H vs Q E hr h => ?_)
  · obtain ⟨d, g, n, m, rfl, _⟩ := h
    rfl
  · obtain ⟨d, g, n, m, rfl, ⟨⟨gs0, wh, k, hd, hg, hl, w0, w1, hk⟩, dg⟩, hn, m0, m1, q⟩ := h
    have nd := sc__law_next.nd
    refine ⟨_, pss_cons (ps_while PassesOwn.never (pt_cmpR (op_neL hr.units) (pe_ix ix_list (pv 0) pe_int (fun _ _ => rfl)) (pe_lst pa_nil) (nomark _))
        (pss_cons (ps_set (i := 2) nd rfl (.inl rfl) (pe_bm0 PySem.F.plainAttrs_list PySem.F.slot_list_pop PySem.F.type_list_pop mt_pop (pe_ix ix_list (pv 0) pe_int (fun _ _ => rfl))))
        (pss_one (ps_if (pt_cmpR op_gt (pv 2) pe_int (nomark _))
          (pss_cons (ps_expr (pe_bm PySem.F.plainAttrs_list PySem.F.slot_list_append PySem.F.type_list_append mt_append (pe_ix ix_list (pv 0) pe_int (fun _ _ => rfl)) (pa_cons (pe_op op_fdiv (pv 2) (pv 1)) pa_nil)))
          (pss_one (ps_ret (pe_op op_mod (pv 2) (pv 1))))) pss_nil))))
      (pss_cons (ps_asg (pe_op op_add (pe_ix ix_list (pv 0) pe_int (fun _ _ => rfl)) pe_int) (pg_sub (pv 0) pe_int set_list))
      (pss_cons (ps_set (i := 3) nd rfl (.inl rfl) (pe_op op_add (pe_op op_mul (pe_ix ix_list (pv 0) pe_int (fun _ _ => rfl)) (pe_op op_add pe_int (pe_op op_mul pe_int (pe_ix ix_list (pv 0) pe_int (fun _ _ => rfl))))) (pe_op op_mul pe_int (pe_ix ix_list (pv 0) pe_int (fun _ _ => rfl)))))
      (pss_cons (ps_set (i := 3) nd rfl (.inl rfl) (pe_op op_mod (pv 3) pe_int))
      (pss_cons (ps_set (i := 3) nd rfl (.inl rfl) (pe_op op_mod (pe_op op_mul (pv 3) (pv 3)) pe_int))
      (pss_one (ps_ret (pe_op op_mod (pe_op op_fdiv (pe_op op_mod (pe_op op_mul (pv 3) (pv 3)) pe_int) pe_int) (pv 1)))))))), ?_⟩
    refine ⟨fun c σ H' => ∃ (gs : List Int) (o2 o3 : Option V), σ = [some (.ref d), some (.int m), o2, o3] ∧ c = gs.length ∧ H' d = some (.lst [.ref g, .int wh, .int k]) ∧ H' g = some (.lst (gs.map V.int)) ∧ gs.length ≤ 64 ∧ Frm d g H H',
      ⟨gs0.length, gs0, none, none, rfl, rfl, hd, hg, hl, Frm.refl⟩, fun c σ H' hW => ?_⟩
    obtain ⟨gs, o2, o3, rfl, rfl, hd1, hg1, hl1, fr⟩ := hW
    refine ⟨.ref d, rfl, d, _, 0, .ref g, rfl, rfl, .inl (.inl hd1), atI_nat (j := 0) rfl, Nat.zero_le _, fun z nz => ?_⟩
    have sz : Same H' (upd H' z (.lst [])) := same_new nz
    have hg2 := sz _ _ hg1
    have hd2 := sz _ _ hd1
    have fr2 : Frm d g H (upd H' z (.lst [])) := fr.trans fun b x e _ _ => sz b x e
    have zz : (upd H' z (.lst [])) z = some (.lst []) := upd_same
    generalize upd H' z (.lst []) = H1 at hg2 hd2 fr2 zz ⊢
    refine ⟨g, z, _, rfl, rfl, SqL.of hg2, SqL.of zz, _, rfl, ?_⟩
    rcases List.eq_nil_or_concat gs with rfl | ⟨ys, y, ec⟩
    · refine iteF ?_
      refine ⟨.ref d, rfl, d, _, 2, .int k, rfl, rfl, .inl (.inl hd2), atI_nat (j := 2) rfl, k, 1, rfl, rfl, .ref d, rfl, d, _, 2, 2, rfl, rfl, hd2, rfl, ?_⟩
      show tSeq _ _ _ _ (upd H1 d (.lst [.ref g, .int wh, .int ((k : Int) + 1)]))
      have hd3 : (upd H1 d (.lst [.ref g, .int wh, .int ((k : Int) + 1)])) d = some (.lst [.ref g, .int wh, .int ((k + 1 : Nat) : Int)]) := upd_same
      have hg3 : (upd H1 d (.lst [.ref g, .int wh, .int ((k : Int) + 1)])) g = some (.lst (([] : List Int).map V.int)) := by
        rw [upd_ne dg.symm]
        exact hg2
      have fr3 : Frm d g H (upd H1 d (.lst [.ref g, .int wh, .int ((k : Int) + 1)])) := fr2.trans fun b x e h1 _ => by
        rw [upd_ne h1]
        exact e
      generalize upd H1 d (.lst [.ref g, .int wh, .int ((k : Int) + 1)]) = H2 at hd3 hg3 fr3 ⊢
      have dk : Deck3 H2 d g (n + 1) := ⟨⟨[], wh, k + 1, hd3, hg3, Nat.zero_le _, w0, w1, by omega⟩, dg⟩
      refine ⟨.ref d, rfl, d, _, 1, .int wh, rfl, rfl, .inl (.inl hd3), atI_nat (j := 1) rfl, .ref d, rfl, d, _, 2, .int ((k + 1 : Nat) : Int), rfl, rfl, .inl (.inl hd3), atI_nat (j := 2) rfl, ?_⟩
      refine ⟨_, _, rfl, rfl, .inl ⟨by decide, by decide⟩, _, _, rfl, rfl, _, _, rfl, rfl, .inl ⟨by omega, by omega⟩, ?_⟩
      refine ⟨.ref d, rfl, d, _, 2, .int ((k + 1 : Nat) : Int), rfl, rfl, .inl (.inl hd3), atI_nat (j := 2) rfl, _, _, rfl, rfl, .inl ⟨by decide, by decide⟩, _, _, rfl, rfl, ?_⟩
      refine ⟨_, rfl, _, _, rfl, rfl, (show (0 : Int) < 2305843009213693951 by decide), ?_⟩
      have b0 : ∀ x : Int, 0 ≤ x % 2305843009213693951 ∧ x % 2305843009213693951 < 2305843009213693951 := fun x => ⟨Int.emod_nonneg _ (by decide), Int.emod_lt_of_pos _ (by decide)⟩
      refine ⟨_, rfl, _, rfl, _, _, rfl, rfl, .inl ⟨?_, ?_⟩, _, _, rfl, rfl, (show (0 : Int) < 2305843009213693951 by decide), ?_⟩
      · exact Int.lt_of_lt_of_le (by decide) (b0 _).1
      · exact Int.lt_trans (b0 _).2 (by decide)
      refine ⟨_, rfl, _, rfl, _, _, rfl, rfl, .inl ⟨?_, ?_⟩, _, _, rfl, rfl, (show (0 : Int) < 4611686018427387847 by decide), _, _, rfl, rfl, ⟨by decide, by decide⟩, _, rfl, _, _, rfl, rfl, m0, ?_⟩
      · exact Int.lt_of_lt_of_le (by decide) (b0 _).1
      · exact Int.lt_trans (b0 _).2 (by decide)
      exact q _ _ (Int.emod_nonneg _ (by omega)) (Int.emod_lt_of_pos _ m0) dk fr3
    · rw [List.concat_eq_append] at ec
      subst ec
      have hne : (!decide (((ys ++ [y]).map V.int).length = 0)) = true := by simp
      rw [hne]
      refine iteT ?_
      have lys : (ys ++ [y]).length = ys.length + 1 := by simp
      refine ⟨fun σ' H2 => ∃ (gs : List Int) (o2 o3 : Option V), σ' = [some (.ref d), some (.int m), o2, o3] ∧ gs.length < (ys ++ [y]).length ∧ H2 d = some (.lst [.ref g, .int wh, .int k]) ∧ H2 g = some (.lst (gs.map V.int)) ∧ gs.length ≤ 64 ∧ Frm d g H H2,
        fun σ' H2 ⟨gs, o2, o3, e1, e2, e3⟩ => ⟨gs.length, e2, gs, o2, o3, e1, rfl, e3⟩, ?_⟩
      refine ⟨.ref d, rfl, d, _, 0, .ref g, rfl, rfl, .inl (.inl hd2), atI_nat (j := 0) rfl, .inl ⟨rfl, _, SqL.of hg2⟩, g, _, .int y, rfl, rfl, hg2, by simp, ?_⟩
      have hg3 : (upd H1 g (.lst ((ys ++ [y]).map V.int).dropLast)) g = some (.lst (ys.map V.int)) := by rw [upd_same, List.map_append]; simp
      have hd3 : (upd H1 g (.lst ((ys ++ [y]).map V.int).dropLast)) d = some (.lst [.ref g, .int wh, .int k]) := by rw [upd_ne dg]; exact hd2
      have fr3 : Frm d g H (upd H1 g (.lst ((ys ++ [y]).map V.int).dropLast)) := fr2.trans fun b x e _ h2 => by
        rw [upd_ne h2]
        exact e
      generalize upd H1 g (.lst ((ys ++ [y]).map V.int).dropLast) = H2 at hd3 hg3 fr3 ⊢
      refine ⟨.int y, rfl, _, _, rfl, rfl, _, rfl, ite2 (fun h => ?_) (fun h => ?_)⟩
      · refine ⟨.ref d, rfl, d, _, 0, .ref g, rfl, rfl, .inl (.inl hd3), atI_nat (j := 0) rfl, .inl ⟨rfl, _, SqL.of hg3⟩, .int y, rfl, .int m, rfl, _, _, rfl, rfl, ⟨m0, by omega⟩, g, _, _, rfl, rfl, hg3, line_lt (by rw [List.length_map]; omega), ?_⟩
        refine ⟨.int y, rfl, .int m, rfl, _, _, rfl, rfl, m0, ?_⟩
        refine q _ _ (Int.emod_nonneg _ (by omega)) (Int.emod_lt_of_pos _ m0) ⟨⟨ys ++ [y / m], wh, k, by rw [upd_ne dg]; exact hd3, by rw [upd_same, List.map_append]; rfl, by simp at hl1 ⊢; omega, w0, w1, by omega⟩, dg⟩ (fr3.trans fun b x e _ h2 => by rw [upd_ne h2]; exact e)
      · exact ⟨ys, _, _, rfl, by omega, hd3, hg3, by omega, fr3⟩
theorem ok__law_next (T : Tx K mg a) : FnG P w K mg base CX0 1 a.f__law_next a.d__law_next ["_law_deck", "_law_many"] (spD fam3 K 1 (wDrG (2 ^ 20))) := dr3_of (ok0__law_next T)
theorem mono__law_next : MonoW (wDrG (2 ^ 20)) := wDrG_mono _
end
end DS
set_option maxHeartbeats 4000000
namespace DS
open PySem PySem.Spec PyProof.Rows L2
/-! ### winners by the keys of a dict -/
def wn (kds : List (List Key × PyData)) (x y : Nat) : Bool := (valD kds (kk x y)).isSome
/-- what the dict holds when the places p, q with p < i, or p = i and q < i + 1 + c, are done -/
structure Wn (os : List Nat) (i c : Nat) (kds : List (List Key × PyData)) : Prop where
  diag : ∀ x, wn kds x x = false
  done : ∀ p q, p < q → q < os.length → (p < i ∨ (p = i ∧ q < i + 1 + c)) → wn kds (nthL os p) (nthL os q) = !wn kds (nthL os q) (nthL os p)
  rest : ∀ p q, p < q → q < os.length → ¬ (p < i ∨ (p = i ∧ q < i + 1 + c)) → wn kds (nthL os p) (nthL os q) = false ∧ wn kds (nthL os q) (nthL os p) = false
theorem Wn.start {os : List Nat} : Wn os 0 0 [] := ⟨fun x => rfl, fun p q h1 h2 h3 => by omega, fun p q _ _ _ => ⟨rfl, rfl⟩⟩
theorem wn_put {kds : List (List Key × PyData)} {x y p q : Nat} (d : PyData) : wn (putD kds (kk x y) d) p q = (decide (p = x ∧ q = y) || wn kds p q) := by
  unfold wn
  rw [valD_put]
  by_cases h : kk p q = kk x y
  · rw [if_pos h]
    obtain ⟨rfl, rfl⟩ := kk_inj h
    simp
  · rw [if_neg h]
    have : ¬ (p = x ∧ q = y) := fun ⟨e1, e2⟩ => h (by rw [e1, e2])
    simp [this]
theorem Wn.put {os : List Nat} {i c j : Nat} {kds : List (List Key × PyData)} (nd : os.Nodup) (h : Wn os i c kds) (hj : j < os.length) (ej : i + 1 + c = j) (t : Bool) (d : PyData) :
    Wn os i (c + 1) (putD kds (if t = true then kk (nthL os j) (nthL os i) else kk (nthL os i) (nthL os j)) d) := by
  have hi : i < os.length := by omega
  have inj : ∀ {p q : Nat}, p < os.length → q < os.length → nthL os p = nthL os q → p = q := fun {p q} hp hq e => by
    by_cases k : p = q
    · exact k
    · exact absurd e (nthL_ne nd hp hq k)
  obtain ⟨r1, r2⟩ := h.rest i j (by omega) hj (by omega)
  have ne : nthL os i ≠ nthL os j := nthL_ne nd hi hj (by omega)
  have key : ∀ p q, p < q → q < os.length → ¬ (p = i ∧ q = j) → ∀ (t : Bool), wn (putD kds (if t = true then kk (nthL os j) (nthL os i) else kk (nthL os i) (nthL os j)) d) (nthL os p) (nthL os q) = wn kds (nthL os p) (nthL os q) ∧ wn (putD kds (if t = true then kk (nthL os j) (nthL os i) else kk (nthL os i) (nthL os j)) d) (nthL os q) (nthL os p) = wn kds (nthL os q) (nthL os p) := fun p q lt hq no t => by
    have n1 : ¬ (nthL os p = nthL os i ∧ nthL os q = nthL os j) := fun ⟨e1, e2⟩ => no ⟨inj (by omega) hi e1, inj hq hj e2⟩
    have n2 : ¬ (nthL os p = nthL os j ∧ nthL os q = nthL os i) := fun ⟨e1, e2⟩ => by
      have := inj (by omega) hj e1
      have := inj hq hi e2
      omega
    cases t
    · rw [if_neg Bool.false_ne_true, wn_put, wn_put, decide_eq_false n1, decide_eq_false (fun e => n2 ⟨e.2, e.1⟩)]
      simp
    · rw [if_pos rfl, wn_put, wn_put, decide_eq_false n2, decide_eq_false (fun e => n1 ⟨e.2, e.1⟩)]
      simp
  refine ⟨fun x => ?_, fun p q lt hq hd => ?_, fun p q lt hq hd => ?_⟩
  · cases t
    · rw [if_neg Bool.false_ne_true, wn_put, decide_eq_false (fun e => ne (e.1.symm.trans e.2)), h.diag]
      rfl
    · rw [if_pos rfl, wn_put, decide_eq_false (fun e => ne (e.2.symm.trans e.1)), h.diag]
      rfl
  · by_cases e : p = i ∧ q = j
    · obtain ⟨rfl, rfl⟩ := e
      cases t
      · rw [if_neg Bool.false_ne_true, wn_put, wn_put, decide_eq_true ⟨rfl, rfl⟩, decide_eq_false (fun e => ne e.2), r2]
        rfl
      · rw [if_pos rfl, wn_put, wn_put, decide_eq_false (fun e => ne e.1), decide_eq_true ⟨rfl, rfl⟩, r1]
        rfl
    · obtain ⟨k1, k2⟩ := key p q lt hq e t
      rw [k1, k2]
      exact h.done p q lt hq (by omega)
  · obtain ⟨k1, k2⟩ := key p q lt hq (by omega) t
    rw [k1, k2]
    exact h.rest p q lt hq (by omega)
theorem Wn.next {os : List Nat} {i c : Nat} {kds : List (List Key × PyData)} (h : Wn os i c kds) (hl : os.length ≤ i + 1 + c) : Wn os (i + 1) 0 kds :=
  ⟨h.diag, fun p q lt hq hd => h.done p q lt hq (by omega), fun p q lt hq hd => h.rest p q lt hq (by omega)⟩
/-- a range's order, as data -/
theorem perm_ni {m : Nat} {ys : List PyData} (h : ys.Perm ((List.range m).map ni)) : ∃ os : List Nat, ys = os.map ni ∧ os.Perm (List.range m) := by
  have : ∀ {zs : List PyData} {l : List Nat}, zs.Perm (l.map ni) → ∃ os : List Nat, zs = os.map ni ∧ os.Perm l := by
    intro zs l h
    generalize hw : l.map ni = ws at h
    induction h generalizing l with
    | nil =>
      have : l = [] := by simpa using hw
      exact ⟨[], rfl, by rw [this]⟩
    | cons x _ ih =>
      rename_i l1 l2 hp
      obtain ⟨y, l', rfl, rfl, rfl⟩ := List.map_eq_cons_iff.mp hw
      obtain ⟨os, rfl, hp'⟩ := ih rfl
      exact ⟨y :: os, rfl, hp'.cons y⟩
    | swap x y t =>
      obtain ⟨z, l', e1, e2, e3⟩ := List.map_eq_cons_iff.mp hw
      obtain ⟨z', l'', e4, e5, e6⟩ := List.map_eq_cons_iff.mp e3
      subst e1 e2 e4 e5 e6
      exact ⟨z' :: z :: l'', rfl, List.Perm.swap _ _ _⟩
    | trans h1 h2 ih1 ih2 =>
      obtain ⟨os, rfl, hp⟩ := ih2 hw
      obtain ⟨os', rfl, hp'⟩ := ih1 rfl
      exact ⟨os', rfl, hp'.trans hp⟩
  exact this h
end DS
set_option maxHeartbeats 4000000
namespace DS
open PySem PySem.Spec PyProof.Rows L2
/-! ### signs by the keys of a dict (family D) -/
def sgW (w : Bool) : PyData := .str ⟨#[if w then 43 else 45]⟩
structure Sg (os : List Nat) (t i c : Nat) (kds : List (List Key × PyData)) : Prop where
  diag : ∀ p, p < t → p < os.length → valD kds (kk (nthL os p) (nthL os p)) = some (.str ⟨#[46]⟩)
  drawn : ∀ p q, p < q → q < os.length → (p < i ∨ (p = i ∧ q < i + 1 + c)) → ∃ w : Bool, valD kds (kk (nthL os p) (nthL os q)) = some (sgW w) ∧ valD kds (kk (nthL os q) (nthL os p)) = some (sgW !w)
theorem Sg.start {os : List Nat} : Sg os 0 0 0 [] := ⟨fun p h => by omega, fun p q h1 h2 h3 => by omega⟩
theorem Sg.next {os : List Nat} {t i c : Nat} {kds : List (List Key × PyData)} (h : Sg os t i c kds) (hl : os.length ≤ i + 1 + c) : Sg os t (i + 1) 0 kds :=
  ⟨h.diag, fun p q lt hq hx => h.drawn p q lt hq (by omega)⟩
theorem nthL_inj {os : List Nat} (nd : os.Nodup) {p q : Nat} (hp : p < os.length) (hq : q < os.length) (e : nthL os p = nthL os q) : p = q := by
  by_cases k : p = q
  · exact k
  · exact absurd e (nthL_ne nd hp hq k)
theorem Sg.dot {os : List Nat} {i : Nat} {kds : List (List Key × PyData)} (nd : os.Nodup) (h : Sg os i i 0 kds) (hi : i < os.length) : Sg os (i + 1) i 0 (putD kds (kk (nthL os i) (nthL os i)) (.str ⟨#[46]⟩)) := by
  refine ⟨fun p hp hl => ?_, fun p q lt hq hx => ?_⟩
  · rw [valD_put]
    by_cases e : p = i
    · rw [e, if_pos rfl]
    · rw [if_neg fun z => e (nthL_inj nd hl hi (kk_inj z).1)]
      exact h.diag p (by omega) hl
  · have n1 : ¬ kk (nthL os p) (nthL os q) = kk (nthL os i) (nthL os i) := fun z => by
      have := nthL_inj nd (by omega) hi (kk_inj z).1
      have := nthL_inj nd hq hi (kk_inj z).2
      omega
    have n2 : ¬ kk (nthL os q) (nthL os p) = kk (nthL os i) (nthL os i) := fun z => by
      have := nthL_inj nd (by omega) hi (kk_inj z).2
      have := nthL_inj nd hq hi (kk_inj z).1
      omega
    rw [valD_put, valD_put, if_neg n1, if_neg n2]
    exact h.drawn p q lt hq hx
theorem Sg.put {os : List Nat} {t i c j : Nat} {kds : List (List Key × PyData)} (nd : os.Nodup) (h : Sg os t i c kds) (ht : t ≤ os.length) (hj : j < os.length) (ej : i + 1 + c = j) (w : Bool) :
    Sg os t i (c + 1) (putD (putD kds (kk (nthL os i) (nthL os j)) (sgW w)) (kk (nthL os j) (nthL os i)) (sgW !w)) := by
  have hi : i < os.length := by omega
  have nij : nthL os i ≠ nthL os j := nthL_ne nd hi hj (by omega)
  refine ⟨fun p hp hl => ?_, fun p q lt hq hx => ?_⟩
  · rw [valD_put, valD_put, if_neg fun z => nij ((kk_inj z).2.symm.trans (kk_inj z).1), if_neg fun z => nij ((kk_inj z).1.symm.trans (kk_inj z).2)]
    exact h.diag p hp hl
  · by_cases e : p = i ∧ q = j
    · obtain ⟨rfl, rfl⟩ := e
      refine ⟨w, ?_, ?_⟩
      · rw [valD_put, if_neg fun z => nij (kk_inj z).1, valD_put, if_pos rfl]
      · rw [valD_put, if_pos rfl]
    · have n1 : ∀ x y, (x = i ∧ y = j) ∨ (x = j ∧ y = i) → ¬ kk (nthL os p) (nthL os q) = kk (nthL os x) (nthL os y) := fun x y hxy z => by
        have a1 := nthL_inj nd (p := p) (q := x) (by omega) (by omega) (kk_inj z).1
        have a2 := nthL_inj nd (p := q) (q := y) hq (by omega) (kk_inj z).2
        omega
      have n2 : ∀ x y, (x = i ∧ y = j) ∨ (x = j ∧ y = i) → ¬ kk (nthL os q) (nthL os p) = kk (nthL os x) (nthL os y) := fun x y hxy z => by
        have a1 := nthL_inj nd (p := q) (q := x) hq (by omega) (kk_inj z).1
        have a2 := nthL_inj nd (p := p) (q := y) (by omega) (by omega) (kk_inj z).2
        omega
      rw [valD_put, valD_put, valD_put, valD_put, if_neg (n1 _ _ (.inr ⟨rfl, rfl⟩)), if_neg (n1 _ _ (.inl ⟨rfl, rfl⟩)), if_neg (n2 _ _ (.inr ⟨rfl, rfl⟩)), if_neg (n2 _ _ (.inl ⟨rfl, rfl⟩))]
      exact h.drawn p q lt hq (by omega)
theorem Sg.table {os : List Nat} {m : Nat} {kds : List (List Key × PyData)} (h1 : 1 ≤ m) (h9 : m ≤ 9) (hp : os.Perm (List.range m)) (h : Sg os m m 0 kds) : ∃ b, Tour m b ∧ ∀ x y, x < m → y < m → valD kds (kk x y) = some (.str ⟨#[sgn b x y]⟩) := by
  have hl : os.length = m := by rw [hp.length_eq, List.length_range]
  have at_ : ∀ x, x < m → ∃ p, p < os.length ∧ nthL os p = x := fun x hx => by
    have : x ∈ os := hp.mem_iff.mpr (List.mem_range.mpr hx)
    obtain ⟨p, hp, e⟩ := List.getElem_of_mem this
    exact ⟨p, hp, by unfold nthL; simp [hp, e]⟩
  have pr : ∀ x y, x < m → y < m → x ≠ y → ∃ w : Bool, valD kds (kk x y) = some (sgW w) ∧ valD kds (kk y x) = some (sgW !w) := fun x y hx hy ne => by
    obtain ⟨p, hp1, rfl⟩ := at_ x hx
    obtain ⟨q, hq1, rfl⟩ := at_ y hy
    have : p ≠ q := fun e => ne (by rw [e])
    by_cases lt : p < q
    · exact h.drawn p q lt hq1 (by omega)
    · obtain ⟨w, a, b⟩ := h.drawn q p (by omega) hp1 (by omega)
      exact ⟨!w, b, by rw [Bool.not_not]; exact a⟩
  have dg : ∀ x, x < m → valD kds (kk x x) = some (.str ⟨#[46]⟩) := fun x hx => by
    obtain ⟨p, hp1, rfl⟩ := at_ x hx
    exact h.diag p (by omega) hp1
  let cd : Option PyData → Nat := fun o => match o with
    | some (.str s) => s.cps.getD 0 0
    | _ => 0
  let b : Nat → Nat → Bool := fun x y => decide (x < m ∧ y < m ∧ x ≠ y ∧ cd (valD kds (kk x y)) = 43)
  have cw : ∀ w : Bool, cd (some (sgW w)) = if w then 43 else 45 := fun w => by cases w <;> rfl
  have bw : ∀ x y, x < m → y < m → x ≠ y → ∀ w : Bool, valD kds (kk x y) = some (sgW w) → b x y = w := fun x y hx hy ne w e => by
    show decide (x < m ∧ y < m ∧ x ≠ y ∧ cd (valD kds (kk x y)) = 43) = w
    rw [e, cw]
    cases w
    · exact decide_eq_false fun z => absurd z.2.2.2 (by decide)
    · exact decide_eq_true ⟨hx, hy, ne, rfl⟩
  refine ⟨b, ⟨h1, h9, fun x y hx hy ne => ?_, fun x => decide_eq_false fun z => z.2.2.1 rfl⟩, fun x y hx hy => ?_⟩
  · obtain ⟨w, e1, e2⟩ := pr x y hx hy ne
    rw [bw x y hx hy ne w e1, bw y x hy hx ne.symm _ e2, Bool.not_not]
  · unfold sgn
    by_cases e : x = y
    · subst e
      rw [if_pos rfl]
      exact dg x hx
    · rw [if_neg e]
      obtain ⟨w, e1, e2⟩ := pr x y hx hy e
      rw [bw x y hx hy e w e1, e1]
      rfl
section
variable {ρ : Dn} {n : Nat} {Q : PyData → Dn → Nat → Prop} {Ta Tb : TXP}
@[simp] theorem e_dgetT {i : Nat} {g : Dn → Option (List PyData)} : dgetF (getC i) (tupK g) ρ = (getC i ρ).bind fun m => (g ρ).bind fun ds => if ds.length < 1000000 then (keysOf ds).bind fun k => (lookO m (.inr k)).bind fun o => o else none := by
  unfold dgetF tupK
  congr
  funext m
  cases g ρ with
  | none => rfl
  | some ds =>
    show (if ds.length < lim then (keysOf ds).map Sum.inr else none).bind _ = if ds.length < 1000000 then _ else none
    by_cases h : ds.length < 1000000
    · rw [if_pos h, if_pos (show ds.length < lim from h)]
      show ((keysOf ds).map Sum.inr).bind _ = (keysOf ds).bind _
      cases keysOf ds <;> rfl
    · rw [if_neg h, if_neg (show ¬ ds.length < lim from h)]
      rfl
@[simp] theorem e_lookT {kds : List (List Key × PyData)} {k : List Key} : lookO (.inl kds) (.inr k) = some (valD kds k) := rfl
@[simp] theorem e_tupKs {g : Dn → Option (List PyData)} : tupK g ρ = (g ρ).bind fun ds => if ds.length < 1000000 then (keysOf ds).map .inr else none := rfl
end
theorem four_ex {a b c d : Bool} {w : Nat} (hw : w < 4) {P : PyData → Prop} (h : ∀ z : Bool, P (.bool z)) : ∃ x, ixD (.list [.bool a, .bool b, .bool c, .bool d]) (ni w) = some x ∧ P x := by
  have : w = 0 ∨ w = 1 ∨ w = 2 ∨ w = 3 := by omega
  rcases this with e | e | e | e <;> subst e <;> exact ⟨_, rfl, h _⟩
/-- the items in some order: of a list or of a tuple -/
def wMixD : WD := fun ds n Q => ∃ xs : List PyData, (ds = [.list xs] ∨ ds = [.tuple xs]) ∧ xs.length ≤ 1000 ∧ n + 10000 < 2 ^ 20 ∧ ∀ ys : List PyData, ys.Perm xs → Q (.list ys) (n + xs.length)
theorem wMixD_mono : MonoW wMixD := fun ds n Q Q' k ⟨xs, e, h1, h2, q⟩ => ⟨xs, e, h1, h2, fun ys h => k _ _ (q ys h)⟩
/-- a table of lo to hi alternatives -/
def wTableD : WD := fun ds n Q => ∃ lo hi : Nat, ds = [ni lo, ni hi] ∧ 1 ≤ lo ∧ lo ≤ hi ∧ hi ≤ 9 ∧ n + 20000 < 2 ^ 20 ∧ ∀ (m : Nat) (b : Nat → Nat → Bool) (n' : Nat), Tour m b → lo ≤ m → m ≤ hi → n' ≤ n + 400 → Q (tabD m b) n'
theorem wTableD_mono : MonoW wTableD := fun ds n Q Q' k ⟨lo, hi, e, h1, h2, h3, h4, q⟩ => ⟨lo, hi, e, h1, h2, h3, h4, fun m b n1 t l1 l2 h5 => k _ _ (q m b n1 t l1 l2 h5)⟩
end DS
set_option maxHeartbeats 4000000
namespace DS
open PySem PySem.Spec PyProof.Rows L2
theorem mono__law_mixed : MonoW wMixD := wMixD_mono
section
variable {P : Program} {w : World} {K : PySem.W.Frag} {mg : Str → Option Value} {base : Heap} {a : Ad}
theorem ok__law_mixed (T : Tx K mg a) : FnG P w K mg base CX0 2 a.f__law_mixed a.d__law_mixed ["_law_deck", "_law_items"] (spD fam3 K 1 wMixD) := by
  refine fn_deck (k := 1) fam3_ok T.F__law_mixed sc__law_mixed rfl (by decide) fun cdv A outer s H E S ok fam h0 hgd hr => ?_
  have nd := sc__law_mixed.nd
  refine ⟨_, (pds_cons (pd_parN (i := 2) (j := 3) ok rfl nd rfl rfl (by decide) rfl rfl (pn_own (pfl_list (by rfl) T.z_list (pf_v 1))) (pn_own (pfl_lst pfa_nil)) (by rfl))
      (pds_cons (pd_while ok PassesOwn.never (pft_ownNe 2 hr.units)
      (pds_one (pd_appX (i := 3) ok (px_popAt ok 2 (px_callD (i := 0) (m := 1) ok ((ok__law_next T).up (by first | decide | omega)) mono__law_next fam hgd hr (by rfl) T.g__law_next T.F__law_next.kp T.b__law_next rfl (by first | exact Or.inl rfl | exact Or.inr (Or.inl rfl) | exact Or.inr (Or.inr rfl)) (pxa_cons (px_pf ok (pf_lenO 2 (by rfl) T.z_len)) pxa_nil))) rfl (by first | exact Or.inl rfl | exact Or.inr (Or.inl rfl) | exact Or.inr (Or.inr rfl)))))
      (pds_freeze ok 3 (pds_one (pd_ret ok (pf_v 3)))))), fun ds n Q hl hw => ?_⟩
  obtain ⟨xs, hd, hm, hn, q⟩ := hw
  have key : ∀ d, itemsD d = some xs → ds = [d] → True := fun _ _ _ => trivial
  obtain ⟨d, hi, rfl⟩ : ∃ d, itemsD d = some xs ∧ ds = [d] := by
    rcases hd with e | e
    · exact ⟨_, rfl, e⟩
    · exact ⟨_, rfl, e⟩
  simp [hi]
  refine ⟨fun m ρ' n' => ∃ ps fs : List PyData, ρ' = [.dk, .dat d, .own ps, .own fs] ∧ (fs ++ ps).Perm xs ∧ m = ps.length ∧ n' = n + fs.length, ⟨xs.length, xs, [], rfl, List.Perm.refl _, rfl, rfl⟩, fun m ρ' n' hI => ?_⟩
  obtain ⟨ps, fs, rfl, hp, rfl, rfl⟩ := hI
  have hl := hp.length_eq
  rw [List.length_append] at hl
  cases ps with
  | nil =>
    refine ⟨false, by simp, ?_⟩
    simp
    rw [List.append_nil] at hp
    have := q fs hp
    rw [← hp.length_eq] at this
    exact this
  | cons p ps =>
    refine ⟨true, by simp; simp at hl; omega, ?_⟩
    simp at hl
    simp
    refine ⟨by omega, by omega, fun k hk => ?_⟩
    have hk' : k < (p :: ps).length := by simpa using hk
    have he : ((p :: ps).eraseIdx k).length = ps.length := by
      rw [List.length_eraseIdx, if_pos hk']
      simp
    refine ⟨by omega, (p :: ps)[k], List.getElem?_eq_getElem hk', by omega, _, by rw [he]; omega, ?_, rfl, by omega⟩
    exact (List.Perm.append_left _ (erase_perm' (p :: ps) k hk')).trans hp
end
end DS
set_option maxHeartbeats 4000000
namespace DS
open PySem PySem.Spec PyProof.Rows L2
theorem mono__law_table : MonoW wTableD := wTableD_mono
section
variable {P : Program} {w : World} {K : PySem.W.Frag} {mg : Str → Option Value} {base : Heap} {a : Ad}
theorem ok__law_table (T : Tx K mg a) : FnG P w K mg base CX0 3 a.f__law_table a.d__law_table ["_law_deck", "_law_least", "_law_most"] (spD fam3 K 2 wTableD) := by
  refine fn_deck (k := 2) fam3_ok T.F__law_table sc__law_table rfl (by decide) fun cdv A outer s H E S ok fam h0 hgd hr => ?_
  have nd := sc__law_table.nd
  refine ⟨_, (pds_cons (pd_parXC (i := 3) (j := 4) ok rfl nd rfl rfl (by first | exact Or.inl rfl | exact Or.inr rfl) (by first | exact Or.inl rfl | exact Or.inr rfl) (pxa_cons (px_op ok of_addA (px_pf ok (pf_v 1)) (px_callD (i := 0) (m := 1) ok ((ok__law_next T).up (by first | decide | omega)) mono__law_next fam hgd hr (by rfl) T.g__law_next T.F__law_next.kp T.b__law_next rfl (by first | exact Or.inl rfl | exact Or.inr (Or.inl rfl) | exact Or.inr (Or.inr rfl)) (pxa_cons (px_pf ok (pf_op of_addA (pf_op of_sub (pf_v 2) (pf_v 1)) pf_int)) pxa_nil))) (pxa_cons (px_callD (i := 0) (m := 1) ok ((ok__law_next T).up (by first | decide | omega)) mono__law_next fam hgd hr (by rfl) T.g__law_next T.F__law_next.kp T.b__law_next rfl (by first | exact Or.inl rfl | exact Or.inr (Or.inl rfl) | exact Or.inr (Or.inr rfl)) (pxa_cons (px_pf ok pf_int) pxa_nil)) pxa_nil)))
      (pds_cons (pd_parXNC (i := 5) (j := 6) ok rfl nd rfl rfl (by first | exact Or.inl rfl | exact Or.inr rfl) (by first | exact Or.inl rfl | exact Or.inr rfl) (px_callD (i := 0) (m := 1) ok ((ok__law_mixed T).up (by first | decide | omega)) mono__law_mixed fam hgd hr (by rfl) T.g__law_mixed T.F__law_mixed.kp T.b__law_mixed rfl (by first | exact Or.inl rfl | exact Or.inr (Or.inl rfl) | exact Or.inr (Or.inr rfl)) (pxa_cons (px_pf ok ((prf_1 (by rfl) T.z_range (pf_v 3)).lst rfl (by rfl) T.z_list (by rfl))) pxa_nil)) pn_dct)
      (pds_cons (pd_for ok PassesOwn.never rfl (pif_range1 (by rfl) T.z_range (pf_v 3)) (pgf_name (i := 7) nd rfl (by first | exact Or.inl rfl | exact Or.inr rfl)) (sets_name 7)
      (pds_cons (pd_dset ok hr.units 6 (pk_tup (pfa_cons (pf_ix (pf_v 5) (pf_v 7)) (pfa_cons (pf_ix (pf_v 5) (pf_v 7)) pfa_nil))) pf_str)
      (pds_one (pd_for ok PassesOwn.never rfl (pif_range2 (by rfl) T.z_range (pf_op of_addA (pf_v 7) pf_int) (pf_v 3)) (pgf_name (i := 8) nd rfl (by first | exact Or.inl rfl | exact Or.inr rfl)) (sets_name 8)
      (pds_cons (pd_setX (i := 9) nd rfl (by first | exact Or.inl rfl | exact Or.inr rfl) (px_or (px_pf ok (pf_cmp (of_eq hr.units) (pf_op of_mod (pf_op of_sub (pf_v 8) (pf_v 7)) pf_int) pf_int (nomark _))) (px_one (px_and (px_pf ok (pf_cmp (of_eq hr.units) (pf_op of_mod (pf_op of_sub (pf_v 8) (pf_v 7)) pf_int) pf_int (nomark _))) (px_one (px_cmp ok (of_eq hr.units) (px_callD (i := 0) (m := 1) ok ((ok__law_next T).up (by first | decide | omega)) mono__law_next fam hgd hr (by rfl) T.g__law_next T.F__law_next.kp T.b__law_next rfl (by first | exact Or.inl rfl | exact Or.inr (Or.inl rfl) | exact Or.inr (Or.inr rfl)) (pxa_cons (px_pf ok pf_int) pxa_nil)) (px_pf ok pf_int) (nomark _)))))))
      (pds_cons (pd_setX (i := 10) nd rfl (by first | exact Or.inl rfl | exact Or.inr rfl) (px_ix ok (px_lst ok (pxa_cons (px_cmp ok (of_eq hr.units) (px_callD (i := 0) (m := 1) ok ((ok__law_next T).up (by first | decide | omega)) mono__law_next fam hgd hr (by rfl) T.g__law_next T.F__law_next.kp T.b__law_next rfl (by first | exact Or.inl rfl | exact Or.inr (Or.inl rfl) | exact Or.inr (Or.inr rfl)) (pxa_cons (px_pf ok pf_int) pxa_nil)) (px_pf ok pf_int) (nomark _)) (pxa_cons (px_cmp ok of_gt (px_callD (i := 0) (m := 1) ok ((ok__law_next T).up (by first | decide | omega)) mono__law_next fam hgd hr (by rfl) T.g__law_next T.F__law_next.kp T.b__law_next rfl (by first | exact Or.inl rfl | exact Or.inr (Or.inl rfl) | exact Or.inr (Or.inr rfl)) (pxa_cons (px_pf ok pf_int) pxa_nil)) (px_pf ok pf_int) (nomark _)) (pxa_cons (px_pf ok (pf_cmp of_le (pf_op of_mul pf_int (pf_op of_sub (pf_v 8) (pf_v 7))) (pf_v 3) (nomark _))) (pxa_cons (px_pf ok (pf_v 9)) pxa_nil))))) (px_pf ok (pf_v 4))))
      (pds_cons (pd_dset ok hr.units 6 (pk_tup (pfa_cons (pf_ix (pf_v 5) (pf_v 7)) (pfa_cons (pf_ix (pf_v 5) (pf_v 8)) pfa_nil))) (pf_ix pf_str (pf_callTy cf_int (by rfl) T.z_int (by decide +kernel) (pfa_cons (pf_v 10) pfa_nil))))
      (pds_one (pd_dset ok hr.units 6 (pk_tup (pfa_cons (pf_ix (pf_v 5) (pf_v 8)) (pfa_cons (pf_ix (pf_v 5) (pf_v 7)) pfa_nil))) (pf_ix pf_str (pf_callTy cf_int (by rfl) T.z_int (by decide +kernel) (pfa_cons (pf_v 10) pfa_nil))))))))))))
      (pds_one (pd_ret ok (pf_callTy cf_tuple (by rfl) T.z_tuple (by decide +kernel) (pfa_cons (pfl_lc rfl nd (pif_range1 (by rfl) T.z_range (pf_v 3)) (blkOk_by (own := [("_law_one", 11)]) (by rfl)) (fun _ _ _ _ _ => (pgf_name (i := 11) nd rfl (by first | exact Or.inl rfl | exact Or.inr rfl))) (fun _ _ _ _ _ => ptsf_nil) (fun _ _ _ _ _ => (pf_join pf_str (pfl_lc rfl nd (pif_range1 (by rfl) T.z_range (pf_v 3)) (blkOk_by (own := [("_law_other", 12)]) (by rfl)) (fun _ _ _ _ _ => (pgf_name (i := 12) nd rfl (by first | exact Or.inl rfl | exact Or.inr rfl))) (fun _ _ _ _ _ => ptsf_nil) (fun _ _ _ _ _ => (pf_dget hr.units (pdi_own 6) (pk_tup (pfa_cons (pf_v 11) (pfa_cons (pf_v 12) pfa_nil)))))).pf))).pf pfa_nil))))))), fun ds n Q hl hw => ?_⟩
  obtain ⟨lo, hi, rfl, h1, hlo, h9, hn, q⟩ := hw
  have eint : (hi : Int) - (lo : Int) + 1 = ((hi - lo + 1 : Nat) : Int) := by omega
  simp [wMixD, eint]
  refine ⟨by omega, by omega, fun k hk => ?_⟩
  obtain ⟨m, em⟩ : ∃ m : Nat, lo + k = m := ⟨_, rfl⟩
  refine ⟨ni m, by rw [← em]; rfl, by omega, fun way hway => ?_⟩
  simp [show m ≤ 1000000 by omega]
  refine ⟨by omega, by omega, fun ys hys => ?_⟩
  obtain ⟨os, rfl, hp⟩ := perm_ni hys
  have hl : os.length = m := by rw [hp.length_eq, List.length_range]
  have nd2 : os.Nodup := hp.nodup_iff.mpr List.nodup_range
  have at_ : ∀ p, p < m → ixD (.list (os.map ni)) (ni p) = some (ni (nthL os p)) := fun p h => by
    rw [e_ixL (by rw [List.length_map]; omega)]
    unfold nthL
    simp [show p < os.length by omega]
  have edot : Str.ofString "." = (⟨#[46]⟩ : Str) := by decide +kernel
  have esg : ∀ z : Bool, ixD (.str (Str.ofString "-+")) (.int (if z = true then 1 else 0)) = some (sgW z) ∧ ixD (.str (Str.ofString "+-")) (.int (if z = true then 1 else 0)) = some (sgW !z) := fun z => by
    rw [show Str.ofString "-+" = (⟨#[45, 43]⟩ : Str) by decide +kernel, show Str.ofString "+-" = (⟨#[43, 45]⟩ : Str) by decide +kernel]
    cases z <;> exact ⟨rfl, rfl⟩
  refine for_rng (m := m) (by simp [show m ≤ 1000000 by omega]) (fun i ρ' n' => ∃ kds e7 e8 e9 e10, ρ' = [.dk, .dat (ni lo), .dat (ni hi), .dat (ni m), .dat (ni way), .dat (.list (os.map ni)), .dct kds, e7, e8, e9, e10, .na, .na] ∧ n' ≤ n + 2 + m + i * 27 ∧ kds.length ≤ i * 20 ∧ Sg os i i 0 kds) ⟨[], _, _, _, _, rfl, by omega, by simp, Sg.start⟩ (fun i ρ' n' hi' hI => ?_) fun ρ' n' hI => ?_
  · obtain ⟨kds, e7, e8, e9, e10, rfl, hn', lk, sg⟩ := hI
    refine ⟨_, rfl, ?_⟩
    simp [at_ i hi', show kds.length < 1000000 by omega]
    have lp0 := putD_len kds (kk (nthL os i) (nthL os i)) (.str (Str.ofString "."))
    have sg0 := sg.dot nd2 (by omega)
    rw [← edot] at sg0
    generalize putD kds (kk (nthL os i) (nthL os i)) (.str (Str.ofString ".")) = kds0 at lp0 sg0 ⊢
    refine for_of (l := List.range (m - (i + 1))) (h := fun c => ni (i + 1 + c)) ?_ (fun c ρ'' n'' => ∃ kds e8 e9 e10, ρ'' = [.dk, .dat (ni lo), .dat (ni hi), .dat (ni m), .dat (ni way), .dat (.list (os.map ni)), .dct kds, .dat (ni i), e8, e9, e10, .na, .na] ∧ n'' ≤ n' + 3 * c ∧ kds.length ≤ i * 20 + 1 + 2 * c ∧ Sg os (i + 1) i c kds) ⟨kds0, _, _, _, rfl, by omega, by omega, sg0⟩ (fun c hc ρ'' n'' hI => ?_) fun ρ'' n'' hI => ?_
    · refine rng2_nat (l := i + 1) (m := m) ?_ rfl (by omega) (by omega)
      show some (PyData.int ((i : Int) + 1)) = _
      rfl
    · obtain ⟨kds, e8, e9, e10, rfl, hn'', lk, sg1⟩ := hI
      have hc : c < m - (i + 1) := by simpa using hc
      rw [List.getElem_range]
      refine ⟨_, rfl, ?_⟩
      simp
      have p1 := at_ i (by omega)
      have p2 := at_ (i + 1 + c) (by omega)
      have pl1 := fun z => putD_len kds (kk (nthL os i) (nthL os (i + 1 + c))) (sgW z)
      have pl2 := fun z => putD_len (putD kds (kk (nthL os i) (nthL os (i + 1 + c))) (sgW z)) (kk (nthL os (i + 1 + c)) (nthL os i)) (sgW !z)
      have fine := fun z => sg1.put nd2 (by omega) (j := i + 1 + c) (by omega) rfl z
      by_cases q1 : ((i : Int) + 1 + c - i) % 3 = 1
      · refine .inr ⟨q1, by omega, fun k2 hk2 => ⟨by omega, fun k3 hk3 => ?_⟩⟩
        refine four_ex (by omega) fun z => ?_
        have l1 := pl1 z
        have l2 := pl2 z
        refine ⟨.inl kds, .inr (kk (nthL os i) (nthL os (i + 1 + c))), sgW z, (esg z).1, rfl, by simp [p1, p2], _, e_putT.trans (if_pos (by omega)), .inl (putD kds (kk (nthL os i) (nthL os (i + 1 + c))) (sgW z)), .inr (kk (nthL os (i + 1 + c)) (nthL os i)), sgW !z, (esg z).2, rfl, by simp [p1, p2], _, e_putT.trans (if_pos (by omega)), _, rfl, by omega, by omega, fine z⟩
      · refine .inl ⟨q1, ?_⟩
        by_cases q2 : ((i : Int) + 1 + c - i) % 3 = 0
        · refine .inr ⟨q2, by omega, fun k1 hk1 => ⟨by omega, fun k2 hk2 => ⟨by omega, fun k3 hk3 => ?_⟩⟩⟩
          refine four_ex (by omega) fun z => ?_
          have l1 := pl1 z
          have l2 := pl2 z
          refine ⟨.inl kds, .inr (kk (nthL os i) (nthL os (i + 1 + c))), sgW z, (esg z).1, rfl, by simp [p1, p2], _, e_putT.trans (if_pos (by omega)), .inl (putD kds (kk (nthL os i) (nthL os (i + 1 + c))) (sgW z)), .inr (kk (nthL os (i + 1 + c)) (nthL os i)), sgW !z, (esg z).2, rfl, by simp [p1, p2], _, e_putT.trans (if_pos (by omega)), _, rfl, by omega, by omega, fine z⟩
        · refine .inl ⟨q2, by omega, fun k2 hk2 => ⟨by omega, fun k3 hk3 => ?_⟩⟩
          refine four_ex (by omega) fun z => ?_
          have l1 := pl1 z
          have l2 := pl2 z
          refine ⟨.inl kds, .inr (kk (nthL os i) (nthL os (i + 1 + c))), sgW z, (esg z).1, rfl, by simp [p1, p2], _, e_putT.trans (if_pos (by omega)), .inl (putD kds (kk (nthL os i) (nthL os (i + 1 + c))) (sgW z)), .inr (kk (nthL os (i + 1 + c)) (nthL os i)), sgW !z, (esg z).2, rfl, by simp [p1, p2], _, e_putT.trans (if_pos (by omega)), _, rfl, by omega, by omega, fine z⟩
    · obtain ⟨kds, e8, e9, e10, rfl, hn'', lk, sg1⟩ := hI
      rw [List.length_range] at hn'' lk sg1
      exact ⟨kds, ⟨_, _, _, _, rfl⟩, by omega, by omega, sg1.next (by omega)⟩
  · obtain ⟨kds, e7, e8, e9, e10, rfl, hn', lk, sg⟩ := hI
    obtain ⟨b, t, hb⟩ := Sg.table (by omega) (by omega) hp sg
    simp [show m ≤ 1000000 by omega]
    refine ⟨tabD m b, ⟨by omega, ?_⟩, q m b _ t (by omega) (by omega) (by omega)⟩
    rw [compA_congr rfl (G := fun x => some (some (.str (rowS m b x)))) fun x hx => ?_]
    · simp
      rfl
    · have hx := List.mem_range.mp hx
      rw [if_pos (by omega), compA_congr rfl (G := fun y => some (some (.str ⟨#[sgn b x y]⟩))) fun y hy => by rw [hb x y hx (List.mem_range.mp hy)]; rfl]
      have := join_row ((List.range m).map (sgn b x)) (by simp; omega)
      rw [List.map_map] at this
      simp
      exact this
end
end DS
/-! orders of a set, and how many of them end in what: by their last alternative; careful ones by equal shares -/
namespace DS
def fc : Nat → Nat
  | 0 => 1
  | k + 1 => (k + 1) * fc k
theorem fc_pos : ∀ k, 0 < fc k
  | 0 => Nat.one_pos
  | k + 1 => Nat.mul_pos (Nat.succ_pos k) (fc_pos k)
theorem fc_dvd {i : Nat} : ∀ {j : Nat}, i ≤ j → fc i ∣ fc j := fun {j} h => by
  induction j with
  | zero => rw [Nat.le_zero.mp h]; exact Nat.dvd_refl _
  | succ j ih =>
    rcases Nat.lt_or_ge j i with z | z
    · rw [show i = j + 1 by omega]; exact Nat.dvd_refl _
    · exact Nat.dvd_trans (ih z) ⟨j + 1, Nat.mul_comm _ _⟩
/-- the orders of S, a set of k -/
def ords : Nat → List Nat → List (List Nat)
  | 0, _ => [[]]
  | k + 1, S => S.flatMap fun x => (ords k (S.erase x)).map (· ++ [x])
theorem mem_ords : ∀ {k : Nat} {S o : List Nat}, S.Nodup → S.length = k → (o ∈ ords k S ↔ o.Perm S)
  | 0, S, o, _, hl => by
    rw [List.length_eq_zero_iff.mp hl]
    simp [ords]
  | k + 1, S, o, hn, hl => by
    simp only [ords, List.mem_flatMap, List.mem_map]
    constructor
    · rintro ⟨x, hx, q, hq, rfl⟩
      have h1 := (mem_ords (hn.erase x) (by rw [List.length_erase_of_mem hx, hl]; rfl)).mp hq
      exact (List.perm_append_comm).trans ((h1.cons x).trans (List.perm_cons_erase hx).symm)
    · intro hp
      have ne : o ≠ [] := fun e => by rw [e] at hp; have := hp.length_eq; rw [hl] at this; simp at this
      have hx : o.getLast ne ∈ S := hp.mem_iff.mp (List.getLast_mem ne)
      refine ⟨o.getLast ne, hx, o.dropLast, (mem_ords (hn.erase _) (by rw [List.length_erase_of_mem hx, hl]; rfl)).mpr ?_, List.dropLast_concat_getLast ne⟩
      have h2 : (o.getLast ne :: o.dropLast).Perm (o.getLast ne :: S.erase (o.getLast ne)) := by
        refine List.Perm.trans ?_ (hp.trans (List.perm_cons_erase hx))
        have h3 : (o.getLast ne :: o.dropLast).Perm (o.dropLast ++ [o.getLast ne]) := (List.perm_append_comm (l₁ := [o.getLast ne]) (l₂ := o.dropLast))
        rw [List.dropLast_concat_getLast ne] at h3
        exact h3
      exact (List.perm_cons _).mp h2
theorem ords_nodup : ∀ {k : Nat} {S : List Nat}, S.Nodup → S.length = k → (ords k S).Nodup
  | 0, S, _, _ => by simp [ords]
  | k + 1, S, hn, hl => by
    rw [ords, List.flatMap_def]
    refine List.pairwise_flatten.mpr ⟨fun l hl2 => ?_, List.pairwise_map.mpr (hn.imp_of_mem fun {x y} hx hy ne => ?_)⟩
    · obtain ⟨x, hx, rfl⟩ := List.mem_map.mp hl2
      exact List.pairwise_map.mpr ((ords_nodup (hn.erase x) (by rw [List.length_erase_of_mem hx, hl]; rfl)).imp fun {p q} h e => h (List.append_cancel_right e))
    · intro p hp q hq e
      obtain ⟨p', _, rfl⟩ := List.mem_map.mp hp
      obtain ⟨q', _, rfl⟩ := List.mem_map.mp hq
      have := congrArg List.getLast? e
      simp at this
      exact ne this
theorem ords_len : ∀ {k : Nat} {S : List Nat}, S.Nodup → S.length = k → (ords k S).length = fc k
  | 0, S, _, _ => rfl
  | k + 1, S, hn, hl => by
    rw [ords, List.length_flatMap]
    have : (S.map fun x => ((ords k (S.erase x)).map (· ++ [x])).length) = S.map fun _ => fc k := List.map_congr_left fun x hx => by
      rw [List.length_map, ords_len (hn.erase x) (by rw [List.length_erase_of_mem hx, hl]; rfl)]
    rw [this, List.map_const', List.sum_replicate_nat, hl, fc]
/-- by the last one -/
theorem ords_count {k : Nat} {S : List Nat} {p : List Nat → Bool} : (ords (k + 1) S).countP p = (S.map fun x => (ords k (S.erase x)).countP fun o => p (o ++ [x])).sum := by
  rw [ords, List.countP_flatMap]
  congr 1
  refine List.map_congr_left fun x _ => ?_
  show ((ords k (S.erase x)).map (· ++ [x])).countP p = _
  rw [List.countP_map]
  rfl
theorem sum_split {α : Type} (l : List α) (f g : α → Nat) : (l.map fun x => f x + g x).sum = (l.map f).sum + (l.map g).sum := by
  induction l with
  | nil => rfl
  | cons x l ih => simp only [List.map_cons, List.sum_cons, ih]; omega
theorem sum_ite_range {n v : Nat} (h : v < n) (c : Nat → Nat) : ((List.range n).map fun u => if u = v then c u else 0).sum = c v := by
  induction n with
  | zero => omega
  | succ n ih =>
    rw [List.range_succ, List.map_append, List.sum_append]
    rcases Nat.lt_or_ge v n with z | z
    · rw [ih z]
      simp [show n ≠ v by omega]
    · have e : v = n := by omega
      subst e
      have : ((List.range v).map fun u => if u = v then c u else 0).sum = 0 := by
        have h2 : ((List.range v).map fun u => if u = v then c u else 0) = (List.range v).map fun _ => 0 := List.map_congr_left fun u hu => by
          rw [if_neg (Nat.ne_of_lt (List.mem_range.mp hu))]
        rw [h2, List.map_const', List.sum_replicate_nat, Nat.mul_zero]
      rw [this]
      simp
theorem count_fiber {n : Nat} {α : Type} (g : Nat → Bool) (f : α → Nat) : ∀ L : List α, (∀ o ∈ L, f o < n) → L.countP (fun o => g (f o)) = ((List.range n).map fun v => if g v = true then L.countP (fun o => f o == v) else 0).sum
  | [], _ => by
    have : ((List.range n).map fun v => if g v = true then ([] : List α).countP (fun o => f o == v) else 0) = (List.range n).map fun _ => 0 := List.map_congr_left fun v _ => by simp
    rw [this, List.map_const', List.sum_replicate_nat, Nat.mul_zero]
    rfl
  | o :: L, h => by
    rw [List.countP_cons, count_fiber g f L fun p hp => h p (List.mem_cons_of_mem _ hp)]
    have e : ((List.range n).map fun v => if g v = true then (o :: L).countP (fun o => f o == v) else 0) = (List.range n).map fun v => (if g v = true then L.countP (fun o => f o == v) else 0) + (if v = f o then (if g v = true then 1 else 0) else 0) := List.map_congr_left fun v _ => by
      rw [List.countP_cons]
      by_cases h1 : g v = true
      · by_cases h2 : v = f o
        · subst h2; simp [h1]
        · have h3 : ¬ f o = v := fun e => h2 e.symm
          simp [h1, h2, h3]
      · by_cases h2 : v = f o
        · subst h2; simp [h1]
        · simp [h1, h2]
    rw [e, sum_split, sum_ite_range (h o List.mem_cons_self)]
/-! ### sequences -/
def seqF (b : Nat → Nat → Bool) : List Nat → Nat
  | [] => 0
  | x :: xs => xs.foldl (fun w y => if b y w = true then y else w) x
theorem seqF_snoc {b : Nat → Nat → Bool} {o : List Nat} (h : o ≠ []) (y : Nat) : seqF b (o ++ [y]) = if b y (seqF b o) = true then y else seqF b o := by
  cases o with
  | nil => exact absurd rfl h
  | cons x xs =>
    show (xs ++ [y]).foldl (fun w y => if b y w = true then y else w) x = _
    rw [List.foldl_append]
    rfl
theorem seqF_mem {b : Nat → Nat → Bool} : ∀ {o : List Nat}, o ≠ [] → seqF b o ∈ o := fun {o} h => by
  cases o with
  | nil => exact absurd rfl h
  | cons x xs =>
    show xs.foldl (fun w y => if b y w = true then y else w) x ∈ x :: xs
    have : ∀ (l : List Nat) (w : Nat), l.foldl (fun w y => if b y w = true then y else w) w ∈ w :: l := fun l => by
      induction l with
      | nil => exact fun w => List.mem_cons_self
      | cons y l ih =>
        intro w
        rw [List.foldl_cons]
        rcases List.mem_cons.mp (ih (if b y w = true then y else w)) with e | e
        · rw [e]
          by_cases hb : b y w = true
          · rw [if_pos hb]; exact List.mem_cons_of_mem _ List.mem_cons_self
          · rw [if_neg hb]; exact List.mem_cons_self
        · exact List.mem_cons_of_mem _ (List.mem_cons_of_mem _ e)
    exact this xs x
/-- in how many orders of S the alternative w wins -/
def sqC (b : Nat → Nat → Bool) (S : List Nat) (w : Nat) : Nat := (ords S.length S).countP fun o => seqF b o == w
theorem sqC_one {b : Nat → Nat → Bool} (x w : Nat) : sqC b [x] w = if x = w then 1 else 0 := by
  have : ords 1 [x] = [[x]] := by simp [ords]
  show (ords 1 [x]).countP _ = _
  rw [this]
  by_cases h : x = w <;> simp [seqF, h]
theorem sqC_rec {n : Nat} {b : Nat → Nat → Bool} {S : List Nat} (hn : S.Nodup) (hl : 2 ≤ S.length) (hS : ∀ x ∈ S, x < n) (w : Nat) :
    sqC b S w = (S.map fun x => ((List.range n).map fun v => if (if b x v = true then x else v) = w then sqC b (S.erase x) v else 0).sum).sum := by
  obtain ⟨k, hk⟩ : ∃ k, S.length = k + 1 := ⟨S.length - 1, by omega⟩
  show (ords S.length S).countP _ = _
  rw [hk, ords_count]
  congr 1
  refine List.map_congr_left fun x hx => ?_
  have le : (S.erase x).length = k := by rw [List.length_erase_of_mem hx, hk]; rfl
  have e1 : ((ords k (S.erase x)).countP fun o => seqF b (o ++ [x]) == w) = (ords k (S.erase x)).countP fun o => (fun v => (if b x v = true then x else v) == w) (seqF b o) := List.countP_congr fun o ho => by
    have hp := (mem_ords (hn.erase x) le).mp ho
    have ne : o ≠ [] := fun e => by rw [e] at hp; have := hp.length_eq; rw [le] at this; simp at this; omega
    rw [seqF_snoc ne]
  rw [e1, count_fiber (n := n) (fun v => (if b x v = true then x else v) == w) (seqF b) _ fun o ho => ?_]
  · congr 1
    refine List.map_congr_left fun v _ => ?_
    show (if ((if b x v = true then x else v) == w) = true then _ else 0) = if (if b x v = true then x else v) = w then (ords (S.erase x).length (S.erase x)).countP _ else 0
    rw [le]
    simp only [beq_iff_eq]
  · have hp := (mem_ords (hn.erase x) le).mp ho
    have ne : o ≠ [] := fun e => by rw [e] at hp; have := hp.length_eq; rw [le] at this; simp at this; omega
    exact hS _ (List.mem_of_mem_erase (hp.mem_iff.mp (seqF_mem ne)))
/-! ### careful sequences -/
/-- the walk from the end: A is able, t was taken last -/
def walkC (b : Nat → Nat → Bool) : List Nat → Nat → List Nat → Nat
  | _, t, [] => t
  | A, t, y :: l => if y ∈ A then walkC b (A.filter fun z => b z y) y l else walkC b A t l
def carC (b : Nat → Nat → Bool) : Nat → List Nat → Nat → Nat → Nat → Nat
  | 0, _, t, m, w => if t = w then m else 0
  | k + 1, A, t, m, w => if A = [] then (if t = w then m else 0) else (A.map fun y => carC b k (A.filter fun z => b z y) y (m / A.length) w).sum
theorem able_len {b : Nat → Nat → Bool} (ir : ∀ x, b x x = false) {A : List Nat} {y : Nat} (h : y ∈ A) : (A.filter fun z => b z y).length < A.length := by
  rw [← List.countP_eq_length_filter]
  rcases Nat.lt_or_ge (A.countP fun z => b z y) A.length with z | z
  · exact z
  · have := List.countP_eq_length.mp (Nat.le_antisymm List.countP_le_length z) y h
    rw [ir] at this
    cases this
theorem div_fc {a m : Nat} (ha : 0 < a) (h : fc a ∣ m) : m = a * (m / a) ∧ fc (a - 1) ∣ m / a := by
  obtain ⟨a, rfl⟩ : ∃ c, a = c + 1 := ⟨a - 1, by omega⟩
  obtain ⟨q, rfl⟩ := h
  rw [fc, Nat.mul_assoc, Nat.mul_div_cancel_left _ ha]
  exact ⟨rfl, q, rfl⟩
theorem sum_mul (c : Nat) (f : Nat → Nat) : ∀ l : List Nat, (l.map fun y => c * f y).sum = c * (l.map f).sum
  | [] => by simp
  | x :: l => by simp only [List.map_cons, List.sum_cons, sum_mul c f l, Nat.mul_add]
theorem car_mul {b : Nat → Nat → Bool} (ir : ∀ x, b x x = false) (c w : Nat) : ∀ (k : Nat) (A : List Nat) (t m : Nat), A.length ≤ k → fc A.length ∣ m → carC b k A t (c * m) w = c * carC b k A t m w
  | 0, A, t, m, _, _ => by
    rw [carC, carC]
    by_cases h : t = w
    · rw [if_pos h, if_pos h]
    · rw [if_neg h, if_neg h, Nat.mul_zero]
  | k + 1, A, t, m, hk, hd => by
    rw [carC, carC]
    by_cases hA : A = []
    · rw [if_pos hA, if_pos hA]
      by_cases h : t = w
      · rw [if_pos h, if_pos h]
      · rw [if_neg h, if_neg h, Nat.mul_zero]
    · have a0 : 0 < A.length := List.length_pos_iff.mpr hA
      obtain ⟨h1, h2⟩ := div_fc a0 hd
      rw [if_neg hA, if_neg hA]
      have e : c * m / A.length = c * (m / A.length) := Nat.mul_div_assoc c ⟨m / A.length, h1⟩
      rw [e]
      have : (A.map fun y => carC b k (A.filter fun z => b z y) y (c * (m / A.length)) w) = A.map fun y => c * carC b k (A.filter fun z => b z y) y (m / A.length) w := List.map_congr_left fun y hy => by
        have l1 := able_len ir hy
        exact car_mul ir c w k _ y _ (by omega) (Nat.dvd_trans (fc_dvd (by omega)) h2)
      rw [this, sum_mul]
theorem car_fuel {b : Nat → Nat → Bool} (ir : ∀ x, b x x = false) (w : Nat) : ∀ (k k2 : Nat) (A : List Nat) (t m : Nat), A.length ≤ k → A.length ≤ k2 → carC b k A t m w = carC b k2 A t m w
  | 0, k2, A, t, m, h1, _ => by
    have e : A = [] := List.length_eq_zero_iff.mp (by omega)
    subst e
    cases k2 <;> simp [carC]
  | k + 1, 0, A, t, m, _, h2 => by
    have e : A = [] := List.length_eq_zero_iff.mp (by omega)
    subst e
    simp [carC]
  | k + 1, k2 + 1, A, t, m, h1, h2 => by
    rw [carC, carC]
    by_cases e : A = []
    · rw [if_pos e, if_pos e]
    · rw [if_neg e, if_neg e]
      congr 1
      refine List.map_congr_left fun y hy => ?_
      have l1 := able_len ir hy
      exact car_fuel ir w k k2 _ y _ (by omega) (by omega)
theorem car_nil {b : Nat → Nat → Bool} (k t m w : Nat) : carC b k [] t m w = if t = w then m else 0 := by cases k <;> simp [carC]
/-- how many alternatives win by A, each with an equal share of m -/
def shK (b : Nat → Nat → Bool) (k : Nat) (A : List Nat) (m w : Nat) : Nat := (A.map fun y => carC b k (A.filter fun z => b z y) y (m / A.length) w).sum
theorem shK_eq {b : Nat → Nat → Bool} (ir : ∀ x, b x x = false) {k k2 : Nat} {A : List Nat} (h0 : A ≠ []) (h1 : A.length ≤ k) (h2 : A.length ≤ k2) (t m w : Nat) : shK b k A m w = carC b k2 A t m w := by
  have e : carC b (k + 1) A t m w = shK b k A m w := by rw [carC, if_neg h0]; rfl
  rw [← e]
  exact car_fuel ir w (k + 1) k2 A t m (by omega) h2
def shC (b : Nat → Nat → Bool) (A : List Nat) (m w : Nat) : Nat := shK b 9 A m w
theorem shC_eq {b : Nat → Nat → Bool} (ir : ∀ x, b x x = false) {A : List Nat} (h0 : A ≠ []) (h9 : A.length ≤ 9) (t m w : Nat) : shC b A m w = carC b 9 A t m w := shK_eq ir h0 h9 h9 t m w
/-- how often the walk's stack is looked at, at most -/
def wkB : Nat → Nat
  | 0 => 0
  | a + 1 => 1 + (a + 1) * wkB a
theorem wkB_le {i : Nat} : ∀ {j : Nat}, i ≤ j → wkB i ≤ wkB j := fun {j} h => by
  induction j with
  | zero => rw [Nat.le_zero.mp h]; exact Nat.le_refl _
  | succ j ih =>
    rcases Nat.lt_or_ge j i with z | z
    · rw [show i = j + 1 by omega]; exact Nat.le_refl _
    · refine Nat.le_trans (ih z) ?_
      rw [wkB, Nat.succ_mul]
      omega
theorem sum_sub {U A : List Nat} (hU : U.Nodup) (hA : A.Nodup) (hs : ∀ x ∈ A, x ∈ U) (f : Nat → Nat) (c : Nat) : (U.map fun y => if y ∈ A then f y else c).sum = (A.map f).sum + (U.length - A.length) * c := by
  have p : ((U.filter fun y => decide (y ∈ A))).Perm A := (List.perm_ext_iff_of_nodup (hU.filter _) hA).mpr fun x => by
    rw [List.mem_filter, decide_eq_true_iff]
    exact ⟨fun h => h.2, fun h => ⟨hs x h, h⟩⟩
  have key : ∀ l : List Nat, (l.map fun y => if y ∈ A then f y else c).sum = ((l.filter fun y => decide (y ∈ A)).map f).sum + (l.length - (l.filter fun y => decide (y ∈ A)).length) * c := fun l => by
    induction l with
    | nil => simp
    | cons x l ih =>
      have le : (l.filter fun y => decide (y ∈ A)).length ≤ l.length := List.length_filter_le _ _
      by_cases h : x ∈ A
      · rw [List.filter_cons_of_pos (by simpa using h)]
        simp only [List.map_cons, List.sum_cons, if_pos h, ih, List.length_cons, Nat.add_sub_add_right]
        omega
      · rw [List.filter_cons_of_neg (by simpa using h)]
        simp only [List.map_cons, List.sum_cons, if_neg h, ih, List.length_cons]
        rw [Nat.succ_sub le, Nat.succ_mul]
        omega
  rw [key U, p.length_eq, (p.map f).sum_nat]
theorem car_count {b : Nat → Nat → Bool} (ir : ∀ x, b x x = false) (w : Nat) : ∀ (u : Nat) (U A : List Nat) (t k : Nat), U.Nodup → U.length = u → A.Nodup → (∀ x ∈ A, x ∈ U) → A.length ≤ k →
    (ords u U).countP (fun o => walkC b A t o.reverse == w) = carC b k A t (fc u) w
  | 0, U, A, t, k, hU, hl, hA, hs, hk => by
    have e : A = [] := List.eq_nil_iff_forall_not_mem.mpr fun x hx => by
      have := hs x hx
      rw [List.length_eq_zero_iff.mp hl] at this
      cases this
    subst e
    have e2 : carC b k [] t (fc 0) w = if t = w then 1 else 0 := by cases k <;> simp [carC, fc]
    rw [e2]
    by_cases h : t = w <;> simp [ords, walkC, h]
  | u + 1, U, A, t, k, hU, hl, hA, hs, hk => by
    rw [ords_count]
    have le : ∀ x ∈ U, (U.erase x).length = u := fun x hx => by rw [List.length_erase_of_mem hx, hl]; rfl
    have aU : A.length ≤ u + 1 := by
      have p : ((U.filter fun y => decide (y ∈ A))).Perm A := (List.perm_ext_iff_of_nodup (hU.filter _) hA).mpr fun x => by
        rw [List.mem_filter, decide_eq_true_iff]
        exact ⟨fun h => h.2, fun h => ⟨hs x h, h⟩⟩
      rw [← p.length_eq, ← hl]
      exact List.length_filter_le _ _
    have step : (U.map fun x => (ords u (U.erase x)).countP fun o => walkC b A t (o ++ [x]).reverse == w) = U.map fun y => if y ∈ A then carC b (k - 1) (A.filter fun z => b z y) y (fc u) w else carC b k A t (fc u) w := List.map_congr_left fun x hx => by
      have hw : ∀ o : List Nat, walkC b A t (o ++ [x]).reverse = if x ∈ A then walkC b (A.filter fun z => b z x) x o.reverse else walkC b A t o.reverse := fun o => by
        rw [List.reverse_append]
        rfl
      by_cases h : x ∈ A
      · rw [if_pos h]
        have l1 := able_len ir h
        rw [← car_count ir w u (U.erase x) _ x (k - 1) (hU.erase x) (le x hx) (hA.filter _) (fun z hz => ?_) (by omega)]
        · refine List.countP_congr fun o _ => ?_
          rw [hw, if_pos h]
        · obtain ⟨z1, z2⟩ := List.mem_filter.mp hz
          refine (List.mem_erase_of_ne fun e => ?_).mpr (hs z z1)
          rw [e, ir] at z2
          cases z2
      · rw [if_neg h]
        rw [← car_count ir w u (U.erase x) A t k (hU.erase x) (le x hx) hA (fun z hz => (List.mem_erase_of_ne fun e => h (by rw [← e]; exact hz)).mpr (hs z hz)) hk]
        refine List.countP_congr fun o _ => ?_
        rw [hw, if_neg h]
    rw [step, sum_sub hU hA hs, hl]
    by_cases e : A = []
    · subst e
      have e2 : ∀ m, carC b k [] t m w = if t = w then m else 0 := fun m => by cases k <;> simp [carC]
      rw [e2, e2]
      simp only [List.map_nil, List.sum_nil, Nat.zero_add, List.length_nil, Nat.sub_zero, fc]
      by_cases h : t = w <;> simp [h]
    · have a0 : 0 < A.length := List.length_pos_iff.mpr e
      obtain ⟨k, rfl⟩ : ∃ j, k = j + 1 := ⟨k - 1, by omega⟩
      rw [Nat.add_sub_cancel]
      have e2 : ∀ m, carC b (k + 1) A t m w = (A.map fun y => carC b k (A.filter fun z => b z y) y (m / A.length) w).sum := fun m => by rw [carC, if_neg e]
      rw [e2, e2]
      rcases Nat.lt_or_ge A.length (u + 1) with z | z
      · have d1 : fc A.length ∣ fc u := fc_dvd (by omega)
        obtain ⟨h1, h2⟩ := div_fc a0 d1
        generalize hq : fc u / A.length = q at h1 h2
        have e3 : fc (u + 1) / A.length = (u + 1) * q := by
          rw [fc, h1, Nat.mul_left_comm, Nat.mul_div_cancel_left _ a0]
        rw [e3]
        have m1 : ∀ y ∈ A, ∀ c, carC b k (A.filter fun z => b z y) y (c * q) w = c * carC b k (A.filter fun z => b z y) y q w := fun y hy c => by
          have l1 := able_len ir hy
          exact car_mul ir c w k _ y q (by omega) (Nat.dvd_trans (fc_dvd (by omega)) h2)
        rw [List.map_congr_left fun y hy => by rw [h1, m1 y hy A.length], List.map_congr_left (l := A) (f := fun y => carC b k (A.filter fun z => b z y) y ((u + 1) * q) w) (g := fun y => (u + 1) * carC b k (A.filter fun z => b z y) y q w) fun y hy => m1 y hy (u + 1)]
        rw [sum_mul, sum_mul, ← Nat.add_mul]
        congr 1
        omega
      · have z : A.length = u + 1 := by omega
        rw [z, Nat.sub_self, Nat.zero_mul, Nat.add_zero]
        have e3 : fc (u + 1) / (u + 1) = fc u := by rw [fc, Nat.mul_div_cancel_left _ (Nat.succ_pos u)]
        rw [e3]
/-- in how many orders of S the alternative w wins carefully -/
def cqC (b : Nat → Nat → Bool) (S : List Nat) (w : Nat) : Nat := (ords S.length S).countP fun o => walkC b S 0 o.reverse == w
theorem cqC_eq {b : Nat → Nat → Bool} (ir : ∀ x, b x x = false) {S : List Nat} (hn : S.Nodup) (h0 : S ≠ []) (h9 : S.length ≤ 9) (w : Nat) : cqC b S w = shC b S (fc S.length) w := by
  rw [shC_eq ir h0 h9 0]
  exact car_count ir w S.length S S 0 9 hn rfl hn (fun _ h => h) h9
end DS
set_option maxHeartbeats 4000000
namespace DS
open PySem PySem.Spec PyProof.Rows L2
/-! ### middles: certificates of any kind that one is uncovered -/
section
variable {n : Nat} {b : Nat → Nat → Bool} {i j : Nat}
/-! what the package hands out -/
end
end DS
set_option maxHeartbeats 4000000
namespace DS
open PySem PySem.Spec PyProof.Rows L2
/-! ### witnesses of any kind -/
section
variable {n : Nat} {b : Nat → Nat → Bool} {i j : Nat} {M : List Nat}
end
end DS
set_option maxHeartbeats 4000000
namespace DS
open PySem PySem.Spec PyProof.Rows L2
/-! ### components -/
section
variable {n : Nat} {b : Nat → Nat → Bool} {o : Nat} {M : List Nat}
end
end DS
set_option maxHeartbeats 4000000
namespace DS
open PySem PySem.Spec PyProof.Rows L2
/-! ### tables made of tables -/
/-- a loop told by its index -/
theorem seq_idx {α : Type} {fi : Dn → Option (List PyData)} {g : PyData → Dn → Option Dn} {f k : SF} {l : List α} {h : α → PyData} {r : Res} {ρ : Dn} (e : fi ρ = some (l.map h)) (I : Nat → Dn → Prop) (h0 : I 0 ρ)
    (hs : ∀ i (hi : i < l.length) ρ, I i ρ → ∃ ρ2, I (i + 1) ρ2 ∧ (g (h l[i]) ρ).bind f = some (.nx ρ2)) (hk : ∀ ρ', I l.length ρ' → k ρ' = some r) : sSeq (sFor fi g f) k ρ = some r := by
  have key : ∀ (l : List α) (J : Nat → Dn → Prop) (ρ : Dn), J 0 ρ → (∀ i (hi : i < l.length) ρ, J i ρ → ∃ ρ2, J (i + 1) ρ2 ∧ (g (h l[i]) ρ).bind f = some (.nx ρ2)) → ∃ ρ', runFor g f (l.map h) ρ = some (.nx ρ') ∧ J l.length ρ' := by
    intro l
    induction l with
    | nil => exact fun J ρ j0 _ => ⟨ρ, rfl, j0⟩
    | cons x l ih =>
      intro J ρ j0 hs
      obtain ⟨ρ2, j1, e1⟩ := hs 0 (by simp) ρ j0
      obtain ⟨ρ', e2, j2⟩ := ih (fun i => J (i + 1)) ρ2 j1 fun i hi ρ hj => by
        have := hs (i + 1) (by simpa using hi) ρ hj
        simpa using this
      refine ⟨ρ', ?_, j2⟩
      obtain ⟨ρ1, g1, f1⟩ := Option.bind_eq_some_iff.mp e1
      show (g (h x) ρ).bind _ = _
      rw [show g (h x) ρ = some ρ1 from g1]
      show (f ρ1).bind _ = _
      rw [f1]
      exact e2
  obtain ⟨ρ', e1, j1⟩ := key l I ρ h0 hs
  exact seq_nx (for_yes e e1) (hk ρ' j1)
abbrev T2 := Nat × (Nat → Nat → Bool)
def AllT (ts : List T2) : Prop := ∀ t ∈ ts, Tour t.1 t.2
theorem AllT.nil : AllT [] := fun t h => by cases h
theorem AllT.snoc {ts : List T2} {m : Nat} {b : Nat → Nat → Bool} (h : AllT ts) (t : Tour m b) : AllT (ts ++ [(m, b)]) := fun t' ht' => by
  rcases List.mem_append.mp ht' with k | k
  · exact h t' k
  · rw [List.mem_singleton.mp k]
    exact t
end DS
set_option maxHeartbeats 4000000
namespace DS
open PySem PySem.Spec PyProof.Rows L2
/-! ### texts that are changed -/
section
variable {ρ : Dn} {f : DF} {c k B : Nat}
@[simp] theorem e_sliceS {x : Str} {l h : Option Int} : sliceD (.str x) l h = if x.length < 1000000 then some (.str (cutS x l h)) else none := rfl
@[simp] theorem e_gAddS {x y : Str} : gAdd (.str x) (.str y) = if x.length + y.length < 1000000 then some (.str (x ++ y)) else none := rfl
@[simp] theorem e_addBS {x y : Str} : gAddB (.str x) (.str y) = if x.length + y.length < 1000000 then some (.str (x ++ y)) else none := rfl
@[simp] theorem e_addBL {xs ys : List PyData} : gAddB (.list xs) (.list ys) = if xs.length + ys.length < 1000000 then some (.list (xs ++ ys)) else none := rfl
@[simp] theorem e_addBNT {M : List Nat} {ys : List PyData} : gAddB (tupN M) (.tuple ys) = if M.length + ys.length < 1000000 then some (.tuple (M.map ni ++ ys)) else none := e_gAddNT
@[simp] theorem e_addBNN {M N : List Nat} : gAddB (tupN M) (tupN N) = if M.length + N.length < 1000000 then some (tupN (M ++ N)) else none := e_gAddNN
end
end DS
namespace DS
/-! ### sums of numbers, and the Pfaffian of a list -/
def sm : Nat → (Nat → Int) → Int
  | 0, _ => 0
  | n + 1, f => sm n f + f n
theorem sm_congr {f g : Nat → Int} : ∀ {n : Nat}, (∀ i, i < n → f i = g i) → sm n f = sm n g
  | 0, _ => rfl
  | n + 1, h => by
    show sm n f + f n = sm n g + g n
    rw [sm_congr fun i hi => h i (by omega), h n (by omega)]
theorem sm_zero : ∀ n : Nat, sm n (fun _ => 0) = 0
  | 0 => rfl
  | n + 1 => by
    show sm n (fun _ => 0) + 0 = 0
    rw [sm_zero n]
    rfl
theorem sm_add (f g : Nat → Int) : ∀ n : Nat, sm n (fun i => f i + g i) = sm n f + sm n g
  | 0 => rfl
  | n + 1 => by
    show sm n (fun i => f i + g i) + (f n + g n) = sm n f + f n + (sm n g + g n)
    rw [sm_add f g n]
    omega
theorem sm_neg (f : Nat → Int) : ∀ n : Nat, sm n (fun i => - f i) = - sm n f
  | 0 => rfl
  | n + 1 => by
    show sm n (fun i => - f i) + - f n = -(sm n f + f n)
    rw [sm_neg f n]
    omega
theorem sm_mul (c : Int) (f : Nat → Int) : ∀ n : Nat, sm n (fun i => c * f i) = c * sm n f
  | 0 => by show (0 : Int) = c * 0; rw [Int.mul_zero]
  | n + 1 => by
    show sm n (fun i => c * f i) + c * f n = c * (sm n f + f n)
    rw [sm_mul c f n, Int.mul_add]
theorem sm_swap (f : Nat → Nat → Int) (m : Nat) : ∀ n : Nat, sm n (fun i => sm m (fun j => f i j)) = sm m (fun j => sm n (fun i => f i j))
  | 0 => (sm_zero m).symm
  | n + 1 => by
    show sm n (fun i => sm m (fun j => f i j)) + sm m (fun j => f n j) = sm m (fun j => sm n (fun i => f i j) + f n j)
    rw [sm_swap f m n, sm_add]
theorem sm_front (f : Nat → Int) : ∀ n : Nat, sm (n + 1) f = f 0 + sm n (fun i => f (i + 1))
  | 0 => by show 0 + f 0 = f 0 + 0; omega
  | n + 1 => by
    show sm (n + 1) f + f (n + 1) = f 0 + (sm n (fun i => f (i + 1)) + f (n + 1))
    rw [sm_front f n]
    omega
theorem sm_le0 {f : Nat → Int} : ∀ {n : Nat}, (∀ i, i < n → f i ≤ 0) → sm n f ≤ 0
  | 0, _ => Int.le_refl 0
  | n + 1, h => by
    show sm n f + f n ≤ 0
    have := sm_le0 (f := f) (n := n) fun i hi => h i (by omega)
    have := h n (by omega)
    omega
/-- a sum of numbers that are not positive is 0 only if all are -/
theorem sm_all0 {f : Nat → Int} : ∀ n : Nat, (∀ i, i < n → f i ≤ 0) → 0 ≤ sm n f → ∀ i, i < n → f i = 0 := by
  intro n
  induction n with
  | zero => exact fun _ _ i hi => absurd hi (Nat.not_lt_zero i)
  | succ n ih =>
    intro h e i hi
    have e : 0 ≤ sm n f + f n := e
    have h1 := sm_le0 (f := f) (n := n) fun i hi => h i (by omega)
    have h2 := h n (by omega)
    by_cases k : i = n
    · subst k
      omega
    · exact ih (fun j hj => h j (by omega)) (by omega) i (by omega)
/-- all but one index -/
theorem sm_skip (f : Nat → Int) (i : Nat) : ∀ n : Nat, i ≤ n → f i = 0 → sm (n + 1) f = sm n (fun j => f (if j < i then j else j + 1))
  | 0, h, z => by
    have : i = 0 := by omega
    subst this
    show 0 + f 0 = 0
    omega
  | n + 1, h, z => by
    by_cases k : i = n + 1
    · subst k
      show sm (n + 1) f + f (n + 1) = _
      rw [z, Int.add_zero]
      exact sm_congr fun j hj => by rw [if_pos hj]
    · show sm (n + 1) f + f (n + 1) = sm n (fun j => f (if j < i then j else j + 1)) + f (if n < i then n else n + 1)
      rw [sm_skip f i n (by omega) z, if_neg (by omega)]
/-- two neighbours exchanged -/
theorem sm_exch {F G : Nat → Int} {p : Nat} (h1 : F p = - G (p + 1)) (h2 : F (p + 1) = - G p) {M : Nat} (h : ∀ i, i < M → i ≠ p → i ≠ p + 1 → F i = - G i) : ∀ m : Nat, m ≤ M → p + 2 ≤ m → sm m F = - sm m G
  | 0, _, k => absurd k (by omega)
  | m + 1, hM, k => by
    by_cases e : p + 2 = m + 1
    · have : m = p + 1 := by omega
      subst this
      show sm p F + F p + F (p + 1) = -(sm p G + G p + G (p + 1))
      have : sm p F = - sm p G := by
        rw [← sm_neg]
        exact sm_congr fun i hi => h i (by omega) (by omega) (by omega)
      omega
    · show sm m F + F m = -(sm m G + G m)
      rw [sm_exch h1 h2 h m (by omega) (by omega), h m (by omega) (by omega) (by omega)]
      omega
def sgP (i : Nat) : Int := if i % 2 = 0 then 1 else -1
theorem sg_succ (i : Nat) : sgP (i + 1) = - sgP i := by
  unfold sgP
  split <;> split <;> omega
section
variable (a : Nat → Nat → Int)
def pf : Nat → List Nat → Int
  | 0, _ => 1
  | _ + 1, [] => 1
  | k + 1, x :: r => sm r.length fun i => sgP i * a x (r.getD i 0) * pf k (r.eraseIdx i)
variable {a}
theorem pf_cons {k x : Nat} {r : List Nat} : pf a (k + 1) (x :: r) = sm r.length fun i => sgP i * a x (r.getD i 0) * pf a k (r.eraseIdx i) := rfl
theorem er_lt : ∀ {l : List Nat} {i j : Nat}, j < i → (l.eraseIdx i).getD j 0 = l.getD j 0
  | [], _, _, _ => by simp
  | x :: l, 0, j, h => absurd h (Nat.not_lt_zero j)
  | x :: l, i + 1, 0, h => by simp
  | x :: l, i + 1, j + 1, h => by
    rw [List.eraseIdx_cons_succ, List.getD_cons_succ, List.getD_cons_succ]
    exact er_lt (by omega)
theorem er_ge : ∀ {l : List Nat} {i j : Nat}, i ≤ j → (l.eraseIdx i).getD j 0 = l.getD (j + 1) 0
  | [], _, _, _ => by simp
  | x :: l, 0, j, h => by simp
  | x :: l, i + 1, 0, h => absurd h (by omega)
  | x :: l, i + 1, j + 1, h => by
    rw [List.eraseIdx_cons_succ, List.getD_cons_succ, List.getD_cons_succ]
    exact er_ge (by omega)
theorem er_er : ∀ {l : List Nat} {i j : Nat}, i ≤ j → (l.eraseIdx i).eraseIdx j = (l.eraseIdx (j + 1)).eraseIdx i
  | [], _, _, _ => by simp
  | x :: l, 0, j, h => by simp
  | x :: l, i + 1, 0, h => absurd h (by omega)
  | x :: l, i + 1, j + 1, h => by
    rw [List.eraseIdx_cons_succ, List.eraseIdx_cons_succ, List.eraseIdx_cons_succ, List.eraseIdx_cons_succ, er_er (by omega)]
theorem er_len {l : List Nat} {i : Nat} (h : i < l.length) : (l.eraseIdx i).length + 1 = l.length := by
  rw [List.length_eraseIdx, if_pos h]
  omega
theorem pf_swap0 (sk : ∀ x y, a y x = - a x y) {k : Nat} {x y : Nat} {l : List Nat} (hl : l.length = 2 * k) : pf a (k + 1) (x :: y :: l) = - pf a (k + 1) (y :: x :: l) := by
  have e1 : ∀ x y, pf a (k + 1) (x :: y :: l) = a x y * pf a k l + sm l.length (fun i => - (sgP i * a x (l.getD i 0) * pf a k (y :: l.eraseIdx i))) := fun x y => by
    show sm (l.length + 1) _ = _
    rw [sm_front]
    congr 1
    · simp [sgP]
    · refine sm_congr fun i _ => ?_
      rw [sg_succ, List.getD_cons_succ, List.eraseIdx_cons_succ, Int.neg_mul, Int.neg_mul]
  rw [e1 x y, e1 y x, sk x y]
  cases k with
  | zero =>
    have : l = [] := List.length_eq_zero_iff.mp (by omega)
    subst this
    show a x y * 1 + 0 = -(-a x y * 1 + 0)
    omega
  | succ k =>
    let R : Nat → Nat → Int := fun i j => if i < j then sgP i * sgP (j - 1) * pf a k ((l.eraseIdx j).eraseIdx i) else if j < i then sgP i * sgP j * pf a k ((l.eraseIdx i).eraseIdx j) else 0
    have hR : ∀ i j, R j i = - R i j := fun i j => by
      show (if j < i then sgP j * sgP (i - 1) * pf a k ((l.eraseIdx i).eraseIdx j) else if i < j then sgP j * sgP i * pf a k ((l.eraseIdx j).eraseIdx i) else 0) = - (if i < j then sgP i * sgP (j - 1) * pf a k ((l.eraseIdx j).eraseIdx i) else if j < i then sgP i * sgP j * pf a k ((l.eraseIdx i).eraseIdx j) else 0)
      by_cases h1 : i < j
      · rw [if_neg (by omega), if_pos h1, if_pos h1]
        have : sgP j = - sgP (j - 1) := by
          have := sg_succ (j - 1)
          rwa [show j - 1 + 1 = j by omega] at this
        rw [this, Int.neg_mul, Int.neg_mul, Int.mul_comm (sgP (j - 1))]
      · by_cases h2 : j < i
        · rw [if_pos h2, if_neg h1, if_pos h2]
          have : sgP i = - sgP (i - 1) := by
            have := sg_succ (i - 1)
            rwa [show i - 1 + 1 = i by omega] at this
          rw [this, Int.neg_mul, Int.neg_mul, Int.neg_neg, Int.mul_comm (sgP (i - 1))]
        · rw [if_neg h2, if_neg h1, if_neg h1, if_neg h2]
          rfl
    have hin : ∀ x y i, i < l.length → sgP i * a x (l.getD i 0) * pf a (k + 1) (y :: l.eraseIdx i) = sm l.length (fun j => a x (l.getD i 0) * a y (l.getD j 0) * R i j) := fun x y i hi => by
      have ln := er_len hi
      rw [← ln, sm_skip _ i _ (by omega) (by show _ * (if i < i then _ else if i < i then _ else (0 : Int)) = 0; rw [if_neg (Nat.lt_irrefl i), if_neg (Nat.lt_irrefl i), Int.mul_zero])]
      show _ * sm (l.eraseIdx i).length _ = _
      rw [← sm_mul]
      refine sm_congr fun j hj => ?_
      by_cases c : j < i
      · rw [if_pos c, er_lt c]
        show _ = _ * (if i < j then _ else if j < i then sgP i * sgP j * pf a k ((l.eraseIdx i).eraseIdx j) else 0)
        rw [if_neg (by omega), if_pos c]
        simp only [Int.mul_assoc, Int.mul_left_comm, Int.mul_comm]
      · rw [if_neg c, er_ge (by omega)]
        show _ = _ * (if i < j + 1 then sgP i * sgP (j + 1 - 1) * pf a k ((l.eraseIdx (j + 1)).eraseIdx i) else _)
        rw [if_pos (by omega), ← er_er (by omega), Nat.add_sub_cancel]
        simp only [Int.mul_assoc, Int.mul_left_comm, Int.mul_comm]
    have hd : ∀ x y, sm l.length (fun i => - (sgP i * a x (l.getD i 0) * pf a (k + 1) (y :: l.eraseIdx i))) = - sm l.length (fun i => sm l.length (fun j => a x (l.getD i 0) * a y (l.getD j 0) * R i j)) := fun x y => by
      rw [sm_neg]
      congr 1
      exact sm_congr fun i hi => hin x y i hi
    rw [hd x y, hd y x]
    have : sm l.length (fun i => sm l.length (fun j => a y (l.getD i 0) * a x (l.getD j 0) * R i j)) = - sm l.length (fun i => sm l.length (fun j => a x (l.getD i 0) * a y (l.getD j 0) * R i j)) := by
      rw [sm_swap, ← sm_neg]
      refine sm_congr fun i _ => ?_
      rw [← sm_neg]
      refine sm_congr fun j _ => ?_
      rw [hR i j, Int.mul_neg, Int.mul_comm (a y _)]
    rw [this, Int.neg_mul]
    omega
theorem er_app : ∀ (l1 : List Nat) {l2 : List Nat} {i : Nat}, (l1 ++ l2).eraseIdx i = if i < l1.length then l1.eraseIdx i ++ l2 else l1 ++ l2.eraseIdx (i - l1.length)
  | [], l2, i => by simp
  | x :: l1, l2, 0 => by simp
  | x :: l1, l2, i + 1 => by
    rw [List.cons_append, List.eraseIdx_cons_succ, er_app l1, List.length_cons]
    by_cases h : i < l1.length
    · rw [if_pos h, if_pos (by omega)]
      rfl
    · rw [if_neg h, if_neg (by omega), show i + 1 - (l1.length + 1) = i - l1.length by omega]
      rfl
theorem getD_app : ∀ (l1 : List Nat) {l2 : List Nat} {i : Nat}, (l1 ++ l2).getD i 0 = if i < l1.length then l1.getD i 0 else l2.getD (i - l1.length) 0
  | [], l2, i => by simp
  | x :: l1, l2, 0 => by simp
  | x :: l1, l2, i + 1 => by
    rw [List.cons_append, List.getD_cons_succ, getD_app l1, List.length_cons]
    by_cases h : i < l1.length
    · rw [if_pos h, if_pos (by omega), List.getD_cons_succ]
    · rw [if_neg h, if_neg (by omega), show i + 1 - (l1.length + 1) = i - l1.length by omega]
theorem pf_swap (sk : ∀ x y, a y x = - a x y) : ∀ {k : Nat} {l1 : List Nat} {x y : Nat} {l2 : List Nat}, (l1 ++ x :: y :: l2).length = 2 * k → pf a k (l1 ++ x :: y :: l2) = - pf a k (l1 ++ y :: x :: l2)
  | 0, l1, x, y, l2, h => by simp at h
  | k + 1, [], x, y, l2, h => by
    simp at h
    exact pf_swap0 sk (by omega)
  | k + 1, z :: l1, x, y, l2, h => by
    simp at h
    rw [List.cons_append, List.cons_append, pf_cons, pf_cons]
    have ln : (l1 ++ y :: x :: l2).length = (l1 ++ x :: y :: l2).length := by simp
    rw [ln]
    have c0 : ∀ {u v : Nat} {l2 : List Nat}, (l1 ++ u :: v :: l2).eraseIdx l1.length = l1 ++ v :: l2 := fun {u v l2} => by
      rw [er_app, if_neg (Nat.lt_irrefl _), Nat.sub_self, List.eraseIdx_cons_zero]
    have c1 : ∀ {u v : Nat} {l2 : List Nat}, (l1 ++ u :: v :: l2).eraseIdx (l1.length + 1) = l1 ++ u :: l2 := fun {u v l2} => by
      rw [er_app, if_neg (by omega), show l1.length + 1 - l1.length = 1 by omega, List.eraseIdx_cons_succ, List.eraseIdx_cons_zero]
    have g0 : ∀ {u v : Nat} {l2 : List Nat}, (l1 ++ u :: v :: l2).getD l1.length 0 = u := fun {u v l2} => by
      rw [getD_app, if_neg (Nat.lt_irrefl _), Nat.sub_self, List.getD_cons_zero]
    have g1 : ∀ {u v : Nat} {l2 : List Nat}, (l1 ++ u :: v :: l2).getD (l1.length + 1) 0 = v := fun {u v l2} => by
      rw [getD_app, if_neg (by omega), show l1.length + 1 - l1.length = 1 by omega, List.getD_cons_succ, List.getD_cons_zero]
    refine sm_exch (p := l1.length) ?_ ?_ (fun i hi h1 h2 => ?_) _ (Nat.le_refl _) (by simp)
    · rw [c0, c1, g0, g1, sg_succ, Int.neg_mul, Int.neg_mul, Int.neg_neg]
    · rw [c0, c1, g0, g1, sg_succ, Int.neg_mul, Int.neg_mul]
    · have hi : i < l1.length + 2 + l2.length := by
        rw [List.length_append, List.length_cons, List.length_cons] at hi
        omega
      by_cases c : i < l1.length
      · rw [er_app, if_pos c, er_app, if_pos c, getD_app, if_pos c, getD_app, if_pos c, pf_swap sk (by have := er_len c; simp; omega), Int.mul_neg]
      · rw [er_app, if_neg c, er_app, if_neg c, getD_app, if_neg c, getD_app, if_neg c]
        obtain ⟨m, rfl⟩ : ∃ m, i = l1.length + 2 + m := ⟨i - l1.length - 2, by omega⟩
        rw [show l1.length + 2 + m - l1.length = m + 1 + 1 by omega]
        simp only [List.eraseIdx_cons_succ, List.getD_cons_succ]
        rw [pf_swap sk (by have := er_len (l := l2) (i := m) (by omega); simp; omega), Int.mul_neg]
theorem pf_dup (sk : ∀ x y, a y x = - a x y) {k : Nat} {x : Nat} : ∀ {l1 l2 : List Nat}, (x :: (l1 ++ x :: l2)).length = 2 * k → pf a k (x :: (l1 ++ x :: l2)) = 0 := by
  intro l1
  induction hn : l1.length generalizing l1 with
  | zero =>
    intro l2 h
    have : l1 = [] := List.length_eq_zero_iff.mp hn
    subst this
    have := pf_swap sk (k := k) (l1 := []) (x := x) (y := x) (l2 := l2) h
    simp only [List.nil_append] at this ⊢
    omega
  | succ m ih =>
    intro l2 h
    have e : l1 = l1.dropLast ++ [l1.getLast (by intro z; rw [z] at hn; cases hn)] := (List.dropLast_concat_getLast _).symm
    generalize l1.getLast _ = c at e
    rw [e] at h ⊢
    have e2 : x :: (l1.dropLast ++ [c] ++ x :: l2) = (x :: l1.dropLast) ++ c :: x :: l2 := by simp
    rw [e2] at h ⊢
    rw [pf_swap sk h, show (x :: l1.dropLast) ++ x :: c :: l2 = x :: (l1.dropLast ++ x :: c :: l2) by simp, ih (by rw [List.length_dropLast]; omega) (by simp at h ⊢; omega)]
    rfl
theorem pf_mem (sk : ∀ x y, a y x = - a x y) {k : Nat} {x : Nat} {l : List Nat} (h : l.length + 1 = 2 * k) (hx : x ∈ l) : pf a k (x :: l) = 0 := by
  obtain ⟨l1, l2, rfl⟩ := List.append_of_mem hx
  exact pf_dup sk (by simpa using h)
theorem getDM {l : List Nat} {i : Nat} (h : i < l.length) : l.getD i 0 ∈ l := by
  rw [List.getD_eq_getElem?_getD, List.getElem?_eq_getElem h]
  exact List.getElem_mem h
end
/-! ### its size -/
end DS
namespace DS
/-! ### balanced weights exist -/
theorem eq0_of_mul {a b : Int} (h : 0 < a) (k : a * b = 0) : b = 0 := by
  rcases Int.mul_eq_zero.mp k with z | z
  · omega
  · exact z
inductive Cn (S : (Nat → Int) → Prop) : (Nat → Int) → Prop
  | base {c : Nat → Int} (h : S c) : Cn S c
  | smul {v : Nat → Int} (k : Int) (hk : 0 < k) (h : Cn S v) : Cn S fun i => k * v i
  | add {v w : Nat → Int} (h : Cn S v) (g : Cn S w) : Cn S fun i => v i + w i
/-! ### of a skew matrix -/
/-- the balance of i -/
def Bl (n : Nat) (a : Nat → Nat → Int) (p : Nat → Int) (i : Nat) : Int := sm n fun j => a i j * p j
structure Fair (n : Nat) (a : Nat → Nat → Int) (p : Nat → Int) : Prop where
  nn : ∀ i, i < n → 0 ≤ p i
  ba : ∀ i, i < n → Bl n a p i ≤ 0
  ne : ∃ i, i < n ∧ 0 < p i
theorem sm_one {n j : Nat} (f : Nat → Int) (hj : j < n) : sm n (fun i => if i = j then f i else 0) = f j := by
  induction n with
  | zero => omega
  | succ n ih =>
    show sm n _ + (if n = j then f n else 0) = _
    by_cases e : n = j
    · rw [if_pos e, sm_congr (g := fun _ => 0) fun i hi => if_neg (by omega), sm_zero, e]
      omega
    · rw [if_neg e, ih (by omega)]
      omega
section
variable {n : Nat} {a : Nat → Nat → Int} (sk : ∀ x y, a y x = - a x y)
include sk
theorem dblx (p q : Nat → Int) : sm n (fun i => q i * Bl n a p i) = - sm n (fun i => p i * Bl n a q i) := by
  have e : ∀ p q : Nat → Int, sm n (fun i => q i * Bl n a p i) = sm n (fun i => sm n fun j => q i * (a i j * p j)) := fun p q => sm_congr fun i _ => (sm_mul _ _ _).symm
  rw [e, e, sm_swap, ← sm_neg]
  refine sm_congr fun i _ => ?_
  rw [← sm_neg]
  exact sm_congr fun j _ => by rw [sk i j]; grind
theorem Fair.cross {p q : Nat → Int} (hp : Fair n a p) (hq : Fair n a q) : ∀ i, i < n → q i * Bl n a p i = 0 := by
  have np : ∀ {p q : Nat → Int}, Fair n a p → Fair n a q → ∀ i, i < n → q i * Bl n a p i ≤ 0 := fun hp hq i hi => by
    have := Int.mul_le_mul_of_nonneg_left (hp.ba i hi) (hq.nn i hi)
    omega
  refine sm_all0 n (np hp hq) ?_
  rw [dblx sk]
  have := sm_le0 (np hq hp)
  omega
theorem Fair.own {p : Nat → Int} (hp : Fair n a p) : ∀ i, i < n → 0 < p i → Bl n a p i = 0 := fun i hi h => eq0_of_mul h (hp.cross sk hp i hi)
end
section
variable {n : Nat} {a : Nat → Nat → Int} (od : ∀ x y, x ≠ y → a x y % 2 = 1) (dg : ∀ x, a x x = 0)
include od dg
theorem bl_par (p : Nat → Int) {i : Nat} (hi : i < n) : Bl n a p i % 2 = (sm n p - p i) % 2 := by
  have e : sm n p - p i = sm n fun j => if j = i then 0 else p j := by
    have := sm_one p hi
    rw [← this, show ∀ x y : Int, x - y = x + - y from fun x y => rfl, ← sm_neg, ← sm_add]
    exact sm_congr fun j _ => by split <;> omega
  rw [e]
  have key : ∀ (f g : Nat → Int) (m : Nat), (∀ j, j < m → f j % 2 = g j % 2) → sm m f % 2 = sm m g % 2 := fun f g m h => by
    induction m with
    | zero => rfl
    | succ m ih =>
      have h1 := ih fun j hj => h j (by omega)
      have h2 := h m (by omega)
      show (sm m f + f m) % 2 = (sm m g + g m) % 2
      omega
  refine key _ _ n fun j _ => ?_
  show a i j * p j % 2 = (if j = i then 0 else p j) % 2
  split
  · rename_i z
    rw [z, dg, Int.zero_mul]
  · rename_i z
    rw [Int.mul_emod, od i j fun w => z w.symm]
    omega
end
end DS
namespace DS
/-! ### balanced weights without a common divisor: one only; and the Pfaffians -/
def Prim (n : Nat) (p : Nat → Int) : Prop := ∀ d : Nat, (∀ i, i < n → (d : Int) ∣ p i) → d = 1
section
variable {n : Nat} {a : Nat → Nat → Int}
variable (sk : ∀ x y, a y x = - a x y) (od : ∀ x y, x ≠ y → a x y % 2 = 1)
include sk in
theorem dg_of : ∀ x, a x x = 0 := fun x => by have := sk x x; omega
include sk od
theorem Fair.par {p : Nat → Int} (h : Fair n a p) (pr : Prim n p) : sm n p % 2 = 1 ∧ (∀ i, i < n → 0 < p i → p i % 2 = 1) ∧ ∀ i, i < n → p i = 0 → Bl n a p i < 0 := by
  have dg := dg_of sk
  obtain ⟨k, hk, ho⟩ : ∃ k, k < n ∧ p k % 2 = 1 := by
    apply Classical.byContradiction
    intro z
    have := pr 2 fun i hi => by
      apply Int.dvd_of_emod_eq_zero
      apply Classical.byContradiction
      intro w
      exact z ⟨i, hi, by show p i % 2 = 1; have w : p i % 2 ≠ 0 := w; omega⟩
    omega
  have kp : 0 < p k := by
    have := h.nn k hk
    rcases Int.lt_or_le 0 (p k) with z | z
    · exact z
    · have : p k = 0 := by omega
      rw [this] at ho
      exact absurd ho (by decide)
  have e0 := bl_par od dg p hk
  rw [h.own sk k hk kp] at e0
  have es : sm n p % 2 = 1 := by omega
  refine ⟨es, fun i hi hp => ?_, fun i hi hp => ?_⟩
  · have e1 := bl_par od dg p hi
    rw [h.own sk i hi hp] at e1
    omega
  · have e1 := bl_par od dg p hi
    rw [hp] at e1
    have := h.ba i hi
    omega
end
/-! ### the Pfaffians of a set without each of its members -/
theorem sm_mem {n : Nat} {F : Nat → Int} : ∀ {l : List Nat}, l.Nodup → (∀ j ∈ l, j < n) → sm n (fun j => if j ∈ l then F j else 0) = sm l.length fun t => F (l.getD t 0)
  | [], _, _ => by
    rw [sm_congr (g := fun _ => 0) fun i _ => by simp, sm_zero]
    rfl
  | x :: l, nd, h => by
    obtain ⟨n1, n2⟩ := List.nodup_cons.mp nd
    show _ = sm (l.length + 1) _
    rw [sm_front, sm_congr (g := fun j => (if j = x then F j else 0) + (if j ∈ l then F j else 0)) fun j _ => ?_, sm_add, sm_one F (h x List.mem_cons_self), sm_mem n2 fun j hj => h j (List.mem_cons_of_mem _ hj)]
    · simp
    · by_cases e : j = x
      · subst e
        simp [n1]
      · simp [e]
section
variable {n k : Nat} {a : Nat → Nat → Int} {S : List Nat} {w : Nat → Int}
structure PfW (n k : Nat) (a : Nat → Nat → Int) (S : List Nat) (w : Nat → Int) : Prop where
  nd : S.Nodup
  lt : ∀ j ∈ S, j < n
  ln : S.length = 2 * k + 1
  at_ : ∀ t, t < S.length → w (S.getD t 0) = sgP t * pf a k (S.eraseIdx t)
  out : ∀ j, j < n → j ∉ S → w j = 0
theorem PfW.bl (h : PfW n k a S w) (x : Nat) : Bl n a w x = pf a (k + 1) (x :: S) := by
  rw [pf_cons]
  unfold Bl
  rw [sm_congr (g := fun j => if j ∈ S then a x j * w j else 0) fun j hj => ?_, sm_mem h.nd h.lt]
  · refine sm_congr fun t ht => ?_
    show a x (S.getD t 0) * w (S.getD t 0) = _
    rw [h.at_ t ht]
    grind
  · split
    · rfl
    · rename_i z
      rw [h.out j hj z, Int.mul_zero]
variable (sk : ∀ x y, a y x = - a x y) (od : ∀ x y, x ≠ y → a x y % 2 = 1)
include sk in
theorem PfW.zero (h : PfW n k a S w) {x : Nat} (hx : x ∈ S) : Bl n a w x = 0 := by
  rw [h.bl, pf_mem sk (by have := h.ln; omega) hx]
include od in
end
end DS
set_option maxHeartbeats 4000000
namespace DS
open PySem PySem.Spec PyProof.Rows L2
/-! ### the meanings of pfaffians -/
@[simp] theorem e_getD0sd {l : Bool} {d : PyData} {r : Dn} : getD 0 (.sd l d :: r) = some d := rfl
@[simp] theorem e_getT0 {d : PyData} {r : Dn} : getT 0 (.sd false d :: r) = some d := rfl
@[simp] theorem e_getTs {i : Nat} {e : Ent} {r : Dn} : getT (i + 1) (e :: r) = getT i r := rfl
@[simp] theorem e_getS0 {d : PyData} {r : Dn} : getS 0 (.sd true d :: r) = some d := rfl
@[simp] theorem e_getSs {i : Nat} {e : Ent} {r : Dn} : getS (i + 1) (e :: r) = getS i r := rfl
section
variable {n : Nat} {b : Nat → Nat → Bool}
/-! all sets, told of as tuples -/
abbrev stepAS : SF := sSetSd 1 (lstI (addL (lstI (addL (lstI (limA (consA (tupF nilA) nilA))) (lstI (lcL (seqI (getD 1)) (setN 3) yesT (bin2 gAdd (tupF (consA (getD 2) nilA)) (getD 3)) [3])))) (sliceF (onlyL (getS 1)) (someP (cD (.int 1))) noP)))
theorem setSd_eq {i : Nat} {f : DF} {ρ : Dn} {d : PyData} (e : f ρ = some d) : sSetSd i f ρ = some (.nx (ρ.set i (.sd true d))) := by
  show (f ρ).bind _ = _
  rw [e]
  rfl
theorem addL_eq {fa fb : DF} {ρ : Dn} {xs ys : List PyData} (e1 : fa ρ = some (.list xs)) (e2 : fb ρ = some (.list ys)) (h : xs.length + ys.length < 1000000) : lstI (addL fa fb) ρ = some (.list (xs ++ ys)) := by
  show ((fa ρ).bind fun d => (fb ρ).bind fun e => _).map _ = _
  rw [e1, e2]
  show (if xs.length + ys.length < 1000000 then some (xs ++ ys) else none).map _ = _
  rw [if_pos h]
  rfl
theorem stepAS_eq {lo m : Nat} (h : lo + 1 + m ≤ 9) (d : PyData) (e3 : Ent) : stepAS [.dat d, .sd true (tupsN (Sn (lo + 1) m)), .dat (ni lo), e3] = some (.nx [.dat d, .sd true (tupsN (Sn lo (m + 1))), .dat (ni lo), e3]) := by
  have hp := pow_lim (m := m) (by omega)
  have hl := Sn_len m (lo + 1)
  refine setSd_eq (d := tupsN (Sn lo (m + 1))) ?_
  have e1 : lstI (lcL (seqI (getD 1)) (setN 3) yesT (bin2 gAdd (tupF (consA (getD 2) nilA)) (getD 3)) [3]) [.dat d, .sd true (tupsN (Sn (lo + 1) m)), .dat (ni lo), e3] = some (.list (((Sn (lo + 1) m).map fun s => lo :: s).map tupN)) := by
    rw [List.map_map]
    refine lst_map (l := Sn (lo + 1) m) (g := tupN) (m := tupN ∘ fun s => lo :: s) (seq_lst rfl) (by rw [hl]; show 2 ^ m < 1000000; omega) fun s hs => ?_
    have h9 := len_sub (m := List.range (lo + 1 + m)) (l := s) (((Sn_mem m (lo + 1) s).mp hs).1.imp fun {a b} h e => by omega) fun x hx => List.mem_range.mpr (((Sn_mem m (lo + 1) s).mp hs).2 x hx).2
    rw [List.length_range] at h9
    exact step_mapG rfl (bin2_eq (x := .tuple [ni lo]) (y := tupN s) (tupF_eq (consA_eq rfl rfl) (show 1 < 1000000 by decide)) rfl (gAdd_tup (by rw [List.length_map]; show [ni lo].length + s.length < 1000000; simp only [List.length_singleton]; omega)))
  have e2 : sliceF (onlyL (getS 1)) (someP (cD (.int 1))) noP [.dat d, .sd true (tupsN (Sn (lo + 1) m)), .dat (ni lo), e3] = some (.list (((Sn (lo + 1) m).drop 1).map tupN)) := by
    show some (PyData.list (cutD ((Sn (lo + 1) m).map tupN) (some 1) none)) = _
    rw [cutD1, List.map_drop]
  refine (addL_eq (addL_eq (xs := [tupN []]) (lstF_eq (consA_eq (tupF_eq rfl (show 0 < 1000000 by decide)) rfl) (show 1 < 1000000 by decide)) e1 (by rw [List.length_map, List.length_map, hl]; show 1 + 2 ^ m < 1000000; omega)) e2 ?_).trans ?_
  · rw [List.length_append, List.length_map, List.length_map, List.length_map, List.length_drop, hl]
    show 1 + 2 ^ m + (2 ^ m - 1) < 1000000
    omega
  · show some (PyData.list _) = some (PyData.list ((([] :: (Sn (lo + 1) m).map fun s => lo :: s) ++ (Sn (lo + 1) m).drop 1).map tupN))
    rw [List.map_append, List.map_cons]
    rfl
theorem runAS (d : PyData) : ∀ (lo m : Nat) (e2 e3 : Ent), lo + m ≤ 9 → ∃ e2', runFor (setN 2) stepAS ((List.range lo).reverse.map ni) [.dat d, .sd true (tupsN (Sn lo m)), e2, e3] = some (.nx [.dat d, .sd true (tupsN (Sn 0 (lo + m))), e2', e3])
  | 0, m, e2, e3, _ => ⟨e2, by rw [Nat.zero_add]; rfl⟩
  | lo + 1, m, e2, e3, h => by
    obtain ⟨e2', e⟩ := runAS d lo (m + 1) (.dat (ni lo)) e3 (by omega)
    refine ⟨e2', ?_⟩
    rw [List.range_succ, List.reverse_append, show lo + 1 + m = lo + (m + 1) by omega]
    show (stepAS [.dat d, .sd true (tupsN (Sn (lo + 1) m)), .dat (ni lo), e3]).bind _ = _
    rw [stepAS_eq (by omega) d e3]
    exact e
theorem all_setsS_eq (t : Tour n b) : semS_all_sets [tabD n b] = some (.tuple ((Sn 0 n).map tupN)) := by
  obtain ⟨e2', e⟩ := runAS (tabD n b) n 0 .na .na (by have := t.nine; omega)
  have er : revI (callA lenD (consA (getD 0) nilA)) [.dat (tabD n b), .sd true (tupsN [[]]), .na, .na] = some ((List.range n).reverse.map ni) := by
    unfold revI
    rw [call1 (x := tabD n b) rfl len_tab]
    show (if okR (n : Int) = true then some (rngD 0 (n : Int).toNat).reverse else none) = _
    rw [if_pos (okR_nat (by have := t.nine; omega)), Int.toNat_natCast, rngD0, List.map_reverse]
  have e0 : sSetSd 1 (lstI (limA (consA (tupF nilA) nilA))) (startD 4 [tabD n b]) = some (.nx [.dat (tabD n b), .sd true (tupsN [[]]), .na, .na]) := setSd_eq (lstF_eq (consA_eq (tupF_eq rfl (show 0 < 1000000 by decide)) rfl) (show 1 < 1000000 by decide))
  show ((zS_all_sets (startD 4 [tabD n b])).bind _) = _
  unfold zS_all_sets sSeqS
  rw [e0]
  show ((Option.bind (sFor _ _ _ _) _).bind _) = _
  rw [for_yes er e]
  rfl
/-! the signs as numbers -/
def aI (b : Nat → Nat → Bool) (x y : Nat) : Int := if x = y then 0 else if x < y then (if b x y = true then 1 else -1) else (if b y x = true then -1 else 1)
def kO (T : List Nat) : List Key := T.map fun t : Nat => .inl (t : Int)
theorem kO_keys (T : List Nat) : keysOf (T.map ni) = some (kO T) := by
  have := keysOf_kD (kO T)
  rwa [show (kO T).map kD = T.map ni by unfold kO; rw [List.map_map]; rfl] at this
theorem kO_inj {S T : List Nat} (h : kO S = kO T) : S = T := by
  unfold kO at h
  exact (List.map_inj_right fun a b e => by injection e with e; omega).mp h
/-! one Pfaffian from smaller ones -/
theorem datC_eq {f : DF} {ρ : Dn} {kds : List (List Key × PyData)} (e : f ρ = some (dctD kds)) (h : kds ≠ []) : datC true f ρ = some (.inl kds) := by
  unfold datC
  rw [e]
  show (if (kds.map fun p => (kT p.1, p.2)).isEmpty = true then none else if true = true then (unT (kds.map fun p => (kT p.1, p.2))).map Sum.inl else _) = _
  rw [if_neg (by cases kds with | nil => exact absurd rfl h | cons p r => simp), if_pos rfl, unT_kT]
  rfl
theorem stK_eq {f : DF} {ρ : Dn} {T : List Nat} (e : f ρ = some (tupN T)) : stK f ρ = some (.inr (kO T)) := by
  unfold stK
  rw [e]
  show (keysOf (T.map ni)).map _ = _
  rw [kO_keys]
  rfl
theorem dgetO_eq {gd : Dn → Option DV} {gk : Dn → Option KeyD} {ρ : Dn} {kds : List (List Key × PyData)} {ks : List Key} {d : PyData} (e1 : gd ρ = some (.inl kds)) (e2 : gk ρ = some (.inr ks)) (e3 : valD kds ks = some d) : dgetF gd gk ρ = some d := by
  unfold dgetF
  rw [e1, e2]
  exact e3
theorem drop1_eq (i : Nat) (T : List Nat) : T.take i ++ T.drop (i + 1) = T.eraseIdx i := (List.eraseIdx_eq_take_drop_succ T i).symm
/-- the key of what is left of T without its item i -/
theorem key_er {q k : Nat} {T : List Nat} {ρ : Dn} {i : Nat} (e1 : getT q ρ = some (tupN T)) (e2 : getD k ρ = some (ni i)) (h : T.length ≤ 9) : stK (bin2 gAdd (sliceF (getT q) noP (someP (getD k))) (sliceF (getT q) (someP (bin2 gAdd (getD k) (cD (.int 1)))) noP)) ρ = some (.inr (kO (T.eraseIdx i))) := by
  refine stK_eq ?_
  have a1 : sliceF (getT q) noP (someP (getD k)) ρ = some (tupN (T.take i)) := by
    show (getT q ρ).bind _ = _
    rw [e1]
    show ((getD k ρ).bind _).bind _ = _
    rw [e2]
    show some (PyData.tuple (cutD (T.map ni) none (some (i : Int)))) = _
    rw [cut_to, ← List.map_take]
    rfl
  have a2 : sliceF (getT q) (someP (bin2 gAdd (getD k) (cD (.int 1)))) noP ρ = some (tupN (T.drop (i + 1))) := by
    show (getT q ρ).bind _ = _
    rw [e1]
    show (((getD k ρ).bind _).bind _).bind _ = _
    rw [e2]
    show some (PyData.tuple (cutD (T.map ni) (some ((i + 1 : Nat) : Int)) none)) = _
    rw [cut_from, ← List.map_drop]
    rfl
  refine bin2_eq a1 a2 ((gAdd_tup (by rw [List.length_map, List.length_map, List.length_take, List.length_drop]; show _ < 1000000; omega)).trans ?_)
  rw [← List.map_append, drop1_eq]
  rfl
end
end DS
set_option maxHeartbeats 4000000
namespace DS
open PySem PySem.Spec PyProof.Rows L2
section
variable {n : Nat} {b : Nat → Nat → Bool}
theorem sortLenT_sets (ss : List (List Nat)) {f : DF} {ρ : Dn} (e : f ρ = some (.tuple (ss.map tupN))) : sortLenTF f ρ = some (.list ((ss.mergeSort leLen).map tupN)) := by
  have := sortLen_sets ss (f := cD (.list (ss.map tupN))) (ρ := ρ) rfl
  unfold sortLenTF
  rw [e]
  exact this
theorem len_tupN {S : List Nat} (h : S.length ≤ 9) : lenD [tupN S] = some (ni S.length) := by
  show some (PyData.int ((S.map ni).length : Nat)) = _
  rw [List.length_map]
  rfl
theorem er_mem {S : List Nat} (h : S ∈ Sn 0 n) (i : Nat) : S.eraseIdx i ∈ Sn 0 n := by
  obtain ⟨h1, h2⟩ := (Sn_mem n 0 S).mp h
  exact (Sn_mem n 0 _).mpr ⟨h1.sublist (List.eraseIdx_sublist S i), fun x hx => h2 x (List.mem_of_mem_eraseIdx hx)⟩
/-- what the dict of the Pfaffians says -/
structure Ev (n : Nat) (b : Nat → Nat → Bool) (kds : List (List Key × PyData)) : Prop where
  ne : kds ≠ []
  at_ : ∀ S ∈ Sn 0 n, S.length % 2 = 0 → valD kds (kO S) = some (.int (pf (aI b) (S.length / 2) S))
end
end DS
set_option maxHeartbeats 4000000
namespace DS
open PySem PySem.Spec PyProof.Rows L2
/-! ### chains of any value -/
section
variable {n : Nat} {b : Nat → Nat → Bool} {xs : List Nat} {i : Nat}
def chB (b : Nat → Nat → Bool) : List Nat → Bool
  | [] => true
  | x :: xs => xs.all (b x) && chB b xs
theorem chB_iff : ∀ {xs : List Nat}, chB b xs = true ↔ xs.Pairwise fun x y => b x y = true
  | [] => by simp [chB]
  | x :: xs => by
    rw [chB, Bool.and_eq_true, chB_iff, List.pairwise_cons, List.all_eq_true]
theorem chB_nd (t : Tour n b) (h : chB b xs = true) : xs.Nodup := (chB_iff.mp h).imp fun {x y} q e => by
  rw [e, t.diag] at q
  cases q
theorem chB_len (t : Tour n b) (hx : ∀ x ∈ xs, x < n) (h : chB b xs = true) : xs.length ≤ n := by
  have := len_sub (m := List.range n) (chB_nd t h) fun x k => List.mem_range.mpr (hx x k)
  rwa [List.length_range] at this
/-- no alternative beats all of them -/
def fullB (n : Nat) (b : Nat → Nat → Bool) (xs : List Nat) : Bool := !(List.range n).any fun i => xs.all (b i)
@[simp] theorem e_sliceN {lo hi : Option Int} : sliceD (tupN xs) lo hi = some (.tuple (cutD (xs.map ni) lo hi)) := rfl
@[simp] theorem e_any {α : Type} {p : α → Bool} {l : List α} : anyD [.list (l.map fun x => .bool (p x))] = some (.bool (l.any p)) := by
  show (boolsD (l.map fun x => .bool (p x))).map _ = _
  rw [show (l.map fun x => PyData.bool (p x)) = (l.map p).map .bool by rw [List.map_map]; rfl, boolsD_map]
  simp [List.any_map]
theorem beats_allN (t : Tour n b) (hi : i < n) (hl : ∀ j ∈ xs, j < n) (h9 : xs.length < 1000000) : sem_beats_all [tabD n b, ni i, tupN xs] = some (.bool (xs.all (b i))) := beats_all_eq t hi hl h9
theorem is_full_eq (t : Tour n b) (hx : ∀ x ∈ xs, x < n) (hl : xs.length < 1000000) : sem_is_full [tabD n b, tupN xs] = some (.bool (fullB n b xs)) := by
  have h9 := t.nine
  obtain ⟨J, hJ⟩ := guard (P := fun i => i < n) fun i h => beats_allN t (i := i) h hx hl
  simp [sem_is_full, z_is_full, hJ, show n < 1000000 by omega, show n ≤ 1000000 by omega]
  simp [fullB]
end
end DS
set_option maxHeartbeats 4000000
namespace DS
open PySem PySem.Spec PyProof.Rows L2
/-! ### own errors without a field -/
/-- what must be known of such a class to make one -/
structure Own0 (K : PySem.W.Frag) (C : Addr) : Prop where
  base : ∃ (B n i : String) (l : List Value), ExcBaseFacts B n i l ∧ PySem.W.excIn K C l n = true
  kp : PySem.W.keepIn K (.ref C) = true
  ex : PySem.W.subIn K (.ref C) (.type "BaseException") = some true
  ty : PySem.W.typeIn K (.ref C) = some (.type "type")
section
variable {X : Cx} {S : Fr} {W : WX} {x : Str} {p pos pos' : Pos} {C : Addr}
end
end DS
set_option maxHeartbeats 4000000
namespace DS
open PySem PySem.Spec PyProof.Rows L2
/-! ### orders of any value -/
section
variable {n : Nat} {b : Nat → Nat → Bool} {xs : List Nat} {i : Nat} {ρ : Dn}
/-- a pure loop by its index, alone -/
theorem for_run {α : Type} {fi : Dn → Option (List PyData)} {g : PyData → Dn → Option Dn} {f : SF} {l : List α} {h : α → PyData} (e : fi ρ = some (l.map h)) (I : Nat → Dn → Prop) (h0 : I 0 ρ)
    (hs : ∀ i (hi : i < l.length) ρ, I i ρ → ∃ ρ2, I (i + 1) ρ2 ∧ (g (h l[i]) ρ).bind f = some (.nx ρ2)) : ∃ ρ', sFor fi g f ρ = some (.nx ρ') ∧ I l.length ρ' := by
  have key : ∀ (l : List α) (J : Nat → Dn → Prop) (ρ : Dn), J 0 ρ → (∀ i (hi : i < l.length) ρ, J i ρ → ∃ ρ2, J (i + 1) ρ2 ∧ (g (h l[i]) ρ).bind f = some (.nx ρ2)) → ∃ ρ', runFor g f (l.map h) ρ = some (.nx ρ') ∧ J l.length ρ' := by
    intro l
    induction l with
    | nil => exact fun J ρ j0 _ => ⟨ρ, rfl, j0⟩
    | cons x l ih =>
      intro J ρ j0 hs
      obtain ⟨ρ2, j1, e1⟩ := hs 0 (by simp) ρ j0
      obtain ⟨ρ', e2, j2⟩ := ih (fun i => J (i + 1)) ρ2 j1 fun i hi ρ hj => by
        have := hs (i + 1) (by simpa using hi) ρ hj
        simpa using this
      refine ⟨ρ', ?_, j2⟩
      obtain ⟨ρ1, e3, e4⟩ := Option.bind_eq_some_iff.mp e1
      show (g (h x) ρ).bind _ = _
      have e3 : g (h x) ρ = some ρ1 := e3
      rw [e3]
      show (f ρ1).bind _ = _
      rw [e4]
      exact e2
  obtain ⟨ρ', e1, j⟩ := key l I ρ h0 hs
  refine ⟨ρ', ?_, j⟩
  show (fi ρ).bind _ = _
  rw [e]
  exact e1
end
end DS
set_option maxHeartbeats 4000000
/-! the counts of orders, as the program finds them -/
namespace DS
open PySem PySem.Spec PyProof.Rows L2
section
variable {n : Nat} {b : Nat → Nat → Bool}
theorem set_vec {a : Nat → Nat} {p c : Nat} (hp : p < n) : ((List.range n).map fun w => ni (a w)).set p (.int ((a p : Int) + (c : Int))) = (List.range n).map fun w => ni (a w + if p = w then c else 0) := by
  refine List.ext_getElem (by simp) fun i h1 h2 => ?_
  rw [List.getElem_set]
  simp only [List.getElem_map, List.getElem_range]
  by_cases h : p = i
  · subst h
    rw [if_pos rfl, if_pos rfl]
    show PyData.int _ = PyData.int _
    congr 1
  · rw [if_neg h, if_neg h, Nat.add_zero]
theorem augI_step {i p c : Nat} {a : Nat → Nat} {fb fc : DF} {ρ : Dn} (e1 : getO i ρ = some ((List.range n).map fun w => ni (a w))) (e2 : fb ρ = some (ni p)) (hp : p < n) (e3 : fc ρ = some (ni c)) :
    sAugI i fb fc ρ = some (.nx (ρ.set i (.own ((List.range n).map fun w => ni (a w + if p = w then c else 0))))) := by
  rw [e_sAugI, e1, Option.bind_some, e2, Option.bind_some, natI_ni, Option.bind_some, List.getElem?_map, List.getElem?_range hp]
  show (fc ρ).bind _ = _
  rw [e3, ← set_vec hp]
  rfl
theorem zeros_eq (t : Tour n b) (ρ : Dn) : repL (consA (cD (.int 0)) nilA) (callA lenD (consA (getD 0) nilA)) (.dat (tabD n b) :: ρ) = some ((List.range n).map fun w => ni ((fun _ => 0) w)) := by
  have h9 := t.nine
  have : (List.range n).map (fun w => ni ((fun _ => 0) w)) = List.replicate n (.int 0) := by
    rw [show (fun w : Nat => ni ((fun _ => 0) w)) = fun _ => PyData.int 0 from rfl, List.map_const', List.length_range]
  rw [this]
  show (callA lenD (consA (getD 0) nilA) (.dat (tabD n b) :: ρ)).bind (fun e => (toI e).bind fun k => if okR k && decide (1 * k.toNat < lim) && decide (1 < lim) then some (List.replicate k.toNat [PyData.int 0]).flatten else none) = _
  rw [call1 (x := tabD n b) rfl len_tab]
  show (if okR (n : Int) && decide (1 * (n : Int).toNat < lim) && decide (1 < lim) then some (List.replicate (n : Int).toNat [PyData.int 0]).flatten else none) = _
  rw [if_pos]
  · congr 1
    rw [Int.toNat_natCast]
    clear this h9 t
    induction n with
    | zero => rfl
    | succ n ih => rw [List.replicate_succ, List.flatten_cons, ih, List.replicate_succ]; rfl
  · simp [okR, lim]
    omega
theorem putO_step {i p c : Nat} {a : Nat → Nat} {fb fc : DF} {ρ : Dn} (e1 : getO i ρ = some ((List.range n).map fun w => ni (a w))) (e2 : fb ρ = some (ni p)) (hp : p < n) (e3 : fc ρ = some (ni c)) :
    sPutO i fb fc ρ = some (.nx (ρ.set i (.own ((List.range n).map fun w => ni (if p = w then c else a w))))) := by
  unfold sPutO
  rw [e3, Option.bind_some, e1, Option.bind_some, e2, Option.bind_some]
  show (ixN ((List.range n).map fun w => ni (a w)).length (p : Int)).bind _ = _
  rw [ixN_nat (by simpa using hp), Option.bind_some]
  congr 4
  refine List.ext_getElem (by simp) fun k h1 h2 => ?_
  rw [List.getElem_set]
  simp only [List.getElem_map, List.getElem_range]
  by_cases h : p = k
  · subst h
    rw [if_pos rfl, if_pos rfl]
  · rw [if_neg h, if_neg h]
def sqV (n : Nat) (b : Nat → Nat → Bool) (S : List Nat) : List Nat := (List.range n).map (sqC b S)
theorem sqV_len {S : List Nat} : (sqV n b S).length = n := by simp [sqV]
theorem sqV_at {S : List Nat} {v : Nat} (h : v < n) : (sqV n b S).getD v 0 = sqC b S v := by
  rw [List.getD_eq_getElem?_getD, sqV, List.getElem?_map, List.getElem?_range h]
  rfl
theorem erase_ix : ∀ {S : List Nat}, S.Nodup → ∀ {i : Nat} (h : i < S.length), S.erase S[i] = S.eraseIdx i
  | x :: S, hn, 0, _ => by simp
  | x :: S, hn, i + 1, h => by
    obtain ⟨h1, h2⟩ := List.nodup_cons.mp hn
    have ne : ¬ (x == S[i]'(by simpa using h)) = true := fun e => h1 (by rw [beq_iff_eq.mp e]; exact List.getElem_mem _)
    rw [List.getElem_cons_succ, List.erase_cons, if_neg ne, List.eraseIdx_cons_succ, erase_ix h2]
/-- what is added for the last one at index i -/
def sqA (n : Nat) (b : Nat → Nat → Bool) (S : List Nat) (i w : Nat) : Nat := ((List.range n).map fun v => if (if b (S.getD i 0) v = true then S.getD i 0 else v) = w then sqC b (S.eraseIdx i) v else 0).sum
theorem sqC_idx {S : List Nat} (hn : S.Nodup) (hl : 2 ≤ S.length) (hS : ∀ x ∈ S, x < n) (w : Nat) : sqC b S w = ((List.range S.length).map fun i => sqA n b S i w).sum := by
  rw [sqC_rec hn hl hS]
  congr 1
  refine List.ext_getElem (by simp) fun i h1 h2 => ?_
  simp only [List.getElem_map, List.getElem_range]
  have hi : i < S.length := by simpa using h1
  have eg : S.getD i 0 = S[i] := by rw [List.getD_eq_getElem?_getD, List.getElem?_eq_getElem hi]; rfl
  show _ = ((List.range n).map fun v => _).sum
  rw [eg, ← erase_ix hn hi]
abbrev addIn : SF := sAugI 3 (ifF (tstF (callU 3 sem_beats (consA (getD 0) (consA (getD 5) (consA (getD 6) nilA))))) (getD 5) (getD 6)) (getD 7)
theorem counts_within_eq (t : Tour n b) {S : List Nat} (hS : S ∈ Sn 0 n) (hl : 2 ≤ S.length) {kds : List (List Key × PyData)} (h0 : kds ≠ []) (hk : ∀ i, i < S.length → valD kds (kO (S.eraseIdx i)) = some (tupN (sqV n b (S.eraseIdx i)))) :
    semM_counts_within [tabD n b, tupN S, dctD kds] = some (tupN (sqV n b S)) := by
  have low := set_low hS
  have nd := set_nd hS
  have h9 : S.length ≤ 9 := by have := set_len hS; have := t.nine; omega
  have go : zM_counts_within (startM (fun i => decide (i = 1)) 8 [tabD n b, tupN S, dctD kds]) = some (.rt (tupN (sqV n b S))) := by
    rw [show startM (fun i => decide (i = 1)) 8 [tabD n b, tupN S, dctD kds] = [.dat (tabD n b), .sd false (tupN S), .dat (dctD kds), .na, .na, .na, .na, .na] from rfl]
    unfold zM_counts_within
    refine seq_nx (ρ' := [.dat (tabD n b), .sd false (tupN S), .dat (dctD kds), .own ((List.range n).map fun w => ni ((fun _ => 0) w)), .na, .na, .na, .na]) ?_ ?_
    · show (repL _ _ _).bind _ = _
      rw [zeros_eq t]
      rfl
    refine seq_nx (if_eq (b := false) (tst_eq (bin2_eq (call1 (x := tupN S) rfl (len_tupN h9)) rfl ((gEq_int _ _).trans ?_))) rfl) ?_
    · congr 2
      exact beq_eq_false_iff_ne.mpr (by omega)
    refine seq_idx (l := List.range S.length) (h := fun i => .tuple [ni i, ni (S.getD i 0)]) ?_ (fun i ρ => ∃ e4 e5 e6 e7, ρ = [.dat (tabD n b), .sd false (tupN S), .dat (dctD kds), .own ((List.range n).map fun w => ni (((List.range i).map fun i => sqA n b S i w).sum)), e4, e5, e6, e7]) ⟨_, _, _, _, rfl⟩ (fun i hi ρ hI => ?_) fun ρ hI => ?_
    · show some (enumD (S.map ni)) = _
      rw [enum_nats]
    · obtain ⟨e4, e5, e6, e7, rfl⟩ := hI
      rw [List.length_range] at hi
      rw [List.getElem_range]
      have hy := low (S.getD i 0) (getDM hi)
      generalize hyy : S.getD i 0 = y at hy ⊢
      have it : enumI (dgetF (datC true (getD 2)) (stK (bin2 gAdd (sliceF (getT 1) noP (someP (getD 4))) (sliceF (getT 1) (someP (bin2 gAdd (getD 4) (cD (.int 1)))) noP)))) [.dat (tabD n b), .sd false (tupN S), .dat (dctD kds), .own ((List.range n).map fun w => ni (((List.range i).map fun i => sqA n b S i w).sum)), .dat (ni i), .dat (ni y), e6, e7] = some ((List.range n).map fun v => .tuple [ni v, ni (sqC b (S.eraseIdx i) v)]) := by
        show (dgetF _ _ _).bind _ = _
        rw [dgetO_eq (datC_eq rfl h0) (key_er (T := S) (i := i) rfl rfl h9) (hk i hi)]
        show some (enumD ((sqV n b (S.eraseIdx i)).map ni)) = _
        rw [enum_nats, sqV_len]
        congr 1
        refine List.map_congr_left fun v hv => ?_
        rw [sqV_at (List.mem_range.mp hv)]
      obtain ⟨ρ', r1, q1, q2, r2⟩ := for_run (g := setT [6, 7]) (f := addIn) it (fun j ρ => ∃ e6 e7, ρ = [.dat (tabD n b), .sd false (tupN S), .dat (dctD kds), .own ((List.range n).map fun w => ni (((List.range i).map fun i => sqA n b S i w).sum + ((List.range j).map fun v => if (if b y v = true then y else v) = w then sqC b (S.eraseIdx i) v else 0).sum)), .dat (ni i), .dat (ni y), e6, e7]) ⟨_, _, rfl⟩ fun j hj ρ hJ => by
        obtain ⟨e6, e7, rfl⟩ := hJ
        rw [List.length_range] at hj
        rw [List.getElem_range]
        refine ⟨_, ⟨.dat (ni j), .dat (ni (sqC b (S.eraseIdx i) j)), rfl⟩, ?_⟩
        show addIn [.dat (tabD n b), .sd false (tupN S), .dat (dctD kds), .own _, .dat (ni i), .dat (ni y), .dat (ni j), .dat (ni (sqC b (S.eraseIdx i) j))] = _
        refine (augI_step (p := if b y j = true then y else j) rfl (ifF_eq (b := b y j) (tst_eq (callU_eq (n := 3) (ds := [tabD n b, ni y, ni j]) rfl rfl (beats_eq t hy hj))) ?_) (by split <;> assumption) (c := sqC b (S.eraseIdx i) j) rfl).trans ?_
        · by_cases h : b y j = true
          · rw [if_pos h, if_pos h]; rfl
          · rw [if_neg h, if_neg h]; rfl
        · congr 2
          show [_, _, _, Ent.own _, _, _, _, _] = [_, _, _, Ent.own _, _, _, _, _]
          congr 5
          refine List.map_congr_left fun w _ => ?_
          rw [List.range_succ, List.map_append, List.sum_append, ← Nat.add_assoc]
          simp
      refine ⟨ρ', ⟨.dat (ni i), .dat (ni y), q1, q2, ?_⟩, r1⟩
      rw [r2, List.length_range]
      congr 5
      refine List.map_congr_left fun w _ => ?_
      rw [List.range_succ, List.map_append, List.sum_append]
      simp [sqA, ← hyy]
    · obtain ⟨e4, e5, e6, e7, rfl⟩ := hI
      rw [List.length_range]
      refine ret_eq ?_
      show some (PyData.tuple ((List.range n).map fun w => ni (((List.range S.length).map fun i => sqA n b S i w).sum))) = _
      have : ((List.range n).map fun w => ni (((List.range S.length).map fun i => sqA n b S i w).sum)) = (sqV n b S).map ni := by
        rw [sqV, List.map_map]
        exact List.map_congr_left fun w _ => by
          show ni _ = ni (sqC b S w)
          rw [sqC_idx nd hl low]
      rw [this]
      rfl
  unfold semM_counts_within semM
  rw [go]
  rfl
theorem counts_one (t : Tour n b) {x : Nat} (hx : x < n) {D : PyData} : semM_counts_within [tabD n b, tupN [x], D] = some (tupN (sqV n b [x])) := by
  have go : zM_counts_within (startM (fun i => decide (i = 1)) 8 [tabD n b, tupN [x], D]) = some (.rt (tupN (sqV n b [x]))) := by
    rw [show startM (fun i => decide (i = 1)) 8 [tabD n b, tupN [x], D] = [.dat (tabD n b), .sd false (tupN [x]), .dat D, .na, .na, .na, .na, .na] from rfl]
    unfold zM_counts_within
    refine seq_nx (ρ' := [.dat (tabD n b), .sd false (tupN [x]), .dat D, .own ((List.range n).map fun w => ni ((fun _ => 0) w)), .na, .na, .na, .na]) ?_ ?_
    · show (repL _ _ _).bind _ = _
      rw [zeros_eq t]
      rfl
    refine seq_rt (if_eq (b := true) (tst_eq (bin2_eq (call1 (x := tupN [x]) rfl (len_tupN (by simp))) rfl rfl)) ?_)
    rw [if_pos rfl]
    have ps : sPutO 3 (bin2 ixD (getD 1) (cD (.int 0))) (cD (.int 1)) [.dat (tabD n b), .sd false (tupN [x]), .dat D, .own ((List.range n).map fun w => ni ((fun _ => 0) w)), .na, .na, .na, .na] = some (.nx [.dat (tabD n b), .sd false (tupN [x]), .dat D, .own ((sqV n b [x]).map ni), .na, .na, .na, .na]) := by
      have e := putO_step (n := n) (i := 3) (p := x) (a := fun _ => 0) (fb := bin2 ixD (getD 1) (cD (.int 0))) (fc := cD (.int 1)) (ρ := [.dat (tabD n b), .sd false (tupN [x]), .dat D, .own ((List.range n).map fun w => ni ((fun _ => 0) w)), .na, .na, .na, .na]) rfl rfl hx (c := 1) rfl
      refine e.trans ?_
      have : ((List.range n).map fun w => ni (if x = w then 1 else (fun _ => 0) w)) = (sqV n b [x]).map ni := by
        rw [sqV, List.map_map]
        exact List.map_congr_left fun w _ => by
          show _ = ni (sqC b [x] w)
          rw [sqC_one]
      rw [this]
      rfl
    refine seq_nx ps ?_
    exact ret_eq rfl
  unfold semM_counts_within semM
  rw [go]
  rfl
/-- what the dict of counts says -/
abbrev stepSq : SF := (sIf (tstF (bin2 (gI fun i j => .bool (decide (j < i))) (callA lenD (consA (getD 2) nilA)) (cD (.int 0)))) (sPutC 1 (stK (getT 2)) (lntT 1 (callU 3 semM_counts_within (consA (getD 0) (consA (getT 2) (consA (getD 1) nilA)))))) sNil)
theorem flat_vec (l : List Nat) : flatT (tupN l) = true := by
  show (l.map ni).all flatD = true
  rw [List.all_eq_true]
  intro d hd
  obtain ⟨x, _, rfl⟩ := List.mem_map.mp hd
  rfl
theorem sequence_counts_eq (t : Tour n b) : sem_sequence_counts [tabD n b] = some (tupN (sqV n b (List.range n))) := by
  have h9 := t.nine
  let L := (Sn 0 n).mergeSort leLen
  have pm : L.Perm (Sn 0 n) := List.mergeSort_perm _ _
  have up := leLen_sort (Sn 0 n)
  have hL : L.length ≤ 512 := by
    rw [pm.length_eq, Sn_len]
    exact pow_lim h9
  have e1 : sSetN 1 dctN (startD 3 [tabD n b]) = some (.nx [.dat (tabD n b), .dct [], .na]) := rfl
  have ef : seqI (sortLenTF (callU 1 semS_all_sets (consA (getD 0) nilA))) [.dat (tabD n b), .dct [], .na] = some (L.map tupN) := seq_lst (sortLenT_sets _ (callU_eq (ds := [tabD n b]) rfl rfl (all_setsS_eq t)))
  obtain ⟨ρ', r1, kds, e2, rfl, r3, r4⟩ := for_run (g := setS 2) (f := stepSq) ef (fun i ρ => ∃ (kds : List (List Key × PyData)) (e2 : Ent), ρ = [.dat (tabD n b), .dct kds, e2] ∧ kds.length ≤ i ∧ ∀ j (hj : j < L.length), j < i → 0 < L[j].length → valD kds (kO L[j]) = some (tupN (sqV n b L[j]))) ⟨[], .na, rfl, Nat.le_refl _, fun j _ z => absurd z (Nat.not_lt_zero j)⟩ fun i hi ρ hI => by
    obtain ⟨kds, e2, rfl, k1, k3⟩ := hI
    have hS : L[i] ∈ Sn 0 n := pm.mem_iff.mp (List.getElem_mem hi)
    have sl : (L[i]).length ≤ 9 := by have := set_len hS; omega
    have low := set_low hS
    show ∃ ρ2, _ ∧ stepSq [.dat (tabD n b), .dct kds, .sd false (tupN L[i])] = some (.nx ρ2)
    have c2 : tstF (bin2 (gI fun i j => .bool (decide (j < i))) (callA lenD (consA (getD 2) nilA)) (cD (.int 0))) [.dat (tabD n b), .dct kds, .sd false (tupN L[i])] = some (decide (0 < (L[i]).length)) := by
      refine tst_eq (bin2_eq (call1 (x := tupN L[i]) rfl (len_tupN sl)) rfl ?_)
      show some (PyData.bool (decide ((0 : Int) < ((L[i]).length : Nat)))) = _
      congr 2
      exact decide_eq_decide.mpr (by omega)
    by_cases q : 0 < (L[i]).length
    · have val : semM_counts_within [tabD n b, tupN L[i], dctD kds] = some (tupN (sqV n b L[i])) := by
        by_cases q1 : (L[i]).length = 1
        · obtain ⟨x, ex⟩ := List.length_eq_one_iff.mp q1
          rw [ex] at low ⊢
          exact counts_one t (low x List.mem_cons_self)
        · have found : ∀ k, k < (L[i]).length → ∃ p, ∃ hp : p < L.length, p < i ∧ L[p] = (L[i]).eraseIdx k := fun k hk => by
            have ln : ((L[i]).eraseIdx k).length = (L[i]).length - 1 := by rw [List.length_eraseIdx, if_pos hk]
            obtain ⟨p, hp, ep⟩ := List.getElem_of_mem (pm.mem_iff.mpr (er_mem hS k))
            refine ⟨p, hp, ?_, ep⟩
            apply Classical.byContradiction
            intro z
            have w2 : (L[p]).length = ((L[i]).eraseIdx k).length := congrArg List.length ep
            by_cases z2 : p = i
            · subst z2
              omega
            · have w1 : (L[i]).length ≤ (L[p]).length := List.pairwise_iff_getElem.mp up i p hi hp (by omega)
              omega
          have sub : ∀ k, k < (L[i]).length → valD kds (kO ((L[i]).eraseIdx k)) = some (tupN (sqV n b ((L[i]).eraseIdx k))) := fun k hk => by
            obtain ⟨p, hp, lt, ep⟩ := found k hk
            have := k3 p hp lt (by rw [ep, List.length_eraseIdx, if_pos hk]; omega)
            rw [ep] at this
            exact this
          have ne : kds ≠ [] := fun z => by
            have := sub 0 q
            rw [z] at this
            cases this
          exact counts_within_eq t hS (by omega) ne sub
      refine ⟨_, ⟨putD kds (kO L[i]) (tupN (sqV n b L[i])), .sd false (tupN L[i]), rfl, ?_, fun j hj lj pj => ?_⟩, ?_⟩
      · have : (putD kds (kO L[i]) (tupN (sqV n b L[i]))).length ≤ kds.length + 1 := by
          unfold putD
          split
          · rw [List.length_map]; omega
          · rw [List.length_append]; simp
        omega
      · rw [valD_put]
        by_cases z : kO L[j] = kO L[i]
        · rw [if_pos z, kO_inj z]
        · rw [if_neg z]
          refine k3 j hj ?_ pj
          by_cases w : j = i
          · subst w
            exact absurd rfl z
          · omega
      · refine if_eq (b := true) (c2.trans (by rw [decide_eq_true q])) ?_
        rw [if_pos rfl]
        show (lntT 1 _ _).bind _ = _
        have el : lntT 1 (callU 3 semM_counts_within (consA (getD 0) (consA (getT 2) (consA (getD 1) nilA)))) [.dat (tabD n b), .dct kds, .sd false (tupN L[i])] = some (tupN (sqV n b L[i])) := by
          show (callU 3 semM_counts_within (consA (getD 0) (consA (getT 2) (consA (getD 1) nilA))) [.dat (tabD n b), .dat (dctD kds), .sd false (tupN L[i])]).bind _ = _
          rw [show callU 3 semM_counts_within (consA (getD 0) (consA (getT 2) (consA (getD 1) nilA))) [.dat (tabD n b), .dat (dctD kds), .sd false (tupN L[i])] = some (tupN (sqV n b L[i])) from callU_eq (ds := [tabD n b, tupN L[i], dctD kds]) rfl rfl val]
          show (if flatT _ = true then _ else _) = _
          rw [if_pos (flat_vec _)]
        rw [el]
        show (stK _ _).bind _ = _
        rw [stK_eq (T := L[i]) rfl]
        show (putC (.inl kds) (.inr (kO L[i])) _).bind _ = _
        rw [e_putT, if_pos (by omega)]
        rfl
    · refine ⟨_, ⟨kds, .sd false (tupN L[i]), rfl, by omega, fun j hj lj pj => ?_⟩, if_eq (b := false) (c2.trans (by rw [decide_eq_false q])) rfl⟩
      refine k3 j hj ?_ pj
      by_cases w : j = i
      · subst w
        exact absurd pj q
      · omega
  have fin : z_sequence_counts (startD 3 [tabD n b]) = some (.rt (tupN (sqV n b (List.range n)))) := by
    refine seq_nx e1 (seq_nx r1 (ret_eq ?_))
    have full : (List.range n) ∈ Sn 0 n := full_mem
    obtain ⟨p, hp, ep⟩ := List.getElem_of_mem (pm.mem_iff.mpr full)
    have := r4 p hp hp (by rw [ep, List.length_range]; exact t.one)
    rw [ep] at this
    refine dgetO_eq (kds := kds) (ks := kO (List.range n)) rfl (stK_eq ?_) this
    show (rng1I (callA lenD (consA (getD 0) nilA)) _).map _ = _
    rw [rng1_nat (m := n) (call1 (x := tabD n b) rfl len_tab) (by omega)]
    rfl
  exact sem_of fin
/-! ### careful ones -/
theorem number_eq {k : Nat} (h : k ≤ 9) : sem_number_of_orders [ni k] = some (ni (fc k)) := by
  match k, h with
  | 0, _ => kernel_rfl
  | 1, _ => kernel_rfl
  | 2, _ => kernel_rfl
  | 3, _ => kernel_rfl
  | 4, _ => kernel_rfl
  | 5, _ => kernel_rfl
  | 6, _ => kernel_rfl
  | 7, _ => kernel_rfl
  | 8, _ => kernel_rfl
  | 9, _ => kernel_rfl
  | k + 10, h => omega
abbrev bodyIc : SF := (sSeq (sSet 7 (callA toTup (consA (lstI (lcL (seqI (getD 3)) (setN 8) (tstF (callU 3 sem_beats (consA (getD 0) (consA (getD 8) (consA (getD 6) nilA))))) (getD 8) [8])) nilA)))
  (sIf (tstF (bin2 gEq (callA lenD (consA (getD 7) nilA)) (cD (.int 0)))) (sAugI 1 (getD 6) (getD 5)) (sApp 2 (tupF (consA (getD 7) (consA (getD 5) nilA))))))
abbrev bodyCc : SF := (sSeq (sPopU 3 4 2)
  (sSeq (sSet 5 (bin2 (gIC cDiv fun i j => .int (i / j)) (getD 4) (callA lenD (consA (getD 3) nilA))))
  (sFor (seqI (getD 3)) (setN 6) bodyIc)))
abbrev vecE (n : Nat) (a : Nat → Nat) : Ent := .own ((List.range n).map fun w => ni (a w))
abbrev stE (st : List (List Nat × Nat)) : Ent := .own (st.map fun p => .tuple [tupN p.1, ni p.2])
def shT (b : Nat → Nat → Bool) (st : List (List Nat × Nat)) (w : Nat) : Nat := (st.map fun p => shC b p.1 p.2 w).sum
def wkT (st : List (List Nat × Nat)) : Nat := (st.map fun p => wkB p.1.length).sum
theorem wkT_len : ∀ {st : List (List Nat × Nat)}, (∀ p ∈ st, p.1 ≠ []) → st.length ≤ wkT st
  | [], _ => Nat.le_refl _
  | p :: st, h => by
    have h1 := wkT_len (st := st) fun q hq => h q (List.mem_cons_of_mem _ hq)
    have h2 : 0 < wkB p.1.length := by
      obtain ⟨a, ha⟩ : ∃ a, p.1.length = a + 1 := ⟨p.1.length - 1, by have := List.length_pos_iff.mpr (h p List.mem_cons_self); omega⟩
      rw [ha, wkB]
      omega
    show st.length + 1 ≤ (wkB p.1.length :: st.map fun p => wkB p.1.length).sum
    rw [List.sum_cons]
    exact Nat.le_trans (Nat.add_le_add_right h1 1) (by show wkT st + 1 ≤ wkB p.1.length + wkT st; omega)
theorem wkT_app (s u : List (List Nat × Nat)) : wkT (s ++ u) = wkT s + wkT u := by simp [wkT]
theorem shT_app {b : Nat → Nat → Bool} (s u : List (List Nat × Nat)) (w : Nat) : shT b (s ++ u) w = shT b s w + shT b u w := by simp [shT]
structure StOk (n : Nat) (st : List (List Nat × Nat)) : Prop where
  ne : ∀ p ∈ st, p.1 ≠ []
  low : ∀ p ∈ st, ∀ x ∈ p.1, x < n
  len : ∀ p ∈ st, p.1.length ≤ 9
theorem inner_cc (t : Tour n b) {A : List Nat} {e : Nat} (hA : ∀ x ∈ A, x < n) (h9 : A.length ≤ 9) {D4 : PyData} : ∀ (l : List Nat) (a : Nat → Nat) (st : List (List Nat × Nat)) (e6 e7 e8 : Ent), (∀ x ∈ l, x ∈ A) → StOk n st → st.length + l.length < 1000000 →
    ∃ a' st' e6' e7' e8', runFor (setN 6) bodyIc (l.map ni) [.dat (tabD n b), vecE n a, stE st, .dat (tupN A), .dat D4, .dat (ni e), e6, e7, e8] = some (.nx [.dat (tabD n b), vecE n a', stE st', .dat (tupN A), .dat D4, .dat (ni e), e6', e7', e8']) ∧
      StOk n st' ∧ wkT st' ≤ wkT st + l.length * wkB (A.length - 1) ∧ ∀ w, a' w + shT b st' w = a w + shT b st w + (l.map fun y => carC b 9 (A.filter fun z => b z y) y e w).sum
  | [], a, st, e6, e7, e8, _, ok, _ => ⟨a, st, e6, e7, e8, rfl, ok, by simp, fun w => by simp⟩
  | y :: l, a, st, e6, e7, e8, hl, ok, hb => by
    have hy := hA y (hl y List.mem_cons_self)
    have ir := t.diag
    have l1 := able_len ir (hl y List.mem_cons_self)
    have e7' : callA toTup (consA (lstI (lcL (seqI (getD 3)) (setN 8) (tstF (callU 3 sem_beats (consA (getD 0) (consA (getD 8) (consA (getD 6) nilA))))) (getD 8) [8])) nilA) [.dat (tabD n b), vecE n a, stE st, .dat (tupN A), .dat D4, .dat (ni e), .dat (ni y), e7, e8] = some (tupN (A.filter fun z => b z y)) :=
      tup_sel (l := A) (g := ni) (p := fun z => b z y) (m := ni) rfl (by show A.length < 1000000; omega) fun z hz => step_ifG (ρ1 := [.dat (tabD n b), vecE n a, stE st, .dat (tupN A), .dat D4, .dat (ni e), .dat (ni y), e7, .dat (ni z)]) rfl (tst_eq (callU_eq (n := 3) (ds := [tabD n b, ni z, ni y]) rfl rfl (beats_eq t (hA z hz) hy))) fun _ => rfl
    have s1 : sSet 7 (callA toTup (consA (lstI (lcL (seqI (getD 3)) (setN 8) (tstF (callU 3 sem_beats (consA (getD 0) (consA (getD 8) (consA (getD 6) nilA))))) (getD 8) [8])) nilA)) [.dat (tabD n b), vecE n a, stE st, .dat (tupN A), .dat D4, .dat (ni e), .dat (ni y), e7, e8] = some (.nx [.dat (tabD n b), vecE n a, stE st, .dat (tupN A), .dat D4, .dat (ni e), .dat (ni y), .dat (tupN (A.filter fun z => b z y)), e8]) := set_eq e7'
    have c1 : tstF (bin2 gEq (callA lenD (consA (getD 7) nilA)) (cD (.int 0))) [.dat (tabD n b), vecE n a, stE st, .dat (tupN A), .dat D4, .dat (ni e), .dat (ni y), .dat (tupN (A.filter fun z => b z y)), e8] = some (decide (A.filter (fun z => b z y) = [])) := by
      refine tst_eq (bin2_eq (call1 (x := tupN (A.filter fun z => b z y)) rfl (len_tupN (by omega))) rfl ((gEq_int _ _).trans ?_))
      congr 2
      by_cases h : A.filter (fun z => b z y) = []
      · rw [decide_eq_true h, h]; rfl
      · rw [decide_eq_false h]
        have := List.length_pos_iff.mpr h
        exact beq_eq_false_iff_ne.mpr (by omega)
    by_cases h : A.filter (fun z => b z y) = []
    · obtain ⟨a', st', e6', e7', e8', r, ok', wk, sm⟩ := inner_cc t hA h9 (D4 := D4) (e := e) l (fun w => a w + if y = w then e else 0) st (.dat (ni y)) (.dat (tupN (A.filter fun z => b z y))) e8 (fun x hx => hl x (List.mem_cons_of_mem _ hx)) ok (by rw [List.length_cons] at hb; omega)
      refine ⟨a', st', e6', e7', e8', ?_, ok', Nat.le_trans wk (Nat.add_le_add_left (Nat.mul_le_mul_right _ (Nat.le_succ _)) _), fun w => ?_⟩
      · show (bodyIc [.dat (tabD n b), vecE n a, stE st, .dat (tupN A), .dat D4, .dat (ni e), .dat (ni y), e7, e8]).bind _ = _
        rw [show bodyIc [.dat (tabD n b), vecE n a, stE st, .dat (tupN A), .dat D4, .dat (ni e), .dat (ni y), e7, e8] = some (.nx [.dat (tabD n b), vecE n (fun w => a w + if y = w then e else 0), stE st, .dat (tupN A), .dat D4, .dat (ni e), .dat (ni y), .dat (tupN (A.filter fun z => b z y)), e8]) from
          seq_nx s1 (if_eq c1 (by rw [decide_eq_true h, if_pos rfl]; exact augI_step rfl rfl hy rfl))]
        exact r
      · rw [sm w, List.map_cons, List.sum_cons, h]
        have : carC b 9 [] y e w = if y = w then e else 0 := car_nil 9 y e w
        rw [this]
        omega
    · obtain ⟨a', st', e6', e7', e8', r, ok', wk, sm⟩ := inner_cc t hA h9 (D4 := D4) (e := e) l a (st ++ [(A.filter (fun z => b z y), e)]) (.dat (ni y)) (.dat (tupN (A.filter fun z => b z y))) e8 (fun x hx => hl x (List.mem_cons_of_mem _ hx))
        ⟨fun p hp => (List.mem_append.mp hp).elim (ok.ne p) fun hp => by rw [List.mem_singleton.mp hp]; exact h, fun p hp => (List.mem_append.mp hp).elim (ok.low p) fun hp => by rw [List.mem_singleton.mp hp]; exact fun x hx => hA x (List.mem_filter.mp hx).1, fun p hp => (List.mem_append.mp hp).elim (ok.len p) fun hp => by rw [List.mem_singleton.mp hp]; show (A.filter fun z => b z y).length ≤ 9; omega⟩
        (by rw [List.length_append, List.length_singleton]; rw [List.length_cons] at hb; omega)
      refine ⟨a', st', e6', e7', e8', ?_, ok', ?_, fun w => ?_⟩
      · show (bodyIc [.dat (tabD n b), vecE n a, stE st, .dat (tupN A), .dat D4, .dat (ni e), .dat (ni y), e7, e8]).bind _ = _
        rw [show bodyIc [.dat (tabD n b), vecE n a, stE st, .dat (tupN A), .dat D4, .dat (ni e), .dat (ni y), e7, e8] = some (.nx [.dat (tabD n b), vecE n a, stE (st ++ [(A.filter (fun z => b z y), e)]), .dat (tupN A), .dat D4, .dat (ni e), .dat (ni y), .dat (tupN (A.filter fun z => b z y)), e8]) from
          seq_nx s1 (if_eq c1 (by
            rw [decide_eq_false h, if_neg Bool.false_ne_true]
            refine (app_eq rfl rfl (by rw [List.length_map]; show st.length < 1000000; rw [List.length_cons] at hb; omega)).trans ?_
            simp))]
        exact r
      · refine Nat.le_trans wk ?_
        rw [wkT_app, List.length_cons, Nat.succ_mul]
        have : wkB (A.filter fun z => b z y).length ≤ wkB (A.length - 1) := wkB_le (by omega)
        show wkT st + ((wkB (A.filter fun z => b z y).length) + 0) + _ ≤ _
        omega
      · rw [sm w, shT_app, List.map_cons, List.sum_cons]
        have : shT b [(A.filter (fun z => b z y), e)] w = carC b 9 (A.filter fun z => b z y) y e w := by
          show (shC b (A.filter fun z => b z y) e w) + 0 = _
          rw [Nat.add_zero, shC_eq ir h (by omega)]
        rw [this]
        omega
theorem while_cc (t : Tour n b) : ∀ (fuel : Nat) (a : Nat → Nat) (st : List (List Nat × Nat)) (e3 e4 e5 e6 e7 e8 : Ent), StOk n st → wkT st < fuel → wkT st < 900000 →
    ∃ e3' e4' e5' e6' e7' e8', runWhile (ownT 2) bodyCc fuel [.dat (tabD n b), vecE n a, stE st, e3, e4, e5, e6, e7, e8] = some (.nx [.dat (tabD n b), vecE n (fun w => a w + shT b st w), .own [], e3', e4', e5', e6', e7', e8'])
  | 0, _, _, _, _, _, _, _, _, _, h, _ => absurd h (Nat.not_lt_zero _)
  | fuel + 1, a, st, e3, e4, e5, e6, e7, e8, ok, hf, hm => by
    rcases List.eq_nil_or_concat st with es | ⟨st0, p, es⟩
    · subst es
      exact ⟨e3, e4, e5, e6, e7, e8, rfl⟩
    · rw [List.concat_eq_append] at es
      subst es
      obtain ⟨A, m⟩ := p
      have hne : A ≠ [] := ok.ne (A, m) (by simp)
      have hlow : ∀ x ∈ A, x < n := ok.low (A, m) (by simp)
      have h9 : A.length ≤ 9 := ok.len (A, m) (by simp)
      have a0 : 0 < A.length := List.length_pos_iff.mpr hne
      have ok0 : StOk n st0 := ⟨fun p hp => ok.ne p (by simp [hp]), fun p hp => ok.low p (by simp [hp]), fun p hp => ok.len p (by simp [hp])⟩
      have wl := wkT_len ok0.ne
      have wb : wkT (st0 ++ [(A, m)]) = wkT st0 + (1 + A.length * wkB (A.length - 1)) := by
        rw [wkT_app]
        congr 1
        show wkB A.length + 0 = _
        obtain ⟨c, hc⟩ : ∃ c, A.length = c + 1 := ⟨A.length - 1, by omega⟩
        rw [hc, wkB]
        rfl
      rw [wb] at hf hm
      have m1 : A.length * wkB (A.length - 1) < 900000 := by omega
      obtain ⟨a', st', e6', e7', e8', r, ok', wk, sm⟩ := inner_cc t hlow h9 (D4 := ni m) (e := m / A.length) A a st0 e6 e7 e8 (fun _ h => h) ok0 (by omega)
      have body : bodyCc [.dat (tabD n b), vecE n a, stE (st0 ++ [(A, m)]), e3, e4, e5, e6, e7, e8] = some (.nx [.dat (tabD n b), vecE n a', stE st', .dat (tupN A), .dat (ni m), .dat (ni (m / A.length)), e6', e7', e8']) := by
        refine seq_nx (ρ' := [.dat (tabD n b), vecE n a, stE st0, .dat (tupN A), .dat (ni m), e5, e6, e7, e8]) ?_ ?_
        · show (((st0 ++ [(A, m)]).map fun p => PyData.tuple [tupN p.1, ni p.2]).getLast?).bind _ = _
          rw [List.map_append, List.map_singleton, List.getLast?_concat, Option.bind_some, List.dropLast_concat]
          rfl
        · refine seq_nx (ρ' := [.dat (tabD n b), vecE n a, stE st0, .dat (tupN A), .dat (ni m), .dat (ni (m / A.length)), e6, e7, e8]) (set_eq (bin2_eq (x := ni m) (y := ni A.length) rfl (call1 (x := tupN A) rfl (len_tupN h9)) (div_pos (by omega) _))) ?_
          exact for_yes (xs := A.map ni) rfl r
      obtain ⟨f3, f4, f5, f6, f7, f8, q⟩ := while_cc t fuel a' st' (.dat (tupN A)) (.dat (ni m)) (.dat (ni (m / A.length))) e6' e7' e8' ok' (by omega) (by omega)
      refine ⟨f3, f4, f5, f6, f7, f8, ?_⟩
      have ot : ownT 2 [.dat (tabD n b), vecE n a, stE (st0 ++ [(A, m)]), e3, e4, e5, e6, e7, e8] = some true := by
        show some (!((st0 ++ [(A, m)]).map fun p => PyData.tuple [tupN p.1, ni p.2]).isEmpty) = _
        cases st0 <;> rfl
      show (ownT 2 _).bind _ = _
      rw [ot]
      show (bodyCc _).bind _ = _
      rw [body]
      refine q.trans ?_
      have ev : vecE n (fun w => a' w + shT b st' w) = vecE n fun w => a w + shT b (st0 ++ [(A, m)]) w := by
        show Ent.own _ = Ent.own _
        congr 1
        refine List.map_congr_left fun w _ => ?_
        show ni (a' w + shT b st' w) = ni (a w + shT b (st0 ++ [(A, m)]) w)
        rw [sm w, shT_app, Nat.add_assoc]
        rfl
      rw [ev]
def cqV (n : Nat) (b : Nat → Nat → Bool) : List Nat := (List.range n).map (cqC b (List.range n))
theorem careful_counts_eq (t : Tour n b) : sem_careful_counts [tabD n b] = some (tupN (cqV n b)) := by
  have h9 := t.nine
  have ne : List.range n ≠ [] := fun e => by have := congrArg List.length e; rw [List.length_range] at this; have := t.one; simp at *; omega
  have ok : StOk n [(List.range n, fc n)] := ⟨fun p hp => by rw [List.mem_singleton.mp hp]; exact ne, fun p hp => by rw [List.mem_singleton.mp hp]; exact fun x hx => List.mem_range.mp hx, fun p hp => by rw [List.mem_singleton.mp hp]; show (List.range n).length ≤ 9; rw [List.length_range]; exact h9⟩
  have wk : wkT [(List.range n, fc n)] ≤ 623530 := by
    show wkB (List.range n).length + 0 ≤ _
    rw [List.length_range]
    exact Nat.le_trans (wkB_le h9) (by decide +kernel)
  obtain ⟨e3, e4, e5, e6, e7, e8, q⟩ := while_cc t 1000000 (fun _ => 0) [(List.range n, fc n)] .na .na .na .na .na .na ok (by omega) (by omega)
  have fin : z_careful_counts (startD 9 [tabD n b]) = some (.rt (tupN (cqV n b))) := by
    show z_careful_counts [.dat (tabD n b), .na, .na, .na, .na, .na, .na, .na, .na] = _
    unfold z_careful_counts
    refine seq_nx (ρ' := [.dat (tabD n b), vecE n (fun _ => 0), .na, .na, .na, .na, .na, .na, .na]) (by show (repL _ _ _).bind _ = _; rw [zeros_eq t]; rfl) ?_
    refine seq_nx (ρ' := [.dat (tabD n b), vecE n (fun _ => 0), stE [(List.range n, fc n)], .na, .na, .na, .na, .na, .na]) ?_ (seq_nx q (ret_eq ?_))
    · have tr : tupI (rng1I (callA lenD (consA (getD 0) nilA))) [.dat (tabD n b), vecE n (fun _ => 0), .na, .na, .na, .na, .na, .na, .na] = some (tupN (List.range n)) := by
        show (rng1I (callA lenD (consA (getD 0) nilA)) _).map _ = _
        rw [rng1_nat (m := n) (call1 (x := tabD n b) rfl len_tab) (by omega)]
        rfl
      have nb : callU 1 sem_number_of_orders (consA (callA lenD (consA (getD 0) nilA)) nilA) [.dat (tabD n b), vecE n (fun _ => 0), .na, .na, .na, .na, .na, .na, .na] = some (ni (fc n)) := callU_eq (ds := [ni n]) (consA_eq (call1 (x := tabD n b) rfl len_tab) rfl) rfl (number_eq h9)
      have tp : tupF (consA (tupI (rng1I (callA lenD (consA (getD 0) nilA)))) (consA (callU 1 sem_number_of_orders (consA (callA lenD (consA (getD 0) nilA)) nilA)) nilA)) [.dat (tabD n b), vecE n (fun _ => 0), .na, .na, .na, .na, .na, .na, .na] = some (.tuple [tupN (List.range n), ni (fc n)]) := tupF_eq (consA_eq tr (consA_eq nb rfl)) (show 2 < 1000000 by decide)
      refine own_eq ?_
      show (consA _ nilA _).bind _ = _
      rw [consA_eq tp rfl]
      rfl
    · show some (PyData.tuple ((List.range n).map fun w => ni (0 + shT b [(List.range n, fc n)] w))) = some (tupN (cqV n b))
      congr 2
      rw [cqV, List.map_map]
      refine List.map_congr_left fun w _ => ?_
      show ni _ = ni (cqC b (List.range n) w)
      rw [cqC_eq t.diag List.nodup_range ne (by rw [List.length_range]; exact h9), List.length_range]
      show ni (0 + (shC b (List.range n) (fc n) w + 0)) = _
      rw [Nat.add_zero, Nat.zero_add]
  exact sem_of fin
end
end DS
set_option maxHeartbeats 4000000
namespace DS
open PySem PySem.Spec PyProof.Rows L2
/-! ### chains one by one -/
section
variable {n : Nat} {b : Nat → Nat → Bool} {xs : List Nat} {i : Nat}
/-- those that all of a chain beat -/
def ext (n : Nat) (b : Nat → Nat → Bool) (xs : List Nat) : List Nat := (List.range n).filter fun o => xs.all fun x => b x o
theorem ext_lt {o : Nat} (h : o ∈ ext n b xs) : o < n := List.mem_range.mp (List.mem_filter.mp h).1
theorem ext_snoc (o : Nat) : ext n b (xs ++ [o]) = (ext n b xs).filter fun p => b o p := by
  unfold ext
  rw [List.filter_filter]
  refine List.filter_congr fun p _ => ?_
  rw [List.all_append]
  simp [Bool.and_comm]
theorem ext_less (t : Tour n b) {o : Nat} (h : o ∈ ext n b xs) : (ext n b (xs ++ [o])).length < (ext n b xs).length := by
  rw [ext_snoc]
  have e1 := List.length_eq_countP_add_countP (fun p => b o p) (l := ext n b xs)
  rw [← List.countP_eq_length_filter]
  have : 0 < (ext n b xs).countP fun p => ¬ (b o p = true) := List.countP_pos_iff.mpr ⟨o, h, by simp [t.diag o]⟩
  omega
def preL (n : Nat) (b : Nat → Nat → Bool) : Nat → List Nat → List (List Nat)
  | 0, xs => [xs]
  | k + 1, xs => xs :: (ext n b xs).flatMap fun o => preL n b k (xs ++ [o])
/-- more than enough -/
def bnd : Nat → Nat
  | 0 => 1
  | k + 1 => 1 + (k + 1) * bnd k
theorem flat_len {α β : Type} (f : α → List β) (c : Nat) : ∀ l : List α, (∀ x ∈ l, (f x).length ≤ c) → (l.flatMap f).length ≤ l.length * c
  | [], _ => by simp
  | x :: l, h => by
    have h1 := h x List.mem_cons_self
    have h2 := flat_len f c l fun y hy => h y (List.mem_cons_of_mem _ hy)
    rw [List.flatMap_cons, List.length_append, List.length_cons, Nat.add_mul, Nat.one_mul]
    omega
theorem preL_len (t : Tour n b) : ∀ (k : Nat) (xs : List Nat), (ext n b xs).length ≤ k → (preL n b k xs).length ≤ bnd k
  | 0, xs, _ => Nat.le_refl _
  | k + 1, xs, h => by
    have := flat_len (fun o => preL n b k (xs ++ [o])) (bnd k) (ext n b xs) fun o ho => preL_len t k (xs ++ [o]) (by have := ext_less t ho; omega)
    have h2 := Nat.mul_le_mul_right (bnd k) h
    show (xs :: (ext n b xs).flatMap fun o => preL n b k (xs ++ [o])).length ≤ 1 + (k + 1) * bnd k
    rw [List.length_cons]
    omega
/-! the program's -/
theorem minus_eq (t : Tour n b) {j : Nat} (hi : i < n) (hj : j < n) : gEq (.str ⟨#[sgn b i j]⟩) (.str (Str.ofString "-")) = some (.bool (b j i)) := by
  rw [gEq_str]
  congr 2
  by_cases e : i = j
  · subst e
    rw [t.diag]
    exact beq_eq_false_iff_ne.mpr fun z => (sgn_minus.mp z).1 rfl
  · have a := t.anti j i hj hi (Ne.symm e)
    cases h : b i j with
    | false =>
      rw [h] at a
      rw [a]
      exact beq_iff_eq.mpr (sgn_minus.mpr ⟨e, h⟩)
    | true =>
      rw [h] at a
      rw [a]
      exact beq_eq_false_iff_ne.mpr fun z => by
        have := (sgn_minus.mp z).2
        rw [h] at this
        cases this
theorem loses_eq (t : Tour n b) (hi : i < n) (hl : ∀ j ∈ xs, j < n) (h9 : xs.length < 1000000) : sem_loses_to_all [tabD n b, ni i, tupN xs] = some (.bool (xs.all fun x => b x i)) := by
  refine sem_ret (all_of (l := xs) (p := fun j => b j i) (lst_map (l := xs) (g := ni) (m := fun j => .bool (b j i)) (seq_tup rfl) h9 fun j hj => ?_))
  exact step_mapG rfl (bin2_eq (bin2_eq (bin2_eq rfl rfl (ix_tab hi)) rfl (ix_row (Nat.le_trans t.nine (by decide)) (hl j hj))) rfl (minus_eq t hi (hl j hj)))
abbrev chBody : GFd := (gSeq (gPlain (sPop 3 2))
  (gSeq (gYield (getD 3))
  (gSeq (gPlain (sFor (revI (callA lenD (consA (getD 0) nilA))) (setN 4)
  (sIf (tstF (callU 3 sem_loses_to_all (consA (getD 0) (consA (getD 4) (consA (getD 3) nilA))))) (sApp 2 (bin2 gAdd (getD 3) (tupF (consA (getD 4) nilA)))) sNil)))
  gNil)))
abbrev chPush : SF := (sIf (tstF (callU 3 sem_loses_to_all (consA (getD 0) (consA (getD 4) (consA (getD 3) nilA))))) (sApp 2 (bin2 gAdd (getD 3) (tupF (consA (getD 4) nilA)))) sNil)
abbrev chS (n : Nat) (b : Nat → Nat → Bool) (d1 : PyData) (stk : List PyData) (e3 e4 : Ent) : Dn := [.dat (tabD n b), .dat d1, .own stk, e3, e4]
theorem push_run (t : Tour n b) (d1 : PyData) (hx : ∀ x ∈ xs, x < n) (hl : xs.length < 1000) : ∀ (js : List Nat) (stk : List PyData) (e4 : Ent), (∀ j ∈ js, j < n) → stk.length + js.length < 1000000 →
    ∃ e4', runFor (setN 4) chPush (js.map ni) (chS n b d1 stk (.dat (tupN xs)) e4) = some (.nx (chS n b d1 (stk ++ (js.filter fun o => xs.all fun x => b x o).map fun o => tupN (xs ++ [o])) (.dat (tupN xs)) e4'))
  | [], stk, e4, _, _ => ⟨e4, by simp [runFor]⟩
  | j :: js, stk, e4, hj, hs => by
    rw [List.length_cons] at hs
    have lj := hj j List.mem_cons_self
    have le := loses_eq t lj hx (by omega)
    have add : gAdd (tupN xs) (.tuple [ni j]) = some (tupN (xs ++ [j])) := by
      show (if (xs.map ni).length + 1 < lim then some (PyData.tuple (xs.map ni ++ [ni j])) else none) = _
      rw [if_pos (by rw [List.length_map]; show xs.length + 1 < 1000000; omega)]
      show _ = some (PyData.tuple ((xs ++ [j]).map ni))
      rw [List.map_append]
      rfl
    have step : chPush (chS n b d1 stk (.dat (tupN xs)) (.dat (ni j))) = some (.nx (chS n b d1 (stk ++ (([j].filter fun o => xs.all fun x => b x o).map fun o => tupN (xs ++ [o]))) (.dat (tupN xs)) (.dat (ni j)))) := by
      have c : tstF (callU 3 sem_loses_to_all (consA (getD 0) (consA (getD 4) (consA (getD 3) nilA)))) (chS n b d1 stk (.dat (tupN xs)) (.dat (ni j))) = some (xs.all fun x => b x j) := by
        simp [le]
      show (tstF _ _).bind _ = _
      rw [c, Option.bind_some]
      cases h : xs.all fun x => b x j with
      | false =>
        rw [if_neg Bool.false_ne_true, List.filter_cons_of_neg (by rw [h]; exact Bool.false_ne_true)]
        show some _ = _
        rw [List.filter_nil, List.map_nil, List.append_nil]
      | true =>
        rw [if_pos rfl, List.filter_cons_of_pos (p := fun o => xs.all fun x => b x o) h]
        refine (app_eq rfl (d := tupN (xs ++ [j])) ?_ (show stk.length < 1000000 by omega)).trans rfl
        simp [add]
    obtain ⟨e4', e⟩ := push_run t d1 hx hl js (stk ++ (([j].filter fun o => xs.all fun x => b x o).map fun o => tupN (xs ++ [o]))) (.dat (ni j)) (fun k hk => hj k (List.mem_cons_of_mem _ hk)) (by
      have := List.length_filter_le (fun o => xs.all fun x => b x o) [j]
      rw [List.length_append, List.length_map]
      rw [List.length_singleton] at this
      omega)
    refine ⟨e4', ?_⟩
    rw [List.map_cons]
    show (chPush (chS n b d1 stk (.dat (tupN xs)) (.dat (ni j)))).bind _ = _
    rw [step]
    refine e.trans ?_
    rw [List.append_assoc, ← List.map_append, ← List.filter_append, List.singleton_append]
theorem body_run (t : Tour n b) (d1 : PyData) (hx : ∀ x ∈ xs, x < n) (hl : xs.length < 1000) (stk : List PyData) (hs : stk.length + 9 < 1000000) (e3 e4 : Ent) :
    ∃ e4', ∀ (f : Nat) (out : List PyData), out.length < 1000000 → gWhile (ownT 2) chBody (f + 1) out (chS n b d1 (stk ++ [tupN xs]) e3 e4) = gWhile (ownT 2) chBody f (out ++ [tupN xs]) (chS n b d1 (stk ++ (ext n b xs).reverse.map fun o => tupN (xs ++ [o])) (.dat (tupN xs)) e4') := by
  have h9 := t.nine
  obtain ⟨e4', e⟩ := push_run t d1 hx hl (List.range n).reverse stk e4 (fun j hj => List.mem_range.mp (List.mem_reverse.mp hj)) (by rw [List.length_reverse, List.length_range]; omega)
  refine ⟨e4', fun f out ho => ?_⟩
  have pop : sPop 3 2 (chS n b d1 (stk ++ [tupN xs]) e3 e4) = some (.nx (chS n b d1 stk (.dat (tupN xs)) e4)) := by
    show ((stk ++ [tupN xs]).getLast?).bind _ = _
    rw [List.getLast?_concat, Option.bind_some, List.dropLast_concat]
    rfl
  have own : ownT 2 (chS n b d1 (stk ++ [tupN xs]) e3 e4) = some true := by
    show some (!(stk ++ [tupN xs]).isEmpty) = _
    cases stk <;> rfl
  have yl : gYield (getD 3) out (chS n b d1 stk (.dat (tupN xs)) e4) = some (.nx (chS n b d1 stk (.dat (tupN xs)) e4), out ++ [tupN xs]) := if_pos ho
  have fr : sFor (revI (callA lenD (consA (getD 0) nilA))) (setN 4) chPush (chS n b d1 stk (.dat (tupN xs)) e4) = some (.nx (chS n b d1 (stk ++ (ext n b xs).reverse.map fun o => tupN (xs ++ [o])) (.dat (tupN xs)) e4')) := by
    have it : revI (callA lenD (consA (getD 0) nilA)) (chS n b d1 stk (.dat (tupN xs)) e4) = some ((List.range n).reverse.map ni) := by
      unfold revI
      rw [call1 (x := tabD n b) rfl len_tab]
      show (if okR (n : Int) = true then some (rngD 0 (n : Int).toNat).reverse else none) = _
      rw [if_pos (okR_nat (by omega)), Int.toNat_natCast, rngD0, List.map_reverse]
    show (revI _ _).bind _ = _
    rw [it, Option.bind_some, e, List.filter_reverse]
    rfl
  have bd : chBody out (chS n b d1 (stk ++ [tupN xs]) e3 e4) = some (.nx (chS n b d1 (stk ++ (ext n b xs).reverse.map fun o => tupN (xs ++ [o])) (.dat (tupN xs)) e4'), out ++ [tupN xs]) := by
    show (gPlain (sPop 3 2) out _).bind _ = _
    unfold gPlain
    rw [pop, Option.map_some, Option.bind_some]
    show (gYield (getD 3) out (chS n b d1 stk (.dat (tupN xs)) e4)).bind _ = _
    rw [yl, Option.bind_some]
    show ((sFor (revI (callA lenD (consA (getD 0) nilA))) (setN 4) chPush (chS n b d1 stk (.dat (tupN xs)) e4)).map _).bind _ = _
    rw [fr]
    rfl
  rw [gWhile, own, Option.bind_some, if_pos rfl, bd]
  rfl
/-- one chain on the stack: it and all behind it are handed out -/
theorem pre_run (t : Tour n b) (d1 : PyData) : ∀ (k : Nat) (xs : List Nat) (stk : List PyData) (e3 e4 : Ent), (∀ x ∈ xs, x < n) → (ext n b xs).length ≤ k → xs.length + k < 1000 → stk.length + 9 * (k + 1) < 1000000 →
    ∃ e3' e4', ∀ (f : Nat) (out : List PyData), out.length + (preL n b k xs).length < 1000000 → gWhile (ownT 2) chBody (f + (preL n b k xs).length) out (chS n b d1 (stk ++ [tupN xs]) e3 e4) = gWhile (ownT 2) chBody f (out ++ (preL n b k xs).map tupN) (chS n b d1 stk e3' e4')
  | 0, xs, stk, e3, e4, hx, he, hl, hs => by
    obtain ⟨e4', e⟩ := body_run t d1 hx (by omega) stk (by omega) e3 e4
    refine ⟨.dat (tupN xs), e4', fun f out ho => (e f out (by omega)).trans ?_⟩
    rw [List.eq_nil_of_length_eq_zero (Nat.le_zero.mp he), List.reverse_nil, List.map_nil, List.append_nil]
    rfl
  | k + 1, xs, stk, e3, e4, hx, he, hl, hs => by
    obtain ⟨e4', e⟩ := body_run t d1 hx (by omega) stk (by omega) e3 e4
    have h9 := t.nine
    -- the list of the next ones
    have many : ∀ (os : List Nat) (e3 e4 : Ent), (∀ o ∈ os, o ∈ ext n b xs) → os.length ≤ 9 → ∃ e3' e4', ∀ (f : Nat) (out : List PyData), out.length + (os.flatMap fun o => preL n b k (xs ++ [o])).length < 1000000 →
        gWhile (ownT 2) chBody (f + (os.flatMap fun o => preL n b k (xs ++ [o])).length) out (chS n b d1 (stk ++ os.reverse.map fun o => tupN (xs ++ [o])) e3 e4) = gWhile (ownT 2) chBody f (out ++ (os.flatMap fun o => preL n b k (xs ++ [o])).map tupN) (chS n b d1 stk e3' e4') := by
      intro os
      induction os with
      | nil => intro e3 e4 _ _; exact ⟨e3, e4, fun f out _ => by simp⟩
      | cons o os ih =>
        intro e3 e4 ho hlen
        rw [List.length_cons] at hlen
        have mo := ho o List.mem_cons_self
        obtain ⟨e3a, e4a, ea⟩ := pre_run t d1 k (xs ++ [o]) (stk ++ os.reverse.map fun o => tupN (xs ++ [o])) e3 e4 (fun x h => by
          rcases List.mem_append.mp h with h | h
          · exact hx x h
          · rw [List.mem_singleton.mp h]; exact ext_lt mo) (by have := ext_less t mo; omega) (by rw [List.length_append, List.length_singleton]; omega) (by rw [List.length_append, List.length_map, List.length_reverse]; omega)
        obtain ⟨e3b, e4b, eb⟩ := ih e3a e4a (fun p hp => ho p (List.mem_cons_of_mem _ hp)) (by omega)
        refine ⟨e3b, e4b, fun f out hh => ?_⟩
        rw [List.flatMap_cons, List.length_append] at hh ⊢
        rw [List.reverse_cons, List.map_append, List.map_cons, List.map_nil, ← List.append_assoc, show f + ((preL n b k (xs ++ [o])).length + (os.flatMap fun o => preL n b k (xs ++ [o])).length) = (f + (os.flatMap fun o => preL n b k (xs ++ [o])).length) + (preL n b k (xs ++ [o])).length by omega,
          ea _ out (by omega), eb f _ (by rw [List.length_append, List.length_map]; omega), List.map_append, List.append_assoc]
    obtain ⟨e3', e4'', em⟩ := many (ext n b xs) (.dat (tupN xs)) e4' (fun o h => h) (by
      have := List.length_filter_le (fun o => xs.all fun x => b x o) (List.range n)
      rw [List.length_range] at this
      show ((List.range n).filter _).length ≤ 9
      omega)
    refine ⟨e3', e4'', fun f out hh => ?_⟩
    have lp : (preL n b (k + 1) xs).length = ((ext n b xs).flatMap fun o => preL n b k (xs ++ [o])).length + 1 := List.length_cons
    rw [lp] at hh ⊢
    rw [← Nat.add_assoc, e _ out (by omega), em f _ (by rw [List.length_append, List.length_singleton]; omega), List.append_assoc]
    rfl
/-- all chains with this top -/
def chFrom (n : Nat) (b : Nat → Nat → Bool) (top : Nat) : List (List Nat) := preL n b 8 [top]
theorem ext_top (t : Tour n b) {top : Nat} (h : top < n) : (ext n b [top]).length ≤ 8 := by
  have := ext_less t (xs := []) (o := top) (List.mem_filter.mpr ⟨List.mem_range.mpr h, rfl⟩)
  have h2 := List.length_filter_le (fun o => ([] : List Nat).all fun x => b x o) (List.range n)
  rw [List.length_range] at h2
  have h3 : (ext n b []).length ≤ n := h2
  have := t.nine
  rw [List.nil_append] at *
  omega
theorem bnd8 : bnd 8 = 109601 := by decide
theorem chFrom_len (t : Tour n b) {top : Nat} (h : top < n) : (chFrom n b top).length ≤ 109601 := by
  have := preL_len t 8 [top] (ext_top t h)
  rw [bnd8] at this
  exact this
theorem chain_from_eq (t : Tour n b) {top : Nat} (h : top < n) : semg_each_chain_from [tabD n b, ni top] = some ((chFrom n b top).map tupN) := by
  have hl := chFrom_len t h
  obtain ⟨e3, e4, r⟩ := pre_run t (ni top) 8 [top] [] .na .na (fun x hx => by rw [List.mem_singleton.mp hx]; exact h) (ext_top t h) (by simp) (by simp)
  obtain ⟨f, hf⟩ : ∃ f, 1000000 = (f + 1) + (chFrom n b top).length := ⟨999999 - (chFrom n b top).length, by omega⟩
  have r2 := r (f + 1) [] (by show 0 + (chFrom n b top).length < 1000000; omega)
  have fin : gWhile (ownT 2) chBody (f + 1) ([] ++ (chFrom n b top).map tupN) (chS n b (ni top) [] e3 e4) = some (.nx (chS n b (ni top) [] e3 e4), [] ++ (chFrom n b top).map tupN) := by
    rw [gWhile]
    rfl
  have w : gWhile (ownT 2) chBody 1000000 [] (chS n b (ni top) [tupN [top]] .na .na) = some (.nx (chS n b (ni top) [] e3 e4), (chFrom n b top).map tupN) := by
    rw [hf]
    exact r2.trans (fin.trans (by rw [List.nil_append]))
  have st : sOwn 2 (limA (consA (tupF (consA (getD 1) nilA)) nilA)) [.dat (tabD n b), .dat (ni top), .na, .na, .na] = some (.nx (chS n b (ni top) [tupN [top]] .na .na)) := rfl
  show (z_each_chain_from [] [.dat (tabD n b), .dat (ni top), .na, .na, .na]).bind _ = _
  have z : z_each_chain_from [] [.dat (tabD n b), .dat (ni top), .na, .na, .na] = some (.nx (chS n b (ni top) [] e3 e4), (chFrom n b top).map tupN) := by
    unfold z_each_chain_from
    show (gPlain (sOwn 2 (limA (consA (tupF (consA (getD 1) nilA)) nilA))) [] _).bind _ = _
    unfold gPlain
    rw [st, Option.map_some, Option.bind_some]
    show (gWhile (ownT 2) chBody 1000000 [] (chS n b (ni top) [tupN [top]] .na .na)).bind _ = _
    rw [w]
    rfl
  rw [z]
  rfl
end
end DS
set_option maxHeartbeats 4000000
namespace DS
open PySem PySem.Spec PyProof.Rows L2
section
variable {n : Nat} {b : Nat → Nat → Bool} {xs : List Nat} {i : Nat}
/-! ### which chains they are, and in which order -/
theorem mem_ext {o : Nat} : o ∈ ext n b xs ↔ o < n ∧ ∀ x ∈ xs, b x o = true := by
  unfold ext
  rw [List.mem_filter, List.mem_range, List.all_eq_true]
theorem mem_preL (t : Tour n b) : ∀ (k : Nat) (xs ys : List Nat), (ext n b xs).length ≤ k → (ys ∈ preL n b k xs ↔ ∃ zs, ys = xs ++ zs ∧ (∀ z ∈ zs, z < n) ∧ (zs.Pairwise fun x y => b x y = true) ∧ ∀ x ∈ xs, ∀ z ∈ zs, b x z = true)
  | 0, xs, ys, h => by
    have e0 : ext n b xs = [] := List.eq_nil_of_length_eq_zero (Nat.le_zero.mp h)
    show ys ∈ [xs] ↔ _
    rw [List.mem_singleton]
    constructor
    · rintro rfl
      exact ⟨[], by simp, by simp, .nil, by simp⟩
    · rintro ⟨zs, rfl, h1, h2, h3⟩
      cases zs with
      | nil => rw [List.append_nil]
      | cons z zs =>
        have : z ∈ ext n b xs := mem_ext.mpr ⟨h1 z List.mem_cons_self, fun x hx => h3 x hx z List.mem_cons_self⟩
        rw [e0] at this
        cases this
  | k + 1, xs, ys, h => by
    show ys ∈ xs :: (ext n b xs).flatMap (fun o => preL n b k (xs ++ [o])) ↔ _
    rw [List.mem_cons, List.mem_flatMap]
    constructor
    · rintro (rfl | ⟨o, ho, hy⟩)
      · exact ⟨[], by simp, by simp, .nil, by simp⟩
      · obtain ⟨zs, rfl, h1, h2, h3⟩ := (mem_preL t k (xs ++ [o]) ys (by have := ext_less t ho; omega)).mp hy
        obtain ⟨l, ho2⟩ := mem_ext.mp ho
        refine ⟨o :: zs, by simp, fun z hz => ?_, List.pairwise_cons.mpr ⟨fun z hz => h3 o (by simp) z hz, h2⟩, fun x hx z hz => ?_⟩
        · rcases List.mem_cons.mp hz with rfl | hz
          · exact l
          · exact h1 z hz
        · rcases List.mem_cons.mp hz with rfl | hz
          · exact ho2 x hx
          · exact h3 x (List.mem_append_left _ hx) z hz
    · rintro ⟨zs, rfl, h1, h2, h3⟩
      cases zs with
      | nil => exact .inl (List.append_nil _)
      | cons o zs =>
        have ho : o ∈ ext n b xs := mem_ext.mpr ⟨h1 o List.mem_cons_self, fun x hx => h3 x hx o List.mem_cons_self⟩
        refine .inr ⟨o, ho, (mem_preL t k (xs ++ [o]) _ (by have := ext_less t ho; omega)).mpr ⟨zs, by simp, fun z hz => h1 z (List.mem_cons_of_mem _ hz), (List.pairwise_cons.mp h2).2, fun x hx z hz => ?_⟩⟩
        rcases List.mem_append.mp hx with hx | hx
        · exact h3 x hx z (List.mem_cons_of_mem _ hz)
        · rw [List.mem_singleton.mp hx]
          exact (List.pairwise_cons.mp h2).1 z hz
/-- a chain of n alternatives -/
def IsCh (n : Nat) (b : Nat → Nat → Bool) (c : List Nat) : Prop := c ≠ [] ∧ (∀ x ∈ c, x < n) ∧ c.Pairwise fun x y => b x y = true
theorem mem_chFrom (t : Tour n b) {top : Nat} (h : top < n) {c : List Nat} : c ∈ chFrom n b top ↔ IsCh n b c ∧ c.head? = some top := by
  unfold chFrom
  rw [mem_preL t 8 [top] c (ext_top t h)]
  constructor
  · rintro ⟨zs, rfl, h1, h2, h3⟩
    refine ⟨⟨by simp, fun x hx => ?_, List.pairwise_cons.mpr ⟨fun z hz => h3 top (by simp) z hz, h2⟩⟩, rfl⟩
    rcases List.mem_cons.mp hx with rfl | hx
    · exact h
    · exact h1 x hx
  · rintro ⟨⟨h0, h1, h2⟩, hd⟩
    cases c with
    | nil => exact absurd rfl h0
    | cons x zs =>
      cases hd
      refine ⟨zs, rfl, fun z hz => h1 z (List.mem_cons_of_mem _ hz), (List.pairwise_cons.mp h2).2, fun x hx z hz => ?_⟩
      rw [List.mem_singleton.mp hx]
      exact (List.pairwise_cons.mp h2).1 z hz
theorem IsCh.len (t : Tour n b) {c : List Nat} (h : IsCh n b c) : c.length ≤ n := chB_len t h.2.1 (chB_iff.mpr h.2.2)
theorem range_up (n : Nat) : (List.range n).Pairwise (· < ·) := List.pairwise_lt_range
/-- all chains -/
def allL (n : Nat) (b : Nat → Nat → Bool) : List (List Nat) := (List.range n).flatMap (chFrom n b)
theorem mem_allL (t : Tour n b) {c : List Nat} : c ∈ allL n b ↔ IsCh n b c := by
  unfold allL
  rw [List.mem_flatMap]
  constructor
  · rintro ⟨o, ho, h⟩
    exact ((mem_chFrom t (List.mem_range.mp ho)).mp h).1
  · intro h
    cases c with
    | nil => exact absurd rfl h.1
    | cons x zs => exact ⟨x, List.mem_range.mpr (h.2.1 x List.mem_cons_self), (mem_chFrom t (h.2.1 x List.mem_cons_self)).mpr ⟨h, rfl⟩⟩
/-! the full ones -/
def fullL (n : Nat) (b : Nat → Nat → Bool) : List (List Nat) := (allL n b).filter (fullB n b)
/-! the program's -/
theorem ch_small (t : Tour n b) {c : List Nat} {top : Nat} (h : top < n) (hc : c ∈ chFrom n b top) : (∀ x ∈ c, x < n) ∧ c.length < 1000000 := by
  have h1 := ((mem_chFrom t h).mp hc).1
  have := h1.len t
  have := t.nine
  exact ⟨h1.2.1, by omega⟩
end
end DS
set_option maxHeartbeats 4000000
namespace DS
open PySem PySem.Spec PyProof.Rows L2
section
variable {n : Nat} {b : Nat → Nat → Bool}
/-! ### the first full chain with a top -/
def optN : Option (List Nat) → PyData
  | none => .none
  | some c => tupN c
def firstF (n : Nat) (b : Nat → Nat → Bool) (top : Nat) : Option (List Nat) := (chFrom n b top).find? (fullB n b)
abbrev ffBody : SF := (sIf (tstF (callU 2 sem_is_full (consA (getD 0) (consA (getD 2) nilA)))) (sRet (getD 2)) sNil)
theorem ff_run (t : Tour n b) (e1 : Ent) : ∀ (cs : List (List Nat)) (e2 : Ent), (∀ c ∈ cs, (∀ x ∈ c, x < n) ∧ c.length < 1000000) →
    ∃ e2', runFor (setN 2) ffBody (cs.map tupN) [.dat (tabD n b), e1, e2] = some (match cs.find? (fullB n b) with | none => .nx [.dat (tabD n b), e1, e2'] | some c => .rt (tupN c))
  | [], e2, _ => ⟨e2, rfl⟩
  | c :: cs, e2, hc => by
    obtain ⟨h1, h2⟩ := hc c List.mem_cons_self
    have tst : tstF (callU 2 sem_is_full (consA (getD 0) (consA (getD 2) nilA))) [.dat (tabD n b), e1, .dat (tupN c)] = some (fullB n b c) := by
      simp [is_full_eq t h1 h2]
    obtain ⟨e2', e⟩ := ff_run t e1 cs (.dat (tupN c)) (fun d hd => hc d (List.mem_cons_of_mem _ hd))
    refine ⟨e2', ?_⟩
    rw [List.map_cons]
    show ((tstF (callU 2 sem_is_full (consA (getD 0) (consA (getD 2) nilA))) [.dat (tabD n b), e1, .dat (tupN c)]).bind _).bind _ = _
    rw [tst, Option.bind_some]
    cases h : fullB n b c with
    | true =>
      rw [if_pos rfl, List.find?_cons_of_pos h]
      rfl
    | false =>
      rw [if_neg Bool.false_ne_true, List.find?_cons_of_neg (by rw [h]; exact Bool.false_ne_true)]
      exact e
theorem first_full_eq (t : Tour n b) {top : Nat} (h : top < n) : sem_first_full_chain [tabD n b, ni top] = some (optN (firstF n b top)) := by
  obtain ⟨e2', e⟩ := ff_run t (.dat (ni top)) (chFrom n b top) .na fun c hc => ch_small t h hc
  have it : itG 2 semg_each_chain_from (consA (getD 0) (consA (getD 1) nilA)) [.dat (tabD n b), .dat (ni top), .na] = some ((chFrom n b top).map tupN) := chain_from_eq t h
  refine sem_of ?_
  show ((itG 2 semg_each_chain_from (consA (getD 0) (consA (getD 1) nilA)) [.dat (tabD n b), .dat (ni top), .na]).bind fun xs => runFor (setN 2) ffBody xs [.dat (tabD n b), .dat (ni top), .na]).bind _ = _
  rw [it, Option.bind_some, e]
  show _ = some (Res.rt (optN ((chFrom n b top).find? (fullB n b))))
  cases (chFrom n b top).find? (fullB n b) <;> rfl
theorem firstF_some {top : Nat} {c : List Nat} (t : Tour n b) (h : top < n) (e : firstF n b top = some c) : c ∈ fullL n b ∧ c.head? = some top := by
  have h1 := List.find?_some e
  have h2 := List.mem_of_find?_eq_some e
  have h3 := (mem_chFrom t h).mp h2
  exact ⟨List.mem_filter.mpr ⟨(mem_allL t).mpr h3.1, h1⟩, h3.2⟩
theorem firstF_none {top : Nat} (t : Tour n b) (h : top < n) (e : firstF n b top = none) {c : List Nat} (hc : c ∈ fullL n b) : c.head? ≠ some top := fun k => by
  obtain ⟨h1, h2⟩ := List.mem_filter.mp hc
  exact List.find?_eq_none.mp e c ((mem_chFrom t h).mpr ⟨(mem_allL t).mp h1, k⟩) h2
/-- the tops of full chains -/
def topsL (n : Nat) (b : Nat → Nat → Bool) : List Nat := (List.range n).filter fun x => (firstF n b x).isSome
theorem mem_topsL (t : Tour n b) {x : Nat} : x ∈ topsL n b ↔ ∃ c ∈ fullL n b, c.head? = some x := by
  unfold topsL
  rw [List.mem_filter, List.mem_range]
  constructor
  · rintro ⟨h, k⟩
    obtain ⟨c, e⟩ := Option.isSome_iff_exists.mp k
    exact ⟨c, firstF_some t h e⟩
  · rintro ⟨c, hc, e⟩
    have hx : x < n := by
      have h1 := (mem_allL t).mp (List.mem_filter.mp hc).1
      cases c with
      | nil => cases e
      | cons y r =>
        cases e
        exact h1.2.1 x List.mem_cons_self
    refine ⟨hx, ?_⟩
    cases k : firstF n b x with
    | some _ => rfl
    | none => exact absurd e (firstF_none t hx k hc)
theorem isNone_optN (o : Option (List Nat)) : isNone (optN o) = !o.isSome := by cases o <;> rfl
theorem chain_tops_eq (t : Tour n b) : sem_chain_tops [tabD n b] = some (tupN (topsL n b)) := by
  have h9 := t.nine
  simp [sem_chain_tops, z_chain_tops, show n ≤ 1000000 by omega, show n < 1000000 by omega]
  rw [compA_congr rfl (G := fun x => if (firstF n b x).isSome = true then some (some (ni x)) else some none) fun x hx => ?_]
  · simp [topsL]
  · rw [first_full_eq t (List.mem_range.mp hx)]
    simp [isNone_optN]
theorem topsL_up : (topsL n b).Pairwise (· < ·) := (range_up n).sublist List.filter_sublist
theorem topsL_lt : ∀ x ∈ topsL n b, x < n := fun x h => List.mem_range.mp (List.mem_filter.mp h).1
theorem topsL_len : (topsL n b).length ≤ n := by
  have := List.length_filter_le (fun x => (firstF n b x).isSome) (List.range n)
  rwa [List.length_range] at this
end
end DS
namespace DS
/-! ### an order in which each one beats the one before it, by the depth first -/
section
variable (n : Nat) (b : Nat → Nat → Bool)
def winsN (v : Nat) : List Nat := (List.range n).filter (b v)
def dfs : Nat → Nat → List Nat × List Nat → List Nat × List Nat
  | 0, _, s => s
  | k + 1, v, s =>
    let r := (winsN n b v).foldl (fun s w => if w ∈ s.1 then s else dfs k w s) (s.1 ++ [v], s.2)
    (r.1, r.2 ++ [v])
def chmp : List Nat → Nat
  | [] => 0
  | x :: zs => zs.foldl (fun w y => if b y w = true then y else w) x
structure DOk (s : List Nat × List Nat) : Prop where
  nd : s.1.Nodup
  lt : ∀ x ∈ s.1, x < n
  sub : ∀ x ∈ s.2, x ∈ s.1
  nd2 : s.2.Nodup
  cl : ∀ u ∈ s.2, ∀ x, x < n → b u x = true → x ∈ s.1
  ch : ∀ l x, s.2 = l ++ [x] → chmp b s.2 = x
/-- what a call leaves -/
structure DTo (s r : List Nat × List Nat) : Prop where
  ok : DOk n b r
  pre : ∃ l, r.1 = s.1 ++ l
  suf : ∃ l, r.2 = s.2 ++ l
  fin : ∀ x ∈ r.1, x ∉ s.1 → x ∈ r.2
  new : ∀ x ∈ r.2, x ∈ s.2 ∨ x ∉ s.1
end
section
variable {n : Nat} {b : Nat → Nat → Bool}
theorem nodup_low : ∀ (n : Nat) (l : List Nat), l.Nodup → (∀ x ∈ l, x < n) → l.length ≤ n
  | 0, l, _, h => by
    cases l with
    | nil => exact Nat.zero_le _
    | cons x l => exact absurd (h x List.mem_cons_self) (Nat.not_lt_zero _)
  | n + 1, l, nd, h => by
    have e : l.length ≤ (l.erase n).length + 1 := by
      rw [List.length_erase]
      split <;> omega
    have := nodup_low n (l.erase n) (nd.erase n) fun x hx => by
      have h1 := h x (List.mem_of_mem_erase hx)
      have h2 : x ≠ n := fun e => (List.Nodup.not_mem_erase nd) (e ▸ hx)
      omega
    omega
theorem chmp_snoc {l : List Nat} {v : Nat} : chmp b (l ++ [v]) = if l = [] then v else if b v (chmp b l) = true then v else chmp b l := by
  cases l with
  | nil => rfl
  | cons x zs =>
    rw [List.cons_append, if_neg (by simp)]
    show (zs ++ [v]).foldl (fun w y => if b y w = true then y else w) x = _
    rw [List.foldl_append]
    rfl
theorem mem_wins {v x : Nat} : x ∈ winsN n b v ↔ x < n ∧ b v x = true := by
  unfold winsN
  rw [List.mem_filter, List.mem_range]
theorem dto_refl {s : List Nat × List Nat} (h : DOk n b s) : DTo n b s s := ⟨h, ⟨[], by simp⟩, ⟨[], by simp⟩, fun x h1 h2 => absurd h1 h2, fun x h => .inl h⟩
theorem dto_trans {s r t : List Nat × List Nat} (h1 : DTo n b s r) (h2 : DTo n b r t) : DTo n b s t := by
  obtain ⟨l1, e1⟩ := h1.pre
  obtain ⟨l2, e2⟩ := h2.pre
  obtain ⟨m1, f1⟩ := h1.suf
  obtain ⟨m2, f2⟩ := h2.suf
  refine ⟨h2.ok, ⟨l1 ++ l2, by rw [e2, e1, List.append_assoc]⟩, ⟨m1 ++ m2, by rw [f2, f1, List.append_assoc]⟩, fun x hx hn => ?_, fun x hx => ?_⟩
  · by_cases k : x ∈ r.1
    · rw [f2]
      exact List.mem_append_left _ (h1.fin x k hn)
    · exact h2.fin x hx k
  · rcases h2.new x hx with k | k
    · exact h1.new x k
    · exact .inr fun z => k (by rw [e1]; exact List.mem_append_left _ z)
variable (hA : ∀ i j, i < n → j < n → i ≠ j → b i j = !b j i) (hD : ∀ i, b i i = false)
include hA hD
theorem dfs_ok : ∀ (k v : Nat) (s : List Nat × List Nat), DOk n b s → v < n → v ∉ s.1 → n ≤ s.1.length + k → DTo n b s (dfs n b k v s) ∧ v ∈ (dfs n b k v s).1 ∧ ∃ l, (dfs n b k v s).2 = l ++ [v]
  | 0, v, s, h, hv, hn, hk => by
    have := nodup_low n (s.1 ++ [v]) (List.nodup_append.mpr ⟨h.nd, by simp, fun x hx y hy e => hn (by rw [← List.mem_singleton.mp hy, ← e]; exact hx)⟩) fun x hx => by
      rcases List.mem_append.mp hx with z | z
      · exact h.lt x z
      · rw [List.mem_singleton.mp z]
        exact hv
    rw [List.length_append, List.length_singleton] at this
    omega
  | k + 1, v, s, h, hv, hn, hk => by
    let f := fun (s : List Nat × List Nat) w => if w ∈ s.1 then s else dfs n b k w s
    let s0 : List Nat × List Nat := (s.1 ++ [v], s.2)
    have o0 : DOk n b s0 := ⟨List.nodup_append.mpr ⟨h.nd, by simp, fun x hx y hy e => hn (by rw [← List.mem_singleton.mp hy, ← e]; exact hx)⟩, fun x hx => by
        rcases List.mem_append.mp hx with z | z
        · exact h.lt x z
        · rw [List.mem_singleton.mp z]
          exact hv, fun x hx => List.mem_append_left _ (h.sub x hx), h.nd2, fun u hu x hx e => List.mem_append_left _ (h.cl u hu x hx e), h.ch⟩
    -- the loop
    have loop : ∀ (ws : List Nat) (r : List Nat × List Nat), (∀ w ∈ ws, w < n ∧ b v w = true) → DTo n b s0 r → (r.2 = s.2 ∨ ∃ l w, r.2 = l ++ [w] ∧ b v w = true) →
        DTo n b s0 (ws.foldl f r) ∧ (∃ l, (ws.foldl f r).1 = r.1 ++ l) ∧ (∀ w ∈ ws, w ∈ (ws.foldl f r).1) ∧ ((ws.foldl f r).2 = s.2 ∨ ∃ l w, (ws.foldl f r).2 = l ++ [w] ∧ b v w = true) := by
      intro ws
      induction ws with
      | nil => exact fun r _ d t => ⟨d, ⟨[], by simp⟩, fun _ z => (nomatch z), t⟩
      | cons w ws ih =>
        intro r hw d t
        have hw1 := hw w List.mem_cons_self
        have hw2 : ∀ x ∈ ws, x < n ∧ b v x = true := fun x hx => hw x (List.mem_cons_of_mem _ hx)
        rw [List.foldl_cons]
        by_cases m : w ∈ r.1
        · have e : f r w = r := if_pos m
          rw [e]
          obtain ⟨a1, ⟨l, a2⟩, a3, a4⟩ := ih r hw2 d t
          refine ⟨a1, ⟨l, a2⟩, fun x hx => ?_, a4⟩
          rcases List.mem_cons.mp hx with z | z
          · subst z
            rw [a2]
            exact List.mem_append_left _ m
          · exact a3 x z
        · have e : f r w = dfs n b k w r := if_neg m
          rw [e]
          have len : n ≤ r.1.length + k := by
            obtain ⟨l, el⟩ := d.pre
            rw [el, List.length_append]
            show n ≤ (s.1 ++ [v]).length + l.length + k
            rw [List.length_append, List.length_singleton]
            omega
          obtain ⟨c1, c2, l0, c3⟩ := dfs_ok k w r d.ok hw1.1 m len
          obtain ⟨a1, ⟨l, a2⟩, a3, a4⟩ := ih (dfs n b k w r) hw2 (dto_trans d c1) (.inr ⟨l0, w, c3, hw1.2⟩)
          obtain ⟨l', e'⟩ := c1.pre
          refine ⟨a1, ⟨l' ++ l, by rw [a2, e', List.append_assoc]⟩, fun x hx => ?_, a4⟩
          rcases List.mem_cons.mp hx with z | z
          · subst z
            rw [a2]
            exact List.mem_append_left _ c2
          · exact a3 x z
    obtain ⟨d, _, all, t⟩ := loop (winsN n b v) s0 (fun w hw => mem_wins.mp hw) (dto_refl o0) (.inl rfl)
    have ed : dfs n b (k + 1) v s = (((winsN n b v).foldl f s0).1, ((winsN n b v).foldl f s0).2 ++ [v]) := rfl
    rw [ed]
    generalize hr : (winsN n b v).foldl f s0 = r at *
    obtain ⟨l1, e1⟩ := d.pre
    obtain ⟨l2, e2⟩ := d.suf
    have vin : v ∈ r.1 := by
      rw [e1]
      exact List.mem_append_left _ (List.mem_append_right _ (List.mem_singleton.mpr rfl))
    have vout : v ∉ r.2 := fun z => by
      rcases d.new v z with z | z
      · exact hn (h.sub v z)
      · exact z (List.mem_append_right _ (List.mem_singleton.mpr rfl))
    have okr := d.ok
    refine ⟨⟨⟨okr.nd, okr.lt, fun x hx => ?_, ?_, fun u hu x hx e => ?_, fun l x e => ?_⟩, ⟨[v] ++ l1, by rw [e1, ← List.append_assoc]⟩, ⟨l2 ++ [v], by rw [e2, List.append_assoc]⟩, fun x hx hs => ?_, fun x hx => ?_⟩, vin, r.2, rfl⟩
    · rcases List.mem_append.mp hx with z | z
      · exact okr.sub x z
      · rw [List.mem_singleton.mp z]
        exact vin
    · exact List.nodup_append.mpr ⟨okr.nd2, by simp, fun x hx y hy e => vout (by rw [← List.mem_singleton.mp hy, ← e]; exact hx)⟩
    · rcases List.mem_append.mp hu with z | z
      · exact okr.cl u z x hx e
      · rw [List.mem_singleton.mp z] at e
        exact all x (mem_wins.mpr ⟨hx, e⟩)
    · have : x = v := (List.append_inj_right' e rfl |> fun z => by simpa using z.symm)
      subst this
      show chmp b (r.2 ++ [x]) = x
      rw [chmp_snoc]
      by_cases e0 : r.2 = []
      · rw [if_pos e0]
      rw [if_neg e0, if_pos]
      rcases t with t | ⟨l, w, t, tw⟩
      · -- nothing was put: the last one was finished before
        have ne : s.2 ≠ [] := fun z => e0 (by rw [t, z])
        have el : s.2 = s.2.dropLast ++ [s.2.getLast ne] := (List.dropLast_concat_getLast ne).symm
        have c := h.ch _ _ el
        rw [t, c]
        have mem := List.getLast_mem ne
        generalize s.2.getLast ne = u at *
        have um := h.sub u mem
        have ux : u ≠ x := fun z => hn (z ▸ um)
        rw [hA x u hv (h.lt u um) fun z => ux z.symm]
        cases q : b u x with
        | false => rfl
        | true => exact absurd (h.cl u mem x hv q) hn
      · rw [okr.ch l w t]
        exact tw
    · refine List.mem_append.mpr ?_
      by_cases z : x = v
      · exact .inr (by simp [z])
      · refine .inl (d.fin x hx fun q => ?_)
        rcases List.mem_append.mp q with q | q
        · exact hs q
        · exact z (List.mem_singleton.mp q)
    · rcases List.mem_append.mp hx with z | z
      · rcases d.new x z with z | z
        · exact .inl z
        · exact .inr fun q => z (List.mem_append_left _ q)
      · rw [List.mem_singleton.mp z]
        exact .inr hn
/-- the order from an alternative from which all are reached -/
theorem dfs_order {v : Nat} (hv : v < n) (reach : ∀ D : List Nat, v ∈ D → (∀ u ∈ D, u < n) → (∀ u ∈ D, ∀ x, x < n → b u x = true → x ∈ D) → ∀ x, x < n → x ∈ D) {m : Nat} (hm : n ≤ m) :
    let os := (dfs n b m v ([], [])).2
    os.Nodup ∧ (∀ x, x ∈ os ↔ x < n) ∧ chmp b os = v ∧ os ≠ [] := by
  have h0 : DOk n b ([], []) := ⟨by simp, by simp, by simp, by simp, by simp, by simp⟩
  obtain ⟨d, vin, l, e⟩ := dfs_ok hA hD m v ([], []) h0 hv (by simp) (by simp; omega)
  have ok := d.ok
  have all : ∀ x, x < n → x ∈ (dfs n b m v ([], [])).2 := reach _ (by rw [e]; simp) (fun u hu => ok.lt u (ok.sub u hu)) fun u hu x hx q => d.fin x (ok.cl u hu x hx q) (by simp)
  exact ⟨ok.nd2, fun x => ⟨fun h => ok.lt x (ok.sub x h), all x⟩, ok.ch l v e, by rw [e]; simp⟩
end
end DS
set_option maxHeartbeats 4000000
namespace DS
open PySem PySem.Spec PyProof.Rows L2
/-! ### balances of whole numbers -/
section
variable {n : Nat} {b : Nat → Nat → Bool} {i : Nat} {W : PyData} {w : Nat → Int}
theorem okSort_ints (is : List Int) : okSort (is.map .int) = true := by
  unfold okSort
  simp only [Bool.and_eq_true, Bool.or_eq_true, List.all_eq_true, List.mem_map, forall_exists_index, and_imp, forall_apply_eq_imp_iff₂, decide_eq_true_eq]
  refine ⟨⟨fun a _ b _ => rfl, .inr fun a _ => rfl⟩, fun a _ => ?_⟩
  simp [PyData.depth]
theorem foldl_max_le {x : Int} : ∀ (l : List Int) (y : Int), l.foldl max y ≤ x ↔ y ≤ x ∧ ∀ z ∈ l, z ≤ x
  | [], y => by simp
  | z :: l, y => by
    rw [List.foldl_cons, foldl_max_le l, List.forall_mem_cons, Int.max_le, and_assoc]
theorem le_foldl_min {x : Int} : ∀ (l : List Int) (y : Int), x ≤ l.foldl min y ↔ x ≤ y ∧ ∀ z ∈ l, x ≤ z
  | [], y => by simp
  | z :: l, y => by
    rw [List.foldl_cons, le_foldl_min l, List.forall_mem_cons, Int.le_min, and_assoc]
theorem min_ge0 {l : List Int} (h : l ≠ []) : ∃ m, minAD [.list (l.map .int)] = some (.int m) ∧ (0 ≤ m ↔ ∀ z ∈ l, 0 ≤ z) := by
  cases l with
  | nil => exact absurd rfl h
  | cons x l =>
    refine ⟨l.foldl min x, ?_, ?_⟩
    · show (if okSort ((x :: l).map .int) = true then some (PySem.W.minD (.int x) (l.map .int)) else none) = _
      rw [if_pos (okSort_ints _), PySem.W.minD_ints]
    · rw [le_foldl_min]
      simp
end
/-! ### the greatest common divisor -/
section
variable {i j : Nat} (c : PyData → PyData → Dn) (h1 : ∀ x y, getD i (c x y) = some x) (h2 : ∀ x y, getD j (c x y) = some y) (h3 : ∀ x y u v, ((c x y).set i (.dat u)).set j (.dat v) = c u v)
include h1 h2 h3
end
end DS
set_option maxHeartbeats 4000000
namespace DS
open PySem PySem.Spec PyProof.Rows L2
section
variable {n : Nat} {b : Nat → Nat → Bool} {S : List Nat} {kds : List (List Key × PyData)}
/-- the weights after the first t members -/
def wv (b : Nat → Nat → Bool) (S : List Nat) : Nat → Nat → Int
  | 0, _ => 0
  | t + 1, j => if j = S.getD t 0 then sgP t * pf (aI b) (S.length / 2) (S.eraseIdx t) else wv b S t j
theorem nd_getD (nd : S.Nodup) {s t : Nat} (hs : s < S.length) (ht : t < S.length) (e : S.getD s 0 = S.getD t 0) : s = t := by
  rw [List.getD_eq_getElem?_getD, List.getD_eq_getElem?_getD, List.getElem?_eq_getElem hs, List.getElem?_eq_getElem ht] at e
  exact (List.getElem_inj nd).mp e
def wS (b : Nat → Nat → Bool) (S : List Nat) : Nat → Int := wv b S S.length
/-- of one sign at the first member -/
def wT (b : Nat → Nat → Bool) (S : List Nat) : Nat → Int := fun i => if wS b S (S.getD 0 0) < 0 then - wS b S i else wS b S i
/-! ### the lottery -/
end
end DS
set_option maxHeartbeats 4000000
namespace DS
open PySem PySem.Spec PyProof.Rows L2
section
variable {n : Nat} {b : Nat → Nat → Bool} {S : List Nat} {kds : List (List Key × PyData)}
def Pass (n : Nat) (b : Nat → Nat → Bool) (S : List Nat) : Prop := S.length % 2 = 1 ∧ (∀ i, i < n → 0 ≤ wT b S i) ∧ ∀ i, i < n → Bl n (aI b) (wT b S) i ≤ 0
end
end DS
set_option maxHeartbeats 4000000
namespace DS
open PySem PySem.Spec PyProof.Rows L2
/-! ### is_lottery of any value -/
section
variable {n : Nat} {b : Nat → Nat → Bool} {v : PyData}
end
end DS
set_option maxHeartbeats 4000000
namespace DS
open PySem PySem.Spec PyProof.Rows L2
section
variable {n : Nat} {b : Nat → Nat → Bool}
/-! ### turn_duel -/
end
end DS
set_option maxHeartbeats 4000000
namespace DS
open PySem PySem.Spec PyProof.Rows L2
section
variable {n : Nat} {b : Nat → Nat → Bool} {S : List Nat}
end
/-! ### all weights up to 3 -/
end DS
set_option maxHeartbeats 4000000
namespace DS
open PySem PySem.Spec PyProof.Rows L2
section
variable {n : Nat} {b : Nat → Nat → Bool} {M : List Nat}
/-! ### alternatives picked in any order -/
theorem nthN_inj (nd : M.Nodup) {i j : Nat} (hi : i < M.length) (hj : j < M.length) (e : nth M i = nth M j) : i = j := nd_getD nd hi hj e
theorem subN_tour (t : Tour n b) (nd : M.Nodup) (low : ∀ x ∈ M, x < n) (h0 : 0 < M.length) (h9 : M.length ≤ 9) : Tour M.length (sub b M) :=
  ⟨h0, h9, fun i j hi hj ne => t.anti _ _ (low _ (nth_mem hi)) (low _ (nth_mem hj)) fun e => ne (nthN_inj nd hi hj e), fun i => t.diag _⟩
theorem nd_len (nd : M.Nodup) (low : ∀ x ∈ M, x < n) : M.length ≤ n := by
  have := len_sub (m := List.range n) (l := M) nd fun x hx => List.mem_range.mpr (low x hx)
  rwa [List.length_range] at this
theorem pickN_eq (t : Tour n b) (nd : M.Nodup) (low : ∀ x ∈ M, x < n) : sem_pick_table [tabD n b, tupN M] = some (tabD M.length (sub b M)) := by
  have m9 : M.length ≤ 9 := Nat.le_trans (nd_len nd low) t.nine
  have items : M.map ni = (List.range M.length).map fun i => ni (nth M i) := by
    have := congrArg (List.map ni) (nth_all M)
    rw [List.map_map] at this
    exact this.symm
  have lm : (List.range M.length).length < lim := by rw [List.length_range]; show M.length < 1000000; omega
  refine sem_ret (tup_map (l := List.range M.length) (g := fun i => ni (nth M i)) (m := fun i => .str (rowS M.length (sub b M) i)) (by rw [← items]; exact seq_tup rfl) lm fun i hi => ?_)
  have hi := List.mem_range.mp hi
  refine step_mapG rfl (bin2_eq rfl (lst_map (l := List.range M.length) (g := fun i => ni (nth M i)) (m := fun j => .str ⟨#[sgn (sub b M) i j]⟩) (by rw [← items]; exact seq_tup rfl) lm fun j hj => ?_) ?_)
  · have hj := List.mem_range.mp hj
    refine step_mapG rfl ((bin2_eq (bin2_eq rfl rfl (ix_tab (low _ (nth_mem hi)))) rfl (ix_row (Nat.le_trans t.nine (by decide)) (low _ (nth_mem hj)))).trans ?_)
    have : sgn b (nth M i) (nth M j) = sgn (sub b M) i j := by
      unfold sgn sub
      by_cases e : i = j
      · rw [if_pos e, if_pos (by rw [e])]
      · rw [if_neg e, if_neg fun q => e (nthN_inj nd hi hj q)]
    rw [this]
  · have j := join_row ((List.range M.length).map fun j => sgn (sub b M) i j) (by simp; omega)
    rw [List.map_map] at j
    exact j
theorem relabelN_eq (t : Tour n b) (nd : M.Nodup) (low : ∀ x ∈ M, x < n) : sem_relabel_table [tabD n b, tupN M] = some (tabD M.length (sub b M)) := sem_ret (callU_eq (ds := [tabD n b, tupN M]) rfl rfl (pickN_eq t nd low))
/-! ### the lottery of some, where the others have the weight 0 -/
/-! ### one more that loses to all -/
/-! ### a lost duel turned -/
end
end DS
set_option maxHeartbeats 4000000
/-! the counts of orders: their sums, who has any, renumbered, with one more alternative -/
namespace DS
open PySem PySem.Spec PyProof.Rows L2
section
variable {n : Nat} {b : Nat → Nat → Bool}
def tkF (b : Nat → Nat → Bool) (acc xs : List Nat) : List Nat := xs.foldl (fun acc one => if acc.all (b one) = true then acc ++ [one] else acc) acc
theorem tkF_snoc (acc zs : List Nat) (y : Nat) : tkF b acc (zs ++ [y]) = if (tkF b acc zs).all (b y) = true then tkF b acc zs ++ [y] else tkF b acc zs := by
  unfold tkF
  rw [List.foldl_append]
  rfl
theorem tkF_mem {p : Nat → Prop} : ∀ {xs acc : List Nat}, (∀ x ∈ acc, p x) → (∀ x ∈ xs, p x) → ∀ x ∈ tkF b acc xs, p x
  | [], _, h, _ => h
  | y :: xs, acc, h, hx => by
    have hy := hx y List.mem_cons_self
    have ht : ∀ x ∈ xs, p x := fun x m => hx x (List.mem_cons_of_mem _ m)
    show ∀ x ∈ tkF b (if acc.all (b y) = true then acc ++ [y] else acc) xs, p x
    refine tkF_mem ?_ ht
    split
    · intro x m
      rcases List.mem_append.mp m with m | m
      · exact h x m
      · rw [List.mem_singleton.mp m]
        exact hy
    · exact h
theorem tkF_ne : ∀ {xs acc : List Nat}, acc ≠ [] → tkF b acc xs ≠ []
  | [], _, h => h
  | y :: xs, acc, h => by
    show tkF b (if acc.all (b y) = true then acc ++ [y] else acc) xs ≠ []
    refine tkF_ne ?_
    split
    · exact fun e => nomatch (List.append_eq_nil_iff.mp e).2
    · exact h
def carF (b : Nat → Nat → Bool) (x : Nat) (zs : List Nat) : Nat := (tkF b [x] zs.reverse).getLast (tkF_ne (List.cons_ne_nil _ _))
theorem able_walk : ∀ (l acc : List Nat) (h : acc ≠ []), (∀ y ∈ l, y < n) → (tkF b acc l).getLast (tkF_ne h) = walkC b ((List.range n).filter fun z => acc.all (b z)) (acc.getLast h) l
  | [], acc, h, _ => rfl
  | y :: l, acc, h, hl => by
    have hy := hl y List.mem_cons_self
    have ht : ∀ x ∈ l, x < n := fun x m => hl x (List.mem_cons_of_mem _ m)
    have st : tkF b acc (y :: l) = tkF b (if acc.all (b y) = true then acc ++ [y] else acc) l := rfl
    have m : y ∈ ((List.range n).filter fun z => acc.all (b z)) ↔ acc.all (b y) = true := by
      rw [List.mem_filter]
      exact ⟨fun h => h.2, fun h => ⟨List.mem_range.mpr hy, h⟩⟩
    have e : walkC b ((List.range n).filter fun z => acc.all (b z)) (acc.getLast h) (y :: l) = if y ∈ ((List.range n).filter fun z => acc.all (b z)) then walkC b (((List.range n).filter fun z => acc.all (b z)).filter fun z => b z y) y l else walkC b ((List.range n).filter fun z => acc.all (b z)) (acc.getLast h) l := rfl
    rw [e]
    by_cases q : acc.all (b y) = true
    · have h2 : acc ++ [y] ≠ [] := by simp
      have := able_walk l (acc ++ [y]) h2 ht
      rw [if_pos (m.mpr q)]
      have ef : (((List.range n).filter fun z => acc.all (b z)).filter fun z => b z y) = (List.range n).filter fun z => (acc ++ [y]).all (b z) := by
        rw [List.filter_filter]
        refine List.filter_congr fun z _ => ?_
        rw [List.all_append]
        simp [Bool.and_comm]
      rw [ef]
      have el : (acc ++ [y]).getLast h2 = y := by simp
      rw [el] at this
      rw [← this]
      congr 1
      rw [st, if_pos q]
    · rw [if_neg fun z => q (m.mp z), ← able_walk l acc h ht]
      congr 1
      rw [st, if_neg q]
theorem car_walk {x : Nat} {zs : List Nat} (hx : ∀ y ∈ zs ++ [x], y < n) : carF b x zs = walkC b (List.range n) 0 (zs ++ [x]).reverse := by
  have h1 := hx x (by simp)
  have h2 : ∀ y ∈ zs.reverse, y < n := fun y h => hx y (List.mem_append_left _ (List.mem_reverse.mp h))
  rw [List.reverse_append]
  show _ = (if x ∈ List.range n then walkC b ((List.range n).filter fun z => b z x) x zs.reverse else _)
  rw [if_pos (List.mem_range.mpr h1), carF, able_walk zs.reverse [x] (List.cons_ne_nil _ _) h2]
  have : ((List.range n).filter fun z => [x].all (b z)) = (List.range n).filter fun z => b z x := List.filter_congr fun z _ => by simp
  rw [this]
  rfl
theorem fullB_above : ((List.range n).filter fun i => xs.all (b i)).isEmpty = fullB n b xs := by
  unfold fullB
  rw [Bool.eq_iff_iff]
  simp
theorem tkF_chain (t : Tour n b) : ∀ c : List Nat, (c.Pairwise fun x y => b x y = true) → tkF b [] c.reverse = c.reverse
  | [], _ => rfl
  | x :: c, h => by
    obtain ⟨h1, h2⟩ := List.pairwise_cons.mp h
    rw [List.reverse_cons, tkF_snoc, tkF_chain t c h2, if_pos (List.all_eq_true.mpr fun y hy => h1 y (List.mem_reverse.mp hy))]
theorem tkF_full {c : List Nat} (h : fullB n b c = true) : ∀ zs : List Nat, (∀ z ∈ zs, z < n) → tkF b c.reverse zs = c.reverse
  | [], _ => rfl
  | z :: zs, hz => by
    have nb : ¬ c.reverse.all (b z) = true := fun k => by
      rw [← fullB_above, List.isEmpty_iff, List.filter_eq_nil_iff] at h
      refine h z (List.mem_range.mpr (hz z List.mem_cons_self)) (List.all_eq_true.mpr fun y hy => List.all_eq_true.mp k y (List.mem_reverse.mpr hy))
    show tkF b (if c.reverse.all (b z) = true then c.reverse ++ [z] else c.reverse) zs = _
    rw [if_neg nb]
    exact tkF_full h zs fun y hy => hz y (List.mem_cons_of_mem _ hy)
theorem full_of {c : List Nat} (h : ∀ z, z < n → ¬ c.all (b z) = true) : fullB n b c = true := by
  rw [← fullB_above, List.isEmpty_iff, List.filter_eq_nil_iff]
  exact fun z hz => h z (List.mem_range.mp hz)
theorem mem_fullL (t : Tour n b) {c : List Nat} : c ∈ fullL n b ↔ IsCh n b c ∧ fullB n b c = true := by
  unfold fullL
  rw [List.mem_filter, mem_allL t]
theorem sqC_sum {S : List Nat} (hn : S.Nodup) (h0 : S ≠ []) (hS : ∀ x ∈ S, x < n) : ((List.range n).map (sqC b S)).sum = fc S.length := by
  have h := count_fiber (n := n) (fun _ => true) (seqF b) (ords S.length S) fun o ho => by
    have hp := (mem_ords hn rfl).mp ho
    have ne : o ≠ [] := fun e => h0 (by rw [e] at hp; exact (List.nil_perm.mp hp))
    exact hS _ (hp.mem_iff.mp (seqF_mem ne))
  simp only [if_true] at h
  have e : ((List.range n).map (sqC b S)).sum = ((List.range n).map fun v => (ords S.length S).countP fun o => seqF b o == v).sum := rfl
  rw [e, ← h, List.countP_true, ords_len hn rfl]
theorem walkC_low {m : Nat} : ∀ (l A : List Nat) (u : Nat), u < m → (∀ x ∈ l, x < m) → walkC b A u l < m
  | [], _, _, h, _ => h
  | y :: l, A, u, hu, hl => by
    show (if y ∈ A then walkC b (A.filter fun z => b z y) y l else walkC b A u l) < m
    split
    · exact walkC_low l _ y (hl y List.mem_cons_self) fun x hx => hl x (List.mem_cons_of_mem _ hx)
    · exact walkC_low l A u hu fun x hx => hl x (List.mem_cons_of_mem _ hx)
theorem cqC_sum (h0 : 0 < n) : ((List.range n).map (cqC b (List.range n))).sum = fc n := by
  have h := count_fiber (n := n) (fun _ => true) (fun o : List Nat => walkC b (List.range n) 0 o.reverse) (ords (List.range n).length (List.range n)) fun o ho => by
    have hp := (mem_ords List.nodup_range rfl).mp ho
    exact walkC_low _ _ _ h0 fun x hx => List.mem_range.mp (hp.mem_iff.mp (List.mem_reverse.mp hx))
  simp only [if_true] at h
  have e : ((List.range n).map (cqC b (List.range n))).sum = ((List.range n).map fun v => (ords (List.range n).length (List.range n)).countP fun (o : List Nat) => walkC b (List.range n) 0 o.reverse == v).sum := rfl
  rw [e, ← h, List.countP_true, ords_len List.nodup_range rfl, List.length_range]
theorem sqC_pos {w : Nat} : 0 < sqC b (List.range n) w ↔ ∃ o : List Nat, o.Perm (List.range n) ∧ seqF b o = w := by
  show 0 < (ords _ _).countP _ ↔ _
  rw [List.countP_pos_iff]
  constructor
  · rintro ⟨o, ho, e⟩
    exact ⟨o, (mem_ords List.nodup_range rfl).mp ho, beq_iff_eq.mp e⟩
  · rintro ⟨o, ho, e⟩
    exact ⟨o, (mem_ords List.nodup_range rfl).mpr ho, beq_iff_eq.mpr e⟩
theorem cqC_pos {w : Nat} : 0 < cqC b (List.range n) w ↔ ∃ o : List Nat, o.Perm (List.range n) ∧ walkC b (List.range n) 0 o.reverse = w := by
  show 0 < (ords _ _).countP _ ↔ _
  rw [List.countP_pos_iff]
  constructor
  · rintro ⟨o, ho, e⟩
    exact ⟨o, (mem_ords List.nodup_range rfl).mp ho, beq_iff_eq.mp e⟩
  · rintro ⟨o, ho, e⟩
    exact ⟨o, (mem_ords List.nodup_range rfl).mpr ho, beq_iff_eq.mpr e⟩
/-! who wins some sequence: the top set -/
theorem seq_top {T : List Nat} (hd : ∀ x ∈ T, ∀ y, y < n → y ∉ T → b x y = true) (ha : ∀ i j, i < n → j < n → i ≠ j → b i j = !b j i) (low : ∀ x ∈ T, x < n) :
    ∀ (o : List Nat), (∀ x ∈ o, x < n) → (∃ x ∈ o, x ∈ T) → seqF b o ∈ T := by
  intro o
  have key : ∀ (k : Nat) (o : List Nat), o.length = k → (∀ x ∈ o, x < n) → (∃ x ∈ o, x ∈ T) → seqF b o ∈ T := by
    intro k
    induction k with
    | zero =>
      rintro o hl _ ⟨x, hx, _⟩
      rw [List.length_eq_zero_iff.mp hl] at hx
      cases hx
    | succ k ih =>
      rintro o hl lo ⟨x, hx, xT⟩
      have ne : o ≠ [] := fun e => by rw [e] at hx; cases hx
      have e := List.dropLast_concat_getLast ne
      generalize o.dropLast = p at e
      generalize o.getLast ne = y at e
      subst e
      have hp : p.length = k := by simpa using hl
      have lp : ∀ x ∈ p, x < n := fun x h => lo x (List.mem_append_left _ h)
      have hy : y < n := lo y (by simp)
      by_cases pe : p = []
      · subst pe
        have : x = y := by simpa using hx
        subst this
        exact xT
      · rw [seqF_snoc pe]
        by_cases yT : y ∈ T
        · by_cases q : b y (seqF b p) = true
          · rw [if_pos q]; exact yT
          · rw [if_neg q]
            apply Classical.byContradiction
            intro nT
            exact q (hd y yT _ (lp _ (seqF_mem pe)) nT)
        · have xp : x ∈ p := (List.mem_append.mp hx).elim id fun h => absurd (by rw [← List.mem_singleton.mp h]; exact xT) yT
          have sT := ih p hp lp ⟨x, xp, xT⟩
          have q := hd _ sT y hy yT
          have : b y (seqF b p) = false := by
            rw [ha y _ hy (low _ sT) fun e => yT (by rw [e]; exact sT), q]
            rfl
          rw [if_neg (by rw [this]; exact Bool.false_ne_true)]
          exact sT
  exact key _ o rfl
theorem sqC_top (t : Tour n b) {T : List Nat} {rs : List (List Nat)} (e : domS n b = T :: rs) {w : Nat} : 0 < sqC b (List.range n) w ↔ w ∈ T := by
  obtain ⟨h1, h2, h3⟩ := (domS_mem t).mp (show T ∈ domS n b by rw [e]; exact List.mem_cons_self)
  have low := set_low h1
  rw [sqC_pos]
  constructor
  · rintro ⟨o, hp, rfl⟩
    have lo : ∀ x ∈ o, x < n := fun x hx => List.mem_range.mp (hp.mem_iff.mp hx)
    obtain ⟨x, hx⟩ := List.exists_mem_of_length_pos h2
    exact seq_top (fun x hx y hy ny => domB_iff.mp h3 x hx y hy ny) t.anti low o lo ⟨x, hp.mem_iff.mpr (List.mem_range.mpr (low x hx)), hx⟩
  · intro hw
    have := dfs_order t.anti t.diag (low w hw) (fun D h1 lw cl => closed_all t e hw h1 fun p hp w hw q => cl p hp w hw q) (m := 9) t.nine
    obtain ⟨o1, o2, o3, o4⟩ := this
    refine ⟨(dfs n b 9 w ([], [])).2, (List.perm_ext_iff_of_nodup o1 List.nodup_range).mpr fun x => (o2 x).trans List.mem_range.symm, ?_⟩
    have eq : ∀ os : List Nat, seqF b os = chmp b os := fun os => by cases os <;> rfl
    exact (eq _).trans o3
/-! who wins some careful sequence: the tops of full chains -/
theorem walk_tk {o : List Nat} (ne : o ≠ []) (h : ∀ x ∈ o, x < n) : ∃ q : tkF b [] o.reverse ≠ [], walkC b (List.range n) 0 o.reverse = (tkF b [] o.reverse).getLast q := by
  have e := List.dropLast_concat_getLast ne
  generalize o.dropLast = zs at e
  generalize o.getLast ne = x at e
  subst e
  have r : (zs ++ [x]).reverse = x :: zs.reverse := by simp
  have s : tkF b [] (zs ++ [x]).reverse = tkF b [x] zs.reverse := by rw [r]; rfl
  rw [← car_walk h]
  refine ⟨by rw [s]; exact tkF_ne (List.cons_ne_nil _ _), ?_⟩
  unfold carF
  congr 1
  exact s.symm
theorem tkF_sub : ∀ (l acc : List Nat), ∀ x ∈ acc, x ∈ tkF b acc l
  | [], _, _, h => h
  | y :: l, acc, x, h => by
    show x ∈ tkF b (if acc.all (b y) = true then acc ++ [y] else acc) l
    refine tkF_sub l _ x ?_
    split
    · exact List.mem_append_left _ h
    · exact h
theorem tkF_no (diag : ∀ i, b i i = false) : ∀ (l acc : List Nat), ∀ z ∈ l, ¬ (tkF b acc l).all (b z) = true
  | y :: l, acc, z, hz => by
    show ¬ (tkF b (if acc.all (b y) = true then acc ++ [y] else acc) l).all (b z) = true
    rcases List.mem_cons.mp hz with e | e
    · subst e
      intro k
      by_cases q : acc.all (b z) = true
      · rw [if_pos q] at k
        have := List.all_eq_true.mp k z (tkF_sub l _ z (by simp))
        rw [diag] at this
        cases this
      · rw [if_neg q] at k
        exact q (List.all_eq_true.mpr fun x hx => List.all_eq_true.mp k x (tkF_sub l _ x hx))
    · exact tkF_no diag l _ z e
theorem tkF_pair : ∀ (l acc : List Nat), (acc.reverse.Pairwise fun x y => b x y = true) → (tkF b acc l).reverse.Pairwise fun x y => b x y = true
  | [], _, h => h
  | y :: l, acc, h => by
    show (tkF b (if acc.all (b y) = true then acc ++ [y] else acc) l).reverse.Pairwise _
    refine tkF_pair l _ ?_
    split
    · rename_i q
      rw [List.reverse_append]
      exact List.pairwise_cons.mpr ⟨fun x hx => List.all_eq_true.mp q x (List.mem_reverse.mp hx), h⟩
    · exact h
theorem cqC_top (t : Tour n b) {w : Nat} : 0 < cqC b (List.range n) w ↔ w ∈ topsL n b := by
  rw [cqC_pos, mem_topsL t]
  have h0 : (List.range n) ≠ [] := fun e => by have := congrArg List.length e; rw [List.length_range] at this; have := t.one; simp at *; omega
  constructor
  · rintro ⟨o, hp, rfl⟩
    have lo : ∀ x ∈ o, x < n := fun x hx => List.mem_range.mp (hp.mem_iff.mp hx)
    have ne : o ≠ [] := fun e => h0 (by rw [e] at hp; exact List.nil_perm.mp hp)
    obtain ⟨q, e⟩ := walk_tk (b := b) ne lo
    refine ⟨(tkF b [] o.reverse).reverse, (mem_fullL t).mpr ⟨⟨by simpa using q, fun x hx => ?_, tkF_pair _ _ (by simp)⟩, full_of fun z hz k => ?_⟩, ?_⟩
    · exact tkF_mem (p := fun x => x < n) (fun x h => absurd h List.not_mem_nil) (fun x hx => lo x (List.mem_reverse.mp hx)) x (List.mem_reverse.mp hx)
    · refine tkF_no t.diag o.reverse [] z (List.mem_reverse.mpr (hp.mem_iff.mpr (List.mem_range.mpr hz))) (List.all_eq_true.mpr fun x hx => List.all_eq_true.mp k x (List.mem_reverse.mpr hx))
    · rw [e, List.head?_reverse, List.getLast?_eq_some_getLast q]
  · rintro ⟨c, hc, hw⟩
    obtain ⟨ic, fl⟩ := (mem_fullL t).mp hc
    have cn : c.Nodup := ic.2.2.imp fun {x y} h e => by rw [e, t.diag] at h; cases h
    have cl := ic.2.1
    have pm : (((List.range n).filter fun x => !c.contains x) ++ c).Perm (List.range n) := (List.perm_ext_iff_of_nodup (List.nodup_append.mpr ⟨List.nodup_range.filter _, cn, fun a ha x hx e => by
      have := (List.mem_filter.mp ha).2
      rw [e, List.contains_iff_mem.mpr hx] at this
      cases this⟩) List.nodup_range).mpr fun x => by
      rw [List.mem_append, List.mem_filter, List.mem_range]
      constructor
      · rintro (h | h)
        · exact h.1
        · exact cl x h
      · intro h
        by_cases q : x ∈ c
        · exact .inr q
        · exact .inl ⟨h, by simpa using q⟩
    refine ⟨_, pm, ?_⟩
    have ne : ((List.range n).filter fun x => !c.contains x) ++ c ≠ [] := fun e => ic.1 (List.append_eq_nil_iff.mp e).2
    obtain ⟨q, e⟩ := walk_tk (b := b) ne fun x hx => List.mem_range.mp (pm.mem_iff.mp hx)
    rw [e]
    have ek : tkF b [] (((List.range n).filter fun x => !c.contains x) ++ c).reverse = c.reverse := by
      rw [List.reverse_append]
      show List.foldl _ [] (c.reverse ++ _) = _
      rw [List.foldl_append]
      show tkF b (tkF b [] c.reverse) _ = _
      rw [tkF_chain t c ic.2.2]
      exact tkF_full fl _ fun z hz => List.mem_range.mp (List.mem_filter.mp (List.mem_reverse.mp hz)).1
    have e2 : (tkF b [] (((List.range n).filter fun x => !c.contains x) ++ c).reverse).getLast? = some w := by
      rw [ek, List.getLast?_reverse]
      exact hw
    rw [List.getLast?_eq_some_getLast q] at e2
    exact Option.some.inj e2
/-! renumbered -/
theorem seqF_map {b c : Nat → Nat → Bool} {π : Nat → Nat} : ∀ (o : List Nat), o ≠ [] → (∀ x ∈ o, ∀ y ∈ o, c x y = b (π x) (π y)) → seqF b (o.map π) = π (seqF c o) := by
  have key : ∀ (k : Nat) (o : List Nat), o.length = k → o ≠ [] → (∀ x ∈ o, ∀ y ∈ o, c x y = b (π x) (π y)) → seqF b (o.map π) = π (seqF c o) := by
    intro k
    induction k with
    | zero => exact fun o hl ne => absurd (List.length_eq_zero_iff.mp hl) ne
    | succ k ih =>
      intro o hl ne h
      have e := List.dropLast_concat_getLast ne
      generalize o.dropLast = p at e
      generalize o.getLast ne = y at e
      subst e
      by_cases pe : p = []
      · subst pe; rfl
      · rw [List.map_append, List.map_singleton, seqF_snoc (by simpa using pe), seqF_snoc pe, ih p (by simpa using hl) pe fun x hx y hy => h x (by simp [hx]) y (by simp [hy]), h y (by simp) _ (List.mem_append_left _ (seqF_mem pe))]
        split <;> rfl
  exact fun o => key _ o rfl
theorem walkC_map {b c : Nat → Nat → Bool} {π : Nat → Nat} {S : List Nat} (inj : ∀ x ∈ S, ∀ y ∈ S, π x = π y → x = y) (hc : ∀ x ∈ S, ∀ y ∈ S, c x y = b (π x) (π y)) : ∀ (l A : List Nat) (t u : Nat), (∀ x ∈ l, x ∈ S) → (∀ x ∈ A, x ∈ S) →
    (l = [] → u = π t) → ((∀ x ∈ l, x ∉ A) → u = π t) → walkC b (A.map π) u (l.map π) = π (walkC c A t l)
  | [], _, _, _, _, _, h, _ => h rfl
  | y :: l, A, t, u, hl, hA, _, h2 => by
    have yS := hl y List.mem_cons_self
    have lS : ∀ x ∈ l, x ∈ S := fun x hx => hl x (List.mem_cons_of_mem _ hx)
    show (if π y ∈ A.map π then walkC b ((A.map π).filter fun z => b z (π y)) (π y) (l.map π) else walkC b (A.map π) u (l.map π)) = π (if y ∈ A then walkC c (A.filter fun z => c z y) y l else walkC c A t l)
    have m : π y ∈ A.map π ↔ y ∈ A := by
      rw [List.mem_map]
      exact ⟨fun ⟨x, hx, e⟩ => by rw [← inj x (hA x hx) y yS e]; exact hx, fun h => ⟨y, h, rfl⟩⟩
    by_cases q : y ∈ A
    · rw [if_pos (m.mpr q), if_pos q]
      have e : (A.map π).filter (fun z => b z (π y)) = (A.filter fun z => c z y).map π := by
        rw [List.filter_map]
        congr 1
        exact List.filter_congr fun z hz => (hc z (hA z hz) y yS).symm
      rw [e]
      exact walkC_map inj hc l _ y (π y) lS (fun x hx => hA x (List.mem_filter.mp hx).1) (fun _ => rfl) fun _ => rfl
    · rw [if_neg fun z => q (m.mp z), if_neg q]
      by_cases le : l = []
      · subst le
        exact (h2 fun x hx => by rw [List.mem_singleton.mp hx]; exact q)
      · exact walkC_map inj hc l A t u lS hA (fun e => absurd e le) fun h => h2 fun x hx => (List.mem_cons.mp hx).elim (fun e => by rw [e]; exact q) (h x)
theorem ords_map {π : Nat → Nat} {S U : List Nat} (hn : S.Nodup) (hU : U.Nodup) (inj : ∀ x ∈ S, ∀ y ∈ S, π x = π y → x = y) (hp : (S.map π).Perm U) : ((ords S.length S).map (List.map π)).Perm (ords U.length U) := by
  have lU : S.length = U.length := by rw [← hp.length_eq, List.length_map]
  refine (List.perm_ext_iff_of_nodup (List.pairwise_map.mpr ((ords_nodup hn rfl).imp_of_mem fun {x y} hx hy ne e => ne ?_)) (ords_nodup hU rfl)).mpr fun o => ?_
  · rw [mem_ords hU rfl, List.mem_map]
    constructor
    · rintro ⟨p, hm, rfl⟩
      exact (((mem_ords hn rfl).mp hm).map π).trans hp
    · intro ho
      have : ∀ (o V : List Nat), o.Perm V → ∀ S : List Nat, S.map π = V → ∃ p : List Nat, p.Perm S ∧ p.map π = o := by
        intro o V h
        induction h with
        | nil => intro S e; exact ⟨S, .refl _, e⟩
        | cons x h ih =>
          intro S e
          cases S with
          | nil => cases e
          | cons s S =>
            simp only [List.map_cons, List.cons.injEq] at e
            obtain ⟨p, h1, h2⟩ := ih S e.2
            exact ⟨s :: p, h1.cons s, by simp [h2, e.1]⟩
        | swap x y l =>
          intro S e
          match S, e with
          | s :: r :: S, e =>
            simp only [List.map_cons, List.cons.injEq] at e
            exact ⟨r :: s :: S, .swap s r S, by simp [e.1, e.2.1, e.2.2]⟩
        | trans h1 h2 ih1 ih2 =>
          intro S e
          obtain ⟨p, a1, a2⟩ := ih2 S e
          obtain ⟨q, b1, b2⟩ := ih1 p a2
          exact ⟨q, b1.trans a1, b2⟩
      obtain ⟨p, h1, h2⟩ := this o _ (ho.trans hp.symm) S rfl
      exact ⟨p, (mem_ords hn rfl).mpr h1, h2⟩
  · have px := (mem_ords hn rfl).mp hx
    have py := (mem_ords hn rfl).mp hy
    refine List.ext_getElem (by rw [px.length_eq, py.length_eq]) fun i h1 h2 => inj _ (px.mem_iff.mp (List.getElem_mem h1)) _ (py.mem_iff.mp (List.getElem_mem h2)) ?_
    have := congrArg (fun l => l[i]?) e
    simpa [h1, h2] using this
theorem relabel_map {os : List Nat} (hp : os.Perm (List.range n)) : ((List.range n).map fun i => nth os i).Perm (List.range n) ∧ ∀ x ∈ List.range n, ∀ y ∈ List.range n, nth os x = nth os y → x = y := by
  have ln : os.length = n := by rw [hp.length_eq, List.length_range]
  have nd : os.Nodup := hp.nodup_iff.mpr List.nodup_range
  constructor
  · have : ((List.range n).map fun i => nth os i) = os := by
      refine List.ext_getElem (by simp [ln]) fun i h1 h2 => ?_
      rw [List.getElem_map, List.getElem_range]
      unfold nth
      simp [h2]
    rw [this]
    exact hp
  · intro x hx y hy e
    exact nthN_inj nd (by rw [ln]; exact List.mem_range.mp hx) (by rw [ln]; exact List.mem_range.mp hy) e
theorem sqC_rel {os : List Nat} (hp : os.Perm (List.range n)) {i : Nat} (hi : i < n) : sqC (sub b os) (List.range n) i = sqC b (List.range n) (nth os i) := by
  obtain ⟨h1, h2⟩ := relabel_map hp
  have pm := ords_map List.nodup_range List.nodup_range h2 h1
  show (ords _ _).countP _ = (ords _ _).countP _
  refine Eq.trans ?_ (pm.countP_eq _)
  rw [List.countP_map]
  refine List.countP_congr fun o ho => ?_
  have po := (mem_ords List.nodup_range rfl).mp ho
  have ne : o ≠ [] := fun e => by rw [e] at po; have := po.length_eq; rw [List.length_range] at this; simp at this; omega
  show (seqF (sub b os) o == i) = true ↔ (seqF b (o.map fun i => nth os i) == nth os i) = true
  rw [seqF_map (b := b) (c := sub b os) (π := fun i => nth os i) o ne fun x _ y _ => rfl, beq_iff_eq, beq_iff_eq]
  exact ⟨fun e => by rw [e], fun e => h2 _ (po.mem_iff.mp (seqF_mem ne)) _ (List.mem_range.mpr hi) e⟩
theorem cqC_rel (t : Tour n b) {os : List Nat} (hp : os.Perm (List.range n)) {i : Nat} (hi : i < n) : cqC (sub b os) (List.range n) i = cqC b (List.range n) (nth os i) := by
  obtain ⟨h1, h2⟩ := relabel_map hp
  have pm := ords_map List.nodup_range List.nodup_range h2 h1
  show (ords _ _).countP _ = (ords _ _).countP _
  refine Eq.trans ?_ (pm.countP_eq _)
  rw [List.countP_map]
  refine List.countP_congr fun o ho => ?_
  have po := (mem_ords List.nodup_range rfl).mp ho
  have ne : o ≠ [] := fun e => by rw [e] at po; have := po.length_eq; rw [List.length_range] at this; simp at this; omega
  have inR : ∀ x ∈ o.reverse, x ∈ List.range n := fun x hx => po.mem_iff.mp (List.mem_reverse.mp hx)
  show (walkC (sub b os) (List.range n) 0 o.reverse == i) = true ↔ (walkC b (List.range n) 0 (o.map fun i => nth os i).reverse == nth os i) = true
  have e1 : walkC b ((List.range n).map fun i => nth os i) 0 (o.reverse.map fun i => nth os i) = nth os (walkC (sub b os) (List.range n) 0 o.reverse) := walkC_map h2 (fun x _ y _ => rfl) o.reverse (List.range n) 0 0 inR (fun _ h => h) (fun e => absurd (List.reverse_eq_nil_iff.mp e) ne) fun h => by
    obtain ⟨x, hx⟩ := List.exists_mem_of_ne_nil _ (fun e => ne (List.reverse_eq_nil_iff.mp e) : o.reverse ≠ [])
    exact absurd (inR x hx) (h x hx)
  have e2 : ∀ (l A B : List Nat) (u : Nat), (∀ x, x ∈ A ↔ x ∈ B) → walkC b A u l = walkC b B u l := fun l => by
    induction l with
    | nil => exact fun _ _ _ _ => rfl
    | cons y l ih =>
      intro A B u h
      show (if y ∈ A then walkC b (A.filter fun z => b z y) y l else walkC b A u l) = if y ∈ B then walkC b (B.filter fun z => b z y) y l else walkC b B u l
      by_cases q : y ∈ A
      · rw [if_pos q, if_pos ((h y).mp q)]
        exact ih _ _ y fun x => by rw [List.mem_filter, List.mem_filter, h x]
      · rw [if_neg q, if_neg fun z => q ((h y).mpr z)]
        exact ih _ _ u h
  rw [← List.map_reverse, ← e2 _ _ _ 0 fun x => h1.mem_iff, e1, beq_iff_eq, beq_iff_eq]
  exact ⟨fun e => by rw [e], fun e => h2 _ (List.mem_range.mpr (walkC_low _ _ _ (by omega) fun x hx => List.mem_range.mp (inR x hx))) _ (List.mem_range.mpr hi) e⟩
/-! one more alternative, that loses to all -/
theorem ins_count {L : Nat} : ∀ (k : Nat) (S : List Nat) (q : List Nat → Bool), S.Nodup → S.length = k → L ∉ S → (ords (k + 1) (S ++ [L])).countP (fun o => q (o.filter fun x => x != L)) = (k + 1) * (ords k S).countP q := by
  intro k
  induction k with
  | zero =>
    intro S q hn hl hL
    rw [List.length_eq_zero_iff.mp hl]
    have : ords 1 ([] ++ [L]) = [[L]] := by simp [ords]
    rw [this]
    by_cases h : q [] = true <;> simp [ords, h]
  | succ k ih =>
    intro S q hn hl hL
    have e1 : (S.map fun x => (ords (k + 1) ((S ++ [L]).erase x)).countP fun o => q ((o ++ [x]).filter fun x => x != L)) = S.map fun x => (k + 1) * ((ords k (S.erase x)).countP fun o => q (o ++ [x])) := List.map_congr_left fun x hx => by
      have ne : x ≠ L := fun e => hL (by rw [← e]; exact hx)
      rw [List.erase_append_left _ hx, ← ih (S.erase x) (fun o => q (o ++ [x])) (hn.erase x) (by rw [List.length_erase_of_mem hx, hl]; rfl) fun z => hL (List.mem_of_mem_erase z)]
      refine List.countP_congr fun o _ => ?_
      rw [List.filter_append]
      simp [ne]
    have e2 : (ords (k + 1) ((S ++ [L]).erase L)).countP (fun o => q ((o ++ [L]).filter fun x => x != L)) = (ords (k + 1) S).countP q := by
      have : (S ++ [L]).erase L = S := by rw [List.erase_append_right _ hL]; simp
      rw [this]
      refine List.countP_congr fun o ho => ?_
      have po := (mem_ords hn hl).mp ho
      have : (o ++ [L]).filter (fun x => x != L) = o := by
        rw [List.filter_append]
        have : o.filter (fun x => x != L) = o := List.filter_eq_self.mpr fun x hx => by
          have : x ≠ L := fun e => hL (by rw [← e]; exact po.mem_iff.mp hx)
          simpa using this
        rw [this]
        simp
      rw [this]
    rw [ords_count, List.map_append, List.sum_append, e1, sum_mul, List.map_singleton, List.sum_singleton, e2, ords_count (k := k) (S := S), Nat.succ_mul (k + 1)]
theorem filt_nil {L : Nat} {p : List Nat} (h : p.filter (fun x => x != L) = []) : ∀ x ∈ p, x = L := fun x hx => by
  have := List.filter_eq_nil_iff.mp h x hx
  simpa using this
theorem seqF_lose {b : Nat → Nat → Bool} {L : Nat} {S : List Nat} (h1 : ∀ x ∈ S, b L x = false) (h2 : ∀ x ∈ S, b x L = true) (h3 : b L L = false) : ∀ (o : List Nat), (∀ x ∈ o, x ∈ S ∨ x = L) → o.filter (fun x => x != L) ≠ [] → seqF b o = seqF b (o.filter fun x => x != L) := by
  have key : ∀ (k : Nat) (o : List Nat), o.length = k → (∀ x ∈ o, x ∈ S ∨ x = L) → o.filter (fun x => x != L) ≠ [] → seqF b o = seqF b (o.filter fun x => x != L) := by
    intro k
    induction k with
    | zero => exact fun o hl _ ne => absurd (by rw [List.length_eq_zero_iff.mp hl]; rfl) ne
    | succ k ih =>
      intro o hl ho nf
      have ne : o ≠ [] := fun e => nf (by rw [e]; rfl)
      have e := List.dropLast_concat_getLast ne
      generalize o.dropLast = p at e
      generalize o.getLast ne = y at e
      subst e
      have hp : p.length = k := by simpa using hl
      have lp : ∀ x ∈ p, x ∈ S ∨ x = L := fun x h => ho x (List.mem_append_left _ h)
      by_cases yL : y = L
      · subst yL
        have ef : (p ++ [y]).filter (fun x => x != y) = p.filter fun x => x != y := by rw [List.filter_append]; simp
        rw [ef] at nf ⊢
        have pe : p ≠ [] := fun e => nf (by rw [e]; rfl)
        have r := ih p hp lp nf
        rw [seqF_snoc pe, r]
        have m := List.mem_filter.mp (seqF_mem (b := b) nf)
        have mS : seqF b (p.filter fun x => x != y) ∈ S := (lp _ m.1).elim id fun e => absurd e (by simpa using m.2)
        rw [if_neg (by rw [h1 _ mS]; exact Bool.false_ne_true)]
      · have yS : y ∈ S := (ho y (by simp)).elim id fun e => absurd e yL
        have ef : (p ++ [y]).filter (fun x => x != L) = p.filter (fun x => x != L) ++ [y] := by rw [List.filter_append]; simp [yL]
        rw [ef]
        by_cases pe : p = []
        · subst pe; rfl
        · by_cases pf : p.filter (fun x => x != L) = []
          · rw [pf, seqF_snoc pe, filt_nil pf _ (seqF_mem pe), if_pos (h2 y yS)]
            rfl
          · rw [seqF_snoc pe, seqF_snoc pf, ih p hp lp pf]
  exact fun o => key _ o rfl
theorem seqF_congr {b c : Nat → Nat → Bool} {S : List Nat} (h : ∀ x ∈ S, ∀ y ∈ S, b x y = c x y) {o : List Nat} (ne : o ≠ []) (ho : ∀ x ∈ o, x ∈ S) : seqF b o = seqF c o := by
  have := seqF_map (b := b) (c := c) (π := fun x => x) o ne fun x hx y hy => (h x (ho x hx) y (ho y hy)).symm
  rw [← this]
  simp
theorem walkC_congr {b c : Nat → Nat → Bool} {S : List Nat} (h : ∀ x ∈ S, ∀ y ∈ S, b x y = c x y) : ∀ (l A : List Nat) (t : Nat), (∀ x ∈ l, x ∈ S) → (∀ x ∈ A, x ∈ S) → walkC b A t l = walkC c A t l
  | [], _, _, _, _ => rfl
  | y :: l, A, t, hl, hA => by
    have yS := hl y List.mem_cons_self
    have lS : ∀ x ∈ l, x ∈ S := fun x hx => hl x (List.mem_cons_of_mem _ hx)
    show (if y ∈ A then walkC b (A.filter fun z => b z y) y l else walkC b A t l) = if y ∈ A then walkC c (A.filter fun z => c z y) y l else walkC c A t l
    by_cases q : y ∈ A
    · rw [if_pos q, if_pos q, List.filter_congr fun z hz => h z (hA z hz) y yS]
      exact walkC_congr h l _ y lS fun x hx => hA x (List.mem_filter.mp hx).1
    · rw [if_neg q, if_neg q]
      exact walkC_congr h l A t lS hA
theorem walkC_skip {b : Nat → Nat → Bool} {L : Nat} : ∀ (l A : List Nat) (t : Nat), L ∉ A → walkC b A t l = walkC b A t (l.filter fun x => x != L)
  | [], _, _, _ => rfl
  | y :: l, A, t, h => by
    by_cases yL : y = L
    · subst yL
      have ef : (y :: l).filter (fun x => x != y) = l.filter fun x => x != y := by simp
      rw [ef]
      show (if y ∈ A then _ else walkC b A t l) = _
      rw [if_neg h]
      exact walkC_skip l A t h
    · have ef : (y :: l).filter (fun x => x != L) = y :: l.filter fun x => x != L := by simp [yL]
      rw [ef]
      show (if y ∈ A then walkC b (A.filter fun z => b z y) y l else walkC b A t l) = if y ∈ A then walkC b (A.filter fun z => b z y) y (l.filter fun x => x != L) else walkC b A t (l.filter fun x => x != L)
      by_cases q : y ∈ A
      · rw [if_pos q, if_pos q]
        exact walkC_skip l _ y fun z => h (List.mem_filter.mp z).1
      · rw [if_neg q, if_neg q]
        exact walkC_skip l A t h
theorem walkC_start {b : Nat → Nat → Bool} {A : List Nat} {l : List Nat} (ne : l ≠ []) (h : ∀ x ∈ l, x ∈ A) (t u : Nat) : walkC b A t l = walkC b A u l := by
  cases l with
  | nil => exact absurd rfl ne
  | cons y l =>
    show (if y ∈ A then _ else _) = if y ∈ A then _ else _
    rw [if_pos (h y List.mem_cons_self), if_pos (h y List.mem_cons_self)]
/-- a table with one more alternative, that loses to all -/
structure Loser (n : Nat) (b c : Nat → Nat → Bool) : Prop where
  old : ∀ i, i < n → ∀ j, j < n → c i j = b i j
  win : ∀ i, i < n → c i n = true
  lose : ∀ j, c n j = false
theorem nin_range : n ∉ List.range n := fun h => Nat.lt_irrefl _ (List.mem_range.mp h)
theorem sqC_lose {c : Nat → Nat → Bool} (h0 : 0 < n) (h : Loser n b c) (w : Nat) : sqC c (List.range (n + 1)) w = (n + 1) * sqC b (List.range n) w := by
  show (ords (List.range (n + 1)).length (List.range (n + 1))).countP _ = (n + 1) * (ords (List.range n).length (List.range n)).countP _
  rw [List.length_range, List.length_range, List.range_succ]
  have nd : (List.range n ++ [n]).Nodup := by rw [← List.range_succ]; exact List.nodup_range
  have ln : (List.range n ++ [n]).length = n + 1 := by simp
  have e : (ords (n + 1) (List.range n ++ [n])).countP (fun o => seqF c o == w) = (ords (n + 1) (List.range n ++ [n])).countP fun o => (fun p => seqF b p == w) (o.filter fun x => x != n) := List.countP_congr fun o ho => by
    have po := (mem_ords nd ln).mp ho
    have pf : (o.filter fun x => x != n).Perm ((List.range n ++ [n]).filter fun x => x != n) := po.filter _
    have ef : (List.range n ++ [n]).filter (fun x => x != n) = List.range n := by
      rw [List.filter_append, List.filter_eq_self.mpr fun x hx => by have := List.mem_range.mp hx; simp; omega]
      simp
    rw [ef] at pf
    have ne : o.filter (fun x => x != n) ≠ [] := fun e => by rw [e] at pf; have := pf.length_eq; simp at this; omega
    rw [seqF_lose (S := List.range n) (fun x _ => h.lose x) (fun x hx => h.win x (List.mem_range.mp hx)) (h.lose n) o (fun x hx => (List.mem_append.mp (po.mem_iff.mp hx)).imp id List.mem_singleton.mp) ne]
    rw [seqF_congr (S := List.range n) (fun x hx y hy => h.old x (List.mem_range.mp hx) y (List.mem_range.mp hy)) ne fun x hx => pf.mem_iff.mp hx]
  rw [e, ins_count n (List.range n) (fun p => seqF b p == w) List.nodup_range List.length_range nin_range]
theorem cqC_lose {c : Nat → Nat → Bool} (h0 : 0 < n) (h : Loser n b c) (w : Nat) : cqC c (List.range (n + 1)) w = (n + 1) * cqC b (List.range n) w := by
  show (ords (List.range (n + 1)).length (List.range (n + 1))).countP _ = (n + 1) * (ords (List.range n).length (List.range n)).countP _
  rw [List.length_range, List.length_range, List.range_succ]
  have nd : (List.range n ++ [n]).Nodup := by rw [← List.range_succ]; exact List.nodup_range
  have ln : (List.range n ++ [n]).length = n + 1 := by simp
  have e : (ords (n + 1) (List.range n ++ [n])).countP (fun o => walkC c (List.range n ++ [n]) 0 o.reverse == w) = (ords (n + 1) (List.range n ++ [n])).countP fun o => (fun (p : List Nat) => walkC b (List.range n) 0 p.reverse == w) (o.filter fun x => x != n) := List.countP_congr fun o ho => by
    have po := (mem_ords nd ln).mp ho
    have pf : (o.filter fun x => x != n).Perm ((List.range n ++ [n]).filter fun x => x != n) := po.filter _
    have ef : (List.range n ++ [n]).filter (fun x => x != n) = List.range n := by
      rw [List.filter_append, List.filter_eq_self.mpr fun x hx => by have := List.mem_range.mp hx; simp; omega]
      simp
    rw [ef] at pf
    have ne : o.filter (fun x => x != n) ≠ [] := fun e => by rw [e] at pf; have := pf.length_eq; simp at this; omega
    have main : walkC c (List.range n ++ [n]) 0 o.reverse = walkC b (List.range n) 0 (o.filter fun x => x != n).reverse := by
      rw [← List.filter_reverse]
      have ne2 : o.reverse.filter (fun x => x != n) ≠ [] := by rw [List.filter_reverse]; exact fun e => ne (List.reverse_eq_nil_iff.mp e)
      have in2 : ∀ x ∈ o.reverse, x ∈ List.range n ++ [n] := fun x hx => po.mem_iff.mp (List.mem_reverse.mp hx)
      generalize o.reverse = r at ne2 in2
      have low : ∀ x ∈ r.filter (fun x => x != n), x ∈ List.range n := fun x hx => by
        obtain ⟨h1, h2⟩ := List.mem_filter.mp hx
        exact (List.mem_append.mp (in2 x h1)).elim id fun e => absurd (List.mem_singleton.mp e) (by simpa using h2)
      have cg : ∀ (l A : List Nat) (t : Nat), (∀ x ∈ l, x ∈ List.range n) → (∀ x ∈ A, x ∈ List.range n) → walkC c A t l = walkC b A t l := fun l A t h1 h2 => walkC_congr (S := List.range n) (fun x hx y hy => h.old x (List.mem_range.mp hx) y (List.mem_range.mp hy)) l A t h1 h2
      cases r with
      | nil => exact absurd rfl ne2
      | cons y l =>
        show (if y ∈ List.range n ++ [n] then walkC c ((List.range n ++ [n]).filter fun z => c z y) y l else _) = _
        rw [if_pos (in2 y List.mem_cons_self)]
        by_cases yL : y = n
        · subst yL
          have a1 : (List.range y ++ [y]).filter (fun z => c z y) = List.range y := by
            rw [List.filter_append, List.filter_eq_self.mpr fun x hx => h.win x (List.mem_range.mp hx)]
            simp [h.lose]
          have a2 : (y :: l).filter (fun x => x != y) = l.filter fun x => x != y := by simp
          rw [a2] at ne2 low ⊢
          rw [a1, walkC_skip (L := y) l _ y nin_range, cg _ _ _ low fun _ h => h]
          exact walkC_start ne2 low y 0
        · have a2 : (y :: l).filter (fun x => x != n) = y :: l.filter fun x => x != n := by simp [yL]
          rw [a2] at low ⊢
          have yn : y ∈ List.range n := low y List.mem_cons_self
          have a1 : (List.range n ++ [n]).filter (fun z => c z y) = (List.range n).filter fun z => c z y := by
            rw [List.filter_append]
            simp [h.lose]
          rw [a1, walkC_skip (L := n) l _ y fun z => nin_range (List.mem_filter.mp z).1, cg _ _ _ (fun x hx => low x (List.mem_cons_of_mem _ hx)) fun x hx => (List.mem_filter.mp hx).1]
          show _ = if y ∈ List.range n then walkC b ((List.range n).filter fun z => b z y) y (l.filter fun x => x != n) else _
          rw [if_pos yn, List.filter_congr fun z hz => h.old z (List.mem_range.mp hz) y (List.mem_range.mp yn)]
    rw [main]
  rw [e, ins_count n (List.range n) (fun p => walkC b (List.range n) 0 p.reverse == w) List.nodup_range List.length_range nin_range]
/-! one more alternative, that beats all -/
theorem seqF_best {c : Nat → Nat → Bool} {L : Nat} (h1 : ∀ x, c x L = false) : ∀ (o : List Nat), L ∈ o → (∀ x ∈ o, x ≠ L → c L x = true) → seqF c o = L := by
  have key : ∀ (k : Nat) (o : List Nat), o.length = k → L ∈ o → (∀ x ∈ o, x ≠ L → c L x = true) → seqF c o = L := by
    intro k
    induction k with
    | zero =>
      intro o hl hx _
      rw [List.length_eq_zero_iff.mp hl] at hx
      cases hx
    | succ k ih =>
      intro o hl hx hw
      have ne : o ≠ [] := fun e => by rw [e] at hx; cases hx
      have e := List.dropLast_concat_getLast ne
      generalize o.dropLast = p at e
      generalize o.getLast ne = y at e
      subst e
      have wp : ∀ x ∈ p, x ≠ L → c L x = true := fun x h => hw x (List.mem_append_left _ h)
      by_cases pe : p = []
      · subst pe
        have : L = y := by simpa using hx
        exact this.symm
      · rw [seqF_snoc pe]
        by_cases yL : y = L
        · subst yL
          by_cases s : seqF c p = y
          · rw [s]
            split <;> rfl
          · rw [if_pos (wp _ (seqF_mem pe) s)]
        · have : L ∈ p := (List.mem_append.mp hx).elim id fun h => absurd (List.mem_singleton.mp h).symm yL
          rw [ih p (by simpa using hl) this wp, if_neg (by rw [h1]; exact Bool.false_ne_true)]
  exact fun o => key _ o rfl
theorem walkC_best {c : Nat → Nat → Bool} {L : Nat} (h1 : ∀ x, c x L = false) : ∀ (l A : List Nat) (t : Nat), L ∈ l → L ∈ A → (∀ x ∈ l, x ≠ L → c L x = true) → walkC c A t l = L
  | y :: l, A, t, hx, hA, hw => by
    have wl : ∀ x ∈ l, x ≠ L → c L x = true := fun x h => hw x (List.mem_cons_of_mem _ h)
    show (if y ∈ A then walkC c (A.filter fun z => c z y) y l else walkC c A t l) = L
    by_cases yL : y = L
    · subst yL
      rw [if_pos hA, List.filter_eq_nil_iff.mpr fun z _ => by rw [h1]; exact Bool.false_ne_true]
      clear hx wl hw hA
      induction l with
      | nil => rfl
      | cons z l ih =>
        show (if z ∈ [] then _ else walkC c [] y l) = y
        rw [if_neg List.not_mem_nil]
        exact ih
    · have lm : L ∈ l := (List.mem_cons.mp hx).elim (fun e => absurd e.symm yL) id
      by_cases q : y ∈ A
      · rw [if_pos q]
        exact walkC_best h1 l _ y lm (List.mem_filter.mpr ⟨hA, hw y List.mem_cons_self yL⟩) wl
      · rw [if_neg q]
        exact walkC_best h1 l A t lm hA wl
theorem sqC_best {c : Nat → Nat → Bool} (h1 : ∀ x, c x n = false) (h2 : ∀ j, j < n → c n j = true) (w : Nat) : sqC c (List.range (n + 1)) w = if n = w then fc (n + 1) else 0 := by
  show (ords (List.range (n + 1)).length (List.range (n + 1))).countP _ = _
  have hl := ords_len (k := (List.range (n + 1)).length) (S := List.range (n + 1)) List.nodup_range rfl
  have e : (ords (List.range (n + 1)).length (List.range (n + 1))).countP (fun o => seqF c o == w) = (ords (List.range (n + 1)).length (List.range (n + 1))).countP fun _ => decide (n = w) := List.countP_congr fun o ho => by
    have po := (mem_ords List.nodup_range rfl).mp ho
    rw [seqF_best h1 o (po.mem_iff.mpr (List.mem_range.mpr (by omega))) fun x hx ne => h2 x (by have := List.mem_range.mp (po.mem_iff.mp hx); omega)]
    simp
  rw [e]
  by_cases q : n = w
  · rw [if_pos q, decide_eq_true q, List.countP_true, hl, List.length_range]
  · rw [if_neg q, decide_eq_false q, List.countP_false]
    rfl
theorem cqC_best {c : Nat → Nat → Bool} (h1 : ∀ x, c x n = false) (h2 : ∀ j, j < n → c n j = true) (w : Nat) : cqC c (List.range (n + 1)) w = if n = w then fc (n + 1) else 0 := by
  show (ords (List.range (n + 1)).length (List.range (n + 1))).countP _ = _
  have hl := ords_len (k := (List.range (n + 1)).length) (S := List.range (n + 1)) List.nodup_range rfl
  have e : (ords (List.range (n + 1)).length (List.range (n + 1))).countP (fun o => walkC c (List.range (n + 1)) 0 o.reverse == w) = (ords (List.range (n + 1)).length (List.range (n + 1))).countP fun _ => decide (n = w) := List.countP_congr fun o ho => by
    have po := (mem_ords List.nodup_range rfl).mp ho
    rw [walkC_best h1 o.reverse _ 0 (List.mem_reverse.mpr (po.mem_iff.mpr (List.mem_range.mpr (by omega)))) (List.mem_range.mpr (by omega)) fun x hx ne => h2 x (by have := List.mem_range.mp (po.mem_iff.mp (List.mem_reverse.mp hx)); omega)]
    simp
  rw [e]
  by_cases q : n = w
  · rw [if_pos q, decide_eq_true q, List.countP_true, hl, List.length_range]
  · rw [if_neg q, decide_eq_false q, List.countP_false]
    rfl
end
end DS
set_option maxHeartbeats 4000000
namespace DS
open PySem PySem.Spec PyProof.Rows L2
theorem compA_none {α : Type} {l : List α} : (compA l fun _ => some none) = some [] := by
  induction l with
  | nil => rfl
  | cons x l ih =>
    show Option.bind (some (none : Option PyData)) (fun o => (compA l fun _ => some none).bind fun ys => some (o.toList ++ ys)) = _
    rw [ih]
    rfl
theorem same_ok : ∀ (m : Nat) (d : PyData), okSame m d = true → sem__law_same m [d, d] = some (.bool true)
  | 0, d, h => by cases h
  | m + 1, d, h => by
    have key : ∀ ds : List PyData, ds.all (okSame m) = true → ∀ i, i < ds.length → sem__law_same m [ds[i]?.getD .none, ds[i]?.getD .none] = some (.bool true) := fun ds h2 i hi => same_ok m _ (List.all_eq_true.mp h2 _ (by rw [List.getElem?_eq_getElem hi]; exact List.getElem_mem hi))
    cases d with
    | list ds =>
      obtain ⟨h1, h2⟩ := Bool.and_eq_true_iff.mp (show (decide (ds.length < 1000000) && ds.all (okSame m)) = true from h)
      have hl : ds.length < 1000000 := of_decide_eq_true h1
      simp [sem__law_same, z__law_same, hl, show ds.length ≤ 1000000 by omega]
      rw [compA_congr rfl (G := fun _ => some none) fun i hi => ?_, compA_none]
      · simp
      · have hi := List.mem_range.mp hi
        rw [e_ixL hi, List.getD_eq_getElem?_getD]
        simp [key ds h2 i hi]
    | tuple ds =>
      obtain ⟨h1, h2⟩ := Bool.and_eq_true_iff.mp (show (decide (ds.length < 1000000) && ds.all (okSame m)) = true from h)
      have hl : ds.length < 1000000 := of_decide_eq_true h1
      simp [sem__law_same, z__law_same, hl, show ds.length ≤ 1000000 by omega]
      rw [compA_congr rfl (G := fun _ => some none) fun i hi => ?_, compA_none]
      · simp
      · have hi := List.mem_range.mp hi
        rw [e_ixT hi, List.getD_eq_getElem?_getD]
        simp [key ds h2 i hi]
    | dict ds => cases h
    | none => simp [sem__law_same, z__law_same, isNone]
    | bool c => simp [sem__law_same, z__law_same, isNone]
    | int c => simp [sem__law_same, z__law_same, isNone]
    | str c => simp [sem__law_same, z__law_same, isNone]
section
variable {n : Nat} {b : Nat → Nat → Bool}
theorem both_eq (t : Tour n b) : sem__law_both [tabD n b] = some (.list [tupN (sqV n b (List.range n)), tupN (cqV n b)]) := sem_ret (lstF_eq (consA_eq (callU_eq (ds := [tabD n b]) rfl rfl (sequence_counts_eq t)) (consA_eq (callU_eq (ds := [tabD n b]) rfl rfl (careful_counts_eq t)) rfl)) (show 2 < 1000000 by decide))
theorem number_law {k : Nat} (h : k ≤ 9) : sem__law_number [ni k] = some (ni (fc k)) := by
  match k, h with
  | 0, _ => kernel_rfl
  | 1, _ => kernel_rfl
  | 2, _ => kernel_rfl
  | 3, _ => kernel_rfl
  | 4, _ => kernel_rfl
  | 5, _ => kernel_rfl
  | 6, _ => kernel_rfl
  | 7, _ => kernel_rfl
  | 8, _ => kernel_rfl
  | 9, _ => kernel_rfl
  | k + 10, h => omega
theorem positive_eq (l : List Nat) (hl : l.length < 1000000) : sem__law_positive [tupN l] = some (tupN ((List.range l.length).filter fun i => decide (0 < l.getD i 0))) := by
  refine sem_ret (tup_sel (l := List.range l.length) (g := fun i => .tuple [ni i, ni (l.getD i 0)]) (p := fun i => decide (0 < l.getD i 0)) (m := ni) ?_ (by rw [List.length_range]; exact hl) fun i _ => ?_)
  · show some (enumD (l.map ni)) = _
    rw [enum_nats]
  · refine step_ifG (ρ1 := [.dat (tupN l), .dat (ni i), .dat (ni (l.getD i 0))]) rfl (tst_eq (bin2_eq (x := ni (l.getD i 0)) (y := ni 0) rfl rfl ?_)) fun _ => rfl
    show some (PyData.bool (decide ((0 : Int) < ((l.getD i 0 : Nat) : Int)))) = _
    congr 2
    exact decide_eq_decide.mpr (by omega)
/-! one more alternative -/
def loT (n : Nat) (b : Nat → Nat → Bool) (i j : Nat) : Bool := if i = n then false else if j = n then true else b i j
def beT (n : Nat) (b : Nat → Nat → Bool) (i j : Nat) : Bool := if j = n then false else if i = n then true else b i j
theorem loT_ok : Loser n b (loT n b) where
  old i hi j hj := by unfold loT; rw [if_neg (by omega), if_neg (by omega)]
  win i hi := by unfold loT; rw [if_neg (by omega), if_pos rfl]
  lose j := by unfold loT; rw [if_pos rfl]
theorem loT_tour (t : Tour n b) (h : n < 9) : Tour (n + 1) (loT n b) where
  one := by omega
  nine := by omega
  anti i j hi hj ne := by
    unfold loT
    by_cases h1 : i = n
    · rw [if_pos h1, if_neg (by omega), if_pos h1]; rfl
    · by_cases h2 : j = n
      · rw [if_neg h1, if_pos h2, if_pos h2]; rfl
      · rw [if_neg h1, if_neg h2, if_neg h2, if_neg h1]
        exact t.anti i j (by omega) (by omega) ne
  diag i := by
    unfold loT
    by_cases h1 : i = n
    · rw [if_pos h1]
    · rw [if_neg h1, if_neg h1]
      exact t.diag i
theorem beT_tour (t : Tour n b) (h : n < 9) : Tour (n + 1) (beT n b) where
  one := by omega
  nine := by omega
  anti i j hi hj ne := by
    unfold beT
    by_cases h1 : j = n
    · rw [if_pos h1, if_neg (by omega), if_pos h1]; rfl
    · by_cases h2 : i = n
      · rw [if_neg h1, if_pos h2, if_pos h2]; rfl
      · rw [if_neg h1, if_neg h2, if_neg h2, if_neg h1]
        exact t.anti i j (by omega) (by omega) ne
  diag i := by
    unfold beT
    by_cases h1 : i = n
    · rw [if_pos h1]
    · rw [if_neg h1, if_neg h1]
      exact t.diag i
theorem row_more {c : Nat → Nat → Bool} (old : ∀ i, i < n → ∀ j, j < n → c i j = b i j) {i : Nat} (hi : i < n) {s : Str} (hs : s.cps.toList = [sgn c i n]) : rowS n b i ++ s = rowS (n + 1) c i := by
  refine str_ext' ?_
  show ((rowS n b i).cps ++ s.cps).toList = _
  rw [Array.toList_append, hs]
  show ((List.range n).map (sgn b i)) ++ [sgn c i n] = (List.range (n + 1)).map (sgn c i)
  rw [List.range_succ, List.map_append]
  congr 1
  exact List.map_congr_left fun j hj => by
    unfold sgn
    rw [old i hi j (List.mem_range.mp hj)]
theorem row_len {i : Nat} : (rowS n b i).length = n := by
  show ((List.range n).map (sgn b i)).toArray.size = n
  simp
theorem with_gen (t : Tour n b) (h : n < 9) {c : Nat → Nat → Bool} {s o : Str} {g : Bool} (old : ∀ i, i < n → ∀ j, j < n → c i j = b i j) (hg : gEq (.str s) (.str "-") = some (.bool g)) (ho : ixD (.list [.str "-", .str "+"]) (.int (if g = true then 1 else 0)) = some (.str o)) (hs : ∀ i, i < n → s.cps.toList = [sgn c i n]) (hl : s.length = 1)
    (hm : ∃ z : Str, gMulS (.str o) (ni n) = some (.str z) ∧ z.length = n ∧ gAdd (.str z) (.str ".") = some (.str (rowS (n + 1) c n))) : sem__law_with [tabD n b, .str s] = some (tabD (n + 1) c) := by
  obtain ⟨z, z1, z2, z3⟩ := hm
  have fin : z__law_with (startD 4 [tabD n b, .str s]) = some (.rt (tabD (n + 1) c)) := by
    show z__law_with [.dat (tabD n b), .dat (.str s), .na, .na] = _
    unfold z__law_with
    have e2 : callA intD (consA (bin2 gEq (getD 1) (cD (.str "-"))) nilA) [.dat (tabD n b), .dat (.str s), .na, .na] = some (.int (if g = true then 1 else 0)) := call1 (x := .bool g) (bin2_eq rfl rfl hg) (by cases g <;> rfl)
    refine seq_nx (ρ' := [.dat (tabD n b), .dat (.str s), .dat (.str o), .na]) (set_eq (bin2_eq (x := .list [.str "-", .str "+"]) rfl e2 ho)) (ret_eq ?_)
    have e3 : callA toTup (consA (lstI (lcL (seqI (getD 0)) (setN 3) yesT (bin2 gAdd (getD 3) (getD 1)) [3])) nilA) [.dat (tabD n b), .dat (.str s), .dat (.str o), .na] = some (.tuple ((List.range n).map fun i => .str (rowS (n + 1) c i))) := by
      refine tup_map (l := List.range n) (g := fun i => .str (rowS n b i)) (m := fun i => .str (rowS (n + 1) c i)) rfl (by rw [List.length_range]; show n < 1000000; omega) fun i hi => ?_
      have hi := List.mem_range.mp hi
      refine step_mapG (ρ1 := [.dat (tabD n b), .dat (.str s), .dat (.str o), .dat (.str (rowS n b i))]) rfl (bin2_eq (x := .str (rowS n b i)) (y := .str s) rfl rfl ?_)
      show (if (rowS n b i).length + s.length < lim then some (PyData.str (rowS n b i ++ s)) else none) = _
      rw [if_pos (by rw [row_len, hl]; show n + 1 < 1000000; omega), row_more old hi (hs i hi)]
    have e4 : tupF (consA (bin2 gAdd (bin2 gMulS (getD 2) (callA lenD (consA (getD 0) nilA))) (cD (.str "."))) nilA) [.dat (tabD n b), .dat (.str s), .dat (.str o), .na] = some (.tuple [.str (rowS (n + 1) c n)]) := tupF_eq (consA_eq (bin2_eq (x := .str z) (y := .str ".") (bin2_eq (x := .str o) (y := ni n) rfl (call1 (x := tabD n b) rfl len_tab) z1) rfl z3) rfl) (show 1 < 1000000 by decide)
    refine bin2_eq e3 e4 ?_
    show (if ((List.range n).map fun i => PyData.str (rowS (n + 1) c i)).length + 1 < lim then some (PyData.tuple (((List.range n).map fun i => PyData.str (rowS (n + 1) c i)) ++ [.str (rowS (n + 1) c n)])) else none) = _
    rw [if_pos (by rw [List.length_map, List.length_range]; show n + 1 < 1000000; omega)]
    show _ = some (PyData.tuple ((List.range (n + 1)).map fun i => .str (rowS (n + 1) c i)))
    rw [List.range_succ, List.map_append]
    rfl
  exact sem_of fin
theorem mul_45 : ∀ m : Fin 10, Txt.mul ⟨#[45]⟩ ((m.val : Nat) : Int) = ⟨(List.replicate m.val 45).toArray⟩ := by decide +kernel
theorem mul_43 : ∀ m : Fin 10, Txt.mul ⟨#[43]⟩ ((m.val : Nat) : Int) = ⟨(List.replicate m.val 43).toArray⟩ := by decide +kernel
theorem last_row {c : Nat → Nat → Bool} (h9 : n < 9) {o : Str} {q : Nat} (hq : ∀ m : Fin 10, Txt.mul ⟨#[q]⟩ ((m.val : Nat) : Int) = ⟨(List.replicate m.val q).toArray⟩) (ho : o = ⟨#[q]⟩) (hc : ∀ j, j < n → sgn c n j = q) (hd : c n n = false) : ∃ z : Str, gMulS (.str o) (ni n) = some (.str z) ∧ z.length = n ∧ gAdd (.str z) (.str ".") = some (.str (rowS (n + 1) c n)) := by
  subst ho
  have mz : gMulS (.str ⟨#[q]⟩) (ni n) = some (.str ⟨(List.replicate n q).toArray⟩) := by
    show (if 0 ≤ (n : Int) ∧ (n : Int) ≤ 1000 ∧ (⟨#[q]⟩ : Str).length ≤ 100 then some (PyData.str (Txt.mul ⟨#[q]⟩ (n : Int))) else none) = _
    rw [if_pos ⟨by omega, by omega, by show 1 ≤ 100; decide⟩]
    congr 2
    exact hq ⟨n, by omega⟩
  refine ⟨_, mz, ?_, ?_⟩
  · show (List.replicate n q).toArray.size = n
    simp
  · show (if (⟨(List.replicate n q).toArray⟩ : Str).length + (Str.ofString ".").length < lim then some (PyData.str (⟨(List.replicate n q).toArray⟩ ++ Str.ofString ".")) else none) = _
    rw [if_pos (by show (List.replicate n q).toArray.size + 1 < 1000000; simp; omega)]
    congr 2
    refine str_ext' ?_
    show ((List.replicate n q).toArray ++ #[46]).toList = (List.range (n + 1)).map (sgn c n)
    rw [List.range_succ, List.map_append, Array.toList_append]
    have e1 : (List.range n).map (sgn c n) = List.replicate n q := by
      rw [List.map_congr_left (g := fun _ => q) fun j hj => hc j (List.mem_range.mp hj), List.map_const', List.length_range]
    rw [e1]
    have : sgn c n n = 46 := by unfold sgn; rw [if_pos rfl]
    simp [this]
theorem with_lose (t : Tour n b) (h : n < 9) : sem__law_with [tabD n b, .str "+"] = some (tabD (n + 1) (loT n b)) :=
  with_gen t h (c := loT n b) (o := "-") (g := false) (fun i hi j hj => loT_ok.old i hi j hj) (by kernel_rfl) (by kernel_rfl) (fun i hi => by
    have : sgn (loT n b) i n = 43 := by unfold sgn; rw [if_neg (by omega), loT_ok.win i hi, if_pos rfl]
    rw [this]
    rfl) (by decide +kernel) (last_row h (q := 45) mul_45 rfl (fun j hj => by unfold sgn; rw [if_neg (by omega), loT_ok.lose, if_neg Bool.false_ne_true]) (loT_ok.lose n))
theorem with_best (t : Tour n b) (h : n < 9) : sem__law_with [tabD n b, .str "-"] = some (tabD (n + 1) (beT n b)) :=
  with_gen t h (c := beT n b) (o := "+") (g := true) (fun i hi j hj => by unfold beT; rw [if_neg (by omega), if_neg (by omega)]) (by kernel_rfl) (by kernel_rfl) (fun i hi => by
    have : sgn (beT n b) i n = 45 := by unfold sgn beT; rw [if_neg (by omega), if_pos rfl, if_neg Bool.false_ne_true]
    rw [this]
    rfl) (by decide +kernel) (last_row h (q := 43) mul_43 rfl (fun j hj => by
    have : beT n b n j = true := by unfold beT; rw [if_neg (by omega), if_pos rfl]
    unfold sgn
    rw [if_neg (by omega), this, if_pos rfl]) (by unfold beT; rw [if_pos rfl]))
theorem okS_nats (k : Nat) (l : List Nat) (h : l.length < 1000000) : okSame (k + 2) (tupN l) = true := by
  show (decide ((l.map ni).length < 1000000) && (l.map ni).all (okSame (k + 1))) = true
  rw [Bool.and_eq_true]
  refine ⟨by simpa using h, List.all_eq_true.mpr fun d hd => ?_⟩
  obtain ⟨x, _, rfl⟩ := List.mem_map.mp hd
  rfl
theorem same_two (l m : List Nat) (hl : l.length < 1000000) (hm : m.length < 1000000) : sem__law_same 12 [.list [tupN l, tupN m], .list [tupN l, tupN m]] = some (.bool true) := same_ok 12 _ (by
  have k1 : okSame 11 (tupN l) = true := okS_nats 9 _ hl
  have k2 : okSame 11 (tupN m) = true := okS_nats 9 _ hm
  show (decide (2 < 1000000) && [tupN l, tupN m].all (okSame 11)) = true
  simp [k1, k2])
theorem sqV_get {i : Nat} (h : i < n) : (sqV n b (List.range n)).getD i 0 = sqC b (List.range n) i := sqV_at h
theorem cqV_len : (cqV n b).length = n := by simp [cqV]
theorem cqV_get {i : Nat} (h : i < n) : (cqV n b).getD i 0 = cqC b (List.range n) i := by
  rw [List.getD_eq_getElem?_getD, cqV, List.getElem?_map, List.getElem?_range h]
  rfl
theorem sumT_nat (v : List Nat) : sumTD [tupN v] = some (ni v.sum) := by
  show (intsD (v.map ni)).map _ = _
  rw [show v.map ni = (v.map fun k : Nat => (k : Int)).map .int by rw [List.map_map]; rfl, intsD_map]
  show some (PyData.int _) = some (PyData.int _)
  congr 2
  induction v with
  | nil => rfl
  | cons x v ih => rw [List.map_cons, List.sum_cons, List.sum_cons, ih]; omega
theorem minT_nat {v : List Nat} (h : v ≠ []) : ∃ k : Nat, minAD [tupN v] = some (ni k) := by
  obtain ⟨m, h1, h2⟩ := min_ge0 (l := v.map fun k : Nat => (k : Int)) (by simpa using h)
  have pos : 0 ≤ m := h2.mpr fun z hz => by
    obtain ⟨k, _, rfl⟩ := List.mem_map.mp hz
    exact Int.natCast_nonneg k
  refine ⟨m.toNat, ?_⟩
  have e : minAD [tupN v] = minAD [.list (v.map ni)] := by cases v <;> rfl
  rw [e, show v.map ni = (v.map fun k : Nat => (k : Int)).map .int by rw [List.map_map]; rfl, h1]
  show some (PyData.int m) = some (PyData.int (m.toNat : Int))
  rw [Int.toNat_of_nonneg pos]
/-- the two vectors -/
abbrev two (S C : List Nat) : List (List Nat) := [S, C]
theorem sums_ok {S C : List Nat} {m : Nat} (h9 : m ≤ 9) (l1 : S.length = m) (l2 : C.length = m) (m0 : 0 < m) (s1 : S.sum = fc m) (s2 : C.sum = fc m) {ρ : Dn} (e5 : ∀ d, getD 5 (ρ.set 11 d) = some (.list (two S C |>.map tupN))) (e5' : getD 5 ρ = some (.list (two S C |>.map tupN))) (e6 : ∀ d, getD 6 ((wipeE ρ [11]).set 11 d) = some (ni m)) (e11 : ∀ d, getD 11 ((wipeE ρ [11]).set 11 (.dat d)) = some d) :
    tstF (bin2 gNe (lstI (lcL (seqI (getD 5)) (setN 11) (orT (tstF (bin2 gNe (callA sumTD (consA (getD 11) nilA)) (callU 1 sem__law_number (consA (getD 6) nilA)))) (tstF (bin2 (gI fun i j => .bool (decide (i < j))) (callA minAD (consA (getD 11) nilA)) (cD (.int 0))))) (getD 11) [11])) (lstI (limA nilA))) ρ = some false := by
  have e : lstI (lcL (seqI (getD 5)) (setN 11) (orT (tstF (bin2 gNe (callA sumTD (consA (getD 11) nilA)) (callU 1 sem__law_number (consA (getD 6) nilA)))) (tstF (bin2 (gI fun i j => .bool (decide (i < j))) (callA minAD (consA (getD 11) nilA)) (cD (.int 0))))) (getD 11) [11]) ρ = some (.list (((two S C).filter fun _ => false).map tupN)) := lst_sel (l := two S C) (g := tupN) (p := fun _ => false) (m := tupN) (seq_lst e5') (show 2 < 1000000 by decide) fun v hv => by
    have hs : v.sum = fc m ∧ v ≠ [] := by
      rcases List.mem_cons.mp hv with e | e
      · rw [e]; exact ⟨s1, fun z => by rw [z] at l1; simp at l1; omega⟩
      · rw [List.mem_singleton.mp e]; exact ⟨s2, fun z => by rw [z] at l2; simp at l2; omega⟩
    obtain ⟨k, hk⟩ := minT_nat hs.2
    refine step_ifG (k := false) rfl (orT_eq (a := false) (b := false) (tst_eq (bin2_eq (x := ni (fc m)) (y := ni (fc m)) (call1 (x := tupN v) (e11 _) (by rw [sumT_nat, hs.1])) (callU_eq (ds := [ni m]) (consA_eq (e6 _) rfl) rfl (number_law h9)) ?_)) fun _ => tst_eq (bin2_eq (x := ni k) (y := .int 0) (call1 (x := tupN v) (e11 _) hk) rfl ?_)) fun z => by cases z
    · exact (gNe_int _ _).trans (by simp)
    · show some (PyData.bool (decide ((k : Int) < 0))) = _
      rw [decide_eq_false (by omega)]
  refine tst_eq (bin2_eq e rfl ?_)
  rfl
/-- rows over both vectors -/
theorem both_map {te : DF} {S C : List Nat} {g : List Nat → PyData} {ρ : Dn} (e5 : getD 5 ρ = some (.list (two S C |>.map tupN))) (h : ∀ v ∈ two S C, te ((wipeE ρ [11]).set 11 (.dat (tupN v))) = some (g v)) : lstI (lcL (seqI (getD 5)) (setN 11) yesT te [11]) ρ = some (.list [g S, g C]) :=
  lst_map (l := two S C) (g := tupN) (m := g) (seq_lst e5) (show 2 < 1000000 by decide) fun v hv => step_map (h v hv)
theorem picks_eq {v os : List Nat} {ρ : Dn} {i j k : Nat} (ei : getD i ρ = some (tupN os)) (hl : os.length < 1000000) (hv : ∀ x ∈ os, x < v.length) (hk : k < ρ.length) (ej : ∀ d, getD j ((wipeE ρ [k]).set k d) = some (tupN v)) (ek : ∀ d, getD k ((wipeE ρ [k]).set k (.dat d)) = some d) :
    callA toTup (consA (lstI (lcL (seqI (getD i)) (setN k) yesT (bin2 ixD (getD j) (getD k)) [k])) nilA) ρ = some (tupN (os.map fun x => v.getD x 0)) := by
  refine (tup_map (l := os) (g := ni) (m := fun x => ni (v.getD x 0)) (seq_tup ei) hl fun x hx => step_map (bin2_eq (x := tupN v) (y := ni x) (ej _) (ek _) ?_)).trans ?_
  · have h2 := hv x hx
    refine (e_ixT (xs := v.map ni) (by simpa using h2)).trans ?_
    simp [List.getD_eq_getElem?_getD, h2]
  · show some (PyData.tuple _) = some (PyData.tuple _)
    rw [List.map_map]
    rfl
theorem more_eq {v : List Nat} {ρ : Dn} {c : Nat} (h9 : c ≤ 9) (hl : v.length ≤ 9) (hb : ∀ x ∈ v, x ≤ 1000000) (e11 : getD 11 ρ = some (tupN v)) (e6 : ∀ d, getD 6 ((wipeE ρ [13]).set 13 d) = some (ni c)) (e13 : ∀ d, getD 13 ((wipeE ρ [13]).set 13 (.dat d)) = some d) :
    bin2 gAdd (callA toTup (consA (lstI (lcL (seqI (getD 11)) (setN 13) yesT (bin2 (gIC cMul fun i j => .int (i * j)) (getD 13) (bin2 gAdd (getD 6) (cD (.int 1)))) [13])) nilA)) (tupF (consA (cD (.int 0)) nilA)) ρ = some (tupN (v.map (fun x => x * (c + 1)) ++ [0])) := by
  have e : callA toTup (consA (lstI (lcL (seqI (getD 11)) (setN 13) yesT (bin2 (gIC cMul fun i j => .int (i * j)) (getD 13) (bin2 gAdd (getD 6) (cD (.int 1)))) [13])) nilA) ρ = some (.tuple (v.map fun x => ni (x * (c + 1)))) := tup_map (l := v) (g := ni) (m := fun x => ni (x * (c + 1))) (seq_tup e11) (show v.length < 1000000 by omega) fun x hx => step_map (bin2_eq (x := ni x) (y := ni (c + 1)) (e13 _) (bin2_eq (x := ni c) (y := .int 1) (e6 _) rfl rfl) (by
    have hx := hb x hx
    refine (mul_small ⟨by omega, by omega⟩ _).trans ?_
    show some (PyData.int ((x : Int) * ((c + 1 : Nat) : Int))) = some (PyData.int ((x * (c + 1) : Nat) : Int))
    rw [Int.natCast_mul]))
  refine bin2_eq e (tupF_eq (consA_eq rfl rfl) (show 1 < 1000000 by decide)) ?_
  show (if (v.map fun x => ni (x * (c + 1))).length + 1 < lim then some (PyData.tuple ((v.map fun x => ni (x * (c + 1))) ++ [.int 0])) else none) = _
  rw [if_pos (by rw [List.length_map]; show v.length + 1 < 1000000; omega)]
  show _ = some (PyData.tuple ((v.map (fun x => x * (c + 1)) ++ [0]).map ni))
  rw [List.map_append, List.map_map]
  rfl
theorem best_eq {ρ : Dn} {c : Nat} (h8 : c < 9) (h1 : 1 ≤ c) (e6 : getD 6 ρ = some (ni c)) :
    bin2 gAdd (bin2 gMulT (tupF (consA (cD (.int 0)) nilA)) (getD 6)) (tupF (consA (callU 1 sem__law_number (consA (bin2 gAdd (getD 6) (cD (.int 1))) nilA)) nilA)) ρ = some (tupN (List.replicate c 0 ++ [fc (c + 1)])) := by
  have e1 : bin2 gMulT (tupF (consA (cD (.int 0)) nilA)) (getD 6) ρ = some (tupN (List.replicate c 0)) := by
    refine bin2_eq (x := .tuple [.int 0]) (y := ni c) (tupF_eq (consA_eq rfl rfl) (show 1 < 1000000 by decide)) e6 ?_
    show (if [PyData.int 0] ≠ [] ∧ (1 : Int) ≤ (c : Int) ∧ (c : Int) ≤ 1000 ∧ [PyData.int 0].length ≤ 1000 then some (PyData.tuple (List.replicate (c : Int).toNat [PyData.int 0]).flatten) else none) = _
    rw [if_pos ⟨by simp, by omega, by omega, by simp⟩, Int.toNat_natCast]
    show some (PyData.tuple _) = some (PyData.tuple ((List.replicate c 0).map ni))
    congr 2
    clear h8 h1 e6
    induction c with
    | zero => rfl
    | succ c ih => rw [List.replicate_succ, List.flatten_cons, ih, List.replicate_succ]; rfl
  have e2 : callU 1 sem__law_number (consA (bin2 gAdd (getD 6) (cD (.int 1))) nilA) ρ = some (ni (fc (c + 1))) := callU_eq (ds := [ni (c + 1)]) (consA_eq (bin2_eq (x := ni c) (y := .int 1) e6 rfl rfl) rfl) rfl (number_law (by omega))
  refine bin2_eq e1 (tupF_eq (consA_eq e2 rfl) (show 1 < 1000000 by decide)) ?_
  show (if ((List.replicate c 0).map ni).length + 1 < lim then some (PyData.tuple (((List.replicate c 0).map ni) ++ [ni (fc (c + 1))])) else none) = _
  rw [if_pos (by rw [List.length_map, List.length_replicate]; show c + 1 < 1000000; omega)]
  show _ = some (PyData.tuple ((List.replicate c 0 ++ [fc (c + 1)]).map ni))
  rw [List.map_append]
  rfl
/-! the vectors themselves -/
theorem vec_lose {f g : Nat → Nat} (h : ∀ w, g w = (n + 1) * f w) (hn : f n = 0) : (List.range (n + 1)).map g = ((List.range n).map f).map (fun x => x * (n + 1)) ++ [0] := by
  rw [List.range_succ, List.map_append, List.map_map]
  congr 1
  · exact List.map_congr_left fun w _ => by rw [h]; exact Nat.mul_comm _ _
  · show [g n] = [0]
    rw [h, hn, Nat.mul_zero]
theorem vec_best {g : Nat → Nat} {c : Nat} (h : ∀ w, g w = if n = w then c else 0) : (List.range (n + 1)).map g = List.replicate n 0 ++ [c] := by
  rw [List.range_succ, List.map_append]
  congr 1
  · rw [List.map_congr_left (g := fun _ => 0) fun w hw => by rw [h, if_neg (by have := List.mem_range.mp hw; omega)], List.map_const', List.length_range]
  · show [g n] = [c]
    rw [h, if_pos rfl]
theorem vec_rel {f g : Nat → Nat} {os : List Nat} (hl : os.length = n) (hb : ∀ x ∈ os, x < n) (h : ∀ i, i < n → g i = f (nth os i)) : (List.range n).map g = os.map fun x => ((List.range n).map f).getD x 0 := by
  refine List.ext_getElem (by simp [hl]) fun i h1 h2 => ?_
  have hi : i < n := by simpa using h1
  have ho : i < os.length := by omega
  rw [List.getElem_map, List.getElem_range, List.getElem_map, h i hi]
  have e : nth os i = os[i] := by unfold nth; rw [List.getD_eq_getElem?_getD, List.getElem?_eq_getElem ho]; rfl
  rw [e, List.getD_eq_getElem?_getD, List.getElem?_map, List.getElem?_range (hb _ (List.getElem_mem ho))]
  rfl
theorem sqC_le {S : List Nat} (hn : S.Nodup) (w : Nat) : sqC b S w ≤ fc S.length := by
  rw [← ords_len hn rfl]
  exact List.countP_le_length
theorem cqC_le {S : List Nat} (hn : S.Nodup) (w : Nat) : cqC b S w ≤ fc S.length := by
  rw [← ords_len hn rfl]
  exact List.countP_le_length
theorem fc_small {k : Nat} (h : k ≤ 9) : fc k ≤ 362880 := by
  have := Nat.le_of_dvd (fc_pos 9) (fc_dvd h)
  exact Nat.le_trans this (by decide +kernel)
theorem sqC_out (h0 : 0 < n) : sqC b (List.range n) n = 0 := by
  apply Classical.byContradiction
  intro z
  obtain ⟨o, hp, e⟩ := (sqC_pos (b := b) (n := n) (w := n)).mp (by omega)
  have ne : o ≠ [] := fun e => by rw [e] at hp; have := hp.length_eq; simp at this; omega
  have := List.mem_range.mp (hp.mem_iff.mp (seqF_mem (b := b) ne))
  omega
theorem cqC_out (h0 : 0 < n) : cqC b (List.range n) n = 0 := by
  apply Classical.byContradiction
  intro z
  obtain ⟨o, hp, e⟩ := (cqC_pos (b := b) (n := n) (w := n)).mp (by omega)
  have := walkC_low (b := b) o.reverse (List.range n) 0 h0 fun x hx => List.mem_range.mp (hp.mem_iff.mp (List.mem_reverse.mp hx))
  omega
end
end DS
set_option maxHeartbeats 4000000
namespace DS
open PySem PySem.Spec PyProof.Rows L2
def natD : PyData → Nat
  | .int i => i.toNat
  | _ => 0
theorem perm_nis {ys : List PyData} {l : List Nat} (h : ys.Perm (l.map ni)) : ∃ os : List Nat, ys = os.map ni ∧ os.Perm l := by
  refine ⟨ys.map natD, ?_, ?_⟩
  · rw [List.map_map]
    have : ∀ y ∈ ys, (ni ∘ natD) y = y := fun y hy => by
      obtain ⟨k, _, rfl⟩ := List.mem_map.mp (h.mem_iff.mp hy)
      rfl
    rw [List.map_congr_left this, List.map_id']
  · have := h.map natD
    rw [List.map_map, show natD ∘ ni = (fun x => x) from rfl, List.map_id'] at this
    exact this
end DS
set_option maxHeartbeats 4000000
namespace DS
open PySem PySem.Spec PyProof.Rows L2
section
variable {P : Program} {w : World} {K : PySem.W.Frag} {mg : Str → Option Value} {base : Heap} {a : Ad}
theorem ok_law (T : Tx K mg a) : FnG P w K mg base CX0 14 a.f_law a.d_law ["_law_script"] (spLaw K) := by
  refine fn_lawF fam3_ok (k := 13) (i := 1) T.F_law sc_law ((ok__law_begin T).up (by first | decide | omega)) T.F__law_begin.kp T.g__law_begin T.b__law_begin rfl rfl rfl (by decide) fun cdv A outer s H E hgd hr => ?_
  have nd := sc_law.nd
  refine ⟨_, ps_set (i := 1) nd rfl (by first | exact Or.inl rfl | exact Or.inr rfl) (pe_callG ((ok__law_begin T).up (by first | decide | omega)) hgd hr (by rfl) T.g__law_begin T.F__law_begin.kp T.b__law_begin .nil pass0 (E := fun _ _ _ => False) (pa_cons (pe_var (i := 0) rfl (by first | exact Or.inl rfl | exact Or.inr (Or.inl rfl) | exact Or.inr (Or.inr rfl))) pa_nil)), fun _ _ _ h => h, fun S ok fam => ?_⟩
  refine ⟨_, (pds_cons (pd_for ok PassesOwn.never rfl (pif_seq (pfl_lst (pfa_cons (pf_tup (pfa_cons pf_int (pfa_cons pf_int pfa_nil))) (pfa_cons (pf_tup (pfa_cons pf_int (pfa_cons pf_int pfa_nil))) (pfa_cons (pf_tup (pfa_cons pf_int (pfa_cons pf_int pfa_nil))) pfa_nil)))).pf) (pgf_tup rfl (pgsf_cons (i := 2) nd rfl (by first | exact Or.inl rfl | exact Or.inr rfl) (pgsf_cons (i := 3) nd rfl (by first | exact Or.inl rfl | exact Or.inr rfl) pgsf_nil))) (sets_tup [2, 3])
      (pds_cons (pd_setX (i := 4) nd rfl (by first | exact Or.inl rfl | exact Or.inr rfl) (px_callD (i := 1) (m := 2) ok ((ok__law_table T).up (by first | decide | omega)) mono__law_table fam hgd hr (by rfl) T.g__law_table T.F__law_table.kp T.b__law_table rfl (by first | exact Or.inl rfl | exact Or.inr (Or.inl rfl) | exact Or.inr (Or.inr rfl)) (pxa_cons (px_pf ok (pf_v 2)) (pxa_cons (px_pf ok (pf_v 3)) pxa_nil))))
      (pds_cons (pd_parC (i := 5) (j := 6) ok rfl nd rfl rfl (by first | exact Or.inl rfl | exact Or.inr rfl) (by first | exact Or.inl rfl | exact Or.inr rfl) (pn_dat (pf_call ((ok__law_both T).up (by first | decide | omega)) hgd hr (by rfl) T.g__law_both T.F__law_both.kp T.b__law_both pass0 (pfa_cons (pf_v 4) pfa_nil))) (pn_dat (pf_callB cf_len (by rfl) T.z_len (by decide +kernel) (pfa_cons (pf_v 4) pfa_nil))))
      (pds_cons (pd_if ok (pft_cmp (of_ne hr.units) (pfl_lc rfl nd (pif_seq (pf_v 5)) (blkOk_by (own := [("_law_counts", 11)]) (by rfl)) (fun _ _ _ _ _ => (pgf_name (i := 11) nd rfl (by first | exact Or.inl rfl | exact Or.inr rfl))) (fun _ _ _ _ _ => (ptsf_one (pfw_or (pft_cmp (of_ne hr.units) (pf_callB (cf_sumT rfl) (by rfl) T.z_sum (by decide +kernel) (pfa_cons (pf_v 11) pfa_nil)) (pf_call ((ok__law_number T).up (by first | decide | omega)) hgd hr (by rfl) T.g__law_number T.F__law_number.kp T.b__law_number pass0 (pfa_cons (pf_v 6) pfa_nil)) (nomark _)) (pfw_or1 (pft_cmp of_lt (pf_callB (cf_minA rfl hr.units) (by rfl) T.z_min (by decide +kernel) (pfa_cons (pf_v 11) pfa_nil)) pf_int (nomark _)))).pft)) (fun _ _ _ _ _ => (pf_v 11))).pf (pfl_lst pfa_nil).pf (nomark _)) (pds_one (pd_ret ok pf_bl)) pds_nil)
      (pds_cons (pd_setLc (i := 7) ok rfl nd rfl rfl (sw_true rfl rfl rfl (by decide +kernel)) (pif_seq (pf_v 5)) (blkOk_by (own := [("_law_counts", 11)]) (by rfl)) (fun _ _ _ _ _ => (pgf_name (i := 11) nd rfl (by first | exact Or.inl rfl | exact Or.inr rfl))) (fun _ _ _ _ _ => ptsf_nil) (fun _ _ _ _ _ => (pf_call ((ok__law_positive T).up (by first | decide | omega)) hgd hr (by rfl) T.g__law_positive T.F__law_positive.kp T.b__law_positive pass0 (pfa_cons (pf_v 11) pfa_nil))))
      (pds_cons (pd_if ok (pft_not (pft_val (pf_call ((ok__law_same T 12).up (by first | decide | omega)) hgd hr (by rfl) T.g__law_same T.F__law_same.kp T.b__law_same pass0 (pfa_cons (pf_v 7) (pfa_cons (pfl_lst (pfa_cons (pf_call ((ok_top_set T).up (by first | decide | omega)) hgd hr (by rfl) T.g_top_set T.F_top_set.kp T.b_top_set pass0 (pfa_cons (pf_v 4) pfa_nil)) (pfa_cons (pf_call ((ok_chain_tops T).up (by first | decide | omega)) hgd hr (by rfl) T.g_chain_tops T.F_chain_tops.kp T.b_chain_tops pass0 (pfa_cons (pf_v 4) pfa_nil)) pfa_nil))).pf pfa_nil))))) (pds_one (pd_ret ok pf_bl)) pds_nil)
      (pds_cons (pd_setX (i := 8) nd rfl (by first | exact Or.inl rfl | exact Or.inr rfl) (px_callTy ok cf_tuple (by rfl) T.z_tuple (by decide +kernel) (pxa_cons (px_callD (i := 1) (m := 1) ok ((ok__law_mixed T).up (by first | decide | omega)) mono__law_mixed fam hgd hr (by rfl) T.g__law_mixed T.F__law_mixed.kp T.b__law_mixed rfl (by first | exact Or.inl rfl | exact Or.inr (Or.inl rfl) | exact Or.inr (Or.inr rfl)) (pxa_cons (px_pf ok ((prf_1 (by rfl) T.z_range (pf_v 6)).lst rfl (by rfl) T.z_list (by rfl))) pxa_nil)) pxa_nil)))
      (pds_cons (pd_setLc (i := 9) ok rfl nd rfl rfl (sw_true rfl rfl rfl (by decide +kernel)) (pif_seq (pf_v 5)) (blkOk_by (own := [("_law_counts", 11)]) (by rfl)) (fun _ _ _ _ _ => (pgf_name (i := 11) nd rfl (by first | exact Or.inl rfl | exact Or.inr rfl))) (fun _ _ _ _ _ => ptsf_nil) (fun _ _ _ _ _ => (pf_callTy cf_tuple (by rfl) T.z_tuple (by decide +kernel) (pfa_cons (pfl_lc rfl nd (pif_seq (pf_v 8)) (blkOk_by (own := [("_law_one", 12)]) (by rfl)) (fun _ _ _ _ _ => (pgf_name (i := 12) nd rfl (by first | exact Or.inl rfl | exact Or.inr rfl))) (fun _ _ _ _ _ => ptsf_nil) (fun _ _ _ _ _ => (pf_ix (pf_v 11) (pf_v 12)))).pf pfa_nil))))
      (pds_cons (pd_if ok (pft_not (pft_val (pf_call ((ok__law_same T 12).up (by first | decide | omega)) hgd hr (by rfl) T.g__law_same T.F__law_same.kp T.b__law_same pass0 (pfa_cons (pf_call ((ok__law_both T).up (by first | decide | omega)) hgd hr (by rfl) T.g__law_both T.F__law_both.kp T.b__law_both pass0 (pfa_cons (pf_call ((ok_relabel_table T).up (by first | decide | omega)) hgd hr (by rfl) T.g_relabel_table T.F_relabel_table.kp T.b_relabel_table pass0 (pfa_cons (pf_v 4) (pfa_cons (pf_v 8) pfa_nil))) pfa_nil)) (pfa_cons (pf_v 9) pfa_nil))))) (pds_one (pd_ret ok pf_bl)) pds_nil)
      (pds_one (pd_if ok (pft_cmp of_lt (pf_v 6) pf_int (nomark _)) (pds_cons (pd_setLc (i := 9) ok rfl nd rfl rfl (sw_true rfl rfl rfl (by decide +kernel)) (pif_seq (pf_v 5)) (blkOk_by (own := [("_law_counts", 11)]) (by rfl)) (fun _ _ _ _ _ => (pgf_name (i := 11) nd rfl (by first | exact Or.inl rfl | exact Or.inr rfl))) (fun _ _ _ _ _ => ptsf_nil) (fun _ _ _ _ _ => (pf_op of_addA (pf_callTy cf_tuple (by rfl) T.z_tuple (by decide +kernel) (pfa_cons (pfl_lc rfl nd (pif_seq (pf_v 11)) (blkOk_by (own := [("_law_number_here", 13)]) (by rfl)) (fun _ _ _ _ _ => (pgf_name (i := 13) nd rfl (by first | exact Or.inl rfl | exact Or.inr rfl))) (fun _ _ _ _ _ => ptsf_nil) (fun _ _ _ _ _ => (pf_op of_mul (pf_v 13) (pf_op of_addA (pf_v 6) pf_int)))).pf pfa_nil)) (pf_tup (pfa_cons pf_int pfa_nil)))))
      (pds_cons (pd_if ok (pft_not (pft_val (pf_call ((ok__law_same T 12).up (by first | decide | omega)) hgd hr (by rfl) T.g__law_same T.F__law_same.kp T.b__law_same pass0 (pfa_cons (pf_call ((ok__law_both T).up (by first | decide | omega)) hgd hr (by rfl) T.g__law_both T.F__law_both.kp T.b__law_both pass0 (pfa_cons (pf_call ((ok__law_with T).up (by first | decide | omega)) hgd hr (by rfl) T.g__law_with T.F__law_with.kp T.b__law_with pass0 (pfa_cons (pf_v 4) (pfa_cons pf_str pfa_nil))) pfa_nil)) (pfa_cons (pf_v 9) pfa_nil))))) (pds_one (pd_ret ok pf_bl)) pds_nil)
      (pds_cons (pd_set (i := 10) ok nd rfl (by first | exact Or.inl rfl | exact Or.inr rfl) (pf_op of_addA (pf_op of_mulT (pf_tup (pfa_cons pf_int pfa_nil)) (pf_v 6)) (pf_tup (pfa_cons (pf_call ((ok__law_number T).up (by first | decide | omega)) hgd hr (by rfl) T.g__law_number T.F__law_number.kp T.b__law_number pass0 (pfa_cons (pf_op of_addA (pf_v 6) pf_int) pfa_nil)) pfa_nil))))
      (pds_one (pd_if ok (pft_not (pft_val (pf_call ((ok__law_same T 12).up (by first | decide | omega)) hgd hr (by rfl) T.g__law_same T.F__law_same.kp T.b__law_same pass0 (pfa_cons (pf_call ((ok__law_both T).up (by first | decide | omega)) hgd hr (by rfl) T.g__law_both T.F__law_both.kp T.b__law_both pass0 (pfa_cons (pf_call ((ok__law_with T).up (by first | decide | omega)) hgd hr (by rfl) T.g__law_with T.F__law_with.kp T.b__law_with pass0 (pfa_cons (pf_v 4) (pfa_cons pf_str pfa_nil))) pfa_nil)) (pfa_cons (pfl_lst (pfa_cons (pf_v 10) (pfa_cons (pf_v 10) pfa_nil))).pf pfa_nil))))) (pds_one (pd_ret ok pf_bl)) pds_nil))))) pds_nil)))))))))))
      (pds_one (pd_ret ok pf_bl))), ?_⟩
  have all3 : ∀ p ∈ [((1 : Nat), (8 : Nat)), (6, 8), (9, 9)], 1 ≤ p.1 ∧ p.1 ≤ p.2 ∧ p.2 ≤ 9 := by decide
  refine for_of (l := [((1 : Nat), (8 : Nat)), (6, 8), (9, 9)]) (h := fun p => .tuple [ni p.1, ni p.2]) rfl (fun i ρ' n' => (∃ e2 e3 e4 e5 e6 e7 e8 e9 e10 e11 e12 e13, ρ' = [.na, .dk, e2, e3, e4, e5, e6, e7, e8, e9, e10, e11, e12, e13]) ∧ n' ≤ i * 20000) ⟨⟨_, _, _, _, _, _, _, _, _, _, _, _, rfl⟩, Nat.zero_le _⟩ (fun i hi ρ' n' hI => ?_) fun ρ' n' hI => ?_
  · obtain ⟨⟨e2, e3, e4, e5, e6, e7, e8, e9, e10, e11, e12, e13, rfl⟩, hn⟩ := hI
    obtain ⟨p1, p2, p3⟩ := all3 _ (List.getElem_mem hi)
    have hi : i < 3 := hi
    generalize ([((1 : Nat), (8 : Nat)), (6, 8), (9, 9)])[i] = p at *
    clear all3
    refine ⟨_, rfl, ?_⟩
    simp only [w_dSeq, w_dPar, w_dSet, w_dOwn, w_dIf, w_dRet, w_dRetX, w_x2, w_dSetX, w_Cons, w_Nil, w_F, w_Call, w_CallU, w_Draw, w_Lst]
    refine ⟨rfl, _, rfl, _, rfl, ?_⟩
    refine ⟨rfl, p.1, p.2, rfl, p1, p2, by omega, by omega, fun m b n2 t m1 m9 hn2 => ?_⟩
    have h9 := t.nine
    have h1 := t.one
    obtain ⟨T, rs, eT, et⟩ := top_eq t
    have ect := chain_tops_eq t
    have be := both_eq t
    obtain ⟨S, hS⟩ : ∃ S, S = sqV m b (List.range m) := ⟨_, rfl⟩
    obtain ⟨C, hC⟩ : ∃ C, C = cqV m b := ⟨_, rfl⟩
    rw [← hS, ← hC] at be
    have l1 : S.length = m := by rw [hS]; exact sqV_len
    have l2 : C.length = m := by rw [hC]; exact cqV_len
    have rne : List.range m ≠ [] := fun e => by have := congrArg List.length e; rw [List.length_range] at this; simp at this; omega
    have s1 : S.sum = fc m := by rw [hS]; exact (sqC_sum List.nodup_range rne fun x hx => List.mem_range.mp hx).trans (by rw [List.length_range])
    have s2 : C.sum = fc m := by rw [hC]; exact cqC_sum (by omega)
    have f9 := fc_small h9
    have b1 : ∀ x ∈ S, x ≤ 1000000 := fun x hx => by
      rw [hS] at hx
      obtain ⟨w, _, rfl⟩ := List.mem_map.mp hx
      have := sqC_le (b := b) (S := List.range m) List.nodup_range w
      rw [List.length_range] at this
      omega
    have b2 : ∀ x ∈ C, x ≤ 1000000 := fun x hx => by
      rw [hC] at hx
      obtain ⟨w, _, rfl⟩ := List.mem_map.mp hx
      have := cqC_le (b := b) (S := List.range m) List.nodup_range w
      rw [List.length_range] at this
      omega
    have tS : ((List.range S.length).filter fun i => decide (0 < S.getD i 0)) = T := by
      have hT := ((domS_mem t).mp (show T ∈ domS m b by rw [eT]; exact List.mem_cons_self)).1
      refine asc_ext (List.pairwise_lt_range.filter _) ((Sn_mem m 0 T).mp hT).1 fun x => ?_
      rw [List.mem_filter, List.mem_range, l1, decide_eq_true_iff]
      constructor
      · rintro ⟨hx, h⟩
        rw [hS, sqV_get hx] at h
        exact (sqC_top t eT).mp h
      · intro h
        have hx := set_low hT x h
        refine ⟨hx, ?_⟩
        rw [hS, sqV_get hx]
        exact (sqC_top t eT).mpr h
    have tC : ((List.range C.length).filter fun i => decide (0 < C.getD i 0)) = topsL m b := by
      refine asc_ext (List.pairwise_lt_range.filter _) topsL_up fun x => ?_
      rw [List.mem_filter, List.mem_range, l2, decide_eq_true_iff]
      constructor
      · rintro ⟨hx, h⟩
        rw [hC, cqV_get hx] at h
        exact (cqC_top t).mp h
      · intro h
        have hx := topsL_lt x h
        refine ⟨hx, ?_⟩
        rw [hC, cqV_get hx]
        exact (cqC_top t).mpr h
    show dParN 5 6 _ _ _ [.na, .dk, .dat (ni p.1), .dat (ni p.2), .dat (tabD m b), e5, e6, e7, e8, e9, e10, e11, e12, e13] n2
    rw [w_parN]
    refine ⟨.dat (.list [tupN S, tupN C]), .dat (ni m), ?_, ?_, ?_⟩
    · have e : callU 1 sem__law_both (consA (getD 4) nilA) [.na, .dk, .dat (ni p.1), .dat (ni p.2), .dat (tabD m b), e5, e6, e7, e8, e9, e10, e11, e12, e13] = some (.list [tupN S, tupN C]) := callU_eq (ds := [tabD m b]) rfl rfl be
      exact congrArg (Option.map Ent.dat) e
    · have e : callA lenD (consA (getD 4) nilA) [.na, .dk, .dat (ni p.1), .dat (ni p.2), .dat (tabD m b), e5, e6, e7, e8, e9, e10, e11, e12, e13] = some (ni m) := call1 (x := tabD m b) rfl len_tab
      exact congrArg (Option.map Ent.dat) e
    refine ⟨false, sums_ok h9 l1 l2 (by omega) s1 s2 (fun _ => rfl) rfl (fun _ => rfl) fun _ => rfl, ?_⟩
    show ∃ d, _
    refine ⟨.list [tupN T, tupN (topsL m b)], (both_map (S := S) (C := C) (g := fun v => tupN ((List.range v.length).filter fun i => decide (0 < v.getD i 0))) rfl fun v hv => callU_eq (ds := [tupN v]) rfl rfl (positive_eq v ?_)).trans ?_, ?_⟩
    · rcases List.mem_cons.mp hv with e | e
      · rw [e]; omega
      · rw [List.mem_singleton.mp e]; omega
    · rw [tS, tC]
    have Tl : T.length < 1000000 := by
      have := set_len ((domS_mem t).mp (show T ∈ domS m b by rw [eT]; exact List.mem_cons_self)).1
      omega
    have Cl : (topsL m b).length < 1000000 := by have := topsL_len (n := m) (b := b); omega
    refine ⟨false, notT_eq (a := true) (tst_eq (callU_eq (n := 2) (ds := [.list [tupN T, tupN (topsL m b)], .list [tupN T, tupN (topsL m b)]]) (consA_eq rfl (consA_eq (lstF_eq (consA_eq (callU_eq (ds := [tabD m b]) rfl rfl et) (consA_eq (callU_eq (ds := [tabD m b]) rfl rfl ect) rfl)) (show 2 < 1000000 by decide)) rfl)) rfl (same_two T (topsL m b) Tl Cl))), ?_⟩
    refine ⟨rfl, .list ((List.range m).map ni), ?_, rfl, (List.range m).map ni, .inl rfl, by simp; omega, by omega, fun ys hy => ?_⟩
    · show (rng1I (getD 6) _).map _ = _
      rw [rng1_nat (m := m) rfl (by omega)]
      rfl
    obtain ⟨os, rfl, ho⟩ := perm_nis hy
    have lo : ∀ x ∈ os, x < m := fun x hx => List.mem_range.mp (ho.mem_iff.mp hx)
    have ol : os.length = m := by rw [ho.length_eq, List.length_range]
    have od : os.Nodup := ho.nodup_iff.mpr List.nodup_range
    refine ⟨tupN os, rfl, ?_⟩
    refine ⟨.list [tupN (os.map fun x => S.getD x 0), tupN (os.map fun x => C.getD x 0)], both_map (S := S) (C := C) (g := fun v => tupN (os.map fun x => v.getD x 0)) rfl fun v hv => picks_eq (os := os) rfl (by omega) (fun x hx => ?_) (show 12 < 14 by decide) (fun _ => rfl) fun _ => rfl, ?_⟩
    · rcases List.mem_cons.mp hv with e | e
      · rw [e, l1]; exact lo x hx
      · rw [List.mem_singleton.mp e, l2]; exact lo x hx
    have tr := subN_tour t od lo (by omega) (by omega)
    have br := both_eq tr
    rw [ol] at tr br
    have r1 : sqV m (sub b os) (List.range m) = os.map fun x => S.getD x 0 := by
      rw [hS]
      exact vec_rel ol lo fun i hi => sqC_rel ho hi
    have r2 : cqV m (sub b os) = os.map fun x => C.getD x 0 := by
      rw [hC]
      exact vec_rel ol lo fun i hi => cqC_rel t ho hi
    rw [r1, r2] at br
    have rl := relabelN_eq t od lo
    rw [ol] at rl
    refine ⟨false, notT_eq (a := true) (tst_eq (callU_eq (n := 2) (ds := [.list [tupN (os.map fun x => S.getD x 0), tupN (os.map fun x => C.getD x 0)], .list [tupN (os.map fun x => S.getD x 0), tupN (os.map fun x => C.getD x 0)]]) (consA_eq (callU_eq (ds := [tabD m (sub b os)]) (consA_eq (callU_eq (ds := [tabD m b, tupN os]) rfl rfl rl) rfl) rfl br) rfl) rfl (same_two _ _ (by rw [List.length_map]; omega) (by rw [List.length_map]; omega)))), ?_⟩
    show ∃ b, _ ∧ _
    by_cases m8 : m < 9
    · refine ⟨true, tst_eq (bin2_eq (x := ni m) (y := .int 9) rfl rfl (by show some (PyData.bool (decide ((m : Int) < 9))) = _; rw [decide_eq_true (by omega)])), ?_⟩
      rw [if_pos rfl]
      refine ⟨.list [tupN (S.map (fun x => x * (m + 1)) ++ [0]), tupN (C.map (fun x => x * (m + 1)) ++ [0])], both_map (S := S) (C := C) (g := fun v => tupN (v.map (fun x => x * (m + 1)) ++ [0])) rfl fun v hv => ?_, ?_⟩
      · rcases List.mem_cons.mp hv with e | e
        · rw [e]
          exact more_eq (c := m) h9 (by omega) b1 rfl (fun _ => rfl) fun _ => rfl
        · rw [List.mem_singleton.mp e]
          exact more_eq (c := m) h9 (by omega) b2 rfl (fun _ => rfl) fun _ => rfl
      have b3 := both_eq (loT_tour t m8)
      have q1 : sqV (m + 1) (loT m b) (List.range (m + 1)) = S.map (fun x => x * (m + 1)) ++ [0] := by
        rw [hS]
        exact vec_lose (fun w => sqC_lose (by omega) loT_ok w) (sqC_out (by omega))
      have q2 : cqV (m + 1) (loT m b) = C.map (fun x => x * (m + 1)) ++ [0] := by
        rw [hC]
        exact vec_lose (fun w => cqC_lose (by omega) loT_ok w) (cqC_out (by omega))
      rw [q1, q2] at b3
      refine ⟨false, notT_eq (a := true) (tst_eq (callU_eq (n := 2) (ds := [.list [tupN (S.map (fun x => x * (m + 1)) ++ [0]), tupN (C.map (fun x => x * (m + 1)) ++ [0])], .list [tupN (S.map (fun x => x * (m + 1)) ++ [0]), tupN (C.map (fun x => x * (m + 1)) ++ [0])]]) (consA_eq (callU_eq (ds := [tabD (m + 1) (loT m b)]) (consA_eq (callU_eq (ds := [tabD m b, .str "+"]) rfl rfl (with_lose t m8)) rfl) rfl b3) rfl) rfl (same_two _ _ (by simp; omega) (by simp; omega)))), ?_⟩
      refine ⟨tupN (List.replicate m 0 ++ [fc (m + 1)]), best_eq m8 h1 rfl, ?_⟩
      have b4 := both_eq (beT_tour t m8)
      have g1 : ∀ x, beT m b x m = false := fun x => by unfold beT; rw [if_pos rfl]
      have g2 : ∀ j, j < m → beT m b m j = true := fun j hj => by unfold beT; rw [if_neg (by omega), if_pos rfl]
      have q3 : sqV (m + 1) (beT m b) (List.range (m + 1)) = List.replicate m 0 ++ [fc (m + 1)] := vec_best fun w => sqC_best g1 g2 w
      have q4 : cqV (m + 1) (beT m b) = List.replicate m 0 ++ [fc (m + 1)] := vec_best fun w => cqC_best g1 g2 w
      rw [q3, q4] at b4
      refine ⟨false, notT_eq (a := true) (tst_eq (callU_eq (n := 2) (ds := [.list [tupN (List.replicate m 0 ++ [fc (m + 1)]), tupN (List.replicate m 0 ++ [fc (m + 1)])], .list [tupN (List.replicate m 0 ++ [fc (m + 1)]), tupN (List.replicate m 0 ++ [fc (m + 1)])]]) (consA_eq (callU_eq (ds := [tabD (m + 1) (beT m b)]) (consA_eq (callU_eq (ds := [tabD m b, .str "-"]) rfl rfl (with_best t m8)) rfl) rfl b4) (consA_eq (lstF_eq (consA_eq rfl (consA_eq rfl rfl)) (show 2 < 1000000 by decide)) rfl)) rfl (same_two _ _ (by simp; omega) (by simp; omega)))), ?_⟩
      exact ⟨⟨_, _, _, _, _, _, _, _, _, _, _, _, rfl⟩, by simp; omega⟩
    · refine ⟨false, tst_eq (bin2_eq (x := ni m) (y := .int 9) rfl rfl (by show some (PyData.bool (decide ((m : Int) < 9))) = _; rw [decide_eq_false (by omega)])), ?_⟩
      exact ⟨⟨_, _, _, _, _, _, _, _, _, _, _, _, rfl⟩, by simp; omega⟩
  · exact ⟨.bool true, rfl, rfl⟩
end
end DS
set_option maxHeartbeats 4000000
namespace DS
open PySem PySem.Spec PyProof.Rows L2
/-! ### what the top has left -/
structure In1 (K : PySem.W.Frag) (x : Str) (st : Stmt) (f : Addr) (fd : FuncData) : Prop where
  ns : PySem.W.nsIn K mainGlobals x = some (some (.ref f))
  fn : Fun K x x st f fd
theorem in1 {K : PySem.W.Frag} {x : Str} {st : Stmt} {f : Addr} {oc : Value} {od an : Option Addr} {osl : Array (Option Value)} {kV doc pm cdv ct : Value} (a : PySem.W.nsIn K mainGlobals x = some (some (.ref f)))
    (l : K.lookup f = some ⟨oc, od, .func (PySem.W.fnOf x x (defArgs st) (defBody st) (defScope st) .none kV doc pm an cdv ct), osl⟩) (c : PySem.W.codeIn K cdv x = true) (k : PySem.W.keepIn K (.ref f) = true) :
    In1 K x st f (PySem.W.fnOf x x (defArgs st) (defBody st) (defScope st) .none kV doc pm an cdv ct) := ⟨a, fun_mk l c k⟩
theorem all_mk {l : PySem.W.OpenLaw} {w : World} {K : PySem.W.Frag} {h : Heap} {mg : Str → Option Value} {fa : Addr} {f_beats f_beats_all f_outsiders f_scores f_pick_table f_relabel_table f_all_sets f_dominant_sets f_is_dominant f_top_set f_sequence_counts f_counts_within f_careful_counts f_number_of_orders f_is_full f_chain_tops f_first_full_chain f_each_chain_from f_loses_to_all f__law_begin f__law_next f__law_mixed f__law_table f__law_same f__law_both f__law_number f__law_with f__law_positive f_law : Addr} {d_beats d_beats_all d_outsiders d_scores d_pick_table d_relabel_table d_all_sets d_dominant_sets d_is_dominant d_top_set d_sequence_counts d_counts_within d_careful_counts d_number_of_orders d_is_full d_chain_tops d_first_full_chain d_each_chain_from d_loses_to_all d__law_begin d__law_next d__law_mixed d__law_table d__law_same d__law_both d__law_number d__law_with d__law_positive d_law : FuncData}  (X : K.In h) (G : h.Ns mainGlobals mg) (hfa : mg "law" = some (.ref fa))
    (i_beats : In1 K "beats" s_beats f_beats d_beats)
    (i_beats_all : In1 K "beats_all" s_beats_all f_beats_all d_beats_all)
    (i_outsiders : In1 K "outsiders" s_outsiders f_outsiders d_outsiders)
    (i_scores : In1 K "scores" s_scores f_scores d_scores)
    (i_pick_table : In1 K "pick_table" s_pick_table f_pick_table d_pick_table)
    (i_relabel_table : In1 K "relabel_table" s_relabel_table f_relabel_table d_relabel_table)
    (i_all_sets : In1 K "all_sets" s_all_sets f_all_sets d_all_sets)
    (i_dominant_sets : In1 K "dominant_sets" s_dominant_sets f_dominant_sets d_dominant_sets)
    (i_is_dominant : In1 K "is_dominant" s_is_dominant f_is_dominant d_is_dominant)
    (i_top_set : In1 K "top_set" s_top_set f_top_set d_top_set)
    (i_sequence_counts : In1 K "sequence_counts" s_sequence_counts f_sequence_counts d_sequence_counts)
    (i_counts_within : In1 K "counts_within" s_counts_within f_counts_within d_counts_within)
    (i_careful_counts : In1 K "careful_counts" s_careful_counts f_careful_counts d_careful_counts)
    (i_number_of_orders : In1 K "number_of_orders" s_number_of_orders f_number_of_orders d_number_of_orders)
    (i_is_full : In1 K "is_full" s_is_full f_is_full d_is_full)
    (i_chain_tops : In1 K "chain_tops" s_chain_tops f_chain_tops d_chain_tops)
    (i_first_full_chain : In1 K "first_full_chain" s_first_full_chain f_first_full_chain d_first_full_chain)
    (i_each_chain_from : In1 K "each_chain_from" s_each_chain_from f_each_chain_from d_each_chain_from)
    (i_loses_to_all : In1 K "loses_to_all" s_loses_to_all f_loses_to_all d_loses_to_all)
    (i__law_begin : In1 K "_law_begin" s__law_begin f__law_begin d__law_begin)
    (i__law_next : In1 K "_law_next" s__law_next f__law_next d__law_next)
    (i__law_mixed : In1 K "_law_mixed" s__law_mixed f__law_mixed d__law_mixed)
    (i__law_table : In1 K "_law_table" s__law_table f__law_table d__law_table)
    (i__law_same : In1 K "_law_same" s__law_same f__law_same d__law_same)
    (i__law_both : In1 K "_law_both" s__law_both f__law_both d__law_both)
    (i__law_number : In1 K "_law_number" s__law_number f__law_number d__law_number)
    (i__law_with : In1 K "_law_with" s__law_with f__law_with d__law_with)
    (i__law_positive : In1 K "_law_positive" s__law_positive f__law_positive d__law_positive)
    (i_law : In1 K "law" s_law f_law d_law)
    (z_all : PySem.W.nsIn K mainGlobals "all" = some none)
    (z_tuple : PySem.W.nsIn K mainGlobals "tuple" = some none)
    (z_range : PySem.W.nsIn K mainGlobals "range" = some none)
    (z_len : PySem.W.nsIn K mainGlobals "len" = some none)
    (z_reversed : PySem.W.nsIn K mainGlobals "reversed" = some none)
    (z_enumerate : PySem.W.nsIn K mainGlobals "enumerate" = some none)
    (z_sorted : PySem.W.nsIn K mainGlobals "sorted" = some none)
    (z_any : PySem.W.nsIn K mainGlobals "any" = some none)
    (z_abs : PySem.W.nsIn K mainGlobals "abs" = some none)
    (z_int : PySem.W.nsIn K mainGlobals "int" = some none)
    (z_list : PySem.W.nsIn K mainGlobals "list" = some none)
    (z_isinstance : PySem.W.nsIn K mainGlobals "isinstance" = some none)
    (z_dict : PySem.W.nsIn K mainGlobals "dict" = some none)
    (z_str : PySem.W.nsIn K mainGlobals "str" = some none)
    (z_bool : PySem.W.nsIn K mainGlobals "bool" = some none)
    (z_sum : PySem.W.nsIn K mainGlobals "sum" = some none)
    (z_min : PySem.W.nsIn K mainGlobals "min" = some none)
    : ∃ fd : FuncData, (∀ (s : Shared) (v : Value), BindsTo s fd ⟨[v], []⟩ [("_law_script", v)]) ∧ ∀ base : Heap, K.In base → base.Ns mainGlobals mg → FnG l.prog w K mg base CX0 14 fa fd ["_law_script"] (spLaw K) := by
  have e := hfa.symm.trans (PySem.W.mg_of X G i_law.ns)
  cases e
  have b_beats : Binds K d_beats ["table", "one", "other"] [] := i_beats.fn.binds fun _ _ _ _ _ _ us hl => match us, hl with | [_, _, _], _ => rfl
  have b_beats_all : Binds K d_beats_all ["table", "one", "others"] [] := i_beats_all.fn.binds fun _ _ _ _ _ _ us hl => match us, hl with | [_, _, _], _ => rfl
  have b_outsiders : Binds K d_outsiders ["table", "members"] [] := i_outsiders.fn.binds fun _ _ _ _ _ _ us hl => match us, hl with | [_, _], _ => rfl
  have b_scores : Binds K d_scores ["table"] [] := i_scores.fn.binds fun _ _ _ _ _ _ us hl => match us, hl with | [_], _ => rfl
  have b_pick_table : Binds K d_pick_table ["table", "picked"] [] := i_pick_table.fn.binds fun _ _ _ _ _ _ us hl => match us, hl with | [_, _], _ => rfl
  have b_relabel_table : Binds K d_relabel_table ["table", "order"] [] := i_relabel_table.fn.binds fun _ _ _ _ _ _ us hl => match us, hl with | [_, _], _ => rfl
  have b_all_sets : Binds K d_all_sets ["table"] [] := i_all_sets.fn.binds fun _ _ _ _ _ _ us hl => match us, hl with | [_], _ => rfl
  have b_dominant_sets : Binds K d_dominant_sets ["table"] [] := i_dominant_sets.fn.binds fun _ _ _ _ _ _ us hl => match us, hl with | [_], _ => rfl
  have b_is_dominant : Binds K d_is_dominant ["table", "members"] [] := i_is_dominant.fn.binds fun _ _ _ _ _ _ us hl => match us, hl with | [_, _], _ => rfl
  have b_top_set : Binds K d_top_set ["table"] [] := i_top_set.fn.binds fun _ _ _ _ _ _ us hl => match us, hl with | [_], _ => rfl
  have b_sequence_counts : Binds K d_sequence_counts ["table"] [] := i_sequence_counts.fn.binds fun _ _ _ _ _ _ us hl => match us, hl with | [_], _ => rfl
  have b_counts_within : Binds K d_counts_within ["table", "members", "smaller"] [] := i_counts_within.fn.binds fun _ _ _ _ _ _ us hl => match us, hl with | [_, _, _], _ => rfl
  have b_careful_counts : Binds K d_careful_counts ["table"] [] := i_careful_counts.fn.binds fun _ _ _ _ _ _ us hl => match us, hl with | [_], _ => rfl
  have b_number_of_orders : Binds K d_number_of_orders ["size"] [] := i_number_of_orders.fn.binds fun _ _ _ _ _ _ us hl => match us, hl with | [_], _ => rfl
  have b_is_full : Binds K d_is_full ["table", "chain"] [] := i_is_full.fn.binds fun _ _ _ _ _ _ us hl => match us, hl with | [_, _], _ => rfl
  have b_chain_tops : Binds K d_chain_tops ["table"] [] := i_chain_tops.fn.binds fun _ _ _ _ _ _ us hl => match us, hl with | [_], _ => rfl
  have b_first_full_chain : Binds K d_first_full_chain ["table", "top"] [] := i_first_full_chain.fn.binds fun _ _ _ _ _ _ us hl => match us, hl with | [_, _], _ => rfl
  have b_each_chain_from : Binds K d_each_chain_from ["table", "top"] [] := i_each_chain_from.fn.binds fun _ _ _ _ _ _ us hl => match us, hl with | [_, _], _ => rfl
  have b_loses_to_all : Binds K d_loses_to_all ["table", "one", "others"] [] := i_loses_to_all.fn.binds fun _ _ _ _ _ _ us hl => match us, hl with | [_, _, _], _ => rfl
  have b__law_begin : Binds K d__law_begin ["_law_script"] [] := i__law_begin.fn.binds fun _ _ _ _ _ _ us hl => match us, hl with | [_], _ => rfl
  have b__law_next : Binds K d__law_next ["_law_deck", "_law_many"] [] := i__law_next.fn.binds fun _ _ _ _ _ _ us hl => match us, hl with | [_, _], _ => rfl
  have b__law_mixed : Binds K d__law_mixed ["_law_deck", "_law_items"] [] := i__law_mixed.fn.binds fun _ _ _ _ _ _ us hl => match us, hl with | [_, _], _ => rfl
  have b__law_table : Binds K d__law_table ["_law_deck", "_law_least", "_law_most"] [] := i__law_table.fn.binds fun _ _ _ _ _ _ us hl => match us, hl with | [_, _, _], _ => rfl
  have b__law_same : Binds K d__law_same ["_law_found", "_law_due"] [] := i__law_same.fn.binds fun _ _ _ _ _ _ us hl => match us, hl with | [_, _], _ => rfl
  have b__law_both : Binds K d__law_both ["_law_table_here"] [] := i__law_both.fn.binds fun _ _ _ _ _ _ us hl => match us, hl with | [_], _ => rfl
  have b__law_number : Binds K d__law_number ["_law_size"] [] := i__law_number.fn.binds fun _ _ _ _ _ _ us hl => match us, hl with | [_], _ => rfl
  have b__law_with : Binds K d__law_with ["_law_table_here", "_law_sign"] [] := i__law_with.fn.binds fun _ _ _ _ _ _ us hl => match us, hl with | [_, _], _ => rfl
  have b__law_positive : Binds K d__law_positive ["_law_counts"] [] := i__law_positive.fn.binds fun _ _ _ _ _ _ us hl => match us, hl with | [_], _ => rfl
  have b_law : Binds K d_law ["_law_script"] [] := i_law.fn.binds fun _ _ _ _ _ _ us hl => match us, hl with | [_], _ => rfl
  have tx : Tx K mg ⟨f_beats, d_beats, f_beats_all, d_beats_all, f_outsiders, d_outsiders, f_scores, d_scores, f_pick_table, d_pick_table, f_relabel_table, d_relabel_table, f_all_sets, d_all_sets, f_dominant_sets, d_dominant_sets, f_is_dominant, d_is_dominant, f_top_set, d_top_set, f_sequence_counts, d_sequence_counts, f_counts_within, d_counts_within, f_careful_counts, d_careful_counts, f_number_of_orders, d_number_of_orders, f_is_full, d_is_full, f_chain_tops, d_chain_tops, f_first_full_chain, d_first_full_chain, f_each_chain_from, d_each_chain_from, f_loses_to_all, d_loses_to_all, f__law_begin, d__law_begin, f__law_next, d__law_next, f__law_mixed, d__law_mixed, f__law_table, d__law_table, f__law_same, d__law_same, f__law_both, d__law_both, f__law_number, d__law_number, f__law_with, d__law_with, f__law_positive, d__law_positive, fa, d_law⟩ := ⟨i_beats.fn, b_beats, PySem.W.mg_of X G i_beats.ns, i_beats_all.fn, b_beats_all, PySem.W.mg_of X G i_beats_all.ns, i_outsiders.fn, b_outsiders, PySem.W.mg_of X G i_outsiders.ns, i_scores.fn, b_scores, PySem.W.mg_of X G i_scores.ns, i_pick_table.fn, b_pick_table, PySem.W.mg_of X G i_pick_table.ns, i_relabel_table.fn, b_relabel_table, PySem.W.mg_of X G i_relabel_table.ns, i_all_sets.fn, b_all_sets, PySem.W.mg_of X G i_all_sets.ns, i_dominant_sets.fn, b_dominant_sets, PySem.W.mg_of X G i_dominant_sets.ns, i_is_dominant.fn, b_is_dominant, PySem.W.mg_of X G i_is_dominant.ns, i_top_set.fn, b_top_set, PySem.W.mg_of X G i_top_set.ns, i_sequence_counts.fn, b_sequence_counts, PySem.W.mg_of X G i_sequence_counts.ns, i_counts_within.fn, b_counts_within, PySem.W.mg_of X G i_counts_within.ns, i_careful_counts.fn, b_careful_counts, PySem.W.mg_of X G i_careful_counts.ns, i_number_of_orders.fn, b_number_of_orders, PySem.W.mg_of X G i_number_of_orders.ns, i_is_full.fn, b_is_full, PySem.W.mg_of X G i_is_full.ns, i_chain_tops.fn, b_chain_tops, PySem.W.mg_of X G i_chain_tops.ns, i_first_full_chain.fn, b_first_full_chain, PySem.W.mg_of X G i_first_full_chain.ns, i_each_chain_from.fn, b_each_chain_from, PySem.W.mg_of X G i_each_chain_from.ns, i_loses_to_all.fn, b_loses_to_all, PySem.W.mg_of X G i_loses_to_all.ns, i__law_begin.fn, b__law_begin, PySem.W.mg_of X G i__law_begin.ns, i__law_next.fn, b__law_next, PySem.W.mg_of X G i__law_next.ns, i__law_mixed.fn, b__law_mixed, PySem.W.mg_of X G i__law_mixed.ns, i__law_table.fn, b__law_table, PySem.W.mg_of X G i__law_table.ns, i__law_same.fn, b__law_same, PySem.W.mg_of X G i__law_same.ns, i__law_both.fn, b__law_both, PySem.W.mg_of X G i__law_both.ns, i__law_number.fn, b__law_number, PySem.W.mg_of X G i__law_number.ns, i__law_with.fn, b__law_with, PySem.W.mg_of X G i__law_with.ns, i__law_positive.fn, b__law_positive, PySem.W.mg_of X G i__law_positive.ns, i_law.fn, b_law, PySem.W.mg_of X G i_law.ns, PySem.W.mg_none_of X G z_all, PySem.W.mg_none_of X G z_tuple, PySem.W.mg_none_of X G z_range, PySem.W.mg_none_of X G z_len, PySem.W.mg_none_of X G z_reversed, PySem.W.mg_none_of X G z_enumerate, PySem.W.mg_none_of X G z_sorted, PySem.W.mg_none_of X G z_any, PySem.W.mg_none_of X G z_abs, PySem.W.mg_none_of X G z_int, PySem.W.mg_none_of X G z_list, PySem.W.mg_none_of X G z_isinstance, PySem.W.mg_none_of X G z_dict, PySem.W.mg_none_of X G z_str, PySem.W.mg_none_of X G z_bool, PySem.W.mg_none_of X G z_sum, PySem.W.mg_none_of X G z_min⟩
  refine ⟨d_law, fun s v => ?_, fun base _ _ => ok_law tx⟩
  obtain ⟨oc, od, kV, doc, pm, an, cdv, ct, osl, rfl, lk, hcd⟩ := i_law.fn.ex
  exact .of_eq rfl
end DS
open PySem PySem.W PyProof.Rows
set_option maxHeartbeats 0 in
theorem PySem.Challenge.cw_duelsets_k35_whole_counts_holds : PySem.Challenge.rw_duelsets_k35_whole_counts.Holds := by
  w_on; o_law; k_head; (case hw => w_witness2)
  k_fill
  refine DS.walk_top (l := PySem.Challenge.rw_duelsets_k35_whole_counts) (n := 63) (k := 14) (x := "_law_script") (sp := fun w => DS.spLaw _) rfl (by decide) rfl ⟨rfl, by decide, by decide⟩ (fun w h Y => PySem.W.kIn_of Y) ?F (fun _ _ a ns hl _ hS => ⟨a, ns, rfl, hS, hl, fun _ => rfl⟩)
  case F =>
    intro w mg fa h KX G hmg
    refine' DS.all_mk KX G hmg (DS.in1 ?a_beats ?l_beats ?c_beats ?k_beats) (DS.in1 ?a_beats_all ?l_beats_all ?c_beats_all ?k_beats_all) (DS.in1 ?a_outsiders ?l_outsiders ?c_outsiders ?k_outsiders) (DS.in1 ?a_scores ?l_scores ?c_scores ?k_scores) (DS.in1 ?a_pick_table ?l_pick_table ?c_pick_table ?k_pick_table) (DS.in1 ?a_relabel_table ?l_relabel_table ?c_relabel_table ?k_relabel_table) (DS.in1 ?a_all_sets ?l_all_sets ?c_all_sets ?k_all_sets) (DS.in1 ?a_dominant_sets ?l_dominant_sets ?c_dominant_sets ?k_dominant_sets) (DS.in1 ?a_is_dominant ?l_is_dominant ?c_is_dominant ?k_is_dominant) (DS.in1 ?a_top_set ?l_top_set ?c_top_set ?k_top_set) (DS.in1 ?a_sequence_counts ?l_sequence_counts ?c_sequence_counts ?k_sequence_counts) (DS.in1 ?a_counts_within ?l_counts_within ?c_counts_within ?k_counts_within) (DS.in1 ?a_careful_counts ?l_careful_counts ?c_careful_counts ?k_careful_counts) (DS.in1 ?a_number_of_orders ?l_number_of_orders ?c_number_of_orders ?k_number_of_orders) (DS.in1 ?a_is_full ?l_is_full ?c_is_full ?k_is_full) (DS.in1 ?a_chain_tops ?l_chain_tops ?c_chain_tops ?k_chain_tops) (DS.in1 ?a_first_full_chain ?l_first_full_chain ?c_first_full_chain ?k_first_full_chain) (DS.in1 ?a_each_chain_from ?l_each_chain_from ?c_each_chain_from ?k_each_chain_from) (DS.in1 ?a_loses_to_all ?l_loses_to_all ?c_loses_to_all ?k_loses_to_all) (DS.in1 ?a__law_begin ?l__law_begin ?c__law_begin ?k__law_begin) (DS.in1 ?a__law_next ?l__law_next ?c__law_next ?k__law_next) (DS.in1 ?a__law_mixed ?l__law_mixed ?c__law_mixed ?k__law_mixed) (DS.in1 ?a__law_table ?l__law_table ?c__law_table ?k__law_table) (DS.in1 ?a__law_same ?l__law_same ?c__law_same ?k__law_same) (DS.in1 ?a__law_both ?l__law_both ?c__law_both ?k__law_both) (DS.in1 ?a__law_number ?l__law_number ?c__law_number ?k__law_number) (DS.in1 ?a__law_with ?l__law_with ?c__law_with ?k__law_with) (DS.in1 ?a__law_positive ?l__law_positive ?c__law_positive ?k__law_positive) (DS.in1 ?a_law ?l_law ?c_law ?k_law) ?z_all ?z_tuple ?z_range ?z_len ?z_reversed ?z_enumerate ?z_sorted ?z_any ?z_abs ?z_int ?z_list ?z_isinstance ?z_dict ?z_str ?z_bool ?z_sum ?z_min
    (case a_beats => k_is); (case l_beats => k_is); (case c_beats => k_is); (case k_beats => k_is)
    (case a_beats_all => k_is); (case l_beats_all => k_is); (case c_beats_all => k_is); (case k_beats_all => k_is)
    (case a_outsiders => k_is); (case l_outsiders => k_is); (case c_outsiders => k_is); (case k_outsiders => k_is)
    (case a_scores => k_is); (case l_scores => k_is); (case c_scores => k_is); (case k_scores => k_is)
    (case a_pick_table => k_is); (case l_pick_table => k_is); (case c_pick_table => k_is); (case k_pick_table => k_is)
    (case a_relabel_table => k_is); (case l_relabel_table => k_is); (case c_relabel_table => k_is); (case k_relabel_table => k_is)
    (case a_all_sets => k_is); (case l_all_sets => k_is); (case c_all_sets => k_is); (case k_all_sets => k_is)
    (case a_dominant_sets => k_is); (case l_dominant_sets => k_is); (case c_dominant_sets => k_is); (case k_dominant_sets => k_is)
    (case a_is_dominant => k_is); (case l_is_dominant => k_is); (case c_is_dominant => k_is); (case k_is_dominant => k_is)
    (case a_top_set => k_is); (case l_top_set => k_is); (case c_top_set => k_is); (case k_top_set => k_is)
    (case a_sequence_counts => k_is); (case l_sequence_counts => k_is); (case c_sequence_counts => k_is); (case k_sequence_counts => k_is)
    (case a_counts_within => k_is); (case l_counts_within => k_is); (case c_counts_within => k_is); (case k_counts_within => k_is)
    (case a_careful_counts => k_is); (case l_careful_counts => k_is); (case c_careful_counts => k_is); (case k_careful_counts => k_is)
    (case a_number_of_orders => k_is); (case l_number_of_orders => k_is); (case c_number_of_orders => k_is); (case k_number_of_orders => k_is)
    (case a_is_full => k_is); (case l_is_full => k_is); (case c_is_full => k_is); (case k_is_full => k_is)
    (case a_chain_tops => k_is); (case l_chain_tops => k_is); (case c_chain_tops => k_is); (case k_chain_tops => k_is)
    (case a_first_full_chain => k_is); (case l_first_full_chain => k_is); (case c_first_full_chain => k_is); (case k_first_full_chain => k_is)
    (case a_each_chain_from => k_is); (case l_each_chain_from => k_is); (case c_each_chain_from => k_is); (case k_each_chain_from => k_is)
    (case a_loses_to_all => k_is); (case l_loses_to_all => k_is); (case c_loses_to_all => k_is); (case k_loses_to_all => k_is)
    (case a__law_begin => k_is); (case l__law_begin => k_is); (case c__law_begin => k_is); (case k__law_begin => k_is)
    (case a__law_next => k_is); (case l__law_next => k_is); (case c__law_next => k_is); (case k__law_next => k_is)
    (case a__law_mixed => k_is); (case l__law_mixed => k_is); (case c__law_mixed => k_is); (case k__law_mixed => k_is)
    (case a__law_table => k_is); (case l__law_table => k_is); (case c__law_table => k_is); (case k__law_table => k_is)
    (case a__law_same => k_is); (case l__law_same => k_is); (case c__law_same => k_is); (case k__law_same => k_is)
    (case a__law_both => k_is); (case l__law_both => k_is); (case c__law_both => k_is); (case k__law_both => k_is)
    (case a__law_number => k_is); (case l__law_number => k_is); (case c__law_number => k_is); (case k__law_number => k_is)
    (case a__law_with => k_is); (case l__law_with => k_is); (case c__law_with => k_is); (case k__law_with => k_is)
    (case a__law_positive => k_is); (case l__law_positive => k_is); (case c__law_positive => k_is); (case k__law_positive => k_is)
    (case a_law => k_is); (case l_law => k_is); (case c_law => k_is); (case k_law => k_is)
    (case z_all => k_is)
    (case z_tuple => k_is)
    (case z_range => k_is)
    (case z_len => k_is)
    (case z_reversed => k_is)
    (case z_enumerate => k_is)
    (case z_sorted => k_is)
    (case z_any => k_is)
    (case z_abs => k_is)
    (case z_int => k_is)
    (case z_list => k_is)
    (case z_isinstance => k_is)
    (case z_dict => k_is)
    (case z_str => k_is)
    (case z_bool => k_is)
    (case z_sum => k_is)
    (case z_min => k_is)
