import PyProof.Rows.All
import Wide.All
import OpenK.AllK
import Wide.FinOn
import PyProof.ReprRoads
import HandS.ForExc
import HandS.ForMost
import HandS.EndBits
import HandS.Wide
import HandS.ExcInit
import HandS.IsInst
import HandS.ExcIs
import KE.KExcIs
import HandS.Defaults
import HandS.Comp
import HandS.TupSets
import HandS.SetKeys
import HandS.SetBool
import HandS.Strs
import KE.GoesMore
import KE.SortData
import HandS.Walk
import HandS.Property
import HandS.DictComp
import HandS.WideBits
import HandS.More
import HandS.Deep
import HandS.Zip
import HandS.TupAny
import PyProof.NeKinds
import HandS.Exc
import HandS.TryMany
import KE.KDictDisplayH
import HandS.Text
import PyProof.StrLawsRepr
import HandS.Head0
import HandS.Head1
import HandS.Head2
import HandS.HeadEnd
import HandS.HeadHook1
import HandS.HeadHook2
import PySem.Challenge.RW_cornerturn_k76_new_errors_by_hand
set_option Elab.async false
set_option linter.all false
set_option maxRecDepth 100000
set_option maxHeartbeats 2000000
/-! Own kit A: defs whose promise leans on there being no guard on the stack (repr); the end of a law with such a def. -/
namespace Ct
open PySem PySem.Spec PyProof.Rows L2
/-- a def's promise where no guard stands on the stack -/
structure GFn (P : Program) (w : World) (K : PySem.W.Frag) (mg : Str → Option Value) (base : Heap) (CX : CXT) (k : Nat) (f : Addr) (fd : FuncData) (ps : List Str) (sp : Sp) : Prop where
  len : ∀ vs H Q E, sp vs H Q E → vs.length = ps.length
  run : ∀ (A : Around) (o : List Env) (s : Shared) (H : Hp) (ar : Args) (us : List Value) (vs : List V) (Q : VK) (E : XK), A.guards = some [] → Room k A → Env0 P w K mg base A o s H →
    BindsTo s fd ar (ps.zip us) → Vals vs us → sp vs H Q E → codeAny (model P w) A (.call (.ref f) ar) (CR CX o P w H s Q E) s
theorem GFn.of {P : Program} {w : World} {K : PySem.W.Frag} {mg : Str → Option Value} {base : Heap} {CX : CXT} {k : Nat} {f : Addr} {fd : FuncData} {ps : List Str} {sp : Sp}
    (F : FnOk P w K mg base CX k f fd ps sp) : GFn P w K mg base CX k f fd ps sp := ⟨F.len, fun A o s H ar us vs Q E _ => F.run A o s H ar us vs Q E⟩
theorem GFn.mono {P : Program} {w : World} {K : PySem.W.Frag} {mg : Str → Option Value} {base : Heap} {CX : CXT} {j k : Nat} {f : Addr} {fd : FuncData} {ps : List Str} {sp : Sp}
    (F : GFn P w K mg base CX j f fd ps sp) (h : j ≤ k) : GFn P w K mg base CX k f fd ps sp := ⟨F.len, fun A o s H ar us vs Q E g r => F.run A o s H ar us vs Q E g (r.mono h)⟩
section
variable {P : Program} {w : World} {K : PySem.W.Frag} {mg : Str → Option Value} {base : Heap} {CX : CXT}
/-- the rule for such a def -/
theorem gfn_of {x qual : Str} {st : Stmt} {f : Addr} {fd : FuncData} {N ps : List Str} {k : Nat} {sp : Sp} (F : Fun K x qual st f fd) (S : FnScope N ps (defScope st)) (len : ∀ vs H Q E, sp vs H Q E → vs.length = ps.length)
    (body : ∀ (cdv : Value) (A : Around) (o : List Env) (s : Shared) (H : Hp) (vs : List V) (Q : VK) (E : XK), A.guards = some [] → Room k (A.deeper (envOfC qual (defScope st) s.heap.objs.size f cdv)) → sp vs H Q E →
      ∃ t, PSs (cxOf CX P w K mg base N qual (defScope st) f cdv A o s H E) (defBody st) t ∧ t { nx := fun _ H' => Q .non H', rt := Q } (start N vs) H) : GFn P w K mg base CX (k + 1) f fd ps sp := by
  obtain ⟨oc, od, kV, doc, pm, an, cdv, ct, osl, rfl, lk, hcd⟩ := F.ex
  refine ⟨len, ?_⟩
  intro A o s H ar us vs Q E g hr e0 hb rel hsp
  have kb : ∀ b u, base.get? b = some u → s.heap.get? b = some u := fun b u e => (e0.bs b u e).1
  have KX := e0.mod.kin.keeps kb
  have lim := e0.mod.nolimit.keeps kb
  refine codeAny_call_function hr.depth (KX _ _ lk) rfl S.co S.gen rfl (PySem.W.codeRec_of KX hcd) (hb _ _ _ _ ?_)
  refine wpAny_newFunctionEnv_cells S.kind (fun ⟨n, v⟩ hy => ?_) fun env he s1 ic => ?_
  · cases S.par n (List.of_mem_zip hy).1 with
    | inl q => exact Or.inl q
    | inr q => exact Or.inr ⟨q, PySem.W.cellsFrom_some _ _ _ (Or.inl q)⟩
  cases he
  refine ⟨lim.keeps ic.toInCall.keep, codeAny_func ?_⟩
  obtain ⟨t, ht, hq⟩ := body cdv A o s H vs Q E g (hr.deeper _) hsp
  have I := inv_start (CX := CX) (P := P) (w := w) (K := K) (mg := mg) (base := base) (E := E) S hr.hd e0 (len _ _ _ _ hsp) rel ic
  refine wpAny_mono (ht.run [] s1 (start N vs) H _ I hq) ?_ (fun e s' z => z)
  intro fl s' z
  cases fl with
  | ret u => obtain ⟨v, σ', H', J, rv, q⟩ := z; exact ⟨v, H', J.os, J.bare, J.base, J.hok, rv, q⟩
  | next => obtain ⟨σ', H', J, q⟩ := z; exact ⟨.non, H', J.os, J.bare, J.base, J.hok, rfl, q⟩
  | brk => obtain ⟨_, _, _, q⟩ := z; exact q.elim
  | cont => obtain ⟨_, _, _, q⟩ := z; exact q.elim
end
section
variable {X : Cx} {CX : CXT} {k : Nat} {f : Addr} {fd : FuncData} {ps : List Str} {sp : Sp} {dvs : List V} {ds : List Value} {E : XK} {x : Str} {p pos : Pos} {e : Expr} {es : List Expr} {t : TA}
theorem run_g {pins : List (Addr × Obj)} {σ : L2.St} {H : Hp} {s : Shared} {Q : VK} {us : List Value} {vs : List V} (F : GFn X.prog X.w X.K X.mg X.base CX k f fd ps sp) (g : X.A.guards = some []) (hr : Room k X.A) (hb : Binds X.K fd ps ds) (hd : Vals dvs ds)
    (hx : Passes CX X E) (I : Inv X pins σ H s) (r : Vals vs us) (h : sp (vs ++ dvs) H Q E) : wpAny (model X.prog X.w) X.A (call (.ref f) us) (EP X pins σ Q) X.xe s := by
  have r2 := r.append hd
  refine wpAny_call (codeAny_mono (F.run X.A X.stack s H ⟨us, []⟩ (us ++ ds) (vs ++ dvs) Q E g hr I.env0 (hb s us I.kIn (by rw [← r2.length]; exact F.len _ _ _ _ h)) r2 h) ?_)
  intro r s' z
  match r, z with
  | .error e, z => exact hx pins σ H s e s' I z
  | .ok (.ret u), z => exact I.after z
  | .ok .next, z => exact False.elim z
  | .ok .brk, z => exact False.elim z
  | .ok .cont, z => exact False.elim z
/-- a call of such a def -/
theorem pe_callG (F : GFn X.prog X.w X.K X.mg X.base CX k f fd ps sp) (g : X.A.guards = some []) (hr : Room k X.A) (hg : Gl X x) (hm : X.mg x = some (.ref f)) (hk : PySem.W.keepIn X.K (.ref f) = true) (hb : Binds X.K fd ps ds) (hd : Vals dvs ds) (hx : Passes CX X E)
    (ha : PA X (e :: es) t) (hdb : (x == ("__debug__" : Str)) = false := by decide) (he : starEach (e :: es) X.env = (false, eval e X.env) :: starEach es X.env := by rfl) (hpl : (backTo pos (starEach es X.env)).any (·.1) = false := by rfl) :
    PE X (.Call (.Name x p) (e :: es) [] pos) (tCall sp dvs E t) := by
  constructor
  intro pins s σ H Q I h
  refine wpAny_Call_Name_kw (ld_glob I hg hm ?_ hdb)
  refine PySem.W.callWith_K (h₀ := X.base) I.ok.mod.kin hk (thn (ha.run pos pins s σ H _ I h) ?_) he hpl
  rintro us s1 ⟨vs, H1, I1, r, q⟩
  exact ⟨I1.kIn, run_g F g hr hb hd hx I1 r q⟩
end
/-! the law's own end -/
/-- the abstract heap that tracks the script alone -/
def hpS (a : Addr) (vs : List Value) (ns : List Int) : Hp := fun b => if b = a then some (.frz { cls := .type "list", data := .seq vs.toArray } (.lst (ns.map V.int))) else none
theorem end_g {P : Program} {w : World} {K : PySem.W.Frag} {mg mb : Str → Option Value} {CX : CXT} {k : Nat} {fa a : Addr} {fd : FuncData} {x : Str} {sp : Sp} {s1 : Shared} {vs : List Value} {ns : List Int}
    (KX : K.In s1.heap) (hns : s1.heap.Ns mainGlobals mg) (hb : s1.heap.Ns builtinsNs mb) (hbb : ∀ x : Str, x ≠ "__name__" → mb x = bootBuiltins x) (hlim : s1.heap.NoLimit) (hg : s1.gens = #[])
    (ha : s1.heap.get? a = some { cls := .type "list", data := .seq vs.toArray }) (hi : IntsAre vs ns) (hl : ns.length ≤ sizeLine) (hr : Room k callerA)
    (hmods : ∃ mm, s1.heap.Ns sysModules mm) (F : ∀ base : Heap, K.In base → base.Ns mainGlobals mg → (∃ mm, base.Ns sysModules mm) → GFn P w K mg base CX k fa fd [x] sp) (hbind : ∀ (s : Shared) (u : Value), BindsTo s fd ⟨[u], []⟩ [(x, u)])
    (hsp : ∀ H : Hp, Only H → SqL K H a (ns.map V.int) → sp [.ref a] H (fun v _ => v = .bl true) fun _ _ _ => False)
    (hCX : ∀ H e s', CX [] H s1 (fun _ _ _ => False) e s' → False) :
    codeAny (model P w) callerA (.call (.ref fa) ⟨[.ref a], []⟩) (fun r s' => r = .ok (.ret (.bool true)) ∧ OldK s1.heap s'.heap ∧ s'.os = s1.os ∧ AllBare s'.gens) s1 := by
  have rv := vals_ints hi
  have main : ∀ H : Hp, Only H → SqL K H a (ns.map V.int) → HOk P w H s1.heap → (∀ b, b ≠ a → H b = none) → (∀ o, K.lookup a = some o → H a = none) →
      codeAny (model P w) callerA (.call (.ref fa) ⟨[.ref a], []⟩) (fun r s' => r = .ok (.ret (.bool true)) ∧ OldK s1.heap s'.heap ∧ s'.os = s1.os ∧ AllBare s'.gens) s1 := by
    intro H only seq hok off hK
    -- what is no list of the script's stands in the base
    have inB : ∀ {b : Addr} {o : Obj} {es : Array DictEntry} {ep : Nat}, s1.heap.get? b = some o → o.data = .dict es ep → H b = none := by
      intro b o es ep e d
      by_cases hba : b = a
      · rw [hba, ha] at e
        cases e
        cases d
      · exact off b hba
    have nsB : ∀ {b : Addr} {m : Str → Option Value}, s1.heap.Ns b m → (hidT s1.heap H).Ns b m := by
      rintro b m ⟨o, es, ep, e, d, r⟩
      exact ⟨o, es, ep, hidT_get e (inB e d), d, r⟩
    have KB : K.In (hidT s1.heap H) := by
      intro b o e
      refine hidT_get (KX b o e) ?_
      by_cases hba : b = a
      · rw [hba] at e ⊢
        exact hK o e
      · exact off b hba
    have lim : (hidT s1.heap H).NoLimit := by
      obtain ⟨mc, h1, h2⟩ := hlim
      exact ⟨mc, nsB h1, h2⟩
    have e0 : Env0 P w K mg (hidT s1.heap H) callerA [] s1 H :=
      { frames := rfl, mod := ⟨KB, nsB hns, ⟨mb, nsB hb, hbb⟩, lim⟩, bs := fun b o e => of_hidT e, bsz := Nat.le_of_eq (hidT_size _ _), funs := trivial, frf := (fun b z => nomatch z), hok := hok, bare := .of_eq hg }
    refine codeAny_mono ((F _ KB (nsB hns) (hmods.imp fun _ z => nsB z)).run callerA [] s1 H ⟨[.ref a], []⟩ [.ref a] [.ref a] _ _ rfl hr e0 (hbind s1 (.ref a)) (.cons rfl .nil) (hsp H only seq)) ?_
    intro r s' z
    match r, z with
    | .error e, z => exact (hCX H e s' z).elim
    | .ok .next, z => exact False.elim z
    | .ok .brk, z => exact False.elim z
    | .ok .cont, z => exact False.elim z
    | .ok (.ret u), z =>
      obtain ⟨v, H', os, bare, un, hok', ru, qv⟩ := z
      cases (show v = V.bl true from qv)
      cases (show u = Value.bool true from ru)
      refine ⟨rfl, OldK.of_keep ?_, os, bare⟩
      intro b o e
      cases q : H b with
      | none => exact un.keep b o e q (fun z => (nomatch z)) (fun z => (nomatch z))
      | some u =>
        cases only b with
        | inl z => rw [q] at z; cases z
        | inr z =>
          obtain ⟨ob, xs, z⟩ := z
          have h1 := (hok b _ z).1
          have h2 := (hok' b _ (un.frzs b ob _ z)).1
          rw [e] at h1
          cases h1
          exact h2
  cases hk : K.lookup a with
  | some o =>
    have e := KX a o hk
    rw [ha] at e
    cases e
    exact main (fun _ => none) (fun _ => Or.inl rfl) (Or.inr ⟨_, vs.toArray, _, hk, rfl, rfl, rfl, by rw [List.size_toArray, hi.length]; exact hl, by simpa using rv⟩) (fun b u z => nomatch z) (fun b _ => rfl) (fun _ _ => rfl)
  | none =>
    have at_a : hpS a vs ns a = some (.frz { cls := .type "list", data := .seq vs.toArray } (.lst (ns.map V.int))) := if_pos rfl
    have off_a : ∀ b, b ≠ a → hpS a vs ns b = none := fun b z => if_neg z
    refine main (hpS a vs ns) (fun b => ?_) (Or.inl (Or.inr ⟨_, at_a⟩)) (fun b u z => ?_) off_a (fun o z => ?_)
    · by_cases hba : b = a
      · exact Or.inr ⟨_, _, by rw [hba]; exact at_a⟩
      · exact Or.inl (off_a b hba)
    · by_cases hba : b = a
      · rw [hba] at z ⊢
        rw [at_a] at z
        cases z
        exact ⟨ha, by rw [List.length_map]; exact hl, vs, _, rv, ha⟩
      · rw [off_a b hba] at z
        cases z
    · rw [hk] at z
      cases z
/-- the goal that k_head leaves, from the promise of a law's def that leans on no guard; the script's bits are told -/
theorem walk_g {l : PySem.W.OpenLaw} {n k : Nat} {q : Program} {loose : List Str} {XP : (Str → Option Value) → Heap → Prop} {YP : World → Heap → Prop} {d : DefRec} {K : Params → PySem.W.Frag} {CX : World → CXT} {sp : World → Sp} {x : Str}
    (hn : l.most = some n) (hq : importsNone q = true) (hn2 : n ≤ sizeLine) (hdf : d.params.defaults = []) (hr : Room k callerA) (hY : ∀ (w : World) (h : Heap), YP w h → (K w.params).In h)
    (F : ∀ (w : World) (mg : Str → Option Value) (fa : Addr) (h : Heap), (K w.params).In h → h.Ns mainGlobals mg → mg d.name = some (.ref fa) →
      ∃ fd : FuncData, (∀ (s : Shared) (u : Value), BindsTo s fd ⟨[u], []⟩ [(x, u)]) ∧ ∀ base : Heap, (K w.params).In base → base.Ns mainGlobals mg → (∃ mm, base.Ns sysModules mm) → GFn l.prog w (K w.params) mg base (CX w) k fa fd [x] (sp w))
    (hsp : ∀ (w : World) (H : Hp) (a : Addr) (ns : List Int), ns.length ≤ n → (∀ z ∈ ns, Builtin.Int.intBits z ≤ 1048576) → Only H → SqL (K w.params) H a (ns.map V.int) → sp w [.ref a] H (fun v _ => v = .bl true) fun _ _ _ => False)
    (hCX : ∀ (w : World) (H : Hp) (s : Shared) (e : Value) (s' : Shared), CX w [] H s (fun _ _ _ => False) e s' → False) :
    PySem.W.WalkO q loose XP YP l.row.toRowW d [] (fun f vs => PySem.call f vs) := by
  refine Att.attach_callB hn hdf ?_
  intro w s0 s1 mg mb fa o pm cd doc a vs ns G Y _ _ _ hmg hobj hints hlen hbits hg
  obtain ⟨fd, hb, hF⟩ := F w mg fa _ (hY w _ Y) G.T.g hmg
  exact end_g (hY w _ Y) G.T.g G.T.b G.T.builtins G.T.nolimit hg hobj hints (Nat.le_trans hlen hn2) hr ((G.T.seer hq).mods.imp fun _ z => z.1) hF hb (fun H h1 h2 => hsp w H a ns hlen hbits h1 h2) (fun H e s' => hCX w H s1 e s')
/-- the same where the promise hangs on the written part alone -/
theorem walk_gK {l : PySem.W.OpenLaw} {n k : Nat} {q : Program} {loose : List Str} {XP : (Str → Option Value) → Heap → Prop} {YP : World → Heap → Prop} {d : DefRec} {K : Params → PySem.W.Frag} {CX : CXT} {sp : PySem.W.Frag → Sp} {x : Str}
    (hn : l.most = some n) (hq : importsNone q = true) (hn2 : n ≤ sizeLine) (hdf : d.params.defaults = []) (hr : Room k callerA) (hY : ∀ (w : World) (h : Heap), YP w h → (K w.params).In h)
    (F : ∀ (w : World) (mg : Str → Option Value) (fa : Addr) (h : Heap), (K w.params).In h → h.Ns mainGlobals mg → mg d.name = some (.ref fa) →
      ∃ fd : FuncData, (∀ (s : Shared) (u : Value), BindsTo s fd ⟨[u], []⟩ [(x, u)]) ∧ ∀ base : Heap, (K w.params).In base → base.Ns mainGlobals mg → (∃ mm, base.Ns sysModules mm) → GFn l.prog w (K w.params) mg base CX k fa fd [x] (sp (K w.params)))
    (hsp : ∀ (K : PySem.W.Frag) (H : Hp) (a : Addr) (ns : List Int), ns.length ≤ n → (∀ z ∈ ns, Builtin.Int.intBits z ≤ 1048576) → Only H → SqL K H a (ns.map V.int) → sp K [.ref a] H (fun v _ => v = .bl true) fun _ _ _ => False)
    (hCX : ∀ (H : Hp) (s : Shared) (e : Value) (s' : Shared), CX [] H s (fun _ _ _ => False) e s' → False) :
    PySem.W.WalkO q loose XP YP l.row.toRowW d [] (fun f vs => PySem.call f vs) :=
  walk_g (K := K) (CX := fun _ => CX) (sp := fun w => sp (K w.params)) hn hq hn2 hdf hr hY F (fun w H a ns h1 h2 h3 h4 => hsp (K w.params) H a ns h1 h2 h3 h4) fun _ H s e s' => hCX H s e s'
end Ct

set_option Elab.async false
set_option linter.all false
set_option maxRecDepth 100000
set_option maxHeartbeats 2000000
/-! Own kit B: data of any depth with dicts, read off the abstract heap; repr; great powers. -/
namespace Ct
open PySem PySem.Spec L2
def keyD : Key → PyData
  | .inl i => .int i
  | .inr x => .str x
mutual
/-- the value v is the datum d (lists, tuples, dicts with ints and texts or tuples of such as keys) -/
inductive Dq (K : PySem.W.Frag) (H : Hp) : V → PyData → Prop
  | non : Dq K H .non .none
  | bl (b : Bool) : Dq K H (.bl b) (.bool b)
  | int (i : Int) : Dq K H (.int i) (.int i)
  | str (x : Str) : Dq K H (.str x) (.str x)
  | lst {a : Addr} {xs : List V} {ds : List PyData} : SqL K H a xs → DqAll K H xs ds → Dq K H (.ref a) (.list ds)
  | tup {a : Addr} {xs : List V} {ds : List PyData} : SqT K H a xs → DqAll K H xs ds → Dq K H (.ref a) (.tuple ds)
  | dic {a : Addr} {kvs : List (Key × V)} {vs : List PyData} {ps : List (PyData × PyData)} : Rd H a (.dK kvs) → ps.map (·.1) = kvs.map (fun p => keyD p.1) → vs = ps.map (·.2) → DqAll K H (kvs.map (·.2)) vs → Dq K H (.ref a) (.dict ps)
  | dicT {a : Addr} {kvs : List (List Key × V)} {vs : List PyData} {ps : List (PyData × PyData)} : Rd H a (.dT kvs) → ps.map (·.1) = kvs.map (fun p => .tuple (p.1.map keyD)) → vs = ps.map (·.2) → DqAll K H (kvs.map (·.2)) vs → Dq K H (.ref a) (.dict ps)
inductive DqAll (K : PySem.W.Frag) (H : Hp) : List V → List PyData → Prop
  | nil : DqAll K H [] []
  | cons {v : V} {vs : List V} {d : PyData} {ds : List PyData} : Dq K H v d → DqAll K H vs ds → DqAll K H (v :: vs) (d :: ds)
end
section
variable {X : Cx} {pins : List (Addr × Obj)} {σ : L2.St} {H : Hp} {s : Shared}
theorem reads_key {h : Heap} : ∀ {k : Key} {u : Value}, RelV (kV k) u → Reads h u (keyD k) []
  | .inl i, u, r => by obtain ⟨t, rfl⟩ := r; exact .int i t
  | .inr x, u, r => by obtain ⟨t, rfl⟩ := r; exact .str x t
theorem reads_keys {h : Heap} : ∀ {ks : List Key} {us : List Value}, Vals (ks.map kV) us → ReadsAll h us (ks.map keyD) []
  | [], _, .nil => .nil
  | _ :: _, _, .cons r t => .cons (reads_key r) (reads_keys t)
theorem readsAll_cons0 {h : Heap} {v : Value} {vs : List Value} {d : PyData} {ds : List PyData} (a : Reads h v d []) (b : ReadsAll h vs ds []) : ReadsAll h (v :: vs) (d :: ds) [] := .cons a b
/-- the keys of a dict whose keys are ints and texts; its values -/
theorem kv_keys {prog : Program} {w : World} {h : Heap} : ∀ {kvs : List (Key × V)} {vs : List (Key × Value)} {es : List DictEntry}, KV kvs vs → Pairs (mixKind prog w) es vs →
    ReadsAll h (es.map (·.key)) (kvs.map fun p => keyD p.1) [] ∧ Vals (kvs.map (·.2)) (es.map (·.val))
  | [], _, _, .nil, .nil => ⟨.nil, .nil⟩
  | _ :: _, _, _, .cons r t, .cons e3 e4 u => by
    obtain ⟨h1, h2⟩ := kv_keys (h := h) t u
    obtain ⟨e1, e2⟩ := r
    have e3 := (mixKind_is prog w _ _).symm.trans e3
    refine ⟨readsAll_cons0 ?_ h1, .cons ?_ h2⟩
    · rcases keyIs_shape e3 with ⟨i, tk, z1, z2⟩ | ⟨x, tk, z1, z2⟩
      · dsimp only; rw [z2, e1, z1]; exact .int i tk
      · dsimp only; rw [z2, e1, z1]; exact .str x tk
    · dsimp only; rw [e4]; exact e2
/-- the start-up's table of modules stands in the base -/
def SysB (base : Heap) : Prop := ∃ mm, base.Ns sysModules mm
theorem sys_free (I : Inv X pins σ H s) (S : SysB X.base) {a : Addr} {o : HO} (e : H a = some o) : a ≠ sysModules := by
  obtain ⟨mm, ob, es, ep, h1, _⟩ := S
  intro z
  rw [z, (I.bs _ _ h1).2] at e
  cases e
theorem sys_seq (I : Inv X pins σ H s) (S : SysB X.base) {a : Addr} {o : Obj} {its : Array Value} {n : Nat} (e : s.heap.get? a = some o) (d : o.data = .seq its n) : a ≠ sysModules := by
  obtain ⟨mm, ob, es, ep, h1, h2, _⟩ := S
  intro z
  rw [z, I.bk _ _ h1] at e
  cases e
  rw [h2] at d
  cases d
theorem keysT {Hh : Hp} (hok : HOk X.prog X.w H s.heap) : ∀ {kvs : List (List Key × V)} {xs : List (List Key × Addr × Value)},
    Paired (fun (p : List Key × V) (q : List Key × Addr × Value) => p.1 = q.1 ∧ H q.2.1 = some (.tup (p.1.map kV)) ∧ RelV p.2 q.2.2) kvs xs →
    ReadsAll s.heap ((xs.map (entryOfKey (tupleKind (mixKind X.prog X.w)))).map (·.key)) (kvs.map fun p => .tuple (p.1.map keyD)) [] ∧ Vals (kvs.map (·.2)) ((xs.map (entryOfKey (tupleKind (mixKind X.prog X.w)))).map (·.val))
  | [], _, .nil => ⟨.nil, .nil⟩
  | _ :: _, _, .cons r t => by
    obtain ⟨h1, h2⟩ := keysT (Hh := Hh) hok t
    obtain ⟨e1, e2, e3⟩ := r
    obtain ⟨_, its, rv, o, ho, hc, n, hd⟩ := hok _ _ e2
    exact ⟨readsAll_cons0 (.tuple ho hc hd (by simpa using reads_keys rv)) h1, .cons e3 h2⟩
mutual
theorem Dq.reads (I : Inv X pins σ H s) (S : SysB X.base) : ∀ {v : V} {d : PyData} {u : Value}, Dq X.K H v d → RelV v u → ∃ as, Reads s.heap u d as ∧ sysModules ∉ as
  | _, _, _, .non, r => by cases r; exact ⟨_, .none, by simp⟩
  | _, _, _, .bl b, r => by cases r; exact ⟨_, .bool b, by simp⟩
  | _, _, _, .int i, r => by obtain ⟨t, rfl⟩ := r; exact ⟨_, .int i t, by simp⟩
  | _, _, _, .str x, r => by obtain ⟨t, rfl⟩ := r; exact ⟨_, .str x t, by simp⟩
  | _, _, _, .lst hs ha, r => by
    cases r
    obtain ⟨its, rv, ⟨o, n, ho, hc, _, hd⟩, _⟩ := I.list hs
    obtain ⟨as, hr, hn⟩ := DqAll.reads I S ha rv
    exact ⟨_, .list ho hc hd hr, fun z => (List.mem_cons.mp z).elim (fun e => sys_seq I S ho hd e.symm) hn⟩
  | _, _, _, .tup hs ha, r => by
    cases r
    obtain ⟨its, rv, ⟨o, ho, hc, n, hd⟩, _⟩ := I.tuple hs
    obtain ⟨as, hr, hn⟩ := DqAll.reads I S ha rv
    exact ⟨_, .tuple ho hc hd hr, hn⟩
  | _, _, _, .dic hs hk hv ha, r => by
    cases r
    obtain ⟨_, hy, vs, rkv, o, es, ep, ho, hx, hd, _, hp, _⟩ := hs.ok I.hok
    obtain ⟨h1, h2⟩ := kv_keys (h := s.heap) rkv hp
    obtain ⟨as, hr, hn⟩ := DqAll.reads I S ha h2
    subst hv
    refine ⟨_, .dict ho hx.1 hd (by rw [hk]; exact h1) hr, fun z => ?_⟩
    rcases List.mem_cons.mp z with e | z
    · exact (beq_eq_false_iff_ne.mp hy) e.symm
    · exact hn (by simpa using z)
  | _, _, _, .dicT hs hk hv ha, r => by
    cases r
    obtain ⟨_, hy, xs, rp, o, es, ep, ho, hx, hd, he, _⟩ := hs.ok I.hok
    obtain ⟨h1, h2⟩ := keysT (Hh := H) I.hok rp
    rw [← he] at h1 h2
    obtain ⟨as, hr, hn⟩ := DqAll.reads I S ha h2
    subst hv
    refine ⟨_, .dict ho hx.1 hd (by rw [hk]; exact h1) hr, fun z => ?_⟩
    rcases List.mem_cons.mp z with e | z
    · exact (beq_eq_false_iff_ne.mp hy) e.symm
    · exact hn (by simpa using z)
theorem DqAll.reads (I : Inv X pins σ H s) (S : SysB X.base) : ∀ {vs : List V} {ds : List PyData} {us : List Value}, DqAll X.K H vs ds → Vals vs us → ∃ as, ReadsAll s.heap us ds as ∧ sysModules ∉ as
  | _, _, _, .nil, .nil => ⟨_, .nil, by simp⟩
  | _, _, _, .cons h1 h2, .cons r1 r2 => by
    obtain ⟨as, q1, n1⟩ := Dq.reads I S h1 r1
    obtain ⟨bs, q2, n2⟩ := DqAll.reads I S h2 r2
    exact ⟨_, .cons q1 q2, fun z => (List.mem_append.mp z).elim n1 n2⟩
end
end
/-- repr of a datum that stands at an address -/
def rRep (K : PySem.W.Frag) : List V → Hp → VK → Prop := fun xs H Q => ∃ (a : Addr) (d : PyData), xs = [.ref a] ∧ Dq K H (.ref a) d ∧ d.showable = true ∧ d.depth ≤ 60 ∧ d.shown.length ≤ sizeLine ∧ Q (.str d.shown) H
theorem call_rep {X : Cx} (g : X.A.guards = some []) (S : SysB X.base) (hu : X.A.units + 64 < cLine) : CallR X (.builtin "repr") (rRep X.K) := by
  intro pins s σ H xs us Q I r h
  obtain ⟨a, d, rfl, hd, hs, hp, hz, q⟩ := h
  obtain ⟨u, rfl, ru⟩ := vals1 r
  cases (show u = Value.ref a from ru)
  obtain ⟨as, hr, hn⟩ := Dq.reads I S hd rfl
  refine repr_of_reads' hr hs (fun _ => hn) g (by omega) (fun _ _ e => e) (fun h' u tk k => ?_) hz
  exact ⟨.str d.shown, H, I.kept k, ⟨_, rfl⟩, q⟩
/-- a power of a great int, the exponent written -/
def CPowW (i j : Int) : Prop := 0 ≤ j ∧ (Builtin.Int.intBits i : Int) * j ≤ 2 ^ 27
theorem op_powW {X : Cx} : OpR X (binaryOp .Pow) (rI CPowW fun i j => .int (i ^ j.toNat)) := opI fun _ _ _ _ _ _ _ hc q => PyProof.Rows.pow_int hc.1 hc.2 q
end Ct

set_option Elab.async false
set_option linter.all false
set_option maxRecDepth 100000
set_option maxHeartbeats 4000000
/-! Own kit C: exceptions of own classes (an __init__ of their own) as values: made by place and by name, their fields read, isinstance. -/
namespace PySem
namespace CtX
open PySem.W PySem.Calls PyProof.Rows PySem.HandSPX
section
variable {M : Model} {A : Around} {E : Value → Shared → Prop} {h : Heap} {g : Array GenState} {d : Drawn} {t : Nat} {os : OsState}
variable {nm q : Str} {C N : Addr} {bs bm bmB : List Value} {hdct : Bool} {sn : List Str} {sub : List Value} {ab : Bool} {col : Option Bool} {dd : Option Addr} {k0 k1 k2 k3 k5 : Option Value} {B newId initId : String} {kw : List (Str × Value)}
theorem kw_new_check (F : ExcBaseFacts B newId initId bmB) (hT : ∀ X : String, bm.contains (.type X) = bmB.contains (.type X)) {Q : Unit → Shared → Prop}
    (hC : h.get? C = some (excClassObj nm q C N bs bm hdct sn sub ab col dd k0 k1 k2 k3 k5 newId)) (hq : Q () ⟨h, g, d, t, os⟩) :
    wpAny M A (checkBuiltinCall newId ⟨[.ref C], kw⟩) Q E ⟨h, g, d, t, os⟩ := by
  have hc : (Value.ref C :: bm).contains (.type B) = true := by rw [List.contains_cons, hT, F.hasB, Bool.or_true]
  have hst := F.noStar
  simp only [checkBuiltinCall, F.newKind, F.newSplit, F.newRow]
  repeat (first
    | refine wpAny_loadPart_at hC ?_
    | (refine wpAny_isSubtype_exc hC ?_; rw [hc])
    | refine wpAny_staticBase_exc hC ?_
    | refine wpAny_madeBy_exc hC ?_
    | simp only [bne_self_eq_false, Bool.false_eq_true, if_false]
    | wp_step)
  exact hq
end
section
variable {prog : Program} {w : World} {A : Around} {E : Value → Shared → Prop} {R : Result → Shared → Prop} {h : Heap} {g : Array GenState} {d : Drawn} {t : Nat} {os : OsState}
variable {nm q : Str} {C N : Addr} {bs bm bmB : List Value} {hdct : Bool} {sn : List Str} {sub : List Value} {ab : Bool} {col : Option Bool} {dd : Option Addr} {k0 k1 k2 k3 k5 : Option Value} {B newId initId : String} {kw : List (Str × Value)}
theorem kw_new (F : ExcBaseFacts B newId initId bmB) (hT : ∀ X : String, bm.contains (.type X) = bmB.contains (.type X)) (hC : h.get? C = some (excClassObj nm q C N bs bm hdct sn sub ab col dd k0 k1 k2 k3 k5 newId))
    (hq : R (.ok (.ret (.ref (h.objs.size + 1)))) ⟨(h.push (W.kdv_tup [])).push (excO C h.objs.size), g, d, t, os⟩) :
    codeAny (model prog w) A (.builtin newId ⟨[.ref C], kw⟩) R ⟨h, g, d, t, os⟩ := by
  have he := F.ends
  have c1 : (Value.ref C :: bm).contains (.type B) = true := by rw [List.contains_cons, hT, F.hasB, Bool.or_true]
  have c2 : (Value.ref C :: bm).contains (.type "AttributeError") = false := by rw [List.contains_cons, hT, F.noAttr]; rfl
  have c3 : (Value.ref C :: bm).contains (.type "NameError") = false := by rw [List.contains_cons, hT, F.noName]; rfl
  refine codeAny_builtinAt F.entry ?_
  unfold Builtin.«BaseException.__new__»
  refine wpAt_bind ?_
  show wpAt _ _ _ (stack >>= _) _ _ _
  refine wpAt_bind (wpAt_stack fun p below => wpAt_of_wpAny ?_)
  wp_walk
  refine wpAt_of_wpAny ?_
  rw [F.owner]
  repeat (first
    | with_reducible refine wpAny_madeHere_exc F.canon hC ?_
    | with_reducible refine wpAny_loadPart_at hC ?_
    | (with_reducible refine wpAny_isSubtype_exc hC ?_; first | rw [c1] | rw [c2] | rw [c3])
    | wp_step)
  show R _ _
  rw [Heap.size_push]
  exact hq
theorem kw_type_call (F : ExcBaseFacts B newId initId bmB) (hT : ∀ X : String, bm.contains (.type X) = bmB.contains (.type X)) {fI : Addr} {Q : Fin → Shared → Prop}
    (hC : h.get? C = some (excClassObj nm q C N bs bm hdct sn sub ab col dd k0 k1 k2 k3 k5 newId))
    (hi : W.Looks (model prog w) h (typeLookup (.ref C) "__init__") (some (.ref fI))) (hb : ∀ self, W.Looks (model prog w) h (bindSpecial (.ref fI) self) (.ref fI, [self]))
    (hq : codeAny (model prog w) A (.call (.ref fI) ⟨[.ref (h.objs.size + 1)], kw⟩)
      (fun r s' => match r with | .ok (.ret v) => v = .none ∧ Q (.done (.ret (.ref (h.objs.size + 1)))) s' | .ok _ => False | .error e => E e s')
      ⟨(h.push (W.kdv_tup [])).push (excO C h.objs.size), g, d, t, os⟩) :
    wpAny (model prog w) A (Builtin.«type.__call__» ⟨[.ref C], kw⟩) Q E ⟨h, g, d, t, os⟩ := by
  repeat (first | with_reducible refine wpAny_loadPart_at hC ?_ | with_reducible refine wpAny_madeBy_exc hC ?_ | wp_step)
  refine codeAny_call_builtin_code (Code.quiet_builtin _ F.quiet) (kw_new_check F hT hC ?_)
  refine kw_new F hT hC ?_
  show wpAny _ _ _ _ _ _
  have k : ∀ b o, h.get? b = some o → ((h.push (W.kdv_tup [])).push (excO C h.objs.size)).get? b = some o := fun b o e => Heap.get?_push_of_some _ (Heap.get?_push_of_some _ e)
  have hC1 := k _ _ hC
  have hnew : ((h.push (W.kdv_tup [])).push (excO C h.objs.size)).get? (h.objs.size + 1) = some (excO C h.objs.size) := by heap_get
  have hself : (Value.ref C :: bm).contains (.ref C) = true := by simp
  have i1 := hi.keeps k
  have b1 := (hb (.ref (h.objs.size + 1))).keeps k
  unfold isInstance
  repeat (first | with_reducible refine wpAny_loadPart_at hnew ?_ | (with_reducible refine wpAny_isSubtype_exc hC1 ?_; rw [hself]) | wp_step)
  show wpAny _ _ (typeLookup (.ref C) _) _ _ _
  refine i1.at (wpAny_holding (wpAny_bind (b1.at (wpAny_bind (wpAny_call (codeAny_mono hq ?_))))))
  intro r s' z
  rcases r with e | (v | _ | _ | _)
  · exact z
  all_goals first | exact z.elim | skip
  obtain ⟨rfl, z⟩ := z
  first
    | exact wpAny_pure (wpAny_pure z)
    | (wp_walk; exact z)
theorem kw_call (F : ExcBaseFacts B newId initId bmB) (hT : ∀ X : String, bm.contains (.type X) = bmB.contains (.type X)) {fI : Addr}
    (hC : h.get? C = some (excClassObj nm q C N bs bm hdct sn sub ab col dd k0 k1 k2 k3 k5 newId))
    (hi : W.Looks (model prog w) h (typeLookup (.ref C) "__init__") (some (.ref fI))) (hb : ∀ self, W.Looks (model prog w) h (bindSpecial (.ref fI) self) (.ref fI, [self]))
    (hq : codeAny (model prog w) (A.under (.builtin "type.__call__" ⟨[.ref C], kw⟩)) (.call (.ref fI) ⟨[.ref (h.objs.size + 1)], kw⟩) (W.InitBack (h.objs.size + 1) R)
      ⟨(h.push (W.kdv_tup [])).push (excO C h.objs.size), g, d, t, os⟩) :
    codeAny (model prog w) A (.call (.ref C) ⟨[], kw⟩) R ⟨h, g, d, t, os⟩ := by
  have f1 := tc_lookup
  have f2 := tc_bind (.ref C)
  have ty : (⟨h, g, d, t, os⟩ : Shared).TypeIs (.ref C) "type" := ⟨_, hC, rfl⟩
  refine codeAny_of_tree ?_
  show wpAny _ _ (callAny (.ref C) _) _ _ _
  repeat (any_goals (first | assumption | with_reducible refine wpAny_loadPart_at hC ?_ | wp_step))
  refine ⟨rfl, ?_⟩
  refine codeAny_call_builtin_at (Code.quiet_builtin _ (by decide +kernel)) entry_typeCall (wpAny_check_type_call_sub hC (kw_type_call F hT hC hi hb ?_))
  refine codeAny_mono hq fun r s' z => ?_
  rcases r with e | (v | _ | _ | _) <;> exact z
end
end CtX
end PySem
namespace Ct
open PySem PySem.Spec L2
/-- what the walk asks of an exception class of one's own at C, its __init__ at fI -/
structure XCls (K : PySem.W.Frag) (C fI : Addr) : Prop where
  ox : OexC K C
  xe : ExcC K C
  iC : PySem.W.findIn K (.ref C) "__init__" = some (some (.ref fI))
  tI : PySem.W.typeIn K (.ref fI) = some (.type "function")
/-- the heap behind C(v): the exception at a, its dict at d with the one field -/
def mkH (H : Hp) (a d C : Addr) (f : Str) (v : V) : Hp := upd (upd H d (exd d [(f, v)])) a (exo a C (some d))
/-- what __init__(self, f): self.f = f promises -/
def spXI (C : Addr) (f : Str) : Sp := fun vs H Q _ => ∃ (a : Addr) (v : V), vs = [.ref a, v] ∧ H a = some (exo a C none) ∧ ∀ d, H d = none → d ≠ a → Q .non (mkH H a d C f v)
theorem mkH_new {H : Hp} {a d C : Addr} {f : Str} {v : V} {o : HO} : mkH (upd H a o) a d C f v = mkH H a d C f v := by
  funext b
  unfold mkH
  by_cases hb : b = a
  · rw [hb, upd_same, upd_same]
  · rw [upd_ne hb, upd_ne hb]
    by_cases hd : b = d
    · rw [hd, upd_same, upd_same]
    · rw [upd_ne hd, upd_ne hd, upd_ne hb]
/-- C(e), C(f=e): a new exception -/
def tMkX (C : Addr) (f : Str) (te : TE) : TE := fun σ H Q => te σ H fun v H1 => ∀ a d, H1 a = none → H1 d = none → d ≠ a → Q (.ref a) (mkH H1 a d C f v)
section
variable {X : Cx} {k : Nat} {C fI : Addr} {fd : FuncData} {x f pn : Str} {p pos kp : Pos} {e : Expr} {te : TE}
theorem run_mkX {pins : List (Addr × Obj)} {σ : L2.St} {H : Hp} {s : Shared} {Q : VK} {u : Value} {v : V} {pos kwn : Bool} (T : XCls X.K C fI) (F : FnOk X.prog X.w X.K X.mg X.base CX0 k fI fd ["self", pn] (spXI C f)) (hr : Room (k + 1) X.A)
    (hb : ∀ (s : Shared) (a w : Value), BindsTo s fd ⟨[a, w], []⟩ [("self", a), (pn, w)]) (I : Inv X pins σ H s) (r : RelV v u) (h : ∀ a d, H a = none → H d = none → d ≠ a → Q (.ref a) (mkH H a d C f v)) :
    wpAny (model X.prog X.w) X.A (call (.ref C) [u]) (EP X pins σ Q) X.xe s := by
  obtain ⟨nm, q, N, bs, bm, sn, sub, ab, col, dd, k0, k1, k2, k3, k5, hC, hbm⟩ := T.ox.cls
  obtain ⟨hp, g, dr, tk, os⟩ := s
  have kk : ∀ b o, hp.get? b = some o → ((hp.push (PySem.W.kdv_tup [u])).push (PySem.HandSPX.excO C hp.objs.size)).get? b = some o := fun b o e => Heap.get?_push_of_some _ (Heap.get?_push_of_some _ e)
  have hget : ((hp.push (PySem.W.kdv_tup [u])).push (PySem.HandSPX.excO C hp.objs.size)).get? (hp.objs.size + 1) = some (PySem.HandSPX.excO C hp.objs.size) := by heap_get
  have I2 : Inv X pins σ (upd H (hp.objs.size + 1) (exo (hp.objs.size + 1) C none)) ⟨(hp.push (PySem.W.kdv_tup [u])).push (PySem.HandSPX.excO C hp.objs.size), g, dr, tk, os⟩ :=
    I.laid (t' := tk) kk (Nat.le_succ _) (exo_ok hget)
  have hn : H (hp.objs.size + 1) = none := I.hok.fresh (Nat.le_succ _)
  have hq : spXI C f [.ref (hp.objs.size + 1), v] (upd H (hp.objs.size + 1) (exo (hp.objs.size + 1) C none)) (fun z H2 => z = .non ∧ Q (.ref (hp.objs.size + 1)) H2) E0 := by
    refine ⟨_, v, rfl, upd_same, fun d hd hne => ⟨rfl, ?_⟩⟩
    rw [mkH_new]
    rw [upd_ne hne] at hd
    exact h _ d hn hd hne
  have rr : Vals [V.ref (hp.objs.size + 1), v] [Value.ref (hp.objs.size + 1), u] := .cons rfl (.cons r .nil)
  refine wpAny_call (PySem.HandSPX.call_own PySem.F.excBase_ValueError (fun Y => PySem.HandSPX.refsVE_contains Y bm hbm) (I.kIn _ _ hC) (PySem.W.looks_findIn I.kIn T.iC) (fun self => PySem.W.bind_fn I.kIn self T.tI) (by show 1 ≤ sizeLine; decide)
    (codeAny_mono (F.run _ X.stack _ _ ⟨[.ref (hp.objs.size + 1), u], []⟩ [.ref (hp.objs.size + 1), u] _ _ _ (hr.make C [u] []) (I2.env0.make C [u] []) (hb _ _ _) rr hq) ?_))
  intro r s' z
  match r, z with
  | .error er, z => exact False.elim z
  | .ok .next, z => exact False.elim z
  | .ok .brk, z => exact False.elim z
  | .ok .cont, z => exact False.elim z
  | .ok (.ret u), z =>
    obtain ⟨v', H', I3, rv, ev, q3⟩ := I2.after z
    subst ev
    exact ⟨rv, .ref (hp.objs.size + 1), H', I3, rfl, q3⟩
theorem run_mkXk {pins : List (Addr × Obj)} {σ : L2.St} {H : Hp} {s : Shared} {Q : VK} {u : Value} {v : V} {kn : Str} (T : XCls X.K C fI) (F : FnOk X.prog X.w X.K X.mg X.base CX0 k fI fd ["self", pn] (spXI C f)) (hr : Room (k + 1) X.A)
    (hb : ∀ (s : Shared) (a w : Value), BindsTo s fd ⟨[a], [(kn, w)]⟩ [("self", a), (pn, w)]) (I : Inv X pins σ H s) (r : RelV v u) (h : ∀ a d, H a = none → H d = none → d ≠ a → Q (.ref a) (mkH H a d C f v)) :
    wpAny (model X.prog X.w) X.A (call (.ref C) [] [(kn, u)]) (EP X pins σ Q) X.xe s := by
  obtain ⟨nm, q, N, bs, bm, sn, sub, ab, col, dd, k0, k1, k2, k3, k5, hC, hbm⟩ := T.ox.cls
  obtain ⟨hp, g, dr, tk, os⟩ := s
  have kk : ∀ b o, hp.get? b = some o → ((hp.push (PySem.W.kdv_tup [])).push (PySem.HandSPX.excO C hp.objs.size)).get? b = some o := fun b o e => Heap.get?_push_of_some _ (Heap.get?_push_of_some _ e)
  have hget : ((hp.push (PySem.W.kdv_tup [])).push (PySem.HandSPX.excO C hp.objs.size)).get? (hp.objs.size + 1) = some (PySem.HandSPX.excO C hp.objs.size) := by heap_get
  have I2 : Inv X pins σ (upd H (hp.objs.size + 1) (exo (hp.objs.size + 1) C none)) ⟨(hp.push (PySem.W.kdv_tup [])).push (PySem.HandSPX.excO C hp.objs.size), g, dr, tk, os⟩ :=
    I.laid (t' := tk) kk (Nat.le_succ _) (exo_ok hget)
  have hn : H (hp.objs.size + 1) = none := I.hok.fresh (Nat.le_succ _)
  have hq : spXI C f [.ref (hp.objs.size + 1), v] (upd H (hp.objs.size + 1) (exo (hp.objs.size + 1) C none)) (fun z H2 => z = .non ∧ Q (.ref (hp.objs.size + 1)) H2) E0 := by
    refine ⟨_, v, rfl, upd_same, fun d hd hne => ⟨rfl, ?_⟩⟩
    rw [mkH_new]
    rw [upd_ne hne] at hd
    exact h _ d hn hd hne
  have rr : Vals [V.ref (hp.objs.size + 1), v] [Value.ref (hp.objs.size + 1), u] := .cons rfl (.cons r .nil)
  refine wpAny_call (PySem.CtX.kw_call PySem.F.excBase_ValueError (fun Y => PySem.HandSPX.refsVE_contains Y bm hbm) (I.kIn _ _ hC) (PySem.W.looks_findIn I.kIn T.iC) (fun self => PySem.W.bind_fn I.kIn self T.tI)
    (codeAny_mono (F.run _ X.stack _ _ ⟨[.ref (hp.objs.size + 1)], [(kn, u)]⟩ [.ref (hp.objs.size + 1), u] _ _ _ (hr.make C [] [(kn, u)]) (I2.env0.make C [] [(kn, u)]) (hb _ _ _) rr hq) ?_))
  intro r s' z
  match r, z with
  | .error er, z => exact False.elim z
  | .ok .next, z => exact False.elim z
  | .ok .brk, z => exact False.elim z
  | .ok .cont, z => exact False.elim z
  | .ok (.ret u), z =>
    obtain ⟨v', H', I3, rv, ev, q3⟩ := I2.after z
    subst ev
    exact ⟨rv, .ref (hp.objs.size + 1), H', I3, rfl, q3⟩
theorem pe_mkX (T : XCls X.K C fI) (F : FnOk X.prog X.w X.K X.mg X.base CX0 k fI fd ["self", pn] (spXI C f)) (hr : Room (k + 1) X.A) (hb : ∀ (s : Shared) (a w : Value), BindsTo s fd ⟨[a, w], []⟩ [("self", a), (pn, w)])
    (hg : Gl X x) (hm : X.mg x = some (.ref C)) (he : PE X e te) (hdb : (x == ("__debug__" : Str)) = false := by decide) (hs : starEach [e] X.env = (false, eval e X.env) :: starEach [] X.env := by rfl) :
    PE X (.Call (.Name x p) [e] [] pos) (tMkX C f te) := by
  constructor
  intro pins s σ H Q I h
  refine wpAny_Call_Name_kw (ld_glob I hg hm ?_ hdb)
  refine PySem.W.callWith_K (h₀ := X.base) I.ok.mod.kin T.ox.kC ?_ hs (by rfl)
  rw [hs]
  show wpAny _ _ (spliced ((false, eval e X.env) :: backTo pos (starEach [] X.env))) _ _ s
  refine Calls.spliced_cons (thn (he.run pins s σ H _ I h) ?_)
  rintro u s1 ⟨v, H1, I1, r1, q1⟩
  exact Calls.spliced_nil ⟨I1.kIn, run_mkX (pos := true) (kwn := true) T F hr hb I1 r1 q1⟩
/-- C(f=e) -/
theorem pe_mkXk {kn : Str} (T : XCls X.K C fI) (F : FnOk X.prog X.w X.K X.mg X.base CX0 k fI fd ["self", pn] (spXI C f)) (hr : Room (k + 1) X.A) (hb : ∀ (s : Shared) (a w : Value), BindsTo s fd ⟨[a], [(kn, w)]⟩ [("self", a), (pn, w)])
    (hg : Gl X x) (hm : X.mg x = some (.ref C)) (he : PE X e te) (hdb : (x == ("__debug__" : Str)) = false := by decide) :
    PE X (.Call (.Name x p) [] [⟨some kn, e, kp⟩] pos) (tMkX C f te) := by
  constructor
  intro pins s σ H Q I h
  refine wpAny_Call_Name_kw (ld_glob I hg hm ?_ hdb)
  refine PySem.W.callWith_KW0 (h₀ := X.base) I.ok.mod.kin T.ox.kC (by rfl) ?_ (by rfl)
  have pk : PK X [⟨some kn, e, kp⟩] (tCons te tNil) := pk_cons he pk_nil
  refine thn (pk.run pos pins s σ H (fun vs H1 => ∃ v, vs = [v] ∧ ∀ a d, H1 a = none → H1 d = none → d ≠ a → Q (.ref a) (mkH H1 a d C f v)) I ?_) ?_
  · show te σ H _
    have mono : (fun v H1 => ∀ a d, H1 a = none → H1 d = none → d ≠ a → Q (.ref a) (mkH H1 a d C f v)) = fun (v : V) (H1 : Hp) => ∃ w, [v] = [w] ∧ ∀ a d, H1 a = none → H1 d = none → d ≠ a → Q (.ref a) (mkH H1 a d C f w) := by
      funext v H1
      refine propext ⟨fun z => ⟨v, rfl, z⟩, fun ⟨w, e, z⟩ => ?_⟩
      cases e
      exact z
    have h' := h
    unfold tMkX at h'
    rw [mono] at h'
    exact h'
  · rintro us s1 ⟨vs, H1, I1, r1, v, rfl, q1⟩
    obtain ⟨u, rfl, ru⟩ := vals1 r1
    exact ⟨I1.kIn, run_mkXk T F hr hb I1 ru q1⟩
/-- e.n of an exception -/
def tXF (K : PySem.W.Frag) (n : Str) (te : TE) : TE := fun σ H Q => te σ H fun x H1 => ∃ (a C d : Addr) (fs : List (Str × V)) (v : V), x = .ref a ∧ H1 a = some (exo a C (some d)) ∧ H1 d = some (exd d fs) ∧ ExcC K C ∧ PySem.W.findIn K (.ref C) n = some none ∧ fs.lookup n = some v ∧ Q v H1
theorem exo_inst {pins : List (Addr × Obj)} {σ : L2.St} {H : Hp} {s : Shared} {a d : Addr} {fs : List (Str × V)} (I : Inv X pins σ H s) (ea : H a = some (exo a C (some d))) (ed : H d = some (exd d fs)) :
    ∃ (ox od : Obj) (mA : Str → Option Value), PySem.W.InstAt s.heap a ox C (some od) ∧ (∀ name, PySem.W.lookIn name od = some (mA name)) ∧ ∀ f, RelO (fs.lookup f) (mA f) := by
  obtain ⟨t1, ho⟩ := exo_at I.hok ea
  obtain ⟨mA, hns, hr⟩ := exd_at I.hok ed
  obtain ⟨od, hod, hl⟩ := lookIn_ns hns
  exact ⟨_, od, mA, ⟨ho, rfl, rfl, hod⟩, hl, hr⟩
theorem pe_xF {n : Str} (he : PE X e te) (hb : attributeBase e n X.env (eval e X.env) = eval e X.env := by rfl) : PE X (.Attribute e n pos) (tXF X.K n te) := by
  constructor
  intro pins s σ H Q I h
  refine attr_of hb (thn (he.run pins s σ H _ I h) ?_)
  rintro u s1 ⟨x, H1, I1, rx, a, C, d, fs, v, ex, ea, ed, T, hno, l, q⟩
  subst ex
  cases (show u = Value.ref a from rx)
  obtain ⟨ox, od, mA, J, hl, hr⟩ := exo_inst I1 ea ed
  obtain ⟨u, hu, ru⟩ := RelO.some_of (v := v) (o := mA n) (by rw [← l]; exact hr n)
  exact PySem.HandSPX.exc_get I1.kIn J T.hg T.hk T.hs (PySem.W.findObj_own T.hd hno rfl (by rw [hl, hu])) (handed_of ru) ⟨v, H1, I1.tok _, ru, q⟩
/-- isinstance(x, c) of an exception: one class -/
def rIsX (K : PySem.W.Frag) : List V → Hp → VK → Prop := fun xs H Q => ∃ (a C d : Addr) (fs : List (Str × V)) (c : V) (cu : Value) (b : Bool), xs = [.ref a, c] ∧ H a = some (exo a C (some d)) ∧ H d = some (exd d fs) ∧ ExcC K C ∧ ClsV c cu ∧
  PySem.W.kitOne K (.ref C) cu = some b ∧ Q (.bl b) H
theorem call_isX : CallR X (.builtin "isinstance") (rIsX X.K) := by
  intro pins s σ H xs us Q I r h
  obtain ⟨a, C, d, fs, c, cu, b, rfl, ea, ed, T, kc, e, q⟩ := h
  obtain ⟨u1, u2, rfl, r1, r2⟩ := vals2 r
  cases (show u1 = Value.ref a from r1)
  have e2 := kc.eq r2
  subst e2
  obtain ⟨ox, od, mA, J, hl, hr⟩ := exo_inst I ea ed
  obtain ⟨cd, hcd, _⟩ := PySem.W.any_some T.hd
  exact PySem.W.kia_one (PySem.W.kitx_exc (by rw [hcd]; rfl) T.hg T.hk T.hs T.ha T.hn T.ht T.hm) I.kIn J e (fun z => (nomatch z)) fun tk => ⟨.bl b, H, I.tok tk, rfl, q⟩
end
end Ct

set_option Elab.async false
set_option linter.all false
set_option maxRecDepth 100000
set_option maxHeartbeats 2000000
/-! Own kit D: bundles (a def as the top has left it; a def that keeps its promise), calls by bundle. -/
namespace Ct
open PySem PySem.Spec PyProof.Rows L2
/-- a def of the text, as it stands behind the top -/
def DFE (K : PySem.W.Frag) (mg : Str → Option Value) (nm : Str) (st : Stmt) (ps : List Str) : Prop := ∃ f fd, Fun K nm nm st f fd ∧ mg nm = some (.ref f) ∧ Binds K fd ps []
/-- a def that keeps a promise -/
def Has (P : Program) (w : World) (K : PySem.W.Frag) (mg : Str → Option Value) (base : Heap) (CX : CXT) (k : Nat) (nm : Str) (ps : List Str) (sp : Sp) : Prop :=
  ∃ f fd, mg nm = some (.ref f) ∧ PySem.W.keepIn K (.ref f) = true ∧ Binds K fd ps [] ∧ FnOk P w K mg base CX k f fd ps sp
def HasG (P : Program) (w : World) (K : PySem.W.Frag) (mg : Str → Option Value) (base : Heap) (CX : CXT) (k : Nat) (nm : Str) (ps : List Str) (sp : Sp) : Prop :=
  ∃ f fd, mg nm = some (.ref f) ∧ PySem.W.keepIn K (.ref f) = true ∧ Binds K fd ps [] ∧ GFn P w K mg base CX k f fd ps sp
section
variable {P : Program} {w : World} {K : PySem.W.Frag} {mg : Str → Option Value} {base : Heap} {CX : CXT} {k : Nat} {nm : Str} {ps : List Str} {sp : Sp} {st : Stmt}
theorem dfe_mk {h : Heap} {f : Addr} {oc : Value} {od an : Option Addr} {osl : Array (Option Value)} {kV doc pm cdv ct : Value} (X : K.In h) (G : h.Ns mainGlobals mg) (a : PySem.W.nsIn K mainGlobals nm = some (some (.ref f)))
    (l : K.lookup f = some ⟨oc, od, .func (PySem.W.fnOf nm nm (defArgs st) (defBody st) (defScope st) .none kV doc pm an cdv ct), osl⟩) (c : PySem.W.codeIn K cdv nm = true) (kp : PySem.W.keepIn K (.ref f) = true)
    (b : ∀ (kV doc pm : Value) (an : Option Addr) (cdv ct : Value) (us : List Value), us.length = ps.length → bindArgs (PySem.W.fnOf nm nm (defArgs st) (defBody st) (defScope st) .none kV doc pm an cdv ct) ⟨us, []⟩ = pure (ps.zip us)) : DFE K mg nm st ps :=
  have F := fun_mk (st := st) l c kp
  ⟨f, _, F, PySem.W.mg_of X G a, F.binds b⟩
/-- THE RULE for a def by its bundle -/
theorem has_of {N : List Str} (D : DFE K mg nm st ps) (S : FnScope N ps (defScope st)) (len : ∀ vs H Q E, sp vs H Q E → vs.length = ps.length)
    (body : ∀ (f : Addr) (cdv : Value) (A : Around) (outer : List Env) (s : Shared) (H : Hp) (vs : List V) (Q : VK) (E : XK), Room k (A.deeper (envOfC nm (defScope st) s.heap.objs.size f cdv)) → sp vs H Q E →
      ∃ t, PSs (cxOf CX0 P w K mg base N nm (defScope st) f cdv A outer s H E).nox (defBody st) t ∧ t { nx := fun _ H' => Q .non H', rt := Q } (start N vs) H) : Has P w K mg base CX0 (k + 1) nm ps sp := by
  obtain ⟨f, fd, F, g, b⟩ := D
  exact ⟨f, fd, g, F.kp, b, F.ok S len (body f)⟩
theorem hasG_of {N : List Str} (D : DFE K mg nm st ps) (S : FnScope N ps (defScope st)) (len : ∀ vs H Q E, sp vs H Q E → vs.length = ps.length)
    (body : ∀ (f : Addr) (cdv : Value) (A : Around) (outer : List Env) (s : Shared) (H : Hp) (vs : List V) (Q : VK) (E : XK), A.guards = some [] → Room k (A.deeper (envOfC nm (defScope st) s.heap.objs.size f cdv)) → sp vs H Q E →
      ∃ t, PSs (cxOf CX0 P w K mg base N nm (defScope st) f cdv A outer s H E).nox (defBody st) t ∧ t { nx := fun _ H' => Q .non H', rt := Q } (start N vs) H) : HasG P w K mg base CX0 (k + 1) nm ps sp := by
  obtain ⟨f, fd, F, g, b⟩ := D
  refine ⟨f, fd, g, F.kp, b, gfn_of F S len (fun cdv A o s H vs Q E ga hr h => ?_)⟩
  obtain ⟨t, h1, h2⟩ := body f cdv A o s H vs Q E ga hr h
  exact ⟨t, h1.nox, h2⟩
/-- .. at its place: a law's own def -/
theorem law_of {N : List Str} {f : Addr} {fd : FuncData} (F : Fun K nm nm st f fd) (S : FnScope N ps (defScope st)) (len : ∀ vs H Q E, sp vs H Q E → vs.length = ps.length)
    (body : ∀ (cdv : Value) (A : Around) (outer : List Env) (s : Shared) (H : Hp) (vs : List V) (Q : VK) (E : XK), A.guards = some [] → Room k (A.deeper (envOfC nm (defScope st) s.heap.objs.size f cdv)) → sp vs H Q E →
      ∃ t, PSs (cxOf CX0 P w K mg base N nm (defScope st) f cdv A outer s H E).nox (defBody st) t ∧ t { nx := fun _ H' => Q .non H', rt := Q } (start N vs) H) : GFn P w K mg base CX0 (k + 1) f fd ps sp :=
  gfn_of F S len fun cdv A o s H vs Q E ga hr h => by
    obtain ⟨t, h1, h2⟩ := body cdv A o s H vs Q E ga hr h
    exact ⟨t, h1.nox, h2⟩
theorem Has.mono {j : Nat} (h : Has P w K mg base CX j nm ps sp) (l : j ≤ k) : Has P w K mg base CX k nm ps sp := by
  obtain ⟨f, fd, g, kp, b, F⟩ := h
  exact ⟨f, fd, g, kp, b, F.mono l⟩
theorem Has.g (h : Has P w K mg base CX k nm ps sp) : HasG P w K mg base CX k nm ps sp := by
  obtain ⟨f, fd, g, kp, b, F⟩ := h
  exact ⟨f, fd, g, kp, b, .of F⟩
end
section
variable {X : Cx} {k j : Nat} {nm : Str} {ps : List Str} {sp : Sp} {e : Expr} {es : List Expr} {t : TA} {p pos : Pos}
/-- f(e, ..) by its bundle, nothing raised -/
theorem pe_h (h : Has X.prog X.w X.K X.mg X.base CX0 j nm ps sp) (hr : Room k X.A) (l : j ≤ k) (hg : Gl X nm) (ha : PA X (e :: es) t) (hdb : (nm == ("__debug__" : Str)) = false := by decide)
    (he : starEach (e :: es) X.env = (false, eval e X.env) :: starEach es X.env := by rfl) (hpl : (backTo pos (starEach es X.env)).any (·.1) = false := by rfl) : PE X (.Call (.Name nm p) (e :: es) [] pos) (tCall sp [] E0 t) := by
  obtain ⟨f, fd, g, kp, b, F⟩ := h
  exact pe_call F (hr.mono l) hg g kp b .nil pass0 ha hdb he hpl
theorem pe_h0 (h : Has X.prog X.w X.K X.mg X.base CX0 j nm ps sp) (hr : Room k X.A) (l : j ≤ k) (hg : Gl X nm) (hdb : (nm == ("__debug__" : Str)) = false := by decide) : PE X (.Call (.Name nm p) [] [] pos) (tCall sp [] E0 tNil) := by
  obtain ⟨f, fd, g, kp, b, F⟩ := h
  exact pe_call0 F (hr.mono l) hg g kp b .nil pass0 hdb
theorem pe_hG (h : HasG X.prog X.w X.K X.mg X.base CX0 j nm ps sp) (gd : X.A.guards = some []) (hr : Room k X.A) (l : j ≤ k) (hg : Gl X nm) (ha : PA X (e :: es) t) (hdb : (nm == ("__debug__" : Str)) = false := by decide)
    (he : starEach (e :: es) X.env = (false, eval e X.env) :: starEach es X.env := by rfl) (hpl : (backTo pos (starEach es X.env)).any (·.1) = false := by rfl) : PE X (.Call (.Name nm p) (e :: es) [] pos) (tCall sp [] E0 t) := by
  obtain ⟨f, fd, g, kp, b, F⟩ := h
  exact pe_callG F gd (hr.mono l) hg g kp b .nil pass0 ha hdb he hpl
/-- a class or a def of the module as a value -/
theorem pe_ref {x : Str} {a : Addr} {pos : Pos} (hg : Gl X x) (hm : X.mg x = some (.ref a)) (hd : (x == ("__debug__" : Str)) = false := by decide) : PE X (.Name x pos) (tC (.ref a)) := pe_glob hg hm rfl hd
/-- a field of an exception, the written part named (within a comprehension) -/
theorem pe_xFk {K : PySem.W.Frag} {n : Str} {te : TE} (hK : X.K = K) (he : PE X e te) (hb : attributeBase e n X.env (eval e X.env) = eval e X.env := by rfl) : PE X (.Attribute e n pos) (tXF K n te) := by
  subst hK
  exact pe_xF he hb
/-- slots, short -/
theorem ps_sv (i : Nat) {x : Str} {e : Expr} {te : TE} {pos' : Pos} (hN : X.N.Nodup) (he : PE X e te) (hi : X.N[i]? = some x := by rfl) (hx : Loc X.env.scope x := by first | exact Or.inl rfl | exact Or.inr rfl) (hs : swapsWith e (some (.Name x pos')) pos.line X.env = pure false := by rfl)
    (hf : X.fn x = true ∨ X.env.scope.names.lookup x = some .local := by first | exact .inl rfl | exact .inr rfl | assumption) : PS X (.Assign [.Name x pos'] e pos) (tAsg te (gName i)) := ps_set hN hi hx he hs hf
end
end Ct

set_option Elab.async false
set_option linter.all false
set_option maxRecDepth 100000
set_option maxHeartbeats 2000000
/-! Own kit E: what a law's source of draws promises: source, draw, pick. -/
namespace Ct
open PySem PySem.Spec PyProof.Rows L2
def SrcOk (r m : Int) : Prop := 0 ≤ r ∧ 0 ≤ m ∧ m ≤ 2147483647
/-- source(script, start): a new list of two ints -/
def spSource (K : PySem.W.Frag) : Sp := fun vs H Q _ => ∃ (a : Addr) (ns : List Int) (st : Int), vs = [.ref a, .int st] ∧ 0 ≤ st ∧ st ≤ 100 ∧ SqL K H a (ns.map V.int) ∧ ns.length ≤ 63 ∧ (∀ z ∈ ns, Builtin.Int.intBits z ≤ 1048576) ∧
  ∀ p r m, H p = none → SrcOk r m → Q (.ref p) (upd H p (.lst [.int r, .int m]))
/-- draw(source, span): a number below span; the source turns -/
def spDraw : Sp := fun vs H Q _ => ∃ (p : Addr) (r m n : Int), vs = [.ref p, .int n] ∧ H p = some (.lst [.int r, .int m]) ∧ SrcOk r m ∧ 1 ≤ n ∧ n ≤ 1000000000 ∧
  ∀ r' m' k, SrcOk r' m' → 0 ≤ k → k < n → Q (.int k) (upd H p (.lst [.int r', .int m']))
/-- pick(source, things): one of the things -/
def spPick (K : PySem.W.Frag) : Sp := fun vs H Q _ => ∃ (p q : Addr) (r m : Int) (xs : List V), vs = [.ref p, .ref q] ∧ q ≠ p ∧ H p = some (.lst [.int r, .int m]) ∧ SrcOk r m ∧ (SqL K H q xs ∨ SqT K H q xs) ∧ xs ≠ [] ∧ xs.length ≤ 1000000 ∧
  ∀ r' m' x, SrcOk r' m' → x ∈ xs → Q x (upd H p (.lst [.int r', .int m']))
theorem sqL_upd {K : PySem.W.Frag} {H : Hp} {p q : Addr} {o : HO} {xs : List V} (h : SqL K H q xs) (n : q ≠ p) : SqL K (upd H p o) q xs := by
  rcases h with (h | ⟨u, h⟩) | h
  · exact .inl (.inl (by rw [upd_ne n]; exact h))
  · exact .inl (.inr ⟨u, by rw [upd_ne n]; exact h⟩)
  · exact .inr h
theorem sqT_upd {K : PySem.W.Frag} {H : Hp} {p q : Addr} {o : HO} {xs : List V} (h : SqT K H q xs) (n : q ≠ p) : SqT K (upd H p o) q xs := by
  rcases h with (h | ⟨u, h⟩) | h
  · exact .inl (.inl (by rw [upd_ne n]; exact h))
  · exact .inl (.inr ⟨u, by rw [upd_ne n]; exact h⟩)
  · exact .inr h
theorem at_in {xs : List V} {k : Int} (h0 : 0 ≤ k) (h1 : k < (xs.length : Nat)) : ∃ x, x ∈ xs ∧ atI xs k = some x := by
  obtain ⟨j, rfl⟩ := Int.eq_ofNat_of_zero_le h0
  have hj : j < xs.length := by omega
  exact ⟨xs[j], List.getElem_mem hj, atI_nat (List.getElem?_eq_getElem hj)⟩
theorem ints_at {ns : List Int} {i : Nat} {y : V} (h : (ns.map V.int)[i]? = some y) : ∃ z, ns[i]? = some z ∧ z ∈ ns ∧ y = .int z := by
  rw [List.getElem?_map] at h
  cases e : ns[i]? with
  | none => rw [e] at h; cases h
  | some z => rw [e] at h; exact ⟨z, rfl, List.mem_of_getElem? e, (Option.some.inj h).symm⟩
theorem pow_ok {x : Int} {n : Nat} {j : Int} (h : Builtin.Int.intBits x ≤ n) (h0 : 0 ≤ j) (hz : (n : Int) * j ≤ 2 ^ 27) : CPowW x j := by
  refine ⟨h0, Int.le_trans (Int.mul_le_mul_of_nonneg_right ?_ h0) hz⟩
  omega
theorem bits_small {x : Int} {n : Nat} (h0 : 0 ≤ x) (h : x < 2 ^ n) : Builtin.Int.intBits x ≤ n := by
  refine intBits_le_iff.mpr ?_
  have e : ((x.natAbs : Nat) : Int) = x := by omega
  have z : ((x.natAbs : Nat) : Int) < ((2 ^ n : Nat) : Int) := by rw [e, Int.natCast_pow]; exact h
  omega
end Ct

set_option Elab.async false
set_option linter.all false
set_option maxRecDepth 100000
set_option maxHeartbeats 2000000
namespace P76
open PySem PySem.Spec PyProof.Rows L2 Ct
def top (i : Nat) : Stmt := PySem.Challenge.pw_cornerturn_k76_new_errors_by_hand.main.body.getD i (.Pass ⟨0, 0, 0, 0⟩)
/-- the built-ins that the text leaves as they are -/
structure Bn (mg : Str → Option Value) : Prop where
  z_int : mg "int" = none
  z_len : mg "len" = none
  z_range : mg "range" = none
  z_max : mg "max" = none
  z_min : mg "min" = none
  z_isinstance : mg "isinstance" = none
  z_list : mg "list" = none
  z_dict : mg "dict" = none
  z_repr : mg "repr" = none
  z_enumerate : mg "enumerate" = none
  z_ValueError : mg "ValueError" = none
section
variable {P : Program} {w : World} {K : PySem.W.Frag} {mg : Str → Option Value} {base : Heap}
abbrev sSource : Stmt := top 11
theorem scSource : FnScope ["script", "start", "mixed", "cell", "rest"] ["script", "start"] (defScope sSource) := ⟨rfl, rfl, rfl, by decide +kernel, rfl, by decide +kernel, by decide +kernel⟩
theorem has_source (T : Bn mg) (D : DFE K mg "_law_source" sSource ["script", "start"]) : Has P w K mg base CX0 1 "_law_source" ["script", "start"] (spSource K) := by
  refine has_of D scSource (fun vs H Q E h => ?_) (fun f cdv A outer s H vs Q E hr h => ?_)
  · obtain ⟨a, ns, st, rfl, _⟩ := h; rfl
  · obtain ⟨a, ns, st, rfl, st0, st1, hS, hlen, hbits, k⟩ := h
    have nd := scSource.nd
    refine ⟨_, (pss_cons (ps_sv 2 nd (pe_op op_add pe_int (pv 1)))
      (pss_cons (ps_for PassesOwn.never rfl (pi_list (pv 0)) (pg_name (i := 3) nd rfl (by first | exact Or.inl rfl | exact Or.inr rfl)) (pss_one (ps_sv 2 nd (pe_op op_add (pe_op op_mod (pe_callTy call_int1 (by rfl) T.z_int (by decide +kernel) (pa_cons (pe_op op_powW (pe_callTy call_int1 (by rfl) T.z_int (by decide +kernel) (pa_cons (pe_op op_add (pe_op op_mul (pv 2) pe_int) (pe_callTy call_int1 (by rfl) T.z_int (by decide +kernel) (pa_cons (pv 3) pa_nil))) pa_nil)) pe_int) pa_nil)) pe_int) pe_int))))
      (pss_cons (ps_sv 4 nd pe_int)
      (pss_cons (ps_if (PW.pt (pw_and (pt_cmpR op_lt (pv 1) (pe_callB call_len (by rfl) T.z_len (by decide +kernel) (pa_cons (pv 0) pa_nil)) (by first | exact nomark _ | rfl)) (pw_and1 (pt_cmpR op_ge (pe_ix ix_list (pv 0) (pv 1) (fun _ _ => rfl)) (pe_op op_powW pe_int pe_int) (by first | exact nomark _ | rfl))))) (pss_one (ps_sv 4 nd (pe_op op_sub (pe_ix ix_list (pv 0) (pv 1) (fun _ _ => rfl)) (pe_op op_powW pe_int pe_int)))) pss_nil)
      (pss_one (ps_ret (pe_lst (pa_cons (pv 4) (pa_cons (pv 2) pa_nil))))))))), ?_⟩
    -- mixed = 83 + start; the loop
    refine ⟨_, rfl, _, _, rfl, rfl, _, rfl, a, rfl, ⟨_, hS⟩, for_list (K := K) (a := a) (xs := ns.map V.int) (fun i σ H' => H' = H ∧ ∃ (m : Int) (c : Option V), σ = [some (.ref a), some (.int st), some (.int m), c, none] ∧ 0 ≤ m ∧ m ≤ 2147483647)
      ⟨rfl, _, none, rfl, by omega, by omega⟩ (fun i σ H' _ ⟨e, _⟩ => by rw [e]; exact hS) ?_ ?_⟩
    · rintro i y σ H' hi ⟨rfl, m, c, rfl, m0, m1⟩
      obtain ⟨z, _, hz, rfl⟩ := ints_at hi
      have b1 : Builtin.Int.intBits (m * 50021 + z) ≤ 1048577 := intBits_add_le (m := 1048576) (n := 1048576) (Nat.le_trans (bits_small (n := 64) (by omega) (by omega)) (by decide)) (hbits z hz)
      refine ⟨_, rfl, _, _, rfl, rfl, .inl ⟨by omega, by omega⟩, _, rfl, .inl ⟨_, rfl, _, _, rfl, rfl, .inl ⟨_, rfl, _, _, rfl, rfl, pow_ok b1 (by decide) (by decide), .inl ⟨_, rfl, _, _, rfl, rfl, by show (0 : Int) < 2147483563; decide, _, _, rfl, rfl, ?_⟩⟩⟩⟩
      have q0 := Int.emod_nonneg ((m * 50021 + z) ^ (3 : Int).toNat) (show (2147483563 : Int) ≠ 0 by decide)
      have q1 := Int.emod_lt_of_pos ((m * 50021 + z) ^ (3 : Int).toNat) (show (0 : Int) < 2147483563 by decide)
      exact ⟨rfl, _, _, rfl, by omega, by omega⟩
    · rintro σ H' ⟨rfl, m, c, rfl, m0, m1⟩
      have p18 : CPowW 10 18 := pow_ok (n := 4) (by decide +kernel) (by decide) (by decide)
      -- start < len(script) and script[start] >= 10 ** 18
      refine ⟨_, rfl, _, rfl, _, _, rfl, .inl ⟨_, hS, rfl⟩, _, _, rfl, rfl, _, rfl, ?_⟩
      refine ite2 (fun c1 => ?_) (fun _ => iteF ?_)
      · have c1 := of_decide_eq_true c1
        obtain ⟨y, hy, ey⟩ := at_in st0 c1
        obtain ⟨z, hz, rfl⟩ := List.mem_map.mp hy
        refine ⟨_, rfl, _, rfl, a, _, st, _, rfl, rfl, hS, ey, _, _, rfl, rfl, p18, _, _, rfl, rfl, _, rfl, ?_⟩
        refine ite2 (fun c2 => ?_) (fun _ => ?_)
        · have c2 : (10 : Int) ^ (18 : Int).toNat ≤ z := of_decide_eq_true c2
          refine ⟨_, rfl, _, rfl, a, _, st, _, rfl, rfl, hS, ey, _, _, rfl, rfl, p18, _, _, rfl, rfl, _, rfl, _, rfl, (by show 2 ≤ sizeLine; decide), fun p hp => ?_⟩
          exact k p _ _ hp ⟨by omega, m0, m1⟩
        · refine ⟨_, rfl, _, rfl, (by show 2 ≤ sizeLine; decide), fun p hp => ?_⟩
          exact k p _ _ hp ⟨by decide, m0, m1⟩
      · refine ⟨_, rfl, _, rfl, (by show 2 ≤ sizeLine; decide), fun p hp => ?_⟩
        exact k p _ _ hp ⟨by decide, m0, m1⟩
end
end P76

set_option Elab.async false
set_option linter.all false
set_option maxRecDepth 100000
set_option maxHeartbeats 2000000
namespace P76
open PySem PySem.Spec PyProof.Rows L2 Ct
section
variable {P : Program} {w : World} {K : PySem.W.Frag} {mg : Str → Option Value} {base : Heap}
abbrev sDraw : Stmt := top 12
theorem scDraw : FnScope ["source", "span", "found"] ["source", "span"] (defScope sDraw) := ⟨rfl, rfl, rfl, by decide +kernel, rfl, by decide +kernel, by decide +kernel⟩
theorem has_draw (T : Bn mg) (D : DFE K mg "_law_draw" sDraw ["source", "span"]) : Has P w K mg base CX0 1 "_law_draw" ["source", "span"] spDraw := by
  refine has_of D scDraw (fun vs H Q E h => ?_) (fun f cdv A outer s H vs Q E hr h => ?_)
  · obtain ⟨p, r, m, n, rfl, _⟩ := h; rfl
  · obtain ⟨p, r, m, n, rfl, hp, ⟨r0, m0, m1⟩, n1, n2, k⟩ := h
    have nd := scDraw.nd
    refine ⟨_, (pss_cons (ps_if (pt_cmpR op_ge (pe_ix ix_list (pv 0) pe_int (fun _ _ => rfl)) (pv 1) (by first | exact nomark _ | rfl)) (pss_cons (ps_sv 2 nd (pe_op op_mod (pe_callTy call_int1 (by rfl) T.z_int (by decide +kernel) (pa_cons (pe_ix ix_list (pv 0) pe_int (fun _ _ => rfl)) pa_nil)) (pv 1)))
      (pss_cons (ps_asg (pe_op op_fdivW (pe_ix ix_list (pv 0) pe_int (fun _ _ => rfl)) (pv 1)) (pg_sub (pv 0) pe_int set_list))
      (pss_one (ps_ret (pv 2))))) pss_nil)
      (pss_cons (ps_asg (pe_op op_mod (pe_callTy call_int1 (by rfl) T.z_int (by decide +kernel) (pa_cons (pe_op op_add (pe_op op_mul (pe_ix ix_list (pv 0) pe_int (fun _ _ => rfl)) pe_int) pe_int) pa_nil)) pe_int) (pg_sub (pv 0) pe_int set_list))
      (pss_one (ps_ret (pe_op op_mod (pe_callTy call_int1 (by rfl) T.z_int (by decide +kernel) (pa_cons (pe_op op_fdivW (pe_op op_mod (pe_callTy call_int1 (by rfl) T.z_int (by decide +kernel) (pa_cons (pe_op op_powW (pe_callTy call_int1 (by rfl) T.z_int (by decide +kernel) (pa_cons (pe_ix ix_list (pv 0) pe_int (fun _ _ => rfl)) pa_nil)) pe_int) pa_nil)) pe_int) pe_int) pa_nil)) (pv 1)))))), ?_⟩
    -- source[0] >= span
    refine ⟨_, rfl, p, _, 0, _, rfl, rfl, SqL.of hp, rfl, _, rfl, _, _, rfl, rfl, _, rfl, ?_⟩
    refine ite2 (fun c1 => ?_) (fun _ => ?_)
    · refine ⟨_, rfl, p, _, 0, _, rfl, rfl, SqL.of hp, rfl, .inl ⟨_, rfl, _, rfl, _, _, rfl, rfl, (show 0 < n by omega), ?_⟩⟩
      refine ⟨_, rfl, p, _, 0, _, rfl, rfl, SqL.of hp, rfl, _, rfl, _, _, rfl, rfl, wide_div (b := 32) (by omega) (by omega) (by decide) (by decide), _, rfl, p, _, 0, 0, rfl, rfl, hp, rfl, ?_⟩
      refine ⟨_, rfl, ?_⟩
      exact k _ _ _ ⟨Int.ediv_nonneg r0 (by omega), m0, m1⟩ (Int.emod_nonneg _ (by omega)) (Int.emod_lt_of_pos _ (by omega))
    · have q0 := Int.emod_nonneg (m * 69621 + 4241) (show (2147483647 : Int) ≠ 0 by decide)
      have q1 := Int.emod_lt_of_pos (m * 69621 + 4241) (show (0 : Int) < 2147483647 by decide)
      refine ⟨_, rfl, p, _, 1, _, rfl, rfl, SqL.of hp, rfl, _, _, rfl, rfl, .inl ⟨by omega, by omega⟩, _, _, rfl, rfl, .inl ⟨_, rfl, _, _, rfl, rfl, (show (0 : Int) < 2147483647 by decide), ?_⟩⟩
      refine ⟨_, rfl, p, _, 1, 1, rfl, rfl, hp, rfl, ?_⟩
      refine ⟨_, rfl, p, _, 1, _, rfl, rfl, SqL.of upd_same, rfl, .inl ⟨_, rfl, ?_⟩⟩
      refine ⟨_, _, rfl, rfl, pow_ok (n := 32) (bits_small q0 (by omega)) (by decide) (by decide), .inl ⟨_, rfl, ?_⟩⟩
      refine ⟨_, _, rfl, rfl, (show (0 : Int) < 1000000007 by decide), _, _, rfl, rfl, wide_div (b := 8) (by decide) (by decide) (by decide) (by decide), .inl ⟨_, rfl, ?_⟩⟩
      refine ⟨_, rfl, _, _, rfl, rfl, (show 0 < n by omega), ?_⟩
      exact k _ _ _ ⟨r0, q0, by omega⟩ (Int.emod_nonneg _ (by omega)) (Int.emod_lt_of_pos _ (by omega))
end
end P76

set_option Elab.async false
set_option linter.all false
set_option maxRecDepth 100000
set_option maxHeartbeats 2000000
/-! Own kit F: for over enumerate; heaps that only grow. -/
namespace Ct
open PySem PySem.Spec PyProof.Rows L2
theorem for_enum {K : PySem.W.Frag} {a : Addr} {xs : List V} {g : TG} {tb : TS} {D : Ends} {σ : L2.St} {H : Hp} (Pv : Nat → L2.St → Hp → Prop) (h0 : Pv 0 σ H) (hl : ∀ i σ H, i ≤ xs.length → Pv i σ H → SqL K H a xs)
    (hs : ∀ i x σ H T, xs[i]? = some x → Pv i σ H → H T = none → g (.ref T) σ (upd H T (.tup [.int (i : Nat), x])) fun σ2 H2 => tb { D with nx := Pv (i + 1), ct := Pv (i + 1), bk := D.nx } σ2 H2)
    (hd : ∀ σ H, Pv xs.length σ H → D.nx σ H) :
    ∃ W : Nat → Nat → L2.St → Hp → Prop, (∃ m, W 0 m σ H) ∧ ∀ i m σ H, W i m σ H →
      ((Ite K a).stop i H ∧ D.nx σ H) ∨ ((Ite K a).go i H ∧ ∃ N : L2.St → Hp → Prop, (∀ σ' H', N σ' H' → ∃ m', m' < m ∧ W (i + 1) m' σ' H') ∧ ∀ x H', (Ite K a).yld i H x H' → g x σ H' fun σ2 H2 => tb { D with nx := N, ct := N, bk := D.nx } σ2 H2) := by
  refine ⟨fun i m σ H => m = xs.length - i ∧ i ≤ xs.length ∧ Pv i σ H, ⟨xs.length, rfl, Nat.zero_le _, h0⟩, ?_⟩
  rintro i m σ H ⟨rfl, hi, p⟩
  have q := hl i σ H hi p
  rcases Nat.lt_or_ge i xs.length with lt | ge
  · right
    refine ⟨⟨xs, xs[i], q, List.getElem?_eq_getElem lt⟩, Pv (i + 1), fun σ' H' p' => ⟨_, by omega, rfl, lt, p'⟩, ?_⟩
    rintro _ _ ⟨T, x, rfl, hT, rfl, hx⟩
    exact hs i x σ H T (hx xs q) p hT
  · left
    have e : i = xs.length := Nat.le_antisymm hi ge
    subst e
    exact ⟨⟨xs, q, Nat.le_refl _⟩, hd σ H p⟩
theorem same_upd {H H' : Hp} {p : Addr} {o : HO} (s : Same H H') (h : H p = none) : Same H (upd H' p o) := fun b u e => by
  rw [upd_ne (ne_of_none e h)]
  exact s b u e
theorem same_new {H : Hp} {p : Addr} {o : HO} (h : H p = none) : Same H (upd H p o) := same_upd (Same.refl H) h
/-- only locked things are tracked: a store leaves them -/
theorem only_upd {H H' : Hp} {p : Addr} {o u : HO} (on : Only H) (s : Same H H') (h : H' p = some u) (n : ∀ ob x, u ≠ .frz ob x) : Same H (upd H' p o) := fun b v e => by
  rcases on b with z | ⟨ob, xs, z⟩
  · rw [z] at e; cases e
  · rw [z] at e; cases e
    have q := s b _ z
    rw [upd_ne (ne_of q h (Ne.symm (n _ _)))]
    exact q
/-- a store at p leaves what is of other content -/
theorem upd_other {H : Hp} {p b : Addr} {o u v : HO} (h : H p = some u) (e : H b = some v) (n : v ≠ u) : upd H p o b = some v := by
  rw [upd_ne (ne_of e h n)]
  exact e
theorem same_t {K : PySem.W.Frag} {H H' : Hp} {a : Addr} {xs : List V} (s : Same H H') (h : SqT K H a xs) : SqT K H' a xs := by
  rcases h with (h | ⟨o, h⟩) | h
  · exact .inl (.inl (s _ _ h))
  · exact .inl (.inr ⟨o, s _ _ h⟩)
  · exact .inr h
theorem same_rd {H H' : Hp} {a : Addr} {u : HO} (s : Same H H') (h : Rd H a u) : Rd H' a u := by
  rcases h with h | ⟨o, h⟩
  · exact .inl (s _ _ h)
  · exact .inr ⟨o, s _ _ h⟩
mutual
theorem Dq.same {K : PySem.W.Frag} {H H' : Hp} (s : Same H H') : ∀ {v : V} {d : PyData}, Dq K H v d → Dq K H' v d
  | _, _, .non => .non
  | _, _, .bl b => .bl b
  | _, _, .int i => .int i
  | _, _, .str x => .str x
  | _, _, .lst h a => .lst (s.seq h) (DqAll.same s a)
  | _, _, .tup h a => .tup (same_t s h) (DqAll.same s a)
  | _, _, .dic h k e a => .dic (same_rd s h) k e (DqAll.same s a)
  | _, _, .dicT h k e a => .dicT (same_rd s h) k e (DqAll.same s a)
theorem DqAll.same {K : PySem.W.Frag} {H H' : Hp} (s : Same H H') : ∀ {vs : List V} {ds : List PyData}, DqAll K H vs ds → DqAll K H' vs ds
  | _, _, .nil => .nil
  | _, _, .cons a b => .cons (Dq.same s a) (DqAll.same s b)
end
end Ct

set_option Elab.async false
set_option linter.all false
set_option maxRecDepth 100000
set_option maxHeartbeats 2000000
/-! Own kit G: sets of tuples of keys (texts, ints), up to 76 members: what is looked for, what is put in. -/
namespace Ct
open PySem PySem.Spec PyProof.Rows L2
abbrev TupAt (P : Program) (w : World) (h : Heap) (k : List Key) (a : Addr) : Prop := IsTupleKey (mixKind P w) h k a
abbrev kh (P : Program) (w : World) (k : List Key) : Int := tupleKeyHash (mixKind P w) k
abbrev Mem := Addr × List Key
def rowK (P : Program) (w : World) (p : Mem) : Int × Value := (kh P w p.2, Value.ref p.1)
theorem key_scan' {P : Program} {w : World} {k : Key} {v : Value} (h : (mixKind P w).is k v = true) : v.scannable = true := by
  rcases keyIs_shape ((mixKind_is P w k v).symm.trans h) with ⟨i, t, rfl, rfl⟩ | ⟨x, t, rfl, rfl⟩ <;> rfl
theorem items_scan {P : Program} {w : World} {ks : List Key} {vs : List Value} (h : ItemsAre (mixKind P w) ks vs) : ∀ v ∈ vs, v.scannable = true := by
  induction h with
  | nil => intro v hv; cases hv
  | cons h1 _ ih =>
    intro v hv
    rcases List.mem_cons.mp hv with rfl | hv
    · exact key_scan' h1
    · exact ih v hv
theorem noClass0 {n : Nat} {v : Value} (h : v.scannable = true) : ofAClassStatement n v = pure false := by
  cases v <;> first | (cases n <;> rfl) | exact absurd h Bool.false_ne_true
section
variable {P : Program} {w : World} {A : Around} {E : Value → Shared → Prop} {s : Shared}
theorem noClass {k : List Key} {b : Addr} {Q : Bool → Shared → Prop} (hk : TupAt P w s.heap k b) (h : Q false s) : wpAny (model P w) A (ofAClassStatement 8 (.ref b)) Q E s := by
  have hT := hk.typeIs
  obtain ⟨o, its, n, ho, _, hd, hi⟩ := hk
  unfold ofAClassStatement
  refine wpAny_bind (wpAny_typeOf hT ?_)
  dsimp only
  simp only [show (("tuple" : String) == "tuple") = true by decide, if_true, pure_bind, Bool.not_true, Bool.false_eq_true, if_false]
  refine wpAny_bind (wpAny_seqItems ho hd ?_)
  dsimp only
  refine wpAny_bind ?_
  rw [← Array.forIn_toList]
  refine wpAny_forIn_list _ (fun l r s' => r.1 = none ∧ s' = s ∧ ∀ v ∈ l, v.scannable = true) _ ?_ ?_ _ _ ⟨rfl, rfl, items_scan hi⟩
  · rintro v l r s' ⟨_, rfl, al⟩
    rw [noClass0 (al v List.mem_cons_self), pure_bind]
    exact wpAny_pure ⟨rfl, rfl, fun u hu => al u (List.mem_cons_of_mem _ hu)⟩
  · rintro ⟨r1, r2⟩ s' ⟨hr, rfl, _⟩
    cases (show r1 = none from hr)
    exact wpAny_pure h
theorem hashBy {k : List Key} {b : Addr} {Q : Bool → Shared → Prop} (hk : TupAt P w s.heap k b) (h : ∀ r, Q r s) : wpAny (model P w) A (hashByValue 8 (.ref b)) Q E s := by
  have hT := hk.typeIs
  obtain ⟨o, its, n, ho, _, hd, hi⟩ := hk
  unfold hashByValue
  refine wpAny_bind (wpAny_specialOf hT F.slot_tuple_hash.lookup ?_)
  show wpAny _ _ (seqItems? (.ref b) >>= _) _ _ s
  refine wpAny_bind (wpAny_seqItems ho hd ?_)
  refine wpAny_bind ?_
  show wpAny _ _ (forIn its _ _) _ _ s
  rw [← Array.forIn_toList]
  refine wpAny_forIn_list _ (fun l r s' => r.1 = none ∧ s' = s ∧ ∀ v ∈ l, v.scannable = true) _ ?_ ?_ _ _ ⟨rfl, rfl, items_scan hi⟩
  · rintro v l r s' ⟨_, rfl, al⟩
    rw [hashByValue_scannable _ (al v List.mem_cons_self), pure_bind]
    cases plainKind v
    · exact wpAny_pure (wpAny_pure (h false))
    · exact wpAny_pure ⟨rfl, rfl, fun u hu => al u (List.mem_cons_of_mem _ hu)⟩
  · rintro ⟨r1, r2⟩ s' ⟨hr, rfl, _⟩
    cases (show r1 = none from hr)
    exact wpAny_pure (h true)
theorem unseen {k : List Key} {b : Addr} {Q : Bool → Shared → Prop} (hk : TupAt P w s.heap k b) {ys : List Value} (hy : ∀ y ∈ ys, ∃ k' c, y = Value.ref c ∧ TupAt P w s.heap k' c) (h : Q false s) :
    wpAny (model P w) A (searchCouldBeSeen (.ref b) ys) Q E s := by
  unfold searchCouldBeSeen
  refine wpAny_bind ?_
  refine wpAny_forIn_list _ (fun l r s' => r.1 = none ∧ s' = s ∧ ∀ y ∈ l, ∃ k' c, y = Value.ref c ∧ TupAt P w s.heap k' c) _ ?_ ?_ _ _ ⟨rfl, rfl, hy⟩
  · rintro v l r s' ⟨_, rfl, al⟩
    obtain ⟨k', c, rfl, hc⟩ := al v List.mem_cons_self
    have al' : ∀ y ∈ l, ∃ k' c, y = Value.ref c ∧ TupAt P w s'.heap k' c := fun u hu => al u (List.mem_cons_of_mem _ hu)
    dsimp only
    by_cases hv : (b == c || (carriedByValue (.ref b) && carriedByValue (.ref c))) = true
    · exact wp_if_pos hv (wpAny_pure ⟨rfl, rfl, al'⟩)
    · refine wp_if_neg hv ?_
      refine wpAny_bind (wpAny_eqIsQuiet_tuple hk ?_)
      simp only [Bool.not_true, Bool.false_eq_true, if_false]
      refine wpAny_bind (wpAny_eqIsQuiet_tuple hc ?_)
      simp only [Bool.not_true, Bool.false_eq_true, if_false]
      refine wpAny_bind (noClass hk ?_)
      simp only [Bool.false_eq_true, if_false]
      refine wpAny_bind (noClass hc ?_)
      simp only [Bool.false_eq_true, if_false]
      exact wpAny_pure ⟨rfl, rfl, al'⟩
  · rintro ⟨r1, r2⟩ s' ⟨hr, rfl, _⟩
    cases (show r1 = none from hr)
    exact wpAny_pure h
/-- the set at a, its table told -/
structure KSet (P : Program) (w : World) (h : Heap) (a : Addr) (L : List Mem) (es : Array (Int × Value)) (ep : Nat) (t : SetTable) : Prop where
  ob : ∃ o, h.get? a = some o ∧ o.ExactSet ∧ o.data = .set es ep t
  rows : es.toList = L.map (rowK P w)
  tab : TabOk t (L.map fun p => kh P w p.2)
  nd : (L.map (·.2)).Nodup
  led : w.params.followText "set-order" = true ∨ t.led = true
  room : L.length * 5 < t.mask * 3
  few : L.length < 77
variable {a : Addr} {L : List Mem} {es : Array (Int × Value)} {ep : Nat} {t : SetTable}
theorem rows_size (h : es.toList = L.map (rowK P w)) : es.size = L.length := by
  have z := congrArg List.length h
  rwa [Array.length_toList, List.length_map] at z
theorem rows_at (h : es.toList = L.map (rowK P w)) (i : Nat) : es[i]? = (L[i]?).map (rowK P w) := by
  rw [← Array.getElem?_toList, h, List.getElem?_map]
theorem KSet.fits (R : KSet P w s.heap a L es ep t) : t.fits es.size = true := by
  have h1 := R.tab.sz
  have h2 := rows_size R.rows
  have h3 := R.room
  rw [List.length_map] at h1
  unfold SetTable.fits SetTable.fill
  rw [R.tab.dm, Bool.and_eq_true, beq_iff_eq, decide_eq_true_eq]
  show t.place.size = es.size ∧ t.place.size + 0 ≤ t.mask
  omega
theorem nth_dummy (m : Nat) : ∀ (n : Nat) (p : SetTable.Probe), p.dummy = none → (nth m p n).dummy = none
  | 0, _, h => h
  | n + 1, p, h => nth_dummy m n (adv m p) (by unfold adv; split <;> exact h)
/-- the way's c-th stand -/
abbrev std (m : Nat) (h : Int) (c : Nat) : SetTable.Probe := nth m (runAt m (SetTable.bits h % (m + 1)) (SetTable.bits h)) c
/-- THE SEARCH -/
theorem seek (R : KSet P w s.heap a L es ep t) (tup : ∀ p ∈ L, TupAt P w s.heap p.2 p.1) {x : Addr} {k : List Key} (hx : TupAt P w s.heap k x) (hu : A.units < cLine) {ad : Bool} {K : Nat} (hK10 : K < 10 * SetTable.turns t.mask)
    (hK : way t.mask (kh P w k) K ∉ t.place.toList) (hb : ∀ c, c < K → way t.mask (kh P w k) c ∈ t.place.toList) {Q : SetFound → Shared → Prop}
    (yes : ∀ r : Option Nat, (ad = true → r = none) → (ad = false → r.isSome = true) → k ∈ L.map (·.2) → Q (.there r) s) (no : k ∉ L.map (·.2) → Q (.free (way t.mask (kh P w k) K) false) s) :
    ∀ (f c : Nat) (st : Option SetTable.Probe), st.getD (t.probeStart (kh P w k)) = std t.mask (kh P w k) c → c ≤ K → K - c < f →
      (∀ (i : Nat) (p : Mem), L[i]? = some p → p.2 = k → ∃ c', c ≤ c' ∧ c' < K ∧ t.place.toList[i]? = some (way t.mask (kh P w k) c')) →
      wpAny (model P w) A (setSearchFrom a (.ref x) (kh P w k) ad f st) Q E s
  | 0, _, _, _, _, z, _ => absurd z (Nat.not_lt_zero _)
  | f + 1, c, st, hst, hc, hf, ahead => by
    obtain ⟨o, ho, hex, hd⟩ := R.ob
    rw [setSearchFrom_succ]
    refine wpAny_bind (wpAny_setState_of ho hd R.fits ?_)
    dsimp only
    refine wp_if_neg (by unfold SetTable.gaveWay; rw [mask_odd R.tab.mok]; decide) ?_
    have sh : ∀ q, nth t.mask (std t.mask (kh P w k) c) q = std t.mask (kh P w k) (c + q) := fun q => (nth_add t.mask c _ q).symm
    have shj : ∀ q, (nth t.mask (std t.mask (kh P w k) c) q).j = way t.mask (kh P w k) (c + q) := fun q => congrArg SetTable.Probe.j (sh q)
    have kk : c + (K - c) = K := by omega
    have hAt : ∀ (i : Nat) (p : Mem), L[i]? = some p → (fun i => (es[i]?.map (·.1)).getD 0) i = kh P w p.2 := fun i p hp => by
      show (es[i]?.map (·.1)).getD 0 = _
      rw [rows_at R.rows, hp] <;> rfl
    have G := go_spec t R.tab.ris R.tab.dm (fun i => (es[i]?.map (·.1)).getD 0) (kh P w k) (10 * SetTable.turns t.mask) (K - c) (std t.mask (kh P w k) c) (nth_dummy _ _ _ rfl) (by omega)
      (fun q hq => by rw [shj]; exact hb _ (by omega)) (by rw [shj, kk]; exact hK)
    rcases G with ⟨q, i, hq, hi, hh, hno, hpr⟩ | ⟨hno, hpr⟩
    · have pr : t.probe (fun i => (es[i]?.map (·.1)).getD 0) (kh P w k) (st.getD (t.probeStart (kh P w k))) = some (.candidate (way t.mask (kh P w k) (c + q)) i (std t.mask (kh P w k) (c + (q + 1)))) := by
        rw [hst, ← shj, ← sh]
        exact hpr
      rw [pr]
      dsimp only
      rw [shj] at hi
      have hil : i < L.length := by
        have h1 : i < t.place.toList.length := (List.getElem?_eq_some_iff.mp hi).1
        have h2 := R.tab.sz
        rw [List.length_map] at h2
        rw [Array.length_toList] at h1
        omega
      obtain ⟨p, hp⟩ : ∃ p, L[i]? = some p := ⟨L[i], List.getElem?_eq_getElem hil⟩
      have hm : p ∈ L := List.mem_of_getElem? hp
      have sl : t.slot (way t.mask (kh P w k) (c + q)) = .live i := slot_live R.tab.ris hi
      have ent : es[i]? = some (rowK P w p) := by rw [rows_at R.rows, hp]; rfl
      have go : wpAny (model P w) A (searchRest a (.ref x) (kh P w k) ad f es t (way t.mask (kh P w k) (c + q)) i (std t.mask (kh P w k) (c + (q + 1)))) Q E s := by
        unfold searchRest
        rw [ent]
        dsimp only [rowK]
        refine wpAny_bind (wpAny_holding (wpAny_eqBool_tuple hu (tup p hm) hx ?_))
        refine wpAny_bind (wpAny_setState_of ho hd R.fits ?_)
        dsimp only
        by_cases e : p.2 = k
        · have mem : k ∈ L.map (·.2) := List.mem_map.mpr ⟨p, hm, e⟩
          cases ad with
          | true => exact wp_if_pos (by simp [e]) (wpAny_pure (yes none (fun _ => rfl) (fun z => Bool.noConfusion z) mem))
          | false =>
            refine wp_if_neg (by simp) ?_
            rw [sameMem]
            simp only [if_true, sl, ent]
            refine wpAny_bind (wpAny_isSame_ref_self (wpAny_bind (wpAny_pure ?_)))
            simp only [if_true]
            exact wp_if_pos (by simp [e]) (wpAny_pure (yes (some i) (fun z => Bool.noConfusion z) (fun _ => rfl) mem))
        · refine wp_if_neg (by simp [e]) ?_
          rw [sameMem]
          simp only [if_true, sl, ent]
          refine wpAny_bind (wpAny_isSame_ref_self (wpAny_bind (wpAny_pure ?_)))
          simp only [if_true]
          refine wp_if_neg (by simp [e]) ?_
          refine seek R tup hx hu hK10 hK hb yes no f (c + (q + 1)) _ rfl (by omega) (by omega) fun i0 p0 h0 e0 => ?_
          obtain ⟨c', a1, a2, a3⟩ := ahead i0 p0 h0 e0
          refine ⟨c', ?_, a2, a3⟩
          have n1 : ¬ c' < c + q := fun z => hno (c' - c) i0 (by omega) (by rw [shj, show c + (c' - c) = c' by omega]; exact a3) ((hAt i0 p0 h0).trans (congrArg (kh P w) e0))
          have n2 : c' ≠ c + q := fun z => by
            rw [z] at a3
            have s0 := slot_live R.tab.ris a3
            rw [sl] at s0
            injection s0 with s0
            rw [← s0, hp] at h0
            exact e ((congrArg Prod.snd (Option.some.inj h0)).trans e0)
          omega
      cases hl : t.led with
      | true => exact wp_if_neg (by decide) go
      | false =>
        refine wp_if_pos (by decide) ?_
        refine wpAny_bind (unseen hx (fun y hy => ?_) (wp_if_neg (by decide) go))
        obtain ⟨e, he, rfl⟩ := List.mem_map.mp hy
        have he2 : e ∈ es.toList := by
          have z : e ∈ es ∧ e.1 = kh P w k := by simpa using he
          simpa using z.1
        rw [R.rows] at he2
        obtain ⟨p2, hp2, rfl⟩ := List.mem_map.mp he2
        exact ⟨p2.2, p2.1, rfl, tup p2 hp2⟩
    · have pr : t.probe (fun i => (es[i]?.map (·.1)).getD 0) (kh P w k) (st.getD (t.probeStart (kh P w k))) = some (.empty (way t.mask (kh P w k) K) none) := by
        have e2 : way t.mask (kh P w k) K = (nth t.mask (std t.mask (kh P w k) c) (K - c)).j := by rw [shj, kk]
        rw [hst, e2]
        exact hpr
      rw [pr]
      dsimp only
      refine wpAny_pure (no fun hm => ?_)
      obtain ⟨p0, h0, e0⟩ := List.mem_map.mp hm
      obtain ⟨i0, hi0⟩ := List.mem_iff_getElem?.mp h0
      obtain ⟨c', a1, a2, a3⟩ := ahead i0 p0 hi0 e0
      exact hno (c' - c) i0 (by omega) (by rw [shj, show c + (c' - c) = c' by omega]; exact a3) ((hAt i0 p0 hi0).trans (congrArg (kh P w) e0))
/-- the search from the way's start -/
theorem seek0 (R : KSet P w s.heap a L es ep t) (tup : ∀ p ∈ L, TupAt P w s.heap p.2 p.1) {x : Addr} {k : List Key} (hx : TupAt P w s.heap k x) (hu : A.units < cLine) {ad : Bool} {Q : SetFound → Shared → Prop}
    (yes : ∀ r : Option Nat, (ad = true → r = none) → (ad = false → r.isSome = true) → k ∈ L.map (·.2) → Q (.there r) s)
    (no : ∀ K, k ∉ L.map (·.2) → way t.mask (kh P w k) K ∉ t.place.toList → (∀ c, c < K → way t.mask (kh P w k) c ∈ t.place.toList) → Q (.free (way t.mask (kh P w k) K) false) s) :
    wpAny (model P w) A (setSearch a (.ref x) (kh P w k) ad) Q E s := by
  have hroom := R.room
  obtain ⟨K, hK10, hK, hb⟩ := R.tab.first (by rw [List.length_map]; omega) (kh P w k)
  have big : K < 100000 := by
    have : 10 * SetTable.turns t.mask ≤ 1420 := by
      unfold SetTable.turns
      rcases R.tab.mok with e | e | e <;> omega
    omega
  unfold setSearch
  refine seek R tup hx hu hK10 hK hb yes (fun n => no K n hK hb) 100000 0 none rfl (Nat.zero_le _) (by omega) fun i p hp e => ?_
  have hil : i < t.place.toList.length := by
    have h1 : i < L.length := (List.getElem?_eq_some_iff.mp hp).1
    have h2 := R.tab.sz
    rw [List.length_map] at h2
    rw [Array.length_toList]
    omega
  have hj := List.getElem?_eq_getElem hil
  obtain ⟨c, hc, e2⟩ := R.tab.before hK (h := kh P w k) (by rw [List.getElem?_map, hp, ← e] <;> rfl) hj
  exact ⟨c, Nat.zero_le _, hc, by rw [hj, e2]⟩
end
end Ct

set_option Elab.async false
set_option linter.all false
set_option maxRecDepth 100000
set_option maxHeartbeats 2000000
/-! Own kit H: the same sets: add, in; over the layer. -/
namespace Ct
open PySem PySem.Spec PyProof.Rows L2
section
variable {P : Program} {w : World} {A : Around} {E : Value → Shared → Prop} {s : Shared} {a : Addr} {L : List Mem} {es : Array (Int × Value)} {ep : Nat} {t : SetTable}
theorem tup_same {h h' : Heap} {k : List Key} {b : Addr} {o : Obj} (hb : TupAt P w h k b) (ho : h.get? a = some o) (hd : o.data = .set es ep t) (sb : Heap.SameBut a h h') : TupAt P w h' k b := by
  obtain ⟨o', its, n, ho', hc, hd', hi⟩ := hb
  refine ⟨o', its, n, (sb.2 b ?_).trans ho', hc, hd', hi⟩
  rintro rfl
  rw [ho] at ho'
  cases ho'
  rw [hd] at hd'
  cases hd'
theorem getD_range (L : List Mem) : (List.range L.length).map (fun i => L.getD i (0, [])) = L := by
  refine List.ext_getElem (by simp) fun i h1 h2 => ?_
  simp [List.getD_eq_getElem?_getD, List.getElem?_eq_getElem h2]
/-- the rows in another order -/
theorem reorder (h : es.toList = L.map (rowK P w)) {order : Array Nat} (pm : order.toList.Perm (List.range L.length)) :
    ∃ L2 : List Mem, (order.filterMap (es[·]?)).toList = L2.map (rowK P w) ∧ L2.Perm L ∧ (L2.map fun p => kh P w p.2) = order.toList.map fun i => (es.map (·.1)).getD i 0 := by
  have bd : ∀ i ∈ order.toList, i < L.length := fun i hi => List.mem_range.mp (pm.mem_iff.mp hi)
  refine ⟨order.toList.map fun i => L.getD i (0, []), ?_, ?_, ?_⟩
  · have key : ∀ l : List Nat, (∀ i ∈ l, i < L.length) → l.filterMap (fun i => es[i]?) = (l.map fun i => L.getD i (0, [])).map (rowK P w) := by
      intro l
      induction l with
      | nil => intro _; rfl
      | cons i l ih =>
        intro hl
        have hi := hl i List.mem_cons_self
        have e : es[i]? = some (rowK P w (L.getD i (0, []))) := by
          rw [rows_at h, List.getElem?_eq_getElem hi]
          simp [List.getD_eq_getElem?_getD, List.getElem?_eq_getElem hi]
        rw [List.filterMap_cons_some e, ih fun j hj => hl j (List.mem_cons_of_mem _ hj)]
        rfl
    rw [Array.toList_filterMap]
    exact key _ bd
  · have z := pm.map fun i => L.getD i (0, [])
    rwa [getD_range] at z
  · rw [List.map_map]
    refine List.map_congr_left fun i hi => ?_
    have e1 := rows_at h i
    rw [List.getElem?_eq_getElem (bd i hi)] at e1
    have e2 : (es.map (·.1))[i]? = some (kh P w (L[i]'(bd i hi)).2) := by rw [Array.getElem?_map, e1]; rfl
    simp [Array.getD_eq_getD_getElem?, e2, List.getD_eq_getElem?_getD, List.getElem?_eq_getElem (bd i hi)]
/-- the table laid anew -/
theorem relay {o : Obj} (ho : s.heap.get? a = some o) (hex : o.ExactSet) (hd : o.data = .set es ep t) (hr : es.toList = L.map (rowK P w)) (hsz : t.place.size = es.size) (hdm : t.dummies = #[]) (hfl : es.size ≤ t.mask)
    (nd : (L.map (·.2)).Nodup) (ld : w.params.followText "set-order" = true ∨ t.led = true) (few : L.length < 77) {wanted M : Nat}
    (hw : SetTable.sizeAbove wanted - 1 = M) (hM : MaskOk M) (hw2 : SetTable.sizeAbove wanted ≤ 128) (hn : L.length * 5 < M * 3) {Q : Unit → Shared → Prop}
    (hQ : ∀ h' L' es' ep' t', Heap.SameBut a s.heap h' → KSet P w h' a L' es' ep' t' → L'.Perm L → Q () { s with heap := h' }) : wpAny (model P w) A (setRelay a wanted) Q E s := by
  have hsl := rows_size hr
  have fits : t.fits es.size = true := by
    unfold SetTable.fits SetTable.fill
    rw [hdm, Bool.and_eq_true, beq_iff_eq, decide_eq_true_eq]
    show t.place.size = es.size ∧ t.place.size + 0 ≤ t.mask
    omega
  obtain ⟨t', order, e, hp, T, em, el, _, _⟩ := relaid_ok t (hs := es.map (·.1)) (wanted := wanted) hw hM (by rw [Array.size_map, hsl]; omega)
  rw [Array.size_map, hsl] at hp
  obtain ⟨L2, r1, r2, r3⟩ := reorder hr hp
  rw [← r3] at T
  have hs2 : (order.filterMap (es[·]?)).size = es.size := by rw [rows_size r1, r2.length_eq, hsl]
  rw [setRelay_eq]
  refine wpAny_bind (wpAny_setState_of ho hd fits ?_)
  dsimp only
  refine wp_if_neg (by rw [sizeLine_eq]; omega) ?_
  rw [e]
  dsimp only
  refine wpAny_bind ?_
  refine wp_if_neg (by rw [hs2]; simp) ?_
  refine wpAny_pure ?_
  dsimp only
  refine wpAny_storeSet_of ho hd ?_ (by rw [hs2, hsl, sizeLine_eq]; omega)
  refine hQ _ L2 _ (ep + 1) t' (Heap.SameBut.update ..) ⟨⟨_, store_at ho hd, ⟨hex.1, hex.2.1, hex.2.2⟩, rfl⟩, r1, T, (r2.map (·.2)).nodup_iff.mpr nd, by rw [el]; exact ld, ?_, by rw [r2.length_eq]; exact few⟩ r2
  rw [r2.length_eq, em]
  exact hn
theorem size_relay {n m : Nat} (h : (m = 7 ∧ n = 4) ∨ (m = 31 ∧ n = 18)) : MaskOk (SetTable.sizeAbove (SetTable.grown (n + 1)) - 1) ∧ SetTable.sizeAbove (SetTable.grown (n + 1)) ≤ 128 ∧ (n + 1) * 5 < (SetTable.sizeAbove (SetTable.grown (n + 1)) - 1) * 3 := by
  rcases h with ⟨_, rfl⟩ | ⟨_, rfl⟩
  · rw [size_20]; exact ⟨.inr (.inl rfl), by decide, by decide⟩
  · rw [size_76]; exact ⟨.inr (.inr rfl), by decide, by decide⟩
/-- ADDING -/
theorem putIn (R : KSet P w s.heap a L es ep t) (tup : ∀ p ∈ L, TupAt P w s.heap p.2 p.1) {x : Addr} {k : List Key} (hx : TupAt P w s.heap k x) (hu : A.units < cLine) (few : L.length + 1 < 77) {Q : Bool → Shared → Prop}
    (old : k ∈ L.map (·.2) → ∀ b, Q b s) (new : k ∉ L.map (·.2) → ∀ b h' L' es' ep' t', Heap.SameBut a s.heap h' → KSet P w h' a L' es' ep' t' → L'.Perm ((x, k) :: L) → Q b { s with heap := h' }) :
    wpAny (model P w) A (setAddHashed a (.ref x) (kh P w k)) Q E s := by
  obtain ⟨o, ho, hex, hd⟩ := R.ob
  have hsl := rows_size R.rows
  have hroom := R.room
  unfold setAddHashed
  refine wpAny_holding ?_
  rw [show (100000 : Nat) = 99999 + 1 from rfl, setAddHashedIn_succ]
  refine wpAny_bind (wpAny_setState_of ho hd R.fits ?_)
  dsimp only
  refine wp_if_neg (by simp [byScan, Value.scannable]) ?_
  refine wpAny_bind (seek0 R tup hx hu (ad := true) (fun r _ _ hm => wpAny_pure (old hm false)) fun K hm hK hb => ?_)
  dsimp only
  refine wpAny_bind (wpAny_setState_of ho hd R.fits ?_)
  dsimp only
  obtain ⟨q1, q2, q3, q4, q5, q6, q7, q8, q9⟩ := R.tab.put hK hb
  generalize hpt : t.put (way t.mask (kh P w k) K) = pt at q1 q3 q4 q5 q6 q7 q8 q9 ⊢
  obtain ⟨t1, p⟩ := pt
  dsimp only at q1 q3 q4 q5 q6 q7 q8 q9 ⊢
  subst q1
  generalize SetTable.below t.place (way t.mask (kh P w k) K) = p at q2 q3 ⊢
  have pm : (L.take p ++ (x, k) :: L.drop p).Perm ((x, k) :: L) := by
    have z : (L.take p ++ (x, k) :: L.drop p).Perm ((x, k) :: (L.take p ++ L.drop p)) := List.perm_middle
    rwa [List.take_append_drop] at z
  have rows1 : (SetTable.insertAt es p (kh P w k, Value.ref x)).toList = (L.take p ++ (x, k) :: L.drop p).map (rowK P w) := by
    rw [SetTable.toList_insertAt, R.rows, List.map_append, List.map_cons, List.map_take, List.map_drop]; rfl
  have hs1 : (L.take p ++ (x, k) :: L.drop p).map (fun p => kh P w p.2) = (L.map fun p => kh P w p.2).take p ++ kh P w k :: (L.map fun p => kh P w p.2).drop p := by
    rw [List.map_append, List.map_cons, List.map_take, List.map_drop]
  rw [← hs1] at q3
  have nd1 : ((L.take p ++ (x, k) :: L.drop p).map (·.2)).Nodup := (pm.map (·.2)).nodup_iff.mpr (List.nodup_cons.mpr ⟨hm, R.nd⟩)
  have len1 : (L.take p ++ (x, k) :: L.drop p).length = L.length + 1 := pm.length_eq
  generalize L.take p ++ (x, k) :: L.drop p = L1 at pm rows1 q3 nd1 len1
  generalize SetTable.insertAt es p (kh P w k, Value.ref x) = es1 at rows1 ⊢
  have sz1 := rows_size rows1
  -- behind the hash: a table that differs in its mark alone
  have fin : ∀ t2 : SetTable, t2.place = t1.place → t2.dummies = t1.dummies → t2.mask = t1.mask → t2.led = t1.led → wpAny (model P w) A (do
      storeSet a es1 t2
      if !false && t2.tooFull then setRelay a (SetTable.grown (es.size + 1))
      return true) Q E s := by
    intro t2 e1 e2 e3 e4
    have T2 : TabOk t2 (L1.map fun p => kh P w p.2) := by
      refine ⟨by rw [e1]; exact q3.ris, by rw [e2]; exact q3.dm, by rw [e1]; exact q3.sz, by rw [e3]; exact q3.mok, by rw [e1, e3]; exact q3.bd, ?_⟩
      rw [e1, e3]
      exact q3.reach
    have ld2 : w.params.followText "set-order" = true ∨ t2.led = true := by rw [e4, q5]; exact R.led
    have fl2 : t2.fill = L.length + 1 := by
      unfold SetTable.fill at q9 ⊢
      rw [e1, e2, q9, List.length_map]
    have mk2 : t2.mask = t.mask := e3.trans q4
    refine wpAny_bind (wpAny_storeSet_of ho hd ?_ (by rw [sz1, len1, sizeLine_eq]; omega))
    have sb : Heap.SameBut a s.heap (s.heap.update a (Obj.putSet es1 t2)) := Heap.SameBut.update ..
    have ho1 := store_at (es' := es1) (t' := t2) ho hd
    generalize s.heap.update a (Obj.putSet es1 t2) = h1 at sb ho1 ⊢
    by_cases hf : t2.tooFull = true
    · have full : (L.length + 1) * 5 ≥ t.mask * 3 := by
        have h := hf
        unfold SetTable.tooFull at h
        rw [decide_eq_true_eq, fl2, mk2] at h
        exact h
      have two : (t.mask = 7 ∧ L.length = 4) ∨ (t.mask = 31 ∧ L.length = 18) := by
        rcases R.tab.mok with e | e | e
        · rw [e] at full hroom; exact .inl ⟨e, by omega⟩
        · rw [e] at full hroom; exact .inr ⟨e, by omega⟩
        · exfalso; rw [e] at full; omega
      obtain ⟨m1, m2, m3⟩ := size_relay two
      simp only [hf, Bool.not_false, Bool.and_self, if_true]
      rw [hsl]
      refine wpAny_bind (relay (s := { s with heap := h1 }) ho1 ⟨hex.1, hex.2.1, hex.2.2⟩ rfl rows1 (by rw [T2.sz, List.length_map, sz1]) T2.dm (by rw [sz1, len1, mk2]; rcases two with ⟨e, e'⟩ | ⟨e, e'⟩ <;> omega) nd1 ld2 (by rw [len1]; exact few) rfl m1 m2 (by rw [len1]; exact m3) ?_)
      intro h2 L2 es2 ep2 t3 sb2 R2 pm2
      exact wpAny_pure (new hm true h2 L2 es2 ep2 t3 (sb.trans sb2) R2 (pm2.trans pm))
    · simp only [hf, Bool.not_false, Bool.and_false, Bool.false_eq_true, if_false]
      refine wpAny_pure (new hm true h1 L1 es1 (ep + 1) t2 sb ⟨⟨_, ho1, ⟨hex.1, hex.2.1, hex.2.2⟩, rfl⟩, rows1, T2, nd1, ld2, ?_, by rw [len1]; exact few⟩ pm)
      unfold SetTable.tooFull at hf
      rw [decide_eq_true_eq, fl2] at hf
      rw [len1]
      omega
  have fin2 : ∀ b : Bool, wpAny (model P w) A (do
      storeSet a es1 (if b then t1 else { t1 with plain := false })
      if !false && (if b then t1 else { t1 with plain := false }).tooFull then setRelay a (SetTable.grown (es.size + 1))
      return true) Q E s := fun b => by
    cases b
    · exact fin _ rfl rfl rfl rfl
    · exact fin _ rfl rfl rfl rfl
  by_cases hp1 : t1.plain = true
  · simp only [hp1, if_true]
    first
      | exact wpAny_bind (hashBy hx fun r => fin2 r)
      | exact wpAny_bind (hashBy hx fun r => wpAny_bind (wpAny_pure (fin2 r)))
  · simp only [hp1, Bool.false_eq_true, if_false]
    first
      | exact fin2 true
      | exact wpAny_bind (wpAny_pure (fin2 true))
/-- FINDING -/
theorem findIt (R : KSet P w s.heap a L es ep t) (tup : ∀ p ∈ L, TupAt P w s.heap p.2 p.1) {x : Addr} {k : List Key} (hx : TupAt P w s.heap k x) (hu : A.units < cLine) {Q : Option Nat → Shared → Prop}
    (yes : k ∈ L.map (·.2) → ∀ r : Option Nat, r.isSome = true → Q r s) (no : k ∉ L.map (·.2) → Q none s) : wpAny (model P w) A (setFind a (.ref x) (kh P w k)) Q E s := by
  obtain ⟨o, ho, hex, hd⟩ := R.ob
  unfold setFind setFindIn
  refine wpAny_bind (wpAny_setState_of ho hd R.fits ?_)
  dsimp only
  refine wp_if_neg (by simp [byScan, Value.scannable]) ?_
  refine wpAny_bind (seek0 R tup hx hu (ad := false) (fun r _ hr hm => ?_) fun K hm _ _ => ?_)
  · exact wpAny_pure (yes hm r (hr rfl))
  · exact wpAny_pure (no hm)
end
end Ct

set_option Elab.async false
set_option linter.all false
set_option maxRecDepth 100000
set_option maxHeartbeats 2000000
/-! Own kit I: sets of tuples of keys over the layer: add, in, comprehensions. -/
namespace Ct
open PySem PySem.Spec PyProof.Rows L2
/-- the set at a; that its members stand as they do is told apart -/
def KSetO (P : Program) (w : World) (a : Addr) (L : List Mem) : HO := .ext fun h => ∃ es ep t, KSet P w h a L es ep t
theorem kset_new {P : Program} {w : World} {H : Hp} {h : Heap} {a : Addr} {L : List Mem} {es : Array (Int × Value)} {ep : Nat} {t : SetTable} (R : KSet P w h a L es ep t) : ObjOk P w H h a (KSetO P w a L) := by
  obtain ⟨o, ho, r⟩ := R.ob
  refine ⟨⟨es, ep, t, R⟩, ⟨o, ho⟩, fun h1 h2 ⟨es, ep, t, R⟩ k => ?_⟩
  obtain ⟨o, ho, r⟩ := R.ob
  exact ⟨es, ep, t, ⟨o, k o ho, r⟩, R.rows, R.tab, R.nd, R.led, R.room, R.few⟩
theorem kset_fresh {P : Program} {w : World} {h : Heap} {a : Addr} (ho : h.get? a = some { cls := .type "set", dict := none, data := .set #[] 0 (.fresh 0 0 (!w.params.followText "set-order")) }) :
    KSet P w h a [] #[] 0 (.fresh 0 0 (!w.params.followText "set-order")) := by
  refine ⟨⟨_, ho, ⟨rfl, rfl, rfl⟩, rfl⟩, rfl, ⟨List.Pairwise.nil, rfl, rfl, .inl rfl, fun x hx => (by cases hx), fun i h j hi => (by simp at hi)⟩, List.nodup_nil, ?_, by show 0 * 5 < 7 * 3; decide, by show 0 < 77; decide⟩
  show _ ∨ (!w.params.followText "set-order") = true
  cases w.params.followText "set-order"
  · exact .inr rfl
  · exact .inl rfl
section
variable {X : Cx} {pins : List (Addr × Obj)} {σ : L2.St} {H : Hp} {s : Shared}
theorem vals_items {P : Program} {w : World} : ∀ {k : List Key} {us : List Value}, Vals (k.map kV) us → ItemsAre (mixKind P w) k us
  | [], _, .nil => .nil
  | _ :: _, _, .cons r t => .cons (kV_is r) (vals_items t)
theorem tup_of (I : Inv X pins σ H s) {b : Addr} {k : List Key} (h : SqT X.K H b (k.map kV)) : TupAt X.prog X.w s.heap k b := by
  obtain ⟨its, r, ⟨o, ho, hc, n, hd⟩, _⟩ := I.tuple h
  exact ⟨o, its.toArray, n, ho, hc, hd, by simpa using vals_items r⟩
/-- the members stand -/
def Mems (K : PySem.W.Frag) (H : Hp) (L : List Mem) : Prop := ∀ p ∈ L, SqT K H p.1 (p.2.map kV)
theorem mems_at (I : Inv X pins σ H s) {L : List Mem} (h : Mems X.K H L) : ∀ p ∈ L, TupAt X.prog X.w s.heap p.2 p.1 := fun p hp => tup_of I (h p hp)
/-- what add promises: k, a tuple at b, put into the set at a -/
def rKAdd (K : PySem.W.Frag) (P : Program) (w : World) (a b : Addr) (H : Hp) (Q : Hp → Prop) : Prop := ∃ (L : List Mem) (k : List Key), H a = some (KSetO P w a L) ∧ Mems K H L ∧ SqT K H b (k.map kV) ∧ L.length + 1 < 77 ∧
  (k ∈ L.map (·.2) → Q H) ∧ (k ∉ L.map (·.2) → ∀ L', L'.Perm ((b, k) :: L) → Q (upd H a (KSetO P w a L')))
theorem kadd {E : Value → Shared → Prop} {a b : Addr} {Qh : Hp → Prop} {Q : Value → Shared → Prop} (hu : X.A.units + 64 < cLine) (I : Inv X pins σ H s) (h : rKAdd X.K X.prog X.w a b H Qh)
    (q : ∀ H' s', Inv X pins σ H' s' → Qh H' → Q .none s') : wpAny (model X.prog X.w) X.A (call (.builtin "set.add") [.ref a, .ref b]) Q E s := by
  obtain ⟨L, k, ha, hm, hb, few, q1, q2⟩ := h
  obtain ⟨⟨es, ep, t, R⟩, _⟩ := I.hok _ _ ha
  have R : KSet X.prog X.w s.heap a L es ep t := R
  have tup := mems_at I hm
  have hx := tup_of I hb
  obtain ⟨o, ho, hex, hd⟩ := R.ob
  have ty : s.TypeIs (.ref a) "set" := ⟨o, ho, hex.1⟩
  have hu1 : X.A.in1.units < cLine := by show X.A.units + 1 < _; omega
  refine wpAny_call_entry F.slot_set_add ty F.entry_set_add ?_ (F.args_set_add_2 _ _)
  unfold Builtin.«set.add» Builtin.Frozenset.oneOther
  simp only [List.isEmpty_nil, bind_assoc]
  unfold Builtin.Frozenset.addrOf setAdd
  refine wpAny_bind (wpAny_pure ?_)
  try dsimp only
  refine wpAny_bind (wpAny_pure ?_)
  try dsimp only
  refine wpAny_bind ?_
  refine wpAny_holding ?_
  refine wpAny_bind (wpAny_pyHash_tuple hu1 hx ?_)
  have I1 : Inv X pins σ H { s with toks := s.toks + (k.length + 1) } := I.tok _
  refine putIn (s := { s with toks := s.toks + (k.length + 1) }) R tup hx hu1 few (fun hm b => ?_) fun hm b h' L' es' ep' t' sb R' pm => ?_
  · show wpAny _ _ (ret Value.none) _ _ _
    exact wpAny_pure ⟨_, rfl, q H _ I1 (q1 hm)⟩
  · show wpAny _ _ (ret Value.none) _ _ _
    obtain ⟨o', ho', _⟩ := R'.ob
    have he : ∃ u, h'.get? a = some u := ⟨o', ho'⟩
    exact wpAny_pure ⟨_, rfl, q _ _ (I.write (e := a) (t' := s.toks + (k.length + 1)) (by rw [ha]; trivial) (.inl rfl) (fun b u hb hu => (sb.2 b hb).trans hu) he (kset_new R')) (q2 hm L' pm)⟩
/-- k in s -/
def rKIn (K : PySem.W.Frag) (P : Program) (w : World) : V → V → Hp → VK → Prop := fun x y H Q => ∃ (a b : Addr) (L : List Mem) (k : List Key), x = .ref b ∧ y = .ref a ∧ H a = some (KSetO P w a L) ∧ Mems K H L ∧ SqT K H b (k.map kV) ∧
  (k ∈ L.map (·.2) → Q (.bl true) H) ∧ (k ∉ L.map (·.2) → Q (.bl false) H)
theorem or_kin (hu : X.A.units + 64 < cLine) : OpR X (compareOp .In) (rKIn X.K X.prog X.w) := by
  intro pins s σ H x y v u Q I rx ry h
  obtain ⟨a, b, L, k, rfl, rfl, ha, hm, hb, q1, q2⟩ := h
  cases rx
  cases ry
  obtain ⟨⟨es, ep, t, R⟩, _⟩ := I.hok _ _ ha
  have R : KSet X.prog X.w s.heap a L es ep t := R
  have tup := mems_at I hm
  have hx := tup_of I hb
  obtain ⟨o, ho, hex, hd⟩ := R.ob
  have ty : s.TypeIs (.ref a) "set" := ⟨o, ho, hex.1⟩
  have hu1 : X.A.in1.units < cLine := by show X.A.units + 1 < _; omega
  show wpAny _ _ (do return Value.bool (← contains (.ref a) (.ref b))) _ _ s
  refine wpAny_bind ?_
  unfold contains
  refine wpAny_holding ?_
  refine wpAny_bind (wpAny_specialOf ty F.slot_set_contains.lookup ?_)
  show wpAny _ _ (if (some (Value.builtin "set.__contains__") == some Value.none) = true then _ else _) _ _ s
  rw [if_neg (by rw [beq_builtin_none]; exact Bool.false_ne_true)]
  refine wpAny_bind (wpAny_callSpecialUnlessNone?_slot (name := Str.ofString "__contains__") ty F.slot_set_contains
    (wpAny_call_entry F.slot_set_contains ty entry_set_contains ?_ (F.args_set_contains_2 _ _)))
  unfold Builtin.«frozenset.__contains__» Builtin.Frozenset.oneOther
  simp only [List.isEmpty_nil, bind_assoc]
  unfold Builtin.Frozenset.addrOf Builtin.Frozenset.withSetAsKey setContains
  refine wpAny_bind (wpAny_pure ?_)
  try dsimp only
  refine wpAny_bind (wpAny_pure ?_)
  try dsimp only
  refine wpAny_bind (wpAny_tryCatch ?_)
  refine wpAny_holding ?_
  refine wpAny_bind (wpAny_pyHash_tuple hu1 hx ?_)
  have I1 : Inv X pins σ H { s with toks := s.toks + (k.length + 1) } := I.tok _
  refine wpAny_bind (findIt (s := { s with toks := s.toks + (k.length + 1) }) R tup hx hu1 (fun hk r hr => ?_) fun hk => ?_)
  · refine wpAny_pure ?_
    show wpAny _ _ (ret (Value.bool r.isSome)) _ _ _
    rw [hr]
    exact wpAny_pure ⟨_, rfl, wpAny_truthy_bool (wpAny_pure ⟨.bl true, H, I1, rfl, q1 hk⟩)⟩
  · refine wpAny_pure ?_
    show wpAny _ _ (ret (Value.bool false)) _ _ _
    exact wpAny_pure ⟨_, rfl, wpAny_truthy_bool (wpAny_pure ⟨.bl false, H, I1, rfl, q2 hk⟩)⟩
/-- s.add(t) -/
def tKAdd (K : PySem.W.Frag) (P : Program) (w : World) (to te : TE) : TE := fun σ H Q => to σ H fun x H1 => (∃ a L, x = V.ref a ∧ H1 a = some (KSetO P w a L)) ∧ te σ H1 fun y H2 => ∃ a b, x = .ref a ∧ y = .ref b ∧ rKAdd K P w a b H2 fun H3 => Q .non H3
theorem pe_kadd {o e : Expr} {to te : TE} {apos cpos : Pos} (hu : X.A.units + 64 < cLine) (ho : PE X o to) (he : PE X e te)
    (hbase : attributeBase o "add" X.env (eval o X.env) = eval o X.env := by rfl)
    (hfew : ((backTo cpos (starEach [e] X.env)).all (fun x => !x.1) && (backToKw cpos (keywordEach [] X.env)).all (fun x => x.1.isSome)
      && decide ([e].length + ([] : List Keyword).length + (if ([] : List Keyword).isEmpty then 0 else 1) < 30)) = true := by rfl)
    (hline : (apos.endLine == cpos.line) = true := by rfl) (hs : starEach [e] X.env = (false, eval e X.env) :: starEach [] X.env := by rfl) :
    PE X (.Call (.Attribute o "add" apos) [e] [] cpos) (tKAdd X.K X.prog X.w to te) := by
  refine ⟨fun pins s σ H Q I h => ?_⟩
  refine wpAny_Call_method_late hbase hfew hline rfl (thn (ho.run pins s σ H _ I h) fun v s1 ⟨x, H1, I1, r1, ty, q1⟩ => ?_)
  obtain ⟨a, L, rfl, ha⟩ := ty
  obtain ⟨⟨es, ep, t, R⟩, _⟩ := I1.hok _ _ ha
  have R : KSet X.prog X.w s1.heap a L es ep t := R
  obtain ⟨ob, hob, hex, _⟩ := R.ob
  cases r1
  refine ⟨"set", "set.add", F.plainAttrs_set, F.slot_set_add, F.type_set_add, ⟨ob, hob, hex.1⟩, (fun b e => by cases e; exact ⟨ob, hob, hex.2.1⟩), ?_⟩
  rw [hs]
  refine Calls.callWith_builtin rfl (Calls.evalArgs_plain (Calls.spliced_cons (thn (he.run pins s1 σ H1 _ I1 q1) fun iv s2 ⟨y, H2, I2, ry, a', b, ea, eb, q2⟩ => Calls.spliced_nil ?_)))
  cases ea
  subst eb
  cases ry
  exact kadd hu I2 q2 fun H' s' I' q' => ⟨.non, H', I', rfl, q'⟩
end
end Ct

set_option Elab.async false
set_option linter.all false
set_option maxRecDepth 100000
set_option maxHeartbeats 2000000
/-! Own kit J: {e for x in xs}, e a tuple of keys. -/
namespace Ct
open PySem PySem.Spec PyProof.Rows L2 PpSet
section
variable {X : Cx}
/-- the turns of {e for x in it}, D the new set -/
def tKSc (K : PySem.W.Frag) (P : Program) (w : World) (wi : TI) (g : TG) (te : TE) (vs : List Nat) : TE := fun σ H Q => wi σ H fun J H1 => ∀ D, H1 D = none → ∃ W : Nat → Nat → Hp → Prop, (∃ m, W 0 m (upd H1 D (KSetO P w D []))) ∧ ∀ i m H, W i m H →
  (J.stop i H ∧ Q (.ref D) H) ∨ (J.go i H ∧ ∃ Nx : Hp → Prop, (∀ H', Nx H' → ∃ m', m' < m ∧ W (i + 1) m' H') ∧ ∀ x H', J.yld i H x H' → g x (wipe σ vs) H' fun σ2 H2 => wipe σ2 vs = wipe σ vs ∧
    te σ2 H2 fun y H4 => ∃ b, y = .ref b ∧ rKAdd K P w D b H4 Nx)
theorem ksc_core {pins : List (Addr × Obj)} {s : Shared} {σ : L2.St} {H : Hp} {Q : VK} {elt tg iter : Expr} {scope : Scope} {own : List (PySem.Str × Nat)} {pos pos' : Pos} {wi : TI} {g : TG} {te : TE} {use : Option (Value → Sem Unit)} {Qf : Value → Shared → Prop}
    (hu : X.A.units + 64 < cLine) (hc : X.calm = true) (hN : X.N.Nodup) (I : Inv X pins σ H s) (hi : PI X tg iter wi) (ok : BlkOk X.N X.env.scope scope own)
    (hg : ∀ (s : Shared) (H : Hp) (C : Addr) (cl : List (PySem.Str × Addr)) (fp : List Addr), PG (X.blk s H scope (compEnvC scope cl C X.env) fp) tg g)
    (he : ∀ (s : Shared) (H : Hp) (C : Addr) (cl : List (PySem.Str × Addr)) (fp : List Addr), PE (X.blk s H scope (compEnvC scope cl C X.env) fp) elt te) (hs : ∀ x, foldedSetIterable iter X.env x = pure x)
    (h : tKSc X.K X.prog X.w wi g te (own.map (·.2)) σ H Q)
    (hRR : ∀ D C s' m H', Inv X pins σ H' s' → Q (.ref D) H' → s'.heap.Ns C m → FpOk X pins H' C → compPost (model X.prog X.w) X.A X.xe use Qf (.ref D) C (.ok .next) s') :
    wpAny (model X.prog X.w) X.A (comprehension (.SetComp elt [⟨tg, iter, [], 0⟩] scope pos) scope X.env pos' (newSet (.type "set")) false (eval iter X.env) use) Qf X.xe s := by
  have free : ∀ y ∈ scope.names, y.2 = .free → ∃ c, X.env.cells.lookup y.1 = some c := fun y hy e => (ok.free y hy e).elim (fun k => I.ok.has _ (.inl k)) (fun k => I.ok.has _ (.inr k))
  refine wpAny_comprehension_free (use := use) rfl hs (closure_ok free) ok.kind (fun y hy e => by rw [ok.uniq y hy, e])
    (thn (hi.run pins s σ H _ I h) fun xv s1 hx => thn hx fun itv s2 h2 => ?_)
  obtain ⟨it, fp, tn, J, H2, rfl, I2, T, st2, f2, q⟩ := h2
  refine newSet_ok (newEnv_comp ?_)
  generalize hD : s2.heap.objs.size = D
  obtain ⟨W, ⟨m0, w0⟩, turn⟩ := q D (I2.hok.fresh (Nat.le_of_eq hD))
  generalize hs3 : ({ s2 with heap := s2.heap.push { cls := .type "set", dict := none, data := .set #[] 0 (.fresh 0 0 (!X.w.params.followText "set-order")) } } : Shared) = s3
  have h3 : s3.heap = s2.heap.push { cls := .type "set", dict := none, data := .set #[] 0 (.fresh 0 0 (!X.w.params.followText "set-order")) } := by rw [← hs3]
  have I3 : Inv X pins σ (upd H2 D (KSetO X.prog X.w D [])) s3 := by
    rw [← hs3, ← hD]
    exact I2.laid (t' := s2.toks) (fun b o e => Heap.get?_push_of_some _ e) (Nat.le_refl _) (kset_new (kset_fresh (Heap.get?_push_size _ rfl)))
  have kp3 : ∀ b ∈ fp, ∀ o, s2.heap.get? b = some o → s3.heap.get? b = some o := fun b _ o e => by rw [h3]; exact Heap.get?_push_of_some _ e
  have st3 : tn 0 s3.heap := T.keep _ _ _ st2 kp3
  have f3 : ∀ b ∈ fp, FpOk X pins (upd H2 D (KSetO X.prog X.w D [])) b ∧ b < s3.heap.objs.size := fun b hb => by
    obtain ⟨o, e, _⟩ := T.obj _ _ st2 b hb
    have lt : b < s2.heap.objs.size := Heap.lt_size e
    exact ⟨⟨by rw [upd_ne (by rw [← hD]; exact Nat.ne_of_lt lt)]; exact (f2 b hb).1, (f2 b hb).2⟩, by rw [h3, Heap.size_push]; exact Nat.lt_succ_of_lt lt⟩
  have I4 := block_start I3 ok hN f3
  have pg := hg s3 (upd H2 D (KSetO X.prog X.w D [])) s3.heap.objs.size (cellsFrom (s3.heap.objs.size + 1) scope.names (cloFrom X.env.cells scope.names [])) fp
  have pe := he s3 (upd H2 D (KSetO X.prog X.w D [])) s3.heap.objs.size (cellsFrom (s3.heap.objs.size + 1) scope.names (cloFrom X.env.cells scope.names [])) fp
  show codeAny _ _ (.compStart (.SetComp elt [⟨tg, iter, [], 0⟩] scope pos) 0 (.ref it) (.ref D) (compEnvC scope (cellsFrom (s3.heap.objs.size + 1) scope.names (cloFrom X.env.cells scope.names [])) s3.heap.objs.size X.env)) (compPost (model X.prog X.w) X.A X.xe use Qf (.ref D) s3.heap.objs.size) { s3 with heap := pushCells (s3.heap.push { cls := .type "dict", data := .dict #[] }) scope.names }
  generalize hce : compEnvC scope (cellsFrom (s3.heap.objs.size + 1) scope.names (cloFrom X.env.cells scope.names [])) s3.heap.objs.size X.env = ce at I4 pg pe ⊢
  have cL : ce.locals = s3.heap.objs.size := by subst hce; rfl
  have nfp : ∀ b ∈ fp, (upd H2 D (KSetO X.prog X.w D [])) b = none := fun b hb => (f3 b hb).1.1
  generalize upd H2 D (KSetO X.prog X.w D []) = H3 at I3 I4 pg pe w0 nfp f3
  generalize hs4 : ({ s3 with heap := pushCells (s3.heap.push { cls := .type "dict", data := .dict #[] }) scope.names } : Shared) = s4 at I4 ⊢
  have st4 : tn 0 s4.heap := T.keep _ _ _ st3 fun b _ o e => by rw [← hs4]; exact pushCells_keeps _ _ _ _ (Heap.get?_push_of_some _ e)
  have foot : ∀ {σ' : L2.St} {H' : Hp} {s' : Shared}, Inv (X.blk s3 H3 scope ce fp) [] σ' H' s' → (∀ b ∈ fp, H' b = none) → ∀ b ∈ fp, FpOk (X.blk s3 H3 scope ce fp) [] H' b := fun {σ' H' s'} I' hn b hb =>
    ⟨hn b hb, (I'.ok.exf b hb).1, I'.ok.exfs b hb, .inl hb, fun x c e => (I'.ok.exf b hb).2 x c e, fun p hp => absurd (show p ∈ ([] : List (Addr × Obj)) ++ [] from hp) (by simp)⟩
  have loop : codeAny (model X.prog X.w) X.A (.compLoop (.SetComp elt [⟨tg, iter, [], 0⟩] scope pos) 0 (.ref it) (.ref D) ce) (compPost (model X.prog X.w) X.A X.xe use Qf (.ref D) s3.heap.objs.size) s4 := by
    refine compLoopS_any (fun n s' => ∃ i H', Inv (X.blk s3 H3 scope ce fp) [] (wipe σ (own.map (·.2))) H' s' ∧ tn i s'.heap ∧ (∀ b ∈ fp, H' b = none) ∧ W i n H') ?_ m0 ⟨0, H3, I4, st4, nfp, w0⟩
    rintro n s5 ⟨i, H5, I5, st5, n5, w5⟩
    rcases turn i n H5 w5 with ⟨stop, qq⟩ | ⟨go, Nx, hNx, step⟩
    · refine thnF (T.done (X.blk s3 H3 scope ce fp) rfl rfl rfl hc i [] s5 _ H5 (fun _ _ => False) I5 (foot I5 n5) st5 stop) fun r s6 ⟨hr, I6⟩ => ?_
      subst hr
      have I7 : Inv X pins σ H5 s6 := I3.call' (ch := fp) I6.os I6.base I6.hok I6.bare fun b hb => ⟨(f3 b hb).1.2.2.2.1, (f3 b hb).1.2.1, (f3 b hb).1.2.2.2.2.1, (f3 b hb).1.2.2.2.2.2⟩
      have nC : H5 s3.heap.objs.size = none := cL ▸ (I6.free : H5 ce.locals = none)
      obtain ⟨m, hn, _⟩ := I6.loc
      exact hRR D s3.heap.objs.size s6 m H5 I7 qq (cL ▸ (hn : s6.heap.Ns ce.locals m)) (I3.fpOk (Nat.le_refl _) nC)
    · refine thnF (T.item (X.blk s3 H3 scope ce fp) rfl rfl rfl hc i [] s5 _ H5 (fun _ _ => False) I5 (foot I5 n5) st5 go) fun r s6 ⟨u, hr, h6⟩ => ?_
      subst hr
      refine thnF h6 fun _ s7 ⟨x, H7, I7, r7, y7, st7, n7⟩ => ?_
      refine thnF (pg.run _ s7 _ H7 x u _ (I7.pinned (foot I7 n7) (T.obj _ _ st7)) r7 (step x H7 y7)) fun _ s8 ⟨σ8, H8, I8, hw8, q8⟩ => ?_
      have fin : ∀ {s' : Shared} {H' : Hp}, Inv (X.blk s3 H3 scope ce fp) ([] ++ pinsAt fp s7.heap) σ8 H' s' → Nx H' → ∃ m, m < n ∧ ∃ i H', Inv (X.blk s3 H3 scope ce fp) [] (wipe σ (own.map (·.2))) H' s' ∧ tn i s'.heap ∧ (∀ b ∈ fp, H' b = none) ∧ W i m H' := fun {s' H'} I' nx => by
        obtain ⟨m', hm, w'⟩ := hNx H' nx
        have pin' : ∀ b ∈ fp, ∀ o, s7.heap.get? b = some o → s'.heap.get? b = some o ∧ H' b = none := fun b hb o e =>
          let z := I'.pin (b, o) (List.mem_append_right _ (List.mem_append_right _ (mem_pinsAt hb e)))
          ⟨z.1, z.2.1⟩
        refine ⟨m', hm, i + 1, H', (I'.unpinned (pins := [])).weak (by rw [← hw8, wipe_length]) (fun j v e => ?_), T.keep _ _ _ st7 fun b hb o e => (pin' b hb o e).1, fun b hb => ?_, w'⟩
        · rw [← hw8] at e
          exact (wipe_some e).1
        · obtain ⟨o, e, _⟩ := T.obj _ _ st7 b hb
          exact (pin' b hb o e).2
      show wpAny _ _ (pure true) _ _ s8
      refine wpAny_pure ?_
      simp only [if_true]
      refine thnF (pe.run _ s8 σ8 H8 _ I8 q8) fun z s10 ⟨yv, H10, I10, r10, b, ey, ad⟩ => ?_
      subst ey
      cases (show z = Value.ref b from r10)
      exact kadd (X := X.blk s3 H3 scope ce fp) hu I10 ad fun H' s' I' nx => fin I' nx
  exact codeAny_compStart_set loop (T.self X.A 0 _ _ _ st4 loop)
/-- as a value -/
theorem pe_ksc {elt tg iter : Expr} {scope : Scope} {own : List (PySem.Str × Nat)} {pos : Pos} {wi : TI} {g : TG} {te : TE} (hu : X.A.units + 64 < cLine) (hc : X.calm = true) (hN : X.N.Nodup) (hi : PI X tg iter wi) (ok : BlkOk X.N X.env.scope scope own)
    (hg : ∀ (s : Shared) (H : Hp) (C : Addr) (cl : List (PySem.Str × Addr)) (fp : List Addr), PG (X.blk s H scope (compEnvC scope cl C X.env) fp) tg g)
    (he : ∀ (s : Shared) (H : Hp) (C : Addr) (cl : List (PySem.Str × Addr)) (fp : List Addr), PE (X.blk s H scope (compEnvC scope cl C X.env) fp) elt te) (hs : ∀ x, foldedSetIterable iter X.env x = pure x := by intro _; rfl) :
    PE X (.SetComp elt [⟨tg, iter, [], 0⟩] scope pos) (tKSc X.K X.prog X.w wi g te (own.map (·.2))) := by
  refine ⟨fun pins s σ H Q I h => ?_⟩
  rw [eval_SetComp]
  refine ksc_core hu hc hN I hi ok hg he hs h fun D C s' m H' I' q hn f => ⟨m, hn, fun h'' sb => ?_⟩
  obtain ⟨f0, f1, f2, f3, f4, f5⟩ := f
  exact ⟨.ref D, H', I'.turned (t' := s'.toks) (fun b o hb e => (sb.2 b hb).trans e) f0 f1 f3 f4 f5, rfl, q⟩
/-- y = {e for x in xs} -/
theorem ps_setKsc {i : Nat} {y : PySem.Str} {py : Pos} {elt tg iter : Expr} {scope : Scope} {own : List (PySem.Str × Nat)} {pos spos : Pos} {wi : TI} {g : TG} {te : TE} (hu : X.A.units + 64 < cLine) (hc : X.calm = true) (hN : X.N.Nodup) (hy : X.N[i]? = some y) (hyl : X.env.scope.names.lookup y = some .local)
    (hsw : swapsWith (.SetComp elt [⟨tg, iter, [], 0⟩] scope pos) (some (.Name y py)) spos.line X.env = pure true) (hi : PI X tg iter wi) (ok : BlkOk X.N X.env.scope scope own)
    (hg : ∀ (s : Shared) (H : Hp) (C : Addr) (cl : List (PySem.Str × Addr)) (fp : List Addr), PG (X.blk s H scope (compEnvC scope cl C X.env) fp) tg g)
    (he : ∀ (s : Shared) (H : Hp) (C : Addr) (cl : List (PySem.Str × Addr)) (fp : List Addr), PE (X.blk s H scope (compEnvC scope cl C X.env) fp) elt te) (hs : ∀ x, foldedSetIterable iter X.env x = pure x := by intro _; rfl) :
    PS X (.Assign [.Name y py] (.SetComp elt [⟨tg, iter, [], 0⟩] scope pos) spos) (tAsg (tKSc X.K X.prog X.w wi g te (own.map (·.2))) (gName i)) := by
  refine ⟨fun pins s σ H D I h => ?_⟩
  rw [exec_Assign_Name_used _ _ _ _ hsw]
  refine wpAny_bind (wpAny_standAt (wpAny_bind ?_))
  show wpAny _ X.A (do let _ ← comprehension (.SetComp elt [⟨tg, iter, [], 0⟩] scope pos) scope X.env (firstIterPos [⟨tg, iter, [], 0⟩] pos) (newSet (.type "set")) false (eval iter X.env) (some (assign (.Name y py) X.env))) _ _ s
  have q : tKSc X.K X.prog X.w wi g te (own.map (·.2)) σ H (fun x H1 => gName i x σ H1 D.nx) := h
  refine wpAny_bind (thn (ksc_core (Qf := fun _ s' => SP X pins D .next s') hu hc hN I hi ok hg he hs q fun L C s' m H' I' q hn f => ?_) fun _ s' hq => wpAny_pure (wpAny_pure hq))
  show wpAny _ _ (assign (.Name y py) X.env (.ref L)) _ _ _
  refine wpAny_assign_Name (store_ok2 (v := V.ref L) I' hN hy (.inl hyl) rfl (fun s2 I2 ⟨a, sb, ha⟩ => ?_) (.inr hyl))
  obtain ⟨f0, f1, f2, f3, f4, f5⟩ := f
  have ne : C ≠ a := ha.elim (fun z => z ▸ f1) (fun z e => f4 y a z e.symm)
  exact ⟨m, hn.sameBut sb ne, fun h3 sb3 => ⟨_, H', I2.turned (t' := s2.toks) (fun b o hb e => (sb3.2 b hb).trans e) f0 f1 f3 f4 f5, q⟩⟩
theorem sw_setc {elt : Expr} {gs : List Comprehension} {scope : Scope} {pos py : Pos} {y : PySem.Str} {l : Nat} {env : Env} (hk : env.scope.kind = .function) (hy : env.scope.names.lookup y = some .local) (hl : (py.line == pos.line) = true)
    (ha : (scope.names.any fun (n, k) => n == y && (k == .local || k == .cell)) = false) : swapsWith (.SetComp elt gs scope pos) (some (.Name y py)) l env = pure true := by
  have ky : env.kindOf y = some .local := hy
  have hb : env.blockKind = .function := by unfold Env.blockKind; rw [hk]; rfl
  unfold swapsWith
  simp only [hb, ky, ha, Expr.pos, hl]
  rfl
end
end Ct

set_option Elab.async false
set_option linter.all false
set_option maxRecDepth 100000
set_option maxHeartbeats 4000000
/-! Own kit K: set(xs) of any number of texts and ints, its len. -/
namespace Ct
open PySem PySem.Spec PyProof.Rows L2
/-- how many of the first i are new -/
def cnt (ks : List Key) : Nat → Nat
  | 0 => 0
  | i + 1 => cnt ks i + (if (ks.take i).any (fun j => decide (j = ks.getD i (.inl 0))) = true then 0 else 1)
theorem cnt_le (ks : List Key) : ∀ i, cnt ks i ≤ i
  | 0 => Nat.le_refl _
  | i + 1 => by
    have := cnt_le ks i
    unfold cnt
    split <;> omega
theorem any_mem {ks : List Key} {k : Key} : ks.any (fun j => decide (j = k)) = true ↔ k ∈ ks := by
  rw [List.any_eq_true]
  exact ⟨fun ⟨j, hj, e⟩ => (of_decide_eq_true e) ▸ hj, fun h => ⟨k, h, decide_eq_true rfl⟩⟩
theorem take_next' {ks : List Key} {i : Nat} (h : i < ks.length) : ks.take (i + 1) = ks.take i ++ [ks.getD i (.inl 0)] := by
  rw [List.take_succ, List.getElem?_eq_getElem h, List.getD_eq_getElem?_getD, List.getElem?_eq_getElem h]; rfl
theorem cnt_eq (ks : List Key) : ∀ i, i ≤ ks.length → (cnt ks i = i ↔ (ks.take i).Nodup)
  | 0, _ => by simp [cnt]
  | i + 1, hi => by
    have ih := cnt_eq ks i (Nat.le_of_lt hi)
    have le := cnt_le ks i
    rw [take_next' hi, List.nodup_append]
    unfold cnt
    by_cases c : ks.getD i (.inl 0) ∈ ks.take i
    · rw [if_pos (any_mem.mpr c)]
      exact ⟨fun z => by omega, fun z => absurd rfl (z.2.2 _ c _ (List.mem_singleton.mpr rfl))⟩
    · rw [if_neg (fun z => c (any_mem.mp z))]
      constructor
      · intro z
        refine ⟨ih.mp (by omega), List.nodup_cons.mpr ⟨by simp, List.nodup_nil⟩, fun a ha b hb e => ?_⟩
        rw [List.mem_singleton.mp hb] at e
        exact c (e ▸ ha)
      · intro z
        have := ih.mpr z.1
        omega
section
variable {prog : Program} {w : World} {A : Around} {R : Result → Shared → Prop} {I : Addr} {fp wr : List Addr} {G : Array GenState → Array GenState → Prop} {n : Nat} {P : Nat → Value → Prop} {St : Nat → Shared → Prop}
theorem set_turns (W : WalksS prog w A.in1 I fp wr G n P St) (S : Addr) (hS : S ∉ fp) (ks : List Key) (hn : ks.length = n) (hb : n < scanBound) (hv : ∀ i v, P i v → (mixKind prog w).is (ks.getD i (.inl 0)) v = true) :
    ∀ (j i : Nat) (s : Shared), n - i = j → i ≤ n → St i s → s.heap.SetOf (mixKind prog w) S (fun k => (ks.take i).any (fun j => decide (j = k))) (cnt ks i) →
      (∀ s', Moved (S :: wr) G s s' → s'.heap.SetOf (mixKind prog w) S (fun k => (ks.take n).any (fun j => decide (j = k))) (cnt ks n) → R (.ok (.ret .none)) s') →
      codeAny (model prog w) A (.builtin "set.update.loop" ⟨[.ref S, .ref I], []⟩) R s := by
  have hSw : S ∉ wr := fun h => hS (W.sub _ h)
  have sub : ∀ b ∈ wr, b ∈ S :: wr := fun b h => List.mem_cons_of_mem _ h
  intro j
  induction j with
  | zero =>
    intro i s hj hi st h0 q
    obtain rfl : i = n := by omega
    refine codeAny_builtin F.entry_set_update_loop ?_
    rw [Around.under_plainId F.plain_set_update_loop _]
    show wpAny _ A.in1 (pyNext (.ref I) >>= _) _ _ s
    refine wpAny_bind (W.done s _ _ st fun s' hm => ?_)
    show wpAny _ A.in1 (ret Value.none) _ _ s'
    exact wpAny_pure (q s' (hm.mono sub) (setOf_at h0 fun o e => hm.heap S o hSw e))
  | succ j ih =>
    intro i s hj hi st h0 q
    have lt : i < n := by omega
    refine codeAny_builtin F.entry_set_update_loop ?_
    rw [Around.under_plainId F.plain_set_update_loop _]
    show wpAny _ A.in1 (pyNext (.ref I) >>= _) _ _ s
    refine wpAny_bind (W.item i s _ _ lt st fun v s' hP st' hm => ?_)
    have kv := hv i v hP
    have sc : v.scannable = true := key_scan' kv
    have h1 := setOf_at h0 fun o e => hm.heap S o hSw e
    show wpAny _ A.in1 (holding [v] (setAdd S v) >>= _) _ _ s'
    refine wpAny_bind (wpAny_holding ?_)
    unfold setAdd
    refine wpAny_holding ?_
    refine wpAny_bind ((mixKind prog w).pyHash kv ?_)
    have room : cnt ks i + 1 < scanBound := by have := cnt_le ks i; omega
    refine wpAny_setAddHashed_of (knd := mixKind prog w) (s := { s' with toks := s'.toks + 1 }) kv sc h1 room fun h' sb h2 => ?_
    have h3 : h'.SetOf (mixKind prog w) S (fun k => (ks.take (i + 1)).any (fun j => decide (j = k))) (cnt ks (i + 1)) := by
      have e1 : (fun k => (ks.take (i + 1)).any (fun j => decide (j = k))) = fun k => (ks.take i).any (fun j => decide (j = k)) || decide (k = ks.getD i (.inl 0)) := by
        funext k
        rw [take_next' (by omega), List.any_append]
        congr 1
        simp only [List.any_cons, List.any_nil, Bool.or_false]
        exact decide_eq_decide.mpr eq_comm
      have e2 : cnt ks (i + 1) = if (ks.take i).any (fun j => decide (j = ks.getD i (.inl 0))) = true then cnt ks i else cnt ks i + 1 := by
        show cnt ks i + _ = _
        split <;> rfl
      rw [e1, e2]
      exact h2
    refine wpAny_pure ⟨plainId_quiet F.plain_set_update_loop _, ih (i + 1) _ (by omega) lt (W.frame _ s' _ _ st' (Nat.le_succ _) fun b hb o e => ?_) h3 fun s'' hm2 h4 => ?_⟩
    · rw [sb.2 b (fun h : b = S => hS (h ▸ hb))]; exact e
    · refine q s'' (Moved.trans W.gtrans ((hm.mono sub).then_heap (Nat.le_succ _) fun b o hb e => ?_) hm2) h4
      rw [sb.2 b (fun h : b = S => hb (h ▸ List.mem_cons_self))]; exact e
end
/-- what is asked of the walked thing: its type, what its iterator is -/
structure Walked (prog : Program) (w : World) (A : Around) (T : String) (IT : String) (ob : Obj) (l : Addr) (items : Array Value) : Prop where
  cls : ob.cls = .type T
  s1 : isSubtype (.type T) (.type "set") = pure false
  s2 : isSubtype (.type T) (.type "frozenset") = pure false
  nd : (Value.type T == Value.type "dict") = false
  iter : ∀ (A : Around) (E : Value → Shared → Prop) (s : Shared) (Q : Value → Shared → Prop), s.heap.get? l = some ob → Q (.ref s.heap.objs.size) { s with heap := s.heap.push { cls := .type IT, data := .fields #[.ref l, .int 0 0] } } → wpAny (model prog w) A (pyIter (.ref l)) Q E s
  walk : ∀ (A : Around), A.handled = none → ∀ it, l ≠ it → ∃ St : Nat → Heap → Prop, Walks prog w A it [it, l] [it] items.size (fun i v => items[i]? = some v) St ∧ ∀ h, h.get? l = some ob → h.get? it = some { cls := .type IT, data := .fields #[.ref l, .int 0 0] } → St 0 h
section
variable {prog : Program} {w : World} {A : Around} {E : Value → Shared → Prop} {s : Shared}
theorem set_call {T IT : String} {ob : Obj} {l : Addr} {items : Array Value} {ks : List Key} {Q : Value → Shared → Prop} (hh : A.handled = none) (Wk : Walked prog w A T IT ob l items) (hl : s.heap.get? l = some ob) (hn : ks.length = items.size) (hb : items.size < scanBound)
    (hv : ∀ i v, items[i]? = some v → (mixKind prog w).is (ks.getD i (.inl 0)) v = true)
    (h : ∀ (h' : Heap) (tk : Nat), h'.SetOf (mixKind prog w) s.heap.objs.size (fun k => ks.any (fun j => decide (j = k))) (cnt ks ks.length) →
      (∀ b o, b < s.heap.objs.size → s.heap.get? b = some o → h'.get? b = some o) → Q (.ref s.heap.objs.size) { s with heap := h', toks := tk }) :
    wpAny (model prog w) A (call (.type "set") [.ref l]) Q E s := by
  obtain ⟨c, tl, hmro⟩ := PySem.F.called_set.mro
  have hmade := PySem.F.called_set.made
  have hsub := PySem.F.called_set.sub
  refine wpAny_call (codeAny_of_tree ?_)
  show wpAny _ _ (callAny (.type "set") _) _ _ _
  refine wpAny_pure ⟨Code.quiet_builtin _ (by decide +kernel), codeAny_builtin PySem.F.entry_type_call ?_⟩
  rw [Around.under_plain (weight_type_call_type "set" [.ref l] []) rfl]
  have h1 := PySem.F.called_set.notType
  have h2 := PySem.F.called_set.canCreate
  have hct := PySem.F.typeCall_set_1 (.ref l)
  repeat (any_goals (first | assumption | wp_step))
  refine codeAny_mono (code_set_new_1 (.ref l) (E := E) (Q₁ := fun obj s₁ => ∃ led : Bool, obj = .ref s.heap.objs.size ∧ s₁ = { s with heap := s.heap.push { cls := .type "set", dict := none, data := .set #[] 0 (.fresh 0 0 led) } }) fun led => ⟨led, rfl, rfl⟩) fun r s₁ hr => ?_
  match r, hr with
  | .error e, hr => exact hr
  | .ok .next, hr => exact hr.elim
  | .ok .brk, hr => exact hr.elim
  | .ok .cont, hr => exact hr.elim
  | .ok (.ret obj), hr =>
    obtain ⟨led, rfl, rfl⟩ := hr
    have hS : (s.heap.push { cls := .type "set", dict := none, data := .set #[] 0 (.fresh 0 0 led) }).get? s.heap.objs.size = some { cls := .type "set", dict := none, data := .set #[] 0 (.fresh 0 0 led) } := Heap.get?_push_size _ rfl
    have hT : Shared.TypeIs { s with heap := s.heap.push { cls := .type "set", dict := none, data := .set #[] 0 (.fresh 0 0 led) } } (.ref s.heap.objs.size) "set" := ⟨_, hS, rfl⟩
    have hli := PySem.F.called_set.init.lookup
    have hbi := PySem.F.called_set.init.bind (.ref s.heap.objs.size)
    repeat (any_goals (first | assumption | wp_step))
    refine codeAny_mono (codeAny_call_builtin (R := wants (fun r s₂ => r = .none ∧ ∃ h' tk, s₂ = { s with heap := h', toks := tk } ∧
        h'.SetOf (mixKind prog w) s.heap.objs.size (fun k => ks.any (fun j => decide (j = k))) (cnt ks ks.length) ∧
        (∀ b o, b < s.heap.objs.size → s.heap.get? b = some o → h'.get? b = some o)) E) PySem.F.called_set.init.plain PySem.F.entry_set_init (check_set_init_1 hT ?_)) fun r₂ s₂ hr₂ => ?_
    · have hl1 : (s.heap.push { cls := .type "set", dict := none, data := .set #[] 0 (.fresh 0 0 led) }).get? l = some ob := Heap.get?_push_of_some _ hl
      have it := Wk.iter
      have wk := Wk.walk
      obtain ⟨ocls, odict, odata, oslots⟩ := ob
      have hcl := Wk.cls
      dsimp only at hcl
      subst hcl
      have hsls := Wk.s1
      have hslf := Wk.s2
      have hne := Wk.nd
      unfold Builtin.«set.__init__» noKeywords Builtin.Frozenset.updateFrom
      generalize hPI : pyIter = PI
      wp_walk
      subst hPI
      refine it _ _ _ _ hl1 ?_
      refine wpAny_bind (wpAny_runValue ?_)
      have hlS : l < s.heap.objs.size := Heap.lt_size hl
      have hneI : l ≠ (s.heap.push { cls := .type "set", dict := none, data := .set #[] 0 (.fresh 0 0 led) }).objs.size := by
        rw [Heap.size_push]; exact Nat.ne_of_lt (Nat.lt_succ_of_lt hlS)
      have hSf : s.heap.objs.size ∉ [(s.heap.push { cls := .type "set", dict := none, data := .set #[] 0 (.fresh 0 0 led) }).objs.size, l] := by
        rw [Heap.size_push]; simp only [List.mem_cons, List.not_mem_nil, or_false, not_or]
        exact ⟨Nat.ne_of_lt (Nat.lt_succ_self _), Nat.ne_of_gt hlS⟩
      obtain ⟨St, W, st0⟩ := wk A.in1.in1.in1 (by simp [hh]) _ hneI
      refine set_turns W.toS s.heap.objs.size hSf ks hn hb hv (items.size - 0) 0 _ rfl (Nat.zero_le _) (st0 _ (Heap.get?_push_of_some _ hl1) (Heap.get?_push_size _ rfl)) ?_ ?_
      · exact ⟨_, #[], 0, _, Heap.get?_push_of_some _ hS, ⟨rfl, rfl, rfl⟩, rfl, (fun e he => by simp at he), (fun k => by simp), (by decide), (by rfl), rfl⟩
      · intro s' hm hS'
        obtain ⟨h', g', d', tk', os'⟩ := s'
        have eg : g' = s.gens := hm.gens
        have ed : d' = s.drawn := hm.drawn
        have eo : os' = s.os := hm.os
        subst eg; subst ed; subst eo
        show wpAny _ _ _ _ _ _
        refine wpAny_pure ?_
        show wpAny _ _ (ret Value.none) _ _ _
        rw [← hn, List.take_length] at hS'
        refine wpAny_pure ⟨rfl, h', tk', rfl, hS', fun b o hb e => ?_⟩
        refine hm.heap b o ?_ (Heap.get?_push_of_some _ (Heap.get?_push_of_some _ e))
        simp only [List.mem_cons, List.not_mem_nil, or_false, not_or, Heap.size_push]
        exact ⟨Nat.ne_of_lt hb, Nat.ne_of_lt (Nat.lt_succ_of_lt hb)⟩
    · match r₂, hr₂ with
      | .error e, hr₂ => exact hr₂
      | .ok .next, hr₂ => exact hr₂.elim
      | .ok .brk, hr₂ => exact hr₂.elim
      | .ok .cont, hr₂ => exact hr₂.elim
      | .ok (.ret r), hr₂ =>
        obtain ⟨rfl, h', tk, rfl, hS', hk'⟩ := hr₂
        repeat (any_goals (first | assumption | wp_step))
        exact h _ _ hS' hk'
theorem walked_list {ob : Obj} {l : Addr} {items : Array Value} {n : Nat} (hc : ob.cls = .type "list") (hd : ob.data = .seq items n) : Walked prog w A "list" "list_iterator" ob l items where
  cls := hc
  s1 := PySem.F.sub_list_set
  s2 := PySem.F.sub_list_frozenset
  nd := by decide
  iter := fun A E s Q ho q => wpAny_pyIter_list ⟨ob, ho, hc, n, hd⟩ q
  walk := fun A hh it ne => ⟨_, Walks.list hh it l ne items, fun h h1 h2 => ⟨⟨_, h2, rfl, rfl⟩, ⟨ob, h1, hc, n, hd⟩⟩⟩
theorem walked_tup {ob : Obj} {l : Addr} {items : Array Value} {n : Nat} (hc : ob.cls = .type "tuple") (hd : ob.data = .seq items n) : Walked prog w A "tuple" "tuple_iterator" ob l items where
  cls := hc
  s1 := PySem.F.sub_tuple_set
  s2 := PySem.F.sub_tuple_frozenset
  nd := by decide
  iter := fun A E s Q ho q => wpAny_pyIter_tuple ⟨ob, ho, hc, n, hd⟩ q
  walk := fun A hh it ne => ⟨_, Walks.tuple hh it l ne items, fun h h1 h2 => ⟨⟨_, h2, rfl, rfl⟩, ⟨ob, h1, hc, n, hd⟩⟩⟩
end
section
variable {X : Cx}
/-- set(xs), xs a list or tuple of ints and texts -/
def rSetOf (K : PySem.W.Frag) (P : Program) (w : World) : List V → Hp → VK → Prop := fun xs H Q => ∃ (a : Addr) (ks : List Key), xs = [.ref a] ∧ (SqL K H a (ks.map kV) ∨ SqT K H a (ks.map kV)) ∧ ks.length < scanBound ∧
  ∀ p, H p = none → Q (.ref p) (upd H p (SetK P w p (fun k => ks.any (fun j => decide (j = k))) (cnt ks ks.length)))
theorem keys_at {P : Program} {w : World} {ks : List Key} {its : List Value} (r : Vals (ks.map kV) its) : ∀ (i : Nat) (v : Value), its.toArray[i]? = some v → (mixKind P w).is (ks.getD i (.inl 0)) v = true := fun i v e => by
  have e : its[i]? = some v := by simpa using e
  have hi : i < ks.length := by
    have h1 := (List.getElem?_eq_some_iff.mp e).1
    have h2 := r.length
    rw [List.length_map] at h2
    omega
  obtain ⟨u, e2, rv⟩ := r.get (i := i) (x := kV ks[i]) (by rw [List.getElem?_map, List.getElem?_eq_getElem hi]; rfl)
  rw [e] at e2
  cases e2
  rw [List.getD_eq_getElem?_getD, List.getElem?_eq_getElem hi]
  exact kV_is rv
theorem call_setOf (hc : X.calm = true) : CallR X (.type "set") (rSetOf X.K X.prog X.w) := by
  intro pins s σ H xs us Q I r h
  obtain ⟨a, ks, rfl, ha, hb, q⟩ := h
  obtain ⟨u, rfl, ru⟩ := vals1 r
  cases (show u = Value.ref a from ru)
  have hh := I.ok.hd hc
  have fin : ∀ (h' : Heap) (tk : Nat), h'.SetOf (mixKind X.prog X.w) s.heap.objs.size (fun k => ks.any (fun j => decide (j = k))) (cnt ks ks.length) →
      (∀ b o, b < s.heap.objs.size → s.heap.get? b = some o → h'.get? b = some o) → EP X pins σ Q (.ref s.heap.objs.size) { s with heap := h', toks := tk } := fun h' tk hS kp =>
    ⟨.ref _, _, I.laid (t' := tk) (fun b o e => kp b o (Heap.lt_size e) e) (Nat.le_refl _) (setK_new hS), rfl, q _ (I.hok.fresh (Nat.le_refl _))⟩
  rcases ha with ha | ha
  · obtain ⟨its, rv, pl, hz⟩ := I.list ha
    obtain ⟨ob, ho, hcl, n, hd⟩ := pl.isList
    have hl := rv.length
    rw [List.length_map] at hl
    exact set_call hh (walked_list hcl hd) ho (by rw [List.size_toArray]; exact hl) (by rw [List.size_toArray, ← hl]; exact hb) (keys_at rv) fin
  · obtain ⟨its, rv, ⟨ob, ho, hcl, n, hd⟩, hz⟩ := I.tuple ha
    have hl := rv.length
    rw [List.length_map] at hl
    exact set_call hh (walked_tup hcl hd) ho (by rw [List.size_toArray]; exact hl) (by rw [List.size_toArray, ← hl]; exact hb) (keys_at rv) fin
/-- len(s) -/
def rLenK (P : Program) (w : World) : List V → Hp → VK → Prop := fun xs H Q => ∃ (a : Addr) (S : Key → Bool) (n : Nat), xs = [.ref a] ∧ H a = some (SetK P w a S n) ∧ Q (.int n) H
theorem call_lenK : CallR X (.builtin "len") (rLenK X.prog X.w) := by
  intro pins s σ H xs us Q I r h
  obtain ⟨a, S, n, rfl, ha, q⟩ := h
  obtain ⟨u, rfl, ru⟩ := vals1 r
  cases (show u = Value.ref a from ru)
  obtain ⟨o, es, ep, t, ho, hex, hd, _, _, hb, hf, hn⟩ := setK_get I ha
  refine call_len_set ho hex hd hf (by unfold scanBound at hb; omega) ⟨.int n, H, I.tok _, ⟨_, by rw [hn]⟩, q⟩
end
end Ct

set_option Elab.async false
set_option linter.all false
set_option maxRecDepth 100000
set_option maxHeartbeats 4000000
/-! Own kit L: sorted of lists and tuples of texts, and of pairs of texts, any length. -/
namespace Ct
open PySem PySem.Spec PySem.Calls PyProof.Rows L2
section
variable {prog : Program} {w : World} {A : Around} {E : Value → Shared → Prop} {s : Shared}
theorem collect_tuple {l : Addr} {vs : List Value} {Q : List Value → Shared → Prop} (hl : s.heap.IsTuple l vs.toArray) (hz : vs.length ≤ sizeLine)
    (h : Q vs { s with heap := (s.heap.push (seqObj "list" #[] 0)).update s.heap.objs.size (Obj.mapSeq (· ++ vs.toArray)) }) : wpAny (model prog w) A (collect (.ref l)) Q E s := by
  obtain ⟨o, ho, hc, n, hd⟩ := id hl
  unfold collect
  refine wpAny_bind (wpAny_runValue (codeAny_builtin entry_proto_collect' ?_))
  show wpAny _ _ (do again (.builtin "list.__iadd__" ⟨[← newList [], .ref l], []⟩)) _ _ s
  refine wpAny_bind (wpAny_newList (wpAny_pure ⟨Code.quiet_builtin _ (by decide +kernel), codeAny_builtin entry_list_iadd' ?_⟩))
  show wpAny _ _ (Builtin.List.listExtendWith (.ref s.heap.objs.size) (.ref l) (.ref s.heap.objs.size)) _ _ { s with heap := s.heap.push (seqObj "list" #[] 0) }
  unfold Builtin.List.listExtendWith
  have ho' : (s.heap.push (seqObj "list" #[] 0)).get? l = some o := Heap.get?_push_of_some _ ho
  have hn := Heap.get?_push_size (h := s.heap) (o := seqObj "list" #[] 0) rfl
  refine wpAny_bind (wpAny_typeOf (T := "tuple") ⟨o, ho', hc⟩ ?_)
  rw [if_pos (by rw [show (Value.type "tuple" == Value.type "tuple") = true from rfl, Bool.or_true])]
  refine wpAny_bind (listItems_at ho' hd ?_)
  refine wpAny_bind (listItems_at (xs := #[]) (n := 0) hn rfl ?_)
  rw [if_neg (by simp)]
  refine wpAny_bind (listUpdate_at (xs := #[]) (n := 0) hn rfl ?_ (Nat.zero_le _) (by show (#[] ++ vs.toArray).size ≤ sizeLine + 1; simp only [Array.size_append, List.size_toArray, List.length_nil]; omega))
  refine wpAny_pure ?_
  show wpAny (model prog w) A (do
      let o ← load s.heap.objs.size
      match o.data with
      | .seq xs _ => pure xs.toList
      | _ => unsupported "internal:collect") Q E { s with heap := (s.heap.push (seqObj "list" #[] 0)).update s.heap.objs.size (Obj.mapSeq (· ++ vs.toArray)) }
  refine wpAny_bind (wpAny_load (get?_update_seq hn _) ?_)
  show wpAny _ _ (pure ((#[] : Array Value) ++ vs.toArray).toList) Q E _
  rw [show ((#[] : Array Value) ++ vs.toArray).toList = vs by simp]
  exact wpAny_pure h
variable {β : Type} {vs : List Value} {bs : List β} {enc : β → PyData} {R : Value → β → Prop}
/-- sorted(t), t a tuple -/
theorem sorted_tup {l : Addr} {Q : Value → Shared → Prop} (hl : s.heap.IsTuple l vs.toArray) (e : W.EachIs R vs bs) (er : W.EachIs (fun v b => ∃ as, Reads s.heap v (enc b) as) vs bs) (hal : W.AllAlike (bs.map enc)) (hk : W.Sortable (bs.map enc)) (hL : bs.length ≤ sizeLine)
    (hu : ∀ b, b ∈ bs → A.units + 2 + (enc b).depth < cLine) (h : ∀ out, out.length = bs.length → W.EachIs R out (bs.mergeSort (W.dataLe false enc)) → Q (.ref (s.heap.objs.size + 1)) { s with heap := sortedAll s.heap vs (List.toArray out) }) :
    wpAny (model prog w) A (call (.builtin "sorted") [.ref l]) Q E s := by
  have er' : W.EachIs (fun v b => ∃ as, Reads (W.sortingHeap (W.copyHeap s.heap vs) (s.heap.objs.size + 1) vs) v (enc b) as) vs bs := er.mono fun _ _ ⟨as, r⟩ => ⟨as, PyProof.Rows.Reads.keeps (fun _ _ => W.sorting_copy_old) r⟩
  have hL' : vs.length ≤ sizeLine := by rw [e.length]; exact hL
  refine call_function_entry_kw kind_sorted plain_sorted entry_sorted (args_sorted1 _) ?_
  unfold Builtin.«sorted»
  refine wpAny_bind (m := checkCount "sorted" 1 1 _) (wpAny_pure ?_)
  refine wpAny_bind (collect_tuple hl hL' ?_)
  refine wpAny_bind (wpAny_newList ?_ hL')
  have hsz : ((s.heap.push (seqObj "list" #[] 0)).update s.heap.objs.size (Obj.mapSeq (· ++ vs.toArray))).objs.size = s.heap.objs.size + 1 := by
    rw [Heap.size_update, size_push']
  show wpAny _ _ _ _ _ { s with heap := W.copyHeap s.heap vs }
  rw [hsz]
  refine wpAny_bind (wpAny_holding (wpAny_call_entry_kw slot_list_sort ⟨_, W.copyHeap_at s.heap vs, rfl⟩ entry_list_sort ?_ (args_list_sort _)))
  refine wpAny_mono (W.list_sort_vals (s := { s with heap := W.copyHeap s.heap vs }) (W.copyHeap_at s.heap vs) (W.SortsAt.data (s := { s with heap := W.sortingHeap (W.copyHeap s.heap vs) (s.heap.objs.size + 1) vs }) (W.each_map (R := fun v d => ∃ as, Reads (W.sortingHeap (W.copyHeap s.heap vs) (s.heap.objs.size + 1) vs) v d as) enc er') hal hk (W.bound_map hu)) hL'
    (P := fun f s' => f = .done (.ret .none) ∧ Q (.ref (s.heap.objs.size + 1)) s') ⟨rfl, h _ (by rw [W.sortVals_length false rfl]; exact e.length) (W.sortVals_data false e er' hal)⟩) (fun f s' hf => ?_) fun _ _ e => e
  obtain ⟨rfl, hq⟩ := hf
  exact ⟨_, rfl, wpAny_pure ⟨_, rfl, hq⟩⟩
end
section
variable {X : Cx}
/-- an item: the value, what it is as a datum -/
abbrev It2 := V × PyData
theorem each_vals {h : Heap} {K : PySem.W.Frag} : ∀ {bs : List It2} {us : List Value}, Vals (bs.map (·.1)) us → W.EachIs (fun v b => RelV b.1 v) us bs
  | [], _, .nil => .nil
  | _ :: _, _, .cons r t => .cons r (each_vals (h := h) (K := K) t)
theorem vals_each : ∀ {bs : List It2} {us : List Value}, W.EachIs (fun v b => RelV b.1 v) us bs → Vals (bs.map (·.1)) us
  | _, _, .nil => .nil
  | _, _, .cons r t => .cons r (vals_each t)
theorem each_reads {pins : List (Addr × Obj)} {σ : L2.St} {H : Hp} {s : Shared} (I : Inv X pins σ H s) : ∀ {bs : List It2} {us : List Value}, Vals (bs.map (·.1)) us → (∀ b ∈ bs, Dp X.K H b.1 b.2) → W.EachIs (fun v (b : It2) => ∃ as, Reads s.heap v b.2 as) us bs
  | [], _, .nil, _ => .nil
  | b :: _, _, .cons r t, h => .cons (Dp.reads I b.2 b.1 _ (h b List.mem_cons_self) r) (each_reads I t fun c hc => h c (List.mem_cons_of_mem _ hc))
/-- sorted(xs) -/
def rSortD (K : PySem.W.Frag) : List V → Hp → VK → Prop := fun xs H Q => ∃ (a : Addr) (bs : List It2), xs = [.ref a] ∧ (SqL K H a (bs.map (·.1)) ∨ SqT K H a (bs.map (·.1))) ∧ (∀ b ∈ bs, Dp K H b.1 b.2) ∧ W.AllAlike (bs.map (·.2)) ∧ W.Sortable (bs.map (·.2)) ∧ (∀ b ∈ bs, b.2.depth ≤ 50) ∧
  ∀ p, H p = none → Q (.ref p) (upd H p (.lst ((bs.mergeSort (W.dataLe false (·.2))).map (·.1))))
theorem call_sortD (hu : X.A.units + 64 < cLine) : CallR X (.builtin "sorted") (rSortD X.K) := by
  intro pins s σ H xs us Q I r h
  obtain ⟨a, bs, rfl, ha, hb, al, so, dp, q⟩ := h
  obtain ⟨u, rfl, ru⟩ := vals1 r
  cases (show u = Value.ref a from ru)
  have hu2 : ∀ b, b ∈ bs → X.A.units + 2 + b.2.depth < cLine := fun b m => by have := dp b m; omega
  have fin : ∀ (its : List Value), its.length ≤ sizeLine → ∀ out : List Value, out.length = bs.length → W.EachIs (fun v (b : It2) => RelV b.1 v) out (bs.mergeSort (W.dataLe false (·.2))) → bs.length ≤ sizeLine →
      EP X pins σ Q (.ref (s.heap.objs.size + 1)) { s with heap := sortedAll s.heap its (List.toArray out) } := fun its hz out hl eo hbl => by
    obtain ⟨ep, he⟩ := sortedAll_at s.heap its out.toArray
    refine ⟨.ref _, upd H (s.heap.objs.size + 1) (.lst ((bs.mergeSort (W.dataLe false (·.2))).map (·.1))), I.laid (t' := s.toks) (fun _ _ => sortedAll_old) (Nat.le_succ _) ⟨?_, out, ep, vals_each eo, he⟩, rfl, q _ (I.hok.fresh (Nat.le_succ _))⟩
    rw [List.length_map, List.length_mergeSort]
    exact hbl
  rcases ha with ha | ha
  · obtain ⟨its, rv, pl, hz⟩ := I.list ha
    have hl := rv.length
    rw [List.length_map] at hl hz
    exact W.sorted_data pl.isList (each_vals (h := s.heap) (K := X.K) rv) (each_reads I rv hb) al so hz hu2 fun out h1 h2 => fin its (by omega) out h1 h2 hz
  · obtain ⟨its, rv, pl, hz⟩ := I.tuple ha
    have hl := rv.length
    rw [List.length_map] at hl hz
    exact sorted_tup (show s.heap.IsTuple a its.toArray from pl) (each_vals (h := s.heap) (K := X.K) rv) (each_reads I rv hb) al so hz hu2 fun out h1 h2 => fin its (by omega) out h1 h2 hz
end
/-- texts -/
def txs (xs : List Str) : List It2 := xs.map fun x => (.str x, .str x)
theorem txs_fst (xs : List Str) : (txs xs).map (·.1) = xs.map V.str := by unfold txs; rw [List.map_map]; rfl
theorem txs_snd (xs : List Str) : (txs xs).map (·.2) = xs.map PyData.str := by unfold txs; rw [List.map_map]; rfl
theorem txs_ok (xs : List Str) : W.AllAlike ((txs xs).map (·.2)) ∧ W.Sortable ((txs xs).map (·.2)) := by
  rw [txs_snd]
  exact ⟨W.AllAlike.of fun _ _ => by simp [W.alike], W.Sortable.others fun b => ⟨by simp, by simp⟩⟩
/-- pairs of texts, each at its place -/
def prs (ps : List (Addr × Str × Str)) : List It2 := ps.map fun p => (.ref p.1, .tuple [.str p.2.1, .str p.2.2])
theorem prs_fst (ps : List (Addr × Str × Str)) : (prs ps).map (·.1) = ps.map fun p => V.ref p.1 := by unfold prs; rw [List.map_map]; rfl
theorem prs_ok (ps : List (Addr × Str × Str)) : W.AllAlike ((prs ps).map (·.2)) ∧ W.Sortable ((prs ps).map (·.2)) := by
  unfold prs
  rw [List.map_map]
  exact ⟨W.AllAlike.of (enc := fun p : Addr × Str × Str => PyData.tuple [.str p.2.1, .str p.2.2]) fun _ _ => by simp [W.alike, W.alikeAll], W.Sortable.tuples (enc := fun p : Addr × Str × Str => PyData.tuple [.str p.2.1, .str p.2.2]) fun b => ⟨_, _, rfl⟩⟩
end Ct

set_option Elab.async false
set_option linter.all false
set_option maxRecDepth 100000
set_option maxHeartbeats 4000000
/-! Own kit M: enumerate over a tuple; walks over a list or a tuple; a datum among texts; types of data. -/
namespace Ct
open PySem PySem.Spec PyProof.Rows L2
theorem meets_enumT (l : Addr) (items : Array Value) (n : Nat) (dct : Option Addr) (sl : Array (Option Value)) :
    Meets (Builtin.«enumerate.__new__» ⟨[.type "enumerate", .ref l], []⟩) (fun _ R s => s.heap.get? l = some { cls := .type "tuple", dict := dct, data := .seq items n, slots := sl } ∧
      R (.ok (.ret (.ref (s.heap.push { cls := .type "tuple_iterator", data := .fields #[.ref l, .int 0 0] }).objs.size)))
        { s with heap := (s.heap.push { cls := .type "tuple_iterator", data := .fields #[.ref l, .int 0 0] }).push { cls := .type "enumerate", data := .fields #[.none, .bool false, .ref s.heap.objs.size, rawInt 0, .none, .none] } }) :=
  .of_wp fun prog w A R s h => by
    obtain ⟨hp, g, d, tk, os⟩ := s; obtain ⟨hl, h⟩ := h
    have hsub := sub_enumerate
    have hL : Heap.IsTuple (Shared.heap ⟨hp, g, d, tk, os⟩) l items := ⟨_, hl, rfl, n, rfl⟩
    wp_walk using AutoSeq1.wpAny_loadPart' hl
    refine wpAny_stack_any fun st => wpAny_pure ?_
    split
    · rename_i c _ _ _ _ _
      cases (c == Value.type "enumerate")
      · wp_walk using AutoSeq1.wpAny_loadPart' hl, wpAny_pyIter_tuple hL
        exact ⟨_, rfl, h⟩
      · wp_walk using AutoSeq1.wpAny_loadPart' hl, wpAny_pyIter_tuple hL
        exact ⟨_, rfl, h⟩
    · wp_walk using AutoSeq1.wpAny_loadPart' hl, wpAny_pyIter_tuple hL
      exact ⟨_, rfl, h⟩
section
variable {prog : Program} {w : World} {A : Around} {E : Value → Shared → Prop} {s : Shared}
theorem call_enumT {l : Addr} {items : Array Value} {Q : Value → Shared → Prop} (hL : s.heap.IsTuple l items)
    (h : ∀ h', IsEnum h' (s.heap.objs.size + 1) s.heap.objs.size 0 .none → h'.IsTupleIter s.heap.objs.size l 0 →
      (∀ b o, s.heap.get? b = some o → h'.get? b = some o) → Q (.ref (s.heap.objs.size + 1)) { s with heap := h' }) :
    wpAny (model prog w) A (call (.type "enumerate") [.ref l]) Q E s := by
  obtain ⟨⟨c, dct, dt, sl⟩, hl, hc, n, hd⟩ := hL
  replace hc : c = .type "tuple" := hc
  replace hd : dt = .seq items n := hd
  subst hc hd
  refine callType_new F.called_enumerate (by decide) (F.typeCall_enumerate_1 _) (F.newCall_enumerate_1 _) (fun obj => F.args_object_init_2 obj _) F.entry_enumerate_new
    (meets_enumT l items n dct sl) ⟨hl, ?_⟩
  have hz : (s.heap.push { cls := .type "tuple_iterator", data := .fields #[.ref l, .int 0 0] }).objs.size = s.heap.objs.size + 1 := Heap.size_push ..
  show _ ∧ _
  rw [hz]
  have he : IsEnum ((s.heap.push { cls := .type "tuple_iterator", data := .fields #[.ref l, .int 0 0] }).push
      { cls := .type "enumerate", data := .fields #[.none, .bool false, .ref s.heap.objs.size, rawInt 0, .none, .none] }) (s.heap.objs.size + 1) s.heap.objs.size 0 .none := by
    have := Heap.get?_push_size (s.heap.push { cls := .type "tuple_iterator", data := .fields #[.ref l, .int 0 0] })
      (o := { cls := .type "enumerate", data := .fields #[.none, .bool false, .ref s.heap.objs.size, rawInt 0, .none, .none] }) rfl
    rw [hz] at this; exact this
  exact ⟨⟨_, he, rfl⟩, h _ he ⟨_, Heap.get?_push_of_some _ (Heap.get?_push_size _ rfl), rfl, rfl⟩ fun b o x => Heap.get?_push_of_some _ (Heap.get?_push_of_some _ x)⟩
end
/-- the tuple at a, each item in a new pair with its number -/
def Iet (K : PySem.W.Frag) (a : Addr) : It :=
  ⟨fun i H => ∃ (xs : List V) (x : V), SqT K H a xs ∧ xs[i]? = some x, fun i H v H' => ∃ T x, v = .ref T ∧ H T = none ∧ H' = upd H T (.tup [.int (i : Nat), x]) ∧ ∀ xs, SqT K H a xs → xs[i]? = some x, fun i H => ∃ xs : List V, SqT K H a xs ∧ xs.length ≤ i⟩
theorem turn_enumT {P : Program} {w : World} {K : PySem.W.Frag} {elts : List Expr} {kk : Nat} {tpos : Pos} (a e it : Addr) :
    Turn P w K (.Tuple elts kk tpos) (Iet K a) [e, it] e (fun i h => (∃ old, IsEnum h e it ((i : Nat) : Int) old) ∧ h.IsTupleIter it a i ∧ e ≠ it) where
  mem := by simp
  obj := fun i h st b hb => by
    obtain ⟨⟨old, he⟩, ⟨o, ho, hc, hd⟩, _⟩ := st
    rcases (show b = e ∨ b = it by simpa using hb) with rfl | rfl
    · exact ⟨_, he, fun v q => nomatch q⟩
    · exact ⟨o, ho, fun v q => by rw [hd] at q; cases q⟩
  keep := fun i h h' st k => let ⟨⟨old, he⟩, hi, hne⟩ := st; ⟨⟨old, k e (by simp) _ he⟩, hi.at fun o q => k it (by simp) o q, hne⟩
  item := by
    intro X hP hw hK hc i pins s σ H E I hf st hg
    subst hP hw hK
    obtain ⟨⟨old, he⟩, hit, hne⟩ := st
    obtain ⟨xs, x, hq, hx⟩ := hg
    obtain ⟨its, rv, p, hz⟩ := I.tuple hq
    obtain ⟨u, hu, ru⟩ := rv.get hx
    have p : s.heap.IsTuple a its.toArray := p
    have hel : e < s.heap.objs.size := Heap.lt_size he
    have hil : it < s.heap.objs.size := by obtain ⟨_, q, _⟩ := hit; exact Heap.lt_size q
    have ait : a ≠ it := by
      rintro rfl
      obtain ⟨o1, h1, h2, _⟩ := p
      obtain ⟨o2, h3, h4, _⟩ := hit
      rw [h1] at h3
      cases h3
      rw [h2] at h4
      exact absurd h4 (by decide)
    have ae : e ≠ a := by
      rintro rfl
      obtain ⟨o1, h1, h2, _⟩ := p
      have he' := he
      unfold IsEnum at he'
      rw [h1] at he'
      cases he'
      exact absurd (show Value.type "enumerate" = Value.type "tuple" from h2) (by decide)
    have hlt : i < its.toArray.size := by
      have := (List.getElem?_eq_some_iff.mp hu).1
      simpa using this
    refine wpAny_pyNext_enum_itemD (PySem.Draws.tuple (by simpa using I.ok.hd hc) it a ait its.toArray) he ⟨hit, p⟩ hlt hne (by simp [hne, ae]) fun x2 h' tk hx2 ho hst' hT hsz hk => ?_
    have ex2 : x2 = u := by
      have z : its[i]? = some x2 := by simpa using hx2
      rw [hu] at z
      exact (Option.some.inj z).symm
    subst ex2
    refine ⟨_, rfl, wpAny_letOwnedTupleGo_enum (s := { s with heap := h', toks := tk + 1 }) ho fun h'' he' sb => ?_⟩
    have hT2 : h''.get? s.heap.objs.size = some { cls := .type "tuple", data := .seq #[.int i tk, x2] } := (sb.2 _ (Nat.ne_of_gt hel)).trans hT
    have new : ObjOk X.prog X.w (upd H s.heap.objs.size (.tup [.int (i : Nat), x])) h'' s.heap.objs.size (.tup [.int (i : Nat), x]) :=
      ⟨by show 2 ≤ sizeLine; decide, [.int i tk, x2], .cons ⟨_, rfl⟩ (.cons ru .nil), ⟨_, hT2, rfl, _, rfl⟩⟩
    have I1 : Inv X pins σ (upd H s.heap.objs.size (.tup [.int (i : Nat), x])) { s with heap := h'', toks := tk + 1 } :=
      I.turnedNew (ch := [e, it]) (fun b ob hb q => (sb.2 b (fun z => hb (by simp [z]))).trans (hk b ob (fun z => hb (by simp [z])) (fun z => hb (by simp [z])) q)) hf (Nat.le_refl _) new
    refine ⟨.ref s.heap.objs.size, _, I1, rfl, ⟨_, x, rfl, I.hok.fresh (Nat.le_refl _), rfl, fun ys hy => by rw [I.tuple_inj hy hq]; exact hx⟩, ⟨⟨x2, ?_⟩, hst'.1.at fun o q => (sb.2 it (Ne.symm hne)).trans q, hne⟩, fun b hb => ?_⟩
    · have e1 : ((i + 1 : Nat) : Int) = (i : Int) + 1 := by omega
      rw [e1]; exact he'
    · have hb' : b < s.heap.objs.size := by
        rcases (show b = e ∨ b = it by simpa using hb) with z | z
        · rw [z]; exact hel
        · rw [z]; exact hil
      rw [upd_ne (Nat.ne_of_lt hb')]
      exact (hf b hb).1
  done := by
    intro X hP hw hK hc i pins s σ H E I hf st hg
    subst hP hw hK
    obtain ⟨⟨old, he⟩, hit, hne⟩ := st
    obtain ⟨xs, hq, hx⟩ := hg
    obtain ⟨its, rv, p, hz⟩ := I.tuple hq
    have p : s.heap.IsTuple a its.toArray := p
    obtain ⟨f0, f1, f2, f3, f4, f5⟩ := hf it (by simp)
    have hl := rv.length
    have hnone : its.toArray[i]? = none := by simp; omega
    unfold pyNext
    refine wpAny_bind (wpAny_attempt (wpAny_callSpecial?_slot (name := Str.ofString "__next__") ⟨_, he, rfl⟩ F.slot_enumerate_next
      (wpAny_call_entry F.slot_enumerate_next ⟨_, he, rfl⟩ F.entry_enumerate_next ?_ (F.args_enumerate_next_1 _))))
    show wpAny _ _ (field (.ref e) 2 >>= _) _ _ _
    refine wpAny_bind (wpAny_field he rfl (x := .ref it) rfl ?_)
    refine wpAny_bind (PySem.wpAny_nextOf_tuple_end (by simpa using I.ok.hd hc) hit p hnone fun h' x he' hx' => ?_)
    obtain ⟨o, ho, hcc⟩ := hx'
    refine wpAny_bind (wpAny_isInstance (T := "StopIteration") (b := true) ⟨o, ho, hcc⟩ isSubtype_stop ?_)
    exact wpAny_pure ⟨rfl, I.turned (t' := s.toks) (fun b o hb q => he' b o hb q) f0 f1 f3 f4 f5⟩
  self := fun A i s Q E st h => let ⟨⟨_, he⟩, _⟩ := st; wpAny_pyIter_enum he h
section
variable {X : Cx}
/-- enumerate of a list or of a tuple -/
def iEnumS (K : PySem.W.Frag) (ta : TA) : TI := fun σ H R => ta σ H fun vs H1 => ∃ a xs, vs = [.ref a] ∧ ((SqL K H1 a xs ∧ R (Ite K a) H1) ∨ (SqT K H1 a xs ∧ R (Iet K a) H1))
theorem pi_enumS {e : Expr} {ta : TA} {p pos tpos : Pos} {elts : List Expr} {kk : Nat} (hg : Gl X "enumerate") (hm : X.mg "enumerate" = none) (ha : PA X [e] ta) (hs : starEach [e] X.env = [(false, eval e X.env)] := by rfl) :
    PI X (.Tuple elts kk tpos) (.Call (.Name "enumerate" p) [e] [] pos) (iEnumS X.K ta) := by
  refine ⟨fun pins s σ H R I h => ?_⟩
  refine Call_ (ld_blt I hg hm boot_enumerate (PyProof.Rows.callWith_type1 (thn (ha.run pos pins s σ H _ I h) fun us s1 ⟨vs, H1, I1, r1, q1⟩ => ?_) hs rfl))
  obtain ⟨a, xs, ex, hq⟩ := q1
  subst ex
  obtain ⟨u, rfl, ru⟩ := vals1 r1
  cases (show u = Value.ref a from ru)
  have feet : ∀ b ∈ [s1.heap.objs.size + 1, s1.heap.objs.size], FpOk X pins H1 b := fun b hb => by
    have hle : s1.heap.objs.size ≤ b := by
      rcases (show b = s1.heap.objs.size + 1 ∨ b = s1.heap.objs.size by simpa using hb) with z | z
      · rw [z]; exact Nat.le_add_right _ _
      · rw [z]; exact Nat.le_refl _
    exact I1.fpOk hle (I1.hok.fresh hle)
  rcases hq with ⟨hq, q⟩ | ⟨hq, q⟩
  · obtain ⟨its, rv, p', hz⟩ := I1.list hq
    refine call_enumerate_list p'.isList fun h' he hit hsz hk => wpAny_pyIter_enum he ?_
    exact ⟨s1.heap.objs.size + 1, [s1.heap.objs.size + 1, s1.heap.objs.size], _, _, H1, rfl, I1.kept (t' := s1.toks) hk, turn_enum a (s1.heap.objs.size + 1) s1.heap.objs.size, ⟨⟨.none, he⟩, hit, Nat.succ_ne_self _⟩, feet, q⟩
  · obtain ⟨its, rv, p', hz⟩ := I1.tuple hq
    refine call_enumT (show s1.heap.IsTuple a its.toArray from p') fun h' he hit hk => wpAny_pyIter_enum he ?_
    exact ⟨s1.heap.objs.size + 1, [s1.heap.objs.size + 1, s1.heap.objs.size], _, _, H1, rfl, I1.kept (t' := s1.toks) hk, turn_enumT a (s1.heap.objs.size + 1) s1.heap.objs.size, ⟨⟨.none, he⟩, hit, Nat.succ_ne_self _⟩, feet, q⟩
/-- a walk over a list or a tuple -/
def iSeq (K : PySem.W.Frag) (tl : TE) : TI := fun σ H R => iList K tl σ H R ∨ iTup K tl σ H R
theorem pi_seq {tg l : Expr} {tl : TE} (hl : PE X l tl) : PI X tg l (iSeq X.K tl) :=
  ⟨fun pins s σ H R I h => h.elim ((pi_list hl).run pins s σ H R I) ((pi_tup hl).run pins s σ H R I)⟩
end
open L2 in
theorem walk_enumT {K : PySem.W.Frag} {a : Addr} {xs : List V} : Walk (Iet K a) xs.length (fun H => SqT K H a xs) (YPair (fun i => some (.int (i : Nat))) (fun i => xs[i]?)) :=
  ⟨fun i _ hi q => ⟨xs, xs[i], q, by simp [hi]⟩, fun _ q => ⟨xs, q, Nat.le_refl _⟩, fun i H v H' hi q y => by
    obtain ⟨T, x, rfl, hT, rfl, hx⟩ := y
    exact ⟨T, _, x, rfl, hT, rfl, rfl, hx xs q⟩⟩
end Ct

set_option Elab.async false
set_option linter.all false
set_option maxRecDepth 100000
set_option maxHeartbeats 4000000
/-! Own kit N: a datum among texts; isinstance of data; lists or tuples alike. -/
namespace Ct
open PySem PySem.Spec PyProof.Rows L2
/-- a list or a tuple -/
def SqS (K : PySem.W.Frag) (H : Hp) (a : Addr) (xs : List V) : Prop := SqL K H a xs ∨ SqT K H a xs
theorem SqS.same {K : PySem.W.Frag} {H H' : Hp} {a : Addr} {xs : List V} (s : Same H H') : SqS K H a xs → SqS K H' a xs
  | .inl h => .inl (s.seq h)
  | .inr h => .inr (same_t s h)
theorem units65 {k : Nat} {A : Around} (r : Room k A) : A.units + 65 < cLine := by have := r.un; omega
/-- the datum is one of the texts -/
def amid (d : PyData) (ns : List Str) : Bool := match d with
  | .str x => ns.any fun y => y == x
  | _ => false
theorem amid_str {x : Str} {ns : List Str} : amid (.str x) ns = true ↔ x ∈ ns := by
  unfold amid
  rw [List.any_eq_true]
  exact ⟨fun ⟨y, hy, e⟩ => (eq_of_beq e) ▸ hy, fun h => ⟨x, h, beq_self_eq_true x⟩⟩
section
variable {X : Cx} {pins : List (Addr × Obj)} {σ : L2.St} {H : Hp} {s : Shared}
/-- the items' answers -/
def amU (d : PyData) (u : Value) : Bool := match d, u with
  | .str x, .str y _ => y == x
  | _, _ => false
theorem amU_any (d : PyData) : ∀ {ns : List Str} {us : List Value}, Vals (ns.map V.str) us → us.any (amU d) = amid d ns
  | [], _, .nil => by cases d <;> rfl
  | n :: ns, u :: us, .cons r t => by
    obtain ⟨k, rfl⟩ := r
    rw [List.any_cons, amU_any d t]
    cases d <;> rfl
theorem amU_eq {A : Around} {K : PySem.W.Frag} (I : Inv X pins σ H s) (hu : A.units < cLine) {x : V} {v : Value} {d : PyData} (r : RelV x v) (h : Dp X.K H x d) : ∀ {ns : List Str} {us : List Value}, Vals (ns.map V.str) us → ∀ u ∈ us, SeqAt.EqAt A s u v (amU d u)
  | [], _, .nil => fun u hu => by cases hu
  | n :: ns, w :: us, .cons r0 t => fun u m => by
    rcases List.mem_cons.mp m with rfl | m
    · obtain ⟨k, rfl⟩ := r0
      cases h with
      | non => cases r; exact SeqAt.EqAt.str_none n k
      | bl b => cases r; exact SeqAt.EqAt.str_bool n k b
      | int i => obtain ⟨t2, rfl⟩ := r; exact SeqAt.EqAt.str_int n k i t2
      | str y => obtain ⟨t2, rfl⟩ := r; exact SeqAt.EqAt.str_str n k y t2
      | lst hs _ =>
        cases r
        obtain ⟨its, rv, pl, _⟩ := I.list hs
        exact SeqAt.EqAt.str_list n k pl.isList hu
      | tup hs _ =>
        cases r
        obtain ⟨its, rv, pl, _⟩ := I.tuple hs
        exact SeqAt.EqAt.str_tuple n k (show s.heap.IsTuple _ its.toArray from pl) hu
    · exact amU_eq (K := K) I hu r h t u m
/-- x in names, x a datum -/
def rAmid (K : PySem.W.Frag) (neg : Bool) : R2 := fun x y H Q => ∃ (d : PyData) (a : Addr) (ns : List Str), y = .ref a ∧ SqS K H a (ns.map V.str) ∧ Dp K H x d ∧ Q (.bl (if neg then !amid d ns else amid d ns)) H
theorem or_amid (hu : X.A.units + 64 < cLine) : OpR X (compareOp .In) (rAmid X.K false) := by
  intro pins s σ H x y v u Q I rx ry h
  obtain ⟨d, a, ns, rfl, ha, hd, q⟩ := h
  cases (show u = Value.ref a from ry)
  have hu1 : X.A.in1.units < cLine := by show X.A.units + 1 < _; omega
  rw [if_neg (by decide)] at q
  rcases ha with ha | ha
  · obtain ⟨its, rv, pl, hz⟩ := I.list ha
    refine SeqAt.in_listAt (amU d) pl.isList (fun w hw => amU_eq (K := X.K) I hu1 rx hd rv w (by simpa using hw)) ⟨.bl _, H, I, rfl, ?_⟩
    rw [show its.toArray.any (amU d) = its.any (amU d) by simp, amU_any d rv]
    exact q
  · obtain ⟨its, rv, pl, hz⟩ := I.tuple ha
    refine SeqAt.in_tupleAt (amU d) pl (fun w hw => amU_eq (K := X.K) I hu1 rx hd rv w (by simpa using hw)) ⟨.bl _, H, I, rfl, ?_⟩
    rw [show its.toArray.any (amU d) = its.any (amU d) by simp, amU_any d rv]
    exact q
theorem or_namid (hu : X.A.units + 64 < cLine) : OpR X (compareOp .NotIn) (rAmid X.K true) := by
  intro pins s σ H x y v u Q I rx ry h
  obtain ⟨d, a, ns, rfl, ha, hd, q⟩ := h
  cases (show u = Value.ref a from ry)
  have hu1 : X.A.in1.units < cLine := by show X.A.units + 1 < _; omega
  rw [if_pos rfl] at q
  rcases ha with ha | ha
  · obtain ⟨its, rv, pl, hz⟩ := I.list ha
    refine SeqAt.notIn_listAt (amU d) pl.isList (fun w hw => amU_eq (K := X.K) I hu1 rx hd rv w (by simpa using hw)) ⟨.bl _, H, I, rfl, ?_⟩
    rw [show its.toArray.any (amU d) = its.any (amU d) by simp, amU_any d rv]
    exact q
  · obtain ⟨its, rv, pl, hz⟩ := I.tuple ha
    refine SeqAt.notIn_tupleAt (amU d) pl (fun w hw => amU_eq (K := X.K) I hu1 rx hd rv w (by simpa using hw)) ⟨.bl _, H, I, rfl, ?_⟩
    rw [show its.toArray.any (amU d) = its.any (amU d) by simp, amU_any d rv]
    exact q
/-- the name of a datum's type -/
def dty : PyData → String
  | .none => "NoneType"
  | .bool _ => "bool"
  | .int _ => "int"
  | .str _ => "str"
  | .list _ => "list"
  | .tuple _ => "tuple"
  | .dict _ => "dict"
theorem kit_dq (I : Inv X pins σ H s) {v : V} {u : Value} {d : PyData} (r : RelV v u) (h : Dq X.K H v d) : ∃ P : Heap → Prop, PySem.W.KitX X.K u (.type (dty d)) P ∧ P s.heap ∧ u ≠ .builtin "__main__.__loader__#opaque" := by
  cases h with
  | non => cases r; exact ⟨_, PySem.W.kitx_none, True.intro, fun z => nomatch z⟩
  | bl b => cases r; exact ⟨_, PySem.W.kitx_bool, True.intro, fun z => nomatch z⟩
  | int i => obtain ⟨t, rfl⟩ := r; exact ⟨_, PySem.W.kitx_int, True.intro, fun z => nomatch z⟩
  | str x => obtain ⟨t, rfl⟩ := r; exact ⟨_, PySem.W.kitx_str, True.intro, fun z => nomatch z⟩
  | lst hs ha =>
    cases r
    obtain ⟨its, rv, pl, _⟩ := I.list hs
    obtain ⟨o, ho, hc, _⟩ := pl.isList
    exact ⟨_, PySem.W.kitx_list, ⟨o, ho, hc⟩, fun z => nomatch z⟩
  | tup hs ha =>
    cases r
    obtain ⟨its, rv, ⟨o, ho, hc, _⟩, _⟩ := I.tuple hs
    exact ⟨_, PySem.W.kitx_tuple, ⟨o, ho, hc⟩, fun z => nomatch z⟩
  | dic hs hk hv ha =>
    cases r
    obtain ⟨_, hy, vs, rkv, o, es, ep, ho, hx, hd, _⟩ := hs.ok I.hok
    exact ⟨_, PySem.W.kitx_dict, ⟨o, ho, hx.1⟩, fun z => nomatch z⟩
  | dicT hs hk hv ha =>
    cases r
    obtain ⟨_, hy, xs, rp, o, es, ep, ho, hx, hd, he, _⟩ := hs.ok I.hok
    exact ⟨_, PySem.W.kitx_dict, ⟨o, ho, hx.1⟩, fun z => nomatch z⟩
/-- isinstance(x, T), x a datum -/
def rIsD (K : PySem.W.Frag) : List V → Hp → VK → Prop := fun xs H Q => ∃ (x : V) (d : PyData) (T : String) (b : Bool), xs = [x, .ty T] ∧ Dq K H x d ∧ kitB (dty d) T = some b ∧ Q (.bl b) H
theorem call_isD : CallR X (.builtin "isinstance") (rIsD X.K) := by
  intro pins s σ H xs us Q I r h
  obtain ⟨x, d, T, b, rfl, hd, e, q⟩ := h
  obtain ⟨u1, u2, rfl, r1, r2⟩ := vals2 r
  cases (show u2 = Value.type T from r2)
  obtain ⟨P, Z, p, hx⟩ := kit_dq I r1 hd
  exact PySem.W.kia_one Z I.kIn p (kit_ty e) hx fun tk => ⟨.bl b, H, I.tok tk, rfl, q⟩
/-- isinstance(x, (list, tuple)), x a datum, the tuple just laid -/
def rIsDT (K : PySem.W.Frag) : List V → Hp → VK → Prop := fun xs H Q => ∃ (x : V) (tp : Addr) (d : PyData) (T1 T2 : String) (b1 b2 : Bool), xs = [x, .ref tp] ∧ H tp = some (.tup [.ty T1, .ty T2]) ∧ Dq K H x d ∧ kitB (dty d) T1 = some b1 ∧ kitB (dty d) T2 = some b2 ∧ Q (.bl (b1 || b2)) H
theorem call_isDT : CallR X (.builtin "isinstance") (rIsDT X.K) := by
  intro pins s σ H xs us Q I r h
  obtain ⟨x, tp, d, T1, T2, b1, b2, rfl, hT, hd, e1, e2, q⟩ := h
  obtain ⟨u1, u2, rfl, r1, r2⟩ := vals2 r
  cases (show u2 = Value.ref tp from r2)
  obtain ⟨P, Z, p, hx⟩ := kit_dq I r1 hd
  obtain ⟨_, its, rv, o, h1, h2, n, h3⟩ := (show ObjOk X.prog X.w H s.heap tp (.tup [.ty T1, .ty T2]) from I.hok tp _ hT)
  have e3 := ClsV.all (.cons (.ty T1) (.cons (.ty T2) .nil)) rv
  subst e3
  obtain ⟨oc, od, dt, sl⟩ := o
  simp only at h2 h3
  subst h2 h3
  refine PySem.W.kia_tup Z I.kIn p h1 (b := b1 || b2) ?_ hx fun tk => ⟨.bl (b1 || b2), H, I.tok tk, rfl, q⟩
  exact kitAny_cons (kit_ty e1) (fun z => by
    subst z
    exact kitAny_cons (kit_ty e2) (fun z => by subst z; exact kitAny_nil) (fun z => by rw [z]; rfl)) (fun z => by rw [z]; rfl)
end
theorem kit_str (d : PyData) : kitB (dty d) "str" = some (match d with | .str _ => true | _ => false) := by cases d <;> (show kitB _ "str" = _; dsimp only [dty]; decide +kernel)
theorem kit_list (d : PyData) : kitB (dty d) "list" = some (match d with | .list _ => true | _ => false) := by cases d <;> (show kitB _ "list" = _; dsimp only [dty]; decide +kernel)
theorem kit_tuple (d : PyData) : kitB (dty d) "tuple" = some (match d with | .tuple _ => true | _ => false) := by cases d <;> (show kitB _ "tuple" = _; dsimp only [dty]; decide +kernel)
end Ct

set_option Elab.async false
set_option linter.all false
set_option maxRecDepth 100000
set_option maxHeartbeats 4000000
/-! Own kit O: defs that raise, by bundle; own errors raised; objects made where something may be raised. -/
namespace Ct
open PySem PySem.Spec PyProof.Rows L2
/-- a def that may raise and keeps a promise -/
def HasR (P : Program) (w : World) (K : PySem.W.Frag) (mg : Str → Option Value) (base : Heap) (k : Nat) (nm : Str) (ps : List Str) (sp : Sp) : Prop :=
  ∃ f fd, mg nm = some (.ref f) ∧ PySem.W.keepIn K (.ref f) = true ∧ Binds K fd ps [] ∧ FnOk P w K mg base (L2.CX P w) k f fd ps sp
section
variable {P : Program} {w : World} {K : PySem.W.Frag} {mg : Str → Option Value} {base : Heap} {k : Nat} {nm : Str} {ps : List Str} {sp : Sp} {st : Stmt}
theorem hasR_of {N : List Str} (D : DFE K mg nm st ps) (S : FnScope N ps (defScope st)) (len : ∀ vs H Q E, sp vs H Q E → vs.length = ps.length)
    (body : ∀ (f : Addr) (cdv : Value) (A : Around) (outer : List Env) (s : Shared) (H : Hp) (vs : List V) (Q : VK) (E : XK), Room k (A.deeper (envOfC nm (defScope st) s.heap.objs.size f cdv)) → sp vs H Q E →
      ∃ t, PSs (cxOf (L2.CX P w) P w K mg base N nm (defScope st) f cdv A outer s H E) (defBody st) t ∧ t { nx := fun _ H' => Q .non H', rt := Q } (start N vs) H) : HasR P w K mg base (k + 1) nm ps sp := by
  obtain ⟨f, fd, F, g, b⟩ := D
  exact ⟨f, fd, g, F.kp, b, F.okX S len (body f)⟩
theorem HasR.mono {j : Nat} (h : HasR P w K mg base j nm ps sp) (l : j ≤ k) : HasR P w K mg base k nm ps sp := by
  obtain ⟨f, fd, g, kp, b, F⟩ := h
  exact ⟨f, fd, g, kp, b, F.mono l⟩
end
section
variable {X : Cx} {k j : Nat} {nm : Str} {ps : List Str} {sp : Sp} {e : Expr} {es : List Expr} {t : TA} {p pos : Pos} {W : WX}
/-- f(e, ..), what it raises is taken by W -/
theorem pe_hR (h : HasR X.prog X.w X.K X.mg X.base j nm ps sp) (tk : Takes X W) (hr : Room k X.A) (l : j ≤ k) (hg : Gl X nm) (ha : PA X (e :: es) t) (hdb : (nm == ("__debug__" : Str)) = false := by decide)
    (he : starEach (e :: es) X.env = (false, eval e X.env) :: starEach es X.env := by rfl) (hpl : (backTo pos (starEach es X.env)).any (·.1) = false := by rfl) : PE X (.Call (.Name nm p) (e :: es) [] pos) (tCallS sp (WE W) t) := by
  obtain ⟨f, fd, g, kp, b, F⟩ := h
  exact pe_callS F (hr.mono l) hg g kp b (fun σ => passAt tk σ) ha hdb he hpl
/-- f(e, ..), nothing raised -/
theorem pe_hR0 (h : HasR X.prog X.w X.K X.mg X.base j nm ps sp) (hr : Room k X.A) (l : j ≤ k) (hg : Gl X nm) (ha : PA X (e :: es) t) (hdb : (nm == ("__debug__" : Str)) = false := by decide)
    (he : starEach (e :: es) X.env = (false, eval e X.env) :: starEach es X.env := by rfl) (hpl : (backTo pos (starEach es X.env)).any (·.1) = false := by rfl) : PE X (.Call (.Name nm p) (e :: es) [] pos) (tCall sp [] E0 t) := by
  obtain ⟨f, fd, g, kp, b, F⟩ := h
  exact pe_call F (hr.mono l) hg g kp b .nil passL ha hdb he hpl
end
/-- an own error's class: what its __init__ promises, how it binds -/
def HasE (P : Program) (w : World) (K : PySem.W.Frag) (mg : Str → Option Value) (base : Heap) (k : Nat) (x : Str) (C : Addr) (f : Str) : Prop :=
  mg x = some (.ref C) ∧ ∃ fI fd, XCls K C fI ∧ FnOk P w K mg base CX0 k fI fd ["self", f] (spXI C f) ∧ Binds K fd ["self", f] []
/-- C(e) to be raised -/
def tRx (C : Addr) (f : Str) (te : TE) : L2.St → Hp → XK → Prop := fun σ H Q => te σ H fun v H1 => ∀ d, H1 d = none → Q (.ref C) (some d) (upd H1 d (.xd [(f, v)]))
section
variable {X : Cx} {k j : Nat} {x f : Str} {C : Addr} {p pos : Pos} {e : Expr} {te : TE}
theorem del_mkH {H : Hp} {a d : Addr} {v : V} (ha : H a = none) : upd (del (mkH H a d C f v) a) d (.xd [(f, v)]) = upd H d (.xd [(f, v)]) := by
  funext b
  by_cases hb : b = d
  · rw [hb, upd_same, upd_same]
  · rw [upd_ne hb, upd_ne hb]
    by_cases hba : b = a
    · rw [hba, del_same, ha]
    · rw [del_ne hba]
      unfold mkH
      rw [upd_ne hba, upd_ne hb]
/-- a reading with what follows made weaker -/
def tMono (te : TE) : TE := fun σ H Q => ∃ Q0 : VK, te σ H Q0 ∧ ∀ v H1, Q0 v H1 → Q v H1
theorem pe_mono (he : PE X e te) : PE X e (tMono te) := ⟨fun pins s σ H Q I ⟨Q0, h, m⟩ => thn (he.run pins s σ H Q0 I h) fun u s1 ⟨v, H1, I1, r, q⟩ => ⟨v, H1, I1, r, m v H1 q⟩⟩
theorem pmk_x (h : HasE X.prog X.w X.K X.mg X.base j x C f) (hr : Room k X.A) (l : j + 1 ≤ k) (hg : Gl X x) (he : PE X e te) (hdb : (x == ("__debug__" : Str)) = false := by decide)
    (hs : starEach [e] X.env = (false, eval e X.env) :: starEach [] X.env := by rfl) (hpl : (backTo pos (starEach [] X.env)).any (·.1) = false := by rfl)
    (hs2 : starEach [e] X.env = [(false, eval e X.env)] := by rfl) : PMk X (.Call (.Name x p) [e] [] pos) (tRx C f te) := by
  obtain ⟨hm, fI, fd, T, F, b⟩ := h
  intro pins s σ H Q I q
  refine pmk_oex T.ox T.iC T.tI F (hr.mono l) b .nil (fun _ _ _ _ _ _ _ z => z.elim) hg hm (pa_cons (pe_mono he) pa_nil hs) hdb hs hpl pins s σ H Q I ?_
  refine ⟨_, q, fun v H1 z => ⟨by show 1 ≤ 1000; decide, fun a ha => ⟨a, v, rfl, upd_same, fun d hd hne => ⟨rfl, d, [(f, v)], ?_, ?_, ?_, ?_⟩⟩⟩⟩
  · rw [mkH_new]; exact upd_same
  · rw [mkH_new]; unfold mkH; rw [upd_ne hne]; exact upd_same
  · rw [upd_ne hne] at hd; exact hd
  · rw [mkH_new, del_mkH ha]
    rw [upd_ne hne] at hd
    exact z d hd
end
/-- C(..) where what is raised is told at the slots -/
def tMakeS (C : Addr) (sp : Sp) (dvs : List V) (E : L2.St → XK) (t : TA) : TE := fun σ H Q => t σ H fun vs H1 => ∀ x dx, H1 x = none → H1 dx = none → dx ≠ x →
  sp (.ref x :: (vs ++ dvs)) (upd (upd H1 dx (.own x)) x (.ins C dx [])) (fun v H2 => v = .non ∧ Q (.ref x) H2) (E σ)
section
variable {X : Cx} {CX : CXT} {k : Nat} {f C : Addr} {fd : FuncData} {ps : List Str} {sp : Sp} {dvs : List V} {ds : List Value} {E : L2.St → XK} {x : Str} {p pos : Pos} {e : Expr} {es : List Expr} {t : TA}
theorem pe_makeS (M : Mk X.K C f) (F : FnOk X.prog X.w X.K X.mg X.base CX k f fd ps sp) (hr : Room (k + 1) X.A) (hg : Gl X x) (hm : X.mg x = some (.ref C)) (hb : Binds X.K fd ps ds) (hd : Vals dvs ds)
    (hx : ∀ (pins : List (Addr × Obj)) (σ : L2.St) (H : Hp) (s : Shared) (e : Value) (s' : Shared), Inv X pins σ H s → CX X.stack H s (E σ) e s' → X.xe e s')
    (ha : PA X (e :: es) t) (hdb : (x == ("__debug__" : Str)) = false := by decide) (he : starEach (e :: es) X.env = (false, eval e X.env) :: starEach es X.env := by rfl) (hpl : (backTo pos (starEach es X.env)).any (·.1) = false := by rfl) :
    PE X (.Call (.Name x p) (e :: es) [] pos) (tMakeS C sp dvs E t) := by
  refine ⟨fun pins s σ H Q I h => ?_⟩
  refine wpAny_Call_Name_kw (ld_glob I hg hm ?_ hdb)
  refine PySem.W.callWith_K (h₀ := X.base) I.ok.mod.kin M.kp (thn (ha.run pos pins s σ H _ I h) fun us s1 ⟨vs, H1, I1, r, q⟩ => ⟨I1.kIn, ?_⟩) he hpl
  have hq := q (s1.heap.objs.size + 1) s1.heap.objs.size (I1.hok.fresh (Nat.le_succ _)) (I1.hok.fresh (Nat.le_refl _)) (Nat.ne_of_lt (Nat.lt_succ_self _))
  have I2 := Inv.made (C := C) I1
  have r2 : Vals (V.ref (s1.heap.objs.size + 1) :: (vs ++ dvs)) (Value.ref (s1.heap.objs.size + 1) :: (us ++ ds)) := .cons rfl (r.append hd)
  have hl : (Value.ref (s1.heap.objs.size + 1) :: us ++ ds).length = ps.length := by
    have e := r2.length
    rw [F.len _ _ _ _ hq] at e
    exact e.symm
  refine wpAny_call (make_map (f := f) I1.kIn M.makes M.init (beq_iff_eq.mp M.fn) (codeAny_mono (F.run _ X.stack _ _ ⟨Value.ref (s1.heap.objs.size + 1) :: us, []⟩ (Value.ref (s1.heap.objs.size + 1) :: (us ++ ds)) _ _ (E σ) (hr.make C us [])
    (I2.env0.make C us []) (hb _ (Value.ref (s1.heap.objs.size + 1) :: us) I2.kIn hl) r2 hq) fun r s' hq' => ?_))
  match r, hq' with
  | .error e, hq' => exact hx pins σ _ _ e s' I2 hq'
  | .ok .next, hq' => exact False.elim hq'
  | .ok .brk, hq' => exact False.elim hq'
  | .ok .cont, hq' => exact False.elim hq'
  | .ok (.ret u), hq' =>
    obtain ⟨v, H', I3, rv, ev, q3⟩ := I2.after hq'
    subst ev
    exact ⟨rv, ⟨V.ref (s1.heap.objs.size + 1), H', I3, rfl, q3⟩⟩
end
end Ct

set_option Elab.async false
set_option linter.all false
set_option maxRecDepth 100000
set_option maxHeartbeats 4000000
/-! Own kit P: one reading for a walk over a list or a tuple. -/
namespace Ct
open PySem PySem.Spec PyProof.Rows L2
/-- the list or the tuple at a stands on -/
def SqKeep (K : PySem.W.Frag) (a : Addr) (xs : List V) (H H' : Hp) : Prop := (SqL K H a xs → SqL K H' a xs) ∧ (SqT K H a xs → SqT K H' a xs)
theorem SqKeep.same {K : PySem.W.Frag} {a : Addr} {xs : List V} {H H' : Hp} (s : Same H H') : SqKeep K a xs H H' := ⟨fun h => s.seq h, fun h => same_t s h⟩
theorem SqKeep.sqs {K : PySem.W.Frag} {a : Addr} {xs : List V} {H H' : Hp} (k : SqKeep K a xs H H') : SqS K H a xs → SqS K H' a xs
  | .inl h => .inl (k.1 h)
  | .inr h => .inr (k.2 h)
theorem SqKeep.of {K : PySem.W.Frag} {a : Addr} {xs : List V} {H H1 H' : Hp} (h : SqS K H a xs) (s1 : Same H H1) (s2 : Same H H') (ex : SqL K H1 a xs → SqT K H1 a xs → False) : SqKeep K a xs H1 H' := by
  rcases h with h | h
  · exact ⟨fun _ => s2.seq h, fun z => (ex (s1.seq h) z).elim⟩
  · exact ⟨fun z => (ex z (same_t s1 h)).elim, fun _ => same_t s2 h⟩
theorem seq_excl {X : Cx} {pins : List (Addr × Obj)} {σ : L2.St} {H : Hp} {s : Shared} {a : Addr} {xs : List V} (I : Inv X pins σ H s) (h1 : SqL X.K H a xs) (h2 : SqT X.K H a xs) : False := by
  obtain ⟨its, rv, p, _⟩ := I.list h1
  obtain ⟨o, ho, hc, _⟩ := p.isList
  obtain ⟨its2, rv2, ⟨o2, ho2, hc2, _⟩, _⟩ := I.tuple h2
  rw [ho] at ho2
  cases ho2
  rw [hc] at hc2
  exact absurd hc2 (by decide)
def iSq (K : PySem.W.Frag) (tl : TE) : TI := fun σ H R => tl σ H fun v H1 => ∃ a xs, v = .ref a ∧ SqS K H1 a xs ∧ ∀ (J : It) (G : Hp → Prop), (SqL K H1 a xs → SqT K H1 a xs → False) → (∀ H', SqKeep K a xs H1 H' → G H') → Walk J xs.length G (YAt xs) → R J H1
section
variable {X : Cx}
theorem pi_sq {tg l : Expr} {tl : TE} (hl : PE X l tl) : PI X tg l (iSq X.K tl) := by
  refine ⟨fun pins s σ H R I h => ?_⟩
  refine thn (hl.run pins s σ H _ I h) fun v s1 ⟨x, H1, I1, r1, a, xs, e, hq, q⟩ => ?_
  subst e
  cases r1
  have foot : ∀ b ∈ [s1.heap.objs.size], FpOk X pins H1 b := fun b hb => by
    have e : b = s1.heap.objs.size := by simpa using hb
    subst e
    exact I1.fpOk (Nat.le_refl _) (I1.hok.fresh (Nat.le_refl _))
  rcases hq with hq | hq
  · obtain ⟨its, rv, p, hz⟩ := I1.list hq
    refine wpAny_pyIter_list p.isList ?_
    exact ⟨s1.heap.objs.size, [s1.heap.objs.size], _, _, H1, rfl, I1.kept (t' := s1.toks) fun b o e => Heap.get?_push_of_some _ e, turn_list a _, ⟨_, Heap.get?_push_size _ rfl, rfl, rfl⟩, foot, q _ _ (seq_excl I1) (fun H' k => k.1 hq) walk_list⟩
  · obtain ⟨its, rv, p, hz⟩ := I1.tuple hq
    refine wpAny_pyIter_tuple (show s1.heap.IsTuple a its.toArray from p) ?_
    exact ⟨s1.heap.objs.size, [s1.heap.objs.size], _, _, H1, rfl, I1.kept (t' := s1.toks) fun b o e => Heap.get?_push_of_some _ e, turn_tuple a _, ⟨_, Heap.get?_push_size _ rfl, rfl, rfl⟩, foot, q _ _ (seq_excl I1) (fun H' k => k.2 hq) walk_tup⟩
/-- enumerate, one reading for a list and a tuple -/
def iEnumQ (K : PySem.W.Frag) (ta : TA) : TI := fun σ H R => ta σ H fun vs H1 => ∃ a xs, vs = [.ref a] ∧ SqS K H1 a xs ∧ ∀ (J : It) (G : Hp → Prop), (SqL K H1 a xs → SqT K H1 a xs → False) → (∀ H', SqKeep K a xs H1 H' → G H') → Walk J xs.length G (YPair (fun i => some (.int (i : Nat))) (fun i => xs[i]?)) → R J H1
theorem pi_enumQ {e : Expr} {ta : TA} {p pos tpos : Pos} {elts : List Expr} {kk : Nat} (hg : Gl X "enumerate") (hm : X.mg "enumerate" = none) (ha : PA X [e] ta) (hs : starEach [e] X.env = [(false, eval e X.env)] := by rfl) :
    PI X (.Tuple elts kk tpos) (.Call (.Name "enumerate" p) [e] [] pos) (iEnumQ X.K ta) := by
  refine ⟨fun pins s σ H R I h => ?_⟩
  refine Call_ (ld_blt I hg hm boot_enumerate (PyProof.Rows.callWith_type1 (thn (ha.run pos pins s σ H _ I h) fun us s1 ⟨vs, H1, I1, r1, a, xs, e, hq, q⟩ => ?_) hs rfl))
  subst e
  obtain ⟨u, rfl, ru⟩ := vals1 r1
  cases (show u = Value.ref a from ru)
  have feet : ∀ b ∈ [s1.heap.objs.size + 1, s1.heap.objs.size], FpOk X pins H1 b := fun b hb => by
    have hle : s1.heap.objs.size ≤ b := by
      rcases (show b = s1.heap.objs.size + 1 ∨ b = s1.heap.objs.size by simpa using hb) with z | z
      · rw [z]; exact Nat.le_add_right _ _
      · rw [z]; exact Nat.le_refl _
    exact I1.fpOk hle (I1.hok.fresh hle)
  rcases hq with hq | hq
  · obtain ⟨its, rv, p', hz⟩ := I1.list hq
    refine call_enumerate_list p'.isList fun h' he hit hsz hk => wpAny_pyIter_enum he ?_
    exact ⟨s1.heap.objs.size + 1, [s1.heap.objs.size + 1, s1.heap.objs.size], _, _, H1, rfl, I1.kept (t' := s1.toks) hk, turn_enum a (s1.heap.objs.size + 1) s1.heap.objs.size, ⟨⟨.none, he⟩, hit, Nat.succ_ne_self _⟩, feet, q _ _ (seq_excl I1) (fun H' k => k.1 hq) walk_enum⟩
  · obtain ⟨its, rv, p', hz⟩ := I1.tuple hq
    refine call_enumT (show s1.heap.IsTuple a its.toArray from p') fun h' he hit hk => wpAny_pyIter_enum he ?_
    exact ⟨s1.heap.objs.size + 1, [s1.heap.objs.size + 1, s1.heap.objs.size], _, _, H1, rfl, I1.kept (t' := s1.toks) hk, turn_enumT a (s1.heap.objs.size + 1) s1.heap.objs.size, ⟨⟨.none, he⟩, hit, Nat.succ_ne_self _⟩, feet, q _ _ (seq_excl I1) (fun H' k => k.2 hq) walk_enumT⟩
end
end Ct

set_option Elab.async false
set_option linter.all false
set_option maxRecDepth 100000
set_option maxHeartbeats 4000000
/-! Own kit Q: set comprehensions by a walk. -/
namespace Ct
open PySem PySem.Spec PyProof.Rows L2 PpSet
theorem ksc_it {K : PySem.W.Frag} {P : Program} {w : World} {J : It} {n : Nat} {G : Hp → Prop} {Y : Nat → Hp → V → Hp → Prop} (wk : Walk J n G Y) {g : TG} {te : TE} {vs : List Nat} {σ : L2.St} {H1 : Hp} {D : Addr} {Qd : Hp → Prop} (Pv : Nat → Hp → Prop)
    (h0 : Pv 0 (upd H1 D (KSetO P w D []))) (hG : ∀ i H, i ≤ n → Pv i H → G H)
    (hs : ∀ i x H H', i < n → Pv i H → Y i H x H' → g x (wipe σ vs) H' fun σ2 H2 => wipe σ2 vs = wipe σ vs ∧ te σ2 H2 fun y H4 => ∃ b, y = .ref b ∧ rKAdd K P w D b H4 (Pv (i + 1))) (hd : ∀ H, Pv n H → Qd H) :
    ∃ W : Nat → Nat → Hp → Prop, (∃ m, W 0 m (upd H1 D (KSetO P w D []))) ∧ ∀ i m H, W i m H →
      (J.stop i H ∧ Qd H) ∨ (J.go i H ∧ ∃ Nx : Hp → Prop, (∀ H', Nx H' → ∃ m', m' < m ∧ W (i + 1) m' H') ∧ ∀ x H', J.yld i H x H' → g x (wipe σ vs) H' fun σ2 H2 => wipe σ2 vs = wipe σ vs ∧
        te σ2 H2 fun y H4 => ∃ b, y = .ref b ∧ rKAdd K P w D b H4 Nx) := by
  refine ⟨fun i m H => m = n - i ∧ i ≤ n ∧ Pv i H, ⟨n, by simp, Nat.zero_le _, h0⟩, ?_⟩
  rintro i m H ⟨rfl, hi, p⟩
  have q := hG i H hi p
  rcases Nat.lt_or_ge i n with lt | ge
  · exact .inr ⟨wk.goes i H lt q, Pv (i + 1), fun H' p' => ⟨n - (i + 1), by omega, rfl, lt, p'⟩, fun x H' y => hs i x H H' lt p (wk.yields i H x H' lt q y)⟩
  · obtain rfl : i = n := Nat.le_antisymm hi ge
    exact .inl ⟨wk.stops H q, hd H p⟩
/-- a set that has got one key more -/
theorem kadd_in {K : PySem.W.Frag} {P : Program} {w : World} {D b : Addr} {H : Hp} {L : List Mem} {k : List Key} {Q : Hp → Prop} (hD : H D = some (KSetO P w D L)) (hm : Mems K H L) (hb : SqT K H b (k.map kV)) (hl : L.length + 1 < 77)
    (q : ∀ L' H', H' D = some (KSetO P w D L') → (∀ c, c ≠ D → H' c = H c) → (∀ j, j ∈ L'.map (·.2) ↔ j = k ∨ j ∈ L.map (·.2)) → (∀ p ∈ L', p = (b, k) ∨ p ∈ L) → L'.length ≤ L.length + 1 → Q H') : rKAdd K P w D b H Q := by
  refine ⟨L, k, hD, hm, hb, hl, fun z => ?_, fun z L' pm => ?_⟩
  · exact q L H hD (fun _ _ => rfl) (fun j => ⟨.inr, fun h => h.elim (fun e => e ▸ z) id⟩) (fun p hp => .inr hp) (Nat.le_succ _)
  · refine q L' _ upd_same (fun c hc => upd_ne hc) (fun j => ?_) (fun p hp => ?_) (Nat.le_of_eq pm.length_eq)
    · have := (pm.map (·.2)).mem_iff (a := j)
      rw [this, List.map_cons, List.mem_cons]
    · have := pm.mem_iff.mp hp
      rcases List.mem_cons.mp this with e | e
      · exact .inl e
      · exact .inr e
end Ct

set_option Elab.async false
set_option linter.all false
set_option maxRecDepth 100000
set_option maxHeartbeats 4000000
/-! Own kit R: dict comprehensions stored, and by a walk. -/
namespace Ct
open PySem PySem.Spec PyProof.Rows L2
section
variable {X : Cx}
/-- y = {k: v for x in xs} -/
theorem ps_setDc {i : Nat} {y : PySem.Str} {py : Pos} {kx vx tg iter : Expr} {ifs : List Expr} {scope : Scope} {own : List (PySem.Str × Nat)} {pos spos : Pos} {wi : TI} {g : TG} {tt : TT} {tk tv : TE} (hc : X.calm = true) (hN : X.N.Nodup) (hy : X.N[i]? = some y) (hyl : X.env.scope.names.lookup y = some .local)
    (hsw : swapsWith (.DictComp kx vx [⟨tg, iter, ifs, 0⟩] scope pos) (some (.Name y py)) spos.line X.env = pure true) (hi : PI X tg iter wi) (ok : BlkOk X.N X.env.scope scope own)
    (hg : ∀ (s : Shared) (H : Hp) (C : Addr) (cl : List (PySem.Str × Addr)) (fp : List Addr), PG (X.blk s H scope (compEnvC scope cl C X.env) fp) tg g) (ht : ∀ (s : Shared) (H : Hp) (C : Addr) (cl : List (PySem.Str × Addr)) (fp : List Addr), PTs (X.blk s H scope (compEnvC scope cl C X.env) fp) ifs tt)
    (hk : ∀ (s : Shared) (H : Hp) (C : Addr) (cl : List (PySem.Str × Addr)) (fp : List Addr), PE (X.blk s H scope (compEnvC scope cl C X.env) fp) kx tk)
    (he : ∀ (s : Shared) (H : Hp) (C : Addr) (cl : List (PySem.Str × Addr)) (fp : List Addr), PE (X.blk s H scope (compEnvC scope cl C X.env) fp) vx tv) (hs : ∀ x, foldedSetIterable iter X.env x = pure x := by intro _; rfl) :
    PS X (.Assign [.Name y py] (.DictComp kx vx [⟨tg, iter, ifs, 0⟩] scope pos) spos) (tAsg (tDc wi g tt tk tv (own.map (·.2))) (gName i)) := by
  refine ⟨fun pins s σ H D I h => ?_⟩
  rw [exec_Assign_Name_used _ _ _ _ hsw]
  refine wpAny_bind (wpAny_standAt (wpAny_bind ?_))
  show wpAny _ X.A (do let _ ← comprehension (.DictComp kx vx [⟨tg, iter, ifs, 0⟩] scope pos) scope X.env (firstIterPos [⟨tg, iter, ifs, 0⟩] pos) newDict false (eval iter X.env) (some (assign (.Name y py) X.env))) _ _ s
  have q : tDc wi g tt tk tv (own.map (·.2)) σ H (fun x H1 => gName i x σ H1 D.nx) := h
  refine wpAny_bind (thn (dc_core (Qf := fun _ s' => SP X pins D .next s') hc hN I hi ok hg ht hk he hs q fun L C s' m H' I' q hn f => ?_) fun _ s' hq => wpAny_pure (wpAny_pure hq))
  show wpAny _ _ (assign (.Name y py) X.env (.ref L)) _ _ _
  refine wpAny_assign_Name (store_ok2 (v := V.ref L) I' hN hy (.inl hyl) rfl (fun s2 I2 ⟨a, sb, ha⟩ => ?_) (.inr hyl))
  obtain ⟨f0, f1, f2, f3, f4, f5⟩ := f
  have ne : C ≠ a := ha.elim (fun z => z ▸ f1) (fun z e => f4 y a z e.symm)
  exact ⟨m, hn.sameBut sb ne, fun h3 sb3 => ⟨_, H', I2.turned (t' := s2.toks) (fun b o hb e => (sb3.2 b hb).trans e) f0 f1 f3 f4 f5, q⟩⟩
theorem sw_setd {kx vx : Expr} {gs : List Comprehension} {scope : Scope} {pos py : Pos} {y : PySem.Str} {l : Nat} {env : Env} (hk : env.scope.kind = .function) (hy : env.scope.names.lookup y = some .local) (hl : (py.line == pos.line) = true)
    (ha : (scope.names.any fun (n, k) => n == y && (k == .local || k == .cell)) = false) : swapsWith (.DictComp kx vx gs scope pos) (some (.Name y py)) l env = pure true := by
  have ky : env.kindOf y = some .local := hy
  have hb : env.blockKind = .function := by unfold Env.blockKind; rw [hk]; rfl
  unfold swapsWith
  simp only [hb, ky, ha, Expr.pos, hl]
  rfl
end
theorem dc_it {J : It} {n : Nat} {G : Hp → Prop} {Y : Nat → Hp → V → Hp → Prop} (wk : Walk J n G Y) {g : TG} {tt : TT} {tk tv : TE} {vs : List Nat} {σ : L2.St} {H1 : Hp} {D : Addr} {Qd : Hp → Prop} (Pv : Nat → Hp → Prop) (h0 : Pv 0 (upd H1 D (.dK []))) (hG : ∀ i H, i ≤ n → Pv i H → G H)
    (hs : ∀ i x H H', i < n → Pv i H → Y i H x H' → g x (wipe σ vs) H' fun σ2 H2 => wipe σ2 vs = wipe σ vs ∧ tt σ2 H2 fun b H3 =>
      if b = true then tk σ2 H3 fun y H4 => tv σ2 H4 fun z H5 => ∃ kvs k, y = kV k ∧ H5 D = some (.dK kvs) ∧ kvs.length < sizeLine ∧ Pv (i + 1) (upd H5 D (.dK (putK kvs k z))) else Pv (i + 1) H3) (hd : ∀ H, Pv n H → Qd H) :
    ∃ W : Nat → Nat → Hp → Prop, (∃ m, W 0 m (upd H1 D (.dK []))) ∧ ∀ i m H, W i m H →
      (J.stop i H ∧ Qd H) ∨ (J.go i H ∧ ∃ Nx : Hp → Prop, (∀ H', Nx H' → ∃ m', m' < m ∧ W (i + 1) m' H') ∧ ∀ x H', J.yld i H x H' → g x (wipe σ vs) H' fun σ2 H2 => wipe σ2 vs = wipe σ vs ∧ tt σ2 H2 fun b H3 =>
        if b = true then tk σ2 H3 fun y H4 => tv σ2 H4 fun z H5 => ∃ kvs k, y = kV k ∧ H5 D = some (.dK kvs) ∧ kvs.length < sizeLine ∧ Nx (upd H5 D (.dK (putK kvs k z))) else Nx H3) := by
  refine ⟨fun i m H => m = n - i ∧ i ≤ n ∧ Pv i H, ⟨n, by simp, Nat.zero_le _, h0⟩, ?_⟩
  rintro i m H ⟨rfl, hi, p⟩
  have q := hG i H hi p
  rcases Nat.lt_or_ge i n with lt | ge
  · exact .inr ⟨wk.goes i H lt q, Pv (i + 1), fun H' p' => ⟨n - (i + 1), by omega, rfl, lt, p'⟩, fun x H' y => hs i x H H' lt p (wk.yields i H x H' lt q y)⟩
  · obtain rfl : i = n := Nat.le_antisymm hi ge
    exact .inl ⟨wk.stops H q, hd H p⟩
/-! the written part named: for what stands within a comprehension -/
section
variable {X : Cx} {K : PySem.W.Frag}
theorem pi_sqk (hK : X.K = K) {tg l : Expr} {tl : TE} (hl : PE X l tl) : PI X tg l (iSq K tl) := by
  subst hK
  exact pi_sq hl
theorem op_in_seqk (hK : X.K = K) : OpR X (compareOp .In) (rIn K false) := by
  subst hK
  exact op_in_seq
theorem op_notIn_seqk (hK : X.K = K) : OpR X (compareOp .NotIn) (rIn K true) := by
  subst hK
  exact op_notIn_seq
theorem or_amidk (hK : X.K = K) (hu : X.A.units + 64 < cLine) : OpR X (compareOp .In) (rAmid K false) := by
  subst hK
  exact or_amid hu
theorem or_namidk (hK : X.K = K) (hu : X.A.units + 64 < cLine) : OpR X (compareOp .NotIn) (rAmid K true) := by
  subst hK
  exact or_namid hu
theorem call_isDk (hK : X.K = K) : CallR X (.builtin "isinstance") (rIsD K) := by
  subst hK
  exact call_isD
end
end Ct

set_option Elab.async false
set_option linter.all false
set_option maxRecDepth 100000
set_option maxHeartbeats 2000000
/-! Own kit S: what stands, as one list (Lv); a tactic that answers a reading as far as it is plain. -/
namespace Ct
open PySem PySem.Spec PyProof.Rows L2
theorem at_while {c : TT} {b u : TS} {D : Ends} {σ : L2.St} {H : Hp} (h : tSeq (tWhile c b) u D σ H) : tSeq (tWhile c b) u D σ H := h
theorem at_while1 {c : TT} {b : TS} {D : Ends} {σ : L2.St} {H : Hp} (h : tWhile c b D σ H) : tWhile c b D σ H := h
theorem erase_perm {α : Type} : ∀ {xs : List α} {i : Nat} (h : i < xs.length), (xs[i] :: xs.eraseIdx i).Perm xs
  | x :: xs, 0, _ => .refl _
  | x :: xs, i + 1, h => (List.Perm.swap _ _ _).trans (List.Perm.cons x (erase_perm (Nat.lt_of_succ_lt_succ h)))
theorem map_same {α : Type} {f : α → α} : ∀ {l : List α}, (∀ y ∈ l, f y = y) → l.map f = l
  | [], _ => rfl
  | y :: l, h => by rw [List.map_cons, h y List.mem_cons_self, map_same fun z hz => h z (List.mem_cons_of_mem _ hz)]
/-- a row of the same things in another sequence -/
theorem perm_inv {α β : Type} {f : α → β} (g : β → α) (hg : ∀ x, g (f x) = x) {ys : List β} {xs : List α} (h : ys.Perm (xs.map f)) : ∃ zs : List α, zs.Perm xs ∧ ys = zs.map f := by
  refine ⟨ys.map g, ?_, ?_⟩
  · have := h.map g
    rwa [List.map_map, show g ∘ f = id from funext hg, List.map_id] at this
  · rw [List.map_map]
    refine (map_same fun y hy => ?_).symm
    obtain ⟨x, _, rfl⟩ := List.mem_map.mp (h.mem_iff.mp hy)
    exact congrArg f (hg x)
def strOf : V → Str
  | .str x => x
  | _ => Str.empty
theorem strs_perm {ys : List V} {xs : List Str} (h : ys.Perm (xs.map V.str)) : ∃ zs : List Str, zs.Perm xs ∧ ys = zs.map V.str := perm_inv strOf (fun _ => rfl) h
theorem paired_perm {α β : Type} {R : α → β → Prop} {ys xs : List α} (h : ys.Perm xs) : ∀ {ts : List β}, Paired R xs ts → ∃ us, us.Perm ts ∧ Paired R ys us := by
  induction h with
  | nil => intro ts p; exact ⟨ts, .refl _, p⟩
  | cons x _ ih =>
    intro ts p
    cases p with
    | cons a b =>
      obtain ⟨us, h1, h2⟩ := ih b
      exact ⟨_ :: us, h1.cons _, .cons a h2⟩
  | swap x y l =>
    intro ts p
    cases p with
    | cons a b =>
      cases b with
      | cons b c => exact ⟨_, .swap _ _ _, .cons b (.cons a c)⟩
  | trans _ _ ih1 ih2 =>
    intro ts p
    obtain ⟨us, h1, h2⟩ := ih2 p
    obtain ⟨vs, h3, h4⟩ := ih1 h2
    exact ⟨vs, h3.trans h1, h4⟩
theorem nodup_set {α : Type} : ∀ {l : List α} {i : Nat} {x : α}, l.Nodup → x ∉ l → (l.set i x).Nodup
  | [], _, _, _, _ => List.nodup_nil
  | y :: l, 0, x, h, n => by
    rw [List.set_cons_zero]
    exact List.nodup_cons.mpr ⟨fun z => n (List.mem_cons_of_mem _ z), (List.nodup_cons.mp h).2⟩
  | y :: l, i + 1, x, h, n => by
    rw [List.set_cons_succ]
    refine List.nodup_cons.mpr ⟨fun z => ?_, nodup_set (List.nodup_cons.mp h).2 fun z => n (List.mem_cons_of_mem _ z)⟩
    rcases List.mem_or_eq_of_mem_set z with z | z
    · exact (List.nodup_cons.mp h).1 z
    · exact n (z ▸ List.mem_cons_self)
theorem in_strs (l : List Str) (q : Str) : inV (.str q) (l.map V.str) = decide (q ∈ l) := by
  rw [Bool.eq_iff_iff, decide_eq_true_eq]
  unfold inV
  rw [List.any_map, List.any_eq_true]
  exact ⟨fun ⟨y, hy, e⟩ => (eq_of_beq (show (y == q) = true from e)) ▸ hy, fun h => ⟨q, h, beq_self_eq_true q⟩⟩
/-- a row cut behind the first n -/
theorem cut_take (xs : List V) (n : Nat) : cutV xs none (some (n : Int)) = xs.take n := by
  unfold cutV
  rw [HT.sIx_none, HT.sIx_nat, List.drop_zero, Nat.sub_zero]
  exact (List.take_eq_take_min).symm
/-- a shield: what is within is not looked at -/
structure Hold (p : Prop) : Prop where
  out : p
/-- a test that changes nothing: both ways apart, whatever it leans on -/
theorem ifs_any {c : TT} {a b : TS} {D : Ends} {σ : L2.St} {H : Hp} (R : Bool → Prop) (hc : ∀ Q : Bool → Hp → Prop, (∀ x, R x → Q x H) → c σ H Q) (h1 : R true → a D σ H) (h2 : R false → b D σ H) : tIfS c a b D σ H := by
  refine hc _ fun x hx => ?_
  cases x with
  | true => exact iteT (h1 hx)
  | false => exact iteF (h2 hx)
theorem sz0 : ([] : List V).length ≤ sizeLine := by rw [sizeLine_eq]; simp only [List.length_cons, List.length_nil]; decide
theorem sz1 {a0 : V} : ([a0] : List V).length ≤ sizeLine := by rw [sizeLine_eq]; simp only [List.length_cons, List.length_nil]; decide
theorem sz2 {a0 a1 : V} : ([a0, a1] : List V).length ≤ sizeLine := by rw [sizeLine_eq]; simp only [List.length_cons, List.length_nil]; decide
theorem sz3 {a0 a1 a2 : V} : ([a0, a1, a2] : List V).length ≤ sizeLine := by rw [sizeLine_eq]; simp only [List.length_cons, List.length_nil]; decide
theorem sz4 {a0 a1 a2 a3 : V} : ([a0, a1, a2, a3] : List V).length ≤ sizeLine := by rw [sizeLine_eq]; simp only [List.length_cons, List.length_nil]; decide
theorem sz5 {a0 a1 a2 a3 a4 : V} : ([a0, a1, a2, a3, a4] : List V).length ≤ sizeLine := by rw [sizeLine_eq]; simp only [List.length_cons, List.length_nil]; decide
theorem sz6 {a0 a1 a2 a3 a4 a5 : V} : ([a0, a1, a2, a3, a4, a5] : List V).length ≤ sizeLine := by rw [sizeLine_eq]; simp only [List.length_cons, List.length_nil]; decide
theorem sz7 {a0 a1 a2 a3 a4 a5 a6 : V} : ([a0, a1, a2, a3, a4, a5, a6] : List V).length ≤ sizeLine := by rw [sizeLine_eq]; simp only [List.length_cons, List.length_nil]; decide
theorem sz8 {a0 a1 a2 a3 a4 a5 a6 a7 : V} : ([a0, a1, a2, a3, a4, a5, a6, a7] : List V).length ≤ sizeLine := by rw [sizeLine_eq]; simp only [List.length_cons, List.length_nil]; decide
theorem sz10 {a0 a1 a2 a3 a4 a5 a6 a7 a8 a9 : V} : ([a0, a1, a2, a3, a4, a5, a6, a7, a8, a9] : List V).length ≤ sizeLine := by rw [sizeLine_eq]; simp only [List.length_cons, List.length_nil]; decide
theorem sz11 {a0 a1 a2 a3 a4 a5 a6 a7 a8 a9 a10 : V} : ([a0, a1, a2, a3, a4, a5, a6, a7, a8, a9, a10] : List V).length ≤ sizeLine := by rw [sizeLine_eq]; simp only [List.length_cons, List.length_nil]; decide
theorem sz12 {a0 a1 a2 a3 a4 a5 a6 a7 a8 a9 a10 a11 : V} : ([a0, a1, a2, a3, a4, a5, a6, a7, a8, a9, a10, a11] : List V).length ≤ sizeLine := by rw [sizeLine_eq]; simp only [List.length_cons, List.length_nil]; decide
theorem sz14 {a0 a1 a2 a3 a4 a5 a6 a7 a8 a9 a10 a11 a12 a13 : V} : ([a0, a1, a2, a3, a4, a5, a6, a7, a8, a9, a10, a11, a12, a13] : List V).length ≤ sizeLine := by rw [sizeLine_eq]; simp only [List.length_cons, List.length_nil]; decide
theorem nodup_inj {α β : Type} {f : α → β} (inj : ∀ x y, f x = f y → x = y) {l : List α} (h : l.Nodup) : (l.map f).Nodup := List.pairwise_map.mpr (h.imp fun n e => n (inj _ _ e))
theorem nodup_len {α : Type} [DecidableEq α] : ∀ {r ns : List α}, r.Nodup → (∀ q ∈ r, q ∈ ns) → r.length ≤ ns.length
  | [], _, _, _ => Nat.zero_le _
  | x :: r, ns, h, s => by
    obtain ⟨n, h⟩ := List.nodup_cons.mp h
    have h1 := nodup_len (ns := ns.erase x) h fun q hq => (List.mem_erase_of_ne (fun z => n (by rw [← z]; exact hq))).mpr (s q (List.mem_cons_of_mem _ hq))
    have h2 := List.length_erase_of_mem (s x List.mem_cons_self)
    have h3 := List.length_pos_of_mem (s x List.mem_cons_self)
    rw [List.length_cons]
    omega
theorem idx_inj {ns : List Str} (nd : ns.Nodup) {i j : Nat} {x : Str} (h1 : ns[i]? = some x) (h2 : ns[j]? = some x) : i = j :=
  (List.getElem?_inj (List.getElem?_eq_some_iff.mp h1).1 nd).mp (h1.trans h2.symm)
/-- a test, both ways apart, told by what holds behind it -/
theorem ifs_to {c : TT} {a b : TS} {D : Ends} {σ : L2.St} {H : Hp} (R : Bool → Hp → Prop) (hc : ∀ Q : Bool → Hp → Prop, (∀ x H', R x H' → Q x H') → c σ H Q) (h1 : ∀ H', R true H' → a D σ H') (h2 : ∀ H', R false H' → b D σ H') : tIfS c a b D σ H := by
  refine hc _ fun x H' hx => ?_
  cases x with
  | true => exact iteT (h1 H' hx)
  | false => exact iteF (h2 H' hx)
def updX (H : Hp) (a : Addr) (o : HO) : Hp := upd H a o
theorem upd_mark {H : Hp} {a : Addr} {o : HO} : upd H a o = updX H a o := rfl
/-- a while by an invariant and a measure -/
theorem while_n {c : TT} {tb : TS} {D : Ends} {σ : L2.St} {H : Hp} (Pv : L2.St → Hp → Prop) (μ : L2.St → Hp → Nat) (h0 : Pv σ H)
    (hs : ∀ σ H, Pv σ H → c σ H fun b H1 => if b = true then ∃ N : L2.St → Hp → Prop, (∀ σ' H', N σ' H' → ∃ m', m' < μ σ H ∧ (m' = μ σ' H' ∧ Pv σ' H')) ∧ tb { D with nx := N, ct := N, bk := D.nx } σ H1 else D.nx σ H1) : tWhile c tb D σ H := by
  refine ⟨fun m σ H => m = μ σ H ∧ Pv σ H, ⟨_, rfl, h0⟩, ?_⟩
  rintro m σ H ⟨rfl, p⟩
  exact hs σ H p
theorem while_nx {Pv : L2.St → Hp → Prop} {μ : L2.St → Hp → Nat} {m : Nat} : ∀ σ' H', (Pv σ' H' ∧ μ σ' H' < m) → ∃ m', m' < m ∧ (m' = μ σ' H' ∧ Pv σ' H') := fun _ _ h => ⟨_, h.2, rfl, h.1⟩
/-- a list's length -/
def lenH (H : Hp) (a : Addr) : Nat := match H a with
  | some (.lst xs) => xs.length
  | _ => 0
theorem lenH_eq {H : Hp} {a : Addr} {xs : List V} (h : H a = some (.lst xs)) : lenH H a = xs.length := by unfold lenH; rw [h]
/-- what stands now at different addresses; of what stood in H0 all stands but what is at S -/
structure Lv (H0 : Hp) (S : List Addr) (H : Hp) (l : List (Addr × HO)) : Prop where
  nd : (l.map (·.1)).Nodup
  all : ∀ p ∈ l, H p.1 = some p.2
  fr : ∀ b o, b ∉ S → H0 b = some o → H b = some o
  nw : ∀ p ∈ l, p.1 ∈ S ∨ H0 p.1 = none
  sl : ∀ b ∈ S, b ∈ l.map (·.1)
section
variable {H0 H H' : Hp} {S : List Addr} {l : List (Addr × HO)} {p q : Addr} {o u : HO}
theorem Lv.get (h : Lv H0 S H l) (i : Nat) (e : l[i]? = some (p, o)) : H p = some o := h.all (p, o) (List.mem_of_getElem? e)
/-- nothing is changed -/
theorem Lv.zero (H : Hp) : Lv H [] H [] := ⟨List.nodup_nil, fun _ h => (nomatch h), fun _ _ _ h => h, fun _ h => (nomatch h), fun _ h => (nomatch h)⟩
theorem Lv.add (h : Lv H S H l) (hp : H p = some o) (n : p ∉ l.map (·.1)) : Lv H (p :: S) H ((p, o) :: l) where
  nd := List.nodup_cons.mpr ⟨n, h.nd⟩
  all := fun q hq => by
    cases hq with
    | head => exact hp
    | tail _ hq => exact h.all q hq
  fr := fun b o n hb => hb
  nw := fun q hq => by
    cases hq with
    | head => exact .inl List.mem_cons_self
    | tail _ hq => exact (h.nw q hq).imp (List.mem_cons_of_mem _) id
  sl := fun b hb => by
    cases hb with
    | head => exact List.mem_cons_self
    | tail _ hb => exact List.mem_cons_of_mem _ (h.sl b hb)
/-- one thing may be changed -/
theorem Lv.one (hp : H p = some o) : Lv H [p] H [(p, o)] := (Lv.zero H).add hp (fun z => nomatch z)
theorem Lv.two (hp : H p = some o) (hq : H q = some u) (n : p ≠ q) : Lv H [p, q] H [(p, o), (q, u)] := (Lv.one hq).add hp (fun z => n (List.mem_singleton.mp z))
theorem Lv.new (h : Lv H0 S H l) (np : H p = none) : p ∉ l.map (·.1) := fun z => by
  obtain ⟨q, hq, rfl⟩ := List.mem_map.mp z
  rw [h.all q hq] at np
  cases np
theorem Lv.free (h : Lv H0 S H l) (np : H p = none) : H0 p = none := by
  cases q : H0 p with
  | none => rfl
  | some o =>
    by_cases c : p ∈ S
    · exact absurd (h.sl p c) (h.new np)
    · rw [h.fr p o c q] at np; cases np
theorem Lv.same (h : Lv H0 S H l) (s : Same H H') : Lv H0 S H' l := ⟨h.nd, fun q hq => s _ _ (h.all q hq), fun b o n hb => s _ _ (h.fr b o n hb), h.nw, h.sl⟩
theorem Lv.cons (h : Lv H0 S H l) (hp : H p = some o) (n : p ∉ l.map (·.1)) (n0 : H0 p = none) : Lv H0 S H ((p, o) :: l) where
  nd := List.nodup_cons.mpr ⟨n, h.nd⟩
  all := fun q hq => by
    cases hq with
    | head => exact hp
    | tail _ hq => exact h.all q hq
  fr := h.fr
  nw := fun q hq => by
    cases hq with
    | head => exact .inr n0
    | tail _ hq => exact h.nw q hq
  sl := fun b hb => List.mem_cons_of_mem _ (h.sl b hb)
theorem Lv.al (h : Lv H0 S H l) (np : H p = none) : Lv H0 S (upd H p o) ((p, o) :: l) := (h.same (same_new np)).cons upd_same (h.new np) (h.free np)
/-- a new thing told by what holds behind it -/
theorem Lv.al' (h : Lv H0 S H l) (s : Same H H') (np : H p = none) (hp : H' p = some o) : Lv H0 S H' ((p, o) :: l) := (h.same s).cons hp (h.new np) (h.free np)
theorem Lv.ne (h : Lv H0 S H l) (i j : Nat) (ne : i ≠ j) (e : l[i]? = some (p, o)) (f : l[j]? = some (q, u)) : p ≠ q := fun z => by
  have hi := (List.getElem?_eq_some_iff.mp e).1
  have hj := (List.getElem?_eq_some_iff.mp f).1
  have a : (l.map (·.1))[i]? = some p := by rw [List.getElem?_map, e]; rfl
  have b : (l.map (·.1))[j]? = some p := by rw [List.getElem?_map, f, z]; rfl
  exact ne ((List.getElem?_inj (by rw [List.length_map]; exact hi) h.nd).mp (a.trans b.symm))
theorem set_fst {l : List (Addr × HO)} {i : Nat} (e : l[i]? = some (p, o)) : (l.set i (p, u)).map (·.1) = l.map (·.1) := by
  have hi := (List.getElem?_eq_some_iff.mp e).1
  rw [List.map_set]
  refine List.ext_getElem? fun j => ?_
  rw [List.getElem?_set]
  by_cases c : i = j
  · subst c
    rw [if_pos rfl, if_pos (by rw [List.length_map]; exact hi), List.getElem?_map, e]
    rfl
  · rw [if_neg c]
/-- what is at the i-th address is changed, told by what holds behind it -/
theorem Lv.st' (h : Lv H0 S H l) (i : Nat) (e : l[i]? = some (p, o)) (hp : H' p = some u) (off : ∀ b w, b ≠ p → H b = some w → H' b = some w) : Lv H0 S H' (l.set i (p, u)) := by
  have hi := (List.getElem?_eq_some_iff.mp e).1
  have em := set_fst (u := u) e
  have mem : ∀ q ∈ l.set i (p, u), q = (p, u) ∨ (q ∈ l ∧ q.1 ≠ p) := fun q hq => by
    obtain ⟨j, hj⟩ := List.mem_iff_getElem?.mp hq
    rw [List.getElem?_set] at hj
    by_cases c : i = j
    · rw [if_pos c, if_pos hi] at hj
      cases hj
      exact .inl rfl
    · rw [if_neg c] at hj
      exact .inr ⟨List.mem_of_getElem? hj, fun z => (h.ne i j c e (q := q.1) (u := q.2) hj) z.symm⟩
  refine ⟨by rw [em]; exact h.nd, fun q hq => ?_, fun b w n hb => ?_, fun q hq => ?_, fun b hb => by rw [em]; exact h.sl b hb⟩
  · rcases mem q hq with rfl | ⟨hq, n⟩
    · exact hp
    · exact off _ _ n (h.all q hq)
  · refine off b w (fun z => ?_) (h.fr b w n hb)
    subst z
    rcases h.nw _ (List.mem_of_getElem? e) with z | z
    · exact n z
    · rw [hb] at z; cases z
  · rcases mem q hq with rfl | ⟨hq, _⟩
    · exact h.nw (p, o) (List.mem_of_getElem? e)
    · exact h.nw q hq
/-- what is at the i-th address is changed, and something is new -/
theorem Lv.stn {v : HO} {r : Addr} (h : Lv H0 S H l) (i : Nat) (e : l[i]? = some (p, o)) (hp : H' p = some u) (off : ∀ b w, b ≠ p → H b = some w → H' b = some w) (np : H r = none) (hr : H' r = some v) : Lv H0 S H' ((r, v) :: l.set i (p, u)) :=
  (h.st' i e hp off).cons hr (by rw [set_fst e]; exact h.new np) (h.free np)
theorem Lv.pick (h : Lv H0 S H l) {l' : List (Addr × HO)} (nd : (l'.map (·.1)).Nodup) (sub : ∀ q ∈ l', q ∈ l) (sl : ∀ b ∈ S, b ∈ l'.map (·.1)) : Lv H0 S H l' :=
  ⟨nd, fun q hq => h.all q (sub q hq), h.fr, fun q hq => h.nw q (sub q hq), sl⟩
theorem Lv.pick1 (h : Lv H0 [p] H l) (j : Nat) (ej : l[j]? = some (p, o)) : Lv H0 [p] H [(p, o)] :=
  h.pick (by simp) (fun q hq => by rw [List.mem_singleton.mp hq]; exact List.mem_of_getElem? ej) fun b hb => by rw [List.mem_singleton.mp hb]; simp
theorem Lv.pick2 (h : Lv H0 [p] H l) (i j : Nat) (ne : i ≠ j) (ei : l[i]? = some (q, u)) (ej : l[j]? = some (p, o)) : Lv H0 [p] H [(q, u), (p, o)] :=
  h.pick (by simpa using h.ne i j ne ei ej) (fun q hq => by
    cases hq with
    | head => exact List.mem_of_getElem? ei
    | tail _ hq => rw [List.mem_singleton.mp hq]; exact List.mem_of_getElem? ej) fun b hb => by rw [List.mem_singleton.mp hb]; simp
theorem Lv.pick3 {r : Addr} {v : HO} (h : Lv H0 [p] H l) (i k j : Nat) (n1 : i ≠ k) (n2 : i ≠ j) (n3 : k ≠ j) (ei : l[i]? = some (q, u)) (ek : l[k]? = some (r, v)) (ej : l[j]? = some (p, o)) : Lv H0 [p] H [(q, u), (r, v), (p, o)] :=
  h.pick (by simpa using ⟨⟨h.ne i k n1 ei ek, h.ne i j n2 ei ej⟩, h.ne k j n3 ek ej⟩) (fun q hq => by
    cases hq with
    | head => exact List.mem_of_getElem? ei
    | tail _ hq =>
      cases hq with
      | head => exact List.mem_of_getElem? ek
      | tail _ hq => rw [List.mem_singleton.mp hq]; exact List.mem_of_getElem? ej) fun b hb => by rw [List.mem_singleton.mp hb]; simp
def getAll {α : Type} (l : List α) : List Nat → Option (List α)
  | [] => some []
  | i :: is => match l[i]?, getAll l is with
    | some x, some xs => some (x :: xs)
    | _, _ => none
theorem getAll_mem {α : Type} {l : List α} : ∀ {is : List Nat} {l' : List α}, getAll l is = some l' → ∀ x ∈ l', ∃ i ∈ is, l[i]? = some x
  | [], l', e, x, hx => by cases e; cases hx
  | i :: is, l', e, x, hx => by
    unfold getAll at e
    cases e1 : l[i]? with
    | none => rw [e1] at e; cases e
    | some y =>
      cases e2 : getAll l is with
      | none => rw [e1, e2] at e; cases e
      | some ys =>
        rw [e1, e2] at e
        cases e
        cases hx with
        | head => exact ⟨i, List.mem_cons_self, e1⟩
        | tail _ hx =>
          obtain ⟨j, hj, h⟩ := getAll_mem e2 x hx
          exact ⟨j, List.mem_cons_of_mem _ hj, h⟩
/-- some of what stands -/
theorem Lv.picks (h : Lv H0 S H l) (is : List Nat) {l' : List (Addr × HO)} (e : getAll l is = some l') (nd : is.Nodup) (sl : ∀ b ∈ S, b ∈ l'.map (·.1)) : Lv H0 S H l' := by
  refine h.pick ?_ (fun q hq => ?_) sl
  · clear sl
    induction is generalizing l' with
    | nil => cases e; exact List.nodup_nil
    | cons i is ih =>
      unfold getAll at e
      cases e1 : l[i]? with
      | none => rw [e1] at e; cases e
      | some y =>
        cases e2 : getAll l is with
        | none => rw [e1, e2] at e; cases e
        | some ys =>
          rw [e1, e2] at e
          cases e
          refine List.nodup_cons.mpr ⟨fun z => ?_, ih e2 (List.nodup_cons.mp nd).2⟩
          obtain ⟨q, hq, eq⟩ := List.mem_map.mp z
          obtain ⟨j, hj, ej⟩ := getAll_mem e2 q hq
          exact h.ne i j (fun z => (List.nodup_cons.mp nd).1 (z ▸ hj)) (p := y.1) (o := y.2) (q := q.1) (u := q.2) e1 ej eq.symm
  · obtain ⟨i, _, ei⟩ := getAll_mem e q hq
    exact List.mem_of_getElem? ei
theorem Lv.fresh (h : Lv H0 S H l) (i : Nat) (e : l[i]? = some (p, o)) (n : p ∉ S) : H0 p = none := (h.nw _ (List.mem_of_getElem? e)).resolve_left n
theorem Lv.alE (h : Lv H0 S H l) (np : H p = none) (e : upd H p o = H') : Lv H0 S H' ((p, o) :: l) := e ▸ h.al np
theorem Lv.stE (h : Lv H0 S H l) (i : Nat) (e : l[i]? = some (p, o)) (f : upd H p u = H') : Lv H0 S H' (l.set i (p, u)) := by
  subst f
  exact h.st' i e upd_same fun b w n hb => by rw [upd_ne n]; exact hb
theorem sameE (np : H p = none) (e : upd H p o = H') : Same H H' := e ▸ same_new np
theorem sameN {H1 : Hp} (s : Same H1 H) (np : H1 p = none) (e : upd H p o = H') : Same H1 H' := e ▸ same_upd s np
theorem kv_str (p : Str) : V.str p = kV (.inr p) := rfl
theorem kv_int (i : Int) : V.int i = kV (.inl i) := rfl
/-- all but p -/
theorem Lv.off (h : Lv H0 [p] H l) : ∀ b o, b ≠ p → H0 b = some o → H b = some o := fun b o n hb => h.fr b o (fun z => n (List.mem_singleton.mp z)) hb
theorem Lv.sm (h : Lv H0 [] H l) : Same H0 H := fun b o hb => h.fr b o (fun z => nomatch z) hb
theorem Lv.tl (h : Lv H0 S H ((p, o) :: l)) (n : p ∉ S) : Lv H0 S H l :=
  ⟨(List.nodup_cons.mp h.nd).2, fun q hq => h.all q (List.mem_cons_of_mem _ hq), h.fr, fun q hq => h.nw q (List.mem_cons_of_mem _ hq), fun b hb => by
    have := h.sl b hb
    rw [List.map_cons] at this
    cases this with
    | head => exact absurd hb n
    | tail _ z => exact z⟩
/-- what is told in another way -/
theorem Lv.re {l' : List (Addr × HO)} (h : Lv H0 S H l) (e : l = l') : Lv H0 S H l' := e ▸ h
/-- what stands apart from S -/
theorem Lv.sqL {K : PySem.W.Frag} {xs : List V} (h : Lv H0 S H l) (n : p ∉ S) : SqL K H0 p xs → SqL K H p xs := fun x => x.imp (fun r => r.imp (h.fr _ _ n) fun ⟨o, r⟩ => ⟨o, h.fr _ _ n r⟩) id
theorem Lv.sqT {K : PySem.W.Frag} {xs : List V} (h : Lv H0 S H l) (n : p ∉ S) : SqT K H0 p xs → SqT K H p xs := fun x => x.imp (fun r => r.imp (h.fr _ _ n) fun ⟨o, r⟩ => ⟨o, h.fr _ _ n r⟩) id
theorem Lv.sqS {K : PySem.W.Frag} {xs : List V} (h : Lv H0 S H l) (n : p ∉ S) : SqS K H0 p xs → SqS K H p xs := fun x => x.imp (h.sqL n) (h.sqT n)
/-- a frame within a frame -/
theorem Lv.sub {H1 : Hp} {T : List Addr} {m : List (Addr × HO)} (h : Lv H0 S H l) (k : Lv H T H1 m) (ts : ∀ b ∈ T, b ∈ S ∨ H0 b = none) (hs : ∀ b ∈ S, b ∈ m.map (·.1)) (hm : ∀ p ∈ m, p.1 ∈ S ∨ H0 p.1 = none) : Lv H0 S H1 m :=
  ⟨k.nd, k.all, fun b o n hb => k.fr b o (fun z => by
    rcases ts b z with z | z
    · exact n z
    · rw [hb] at z; cases z) (h.fr b o n hb), hm, hs⟩
end
/-- tuples never change -/
def KeepT (H H' : Hp) : Prop := ∀ b xs, H b = some (.tup xs) → H' b = some (.tup xs)
theorem KeepT.refl (H : Hp) : KeepT H H := fun _ _ h => h
theorem KeepT.trans {H H1 H2 : Hp} (a : KeepT H H1) (b : KeepT H1 H2) : KeepT H H2 := fun c xs h => b c xs (a c xs h)
theorem KeepT.same {H H' : Hp} (s : Same H H') : KeepT H H' := fun b xs h => s b _ h
theorem KeepT.off {H H' : Hp} {p : Addr} {o : HO} (h : H p = some o) (n : ∀ xs, o ≠ .tup xs) (s : ∀ b o, b ≠ p → H b = some o → H' b = some o) : KeepT H H' := fun b xs hb => by
  refine s b _ (fun z => ?_) hb
  rw [z, h] at hb
  exact n xs (Option.some.inj hb)
theorem KeepT.st {H H' : Hp} {p : Addr} {xs : List V} {o : HO} (h : H p = some (.lst xs)) (e : upd H p o = H') : KeepT H H' := e ▸ KeepT.off h (fun _ z => nomatch z) fun b o n hb => by rw [upd_ne n]; exact hb
/-- rows of couples of ints, each a tuple -/
abbrev PairsT (H : Hp) : List V → List (Nat × Nat) → Prop := Paired fun x p => ∃ a, x = .ref a ∧ H a = some (.tup [.int (p.1 : Nat), .int (p.2 : Nat)])
theorem PairsT.keep {H H' : Hp} (k : KeepT H H') : ∀ {xs : List V} {ps : List (Nat × Nat)}, PairsT H xs ps → PairsT H' xs ps
  | _, _, .nil => .nil
  | _, _, .cons ⟨a, e, h⟩ t => .cons ⟨a, e, k _ _ h⟩ (PairsT.keep k t)
/-- rows of couples of texts, each a tuple -/
abbrev TiesT (H : Hp) : List V → List (Str × Str) → Prop := Paired fun x p => ∃ a, x = .ref a ∧ H a = some (.tup [.str p.1, .str p.2])
theorem TiesT.keep {H H' : Hp} (k : KeepT H H') : ∀ {xs : List V} {ps : List (Str × Str)}, TiesT H xs ps → TiesT H' xs ps
  | _, _, .nil => .nil
  | _, _, .cons ⟨a, e, h⟩ t => .cons ⟨a, e, k _ _ h⟩ (TiesT.keep k t)
theorem paired_app {α β : Type} {R : α → β → Prop} : ∀ {xs ys : List α} {ps qs : List β}, Paired R xs ps → Paired R ys qs → Paired R (xs ++ ys) (ps ++ qs)
  | _, _, _, _, .nil, h => h
  | _, _, _, _, .cons a t, h => .cons a (paired_app t h)
theorem paired_at {α β : Type} {R : α → β → Prop} : ∀ {xs : List α} {ps : List β}, Paired R xs ps → ∀ {i : Nat} {x : α}, xs[i]? = some x → ∃ p, ps[i]? = some p ∧ R x p
  | _, _, .cons a _, 0, x, e => by cases e; exact ⟨_, rfl, a⟩
  | _, _, .cons _ t, i + 1, x, e => paired_at t (i := i) e
theorem paired_mem {α β : Type} {R : α → β → Prop} : ∀ {xs : List α} {ps : List β}, Paired R xs ps → ∀ p ∈ ps, ∃ x ∈ xs, R x p
  | _, _, .cons a t, p, h => by
    cases h with
    | head => exact ⟨_, List.mem_cons_self, a⟩
    | tail _ h =>
      obtain ⟨x, hx, r⟩ := paired_mem t p h
      exact ⟨x, List.mem_cons_of_mem _ hx, r⟩
theorem paired_len {α β : Type} {R : α → β → Prop} : ∀ {xs : List α} {ps : List β}, Paired R xs ps → xs.length = ps.length
  | _, _, .nil => rfl
  | _, _, .cons _ t => congrArg (· + 1) (paired_len t)
def pairI (p : Nat × Nat) : PyData := .tuple [.int (p.1 : Nat), .int (p.2 : Nat)]
theorem PairsT.dp {K : PySem.W.Frag} {H : Hp} : ∀ {xs : List V} {ps : List (Nat × Nat)}, PairsT H xs ps → DpAll K H xs (ps.map pairI)
  | _, _, .nil => .nil
  | _, _, .cons ⟨a, e, h⟩ t => .cons (by subst e; exact .tup (SqT.of h) (.cons (.int _) (.cons (.int _) .nil))) (PairsT.dp t)
theorem eqv_pairI (p q : Nat × Nat) : PyData.eqv (pairI p) (pairI q) = decide (p = q) := by
  obtain ⟨a, b⟩ := p
  obtain ⟨c, d⟩ := q
  show PyData.eqvAll [.int (a : Nat), .int (b : Nat)] [.int (c : Nat), .int (d : Nat)] = _
  simp only [PyData.eqvAll, PyData.eqv, Bool.and_true]
  rw [Bool.eq_iff_iff, decide_eq_true_eq, Bool.and_eq_true, beq_iff_eq, beq_iff_eq]
  constructor
  · rintro ⟨h1, h2⟩
    rw [Int.ofNat_inj.mp h1, Int.ofNat_inj.mp h2]
  · intro h
    cases h
    exact ⟨rfl, rfl⟩
theorem any_pairI (ps : List (Nat × Nat)) (q : Nat × Nat) : ((ps.map pairI).any fun z => PyData.eqv z (pairI q)) = decide (q ∈ ps) := by
  rw [Bool.eq_iff_iff, decide_eq_true_eq, List.any_map, List.any_eq_true]
  constructor
  · rintro ⟨y, hy, e⟩
    have e : decide (y = q) = true := (eqv_pairI y q) ▸ e
    exact (of_decide_eq_true e) ▸ hy
  · exact fun h => ⟨q, h, by show PyData.eqv (pairI q) (pairI q) = true; rw [eqv_pairI]; exact decide_eq_true rfl⟩
theorem shaped_pairs (ps : List (Nat × Nat)) : SeqAt.shaped (.list (ps.map pairI)) = true := by
  have h1 : PyData.canLayAll0 (ps.map pairI) = true := by
    induction ps with
    | nil => rfl
    | cons p ps ih => rw [List.map_cons, PyData.canLayAll0, ih]; rfl
  have h2 : PyData.depthAll (ps.map pairI) ≤ 5 := by
    induction ps with
    | nil => simp [PyData.depthAll]
    | cons p ps ih => rw [List.map_cons, PyData.depthAll]; exact Nat.max_le.mpr ⟨by simp [pairI, PyData.depth, PyData.depthAll], ih (by rw [List.map_cons, PyData.canLayAll0] at h1; exact (Bool.and_eq_true_iff.mp h1).2)⟩
  unfold SeqAt.shaped
  rw [PyData.canLay0, h1, Bool.true_and]
  refine decide_eq_true ?_
  rw [PyData.depth]
  omega
theorem shaped_pair (q : Nat × Nat) : SeqAt.shaped (pairI q) = true := by simp [pairI, SeqAt.shaped, PyData.canLay0, PyData.canLayAll0, PyData.depth, PyData.depthAll]
/-- all but instances stands on -/
def SameD (H H' : Hp) : Prop := ∀ b o, H b = some o → (∀ C dx fs, o ≠ .ins C dx fs) → H' b = some o
theorem SameD.of {H H' : Hp} (s : Same H H') : SameD H H' := fun b o e _ => s b o e
theorem SameD.trans {H H1 H2 : Hp} (s : SameD H H1) (t : SameD H1 H2) : SameD H H2 := fun b o e n => t b o (s b o e n) n
theorem SameD.store {H : Hp} {x C dx : Addr} {fs : List (Str × V)} {o : HO} (h : H x = some (.ins C dx fs)) : SameD H (upd H x o) := fun b u e n => by
  rw [upd_ne (fun z => by rw [z, h] at e; cases e; exact n _ _ _ rfl)]
  exact e
theorem SameD.storeE {H H' : Hp} {x C dx : Addr} {fs : List (Str × V)} {o : HO} (h : H x = some (.ins C dx fs)) (e : upd H x o = H') : SameD H H' := e ▸ .store h
theorem free_of {H H' : Hp} {p : Addr} (s : Same H H') (np : H' p = none) : H p = none := by
  cases q : H p with
  | none => rfl
  | some o => rw [s p o q] at np; cases np
end Ct

set_option Elab.async false
set_option linter.all false
set_option maxRecDepth 100000
set_option maxHeartbeats 2000000
/-! Own kit T: a list against [], places as bits of a number. -/
namespace Ct
open PySem PySem.Spec PyProof.Rows L2
section
variable {X : Cx}
/-- xs == [], the list on the right just laid (or any empty list) -/
def rEqNil (K : PySem.W.Frag) (neg : Bool) : R2 := fun x y H Q => ∃ (a b : Addr) (xs : List V), x = .ref a ∧ y = .ref b ∧ SqL K H a xs ∧ SqL K H b [] ∧ Q (.bl (if neg then !xs.isEmpty else xs.isEmpty)) H
theorem op_eqNil (hu : X.A.units + 64 < cLine) : OpR X (compareOp .Eq) (rEqNil X.K false) := by
  intro pins s σ H x y v u Q I rx ry h
  obtain ⟨a, b, xs, rfl, rfl, hx, hy, q⟩ := h
  cases rx; cases ry
  obtain ⟨its, r, ht, hz⟩ := I.list hx
  obtain ⟨its2, r2, ht2, hz2⟩ := I.list hy
  cases r2
  have hl := r.length
  have room : X.A.units < cLine := by omega
  cases xs with
  | nil =>
    cases r
    exact SeqAt.RcAt.lists (e := fun _ => true) ht.isList ht2.isList rfl room (fun j j1 _ => absurd j1 (Nat.not_lt_zero _)) X.prog X.w X.xe _ ⟨.bl true, H, I, rfl, q⟩
  | cons z xs =>
    refine SeqAt.RcAt.lists_lengths ht.isList ht2.isList ?_ room X.prog X.w X.xe _ ⟨.bl false, H, I, rfl, q⟩
    rw [List.size_toArray, ← hl]
    rfl
theorem op_neNil (hu : X.A.units + 64 < cLine) : OpR X (compareOp .NotEq) (rEqNil X.K true) := by
  intro pins s σ H x y v u Q I rx ry h
  obtain ⟨a, b, xs, rfl, rfl, hx, hy, q⟩ := h
  cases rx; cases ry
  obtain ⟨its, r, ht, hz⟩ := I.list hx
  obtain ⟨its2, r2, ht2, hz2⟩ := I.list hy
  cases r2
  have hl := r.length
  have room : X.A.units < cLine := by omega
  cases xs with
  | nil =>
    cases r
    exact SeqAt.RcNeAt.lists (e := fun _ => true) ht.isList ht2.isList rfl room (fun j j1 _ => absurd j1 (Nat.not_lt_zero _)) X.prog X.w X.xe _ ⟨.bl false, H, I, rfl, q⟩
  | cons z xs =>
    refine SeqAt.RcNeAt.lists_lengths ht.isList ht2.isList ?_ room X.prog X.w X.xe _ ⟨.bl true, H, I, rfl, q⟩
    rw [List.size_toArray, ← hl]
    rfl
end
end Ct
namespace Ct
open PySem PySem.Spec PyProof.Rows L2
theorem op_inDk {X : Cx} {K : PySem.W.Frag} (hK : X.K = K) (hu : X.A.units + 65 < cLine) : OpR X (compareOp .In) (rInD K) := hK ▸ op_inD hu
theorem op_notInDk {X : Cx} {K : PySem.W.Frag} (hK : X.K = K) (hu : X.A.units + 65 < cLine) : OpR X (compareOp .NotIn) (rNotInD K) := hK ▸ op_notInD hu
end Ct
namespace Ct
open PySem PySem.Spec PyProof.Rows L2
theorem bitOr_nat (a b : Nat) : Builtin.bitOr (a : Int) (b : Int) = ((a ||| b : Nat) : Int) := by
  have n1 : ∀ a : Nat, ¬ (0 : Int) ≤ -(a : Int) - 1 := fun a => by omega
  have n2 : ∀ a : Nat, (-(-(a : Int) - 1) - 1).toNat = a := fun a => by omega
  unfold Builtin.bitOr Builtin.bitAnd Builtin.bitNot
  rw [decide_eq_false (n1 a), decide_eq_false (n1 b)]
  dsimp only
  rw [n2, n2]
  omega
theorem bitAnd_nat (a b : Nat) : Builtin.bitAnd (a : Int) (b : Int) = ((a &&& b : Nat) : Int) := by
  unfold Builtin.bitAnd
  rw [decide_eq_true (Int.natCast_nonneg a), decide_eq_true (Int.natCast_nonneg b)]
  rfl
section
variable {X : Cx}
def rNat (g : Nat → Nat → V) : R2 := fun x y H Q => ∃ a b : Nat, x = .int (a : Nat) ∧ y = .int (b : Nat) ∧ Q (g a b) H
/-- n >> k, n & m, n | m, n |= m, 1 << k for numbers from 0 on -/
theorem op_shrB : OpR X (binaryOp .RShift) (rNat fun a b => .int ((a / 2 ^ b : Nat))) := by
  intro pins s σ H x y v u Q I rx ry h
  obtain ⟨a, b, rfl, rfl, q⟩ := h
  refine op_shrN pins s σ H _ _ v u Q I rx ry ⟨a, b, rfl, rfl, ?_⟩
  rw [show (a : Int) / 2 ^ b = ((a / 2 ^ b : Nat) : Int) by rw [Int.natCast_ediv, Int.natCast_pow]; rfl]
  exact q
theorem op_andB : OpR X (binaryOp .BitAnd) (rNat fun a b => .int ((a &&& b : Nat))) := by
  intro pins s σ H x y v u Q I rx ry h
  obtain ⟨a, b, rfl, rfl, q⟩ := h
  exact op_and pins s σ H _ _ v u Q I rx ry ⟨a, b, rfl, rfl, by dsimp only; rw [bitAnd_nat]; exact q⟩
theorem op_orB : OpR X (binaryOp .BitOr) (rNat fun a b => .int ((a ||| b : Nat))) := by
  intro pins s σ H x y v u Q I rx ry h
  obtain ⟨a, b, rfl, rfl, q⟩ := h
  exact op_or pins s σ H _ _ v u Q I rx ry ⟨a, b, rfl, rfl, by dsimp only; rw [bitOr_nat]; exact q⟩
theorem iop_orB : OpR X (inplaceOp .BitOr) (rNat fun a b => .int ((a ||| b : Nat))) := by
  intro pins s σ H x y v u Q I rx ry h
  obtain ⟨a, b, rfl, rfl, q⟩ := h
  exact iop_or pins s σ H _ _ v u Q I rx ry ⟨a, b, rfl, rfl, by dsimp only; rw [bitOr_nat]; exact q⟩
theorem op_shlB : OpR X (binaryOp .LShift) (fun x y H Q => ∃ b : Nat, x = .int 1 ∧ y = .int (b : Nat) ∧ b ≤ 1000 ∧ Q (.int ((2 ^ b : Nat))) H) := by
  intro pins s σ H x y v u Q I rx ry h
  obtain ⟨b, rfl, rfl, hb, q⟩ := h
  refine op_oneShl pins s σ H _ _ v u Q I rx ry ⟨b, rfl, rfl, by omega, ?_⟩
  rw [show (2 : Int) ^ b = ((2 ^ b : Nat) : Int) by rw [Int.natCast_pow]; rfl]
  exact q
end
/-- the positions of a number's bits -/
def bitsL (N : Nat) : List Nat := (List.range (Builtin.Int.intBits (N : Int))).filter N.testBit
theorem bitsL_of {N n : Nat} (h : N < 2 ^ n) : bitsL N = (List.range n).filter N.testBit := by
  have h1 : Builtin.Int.intBits (N : Int) ≤ n := intBits_le_iff.mpr (by simpa using h)
  have h2 : N < 2 ^ Builtin.Int.intBits (N : Int) := by
    have := intBits_le_iff (m := Builtin.Int.intBits (N : Int)) (x := (N : Int))
    simpa using this.mp (Nat.le_refl _)
  unfold bitsL
  obtain ⟨d, rfl⟩ := Nat.le.dest h1
  rw [List.range_add, List.filter_append]
  have e : (List.map (fun x => Builtin.Int.intBits (N : Int) + x) (List.range d)).filter N.testBit = [] := by
    refine List.filter_eq_nil_iff.mpr fun i hi => ?_
    obtain ⟨j, _, rfl⟩ := List.mem_map.mp hi
    rw [Nat.testBit_lt_two_pow (Nat.lt_of_lt_of_le h2 (Nat.pow_le_pow_right (by decide) (Nat.le_add_right _ _)))]
    decide
  rw [e, List.append_nil]
theorem odd_test (N k : Nat) : ((N / 2 ^ k) % 2 = 1) ↔ N.testBit k = true := by
  rw [Nat.testBit_eq_decide_div_mod_eq, decide_eq_true_eq]
end Ct
namespace Ct
open PySem PySem.Spec PyProof.Rows L2
theorem ix_tupk {X : Cx} {K : PySem.W.Frag} (hK : X.K = K) : IxR X (rIxT K) := hK ▸ ix_tup
theorem ix_listk {X : Cx} {K : PySem.W.Frag} (hK : X.K = K) : IxR X (rIxL K) := hK ▸ ix_list
/-- numbers as values -/
abbrev natV (n : Nat) : V := .int (n : Nat)
end Ct
namespace Ct
open PySem PySem.Spec PyProof.Rows L2
def tTru (K : PySem.W.Frag) (ta : TE) : TT := fun σ H Q => ta σ H fun x H' => ∃ k, TruV K x H' k ∧ Q k H'
/-- a value's truth, the written part named -/
theorem pt_truthk {X : Cx} {K : PySem.W.Frag} {a : Expr} {ta : TE} (hK : X.K = K) (ha : PE X a ta) (he : ∀ whole, isTrue a X.env whole = (do let v ← whole; standAt a.pos; holding [v] (truthy v))) :
    PT X a (tTru K ta) := hK ▸ pt_truth ha he
end Ct
namespace Ct
open PySem PySem.Spec PyProof.Rows L2
section
variable {X : Cx} {K : PySem.W.Frag}
theorem pe_fldk {e : Expr} {f : Str} {pos : Pos} {ta : TE} (hK : X.K = K) (he : PE X e ta) (hb : attributeBase e f X.env (eval e X.env) = eval e X.env) : PE X (.Attribute e f pos) (tFld K ta f) := hK ▸ pe_fld he hb
theorem op_eqNilk (hK : X.K = K) (hu : X.A.units + 64 < cLine) : OpR X (compareOp .Eq) (rEqNil K false) := hK ▸ op_eqNil hu
theorem op_neNilk (hK : X.K = K) (hu : X.A.units + 64 < cLine) : OpR X (compareOp .NotEq) (rEqNil K true) := hK ▸ op_neNil hu
def rLen (K : PySem.W.Frag) : List V → Hp → VK → Prop := fun xs H Q => ∃ x n, xs = [x] ∧ LenV K x H n ∧ Q (.int n) H
theorem call_lenk (hK : X.K = K) : CallR X (.builtin "len") (rLen K) := hK ▸ call_len
theorem sl_listk (hK : X.K = K) : SlR X (rSlL K) := hK ▸ sl_list
end
end Ct
namespace Ct
open PySem PySem.Spec PyProof.Rows L2
/-- the number with just the bits below n that pass -/
def maskOf (f : Nat → Bool) : Nat → Nat
  | 0 => 0
  | n + 1 => maskOf f n ||| (if f n then 2 ^ n else 0)
theorem test_mask (f : Nat → Bool) (i : Nat) : ∀ n, (maskOf f n).testBit i = (decide (i < n) && f i)
  | 0 => by simp [maskOf]
  | n + 1 => by
    rw [maskOf, Nat.testBit_or, test_mask f i n]
    by_cases e : i = n
    · subst e
      cases h : f i <;> simp [h, Nat.testBit_two_pow]
    · have : (if f n = true then 2 ^ n else 0).testBit i = false := by
        split
        · rw [Nat.testBit_two_pow]
          exact decide_eq_false fun z => e z.symm
        · simp
      rw [this, Bool.or_false]
      congr 1
      rw [Bool.eq_iff_iff, decide_eq_true_eq, decide_eq_true_eq]
      omega
theorem mask_lt (f : Nat → Bool) (n : Nat) : maskOf f n < 2 ^ n := Nat.lt_pow_two_of_testBit _ fun i hi => by
  rw [test_mask, decide_eq_false (by omega), Bool.false_and]
theorem mask_congr {f g : Nat → Bool} {n : Nat} (h : ∀ i, i < n → f i = g i) : maskOf f n = maskOf g n := Nat.eq_of_testBit_eq fun i => by
  rw [test_mask, test_mask]
  by_cases c : i < n
  · rw [h i c]
  · rw [decide_eq_false c]; rfl
/-- a dict from names to numbers -/
def DN (kvs : List (Key × V)) (ns : List Str) (f : Str → Nat) (B : Nat) : Prop := kvs.length ≤ B ∧ ∀ p ∈ ns, valV kvs (.inr p) = some (natV (f p))
theorem DN.snoc {kvs : List (Key × V)} {ns : List Str} {f : Str → Nat} {B : Nat} {p : Str} {v : Nat} (h : DN kvs ns f B) (e : f p = v) : DN (putK kvs (.inr p) (natV v)) (ns ++ [p]) f (B + 1) := by
  refine ⟨Nat.le_trans (length_putK kvs _ _) (Nat.succ_le_succ h.1), fun q hq => ?_⟩
  rw [valV_put]
  by_cases c : q = p
  · rw [if_pos (by rw [c]), c, e]
  · rw [if_neg (fun z => c (Sum.inr.inj z))]
    rcases List.mem_append.mp hq with z | z
    · exact h.2 q z
    · exact absurd (List.mem_singleton.mp z) c
theorem DN.upd {kvs : List (Key × V)} {ns : List Str} {f g : Str → Nat} {B v : Nat} {p : Str} (h : DN kvs ns f B) (ev : g p = v) (e : ∀ q ∈ ns, q ≠ p → g q = f q) : DN (putK kvs (.inr p) (natV v)) ns g (B + 1) := by
  subst ev
  refine ⟨Nat.le_trans (length_putK kvs _ _) (Nat.succ_le_succ h.1), fun q hq => ?_⟩
  rw [valV_put]
  by_cases c : q = p
  · rw [if_pos (by rw [c]), c]
  · rw [if_neg (fun z => c (Sum.inr.inj z)), h.2 q hq, e q hq c]
theorem dgetN {H : Hp} {a : Addr} {kvs : List (Key × V)} {p : Str} {v : V} (h : H a = some (.dK kvs)) (e : valV kvs (.inr p) = some v) : DGet H a (.str p) (some v) := e ▸ DGet.k (k := Sum.inr p) h
theorem dputN {H : Hp} {a : Addr} {kvs : List (Key × V)} {p : Str} {v : V} (h : H a = some (.dK kvs)) (l : kvs.length < sizeLine) : DPut H a (.str p) v (upd H a (.dK (putK kvs (.inr p) v))) := DPut.k (k := Sum.inr p) h l
end Ct
namespace Ct
open PySem PySem.Spec PyProof.Rows L2
theorem in_orB {X : Cx} : InOp X .BitOr (rNat fun a b => .int ((a ||| b : Nat))) := fun pins s σ H x y u v Q I rx ry h => iop_orB pins s σ H x y u v Q I rx ry h
theorem pg_tupk {X : Cx} {K : PySem.W.Frag} {pos : Pos} {es : List Expr} {k : Nat} {t : TGs} {n : Nat} (hK : X.K = K) (hc : X.calm = true) (h : PGs X es t) (hn : (assignEach es X.env).length = n := by rfl) (hst : (assignEach es X.env).findIdx? (·.1) = none := by rfl) : PG X (.Tuple es k pos) (gTup K n t) := hK ▸ pg_tup hc h hn hst
end Ct
namespace Ct
open PySem PySem.Spec PyProof.Rows L2
theorem str_at {ns : List Str} {i : Nat} {x : V} (h : (ns.map V.str)[i]? = some x) : ∃ p, ns[i]? = some p ∧ x = .str p := by
  rw [List.getElem?_map] at h
  cases e : ns[i]? with
  | none => rw [e] at h; cases h
  | some p => rw [e] at h; exact ⟨p, rfl, (Option.some.inj h).symm⟩
theorem take_next2 {α : Type} {l : List α} {i : Nat} {x : α} (h : l[i]? = some x) : l.take (i + 1) = l.take i ++ [x] := by rw [List.take_succ, h]; rfl
end Ct
namespace Ct
open PySem PySem.Spec PyProof.Rows L2
theorem walk_zipT {K : PySem.W.Frag} {a b : Addr} {xs ys : List V} {n : Nat} (hn : n = min xs.length ys.length) : Walk (RZ.ItzT K a b) n (fun H => SqT K H a xs ∧ SqT K H b ys) (YPair (fun i => xs[i]?) (fun i => ys[i]?)) := by
  subst hn
  refine ⟨fun i _ hi q => ?_, fun _ q => ⟨xs, ys, q.1, q.2, by omega⟩, fun i H v H' _ q y => ?_⟩
  · have h1 : i < xs.length := by omega
    have h2 : i < ys.length := by omega
    exact ⟨xs, ys, xs[i], ys[i], q.1, q.2, by simp [h1], by simp [h2]⟩
  · obtain ⟨T, x, z, h1, h2, h3, h4, h5⟩ := y
    exact ⟨T, x, z, h1, h2, h3, h4 xs q.1, h5 ys q.2⟩
end Ct
namespace Ct
open PySem
theorem filter_one (f : Str → Bool) (q : Str) : [q].filter f = if f q = true then [q] else [] := by
  cases e : f q <;> simp [List.filter, e]
end Ct
namespace Ct
open PySem PySem.Spec PyProof.Rows L2
section
variable {X : Cx} {CX : CXT} {k : Nat} {f C : Addr} {fd : FuncData} {ps : List Str} {sp : Sp} {dvs : List V} {ds : List Value} {E : L2.St → XK} {x : Str} {p pos : Pos} {e : Expr} {es : List Expr} {t : TA}
/-- C(..), its reading in other words -/
theorem pe_makeG {G : List V → Hp → VK → Prop} (M : Mk X.K C f) (F : FnOk X.prog X.w X.K X.mg X.base CX k f fd ps sp) (hr : Room (k + 1) X.A) (hg : Gl X x) (hm : X.mg x = some (.ref C)) (hb : Binds X.K fd ps ds) (hd : Vals dvs ds)
    (hG : ∀ (vs : List V) (H1 : Hp) (Q : VK) (σ : L2.St) (x dx : Addr), G vs H1 Q → H1 x = none → H1 dx = none → dx ≠ x → sp (.ref x :: (vs ++ dvs)) (upd (upd H1 dx (.own x)) x (.ins C dx [])) (fun v H2 => v = .non ∧ Q (.ref x) H2) (E σ))
    (hx : ∀ (pins : List (Addr × Obj)) (σ : L2.St) (H : Hp) (s : Shared) (e : Value) (s' : Shared), Inv X pins σ H s → CX X.stack H s (E σ) e s' → X.xe e s')
    (ha : PA X (e :: es) t) (hdb : (x == ("__debug__" : Str)) = false := by decide) (he : starEach (e :: es) X.env = (false, eval e X.env) :: starEach es X.env := by rfl) (hpl : (backTo pos (starEach es X.env)).any (·.1) = false := by rfl) :
    PE X (.Call (.Name x p) (e :: es) [] pos) (fun σ H Q => t σ H fun vs H1 => G vs H1 Q) := by
  refine ⟨fun pins s σ H Q I h => ?_⟩
  refine wpAny_Call_Name_kw (ld_glob I hg hm ?_ hdb)
  refine PySem.W.callWith_K (h₀ := X.base) I.ok.mod.kin M.kp (thn (ha.run pos pins s σ H _ I h) fun us s1 ⟨vs, H1, I1, r, q⟩ => ⟨I1.kIn, ?_⟩) he hpl
  have hq := hG vs H1 _ σ (s1.heap.objs.size + 1) s1.heap.objs.size q (I1.hok.fresh (Nat.le_succ _)) (I1.hok.fresh (Nat.le_refl _)) (Nat.ne_of_lt (Nat.lt_succ_self _))
  have I2 := Inv.made (C := C) I1
  have r2 : Vals (V.ref (s1.heap.objs.size + 1) :: (vs ++ dvs)) (Value.ref (s1.heap.objs.size + 1) :: (us ++ ds)) := .cons rfl (r.append hd)
  have hl : (Value.ref (s1.heap.objs.size + 1) :: us ++ ds).length = ps.length := by
    have e := r2.length
    rw [F.len _ _ _ _ hq] at e
    exact e.symm
  refine wpAny_call (make_map (f := f) I1.kIn M.makes M.init (beq_iff_eq.mp M.fn) (codeAny_mono (F.run _ X.stack _ _ ⟨Value.ref (s1.heap.objs.size + 1) :: us, []⟩ (Value.ref (s1.heap.objs.size + 1) :: (us ++ ds)) _ _ (E σ) (hr.make C us [])
    (I2.env0.make C us []) (hb _ (Value.ref (s1.heap.objs.size + 1) :: us) I2.kIn hl) r2 hq) fun r s' hq' => ?_))
  match r, hq' with
  | .error e, hq' => exact hx pins σ _ _ e s' I2 hq'
  | .ok .next, hq' => exact False.elim hq'
  | .ok .brk, hq' => exact False.elim hq'
  | .ok .cont, hq' => exact False.elim hq'
  | .ok (.ret u), hq' =>
    obtain ⟨v, H', I3, rv, ev, q3⟩ := I2.after hq'
    subst ev
    exact ⟨rv, ⟨V.ref (s1.heap.objs.size + 1), H', I3, rfl, q3⟩⟩
end
end Ct
namespace Ct
open PySem PySem.Spec PyProof.Rows L2
/-- t + u, told by what it is -/
def rCatT2 (K : PySem.W.Frag) : R2 := fun x y H Q => ∃ a b xs ys, x = .ref a ∧ y = .ref b ∧ SqT K H a xs ∧ SqT K H b ys ∧ xs.length + ys.length ≤ sizeLine ∧ ∀ t H', Same H H' → SqT K H' t (xs ++ ys) → Q (.ref t) H'
theorem op_catT2 {X : Cx} : OpR X (binaryOp .Add) (rCatT2 X.K) := by
  intro pins s σ H x y v u Q I rx ry h
  obtain ⟨a, b, xs, ys, rfl, rfl, ha, hb, hz, q⟩ := h
  refine op_catA pins s σ H _ _ v u Q I rx ry ⟨a, b, xs, ys, rfl, rfl, ha, hb, hz, fun e => ?_, fun _ e => ?_, fun _ _ p hp => ?_⟩
  · subst e
    exact q b H (Same.refl H) hb
  · subst e
    exact q a H (Same.refl H) (by rw [List.append_nil]; exact ha)
  · exact q p _ (same_new hp) (SqT.of upd_same)
end Ct

set_option Elab.async false
set_option linter.all false
set_option maxRecDepth 100000
set_option maxHeartbeats 4000000
/-! t[::-1] of a pair. -/
namespace Ct
open PySem PySem.Spec PyProof.Rows L2
section
variable {prog : Program} {w : World} {A : Around} {E : Value → Shared → Prop} {s : Shared}
theorem backApplied {q : Addr} {tk : Value} {G : Int × Int × Nat → Shared → Prop} (hq : s.heap.IsSliceOf q .none .none tk) (p1 : IsPart tk (some (-1))) (g : G (1, -1, 2) s) :
    wpAny (model prog w) A (Builtin.Slice.sliceApplied (.ref q) (pure ((2 : Nat) : Int))) G E s := by
  obtain ⟨ob, hob, _, hd⟩ := id hq
  unfold Builtin.Slice.sliceApplied Builtin.Slice.sliceFields
  refine wpAny_bind (wpAny_bind (wpAny_field hob hd (x := .none) rfl (wpAny_bind (wpAny_field hob hd (x := .none) rfl (wpAny_bind (wpAny_field hob hd (x := tk) rfl (wpAny_pure ?_)))))))
  refine wpAny_bind (HT.slicePart_ p1 ?_)
  show wpAny _ _ (if ((-1 : Int) == 0) = true then _ else _) _ _ s
  rw [if_neg (by decide)]
  refine wpAny_bind (slicePart_none (wpAny_bind (slicePart_none (wpAny_bind (wpAny_pure ?_)))))
  exact wpAny_pure g
theorem getBack {t q : Addr} {x y tk : Value} {G : Value → Shared → Prop} (ht : IsTup s.heap t #[x, y]) (hq : s.heap.IsSliceOf q .none .none tk) (p1 : IsPart tk (some (-1)))
    (g : G (.ref s.heap.objs.size) { s with heap := s.heap.push { cls := .type "tuple", data := .seq #[y, x] } }) : wpAny (model prog w) A (getItem (.ref t) (.ref q)) G E s := by
  have fits : sizeOk (.seq #[y, x]) := by show 2 ≤ sizeLine; decide
  obtain ⟨ob, hob, hcl, hd⟩ := id hq
  have isS : s.TypeIs (.ref q) "slice" := ⟨ob, hob, hcl⟩
  unfold getItem
  try with_reducible refine wpAny_holding ?_
  first | refine wpAny_bind (wpAny_pure ?_) | skip
  refine wpAny_bind (wpAny_sequenceKey ht.typeIs (by decide) ?_)
  refine wpAny_bind (wpAny_callSpecial?_slot (name := Str.ofString "__getitem__") ht.typeIs PyProof.Rows.slot_tuple_getitem (wpAny_call_entry PyProof.Rows.slot_tuple_getitem ht.typeIs entry_tuple_getitem ?_ (args_tuple_getitem _ _)))
  show wpAny _ _ (Builtin.Tuple.tupleItemsOf (.ref t) >>= _) _ _ s
  refine wpAny_bind (tupleItemsOf_ ht (wpAny_bind (wpAny_typeOf isS ?_)))
  rw [if_pos (by decide)]
  refine wpAny_bind (backApplied hq p1 ?_)
  show wpAny _ _ (if ((1 : Int) == 0 && (-1 : Int) == 1 && (2 : Nat) == #[x, y].size) = true then _ else _) _ _ s
  rw [if_neg (fun z => by cases z)]
  first
    | exact wpAny_bind (m := Builtin.Tuple.tupleExact _) (wpAny_newObj_type (wpAny_pure ⟨_, rfl, wpAny_pure g⟩) fits)
    | exact wpAny_bind (m := Builtin.Tuple.tupleExact _) (wpAny_newObj_type (wpAny_bind (wpAny_pure (wpAny_pure ⟨_, rfl, wpAny_pure g⟩))) fits)
    | exact wpAny_bind (wpAny_bind (m := Builtin.Tuple.tupleExact _) (wpAny_newObj_type (wpAny_pure (wpAny_pure ⟨_, rfl, wpAny_pure g⟩)) fits))
    | exact wpAny_bind (wpAny_bind (m := Builtin.Tuple.tupleExact _) (wpAny_newObj_type (wpAny_pure ⟨_, rfl, wpAny_pure g⟩) fits))
end
section
variable {X : Cx}
def tBack (K : PySem.W.Frag) (te : TE) : TE := fun σ H Q => te σ H fun v H1 => ∃ a x y, v = .ref a ∧ SqT K H1 a [x, y] ∧ ∀ p, H1 p = none → Q (.ref p) (upd H1 p (.tup [y, x]))
theorem pe_back {e : Expr} {te : TE} {k : Nat} {p1 p2 p3 pos : Pos} (he : PE X e te) : PE X (.Subscript e (.Slice none none (some (.UnaryOp .USub (.Constant (.int 1) k p1) p2)) p3) pos) (tBack X.K te) := by
  refine ⟨fun pins s0 σ H G I h => Subscript_ (thn (he.run pins s0 σ H _ I h) fun v s1 ⟨z, H1, I1, r1, q1⟩ => ?_)⟩
  obtain ⟨a, x, y, ez, hx, g⟩ := q1
  subst ez
  cases r1
  have part : PO X (some (.UnaryOp .USub (.Constant (.int 1) k p1) p2)) (tPart (tUn (rU fun i => .int (-i)) (tC (.int 1)))) := po_some (pe_un un_neg pe_int)
  refine wpAny_Slice (thn (po_none.run pins s1 σ H1 (fun o J => o = none ∧ J = H1) I1 ⟨rfl, rfl⟩) fun vl s2 ⟨l, H2, I2, pl, el, e2⟩ => ?_)
  subst el e2
  refine thn (po_none.run pins s2 σ H2 (fun o J => o = none ∧ J = H2) I2 ⟨rfl, rfl⟩) fun vh s3 ⟨u, H3, I3, pu, eu, e3⟩ => ?_
  subst eu e3
  refine thn (part.run pins s3 σ H3 (fun o J => o = some (-1) ∧ J = H3) I3 ⟨1, rfl, -1, rfl, rfl, rfl⟩) fun vs s4 ⟨o, H4, I4, ps, eo, e4⟩ => ?_
  subst eo e4
  cases pl
  cases pu
  have I5 : Inv X pins σ H4 { s4 with heap := s4.heap.push { cls := .type "slice", data := .fields #[.none, .none, vs] } } := I4.kept (t' := s4.toks) fun b ob z => Heap.get?_push_of_some _ z
  obtain ⟨its, r, ht, hz⟩ := I5.tuple hx
  cases r with
  | cons ra r =>
    cases r with
    | cons rb r =>
      cases r
      rename_i ua ub
      refine tail_any (ops := [.ref a, .ref s4.heap.objs.size]) ht.typeIs (PyProof.Rows.slot_tuple_getitem.lookup) ?_ (by with_unfolding_all rfl)
      refine getBack (x := ua) (y := ub) ht (Heap.IsSliceOf.new _ .none .none vs) ps ?_
      refine ⟨.ref _, _, I5.laid (t' := s4.toks) (o := .tup [y, x]) (fun b ob z => Heap.get?_push_of_some _ z) (Nat.le_refl _) ?_, rfl, g _ (I5.hok.fresh (Nat.le_refl _))⟩
      exact ⟨by show 2 ≤ sizeLine; decide, [ub, ua], .cons rb (.cons ra .nil), IsTup.new _ _⟩
end
end Ct

set_option Elab.async false
set_option linter.all false
set_option maxRecDepth 100000
set_option maxHeartbeats 4000000
/-! try with several clauses that give the exception a name. -/
namespace Ct
open PySem PySem.Spec PyProof.Rows L2
/-- what a suite's end is behind the name's removal -/
def endsGone (i : Nat) (D : Ends) : Ends := { nx := fun τ G => D.nx (τ.set i none) G, rt := D.rt, bk := fun τ G => D.bk (τ.set i none) G, ct := fun τ G => D.ct (τ.set i none) G }
abbrev Clause := Value × Nat × (Addr → Value → Option Addr → TS)
/-- what the clauses wish, one after the other -/
def wNamed (K : PySem.W.Frag) (Wout : WX) (D : Ends) : List Clause → WX
  | [] => Wout
  | q :: r => fun k d τ G => ∃ yes, PySem.W.exmOne K k q.1 = some yes ∧ (yes = true → ∀ a, G a = none → q.2.2 a k d (endsGone q.2.1 D) (τ.set q.2.1 (some (.ref a))) G) ∧ (yes = false → wNamed K Wout D r k d τ G)
inductive Clauses (X : Cx) : List ExceptHandler → List Clause → Prop
  | nil : Clauses X [] []
  | cons {n x : Str} {c : Value} {i : Nat} {t : Addr → Value → Option Addr → TS} {b : Stmt} {bs : List Stmt} {p1 p2 : Pos} {hds : List ExceptHandler} {l : List Clause} (nm : Names X x c) (at_ : X.N[i]? = some n) (lo : X.env.kindOf n = some .local)
      (su : ∀ (a : Addr) (o : Obj) (k : Value) (d : Option Addr) (pn : List (Addr × Obj)), Zc k d o → (∃ vs, o.data = .fields vs) → PSs (X.suite a ((a, o) :: pn)) (b :: bs) (t a k d)) (r : Clauses X hds l) :
      Clauses X (.ExceptHandler (some (.Name x p1)) (some n) (b :: bs) p2 :: hds) ((c, i, t) :: l)
/-- an exception that has been noted and looked at -/
structure Air (X : Cx) (pins : List (Addr × Obj)) (B : Heap) (s0 s1 : Shared) (τ : L2.St) (G : Hp) (k : Value) (d : Option Addr) (a : Addr) (h : Heap) : Prop where
  inv : Inv X pins τ G s0
  keep : ∀ b o, s0.heap.get? b = some o → b ∉ frs X.stack → B.get? b = some o
  fly : HandSPX.FlyingZ B (X.env :: X.outer) a (Zc k d) h
  up : s0.heap.UpToSlots h
  os : s1.os = s0.os
  bare : AllBare s1.gens
  free : G a = none
  notL : a ≠ X.env.locals
  notF : a ∉ X.fs
section
variable {X : Cx} {pins : List (Addr × Obj)} {B : Heap} {s0 s1 : Shared} {τ : L2.St} {G : Hp} {k : Value} {d : Option Addr} {a : Addr} {h : Heap}
theorem Air.now (A : Air X pins B s0 s1 τ G k d a h) : Inv X pins τ G { s1 with heap := h } := A.inv.landed (s' := { s1 with heap := h }) A.keep A.fly.1 A.up A.os A.bare
theorem Air.within (A : Air X pins B s0 s1 τ G k d a h) : ∃ o, h.get? a = some o ∧ Zc k d o ∧ (∃ vs, o.data = .fields vs) ∧ Inv (X.suite a ((a, o) :: (X.pn ++ pins))) [] τ G { s1 with heap := h } := by
  obtain ⟨o, vs, e1, e2, e3⟩ := A.fly.there
  exact ⟨o, e1, e2, ⟨vs, e3⟩, A.now.suite e1 e3 A.free A.notL A.notF⟩
theorem Air.move (A : Air X pins B s0 s1 τ G k d a h) {h' : Heap} (f : HandSPX.FlyingZ B (X.env :: X.outer) a (Zc k d) h') (u : h.UpToSlots h') : Air X pins B s0 s1 τ G k d a h' :=
  ⟨A.inv, A.keep, f, A.up.trans u, A.os, A.bare, A.free, A.notL, A.notF⟩
/-- the clause's question -/
theorem Air.asks (A : Air X pins B s0 s1 τ G k d a h) {x : Str} {c : Value} {p : Pos} {yes : Bool} (nm : Names X x c) (e : PySem.W.exmOne X.K k c = some yes) {R : Bool → Shared → Prop} {E : Value → Shared → Prop} (r : R yes { s1 with heap := h }) :
    wpAny (model X.prog X.w) (X.A.mark (some (.ref a))) (eval (.Name x p) X.env) (fun v s => wpAny (model X.prog X.w) (X.A.mark (some (.ref a))) (excMatches (.ref a) v) R E s) E { s1 with heap := h } := by
  obtain ⟨o, e1, e2, _, S⟩ := A.within
  have L : PySem.W.Looks (model X.prog X.w) h (typeOf (.ref a)) k := fun _ _ _ _ z g => wpAny_typeOf_ref (z _ _ e1) (by rw [e2.1]; exact g)
  have M := PySem.W.exm_one (M := model X.prog X.w) A.now.kIn L e
  obtain ⟨g1, g2, g3 | ⟨g3, g4, g5⟩⟩ := nm
  · exact ld_glob (X := X.suite a ((a, o) :: (X.pn ++ pins))) S g1 g3 (M.here r) g2
  · exact ld_blt (X := X.suite a ((a, o) :: (X.pn ++ pins))) S g1 g3 g4 (M.here r) g5 g2
/-- no clause is left: it goes on -/
theorem Air.goesOn (A : Air X pins B s0 s1 τ G k d a h) (hs : X.stack = X.env :: X.outer) (hf : X.env.frame = some X.env.locals) {W : WX} (tk : Takes X W) {D : Ends} (w : W k d τ G) :
    wpAny (model X.prog X.w) X.A (handleBy (.ref a) X.env []) (SP X pins D) X.xe { s1 with heap := h } := by
  refine wpAny_handleBy_nil ?_
  obtain ⟨_, _, _, o, vs, tb, _, _, e1, _, e3, e4, _⟩ := id A.fly
  have last : wpAny (model X.prog X.w) X.A (setFlight (.ref a) X.env.frame) (fun _ s => wpAny (model X.prog X.w) X.A (throw (.ref a) : Sem Flow) (SP X pins D) X.xe s) X.xe { s1 with heap := h } := by
    rw [hf]
    exact HandSPX.setFlight_upZ A.fly fun h4 f4 u4 => wpAny_throw (tk _ _ ⟨a, B, s0, pins, τ, G, k, d, rfl, A.inv, A.keep, A.up.trans u4, .inr (.inr (by rw [hs]; exact f4)), A.free, A.os, A.bare, w⟩)
  unfold PySem.passOn
  refine wpAny_bind (wpAny_field e1 e3 e4 ?_)
  rw [if_neg (fun z => nomatch (eq_of_beq z : Value.ref tb = Value.none))]
  first
    | exact wpAny_bind (wpAny_pure (wpAny_bind last))
    | exact wpAny_bind last
theorem Air.handled (hs : X.stack = X.env :: X.outer) (hf : X.env.frame = some X.env.locals) (nd : X.N.Nodup) {W : WX} (tk : Takes X W) {D : Ends} : ∀ {hds : List ExceptHandler} {l : List Clause}, Clauses X hds l → Air X pins B s0 s1 τ G k d a h → wNamed X.K W D l k d τ G →
    wpAny (model X.prog X.w) X.A (handleBy (.ref a) X.env hds) (SP X pins D) X.xe { s1 with heap := h } := by
  intro hds l cl A
  induction cl with
  | nil => exact fun w => A.goesOn hs hf tk w
  | @cons n x c i t b bs p1 p2 hds l nm at_ lo su r ih =>
    rintro ⟨yes, e, wy, wn⟩
    refine wpAny_handleBy_cons (codeAny_handlers_test (A.asks nm e ?_)) (fun z => nomatch z)
    cases yes with
    | false => exact ih (wn rfl)
    | true =>
      refine codeAny_handlers_suite_as (HandSPX.lands_againZ A.fly fun h4 f4 u4 => ?_)
      have A4 := A.move f4 u4
      obtain ⟨o, e1, e2, e3, S⟩ := A4.within
      refine store_ok (X := X.suite a ((a, o) :: (X.pn ++ pins))) (v := .ref a) S nd at_ (.inl lo) rfl (fun s5 S5 => ?_) (.inr lo)
      refine wpAny_mono ((su a o k d (X.pn ++ pins) e2 e3).run [] s5 _ G _ S5 (wy rfl a A.free)) (fun f s6 z => ?_) (fun _ _ z => z.elim)
      have gone : ∀ {τ6 : L2.St} {G6 : Hp} {R : Shared → Prop}, Inv (X.suite a ((a, o) :: (X.pn ++ pins))) [] τ6 G6 s6 → (∀ s7, Inv X pins (τ6.set i none) G6 s7 → R s7) → wpAny (model X.prog X.w) X.A (do bindName X.env n .none; unbindBehindTheSuite X.env n p2) (fun _ s7 => R s7) X.xe s6 :=
        fun {τ6 G6 R} I6 z => gone_ok (I6.unsuite A.inv.ok) nd at_ lo z
      cases f with
      | ret u => obtain ⟨v6, τ6, G6, I6, r6, z6⟩ := z; exact gone I6 fun s7 J7 => ⟨_, _, _, J7, r6, z6⟩
      | next => obtain ⟨τ6, G6, I6, z6⟩ := z; exact gone I6 fun s7 J7 => ⟨_, _, J7, z6⟩
      | brk => obtain ⟨τ6, G6, I6, z6⟩ := z; exact gone I6 fun s7 J7 => ⟨_, _, J7, z6⟩
      | cont => obtain ⟨τ6, G6, I6, z6⟩ := z; exact gone I6 fun s7 J7 => ⟨_, _, J7, z6⟩
end
section
variable {X : Cx} {body : List Stmt} {hd : ExceptHandler} {hds : List ExceptHandler} {l : List Clause} {pos : Pos} {tb : WX → TS} {Wout : WX}
/-- try: body / except A as n: .. / except B as n: .. -/
theorem ps_try_named (hs : X.stack = X.env :: X.outer) (hf : X.env.frame = some X.env.locals) (nd : X.N.Nodup) (tk : Takes X Wout) (cl : Clauses X (hd :: hds) l)
    (hb : ∀ (W : WX) (pn : List (Addr × Obj)) (xe : Value → Shared → Prop), Takes (X.tr pn xe) W → PassesOwn (model X.prog X.w) X.A X.env xe → PSs (X.tr pn xe) body (tb W)) : PS X (.Try body (hd :: hds) [] [] pos) (fun D σ H => tb (wNamed X.K Wout D l) D σ H) := by
  refine ⟨fun pins s σ H D I q => wpAny_Try_except ?_⟩
  have ok := I.ok
  refine wpAny_mono ((hb (wNamed X.K Wout D l) (X.pn ++ pins) (fun u z => wpAny (model X.prog X.w) X.A (noteFrame u X.env) (fun _ z => wpAny (model X.prog X.w) X.A (setFlight u none) (fun _ z =>
    wpAny (model X.prog X.w) X.A (handleBy u X.env (hd :: hds)) (SP X pins D) X.xe z) X.xe z) X.xe z) (fun u s2 xx => ?_) PassesOwn.looking).run [] s σ H D (I.toTry _) q) (fun f s2 z => ?_) (fun _ _ z => z)
  · obtain ⟨a, B, s0, _, τ, G, k, d, rfl, J, keep, up, sky, free, os, bare, w⟩ := xx
    have frames : X.A.frames = some (X.env :: X.outer) := by rw [ok.frames, hs]
    refine Sky.land (env := X.env) (outer := X.outer) Zc.steady frames hf (hs ▸ sky) fun h3 f3 u3 => ?_
    obtain ⟨o, vs, e1, _, e3⟩ := f3.there
    have nf : a ∉ frs (X.env :: X.outer) := fun m => by
      obtain ⟨_, o', e', n'⟩ := f3.2.2.1.mem m
      cases e1.symm.trans e'
      exact n' _ e3
    refine Air.handled hs hf nd tk cl ⟨J.ofTry ok, keep, f3, up.trans u3, os, bare, free, fun z => ?_, fun m => ?_⟩ w
    · exact nf (List.mem_filterMap.mpr ⟨X.env, List.mem_cons_self, by rw [hf, z]⟩)
    · obtain ⟨e, m1, m2⟩ := List.mem_filterMap.mp m
      exact nf (List.mem_filterMap.mpr ⟨e, List.mem_cons_of_mem _ m1, m2⟩)
  · cases f with
    | ret u => obtain ⟨v, τ, G, J, r, z⟩ := z; exact ⟨v, τ, G, J.ofTry ok, r, z⟩
    | next => obtain ⟨τ, G, J, z⟩ := z; exact wpAny_execs_nil ⟨τ, G, J.ofTry ok, z⟩
    | brk => obtain ⟨τ, G, J, z⟩ := z; exact ⟨τ, G, J.ofTry ok, z⟩
    | cont => obtain ⟨τ, G, J, z⟩ := z; exact ⟨τ, G, J.ofTry ok, z⟩
end
end Ct
namespace Ct
open PySem PySem.Spec PyProof.Rows L2
section
variable {X : Cx}
/-- error.n of the exception that the clause has named -/
def tCaught (K : PySem.W.Frag) (a : Addr) (k : Value) (d : Option Addr) (n : Str) (te : TE) : TE := fun σ H Q => te σ H fun x G => x = .ref a ∧ ∃ (C dd : Addr) (fs : List (Str × V)) (v : V), k = .ref C ∧ d = some dd ∧ G dd = some (.xd fs) ∧ ExcC K C ∧ PySem.W.findIn K (.ref C) n = some none ∧ fs.lookup n = some v ∧ Q v G
theorem pe_caught {a : Addr} {o : Obj} {k : Value} {d : Option Addr} {pn : List (Addr × Obj)} {e : Expr} {te : TE} {n : Str} {pos : Pos} {K : PySem.W.Frag} (hK : X.K = K) (hz : Zc k d o) (hf : ∃ vs, o.data = .fields vs) (he : PE (X.suite a ((a, o) :: pn)) e te)
    (hb : attributeBase e n X.env (eval e X.env) = eval e X.env := by rfl) : PE (X.suite a ((a, o) :: pn)) (.Attribute e n pos) (tCaught K a k d n te) := by
  subst hK
  refine ⟨fun pins s σ H Q I h => attr_of hb (thn (he.run pins s σ H _ I h) fun u s1 hh => ?_)⟩
  obtain ⟨x, G, J, rx, ex, C, dd, fs, v, ec, ed, ea, T, no, l, q⟩ := hh
  subst ex ec ed
  cases (show u = Value.ref a from rx)
  obtain ⟨here, _⟩ := J.pin (a, o) (List.mem_append_left _ List.mem_cons_self)
  obtain ⟨vs, dat⟩ := hf
  obtain ⟨mA, ns, rl⟩ : ObjOk X.prog X.w G s1.heap dd (.xd fs) := J.hok dd _ ea
  obtain ⟨od, hod, lk⟩ := lookIn_ns ns
  obtain ⟨u, hu, ru⟩ := RelO.some_of (v := v) (o := mA n) (by rw [← l]; exact rl n)
  have inst : PySem.W.InstAt s1.heap a o C (some od) := ⟨here, hz.1, by unfold PySem.W.notCls; rw [dat] <;> rfl, by rw [hz.2]; exact hod⟩
  exact PySem.HandSPX.exc_get J.kIn inst T.hg T.hk T.hs (PySem.W.findObj_own T.hd no rfl (by rw [lk, hu])) (handed_of ru) ⟨v, G, J.tok _, ru, q⟩
end
end Ct

set_option Elab.async false
set_option linter.all false
set_option maxRecDepth 100000
set_option maxHeartbeats 4000000
/-! One promise behind a statement; a dict display of one pair with a tuple for its key; what is shown of data. -/
namespace Ct
open PySem PySem.Spec PyProof.Rows L2
/-- a statement's end told once, for all its ways -/
def tJoin (t : TS) : TS := fun D σ H => ∃ J : L2.St → Hp → Prop, t { D with nx := J } σ H ∧ ∀ τ G, J τ G → D.nx τ G
section
variable {X : Cx}
theorem ps_join {st : Stmt} {t : TS} (h : PS X st t) : PS X st (tJoin t) := by
  refine ⟨fun pins s σ H D I ⟨J, h1, h2⟩ => ?_⟩
  refine wpAny_mono (h.run pins s σ H { D with nx := J } (I.wish _) h1) (fun f s1 q => ?_) (fun _ _ z => z)
  have q' : SP X pins { D with nx := J } f s1 := q
  cases f with
  | next => obtain ⟨τ, G, I2, q2⟩ := q'; exact ⟨τ, G, I2, h2 _ _ q2⟩
  | ret v => exact q'
  | brk => exact q'
  | cont => exact q'
def tDispT (tk tv : TE) : TE := fun σ H Q => ∀ p, H p = none → tk σ (upd H p (.dT [])) fun x H1 => tv σ H1 fun y H2 => ∃ (b : Addr) (k : List Key), x = .ref b ∧ H2 b = some (.tup (k.map kV)) ∧ H2 p = some (.dT []) ∧ Q (.ref p) (upd H2 p (.dT [(k, y)]))
theorem pe_dispT {k v : Expr} {tk tv : TE} {pos : Pos} (hu : X.A.units + 1 < cLine) (hk : PE X k tk) (hv : PE X v tv) : PE X (.Dict [some k] [v] pos) (tDispT tk tv) := by
  have hh : PPs X pos [some k] [v] [(tk, tv)] := pps_cons hk hv pps_nil
  refine ⟨fun pins s σ H Q I q => ?_⟩
  have hn := I.hok.fresh (Nat.le_refl s.heap.objs.size)
  have I1 := I.laid (a := s.heap.objs.size) (o := .dT []) (h' := s.heap.push { cls := .type "dict", data := .dict #[] }) (t' := s.toks) (fun _ _ z => Heap.get?_push_of_some _ z) (Nat.le_refl _) (dt_empty s.heap I.big)
  have mono : ∀ {τ : L2.St} {G : Hp}, tk τ G (fun x H1 => tv τ H1 fun y H2 => ∃ (b : Addr) (k : List Key), x = .ref b ∧ H2 b = some (.tup (k.map kV)) ∧ H2 s.heap.objs.size = some (.dT []) ∧ Q (.ref s.heap.objs.size) (upd H2 s.heap.objs.size (.dT [(k, y)]))) →
      tPairs [(tk, tv)] τ G (fun ps H2 => ∃ (b : Addr) (k : List Key) (y : V), ps = [(.ref b, y)] ∧ H2 b = some (.tup (k.map kV)) ∧ H2 s.heap.objs.size = some (.dT []) ∧ Q (.ref s.heap.objs.size) (upd H2 s.heap.objs.size (.dT [(k, y)]))) := by
    intro τ G z
    show tk τ G fun x H1 => tv τ H1 fun y H2 => ∃ (b : Addr) (k : List Key) (y' : V), [(x, y)] = [(.ref b, y')] ∧ _
    have e : (fun (x : V) (H1 : Hp) => tv τ H1 fun y H2 => ∃ (b : Addr) (k : List Key), x = .ref b ∧ H2 b = some (.tup (k.map kV)) ∧ H2 s.heap.objs.size = some (.dT []) ∧ Q (.ref s.heap.objs.size) (upd H2 s.heap.objs.size (.dT [(k, y)]))) =
        fun (x : V) (H1 : Hp) => tv τ H1 fun y H2 => ∃ (b : Addr) (k : List Key) (y' : V), [(x, y)] = [(V.ref b, y')] ∧ H2 b = some (.tup (k.map kV)) ∧ H2 s.heap.objs.size = some (.dT []) ∧ Q (.ref s.heap.objs.size) (upd H2 s.heap.objs.size (.dT [(k, y')])) := by
      funext x H1
      refine congrArg _ ?_
      funext y H2
      refine propext ⟨fun ⟨b, k, e, r⟩ => ⟨b, k, y, by rw [e], r⟩, fun ⟨b, k, y', e, r⟩ => ?_⟩
      cases e
      exact ⟨b, k, rfl, r⟩
    rw [← e]
    exact z
  rw [arm_eval_Dict, zip_pairTrees [some k] [v] X.env pos (by rfl) (by rfl), dictDisplay_pairs _ (fun z => ?_) (by have := pairTrees_length [some k] [v] X.env pos (by rfl) (by rfl); rw [this]; show 1 < 17; decide)]
  · refine wpAny_bind (wpAny_standAt (wpAny_bind (wpAny_subDictH (knd := tupleKind (mixKind X.prog X.w)) (Q := fun d s' => wpAny (model X.prog X.w) X.A (pure (Value.ref d)) (EP X pins σ Q) X.xe s') (show X.A.units < cLine by omega) (by rw [pairTrees_length [some k] [v] X.env pos (by rfl) (by rfl)]; show 1 ≤ 15; decide) ?_)))
    refine thn (hh.run pins _ σ _ _ I1 (mono (q _ hn))) fun ws s2 ⟨ps, H2, I2, rel, b, ks, y, ep, hb, hd, q2⟩ => ?_
    subst ep
    cases rel with
    | @cons p1 w1 _ _ r1 t1 =>
      cases t1
      obtain ⟨wk, wv⟩ := w1
      obtain ⟨r1, r2⟩ := r1
      cases (show wk = Value.ref b from r1)
      obtain ⟨_, h2, xs, rel0, dd⟩ := dt_of I2.hok hd
      cases rel0
      refine ⟨[(ks, b, wv)], ⟨rfl, rfl, key_of I2.hok hb, trivial⟩, dd, fun h' tk' dd' hs => wpAny_pure ⟨.ref s.heap.objs.size, _, ?_, rfl, q2⟩⟩
      obtain ⟨o, es, ep, hq, g2, g3, g4, _, g5⟩ := dd'
      refine d_write I2 (by rw [hd]; exact True.intro) hs ⟨o, hq⟩ ⟨by show 1 ≤ sizeLine; decide, h2, _, .cons ⟨rfl, ?_, r2⟩ .nil, o, es, ep, hq, g2, g3, g4, g5⟩
      rw [upd_ne (ne_of hb hd (fun z => nomatch z))]
      exact hb
  · have := pairTrees_length [some k] [v] X.env pos (by rfl) (by rfl)
    rw [z] at this
    exact absurd (show 0 = 1 from this) (by decide)
end
end Ct

set_option Elab.async false
set_option linter.all false
set_option maxRecDepth 100000
set_option maxHeartbeats 2000000
namespace P76
open PySem PySem.Spec PyProof.Rows L2 Ct
/-! the two errors and the others -/
def clsN : List Str := ["BadPost", "BadPace", "BadMove", "BadPlaces", "BadPlan", "NoPlace"]
structure Er (K : PySem.W.Frag) (mg : Str → Option Value) (C fI : Nat → Addr) (CW : Addr) : Prop where
  g : ∀ i nm, clsN[i]? = some nm → mg nm = some (.ref (C i))
  x : ∀ i, i < 2 → XCls K (C i) (fI i)
  no : ∀ i, i < 2 → PySem.W.findIn K (.ref (C i)) "value" = some none
  isi : ∀ i j, i < 2 → j < 6 → PySem.W.kitOne K (.ref (C i)) (.ref (C j)) = some (decide (i = j))
  isW : ∀ i, i < 2 → PySem.W.kitOne K (.ref (C i)) (.ref CW) = some true
  isV : ∀ i, i < 2 → PySem.W.kitOne K (.ref (C i)) (.type "ValueError") = some true
  gW : mg "WebError" = some (.ref CW)
/-- an error of the i-th class that holds v -/
def ErrAt (C : Nat → Addr) (H : Hp) (i : Nat) (a : Addr) (v : V) : Prop := ∃ d, H a = some (exo a (C i) (some d)) ∧ H d = some (exd d [("value", v)])
/-- right(error, kind) -/
def spRight (C : Nat → Addr) : Sp := fun vs H Q _ => ∃ (a : Addr) (i : Nat) (v : V), vs = [.ref a, .int (i : Nat)] ∧ i < 2 ∧ ErrAt C H i a v ∧ ∀ H', Same H H' → Q (.bl true) H'
theorem dat2 : ∀ i : _root_.Fin 2, SeqAt.shaped (.list [.bool (decide (i.val = 0)), .bool (decide (i.val = 1))]) = true ∧ PyData.eqv (.list [.bool (decide (i.val = 0)), .bool (decide (i.val = 1))]) (.list [.bool (decide (i.val = 0)), .bool (decide (i.val = 1))]) = true := by decide +kernel
theorem dat4 : SeqAt.shaped (.list [.bool false, .bool false, .bool false, .bool false]) = true ∧ PyData.eqv (.list [.bool false, .bool false, .bool false, .bool false]) (.list [.bool false, .bool false, .bool false, .bool false]) = true := by decide +kernel
section
variable {P : Program} {w : World} {K : PySem.W.Frag} {mg : Str → Option Value} {base : Heap} {C fI : Nat → Addr} {CW : Addr}
theorem ErrAt.same {H H' : Hp} {i : Nat} {a : Addr} {v : V} (s : Same H H') (h : ErrAt C H i a v) : ErrAt C H' i a v := by
  obtain ⟨d, h1, h2⟩ := h
  exact ⟨d, s _ _ h1, s _ _ h2⟩
theorem is_step {H : Hp} {σ : L2.St} {a : Addr} {i j : Nat} {v : V} {Q : VK} (R : Er K mg C fI CW) (hi : i < 2) (hj : j < 6) (e : ErrAt C H i a v) (hσ : σ[0]? = some (some (.ref a))) (q : Q (.bl (decide (i = j))) H) :
    tCB (rIsX K) (tCons (tVar 0) (tCons (tC (.ref (C j))) tNil)) σ H Q := by
  obtain ⟨d, h1, h2⟩ := e
  exact ⟨_, hσ, a, _, d, _, _, _, _, rfl, h1, h2, (R.x i hi).xe, .own _, R.isi i j hi hj, q⟩
abbrev sRight : Stmt := top 13
theorem scRight : FnScope ["error", "kind", "others"] ["error", "kind"] (defScope sRight) := ⟨rfl, rfl, rfl, by decide +kernel, rfl, by decide +kernel, by decide +kernel⟩
theorem has_right (T : Bn mg) (R : Er K mg C fI CW) (D : DFE K mg "_law_right" sRight ["error", "kind"]) : Has P w K mg base CX0 1 "_law_right" ["error", "kind"] (spRight C) := by
  refine has_of D scRight (fun vs H Q E h => ?_) (fun f cdv A outer s H vs Q E hr h => ?_)
  · obtain ⟨a, i, v, rfl, _⟩ := h; rfl
  · obtain ⟨a, i, v, rfl, hi, he, k⟩ := h
    have nd := scRight.nd
    refine ⟨_, (pss_cons (ps_if (PW.pt (pw_or (pt_not (pt_val (pe_callB call_isX (by rfl) T.z_isinstance (by decide +kernel) (pa_cons (pv 0) (pa_cons (pe_ref rfl R.gW) pa_nil))))) (pw_or1 (pt_not (pt_val (pe_callB call_isX (by rfl) T.z_isinstance (by decide +kernel) (pa_cons (pv 0) (pa_cons (pe_bltn (v := .ty "ValueError") rfl T.z_ValueError (by decide +kernel) rfl) pa_nil)))))))) (pss_one (ps_ret pe_bl)) pss_nil)
    (pss_cons (ps_if (pt_cmpR (op_neD hr.units) (pe_lst (pa_cons (pe_callB call_isX (by rfl) T.z_isinstance (by decide +kernel) (pa_cons (pv 0) (pa_cons (pe_ref rfl (R.g 0 _ rfl)) pa_nil))) (pa_cons (pe_callB call_isX (by rfl) T.z_isinstance (by decide +kernel) (pa_cons (pv 0) (pa_cons (pe_ref rfl (R.g 1 _ rfl)) pa_nil))) pa_nil))) (pe_lst (pa_cons (pe_cmpR op_eq (pv 1) pe_int (by first | exact nomark _ | rfl)) (pa_cons (pe_cmpR op_eq (pv 1) pe_int (by first | exact nomark _ | rfl)) pa_nil))) (by first | exact nomark _ | rfl)) (pss_one (ps_ret pe_bl)) pss_nil)
    (pss_cons (ps_sv 2 nd (pe_lst (pa_cons (pe_callB call_isX (by rfl) T.z_isinstance (by decide +kernel) (pa_cons (pv 0) (pa_cons (pe_ref rfl (R.g 2 _ rfl)) pa_nil))) (pa_cons (pe_callB call_isX (by rfl) T.z_isinstance (by decide +kernel) (pa_cons (pv 0) (pa_cons (pe_ref rfl (R.g 3 _ rfl)) pa_nil))) (pa_cons (pe_callB call_isX (by rfl) T.z_isinstance (by decide +kernel) (pa_cons (pv 0) (pa_cons (pe_ref rfl (R.g 4 _ rfl)) pa_nil))) pa_nil)))))
    (pss_one (ps_ret (pe_cmpR (op_eqD hr.units) (pe_op op_cat (pv 2) (pe_lst (pa_cons (pe_callB call_isX (by rfl) T.z_isinstance (by decide +kernel) (pa_cons (pv 0) (pa_cons (pe_ref rfl (R.g 5 _ rfl)) pa_nil))) pa_nil))) (pe_op op_rep (pe_lst (pa_cons pe_bl pa_nil)) pe_int) (by first | exact nomark _ | rfl))))))), ?_⟩
    obtain ⟨d, h1, h2⟩ := id he
    refine ⟨_, rfl, a, _, d, _, _, _, _, rfl, h1, h2, (R.x i hi).xe, .own _, R.isW i hi, _, rfl, ?_⟩
    refine iteF ⟨_, rfl, a, _, d, _, _, _, _, rfl, h1, h2, (R.x i hi).xe, .ty _, R.isV i hi, _, rfl, ?_⟩
    refine iteF ?_
    refine is_step R hi (by decide) he rfl (is_step R hi (by decide) he rfl ⟨(by show 2 ≤ sizeLine; decide), fun p1 n1 => ?_⟩)
    have s1 := same_new (o := .lst [.bl (decide (i = 0)), .bl (decide (i = 1))]) n1
    have g1 : (upd H p1 (.lst [.bl (decide (i = 0)), .bl (decide (i = 1))])) p1 = some (.lst [.bl (decide (i = 0)), .bl (decide (i = 1))]) := upd_same
    generalize upd H p1 (.lst [.bl (decide (i = 0)), .bl (decide (i = 1))]) = H1 at s1 g1 ⊢
    have ek : ∀ j : Nat, (decide (V.int (i : Nat) = V.int (j : Nat))) = decide (i = j) := fun j => decide_eq_decide.mpr ⟨fun z => by have := V.int.inj z; omega, fun z => by rw [z]⟩
    refine ⟨_, rfl, rfl, _, rfl, rfl, ?_⟩
    have e0 := ek 0
    have e1 := ek 1
    have e0 : decide (V.int (i : Nat) = V.int 0) = decide (i = 0) := e0
    have e1 : decide (V.int (i : Nat) = V.int 1) = decide (i = 1) := e1
    rw [e0, e1]
    refine ⟨(by show 2 ≤ sizeLine; decide), fun p2 n2 => ?_⟩
    have s2 := same_new (o := .lst [.bl (decide (i = 0)), .bl (decide (i = 1))]) n2
    have g2 : (upd H1 p2 (.lst [.bl (decide (i = 0)), .bl (decide (i = 1))])) p2 = some (.lst [.bl (decide (i = 0)), .bl (decide (i = 1))]) := upd_same
    generalize upd H1 p2 (.lst [.bl (decide (i = 0)), .bl (decide (i = 1))]) = H2 at s2 g2 ⊢
    obtain ⟨sh, eq⟩ := dat2 ⟨i, hi⟩
    refine ⟨.list [.bool (decide (i = 0)), .bool (decide (i = 1))], .list [.bool (decide (i = 0)), .bool (decide (i = 1))], .lst (SqL.of (s2 _ _ g1)) (.cons (.bl _) (.cons (.bl _) .nil)), .lst (SqL.of g2) (.cons (.bl _) (.cons (.bl _) .nil)), sh, sh, _, rfl, ?_⟩
    rw [eq]
    refine iteF ?_
    have he2 := he.same (s1.trans s2)
    refine is_step R hi (by decide) he2 rfl (is_step R hi (by decide) he2 rfl (is_step R hi (by decide) he2 rfl ⟨(by show 3 ≤ sizeLine; decide), fun p3 n3 => ?_⟩))
    have f2 : decide (i = 2) = false := decide_eq_false (by omega)
    have f3 : decide (i = 3) = false := decide_eq_false (by omega)
    have f4 : decide (i = 4) = false := decide_eq_false (by omega)
    have f5 : decide (i = 5) = false := decide_eq_false (by omega)
    rw [f2, f3, f4]
    have s3 := same_new (o := .lst [.bl false, .bl false, .bl false]) n3
    have g3 : (upd H2 p3 (.lst [.bl false, .bl false, .bl false])) p3 = some (.lst [.bl false, .bl false, .bl false]) := upd_same
    generalize upd H2 p3 (.lst [.bl false, .bl false, .bl false]) = H3 at s3 g3 ⊢
    have he3 := he2.same s3
    refine ⟨_, rfl, is_step R hi (by decide) he3 rfl ⟨(by show 1 ≤ sizeLine; decide), fun p4 n4 => ?_⟩⟩
    rw [f5]
    have s4 := same_new (o := .lst [.bl false]) n4
    have g4 : (upd H3 p4 (.lst [.bl false])) p4 = some (.lst [.bl false]) := upd_same
    generalize upd H3 p4 (.lst [.bl false]) = H4 at s4 g4 ⊢
    refine ⟨_, _, _, _, rfl, rfl, s4 _ _ g3, g4, (by show 4 ≤ sizeLine; decide), fun p5 n5 => ?_⟩
    have s5 := same_new (o := .lst ([.bl false, .bl false, .bl false] ++ [.bl false])) n5
    have g5 : (upd H4 p5 (.lst ([.bl false, .bl false, .bl false] ++ [.bl false]))) p5 = some (.lst ([.bl false, .bl false, .bl false] ++ [.bl false])) := upd_same
    generalize upd H4 p5 (.lst ([.bl false, .bl false, .bl false] ++ [.bl false])) = H5 at s5 g5 ⊢
    refine ⟨(by show 1 ≤ sizeLine; decide), fun p6 n6 => ?_⟩
    have s6 := same_new (o := .lst [.bl false]) n6
    have g6 : (upd H5 p6 (.lst [.bl false])) p6 = some (.lst [.bl false]) := upd_same
    generalize upd H5 p6 (.lst [.bl false]) = H6 at s6 g6 ⊢
    refine ⟨p6, 4, _, rfl, rfl, g6, by decide, by decide, (by show 4 ≤ sizeLine; decide), fun p7 n7 => ?_⟩
    have e4 : (List.replicate (Int.toNat 4) [V.bl false]).flatten = [.bl false, .bl false, .bl false, .bl false] := rfl
    rw [e4]
    have s7 := same_new (o := .lst [.bl false, .bl false, .bl false, .bl false]) n7
    have g7 : (upd H6 p7 (.lst [.bl false, .bl false, .bl false, .bl false])) p7 = some (.lst [.bl false, .bl false, .bl false, .bl false]) := upd_same
    generalize upd H6 p7 (.lst [.bl false, .bl false, .bl false, .bl false]) = H7 at s7 g7 ⊢
    refine ⟨.list [.bool false, .bool false, .bool false, .bool false], .list [.bool false, .bool false, .bool false, .bool false], .lst (SqL.of ((s6.trans s7) _ _ g5)) (.cons (.bl _) (.cons (.bl _) (.cons (.bl _) (.cons (.bl _) .nil)))), .lst (SqL.of g7) (.cons (.bl _) (.cons (.bl _) (.cons (.bl _) (.cons (.bl _) .nil)))), dat4.1, dat4.1, ?_⟩
    rw [dat4.2]
    exact k _ ((((((s1.trans s2).trans s3).trans s4).trans s5).trans s6).trans s7)
end
end P76

set_option Elab.async false
set_option linter.all false
set_option maxRecDepth 100000
set_option maxHeartbeats 4000000
namespace P76
open PySem PySem.Spec PyProof.Rows L2 Ct
/-- a class whose __init__ keeps its promise -/
def HasX (P : Program) (w : World) (K : PySem.W.Frag) (mg : Str → Option Value) (base : Heap) (k : Nat) (C fI : Addr) (f : Str) : Prop :=
  XCls K C fI ∧ ∃ fd, FnOk P w K mg base CX0 k fI fd ["self", f] (spXI C f) ∧ (∀ (s : Shared) (a w : Value), BindsTo s fd ⟨[a, w], []⟩ [("self", a), (f, w)]) ∧ ∀ (s : Shared) (a w : Value), BindsTo s fd ⟨[a], [(f, w)]⟩ [("self", a), (f, w)]
section
variable {X : Cx} {k j : Nat} {C fI : Addr} {x f : Str} {p pos kp : Pos} {e : Expr} {te : TE}
theorem pe_mp (h : HasX X.prog X.w X.K X.mg X.base k C fI f) (hr : Room j X.A) (l : k + 1 ≤ j) (hg : Gl X x) (hm : X.mg x = some (.ref C)) (he : PE X e te) (hdb : (x == ("__debug__" : Str)) = false := by decide)
    (hs : starEach [e] X.env = (false, eval e X.env) :: starEach [] X.env := by rfl) : PE X (.Call (.Name x p) [e] [] pos) (tMkX C f te) := by
  obtain ⟨T, fd, F, b, _⟩ := h
  exact pe_mkX T F (hr.mono l) b hg hm he hdb hs
theorem pe_mkw (h : HasX X.prog X.w X.K X.mg X.base k C fI f) (hr : Room j X.A) (l : k + 1 ≤ j) (hg : Gl X x) (hm : X.mg x = some (.ref C)) (he : PE X e te) (hdb : (x == ("__debug__" : Str)) = false := by decide) :
    PE X (.Call (.Name x p) [] [⟨some f, e, kp⟩] pos) (tMkX C f te) := by
  obtain ⟨T, fd, F, _, b⟩ := h
  exact pe_mkXk T F (hr.mono l) b hg hm he hdb
end
section
variable {P : Program} {w : World} {K : PySem.W.Frag} {mg : Str → Option Value} {base : Heap} {C fI : Nat → Addr} {CW : Addr}
theorem mk_step {H : Hp} {a d : Addr} {i : Nat} {v : V} (ha : H a = none) (hd : H d = none) (ne : d ≠ a) : Same H (mkH H a d (C i) "value" v) ∧ ErrAt C (mkH H a d (C i) "value" v) i a v := by
  refine ⟨fun b o e => ?_, d, upd_same, ?_⟩
  · unfold mkH
    rw [upd_ne (ne_of_none e ha), upd_ne (ne_of_none e hd)]
    exact e
  · unfold mkH
    rw [upd_ne ne]
    exact upd_same
end
end P76

set_option Elab.async false
set_option linter.all false
set_option maxRecDepth 100000
set_option maxHeartbeats 4000000
namespace P76
open PySem PySem.Spec PyProof.Rows L2 Ct
/-! the things that the law draws, with what has been put in behind them -/
def ddl (m : Bool) : List (Key × V) := if m then [(.inr "a", .int 1), (.inr "late", .int 0)] else [(.inr "a", .int 1)]
def bsl (b : Bool) : List V := if b then [.int 5] else [.str "a", .non]
def lsl (b : Bool) (n : Nat) : List V := bsl b ++ List.replicate n (.int 0)
inductive Th (H : Hp) (j : Nat) : V → Prop
  | non : Th H j .non
  | bl : Th H j (.bl true)
  | int (i : Int) : -3 ≤ i → i < 60 → Th H j (.int i)
  | str : Th H j (.str "x")
  | tup (a : Addr) : H a = some (.tup [.int 1]) → Th H j (.ref a)
  | lst (a : Addr) (b : Bool) (n : Nat) : H a = some (.lst (lsl b n)) → n ≤ j → Th H j (.ref a)
  | dic (a : Addr) (m : Bool) : H a = some (.dK (ddl m)) → Th H j (.ref a)
theorem Th.same {H H' : Hp} {j : Nat} {v : V} (s : Same H H') (h : Th H j v) : Th H' j v := by
  cases h with
  | non => exact .non
  | bl => exact .bl
  | int i h0 h1 => exact .int i h0 h1
  | str => exact .str
  | tup a h => exact .tup a (s _ _ h)
  | lst a b n h hn => exact .lst a b n (s _ _ h) hn
  | dic a m h => exact .dic a m (s _ _ h)
theorem Th.more {H : Hp} {j k : Nat} {v : V} (h : Th H j v) (l : j ≤ k) : Th H k v := by
  cases h with
  | non => exact .non
  | bl => exact .bl
  | int i h0 h1 => exact .int i h0 h1
  | str => exact .str
  | tup a h => exact .tup a h
  | lst a b n h hn => exact .lst a b n h (Nat.le_trans hn l)
  | dic a m h => exact .dic a m h
theorem lsl_more (b : Bool) (n : Nat) : lsl b n ++ [.int 0] = lsl b (n + 1) := by
  unfold lsl
  rw [List.append_assoc, ← List.replicate_succ']
theorem lsl_head (b : Bool) (n : Nat) (x : V) (r : List V) (h : lsl b n = x :: r) : x = .int 5 ∨ x = .str "a" := by
  cases b
  · exact .inr (List.cons.inj h).1.symm
  · exact .inl (List.cons.inj h).1.symm
theorem lsl_inj {b b' : Bool} {n n' : Nat} (h : lsl b n = lsl b' n') : b = b' := by
  cases b <;> cases b' <;> first | rfl | exact absurd (List.cons.inj h).1 (by intro z; cases z)
/-- a list gets a 0 more -/
theorem Th.put {H : Hp} {j : Nat} {v : V} {a : Addr} {b : Bool} {n : Nat} (ha : H a = some (.lst (lsl b n))) (hn : n ≤ j) (h : Th H j v) : Th (upd H a (.lst (lsl b (n + 1)))) (j + 1) v := by
  cases h with
  | non => exact .non
  | bl => exact .bl
  | int i h0 h1 => exact .int i h0 h1
  | str => exact .str
  | tup c h => exact .tup c (upd_other ha h (by intro z; cases z))
  | lst c b' n' h hn' =>
    by_cases e : c = a
    · subst e
      rw [ha] at h
      exact .lst c b (n + 1) upd_same (by omega)
    · exact .lst c b' n' (by rw [upd_ne e]; exact h) (by omega)
  | dic c m h => exact .dic c m (upd_other ha h (by intro z; cases z))
/-- a dict gets the entry -/
theorem Th.putD {H : Hp} {j : Nat} {v : V} {a : Addr} {m : Bool} (ha : H a = some (.dK (ddl m))) (h : Th H j v) : Th (upd H a (.dK (ddl true))) j v := by
  cases h with
  | non => exact .non
  | bl => exact .bl
  | int i h0 h1 => exact .int i h0 h1
  | str => exact .str
  | tup c h => exact .tup c (upd_other ha h (by intro z; cases z))
  | lst c b' n' h hn' => exact .lst c b' n' (upd_other ha h (by intro z; cases z)) hn'
  | dic c m' h =>
    by_cases e : c = a
    · subst e
      exact .dic c true upd_same
    · exact .dic c m' (by rw [upd_ne e]; exact h)
/-! what is shown of them -/
def Fine (d : PyData) : Bool := d.showable && decide (d.depth ≤ 5) && decide ((listText (List.replicate 4 d.shown)).length ≤ 100000)
def lsd (b : Bool) (n : Nat) : List PyData := (if b then [.int 5] else [.str "a", .none]) ++ List.replicate n (.int 0)
def ddd (m : Bool) : List (PyData × PyData) := if m then [(.str "a", .int 1), (.str "late", .int 0)] else [(.str "a", .int 1)]
theorem fine_int : ∀ k : _root_.Fin 63, Fine (.int ((k.val : Int) - 3)) = true := by decide +kernel
theorem fine_lst : ∀ (b : Bool) (n : _root_.Fin 9), Fine (.list (lsd b n.val)) = true := by decide +kernel
theorem fine_dic : ∀ m : Bool, Fine (.dict (ddd m)) = true := by decide +kernel
section
variable {K : PySem.W.Frag} {H : Hp}
theorem dqAll_zeros : ∀ n : Nat, DqAll K H (List.replicate n (.int 0)) (List.replicate n (.int 0))
  | 0 => .nil
  | n + 1 => .cons (.int 0) (dqAll_zeros n)
theorem dq_lsl (b : Bool) (n : Nat) : DqAll K H (lsl b n) (lsd b n) := by
  cases b
  · exact .cons (.str "a") (.cons .non (dqAll_zeros n))
  · exact .cons (.int 5) (dqAll_zeros n)
theorem Th.data {j : Nat} {v : V} (h : Th H j v) (hj : j ≤ 8) : ∃ d, Dq K H v d ∧ Fine d = true := by
  cases h with
  | non => exact ⟨_, .non, by decide +kernel⟩
  | bl => exact ⟨_, .bl true, by decide +kernel⟩
  | int i h0 h1 =>
    refine ⟨_, .int i, ?_⟩
    have q := fine_int ⟨(i + 3).toNat, by omega⟩
    have e : (((i + 3).toNat : Nat) : Int) - 3 = i := by omega
    rw [e] at q
    exact q
  | str => exact ⟨_, .str "x", by decide +kernel⟩
  | tup a h => exact ⟨_, .tup (SqT.of h) (.cons (.int 1) .nil), by decide +kernel⟩
  | lst a b n h hn => exact ⟨_, .lst (SqL.of h) (dq_lsl b n), fine_lst b ⟨n, by omega⟩⟩
  | dic a m h =>
    refine ⟨.dict (ddd m), ?_, fine_dic m⟩
    cases m
    · exact .dic (.of h) rfl rfl (.cons (.int 1) .nil)
    · exact .dic (.of h) rfl rfl (.cons (.int 1) (.cons (.int 0) .nil))
theorem dqAll_rep {v : V} {d : PyData} (h : Dq K H v d) : ∀ n : Nat, DqAll K H (List.replicate n v) (List.replicate n d)
  | 0 => .nil
  | n + 1 => .cons h (dqAll_rep h n)
theorem shownAll_rep (d : PyData) : ∀ n : Nat, PyData.shownAll (List.replicate n d) = List.replicate n d.shown
  | 0 => by simp [PyData.shownAll]
  | n + 1 => by rw [List.replicate_succ, List.replicate_succ, PyData.shownAll, shownAll_rep d n]
theorem showableAll_rep {d : PyData} (h : d.showable = true) : ∀ n : Nat, PyData.showableAll (List.replicate n d) = true
  | 0 => by simp [PyData.showableAll]
  | n + 1 => by rw [List.replicate_succ, PyData.showableAll, h, showableAll_rep h n]; rfl
theorem depthAll_rep {d : PyData} {m : Nat} (h : d.depth ≤ m) : ∀ n : Nat, PyData.depthAll (List.replicate n d) ≤ m
  | 0 => by simp [PyData.depthAll]
  | n + 1 => by rw [List.replicate_succ, PyData.depthAll]; exact Nat.max_le.mpr ⟨h, depthAll_rep h n⟩
/-- repr of a list of four times the thing -/
theorem rep_of {q : Addr} {v : V} {d : PyData} (hq : H q = some (.lst (List.replicate 4 v))) (hd : Dq K H v d) (f : Fine d = true) : Dq K H (.ref q) (.list (List.replicate 4 d)) ∧ (PyData.list (List.replicate 4 d)).showable = true ∧ (PyData.list (List.replicate 4 d)).depth ≤ 60 ∧ (PyData.list (List.replicate 4 d)).shown.length ≤ sizeLine := by
  unfold Fine at f
  rw [Bool.and_eq_true, Bool.and_eq_true] at f
  obtain ⟨⟨f1, f2⟩, f3⟩ := f
  have f2 := of_decide_eq_true f2
  have f3 := of_decide_eq_true f3
  refine ⟨.lst (SqL.of hq) (dqAll_rep hd 4), ?_, ?_, ?_⟩
  · rw [PyData.showable]; exact showableAll_rep f1 4
  · rw [PyData.depth]
    have := depthAll_rep f2 4
    omega
  · rw [PyData.shown, shownAll_rep]
    exact Nat.le_trans f3 (by decide)
/-- isinstance(thing, list), isinstance(thing, dict) -/
theorem Th.isList {j : Nat} {v : V} (h : Th H j v) : (∃ t, TyX K H v t ∧ PySem.W.kitOne K t (.type "list") = some false) ∨ ∃ a b n, v = .ref a ∧ H a = some (.lst (lsl b n)) ∧ n ≤ j ∧ TyX K H v (.type "list") := by
  cases h with
  | non => exact .inl ⟨_, .base .non, kit_ty (by decide +kernel)⟩
  | bl => exact .inl ⟨_, .base (.bl _), kit_ty (by decide +kernel)⟩
  | int i h0 h1 => exact .inl ⟨_, .base (.int _), kit_ty (by decide +kernel)⟩
  | str => exact .inl ⟨_, .base (.str _), kit_ty (by decide +kernel)⟩
  | tup a h => exact .inl ⟨_, .base (.tup h), kit_ty (by decide +kernel)⟩
  | lst a b n h hn => exact .inr ⟨a, b, n, rfl, h, hn, .base (.lst h)⟩
  | dic a m h => exact .inl ⟨_, .base (.dK h), kit_ty (by decide +kernel)⟩
theorem Th.isDict {j : Nat} {v : V} (h : Th H j v) : (∃ t, TyX K H v t ∧ PySem.W.kitOne K t (.type "dict") = some false) ∨ ∃ a m, v = .ref a ∧ H a = some (.dK (ddl m)) ∧ TyX K H v (.type "dict") := by
  cases h with
  | non => exact .inl ⟨_, .base .non, kit_ty (by decide +kernel)⟩
  | bl => exact .inl ⟨_, .base (.bl _), kit_ty (by decide +kernel)⟩
  | int i h0 h1 => exact .inl ⟨_, .base (.int _), kit_ty (by decide +kernel)⟩
  | str => exact .inl ⟨_, .base (.str _), kit_ty (by decide +kernel)⟩
  | tup a h => exact .inl ⟨_, .base (.tup h), kit_ty (by decide +kernel)⟩
  | lst a b n h hn => exact .inl ⟨_, .base (.lst h), kit_ty (by decide +kernel)⟩
  | dic a m h => exact .inr ⟨a, m, rfl, h, .base (.dK h)⟩
end
end P76

set_option Elab.async false
set_option linter.all false
set_option maxRecDepth 100000
set_option maxHeartbeats 4000000
namespace P76
open PySem PySem.Spec PyProof.Rows L2 Ct
def spLaw (K : PySem.W.Frag) : Sp := fun vs H Q _ => ∃ (a : Addr) (ns : List Int), vs = [.ref a] ∧ Only H ∧ SqL K H a (ns.map V.int) ∧ ns.length ≤ 63 ∧ (∀ z ∈ ns, Builtin.Int.intBits z ≤ 1048576) ∧ ∀ H', Q (.bl true) H'
theorem put_dd (m : Bool) : putK (ddl m) (Sum.inr ("late" : Str) : Key) (V.int 0) = ddl true := by
  cases m <;> rfl
/-- the rows of errors, each with v -/
def Errs (C : Nat → Addr) (H : Hp) (es : List V) (v : V) : Prop := es.length = 4 ∧ ∀ i, i < 4 → ∃ a, es[i]? = some (.ref a) ∧ ErrAt C H (i % 2) a v
theorem Errs.same {C : Nat → Addr} {H H' : Hp} {es : List V} {v : V} (s : Same H H') (h : Errs C H es v) : Errs C H' es v := ⟨h.1, fun i hi => by
  obtain ⟨a, h1, h2⟩ := h.2 i hi
  exact ⟨a, h1, h2.same s⟩⟩
structure St (C : Nat → Addr) (H0 H : Hp) (L2 p1 : Addr) (t1 : Addr) (v2 : V) (es : List V) (v : V) (j : Nat) : Prop where
  s : Same H0 H
  l2 : H L2 = some (.lst [.ref t1, v2])
  e1 : H p1 = some (.lst es)
  r1 : Errs C H es v
  h1 : Th H j (.ref t1)
  h2 : Th H j v2
  h : Th H j v
section
variable {C : Nat → Addr} {H0 H H' : Hp} {L2 p1 t1 : Addr} {v2 v : V} {es : List V} {j : Nat}
theorem St.same (S : St C H0 H L2 p1 t1 v2 es v j) (k : Same H H') : St C H0 H' L2 p1 t1 v2 es v j :=
  ⟨S.s.trans k, k _ _ S.l2, k _ _ S.e1, S.r1.same k, S.h1.same k, S.h2.same k, S.h.same k⟩
theorem St.fin (S : St C H0 H L2 p1 t1 v2 es v j) : Same H0 H ∧ H L2 = some (.lst [.ref t1, v2]) ∧ Th H j (.ref t1) ∧ Th H j v2 := ⟨S.s, S.l2, S.h1, S.h2⟩
theorem St.val (S : St C H0 H L2 p1 t1 v2 es v j) : ∃ w, w = v := ⟨v, rfl⟩
theorem St.more {k : Nat} (S : St C H0 H L2 p1 t1 v2 es v j) (l : j ≤ k) : St C H0 H L2 p1 t1 v2 es v k :=
  ⟨S.s, S.l2, S.e1, S.r1, S.h1.more l, S.h2.more l, S.h.more l⟩
theorem Errs.store {es : List V} {a : Addr} {o u : HO} (h : Errs C H es v) (ha : H a = some u) (n1 : ∀ φ, u ≠ .ext φ) : Errs C (upd H a o) es v := ⟨h.1, fun i hi => by
  obtain ⟨b, h1, d, h2, h3⟩ := h.2 i hi
  exact ⟨b, h1, d, upd_other ha h2 (fun z => n1 _ z.symm), upd_other ha h3 (fun z => n1 _ z.symm)⟩⟩
theorem errs_ne {es : List V} (h : Errs C H es v) (b : Bool) (n : Nat) : es ≠ lsl b n := fun z => by
  obtain ⟨a, h1, _⟩ := h.2 0 (by decide)
  cases es with
  | nil => cases h1
  | cons x r =>
    cases h1
    rcases lsl_head b n _ _ z.symm with q | q <;> cases q
theorem St.put (on : Only H0) (S : St C H0 H L2 p1 t1 v2 es v j) {a : Addr} {b : Bool} {n : Nat} (ha : H a = some (.lst (lsl b n))) (hn : n ≤ j) : St C H0 (upd H a (.lst (lsl b (n + 1)))) L2 p1 t1 v2 es v (j + 1) := by
  have nr : ∀ {x : V} {r : List V} {c : Addr}, x = .ref c → HO.lst (x :: r) ≠ .lst (lsl b n) := fun {x r c} e z => by
    have z' := HO.lst.inj z
    subst e
    rcases lsl_head b n _ _ z'.symm with q | q <;> cases q
  exact ⟨only_upd on S.s ha (fun _ _ z => by cases z), upd_other ha S.l2 (nr rfl), upd_other ha S.e1 (fun z => errs_ne S.r1 b n (HO.lst.inj z)),
    S.r1.store ha (fun _ z => by cases z), S.h1.put ha hn, S.h2.put ha hn, S.h.put ha hn⟩
theorem St.putD (on : Only H0) (S : St C H0 H L2 p1 t1 v2 es v j) {a : Addr} {m : Bool} (ha : H a = some (.dK (ddl m))) : St C H0 (upd H a (.dK (ddl true))) L2 p1 t1 v2 es v j :=
  ⟨only_upd on S.s ha (fun _ _ z => by cases z), upd_other ha S.l2 (by intro z; cases z), upd_other ha S.e1 (by intro z; cases z),
    S.r1.store ha (fun _ z => by cases z), S.h1.putD ha, S.h2.putD ha, S.h.putD ha⟩
end
section
variable {P : Program} {w : World} {K : PySem.W.Frag} {mg : Str → Option Value} {base : Heap} {C fI : Nat → Addr} {CW : Addr}
abbrev sLaw : Stmt := top 14
theorem scLaw : FnScope ["script", "start", "source", "some", "thing", "errors", "at", "error"] ["script"] (defScope sLaw) := ⟨rfl, rfl, rfl, by decide +kernel, rfl, by decide +kernel, by decide +kernel⟩
theorem has_law (T : Bn mg) (R : Er K mg C fI CW) (SB : SysB base) {f : Addr} {fd : FuncData} (D : Fun K "law" "law" sLaw f fd) (hX : ∀ i, i < 2 → HasX P w K mg base 1 (C i) (fI i) "value") (h_law_source : Has P w K mg base CX0 1 "_law_source" ["script", "start"] (spSource K)) (h_law_draw : Has P w K mg base CX0 1 "_law_draw" ["source", "span"] spDraw)
    (h_law_right : Has P w K mg base CX0 1 "_law_right" ["error", "kind"] (spRight C)) : GFn P w K mg base CX0 5 f fd ["script"] (spLaw K) := by
  refine law_of D scLaw (fun vs H Q E h => ?_) (fun cdv A outer s H vs Q E gd hr h => ?_)
  · obtain ⟨a, ns, rfl, _⟩ := h; rfl
  · obtain ⟨a, ns, rfl, on, hS, hlen, hbits, k⟩ := h
    have nd := scLaw.nd
    refine ⟨_, (pss_cons (ps_for PassesOwn.never rfl (pi_range1 rfl T.z_range (pa_cons (pe_callB (call_max2 rfl) (by rfl) T.z_max (by decide +kernel) (pa_cons pe_int (pa_cons (pe_callB (call_min2 rfl) (by rfl) T.z_min (by decide +kernel) (pa_cons pe_int (pa_cons (pe_callB call_len (by rfl) T.z_len (by decide +kernel) (pa_cons (pv 0) pa_nil)) pa_nil))) pa_nil))) pa_nil)) (pg_name (i := 1) nd rfl (by first | exact Or.inl rfl | exact Or.inr rfl)) (pss_cons (ps_sv 2 nd (pe_h h_law_source hr (by decide) rfl (pa_cons (pv 0) (pa_cons (pv 1) pa_nil))))
    (pss_cons (ps_sv 3 nd (pe_lst (pa_cons (pe_lst (pa_cons pe_int pa_nil)) (pa_cons (pe_lst (pa_cons pe_str (pa_cons pe_non pa_nil))) (pa_cons (pe_disp (pps_cons pe_str pe_int pps_nil) (by rfl) (by rfl) (fun z => by cases z) (by decide)) (pa_cons pe_non (pa_cons pe_str (pa_cons (pe_tup (pa_cons pe_int pa_nil)) (pa_cons pe_bl (pa_cons (pe_op op_sub pe_int pe_int) (pa_cons (pe_h h_law_draw hr (by decide) rfl (pa_cons (pv 2) (pa_cons pe_int pa_nil))) pa_nil)))))))))))
    (pss_one (ps_for PassesOwn.never rfl (pi_list (pe_lst (pa_cons (pe_ix ix_list (pv 3) (pe_h h_law_draw hr (by decide) rfl (pa_cons (pv 2) (pa_cons pe_int pa_nil))) (fun _ _ => rfl)) (pa_cons (pe_ix ix_list (pv 3) (pe_h h_law_draw hr (by decide) rfl (pa_cons (pv 2) (pa_cons (pe_callB call_len (by rfl) T.z_len (by decide +kernel) (pa_cons (pv 3) pa_nil)) pa_nil))) (fun _ _ => rfl)) pa_nil)))) (pg_name (i := 4) nd rfl (by first | exact Or.inl rfl | exact Or.inr rfl)) (pss_cons (ps_sv 5 nd (pe_lst (pa_cons (pe_mp (hX 0 (by decide)) hr (by decide) rfl (R.g 0 _ rfl) (pv 4)) (pa_cons (pe_mp (hX 1 (by decide)) hr (by decide) rfl (R.g 1 _ rfl) (pv 4)) (pa_cons (pe_mkw (f := "value") (hX 0 (by decide)) hr (by decide) rfl (R.g 0 _ rfl) (pv 4)) (pa_cons (pe_mkw (f := "value") (hX 1 (by decide)) hr (by decide) rfl (R.g 1 _ rfl) (pv 4)) pa_nil))))))
    (pss_cons (ps_if (pt_cmpR (op_neNil hr.units) (pe_lc (own := [("at", 6), ("error", 7)]) (g := _) rfl nd (pi_enum (by rfl) T.z_enumerate (pa_cons (pv 5) pa_nil)) (blkOk_by (own := [("at", 6), ("error", 7)]) (N := ["script", "start", "source", "some", "thing", "errors", "at", "error"]) (sc := defScope sLaw) (by decide +kernel)) (fun _ _ _ _ _ => (pg_tupk (K := K) (n := 2) rfl rfl (pgs_cons (pg_name (i := 6) nd rfl (by first | exact Or.inl rfl | exact Or.inr rfl)) (pgs_cons (pg_name (i := 7) nd rfl (by first | exact Or.inl rfl | exact Or.inr rfl)) pgs_nil)))) (fun _ _ _ _ _ => (pts_one (pt_not (pt_val (pe_h h_law_right hr (by decide) rfl (pa_cons (pv 7) (pa_cons (pe_op op_mod (pv 6) pe_int) pa_nil))))))) (fun _ _ _ _ _ => pe_int)) (pe_lst pa_nil) (by first | exact nomark _ | rfl)) (pss_one (ps_ret pe_bl)) pss_nil)
    (pss_cons (ps_if (pt_val (pe_callB call_isi (by rfl) T.z_isinstance (by decide +kernel) (pa_cons (pv 4) (pa_cons (pe_bltn (v := .ty "list") rfl T.z_list (by decide +kernel) rfl) pa_nil)))) (pss_one (ps_expr (pe_bm PySem.F.plainAttrs_list PySem.F.slot_list_append PySem.F.type_list_append mt_append (pv 4) (pa_cons pe_int pa_nil)))) pss_nil)
    (pss_cons (ps_if (pt_val (pe_callB call_isi (by rfl) T.z_isinstance (by decide +kernel) (pa_cons (pv 4) (pa_cons (pe_bltn (v := .ty "dict") rfl T.z_dict (by decide +kernel) rfl) pa_nil)))) (pss_one (ps_dput (hu_of hr) (pv 4) pe_str pe_int rfl)) pss_nil)
    (pss_one (ps_if (pt_cmpR op_ne (pe_callB (call_rep gd SB hr.units) (by rfl) T.z_repr (by decide +kernel) (pa_cons (pe_lc (own := [("error", 7)]) (g := gName 7) (tt := tYes) rfl nd (pi_list (pv 5)) (blkOk_by (own := [("error", 7)]) (N := ["script", "start", "source", "some", "thing", "errors", "at", "error"]) (sc := defScope sLaw) (by decide +kernel)) (fun _ _ _ _ _ => (pg_name (i := 7) nd rfl (by first | exact Or.inl rfl | exact Or.inr rfl))) (fun _ _ _ _ _ => pts_nil) (fun _ _ _ _ _ => (pe_xFk (K := K) rfl (pv 7)))) pa_nil)) (pe_callB (call_rep gd SB hr.units) (by rfl) T.z_repr (by decide +kernel) (pa_cons (pe_op op_rep (pe_lst (pa_cons (pv 4) pa_nil)) pe_int) pa_nil)) (by first | exact nomark _ | rfl)) (pss_one (ps_ret pe_bl)) pss_nil)))))))))))
    (pss_one (ps_ret pe_bl))), ?_⟩
    -- for start in range(max(1, min(4, len(script))))
    refine ⟨_, rfl, _, _, rfl, .inl ⟨_, hS, rfl⟩, _, _, rfl, _, _, rfl, _, rfl, ?_, ?_, ?_⟩
    · split <;> (try split) <;> omega
    · split <;> (try split) <;> omega
    have hj : (if (if (((ns.map V.int).length : Nat) : Int) < 4 then (((ns.map V.int).length : Nat) : Int) else 4) > 1 then (if (((ns.map V.int).length : Nat) : Int) < 4 then (((ns.map V.int).length : Nat) : Int) else 4) else 1) ≤ 4 := by split <;> (try split) <;> omega
    generalize (if (if (((ns.map V.int).length : Nat) : Int) < 4 then (((ns.map V.int).length : Nat) : Int) else 4) > 1 then (if (((ns.map V.int).length : Nat) : Int) < 4 then (((ns.map V.int).length : Nat) : Int) else 4) else 1) = jj at hj ⊢
    refine for_range (lo := 0) (n := jj.toNat) (fun i σ H' => ∃ s1 s2 s3 s4 s5 s6 s7 : Option V, σ = [some (.ref a), s1, s2, s3, s4, s5, s6, s7] ∧ Same H H') ⟨none, none, none, none, none, none, none, rfl, Same.refl H⟩ ?_ ?_
    · rintro i σ H1 hi ⟨s1, s2, s3, s4, s5, s6, s7, rfl, sm⟩
      refine ⟨_, rfl, _, rfl, a, ns, _, rfl, by omega, by omega, sm.seq hS, hlen, hbits, fun ps r m nps ok => ?_⟩
      have u0 := same_new (o := .lst [.int r, .int m]) nps
      have hp : (upd H1 ps (.lst [.int r, .int m])) ps = some (.lst [.int r, .int m]) := upd_same
      generalize upd H1 ps (.lst [.int r, .int m]) = H2 at u0 hp ⊢
      replace sm := sm.trans u0
      -- the drawn things
      refine ⟨(by show 1 ≤ sizeLine; decide), fun q1 n1 => ?_⟩
      have u1 := same_new (o := .lst [.int 5]) n1
      have g1 : (upd H2 q1 (.lst [.int 5])) q1 = some (.lst [.int 5]) := upd_same
      generalize upd H2 q1 (.lst [.int 5]) = H3 at u1 g1 ⊢
      refine ⟨(by show 2 ≤ sizeLine; decide), fun q2 n2 => ?_⟩
      have u2 := same_new (o := .lst [.str "a", .non]) n2
      have g2 : (upd H3 q2 (.lst [.str "a", .non])) q2 = some (.lst [.str "a", .non]) := upd_same
      generalize upd H3 q2 (.lst [.str "a", .non]) = H4 at u2 g2 ⊢
      refine fun q3 n3 => ⟨upd_same, [(.inr "a", .int 1)], rfl, by decide, ?_⟩
      rw [upd_upd]
      have u3 := same_new (o := .dK (ddl false)) n3
      have g3 : (upd H4 q3 (.dK (ddl false))) q3 = some (.dK (ddl false)) := upd_same
      have em : mergeK [] [((Sum.inr ("a" : Str) : Key), V.int 1)] = ddl false := by rfl
      rw [em]
      generalize upd H4 q3 (.dK (ddl false)) = H5 at u3 g3 ⊢
      refine ⟨(by show 1 ≤ sizeLine; decide), fun q6 n6 => ?_⟩
      have u6 := same_new (o := .tup [.int 1]) n6
      have g6 : (upd H5 q6 (.tup [.int 1])) q6 = some (.tup [.int 1]) := upd_same
      generalize upd H5 q6 (.tup [.int 1]) = H6 at u6 g6 ⊢
      have u16 := (u2.trans u3).trans u6
      replace g1 := u16 _ _ g1
      replace g2 := (u3.trans u6) _ _ g2
      replace g3 := u6 _ _ g3
      replace hp := (u1.trans u16) _ _ hp
      replace sm := sm.trans (u1.trans u16)
      refine ⟨_, _, rfl, rfl, _, rfl, ps, r, m, 60, rfl, hp, ok, by decide, by decide, fun r' m' dn ok' d0 d1 => ?_⟩
      have smd : Same H (upd H6 ps (.lst [.int r', .int m'])) := only_upd on sm hp (fun _ _ z => by cases z)
      have ne1 : q1 ≠ ps := ne_of g1 hp (by intro z; cases z)
      have ne2 : q2 ≠ ps := ne_of g2 hp (by intro z; cases z)
      have ne3 : q3 ≠ ps := ne_of g3 hp (by intro z; cases z)
      have ne6 : q6 ≠ ps := ne_of g6 hp (by intro z; cases z)
      have k1 : (upd H6 ps (.lst [.int r', .int m'])) q1 = some (.lst (lsl true 0)) := by rw [upd_ne ne1]; exact g1
      have k2 : (upd H6 ps (.lst [.int r', .int m'])) q2 = some (.lst (lsl false 0)) := by rw [upd_ne ne2]; exact g2
      have k3 : (upd H6 ps (.lst [.int r', .int m'])) q3 = some (.dK (ddl false)) := by rw [upd_ne ne3]; exact g3
      have k6 : (upd H6 ps (.lst [.int r', .int m'])) q6 = some (.tup [.int 1]) := by rw [upd_ne ne6]; exact g6
      have hp7 : (upd H6 ps (.lst [.int r', .int m'])) ps = some (.lst [.int r', .int m']) := upd_same
      generalize upd H6 ps (.lst [.int r', .int m']) = H7 at smd k1 k2 k3 k6 hp7 ⊢
      refine ⟨(by show 9 ≤ sizeLine; decide), fun qs nqs => ?_⟩
      have u8 := same_new (o := .lst [.ref q1, .ref q2, .ref q3, .non, .str "x", .ref q6, .bl true, .int (0 - 3), .int dn]) nqs
      have gs : (upd H7 qs (.lst [.ref q1, .ref q2, .ref q3, .non, .str "x", .ref q6, .bl true, .int (0 - 3), .int dn])) qs = some (.lst [.ref q1, .ref q2, .ref q3, .non, .str "x", .ref q6, .bl true, .int (0 - 3), .int dn]) := upd_same
      generalize upd H7 qs (.lst [.ref q1, .ref q2, .ref q3, .non, .str "x", .ref q6, .bl true, .int (0 - 3), .int dn]) = H9 at u8 gs ⊢
      replace k1 := u8 _ _ k1
      replace k2 := u8 _ _ k2
      replace k3 := u8 _ _ k3
      replace k6 := u8 _ _ k6
      replace hp7 := u8 _ _ hp7
      replace smd := smd.trans u8
      have nes : qs ≠ ps := ne_of gs hp7 (by intro z; cases z)
      -- the first of the two
      refine ⟨_, rfl, _, rfl, ps, r', m', 3, rfl, hp7, ok', by decide, by decide, fun r2 m2 k2n ok2 e0 e1 => ?_⟩
      obtain ⟨t1, et1, ht1⟩ : ∃ t1, atI [V.ref q1, .ref q2, .ref q3, .non, .str "x", .ref q6, .bl true, .int (0 - 3), .int dn] k2n = some (.ref t1) ∧ (t1 = q1 ∨ t1 = q2 ∨ t1 = q3) := by
        obtain rfl | rfl | rfl : k2n = 0 ∨ k2n = 1 ∨ k2n = 2 := by omega
        · exact ⟨q1, rfl, .inl rfl⟩
        · exact ⟨q2, rfl, .inr (.inl rfl)⟩
        · exact ⟨q3, rfl, .inr (.inr rfl)⟩
      replace smd := only_upd (o := .lst [.int r2, .int m2]) on smd hp7 (fun _ _ z => by cases z)
      replace k1 : (upd H9 ps (.lst [.int r2, .int m2])) q1 = some (.lst (lsl true 0)) := by rw [upd_ne ne1]; exact k1
      replace k2 : (upd H9 ps (.lst [.int r2, .int m2])) q2 = some (.lst (lsl false 0)) := by rw [upd_ne ne2]; exact k2
      replace k3 : (upd H9 ps (.lst [.int r2, .int m2])) q3 = some (.dK (ddl false)) := by rw [upd_ne ne3]; exact k3
      replace k6 : (upd H9 ps (.lst [.int r2, .int m2])) q6 = some (.tup [.int 1]) := by rw [upd_ne ne6]; exact k6
      replace gs := (upd_ne (H := H9) (o := .lst [.int r2, .int m2]) nes).trans gs
      replace hp7 : (upd H9 ps (.lst [.int r2, .int m2])) ps = some (.lst [.int r2, .int m2]) := upd_same
      generalize upd H9 ps (.lst [.int r2, .int m2]) = HA at smd k1 k2 k3 k6 gs hp7 ⊢
      refine ⟨qs, _, k2n, _, rfl, rfl, SqL.of gs, et1, ?_⟩
      -- the second
      refine ⟨_, rfl, _, rfl, _, rfl, _, _, rfl, .inl ⟨_, SqL.of gs, rfl⟩, ps, r2, m2, _, rfl, hp7, ok2, (by show (1 : Int) ≤ 9; decide), (by show (9 : Int) ≤ 1000000000; decide), fun r3 m3 k3n ok3 e2 e3 => ?_⟩
      obtain ⟨x2, hx2, et2⟩ := at_in (xs := [V.ref q1, .ref q2, .ref q3, .non, .str "x", .ref q6, .bl true, .int (0 - 3), .int dn]) e2 e3
      replace smd := only_upd (o := .lst [.int r3, .int m3]) on smd hp7 (fun _ _ z => by cases z)
      replace k1 : (upd HA ps (.lst [.int r3, .int m3])) q1 = some (.lst (lsl true 0)) := by rw [upd_ne ne1]; exact k1
      replace k2 : (upd HA ps (.lst [.int r3, .int m3])) q2 = some (.lst (lsl false 0)) := by rw [upd_ne ne2]; exact k2
      replace k3 : (upd HA ps (.lst [.int r3, .int m3])) q3 = some (.dK (ddl false)) := by rw [upd_ne ne3]; exact k3
      replace k6 : (upd HA ps (.lst [.int r3, .int m3])) q6 = some (.tup [.int 1]) := by rw [upd_ne ne6]; exact k6
      replace gs := (upd_ne (H := HA) (o := .lst [.int r3, .int m3]) nes).trans gs
      generalize upd HA ps (.lst [.int r3, .int m3]) = HB at smd k1 k2 k3 k6 gs ⊢
      refine ⟨qs, _, k3n, _, rfl, rfl, SqL.of gs, et2, ?_⟩
      have th1 : Th HB 0 (.ref t1) := by
        rcases ht1 with rfl | rfl | rfl
        · exact .lst _ true 0 k1 (Nat.le_refl _)
        · exact .lst _ false 0 k2 (Nat.le_refl _)
        · exact .dic _ false k3
      have th2 : Th HB 0 x2 := by
        simp only [List.mem_cons, List.not_mem_nil, or_false] at hx2
        rcases hx2 with rfl | rfl | rfl | rfl | rfl | rfl | rfl | rfl | rfl
        · exact .lst _ true 0 k1 (Nat.le_refl _)
        · exact .lst _ false 0 k2 (Nat.le_refl _)
        · exact .dic _ false k3
        · exact .non
        · exact .str
        · exact .tup _ k6
        · exact .bl
        · exact .int _ (by decide) (by decide)
        · exact .int _ (by omega) (by omega)
      clear k1 k2 k3 k6 gs hp7 hx2 et1 et2
      refine ⟨(by show 2 ≤ sizeLine; decide), fun L2 nL2 => ?_⟩
      have u10 := same_new (o := .lst [.ref t1, x2]) nL2
      have g2L : (upd HB L2 (.lst [.ref t1, x2])) L2 = some (.lst [.ref t1, x2]) := upd_same
      generalize upd HB L2 (.lst [.ref t1, x2]) = HC at u10 g2L ⊢
      replace smd := smd.trans u10
      replace th1 := th1.same u10
      replace th2 := th2.same u10
      refine ⟨L2, rfl, ⟨_, SqL.of g2L⟩, ?_⟩
      clear hp ok u0 u1 u2 u3 u6 u16 g1 g2 g3 g6 u8 u10 sm ht1 ok2 ok3 ok'
      refine for_list (K := K) (a := L2) (xs := [.ref t1, x2]) (fun i2 σ H' => ∃ s4 s5 s6 s7 : Option V, σ = [some (.ref a), some (.int (0 + (i : Int))), some (.ref ps), some (.ref qs), s4, s5, s6, s7] ∧ Same H H' ∧ H' L2 = some (.lst [.ref t1, x2]) ∧ Th H' i2 (.ref t1) ∧ Th H' i2 x2)
        ⟨s4, s5, s6, s7, rfl, smd, g2L, th1, th2⟩ (fun i2 σ H' _ ⟨_, _, _, _, _, _, z, _⟩ => SqL.of z) ?_ ?_
      · clear smd g2L th1 th2
        rintro i2 y σ H2' hy ⟨s4, s5, s6, s7, rfl, smd, g2L, th1, th2⟩
        have hi2 : i2 < 2 := (List.getElem?_eq_some_iff.mp hy).1
        have th : Th H2' i2 y := by
          rcases i2 with _ | _ | i2
          · cases hy; exact th1
          · cases hy; exact th2
          · omega
        -- the errors
        refine ⟨_, rfl, fun a0 d0 na0 nd0 ne0 => ?_⟩
        obtain ⟨t0, e0⟩ := mk_step (C := C) (i := 0) (v := y) na0 nd0 ne0
        generalize mkH H2' a0 d0 (C 0) "value" y = G0 at t0 e0 ⊢
        refine ⟨_, rfl, fun a1 d1 na1 nd1 ne1 => ?_⟩
        obtain ⟨t2, e1⟩ := mk_step (C := C) (i := 1) (v := y) na1 nd1 ne1
        generalize mkH G0 a1 d1 (C 1) "value" y = G1 at t2 e1 ⊢
        refine ⟨_, rfl, fun a2 d2 na2 nd2 ne2 => ?_⟩
        obtain ⟨t3, e2⟩ := mk_step (C := C) (i := 0) (v := y) na2 nd2 ne2
        generalize mkH G1 a2 d2 (C 0) "value" y = G2 at t3 e2 ⊢
        refine ⟨_, rfl, fun a3 d3 na3 nd3 ne3 => ?_⟩
        obtain ⟨t4, e3⟩ := mk_step (C := C) (i := 1) (v := y) na3 nd3 ne3
        generalize mkH G2 a3 d3 (C 1) "value" y = G3 at t4 e3 ⊢
        refine ⟨(by show 4 ≤ sizeLine; decide), fun p1 n1 => ?_⟩
        have u7 := same_new (o := .lst [V.ref a0, .ref a1, .ref a2, .ref a3]) n1
        have g7 : (upd G3 p1 (.lst [V.ref a0, .ref a1, .ref a2, .ref a3])) p1 = some (.lst [V.ref a0, .ref a1, .ref a2, .ref a3]) := upd_same
        generalize upd G3 p1 (.lst [V.ref a0, .ref a1, .ref a2, .ref a3]) = H7 at u7 g7 ⊢
        have u57 := ((((t0.trans t2).trans t3).trans t4).trans u7)
        have er : Errs C H7 [V.ref a0, .ref a1, .ref a2, .ref a3] y := ⟨rfl, fun i hi => by
          rcases i with _ | _ | _ | _ | i
          · exact ⟨a0, rfl, e0.same (((t2.trans t3).trans t4).trans u7)⟩
          · exact ⟨a1, rfl, e1.same ((t3.trans t4).trans u7)⟩
          · exact ⟨a2, rfl, e2.same (t4.trans u7)⟩
          · exact ⟨a3, rfl, e3.same u7⟩
          · omega⟩
        have S : St C H H7 L2 p1 t1 x2 [V.ref a0, .ref a1, .ref a2, .ref a3] y i2 := ⟨smd.trans u57, u57 _ _ g2L, g7, er, th1.same u57, th2.same u57, th.same u57⟩
        clear u57 er th1 th2 th g2L u7 g7 e0 e1 e2 e3 t0 t2 t3 t4 na0 na1 na2 na3 nd0 nd1 nd2 nd3 ne0 ne1 ne2 ne3
        generalize hes : [V.ref a0, .ref a1, .ref a2, .ref a3] = es at S ⊢
        -- each is of its class alone
        refine ⟨_, rfl, p1, es, rfl, SqL.of S.e1, fun Dc nDc => ?_⟩
        refine lc_it (walk_enum (K := K) (a := p1) (xs := es)) (fun n H8 => Same H7 H8 ∧ H8 Dc = some (.lst [])) ⟨same_new nDc, upd_same⟩ (fun n H8 _ z => SqL.of (z.1 _ _ S.e1)) ?_ ?_
        · rintro n x H8 H9 hn ⟨s8, hD⟩ ⟨T9, x1, x3, rfl, hT, rfl, ex1, ex2⟩
          have hn4 : n < 4 := by rw [← S.r1.1]; exact hn
          cases ex1
          obtain ⟨ea, hea, he⟩ := (S.r1.same (s8.trans (same_new (o := .tup [.int (n : Nat), x3]) hT))).2 n hn4
          have ex2 : es[n]? = some x3 := ex2
          rw [hea] at ex2
          cases ex2
          have s9 := same_new (o := .tup [.int (n : Nat), .ref ea]) hT
          have h9 : (upd H8 T9 (.tup [.int (n : Nat), .ref ea])) T9 = some (.tup [.int (n : Nat), .ref ea]) := upd_same
          generalize upd H8 T9 (.tup [.int (n : Nat), .ref ea]) = H9 at s9 h9 he ⊢
          refine ⟨T9, _, rfl, SqT.of h9, rfl, _, _, rfl, _, _, rfl, rfl, rfl, ?_⟩
          refine ⟨_, rfl, _, rfl, _, _, rfl, rfl, (by show (0 : Int) < 2; decide), ea, n % 2, y, ?_, by omega, he, fun H10 s10 => ?_⟩
          · show [V.ref ea, V.int ((n : Int) % 2)] = _
            rw [show ((n : Int) % 2) = ((n % 2 : Nat) : Int) by omega]
          · exact ⟨_, rfl, iteF ⟨(s8.trans s9).trans s10, (s9.trans s10) _ _ hD⟩⟩
        · rintro H8 ⟨s8, hD⟩
          replace S := S.same s8
          refine ⟨(by show 0 ≤ sizeLine; decide), fun Ln nLn => ?_⟩
          have s9 := same_new (o := .lst []) nLn
          have h9 : (upd H8 Ln (.lst [])) Ln = some (.lst []) := upd_same
          generalize upd H8 Ln (.lst []) = H9 at s9 h9 ⊢
          replace S := S.same s9
          refine ⟨Dc, Ln, [], rfl, rfl, SqL.of (s9 _ _ hD), SqL.of h9, ?_⟩
          refine ⟨_, rfl, iteF ?_⟩
          clear nDc hD s8 s9 h9 nLn
          generalize H9 = Hn at S ⊢
          have part1 : (∃ t, TyX K Hn y t ∧ PySem.W.kitOne K t (.type "list") = some false) ∨ ∃ a b n, y = .ref a ∧ Hn a = some (.lst (lsl b n)) ∧ n ≤ i2 ∧ TyX K Hn y (.type "list") := S.h.isList
          rcases part1 with ⟨t, ty, ki⟩ | ⟨c, b, n, rfl, hc, hn, ty⟩
          case' inl =>
            refine ⟨_, rfl, _, _, _, _, _, rfl, .ty _, ty, ki, _, rfl, iteF ?_⟩
            replace S := S.more (Nat.le_succ _)
          case' inr =>
            refine ⟨_, rfl, _, _, _, _, _, rfl, .ty _, ty, kit_ty (r := true) (by decide +kernel), _, rfl, iteT ?_⟩
            refine ⟨_, rfl, .inl ⟨rfl, _, SqL.of hc⟩, c, _, _, rfl, rfl, hc, ?_, ?_⟩
            · have : (lsl b n).length ≤ n + 2 := by unfold lsl; cases b <;> simp [bsl]
              exact small1000 (by omega)
            rw [lsl_more]
            replace S := S.put on hc hn
            generalize upd Hn c (.lst (lsl b (n + 1))) = Hn at S ⊢
          all_goals
            rcases S.h.isDict with ⟨t, ty, ki⟩ | ⟨c, m, e, hc, ty⟩
            case' inl =>
              refine ⟨_, rfl, _, _, _, _, _, rfl, .ty _, ty, ki, _, rfl, iteF ?_⟩
            case' inr =>
              cases e
              refine ⟨_, rfl, _, _, _, _, _, rfl, .ty _, ty, kit_ty (r := true) (by decide +kernel), _, rfl, iteT ?_⟩
              refine ⟨_, rfl, c, _, rfl, DPut.k (k := Sum.inr "late") hc (by cases m <;> exact small1000 (by decide)), ?_⟩
              rw [put_dd]
              replace S := S.putD on hc
              generalize upd _ c (.dK (ddl true)) = Hn at S ⊢
            all_goals
              obtain ⟨y, ey⟩ := S.val
              rw [← ey] at S ⊢
              obtain ⟨dd, hd, hf⟩ := S.h.data (by omega)
              refine ⟨_, rfl, p1, rfl, ⟨_, SqL.of S.e1⟩, fun q nq => ?_⟩
              refine lc_list (K := K) (a := p1) (xs := es) (fun n H1 => Same Hn H1 ∧ H1 q = some (.lst (List.replicate n y))) ⟨same_new nq, upd_same⟩ (fun n H1 _ z => SqL.of (z.1 _ _ S.e1)) ?_ ?_
              · rintro n x H1 hx ⟨s1, hD⟩
                have hn4 : n < 4 := by rw [← S.r1.1]; exact (List.getElem?_eq_some_iff.mp hx).1
                obtain ⟨ea, hea, d, h1, h2⟩ := (S.r1.same s1).2 n hn4
                rw [hea] at hx
                cases hx
                refine ⟨rfl, _, rfl, ea, C (n % 2), d, _, y, rfl, h1, h2, (R.x (n % 2) (by omega)).xe, R.no (n % 2) (by omega), by simp [List.lookup], _, hD, by rw [List.length_replicate]; exact small1000 (by omega), same_upd s1 nq, ?_⟩
                rw [upd_same, ← List.replicate_succ']
              · rintro Hq ⟨sq, eq⟩
                rw [S.r1.1] at eq
                obtain ⟨f1, f2, f3, f4⟩ := rep_of eq (hd.same sq) hf
                refine ⟨q, _, rfl, f1, f2, f3, f4, ?_⟩
                refine ⟨_, rfl, (by show 1 ≤ sizeLine; decide), fun r1 nr1 => ?_⟩
                refine ⟨r1, 4, _, rfl, rfl, upd_same, by decide, by decide, (by show 4 ≤ sizeLine; decide), fun r2 nr2 => ?_⟩
                have v1 : ∀ z : V, Same Hq (upd Hq r1 (.lst [z])) := fun z => same_new nr1
                obtain ⟨f5, f6, f7, f8⟩ := rep_of upd_same (hd.same (sq.trans ((v1 _).trans (same_new nr2)))) hf
                refine ⟨r2, _, rfl, f5, f6, f7, f8, ?_⟩
                refine ⟨rfl, _, rfl, iteNS rfl ?_⟩
                exact ⟨_, _, _, _, rfl, (S.same (sq.trans ((v1 _).trans (same_new nr2)))).fin⟩
      · rintro σ H8 ⟨s4, s5, s6, s7, rfl, smd, _⟩
        exact ⟨_, _, _, _, _, _, _, rfl, smd⟩
    · rintro σ H1 ⟨s1, s2, s3, s4, s5, s6, s7, rfl, sm⟩
      exact k H1
end
end P76

set_option Elab.async false
set_option linter.all false
set_option maxRecDepth 100000
set_option maxHeartbeats 2000000
/-! Own kit X: the head by facts: one more Bool, own errors, defs as bundles; the end for defs that lean on no guard. -/
namespace Ct
open PySem PySem.Spec PyProof.Rows L2 He
/-! ### the Hook -/
abbrev AlB : Type := AlD × Bool
def obsB (fa : List Fa) (fn : List DefD) (ex : PySem.W.Frag → Bool) (K : PySem.W.Frag) : AlB := (obsD fa fn K, ex K)
def obsBG (n : Nat) (fa : List Fa) (fn : List DefD) (ex : PySem.W.Frag → Bool) (g : Addr → Option Obj) : AlB := obsB fa fn ex (frG g (asD g n))
def hookB (n : Nat) (fa : List Fa) (fn : List DefD) (ex : PySem.W.Frag → Bool) : PySem.W.Hook where
  α := AlB
  obs := fun s => obsBG n fa fn ex s.heap.get?
  val := fun _ => (valD fn, true)
  says := fun _ h => ∃ K : PySem.W.Frag, K.In h ∧ SaysD fa fn K ∧ ex K = true
  of := fun _ _ e => ⟨_, frG_in, congrArg (fun z : AlB => z.1) e, congrArg (fun z : AlB => z.2) e⟩
  keeps := fun _ _ _ ⟨K, hK, c⟩ k => ⟨K, PySem.W.Frag.In.keeps hK k, c⟩
theorem obsBG_eq {n : Nat} {fa : List Fa} {fn : List DefD} {ex : PySem.W.Frag → Bool} {g : Addr → Option Obj} {s : Shared} (h : ∀ a, g a = s.heap.get? a) : obsBG n fa fn ex g = (hookB n fa fn ex).obs s := by
  have e : g = s.heap.get? := funext h
  rw [e] <;> rfl
/-! ### defs -/
section
variable {K : PySem.W.Frag} {mg : Str → Option Value} {h : Heap} {x q nm : Str} {st : Stmt} {f : Addr} {fd : FuncData} {ps : List Str} {fa : List Fa} {fn : List DefD}
theorem fun_of (F : FunD K x q (defArgs st) (defBody st) (defScope st) [] [] f fd) : Fun K x q st f fd := by
  obtain ⟨oc, od, dV, kV, doc, pm, an, cdv, ct, osl, e, lk, hcd, hD, _⟩ := F.ex
  rcases hD with ⟨_, rfl⟩ | ⟨n, _⟩
  · exact ⟨⟨oc, od, kV, doc, pm, an, cdv, ct, osl, e, lk, hcd⟩, F.kp⟩
  · exact absurd rfl n
/-- a module's def -/
abbrev dM (nm : Str) (st : Stmt) : DefD := ⟨(nm, none), nm, nm, defArgs st, defBody st, defScope st, [], []⟩
/-- a class's def -/
abbrev dC (C m q : Str) (st : Stmt) : DefD := ⟨(C, some m), m, q, defArgs st, defBody st, defScope st, [], []⟩
theorem dfe_of (X : K.In h) (G : h.Ns mainGlobals mg) (c : SaysD fa fn K) (i j : Nat) (hi : fn[i]? = some (dM nm st)) (hj : fa[j]? = some (.glo nm))
    (b : ∀ (kV doc pm : Value) (an : Option Addr) (cdv ct : Value) (us : List Value), us.length = ps.length → bindArgs (PySem.W.fnOf nm nm (defArgs st) (defBody st) (defScope st) .none kV doc pm an cdv ct) ⟨us, []⟩ = pure (ps.zip us)) : DFE K mg nm st ps := by
  obtain ⟨fd, F⟩ := c.def_ i hi
  exact ⟨_, fd, fun_of F, glo_ok X G (c.fact j hj), FunD.bindsN (ps := ps) F b⟩
theorem fun_at {C m q : Str} (c : SaysD fa fn K) (i : Nat) (hi : fn[i]? = some (dC C m q st)) : ∃ fd, Fun K m q st (ma K (ga K C) m) fd := by
  obtain ⟨fd, F⟩ := c.def_ i hi
  exact ⟨fd, fun_of F⟩
end
/-! ### own errors -/
section
variable {K : PySem.W.Frag} {C : Addr} {x f : Str}
def oexB (K : PySem.W.Frag) (C : Addr) : Bool := match K.lookup C with
  | some ⟨.type "type", _, .cls cd, sl⟩ => (match cd.mro, sl.toList with
    | .ref C' :: bm, [_, _, _, _, some (.builtin n), _] => C' == C && n == "ValueError.__new__" && !cd.hasDel && cd.hasDict && PySem.HandSPX.refsVE bm
    | _, _ => false)
  | _ => false
theorem oexB_ok (q : oexB K C = true) : ∃ nm qn N bs bm sn sub ab col dd k0 k1 k2 k3 k5, K.lookup C = some (excClassObj nm qn C N bs bm true sn sub ab col dd k0 k1 k2 k3 k5 "ValueError.__new__") ∧ PySem.HandSPX.refsVE bm = true := by
  unfold oexB at q
  split at q
  · rename_i dd cd sl ho
    split at q
    · rename_i C' bm k0 k1 k2 k3 n k5 hm hs
      simp only [Bool.and_eq_true, beq_iff_eq, Bool.not_eq_true'] at q
      obtain ⟨⟨⟨⟨rfl, rfl⟩, hdel⟩, hdct⟩, ht⟩ := q
      obtain ⟨nm, bs, mro, ns, qn, hd, sn, sub, ab, col, del⟩ := cd
      dsimp only at hm hdel hdct
      subst hm hdel hdct
      have hsl : sl = #[k0, k1, k2, k3, some (.builtin "ValueError.__new__"), k5] := by
        obtain ⟨l⟩ := sl
        simp only at hs
        rw [hs]
      subst hsl
      exact ⟨nm, qn, ns, bs, bm, sn, sub, ab, col, dd, k0, k1, k2, k3, k5, ho, ht⟩
    · cases q
  · cases q
def genB (K : PySem.W.Frag) : Bool := eqO (PySem.W.specialIn K (.builtin "object.__class__") "__get__") (some (some (.builtin "getset_descriptor.__get__"))) && decide (PySem.W.takesIn K (.builtin "object.__class__") = some true)
def xclB (K : PySem.W.Frag) (x f : Str) : Bool := oexB K (ga K x) && (eqO (PySem.W.findIn K (.ref (ga K x)) "__setattr__") (some (some (.builtin "object.__setattr__"))) && (decide (PySem.W.subIn K (.ref (ga K x)) (.type "BaseException") = some true) &&
  (decide (PySem.W.typeIn K (.ref (ga K x)) = some (.type "type")) && (PySem.W.keepIn K (.ref (ga K x)) && (eqO (PySem.W.findIn K (.ref (ga K x)) "__getattribute__") (some (some (.builtin "BaseException.__getattribute__"))) &&
  (eqO (PySem.W.findIn K (.ref (ga K x)) "__getattr__") (some none) && (PySem.W.hasDictIn K (ga K x) && (eqO (PySem.W.findIn K (.ref (ga K x)) "__class__") (some (some (.builtin "object.__class__"))) && (decide (PySem.W.mroIn K (ga K x) (.type "object") = some true) &&
  (eqO (PySem.W.findIn K (.ref (ga K x)) "__init__") (some (some (.ref (ma K (ga K x) "__init__")))) && (decide (PySem.W.typeIn K (.ref (ma K (ga K x) "__init__")) = some (.type "function")) && eqO (PySem.W.findIn K (.ref (ga K x)) f) (some none))))))))))))
theorem xclB_ok (g : genB K = true) (c : xclB K x f = true) : XCls K (ga K x) (ma K (ga K x) "__init__") ∧ PySem.W.findIn K (.ref (ga K x)) f = some none := by
  obtain ⟨g1, g2⟩ := ba g
  have hn := eqO_ok g1
  have ht := of_decide_eq_true g2
  obtain ⟨c1, c⟩ := ba c
  obtain ⟨c2, c⟩ := ba c
  obtain ⟨c3, c⟩ := ba c
  obtain ⟨c4, c⟩ := ba c
  obtain ⟨c5, c⟩ := ba c
  obtain ⟨c6, c⟩ := ba c
  obtain ⟨c7, c⟩ := ba c
  obtain ⟨c8, c⟩ := ba c
  obtain ⟨c9, c⟩ := ba c
  obtain ⟨c10, c⟩ := ba c
  obtain ⟨c11, c⟩ := ba c
  obtain ⟨c12, c13⟩ := ba c
  have hs := of_decide_eq_true c3
  exact ⟨⟨⟨oexB_ok c1, eqO_ok c2, hs, of_decide_eq_true c4, c5⟩, ⟨eqO_ok c6, eqO_ok c7, hs, c8, eqO_ok c9, hn, ht, of_decide_eq_true c10⟩, eqO_ok c11, of_decide_eq_true c12⟩, eqO_ok c13⟩
/-- the kit's word on isinstance -/
def isB (K : PySem.W.Frag) (x : Str) (c : Value) (b : Bool) : Bool := decide (PySem.W.kitOne K (.ref (ga K x)) c = some b)
def exmB (K : PySem.W.Frag) (x y : Str) (b : Bool) : Bool := decide (PySem.W.exmOne K (.ref (ga K x)) (.ref (ga K y)) = some b)
end
/-! ### the end -/
theorem walk_gE {l : PySem.W.OpenLaw} {n k : Nat} {q : Program} {loose : List Str} {XP : (Str → Option Value) → Heap → Prop} {YP : World → Heap → Prop} {d : DefRec} {CX : CXT} {x : Str}
    (hn : l.most = some n) (hq : importsNone q = true) (hn2 : n ≤ sizeLine) (hdf : d.params.defaults = []) (hr : Room k callerA)
    (F : ∀ (w : World) (mg : Str → Option Value) (fa : Addr) (h : Heap), YP w h → h.Ns mainGlobals mg → mg d.name = some (.ref fa) →
      ∃ (K : PySem.W.Frag) (fd : FuncData) (sp : Sp), K.In h ∧ (∀ (s : Shared) (u : Value), BindsTo s fd ⟨[u], []⟩ [(x, u)]) ∧
        (∀ (H : Hp) (a : Addr) (ns : List Int), ns.length ≤ n → (∀ z ∈ ns, Builtin.Int.intBits z ≤ 1048576) → Only H → SqL K H a (ns.map V.int) → sp [.ref a] H (fun v _ => v = .bl true) fun _ _ _ => False) ∧
        ∀ base : Heap, K.In base → base.Ns mainGlobals mg → (∃ mm, base.Ns sysModules mm) → GFn l.prog w K mg base CX k fa fd [x] sp)
    (hCX : ∀ (H : Hp) (s : Shared) (e : Value) (s' : Shared), CX [] H s (fun _ _ _ => False) e s' → False) :
    PySem.W.WalkO q loose XP YP l.row.toRowW d [] (fun f vs => PySem.call f vs) := by
  refine Att.attach_callB hn hdf ?_
  intro w s0 s1 mg mb fa o pm cd doc a vs ns G Y _ _ _ hmg hobj hints hlen hbits hg
  obtain ⟨K, fd, sp, KX, hb, hsp, hF⟩ := F w mg fa _ Y G.T.g hmg
  exact end_g KX G.T.g G.T.b G.T.builtins G.T.nolimit hg hobj hints (Nat.le_trans hlen hn2) hr ((G.T.seer hq).mods.imp fun _ z => z.1) hF hb (fun H h1 h2 => hsp H a ns hlen hbits h1 h2) (fun H e s' => hCX H s1 e s')
end Ct

set_option Elab.async false
set_option linter.all false
set_option maxRecDepth 100000
set_option maxHeartbeats 4000000
namespace P76
open PySem PySem.Spec PyProof.Rows L2 Ct
section
variable {P : Program} {w : World} {K : PySem.W.Frag} {mg : Str → Option Value} {base : Heap}
abbrev sX0 : Stmt := inClass (top 7) 0
theorem scX0 : FnScope ["self", "value"] ["self", "value"] (defScope sX0) := ⟨rfl, rfl, rfl, by decide +kernel, rfl, by decide +kernel, by decide +kernel⟩
theorem hasX0 {C fI : Addr} {fd : FuncData} (F : Fun K "__init__" "BadPost.__init__" sX0 fI fd) (T : XCls K C fI) (no : PySem.W.findIn K (.ref C) "value" = some none) : HasX P w K mg base 1 C fI "value" := by
  refine ⟨T, fd, F.ok scX0 (fun vs H Q E h => ?_) (fun cdv A outer s H vs Q E hr h => ?_), fun s a w => ?_, fun s a w => ?_⟩
  · obtain ⟨a, v, rfl, _⟩ := h; rfl
  · obtain ⟨a, v, rfl, ha, k⟩ := h
    exact ⟨_, pss_one (ps_ost (pv 0) (pv 1)), _, rfl, _, rfl, a, C, rfl, T.ox, no, .inl ⟨ha, fun dx n ne => k dx n ne⟩⟩
  · obtain ⟨oc, od, kV, doc, pm, an, cdv, ct, osl, rfl, lk, hcd⟩ := F.ex
    exact .of_eq rfl
  · obtain ⟨oc, od, kV, doc, pm, an, cdv, ct, osl, rfl, lk, hcd⟩ := F.ex
    exact .of_eq rfl
abbrev sX1 : Stmt := inClass (top 9) 0
theorem scX1 : FnScope ["self", "value"] ["self", "value"] (defScope sX1) := ⟨rfl, rfl, rfl, by decide +kernel, rfl, by decide +kernel, by decide +kernel⟩
theorem hasX1 {C fI : Addr} {fd : FuncData} (F : Fun K "__init__" "BadPace.__init__" sX1 fI fd) (T : XCls K C fI) (no : PySem.W.findIn K (.ref C) "value" = some none) : HasX P w K mg base 1 C fI "value" := by
  refine ⟨T, fd, F.ok scX1 (fun vs H Q E h => ?_) (fun cdv A outer s H vs Q E hr h => ?_), fun s a w => ?_, fun s a w => ?_⟩
  · obtain ⟨a, v, rfl, _⟩ := h; rfl
  · obtain ⟨a, v, rfl, ha, k⟩ := h
    exact ⟨_, pss_one (ps_ost (pv 0) (pv 1)), _, rfl, _, rfl, a, C, rfl, T.ox, no, .inl ⟨ha, fun dx n ne => k dx n ne⟩⟩
  · obtain ⟨oc, od, kV, doc, pm, an, cdv, ct, osl, rfl, lk, hcd⟩ := F.ex
    exact .of_eq rfl
  · obtain ⟨oc, od, kV, doc, pm, an, cdv, ct, osl, rfl, lk, hcd⟩ := F.ex
    exact .of_eq rfl
end
/-! ### the head: facts by names, the run -/
def tFn : List He.DefD := [dM "law" sLaw, dC "BadPost" "__init__" "BadPost.__init__" sX0, dC "BadPace" "__init__" "BadPace.__init__" sX1, dM "_law_source" sSource, dM "_law_draw" sDraw, dM "_law_right" sRight]
def tFa : List He.Fa := [.glo "law", .free "int", .free "len", .free "range", .free "max", .free "min", .free "isinstance", .free "list", .free "dict", .free "repr", .free "enumerate", .free "ValueError", .glo "WebError", .glo "BadPost", .glo "BadPace", .glo "BadMove", .glo "BadPlaces", .glo "BadPlan", .glo "NoPlace", .glo "_law_source", .glo "_law_draw", .glo "_law_right"]
def hex : List (PySem.W.Frag → Bool) := [fun K => genB K, fun K => xclB K "BadPost" "value", fun K => xclB K "BadPace" "value", fun K => isB K "BadPost" (.ref (He.ga K "BadPost")) true, fun K => isB K "BadPost" (.ref (He.ga K "BadPace")) false, fun K => isB K "BadPost" (.ref (He.ga K "BadMove")) false, fun K => isB K "BadPost" (.ref (He.ga K "BadPlaces")) false, fun K => isB K "BadPost" (.ref (He.ga K "BadPlan")) false, fun K => isB K "BadPost" (.ref (He.ga K "NoPlace")) false, fun K => isB K "BadPace" (.ref (He.ga K "BadPost")) false, fun K => isB K "BadPace" (.ref (He.ga K "BadPace")) true, fun K => isB K "BadPace" (.ref (He.ga K "BadMove")) false, fun K => isB K "BadPace" (.ref (He.ga K "BadPlaces")) false, fun K => isB K "BadPace" (.ref (He.ga K "BadPlan")) false, fun K => isB K "BadPace" (.ref (He.ga K "NoPlace")) false, fun K => isB K "BadPost" (.ref (He.ga K "WebError")) true, fun K => isB K "BadPace" (.ref (He.ga K "WebError")) true, fun K => isB K "BadPost" (.type "ValueError") true, fun K => isB K "BadPace" (.type "ValueError") true]
def hexA (K : PySem.W.Frag) : Bool := hex.all fun f => f K
theorem exs_at {K : PySem.W.Frag} (c : hexA K = true) (i : Nat) {f : PySem.W.Frag → Bool} (h : hex[i]? = some f) : f K = true := List.all_eq_true.mp c f (List.mem_of_getElem? h)
def hnames : List Str := ["WebError", "BadPlaces", "NoPlace", "BadPlan", "BadMove", "BadPost", "BadPace", "_law_source", "_law_draw", "_law_right"]
abbrev HR : PySem.W.OpenRow := PySem.W.OpenLaw.row PySem.Challenge.rw_cornerturn_k76_new_errors_by_hand
abbrev hk : PySem.W.Hook := Ct.hookB 4 tFa tFn hexA
def hob (s : PySem.W.SharedT) : Ct.AlB := Ct.obsBG 4 tFa tFn hexA (HandSHeadRun.getT s)
theorem hob_eq (s : PySem.W.SharedT) : hob s = hk.obs s.abs := Ct.obsBG_eq (HandSHeadRun.getT_eq s)
theorem hrun (w : World) : HandSHeadRun.RunEq HR (PySem.W.view HR.prog [14]) hk hob 6000 hnames w := by
  intro os
  kernel_rfl
open He in
theorem facts {P : Program} {w : World} {K : PySem.W.Frag} {h : Heap} {mg : Str → Option Value} {f : Addr} (X : K.In h) (G : h.Ns mainGlobals mg) (zfa : mg ("law" : Str) = some (.ref f)) (c : He.SaysD tFa tFn K) (ce : hexA K = true) :
    ∃ fd : FuncData, (∀ (s : Shared) (v : Value), BindsTo s fd ⟨[v], []⟩ [("script", v)]) ∧ ∀ base : Heap, K.In base → base.Ns mainGlobals mg → (∃ mm, base.Ns sysModules mm) → GFn P w K mg base CX0 5 f fd ["script"] (spLaw K) := by
  obtain ⟨fd, FL0⟩ := c.def_ 0 (d := dM "law" sLaw) rfl
  have e := zfa.symm.trans (glo_ok X G (c.fact 0 (f := .glo "law") rfl))
  cases e
  have b := FunD.bindsA (ps := ["script"]) FL0 fun _ _ _ _ _ _ us hl => match us, hl with | [_], _ => rfl
  have FL : Fun K "law" "law" sLaw (ga K "law") fd := fun_of FL0
  refine ⟨fd, fun s v => b s [v] rfl, fun base KB _ SB => ?_⟩
  have T : Bn mg := ⟨(free_ok X G (c.fact 1 (f := .free "int") rfl)), (free_ok X G (c.fact 2 (f := .free "len") rfl)), (free_ok X G (c.fact 3 (f := .free "range") rfl)), (free_ok X G (c.fact 4 (f := .free "max") rfl)), (free_ok X G (c.fact 5 (f := .free "min") rfl)), (free_ok X G (c.fact 6 (f := .free "isinstance") rfl)), (free_ok X G (c.fact 7 (f := .free "list") rfl)), (free_ok X G (c.fact 8 (f := .free "dict") rfl)), (free_ok X G (c.fact 9 (f := .free "repr") rfl)), (free_ok X G (c.fact 10 (f := .free "enumerate") rfl)), (free_ok X G (c.fact 11 (f := .free "ValueError") rfl))⟩
  obtain ⟨X0, n0⟩ := xclB_ok (x := "BadPost") (f := "value") (show (fun K => genB K) K = true from exs_at ce 0 rfl) (show (fun K => xclB K "BadPost" "value") K = true from exs_at ce 1 rfl)
  obtain ⟨fx0, F0⟩ := fun_at c 1 (C := "BadPost") (m := "__init__") (q := "BadPost.__init__") (st := sX0) rfl
  obtain ⟨X1, n1⟩ := xclB_ok (x := "BadPace") (f := "value") (show (fun K => genB K) K = true from exs_at ce 0 rfl) (show (fun K => xclB K "BadPace" "value") K = true from exs_at ce 2 rfl)
  obtain ⟨fx1, F1⟩ := fun_at c 2 (C := "BadPace") (m := "__init__") (q := "BadPace.__init__") (st := sX1) rfl
  let Cf : Nat → Addr := fun i => [ga K "BadPost", ga K "BadPace", ga K "BadMove", ga K "BadPlaces", ga K "BadPlan", ga K "NoPlace"].getD i 0
  let If : Nat → Addr := fun i => [ma K (ga K "BadPost") "__init__", ma K (ga K "BadPace") "__init__"].getD i 0
  have R : Er K mg Cf If (ga K "WebError") := by
    refine ⟨fun i nm e => ?_, fun i hi => ?_, fun i hi => ?_, fun i j hi hj => ?_, fun i hi => ?_, fun i hi => ?_, (glo_ok X G (c.fact 12 (f := .glo "WebError") rfl))⟩
    · rcases i with _ | _ | _ | _ | _ | _ | i
      · cases e; exact (glo_ok X G (c.fact 13 (f := .glo "BadPost") rfl))
      · cases e; exact (glo_ok X G (c.fact 14 (f := .glo "BadPace") rfl))
      · cases e; exact (glo_ok X G (c.fact 15 (f := .glo "BadMove") rfl))
      · cases e; exact (glo_ok X G (c.fact 16 (f := .glo "BadPlaces") rfl))
      · cases e; exact (glo_ok X G (c.fact 17 (f := .glo "BadPlan") rfl))
      · cases e; exact (glo_ok X G (c.fact 18 (f := .glo "NoPlace") rfl))
      · cases e
    · rcases i with _ | _ | i
      · exact X0
      · exact X1
      · omega
    · rcases i with _ | _ | i
      · exact n0
      · exact n1
      · omega
    · rcases i with _ | _ | i
      · rcases j with _ | _ | _ | _ | _ | _ | j
        · exact (of_decide_eq_true (show (fun K => isB K "BadPost" (.ref (He.ga K "BadPost")) true) K = true from exs_at ce 3 rfl))
        · exact (of_decide_eq_true (show (fun K => isB K "BadPost" (.ref (He.ga K "BadPace")) false) K = true from exs_at ce 4 rfl))
        · exact (of_decide_eq_true (show (fun K => isB K "BadPost" (.ref (He.ga K "BadMove")) false) K = true from exs_at ce 5 rfl))
        · exact (of_decide_eq_true (show (fun K => isB K "BadPost" (.ref (He.ga K "BadPlaces")) false) K = true from exs_at ce 6 rfl))
        · exact (of_decide_eq_true (show (fun K => isB K "BadPost" (.ref (He.ga K "BadPlan")) false) K = true from exs_at ce 7 rfl))
        · exact (of_decide_eq_true (show (fun K => isB K "BadPost" (.ref (He.ga K "NoPlace")) false) K = true from exs_at ce 8 rfl))
        · omega
      · rcases j with _ | _ | _ | _ | _ | _ | j
        · exact (of_decide_eq_true (show (fun K => isB K "BadPace" (.ref (He.ga K "BadPost")) false) K = true from exs_at ce 9 rfl))
        · exact (of_decide_eq_true (show (fun K => isB K "BadPace" (.ref (He.ga K "BadPace")) true) K = true from exs_at ce 10 rfl))
        · exact (of_decide_eq_true (show (fun K => isB K "BadPace" (.ref (He.ga K "BadMove")) false) K = true from exs_at ce 11 rfl))
        · exact (of_decide_eq_true (show (fun K => isB K "BadPace" (.ref (He.ga K "BadPlaces")) false) K = true from exs_at ce 12 rfl))
        · exact (of_decide_eq_true (show (fun K => isB K "BadPace" (.ref (He.ga K "BadPlan")) false) K = true from exs_at ce 13 rfl))
        · exact (of_decide_eq_true (show (fun K => isB K "BadPace" (.ref (He.ga K "NoPlace")) false) K = true from exs_at ce 14 rfl))
        · omega
      · omega
    · rcases i with _ | _ | i
      · exact (of_decide_eq_true (show (fun K => isB K "BadPost" (.ref (He.ga K "WebError")) true) K = true from exs_at ce 15 rfl))
      · exact (of_decide_eq_true (show (fun K => isB K "BadPace" (.ref (He.ga K "WebError")) true) K = true from exs_at ce 16 rfl))
      · omega
    · rcases i with _ | _ | i
      · exact (of_decide_eq_true (show (fun K => isB K "BadPost" (.type "ValueError") true) K = true from exs_at ce 17 rfl))
      · exact (of_decide_eq_true (show (fun K => isB K "BadPace" (.type "ValueError") true) K = true from exs_at ce 18 rfl))
      · omega
  have hX : ∀ i, i < 2 → HasX P w K mg base 1 (Cf i) (If i) "value" := fun i hi => by
    rcases i with _ | _ | i
    · exact hasX0 F0 X0 n0
    · exact hasX1 F1 X1 n1
    · omega
  have h1 : Has P w K mg base CX0 1 "_law_source" ["script", "start"] (spSource K) := has_source T (dfe_of (nm := "_law_source") (st := sSource) (ps := ["script", "start"]) X G c 3 19 rfl rfl fun _ _ _ _ _ _ us hl => match us, hl with | [_, _], _ => rfl)
  have h2 : Has P w K mg base CX0 1 "_law_draw" ["source", "span"] spDraw := has_draw T (dfe_of (nm := "_law_draw") (st := sDraw) (ps := ["source", "span"]) X G c 4 20 rfl rfl fun _ _ _ _ _ _ us hl => match us, hl with | [_, _], _ => rfl)
  have h3 : Has P w K mg base CX0 1 "_law_right" ["error", "kind"] (spRight Cf) := has_right T R (dfe_of (nm := "_law_right") (st := sRight) (ps := ["error", "kind"]) X G c 5 21 rfl rfl fun _ _ _ _ _ _ us hl => match us, hl with | [_, _], _ => rfl)
  exact has_law T R SB FL hX h1 h2 h3
end P76
open PySem PySem.W PySem.Calls PyProof.Rows
set_option maxRecDepth 100000 in
set_option maxHeartbeats 0 in
theorem PySem.Challenge.cw_cornerturn_k76_new_errors_by_hand_holds : PySem.Challenge.rw_cornerturn_k76_new_errors_by_hand.Holds := by
  w_on; o_law
  refine HandSHeadRun.head_any (r := OpenLaw.row PySem.Challenge.rw_cornerturn_k76_new_errors_by_hand) (q := view (OpenLaw.row PySem.Challenge.rw_cornerturn_k76_new_errors_by_hand).prog [14]) (H := P76.hk) (ob := P76.hob) (M := 6000) (loose := P76.hnames) (d := HandSHeadRun.topDef (OpenLaw.row PySem.Challenge.rw_cornerturn_k76_new_errors_by_hand).prog 14) (kwd := []) P76.hob_eq
    (by kernel_rfl) (fun s => by kernel_rfl) P76.hrun (by kernel_rfl) (by kernel_rfl) (by kernel_rfl) (by rfl) (by first | assumption | decide +kernel) (by decide +kernel) ⟨rfl, rfl, rfl, rfl, rfl, by decide +kernel⟩ ?hw ?hc
  case hw => w_witness2
  case hc =>
    refine Ct.walk_gE (l := PySem.Challenge.rw_cornerturn_k76_new_errors_by_hand) (n := 63) (k := 5) (x := "script") (CX := L2.CX0) rfl (by decide +kernel) (by decide) (by kernel_rfl) ⟨rfl, by decide, by decide⟩ ?F (fun _ _ _ _ z => z)
    intro w mg fa h Y G hmg0
    obtain ⟨K, KX, c, ce⟩ := Y
    have hmg : mg ("law" : PySem.Str) = some (.ref fa) := by
      have e : (HandSHeadRun.topDef (OpenLaw.row PySem.Challenge.rw_cornerturn_k76_new_errors_by_hand).prog 14).name = ("law" : PySem.Str) := by kernel_rfl
      rw [← e]
      exact hmg0
    obtain ⟨fd, hb, hF⟩ := P76.facts (P := (PySem.Challenge.rw_cornerturn_k76_new_errors_by_hand).prog) (w := w) KX G hmg c ce
    exact ⟨K, fd, P76.spLaw K, KX, hb, fun H a ns hl hz on hS => ⟨a, ns, rfl, on, hS, hl, hz, fun _ => rfl⟩, hF⟩
#print axioms PySem.Challenge.cw_cornerturn_k76_new_errors_by_hand_holds
