import PyProof.Rows.All
import Wide.All
import OpenK.AllK
import Wide.FinOn
import PyProof.ReprRoads
import HandS.ForExc
import HandS.ForMost
import HandS.EndBits
import HandS.Wide
import HandS.ExcInit
import HandS.IsInst
import HandS.ExcIs
import KE.KExcIs
import HandS.Defaults
import HandS.Comp
import HandS.TupSets
import HandS.SetKeys
import HandS.SetBool
import HandS.Strs
import KE.GoesMore
import KE.SortData
import HandS.Walk
import HandS.Property
import HandS.DictComp
import HandS.WideBits
import HandS.More
import HandS.Deep
import HandS.Zip
import HandS.TupAny
import PyProof.NeKinds
import HandS.Head0
import HandS.Head1
import HandS.Head2
import HandS.HeadEnd
import HandS.HeadHook1
import HandS.HeadHook2
import HandS.Call
import HandS.OwnEq
import PyProof.InstNe
import PyProof.EqKinds
import PyProof.FactsAll.dict_1
import HandS.Exc
import HandS.TryMany
import KE.KDictDisplayH
import HandS.Text
import PyProof.StrLawsRepr
import HandS.Style
import PyProof.Rows.ReprShort
import PySem.Challenge.RW_cornerturn_k02_webs_asked_and_changed
set_option Elab.async false
set_option linter.all false
set_option maxRecDepth 100000
set_option maxHeartbeats 2000000
/-! Own kit A: defs whose promise leans on there being no guard on the stack (repr); the end of a law with such a def. -/
namespace Ct
open PySem PySem.Spec PyProof.Rows L2
/-- a def's promise where no guard stands on the stack -/
structure GFn (P : Program) (w : World) (K : PySem.W.Frag) (mg : Str → Option Value) (base : Heap) (CX : CXT) (k : Nat) (f : Addr) (fd : FuncData) (ps : List Str) (sp : Sp) : Prop where
  len : ∀ vs H Q E, sp vs H Q E → vs.length = ps.length
  run : ∀ (A : Around) (o : List Env) (s : Shared) (H : Hp) (ar : Args) (us : List Value) (vs : List V) (Q : VK) (E : XK), A.guards = some [] → Room k A → Env0 P w K mg base A o s H →
    BindsTo s fd ar (ps.zip us) → Vals vs us → sp vs H Q E → codeAny (model P w) A (.call (.ref f) ar) (CR CX o P w H s Q E) s
theorem GFn.of {P : Program} {w : World} {K : PySem.W.Frag} {mg : Str → Option Value} {base : Heap} {CX : CXT} {k : Nat} {f : Addr} {fd : FuncData} {ps : List Str} {sp : Sp}
    (F : FnOk P w K mg base CX k f fd ps sp) : GFn P w K mg base CX k f fd ps sp := ⟨F.len, fun A o s H ar us vs Q E _ => F.run A o s H ar us vs Q E⟩
theorem GFn.mono {P : Program} {w : World} {K : PySem.W.Frag} {mg : Str → Option Value} {base : Heap} {CX : CXT} {j k : Nat} {f : Addr} {fd : FuncData} {ps : List Str} {sp : Sp}
    (F : GFn P w K mg base CX j f fd ps sp) (h : j ≤ k) : GFn P w K mg base CX k f fd ps sp := ⟨F.len, fun A o s H ar us vs Q E g r => F.run A o s H ar us vs Q E g (r.mono h)⟩
section
variable {P : Program} {w : World} {K : PySem.W.Frag} {mg : Str → Option Value} {base : Heap} {CX : CXT}
/-- the rule for such a def -/
theorem gfn_of {x qual : Str} {st : Stmt} {f : Addr} {fd : FuncData} {N ps : List Str} {k : Nat} {sp : Sp} (F : Fun K x qual st f fd) (S : FnScope N ps (defScope st)) (len : ∀ vs H Q E, sp vs H Q E → vs.length = ps.length)
    (body : ∀ (cdv : Value) (A : Around) (o : List Env) (s : Shared) (H : Hp) (vs : List V) (Q : VK) (E : XK), A.guards = some [] → Room k (A.deeper (envOfC qual (defScope st) s.heap.objs.size f cdv)) → sp vs H Q E →
      ∃ t, PSs (cxOf CX P w K mg base N qual (defScope st) f cdv A o s H E) (defBody st) t ∧ t { nx := fun _ H' => Q .non H', rt := Q } (start N vs) H) : GFn P w K mg base CX (k + 1) f fd ps sp := by
  obtain ⟨oc, od, kV, doc, pm, an, cdv, ct, osl, rfl, lk, hcd⟩ := F.ex
  refine ⟨len, ?_⟩
  intro A o s H ar us vs Q E g hr e0 hb rel hsp
  have kb : ∀ b u, base.get? b = some u → s.heap.get? b = some u := fun b u e => (e0.bs b u e).1
  have KX := e0.mod.kin.keeps kb
  have lim := e0.mod.nolimit.keeps kb
  refine codeAny_call_function hr.depth (KX _ _ lk) rfl S.co S.gen rfl (PySem.W.codeRec_of KX hcd) (hb _ _ _ _ ?_)
  refine wpAny_newFunctionEnv_cells S.kind (fun ⟨n, v⟩ hy => ?_) fun env he s1 ic => ?_
  · cases S.par n (List.of_mem_zip hy).1 with
    | inl q => exact Or.inl q
    | inr q => exact Or.inr ⟨q, PySem.W.cellsFrom_some _ _ _ (Or.inl q)⟩
  cases he
  refine ⟨lim.keeps ic.toInCall.keep, codeAny_func ?_⟩
  obtain ⟨t, ht, hq⟩ := body cdv A o s H vs Q E g (hr.deeper _) hsp
  have I := inv_start (CX := CX) (P := P) (w := w) (K := K) (mg := mg) (base := base) (E := E) S hr.hd e0 (len _ _ _ _ hsp) rel ic
  refine wpAny_mono (ht.run [] s1 (start N vs) H _ I hq) ?_ (fun e s' z => z)
  intro fl s' z
  cases fl with
  | ret u => obtain ⟨v, σ', H', J, rv, q⟩ := z; exact ⟨v, H', J.os, J.bare, J.base, J.hok, rv, q⟩
  | next => obtain ⟨σ', H', J, q⟩ := z; exact ⟨.non, H', J.os, J.bare, J.base, J.hok, rfl, q⟩
  | brk => obtain ⟨_, _, _, q⟩ := z; exact q.elim
  | cont => obtain ⟨_, _, _, q⟩ := z; exact q.elim
end
section
variable {X : Cx} {CX : CXT} {k : Nat} {f : Addr} {fd : FuncData} {ps : List Str} {sp : Sp} {dvs : List V} {ds : List Value} {E : XK} {x : Str} {p pos : Pos} {e : Expr} {es : List Expr} {t : TA}
theorem run_g {pins : List (Addr × Obj)} {σ : L2.St} {H : Hp} {s : Shared} {Q : VK} {us : List Value} {vs : List V} (F : GFn X.prog X.w X.K X.mg X.base CX k f fd ps sp) (g : X.A.guards = some []) (hr : Room k X.A) (hb : Binds X.K fd ps ds) (hd : Vals dvs ds)
    (hx : Passes CX X E) (I : Inv X pins σ H s) (r : Vals vs us) (h : sp (vs ++ dvs) H Q E) : wpAny (model X.prog X.w) X.A (call (.ref f) us) (EP X pins σ Q) X.xe s := by
  have r2 := r.append hd
  refine wpAny_call (codeAny_mono (F.run X.A X.stack s H ⟨us, []⟩ (us ++ ds) (vs ++ dvs) Q E g hr I.env0 (hb s us I.kIn (by rw [← r2.length]; exact F.len _ _ _ _ h)) r2 h) ?_)
  intro r s' z
  match r, z with
  | .error e, z => exact hx pins σ H s e s' I z
  | .ok (.ret u), z => exact I.after z
  | .ok .next, z => exact False.elim z
  | .ok .brk, z => exact False.elim z
  | .ok .cont, z => exact False.elim z
/-- a call of such a def -/
theorem pe_callG (F : GFn X.prog X.w X.K X.mg X.base CX k f fd ps sp) (g : X.A.guards = some []) (hr : Room k X.A) (hg : Gl X x) (hm : X.mg x = some (.ref f)) (hk : PySem.W.keepIn X.K (.ref f) = true) (hb : Binds X.K fd ps ds) (hd : Vals dvs ds) (hx : Passes CX X E)
    (ha : PA X (e :: es) t) (hdb : (x == ("__debug__" : Str)) = false := by decide) (he : starEach (e :: es) X.env = (false, eval e X.env) :: starEach es X.env := by rfl) (hpl : (backTo pos (starEach es X.env)).any (·.1) = false := by rfl) :
    PE X (.Call (.Name x p) (e :: es) [] pos) (tCall sp dvs E t) := by
  constructor
  intro pins s σ H Q I h
  refine wpAny_Call_Name_kw (ld_glob I hg hm ?_ hdb)
  refine PySem.W.callWith_K (h₀ := X.base) I.ok.mod.kin hk (thn (ha.run pos pins s σ H _ I h) ?_) he hpl
  rintro us s1 ⟨vs, H1, I1, r, q⟩
  exact ⟨I1.kIn, run_g F g hr hb hd hx I1 r q⟩
end
/-! the law's own end -/
/-- the abstract heap that tracks the script alone -/
def hpS (a : Addr) (vs : List Value) (ns : List Int) : Hp := fun b => if b = a then some (.frz { cls := .type "list", data := .seq vs.toArray } (.lst (ns.map V.int))) else none
theorem end_g {P : Program} {w : World} {K : PySem.W.Frag} {mg mb : Str → Option Value} {CX : CXT} {k : Nat} {fa a : Addr} {fd : FuncData} {x : Str} {sp : Sp} {s1 : Shared} {vs : List Value} {ns : List Int}
    (KX : K.In s1.heap) (hns : s1.heap.Ns mainGlobals mg) (hb : s1.heap.Ns builtinsNs mb) (hbb : ∀ x : Str, x ≠ "__name__" → mb x = bootBuiltins x) (hlim : s1.heap.NoLimit) (hg : s1.gens = #[])
    (ha : s1.heap.get? a = some { cls := .type "list", data := .seq vs.toArray }) (hi : IntsAre vs ns) (hl : ns.length ≤ sizeLine) (hr : Room k callerA)
    (hmods : ∃ mm, s1.heap.Ns sysModules mm) (F : ∀ base : Heap, K.In base → base.Ns mainGlobals mg → (∃ mm, base.Ns sysModules mm) → GFn P w K mg base CX k fa fd [x] sp) (hbind : ∀ (s : Shared) (u : Value), BindsTo s fd ⟨[u], []⟩ [(x, u)])
    (hsp : ∀ H : Hp, Only H → SqL K H a (ns.map V.int) → sp [.ref a] H (fun v _ => v = .bl true) fun _ _ _ => False)
    (hCX : ∀ H e s', CX [] H s1 (fun _ _ _ => False) e s' → False) :
    codeAny (model P w) callerA (.call (.ref fa) ⟨[.ref a], []⟩) (fun r s' => r = .ok (.ret (.bool true)) ∧ OldK s1.heap s'.heap ∧ s'.os = s1.os ∧ AllBare s'.gens) s1 := by
  have rv := vals_ints hi
  have main : ∀ H : Hp, Only H → SqL K H a (ns.map V.int) → HOk P w H s1.heap → (∀ b, b ≠ a → H b = none) → (∀ o, K.lookup a = some o → H a = none) →
      codeAny (model P w) callerA (.call (.ref fa) ⟨[.ref a], []⟩) (fun r s' => r = .ok (.ret (.bool true)) ∧ OldK s1.heap s'.heap ∧ s'.os = s1.os ∧ AllBare s'.gens) s1 := by
    intro H only seq hok off hK
    -- what is no list of the script's stands in the base
    have inB : ∀ {b : Addr} {o : Obj} {es : Array DictEntry} {ep : Nat}, s1.heap.get? b = some o → o.data = .dict es ep → H b = none := by
      intro b o es ep e d
      by_cases hba : b = a
      · rw [hba, ha] at e
        cases e
        cases d
      · exact off b hba
    have nsB : ∀ {b : Addr} {m : Str → Option Value}, s1.heap.Ns b m → (hidT s1.heap H).Ns b m := by
      rintro b m ⟨o, es, ep, e, d, r⟩
      exact ⟨o, es, ep, hidT_get e (inB e d), d, r⟩
    have KB : K.In (hidT s1.heap H) := by
      intro b o e
      refine hidT_get (KX b o e) ?_
      by_cases hba : b = a
      · rw [hba] at e ⊢
        exact hK o e
      · exact off b hba
    have lim : (hidT s1.heap H).NoLimit := by
      obtain ⟨mc, h1, h2⟩ := hlim
      exact ⟨mc, nsB h1, h2⟩
    have e0 : Env0 P w K mg (hidT s1.heap H) callerA [] s1 H :=
      { frames := rfl, mod := ⟨KB, nsB hns, ⟨mb, nsB hb, hbb⟩, lim⟩, bs := fun b o e => of_hidT e, bsz := Nat.le_of_eq (hidT_size _ _), funs := trivial, frf := (fun b z => nomatch z), hok := hok, bare := .of_eq hg }
    refine codeAny_mono ((F _ KB (nsB hns) (hmods.imp fun _ z => nsB z)).run callerA [] s1 H ⟨[.ref a], []⟩ [.ref a] [.ref a] _ _ rfl hr e0 (hbind s1 (.ref a)) (.cons rfl .nil) (hsp H only seq)) ?_
    intro r s' z
    match r, z with
    | .error e, z => exact (hCX H e s' z).elim
    | .ok .next, z => exact False.elim z
    | .ok .brk, z => exact False.elim z
    | .ok .cont, z => exact False.elim z
    | .ok (.ret u), z =>
      obtain ⟨v, H', os, bare, un, hok', ru, qv⟩ := z
      cases (show v = V.bl true from qv)
      cases (show u = Value.bool true from ru)
      refine ⟨rfl, OldK.of_keep ?_, os, bare⟩
      intro b o e
      cases q : H b with
      | none => exact un.keep b o e q (fun z => (nomatch z)) (fun z => (nomatch z))
      | some u =>
        cases only b with
        | inl z => rw [q] at z; cases z
        | inr z =>
          obtain ⟨ob, xs, z⟩ := z
          have h1 := (hok b _ z).1
          have h2 := (hok' b _ (un.frzs b ob _ z)).1
          rw [e] at h1
          cases h1
          exact h2
  cases hk : K.lookup a with
  | some o =>
    have e := KX a o hk
    rw [ha] at e
    cases e
    exact main (fun _ => none) (fun _ => Or.inl rfl) (Or.inr ⟨_, vs.toArray, _, hk, rfl, rfl, rfl, by rw [List.size_toArray, hi.length]; exact hl, by simpa using rv⟩) (fun b u z => nomatch z) (fun b _ => rfl) (fun _ _ => rfl)
  | none =>
    have at_a : hpS a vs ns a = some (.frz { cls := .type "list", data := .seq vs.toArray } (.lst (ns.map V.int))) := if_pos rfl
    have off_a : ∀ b, b ≠ a → hpS a vs ns b = none := fun b z => if_neg z
    refine main (hpS a vs ns) (fun b => ?_) (Or.inl (Or.inr ⟨_, at_a⟩)) (fun b u z => ?_) off_a (fun o z => ?_)
    · by_cases hba : b = a
      · exact Or.inr ⟨_, _, by rw [hba]; exact at_a⟩
      · exact Or.inl (off_a b hba)
    · by_cases hba : b = a
      · rw [hba] at z ⊢
        rw [at_a] at z
        cases z
        exact ⟨ha, by rw [List.length_map]; exact hl, vs, _, rv, ha⟩
      · rw [off_a b hba] at z
        cases z
    · rw [hk] at z
      cases z
/-- the goal that k_head leaves, from the promise of a law's def that leans on no guard; the script's bits are told -/
theorem walk_g {l : PySem.W.OpenLaw} {n k : Nat} {q : Program} {loose : List Str} {XP : (Str → Option Value) → Heap → Prop} {YP : World → Heap → Prop} {d : DefRec} {K : Params → PySem.W.Frag} {CX : World → CXT} {sp : World → Sp} {x : Str}
    (hn : l.most = some n) (hq : importsNone q = true) (hn2 : n ≤ sizeLine) (hdf : d.params.defaults = []) (hr : Room k callerA) (hY : ∀ (w : World) (h : Heap), YP w h → (K w.params).In h)
    (F : ∀ (w : World) (mg : Str → Option Value) (fa : Addr) (h : Heap), (K w.params).In h → h.Ns mainGlobals mg → mg d.name = some (.ref fa) →
      ∃ fd : FuncData, (∀ (s : Shared) (u : Value), BindsTo s fd ⟨[u], []⟩ [(x, u)]) ∧ ∀ base : Heap, (K w.params).In base → base.Ns mainGlobals mg → (∃ mm, base.Ns sysModules mm) → GFn l.prog w (K w.params) mg base (CX w) k fa fd [x] (sp w))
    (hsp : ∀ (w : World) (H : Hp) (a : Addr) (ns : List Int), ns.length ≤ n → (∀ z ∈ ns, Builtin.Int.intBits z ≤ 1048576) → Only H → SqL (K w.params) H a (ns.map V.int) → sp w [.ref a] H (fun v _ => v = .bl true) fun _ _ _ => False)
    (hCX : ∀ (w : World) (H : Hp) (s : Shared) (e : Value) (s' : Shared), CX w [] H s (fun _ _ _ => False) e s' → False) :
    PySem.W.WalkO q loose XP YP l.row.toRowW d [] (fun f vs => PySem.call f vs) := by
  refine Att.attach_callB hn hdf ?_
  intro w s0 s1 mg mb fa o pm cd doc a vs ns G Y _ _ _ hmg hobj hints hlen hbits hg
  obtain ⟨fd, hb, hF⟩ := F w mg fa _ (hY w _ Y) G.T.g hmg
  exact end_g (hY w _ Y) G.T.g G.T.b G.T.builtins G.T.nolimit hg hobj hints (Nat.le_trans hlen hn2) hr ((G.T.seer hq).mods.imp fun _ z => z.1) hF hb (fun H h1 h2 => hsp w H a ns hlen hbits h1 h2) (fun H e s' => hCX w H s1 e s')
/-- the same where the promise hangs on the written part alone -/
theorem walk_gK {l : PySem.W.OpenLaw} {n k : Nat} {q : Program} {loose : List Str} {XP : (Str → Option Value) → Heap → Prop} {YP : World → Heap → Prop} {d : DefRec} {K : Params → PySem.W.Frag} {CX : CXT} {sp : PySem.W.Frag → Sp} {x : Str}
    (hn : l.most = some n) (hq : importsNone q = true) (hn2 : n ≤ sizeLine) (hdf : d.params.defaults = []) (hr : Room k callerA) (hY : ∀ (w : World) (h : Heap), YP w h → (K w.params).In h)
    (F : ∀ (w : World) (mg : Str → Option Value) (fa : Addr) (h : Heap), (K w.params).In h → h.Ns mainGlobals mg → mg d.name = some (.ref fa) →
      ∃ fd : FuncData, (∀ (s : Shared) (u : Value), BindsTo s fd ⟨[u], []⟩ [(x, u)]) ∧ ∀ base : Heap, (K w.params).In base → base.Ns mainGlobals mg → (∃ mm, base.Ns sysModules mm) → GFn l.prog w (K w.params) mg base CX k fa fd [x] (sp (K w.params)))
    (hsp : ∀ (K : PySem.W.Frag) (H : Hp) (a : Addr) (ns : List Int), ns.length ≤ n → (∀ z ∈ ns, Builtin.Int.intBits z ≤ 1048576) → Only H → SqL K H a (ns.map V.int) → sp K [.ref a] H (fun v _ => v = .bl true) fun _ _ _ => False)
    (hCX : ∀ (H : Hp) (s : Shared) (e : Value) (s' : Shared), CX [] H s (fun _ _ _ => False) e s' → False) :
    PySem.W.WalkO q loose XP YP l.row.toRowW d [] (fun f vs => PySem.call f vs) :=
  walk_g (K := K) (CX := fun _ => CX) (sp := fun w => sp (K w.params)) hn hq hn2 hdf hr hY F (fun w H a ns h1 h2 h3 h4 => hsp (K w.params) H a ns h1 h2 h3 h4) fun _ H s e s' => hCX H s e s'
end Ct

set_option Elab.async false
set_option linter.all false
set_option maxRecDepth 100000
set_option maxHeartbeats 2000000
/-! Own kit B: data of any depth with dicts, read off the abstract heap; repr; great powers. -/
namespace Ct
open PySem PySem.Spec L2
def keyD : Key → PyData
  | .inl i => .int i
  | .inr x => .str x
mutual
/-- the value v is the datum d (lists, tuples, dicts with ints and texts or tuples of such as keys) -/
inductive Dq (K : PySem.W.Frag) (H : Hp) : V → PyData → Prop
  | non : Dq K H .non .none
  | bl (b : Bool) : Dq K H (.bl b) (.bool b)
  | int (i : Int) : Dq K H (.int i) (.int i)
  | str (x : Str) : Dq K H (.str x) (.str x)
  | lst {a : Addr} {xs : List V} {ds : List PyData} : SqL K H a xs → DqAll K H xs ds → Dq K H (.ref a) (.list ds)
  | tup {a : Addr} {xs : List V} {ds : List PyData} : SqT K H a xs → DqAll K H xs ds → Dq K H (.ref a) (.tuple ds)
  | dic {a : Addr} {kvs : List (Key × V)} {vs : List PyData} {ps : List (PyData × PyData)} : Rd H a (.dK kvs) → ps.map (·.1) = kvs.map (fun p => keyD p.1) → vs = ps.map (·.2) → DqAll K H (kvs.map (·.2)) vs → Dq K H (.ref a) (.dict ps)
  | dicT {a : Addr} {kvs : List (List Key × V)} {vs : List PyData} {ps : List (PyData × PyData)} : Rd H a (.dT kvs) → ps.map (·.1) = kvs.map (fun p => .tuple (p.1.map keyD)) → vs = ps.map (·.2) → DqAll K H (kvs.map (·.2)) vs → Dq K H (.ref a) (.dict ps)
inductive DqAll (K : PySem.W.Frag) (H : Hp) : List V → List PyData → Prop
  | nil : DqAll K H [] []
  | cons {v : V} {vs : List V} {d : PyData} {ds : List PyData} : Dq K H v d → DqAll K H vs ds → DqAll K H (v :: vs) (d :: ds)
end
section
variable {X : Cx} {pins : List (Addr × Obj)} {σ : L2.St} {H : Hp} {s : Shared}
theorem reads_key {h : Heap} : ∀ {k : Key} {u : Value}, RelV (kV k) u → Reads h u (keyD k) []
  | .inl i, u, r => by obtain ⟨t, rfl⟩ := r; exact .int i t
  | .inr x, u, r => by obtain ⟨t, rfl⟩ := r; exact .str x t
theorem reads_keys {h : Heap} : ∀ {ks : List Key} {us : List Value}, Vals (ks.map kV) us → ReadsAll h us (ks.map keyD) []
  | [], _, .nil => .nil
  | _ :: _, _, .cons r t => .cons (reads_key r) (reads_keys t)
theorem readsAll_cons0 {h : Heap} {v : Value} {vs : List Value} {d : PyData} {ds : List PyData} (a : Reads h v d []) (b : ReadsAll h vs ds []) : ReadsAll h (v :: vs) (d :: ds) [] := .cons a b
/-- the keys of a dict whose keys are ints and texts; its values -/
theorem kv_keys {prog : Program} {w : World} {h : Heap} : ∀ {kvs : List (Key × V)} {vs : List (Key × Value)} {es : List DictEntry}, KV kvs vs → Pairs (mixKind prog w) es vs →
    ReadsAll h (es.map (·.key)) (kvs.map fun p => keyD p.1) [] ∧ Vals (kvs.map (·.2)) (es.map (·.val))
  | [], _, _, .nil, .nil => ⟨.nil, .nil⟩
  | _ :: _, _, _, .cons r t, .cons e3 e4 u => by
    obtain ⟨h1, h2⟩ := kv_keys (h := h) t u
    obtain ⟨e1, e2⟩ := r
    have e3 := (mixKind_is prog w _ _).symm.trans e3
    refine ⟨readsAll_cons0 ?_ h1, .cons ?_ h2⟩
    · rcases keyIs_shape e3 with ⟨i, tk, z1, z2⟩ | ⟨x, tk, z1, z2⟩
      · dsimp only; rw [z2, e1, z1]; exact .int i tk
      · dsimp only; rw [z2, e1, z1]; exact .str x tk
    · dsimp only; rw [e4]; exact e2
/-- the start-up's table of modules stands in the base -/
def SysB (base : Heap) : Prop := ∃ mm, base.Ns sysModules mm
theorem sys_free (I : Inv X pins σ H s) (S : SysB X.base) {a : Addr} {o : HO} (e : H a = some o) : a ≠ sysModules := by
  obtain ⟨mm, ob, es, ep, h1, _⟩ := S
  intro z
  rw [z, (I.bs _ _ h1).2] at e
  cases e
theorem sys_seq (I : Inv X pins σ H s) (S : SysB X.base) {a : Addr} {o : Obj} {its : Array Value} {n : Nat} (e : s.heap.get? a = some o) (d : o.data = .seq its n) : a ≠ sysModules := by
  obtain ⟨mm, ob, es, ep, h1, h2, _⟩ := S
  intro z
  rw [z, I.bk _ _ h1] at e
  cases e
  rw [h2] at d
  cases d
theorem keysT {Hh : Hp} (hok : HOk X.prog X.w H s.heap) : ∀ {kvs : List (List Key × V)} {xs : List (List Key × Addr × Value)},
    Paired (fun (p : List Key × V) (q : List Key × Addr × Value) => p.1 = q.1 ∧ H q.2.1 = some (.tup (p.1.map kV)) ∧ RelV p.2 q.2.2) kvs xs →
    ReadsAll s.heap ((xs.map (entryOfKey (tupleKind (mixKind X.prog X.w)))).map (·.key)) (kvs.map fun p => .tuple (p.1.map keyD)) [] ∧ Vals (kvs.map (·.2)) ((xs.map (entryOfKey (tupleKind (mixKind X.prog X.w)))).map (·.val))
  | [], _, .nil => ⟨.nil, .nil⟩
  | _ :: _, _, .cons r t => by
    obtain ⟨h1, h2⟩ := keysT (Hh := Hh) hok t
    obtain ⟨e1, e2, e3⟩ := r
    obtain ⟨_, its, rv, o, ho, hc, n, hd⟩ := hok _ _ e2
    exact ⟨readsAll_cons0 (.tuple ho hc hd (by simpa using reads_keys rv)) h1, .cons e3 h2⟩
mutual
theorem Dq.reads (I : Inv X pins σ H s) (S : SysB X.base) : ∀ {v : V} {d : PyData} {u : Value}, Dq X.K H v d → RelV v u → ∃ as, Reads s.heap u d as ∧ sysModules ∉ as
  | _, _, _, .non, r => by cases r; exact ⟨_, .none, by simp⟩
  | _, _, _, .bl b, r => by cases r; exact ⟨_, .bool b, by simp⟩
  | _, _, _, .int i, r => by obtain ⟨t, rfl⟩ := r; exact ⟨_, .int i t, by simp⟩
  | _, _, _, .str x, r => by obtain ⟨t, rfl⟩ := r; exact ⟨_, .str x t, by simp⟩
  | _, _, _, .lst hs ha, r => by
    cases r
    obtain ⟨its, rv, ⟨o, n, ho, hc, _, hd⟩, _⟩ := I.list hs
    obtain ⟨as, hr, hn⟩ := DqAll.reads I S ha rv
    exact ⟨_, .list ho hc hd hr, fun z => (List.mem_cons.mp z).elim (fun e => sys_seq I S ho hd e.symm) hn⟩
  | _, _, _, .tup hs ha, r => by
    cases r
    obtain ⟨its, rv, ⟨o, ho, hc, n, hd⟩, _⟩ := I.tuple hs
    obtain ⟨as, hr, hn⟩ := DqAll.reads I S ha rv
    exact ⟨_, .tuple ho hc hd hr, hn⟩
  | _, _, _, .dic hs hk hv ha, r => by
    cases r
    obtain ⟨_, hy, vs, rkv, o, es, ep, ho, hx, hd, _, hp, _⟩ := hs.ok I.hok
    obtain ⟨h1, h2⟩ := kv_keys (h := s.heap) rkv hp
    obtain ⟨as, hr, hn⟩ := DqAll.reads I S ha h2
    subst hv
    refine ⟨_, .dict ho hx.1 hd (by rw [hk]; exact h1) hr, fun z => ?_⟩
    rcases List.mem_cons.mp z with e | z
    · exact (beq_eq_false_iff_ne.mp hy) e.symm
    · exact hn (by simpa using z)
  | _, _, _, .dicT hs hk hv ha, r => by
    cases r
    obtain ⟨_, hy, xs, rp, o, es, ep, ho, hx, hd, he, _⟩ := hs.ok I.hok
    obtain ⟨h1, h2⟩ := keysT (Hh := H) I.hok rp
    rw [← he] at h1 h2
    obtain ⟨as, hr, hn⟩ := DqAll.reads I S ha h2
    subst hv
    refine ⟨_, .dict ho hx.1 hd (by rw [hk]; exact h1) hr, fun z => ?_⟩
    rcases List.mem_cons.mp z with e | z
    · exact (beq_eq_false_iff_ne.mp hy) e.symm
    · exact hn (by simpa using z)
theorem DqAll.reads (I : Inv X pins σ H s) (S : SysB X.base) : ∀ {vs : List V} {ds : List PyData} {us : List Value}, DqAll X.K H vs ds → Vals vs us → ∃ as, ReadsAll s.heap us ds as ∧ sysModules ∉ as
  | _, _, _, .nil, .nil => ⟨_, .nil, by simp⟩
  | _, _, _, .cons h1 h2, .cons r1 r2 => by
    obtain ⟨as, q1, n1⟩ := Dq.reads I S h1 r1
    obtain ⟨bs, q2, n2⟩ := DqAll.reads I S h2 r2
    exact ⟨_, .cons q1 q2, fun z => (List.mem_append.mp z).elim n1 n2⟩
end
end
/-- repr of a datum that stands at an address -/
def rRep (K : PySem.W.Frag) : List V → Hp → VK → Prop := fun xs H Q => ∃ (a : Addr) (d : PyData), xs = [.ref a] ∧ Dq K H (.ref a) d ∧ d.showable = true ∧ d.depth ≤ 60 ∧ d.shown.length ≤ sizeLine ∧ Q (.str d.shown) H
theorem call_rep {X : Cx} (g : X.A.guards = some []) (S : SysB X.base) (hu : X.A.units + 64 < cLine) : CallR X (.builtin "repr") (rRep X.K) := by
  intro pins s σ H xs us Q I r h
  obtain ⟨a, d, rfl, hd, hs, hp, hz, q⟩ := h
  obtain ⟨u, rfl, ru⟩ := vals1 r
  cases (show u = Value.ref a from ru)
  obtain ⟨as, hr, hn⟩ := Dq.reads I S hd rfl
  refine repr_of_reads' hr hs (fun _ => hn) g (by omega) (fun _ _ e => e) (fun h' u tk k => ?_) hz
  exact ⟨.str d.shown, H, I.kept k, ⟨_, rfl⟩, q⟩
/-- a power of a great int, the exponent written -/
def CPowW (i j : Int) : Prop := 0 ≤ j ∧ (Builtin.Int.intBits i : Int) * j ≤ 2 ^ 27
theorem op_powW {X : Cx} : OpR X (binaryOp .Pow) (rI CPowW fun i j => .int (i ^ j.toNat)) := opI fun _ _ _ _ _ _ _ hc q => PyProof.Rows.pow_int hc.1 hc.2 q
end Ct

set_option Elab.async false
set_option linter.all false
set_option maxRecDepth 100000
set_option maxHeartbeats 4000000
/-! Own kit C: exceptions of own classes (an __init__ of their own) as values: made by place and by name, their fields read, isinstance. -/
namespace PySem
namespace CtX
open PySem.W PySem.Calls PyProof.Rows PySem.HandSPX
section
variable {M : Model} {A : Around} {E : Value → Shared → Prop} {h : Heap} {g : Array GenState} {d : Drawn} {t : Nat} {os : OsState}
variable {nm q : Str} {C N : Addr} {bs bm bmB : List Value} {hdct : Bool} {sn : List Str} {sub : List Value} {ab : Bool} {col : Option Bool} {dd : Option Addr} {k0 k1 k2 k3 k5 : Option Value} {B newId initId : String} {kw : List (Str × Value)}
theorem kw_new_check (F : ExcBaseFacts B newId initId bmB) (hT : ∀ X : String, bm.contains (.type X) = bmB.contains (.type X)) {Q : Unit → Shared → Prop}
    (hC : h.get? C = some (excClassObj nm q C N bs bm hdct sn sub ab col dd k0 k1 k2 k3 k5 newId)) (hq : Q () ⟨h, g, d, t, os⟩) :
    wpAny M A (checkBuiltinCall newId ⟨[.ref C], kw⟩) Q E ⟨h, g, d, t, os⟩ := by
  have hc : (Value.ref C :: bm).contains (.type B) = true := by rw [List.contains_cons, hT, F.hasB, Bool.or_true]
  have hst := F.noStar
  simp only [checkBuiltinCall, F.newKind, F.newSplit, F.newRow]
  repeat (first
    | refine wpAny_loadPart_at hC ?_
    | (refine wpAny_isSubtype_exc hC ?_; rw [hc])
    | refine wpAny_staticBase_exc hC ?_
    | refine wpAny_madeBy_exc hC ?_
    | simp only [bne_self_eq_false, Bool.false_eq_true, if_false]
    | wp_step)
  exact hq
end
section
variable {prog : Program} {w : World} {A : Around} {E : Value → Shared → Prop} {R : Result → Shared → Prop} {h : Heap} {g : Array GenState} {d : Drawn} {t : Nat} {os : OsState}
variable {nm q : Str} {C N : Addr} {bs bm bmB : List Value} {hdct : Bool} {sn : List Str} {sub : List Value} {ab : Bool} {col : Option Bool} {dd : Option Addr} {k0 k1 k2 k3 k5 : Option Value} {B newId initId : String} {kw : List (Str × Value)}
theorem kw_new (F : ExcBaseFacts B newId initId bmB) (hT : ∀ X : String, bm.contains (.type X) = bmB.contains (.type X)) (hC : h.get? C = some (excClassObj nm q C N bs bm hdct sn sub ab col dd k0 k1 k2 k3 k5 newId))
    (hq : R (.ok (.ret (.ref (h.objs.size + 1)))) ⟨(h.push (W.kdv_tup [])).push (excO C h.objs.size), g, d, t, os⟩) :
    codeAny (model prog w) A (.builtin newId ⟨[.ref C], kw⟩) R ⟨h, g, d, t, os⟩ := by
  have he := F.ends
  have c1 : (Value.ref C :: bm).contains (.type B) = true := by rw [List.contains_cons, hT, F.hasB, Bool.or_true]
  have c2 : (Value.ref C :: bm).contains (.type "AttributeError") = false := by rw [List.contains_cons, hT, F.noAttr]; rfl
  have c3 : (Value.ref C :: bm).contains (.type "NameError") = false := by rw [List.contains_cons, hT, F.noName]; rfl
  refine codeAny_builtinAt F.entry ?_
  unfold Builtin.«BaseException.__new__»
  refine wpAt_bind ?_
  show wpAt _ _ _ (stack >>= _) _ _ _
  refine wpAt_bind (wpAt_stack fun p below => wpAt_of_wpAny ?_)
  wp_walk
  refine wpAt_of_wpAny ?_
  rw [F.owner]
  repeat (first
    | with_reducible refine wpAny_madeHere_exc F.canon hC ?_
    | with_reducible refine wpAny_loadPart_at hC ?_
    | (with_reducible refine wpAny_isSubtype_exc hC ?_; first | rw [c1] | rw [c2] | rw [c3])
    | wp_step)
  show R _ _
  rw [Heap.size_push]
  exact hq
theorem kw_type_call (F : ExcBaseFacts B newId initId bmB) (hT : ∀ X : String, bm.contains (.type X) = bmB.contains (.type X)) {fI : Addr} {Q : Fin → Shared → Prop}
    (hC : h.get? C = some (excClassObj nm q C N bs bm hdct sn sub ab col dd k0 k1 k2 k3 k5 newId))
    (hi : W.Looks (model prog w) h (typeLookup (.ref C) "__init__") (some (.ref fI))) (hb : ∀ self, W.Looks (model prog w) h (bindSpecial (.ref fI) self) (.ref fI, [self]))
    (hq : codeAny (model prog w) A (.call (.ref fI) ⟨[.ref (h.objs.size + 1)], kw⟩)
      (fun r s' => match r with | .ok (.ret v) => v = .none ∧ Q (.done (.ret (.ref (h.objs.size + 1)))) s' | .ok _ => False | .error e => E e s')
      ⟨(h.push (W.kdv_tup [])).push (excO C h.objs.size), g, d, t, os⟩) :
    wpAny (model prog w) A (Builtin.«type.__call__» ⟨[.ref C], kw⟩) Q E ⟨h, g, d, t, os⟩ := by
  repeat (first | with_reducible refine wpAny_loadPart_at hC ?_ | with_reducible refine wpAny_madeBy_exc hC ?_ | wp_step)
  refine codeAny_call_builtin_code (Code.quiet_builtin _ F.quiet) (kw_new_check F hT hC ?_)
  refine kw_new F hT hC ?_
  show wpAny _ _ _ _ _ _
  have k : ∀ b o, h.get? b = some o → ((h.push (W.kdv_tup [])).push (excO C h.objs.size)).get? b = some o := fun b o e => Heap.get?_push_of_some _ (Heap.get?_push_of_some _ e)
  have hC1 := k _ _ hC
  have hnew : ((h.push (W.kdv_tup [])).push (excO C h.objs.size)).get? (h.objs.size + 1) = some (excO C h.objs.size) := by heap_get
  have hself : (Value.ref C :: bm).contains (.ref C) = true := by simp
  have i1 := hi.keeps k
  have b1 := (hb (.ref (h.objs.size + 1))).keeps k
  unfold isInstance
  repeat (first | with_reducible refine wpAny_loadPart_at hnew ?_ | (with_reducible refine wpAny_isSubtype_exc hC1 ?_; rw [hself]) | wp_step)
  show wpAny _ _ (typeLookup (.ref C) _) _ _ _
  refine i1.at (wpAny_holding (wpAny_bind (b1.at (wpAny_bind (wpAny_call (codeAny_mono hq ?_))))))
  intro r s' z
  rcases r with e | (v | _ | _ | _)
  · exact z
  all_goals first | exact z.elim | skip
  obtain ⟨rfl, z⟩ := z
  first
    | exact wpAny_pure (wpAny_pure z)
    | (wp_walk; exact z)
theorem kw_call (F : ExcBaseFacts B newId initId bmB) (hT : ∀ X : String, bm.contains (.type X) = bmB.contains (.type X)) {fI : Addr}
    (hC : h.get? C = some (excClassObj nm q C N bs bm hdct sn sub ab col dd k0 k1 k2 k3 k5 newId))
    (hi : W.Looks (model prog w) h (typeLookup (.ref C) "__init__") (some (.ref fI))) (hb : ∀ self, W.Looks (model prog w) h (bindSpecial (.ref fI) self) (.ref fI, [self]))
    (hq : codeAny (model prog w) (A.under (.builtin "type.__call__" ⟨[.ref C], kw⟩)) (.call (.ref fI) ⟨[.ref (h.objs.size + 1)], kw⟩) (W.InitBack (h.objs.size + 1) R)
      ⟨(h.push (W.kdv_tup [])).push (excO C h.objs.size), g, d, t, os⟩) :
    codeAny (model prog w) A (.call (.ref C) ⟨[], kw⟩) R ⟨h, g, d, t, os⟩ := by
  have f1 := tc_lookup
  have f2 := tc_bind (.ref C)
  have ty : (⟨h, g, d, t, os⟩ : Shared).TypeIs (.ref C) "type" := ⟨_, hC, rfl⟩
  refine codeAny_of_tree ?_
  show wpAny _ _ (callAny (.ref C) _) _ _ _
  repeat (any_goals (first | assumption | with_reducible refine wpAny_loadPart_at hC ?_ | wp_step))
  refine ⟨rfl, ?_⟩
  refine codeAny_call_builtin_at (Code.quiet_builtin _ (by decide +kernel)) entry_typeCall (wpAny_check_type_call_sub hC (kw_type_call F hT hC hi hb ?_))
  refine codeAny_mono hq fun r s' z => ?_
  rcases r with e | (v | _ | _ | _) <;> exact z
end
end CtX
end PySem
namespace Ct
open PySem PySem.Spec L2
/-- what the walk asks of an exception class of one's own at C, its __init__ at fI -/
structure XCls (K : PySem.W.Frag) (C fI : Addr) : Prop where
  ox : OexC K C
  xe : ExcC K C
  iC : PySem.W.findIn K (.ref C) "__init__" = some (some (.ref fI))
  tI : PySem.W.typeIn K (.ref fI) = some (.type "function")
/-- the heap behind C(v): the exception at a, its dict at d with the one field -/
def mkH (H : Hp) (a d C : Addr) (f : Str) (v : V) : Hp := upd (upd H d (exd d [(f, v)])) a (exo a C (some d))
/-- what __init__(self, f): self.f = f promises -/
def spXI (C : Addr) (f : Str) : Sp := fun vs H Q _ => ∃ (a : Addr) (v : V), vs = [.ref a, v] ∧ H a = some (exo a C none) ∧ ∀ d, H d = none → d ≠ a → Q .non (mkH H a d C f v)
theorem mkH_new {H : Hp} {a d C : Addr} {f : Str} {v : V} {o : HO} : mkH (upd H a o) a d C f v = mkH H a d C f v := by
  funext b
  unfold mkH
  by_cases hb : b = a
  · rw [hb, upd_same, upd_same]
  · rw [upd_ne hb, upd_ne hb]
    by_cases hd : b = d
    · rw [hd, upd_same, upd_same]
    · rw [upd_ne hd, upd_ne hd, upd_ne hb]
/-- C(e), C(f=e): a new exception -/
def tMkX (C : Addr) (f : Str) (te : TE) : TE := fun σ H Q => te σ H fun v H1 => ∀ a d, H1 a = none → H1 d = none → d ≠ a → Q (.ref a) (mkH H1 a d C f v)
section
variable {X : Cx} {k : Nat} {C fI : Addr} {fd : FuncData} {x f pn : Str} {p pos kp : Pos} {e : Expr} {te : TE}
theorem run_mkX {pins : List (Addr × Obj)} {σ : L2.St} {H : Hp} {s : Shared} {Q : VK} {u : Value} {v : V} {pos kwn : Bool} (T : XCls X.K C fI) (F : FnOk X.prog X.w X.K X.mg X.base CX0 k fI fd ["self", pn] (spXI C f)) (hr : Room (k + 1) X.A)
    (hb : ∀ (s : Shared) (a w : Value), BindsTo s fd ⟨[a, w], []⟩ [("self", a), (pn, w)]) (I : Inv X pins σ H s) (r : RelV v u) (h : ∀ a d, H a = none → H d = none → d ≠ a → Q (.ref a) (mkH H a d C f v)) :
    wpAny (model X.prog X.w) X.A (call (.ref C) [u]) (EP X pins σ Q) X.xe s := by
  obtain ⟨nm, q, N, bs, bm, sn, sub, ab, col, dd, k0, k1, k2, k3, k5, hC, hbm⟩ := T.ox.cls
  obtain ⟨hp, g, dr, tk, os⟩ := s
  have kk : ∀ b o, hp.get? b = some o → ((hp.push (PySem.W.kdv_tup [u])).push (PySem.HandSPX.excO C hp.objs.size)).get? b = some o := fun b o e => Heap.get?_push_of_some _ (Heap.get?_push_of_some _ e)
  have hget : ((hp.push (PySem.W.kdv_tup [u])).push (PySem.HandSPX.excO C hp.objs.size)).get? (hp.objs.size + 1) = some (PySem.HandSPX.excO C hp.objs.size) := by heap_get
  have I2 : Inv X pins σ (upd H (hp.objs.size + 1) (exo (hp.objs.size + 1) C none)) ⟨(hp.push (PySem.W.kdv_tup [u])).push (PySem.HandSPX.excO C hp.objs.size), g, dr, tk, os⟩ :=
    I.laid (t' := tk) kk (Nat.le_succ _) (exo_ok hget)
  have hn : H (hp.objs.size + 1) = none := I.hok.fresh (Nat.le_succ _)
  have hq : spXI C f [.ref (hp.objs.size + 1), v] (upd H (hp.objs.size + 1) (exo (hp.objs.size + 1) C none)) (fun z H2 => z = .non ∧ Q (.ref (hp.objs.size + 1)) H2) E0 := by
    refine ⟨_, v, rfl, upd_same, fun d hd hne => ⟨rfl, ?_⟩⟩
    rw [mkH_new]
    rw [upd_ne hne] at hd
    exact h _ d hn hd hne
  have rr : Vals [V.ref (hp.objs.size + 1), v] [Value.ref (hp.objs.size + 1), u] := .cons rfl (.cons r .nil)
  refine wpAny_call (PySem.HandSPX.call_own PySem.F.excBase_ValueError (fun Y => PySem.HandSPX.refsVE_contains Y bm hbm) (I.kIn _ _ hC) (PySem.W.looks_findIn I.kIn T.iC) (fun self => PySem.W.bind_fn I.kIn self T.tI) (by show 1 ≤ sizeLine; decide)
    (codeAny_mono (F.run _ X.stack _ _ ⟨[.ref (hp.objs.size + 1), u], []⟩ [.ref (hp.objs.size + 1), u] _ _ _ (hr.make C [u] []) (I2.env0.make C [u] []) (hb _ _ _) rr hq) ?_))
  intro r s' z
  match r, z with
  | .error er, z => exact False.elim z
  | .ok .next, z => exact False.elim z
  | .ok .brk, z => exact False.elim z
  | .ok .cont, z => exact False.elim z
  | .ok (.ret u), z =>
    obtain ⟨v', H', I3, rv, ev, q3⟩ := I2.after z
    subst ev
    exact ⟨rv, .ref (hp.objs.size + 1), H', I3, rfl, q3⟩
theorem run_mkXk {pins : List (Addr × Obj)} {σ : L2.St} {H : Hp} {s : Shared} {Q : VK} {u : Value} {v : V} {kn : Str} (T : XCls X.K C fI) (F : FnOk X.prog X.w X.K X.mg X.base CX0 k fI fd ["self", pn] (spXI C f)) (hr : Room (k + 1) X.A)
    (hb : ∀ (s : Shared) (a w : Value), BindsTo s fd ⟨[a], [(kn, w)]⟩ [("self", a), (pn, w)]) (I : Inv X pins σ H s) (r : RelV v u) (h : ∀ a d, H a = none → H d = none → d ≠ a → Q (.ref a) (mkH H a d C f v)) :
    wpAny (model X.prog X.w) X.A (call (.ref C) [] [(kn, u)]) (EP X pins σ Q) X.xe s := by
  obtain ⟨nm, q, N, bs, bm, sn, sub, ab, col, dd, k0, k1, k2, k3, k5, hC, hbm⟩ := T.ox.cls
  obtain ⟨hp, g, dr, tk, os⟩ := s
  have kk : ∀ b o, hp.get? b = some o → ((hp.push (PySem.W.kdv_tup [])).push (PySem.HandSPX.excO C hp.objs.size)).get? b = some o := fun b o e => Heap.get?_push_of_some _ (Heap.get?_push_of_some _ e)
  have hget : ((hp.push (PySem.W.kdv_tup [])).push (PySem.HandSPX.excO C hp.objs.size)).get? (hp.objs.size + 1) = some (PySem.HandSPX.excO C hp.objs.size) := by heap_get
  have I2 : Inv X pins σ (upd H (hp.objs.size + 1) (exo (hp.objs.size + 1) C none)) ⟨(hp.push (PySem.W.kdv_tup [])).push (PySem.HandSPX.excO C hp.objs.size), g, dr, tk, os⟩ :=
    I.laid (t' := tk) kk (Nat.le_succ _) (exo_ok hget)
  have hn : H (hp.objs.size + 1) = none := I.hok.fresh (Nat.le_succ _)
  have hq : spXI C f [.ref (hp.objs.size + 1), v] (upd H (hp.objs.size + 1) (exo (hp.objs.size + 1) C none)) (fun z H2 => z = .non ∧ Q (.ref (hp.objs.size + 1)) H2) E0 := by
    refine ⟨_, v, rfl, upd_same, fun d hd hne => ⟨rfl, ?_⟩⟩
    rw [mkH_new]
    rw [upd_ne hne] at hd
    exact h _ d hn hd hne
  have rr : Vals [V.ref (hp.objs.size + 1), v] [Value.ref (hp.objs.size + 1), u] := .cons rfl (.cons r .nil)
  refine wpAny_call (PySem.CtX.kw_call PySem.F.excBase_ValueError (fun Y => PySem.HandSPX.refsVE_contains Y bm hbm) (I.kIn _ _ hC) (PySem.W.looks_findIn I.kIn T.iC) (fun self => PySem.W.bind_fn I.kIn self T.tI)
    (codeAny_mono (F.run _ X.stack _ _ ⟨[.ref (hp.objs.size + 1)], [(kn, u)]⟩ [.ref (hp.objs.size + 1), u] _ _ _ (hr.make C [] [(kn, u)]) (I2.env0.make C [] [(kn, u)]) (hb _ _ _) rr hq) ?_))
  intro r s' z
  match r, z with
  | .error er, z => exact False.elim z
  | .ok .next, z => exact False.elim z
  | .ok .brk, z => exact False.elim z
  | .ok .cont, z => exact False.elim z
  | .ok (.ret u), z =>
    obtain ⟨v', H', I3, rv, ev, q3⟩ := I2.after z
    subst ev
    exact ⟨rv, .ref (hp.objs.size + 1), H', I3, rfl, q3⟩
theorem pe_mkX (T : XCls X.K C fI) (F : FnOk X.prog X.w X.K X.mg X.base CX0 k fI fd ["self", pn] (spXI C f)) (hr : Room (k + 1) X.A) (hb : ∀ (s : Shared) (a w : Value), BindsTo s fd ⟨[a, w], []⟩ [("self", a), (pn, w)])
    (hg : Gl X x) (hm : X.mg x = some (.ref C)) (he : PE X e te) (hdb : (x == ("__debug__" : Str)) = false := by decide) (hs : starEach [e] X.env = (false, eval e X.env) :: starEach [] X.env := by rfl) :
    PE X (.Call (.Name x p) [e] [] pos) (tMkX C f te) := by
  constructor
  intro pins s σ H Q I h
  refine wpAny_Call_Name_kw (ld_glob I hg hm ?_ hdb)
  refine PySem.W.callWith_K (h₀ := X.base) I.ok.mod.kin T.ox.kC ?_ hs (by rfl)
  rw [hs]
  show wpAny _ _ (spliced ((false, eval e X.env) :: backTo pos (starEach [] X.env))) _ _ s
  refine Calls.spliced_cons (thn (he.run pins s σ H _ I h) ?_)
  rintro u s1 ⟨v, H1, I1, r1, q1⟩
  exact Calls.spliced_nil ⟨I1.kIn, run_mkX (pos := true) (kwn := true) T F hr hb I1 r1 q1⟩
/-- C(f=e) -/
theorem pe_mkXk {kn : Str} (T : XCls X.K C fI) (F : FnOk X.prog X.w X.K X.mg X.base CX0 k fI fd ["self", pn] (spXI C f)) (hr : Room (k + 1) X.A) (hb : ∀ (s : Shared) (a w : Value), BindsTo s fd ⟨[a], [(kn, w)]⟩ [("self", a), (pn, w)])
    (hg : Gl X x) (hm : X.mg x = some (.ref C)) (he : PE X e te) (hdb : (x == ("__debug__" : Str)) = false := by decide) :
    PE X (.Call (.Name x p) [] [⟨some kn, e, kp⟩] pos) (tMkX C f te) := by
  constructor
  intro pins s σ H Q I h
  refine wpAny_Call_Name_kw (ld_glob I hg hm ?_ hdb)
  refine PySem.W.callWith_KW0 (h₀ := X.base) I.ok.mod.kin T.ox.kC (by rfl) ?_ (by rfl)
  have pk : PK X [⟨some kn, e, kp⟩] (tCons te tNil) := pk_cons he pk_nil
  refine thn (pk.run pos pins s σ H (fun vs H1 => ∃ v, vs = [v] ∧ ∀ a d, H1 a = none → H1 d = none → d ≠ a → Q (.ref a) (mkH H1 a d C f v)) I ?_) ?_
  · show te σ H _
    have mono : (fun v H1 => ∀ a d, H1 a = none → H1 d = none → d ≠ a → Q (.ref a) (mkH H1 a d C f v)) = fun (v : V) (H1 : Hp) => ∃ w, [v] = [w] ∧ ∀ a d, H1 a = none → H1 d = none → d ≠ a → Q (.ref a) (mkH H1 a d C f w) := by
      funext v H1
      refine propext ⟨fun z => ⟨v, rfl, z⟩, fun ⟨w, e, z⟩ => ?_⟩
      cases e
      exact z
    have h' := h
    unfold tMkX at h'
    rw [mono] at h'
    exact h'
  · rintro us s1 ⟨vs, H1, I1, r1, v, rfl, q1⟩
    obtain ⟨u, rfl, ru⟩ := vals1 r1
    exact ⟨I1.kIn, run_mkXk T F hr hb I1 ru q1⟩
/-- e.n of an exception -/
def tXF (K : PySem.W.Frag) (n : Str) (te : TE) : TE := fun σ H Q => te σ H fun x H1 => ∃ (a C d : Addr) (fs : List (Str × V)) (v : V), x = .ref a ∧ H1 a = some (exo a C (some d)) ∧ H1 d = some (exd d fs) ∧ ExcC K C ∧ PySem.W.findIn K (.ref C) n = some none ∧ fs.lookup n = some v ∧ Q v H1
theorem exo_inst {pins : List (Addr × Obj)} {σ : L2.St} {H : Hp} {s : Shared} {a d : Addr} {fs : List (Str × V)} (I : Inv X pins σ H s) (ea : H a = some (exo a C (some d))) (ed : H d = some (exd d fs)) :
    ∃ (ox od : Obj) (mA : Str → Option Value), PySem.W.InstAt s.heap a ox C (some od) ∧ (∀ name, PySem.W.lookIn name od = some (mA name)) ∧ ∀ f, RelO (fs.lookup f) (mA f) := by
  obtain ⟨t1, ho⟩ := exo_at I.hok ea
  obtain ⟨mA, hns, hr⟩ := exd_at I.hok ed
  obtain ⟨od, hod, hl⟩ := lookIn_ns hns
  exact ⟨_, od, mA, ⟨ho, rfl, rfl, hod⟩, hl, hr⟩
theorem pe_xF {n : Str} (he : PE X e te) (hb : attributeBase e n X.env (eval e X.env) = eval e X.env := by rfl) : PE X (.Attribute e n pos) (tXF X.K n te) := by
  constructor
  intro pins s σ H Q I h
  refine attr_of hb (thn (he.run pins s σ H _ I h) ?_)
  rintro u s1 ⟨x, H1, I1, rx, a, C, d, fs, v, ex, ea, ed, T, hno, l, q⟩
  subst ex
  cases (show u = Value.ref a from rx)
  obtain ⟨ox, od, mA, J, hl, hr⟩ := exo_inst I1 ea ed
  obtain ⟨u, hu, ru⟩ := RelO.some_of (v := v) (o := mA n) (by rw [← l]; exact hr n)
  exact PySem.HandSPX.exc_get I1.kIn J T.hg T.hk T.hs (PySem.W.findObj_own T.hd hno rfl (by rw [hl, hu])) (handed_of ru) ⟨v, H1, I1.tok _, ru, q⟩
/-- isinstance(x, c) of an exception: one class -/
def rIsX (K : PySem.W.Frag) : List V → Hp → VK → Prop := fun xs H Q => ∃ (a C d : Addr) (fs : List (Str × V)) (c : V) (cu : Value) (b : Bool), xs = [.ref a, c] ∧ H a = some (exo a C (some d)) ∧ H d = some (exd d fs) ∧ ExcC K C ∧ ClsV c cu ∧
  PySem.W.kitOne K (.ref C) cu = some b ∧ Q (.bl b) H
theorem call_isX : CallR X (.builtin "isinstance") (rIsX X.K) := by
  intro pins s σ H xs us Q I r h
  obtain ⟨a, C, d, fs, c, cu, b, rfl, ea, ed, T, kc, e, q⟩ := h
  obtain ⟨u1, u2, rfl, r1, r2⟩ := vals2 r
  cases (show u1 = Value.ref a from r1)
  have e2 := kc.eq r2
  subst e2
  obtain ⟨ox, od, mA, J, hl, hr⟩ := exo_inst I ea ed
  obtain ⟨cd, hcd, _⟩ := PySem.W.any_some T.hd
  exact PySem.W.kia_one (PySem.W.kitx_exc (by rw [hcd]; rfl) T.hg T.hk T.hs T.ha T.hn T.ht T.hm) I.kIn J e (fun z => (nomatch z)) fun tk => ⟨.bl b, H, I.tok tk, rfl, q⟩
end
end Ct

set_option Elab.async false
set_option linter.all false
set_option maxRecDepth 100000
set_option maxHeartbeats 2000000
/-! Own kit D: bundles (a def as the top has left it; a def that keeps its promise), calls by bundle. -/
namespace Ct
open PySem PySem.Spec PyProof.Rows L2
/-- a def of the text, as it stands behind the top -/
def DFE (K : PySem.W.Frag) (mg : Str → Option Value) (nm : Str) (st : Stmt) (ps : List Str) : Prop := ∃ f fd, Fun K nm nm st f fd ∧ mg nm = some (.ref f) ∧ Binds K fd ps []
/-- a def that keeps a promise -/
def Has (P : Program) (w : World) (K : PySem.W.Frag) (mg : Str → Option Value) (base : Heap) (CX : CXT) (k : Nat) (nm : Str) (ps : List Str) (sp : Sp) : Prop :=
  ∃ f fd, mg nm = some (.ref f) ∧ PySem.W.keepIn K (.ref f) = true ∧ Binds K fd ps [] ∧ FnOk P w K mg base CX k f fd ps sp
def HasG (P : Program) (w : World) (K : PySem.W.Frag) (mg : Str → Option Value) (base : Heap) (CX : CXT) (k : Nat) (nm : Str) (ps : List Str) (sp : Sp) : Prop :=
  ∃ f fd, mg nm = some (.ref f) ∧ PySem.W.keepIn K (.ref f) = true ∧ Binds K fd ps [] ∧ GFn P w K mg base CX k f fd ps sp
section
variable {P : Program} {w : World} {K : PySem.W.Frag} {mg : Str → Option Value} {base : Heap} {CX : CXT} {k : Nat} {nm : Str} {ps : List Str} {sp : Sp} {st : Stmt}
theorem dfe_mk {h : Heap} {f : Addr} {oc : Value} {od an : Option Addr} {osl : Array (Option Value)} {kV doc pm cdv ct : Value} (X : K.In h) (G : h.Ns mainGlobals mg) (a : PySem.W.nsIn K mainGlobals nm = some (some (.ref f)))
    (l : K.lookup f = some ⟨oc, od, .func (PySem.W.fnOf nm nm (defArgs st) (defBody st) (defScope st) .none kV doc pm an cdv ct), osl⟩) (c : PySem.W.codeIn K cdv nm = true) (kp : PySem.W.keepIn K (.ref f) = true)
    (b : ∀ (kV doc pm : Value) (an : Option Addr) (cdv ct : Value) (us : List Value), us.length = ps.length → bindArgs (PySem.W.fnOf nm nm (defArgs st) (defBody st) (defScope st) .none kV doc pm an cdv ct) ⟨us, []⟩ = pure (ps.zip us)) : DFE K mg nm st ps :=
  have F := fun_mk (st := st) l c kp
  ⟨f, _, F, PySem.W.mg_of X G a, F.binds b⟩
/-- THE RULE for a def by its bundle -/
theorem has_of {N : List Str} (D : DFE K mg nm st ps) (S : FnScope N ps (defScope st)) (len : ∀ vs H Q E, sp vs H Q E → vs.length = ps.length)
    (body : ∀ (f : Addr) (cdv : Value) (A : Around) (outer : List Env) (s : Shared) (H : Hp) (vs : List V) (Q : VK) (E : XK), Room k (A.deeper (envOfC nm (defScope st) s.heap.objs.size f cdv)) → sp vs H Q E →
      ∃ t, PSs (cxOf CX0 P w K mg base N nm (defScope st) f cdv A outer s H E).nox (defBody st) t ∧ t { nx := fun _ H' => Q .non H', rt := Q } (start N vs) H) : Has P w K mg base CX0 (k + 1) nm ps sp := by
  obtain ⟨f, fd, F, g, b⟩ := D
  exact ⟨f, fd, g, F.kp, b, F.ok S len (body f)⟩
theorem hasG_of {N : List Str} (D : DFE K mg nm st ps) (S : FnScope N ps (defScope st)) (len : ∀ vs H Q E, sp vs H Q E → vs.length = ps.length)
    (body : ∀ (f : Addr) (cdv : Value) (A : Around) (outer : List Env) (s : Shared) (H : Hp) (vs : List V) (Q : VK) (E : XK), A.guards = some [] → Room k (A.deeper (envOfC nm (defScope st) s.heap.objs.size f cdv)) → sp vs H Q E →
      ∃ t, PSs (cxOf CX0 P w K mg base N nm (defScope st) f cdv A outer s H E).nox (defBody st) t ∧ t { nx := fun _ H' => Q .non H', rt := Q } (start N vs) H) : HasG P w K mg base CX0 (k + 1) nm ps sp := by
  obtain ⟨f, fd, F, g, b⟩ := D
  refine ⟨f, fd, g, F.kp, b, gfn_of F S len (fun cdv A o s H vs Q E ga hr h => ?_)⟩
  obtain ⟨t, h1, h2⟩ := body f cdv A o s H vs Q E ga hr h
  exact ⟨t, h1.nox, h2⟩
/-- .. at its place: a law's own def -/
theorem law_of {N : List Str} {f : Addr} {fd : FuncData} (F : Fun K nm nm st f fd) (S : FnScope N ps (defScope st)) (len : ∀ vs H Q E, sp vs H Q E → vs.length = ps.length)
    (body : ∀ (cdv : Value) (A : Around) (outer : List Env) (s : Shared) (H : Hp) (vs : List V) (Q : VK) (E : XK), A.guards = some [] → Room k (A.deeper (envOfC nm (defScope st) s.heap.objs.size f cdv)) → sp vs H Q E →
      ∃ t, PSs (cxOf CX0 P w K mg base N nm (defScope st) f cdv A outer s H E).nox (defBody st) t ∧ t { nx := fun _ H' => Q .non H', rt := Q } (start N vs) H) : GFn P w K mg base CX0 (k + 1) f fd ps sp :=
  gfn_of F S len fun cdv A o s H vs Q E ga hr h => by
    obtain ⟨t, h1, h2⟩ := body cdv A o s H vs Q E ga hr h
    exact ⟨t, h1.nox, h2⟩
theorem Has.mono {j : Nat} (h : Has P w K mg base CX j nm ps sp) (l : j ≤ k) : Has P w K mg base CX k nm ps sp := by
  obtain ⟨f, fd, g, kp, b, F⟩ := h
  exact ⟨f, fd, g, kp, b, F.mono l⟩
theorem Has.g (h : Has P w K mg base CX k nm ps sp) : HasG P w K mg base CX k nm ps sp := by
  obtain ⟨f, fd, g, kp, b, F⟩ := h
  exact ⟨f, fd, g, kp, b, .of F⟩
end
section
variable {X : Cx} {k j : Nat} {nm : Str} {ps : List Str} {sp : Sp} {e : Expr} {es : List Expr} {t : TA} {p pos : Pos}
/-- f(e, ..) by its bundle, nothing raised -/
theorem pe_h (h : Has X.prog X.w X.K X.mg X.base CX0 j nm ps sp) (hr : Room k X.A) (l : j ≤ k) (hg : Gl X nm) (ha : PA X (e :: es) t) (hdb : (nm == ("__debug__" : Str)) = false := by decide)
    (he : starEach (e :: es) X.env = (false, eval e X.env) :: starEach es X.env := by rfl) (hpl : (backTo pos (starEach es X.env)).any (·.1) = false := by rfl) : PE X (.Call (.Name nm p) (e :: es) [] pos) (tCall sp [] E0 t) := by
  obtain ⟨f, fd, g, kp, b, F⟩ := h
  exact pe_call F (hr.mono l) hg g kp b .nil pass0 ha hdb he hpl
theorem pe_h0 (h : Has X.prog X.w X.K X.mg X.base CX0 j nm ps sp) (hr : Room k X.A) (l : j ≤ k) (hg : Gl X nm) (hdb : (nm == ("__debug__" : Str)) = false := by decide) : PE X (.Call (.Name nm p) [] [] pos) (tCall sp [] E0 tNil) := by
  obtain ⟨f, fd, g, kp, b, F⟩ := h
  exact pe_call0 F (hr.mono l) hg g kp b .nil pass0 hdb
theorem pe_hG (h : HasG X.prog X.w X.K X.mg X.base CX0 j nm ps sp) (gd : X.A.guards = some []) (hr : Room k X.A) (l : j ≤ k) (hg : Gl X nm) (ha : PA X (e :: es) t) (hdb : (nm == ("__debug__" : Str)) = false := by decide)
    (he : starEach (e :: es) X.env = (false, eval e X.env) :: starEach es X.env := by rfl) (hpl : (backTo pos (starEach es X.env)).any (·.1) = false := by rfl) : PE X (.Call (.Name nm p) (e :: es) [] pos) (tCall sp [] E0 t) := by
  obtain ⟨f, fd, g, kp, b, F⟩ := h
  exact pe_callG F gd (hr.mono l) hg g kp b .nil pass0 ha hdb he hpl
/-- a class or a def of the module as a value -/
theorem pe_ref {x : Str} {a : Addr} {pos : Pos} (hg : Gl X x) (hm : X.mg x = some (.ref a)) (hd : (x == ("__debug__" : Str)) = false := by decide) : PE X (.Name x pos) (tC (.ref a)) := pe_glob hg hm rfl hd
/-- a field of an exception, the written part named (within a comprehension) -/
theorem pe_xFk {K : PySem.W.Frag} {n : Str} {te : TE} (hK : X.K = K) (he : PE X e te) (hb : attributeBase e n X.env (eval e X.env) = eval e X.env := by rfl) : PE X (.Attribute e n pos) (tXF K n te) := by
  subst hK
  exact pe_xF he hb
/-- slots, short -/
theorem ps_sv (i : Nat) {x : Str} {e : Expr} {te : TE} {pos' : Pos} (hN : X.N.Nodup) (he : PE X e te) (hi : X.N[i]? = some x := by rfl) (hx : Loc X.env.scope x := by first | exact Or.inl rfl | exact Or.inr rfl) (hs : swapsWith e (some (.Name x pos')) pos.line X.env = pure false := by rfl)
    (hf : X.fn x = true ∨ X.env.scope.names.lookup x = some .local := by first | exact .inl rfl | exact .inr rfl | assumption) : PS X (.Assign [.Name x pos'] e pos) (tAsg te (gName i)) := ps_set hN hi hx he hs hf
end
end Ct

set_option Elab.async false
set_option linter.all false
set_option maxRecDepth 100000
set_option maxHeartbeats 2000000
/-! Own kit E: what a law's source of draws promises: source, draw, pick. -/
namespace Ct
open PySem PySem.Spec PyProof.Rows L2
def SrcOk (r m : Int) : Prop := 0 ≤ r ∧ 0 ≤ m ∧ m ≤ 2147483647
/-- source(script, start): a new list of two ints -/
def spSource (K : PySem.W.Frag) : Sp := fun vs H Q _ => ∃ (a : Addr) (ns : List Int) (st : Int), vs = [.ref a, .int st] ∧ 0 ≤ st ∧ st ≤ 100 ∧ SqL K H a (ns.map V.int) ∧ ns.length ≤ 63 ∧ (∀ z ∈ ns, Builtin.Int.intBits z ≤ 1048576) ∧
  ∀ p r m, H p = none → SrcOk r m → Q (.ref p) (upd H p (.lst [.int r, .int m]))
/-- draw(source, span): a number below span; the source turns -/
def spDraw : Sp := fun vs H Q _ => ∃ (p : Addr) (r m n : Int), vs = [.ref p, .int n] ∧ H p = some (.lst [.int r, .int m]) ∧ SrcOk r m ∧ 1 ≤ n ∧ n ≤ 1000000000 ∧
  ∀ r' m' k, SrcOk r' m' → 0 ≤ k → k < n → Q (.int k) (upd H p (.lst [.int r', .int m']))
/-- pick(source, things): one of the things -/
def spPick (K : PySem.W.Frag) : Sp := fun vs H Q _ => ∃ (p q : Addr) (r m : Int) (xs : List V), vs = [.ref p, .ref q] ∧ q ≠ p ∧ H p = some (.lst [.int r, .int m]) ∧ SrcOk r m ∧ (SqL K H q xs ∨ SqT K H q xs) ∧ xs ≠ [] ∧ xs.length ≤ 1000000 ∧
  ∀ r' m' x, SrcOk r' m' → x ∈ xs → Q x (upd H p (.lst [.int r', .int m']))
theorem sqL_upd {K : PySem.W.Frag} {H : Hp} {p q : Addr} {o : HO} {xs : List V} (h : SqL K H q xs) (n : q ≠ p) : SqL K (upd H p o) q xs := by
  rcases h with (h | ⟨u, h⟩) | h
  · exact .inl (.inl (by rw [upd_ne n]; exact h))
  · exact .inl (.inr ⟨u, by rw [upd_ne n]; exact h⟩)
  · exact .inr h
theorem sqT_upd {K : PySem.W.Frag} {H : Hp} {p q : Addr} {o : HO} {xs : List V} (h : SqT K H q xs) (n : q ≠ p) : SqT K (upd H p o) q xs := by
  rcases h with (h | ⟨u, h⟩) | h
  · exact .inl (.inl (by rw [upd_ne n]; exact h))
  · exact .inl (.inr ⟨u, by rw [upd_ne n]; exact h⟩)
  · exact .inr h
theorem at_in {xs : List V} {k : Int} (h0 : 0 ≤ k) (h1 : k < (xs.length : Nat)) : ∃ x, x ∈ xs ∧ atI xs k = some x := by
  obtain ⟨j, rfl⟩ := Int.eq_ofNat_of_zero_le h0
  have hj : j < xs.length := by omega
  exact ⟨xs[j], List.getElem_mem hj, atI_nat (List.getElem?_eq_getElem hj)⟩
theorem ints_at {ns : List Int} {i : Nat} {y : V} (h : (ns.map V.int)[i]? = some y) : ∃ z, ns[i]? = some z ∧ z ∈ ns ∧ y = .int z := by
  rw [List.getElem?_map] at h
  cases e : ns[i]? with
  | none => rw [e] at h; cases h
  | some z => rw [e] at h; exact ⟨z, rfl, List.mem_of_getElem? e, (Option.some.inj h).symm⟩
theorem pow_ok {x : Int} {n : Nat} {j : Int} (h : Builtin.Int.intBits x ≤ n) (h0 : 0 ≤ j) (hz : (n : Int) * j ≤ 2 ^ 27) : CPowW x j := by
  refine ⟨h0, Int.le_trans (Int.mul_le_mul_of_nonneg_right ?_ h0) hz⟩
  omega
theorem bits_small {x : Int} {n : Nat} (h0 : 0 ≤ x) (h : x < 2 ^ n) : Builtin.Int.intBits x ≤ n := by
  refine intBits_le_iff.mpr ?_
  have e : ((x.natAbs : Nat) : Int) = x := by omega
  have z : ((x.natAbs : Nat) : Int) < ((2 ^ n : Nat) : Int) := by rw [e, Int.natCast_pow]; exact h
  omega
end Ct

set_option Elab.async false
set_option linter.all false
set_option maxRecDepth 100000
set_option maxHeartbeats 2000000
/-! Own kit F: for over enumerate; heaps that only grow. -/
namespace Ct
open PySem PySem.Spec PyProof.Rows L2
theorem for_enum {K : PySem.W.Frag} {a : Addr} {xs : List V} {g : TG} {tb : TS} {D : Ends} {σ : L2.St} {H : Hp} (Pv : Nat → L2.St → Hp → Prop) (h0 : Pv 0 σ H) (hl : ∀ i σ H, i ≤ xs.length → Pv i σ H → SqL K H a xs)
    (hs : ∀ i x σ H T, xs[i]? = some x → Pv i σ H → H T = none → g (.ref T) σ (upd H T (.tup [.int (i : Nat), x])) fun σ2 H2 => tb { D with nx := Pv (i + 1), ct := Pv (i + 1), bk := D.nx } σ2 H2)
    (hd : ∀ σ H, Pv xs.length σ H → D.nx σ H) :
    ∃ W : Nat → Nat → L2.St → Hp → Prop, (∃ m, W 0 m σ H) ∧ ∀ i m σ H, W i m σ H →
      ((Ite K a).stop i H ∧ D.nx σ H) ∨ ((Ite K a).go i H ∧ ∃ N : L2.St → Hp → Prop, (∀ σ' H', N σ' H' → ∃ m', m' < m ∧ W (i + 1) m' σ' H') ∧ ∀ x H', (Ite K a).yld i H x H' → g x σ H' fun σ2 H2 => tb { D with nx := N, ct := N, bk := D.nx } σ2 H2) := by
  refine ⟨fun i m σ H => m = xs.length - i ∧ i ≤ xs.length ∧ Pv i σ H, ⟨xs.length, rfl, Nat.zero_le _, h0⟩, ?_⟩
  rintro i m σ H ⟨rfl, hi, p⟩
  have q := hl i σ H hi p
  rcases Nat.lt_or_ge i xs.length with lt | ge
  · right
    refine ⟨⟨xs, xs[i], q, List.getElem?_eq_getElem lt⟩, Pv (i + 1), fun σ' H' p' => ⟨_, by omega, rfl, lt, p'⟩, ?_⟩
    rintro _ _ ⟨T, x, rfl, hT, rfl, hx⟩
    exact hs i x σ H T (hx xs q) p hT
  · left
    have e : i = xs.length := Nat.le_antisymm hi ge
    subst e
    exact ⟨⟨xs, q, Nat.le_refl _⟩, hd σ H p⟩
theorem same_upd {H H' : Hp} {p : Addr} {o : HO} (s : Same H H') (h : H p = none) : Same H (upd H' p o) := fun b u e => by
  rw [upd_ne (ne_of_none e h)]
  exact s b u e
theorem same_new {H : Hp} {p : Addr} {o : HO} (h : H p = none) : Same H (upd H p o) := same_upd (Same.refl H) h
/-- only locked things are tracked: a store leaves them -/
theorem only_upd {H H' : Hp} {p : Addr} {o u : HO} (on : Only H) (s : Same H H') (h : H' p = some u) (n : ∀ ob x, u ≠ .frz ob x) : Same H (upd H' p o) := fun b v e => by
  rcases on b with z | ⟨ob, xs, z⟩
  · rw [z] at e; cases e
  · rw [z] at e; cases e
    have q := s b _ z
    rw [upd_ne (ne_of q h (Ne.symm (n _ _)))]
    exact q
/-- a store at p leaves what is of other content -/
theorem upd_other {H : Hp} {p b : Addr} {o u v : HO} (h : H p = some u) (e : H b = some v) (n : v ≠ u) : upd H p o b = some v := by
  rw [upd_ne (ne_of e h n)]
  exact e
theorem same_t {K : PySem.W.Frag} {H H' : Hp} {a : Addr} {xs : List V} (s : Same H H') (h : SqT K H a xs) : SqT K H' a xs := by
  rcases h with (h | ⟨o, h⟩) | h
  · exact .inl (.inl (s _ _ h))
  · exact .inl (.inr ⟨o, s _ _ h⟩)
  · exact .inr h
theorem same_rd {H H' : Hp} {a : Addr} {u : HO} (s : Same H H') (h : Rd H a u) : Rd H' a u := by
  rcases h with h | ⟨o, h⟩
  · exact .inl (s _ _ h)
  · exact .inr ⟨o, s _ _ h⟩
mutual
theorem Dq.same {K : PySem.W.Frag} {H H' : Hp} (s : Same H H') : ∀ {v : V} {d : PyData}, Dq K H v d → Dq K H' v d
  | _, _, .non => .non
  | _, _, .bl b => .bl b
  | _, _, .int i => .int i
  | _, _, .str x => .str x
  | _, _, .lst h a => .lst (s.seq h) (DqAll.same s a)
  | _, _, .tup h a => .tup (same_t s h) (DqAll.same s a)
  | _, _, .dic h k e a => .dic (same_rd s h) k e (DqAll.same s a)
  | _, _, .dicT h k e a => .dicT (same_rd s h) k e (DqAll.same s a)
theorem DqAll.same {K : PySem.W.Frag} {H H' : Hp} (s : Same H H') : ∀ {vs : List V} {ds : List PyData}, DqAll K H vs ds → DqAll K H' vs ds
  | _, _, .nil => .nil
  | _, _, .cons a b => .cons (Dq.same s a) (DqAll.same s b)
end
end Ct

set_option Elab.async false
set_option linter.all false
set_option maxRecDepth 100000
set_option maxHeartbeats 2000000
/-! Own kit G: sets of tuples of keys (texts, ints), up to 76 members: what is looked for, what is put in. -/
namespace Ct
open PySem PySem.Spec PyProof.Rows L2
abbrev TupAt (P : Program) (w : World) (h : Heap) (k : List Key) (a : Addr) : Prop := IsTupleKey (mixKind P w) h k a
abbrev kh (P : Program) (w : World) (k : List Key) : Int := tupleKeyHash (mixKind P w) k
abbrev Mem := Addr × List Key
def rowK (P : Program) (w : World) (p : Mem) : Int × Value := (kh P w p.2, Value.ref p.1)
theorem key_scan' {P : Program} {w : World} {k : Key} {v : Value} (h : (mixKind P w).is k v = true) : v.scannable = true := by
  rcases keyIs_shape ((mixKind_is P w k v).symm.trans h) with ⟨i, t, rfl, rfl⟩ | ⟨x, t, rfl, rfl⟩ <;> rfl
theorem items_scan {P : Program} {w : World} {ks : List Key} {vs : List Value} (h : ItemsAre (mixKind P w) ks vs) : ∀ v ∈ vs, v.scannable = true := by
  induction h with
  | nil => intro v hv; cases hv
  | cons h1 _ ih =>
    intro v hv
    rcases List.mem_cons.mp hv with rfl | hv
    · exact key_scan' h1
    · exact ih v hv
theorem noClass0 {n : Nat} {v : Value} (h : v.scannable = true) : ofAClassStatement n v = pure false := by
  cases v <;> first | (cases n <;> rfl) | exact absurd h Bool.false_ne_true
section
variable {P : Program} {w : World} {A : Around} {E : Value → Shared → Prop} {s : Shared}
theorem noClass {k : List Key} {b : Addr} {Q : Bool → Shared → Prop} (hk : TupAt P w s.heap k b) (h : Q false s) : wpAny (model P w) A (ofAClassStatement 8 (.ref b)) Q E s := by
  have hT := hk.typeIs
  obtain ⟨o, its, n, ho, _, hd, hi⟩ := hk
  unfold ofAClassStatement
  refine wpAny_bind (wpAny_typeOf hT ?_)
  dsimp only
  simp only [show (("tuple" : String) == "tuple") = true by decide, if_true, pure_bind, Bool.not_true, Bool.false_eq_true, if_false]
  refine wpAny_bind (wpAny_seqItems ho hd ?_)
  dsimp only
  refine wpAny_bind ?_
  rw [← Array.forIn_toList]
  refine wpAny_forIn_list _ (fun l r s' => r.1 = none ∧ s' = s ∧ ∀ v ∈ l, v.scannable = true) _ ?_ ?_ _ _ ⟨rfl, rfl, items_scan hi⟩
  · rintro v l r s' ⟨_, rfl, al⟩
    rw [noClass0 (al v List.mem_cons_self), pure_bind]
    exact wpAny_pure ⟨rfl, rfl, fun u hu => al u (List.mem_cons_of_mem _ hu)⟩
  · rintro ⟨r1, r2⟩ s' ⟨hr, rfl, _⟩
    cases (show r1 = none from hr)
    exact wpAny_pure h
theorem hashBy {k : List Key} {b : Addr} {Q : Bool → Shared → Prop} (hk : TupAt P w s.heap k b) (h : ∀ r, Q r s) : wpAny (model P w) A (hashByValue 8 (.ref b)) Q E s := by
  have hT := hk.typeIs
  obtain ⟨o, its, n, ho, _, hd, hi⟩ := hk
  unfold hashByValue
  refine wpAny_bind (wpAny_specialOf hT F.slot_tuple_hash.lookup ?_)
  show wpAny _ _ (seqItems? (.ref b) >>= _) _ _ s
  refine wpAny_bind (wpAny_seqItems ho hd ?_)
  refine wpAny_bind ?_
  show wpAny _ _ (forIn its _ _) _ _ s
  rw [← Array.forIn_toList]
  refine wpAny_forIn_list _ (fun l r s' => r.1 = none ∧ s' = s ∧ ∀ v ∈ l, v.scannable = true) _ ?_ ?_ _ _ ⟨rfl, rfl, items_scan hi⟩
  · rintro v l r s' ⟨_, rfl, al⟩
    rw [hashByValue_scannable _ (al v List.mem_cons_self), pure_bind]
    cases plainKind v
    · exact wpAny_pure (wpAny_pure (h false))
    · exact wpAny_pure ⟨rfl, rfl, fun u hu => al u (List.mem_cons_of_mem _ hu)⟩
  · rintro ⟨r1, r2⟩ s' ⟨hr, rfl, _⟩
    cases (show r1 = none from hr)
    exact wpAny_pure (h true)
theorem unseen {k : List Key} {b : Addr} {Q : Bool → Shared → Prop} (hk : TupAt P w s.heap k b) {ys : List Value} (hy : ∀ y ∈ ys, ∃ k' c, y = Value.ref c ∧ TupAt P w s.heap k' c) (h : Q false s) :
    wpAny (model P w) A (searchCouldBeSeen (.ref b) ys) Q E s := by
  unfold searchCouldBeSeen
  refine wpAny_bind ?_
  refine wpAny_forIn_list _ (fun l r s' => r.1 = none ∧ s' = s ∧ ∀ y ∈ l, ∃ k' c, y = Value.ref c ∧ TupAt P w s.heap k' c) _ ?_ ?_ _ _ ⟨rfl, rfl, hy⟩
  · rintro v l r s' ⟨_, rfl, al⟩
    obtain ⟨k', c, rfl, hc⟩ := al v List.mem_cons_self
    have al' : ∀ y ∈ l, ∃ k' c, y = Value.ref c ∧ TupAt P w s'.heap k' c := fun u hu => al u (List.mem_cons_of_mem _ hu)
    dsimp only
    by_cases hv : (b == c || (carriedByValue (.ref b) && carriedByValue (.ref c))) = true
    · exact wp_if_pos hv (wpAny_pure ⟨rfl, rfl, al'⟩)
    · refine wp_if_neg hv ?_
      refine wpAny_bind (wpAny_eqIsQuiet_tuple hk ?_)
      simp only [Bool.not_true, Bool.false_eq_true, if_false]
      refine wpAny_bind (wpAny_eqIsQuiet_tuple hc ?_)
      simp only [Bool.not_true, Bool.false_eq_true, if_false]
      refine wpAny_bind (noClass hk ?_)
      simp only [Bool.false_eq_true, if_false]
      refine wpAny_bind (noClass hc ?_)
      simp only [Bool.false_eq_true, if_false]
      exact wpAny_pure ⟨rfl, rfl, al'⟩
  · rintro ⟨r1, r2⟩ s' ⟨hr, rfl, _⟩
    cases (show r1 = none from hr)
    exact wpAny_pure h
/-- the set at a, its table told -/
structure KSet (P : Program) (w : World) (h : Heap) (a : Addr) (L : List Mem) (es : Array (Int × Value)) (ep : Nat) (t : SetTable) : Prop where
  ob : ∃ o, h.get? a = some o ∧ o.ExactSet ∧ o.data = .set es ep t
  rows : es.toList = L.map (rowK P w)
  tab : TabOk t (L.map fun p => kh P w p.2)
  nd : (L.map (·.2)).Nodup
  led : w.params.followText "set-order" = true ∨ t.led = true
  room : L.length * 5 < t.mask * 3
  few : L.length < 77
variable {a : Addr} {L : List Mem} {es : Array (Int × Value)} {ep : Nat} {t : SetTable}
theorem rows_size (h : es.toList = L.map (rowK P w)) : es.size = L.length := by
  have z := congrArg List.length h
  rwa [Array.length_toList, List.length_map] at z
theorem rows_at (h : es.toList = L.map (rowK P w)) (i : Nat) : es[i]? = (L[i]?).map (rowK P w) := by
  rw [← Array.getElem?_toList, h, List.getElem?_map]
theorem KSet.fits (R : KSet P w s.heap a L es ep t) : t.fits es.size = true := by
  have h1 := R.tab.sz
  have h2 := rows_size R.rows
  have h3 := R.room
  rw [List.length_map] at h1
  unfold SetTable.fits SetTable.fill
  rw [R.tab.dm, Bool.and_eq_true, beq_iff_eq, decide_eq_true_eq]
  show t.place.size = es.size ∧ t.place.size + 0 ≤ t.mask
  omega
theorem nth_dummy (m : Nat) : ∀ (n : Nat) (p : SetTable.Probe), p.dummy = none → (nth m p n).dummy = none
  | 0, _, h => h
  | n + 1, p, h => nth_dummy m n (adv m p) (by unfold adv; split <;> exact h)
/-- the way's c-th stand -/
abbrev std (m : Nat) (h : Int) (c : Nat) : SetTable.Probe := nth m (runAt m (SetTable.bits h % (m + 1)) (SetTable.bits h)) c
/-- THE SEARCH -/
theorem seek (R : KSet P w s.heap a L es ep t) (tup : ∀ p ∈ L, TupAt P w s.heap p.2 p.1) {x : Addr} {k : List Key} (hx : TupAt P w s.heap k x) (hu : A.units < cLine) {ad : Bool} {K : Nat} (hK10 : K < 10 * SetTable.turns t.mask)
    (hK : way t.mask (kh P w k) K ∉ t.place.toList) (hb : ∀ c, c < K → way t.mask (kh P w k) c ∈ t.place.toList) {Q : SetFound → Shared → Prop}
    (yes : ∀ r : Option Nat, (ad = true → r = none) → (ad = false → r.isSome = true) → k ∈ L.map (·.2) → Q (.there r) s) (no : k ∉ L.map (·.2) → Q (.free (way t.mask (kh P w k) K) false) s) :
    ∀ (f c : Nat) (st : Option SetTable.Probe), st.getD (t.probeStart (kh P w k)) = std t.mask (kh P w k) c → c ≤ K → K - c < f →
      (∀ (i : Nat) (p : Mem), L[i]? = some p → p.2 = k → ∃ c', c ≤ c' ∧ c' < K ∧ t.place.toList[i]? = some (way t.mask (kh P w k) c')) →
      wpAny (model P w) A (setSearchFrom a (.ref x) (kh P w k) ad f st) Q E s
  | 0, _, _, _, _, z, _ => absurd z (Nat.not_lt_zero _)
  | f + 1, c, st, hst, hc, hf, ahead => by
    obtain ⟨o, ho, hex, hd⟩ := R.ob
    rw [setSearchFrom_succ]
    refine wpAny_bind (wpAny_setState_of ho hd R.fits ?_)
    dsimp only
    refine wp_if_neg (by unfold SetTable.gaveWay; rw [mask_odd R.tab.mok]; decide) ?_
    have sh : ∀ q, nth t.mask (std t.mask (kh P w k) c) q = std t.mask (kh P w k) (c + q) := fun q => (nth_add t.mask c _ q).symm
    have shj : ∀ q, (nth t.mask (std t.mask (kh P w k) c) q).j = way t.mask (kh P w k) (c + q) := fun q => congrArg SetTable.Probe.j (sh q)
    have kk : c + (K - c) = K := by omega
    have hAt : ∀ (i : Nat) (p : Mem), L[i]? = some p → (fun i => (es[i]?.map (·.1)).getD 0) i = kh P w p.2 := fun i p hp => by
      show (es[i]?.map (·.1)).getD 0 = _
      rw [rows_at R.rows, hp] <;> rfl
    have G := go_spec t R.tab.ris R.tab.dm (fun i => (es[i]?.map (·.1)).getD 0) (kh P w k) (10 * SetTable.turns t.mask) (K - c) (std t.mask (kh P w k) c) (nth_dummy _ _ _ rfl) (by omega)
      (fun q hq => by rw [shj]; exact hb _ (by omega)) (by rw [shj, kk]; exact hK)
    rcases G with ⟨q, i, hq, hi, hh, hno, hpr⟩ | ⟨hno, hpr⟩
    · have pr : t.probe (fun i => (es[i]?.map (·.1)).getD 0) (kh P w k) (st.getD (t.probeStart (kh P w k))) = some (.candidate (way t.mask (kh P w k) (c + q)) i (std t.mask (kh P w k) (c + (q + 1)))) := by
        rw [hst, ← shj, ← sh]
        exact hpr
      rw [pr]
      dsimp only
      rw [shj] at hi
      have hil : i < L.length := by
        have h1 : i < t.place.toList.length := (List.getElem?_eq_some_iff.mp hi).1
        have h2 := R.tab.sz
        rw [List.length_map] at h2
        rw [Array.length_toList] at h1
        omega
      obtain ⟨p, hp⟩ : ∃ p, L[i]? = some p := ⟨L[i], List.getElem?_eq_getElem hil⟩
      have hm : p ∈ L := List.mem_of_getElem? hp
      have sl : t.slot (way t.mask (kh P w k) (c + q)) = .live i := slot_live R.tab.ris hi
      have ent : es[i]? = some (rowK P w p) := by rw [rows_at R.rows, hp]; rfl
      have go : wpAny (model P w) A (searchRest a (.ref x) (kh P w k) ad f es t (way t.mask (kh P w k) (c + q)) i (std t.mask (kh P w k) (c + (q + 1)))) Q E s := by
        unfold searchRest
        rw [ent]
        dsimp only [rowK]
        refine wpAny_bind (wpAny_holding (wpAny_eqBool_tuple hu (tup p hm) hx ?_))
        refine wpAny_bind (wpAny_setState_of ho hd R.fits ?_)
        dsimp only
        by_cases e : p.2 = k
        · have mem : k ∈ L.map (·.2) := List.mem_map.mpr ⟨p, hm, e⟩
          cases ad with
          | true => exact wp_if_pos (by simp [e]) (wpAny_pure (yes none (fun _ => rfl) (fun z => Bool.noConfusion z) mem))
          | false =>
            refine wp_if_neg (by simp) ?_
            rw [sameMem]
            simp only [if_true, sl, ent]
            refine wpAny_bind (wpAny_isSame_ref_self (wpAny_bind (wpAny_pure ?_)))
            simp only [if_true]
            exact wp_if_pos (by simp [e]) (wpAny_pure (yes (some i) (fun z => Bool.noConfusion z) (fun _ => rfl) mem))
        · refine wp_if_neg (by simp [e]) ?_
          rw [sameMem]
          simp only [if_true, sl, ent]
          refine wpAny_bind (wpAny_isSame_ref_self (wpAny_bind (wpAny_pure ?_)))
          simp only [if_true]
          refine wp_if_neg (by simp [e]) ?_
          refine seek R tup hx hu hK10 hK hb yes no f (c + (q + 1)) _ rfl (by omega) (by omega) fun i0 p0 h0 e0 => ?_
          obtain ⟨c', a1, a2, a3⟩ := ahead i0 p0 h0 e0
          refine ⟨c', ?_, a2, a3⟩
          have n1 : ¬ c' < c + q := fun z => hno (c' - c) i0 (by omega) (by rw [shj, show c + (c' - c) = c' by omega]; exact a3) ((hAt i0 p0 h0).trans (congrArg (kh P w) e0))
          have n2 : c' ≠ c + q := fun z => by
            rw [z] at a3
            have s0 := slot_live R.tab.ris a3
            rw [sl] at s0
            injection s0 with s0
            rw [← s0, hp] at h0
            exact e ((congrArg Prod.snd (Option.some.inj h0)).trans e0)
          omega
      cases hl : t.led with
      | true => exact wp_if_neg (by decide) go
      | false =>
        refine wp_if_pos (by decide) ?_
        refine wpAny_bind (unseen hx (fun y hy => ?_) (wp_if_neg (by decide) go))
        obtain ⟨e, he, rfl⟩ := List.mem_map.mp hy
        have he2 : e ∈ es.toList := by
          have z : e ∈ es ∧ e.1 = kh P w k := by simpa using he
          simpa using z.1
        rw [R.rows] at he2
        obtain ⟨p2, hp2, rfl⟩ := List.mem_map.mp he2
        exact ⟨p2.2, p2.1, rfl, tup p2 hp2⟩
    · have pr : t.probe (fun i => (es[i]?.map (·.1)).getD 0) (kh P w k) (st.getD (t.probeStart (kh P w k))) = some (.empty (way t.mask (kh P w k) K) none) := by
        have e2 : way t.mask (kh P w k) K = (nth t.mask (std t.mask (kh P w k) c) (K - c)).j := by rw [shj, kk]
        rw [hst, e2]
        exact hpr
      rw [pr]
      dsimp only
      refine wpAny_pure (no fun hm => ?_)
      obtain ⟨p0, h0, e0⟩ := List.mem_map.mp hm
      obtain ⟨i0, hi0⟩ := List.mem_iff_getElem?.mp h0
      obtain ⟨c', a1, a2, a3⟩ := ahead i0 p0 hi0 e0
      exact hno (c' - c) i0 (by omega) (by rw [shj, show c + (c' - c) = c' by omega]; exact a3) ((hAt i0 p0 hi0).trans (congrArg (kh P w) e0))
/-- the search from the way's start -/
theorem seek0 (R : KSet P w s.heap a L es ep t) (tup : ∀ p ∈ L, TupAt P w s.heap p.2 p.1) {x : Addr} {k : List Key} (hx : TupAt P w s.heap k x) (hu : A.units < cLine) {ad : Bool} {Q : SetFound → Shared → Prop}
    (yes : ∀ r : Option Nat, (ad = true → r = none) → (ad = false → r.isSome = true) → k ∈ L.map (·.2) → Q (.there r) s)
    (no : ∀ K, k ∉ L.map (·.2) → way t.mask (kh P w k) K ∉ t.place.toList → (∀ c, c < K → way t.mask (kh P w k) c ∈ t.place.toList) → Q (.free (way t.mask (kh P w k) K) false) s) :
    wpAny (model P w) A (setSearch a (.ref x) (kh P w k) ad) Q E s := by
  have hroom := R.room
  obtain ⟨K, hK10, hK, hb⟩ := R.tab.first (by rw [List.length_map]; omega) (kh P w k)
  have big : K < 100000 := by
    have : 10 * SetTable.turns t.mask ≤ 1420 := by
      unfold SetTable.turns
      rcases R.tab.mok with e | e | e <;> omega
    omega
  unfold setSearch
  refine seek R tup hx hu hK10 hK hb yes (fun n => no K n hK hb) 100000 0 none rfl (Nat.zero_le _) (by omega) fun i p hp e => ?_
  have hil : i < t.place.toList.length := by
    have h1 : i < L.length := (List.getElem?_eq_some_iff.mp hp).1
    have h2 := R.tab.sz
    rw [List.length_map] at h2
    rw [Array.length_toList]
    omega
  have hj := List.getElem?_eq_getElem hil
  obtain ⟨c, hc, e2⟩ := R.tab.before hK (h := kh P w k) (by rw [List.getElem?_map, hp, ← e] <;> rfl) hj
  exact ⟨c, Nat.zero_le _, hc, by rw [hj, e2]⟩
end
end Ct

set_option Elab.async false
set_option linter.all false
set_option maxRecDepth 100000
set_option maxHeartbeats 2000000
/-! Own kit H: the same sets: add, in; over the layer. -/
namespace Ct
open PySem PySem.Spec PyProof.Rows L2
section
variable {P : Program} {w : World} {A : Around} {E : Value → Shared → Prop} {s : Shared} {a : Addr} {L : List Mem} {es : Array (Int × Value)} {ep : Nat} {t : SetTable}
theorem tup_same {h h' : Heap} {k : List Key} {b : Addr} {o : Obj} (hb : TupAt P w h k b) (ho : h.get? a = some o) (hd : o.data = .set es ep t) (sb : Heap.SameBut a h h') : TupAt P w h' k b := by
  obtain ⟨o', its, n, ho', hc, hd', hi⟩ := hb
  refine ⟨o', its, n, (sb.2 b ?_).trans ho', hc, hd', hi⟩
  rintro rfl
  rw [ho] at ho'
  cases ho'
  rw [hd] at hd'
  cases hd'
theorem getD_range (L : List Mem) : (List.range L.length).map (fun i => L.getD i (0, [])) = L := by
  refine List.ext_getElem (by simp) fun i h1 h2 => ?_
  simp [List.getD_eq_getElem?_getD, List.getElem?_eq_getElem h2]
/-- the rows in another order -/
theorem reorder (h : es.toList = L.map (rowK P w)) {order : Array Nat} (pm : order.toList.Perm (List.range L.length)) :
    ∃ L2 : List Mem, (order.filterMap (es[·]?)).toList = L2.map (rowK P w) ∧ L2.Perm L ∧ (L2.map fun p => kh P w p.2) = order.toList.map fun i => (es.map (·.1)).getD i 0 := by
  have bd : ∀ i ∈ order.toList, i < L.length := fun i hi => List.mem_range.mp (pm.mem_iff.mp hi)
  refine ⟨order.toList.map fun i => L.getD i (0, []), ?_, ?_, ?_⟩
  · have key : ∀ l : List Nat, (∀ i ∈ l, i < L.length) → l.filterMap (fun i => es[i]?) = (l.map fun i => L.getD i (0, [])).map (rowK P w) := by
      intro l
      induction l with
      | nil => intro _; rfl
      | cons i l ih =>
        intro hl
        have hi := hl i List.mem_cons_self
        have e : es[i]? = some (rowK P w (L.getD i (0, []))) := by
          rw [rows_at h, List.getElem?_eq_getElem hi]
          simp [List.getD_eq_getElem?_getD, List.getElem?_eq_getElem hi]
        rw [List.filterMap_cons_some e, ih fun j hj => hl j (List.mem_cons_of_mem _ hj)]
        rfl
    rw [Array.toList_filterMap]
    exact key _ bd
  · have z := pm.map fun i => L.getD i (0, [])
    rwa [getD_range] at z
  · rw [List.map_map]
    refine List.map_congr_left fun i hi => ?_
    have e1 := rows_at h i
    rw [List.getElem?_eq_getElem (bd i hi)] at e1
    have e2 : (es.map (·.1))[i]? = some (kh P w (L[i]'(bd i hi)).2) := by rw [Array.getElem?_map, e1]; rfl
    simp [Array.getD_eq_getD_getElem?, e2, List.getD_eq_getElem?_getD, List.getElem?_eq_getElem (bd i hi)]
/-- the table laid anew -/
theorem relay {o : Obj} (ho : s.heap.get? a = some o) (hex : o.ExactSet) (hd : o.data = .set es ep t) (hr : es.toList = L.map (rowK P w)) (hsz : t.place.size = es.size) (hdm : t.dummies = #[]) (hfl : es.size ≤ t.mask)
    (nd : (L.map (·.2)).Nodup) (ld : w.params.followText "set-order" = true ∨ t.led = true) (few : L.length < 77) {wanted M : Nat}
    (hw : SetTable.sizeAbove wanted - 1 = M) (hM : MaskOk M) (hw2 : SetTable.sizeAbove wanted ≤ 128) (hn : L.length * 5 < M * 3) {Q : Unit → Shared → Prop}
    (hQ : ∀ h' L' es' ep' t', Heap.SameBut a s.heap h' → KSet P w h' a L' es' ep' t' → L'.Perm L → Q () { s with heap := h' }) : wpAny (model P w) A (setRelay a wanted) Q E s := by
  have hsl := rows_size hr
  have fits : t.fits es.size = true := by
    unfold SetTable.fits SetTable.fill
    rw [hdm, Bool.and_eq_true, beq_iff_eq, decide_eq_true_eq]
    show t.place.size = es.size ∧ t.place.size + 0 ≤ t.mask
    omega
  obtain ⟨t', order, e, hp, T, em, el, _, _⟩ := relaid_ok t (hs := es.map (·.1)) (wanted := wanted) hw hM (by rw [Array.size_map, hsl]; omega)
  rw [Array.size_map, hsl] at hp
  obtain ⟨L2, r1, r2, r3⟩ := reorder hr hp
  rw [← r3] at T
  have hs2 : (order.filterMap (es[·]?)).size = es.size := by rw [rows_size r1, r2.length_eq, hsl]
  rw [setRelay_eq]
  refine wpAny_bind (wpAny_setState_of ho hd fits ?_)
  dsimp only
  refine wp_if_neg (by rw [sizeLine_eq]; omega) ?_
  rw [e]
  dsimp only
  refine wpAny_bind ?_
  refine wp_if_neg (by rw [hs2]; simp) ?_
  refine wpAny_pure ?_
  dsimp only
  refine wpAny_storeSet_of ho hd ?_ (by rw [hs2, hsl, sizeLine_eq]; omega)
  refine hQ _ L2 _ (ep + 1) t' (Heap.SameBut.update ..) ⟨⟨_, store_at ho hd, ⟨hex.1, hex.2.1, hex.2.2⟩, rfl⟩, r1, T, (r2.map (·.2)).nodup_iff.mpr nd, by rw [el]; exact ld, ?_, by rw [r2.length_eq]; exact few⟩ r2
  rw [r2.length_eq, em]
  exact hn
theorem size_relay {n m : Nat} (h : (m = 7 ∧ n = 4) ∨ (m = 31 ∧ n = 18)) : MaskOk (SetTable.sizeAbove (SetTable.grown (n + 1)) - 1) ∧ SetTable.sizeAbove (SetTable.grown (n + 1)) ≤ 128 ∧ (n + 1) * 5 < (SetTable.sizeAbove (SetTable.grown (n + 1)) - 1) * 3 := by
  rcases h with ⟨_, rfl⟩ | ⟨_, rfl⟩
  · rw [size_20]; exact ⟨.inr (.inl rfl), by decide, by decide⟩
  · rw [size_76]; exact ⟨.inr (.inr rfl), by decide, by decide⟩
/-- ADDING -/
theorem putIn (R : KSet P w s.heap a L es ep t) (tup : ∀ p ∈ L, TupAt P w s.heap p.2 p.1) {x : Addr} {k : List Key} (hx : TupAt P w s.heap k x) (hu : A.units < cLine) (few : L.length + 1 < 77) {Q : Bool → Shared → Prop}
    (old : k ∈ L.map (·.2) → ∀ b, Q b s) (new : k ∉ L.map (·.2) → ∀ b h' L' es' ep' t', Heap.SameBut a s.heap h' → KSet P w h' a L' es' ep' t' → L'.Perm ((x, k) :: L) → Q b { s with heap := h' }) :
    wpAny (model P w) A (setAddHashed a (.ref x) (kh P w k)) Q E s := by
  obtain ⟨o, ho, hex, hd⟩ := R.ob
  have hsl := rows_size R.rows
  have hroom := R.room
  unfold setAddHashed
  refine wpAny_holding ?_
  rw [show (100000 : Nat) = 99999 + 1 from rfl, setAddHashedIn_succ]
  refine wpAny_bind (wpAny_setState_of ho hd R.fits ?_)
  dsimp only
  refine wp_if_neg (by simp [byScan, Value.scannable]) ?_
  refine wpAny_bind (seek0 R tup hx hu (ad := true) (fun r _ _ hm => wpAny_pure (old hm false)) fun K hm hK hb => ?_)
  dsimp only
  refine wpAny_bind (wpAny_setState_of ho hd R.fits ?_)
  dsimp only
  obtain ⟨q1, q2, q3, q4, q5, q6, q7, q8, q9⟩ := R.tab.put hK hb
  generalize hpt : t.put (way t.mask (kh P w k) K) = pt at q1 q3 q4 q5 q6 q7 q8 q9 ⊢
  obtain ⟨t1, p⟩ := pt
  dsimp only at q1 q3 q4 q5 q6 q7 q8 q9 ⊢
  subst q1
  generalize SetTable.below t.place (way t.mask (kh P w k) K) = p at q2 q3 ⊢
  have pm : (L.take p ++ (x, k) :: L.drop p).Perm ((x, k) :: L) := by
    have z : (L.take p ++ (x, k) :: L.drop p).Perm ((x, k) :: (L.take p ++ L.drop p)) := List.perm_middle
    rwa [List.take_append_drop] at z
  have rows1 : (SetTable.insertAt es p (kh P w k, Value.ref x)).toList = (L.take p ++ (x, k) :: L.drop p).map (rowK P w) := by
    rw [SetTable.toList_insertAt, R.rows, List.map_append, List.map_cons, List.map_take, List.map_drop]; rfl
  have hs1 : (L.take p ++ (x, k) :: L.drop p).map (fun p => kh P w p.2) = (L.map fun p => kh P w p.2).take p ++ kh P w k :: (L.map fun p => kh P w p.2).drop p := by
    rw [List.map_append, List.map_cons, List.map_take, List.map_drop]
  rw [← hs1] at q3
  have nd1 : ((L.take p ++ (x, k) :: L.drop p).map (·.2)).Nodup := (pm.map (·.2)).nodup_iff.mpr (List.nodup_cons.mpr ⟨hm, R.nd⟩)
  have len1 : (L.take p ++ (x, k) :: L.drop p).length = L.length + 1 := pm.length_eq
  generalize L.take p ++ (x, k) :: L.drop p = L1 at pm rows1 q3 nd1 len1
  generalize SetTable.insertAt es p (kh P w k, Value.ref x) = es1 at rows1 ⊢
  have sz1 := rows_size rows1
  -- behind the hash: a table that differs in its mark alone
  have fin : ∀ t2 : SetTable, t2.place = t1.place → t2.dummies = t1.dummies → t2.mask = t1.mask → t2.led = t1.led → wpAny (model P w) A (do
      storeSet a es1 t2
      if !false && t2.tooFull then setRelay a (SetTable.grown (es.size + 1))
      return true) Q E s := by
    intro t2 e1 e2 e3 e4
    have T2 : TabOk t2 (L1.map fun p => kh P w p.2) := by
      refine ⟨by rw [e1]; exact q3.ris, by rw [e2]; exact q3.dm, by rw [e1]; exact q3.sz, by rw [e3]; exact q3.mok, by rw [e1, e3]; exact q3.bd, ?_⟩
      rw [e1, e3]
      exact q3.reach
    have ld2 : w.params.followText "set-order" = true ∨ t2.led = true := by rw [e4, q5]; exact R.led
    have fl2 : t2.fill = L.length + 1 := by
      unfold SetTable.fill at q9 ⊢
      rw [e1, e2, q9, List.length_map]
    have mk2 : t2.mask = t.mask := e3.trans q4
    refine wpAny_bind (wpAny_storeSet_of ho hd ?_ (by rw [sz1, len1, sizeLine_eq]; omega))
    have sb : Heap.SameBut a s.heap (s.heap.update a (Obj.putSet es1 t2)) := Heap.SameBut.update ..
    have ho1 := store_at (es' := es1) (t' := t2) ho hd
    generalize s.heap.update a (Obj.putSet es1 t2) = h1 at sb ho1 ⊢
    by_cases hf : t2.tooFull = true
    · have full : (L.length + 1) * 5 ≥ t.mask * 3 := by
        have h := hf
        unfold SetTable.tooFull at h
        rw [decide_eq_true_eq, fl2, mk2] at h
        exact h
      have two : (t.mask = 7 ∧ L.length = 4) ∨ (t.mask = 31 ∧ L.length = 18) := by
        rcases R.tab.mok with e | e | e
        · rw [e] at full hroom; exact .inl ⟨e, by omega⟩
        · rw [e] at full hroom; exact .inr ⟨e, by omega⟩
        · exfalso; rw [e] at full; omega
      obtain ⟨m1, m2, m3⟩ := size_relay two
      simp only [hf, Bool.not_false, Bool.and_self, if_true]
      rw [hsl]
      refine wpAny_bind (relay (s := { s with heap := h1 }) ho1 ⟨hex.1, hex.2.1, hex.2.2⟩ rfl rows1 (by rw [T2.sz, List.length_map, sz1]) T2.dm (by rw [sz1, len1, mk2]; rcases two with ⟨e, e'⟩ | ⟨e, e'⟩ <;> omega) nd1 ld2 (by rw [len1]; exact few) rfl m1 m2 (by rw [len1]; exact m3) ?_)
      intro h2 L2 es2 ep2 t3 sb2 R2 pm2
      exact wpAny_pure (new hm true h2 L2 es2 ep2 t3 (sb.trans sb2) R2 (pm2.trans pm))
    · simp only [hf, Bool.not_false, Bool.and_false, Bool.false_eq_true, if_false]
      refine wpAny_pure (new hm true h1 L1 es1 (ep + 1) t2 sb ⟨⟨_, ho1, ⟨hex.1, hex.2.1, hex.2.2⟩, rfl⟩, rows1, T2, nd1, ld2, ?_, by rw [len1]; exact few⟩ pm)
      unfold SetTable.tooFull at hf
      rw [decide_eq_true_eq, fl2] at hf
      rw [len1]
      omega
  have fin2 : ∀ b : Bool, wpAny (model P w) A (do
      storeSet a es1 (if b then t1 else { t1 with plain := false })
      if !false && (if b then t1 else { t1 with plain := false }).tooFull then setRelay a (SetTable.grown (es.size + 1))
      return true) Q E s := fun b => by
    cases b
    · exact fin _ rfl rfl rfl rfl
    · exact fin _ rfl rfl rfl rfl
  by_cases hp1 : t1.plain = true
  · simp only [hp1, if_true]
    first
      | exact wpAny_bind (hashBy hx fun r => fin2 r)
      | exact wpAny_bind (hashBy hx fun r => wpAny_bind (wpAny_pure (fin2 r)))
  · simp only [hp1, Bool.false_eq_true, if_false]
    first
      | exact fin2 true
      | exact wpAny_bind (wpAny_pure (fin2 true))
/-- FINDING -/
theorem findIt (R : KSet P w s.heap a L es ep t) (tup : ∀ p ∈ L, TupAt P w s.heap p.2 p.1) {x : Addr} {k : List Key} (hx : TupAt P w s.heap k x) (hu : A.units < cLine) {Q : Option Nat → Shared → Prop}
    (yes : k ∈ L.map (·.2) → ∀ r : Option Nat, r.isSome = true → Q r s) (no : k ∉ L.map (·.2) → Q none s) : wpAny (model P w) A (setFind a (.ref x) (kh P w k)) Q E s := by
  obtain ⟨o, ho, hex, hd⟩ := R.ob
  unfold setFind setFindIn
  refine wpAny_bind (wpAny_setState_of ho hd R.fits ?_)
  dsimp only
  refine wp_if_neg (by simp [byScan, Value.scannable]) ?_
  refine wpAny_bind (seek0 R tup hx hu (ad := false) (fun r _ hr hm => ?_) fun K hm _ _ => ?_)
  · exact wpAny_pure (yes hm r (hr rfl))
  · exact wpAny_pure (no hm)
end
end Ct

set_option Elab.async false
set_option linter.all false
set_option maxRecDepth 100000
set_option maxHeartbeats 2000000
/-! Own kit I: sets of tuples of keys over the layer: add, in, comprehensions. -/
namespace Ct
open PySem PySem.Spec PyProof.Rows L2
/-- the set at a; that its members stand as they do is told apart -/
def KSetO (P : Program) (w : World) (a : Addr) (L : List Mem) : HO := .ext fun h => ∃ es ep t, KSet P w h a L es ep t
theorem kset_new {P : Program} {w : World} {H : Hp} {h : Heap} {a : Addr} {L : List Mem} {es : Array (Int × Value)} {ep : Nat} {t : SetTable} (R : KSet P w h a L es ep t) : ObjOk P w H h a (KSetO P w a L) := by
  obtain ⟨o, ho, r⟩ := R.ob
  refine ⟨⟨es, ep, t, R⟩, ⟨o, ho⟩, fun h1 h2 ⟨es, ep, t, R⟩ k => ?_⟩
  obtain ⟨o, ho, r⟩ := R.ob
  exact ⟨es, ep, t, ⟨o, k o ho, r⟩, R.rows, R.tab, R.nd, R.led, R.room, R.few⟩
theorem kset_fresh {P : Program} {w : World} {h : Heap} {a : Addr} (ho : h.get? a = some { cls := .type "set", dict := none, data := .set #[] 0 (.fresh 0 0 (!w.params.followText "set-order")) }) :
    KSet P w h a [] #[] 0 (.fresh 0 0 (!w.params.followText "set-order")) := by
  refine ⟨⟨_, ho, ⟨rfl, rfl, rfl⟩, rfl⟩, rfl, ⟨List.Pairwise.nil, rfl, rfl, .inl rfl, fun x hx => (by cases hx), fun i h j hi => (by simp at hi)⟩, List.nodup_nil, ?_, by show 0 * 5 < 7 * 3; decide, by show 0 < 77; decide⟩
  show _ ∨ (!w.params.followText "set-order") = true
  cases w.params.followText "set-order"
  · exact .inr rfl
  · exact .inl rfl
section
variable {X : Cx} {pins : List (Addr × Obj)} {σ : L2.St} {H : Hp} {s : Shared}
theorem vals_items {P : Program} {w : World} : ∀ {k : List Key} {us : List Value}, Vals (k.map kV) us → ItemsAre (mixKind P w) k us
  | [], _, .nil => .nil
  | _ :: _, _, .cons r t => .cons (kV_is r) (vals_items t)
theorem tup_of (I : Inv X pins σ H s) {b : Addr} {k : List Key} (h : SqT X.K H b (k.map kV)) : TupAt X.prog X.w s.heap k b := by
  obtain ⟨its, r, ⟨o, ho, hc, n, hd⟩, _⟩ := I.tuple h
  exact ⟨o, its.toArray, n, ho, hc, hd, by simpa using vals_items r⟩
/-- the members stand -/
def Mems (K : PySem.W.Frag) (H : Hp) (L : List Mem) : Prop := ∀ p ∈ L, SqT K H p.1 (p.2.map kV)
theorem mems_at (I : Inv X pins σ H s) {L : List Mem} (h : Mems X.K H L) : ∀ p ∈ L, TupAt X.prog X.w s.heap p.2 p.1 := fun p hp => tup_of I (h p hp)
/-- what add promises: k, a tuple at b, put into the set at a -/
def rKAdd (K : PySem.W.Frag) (P : Program) (w : World) (a b : Addr) (H : Hp) (Q : Hp → Prop) : Prop := ∃ (L : List Mem) (k : List Key), H a = some (KSetO P w a L) ∧ Mems K H L ∧ SqT K H b (k.map kV) ∧ L.length + 1 < 77 ∧
  (k ∈ L.map (·.2) → Q H) ∧ (k ∉ L.map (·.2) → ∀ L', L'.Perm ((b, k) :: L) → Q (upd H a (KSetO P w a L')))
theorem kadd {E : Value → Shared → Prop} {a b : Addr} {Qh : Hp → Prop} {Q : Value → Shared → Prop} (hu : X.A.units + 64 < cLine) (I : Inv X pins σ H s) (h : rKAdd X.K X.prog X.w a b H Qh)
    (q : ∀ H' s', Inv X pins σ H' s' → Qh H' → Q .none s') : wpAny (model X.prog X.w) X.A (call (.builtin "set.add") [.ref a, .ref b]) Q E s := by
  obtain ⟨L, k, ha, hm, hb, few, q1, q2⟩ := h
  obtain ⟨⟨es, ep, t, R⟩, _⟩ := I.hok _ _ ha
  have R : KSet X.prog X.w s.heap a L es ep t := R
  have tup := mems_at I hm
  have hx := tup_of I hb
  obtain ⟨o, ho, hex, hd⟩ := R.ob
  have ty : s.TypeIs (.ref a) "set" := ⟨o, ho, hex.1⟩
  have hu1 : X.A.in1.units < cLine := by show X.A.units + 1 < _; omega
  refine wpAny_call_entry F.slot_set_add ty F.entry_set_add ?_ (F.args_set_add_2 _ _)
  unfold Builtin.«set.add» Builtin.Frozenset.oneOther
  simp only [List.isEmpty_nil, bind_assoc]
  unfold Builtin.Frozenset.addrOf setAdd
  refine wpAny_bind (wpAny_pure ?_)
  try dsimp only
  refine wpAny_bind (wpAny_pure ?_)
  try dsimp only
  refine wpAny_bind ?_
  refine wpAny_holding ?_
  refine wpAny_bind (wpAny_pyHash_tuple hu1 hx ?_)
  have I1 : Inv X pins σ H { s with toks := s.toks + (k.length + 1) } := I.tok _
  refine putIn (s := { s with toks := s.toks + (k.length + 1) }) R tup hx hu1 few (fun hm b => ?_) fun hm b h' L' es' ep' t' sb R' pm => ?_
  · show wpAny _ _ (ret Value.none) _ _ _
    exact wpAny_pure ⟨_, rfl, q H _ I1 (q1 hm)⟩
  · show wpAny _ _ (ret Value.none) _ _ _
    obtain ⟨o', ho', _⟩ := R'.ob
    have he : ∃ u, h'.get? a = some u := ⟨o', ho'⟩
    exact wpAny_pure ⟨_, rfl, q _ _ (I.write (e := a) (t' := s.toks + (k.length + 1)) (by rw [ha]; trivial) (.inl rfl) (fun b u hb hu => (sb.2 b hb).trans hu) he (kset_new R')) (q2 hm L' pm)⟩
/-- k in s -/
def rKIn (K : PySem.W.Frag) (P : Program) (w : World) : V → V → Hp → VK → Prop := fun x y H Q => ∃ (a b : Addr) (L : List Mem) (k : List Key), x = .ref b ∧ y = .ref a ∧ H a = some (KSetO P w a L) ∧ Mems K H L ∧ SqT K H b (k.map kV) ∧
  (k ∈ L.map (·.2) → Q (.bl true) H) ∧ (k ∉ L.map (·.2) → Q (.bl false) H)
theorem or_kin (hu : X.A.units + 64 < cLine) : OpR X (compareOp .In) (rKIn X.K X.prog X.w) := by
  intro pins s σ H x y v u Q I rx ry h
  obtain ⟨a, b, L, k, rfl, rfl, ha, hm, hb, q1, q2⟩ := h
  cases rx
  cases ry
  obtain ⟨⟨es, ep, t, R⟩, _⟩ := I.hok _ _ ha
  have R : KSet X.prog X.w s.heap a L es ep t := R
  have tup := mems_at I hm
  have hx := tup_of I hb
  obtain ⟨o, ho, hex, hd⟩ := R.ob
  have ty : s.TypeIs (.ref a) "set" := ⟨o, ho, hex.1⟩
  have hu1 : X.A.in1.units < cLine := by show X.A.units + 1 < _; omega
  show wpAny _ _ (do return Value.bool (← contains (.ref a) (.ref b))) _ _ s
  refine wpAny_bind ?_
  unfold contains
  refine wpAny_holding ?_
  refine wpAny_bind (wpAny_specialOf ty F.slot_set_contains.lookup ?_)
  show wpAny _ _ (if (some (Value.builtin "set.__contains__") == some Value.none) = true then _ else _) _ _ s
  rw [if_neg (by rw [beq_builtin_none]; exact Bool.false_ne_true)]
  refine wpAny_bind (wpAny_callSpecialUnlessNone?_slot (name := Str.ofString "__contains__") ty F.slot_set_contains
    (wpAny_call_entry F.slot_set_contains ty entry_set_contains ?_ (F.args_set_contains_2 _ _)))
  unfold Builtin.«frozenset.__contains__» Builtin.Frozenset.oneOther
  simp only [List.isEmpty_nil, bind_assoc]
  unfold Builtin.Frozenset.addrOf Builtin.Frozenset.withSetAsKey setContains
  refine wpAny_bind (wpAny_pure ?_)
  try dsimp only
  refine wpAny_bind (wpAny_pure ?_)
  try dsimp only
  refine wpAny_bind (wpAny_tryCatch ?_)
  refine wpAny_holding ?_
  refine wpAny_bind (wpAny_pyHash_tuple hu1 hx ?_)
  have I1 : Inv X pins σ H { s with toks := s.toks + (k.length + 1) } := I.tok _
  refine wpAny_bind (findIt (s := { s with toks := s.toks + (k.length + 1) }) R tup hx hu1 (fun hk r hr => ?_) fun hk => ?_)
  · refine wpAny_pure ?_
    show wpAny _ _ (ret (Value.bool r.isSome)) _ _ _
    rw [hr]
    exact wpAny_pure ⟨_, rfl, wpAny_truthy_bool (wpAny_pure ⟨.bl true, H, I1, rfl, q1 hk⟩)⟩
  · refine wpAny_pure ?_
    show wpAny _ _ (ret (Value.bool false)) _ _ _
    exact wpAny_pure ⟨_, rfl, wpAny_truthy_bool (wpAny_pure ⟨.bl false, H, I1, rfl, q2 hk⟩)⟩
/-- s.add(t) -/
def tKAdd (K : PySem.W.Frag) (P : Program) (w : World) (to te : TE) : TE := fun σ H Q => to σ H fun x H1 => (∃ a L, x = V.ref a ∧ H1 a = some (KSetO P w a L)) ∧ te σ H1 fun y H2 => ∃ a b, x = .ref a ∧ y = .ref b ∧ rKAdd K P w a b H2 fun H3 => Q .non H3
theorem pe_kadd {o e : Expr} {to te : TE} {apos cpos : Pos} (hu : X.A.units + 64 < cLine) (ho : PE X o to) (he : PE X e te)
    (hbase : attributeBase o "add" X.env (eval o X.env) = eval o X.env := by rfl)
    (hfew : ((backTo cpos (starEach [e] X.env)).all (fun x => !x.1) && (backToKw cpos (keywordEach [] X.env)).all (fun x => x.1.isSome)
      && decide ([e].length + ([] : List Keyword).length + (if ([] : List Keyword).isEmpty then 0 else 1) < 30)) = true := by rfl)
    (hline : (apos.endLine == cpos.line) = true := by rfl) (hs : starEach [e] X.env = (false, eval e X.env) :: starEach [] X.env := by rfl) :
    PE X (.Call (.Attribute o "add" apos) [e] [] cpos) (tKAdd X.K X.prog X.w to te) := by
  refine ⟨fun pins s σ H Q I h => ?_⟩
  refine wpAny_Call_method_late hbase hfew hline rfl (thn (ho.run pins s σ H _ I h) fun v s1 ⟨x, H1, I1, r1, ty, q1⟩ => ?_)
  obtain ⟨a, L, rfl, ha⟩ := ty
  obtain ⟨⟨es, ep, t, R⟩, _⟩ := I1.hok _ _ ha
  have R : KSet X.prog X.w s1.heap a L es ep t := R
  obtain ⟨ob, hob, hex, _⟩ := R.ob
  cases r1
  refine ⟨"set", "set.add", F.plainAttrs_set, F.slot_set_add, F.type_set_add, ⟨ob, hob, hex.1⟩, (fun b e => by cases e; exact ⟨ob, hob, hex.2.1⟩), ?_⟩
  rw [hs]
  refine Calls.callWith_builtin rfl (Calls.evalArgs_plain (Calls.spliced_cons (thn (he.run pins s1 σ H1 _ I1 q1) fun iv s2 ⟨y, H2, I2, ry, a', b, ea, eb, q2⟩ => Calls.spliced_nil ?_)))
  cases ea
  subst eb
  cases ry
  exact kadd hu I2 q2 fun H' s' I' q' => ⟨.non, H', I', rfl, q'⟩
end
end Ct

set_option Elab.async false
set_option linter.all false
set_option maxRecDepth 100000
set_option maxHeartbeats 2000000
/-! Own kit J: {e for x in xs}, e a tuple of keys. -/
namespace Ct
open PySem PySem.Spec PyProof.Rows L2 PpSet
section
variable {X : Cx}
/-- the turns of {e for x in it}, D the new set -/
def tKSc (K : PySem.W.Frag) (P : Program) (w : World) (wi : TI) (g : TG) (te : TE) (vs : List Nat) : TE := fun σ H Q => wi σ H fun J H1 => ∀ D, H1 D = none → ∃ W : Nat → Nat → Hp → Prop, (∃ m, W 0 m (upd H1 D (KSetO P w D []))) ∧ ∀ i m H, W i m H →
  (J.stop i H ∧ Q (.ref D) H) ∨ (J.go i H ∧ ∃ Nx : Hp → Prop, (∀ H', Nx H' → ∃ m', m' < m ∧ W (i + 1) m' H') ∧ ∀ x H', J.yld i H x H' → g x (wipe σ vs) H' fun σ2 H2 => wipe σ2 vs = wipe σ vs ∧
    te σ2 H2 fun y H4 => ∃ b, y = .ref b ∧ rKAdd K P w D b H4 Nx)
theorem ksc_core {pins : List (Addr × Obj)} {s : Shared} {σ : L2.St} {H : Hp} {Q : VK} {elt tg iter : Expr} {scope : Scope} {own : List (PySem.Str × Nat)} {pos pos' : Pos} {wi : TI} {g : TG} {te : TE} {use : Option (Value → Sem Unit)} {Qf : Value → Shared → Prop}
    (hu : X.A.units + 64 < cLine) (hc : X.calm = true) (hN : X.N.Nodup) (I : Inv X pins σ H s) (hi : PI X tg iter wi) (ok : BlkOk X.N X.env.scope scope own)
    (hg : ∀ (s : Shared) (H : Hp) (C : Addr) (cl : List (PySem.Str × Addr)) (fp : List Addr), PG (X.blk s H scope (compEnvC scope cl C X.env) fp) tg g)
    (he : ∀ (s : Shared) (H : Hp) (C : Addr) (cl : List (PySem.Str × Addr)) (fp : List Addr), PE (X.blk s H scope (compEnvC scope cl C X.env) fp) elt te) (hs : ∀ x, foldedSetIterable iter X.env x = pure x)
    (h : tKSc X.K X.prog X.w wi g te (own.map (·.2)) σ H Q)
    (hRR : ∀ D C s' m H', Inv X pins σ H' s' → Q (.ref D) H' → s'.heap.Ns C m → FpOk X pins H' C → compPost (model X.prog X.w) X.A X.xe use Qf (.ref D) C (.ok .next) s') :
    wpAny (model X.prog X.w) X.A (comprehension (.SetComp elt [⟨tg, iter, [], 0⟩] scope pos) scope X.env pos' (newSet (.type "set")) false (eval iter X.env) use) Qf X.xe s := by
  have free : ∀ y ∈ scope.names, y.2 = .free → ∃ c, X.env.cells.lookup y.1 = some c := fun y hy e => (ok.free y hy e).elim (fun k => I.ok.has _ (.inl k)) (fun k => I.ok.has _ (.inr k))
  refine wpAny_comprehension_free (use := use) rfl hs (closure_ok free) ok.kind (fun y hy e => by rw [ok.uniq y hy, e])
    (thn (hi.run pins s σ H _ I h) fun xv s1 hx => thn hx fun itv s2 h2 => ?_)
  obtain ⟨it, fp, tn, J, H2, rfl, I2, T, st2, f2, q⟩ := h2
  refine newSet_ok (newEnv_comp ?_)
  generalize hD : s2.heap.objs.size = D
  obtain ⟨W, ⟨m0, w0⟩, turn⟩ := q D (I2.hok.fresh (Nat.le_of_eq hD))
  generalize hs3 : ({ s2 with heap := s2.heap.push { cls := .type "set", dict := none, data := .set #[] 0 (.fresh 0 0 (!X.w.params.followText "set-order")) } } : Shared) = s3
  have h3 : s3.heap = s2.heap.push { cls := .type "set", dict := none, data := .set #[] 0 (.fresh 0 0 (!X.w.params.followText "set-order")) } := by rw [← hs3]
  have I3 : Inv X pins σ (upd H2 D (KSetO X.prog X.w D [])) s3 := by
    rw [← hs3, ← hD]
    exact I2.laid (t' := s2.toks) (fun b o e => Heap.get?_push_of_some _ e) (Nat.le_refl _) (kset_new (kset_fresh (Heap.get?_push_size _ rfl)))
  have kp3 : ∀ b ∈ fp, ∀ o, s2.heap.get? b = some o → s3.heap.get? b = some o := fun b _ o e => by rw [h3]; exact Heap.get?_push_of_some _ e
  have st3 : tn 0 s3.heap := T.keep _ _ _ st2 kp3
  have f3 : ∀ b ∈ fp, FpOk X pins (upd H2 D (KSetO X.prog X.w D [])) b ∧ b < s3.heap.objs.size := fun b hb => by
    obtain ⟨o, e, _⟩ := T.obj _ _ st2 b hb
    have lt : b < s2.heap.objs.size := Heap.lt_size e
    exact ⟨⟨by rw [upd_ne (by rw [← hD]; exact Nat.ne_of_lt lt)]; exact (f2 b hb).1, (f2 b hb).2⟩, by rw [h3, Heap.size_push]; exact Nat.lt_succ_of_lt lt⟩
  have I4 := block_start I3 ok hN f3
  have pg := hg s3 (upd H2 D (KSetO X.prog X.w D [])) s3.heap.objs.size (cellsFrom (s3.heap.objs.size + 1) scope.names (cloFrom X.env.cells scope.names [])) fp
  have pe := he s3 (upd H2 D (KSetO X.prog X.w D [])) s3.heap.objs.size (cellsFrom (s3.heap.objs.size + 1) scope.names (cloFrom X.env.cells scope.names [])) fp
  show codeAny _ _ (.compStart (.SetComp elt [⟨tg, iter, [], 0⟩] scope pos) 0 (.ref it) (.ref D) (compEnvC scope (cellsFrom (s3.heap.objs.size + 1) scope.names (cloFrom X.env.cells scope.names [])) s3.heap.objs.size X.env)) (compPost (model X.prog X.w) X.A X.xe use Qf (.ref D) s3.heap.objs.size) { s3 with heap := pushCells (s3.heap.push { cls := .type "dict", data := .dict #[] }) scope.names }
  generalize hce : compEnvC scope (cellsFrom (s3.heap.objs.size + 1) scope.names (cloFrom X.env.cells scope.names [])) s3.heap.objs.size X.env = ce at I4 pg pe ⊢
  have cL : ce.locals = s3.heap.objs.size := by subst hce; rfl
  have nfp : ∀ b ∈ fp, (upd H2 D (KSetO X.prog X.w D [])) b = none := fun b hb => (f3 b hb).1.1
  generalize upd H2 D (KSetO X.prog X.w D []) = H3 at I3 I4 pg pe w0 nfp f3
  generalize hs4 : ({ s3 with heap := pushCells (s3.heap.push { cls := .type "dict", data := .dict #[] }) scope.names } : Shared) = s4 at I4 ⊢
  have st4 : tn 0 s4.heap := T.keep _ _ _ st3 fun b _ o e => by rw [← hs4]; exact pushCells_keeps _ _ _ _ (Heap.get?_push_of_some _ e)
  have foot : ∀ {σ' : L2.St} {H' : Hp} {s' : Shared}, Inv (X.blk s3 H3 scope ce fp) [] σ' H' s' → (∀ b ∈ fp, H' b = none) → ∀ b ∈ fp, FpOk (X.blk s3 H3 scope ce fp) [] H' b := fun {σ' H' s'} I' hn b hb =>
    ⟨hn b hb, (I'.ok.exf b hb).1, I'.ok.exfs b hb, .inl hb, fun x c e => (I'.ok.exf b hb).2 x c e, fun p hp => absurd (show p ∈ ([] : List (Addr × Obj)) ++ [] from hp) (by simp)⟩
  have loop : codeAny (model X.prog X.w) X.A (.compLoop (.SetComp elt [⟨tg, iter, [], 0⟩] scope pos) 0 (.ref it) (.ref D) ce) (compPost (model X.prog X.w) X.A X.xe use Qf (.ref D) s3.heap.objs.size) s4 := by
    refine compLoopS_any (fun n s' => ∃ i H', Inv (X.blk s3 H3 scope ce fp) [] (wipe σ (own.map (·.2))) H' s' ∧ tn i s'.heap ∧ (∀ b ∈ fp, H' b = none) ∧ W i n H') ?_ m0 ⟨0, H3, I4, st4, nfp, w0⟩
    rintro n s5 ⟨i, H5, I5, st5, n5, w5⟩
    rcases turn i n H5 w5 with ⟨stop, qq⟩ | ⟨go, Nx, hNx, step⟩
    · refine thnF (T.done (X.blk s3 H3 scope ce fp) rfl rfl rfl hc i [] s5 _ H5 (fun _ _ => False) I5 (foot I5 n5) st5 stop) fun r s6 ⟨hr, I6⟩ => ?_
      subst hr
      have I7 : Inv X pins σ H5 s6 := I3.call' (ch := fp) I6.os I6.base I6.hok I6.bare fun b hb => ⟨(f3 b hb).1.2.2.2.1, (f3 b hb).1.2.1, (f3 b hb).1.2.2.2.2.1, (f3 b hb).1.2.2.2.2.2⟩
      have nC : H5 s3.heap.objs.size = none := cL ▸ (I6.free : H5 ce.locals = none)
      obtain ⟨m, hn, _⟩ := I6.loc
      exact hRR D s3.heap.objs.size s6 m H5 I7 qq (cL ▸ (hn : s6.heap.Ns ce.locals m)) (I3.fpOk (Nat.le_refl _) nC)
    · refine thnF (T.item (X.blk s3 H3 scope ce fp) rfl rfl rfl hc i [] s5 _ H5 (fun _ _ => False) I5 (foot I5 n5) st5 go) fun r s6 ⟨u, hr, h6⟩ => ?_
      subst hr
      refine thnF h6 fun _ s7 ⟨x, H7, I7, r7, y7, st7, n7⟩ => ?_
      refine thnF (pg.run _ s7 _ H7 x u _ (I7.pinned (foot I7 n7) (T.obj _ _ st7)) r7 (step x H7 y7)) fun _ s8 ⟨σ8, H8, I8, hw8, q8⟩ => ?_
      have fin : ∀ {s' : Shared} {H' : Hp}, Inv (X.blk s3 H3 scope ce fp) ([] ++ pinsAt fp s7.heap) σ8 H' s' → Nx H' → ∃ m, m < n ∧ ∃ i H', Inv (X.blk s3 H3 scope ce fp) [] (wipe σ (own.map (·.2))) H' s' ∧ tn i s'.heap ∧ (∀ b ∈ fp, H' b = none) ∧ W i m H' := fun {s' H'} I' nx => by
        obtain ⟨m', hm, w'⟩ := hNx H' nx
        have pin' : ∀ b ∈ fp, ∀ o, s7.heap.get? b = some o → s'.heap.get? b = some o ∧ H' b = none := fun b hb o e =>
          let z := I'.pin (b, o) (List.mem_append_right _ (List.mem_append_right _ (mem_pinsAt hb e)))
          ⟨z.1, z.2.1⟩
        refine ⟨m', hm, i + 1, H', (I'.unpinned (pins := [])).weak (by rw [← hw8, wipe_length]) (fun j v e => ?_), T.keep _ _ _ st7 fun b hb o e => (pin' b hb o e).1, fun b hb => ?_, w'⟩
        · rw [← hw8] at e
          exact (wipe_some e).1
        · obtain ⟨o, e, _⟩ := T.obj _ _ st7 b hb
          exact (pin' b hb o e).2
      show wpAny _ _ (pure true) _ _ s8
      refine wpAny_pure ?_
      simp only [if_true]
      refine thnF (pe.run _ s8 σ8 H8 _ I8 q8) fun z s10 ⟨yv, H10, I10, r10, b, ey, ad⟩ => ?_
      subst ey
      cases (show z = Value.ref b from r10)
      exact kadd (X := X.blk s3 H3 scope ce fp) hu I10 ad fun H' s' I' nx => fin I' nx
  exact codeAny_compStart_set loop (T.self X.A 0 _ _ _ st4 loop)
/-- as a value -/
theorem pe_ksc {elt tg iter : Expr} {scope : Scope} {own : List (PySem.Str × Nat)} {pos : Pos} {wi : TI} {g : TG} {te : TE} (hu : X.A.units + 64 < cLine) (hc : X.calm = true) (hN : X.N.Nodup) (hi : PI X tg iter wi) (ok : BlkOk X.N X.env.scope scope own)
    (hg : ∀ (s : Shared) (H : Hp) (C : Addr) (cl : List (PySem.Str × Addr)) (fp : List Addr), PG (X.blk s H scope (compEnvC scope cl C X.env) fp) tg g)
    (he : ∀ (s : Shared) (H : Hp) (C : Addr) (cl : List (PySem.Str × Addr)) (fp : List Addr), PE (X.blk s H scope (compEnvC scope cl C X.env) fp) elt te) (hs : ∀ x, foldedSetIterable iter X.env x = pure x := by intro _; rfl) :
    PE X (.SetComp elt [⟨tg, iter, [], 0⟩] scope pos) (tKSc X.K X.prog X.w wi g te (own.map (·.2))) := by
  refine ⟨fun pins s σ H Q I h => ?_⟩
  rw [eval_SetComp]
  refine ksc_core hu hc hN I hi ok hg he hs h fun D C s' m H' I' q hn f => ⟨m, hn, fun h'' sb => ?_⟩
  obtain ⟨f0, f1, f2, f3, f4, f5⟩ := f
  exact ⟨.ref D, H', I'.turned (t' := s'.toks) (fun b o hb e => (sb.2 b hb).trans e) f0 f1 f3 f4 f5, rfl, q⟩
/-- y = {e for x in xs} -/
theorem ps_setKsc {i : Nat} {y : PySem.Str} {py : Pos} {elt tg iter : Expr} {scope : Scope} {own : List (PySem.Str × Nat)} {pos spos : Pos} {wi : TI} {g : TG} {te : TE} (hu : X.A.units + 64 < cLine) (hc : X.calm = true) (hN : X.N.Nodup) (hy : X.N[i]? = some y) (hyl : X.env.scope.names.lookup y = some .local)
    (hsw : swapsWith (.SetComp elt [⟨tg, iter, [], 0⟩] scope pos) (some (.Name y py)) spos.line X.env = pure true) (hi : PI X tg iter wi) (ok : BlkOk X.N X.env.scope scope own)
    (hg : ∀ (s : Shared) (H : Hp) (C : Addr) (cl : List (PySem.Str × Addr)) (fp : List Addr), PG (X.blk s H scope (compEnvC scope cl C X.env) fp) tg g)
    (he : ∀ (s : Shared) (H : Hp) (C : Addr) (cl : List (PySem.Str × Addr)) (fp : List Addr), PE (X.blk s H scope (compEnvC scope cl C X.env) fp) elt te) (hs : ∀ x, foldedSetIterable iter X.env x = pure x := by intro _; rfl) :
    PS X (.Assign [.Name y py] (.SetComp elt [⟨tg, iter, [], 0⟩] scope pos) spos) (tAsg (tKSc X.K X.prog X.w wi g te (own.map (·.2))) (gName i)) := by
  refine ⟨fun pins s σ H D I h => ?_⟩
  rw [exec_Assign_Name_used _ _ _ _ hsw]
  refine wpAny_bind (wpAny_standAt (wpAny_bind ?_))
  show wpAny _ X.A (do let _ ← comprehension (.SetComp elt [⟨tg, iter, [], 0⟩] scope pos) scope X.env (firstIterPos [⟨tg, iter, [], 0⟩] pos) (newSet (.type "set")) false (eval iter X.env) (some (assign (.Name y py) X.env))) _ _ s
  have q : tKSc X.K X.prog X.w wi g te (own.map (·.2)) σ H (fun x H1 => gName i x σ H1 D.nx) := h
  refine wpAny_bind (thn (ksc_core (Qf := fun _ s' => SP X pins D .next s') hu hc hN I hi ok hg he hs q fun L C s' m H' I' q hn f => ?_) fun _ s' hq => wpAny_pure (wpAny_pure hq))
  show wpAny _ _ (assign (.Name y py) X.env (.ref L)) _ _ _
  refine wpAny_assign_Name (store_ok2 (v := V.ref L) I' hN hy (.inl hyl) rfl (fun s2 I2 ⟨a, sb, ha⟩ => ?_) (.inr hyl))
  obtain ⟨f0, f1, f2, f3, f4, f5⟩ := f
  have ne : C ≠ a := ha.elim (fun z => z ▸ f1) (fun z e => f4 y a z e.symm)
  exact ⟨m, hn.sameBut sb ne, fun h3 sb3 => ⟨_, H', I2.turned (t' := s2.toks) (fun b o hb e => (sb3.2 b hb).trans e) f0 f1 f3 f4 f5, q⟩⟩
theorem sw_setc {elt : Expr} {gs : List Comprehension} {scope : Scope} {pos py : Pos} {y : PySem.Str} {l : Nat} {env : Env} (hk : env.scope.kind = .function) (hy : env.scope.names.lookup y = some .local) (hl : (py.line == pos.line) = true)
    (ha : (scope.names.any fun (n, k) => n == y && (k == .local || k == .cell)) = false) : swapsWith (.SetComp elt gs scope pos) (some (.Name y py)) l env = pure true := by
  have ky : env.kindOf y = some .local := hy
  have hb : env.blockKind = .function := by unfold Env.blockKind; rw [hk]; rfl
  unfold swapsWith
  simp only [hb, ky, ha, Expr.pos, hl]
  rfl
end
end Ct

set_option Elab.async false
set_option linter.all false
set_option maxRecDepth 100000
set_option maxHeartbeats 4000000
/-! Own kit K: set(xs) of any number of texts and ints, its len. -/
namespace Ct
open PySem PySem.Spec PyProof.Rows L2
/-- how many of the first i are new -/
def cnt (ks : List Key) : Nat → Nat
  | 0 => 0
  | i + 1 => cnt ks i + (if (ks.take i).any (fun j => decide (j = ks.getD i (.inl 0))) = true then 0 else 1)
theorem cnt_le (ks : List Key) : ∀ i, cnt ks i ≤ i
  | 0 => Nat.le_refl _
  | i + 1 => by
    have := cnt_le ks i
    unfold cnt
    split <;> omega
theorem any_mem {ks : List Key} {k : Key} : ks.any (fun j => decide (j = k)) = true ↔ k ∈ ks := by
  rw [List.any_eq_true]
  exact ⟨fun ⟨j, hj, e⟩ => (of_decide_eq_true e) ▸ hj, fun h => ⟨k, h, decide_eq_true rfl⟩⟩
theorem take_next' {ks : List Key} {i : Nat} (h : i < ks.length) : ks.take (i + 1) = ks.take i ++ [ks.getD i (.inl 0)] := by
  rw [List.take_succ, List.getElem?_eq_getElem h, List.getD_eq_getElem?_getD, List.getElem?_eq_getElem h]; rfl
theorem cnt_eq (ks : List Key) : ∀ i, i ≤ ks.length → (cnt ks i = i ↔ (ks.take i).Nodup)
  | 0, _ => by simp [cnt]
  | i + 1, hi => by
    have ih := cnt_eq ks i (Nat.le_of_lt hi)
    have le := cnt_le ks i
    rw [take_next' hi, List.nodup_append]
    unfold cnt
    by_cases c : ks.getD i (.inl 0) ∈ ks.take i
    · rw [if_pos (any_mem.mpr c)]
      exact ⟨fun z => by omega, fun z => absurd rfl (z.2.2 _ c _ (List.mem_singleton.mpr rfl))⟩
    · rw [if_neg (fun z => c (any_mem.mp z))]
      constructor
      · intro z
        refine ⟨ih.mp (by omega), List.nodup_cons.mpr ⟨by simp, List.nodup_nil⟩, fun a ha b hb e => ?_⟩
        rw [List.mem_singleton.mp hb] at e
        exact c (e ▸ ha)
      · intro z
        have := ih.mpr z.1
        omega
section
variable {prog : Program} {w : World} {A : Around} {R : Result → Shared → Prop} {I : Addr} {fp wr : List Addr} {G : Array GenState → Array GenState → Prop} {n : Nat} {P : Nat → Value → Prop} {St : Nat → Shared → Prop}
theorem set_turns (W : WalksS prog w A.in1 I fp wr G n P St) (S : Addr) (hS : S ∉ fp) (ks : List Key) (hn : ks.length = n) (hb : n < scanBound) (hv : ∀ i v, P i v → (mixKind prog w).is (ks.getD i (.inl 0)) v = true) :
    ∀ (j i : Nat) (s : Shared), n - i = j → i ≤ n → St i s → s.heap.SetOf (mixKind prog w) S (fun k => (ks.take i).any (fun j => decide (j = k))) (cnt ks i) →
      (∀ s', Moved (S :: wr) G s s' → s'.heap.SetOf (mixKind prog w) S (fun k => (ks.take n).any (fun j => decide (j = k))) (cnt ks n) → R (.ok (.ret .none)) s') →
      codeAny (model prog w) A (.builtin "set.update.loop" ⟨[.ref S, .ref I], []⟩) R s := by
  have hSw : S ∉ wr := fun h => hS (W.sub _ h)
  have sub : ∀ b ∈ wr, b ∈ S :: wr := fun b h => List.mem_cons_of_mem _ h
  intro j
  induction j with
  | zero =>
    intro i s hj hi st h0 q
    obtain rfl : i = n := by omega
    refine codeAny_builtin F.entry_set_update_loop ?_
    rw [Around.under_plainId F.plain_set_update_loop _]
    show wpAny _ A.in1 (pyNext (.ref I) >>= _) _ _ s
    refine wpAny_bind (W.done s _ _ st fun s' hm => ?_)
    show wpAny _ A.in1 (ret Value.none) _ _ s'
    exact wpAny_pure (q s' (hm.mono sub) (setOf_at h0 fun o e => hm.heap S o hSw e))
  | succ j ih =>
    intro i s hj hi st h0 q
    have lt : i < n := by omega
    refine codeAny_builtin F.entry_set_update_loop ?_
    rw [Around.under_plainId F.plain_set_update_loop _]
    show wpAny _ A.in1 (pyNext (.ref I) >>= _) _ _ s
    refine wpAny_bind (W.item i s _ _ lt st fun v s' hP st' hm => ?_)
    have kv := hv i v hP
    have sc : v.scannable = true := key_scan' kv
    have h1 := setOf_at h0 fun o e => hm.heap S o hSw e
    show wpAny _ A.in1 (holding [v] (setAdd S v) >>= _) _ _ s'
    refine wpAny_bind (wpAny_holding ?_)
    unfold setAdd
    refine wpAny_holding ?_
    refine wpAny_bind ((mixKind prog w).pyHash kv ?_)
    have room : cnt ks i + 1 < scanBound := by have := cnt_le ks i; omega
    refine wpAny_setAddHashed_of (knd := mixKind prog w) (s := { s' with toks := s'.toks + 1 }) kv sc h1 room fun h' sb h2 => ?_
    have h3 : h'.SetOf (mixKind prog w) S (fun k => (ks.take (i + 1)).any (fun j => decide (j = k))) (cnt ks (i + 1)) := by
      have e1 : (fun k => (ks.take (i + 1)).any (fun j => decide (j = k))) = fun k => (ks.take i).any (fun j => decide (j = k)) || decide (k = ks.getD i (.inl 0)) := by
        funext k
        rw [take_next' (by omega), List.any_append]
        congr 1
        simp only [List.any_cons, List.any_nil, Bool.or_false]
        exact decide_eq_decide.mpr eq_comm
      have e2 : cnt ks (i + 1) = if (ks.take i).any (fun j => decide (j = ks.getD i (.inl 0))) = true then cnt ks i else cnt ks i + 1 := by
        show cnt ks i + _ = _
        split <;> rfl
      rw [e1, e2]
      exact h2
    refine wpAny_pure ⟨plainId_quiet F.plain_set_update_loop _, ih (i + 1) _ (by omega) lt (W.frame _ s' _ _ st' (Nat.le_succ _) fun b hb o e => ?_) h3 fun s'' hm2 h4 => ?_⟩
    · rw [sb.2 b (fun h : b = S => hS (h ▸ hb))]; exact e
    · refine q s'' (Moved.trans W.gtrans ((hm.mono sub).then_heap (Nat.le_succ _) fun b o hb e => ?_) hm2) h4
      rw [sb.2 b (fun h : b = S => hb (h ▸ List.mem_cons_self))]; exact e
end
/-- what is asked of the walked thing: its type, what its iterator is -/
structure Walked (prog : Program) (w : World) (A : Around) (T : String) (IT : String) (ob : Obj) (l : Addr) (items : Array Value) : Prop where
  cls : ob.cls = .type T
  s1 : isSubtype (.type T) (.type "set") = pure false
  s2 : isSubtype (.type T) (.type "frozenset") = pure false
  nd : (Value.type T == Value.type "dict") = false
  iter : ∀ (A : Around) (E : Value → Shared → Prop) (s : Shared) (Q : Value → Shared → Prop), s.heap.get? l = some ob → Q (.ref s.heap.objs.size) { s with heap := s.heap.push { cls := .type IT, data := .fields #[.ref l, .int 0 0] } } → wpAny (model prog w) A (pyIter (.ref l)) Q E s
  walk : ∀ (A : Around), A.handled = none → ∀ it, l ≠ it → ∃ St : Nat → Heap → Prop, Walks prog w A it [it, l] [it] items.size (fun i v => items[i]? = some v) St ∧ ∀ h, h.get? l = some ob → h.get? it = some { cls := .type IT, data := .fields #[.ref l, .int 0 0] } → St 0 h
section
variable {prog : Program} {w : World} {A : Around} {E : Value → Shared → Prop} {s : Shared}
theorem set_call {T IT : String} {ob : Obj} {l : Addr} {items : Array Value} {ks : List Key} {Q : Value → Shared → Prop} (hh : A.handled = none) (Wk : Walked prog w A T IT ob l items) (hl : s.heap.get? l = some ob) (hn : ks.length = items.size) (hb : items.size < scanBound)
    (hv : ∀ i v, items[i]? = some v → (mixKind prog w).is (ks.getD i (.inl 0)) v = true)
    (h : ∀ (h' : Heap) (tk : Nat), h'.SetOf (mixKind prog w) s.heap.objs.size (fun k => ks.any (fun j => decide (j = k))) (cnt ks ks.length) →
      (∀ b o, b < s.heap.objs.size → s.heap.get? b = some o → h'.get? b = some o) → Q (.ref s.heap.objs.size) { s with heap := h', toks := tk }) :
    wpAny (model prog w) A (call (.type "set") [.ref l]) Q E s := by
  obtain ⟨c, tl, hmro⟩ := PySem.F.called_set.mro
  have hmade := PySem.F.called_set.made
  have hsub := PySem.F.called_set.sub
  refine wpAny_call (codeAny_of_tree ?_)
  show wpAny _ _ (callAny (.type "set") _) _ _ _
  refine wpAny_pure ⟨Code.quiet_builtin _ (by decide +kernel), codeAny_builtin PySem.F.entry_type_call ?_⟩
  rw [Around.under_plain (weight_type_call_type "set" [.ref l] []) rfl]
  have h1 := PySem.F.called_set.notType
  have h2 := PySem.F.called_set.canCreate
  have hct := PySem.F.typeCall_set_1 (.ref l)
  repeat (any_goals (first | assumption | wp_step))
  refine codeAny_mono (code_set_new_1 (.ref l) (E := E) (Q₁ := fun obj s₁ => ∃ led : Bool, obj = .ref s.heap.objs.size ∧ s₁ = { s with heap := s.heap.push { cls := .type "set", dict := none, data := .set #[] 0 (.fresh 0 0 led) } }) fun led => ⟨led, rfl, rfl⟩) fun r s₁ hr => ?_
  match r, hr with
  | .error e, hr => exact hr
  | .ok .next, hr => exact hr.elim
  | .ok .brk, hr => exact hr.elim
  | .ok .cont, hr => exact hr.elim
  | .ok (.ret obj), hr =>
    obtain ⟨led, rfl, rfl⟩ := hr
    have hS : (s.heap.push { cls := .type "set", dict := none, data := .set #[] 0 (.fresh 0 0 led) }).get? s.heap.objs.size = some { cls := .type "set", dict := none, data := .set #[] 0 (.fresh 0 0 led) } := Heap.get?_push_size _ rfl
    have hT : Shared.TypeIs { s with heap := s.heap.push { cls := .type "set", dict := none, data := .set #[] 0 (.fresh 0 0 led) } } (.ref s.heap.objs.size) "set" := ⟨_, hS, rfl⟩
    have hli := PySem.F.called_set.init.lookup
    have hbi := PySem.F.called_set.init.bind (.ref s.heap.objs.size)
    repeat (any_goals (first | assumption | wp_step))
    refine codeAny_mono (codeAny_call_builtin (R := wants (fun r s₂ => r = .none ∧ ∃ h' tk, s₂ = { s with heap := h', toks := tk } ∧
        h'.SetOf (mixKind prog w) s.heap.objs.size (fun k => ks.any (fun j => decide (j = k))) (cnt ks ks.length) ∧
        (∀ b o, b < s.heap.objs.size → s.heap.get? b = some o → h'.get? b = some o)) E) PySem.F.called_set.init.plain PySem.F.entry_set_init (check_set_init_1 hT ?_)) fun r₂ s₂ hr₂ => ?_
    · have hl1 : (s.heap.push { cls := .type "set", dict := none, data := .set #[] 0 (.fresh 0 0 led) }).get? l = some ob := Heap.get?_push_of_some _ hl
      have it := Wk.iter
      have wk := Wk.walk
      obtain ⟨ocls, odict, odata, oslots⟩ := ob
      have hcl := Wk.cls
      dsimp only at hcl
      subst hcl
      have hsls := Wk.s1
      have hslf := Wk.s2
      have hne := Wk.nd
      unfold Builtin.«set.__init__» noKeywords Builtin.Frozenset.updateFrom
      generalize hPI : pyIter = PI
      wp_walk
      subst hPI
      refine it _ _ _ _ hl1 ?_
      refine wpAny_bind (wpAny_runValue ?_)
      have hlS : l < s.heap.objs.size := Heap.lt_size hl
      have hneI : l ≠ (s.heap.push { cls := .type "set", dict := none, data := .set #[] 0 (.fresh 0 0 led) }).objs.size := by
        rw [Heap.size_push]; exact Nat.ne_of_lt (Nat.lt_succ_of_lt hlS)
      have hSf : s.heap.objs.size ∉ [(s.heap.push { cls := .type "set", dict := none, data := .set #[] 0 (.fresh 0 0 led) }).objs.size, l] := by
        rw [Heap.size_push]; simp only [List.mem_cons, List.not_mem_nil, or_false, not_or]
        exact ⟨Nat.ne_of_lt (Nat.lt_succ_self _), Nat.ne_of_gt hlS⟩
      obtain ⟨St, W, st0⟩ := wk A.in1.in1.in1 (by simp [hh]) _ hneI
      refine set_turns W.toS s.heap.objs.size hSf ks hn hb hv (items.size - 0) 0 _ rfl (Nat.zero_le _) (st0 _ (Heap.get?_push_of_some _ hl1) (Heap.get?_push_size _ rfl)) ?_ ?_
      · exact ⟨_, #[], 0, _, Heap.get?_push_of_some _ hS, ⟨rfl, rfl, rfl⟩, rfl, (fun e he => by simp at he), (fun k => by simp), (by decide), (by rfl), rfl⟩
      · intro s' hm hS'
        obtain ⟨h', g', d', tk', os'⟩ := s'
        have eg : g' = s.gens := hm.gens
        have ed : d' = s.drawn := hm.drawn
        have eo : os' = s.os := hm.os
        subst eg; subst ed; subst eo
        show wpAny _ _ _ _ _ _
        refine wpAny_pure ?_
        show wpAny _ _ (ret Value.none) _ _ _
        rw [← hn, List.take_length] at hS'
        refine wpAny_pure ⟨rfl, h', tk', rfl, hS', fun b o hb e => ?_⟩
        refine hm.heap b o ?_ (Heap.get?_push_of_some _ (Heap.get?_push_of_some _ e))
        simp only [List.mem_cons, List.not_mem_nil, or_false, not_or, Heap.size_push]
        exact ⟨Nat.ne_of_lt hb, Nat.ne_of_lt (Nat.lt_succ_of_lt hb)⟩
    · match r₂, hr₂ with
      | .error e, hr₂ => exact hr₂
      | .ok .next, hr₂ => exact hr₂.elim
      | .ok .brk, hr₂ => exact hr₂.elim
      | .ok .cont, hr₂ => exact hr₂.elim
      | .ok (.ret r), hr₂ =>
        obtain ⟨rfl, h', tk, rfl, hS', hk'⟩ := hr₂
        repeat (any_goals (first | assumption | wp_step))
        exact h _ _ hS' hk'
theorem walked_list {ob : Obj} {l : Addr} {items : Array Value} {n : Nat} (hc : ob.cls = .type "list") (hd : ob.data = .seq items n) : Walked prog w A "list" "list_iterator" ob l items where
  cls := hc
  s1 := PySem.F.sub_list_set
  s2 := PySem.F.sub_list_frozenset
  nd := by decide
  iter := fun A E s Q ho q => wpAny_pyIter_list ⟨ob, ho, hc, n, hd⟩ q
  walk := fun A hh it ne => ⟨_, Walks.list hh it l ne items, fun h h1 h2 => ⟨⟨_, h2, rfl, rfl⟩, ⟨ob, h1, hc, n, hd⟩⟩⟩
theorem walked_tup {ob : Obj} {l : Addr} {items : Array Value} {n : Nat} (hc : ob.cls = .type "tuple") (hd : ob.data = .seq items n) : Walked prog w A "tuple" "tuple_iterator" ob l items where
  cls := hc
  s1 := PySem.F.sub_tuple_set
  s2 := PySem.F.sub_tuple_frozenset
  nd := by decide
  iter := fun A E s Q ho q => wpAny_pyIter_tuple ⟨ob, ho, hc, n, hd⟩ q
  walk := fun A hh it ne => ⟨_, Walks.tuple hh it l ne items, fun h h1 h2 => ⟨⟨_, h2, rfl, rfl⟩, ⟨ob, h1, hc, n, hd⟩⟩⟩
end
section
variable {X : Cx}
/-- set(xs), xs a list or tuple of ints and texts -/
def rSetOf (K : PySem.W.Frag) (P : Program) (w : World) : List V → Hp → VK → Prop := fun xs H Q => ∃ (a : Addr) (ks : List Key), xs = [.ref a] ∧ (SqL K H a (ks.map kV) ∨ SqT K H a (ks.map kV)) ∧ ks.length < scanBound ∧
  ∀ p, H p = none → Q (.ref p) (upd H p (SetK P w p (fun k => ks.any (fun j => decide (j = k))) (cnt ks ks.length)))
theorem keys_at {P : Program} {w : World} {ks : List Key} {its : List Value} (r : Vals (ks.map kV) its) : ∀ (i : Nat) (v : Value), its.toArray[i]? = some v → (mixKind P w).is (ks.getD i (.inl 0)) v = true := fun i v e => by
  have e : its[i]? = some v := by simpa using e
  have hi : i < ks.length := by
    have h1 := (List.getElem?_eq_some_iff.mp e).1
    have h2 := r.length
    rw [List.length_map] at h2
    omega
  obtain ⟨u, e2, rv⟩ := r.get (i := i) (x := kV ks[i]) (by rw [List.getElem?_map, List.getElem?_eq_getElem hi]; rfl)
  rw [e] at e2
  cases e2
  rw [List.getD_eq_getElem?_getD, List.getElem?_eq_getElem hi]
  exact kV_is rv
theorem call_setOf (hc : X.calm = true) : CallR X (.type "set") (rSetOf X.K X.prog X.w) := by
  intro pins s σ H xs us Q I r h
  obtain ⟨a, ks, rfl, ha, hb, q⟩ := h
  obtain ⟨u, rfl, ru⟩ := vals1 r
  cases (show u = Value.ref a from ru)
  have hh := I.ok.hd hc
  have fin : ∀ (h' : Heap) (tk : Nat), h'.SetOf (mixKind X.prog X.w) s.heap.objs.size (fun k => ks.any (fun j => decide (j = k))) (cnt ks ks.length) →
      (∀ b o, b < s.heap.objs.size → s.heap.get? b = some o → h'.get? b = some o) → EP X pins σ Q (.ref s.heap.objs.size) { s with heap := h', toks := tk } := fun h' tk hS kp =>
    ⟨.ref _, _, I.laid (t' := tk) (fun b o e => kp b o (Heap.lt_size e) e) (Nat.le_refl _) (setK_new hS), rfl, q _ (I.hok.fresh (Nat.le_refl _))⟩
  rcases ha with ha | ha
  · obtain ⟨its, rv, pl, hz⟩ := I.list ha
    obtain ⟨ob, ho, hcl, n, hd⟩ := pl.isList
    have hl := rv.length
    rw [List.length_map] at hl
    exact set_call hh (walked_list hcl hd) ho (by rw [List.size_toArray]; exact hl) (by rw [List.size_toArray, ← hl]; exact hb) (keys_at rv) fin
  · obtain ⟨its, rv, ⟨ob, ho, hcl, n, hd⟩, hz⟩ := I.tuple ha
    have hl := rv.length
    rw [List.length_map] at hl
    exact set_call hh (walked_tup hcl hd) ho (by rw [List.size_toArray]; exact hl) (by rw [List.size_toArray, ← hl]; exact hb) (keys_at rv) fin
/-- len(s) -/
def rLenK (P : Program) (w : World) : List V → Hp → VK → Prop := fun xs H Q => ∃ (a : Addr) (S : Key → Bool) (n : Nat), xs = [.ref a] ∧ H a = some (SetK P w a S n) ∧ Q (.int n) H
theorem call_lenK : CallR X (.builtin "len") (rLenK X.prog X.w) := by
  intro pins s σ H xs us Q I r h
  obtain ⟨a, S, n, rfl, ha, q⟩ := h
  obtain ⟨u, rfl, ru⟩ := vals1 r
  cases (show u = Value.ref a from ru)
  obtain ⟨o, es, ep, t, ho, hex, hd, _, _, hb, hf, hn⟩ := setK_get I ha
  refine call_len_set ho hex hd hf (by unfold scanBound at hb; omega) ⟨.int n, H, I.tok _, ⟨_, by rw [hn]⟩, q⟩
end
end Ct

set_option Elab.async false
set_option linter.all false
set_option maxRecDepth 100000
set_option maxHeartbeats 4000000
/-! Own kit L: sorted of lists and tuples of texts, and of pairs of texts, any length. -/
namespace Ct
open PySem PySem.Spec PySem.Calls PyProof.Rows L2
section
variable {prog : Program} {w : World} {A : Around} {E : Value → Shared → Prop} {s : Shared}
theorem collect_tuple {l : Addr} {vs : List Value} {Q : List Value → Shared → Prop} (hl : s.heap.IsTuple l vs.toArray) (hz : vs.length ≤ sizeLine)
    (h : Q vs { s with heap := (s.heap.push (seqObj "list" #[] 0)).update s.heap.objs.size (Obj.mapSeq (· ++ vs.toArray)) }) : wpAny (model prog w) A (collect (.ref l)) Q E s := by
  obtain ⟨o, ho, hc, n, hd⟩ := id hl
  unfold collect
  refine wpAny_bind (wpAny_runValue (codeAny_builtin entry_proto_collect' ?_))
  show wpAny _ _ (do again (.builtin "list.__iadd__" ⟨[← newList [], .ref l], []⟩)) _ _ s
  refine wpAny_bind (wpAny_newList (wpAny_pure ⟨Code.quiet_builtin _ (by decide +kernel), codeAny_builtin entry_list_iadd' ?_⟩))
  show wpAny _ _ (Builtin.List.listExtendWith (.ref s.heap.objs.size) (.ref l) (.ref s.heap.objs.size)) _ _ { s with heap := s.heap.push (seqObj "list" #[] 0) }
  unfold Builtin.List.listExtendWith
  have ho' : (s.heap.push (seqObj "list" #[] 0)).get? l = some o := Heap.get?_push_of_some _ ho
  have hn := Heap.get?_push_size (h := s.heap) (o := seqObj "list" #[] 0) rfl
  refine wpAny_bind (wpAny_typeOf (T := "tuple") ⟨o, ho', hc⟩ ?_)
  rw [if_pos (by rw [show (Value.type "tuple" == Value.type "tuple") = true from rfl, Bool.or_true])]
  refine wpAny_bind (listItems_at ho' hd ?_)
  refine wpAny_bind (listItems_at (xs := #[]) (n := 0) hn rfl ?_)
  rw [if_neg (by simp)]
  refine wpAny_bind (listUpdate_at (xs := #[]) (n := 0) hn rfl ?_ (Nat.zero_le _) (by show (#[] ++ vs.toArray).size ≤ sizeLine + 1; simp only [Array.size_append, List.size_toArray, List.length_nil]; omega))
  refine wpAny_pure ?_
  show wpAny (model prog w) A (do
      let o ← load s.heap.objs.size
      match o.data with
      | .seq xs _ => pure xs.toList
      | _ => unsupported "internal:collect") Q E { s with heap := (s.heap.push (seqObj "list" #[] 0)).update s.heap.objs.size (Obj.mapSeq (· ++ vs.toArray)) }
  refine wpAny_bind (wpAny_load (get?_update_seq hn _) ?_)
  show wpAny _ _ (pure ((#[] : Array Value) ++ vs.toArray).toList) Q E _
  rw [show ((#[] : Array Value) ++ vs.toArray).toList = vs by simp]
  exact wpAny_pure h
variable {β : Type} {vs : List Value} {bs : List β} {enc : β → PyData} {R : Value → β → Prop}
/-- sorted(t), t a tuple -/
theorem sorted_tup {l : Addr} {Q : Value → Shared → Prop} (hl : s.heap.IsTuple l vs.toArray) (e : W.EachIs R vs bs) (er : W.EachIs (fun v b => ∃ as, Reads s.heap v (enc b) as) vs bs) (hal : W.AllAlike (bs.map enc)) (hk : W.Sortable (bs.map enc)) (hL : bs.length ≤ sizeLine)
    (hu : ∀ b, b ∈ bs → A.units + 2 + (enc b).depth < cLine) (h : ∀ out, out.length = bs.length → W.EachIs R out (bs.mergeSort (W.dataLe false enc)) → Q (.ref (s.heap.objs.size + 1)) { s with heap := sortedAll s.heap vs (List.toArray out) }) :
    wpAny (model prog w) A (call (.builtin "sorted") [.ref l]) Q E s := by
  have er' : W.EachIs (fun v b => ∃ as, Reads (W.sortingHeap (W.copyHeap s.heap vs) (s.heap.objs.size + 1) vs) v (enc b) as) vs bs := er.mono fun _ _ ⟨as, r⟩ => ⟨as, PyProof.Rows.Reads.keeps (fun _ _ => W.sorting_copy_old) r⟩
  have hL' : vs.length ≤ sizeLine := by rw [e.length]; exact hL
  refine call_function_entry_kw kind_sorted plain_sorted entry_sorted (args_sorted1 _) ?_
  unfold Builtin.«sorted»
  refine wpAny_bind (m := checkCount "sorted" 1 1 _) (wpAny_pure ?_)
  refine wpAny_bind (collect_tuple hl hL' ?_)
  refine wpAny_bind (wpAny_newList ?_ hL')
  have hsz : ((s.heap.push (seqObj "list" #[] 0)).update s.heap.objs.size (Obj.mapSeq (· ++ vs.toArray))).objs.size = s.heap.objs.size + 1 := by
    rw [Heap.size_update, size_push']
  show wpAny _ _ _ _ _ { s with heap := W.copyHeap s.heap vs }
  rw [hsz]
  refine wpAny_bind (wpAny_holding (wpAny_call_entry_kw slot_list_sort ⟨_, W.copyHeap_at s.heap vs, rfl⟩ entry_list_sort ?_ (args_list_sort _)))
  refine wpAny_mono (W.list_sort_vals (s := { s with heap := W.copyHeap s.heap vs }) (W.copyHeap_at s.heap vs) (W.SortsAt.data (s := { s with heap := W.sortingHeap (W.copyHeap s.heap vs) (s.heap.objs.size + 1) vs }) (W.each_map (R := fun v d => ∃ as, Reads (W.sortingHeap (W.copyHeap s.heap vs) (s.heap.objs.size + 1) vs) v d as) enc er') hal hk (W.bound_map hu)) hL'
    (P := fun f s' => f = .done (.ret .none) ∧ Q (.ref (s.heap.objs.size + 1)) s') ⟨rfl, h _ (by rw [W.sortVals_length false rfl]; exact e.length) (W.sortVals_data false e er' hal)⟩) (fun f s' hf => ?_) fun _ _ e => e
  obtain ⟨rfl, hq⟩ := hf
  exact ⟨_, rfl, wpAny_pure ⟨_, rfl, hq⟩⟩
end
section
variable {X : Cx}
/-- an item: the value, what it is as a datum -/
abbrev It2 := V × PyData
theorem each_vals {h : Heap} {K : PySem.W.Frag} : ∀ {bs : List It2} {us : List Value}, Vals (bs.map (·.1)) us → W.EachIs (fun v b => RelV b.1 v) us bs
  | [], _, .nil => .nil
  | _ :: _, _, .cons r t => .cons r (each_vals (h := h) (K := K) t)
theorem vals_each : ∀ {bs : List It2} {us : List Value}, W.EachIs (fun v b => RelV b.1 v) us bs → Vals (bs.map (·.1)) us
  | _, _, .nil => .nil
  | _, _, .cons r t => .cons r (vals_each t)
theorem each_reads {pins : List (Addr × Obj)} {σ : L2.St} {H : Hp} {s : Shared} (I : Inv X pins σ H s) : ∀ {bs : List It2} {us : List Value}, Vals (bs.map (·.1)) us → (∀ b ∈ bs, Dp X.K H b.1 b.2) → W.EachIs (fun v (b : It2) => ∃ as, Reads s.heap v b.2 as) us bs
  | [], _, .nil, _ => .nil
  | b :: _, _, .cons r t, h => .cons (Dp.reads I b.2 b.1 _ (h b List.mem_cons_self) r) (each_reads I t fun c hc => h c (List.mem_cons_of_mem _ hc))
/-- sorted(xs) -/
def rSortD (K : PySem.W.Frag) : List V → Hp → VK → Prop := fun xs H Q => ∃ (a : Addr) (bs : List It2), xs = [.ref a] ∧ (SqL K H a (bs.map (·.1)) ∨ SqT K H a (bs.map (·.1))) ∧ (∀ b ∈ bs, Dp K H b.1 b.2) ∧ W.AllAlike (bs.map (·.2)) ∧ W.Sortable (bs.map (·.2)) ∧ (∀ b ∈ bs, b.2.depth ≤ 50) ∧
  ∀ p, H p = none → Q (.ref p) (upd H p (.lst ((bs.mergeSort (W.dataLe false (·.2))).map (·.1))))
theorem call_sortD (hu : X.A.units + 64 < cLine) : CallR X (.builtin "sorted") (rSortD X.K) := by
  intro pins s σ H xs us Q I r h
  obtain ⟨a, bs, rfl, ha, hb, al, so, dp, q⟩ := h
  obtain ⟨u, rfl, ru⟩ := vals1 r
  cases (show u = Value.ref a from ru)
  have hu2 : ∀ b, b ∈ bs → X.A.units + 2 + b.2.depth < cLine := fun b m => by have := dp b m; omega
  have fin : ∀ (its : List Value), its.length ≤ sizeLine → ∀ out : List Value, out.length = bs.length → W.EachIs (fun v (b : It2) => RelV b.1 v) out (bs.mergeSort (W.dataLe false (·.2))) → bs.length ≤ sizeLine →
      EP X pins σ Q (.ref (s.heap.objs.size + 1)) { s with heap := sortedAll s.heap its (List.toArray out) } := fun its hz out hl eo hbl => by
    obtain ⟨ep, he⟩ := sortedAll_at s.heap its out.toArray
    refine ⟨.ref _, upd H (s.heap.objs.size + 1) (.lst ((bs.mergeSort (W.dataLe false (·.2))).map (·.1))), I.laid (t' := s.toks) (fun _ _ => sortedAll_old) (Nat.le_succ _) ⟨?_, out, ep, vals_each eo, he⟩, rfl, q _ (I.hok.fresh (Nat.le_succ _))⟩
    rw [List.length_map, List.length_mergeSort]
    exact hbl
  rcases ha with ha | ha
  · obtain ⟨its, rv, pl, hz⟩ := I.list ha
    have hl := rv.length
    rw [List.length_map] at hl hz
    exact W.sorted_data pl.isList (each_vals (h := s.heap) (K := X.K) rv) (each_reads I rv hb) al so hz hu2 fun out h1 h2 => fin its (by omega) out h1 h2 hz
  · obtain ⟨its, rv, pl, hz⟩ := I.tuple ha
    have hl := rv.length
    rw [List.length_map] at hl hz
    exact sorted_tup (show s.heap.IsTuple a its.toArray from pl) (each_vals (h := s.heap) (K := X.K) rv) (each_reads I rv hb) al so hz hu2 fun out h1 h2 => fin its (by omega) out h1 h2 hz
end
/-- texts -/
def txs (xs : List Str) : List It2 := xs.map fun x => (.str x, .str x)
theorem txs_fst (xs : List Str) : (txs xs).map (·.1) = xs.map V.str := by unfold txs; rw [List.map_map]; rfl
theorem txs_snd (xs : List Str) : (txs xs).map (·.2) = xs.map PyData.str := by unfold txs; rw [List.map_map]; rfl
theorem txs_ok (xs : List Str) : W.AllAlike ((txs xs).map (·.2)) ∧ W.Sortable ((txs xs).map (·.2)) := by
  rw [txs_snd]
  exact ⟨W.AllAlike.of fun _ _ => by simp [W.alike], W.Sortable.others fun b => ⟨by simp, by simp⟩⟩
/-- pairs of texts, each at its place -/
def prs (ps : List (Addr × Str × Str)) : List It2 := ps.map fun p => (.ref p.1, .tuple [.str p.2.1, .str p.2.2])
theorem prs_fst (ps : List (Addr × Str × Str)) : (prs ps).map (·.1) = ps.map fun p => V.ref p.1 := by unfold prs; rw [List.map_map]; rfl
theorem prs_ok (ps : List (Addr × Str × Str)) : W.AllAlike ((prs ps).map (·.2)) ∧ W.Sortable ((prs ps).map (·.2)) := by
  unfold prs
  rw [List.map_map]
  exact ⟨W.AllAlike.of (enc := fun p : Addr × Str × Str => PyData.tuple [.str p.2.1, .str p.2.2]) fun _ _ => by simp [W.alike, W.alikeAll], W.Sortable.tuples (enc := fun p : Addr × Str × Str => PyData.tuple [.str p.2.1, .str p.2.2]) fun b => ⟨_, _, rfl⟩⟩
end Ct

set_option Elab.async false
set_option linter.all false
set_option maxRecDepth 100000
set_option maxHeartbeats 4000000
/-! Own kit M: enumerate over a tuple; walks over a list or a tuple; a datum among texts; types of data. -/
namespace Ct
open PySem PySem.Spec PyProof.Rows L2
theorem meets_enumT (l : Addr) (items : Array Value) (n : Nat) (dct : Option Addr) (sl : Array (Option Value)) :
    Meets (Builtin.«enumerate.__new__» ⟨[.type "enumerate", .ref l], []⟩) (fun _ R s => s.heap.get? l = some { cls := .type "tuple", dict := dct, data := .seq items n, slots := sl } ∧
      R (.ok (.ret (.ref (s.heap.push { cls := .type "tuple_iterator", data := .fields #[.ref l, .int 0 0] }).objs.size)))
        { s with heap := (s.heap.push { cls := .type "tuple_iterator", data := .fields #[.ref l, .int 0 0] }).push { cls := .type "enumerate", data := .fields #[.none, .bool false, .ref s.heap.objs.size, rawInt 0, .none, .none] } }) :=
  .of_wp fun prog w A R s h => by
    obtain ⟨hp, g, d, tk, os⟩ := s; obtain ⟨hl, h⟩ := h
    have hsub := sub_enumerate
    have hL : Heap.IsTuple (Shared.heap ⟨hp, g, d, tk, os⟩) l items := ⟨_, hl, rfl, n, rfl⟩
    wp_walk using AutoSeq1.wpAny_loadPart' hl
    refine wpAny_stack_any fun st => wpAny_pure ?_
    split
    · rename_i c _ _ _ _ _
      cases (c == Value.type "enumerate")
      · wp_walk using AutoSeq1.wpAny_loadPart' hl, wpAny_pyIter_tuple hL
        exact ⟨_, rfl, h⟩
      · wp_walk using AutoSeq1.wpAny_loadPart' hl, wpAny_pyIter_tuple hL
        exact ⟨_, rfl, h⟩
    · wp_walk using AutoSeq1.wpAny_loadPart' hl, wpAny_pyIter_tuple hL
      exact ⟨_, rfl, h⟩
section
variable {prog : Program} {w : World} {A : Around} {E : Value → Shared → Prop} {s : Shared}
theorem call_enumT {l : Addr} {items : Array Value} {Q : Value → Shared → Prop} (hL : s.heap.IsTuple l items)
    (h : ∀ h', IsEnum h' (s.heap.objs.size + 1) s.heap.objs.size 0 .none → h'.IsTupleIter s.heap.objs.size l 0 →
      (∀ b o, s.heap.get? b = some o → h'.get? b = some o) → Q (.ref (s.heap.objs.size + 1)) { s with heap := h' }) :
    wpAny (model prog w) A (call (.type "enumerate") [.ref l]) Q E s := by
  obtain ⟨⟨c, dct, dt, sl⟩, hl, hc, n, hd⟩ := hL
  replace hc : c = .type "tuple" := hc
  replace hd : dt = .seq items n := hd
  subst hc hd
  refine callType_new F.called_enumerate (by decide) (F.typeCall_enumerate_1 _) (F.newCall_enumerate_1 _) (fun obj => F.args_object_init_2 obj _) F.entry_enumerate_new
    (meets_enumT l items n dct sl) ⟨hl, ?_⟩
  have hz : (s.heap.push { cls := .type "tuple_iterator", data := .fields #[.ref l, .int 0 0] }).objs.size = s.heap.objs.size + 1 := Heap.size_push ..
  show _ ∧ _
  rw [hz]
  have he : IsEnum ((s.heap.push { cls := .type "tuple_iterator", data := .fields #[.ref l, .int 0 0] }).push
      { cls := .type "enumerate", data := .fields #[.none, .bool false, .ref s.heap.objs.size, rawInt 0, .none, .none] }) (s.heap.objs.size + 1) s.heap.objs.size 0 .none := by
    have := Heap.get?_push_size (s.heap.push { cls := .type "tuple_iterator", data := .fields #[.ref l, .int 0 0] })
      (o := { cls := .type "enumerate", data := .fields #[.none, .bool false, .ref s.heap.objs.size, rawInt 0, .none, .none] }) rfl
    rw [hz] at this; exact this
  exact ⟨⟨_, he, rfl⟩, h _ he ⟨_, Heap.get?_push_of_some _ (Heap.get?_push_size _ rfl), rfl, rfl⟩ fun b o x => Heap.get?_push_of_some _ (Heap.get?_push_of_some _ x)⟩
end
/-- the tuple at a, each item in a new pair with its number -/
def Iet (K : PySem.W.Frag) (a : Addr) : It :=
  ⟨fun i H => ∃ (xs : List V) (x : V), SqT K H a xs ∧ xs[i]? = some x, fun i H v H' => ∃ T x, v = .ref T ∧ H T = none ∧ H' = upd H T (.tup [.int (i : Nat), x]) ∧ ∀ xs, SqT K H a xs → xs[i]? = some x, fun i H => ∃ xs : List V, SqT K H a xs ∧ xs.length ≤ i⟩
theorem turn_enumT {P : Program} {w : World} {K : PySem.W.Frag} {elts : List Expr} {kk : Nat} {tpos : Pos} (a e it : Addr) :
    Turn P w K (.Tuple elts kk tpos) (Iet K a) [e, it] e (fun i h => (∃ old, IsEnum h e it ((i : Nat) : Int) old) ∧ h.IsTupleIter it a i ∧ e ≠ it) where
  mem := by simp
  obj := fun i h st b hb => by
    obtain ⟨⟨old, he⟩, ⟨o, ho, hc, hd⟩, _⟩ := st
    rcases (show b = e ∨ b = it by simpa using hb) with rfl | rfl
    · exact ⟨_, he, fun v q => nomatch q⟩
    · exact ⟨o, ho, fun v q => by rw [hd] at q; cases q⟩
  keep := fun i h h' st k => let ⟨⟨old, he⟩, hi, hne⟩ := st; ⟨⟨old, k e (by simp) _ he⟩, hi.at fun o q => k it (by simp) o q, hne⟩
  item := by
    intro X hP hw hK hc i pins s σ H E I hf st hg
    subst hP hw hK
    obtain ⟨⟨old, he⟩, hit, hne⟩ := st
    obtain ⟨xs, x, hq, hx⟩ := hg
    obtain ⟨its, rv, p, hz⟩ := I.tuple hq
    obtain ⟨u, hu, ru⟩ := rv.get hx
    have p : s.heap.IsTuple a its.toArray := p
    have hel : e < s.heap.objs.size := Heap.lt_size he
    have hil : it < s.heap.objs.size := by obtain ⟨_, q, _⟩ := hit; exact Heap.lt_size q
    have ait : a ≠ it := by
      rintro rfl
      obtain ⟨o1, h1, h2, _⟩ := p
      obtain ⟨o2, h3, h4, _⟩ := hit
      rw [h1] at h3
      cases h3
      rw [h2] at h4
      exact absurd h4 (by decide)
    have ae : e ≠ a := by
      rintro rfl
      obtain ⟨o1, h1, h2, _⟩ := p
      have he' := he
      unfold IsEnum at he'
      rw [h1] at he'
      cases he'
      exact absurd (show Value.type "enumerate" = Value.type "tuple" from h2) (by decide)
    have hlt : i < its.toArray.size := by
      have := (List.getElem?_eq_some_iff.mp hu).1
      simpa using this
    refine wpAny_pyNext_enum_itemD (PySem.Draws.tuple (by simpa using I.ok.hd hc) it a ait its.toArray) he ⟨hit, p⟩ hlt hne (by simp [hne, ae]) fun x2 h' tk hx2 ho hst' hT hsz hk => ?_
    have ex2 : x2 = u := by
      have z : its[i]? = some x2 := by simpa using hx2
      rw [hu] at z
      exact (Option.some.inj z).symm
    subst ex2
    refine ⟨_, rfl, wpAny_letOwnedTupleGo_enum (s := { s with heap := h', toks := tk + 1 }) ho fun h'' he' sb => ?_⟩
    have hT2 : h''.get? s.heap.objs.size = some { cls := .type "tuple", data := .seq #[.int i tk, x2] } := (sb.2 _ (Nat.ne_of_gt hel)).trans hT
    have new : ObjOk X.prog X.w (upd H s.heap.objs.size (.tup [.int (i : Nat), x])) h'' s.heap.objs.size (.tup [.int (i : Nat), x]) :=
      ⟨by show 2 ≤ sizeLine; decide, [.int i tk, x2], .cons ⟨_, rfl⟩ (.cons ru .nil), ⟨_, hT2, rfl, _, rfl⟩⟩
    have I1 : Inv X pins σ (upd H s.heap.objs.size (.tup [.int (i : Nat), x])) { s with heap := h'', toks := tk + 1 } :=
      I.turnedNew (ch := [e, it]) (fun b ob hb q => (sb.2 b (fun z => hb (by simp [z]))).trans (hk b ob (fun z => hb (by simp [z])) (fun z => hb (by simp [z])) q)) hf (Nat.le_refl _) new
    refine ⟨.ref s.heap.objs.size, _, I1, rfl, ⟨_, x, rfl, I.hok.fresh (Nat.le_refl _), rfl, fun ys hy => by rw [I.tuple_inj hy hq]; exact hx⟩, ⟨⟨x2, ?_⟩, hst'.1.at fun o q => (sb.2 it (Ne.symm hne)).trans q, hne⟩, fun b hb => ?_⟩
    · have e1 : ((i + 1 : Nat) : Int) = (i : Int) + 1 := by omega
      rw [e1]; exact he'
    · have hb' : b < s.heap.objs.size := by
        rcases (show b = e ∨ b = it by simpa using hb) with z | z
        · rw [z]; exact hel
        · rw [z]; exact hil
      rw [upd_ne (Nat.ne_of_lt hb')]
      exact (hf b hb).1
  done := by
    intro X hP hw hK hc i pins s σ H E I hf st hg
    subst hP hw hK
    obtain ⟨⟨old, he⟩, hit, hne⟩ := st
    obtain ⟨xs, hq, hx⟩ := hg
    obtain ⟨its, rv, p, hz⟩ := I.tuple hq
    have p : s.heap.IsTuple a its.toArray := p
    obtain ⟨f0, f1, f2, f3, f4, f5⟩ := hf it (by simp)
    have hl := rv.length
    have hnone : its.toArray[i]? = none := by simp; omega
    unfold pyNext
    refine wpAny_bind (wpAny_attempt (wpAny_callSpecial?_slot (name := Str.ofString "__next__") ⟨_, he, rfl⟩ F.slot_enumerate_next
      (wpAny_call_entry F.slot_enumerate_next ⟨_, he, rfl⟩ F.entry_enumerate_next ?_ (F.args_enumerate_next_1 _))))
    show wpAny _ _ (field (.ref e) 2 >>= _) _ _ _
    refine wpAny_bind (wpAny_field he rfl (x := .ref it) rfl ?_)
    refine wpAny_bind (PySem.wpAny_nextOf_tuple_end (by simpa using I.ok.hd hc) hit p hnone fun h' x he' hx' => ?_)
    obtain ⟨o, ho, hcc⟩ := hx'
    refine wpAny_bind (wpAny_isInstance (T := "StopIteration") (b := true) ⟨o, ho, hcc⟩ isSubtype_stop ?_)
    exact wpAny_pure ⟨rfl, I.turned (t' := s.toks) (fun b o hb q => he' b o hb q) f0 f1 f3 f4 f5⟩
  self := fun A i s Q E st h => let ⟨⟨_, he⟩, _⟩ := st; wpAny_pyIter_enum he h
section
variable {X : Cx}
/-- enumerate of a list or of a tuple -/
def iEnumS (K : PySem.W.Frag) (ta : TA) : TI := fun σ H R => ta σ H fun vs H1 => ∃ a xs, vs = [.ref a] ∧ ((SqL K H1 a xs ∧ R (Ite K a) H1) ∨ (SqT K H1 a xs ∧ R (Iet K a) H1))
theorem pi_enumS {e : Expr} {ta : TA} {p pos tpos : Pos} {elts : List Expr} {kk : Nat} (hg : Gl X "enumerate") (hm : X.mg "enumerate" = none) (ha : PA X [e] ta) (hs : starEach [e] X.env = [(false, eval e X.env)] := by rfl) :
    PI X (.Tuple elts kk tpos) (.Call (.Name "enumerate" p) [e] [] pos) (iEnumS X.K ta) := by
  refine ⟨fun pins s σ H R I h => ?_⟩
  refine Call_ (ld_blt I hg hm boot_enumerate (PyProof.Rows.callWith_type1 (thn (ha.run pos pins s σ H _ I h) fun us s1 ⟨vs, H1, I1, r1, q1⟩ => ?_) hs rfl))
  obtain ⟨a, xs, ex, hq⟩ := q1
  subst ex
  obtain ⟨u, rfl, ru⟩ := vals1 r1
  cases (show u = Value.ref a from ru)
  have feet : ∀ b ∈ [s1.heap.objs.size + 1, s1.heap.objs.size], FpOk X pins H1 b := fun b hb => by
    have hle : s1.heap.objs.size ≤ b := by
      rcases (show b = s1.heap.objs.size + 1 ∨ b = s1.heap.objs.size by simpa using hb) with z | z
      · rw [z]; exact Nat.le_add_right _ _
      · rw [z]; exact Nat.le_refl _
    exact I1.fpOk hle (I1.hok.fresh hle)
  rcases hq with ⟨hq, q⟩ | ⟨hq, q⟩
  · obtain ⟨its, rv, p', hz⟩ := I1.list hq
    refine call_enumerate_list p'.isList fun h' he hit hsz hk => wpAny_pyIter_enum he ?_
    exact ⟨s1.heap.objs.size + 1, [s1.heap.objs.size + 1, s1.heap.objs.size], _, _, H1, rfl, I1.kept (t' := s1.toks) hk, turn_enum a (s1.heap.objs.size + 1) s1.heap.objs.size, ⟨⟨.none, he⟩, hit, Nat.succ_ne_self _⟩, feet, q⟩
  · obtain ⟨its, rv, p', hz⟩ := I1.tuple hq
    refine call_enumT (show s1.heap.IsTuple a its.toArray from p') fun h' he hit hk => wpAny_pyIter_enum he ?_
    exact ⟨s1.heap.objs.size + 1, [s1.heap.objs.size + 1, s1.heap.objs.size], _, _, H1, rfl, I1.kept (t' := s1.toks) hk, turn_enumT a (s1.heap.objs.size + 1) s1.heap.objs.size, ⟨⟨.none, he⟩, hit, Nat.succ_ne_self _⟩, feet, q⟩
/-- a walk over a list or a tuple -/
def iSeq (K : PySem.W.Frag) (tl : TE) : TI := fun σ H R => iList K tl σ H R ∨ iTup K tl σ H R
theorem pi_seq {tg l : Expr} {tl : TE} (hl : PE X l tl) : PI X tg l (iSeq X.K tl) :=
  ⟨fun pins s σ H R I h => h.elim ((pi_list hl).run pins s σ H R I) ((pi_tup hl).run pins s σ H R I)⟩
end
open L2 in
theorem walk_enumT {K : PySem.W.Frag} {a : Addr} {xs : List V} : Walk (Iet K a) xs.length (fun H => SqT K H a xs) (YPair (fun i => some (.int (i : Nat))) (fun i => xs[i]?)) :=
  ⟨fun i _ hi q => ⟨xs, xs[i], q, by simp [hi]⟩, fun _ q => ⟨xs, q, Nat.le_refl _⟩, fun i H v H' hi q y => by
    obtain ⟨T, x, rfl, hT, rfl, hx⟩ := y
    exact ⟨T, _, x, rfl, hT, rfl, rfl, hx xs q⟩⟩
end Ct

set_option Elab.async false
set_option linter.all false
set_option maxRecDepth 100000
set_option maxHeartbeats 4000000
/-! Own kit N: a datum among texts; isinstance of data; lists or tuples alike. -/
namespace Ct
open PySem PySem.Spec PyProof.Rows L2
/-- a list or a tuple -/
def SqS (K : PySem.W.Frag) (H : Hp) (a : Addr) (xs : List V) : Prop := SqL K H a xs ∨ SqT K H a xs
theorem SqS.same {K : PySem.W.Frag} {H H' : Hp} {a : Addr} {xs : List V} (s : Same H H') : SqS K H a xs → SqS K H' a xs
  | .inl h => .inl (s.seq h)
  | .inr h => .inr (same_t s h)
theorem units65 {k : Nat} {A : Around} (r : Room k A) : A.units + 65 < cLine := by have := r.un; omega
/-- the datum is one of the texts -/
def amid (d : PyData) (ns : List Str) : Bool := match d with
  | .str x => ns.any fun y => y == x
  | _ => false
theorem amid_str {x : Str} {ns : List Str} : amid (.str x) ns = true ↔ x ∈ ns := by
  unfold amid
  rw [List.any_eq_true]
  exact ⟨fun ⟨y, hy, e⟩ => (eq_of_beq e) ▸ hy, fun h => ⟨x, h, beq_self_eq_true x⟩⟩
section
variable {X : Cx} {pins : List (Addr × Obj)} {σ : L2.St} {H : Hp} {s : Shared}
/-- the items' answers -/
def amU (d : PyData) (u : Value) : Bool := match d, u with
  | .str x, .str y _ => y == x
  | _, _ => false
theorem amU_any (d : PyData) : ∀ {ns : List Str} {us : List Value}, Vals (ns.map V.str) us → us.any (amU d) = amid d ns
  | [], _, .nil => by cases d <;> rfl
  | n :: ns, u :: us, .cons r t => by
    obtain ⟨k, rfl⟩ := r
    rw [List.any_cons, amU_any d t]
    cases d <;> rfl
theorem amU_eq {A : Around} {K : PySem.W.Frag} (I : Inv X pins σ H s) (hu : A.units < cLine) {x : V} {v : Value} {d : PyData} (r : RelV x v) (h : Dp X.K H x d) : ∀ {ns : List Str} {us : List Value}, Vals (ns.map V.str) us → ∀ u ∈ us, SeqAt.EqAt A s u v (amU d u)
  | [], _, .nil => fun u hu => by cases hu
  | n :: ns, w :: us, .cons r0 t => fun u m => by
    rcases List.mem_cons.mp m with rfl | m
    · obtain ⟨k, rfl⟩ := r0
      cases h with
      | non => cases r; exact SeqAt.EqAt.str_none n k
      | bl b => cases r; exact SeqAt.EqAt.str_bool n k b
      | int i => obtain ⟨t2, rfl⟩ := r; exact SeqAt.EqAt.str_int n k i t2
      | str y => obtain ⟨t2, rfl⟩ := r; exact SeqAt.EqAt.str_str n k y t2
      | lst hs _ =>
        cases r
        obtain ⟨its, rv, pl, _⟩ := I.list hs
        exact SeqAt.EqAt.str_list n k pl.isList hu
      | tup hs _ =>
        cases r
        obtain ⟨its, rv, pl, _⟩ := I.tuple hs
        exact SeqAt.EqAt.str_tuple n k (show s.heap.IsTuple _ its.toArray from pl) hu
    · exact amU_eq (K := K) I hu r h t u m
/-- x in names, x a datum -/
def rAmid (K : PySem.W.Frag) (neg : Bool) : R2 := fun x y H Q => ∃ (d : PyData) (a : Addr) (ns : List Str), y = .ref a ∧ SqS K H a (ns.map V.str) ∧ Dp K H x d ∧ Q (.bl (if neg then !amid d ns else amid d ns)) H
theorem or_amid (hu : X.A.units + 64 < cLine) : OpR X (compareOp .In) (rAmid X.K false) := by
  intro pins s σ H x y v u Q I rx ry h
  obtain ⟨d, a, ns, rfl, ha, hd, q⟩ := h
  cases (show u = Value.ref a from ry)
  have hu1 : X.A.in1.units < cLine := by show X.A.units + 1 < _; omega
  rw [if_neg (by decide)] at q
  rcases ha with ha | ha
  · obtain ⟨its, rv, pl, hz⟩ := I.list ha
    refine SeqAt.in_listAt (amU d) pl.isList (fun w hw => amU_eq (K := X.K) I hu1 rx hd rv w (by simpa using hw)) ⟨.bl _, H, I, rfl, ?_⟩
    rw [show its.toArray.any (amU d) = its.any (amU d) by simp, amU_any d rv]
    exact q
  · obtain ⟨its, rv, pl, hz⟩ := I.tuple ha
    refine SeqAt.in_tupleAt (amU d) pl (fun w hw => amU_eq (K := X.K) I hu1 rx hd rv w (by simpa using hw)) ⟨.bl _, H, I, rfl, ?_⟩
    rw [show its.toArray.any (amU d) = its.any (amU d) by simp, amU_any d rv]
    exact q
theorem or_namid (hu : X.A.units + 64 < cLine) : OpR X (compareOp .NotIn) (rAmid X.K true) := by
  intro pins s σ H x y v u Q I rx ry h
  obtain ⟨d, a, ns, rfl, ha, hd, q⟩ := h
  cases (show u = Value.ref a from ry)
  have hu1 : X.A.in1.units < cLine := by show X.A.units + 1 < _; omega
  rw [if_pos rfl] at q
  rcases ha with ha | ha
  · obtain ⟨its, rv, pl, hz⟩ := I.list ha
    refine SeqAt.notIn_listAt (amU d) pl.isList (fun w hw => amU_eq (K := X.K) I hu1 rx hd rv w (by simpa using hw)) ⟨.bl _, H, I, rfl, ?_⟩
    rw [show its.toArray.any (amU d) = its.any (amU d) by simp, amU_any d rv]
    exact q
  · obtain ⟨its, rv, pl, hz⟩ := I.tuple ha
    refine SeqAt.notIn_tupleAt (amU d) pl (fun w hw => amU_eq (K := X.K) I hu1 rx hd rv w (by simpa using hw)) ⟨.bl _, H, I, rfl, ?_⟩
    rw [show its.toArray.any (amU d) = its.any (amU d) by simp, amU_any d rv]
    exact q
/-- the name of a datum's type -/
def dty : PyData → String
  | .none => "NoneType"
  | .bool _ => "bool"
  | .int _ => "int"
  | .str _ => "str"
  | .list _ => "list"
  | .tuple _ => "tuple"
  | .dict _ => "dict"
theorem kit_dq (I : Inv X pins σ H s) {v : V} {u : Value} {d : PyData} (r : RelV v u) (h : Dq X.K H v d) : ∃ P : Heap → Prop, PySem.W.KitX X.K u (.type (dty d)) P ∧ P s.heap ∧ u ≠ .builtin "__main__.__loader__#opaque" := by
  cases h with
  | non => cases r; exact ⟨_, PySem.W.kitx_none, True.intro, fun z => nomatch z⟩
  | bl b => cases r; exact ⟨_, PySem.W.kitx_bool, True.intro, fun z => nomatch z⟩
  | int i => obtain ⟨t, rfl⟩ := r; exact ⟨_, PySem.W.kitx_int, True.intro, fun z => nomatch z⟩
  | str x => obtain ⟨t, rfl⟩ := r; exact ⟨_, PySem.W.kitx_str, True.intro, fun z => nomatch z⟩
  | lst hs ha =>
    cases r
    obtain ⟨its, rv, pl, _⟩ := I.list hs
    obtain ⟨o, ho, hc, _⟩ := pl.isList
    exact ⟨_, PySem.W.kitx_list, ⟨o, ho, hc⟩, fun z => nomatch z⟩
  | tup hs ha =>
    cases r
    obtain ⟨its, rv, ⟨o, ho, hc, _⟩, _⟩ := I.tuple hs
    exact ⟨_, PySem.W.kitx_tuple, ⟨o, ho, hc⟩, fun z => nomatch z⟩
  | dic hs hk hv ha =>
    cases r
    obtain ⟨_, hy, vs, rkv, o, es, ep, ho, hx, hd, _⟩ := hs.ok I.hok
    exact ⟨_, PySem.W.kitx_dict, ⟨o, ho, hx.1⟩, fun z => nomatch z⟩
  | dicT hs hk hv ha =>
    cases r
    obtain ⟨_, hy, xs, rp, o, es, ep, ho, hx, hd, he, _⟩ := hs.ok I.hok
    exact ⟨_, PySem.W.kitx_dict, ⟨o, ho, hx.1⟩, fun z => nomatch z⟩
/-- isinstance(x, T), x a datum -/
def rIsD (K : PySem.W.Frag) : List V → Hp → VK → Prop := fun xs H Q => ∃ (x : V) (d : PyData) (T : String) (b : Bool), xs = [x, .ty T] ∧ Dq K H x d ∧ kitB (dty d) T = some b ∧ Q (.bl b) H
theorem call_isD : CallR X (.builtin "isinstance") (rIsD X.K) := by
  intro pins s σ H xs us Q I r h
  obtain ⟨x, d, T, b, rfl, hd, e, q⟩ := h
  obtain ⟨u1, u2, rfl, r1, r2⟩ := vals2 r
  cases (show u2 = Value.type T from r2)
  obtain ⟨P, Z, p, hx⟩ := kit_dq I r1 hd
  exact PySem.W.kia_one Z I.kIn p (kit_ty e) hx fun tk => ⟨.bl b, H, I.tok tk, rfl, q⟩
/-- isinstance(x, (list, tuple)), x a datum, the tuple just laid -/
def rIsDT (K : PySem.W.Frag) : List V → Hp → VK → Prop := fun xs H Q => ∃ (x : V) (tp : Addr) (d : PyData) (T1 T2 : String) (b1 b2 : Bool), xs = [x, .ref tp] ∧ H tp = some (.tup [.ty T1, .ty T2]) ∧ Dq K H x d ∧ kitB (dty d) T1 = some b1 ∧ kitB (dty d) T2 = some b2 ∧ Q (.bl (b1 || b2)) H
theorem call_isDT : CallR X (.builtin "isinstance") (rIsDT X.K) := by
  intro pins s σ H xs us Q I r h
  obtain ⟨x, tp, d, T1, T2, b1, b2, rfl, hT, hd, e1, e2, q⟩ := h
  obtain ⟨u1, u2, rfl, r1, r2⟩ := vals2 r
  cases (show u2 = Value.ref tp from r2)
  obtain ⟨P, Z, p, hx⟩ := kit_dq I r1 hd
  obtain ⟨_, its, rv, o, h1, h2, n, h3⟩ := (show ObjOk X.prog X.w H s.heap tp (.tup [.ty T1, .ty T2]) from I.hok tp _ hT)
  have e3 := ClsV.all (.cons (.ty T1) (.cons (.ty T2) .nil)) rv
  subst e3
  obtain ⟨oc, od, dt, sl⟩ := o
  simp only at h2 h3
  subst h2 h3
  refine PySem.W.kia_tup Z I.kIn p h1 (b := b1 || b2) ?_ hx fun tk => ⟨.bl (b1 || b2), H, I.tok tk, rfl, q⟩
  exact kitAny_cons (kit_ty e1) (fun z => by
    subst z
    exact kitAny_cons (kit_ty e2) (fun z => by subst z; exact kitAny_nil) (fun z => by rw [z]; rfl)) (fun z => by rw [z]; rfl)
end
theorem kit_str (d : PyData) : kitB (dty d) "str" = some (match d with | .str _ => true | _ => false) := by cases d <;> (show kitB _ "str" = _; dsimp only [dty]; decide +kernel)
theorem kit_list (d : PyData) : kitB (dty d) "list" = some (match d with | .list _ => true | _ => false) := by cases d <;> (show kitB _ "list" = _; dsimp only [dty]; decide +kernel)
theorem kit_tuple (d : PyData) : kitB (dty d) "tuple" = some (match d with | .tuple _ => true | _ => false) := by cases d <;> (show kitB _ "tuple" = _; dsimp only [dty]; decide +kernel)
end Ct

set_option Elab.async false
set_option linter.all false
set_option maxRecDepth 100000
set_option maxHeartbeats 4000000
/-! Own kit O: defs that raise, by bundle; own errors raised; objects made where something may be raised. -/
namespace Ct
open PySem PySem.Spec PyProof.Rows L2
/-- a def that may raise and keeps a promise -/
def HasR (P : Program) (w : World) (K : PySem.W.Frag) (mg : Str → Option Value) (base : Heap) (k : Nat) (nm : Str) (ps : List Str) (sp : Sp) : Prop :=
  ∃ f fd, mg nm = some (.ref f) ∧ PySem.W.keepIn K (.ref f) = true ∧ Binds K fd ps [] ∧ FnOk P w K mg base (L2.CX P w) k f fd ps sp
section
variable {P : Program} {w : World} {K : PySem.W.Frag} {mg : Str → Option Value} {base : Heap} {k : Nat} {nm : Str} {ps : List Str} {sp : Sp} {st : Stmt}
theorem hasR_of {N : List Str} (D : DFE K mg nm st ps) (S : FnScope N ps (defScope st)) (len : ∀ vs H Q E, sp vs H Q E → vs.length = ps.length)
    (body : ∀ (f : Addr) (cdv : Value) (A : Around) (outer : List Env) (s : Shared) (H : Hp) (vs : List V) (Q : VK) (E : XK), Room k (A.deeper (envOfC nm (defScope st) s.heap.objs.size f cdv)) → sp vs H Q E →
      ∃ t, PSs (cxOf (L2.CX P w) P w K mg base N nm (defScope st) f cdv A outer s H E) (defBody st) t ∧ t { nx := fun _ H' => Q .non H', rt := Q } (start N vs) H) : HasR P w K mg base (k + 1) nm ps sp := by
  obtain ⟨f, fd, F, g, b⟩ := D
  exact ⟨f, fd, g, F.kp, b, F.okX S len (body f)⟩
theorem HasR.mono {j : Nat} (h : HasR P w K mg base j nm ps sp) (l : j ≤ k) : HasR P w K mg base k nm ps sp := by
  obtain ⟨f, fd, g, kp, b, F⟩ := h
  exact ⟨f, fd, g, kp, b, F.mono l⟩
end
section
variable {X : Cx} {k j : Nat} {nm : Str} {ps : List Str} {sp : Sp} {e : Expr} {es : List Expr} {t : TA} {p pos : Pos} {W : WX}
/-- f(e, ..), what it raises is taken by W -/
theorem pe_hR (h : HasR X.prog X.w X.K X.mg X.base j nm ps sp) (tk : Takes X W) (hr : Room k X.A) (l : j ≤ k) (hg : Gl X nm) (ha : PA X (e :: es) t) (hdb : (nm == ("__debug__" : Str)) = false := by decide)
    (he : starEach (e :: es) X.env = (false, eval e X.env) :: starEach es X.env := by rfl) (hpl : (backTo pos (starEach es X.env)).any (·.1) = false := by rfl) : PE X (.Call (.Name nm p) (e :: es) [] pos) (tCallS sp (WE W) t) := by
  obtain ⟨f, fd, g, kp, b, F⟩ := h
  exact pe_callS F (hr.mono l) hg g kp b (fun σ => passAt tk σ) ha hdb he hpl
/-- f(e, ..), nothing raised -/
theorem pe_hR0 (h : HasR X.prog X.w X.K X.mg X.base j nm ps sp) (hr : Room k X.A) (l : j ≤ k) (hg : Gl X nm) (ha : PA X (e :: es) t) (hdb : (nm == ("__debug__" : Str)) = false := by decide)
    (he : starEach (e :: es) X.env = (false, eval e X.env) :: starEach es X.env := by rfl) (hpl : (backTo pos (starEach es X.env)).any (·.1) = false := by rfl) : PE X (.Call (.Name nm p) (e :: es) [] pos) (tCall sp [] E0 t) := by
  obtain ⟨f, fd, g, kp, b, F⟩ := h
  exact pe_call F (hr.mono l) hg g kp b .nil passL ha hdb he hpl
end
/-- an own error's class: what its __init__ promises, how it binds -/
def HasE (P : Program) (w : World) (K : PySem.W.Frag) (mg : Str → Option Value) (base : Heap) (k : Nat) (x : Str) (C : Addr) (f : Str) : Prop :=
  mg x = some (.ref C) ∧ ∃ fI fd, XCls K C fI ∧ FnOk P w K mg base CX0 k fI fd ["self", f] (spXI C f) ∧ Binds K fd ["self", f] []
/-- C(e) to be raised -/
def tRx (C : Addr) (f : Str) (te : TE) : L2.St → Hp → XK → Prop := fun σ H Q => te σ H fun v H1 => ∀ d, H1 d = none → Q (.ref C) (some d) (upd H1 d (.xd [(f, v)]))
section
variable {X : Cx} {k j : Nat} {x f : Str} {C : Addr} {p pos : Pos} {e : Expr} {te : TE}
theorem del_mkH {H : Hp} {a d : Addr} {v : V} (ha : H a = none) : upd (del (mkH H a d C f v) a) d (.xd [(f, v)]) = upd H d (.xd [(f, v)]) := by
  funext b
  by_cases hb : b = d
  · rw [hb, upd_same, upd_same]
  · rw [upd_ne hb, upd_ne hb]
    by_cases hba : b = a
    · rw [hba, del_same, ha]
    · rw [del_ne hba]
      unfold mkH
      rw [upd_ne hba, upd_ne hb]
/-- a reading with what follows made weaker -/
def tMono (te : TE) : TE := fun σ H Q => ∃ Q0 : VK, te σ H Q0 ∧ ∀ v H1, Q0 v H1 → Q v H1
theorem pe_mono (he : PE X e te) : PE X e (tMono te) := ⟨fun pins s σ H Q I ⟨Q0, h, m⟩ => thn (he.run pins s σ H Q0 I h) fun u s1 ⟨v, H1, I1, r, q⟩ => ⟨v, H1, I1, r, m v H1 q⟩⟩
theorem pmk_x (h : HasE X.prog X.w X.K X.mg X.base j x C f) (hr : Room k X.A) (l : j + 1 ≤ k) (hg : Gl X x) (he : PE X e te) (hdb : (x == ("__debug__" : Str)) = false := by decide)
    (hs : starEach [e] X.env = (false, eval e X.env) :: starEach [] X.env := by rfl) (hpl : (backTo pos (starEach [] X.env)).any (·.1) = false := by rfl)
    (hs2 : starEach [e] X.env = [(false, eval e X.env)] := by rfl) : PMk X (.Call (.Name x p) [e] [] pos) (tRx C f te) := by
  obtain ⟨hm, fI, fd, T, F, b⟩ := h
  intro pins s σ H Q I q
  refine pmk_oex T.ox T.iC T.tI F (hr.mono l) b .nil (fun _ _ _ _ _ _ _ z => z.elim) hg hm (pa_cons (pe_mono he) pa_nil hs) hdb hs hpl pins s σ H Q I ?_
  refine ⟨_, q, fun v H1 z => ⟨by show 1 ≤ 1000; decide, fun a ha => ⟨a, v, rfl, upd_same, fun d hd hne => ⟨rfl, d, [(f, v)], ?_, ?_, ?_, ?_⟩⟩⟩⟩
  · rw [mkH_new]; exact upd_same
  · rw [mkH_new]; unfold mkH; rw [upd_ne hne]; exact upd_same
  · rw [upd_ne hne] at hd; exact hd
  · rw [mkH_new, del_mkH ha]
    rw [upd_ne hne] at hd
    exact z d hd
end
/-- C(..) where what is raised is told at the slots -/
def tMakeS (C : Addr) (sp : Sp) (dvs : List V) (E : L2.St → XK) (t : TA) : TE := fun σ H Q => t σ H fun vs H1 => ∀ x dx, H1 x = none → H1 dx = none → dx ≠ x →
  sp (.ref x :: (vs ++ dvs)) (upd (upd H1 dx (.own x)) x (.ins C dx [])) (fun v H2 => v = .non ∧ Q (.ref x) H2) (E σ)
section
variable {X : Cx} {CX : CXT} {k : Nat} {f C : Addr} {fd : FuncData} {ps : List Str} {sp : Sp} {dvs : List V} {ds : List Value} {E : L2.St → XK} {x : Str} {p pos : Pos} {e : Expr} {es : List Expr} {t : TA}
theorem pe_makeS (M : Mk X.K C f) (F : FnOk X.prog X.w X.K X.mg X.base CX k f fd ps sp) (hr : Room (k + 1) X.A) (hg : Gl X x) (hm : X.mg x = some (.ref C)) (hb : Binds X.K fd ps ds) (hd : Vals dvs ds)
    (hx : ∀ (pins : List (Addr × Obj)) (σ : L2.St) (H : Hp) (s : Shared) (e : Value) (s' : Shared), Inv X pins σ H s → CX X.stack H s (E σ) e s' → X.xe e s')
    (ha : PA X (e :: es) t) (hdb : (x == ("__debug__" : Str)) = false := by decide) (he : starEach (e :: es) X.env = (false, eval e X.env) :: starEach es X.env := by rfl) (hpl : (backTo pos (starEach es X.env)).any (·.1) = false := by rfl) :
    PE X (.Call (.Name x p) (e :: es) [] pos) (tMakeS C sp dvs E t) := by
  refine ⟨fun pins s σ H Q I h => ?_⟩
  refine wpAny_Call_Name_kw (ld_glob I hg hm ?_ hdb)
  refine PySem.W.callWith_K (h₀ := X.base) I.ok.mod.kin M.kp (thn (ha.run pos pins s σ H _ I h) fun us s1 ⟨vs, H1, I1, r, q⟩ => ⟨I1.kIn, ?_⟩) he hpl
  have hq := q (s1.heap.objs.size + 1) s1.heap.objs.size (I1.hok.fresh (Nat.le_succ _)) (I1.hok.fresh (Nat.le_refl _)) (Nat.ne_of_lt (Nat.lt_succ_self _))
  have I2 := Inv.made (C := C) I1
  have r2 : Vals (V.ref (s1.heap.objs.size + 1) :: (vs ++ dvs)) (Value.ref (s1.heap.objs.size + 1) :: (us ++ ds)) := .cons rfl (r.append hd)
  have hl : (Value.ref (s1.heap.objs.size + 1) :: us ++ ds).length = ps.length := by
    have e := r2.length
    rw [F.len _ _ _ _ hq] at e
    exact e.symm
  refine wpAny_call (make_map (f := f) I1.kIn M.makes M.init (beq_iff_eq.mp M.fn) (codeAny_mono (F.run _ X.stack _ _ ⟨Value.ref (s1.heap.objs.size + 1) :: us, []⟩ (Value.ref (s1.heap.objs.size + 1) :: (us ++ ds)) _ _ (E σ) (hr.make C us [])
    (I2.env0.make C us []) (hb _ (Value.ref (s1.heap.objs.size + 1) :: us) I2.kIn hl) r2 hq) fun r s' hq' => ?_))
  match r, hq' with
  | .error e, hq' => exact hx pins σ _ _ e s' I2 hq'
  | .ok .next, hq' => exact False.elim hq'
  | .ok .brk, hq' => exact False.elim hq'
  | .ok .cont, hq' => exact False.elim hq'
  | .ok (.ret u), hq' =>
    obtain ⟨v, H', I3, rv, ev, q3⟩ := I2.after hq'
    subst ev
    exact ⟨rv, ⟨V.ref (s1.heap.objs.size + 1), H', I3, rfl, q3⟩⟩
end
end Ct

set_option Elab.async false
set_option linter.all false
set_option maxRecDepth 100000
set_option maxHeartbeats 4000000
/-! Own kit P: one reading for a walk over a list or a tuple. -/
namespace Ct
open PySem PySem.Spec PyProof.Rows L2
/-- the list or the tuple at a stands on -/
def SqKeep (K : PySem.W.Frag) (a : Addr) (xs : List V) (H H' : Hp) : Prop := (SqL K H a xs → SqL K H' a xs) ∧ (SqT K H a xs → SqT K H' a xs)
theorem SqKeep.same {K : PySem.W.Frag} {a : Addr} {xs : List V} {H H' : Hp} (s : Same H H') : SqKeep K a xs H H' := ⟨fun h => s.seq h, fun h => same_t s h⟩
theorem SqKeep.sqs {K : PySem.W.Frag} {a : Addr} {xs : List V} {H H' : Hp} (k : SqKeep K a xs H H') : SqS K H a xs → SqS K H' a xs
  | .inl h => .inl (k.1 h)
  | .inr h => .inr (k.2 h)
theorem SqKeep.of {K : PySem.W.Frag} {a : Addr} {xs : List V} {H H1 H' : Hp} (h : SqS K H a xs) (s1 : Same H H1) (s2 : Same H H') (ex : SqL K H1 a xs → SqT K H1 a xs → False) : SqKeep K a xs H1 H' := by
  rcases h with h | h
  · exact ⟨fun _ => s2.seq h, fun z => (ex (s1.seq h) z).elim⟩
  · exact ⟨fun z => (ex z (same_t s1 h)).elim, fun _ => same_t s2 h⟩
theorem seq_excl {X : Cx} {pins : List (Addr × Obj)} {σ : L2.St} {H : Hp} {s : Shared} {a : Addr} {xs : List V} (I : Inv X pins σ H s) (h1 : SqL X.K H a xs) (h2 : SqT X.K H a xs) : False := by
  obtain ⟨its, rv, p, _⟩ := I.list h1
  obtain ⟨o, ho, hc, _⟩ := p.isList
  obtain ⟨its2, rv2, ⟨o2, ho2, hc2, _⟩, _⟩ := I.tuple h2
  rw [ho] at ho2
  cases ho2
  rw [hc] at hc2
  exact absurd hc2 (by decide)
def iSq (K : PySem.W.Frag) (tl : TE) : TI := fun σ H R => tl σ H fun v H1 => ∃ a xs, v = .ref a ∧ SqS K H1 a xs ∧ ∀ (J : It) (G : Hp → Prop), (SqL K H1 a xs → SqT K H1 a xs → False) → (∀ H', SqKeep K a xs H1 H' → G H') → Walk J xs.length G (YAt xs) → R J H1
section
variable {X : Cx}
theorem pi_sq {tg l : Expr} {tl : TE} (hl : PE X l tl) : PI X tg l (iSq X.K tl) := by
  refine ⟨fun pins s σ H R I h => ?_⟩
  refine thn (hl.run pins s σ H _ I h) fun v s1 ⟨x, H1, I1, r1, a, xs, e, hq, q⟩ => ?_
  subst e
  cases r1
  have foot : ∀ b ∈ [s1.heap.objs.size], FpOk X pins H1 b := fun b hb => by
    have e : b = s1.heap.objs.size := by simpa using hb
    subst e
    exact I1.fpOk (Nat.le_refl _) (I1.hok.fresh (Nat.le_refl _))
  rcases hq with hq | hq
  · obtain ⟨its, rv, p, hz⟩ := I1.list hq
    refine wpAny_pyIter_list p.isList ?_
    exact ⟨s1.heap.objs.size, [s1.heap.objs.size], _, _, H1, rfl, I1.kept (t' := s1.toks) fun b o e => Heap.get?_push_of_some _ e, turn_list a _, ⟨_, Heap.get?_push_size _ rfl, rfl, rfl⟩, foot, q _ _ (seq_excl I1) (fun H' k => k.1 hq) walk_list⟩
  · obtain ⟨its, rv, p, hz⟩ := I1.tuple hq
    refine wpAny_pyIter_tuple (show s1.heap.IsTuple a its.toArray from p) ?_
    exact ⟨s1.heap.objs.size, [s1.heap.objs.size], _, _, H1, rfl, I1.kept (t' := s1.toks) fun b o e => Heap.get?_push_of_some _ e, turn_tuple a _, ⟨_, Heap.get?_push_size _ rfl, rfl, rfl⟩, foot, q _ _ (seq_excl I1) (fun H' k => k.2 hq) walk_tup⟩
/-- enumerate, one reading for a list and a tuple -/
def iEnumQ (K : PySem.W.Frag) (ta : TA) : TI := fun σ H R => ta σ H fun vs H1 => ∃ a xs, vs = [.ref a] ∧ SqS K H1 a xs ∧ ∀ (J : It) (G : Hp → Prop), (SqL K H1 a xs → SqT K H1 a xs → False) → (∀ H', SqKeep K a xs H1 H' → G H') → Walk J xs.length G (YPair (fun i => some (.int (i : Nat))) (fun i => xs[i]?)) → R J H1
theorem pi_enumQ {e : Expr} {ta : TA} {p pos tpos : Pos} {elts : List Expr} {kk : Nat} (hg : Gl X "enumerate") (hm : X.mg "enumerate" = none) (ha : PA X [e] ta) (hs : starEach [e] X.env = [(false, eval e X.env)] := by rfl) :
    PI X (.Tuple elts kk tpos) (.Call (.Name "enumerate" p) [e] [] pos) (iEnumQ X.K ta) := by
  refine ⟨fun pins s σ H R I h => ?_⟩
  refine Call_ (ld_blt I hg hm boot_enumerate (PyProof.Rows.callWith_type1 (thn (ha.run pos pins s σ H _ I h) fun us s1 ⟨vs, H1, I1, r1, a, xs, e, hq, q⟩ => ?_) hs rfl))
  subst e
  obtain ⟨u, rfl, ru⟩ := vals1 r1
  cases (show u = Value.ref a from ru)
  have feet : ∀ b ∈ [s1.heap.objs.size + 1, s1.heap.objs.size], FpOk X pins H1 b := fun b hb => by
    have hle : s1.heap.objs.size ≤ b := by
      rcases (show b = s1.heap.objs.size + 1 ∨ b = s1.heap.objs.size by simpa using hb) with z | z
      · rw [z]; exact Nat.le_add_right _ _
      · rw [z]; exact Nat.le_refl _
    exact I1.fpOk hle (I1.hok.fresh hle)
  rcases hq with hq | hq
  · obtain ⟨its, rv, p', hz⟩ := I1.list hq
    refine call_enumerate_list p'.isList fun h' he hit hsz hk => wpAny_pyIter_enum he ?_
    exact ⟨s1.heap.objs.size + 1, [s1.heap.objs.size + 1, s1.heap.objs.size], _, _, H1, rfl, I1.kept (t' := s1.toks) hk, turn_enum a (s1.heap.objs.size + 1) s1.heap.objs.size, ⟨⟨.none, he⟩, hit, Nat.succ_ne_self _⟩, feet, q _ _ (seq_excl I1) (fun H' k => k.1 hq) walk_enum⟩
  · obtain ⟨its, rv, p', hz⟩ := I1.tuple hq
    refine call_enumT (show s1.heap.IsTuple a its.toArray from p') fun h' he hit hk => wpAny_pyIter_enum he ?_
    exact ⟨s1.heap.objs.size + 1, [s1.heap.objs.size + 1, s1.heap.objs.size], _, _, H1, rfl, I1.kept (t' := s1.toks) hk, turn_enumT a (s1.heap.objs.size + 1) s1.heap.objs.size, ⟨⟨.none, he⟩, hit, Nat.succ_ne_self _⟩, feet, q _ _ (seq_excl I1) (fun H' k => k.2 hq) walk_enumT⟩
end
end Ct

set_option Elab.async false
set_option linter.all false
set_option maxRecDepth 100000
set_option maxHeartbeats 4000000
/-! Own kit Q: set comprehensions by a walk. -/
namespace Ct
open PySem PySem.Spec PyProof.Rows L2 PpSet
theorem ksc_it {K : PySem.W.Frag} {P : Program} {w : World} {J : It} {n : Nat} {G : Hp → Prop} {Y : Nat → Hp → V → Hp → Prop} (wk : Walk J n G Y) {g : TG} {te : TE} {vs : List Nat} {σ : L2.St} {H1 : Hp} {D : Addr} {Qd : Hp → Prop} (Pv : Nat → Hp → Prop)
    (h0 : Pv 0 (upd H1 D (KSetO P w D []))) (hG : ∀ i H, i ≤ n → Pv i H → G H)
    (hs : ∀ i x H H', i < n → Pv i H → Y i H x H' → g x (wipe σ vs) H' fun σ2 H2 => wipe σ2 vs = wipe σ vs ∧ te σ2 H2 fun y H4 => ∃ b, y = .ref b ∧ rKAdd K P w D b H4 (Pv (i + 1))) (hd : ∀ H, Pv n H → Qd H) :
    ∃ W : Nat → Nat → Hp → Prop, (∃ m, W 0 m (upd H1 D (KSetO P w D []))) ∧ ∀ i m H, W i m H →
      (J.stop i H ∧ Qd H) ∨ (J.go i H ∧ ∃ Nx : Hp → Prop, (∀ H', Nx H' → ∃ m', m' < m ∧ W (i + 1) m' H') ∧ ∀ x H', J.yld i H x H' → g x (wipe σ vs) H' fun σ2 H2 => wipe σ2 vs = wipe σ vs ∧
        te σ2 H2 fun y H4 => ∃ b, y = .ref b ∧ rKAdd K P w D b H4 Nx) := by
  refine ⟨fun i m H => m = n - i ∧ i ≤ n ∧ Pv i H, ⟨n, by simp, Nat.zero_le _, h0⟩, ?_⟩
  rintro i m H ⟨rfl, hi, p⟩
  have q := hG i H hi p
  rcases Nat.lt_or_ge i n with lt | ge
  · exact .inr ⟨wk.goes i H lt q, Pv (i + 1), fun H' p' => ⟨n - (i + 1), by omega, rfl, lt, p'⟩, fun x H' y => hs i x H H' lt p (wk.yields i H x H' lt q y)⟩
  · obtain rfl : i = n := Nat.le_antisymm hi ge
    exact .inl ⟨wk.stops H q, hd H p⟩
/-- a set that has got one key more -/
theorem kadd_in {K : PySem.W.Frag} {P : Program} {w : World} {D b : Addr} {H : Hp} {L : List Mem} {k : List Key} {Q : Hp → Prop} (hD : H D = some (KSetO P w D L)) (hm : Mems K H L) (hb : SqT K H b (k.map kV)) (hl : L.length + 1 < 77)
    (q : ∀ L' H', H' D = some (KSetO P w D L') → (∀ c, c ≠ D → H' c = H c) → (∀ j, j ∈ L'.map (·.2) ↔ j = k ∨ j ∈ L.map (·.2)) → (∀ p ∈ L', p = (b, k) ∨ p ∈ L) → L'.length ≤ L.length + 1 → Q H') : rKAdd K P w D b H Q := by
  refine ⟨L, k, hD, hm, hb, hl, fun z => ?_, fun z L' pm => ?_⟩
  · exact q L H hD (fun _ _ => rfl) (fun j => ⟨.inr, fun h => h.elim (fun e => e ▸ z) id⟩) (fun p hp => .inr hp) (Nat.le_succ _)
  · refine q L' _ upd_same (fun c hc => upd_ne hc) (fun j => ?_) (fun p hp => ?_) (Nat.le_of_eq pm.length_eq)
    · have := (pm.map (·.2)).mem_iff (a := j)
      rw [this, List.map_cons, List.mem_cons]
    · have := pm.mem_iff.mp hp
      rcases List.mem_cons.mp this with e | e
      · exact .inl e
      · exact .inr e
end Ct

set_option Elab.async false
set_option linter.all false
set_option maxRecDepth 100000
set_option maxHeartbeats 4000000
/-! Own kit R: dict comprehensions stored, and by a walk. -/
namespace Ct
open PySem PySem.Spec PyProof.Rows L2
section
variable {X : Cx}
/-- y = {k: v for x in xs} -/
theorem ps_setDc {i : Nat} {y : PySem.Str} {py : Pos} {kx vx tg iter : Expr} {ifs : List Expr} {scope : Scope} {own : List (PySem.Str × Nat)} {pos spos : Pos} {wi : TI} {g : TG} {tt : TT} {tk tv : TE} (hc : X.calm = true) (hN : X.N.Nodup) (hy : X.N[i]? = some y) (hyl : X.env.scope.names.lookup y = some .local)
    (hsw : swapsWith (.DictComp kx vx [⟨tg, iter, ifs, 0⟩] scope pos) (some (.Name y py)) spos.line X.env = pure true) (hi : PI X tg iter wi) (ok : BlkOk X.N X.env.scope scope own)
    (hg : ∀ (s : Shared) (H : Hp) (C : Addr) (cl : List (PySem.Str × Addr)) (fp : List Addr), PG (X.blk s H scope (compEnvC scope cl C X.env) fp) tg g) (ht : ∀ (s : Shared) (H : Hp) (C : Addr) (cl : List (PySem.Str × Addr)) (fp : List Addr), PTs (X.blk s H scope (compEnvC scope cl C X.env) fp) ifs tt)
    (hk : ∀ (s : Shared) (H : Hp) (C : Addr) (cl : List (PySem.Str × Addr)) (fp : List Addr), PE (X.blk s H scope (compEnvC scope cl C X.env) fp) kx tk)
    (he : ∀ (s : Shared) (H : Hp) (C : Addr) (cl : List (PySem.Str × Addr)) (fp : List Addr), PE (X.blk s H scope (compEnvC scope cl C X.env) fp) vx tv) (hs : ∀ x, foldedSetIterable iter X.env x = pure x := by intro _; rfl) :
    PS X (.Assign [.Name y py] (.DictComp kx vx [⟨tg, iter, ifs, 0⟩] scope pos) spos) (tAsg (tDc wi g tt tk tv (own.map (·.2))) (gName i)) := by
  refine ⟨fun pins s σ H D I h => ?_⟩
  rw [exec_Assign_Name_used _ _ _ _ hsw]
  refine wpAny_bind (wpAny_standAt (wpAny_bind ?_))
  show wpAny _ X.A (do let _ ← comprehension (.DictComp kx vx [⟨tg, iter, ifs, 0⟩] scope pos) scope X.env (firstIterPos [⟨tg, iter, ifs, 0⟩] pos) newDict false (eval iter X.env) (some (assign (.Name y py) X.env))) _ _ s
  have q : tDc wi g tt tk tv (own.map (·.2)) σ H (fun x H1 => gName i x σ H1 D.nx) := h
  refine wpAny_bind (thn (dc_core (Qf := fun _ s' => SP X pins D .next s') hc hN I hi ok hg ht hk he hs q fun L C s' m H' I' q hn f => ?_) fun _ s' hq => wpAny_pure (wpAny_pure hq))
  show wpAny _ _ (assign (.Name y py) X.env (.ref L)) _ _ _
  refine wpAny_assign_Name (store_ok2 (v := V.ref L) I' hN hy (.inl hyl) rfl (fun s2 I2 ⟨a, sb, ha⟩ => ?_) (.inr hyl))
  obtain ⟨f0, f1, f2, f3, f4, f5⟩ := f
  have ne : C ≠ a := ha.elim (fun z => z ▸ f1) (fun z e => f4 y a z e.symm)
  exact ⟨m, hn.sameBut sb ne, fun h3 sb3 => ⟨_, H', I2.turned (t' := s2.toks) (fun b o hb e => (sb3.2 b hb).trans e) f0 f1 f3 f4 f5, q⟩⟩
theorem sw_setd {kx vx : Expr} {gs : List Comprehension} {scope : Scope} {pos py : Pos} {y : PySem.Str} {l : Nat} {env : Env} (hk : env.scope.kind = .function) (hy : env.scope.names.lookup y = some .local) (hl : (py.line == pos.line) = true)
    (ha : (scope.names.any fun (n, k) => n == y && (k == .local || k == .cell)) = false) : swapsWith (.DictComp kx vx gs scope pos) (some (.Name y py)) l env = pure true := by
  have ky : env.kindOf y = some .local := hy
  have hb : env.blockKind = .function := by unfold Env.blockKind; rw [hk]; rfl
  unfold swapsWith
  simp only [hb, ky, ha, Expr.pos, hl]
  rfl
end
theorem dc_it {J : It} {n : Nat} {G : Hp → Prop} {Y : Nat → Hp → V → Hp → Prop} (wk : Walk J n G Y) {g : TG} {tt : TT} {tk tv : TE} {vs : List Nat} {σ : L2.St} {H1 : Hp} {D : Addr} {Qd : Hp → Prop} (Pv : Nat → Hp → Prop) (h0 : Pv 0 (upd H1 D (.dK []))) (hG : ∀ i H, i ≤ n → Pv i H → G H)
    (hs : ∀ i x H H', i < n → Pv i H → Y i H x H' → g x (wipe σ vs) H' fun σ2 H2 => wipe σ2 vs = wipe σ vs ∧ tt σ2 H2 fun b H3 =>
      if b = true then tk σ2 H3 fun y H4 => tv σ2 H4 fun z H5 => ∃ kvs k, y = kV k ∧ H5 D = some (.dK kvs) ∧ kvs.length < sizeLine ∧ Pv (i + 1) (upd H5 D (.dK (putK kvs k z))) else Pv (i + 1) H3) (hd : ∀ H, Pv n H → Qd H) :
    ∃ W : Nat → Nat → Hp → Prop, (∃ m, W 0 m (upd H1 D (.dK []))) ∧ ∀ i m H, W i m H →
      (J.stop i H ∧ Qd H) ∨ (J.go i H ∧ ∃ Nx : Hp → Prop, (∀ H', Nx H' → ∃ m', m' < m ∧ W (i + 1) m' H') ∧ ∀ x H', J.yld i H x H' → g x (wipe σ vs) H' fun σ2 H2 => wipe σ2 vs = wipe σ vs ∧ tt σ2 H2 fun b H3 =>
        if b = true then tk σ2 H3 fun y H4 => tv σ2 H4 fun z H5 => ∃ kvs k, y = kV k ∧ H5 D = some (.dK kvs) ∧ kvs.length < sizeLine ∧ Nx (upd H5 D (.dK (putK kvs k z))) else Nx H3) := by
  refine ⟨fun i m H => m = n - i ∧ i ≤ n ∧ Pv i H, ⟨n, by simp, Nat.zero_le _, h0⟩, ?_⟩
  rintro i m H ⟨rfl, hi, p⟩
  have q := hG i H hi p
  rcases Nat.lt_or_ge i n with lt | ge
  · exact .inr ⟨wk.goes i H lt q, Pv (i + 1), fun H' p' => ⟨n - (i + 1), by omega, rfl, lt, p'⟩, fun x H' y => hs i x H H' lt p (wk.yields i H x H' lt q y)⟩
  · obtain rfl : i = n := Nat.le_antisymm hi ge
    exact .inl ⟨wk.stops H q, hd H p⟩
/-! the written part named: for what stands within a comprehension -/
section
variable {X : Cx} {K : PySem.W.Frag}
theorem pi_sqk (hK : X.K = K) {tg l : Expr} {tl : TE} (hl : PE X l tl) : PI X tg l (iSq K tl) := by
  subst hK
  exact pi_sq hl
theorem op_in_seqk (hK : X.K = K) : OpR X (compareOp .In) (rIn K false) := by
  subst hK
  exact op_in_seq
theorem op_notIn_seqk (hK : X.K = K) : OpR X (compareOp .NotIn) (rIn K true) := by
  subst hK
  exact op_notIn_seq
theorem or_amidk (hK : X.K = K) (hu : X.A.units + 64 < cLine) : OpR X (compareOp .In) (rAmid K false) := by
  subst hK
  exact or_amid hu
theorem or_namidk (hK : X.K = K) (hu : X.A.units + 64 < cLine) : OpR X (compareOp .NotIn) (rAmid K true) := by
  subst hK
  exact or_namid hu
theorem call_isDk (hK : X.K = K) : CallR X (.builtin "isinstance") (rIsD K) := by
  subst hK
  exact call_isD
end
end Ct

set_option Elab.async false
set_option linter.all false
set_option maxRecDepth 100000
set_option maxHeartbeats 2000000
/-! Own kit S: what stands, as one list (Lv); a tactic that answers a reading as far as it is plain. -/
namespace Ct
open PySem PySem.Spec PyProof.Rows L2
theorem at_while {c : TT} {b u : TS} {D : Ends} {σ : L2.St} {H : Hp} (h : tSeq (tWhile c b) u D σ H) : tSeq (tWhile c b) u D σ H := h
theorem at_while1 {c : TT} {b : TS} {D : Ends} {σ : L2.St} {H : Hp} (h : tWhile c b D σ H) : tWhile c b D σ H := h
theorem erase_perm {α : Type} : ∀ {xs : List α} {i : Nat} (h : i < xs.length), (xs[i] :: xs.eraseIdx i).Perm xs
  | x :: xs, 0, _ => .refl _
  | x :: xs, i + 1, h => (List.Perm.swap _ _ _).trans (List.Perm.cons x (erase_perm (Nat.lt_of_succ_lt_succ h)))
theorem map_same {α : Type} {f : α → α} : ∀ {l : List α}, (∀ y ∈ l, f y = y) → l.map f = l
  | [], _ => rfl
  | y :: l, h => by rw [List.map_cons, h y List.mem_cons_self, map_same fun z hz => h z (List.mem_cons_of_mem _ hz)]
/-- a row of the same things in another sequence -/
theorem perm_inv {α β : Type} {f : α → β} (g : β → α) (hg : ∀ x, g (f x) = x) {ys : List β} {xs : List α} (h : ys.Perm (xs.map f)) : ∃ zs : List α, zs.Perm xs ∧ ys = zs.map f := by
  refine ⟨ys.map g, ?_, ?_⟩
  · have := h.map g
    rwa [List.map_map, show g ∘ f = id from funext hg, List.map_id] at this
  · rw [List.map_map]
    refine (map_same fun y hy => ?_).symm
    obtain ⟨x, _, rfl⟩ := List.mem_map.mp (h.mem_iff.mp hy)
    exact congrArg f (hg x)
def strOf : V → Str
  | .str x => x
  | _ => Str.empty
theorem strs_perm {ys : List V} {xs : List Str} (h : ys.Perm (xs.map V.str)) : ∃ zs : List Str, zs.Perm xs ∧ ys = zs.map V.str := perm_inv strOf (fun _ => rfl) h
theorem paired_perm {α β : Type} {R : α → β → Prop} {ys xs : List α} (h : ys.Perm xs) : ∀ {ts : List β}, Paired R xs ts → ∃ us, us.Perm ts ∧ Paired R ys us := by
  induction h with
  | nil => intro ts p; exact ⟨ts, .refl _, p⟩
  | cons x _ ih =>
    intro ts p
    cases p with
    | cons a b =>
      obtain ⟨us, h1, h2⟩ := ih b
      exact ⟨_ :: us, h1.cons _, .cons a h2⟩
  | swap x y l =>
    intro ts p
    cases p with
    | cons a b =>
      cases b with
      | cons b c => exact ⟨_, .swap _ _ _, .cons b (.cons a c)⟩
  | trans _ _ ih1 ih2 =>
    intro ts p
    obtain ⟨us, h1, h2⟩ := ih2 p
    obtain ⟨vs, h3, h4⟩ := ih1 h2
    exact ⟨vs, h3.trans h1, h4⟩
theorem nodup_set {α : Type} : ∀ {l : List α} {i : Nat} {x : α}, l.Nodup → x ∉ l → (l.set i x).Nodup
  | [], _, _, _, _ => List.nodup_nil
  | y :: l, 0, x, h, n => by
    rw [List.set_cons_zero]
    exact List.nodup_cons.mpr ⟨fun z => n (List.mem_cons_of_mem _ z), (List.nodup_cons.mp h).2⟩
  | y :: l, i + 1, x, h, n => by
    rw [List.set_cons_succ]
    refine List.nodup_cons.mpr ⟨fun z => ?_, nodup_set (List.nodup_cons.mp h).2 fun z => n (List.mem_cons_of_mem _ z)⟩
    rcases List.mem_or_eq_of_mem_set z with z | z
    · exact (List.nodup_cons.mp h).1 z
    · exact n (z ▸ List.mem_cons_self)
theorem in_strs (l : List Str) (q : Str) : inV (.str q) (l.map V.str) = decide (q ∈ l) := by
  rw [Bool.eq_iff_iff, decide_eq_true_eq]
  unfold inV
  rw [List.any_map, List.any_eq_true]
  exact ⟨fun ⟨y, hy, e⟩ => (eq_of_beq (show (y == q) = true from e)) ▸ hy, fun h => ⟨q, h, beq_self_eq_true q⟩⟩
/-- a row cut behind the first n -/
theorem cut_take (xs : List V) (n : Nat) : cutV xs none (some (n : Int)) = xs.take n := by
  unfold cutV
  rw [HT.sIx_none, HT.sIx_nat, List.drop_zero, Nat.sub_zero]
  exact (List.take_eq_take_min).symm
/-- a shield: what is within is not looked at -/
structure Hold (p : Prop) : Prop where
  out : p
/-- a test that changes nothing: both ways apart, whatever it leans on -/
theorem ifs_any {c : TT} {a b : TS} {D : Ends} {σ : L2.St} {H : Hp} (R : Bool → Prop) (hc : ∀ Q : Bool → Hp → Prop, (∀ x, R x → Q x H) → c σ H Q) (h1 : R true → a D σ H) (h2 : R false → b D σ H) : tIfS c a b D σ H := by
  refine hc _ fun x hx => ?_
  cases x with
  | true => exact iteT (h1 hx)
  | false => exact iteF (h2 hx)
theorem sz0 : ([] : List V).length ≤ sizeLine := by rw [sizeLine_eq]; simp only [List.length_cons, List.length_nil]; decide
theorem sz1 {a0 : V} : ([a0] : List V).length ≤ sizeLine := by rw [sizeLine_eq]; simp only [List.length_cons, List.length_nil]; decide
theorem sz2 {a0 a1 : V} : ([a0, a1] : List V).length ≤ sizeLine := by rw [sizeLine_eq]; simp only [List.length_cons, List.length_nil]; decide
theorem sz3 {a0 a1 a2 : V} : ([a0, a1, a2] : List V).length ≤ sizeLine := by rw [sizeLine_eq]; simp only [List.length_cons, List.length_nil]; decide
theorem sz4 {a0 a1 a2 a3 : V} : ([a0, a1, a2, a3] : List V).length ≤ sizeLine := by rw [sizeLine_eq]; simp only [List.length_cons, List.length_nil]; decide
theorem sz5 {a0 a1 a2 a3 a4 : V} : ([a0, a1, a2, a3, a4] : List V).length ≤ sizeLine := by rw [sizeLine_eq]; simp only [List.length_cons, List.length_nil]; decide
theorem sz6 {a0 a1 a2 a3 a4 a5 : V} : ([a0, a1, a2, a3, a4, a5] : List V).length ≤ sizeLine := by rw [sizeLine_eq]; simp only [List.length_cons, List.length_nil]; decide
theorem sz7 {a0 a1 a2 a3 a4 a5 a6 : V} : ([a0, a1, a2, a3, a4, a5, a6] : List V).length ≤ sizeLine := by rw [sizeLine_eq]; simp only [List.length_cons, List.length_nil]; decide
theorem sz8 {a0 a1 a2 a3 a4 a5 a6 a7 : V} : ([a0, a1, a2, a3, a4, a5, a6, a7] : List V).length ≤ sizeLine := by rw [sizeLine_eq]; simp only [List.length_cons, List.length_nil]; decide
theorem sz10 {a0 a1 a2 a3 a4 a5 a6 a7 a8 a9 : V} : ([a0, a1, a2, a3, a4, a5, a6, a7, a8, a9] : List V).length ≤ sizeLine := by rw [sizeLine_eq]; simp only [List.length_cons, List.length_nil]; decide
theorem sz11 {a0 a1 a2 a3 a4 a5 a6 a7 a8 a9 a10 : V} : ([a0, a1, a2, a3, a4, a5, a6, a7, a8, a9, a10] : List V).length ≤ sizeLine := by rw [sizeLine_eq]; simp only [List.length_cons, List.length_nil]; decide
theorem sz12 {a0 a1 a2 a3 a4 a5 a6 a7 a8 a9 a10 a11 : V} : ([a0, a1, a2, a3, a4, a5, a6, a7, a8, a9, a10, a11] : List V).length ≤ sizeLine := by rw [sizeLine_eq]; simp only [List.length_cons, List.length_nil]; decide
theorem sz14 {a0 a1 a2 a3 a4 a5 a6 a7 a8 a9 a10 a11 a12 a13 : V} : ([a0, a1, a2, a3, a4, a5, a6, a7, a8, a9, a10, a11, a12, a13] : List V).length ≤ sizeLine := by rw [sizeLine_eq]; simp only [List.length_cons, List.length_nil]; decide
theorem nodup_inj {α β : Type} {f : α → β} (inj : ∀ x y, f x = f y → x = y) {l : List α} (h : l.Nodup) : (l.map f).Nodup := List.pairwise_map.mpr (h.imp fun n e => n (inj _ _ e))
theorem nodup_len {α : Type} [DecidableEq α] : ∀ {r ns : List α}, r.Nodup → (∀ q ∈ r, q ∈ ns) → r.length ≤ ns.length
  | [], _, _, _ => Nat.zero_le _
  | x :: r, ns, h, s => by
    obtain ⟨n, h⟩ := List.nodup_cons.mp h
    have h1 := nodup_len (ns := ns.erase x) h fun q hq => (List.mem_erase_of_ne (fun z => n (by rw [← z]; exact hq))).mpr (s q (List.mem_cons_of_mem _ hq))
    have h2 := List.length_erase_of_mem (s x List.mem_cons_self)
    have h3 := List.length_pos_of_mem (s x List.mem_cons_self)
    rw [List.length_cons]
    omega
theorem idx_inj {ns : List Str} (nd : ns.Nodup) {i j : Nat} {x : Str} (h1 : ns[i]? = some x) (h2 : ns[j]? = some x) : i = j :=
  (List.getElem?_inj (List.getElem?_eq_some_iff.mp h1).1 nd).mp (h1.trans h2.symm)
/-- a test, both ways apart, told by what holds behind it -/
theorem ifs_to {c : TT} {a b : TS} {D : Ends} {σ : L2.St} {H : Hp} (R : Bool → Hp → Prop) (hc : ∀ Q : Bool → Hp → Prop, (∀ x H', R x H' → Q x H') → c σ H Q) (h1 : ∀ H', R true H' → a D σ H') (h2 : ∀ H', R false H' → b D σ H') : tIfS c a b D σ H := by
  refine hc _ fun x H' hx => ?_
  cases x with
  | true => exact iteT (h1 H' hx)
  | false => exact iteF (h2 H' hx)
def updX (H : Hp) (a : Addr) (o : HO) : Hp := upd H a o
theorem upd_mark {H : Hp} {a : Addr} {o : HO} : upd H a o = updX H a o := rfl
/-- a while by an invariant and a measure -/
theorem while_n {c : TT} {tb : TS} {D : Ends} {σ : L2.St} {H : Hp} (Pv : L2.St → Hp → Prop) (μ : L2.St → Hp → Nat) (h0 : Pv σ H)
    (hs : ∀ σ H, Pv σ H → c σ H fun b H1 => if b = true then ∃ N : L2.St → Hp → Prop, (∀ σ' H', N σ' H' → ∃ m', m' < μ σ H ∧ (m' = μ σ' H' ∧ Pv σ' H')) ∧ tb { D with nx := N, ct := N, bk := D.nx } σ H1 else D.nx σ H1) : tWhile c tb D σ H := by
  refine ⟨fun m σ H => m = μ σ H ∧ Pv σ H, ⟨_, rfl, h0⟩, ?_⟩
  rintro m σ H ⟨rfl, p⟩
  exact hs σ H p
theorem while_nx {Pv : L2.St → Hp → Prop} {μ : L2.St → Hp → Nat} {m : Nat} : ∀ σ' H', (Pv σ' H' ∧ μ σ' H' < m) → ∃ m', m' < m ∧ (m' = μ σ' H' ∧ Pv σ' H') := fun _ _ h => ⟨_, h.2, rfl, h.1⟩
/-- a list's length -/
def lenH (H : Hp) (a : Addr) : Nat := match H a with
  | some (.lst xs) => xs.length
  | _ => 0
theorem lenH_eq {H : Hp} {a : Addr} {xs : List V} (h : H a = some (.lst xs)) : lenH H a = xs.length := by unfold lenH; rw [h]
/-- what stands now at different addresses; of what stood in H0 all stands but what is at S -/
structure Lv (H0 : Hp) (S : List Addr) (H : Hp) (l : List (Addr × HO)) : Prop where
  nd : (l.map (·.1)).Nodup
  all : ∀ p ∈ l, H p.1 = some p.2
  fr : ∀ b o, b ∉ S → H0 b = some o → H b = some o
  nw : ∀ p ∈ l, p.1 ∈ S ∨ H0 p.1 = none
  sl : ∀ b ∈ S, b ∈ l.map (·.1)
section
variable {H0 H H' : Hp} {S : List Addr} {l : List (Addr × HO)} {p q : Addr} {o u : HO}
theorem Lv.get (h : Lv H0 S H l) (i : Nat) (e : l[i]? = some (p, o)) : H p = some o := h.all (p, o) (List.mem_of_getElem? e)
/-- nothing is changed -/
theorem Lv.zero (H : Hp) : Lv H [] H [] := ⟨List.nodup_nil, fun _ h => (nomatch h), fun _ _ _ h => h, fun _ h => (nomatch h), fun _ h => (nomatch h)⟩
theorem Lv.add (h : Lv H S H l) (hp : H p = some o) (n : p ∉ l.map (·.1)) : Lv H (p :: S) H ((p, o) :: l) where
  nd := List.nodup_cons.mpr ⟨n, h.nd⟩
  all := fun q hq => by
    cases hq with
    | head => exact hp
    | tail _ hq => exact h.all q hq
  fr := fun b o n hb => hb
  nw := fun q hq => by
    cases hq with
    | head => exact .inl List.mem_cons_self
    | tail _ hq => exact (h.nw q hq).imp (List.mem_cons_of_mem _) id
  sl := fun b hb => by
    cases hb with
    | head => exact List.mem_cons_self
    | tail _ hb => exact List.mem_cons_of_mem _ (h.sl b hb)
/-- one thing may be changed -/
theorem Lv.one (hp : H p = some o) : Lv H [p] H [(p, o)] := (Lv.zero H).add hp (fun z => nomatch z)
theorem Lv.two (hp : H p = some o) (hq : H q = some u) (n : p ≠ q) : Lv H [p, q] H [(p, o), (q, u)] := (Lv.one hq).add hp (fun z => n (List.mem_singleton.mp z))
theorem Lv.new (h : Lv H0 S H l) (np : H p = none) : p ∉ l.map (·.1) := fun z => by
  obtain ⟨q, hq, rfl⟩ := List.mem_map.mp z
  rw [h.all q hq] at np
  cases np
theorem Lv.free (h : Lv H0 S H l) (np : H p = none) : H0 p = none := by
  cases q : H0 p with
  | none => rfl
  | some o =>
    by_cases c : p ∈ S
    · exact absurd (h.sl p c) (h.new np)
    · rw [h.fr p o c q] at np; cases np
theorem Lv.same (h : Lv H0 S H l) (s : Same H H') : Lv H0 S H' l := ⟨h.nd, fun q hq => s _ _ (h.all q hq), fun b o n hb => s _ _ (h.fr b o n hb), h.nw, h.sl⟩
theorem Lv.cons (h : Lv H0 S H l) (hp : H p = some o) (n : p ∉ l.map (·.1)) (n0 : H0 p = none) : Lv H0 S H ((p, o) :: l) where
  nd := List.nodup_cons.mpr ⟨n, h.nd⟩
  all := fun q hq => by
    cases hq with
    | head => exact hp
    | tail _ hq => exact h.all q hq
  fr := h.fr
  nw := fun q hq => by
    cases hq with
    | head => exact .inr n0
    | tail _ hq => exact h.nw q hq
  sl := fun b hb => List.mem_cons_of_mem _ (h.sl b hb)
theorem Lv.al (h : Lv H0 S H l) (np : H p = none) : Lv H0 S (upd H p o) ((p, o) :: l) := (h.same (same_new np)).cons upd_same (h.new np) (h.free np)
/-- a new thing told by what holds behind it -/
theorem Lv.al' (h : Lv H0 S H l) (s : Same H H') (np : H p = none) (hp : H' p = some o) : Lv H0 S H' ((p, o) :: l) := (h.same s).cons hp (h.new np) (h.free np)
theorem Lv.ne (h : Lv H0 S H l) (i j : Nat) (ne : i ≠ j) (e : l[i]? = some (p, o)) (f : l[j]? = some (q, u)) : p ≠ q := fun z => by
  have hi := (List.getElem?_eq_some_iff.mp e).1
  have hj := (List.getElem?_eq_some_iff.mp f).1
  have a : (l.map (·.1))[i]? = some p := by rw [List.getElem?_map, e]; rfl
  have b : (l.map (·.1))[j]? = some p := by rw [List.getElem?_map, f, z]; rfl
  exact ne ((List.getElem?_inj (by rw [List.length_map]; exact hi) h.nd).mp (a.trans b.symm))
theorem set_fst {l : List (Addr × HO)} {i : Nat} (e : l[i]? = some (p, o)) : (l.set i (p, u)).map (·.1) = l.map (·.1) := by
  have hi := (List.getElem?_eq_some_iff.mp e).1
  rw [List.map_set]
  refine List.ext_getElem? fun j => ?_
  rw [List.getElem?_set]
  by_cases c : i = j
  · subst c
    rw [if_pos rfl, if_pos (by rw [List.length_map]; exact hi), List.getElem?_map, e]
    rfl
  · rw [if_neg c]
/-- what is at the i-th address is changed, told by what holds behind it -/
theorem Lv.st' (h : Lv H0 S H l) (i : Nat) (e : l[i]? = some (p, o)) (hp : H' p = some u) (off : ∀ b w, b ≠ p → H b = some w → H' b = some w) : Lv H0 S H' (l.set i (p, u)) := by
  have hi := (List.getElem?_eq_some_iff.mp e).1
  have em := set_fst (u := u) e
  have mem : ∀ q ∈ l.set i (p, u), q = (p, u) ∨ (q ∈ l ∧ q.1 ≠ p) := fun q hq => by
    obtain ⟨j, hj⟩ := List.mem_iff_getElem?.mp hq
    rw [List.getElem?_set] at hj
    by_cases c : i = j
    · rw [if_pos c, if_pos hi] at hj
      cases hj
      exact .inl rfl
    · rw [if_neg c] at hj
      exact .inr ⟨List.mem_of_getElem? hj, fun z => (h.ne i j c e (q := q.1) (u := q.2) hj) z.symm⟩
  refine ⟨by rw [em]; exact h.nd, fun q hq => ?_, fun b w n hb => ?_, fun q hq => ?_, fun b hb => by rw [em]; exact h.sl b hb⟩
  · rcases mem q hq with rfl | ⟨hq, n⟩
    · exact hp
    · exact off _ _ n (h.all q hq)
  · refine off b w (fun z => ?_) (h.fr b w n hb)
    subst z
    rcases h.nw _ (List.mem_of_getElem? e) with z | z
    · exact n z
    · rw [hb] at z; cases z
  · rcases mem q hq with rfl | ⟨hq, _⟩
    · exact h.nw (p, o) (List.mem_of_getElem? e)
    · exact h.nw q hq
/-- what is at the i-th address is changed, and something is new -/
theorem Lv.stn {v : HO} {r : Addr} (h : Lv H0 S H l) (i : Nat) (e : l[i]? = some (p, o)) (hp : H' p = some u) (off : ∀ b w, b ≠ p → H b = some w → H' b = some w) (np : H r = none) (hr : H' r = some v) : Lv H0 S H' ((r, v) :: l.set i (p, u)) :=
  (h.st' i e hp off).cons hr (by rw [set_fst e]; exact h.new np) (h.free np)
theorem Lv.pick (h : Lv H0 S H l) {l' : List (Addr × HO)} (nd : (l'.map (·.1)).Nodup) (sub : ∀ q ∈ l', q ∈ l) (sl : ∀ b ∈ S, b ∈ l'.map (·.1)) : Lv H0 S H l' :=
  ⟨nd, fun q hq => h.all q (sub q hq), h.fr, fun q hq => h.nw q (sub q hq), sl⟩
theorem Lv.pick1 (h : Lv H0 [p] H l) (j : Nat) (ej : l[j]? = some (p, o)) : Lv H0 [p] H [(p, o)] :=
  h.pick (by simp) (fun q hq => by rw [List.mem_singleton.mp hq]; exact List.mem_of_getElem? ej) fun b hb => by rw [List.mem_singleton.mp hb]; simp
theorem Lv.pick2 (h : Lv H0 [p] H l) (i j : Nat) (ne : i ≠ j) (ei : l[i]? = some (q, u)) (ej : l[j]? = some (p, o)) : Lv H0 [p] H [(q, u), (p, o)] :=
  h.pick (by simpa using h.ne i j ne ei ej) (fun q hq => by
    cases hq with
    | head => exact List.mem_of_getElem? ei
    | tail _ hq => rw [List.mem_singleton.mp hq]; exact List.mem_of_getElem? ej) fun b hb => by rw [List.mem_singleton.mp hb]; simp
theorem Lv.pick3 {r : Addr} {v : HO} (h : Lv H0 [p] H l) (i k j : Nat) (n1 : i ≠ k) (n2 : i ≠ j) (n3 : k ≠ j) (ei : l[i]? = some (q, u)) (ek : l[k]? = some (r, v)) (ej : l[j]? = some (p, o)) : Lv H0 [p] H [(q, u), (r, v), (p, o)] :=
  h.pick (by simpa using ⟨⟨h.ne i k n1 ei ek, h.ne i j n2 ei ej⟩, h.ne k j n3 ek ej⟩) (fun q hq => by
    cases hq with
    | head => exact List.mem_of_getElem? ei
    | tail _ hq =>
      cases hq with
      | head => exact List.mem_of_getElem? ek
      | tail _ hq => rw [List.mem_singleton.mp hq]; exact List.mem_of_getElem? ej) fun b hb => by rw [List.mem_singleton.mp hb]; simp
def getAll {α : Type} (l : List α) : List Nat → Option (List α)
  | [] => some []
  | i :: is => match l[i]?, getAll l is with
    | some x, some xs => some (x :: xs)
    | _, _ => none
theorem getAll_mem {α : Type} {l : List α} : ∀ {is : List Nat} {l' : List α}, getAll l is = some l' → ∀ x ∈ l', ∃ i ∈ is, l[i]? = some x
  | [], l', e, x, hx => by cases e; cases hx
  | i :: is, l', e, x, hx => by
    unfold getAll at e
    cases e1 : l[i]? with
    | none => rw [e1] at e; cases e
    | some y =>
      cases e2 : getAll l is with
      | none => rw [e1, e2] at e; cases e
      | some ys =>
        rw [e1, e2] at e
        cases e
        cases hx with
        | head => exact ⟨i, List.mem_cons_self, e1⟩
        | tail _ hx =>
          obtain ⟨j, hj, h⟩ := getAll_mem e2 x hx
          exact ⟨j, List.mem_cons_of_mem _ hj, h⟩
/-- some of what stands -/
theorem Lv.picks (h : Lv H0 S H l) (is : List Nat) {l' : List (Addr × HO)} (e : getAll l is = some l') (nd : is.Nodup) (sl : ∀ b ∈ S, b ∈ l'.map (·.1)) : Lv H0 S H l' := by
  refine h.pick ?_ (fun q hq => ?_) sl
  · clear sl
    induction is generalizing l' with
    | nil => cases e; exact List.nodup_nil
    | cons i is ih =>
      unfold getAll at e
      cases e1 : l[i]? with
      | none => rw [e1] at e; cases e
      | some y =>
        cases e2 : getAll l is with
        | none => rw [e1, e2] at e; cases e
        | some ys =>
          rw [e1, e2] at e
          cases e
          refine List.nodup_cons.mpr ⟨fun z => ?_, ih e2 (List.nodup_cons.mp nd).2⟩
          obtain ⟨q, hq, eq⟩ := List.mem_map.mp z
          obtain ⟨j, hj, ej⟩ := getAll_mem e2 q hq
          exact h.ne i j (fun z => (List.nodup_cons.mp nd).1 (z ▸ hj)) (p := y.1) (o := y.2) (q := q.1) (u := q.2) e1 ej eq.symm
  · obtain ⟨i, _, ei⟩ := getAll_mem e q hq
    exact List.mem_of_getElem? ei
theorem Lv.fresh (h : Lv H0 S H l) (i : Nat) (e : l[i]? = some (p, o)) (n : p ∉ S) : H0 p = none := (h.nw _ (List.mem_of_getElem? e)).resolve_left n
theorem Lv.alE (h : Lv H0 S H l) (np : H p = none) (e : upd H p o = H') : Lv H0 S H' ((p, o) :: l) := e ▸ h.al np
theorem Lv.stE (h : Lv H0 S H l) (i : Nat) (e : l[i]? = some (p, o)) (f : upd H p u = H') : Lv H0 S H' (l.set i (p, u)) := by
  subst f
  exact h.st' i e upd_same fun b w n hb => by rw [upd_ne n]; exact hb
theorem sameE (np : H p = none) (e : upd H p o = H') : Same H H' := e ▸ same_new np
theorem sameN {H1 : Hp} (s : Same H1 H) (np : H1 p = none) (e : upd H p o = H') : Same H1 H' := e ▸ same_upd s np
theorem kv_str (p : Str) : V.str p = kV (.inr p) := rfl
theorem kv_int (i : Int) : V.int i = kV (.inl i) := rfl
/-- all but p -/
theorem Lv.off (h : Lv H0 [p] H l) : ∀ b o, b ≠ p → H0 b = some o → H b = some o := fun b o n hb => h.fr b o (fun z => n (List.mem_singleton.mp z)) hb
theorem Lv.sm (h : Lv H0 [] H l) : Same H0 H := fun b o hb => h.fr b o (fun z => nomatch z) hb
theorem Lv.tl (h : Lv H0 S H ((p, o) :: l)) (n : p ∉ S) : Lv H0 S H l :=
  ⟨(List.nodup_cons.mp h.nd).2, fun q hq => h.all q (List.mem_cons_of_mem _ hq), h.fr, fun q hq => h.nw q (List.mem_cons_of_mem _ hq), fun b hb => by
    have := h.sl b hb
    rw [List.map_cons] at this
    cases this with
    | head => exact absurd hb n
    | tail _ z => exact z⟩
/-- what is told in another way -/
theorem Lv.re {l' : List (Addr × HO)} (h : Lv H0 S H l) (e : l = l') : Lv H0 S H l' := e ▸ h
/-- what stands apart from S -/
theorem Lv.sqL {K : PySem.W.Frag} {xs : List V} (h : Lv H0 S H l) (n : p ∉ S) : SqL K H0 p xs → SqL K H p xs := fun x => x.imp (fun r => r.imp (h.fr _ _ n) fun ⟨o, r⟩ => ⟨o, h.fr _ _ n r⟩) id
theorem Lv.sqT {K : PySem.W.Frag} {xs : List V} (h : Lv H0 S H l) (n : p ∉ S) : SqT K H0 p xs → SqT K H p xs := fun x => x.imp (fun r => r.imp (h.fr _ _ n) fun ⟨o, r⟩ => ⟨o, h.fr _ _ n r⟩) id
theorem Lv.sqS {K : PySem.W.Frag} {xs : List V} (h : Lv H0 S H l) (n : p ∉ S) : SqS K H0 p xs → SqS K H p xs := fun x => x.imp (h.sqL n) (h.sqT n)
/-- a frame within a frame -/
theorem Lv.sub {H1 : Hp} {T : List Addr} {m : List (Addr × HO)} (h : Lv H0 S H l) (k : Lv H T H1 m) (ts : ∀ b ∈ T, b ∈ S ∨ H0 b = none) (hs : ∀ b ∈ S, b ∈ m.map (·.1)) (hm : ∀ p ∈ m, p.1 ∈ S ∨ H0 p.1 = none) : Lv H0 S H1 m :=
  ⟨k.nd, k.all, fun b o n hb => k.fr b o (fun z => by
    rcases ts b z with z | z
    · exact n z
    · rw [hb] at z; cases z) (h.fr b o n hb), hm, hs⟩
end
/-- tuples never change -/
def KeepT (H H' : Hp) : Prop := ∀ b xs, H b = some (.tup xs) → H' b = some (.tup xs)
theorem KeepT.refl (H : Hp) : KeepT H H := fun _ _ h => h
theorem KeepT.trans {H H1 H2 : Hp} (a : KeepT H H1) (b : KeepT H1 H2) : KeepT H H2 := fun c xs h => b c xs (a c xs h)
theorem KeepT.same {H H' : Hp} (s : Same H H') : KeepT H H' := fun b xs h => s b _ h
theorem KeepT.off {H H' : Hp} {p : Addr} {o : HO} (h : H p = some o) (n : ∀ xs, o ≠ .tup xs) (s : ∀ b o, b ≠ p → H b = some o → H' b = some o) : KeepT H H' := fun b xs hb => by
  refine s b _ (fun z => ?_) hb
  rw [z, h] at hb
  exact n xs (Option.some.inj hb)
theorem KeepT.st {H H' : Hp} {p : Addr} {xs : List V} {o : HO} (h : H p = some (.lst xs)) (e : upd H p o = H') : KeepT H H' := e ▸ KeepT.off h (fun _ z => nomatch z) fun b o n hb => by rw [upd_ne n]; exact hb
/-- rows of couples of ints, each a tuple -/
abbrev PairsT (H : Hp) : List V → List (Nat × Nat) → Prop := Paired fun x p => ∃ a, x = .ref a ∧ H a = some (.tup [.int (p.1 : Nat), .int (p.2 : Nat)])
theorem PairsT.keep {H H' : Hp} (k : KeepT H H') : ∀ {xs : List V} {ps : List (Nat × Nat)}, PairsT H xs ps → PairsT H' xs ps
  | _, _, .nil => .nil
  | _, _, .cons ⟨a, e, h⟩ t => .cons ⟨a, e, k _ _ h⟩ (PairsT.keep k t)
/-- rows of couples of texts, each a tuple -/
abbrev TiesT (H : Hp) : List V → List (Str × Str) → Prop := Paired fun x p => ∃ a, x = .ref a ∧ H a = some (.tup [.str p.1, .str p.2])
theorem TiesT.keep {H H' : Hp} (k : KeepT H H') : ∀ {xs : List V} {ps : List (Str × Str)}, TiesT H xs ps → TiesT H' xs ps
  | _, _, .nil => .nil
  | _, _, .cons ⟨a, e, h⟩ t => .cons ⟨a, e, k _ _ h⟩ (TiesT.keep k t)
theorem paired_app {α β : Type} {R : α → β → Prop} : ∀ {xs ys : List α} {ps qs : List β}, Paired R xs ps → Paired R ys qs → Paired R (xs ++ ys) (ps ++ qs)
  | _, _, _, _, .nil, h => h
  | _, _, _, _, .cons a t, h => .cons a (paired_app t h)
theorem paired_at {α β : Type} {R : α → β → Prop} : ∀ {xs : List α} {ps : List β}, Paired R xs ps → ∀ {i : Nat} {x : α}, xs[i]? = some x → ∃ p, ps[i]? = some p ∧ R x p
  | _, _, .cons a _, 0, x, e => by cases e; exact ⟨_, rfl, a⟩
  | _, _, .cons _ t, i + 1, x, e => paired_at t (i := i) e
theorem paired_mem {α β : Type} {R : α → β → Prop} : ∀ {xs : List α} {ps : List β}, Paired R xs ps → ∀ p ∈ ps, ∃ x ∈ xs, R x p
  | _, _, .cons a t, p, h => by
    cases h with
    | head => exact ⟨_, List.mem_cons_self, a⟩
    | tail _ h =>
      obtain ⟨x, hx, r⟩ := paired_mem t p h
      exact ⟨x, List.mem_cons_of_mem _ hx, r⟩
theorem paired_len {α β : Type} {R : α → β → Prop} : ∀ {xs : List α} {ps : List β}, Paired R xs ps → xs.length = ps.length
  | _, _, .nil => rfl
  | _, _, .cons _ t => congrArg (· + 1) (paired_len t)
def pairI (p : Nat × Nat) : PyData := .tuple [.int (p.1 : Nat), .int (p.2 : Nat)]
theorem PairsT.dp {K : PySem.W.Frag} {H : Hp} : ∀ {xs : List V} {ps : List (Nat × Nat)}, PairsT H xs ps → DpAll K H xs (ps.map pairI)
  | _, _, .nil => .nil
  | _, _, .cons ⟨a, e, h⟩ t => .cons (by subst e; exact .tup (SqT.of h) (.cons (.int _) (.cons (.int _) .nil))) (PairsT.dp t)
theorem eqv_pairI (p q : Nat × Nat) : PyData.eqv (pairI p) (pairI q) = decide (p = q) := by
  obtain ⟨a, b⟩ := p
  obtain ⟨c, d⟩ := q
  show PyData.eqvAll [.int (a : Nat), .int (b : Nat)] [.int (c : Nat), .int (d : Nat)] = _
  simp only [PyData.eqvAll, PyData.eqv, Bool.and_true]
  rw [Bool.eq_iff_iff, decide_eq_true_eq, Bool.and_eq_true, beq_iff_eq, beq_iff_eq]
  constructor
  · rintro ⟨h1, h2⟩
    rw [Int.ofNat_inj.mp h1, Int.ofNat_inj.mp h2]
  · intro h
    cases h
    exact ⟨rfl, rfl⟩
theorem any_pairI (ps : List (Nat × Nat)) (q : Nat × Nat) : ((ps.map pairI).any fun z => PyData.eqv z (pairI q)) = decide (q ∈ ps) := by
  rw [Bool.eq_iff_iff, decide_eq_true_eq, List.any_map, List.any_eq_true]
  constructor
  · rintro ⟨y, hy, e⟩
    have e : decide (y = q) = true := (eqv_pairI y q) ▸ e
    exact (of_decide_eq_true e) ▸ hy
  · exact fun h => ⟨q, h, by show PyData.eqv (pairI q) (pairI q) = true; rw [eqv_pairI]; exact decide_eq_true rfl⟩
theorem shaped_pairs (ps : List (Nat × Nat)) : SeqAt.shaped (.list (ps.map pairI)) = true := by
  have h1 : PyData.canLayAll0 (ps.map pairI) = true := by
    induction ps with
    | nil => rfl
    | cons p ps ih => rw [List.map_cons, PyData.canLayAll0, ih]; rfl
  have h2 : PyData.depthAll (ps.map pairI) ≤ 5 := by
    induction ps with
    | nil => simp [PyData.depthAll]
    | cons p ps ih => rw [List.map_cons, PyData.depthAll]; exact Nat.max_le.mpr ⟨by simp [pairI, PyData.depth, PyData.depthAll], ih (by rw [List.map_cons, PyData.canLayAll0] at h1; exact (Bool.and_eq_true_iff.mp h1).2)⟩
  unfold SeqAt.shaped
  rw [PyData.canLay0, h1, Bool.true_and]
  refine decide_eq_true ?_
  rw [PyData.depth]
  omega
theorem shaped_pair (q : Nat × Nat) : SeqAt.shaped (pairI q) = true := by simp [pairI, SeqAt.shaped, PyData.canLay0, PyData.canLayAll0, PyData.depth, PyData.depthAll]
/-- all but instances stands on -/
def SameD (H H' : Hp) : Prop := ∀ b o, H b = some o → (∀ C dx fs, o ≠ .ins C dx fs) → H' b = some o
theorem SameD.of {H H' : Hp} (s : Same H H') : SameD H H' := fun b o e _ => s b o e
theorem SameD.trans {H H1 H2 : Hp} (s : SameD H H1) (t : SameD H1 H2) : SameD H H2 := fun b o e n => t b o (s b o e n) n
theorem SameD.store {H : Hp} {x C dx : Addr} {fs : List (Str × V)} {o : HO} (h : H x = some (.ins C dx fs)) : SameD H (upd H x o) := fun b u e n => by
  rw [upd_ne (fun z => by rw [z, h] at e; cases e; exact n _ _ _ rfl)]
  exact e
theorem SameD.storeE {H H' : Hp} {x C dx : Addr} {fs : List (Str × V)} {o : HO} (h : H x = some (.ins C dx fs)) (e : upd H x o = H') : SameD H H' := e ▸ .store h
theorem free_of {H H' : Hp} {p : Addr} (s : Same H H') (np : H' p = none) : H p = none := by
  cases q : H p with
  | none => rfl
  | some o => rw [s p o q] at np; cases np
end Ct

set_option Elab.async false
set_option linter.all false
set_option maxRecDepth 100000
set_option maxHeartbeats 2000000
/-! Own kit T: a list against [], places as bits of a number. -/
namespace Ct
open PySem PySem.Spec PyProof.Rows L2
section
variable {X : Cx}
/-- xs == [], the list on the right just laid (or any empty list) -/
def rEqNil (K : PySem.W.Frag) (neg : Bool) : R2 := fun x y H Q => ∃ (a b : Addr) (xs : List V), x = .ref a ∧ y = .ref b ∧ SqL K H a xs ∧ SqL K H b [] ∧ Q (.bl (if neg then !xs.isEmpty else xs.isEmpty)) H
theorem op_eqNil (hu : X.A.units + 64 < cLine) : OpR X (compareOp .Eq) (rEqNil X.K false) := by
  intro pins s σ H x y v u Q I rx ry h
  obtain ⟨a, b, xs, rfl, rfl, hx, hy, q⟩ := h
  cases rx; cases ry
  obtain ⟨its, r, ht, hz⟩ := I.list hx
  obtain ⟨its2, r2, ht2, hz2⟩ := I.list hy
  cases r2
  have hl := r.length
  have room : X.A.units < cLine := by omega
  cases xs with
  | nil =>
    cases r
    exact SeqAt.RcAt.lists (e := fun _ => true) ht.isList ht2.isList rfl room (fun j j1 _ => absurd j1 (Nat.not_lt_zero _)) X.prog X.w X.xe _ ⟨.bl true, H, I, rfl, q⟩
  | cons z xs =>
    refine SeqAt.RcAt.lists_lengths ht.isList ht2.isList ?_ room X.prog X.w X.xe _ ⟨.bl false, H, I, rfl, q⟩
    rw [List.size_toArray, ← hl]
    rfl
theorem op_neNil (hu : X.A.units + 64 < cLine) : OpR X (compareOp .NotEq) (rEqNil X.K true) := by
  intro pins s σ H x y v u Q I rx ry h
  obtain ⟨a, b, xs, rfl, rfl, hx, hy, q⟩ := h
  cases rx; cases ry
  obtain ⟨its, r, ht, hz⟩ := I.list hx
  obtain ⟨its2, r2, ht2, hz2⟩ := I.list hy
  cases r2
  have hl := r.length
  have room : X.A.units < cLine := by omega
  cases xs with
  | nil =>
    cases r
    exact SeqAt.RcNeAt.lists (e := fun _ => true) ht.isList ht2.isList rfl room (fun j j1 _ => absurd j1 (Nat.not_lt_zero _)) X.prog X.w X.xe _ ⟨.bl false, H, I, rfl, q⟩
  | cons z xs =>
    refine SeqAt.RcNeAt.lists_lengths ht.isList ht2.isList ?_ room X.prog X.w X.xe _ ⟨.bl true, H, I, rfl, q⟩
    rw [List.size_toArray, ← hl]
    rfl
end
end Ct
namespace Ct
open PySem PySem.Spec PyProof.Rows L2
theorem op_inDk {X : Cx} {K : PySem.W.Frag} (hK : X.K = K) (hu : X.A.units + 65 < cLine) : OpR X (compareOp .In) (rInD K) := hK ▸ op_inD hu
theorem op_notInDk {X : Cx} {K : PySem.W.Frag} (hK : X.K = K) (hu : X.A.units + 65 < cLine) : OpR X (compareOp .NotIn) (rNotInD K) := hK ▸ op_notInD hu
end Ct
namespace Ct
open PySem PySem.Spec PyProof.Rows L2
theorem bitOr_nat (a b : Nat) : Builtin.bitOr (a : Int) (b : Int) = ((a ||| b : Nat) : Int) := by
  have n1 : ∀ a : Nat, ¬ (0 : Int) ≤ -(a : Int) - 1 := fun a => by omega
  have n2 : ∀ a : Nat, (-(-(a : Int) - 1) - 1).toNat = a := fun a => by omega
  unfold Builtin.bitOr Builtin.bitAnd Builtin.bitNot
  rw [decide_eq_false (n1 a), decide_eq_false (n1 b)]
  dsimp only
  rw [n2, n2]
  omega
theorem bitAnd_nat (a b : Nat) : Builtin.bitAnd (a : Int) (b : Int) = ((a &&& b : Nat) : Int) := by
  unfold Builtin.bitAnd
  rw [decide_eq_true (Int.natCast_nonneg a), decide_eq_true (Int.natCast_nonneg b)]
  rfl
section
variable {X : Cx}
def rNat (g : Nat → Nat → V) : R2 := fun x y H Q => ∃ a b : Nat, x = .int (a : Nat) ∧ y = .int (b : Nat) ∧ Q (g a b) H
/-- n >> k, n & m, n | m, n |= m, 1 << k for numbers from 0 on -/
theorem op_shrB : OpR X (binaryOp .RShift) (rNat fun a b => .int ((a / 2 ^ b : Nat))) := by
  intro pins s σ H x y v u Q I rx ry h
  obtain ⟨a, b, rfl, rfl, q⟩ := h
  refine op_shrN pins s σ H _ _ v u Q I rx ry ⟨a, b, rfl, rfl, ?_⟩
  rw [show (a : Int) / 2 ^ b = ((a / 2 ^ b : Nat) : Int) by rw [Int.natCast_ediv, Int.natCast_pow]; rfl]
  exact q
theorem op_andB : OpR X (binaryOp .BitAnd) (rNat fun a b => .int ((a &&& b : Nat))) := by
  intro pins s σ H x y v u Q I rx ry h
  obtain ⟨a, b, rfl, rfl, q⟩ := h
  exact op_and pins s σ H _ _ v u Q I rx ry ⟨a, b, rfl, rfl, by dsimp only; rw [bitAnd_nat]; exact q⟩
theorem op_orB : OpR X (binaryOp .BitOr) (rNat fun a b => .int ((a ||| b : Nat))) := by
  intro pins s σ H x y v u Q I rx ry h
  obtain ⟨a, b, rfl, rfl, q⟩ := h
  exact op_or pins s σ H _ _ v u Q I rx ry ⟨a, b, rfl, rfl, by dsimp only; rw [bitOr_nat]; exact q⟩
theorem iop_orB : OpR X (inplaceOp .BitOr) (rNat fun a b => .int ((a ||| b : Nat))) := by
  intro pins s σ H x y v u Q I rx ry h
  obtain ⟨a, b, rfl, rfl, q⟩ := h
  exact iop_or pins s σ H _ _ v u Q I rx ry ⟨a, b, rfl, rfl, by dsimp only; rw [bitOr_nat]; exact q⟩
theorem op_shlB : OpR X (binaryOp .LShift) (fun x y H Q => ∃ b : Nat, x = .int 1 ∧ y = .int (b : Nat) ∧ b ≤ 1000 ∧ Q (.int ((2 ^ b : Nat))) H) := by
  intro pins s σ H x y v u Q I rx ry h
  obtain ⟨b, rfl, rfl, hb, q⟩ := h
  refine op_oneShl pins s σ H _ _ v u Q I rx ry ⟨b, rfl, rfl, by omega, ?_⟩
  rw [show (2 : Int) ^ b = ((2 ^ b : Nat) : Int) by rw [Int.natCast_pow]; rfl]
  exact q
end
/-- the positions of a number's bits -/
def bitsL (N : Nat) : List Nat := (List.range (Builtin.Int.intBits (N : Int))).filter N.testBit
theorem bitsL_of {N n : Nat} (h : N < 2 ^ n) : bitsL N = (List.range n).filter N.testBit := by
  have h1 : Builtin.Int.intBits (N : Int) ≤ n := intBits_le_iff.mpr (by simpa using h)
  have h2 : N < 2 ^ Builtin.Int.intBits (N : Int) := by
    have := intBits_le_iff (m := Builtin.Int.intBits (N : Int)) (x := (N : Int))
    simpa using this.mp (Nat.le_refl _)
  unfold bitsL
  obtain ⟨d, rfl⟩ := Nat.le.dest h1
  rw [List.range_add, List.filter_append]
  have e : (List.map (fun x => Builtin.Int.intBits (N : Int) + x) (List.range d)).filter N.testBit = [] := by
    refine List.filter_eq_nil_iff.mpr fun i hi => ?_
    obtain ⟨j, _, rfl⟩ := List.mem_map.mp hi
    rw [Nat.testBit_lt_two_pow (Nat.lt_of_lt_of_le h2 (Nat.pow_le_pow_right (by decide) (Nat.le_add_right _ _)))]
    decide
  rw [e, List.append_nil]
theorem odd_test (N k : Nat) : ((N / 2 ^ k) % 2 = 1) ↔ N.testBit k = true := by
  rw [Nat.testBit_eq_decide_div_mod_eq, decide_eq_true_eq]
end Ct
namespace Ct
open PySem PySem.Spec PyProof.Rows L2
theorem ix_tupk {X : Cx} {K : PySem.W.Frag} (hK : X.K = K) : IxR X (rIxT K) := hK ▸ ix_tup
theorem ix_listk {X : Cx} {K : PySem.W.Frag} (hK : X.K = K) : IxR X (rIxL K) := hK ▸ ix_list
/-- numbers as values -/
abbrev natV (n : Nat) : V := .int (n : Nat)
end Ct
namespace Ct
open PySem PySem.Spec PyProof.Rows L2
def tTru (K : PySem.W.Frag) (ta : TE) : TT := fun σ H Q => ta σ H fun x H' => ∃ k, TruV K x H' k ∧ Q k H'
/-- a value's truth, the written part named -/
theorem pt_truthk {X : Cx} {K : PySem.W.Frag} {a : Expr} {ta : TE} (hK : X.K = K) (ha : PE X a ta) (he : ∀ whole, isTrue a X.env whole = (do let v ← whole; standAt a.pos; holding [v] (truthy v))) :
    PT X a (tTru K ta) := hK ▸ pt_truth ha he
end Ct
namespace Ct
open PySem PySem.Spec PyProof.Rows L2
section
variable {X : Cx} {K : PySem.W.Frag}
theorem pe_fldk {e : Expr} {f : Str} {pos : Pos} {ta : TE} (hK : X.K = K) (he : PE X e ta) (hb : attributeBase e f X.env (eval e X.env) = eval e X.env) : PE X (.Attribute e f pos) (tFld K ta f) := hK ▸ pe_fld he hb
theorem op_eqNilk (hK : X.K = K) (hu : X.A.units + 64 < cLine) : OpR X (compareOp .Eq) (rEqNil K false) := hK ▸ op_eqNil hu
theorem op_neNilk (hK : X.K = K) (hu : X.A.units + 64 < cLine) : OpR X (compareOp .NotEq) (rEqNil K true) := hK ▸ op_neNil hu
def rLen (K : PySem.W.Frag) : List V → Hp → VK → Prop := fun xs H Q => ∃ x n, xs = [x] ∧ LenV K x H n ∧ Q (.int n) H
theorem call_lenk (hK : X.K = K) : CallR X (.builtin "len") (rLen K) := hK ▸ call_len
theorem sl_listk (hK : X.K = K) : SlR X (rSlL K) := hK ▸ sl_list
end
end Ct
namespace Ct
open PySem PySem.Spec PyProof.Rows L2
/-- the number with just the bits below n that pass -/
def maskOf (f : Nat → Bool) : Nat → Nat
  | 0 => 0
  | n + 1 => maskOf f n ||| (if f n then 2 ^ n else 0)
theorem test_mask (f : Nat → Bool) (i : Nat) : ∀ n, (maskOf f n).testBit i = (decide (i < n) && f i)
  | 0 => by simp [maskOf]
  | n + 1 => by
    rw [maskOf, Nat.testBit_or, test_mask f i n]
    by_cases e : i = n
    · subst e
      cases h : f i <;> simp [h, Nat.testBit_two_pow]
    · have : (if f n = true then 2 ^ n else 0).testBit i = false := by
        split
        · rw [Nat.testBit_two_pow]
          exact decide_eq_false fun z => e z.symm
        · simp
      rw [this, Bool.or_false]
      congr 1
      rw [Bool.eq_iff_iff, decide_eq_true_eq, decide_eq_true_eq]
      omega
theorem mask_lt (f : Nat → Bool) (n : Nat) : maskOf f n < 2 ^ n := Nat.lt_pow_two_of_testBit _ fun i hi => by
  rw [test_mask, decide_eq_false (by omega), Bool.false_and]
theorem mask_congr {f g : Nat → Bool} {n : Nat} (h : ∀ i, i < n → f i = g i) : maskOf f n = maskOf g n := Nat.eq_of_testBit_eq fun i => by
  rw [test_mask, test_mask]
  by_cases c : i < n
  · rw [h i c]
  · rw [decide_eq_false c]; rfl
/-- a dict from names to numbers -/
def DN (kvs : List (Key × V)) (ns : List Str) (f : Str → Nat) (B : Nat) : Prop := kvs.length ≤ B ∧ ∀ p ∈ ns, valV kvs (.inr p) = some (natV (f p))
theorem DN.snoc {kvs : List (Key × V)} {ns : List Str} {f : Str → Nat} {B : Nat} {p : Str} {v : Nat} (h : DN kvs ns f B) (e : f p = v) : DN (putK kvs (.inr p) (natV v)) (ns ++ [p]) f (B + 1) := by
  refine ⟨Nat.le_trans (length_putK kvs _ _) (Nat.succ_le_succ h.1), fun q hq => ?_⟩
  rw [valV_put]
  by_cases c : q = p
  · rw [if_pos (by rw [c]), c, e]
  · rw [if_neg (fun z => c (Sum.inr.inj z))]
    rcases List.mem_append.mp hq with z | z
    · exact h.2 q z
    · exact absurd (List.mem_singleton.mp z) c
theorem DN.upd {kvs : List (Key × V)} {ns : List Str} {f g : Str → Nat} {B v : Nat} {p : Str} (h : DN kvs ns f B) (ev : g p = v) (e : ∀ q ∈ ns, q ≠ p → g q = f q) : DN (putK kvs (.inr p) (natV v)) ns g (B + 1) := by
  subst ev
  refine ⟨Nat.le_trans (length_putK kvs _ _) (Nat.succ_le_succ h.1), fun q hq => ?_⟩
  rw [valV_put]
  by_cases c : q = p
  · rw [if_pos (by rw [c]), c]
  · rw [if_neg (fun z => c (Sum.inr.inj z)), h.2 q hq, e q hq c]
theorem dgetN {H : Hp} {a : Addr} {kvs : List (Key × V)} {p : Str} {v : V} (h : H a = some (.dK kvs)) (e : valV kvs (.inr p) = some v) : DGet H a (.str p) (some v) := e ▸ DGet.k (k := Sum.inr p) h
theorem dputN {H : Hp} {a : Addr} {kvs : List (Key × V)} {p : Str} {v : V} (h : H a = some (.dK kvs)) (l : kvs.length < sizeLine) : DPut H a (.str p) v (upd H a (.dK (putK kvs (.inr p) v))) := DPut.k (k := Sum.inr p) h l
end Ct
namespace Ct
open PySem PySem.Spec PyProof.Rows L2
theorem in_orB {X : Cx} : InOp X .BitOr (rNat fun a b => .int ((a ||| b : Nat))) := fun pins s σ H x y u v Q I rx ry h => iop_orB pins s σ H x y u v Q I rx ry h
theorem pg_tupk {X : Cx} {K : PySem.W.Frag} {pos : Pos} {es : List Expr} {k : Nat} {t : TGs} {n : Nat} (hK : X.K = K) (hc : X.calm = true) (h : PGs X es t) (hn : (assignEach es X.env).length = n := by rfl) (hst : (assignEach es X.env).findIdx? (·.1) = none := by rfl) : PG X (.Tuple es k pos) (gTup K n t) := hK ▸ pg_tup hc h hn hst
end Ct
namespace Ct
open PySem PySem.Spec PyProof.Rows L2
theorem str_at {ns : List Str} {i : Nat} {x : V} (h : (ns.map V.str)[i]? = some x) : ∃ p, ns[i]? = some p ∧ x = .str p := by
  rw [List.getElem?_map] at h
  cases e : ns[i]? with
  | none => rw [e] at h; cases h
  | some p => rw [e] at h; exact ⟨p, rfl, (Option.some.inj h).symm⟩
theorem take_next2 {α : Type} {l : List α} {i : Nat} {x : α} (h : l[i]? = some x) : l.take (i + 1) = l.take i ++ [x] := by rw [List.take_succ, h]; rfl
end Ct
namespace Ct
open PySem PySem.Spec PyProof.Rows L2
theorem walk_zipT {K : PySem.W.Frag} {a b : Addr} {xs ys : List V} {n : Nat} (hn : n = min xs.length ys.length) : Walk (RZ.ItzT K a b) n (fun H => SqT K H a xs ∧ SqT K H b ys) (YPair (fun i => xs[i]?) (fun i => ys[i]?)) := by
  subst hn
  refine ⟨fun i _ hi q => ?_, fun _ q => ⟨xs, ys, q.1, q.2, by omega⟩, fun i H v H' _ q y => ?_⟩
  · have h1 : i < xs.length := by omega
    have h2 : i < ys.length := by omega
    exact ⟨xs, ys, xs[i], ys[i], q.1, q.2, by simp [h1], by simp [h2]⟩
  · obtain ⟨T, x, z, h1, h2, h3, h4, h5⟩ := y
    exact ⟨T, x, z, h1, h2, h3, h4 xs q.1, h5 ys q.2⟩
end Ct
namespace Ct
open PySem
theorem filter_one (f : Str → Bool) (q : Str) : [q].filter f = if f q = true then [q] else [] := by
  cases e : f q <;> simp [List.filter, e]
end Ct
namespace Ct
open PySem PySem.Spec PyProof.Rows L2
section
variable {X : Cx} {CX : CXT} {k : Nat} {f C : Addr} {fd : FuncData} {ps : List Str} {sp : Sp} {dvs : List V} {ds : List Value} {E : L2.St → XK} {x : Str} {p pos : Pos} {e : Expr} {es : List Expr} {t : TA}
/-- C(..), its reading in other words -/
theorem pe_makeG {G : List V → Hp → VK → Prop} (M : Mk X.K C f) (F : FnOk X.prog X.w X.K X.mg X.base CX k f fd ps sp) (hr : Room (k + 1) X.A) (hg : Gl X x) (hm : X.mg x = some (.ref C)) (hb : Binds X.K fd ps ds) (hd : Vals dvs ds)
    (hG : ∀ (vs : List V) (H1 : Hp) (Q : VK) (σ : L2.St) (x dx : Addr), G vs H1 Q → H1 x = none → H1 dx = none → dx ≠ x → sp (.ref x :: (vs ++ dvs)) (upd (upd H1 dx (.own x)) x (.ins C dx [])) (fun v H2 => v = .non ∧ Q (.ref x) H2) (E σ))
    (hx : ∀ (pins : List (Addr × Obj)) (σ : L2.St) (H : Hp) (s : Shared) (e : Value) (s' : Shared), Inv X pins σ H s → CX X.stack H s (E σ) e s' → X.xe e s')
    (ha : PA X (e :: es) t) (hdb : (x == ("__debug__" : Str)) = false := by decide) (he : starEach (e :: es) X.env = (false, eval e X.env) :: starEach es X.env := by rfl) (hpl : (backTo pos (starEach es X.env)).any (·.1) = false := by rfl) :
    PE X (.Call (.Name x p) (e :: es) [] pos) (fun σ H Q => t σ H fun vs H1 => G vs H1 Q) := by
  refine ⟨fun pins s σ H Q I h => ?_⟩
  refine wpAny_Call_Name_kw (ld_glob I hg hm ?_ hdb)
  refine PySem.W.callWith_K (h₀ := X.base) I.ok.mod.kin M.kp (thn (ha.run pos pins s σ H _ I h) fun us s1 ⟨vs, H1, I1, r, q⟩ => ⟨I1.kIn, ?_⟩) he hpl
  have hq := hG vs H1 _ σ (s1.heap.objs.size + 1) s1.heap.objs.size q (I1.hok.fresh (Nat.le_succ _)) (I1.hok.fresh (Nat.le_refl _)) (Nat.ne_of_lt (Nat.lt_succ_self _))
  have I2 := Inv.made (C := C) I1
  have r2 : Vals (V.ref (s1.heap.objs.size + 1) :: (vs ++ dvs)) (Value.ref (s1.heap.objs.size + 1) :: (us ++ ds)) := .cons rfl (r.append hd)
  have hl : (Value.ref (s1.heap.objs.size + 1) :: us ++ ds).length = ps.length := by
    have e := r2.length
    rw [F.len _ _ _ _ hq] at e
    exact e.symm
  refine wpAny_call (make_map (f := f) I1.kIn M.makes M.init (beq_iff_eq.mp M.fn) (codeAny_mono (F.run _ X.stack _ _ ⟨Value.ref (s1.heap.objs.size + 1) :: us, []⟩ (Value.ref (s1.heap.objs.size + 1) :: (us ++ ds)) _ _ (E σ) (hr.make C us [])
    (I2.env0.make C us []) (hb _ (Value.ref (s1.heap.objs.size + 1) :: us) I2.kIn hl) r2 hq) fun r s' hq' => ?_))
  match r, hq' with
  | .error e, hq' => exact hx pins σ _ _ e s' I2 hq'
  | .ok .next, hq' => exact False.elim hq'
  | .ok .brk, hq' => exact False.elim hq'
  | .ok .cont, hq' => exact False.elim hq'
  | .ok (.ret u), hq' =>
    obtain ⟨v, H', I3, rv, ev, q3⟩ := I2.after hq'
    subst ev
    exact ⟨rv, ⟨V.ref (s1.heap.objs.size + 1), H', I3, rfl, q3⟩⟩
end
end Ct
namespace Ct
open PySem PySem.Spec PyProof.Rows L2
/-- t + u, told by what it is -/
def rCatT2 (K : PySem.W.Frag) : R2 := fun x y H Q => ∃ a b xs ys, x = .ref a ∧ y = .ref b ∧ SqT K H a xs ∧ SqT K H b ys ∧ xs.length + ys.length ≤ sizeLine ∧ ∀ t H', Same H H' → SqT K H' t (xs ++ ys) → Q (.ref t) H'
theorem op_catT2 {X : Cx} : OpR X (binaryOp .Add) (rCatT2 X.K) := by
  intro pins s σ H x y v u Q I rx ry h
  obtain ⟨a, b, xs, ys, rfl, rfl, ha, hb, hz, q⟩ := h
  refine op_catA pins s σ H _ _ v u Q I rx ry ⟨a, b, xs, ys, rfl, rfl, ha, hb, hz, fun e => ?_, fun _ e => ?_, fun _ _ p hp => ?_⟩
  · subst e
    exact q b H (Same.refl H) hb
  · subst e
    exact q a H (Same.refl H) (by rw [List.append_nil]; exact ha)
  · exact q p _ (same_new hp) (SqT.of upd_same)
end Ct

set_option linter.all false
/-! Where each def of this row stands. -/
namespace Pw
open PySem
def top (i : Nat) : Stmt := PySem.Challenge.pw_cornerturn_k02_webs_asked_and_changed.main.body.getD i (.Pass ⟨0, 0, 0, 0⟩)
abbrev ix_wall : Nat := 0
abbrev ix_bits_of : Nat := 2
abbrev ix_WebError : Nat := 4
abbrev ix_BadPlaces : Nat := 5
abbrev mx_BadPlaces_init : Nat := 0
abbrev ix_BadTies : Nat := 6
abbrev mx_BadTies_init : Nat := 0
abbrev ix_BadTie : Nat := 7
abbrev mx_BadTie_init : Nat := 0
abbrev ix_NoPlace : Nat := 8
abbrev mx_NoPlace_init : Nat := 0
abbrev ix_is_name : Nat := 13
abbrev ix_is_place : Nat := 14
abbrev ix_check_place : Nat := 15
abbrev ix_all_differ : Nat := 16
abbrev ix_are_places : Nat := 17
abbrev ix_check_places : Nat := 18
abbrev ix_is_tie : Nat := 19
abbrev ix_pair : Nat := 20
abbrev ix_check_ties : Nat := 21
abbrev ix_sights : Nat := 22
abbrev ix_Web : Nat := 23
abbrev mx_Web_init : Nat := 0
abbrev mx_Web_eq : Nat := 1
abbrev mx_Web_places : Nat := 2
abbrev mx_Web_ties : Nat := 3
abbrev mx_Web_sees : Nat := 4
abbrev mx_Web_whole : Nat := 5
abbrev mx_Web_named : Nat := 6
abbrev mx_Web_sights : Nat := 7
abbrev mx_Web_kept : Nat := 8
abbrev mx_Web_keep : Nat := 9
abbrev mx_Web_parts : Nat := 10
abbrev mx_Web_part_of : Nat := 11
abbrev mx_Web_without : Nat := 12
abbrev mx_Web_tied : Nat := 13
abbrev ix_law_source : Nat := 25
abbrev ix_law_draw : Nat := 26
abbrev ix_law_pick : Nat := 27
abbrev ix_law_mixed : Nat := 28
abbrev ix_law_word : Nat := 29
abbrev ix_law_names : Nat := 30
abbrev ix_law_pairs : Nat := 31
abbrev ix_law_plan : Nat := 32
abbrev ix_law_web : Nat := 33
abbrev ix_law_near : Nat := 34
abbrev ix_law_less : Nat := 35
abbrev ix_law_told : Nat := 36
abbrev ix_law_due : Nat := 37
abbrev ix_law_parts : Nat := 38
abbrev ix_law_same : Nat := 39
abbrev ix_law_asked_right : Nat := 40
abbrev ix_law_ties_for : Nat := 41
abbrev ix_law_compared : Nat := 42
abbrev ix_law : Nat := 43
end Pw

set_option Elab.async false
set_option linter.all false
set_option maxRecDepth 100000
set_option maxHeartbeats 4000000
namespace Pw
open PySem PySem.Spec PyProof.Rows L2 Ct
/-- the built-ins that the text leaves as they are -/
structure Bn (mg : Str → Option Value) : Prop where
  z_int : mg "int" = none
  z_str : mg "str" = none
  z_bool : mg "bool" = none
  z_len : mg "len" = none
  z_range : mg "range" = none
  z_max : mg "max" = none
  z_min : mg "min" = none
  z_isinstance : mg "isinstance" = none
  z_list : mg "list" = none
  z_tuple : mg "tuple" = none
  z_set : mg "set" = none
  z_dict : mg "dict" = none
  z_repr : mg "repr" = none
  z_all : mg "all" = none
  z_any : mg "any" = none
  z_sorted : mg "sorted" = none
  z_enumerate : mg "enumerate" = none
  z_zip : mg "zip" = none
  z_sum : mg "sum" = none
  z_reversed : mg "reversed" = none
/-- the constants of webs -/
structure Mc (mg : Str → Option Value) : Prop where
  g_MOST_PLACES : ∃ t, mg "MOST_PLACES" = some (.int 12 t)
  g_MOST_LETTERS : ∃ t, mg "MOST_LETTERS" = some (.int 8 t)
  g_LETTERS : ∃ t, mg "LETTERS" = some (.str "abcdefghijklmnopqrstuvwxyz" t)
section
variable {X : Cx} {x : Str} {pos : Pos}
theorem pe_gi {i : Int} (hg : Gl X x) (h : ∃ t, X.mg x = some (.int i t)) (hd : (x == ("__debug__" : Str)) = false := by decide) : PE X (.Name x pos) (tC (.int i)) := by
  obtain ⟨t, h⟩ := h
  exact pe_glob hg h ⟨t, rfl⟩ hd
theorem pe_gs {z : Str} (hg : Gl X x) (h : ∃ t, X.mg x = some (.str z t)) (hd : (x == ("__debug__" : Str)) = false := by decide) : PE X (.Name x pos) (tC (.str z)) := by
  obtain ⟨t, h⟩ := h
  exact pe_glob hg h ⟨t, rfl⟩ hd
end
/-- the signs of names -/
abbrev LT : Str := "abcdefghijklmnopqrstuvwxyz"
def okSigns (x : Str) : Bool := x.cps.toList.all fun c => decide (c ∈ LT.cps.toList)
def okName (x : Str) : Bool := decide (1 ≤ x.length) && decide (x.length ≤ 8) && okSigns x
/-- is_name of any datum -/
def nameD : PyData → Bool
  | .str x => okName x
  | _ => false
def spIsName (K : PySem.W.Frag) : Sp := fun vs H Q _ => ∃ (v : V) (d : PyData), vs = [v] ∧ Dq K H v d ∧ (∀ x, d = .str x → x.length ≤ sizeLine) ∧ ∀ H', Same H H' → Q (.bl (nameD d)) H'
section
variable {P : Program} {w : World} {K : PySem.W.Frag} {mg : Str → Option Value} {base : Heap}
abbrev sIsName : Stmt := top ix_is_name
theorem scIsName : FnScope ["value", "sign"] ["value"] (defScope sIsName) := ⟨rfl, rfl, rfl, by decide +kernel, rfl, by decide +kernel, by decide +kernel⟩
theorem has_is_name (T : Bn mg) (M : Mc mg) (D : DFE K mg "is_name" sIsName ["value"]) : Has P w K mg base CX0 1 "is_name" ["value"] (spIsName K) := by
  refine has_of D scIsName (fun vs H Q E h => ?_) (fun f cdv A outer s H vs Q E hr h => ?_)
  · obtain ⟨v, d, rfl, _⟩ := h; rfl
  · obtain ⟨v, d, rfl, hd, hl, k⟩ := h
    have nd := scIsName.nd
    refine ⟨_, (pss_cons (ps_if (pt_not (pt_val (pe_callB call_isD (by rfl) T.z_isinstance (by decide +kernel) (pa_cons (pv 0) (pa_cons (pe_bltn (v := .ty "str") rfl T.z_str (by decide +kernel) rfl) pa_nil))))) (pss_one (ps_ret pe_bl)) pss_nil)
    (pss_one (ps_ret (pe_and (pe_chain op_le op_le pe_int (pe_callB call_len_str (by rfl) T.z_len (by decide +kernel) (pa_cons (pv 0) pa_nil)) (pe_gi rfl M.g_MOST_LETTERS)) (pe_one (pe_callB (cr_all rfl) (by rfl) T.z_all (by decide +kernel) (pa_cons (pe_lc (own := [("sign", 1)]) (g := gName 1) (tt := tYes) rfl nd (pi_str (pv 0)) (blkOk_by (own := [("sign", 1)]) (N := ["value", "sign"]) (sc := defScope sIsName) (by decide +kernel)) (fun _ _ _ _ _ => (pg_name (i := 1) nd rfl (by first | exact Or.inl rfl | exact Or.inr rfl))) (fun _ _ _ _ _ => pts_nil) (fun _ _ _ _ _ => (pe_cmpR op_in_sign (pv 1) (pe_gs rfl M.g_LETTERS) (by first | exact nomark _ | rfl)))) pa_nil))))))), ?_⟩
    refine ⟨_, rfl, _, d, "str", _, rfl, hd, kit_str d, _, rfl, ?_⟩
    cases d with
    | str x =>
      cases hd
      refine ⟨_, rfl, x, rfl, hl x rfl, ?_⟩
      refine ⟨_, _, rfl, rfl, _, rfl, ?_⟩
      have fin : ∀ (b : Bool), b = okName x → Q (.bl b) H := fun b e => by subst e; exact k H (Same.refl H)
      have len : ((x.length : Nat) : Int) = (x.cps.size : Nat) := rfl
      refine ite2 (fun c1 => ?_) (fun c1 => ?_)
      · have c1 := of_decide_eq_true c1
        refine ⟨_, _, rfl, rfl, _, rfl, ?_⟩
        refine ite2 (fun c2 => ?_) (fun c2 => ?_)
        · have c2 := of_decide_eq_true c2
          refine ⟨_, rfl, x, rfl, fun L nL => ?_⟩
          refine lc_it walk_str (fun i H' => Same H H' ∧ ∃ bs : List Bool, H' L = some (.lst (bs.map V.bl)) ∧ bs = (x.cps.toList.take i).map fun c => decide (c ∈ LT.cps.toList)) ⟨same_new nL, [], upd_same, rfl⟩ (fun _ _ _ _ => True.intro) ?_ ?_
          · rintro i z H1 H2 hi ⟨sm, bs, hL, hb⟩ ⟨rfl, c, hc, rfl⟩
            refine ⟨rfl, ⟨_, rfl, c, _, rfl, rfl, bs.map V.bl, hL, ?_, ?_⟩⟩
            · rw [List.length_map, hb, List.length_map]
              exact Nat.lt_of_le_of_lt (List.length_take_le _ _) (Nat.lt_of_lt_of_le hi (Nat.le_trans (show x.cps.size ≤ 8 by have : x.length = x.cps.size := rfl; omega) (by decide)))
            · refine ⟨same_upd sm nL, bs ++ [decide (c ∈ LT.cps.toList)], ?_, ?_⟩
              · rw [upd_same, List.map_append]; rfl
              · have ht : x.cps.toList[i]? = some c := by rw [Array.getElem?_toList]; exact hc
                rw [hb, List.take_succ, ht]
                simp
          · rintro H1 ⟨sm, bs, hL, hb⟩
            refine ⟨L, bs, rfl, SqL.of hL, ?_⟩
            rw [hb, show x.cps.size = x.cps.toList.length from rfl, List.take_length, List.all_map]
            have e : okName x = okSigns x := by
              unfold okName
              rw [decide_eq_true (show 1 ≤ x.length by omega), decide_eq_true (show x.length ≤ 8 by omega)]
              rfl
            have z := k _ sm
            show Q (.bl (okSigns x)) H1
            rw [← e]
            exact z
        · refine fin false ?_
          unfold okName
          rw [show decide (x.length ≤ 8) = false from decide_eq_false (fun z => c2 (decide_eq_true (by omega)))]
          simp
      · refine ⟨_, rfl, iteF (fin false ?_)⟩
        unfold okName
        rw [show decide (1 ≤ x.length) = false from decide_eq_false (fun z => c1 (decide_eq_true (by omega)))]
        simp
    | _ => exact k H (Same.refl H)
end
end Pw

set_option Elab.async false
set_option linter.all false
set_option maxRecDepth 100000
set_option maxHeartbeats 4000000
namespace Pw
open PySem PySem.Spec PyProof.Rows L2 Ct
section
variable {P : Program} {w : World} {K : PySem.W.Frag} {mg : Str → Option Value} {base : Heap}
abbrev sSource : Stmt := top ix_law_source
theorem scSource : FnScope ["script", "start", "mixed", "cell", "rest"] ["script", "start"] (defScope sSource) := ⟨rfl, rfl, rfl, by decide +kernel, rfl, by decide +kernel, by decide +kernel⟩
theorem has_source (T : Bn mg) (D : DFE K mg "_law_source" sSource ["script", "start"]) : Has P w K mg base CX0 1 "_law_source" ["script", "start"] (spSource K) := by
  refine has_of D scSource (fun vs H Q E h => ?_) (fun f cdv A outer s H vs Q E hr h => ?_)
  · obtain ⟨a, ns, st, rfl, _⟩ := h; rfl
  · obtain ⟨a, ns, st, rfl, st0, st1, hS, hlen, hbits, k⟩ := h
    have nd := scSource.nd
    refine ⟨_, (pss_cons (ps_sv 2 nd (pe_op op_add pe_int (pv 1)))
      (pss_cons (ps_for PassesOwn.never rfl (pi_list (pv 0)) (pg_name (i := 3) nd rfl (by first | exact Or.inl rfl | exact Or.inr rfl)) (pss_one (ps_sv 2 nd (pe_op op_add (pe_op op_mod (pe_callTy call_int1 (by rfl) T.z_int (by decide +kernel) (pa_cons (pe_op op_powW (pe_callTy call_int1 (by rfl) T.z_int (by decide +kernel) (pa_cons (pe_op op_add (pe_op op_mul (pv 2) pe_int) (pe_callTy call_int1 (by rfl) T.z_int (by decide +kernel) (pa_cons (pv 3) pa_nil))) pa_nil)) pe_int) pa_nil)) pe_int) pe_int))))
      (pss_cons (ps_sv 4 nd pe_int)
      (pss_cons (ps_if (PW.pt (pw_and (pt_cmpR op_lt (pv 1) (pe_callB call_len (by rfl) T.z_len (by decide +kernel) (pa_cons (pv 0) pa_nil)) (by first | exact nomark _ | rfl)) (pw_and1 (pt_cmpR op_ge (pe_ix ix_list (pv 0) (pv 1) (fun _ _ => rfl)) (pe_op op_powW pe_int pe_int) (by first | exact nomark _ | rfl))))) (pss_one (ps_sv 4 nd (pe_op op_sub (pe_ix ix_list (pv 0) (pv 1) (fun _ _ => rfl)) (pe_op op_powW pe_int pe_int)))) pss_nil)
      (pss_one (ps_ret (pe_lst (pa_cons (pv 4) (pa_cons (pv 2) pa_nil))))))))), ?_⟩
    -- mixed = 83 + start; the loop
    refine ⟨_, rfl, _, _, rfl, rfl, _, rfl, a, rfl, ⟨_, hS⟩, for_list (K := K) (a := a) (xs := ns.map V.int) (fun i σ H' => H' = H ∧ ∃ (m : Int) (c : Option V), σ = [some (.ref a), some (.int st), some (.int m), c, none] ∧ 0 ≤ m ∧ m ≤ 2147483647)
      ⟨rfl, _, none, rfl, by omega, by omega⟩ (fun i σ H' _ ⟨e, _⟩ => by rw [e]; exact hS) ?_ ?_⟩
    · rintro i y σ H' hi ⟨rfl, m, c, rfl, m0, m1⟩
      obtain ⟨z, _, hz, rfl⟩ := ints_at hi
      have b1 : Builtin.Int.intBits (m * 50021 + z) ≤ 1048577 := intBits_add_le (m := 1048576) (n := 1048576) (Nat.le_trans (bits_small (n := 64) (by omega) (by omega)) (by decide)) (hbits z hz)
      refine ⟨_, rfl, _, _, rfl, rfl, .inl ⟨by omega, by omega⟩, _, rfl, .inl ⟨_, rfl, _, _, rfl, rfl, .inl ⟨_, rfl, _, _, rfl, rfl, pow_ok b1 (by decide) (by decide), .inl ⟨_, rfl, _, _, rfl, rfl, by show (0 : Int) < 2147483563; decide, _, _, rfl, rfl, ?_⟩⟩⟩⟩
      have q0 := Int.emod_nonneg ((m * 50021 + z) ^ (3 : Int).toNat) (show (2147483563 : Int) ≠ 0 by decide)
      have q1 := Int.emod_lt_of_pos ((m * 50021 + z) ^ (3 : Int).toNat) (show (0 : Int) < 2147483563 by decide)
      exact ⟨rfl, _, _, rfl, by omega, by omega⟩
    · rintro σ H' ⟨rfl, m, c, rfl, m0, m1⟩
      have p18 : CPowW 10 18 := pow_ok (n := 4) (by decide +kernel) (by decide) (by decide)
      -- start < len(script) and script[start] >= 10 ** 18
      refine ⟨_, rfl, _, rfl, _, _, rfl, .inl ⟨_, hS, rfl⟩, _, _, rfl, rfl, _, rfl, ?_⟩
      refine ite2 (fun c1 => ?_) (fun _ => iteF ?_)
      · have c1 := of_decide_eq_true c1
        obtain ⟨y, hy, ey⟩ := at_in st0 c1
        obtain ⟨z, hz, rfl⟩ := List.mem_map.mp hy
        refine ⟨_, rfl, _, rfl, a, _, st, _, rfl, rfl, hS, ey, _, _, rfl, rfl, p18, _, _, rfl, rfl, _, rfl, ?_⟩
        refine ite2 (fun c2 => ?_) (fun _ => ?_)
        · have c2 : (10 : Int) ^ (18 : Int).toNat ≤ z := of_decide_eq_true c2
          refine ⟨_, rfl, _, rfl, a, _, st, _, rfl, rfl, hS, ey, _, _, rfl, rfl, p18, _, _, rfl, rfl, _, rfl, _, rfl, (by show 2 ≤ sizeLine; decide), fun p hp => ?_⟩
          exact k p _ _ hp ⟨by omega, m0, m1⟩
        · refine ⟨_, rfl, _, rfl, (by show 2 ≤ sizeLine; decide), fun p hp => ?_⟩
          exact k p _ _ hp ⟨by decide, m0, m1⟩
      · refine ⟨_, rfl, _, rfl, (by show 2 ≤ sizeLine; decide), fun p hp => ?_⟩
        exact k p _ _ hp ⟨by decide, m0, m1⟩
abbrev sDraw : Stmt := top ix_law_draw
theorem scDraw : FnScope ["source", "span", "found"] ["source", "span"] (defScope sDraw) := ⟨rfl, rfl, rfl, by decide +kernel, rfl, by decide +kernel, by decide +kernel⟩
theorem has_draw (T : Bn mg) (D : DFE K mg "_law_draw" sDraw ["source", "span"]) : Has P w K mg base CX0 1 "_law_draw" ["source", "span"] spDraw := by
  refine has_of D scDraw (fun vs H Q E h => ?_) (fun f cdv A outer s H vs Q E hr h => ?_)
  · obtain ⟨p, r, m, n, rfl, _⟩ := h; rfl
  · obtain ⟨p, r, m, n, rfl, hp, ⟨r0, m0, m1⟩, n1, n2, k⟩ := h
    have nd := scDraw.nd
    refine ⟨_, (pss_cons (ps_if (pt_cmpR op_ge (pe_ix ix_list (pv 0) pe_int (fun _ _ => rfl)) (pv 1) (by first | exact nomark _ | rfl)) (pss_cons (ps_sv 2 nd (pe_op op_mod (pe_callTy call_int1 (by rfl) T.z_int (by decide +kernel) (pa_cons (pe_ix ix_list (pv 0) pe_int (fun _ _ => rfl)) pa_nil)) (pv 1)))
      (pss_cons (ps_asg (pe_op op_fdivW (pe_ix ix_list (pv 0) pe_int (fun _ _ => rfl)) (pv 1)) (pg_sub (pv 0) pe_int set_list))
      (pss_one (ps_ret (pv 2))))) pss_nil)
      (pss_cons (ps_asg (pe_op op_mod (pe_callTy call_int1 (by rfl) T.z_int (by decide +kernel) (pa_cons (pe_op op_add (pe_op op_mul (pe_ix ix_list (pv 0) pe_int (fun _ _ => rfl)) pe_int) pe_int) pa_nil)) pe_int) (pg_sub (pv 0) pe_int set_list))
      (pss_one (ps_ret (pe_op op_mod (pe_callTy call_int1 (by rfl) T.z_int (by decide +kernel) (pa_cons (pe_op op_fdivW (pe_op op_mod (pe_callTy call_int1 (by rfl) T.z_int (by decide +kernel) (pa_cons (pe_op op_powW (pe_callTy call_int1 (by rfl) T.z_int (by decide +kernel) (pa_cons (pe_ix ix_list (pv 0) pe_int (fun _ _ => rfl)) pa_nil)) pe_int) pa_nil)) pe_int) pe_int) pa_nil)) (pv 1)))))), ?_⟩
    -- source[0] >= span
    refine ⟨_, rfl, p, _, 0, _, rfl, rfl, SqL.of hp, rfl, _, rfl, _, _, rfl, rfl, _, rfl, ?_⟩
    refine ite2 (fun c1 => ?_) (fun _ => ?_)
    · refine ⟨_, rfl, p, _, 0, _, rfl, rfl, SqL.of hp, rfl, .inl ⟨_, rfl, _, rfl, _, _, rfl, rfl, (show 0 < n by omega), ?_⟩⟩
      refine ⟨_, rfl, p, _, 0, _, rfl, rfl, SqL.of hp, rfl, _, rfl, _, _, rfl, rfl, wide_div (b := 32) (by omega) (by omega) (by decide) (by decide), _, rfl, p, _, 0, 0, rfl, rfl, hp, rfl, ?_⟩
      refine ⟨_, rfl, ?_⟩
      exact k _ _ _ ⟨Int.ediv_nonneg r0 (by omega), m0, m1⟩ (Int.emod_nonneg _ (by omega)) (Int.emod_lt_of_pos _ (by omega))
    · have q0 := Int.emod_nonneg (m * 69621 + 4241) (show (2147483647 : Int) ≠ 0 by decide)
      have q1 := Int.emod_lt_of_pos (m * 69621 + 4241) (show (0 : Int) < 2147483647 by decide)
      refine ⟨_, rfl, p, _, 1, _, rfl, rfl, SqL.of hp, rfl, _, _, rfl, rfl, .inl ⟨by omega, by omega⟩, _, _, rfl, rfl, .inl ⟨_, rfl, _, _, rfl, rfl, (show (0 : Int) < 2147483647 by decide), ?_⟩⟩
      refine ⟨_, rfl, p, _, 1, 1, rfl, rfl, hp, rfl, ?_⟩
      refine ⟨_, rfl, p, _, 1, _, rfl, rfl, SqL.of upd_same, rfl, .inl ⟨_, rfl, ?_⟩⟩
      refine ⟨_, _, rfl, rfl, pow_ok (n := 32) (bits_small q0 (by omega)) (by decide) (by decide), .inl ⟨_, rfl, ?_⟩⟩
      refine ⟨_, _, rfl, rfl, (show (0 : Int) < 1000000007 by decide), _, _, rfl, rfl, wide_div (b := 8) (by decide) (by decide) (by decide) (by decide), .inl ⟨_, rfl, ?_⟩⟩
      refine ⟨_, rfl, _, _, rfl, rfl, (show 0 < n by omega), ?_⟩
      exact k _ _ _ ⟨r0, q0, by omega⟩ (Int.emod_nonneg _ (by omega)) (Int.emod_lt_of_pos _ (by omega))
end
end Pw

set_option Elab.async false
set_option linter.all false
set_option maxRecDepth 100000
set_option maxHeartbeats 4000000
namespace Pw
open PySem PySem.Spec PyProof.Rows L2 Ct
local macro_rules | `(tactic| wide_line) => `(tactic| repeat ((fail_if_success (with_reducible refine at_while ?_)); (fail_if_success (with_reducible refine at_while1 ?_)); (conv => whnf); first | ((with_reducible refine And.intro ?_ ?_); focus (first | (first | ((with_reducible show (_ : Nat) ≤ _); first | exact sz0 | exact sz1 | exact sz2 | exact sz3 | exact sz4 | exact sz5 | exact sz6 | exact sz7 | exact sz8 | exact sz10 | exact sz11 | exact sz12 | exact sz14 | omega | decide | (simp only [List.length_cons, List.length_nil]; omega)) | ((with_reducible show (_ : Int) ≤ _); first | omega | decide) | ((with_reducible show (_ : Int) < _); first | omega | decide) | ((with_reducible show (_ : Nat) < _); omega)) | ((fail_if_success (with_reducible show (_ : Nat) ≤ _)); (fail_if_success (with_reducible show (_ : Int) ≤ _)); (fail_if_success (with_reducible show (_ : Int) < _)); (fail_if_success (with_reducible show (_ : Nat) < _)); first | exact kv_str _ | exact kv_int _ | rfl | assumption | exact flat_strs _ | exact Lv.get (by assumption) 0 rfl | exact Lv.get (by assumption) 1 rfl | exact Lv.get (by assumption) 2 rfl | exact Lv.get (by assumption) 3 rfl | exact Lv.get (by assumption) 4 rfl | exact Lv.get (by assumption) 5 rfl | exact Lv.get (by assumption) 6 rfl | exact SqL.of (Lv.get (by assumption) 0 rfl) | exact SqL.of (Lv.get (by assumption) 1 rfl) | exact SqL.of (Lv.get (by assumption) 2 rfl) | exact SqL.of (Lv.get (by assumption) 3 rfl) | exact SqL.of (Lv.get (by assumption) 4 rfl) | exact SqL.of (Lv.get (by assumption) 5 rfl) | exact Or.inl (SqL.of (Lv.get (by assumption) 0 rfl)) | exact Or.inl (SqL.of (Lv.get (by assumption) 1 rfl)) | exact Or.inl (SqL.of (Lv.get (by assumption) 2 rfl)) | exact Or.inl (SqL.of (Lv.get (by assumption) 3 rfl)) | exact Or.inl (SqL.of (Lv.get (by assumption) 4 rfl)) | exact Or.inl (SqL.of (Lv.get (by assumption) 5 rfl)) | exact ⟨_, SqL.of (Lv.get (by assumption) 0 rfl)⟩ | exact ⟨_, SqL.of (Lv.get (by assumption) 1 rfl)⟩ | exact ⟨_, SqL.of (Lv.get (by assumption) 2 rfl)⟩ | exact ⟨_, SqL.of (Lv.get (by assumption) 3 rfl)⟩ | exact ⟨_, SqL.of (Lv.get (by assumption) 4 rfl)⟩ | exact ⟨_, SqL.of (Lv.get (by assumption) 5 rfl)⟩ | exact Or.inl ⟨_, SqL.of (Lv.get (by assumption) 0 rfl), rfl⟩ | exact Or.inl ⟨_, SqL.of (Lv.get (by assumption) 1 rfl), rfl⟩ | exact Or.inl ⟨_, SqL.of (Lv.get (by assumption) 2 rfl), rfl⟩ | exact Or.inl ⟨_, SqL.of (Lv.get (by assumption) 3 rfl), rfl⟩ | exact Or.inl ⟨_, SqL.of (Lv.get (by assumption) 4 rfl), rfl⟩ | exact Or.inl ⟨_, SqL.of (Lv.get (by assumption) 5 rfl), rfl⟩ | exact Or.inl ⟨rfl, _, SqL.of (Lv.get (by assumption) 0 rfl)⟩ | exact Or.inl ⟨rfl, _, SqL.of (Lv.get (by assumption) 1 rfl)⟩ | exact Or.inl ⟨rfl, _, SqL.of (Lv.get (by assumption) 2 rfl)⟩ | exact Or.inl ⟨rfl, _, SqL.of (Lv.get (by assumption) 3 rfl)⟩ | exact Or.inl ⟨rfl, _, SqL.of (Lv.get (by assumption) 4 rfl)⟩ | exact Or.inl ⟨rfl, _, SqL.of (Lv.get (by assumption) 5 rfl)⟩ | exact Or.inr (SqT.of (Lv.get (by assumption) 0 rfl)) | exact Or.inr (SqT.of (Lv.get (by assumption) 1 rfl)) | exact Or.inr (SqT.of (Lv.get (by assumption) 2 rfl)) | exact Or.inr (SqT.of (Lv.get (by assumption) 3 rfl)) | exact SqT.of (Lv.get (by assumption) 0 rfl) | exact SqT.of (Lv.get (by assumption) 1 rfl) | exact SqT.of (Lv.get (by assumption) 2 rfl) | exact dgetN (Lv.get (by assumption) 0 rfl) (by assumption) | exact dgetN (Lv.get (by assumption) 1 rfl) (by assumption) | exact dgetN (Lv.get (by assumption) 2 rfl) (by assumption) | exact dgetN (Lv.get (by assumption) 3 rfl) (by assumption) | exact dgetN (Lv.get (by assumption) 4 rfl) (by assumption) | decide | ((with_reducible show _ ∧ _); omega)))) | ((fail_if_success (with_reducible apply @Exists.intro (Nat → _))); (with_reducible apply Exists.intro))))
local macro_rules
  | `(tactic| wide_line with al $lv:ident $l:ident $nl:ident $H:ident $lv1:ident $s1:ident) => `(tactic| (intro $l:ident $nl:ident; generalize he : upd _ _ _ = $H:ident; have $lv1:ident := Lv.alE $lv $nl he; have $s1:ident := sameE $nl he; clear he; (try dsimp only at $lv1:ident)))
  | `(tactic| wide_line with alx $lv:ident $nl:ident $H:ident $lv1:ident $s1:ident) => `(tactic| (generalize he : upd _ _ _ = $H:ident; have $lv1:ident := Lv.alE $lv $nl he; have $s1:ident := sameE $nl he; clear he; (try dsimp only at $lv1:ident)))
  | `(tactic| wide_line with sts $lv:ident $i:num $H:ident $lv1:ident $s0:ident $np:ident $s1:ident) => `(tactic| (generalize he : upd _ _ _ = $H:ident; have $lv1:ident := Lv.stE $lv $i rfl he; have $s1:ident := sameN $s0 $np he; clear he; (try dsimp only at $lv1:ident)))
  | `(tactic| wide_line with st $lv:ident $i:num $H:ident $lv1:ident) => `(tactic| (generalize he : upd _ _ _ = $H:ident; have $lv1:ident := Lv.stE $lv $i rfl he; clear he; (try dsimp only at $lv1:ident)))
  | `(tactic| wide_line with stk $lv:ident $i:num $H:ident $lv1:ident $k1:ident) => `(tactic| (generalize he : upd _ _ _ = $H:ident; have $lv1:ident := Lv.stE $lv $i rfl he; have $k1:ident := KeepT.st (Lv.get $lv $i rfl) he; clear he; (try dsimp only at $lv1:ident)))
/-- mixed(source, things): a new list of them in some sequence -/
def spMixed (K : PySem.W.Frag) : Sp := fun vs H Q _ => ∃ (p q : Addr) (r m : Int) (xs : List V), vs = [.ref p, .ref q] ∧ H p = some (.lst [.int r, .int m]) ∧ SrcOk r m ∧ SqS K H q xs ∧ xs.length ≤ 100000 ∧
  ∀ r' m' ys l H', SrcOk r' m' → ys.Perm xs → (∀ b o, b ≠ p → H b = some o → H' b = some o) → H' p = some (.lst [.int r', .int m']) → H l = none → H' l = some (.lst ys) → Q (.ref l) H'
section
variable {P : Program} {w : World} {K : PySem.W.Frag} {mg : Str → Option Value} {base : Heap}
abbrev sLawMixed : Stmt := top ix_law_mixed
theorem scLawMixed : FnScope ["source", "things", "lot", "found"] ["source", "things"] (defScope sLawMixed) := ⟨rfl, rfl, rfl, by decide +kernel, rfl, by decide +kernel, by decide +kernel⟩
theorem has_mixed (T : Bn mg) (D : DFE K mg "_law_mixed" sLawMixed ["source", "things"]) (h_law_draw : Has P w K mg base CX0 1 "_law_draw" ["source", "span"] spDraw) : Has P w K mg base CX0 2 "_law_mixed" ["source", "things"] (spMixed K) := by
  refine has_of D scLawMixed (fun vs H Q E h => ?_) (fun f cdv A outer s H vs Q E hr h => ?_)
  · obtain ⟨p, q, r, m, xs, rfl, _⟩ := h; rfl
  · obtain ⟨p, q, r, m, xs, rfl, hp, ok, hx, hl, k⟩ := h
    have nd := scLawMixed.nd
    refine ⟨_, (pss_cons (ps_par (i := 2) (j := 3) (by rfl) nd rfl rfl (by decide) rfl rfl (pa_cons (pe_callTy call_list_of (by rfl) T.z_list (by decide +kernel) (pa_cons (pv 1) pa_nil)) (pa_cons (pe_lst pa_nil) pa_nil)) (by rfl))
    (pss_cons (ps_while PassesOwn.never (pt_cmpR (op_neNil hr.units) (pv 2) (pe_lst pa_nil) (by first | exact nomark _ | rfl)) (pss_one (ps_expr (pe_bm PySem.F.plainAttrs_list PySem.F.slot_list_append PySem.F.type_list_append mt_append (pv 3) (pa_cons (pe_bm PySem.F.plainAttrs_list PySem.F.slot_list_pop PySem.F.type_list_pop mt_popAt (pv 2) (pa_cons (pe_h h_law_draw hr (by decide) rfl (pa_cons (pv 0) (pa_cons (pe_callB call_len (by rfl) T.z_len (by decide +kernel) (pa_cons (pv 2) pa_nil)) pa_nil))) pa_nil)) pa_nil)))))
    (pss_one (ps_ret (pv 3))))), ?_⟩
    have lv := Lv.one hp
    wide_line
    wide_line with al lv l nl H1 lv1 s1
    wide_line
    wide_line with al lv1 fd nf H2 lv2 s2
    wide_line
    have s02 := s1.trans s2
    refine while_n (fun σ H' => Hold (∃ (r m : Int) (ys zs : List V), σ = [some (.ref p), some (.ref q), some (.ref l), some (.ref fd)] ∧ Lv H [p] H' [(fd, .lst zs), (l, .lst ys), (p, .lst [.int r, .int m])] ∧ SrcOk r m ∧ (zs ++ ys).Perm xs))
      (fun _ H' => lenH H' l) ⟨r, m, xs, [], rfl, lv2, ok, .refl _⟩ ?_
    rintro σ H3 ⟨r3, m3, ys, zs, rfl, lv3, ok3, pm⟩
    wide_line
    wide_line with al lv3 e0 ne H4 lv4 s4
    wide_line
    cases ys with
    | nil =>
      refine iteF ?_
      wide_line
      exact k r3 m3 zs fd H4 ok3 (by simpa using pm) lv4.off (Lv.get lv4 3 rfl) (lv1.free nf) (Lv.get lv4 1 rfl)
    | cons y0 ys =>
      refine iteT ⟨_, while_nx, ?_⟩
      wide_line
      have few : zs.length + (ys.length + 1) ≤ 100000 := by
        have := pm.length_eq
        rw [List.length_append, List.length_cons] at this
        omega
      refine ⟨(show (1 : Int) ≤ ((y0 :: ys).length : Nat) by simp only [List.length_cons]; omega), (show (((y0 :: ys).length : Nat) : Int) ≤ 1000000000 by simp only [List.length_cons]; omega), fun r4 m4 j ok4 j0 j1 => ?_⟩
      wide_line with st lv4 3 H5 lv5
      have jl : j < 100001 := by
        have z := j1
        simp only [List.length_cons] at z
        omega
      have jn : j.toNat < (y0 :: ys).length := by omega
      wide_line
      have hk := PyProof.Rows.seqIndex_at j0 j1
      have hy : (y0 :: ys)[j.toNat]? = some ((y0 :: ys)[j.toNat]) := List.getElem?_eq_getElem jn
      refine ⟨hk, hy, ?_⟩
      wide_line with st lv5 2 H6 lv6
      wide_line
      refine ⟨(show zs.length < sizeLine by rw [sizeLine_eq]; omega), ?_⟩
      wide_line with st lv6 1 H7 lv7
      refine ⟨⟨r4, m4, (y0 :: ys).eraseIdx j.toNat, zs ++ [(y0 :: ys)[j.toNat]], rfl, lv7.tl (fun z => lv4.ne 0 3 (by decide) rfl rfl (List.mem_singleton.mp z)), ok4, ?_⟩, ?_⟩
      · refine List.Perm.trans ?_ pm
        rw [List.append_assoc]
        exact List.Perm.append_left zs (erase_perm jn)
      · rw [lenH_eq (lv7.get 2 rfl), lenH_eq (lv3.get 1 rfl), List.length_eraseIdx_of_lt jn]
        simp only [List.length_cons]
        omega
end
end Pw

set_option Elab.async false
set_option linter.all false
set_option maxRecDepth 100000
set_option maxHeartbeats 4000000
namespace Pw
open PySem PySem.Spec PyProof.Rows L2 Ct
local macro_rules | `(tactic| wide_line) => `(tactic| repeat ((fail_if_success (with_reducible refine at_while ?_)); (fail_if_success (with_reducible refine at_while1 ?_)); (conv => whnf); first | ((with_reducible refine And.intro ?_ ?_); focus (first | (first | ((with_reducible show (_ : Nat) ≤ _); first | exact sz0 | exact sz1 | exact sz2 | exact sz3 | exact sz4 | exact sz5 | exact sz6 | exact sz7 | exact sz8 | exact sz10 | exact sz11 | exact sz12 | exact sz14 | omega | decide | (simp only [List.length_cons, List.length_nil]; omega)) | ((with_reducible show (_ : Int) ≤ _); first | omega | decide) | ((with_reducible show (_ : Int) < _); first | omega | decide) | ((with_reducible show (_ : Nat) < _); omega)) | ((fail_if_success (with_reducible show (_ : Nat) ≤ _)); (fail_if_success (with_reducible show (_ : Int) ≤ _)); (fail_if_success (with_reducible show (_ : Int) < _)); (fail_if_success (with_reducible show (_ : Nat) < _)); first | exact kv_str _ | exact kv_int _ | rfl | assumption | exact flat_strs _ | exact Lv.get (by assumption) 0 rfl | exact Lv.get (by assumption) 1 rfl | exact Lv.get (by assumption) 2 rfl | exact Lv.get (by assumption) 3 rfl | exact Lv.get (by assumption) 4 rfl | exact Lv.get (by assumption) 5 rfl | exact Lv.get (by assumption) 6 rfl | exact SqL.of (Lv.get (by assumption) 0 rfl) | exact SqL.of (Lv.get (by assumption) 1 rfl) | exact SqL.of (Lv.get (by assumption) 2 rfl) | exact SqL.of (Lv.get (by assumption) 3 rfl) | exact SqL.of (Lv.get (by assumption) 4 rfl) | exact SqL.of (Lv.get (by assumption) 5 rfl) | exact Or.inl (SqL.of (Lv.get (by assumption) 0 rfl)) | exact Or.inl (SqL.of (Lv.get (by assumption) 1 rfl)) | exact Or.inl (SqL.of (Lv.get (by assumption) 2 rfl)) | exact Or.inl (SqL.of (Lv.get (by assumption) 3 rfl)) | exact Or.inl (SqL.of (Lv.get (by assumption) 4 rfl)) | exact Or.inl (SqL.of (Lv.get (by assumption) 5 rfl)) | exact ⟨_, SqL.of (Lv.get (by assumption) 0 rfl)⟩ | exact ⟨_, SqL.of (Lv.get (by assumption) 1 rfl)⟩ | exact ⟨_, SqL.of (Lv.get (by assumption) 2 rfl)⟩ | exact ⟨_, SqL.of (Lv.get (by assumption) 3 rfl)⟩ | exact ⟨_, SqL.of (Lv.get (by assumption) 4 rfl)⟩ | exact ⟨_, SqL.of (Lv.get (by assumption) 5 rfl)⟩ | exact Or.inl ⟨_, SqL.of (Lv.get (by assumption) 0 rfl), rfl⟩ | exact Or.inl ⟨_, SqL.of (Lv.get (by assumption) 1 rfl), rfl⟩ | exact Or.inl ⟨_, SqL.of (Lv.get (by assumption) 2 rfl), rfl⟩ | exact Or.inl ⟨_, SqL.of (Lv.get (by assumption) 3 rfl), rfl⟩ | exact Or.inl ⟨_, SqL.of (Lv.get (by assumption) 4 rfl), rfl⟩ | exact Or.inl ⟨_, SqL.of (Lv.get (by assumption) 5 rfl), rfl⟩ | exact Or.inl ⟨rfl, _, SqL.of (Lv.get (by assumption) 0 rfl)⟩ | exact Or.inl ⟨rfl, _, SqL.of (Lv.get (by assumption) 1 rfl)⟩ | exact Or.inl ⟨rfl, _, SqL.of (Lv.get (by assumption) 2 rfl)⟩ | exact Or.inl ⟨rfl, _, SqL.of (Lv.get (by assumption) 3 rfl)⟩ | exact Or.inl ⟨rfl, _, SqL.of (Lv.get (by assumption) 4 rfl)⟩ | exact Or.inl ⟨rfl, _, SqL.of (Lv.get (by assumption) 5 rfl)⟩ | exact Or.inr (SqT.of (Lv.get (by assumption) 0 rfl)) | exact Or.inr (SqT.of (Lv.get (by assumption) 1 rfl)) | exact Or.inr (SqT.of (Lv.get (by assumption) 2 rfl)) | exact Or.inr (SqT.of (Lv.get (by assumption) 3 rfl)) | exact SqT.of (Lv.get (by assumption) 0 rfl) | exact SqT.of (Lv.get (by assumption) 1 rfl) | exact SqT.of (Lv.get (by assumption) 2 rfl) | exact dgetN (Lv.get (by assumption) 0 rfl) (by assumption) | exact dgetN (Lv.get (by assumption) 1 rfl) (by assumption) | exact dgetN (Lv.get (by assumption) 2 rfl) (by assumption) | exact dgetN (Lv.get (by assumption) 3 rfl) (by assumption) | exact dgetN (Lv.get (by assumption) 4 rfl) (by assumption) | decide | ((with_reducible show _ ∧ _); omega)))) | ((fail_if_success (with_reducible apply @Exists.intro (Nat → _))); (with_reducible apply Exists.intro))))
local macro_rules
  | `(tactic| wide_line with al $lv:ident $l:ident $nl:ident $H:ident $lv1:ident $s1:ident) => `(tactic| (intro $l:ident $nl:ident; generalize he : upd _ _ _ = $H:ident; have $lv1:ident := Lv.alE $lv $nl he; have $s1:ident := sameE $nl he; clear he; (try dsimp only at $lv1:ident)))
  | `(tactic| wide_line with alx $lv:ident $nl:ident $H:ident $lv1:ident $s1:ident) => `(tactic| (generalize he : upd _ _ _ = $H:ident; have $lv1:ident := Lv.alE $lv $nl he; have $s1:ident := sameE $nl he; clear he; (try dsimp only at $lv1:ident)))
  | `(tactic| wide_line with sts $lv:ident $i:num $H:ident $lv1:ident $s0:ident $np:ident $s1:ident) => `(tactic| (generalize he : upd _ _ _ = $H:ident; have $lv1:ident := Lv.stE $lv $i rfl he; have $s1:ident := sameN $s0 $np he; clear he; (try dsimp only at $lv1:ident)))
  | `(tactic| wide_line with st $lv:ident $i:num $H:ident $lv1:ident) => `(tactic| (generalize he : upd _ _ _ = $H:ident; have $lv1:ident := Lv.stE $lv $i rfl he; clear he; (try dsimp only at $lv1:ident)))
  | `(tactic| wide_line with stk $lv:ident $i:num $H:ident $lv1:ident $k1:ident) => `(tactic| (generalize he : upd _ _ _ = $H:ident; have $lv1:ident := Lv.stE $lv $i rfl he; have $k1:ident := KeepT.st (Lv.get $lv $i rfl) he; clear he; (try dsimp only at $lv1:ident)))
/-- pick(source, text): a sign of it -/
def spPickS : Sp := fun vs H Q _ => ∃ (p : Addr) (r m : Int) (x : Str), vs = [.ref p, .str x] ∧ H p = some (.lst [.int r, .int m]) ∧ SrcOk r m ∧ 1 ≤ x.length ∧ x.length ≤ 1000 ∧
  ∀ r' m' c, SrcOk r' m' → c ∈ x.cps.toList → Q (.str ⟨#[c]⟩) (upd H p (.lst [.int r', .int m']))
def spPick2 (K : PySem.W.Frag) : Sp := fun vs H Q E => spPick K vs H Q E ∨ spPickS vs H Q E
section
variable {P : Program} {w : World} {K : PySem.W.Frag} {mg : Str → Option Value} {base : Heap}
abbrev sPick : Stmt := top ix_law_pick
theorem scPick : FnScope ["source", "things"] ["source", "things"] (defScope sPick) := ⟨rfl, rfl, rfl, by decide +kernel, rfl, by decide +kernel, by decide +kernel⟩
theorem has_pick (T : Bn mg) (D : DFE K mg "_law_pick" sPick ["source", "things"]) (h_law_draw : Has P w K mg base CX0 1 "_law_draw" ["source", "span"] spDraw) : Has P w K mg base CX0 2 "_law_pick" ["source", "things"] (spPick2 K) := by
  refine has_of D scPick (fun vs H Q E h => ?_) (fun f cdv A outer s H vs Q E hr h => ?_)
  · rcases h with ⟨p, q, r, m, xs, rfl, _⟩ | ⟨p, r, m, x, rfl, _⟩ <;> rfl
  · have nd := scPick.nd
    refine ⟨_, (pss_one (ps_ret (pe_ix ix_seq (pv 1) (pe_h h_law_draw hr (by decide) rfl (pa_cons (pv 0) (pa_cons (pe_callB call_len (by rfl) T.z_len (by decide +kernel) (pa_cons (pv 1) pa_nil)) pa_nil))) (fun _ _ => rfl)))), ?_⟩
    rcases h with ⟨p, q, r, m, xs, rfl, ne, hp, ok, hx, hne, hl, k⟩ | ⟨p, r, m, x, rfl, hp, ok, l1, l2, k⟩
    · have n1 : 1 ≤ xs.length := by
        cases xs with
        | nil => exact absurd rfl hne
        | cons _ _ => simp
      refine ⟨_, rfl, _, rfl, _, rfl, _, xs.length, rfl, ?_, p, r, m, _, rfl, hp, ok, by omega, by omega, fun r' m' j ok' j0 j1 => ?_⟩
      · rcases hx with hx | hx
        · exact .inl ⟨_, hx, rfl⟩
        · exact .inr ⟨_, hx, rfl⟩
      · obtain ⟨x, hm, ex⟩ := at_in j0 j1
        rcases hx with hx | hx
        · exact .inl ⟨q, xs, _, x, rfl, rfl, sqL_upd hx ne, ex, k _ _ _ ok' hm⟩
        · exact .inr (.inl ⟨q, xs, _, x, rfl, rfl, sqT_upd hx ne, ex, k _ _ _ ok' hm⟩)
    · have lz : x.length ≤ sizeLine := by rw [sizeLine_eq]; omega
      refine ⟨_, rfl, _, rfl, _, rfl, _, x.length, rfl, ⟨lz, rfl⟩, p, r, m, _, rfl, hp, ok, by omega, by omega, fun r' m' j ok' j0 j1 => ?_⟩
      have jn : j.toNat < x.cps.toList.length := by
        have : x.length = x.cps.toList.length := by simp [Str.length]
        omega
      have ex : atI x.cps.toList j = some (x.cps.toList[j.toNat]) := by
        unfold atI ixN
        rw [if_pos j0, if_pos (by omega)]
        exact List.getElem?_eq_getElem jn
      exact .inr (.inr ⟨x, j, _, rfl, rfl, lz, ex, k _ _ _ ok' (List.getElem_mem jn)⟩)
/-- word(source): a name -/
def spWord : Sp := fun vs H Q _ => ∃ (p : Addr) (r m : Int), vs = [.ref p] ∧ H p = some (.lst [.int r, .int m]) ∧ SrcOk r m ∧ ∀ r' m' x, SrcOk r' m' → okName x = true → Q (.str x) (upd H p (.lst [.int r', .int m']))
abbrev sLawWord : Stmt := top ix_law_word
theorem scLawWord : FnScope ["source", "word", "turn"] ["source"] (defScope sLawWord) := ⟨rfl, rfl, rfl, by decide +kernel, rfl, by decide +kernel, by decide +kernel⟩
theorem okSigns_snoc {x : Str} {c : Nat} (h : okSigns x = true) (hc : c ∈ LT.cps.toList) : okSigns (x ++ ⟨#[c]⟩) = true ∧ (x ++ ⟨#[c]⟩ : Str).length = x.length + 1 := by
  have e : (x ++ ⟨#[c]⟩ : Str).cps = x.cps ++ #[c] := rfl
  refine ⟨?_, ?_⟩
  · unfold okSigns at *
    rw [e, Array.toList_append, List.all_append, h]
    simp only [List.all_cons, List.all_nil, Bool.and_true, Bool.true_and]
    exact decide_eq_true hc
  · show (x ++ ⟨#[c]⟩ : Str).cps.size = _
    rw [e]
    simp [Str.length]
theorem has_word (T : Bn mg) (D : DFE K mg "_law_word" sLawWord ["source"]) (h_law_draw : Has P w K mg base CX0 1 "_law_draw" ["source", "span"] spDraw) (h_law_pick : Has P w K mg base CX0 2 "_law_pick" ["source", "things"] (spPick2 K)) : Has P w K mg base CX0 3 "_law_word" ["source"] spWord := by
  refine has_of D scLawWord (fun vs H Q E h => ?_) (fun f cdv A outer s H vs Q E hr h => ?_)
  · obtain ⟨p, r, m, rfl, _⟩ := h; rfl
  · obtain ⟨p, r, m, rfl, hp, ok, k⟩ := h
    have nd := scLawWord.nd
    refine ⟨_, (pss_cons (ps_sv 1 nd pe_str)
    (pss_cons (ps_for PassesOwn.never rfl (pi_range1 rfl T.z_range (pa_cons (pe_op op_add pe_int (pe_h h_law_draw hr (by decide) rfl (pa_cons (pv 0) (pa_cons pe_int pa_nil)))) pa_nil)) (pg_name (i := 2) nd rfl (by first | exact Or.inl rfl | exact Or.inr rfl)) (pss_one (ps_sv 1 nd (pe_op op_add_str (pv 1) (pe_h h_law_pick hr (by decide) rfl (pa_cons (pv 0) (pa_cons pe_str pa_nil)))))))
    (pss_one (ps_ret (pv 1))))), ?_⟩
    wide_line
    intro r1 m1 j ok1 j0 j1
    wide_line
    refine for_range (fun i σ H' => Hold (∃ (r m : Int) (x : Str) (u : Option V), σ = [some (.ref p), some (.str x), u] ∧ H' = upd H p (.lst [.int r, .int m]) ∧ SrcOk r m ∧ okSigns x = true ∧ x.length = i)) ⟨r1, m1, _, none, rfl, rfl, ok1, rfl, rfl⟩ ?_ ?_
    · rintro i σ H1 hi ⟨r2, m2, x, u, rfl, rfl, ok2, hs, hl⟩
      wide_line
      refine .inr ⟨p, r2, m2, LT, rfl, upd_same, ok2, by decide, by decide, fun r3 m3 c ok3 hc => ?_⟩
      rw [upd_upd]
      wide_line
      obtain ⟨h1, h2⟩ := okSigns_snoc hs hc
      refine ⟨(show x.length + (⟨#[c]⟩ : Str).length ≤ sizeLine by show x.length + 1 ≤ _; rw [sizeLine_eq]; omega), ?_⟩
      exact ⟨r3, m3, _, _, rfl, rfl, ok3, h1, by rw [h2, hl]⟩
    · rintro σ H1 ⟨r2, m2, x, u, rfl, rfl, ok2, hs, hl⟩
      wide_line
      refine k r2 m2 x ok2 ?_
      unfold okName
      rw [hs, decide_eq_true (show 1 ≤ x.length by omega), decide_eq_true (show x.length ≤ 8 by omega)]
      rfl
end
end Pw

set_option Elab.async false
set_option linter.all false
set_option maxRecDepth 100000
set_option maxHeartbeats 4000000
namespace Pw
open PySem PySem.Spec PyProof.Rows L2 Ct
local macro_rules | `(tactic| wide_line) => `(tactic| repeat ((fail_if_success (with_reducible refine at_while ?_)); (fail_if_success (with_reducible refine at_while1 ?_)); (conv => whnf); first | ((with_reducible refine And.intro ?_ ?_); focus (first | (first | ((with_reducible show (_ : Nat) ≤ _); first | exact sz0 | exact sz1 | exact sz2 | exact sz3 | exact sz4 | exact sz5 | exact sz6 | exact sz7 | exact sz8 | exact sz10 | exact sz11 | exact sz12 | exact sz14 | omega | decide | (simp only [List.length_cons, List.length_nil]; omega)) | ((with_reducible show (_ : Int) ≤ _); first | omega | decide) | ((with_reducible show (_ : Int) < _); first | omega | decide) | ((with_reducible show (_ : Nat) < _); omega)) | ((fail_if_success (with_reducible show (_ : Nat) ≤ _)); (fail_if_success (with_reducible show (_ : Int) ≤ _)); (fail_if_success (with_reducible show (_ : Int) < _)); (fail_if_success (with_reducible show (_ : Nat) < _)); first | exact kv_str _ | exact kv_int _ | rfl | assumption | exact flat_strs _ | exact Lv.get (by assumption) 0 rfl | exact Lv.get (by assumption) 1 rfl | exact Lv.get (by assumption) 2 rfl | exact Lv.get (by assumption) 3 rfl | exact Lv.get (by assumption) 4 rfl | exact Lv.get (by assumption) 5 rfl | exact Lv.get (by assumption) 6 rfl | exact SqL.of (Lv.get (by assumption) 0 rfl) | exact SqL.of (Lv.get (by assumption) 1 rfl) | exact SqL.of (Lv.get (by assumption) 2 rfl) | exact SqL.of (Lv.get (by assumption) 3 rfl) | exact SqL.of (Lv.get (by assumption) 4 rfl) | exact SqL.of (Lv.get (by assumption) 5 rfl) | exact Or.inl (SqL.of (Lv.get (by assumption) 0 rfl)) | exact Or.inl (SqL.of (Lv.get (by assumption) 1 rfl)) | exact Or.inl (SqL.of (Lv.get (by assumption) 2 rfl)) | exact Or.inl (SqL.of (Lv.get (by assumption) 3 rfl)) | exact Or.inl (SqL.of (Lv.get (by assumption) 4 rfl)) | exact Or.inl (SqL.of (Lv.get (by assumption) 5 rfl)) | exact ⟨_, SqL.of (Lv.get (by assumption) 0 rfl)⟩ | exact ⟨_, SqL.of (Lv.get (by assumption) 1 rfl)⟩ | exact ⟨_, SqL.of (Lv.get (by assumption) 2 rfl)⟩ | exact ⟨_, SqL.of (Lv.get (by assumption) 3 rfl)⟩ | exact ⟨_, SqL.of (Lv.get (by assumption) 4 rfl)⟩ | exact ⟨_, SqL.of (Lv.get (by assumption) 5 rfl)⟩ | exact Or.inl ⟨_, SqL.of (Lv.get (by assumption) 0 rfl), rfl⟩ | exact Or.inl ⟨_, SqL.of (Lv.get (by assumption) 1 rfl), rfl⟩ | exact Or.inl ⟨_, SqL.of (Lv.get (by assumption) 2 rfl), rfl⟩ | exact Or.inl ⟨_, SqL.of (Lv.get (by assumption) 3 rfl), rfl⟩ | exact Or.inl ⟨_, SqL.of (Lv.get (by assumption) 4 rfl), rfl⟩ | exact Or.inl ⟨_, SqL.of (Lv.get (by assumption) 5 rfl), rfl⟩ | exact Or.inl ⟨rfl, _, SqL.of (Lv.get (by assumption) 0 rfl)⟩ | exact Or.inl ⟨rfl, _, SqL.of (Lv.get (by assumption) 1 rfl)⟩ | exact Or.inl ⟨rfl, _, SqL.of (Lv.get (by assumption) 2 rfl)⟩ | exact Or.inl ⟨rfl, _, SqL.of (Lv.get (by assumption) 3 rfl)⟩ | exact Or.inl ⟨rfl, _, SqL.of (Lv.get (by assumption) 4 rfl)⟩ | exact Or.inl ⟨rfl, _, SqL.of (Lv.get (by assumption) 5 rfl)⟩ | exact Or.inr (SqT.of (Lv.get (by assumption) 0 rfl)) | exact Or.inr (SqT.of (Lv.get (by assumption) 1 rfl)) | exact Or.inr (SqT.of (Lv.get (by assumption) 2 rfl)) | exact Or.inr (SqT.of (Lv.get (by assumption) 3 rfl)) | exact SqT.of (Lv.get (by assumption) 0 rfl) | exact SqT.of (Lv.get (by assumption) 1 rfl) | exact SqT.of (Lv.get (by assumption) 2 rfl) | exact dgetN (Lv.get (by assumption) 0 rfl) (by assumption) | exact dgetN (Lv.get (by assumption) 1 rfl) (by assumption) | exact dgetN (Lv.get (by assumption) 2 rfl) (by assumption) | exact dgetN (Lv.get (by assumption) 3 rfl) (by assumption) | exact dgetN (Lv.get (by assumption) 4 rfl) (by assumption) | decide | ((with_reducible show _ ∧ _); omega)))) | ((fail_if_success (with_reducible apply @Exists.intro (Nat → _))); (with_reducible apply Exists.intro))))
local macro_rules
  | `(tactic| wide_line with al $lv:ident $l:ident $nl:ident $H:ident $lv1:ident $s1:ident) => `(tactic| (intro $l:ident $nl:ident; generalize he : upd _ _ _ = $H:ident; have $lv1:ident := Lv.alE $lv $nl he; have $s1:ident := sameE $nl he; clear he; (try dsimp only at $lv1:ident)))
  | `(tactic| wide_line with alx $lv:ident $nl:ident $H:ident $lv1:ident $s1:ident) => `(tactic| (generalize he : upd _ _ _ = $H:ident; have $lv1:ident := Lv.alE $lv $nl he; have $s1:ident := sameE $nl he; clear he; (try dsimp only at $lv1:ident)))
  | `(tactic| wide_line with sts $lv:ident $i:num $H:ident $lv1:ident $s0:ident $np:ident $s1:ident) => `(tactic| (generalize he : upd _ _ _ = $H:ident; have $lv1:ident := Lv.stE $lv $i rfl he; have $s1:ident := sameN $s0 $np he; clear he; (try dsimp only at $lv1:ident)))
  | `(tactic| wide_line with st $lv:ident $i:num $H:ident $lv1:ident) => `(tactic| (generalize he : upd _ _ _ = $H:ident; have $lv1:ident := Lv.stE $lv $i rfl he; clear he; (try dsimp only at $lv1:ident)))
  | `(tactic| wide_line with stk $lv:ident $i:num $H:ident $lv1:ident $k1:ident) => `(tactic| (generalize he : upd _ _ _ = $H:ident; have $lv1:ident := Lv.stE $lv $i rfl he; have $k1:ident := KeepT.st (Lv.get $lv $i rfl) he; clear he; (try dsimp only at $lv1:ident)))
/-- names(source, n): a new list of n names -/
def spNames : Sp := fun vs H Q _ => ∃ (p : Addr) (r m : Int) (n : Nat), vs = [.ref p, .int n] ∧ H p = some (.lst [.int r, .int m]) ∧ SrcOk r m ∧ 1 ≤ n ∧ n ≤ 14 ∧
  ∀ (r' m' : Int) (ns : List Str) (l : Addr) (H' : Hp), SrcOk r' m' → ns.length = n → ns.Nodup → (∀ x ∈ ns, okName x = true) → (∀ b o, b ≠ p → H b = some o → H' b = some o) → H' p = some (.lst [.int r', .int m']) → H l = none → H' l = some (.lst (ns.map V.str)) → Q (.ref l) H'
abbrev names14 : List Str := ["a", "b", "c", "d", "e", "f", "g", "h", "i", "place", "tie", "none", "guard", "abcdefgh"]
section
variable {P : Program} {w : World} {K : PySem.W.Frag} {mg : Str → Option Value} {base : Heap}
abbrev sLawNames : Stmt := top ix_law_names
theorem scLawNames : FnScope ["source", "many", "some", "word"] ["source", "many"] (defScope sLawNames) := ⟨rfl, rfl, rfl, by decide +kernel, rfl, by decide +kernel, by decide +kernel⟩
theorem has_names (D : DFE K mg "_law_names" sLawNames ["source", "many"]) (h_law_draw : Has P w K mg base CX0 1 "_law_draw" ["source", "span"] spDraw) (h_law_mixed : Has P w K mg base CX0 2 "_law_mixed" ["source", "things"] (spMixed K)) (h_law_word : Has P w K mg base CX0 3 "_law_word" ["source"] spWord) : Has P w K mg base CX0 4 "_law_names" ["source", "many"] spNames := by
  refine has_of D scLawNames (fun vs H Q E h => ?_) (fun f cdv A outer s H vs Q E hr h => ?_)
  · obtain ⟨p, r, m, n, rfl, _⟩ := h; rfl
  · obtain ⟨p, r, m, n, rfl, hp, ok, n1, n2, k⟩ := h
    have nd := scLawNames.nd
    refine ⟨_, (pss_cons (ps_sv 2 nd (pe_lst (pa_cons pe_str (pa_cons pe_str (pa_cons pe_str (pa_cons pe_str (pa_cons pe_str (pa_cons pe_str (pa_cons pe_str (pa_cons pe_str (pa_cons pe_str (pa_cons pe_str (pa_cons pe_str (pa_cons pe_str (pa_cons pe_str (pa_cons pe_str pa_nil))))))))))))))))
    (pss_cons (ps_sv 2 nd (pe_h h_law_mixed hr (by decide) rfl (pa_cons (pv 0) (pa_cons (pv 2) pa_nil))))
    (pss_cons (ps_sv 3 nd (pe_h h_law_word hr (by decide) rfl (pa_cons (pv 0) pa_nil)))
    (pss_cons (ps_if (pt_cmpR op_notIn_seq (pv 3) (pv 2) (by first | exact nomark _ | rfl)) (pss_one (ps_asg (pv 3) (pg_sub (pv 2) (pe_h h_law_draw hr (by decide) rfl (pa_cons (pv 0) (pa_cons (pv 1) pa_nil))) set_list))) pss_nil)
    (pss_one (ps_ret (pe_slice sl_list (pv 2) po_none (po_some (pv 1))))))))), ?_⟩
    have lv := Lv.one hp
    wide_line
    wide_line with al lv s0 n0 H1 lv1 s1
    wide_line
    intro r1 m1 ys l H2 ok1 pm off2 src2 nl hl
    have lv2 := lv1.stn 1 rfl src2 off2 nl hl
    obtain ⟨ns, pn, rfl⟩ := strs_perm (xs := names14) pm
    have nsl : ns.length = 14 := pn.length_eq
    have nsd : ns.Nodup := pn.nodup_iff.mpr (by decide +kernel)
    have nso : ∀ x ∈ ns, okName x = true := fun x hx => List.all_eq_true.mp (show names14.all okName = true by decide +kernel) x (pn.mem_iff.mp hx)
    wide_line
    intro r3 m3 x ok3 hx
    wide_line with st lv2 2 H3 lv3
    wide_line
    rw [if_pos rfl, in_strs]
    refine ite2 (fun c => ?_) (fun c => ?_)
    · wide_line
      intro r4 m4 j ok4 j0 j1
      wide_line with st lv3 2 H4 lv4
      have c : x ∉ ns := fun z => by rw [decide_eq_true z] at c; cases c
      wide_line
      refine ⟨(show ixN _ j = some j.toNat by unfold ixN; rw [if_pos j0, if_pos (by rw [List.length_map]; omega)]), ?_⟩
      wide_line with st lv4 0 H5 lv5
      wide_line
      rw [cut_take, ← List.map_set, ← List.map_take]
      wide_line with al lv5 l2 n2 H6 lv6 s6
      refine k r4 m4 ((ns.set j.toNat x).take n) l2 H6 ok4 ?_ ?_ ?_ lv6.off (lv6.get 3 rfl) (lv5.free n2) (lv6.get 0 rfl)
      · rw [List.length_take, List.length_set]; omega
      · exact (nodup_set nsd c).sublist (List.take_sublist _ _)
      · intro y hy
        rcases List.mem_or_eq_of_mem_set (List.mem_of_mem_take hy) with z | z
        · exact nso y z
        · exact z ▸ hx
    · wide_line
      rw [cut_take, ← List.map_take]
      wide_line with al lv3 l2 n2 H4 lv4 s4
      refine k r3 m3 (ns.take n) l2 H4 ok3 ?_ ?_ ?_ lv4.off (lv4.get 3 rfl) (lv3.free n2) (lv4.get 0 rfl)
      · rw [List.length_take]; omega
      · exact nsd.sublist (List.take_sublist _ _)
      · exact fun y hy => nso y (List.mem_of_mem_take hy)
end
end Pw

set_option Elab.async false
set_option linter.all false
set_option maxRecDepth 100000
set_option maxHeartbeats 4000000
namespace Pw
open PySem PySem.Spec PyProof.Rows L2 Ct
local macro_rules | `(tactic| wide_line) => `(tactic| repeat ((fail_if_success (with_reducible refine at_while ?_)); (fail_if_success (with_reducible refine at_while1 ?_)); (conv => whnf); first | ((with_reducible refine And.intro ?_ ?_); focus (first | (first | ((with_reducible show (_ : Nat) ≤ _); first | exact sz0 | exact sz1 | exact sz2 | exact sz3 | exact sz4 | exact sz5 | exact sz6 | exact sz7 | exact sz8 | exact sz10 | exact sz11 | exact sz12 | exact sz14 | omega | decide | (simp only [List.length_cons, List.length_nil]; omega)) | ((with_reducible show (_ : Int) ≤ _); first | omega | decide) | ((with_reducible show (_ : Int) < _); first | omega | decide) | ((with_reducible show (_ : Nat) < _); omega)) | ((fail_if_success (with_reducible show (_ : Nat) ≤ _)); (fail_if_success (with_reducible show (_ : Int) ≤ _)); (fail_if_success (with_reducible show (_ : Int) < _)); (fail_if_success (with_reducible show (_ : Nat) < _)); first | exact kv_str _ | exact kv_int _ | rfl | assumption | exact flat_strs _ | exact Lv.get (by assumption) 0 rfl | exact Lv.get (by assumption) 1 rfl | exact Lv.get (by assumption) 2 rfl | exact Lv.get (by assumption) 3 rfl | exact Lv.get (by assumption) 4 rfl | exact Lv.get (by assumption) 5 rfl | exact Lv.get (by assumption) 6 rfl | exact SqL.of (Lv.get (by assumption) 0 rfl) | exact SqL.of (Lv.get (by assumption) 1 rfl) | exact SqL.of (Lv.get (by assumption) 2 rfl) | exact SqL.of (Lv.get (by assumption) 3 rfl) | exact SqL.of (Lv.get (by assumption) 4 rfl) | exact SqL.of (Lv.get (by assumption) 5 rfl) | exact Or.inl (SqL.of (Lv.get (by assumption) 0 rfl)) | exact Or.inl (SqL.of (Lv.get (by assumption) 1 rfl)) | exact Or.inl (SqL.of (Lv.get (by assumption) 2 rfl)) | exact Or.inl (SqL.of (Lv.get (by assumption) 3 rfl)) | exact Or.inl (SqL.of (Lv.get (by assumption) 4 rfl)) | exact Or.inl (SqL.of (Lv.get (by assumption) 5 rfl)) | exact ⟨_, SqL.of (Lv.get (by assumption) 0 rfl)⟩ | exact ⟨_, SqL.of (Lv.get (by assumption) 1 rfl)⟩ | exact ⟨_, SqL.of (Lv.get (by assumption) 2 rfl)⟩ | exact ⟨_, SqL.of (Lv.get (by assumption) 3 rfl)⟩ | exact ⟨_, SqL.of (Lv.get (by assumption) 4 rfl)⟩ | exact ⟨_, SqL.of (Lv.get (by assumption) 5 rfl)⟩ | exact Or.inl ⟨_, SqL.of (Lv.get (by assumption) 0 rfl), rfl⟩ | exact Or.inl ⟨_, SqL.of (Lv.get (by assumption) 1 rfl), rfl⟩ | exact Or.inl ⟨_, SqL.of (Lv.get (by assumption) 2 rfl), rfl⟩ | exact Or.inl ⟨_, SqL.of (Lv.get (by assumption) 3 rfl), rfl⟩ | exact Or.inl ⟨_, SqL.of (Lv.get (by assumption) 4 rfl), rfl⟩ | exact Or.inl ⟨_, SqL.of (Lv.get (by assumption) 5 rfl), rfl⟩ | exact Or.inl ⟨rfl, _, SqL.of (Lv.get (by assumption) 0 rfl)⟩ | exact Or.inl ⟨rfl, _, SqL.of (Lv.get (by assumption) 1 rfl)⟩ | exact Or.inl ⟨rfl, _, SqL.of (Lv.get (by assumption) 2 rfl)⟩ | exact Or.inl ⟨rfl, _, SqL.of (Lv.get (by assumption) 3 rfl)⟩ | exact Or.inl ⟨rfl, _, SqL.of (Lv.get (by assumption) 4 rfl)⟩ | exact Or.inl ⟨rfl, _, SqL.of (Lv.get (by assumption) 5 rfl)⟩ | exact Or.inr (SqT.of (Lv.get (by assumption) 0 rfl)) | exact Or.inr (SqT.of (Lv.get (by assumption) 1 rfl)) | exact Or.inr (SqT.of (Lv.get (by assumption) 2 rfl)) | exact Or.inr (SqT.of (Lv.get (by assumption) 3 rfl)) | exact SqT.of (Lv.get (by assumption) 0 rfl) | exact SqT.of (Lv.get (by assumption) 1 rfl) | exact SqT.of (Lv.get (by assumption) 2 rfl) | exact dgetN (Lv.get (by assumption) 0 rfl) (by assumption) | exact dgetN (Lv.get (by assumption) 1 rfl) (by assumption) | exact dgetN (Lv.get (by assumption) 2 rfl) (by assumption) | exact dgetN (Lv.get (by assumption) 3 rfl) (by assumption) | exact dgetN (Lv.get (by assumption) 4 rfl) (by assumption) | decide | ((with_reducible show _ ∧ _); omega)))) | ((fail_if_success (with_reducible apply @Exists.intro (Nat → _))); (with_reducible apply Exists.intro))))
local macro_rules
  | `(tactic| wide_line with al $lv:ident $l:ident $nl:ident $H:ident $lv1:ident $s1:ident) => `(tactic| (intro $l:ident $nl:ident; generalize he : upd _ _ _ = $H:ident; have $lv1:ident := Lv.alE $lv $nl he; have $s1:ident := sameE $nl he; clear he; (try dsimp only at $lv1:ident)))
  | `(tactic| wide_line with alx $lv:ident $nl:ident $H:ident $lv1:ident $s1:ident) => `(tactic| (generalize he : upd _ _ _ = $H:ident; have $lv1:ident := Lv.alE $lv $nl he; have $s1:ident := sameE $nl he; clear he; (try dsimp only at $lv1:ident)))
  | `(tactic| wide_line with sts $lv:ident $i:num $H:ident $lv1:ident $s0:ident $np:ident $s1:ident) => `(tactic| (generalize he : upd _ _ _ = $H:ident; have $lv1:ident := Lv.stE $lv $i rfl he; have $s1:ident := sameN $s0 $np he; clear he; (try dsimp only at $lv1:ident)))
  | `(tactic| wide_line with st $lv:ident $i:num $H:ident $lv1:ident) => `(tactic| (generalize he : upd _ _ _ = $H:ident; have $lv1:ident := Lv.stE $lv $i rfl he; clear he; (try dsimp only at $lv1:ident)))
  | `(tactic| wide_line with stk $lv:ident $i:num $H:ident $lv1:ident $k1:ident) => `(tactic| (generalize he : upd _ _ _ = $H:ident; have $lv1:ident := Lv.stE $lv $i rfl he; have $k1:ident := KeepT.st (Lv.get $lv $i rfl) he; clear he; (try dsimp only at $lv1:ident)))
/-- different couples i < j < b -/
def PsOk (b : Nat) (ps : List (Nat × Nat)) : Prop := ps.Nodup ∧ ∀ q ∈ ps, q.1 < q.2 ∧ q.2 < b
theorem PsOk.add {b : Nat} {ps qs : List (Nat × Nat)} (h : PsOk b ps) (hq : qs.Nodup) (h2 : ∀ q ∈ qs, q.1 < q.2 ∧ q.2 = b) : PsOk (b + 1) (ps ++ qs) := by
  refine ⟨List.nodup_append.mpr ⟨h.1, hq, fun x hx y hy e => ?_⟩, fun q hq => ?_⟩
  · subst e
    have := (h.2 x hx).2
    have := (h2 x hy).2
    omega
  · rcases List.mem_append.mp hq with z | z
    · have := h.2 q z; exact ⟨this.1, by omega⟩
    · have := h2 q z; exact ⟨this.1, by omega⟩
/-- pairs(source, n, kind): a new list of different couples i < j < n -/
def spPairs : Sp := fun vs H Q _ => ∃ (p : Addr) (r m : Int) (n : Nat) (kd : Int), vs = [.ref p, .int n, .int kd] ∧ H p = some (.lst [.int r, .int m]) ∧ SrcOk r m ∧ 1 ≤ n ∧ n ≤ 14 ∧
  ∀ (r' m' : Int) (ps : List (Nat × Nat)) (xs : List V) (l : Addr) (H' : Hp), SrcOk r' m' → PsOk n ps → (∀ b o, b ≠ p → H b = some o → H' b = some o) → H' p = some (.lst [.int r', .int m']) → H l = none → H' l = some (.lst xs) → PairsT H' xs ps → Q (.ref l) H'
section
variable {P : Program} {w : World} {K : PySem.W.Frag} {mg : Str → Option Value} {base : Heap}
abbrev sLawPairs : Stmt := top ix_law_pairs
theorem scLawPairs : FnScope ["source", "many", "kind", "found", "at", "to", "seen", "one"] ["source", "many", "kind"] (defScope sLawPairs) := ⟨rfl, rfl, rfl, by decide +kernel, rfl, by decide +kernel, by decide +kernel⟩
theorem has_pairs (T : Bn mg) (D : DFE K mg "_law_pairs" sLawPairs ["source", "many", "kind"]) (h_law_draw : Has P w K mg base CX0 1 "_law_draw" ["source", "span"] spDraw) : Has P w K mg base CX0 2 "_law_pairs" ["source", "many", "kind"] spPairs := by
  refine has_of D scLawPairs (fun vs H Q E h => ?_) (fun f cdv A outer s H vs Q E hr h => ?_)
  · obtain ⟨p, r, m, n, kd, rfl, _⟩ := h; rfl
  · obtain ⟨p, r, m, n, kd, rfl, hp, ok, n1, n2, k⟩ := h
    have nd := scLawPairs.nd
    refine ⟨_, (pss_cons (ps_sv 3 nd (pe_lst pa_nil))
    (pss_cons (ps_for PassesOwn.never rfl (pi_range2 rfl T.z_range (pa_cons pe_int (pa_cons (pv 1) pa_nil))) (pg_name (i := 4) nd rfl (by first | exact Or.inl rfl | exact Or.inr rfl)) (pss_one (ps_if (pt_cmpR op_in_seq (pv 2) (pe_tup (pa_cons pe_int (pa_cons pe_int pa_nil))) (by first | exact nomark _ | rfl)) (pss_one (ps_sv 3 nd (pe_op op_cat (pv 3) (pe_lc (own := [("to", 5)]) (g := gName 5) rfl nd (pi_range1 rfl T.z_range (pa_cons (pv 4) pa_nil)) (blkOk_by (own := [("to", 5)]) (N := ["source", "many", "kind", "found", "at", "to", "seen", "one"]) (sc := defScope sLawPairs) (by decide +kernel)) (fun _ _ _ _ _ => (pg_name (i := 5) nd rfl (by first | exact Or.inl rfl | exact Or.inr rfl))) (fun _ _ _ _ _ => (pts_one (pt_cmpR op_gt (pe_h h_law_draw hr (by decide) rfl (pa_cons (pv 0) (pa_cons pe_int pa_nil))) (pv 2) (by first | exact nomark _ | rfl)))) (fun _ _ _ _ _ => (pe_tup (pa_cons (pv 5) (pa_cons (pv 4) pa_nil)))))))) (pss_one (ps_if (PW.pt (pw_or (pt_cmpR op_eq (pv 2) pe_int (by first | exact nomark _ | rfl)) (pw_or1 (PW.pt (pw_and (pt_cmpR op_eq (pv 2) pe_int (by first | exact nomark _ | rfl)) (pw_and1 (pt_cmpR op_lt (pv 4) pe_int (by first | exact nomark _ | rfl)))))))) (pss_cons (ps_expr (pe_bm PySem.F.plainAttrs_list PySem.F.slot_list_append PySem.F.type_list_append mt_append (pv 3) (pa_cons (pe_tup (pa_cons (pe_op op_sub (pv 4) pe_int) (pa_cons (pv 4) pa_nil))) pa_nil)))
    (pss_one (ps_if (PW.pt (pw_or (PW.pt (pw_and (pt_cmpR op_eq (pv 4) (pe_op op_sub (pv 1) pe_int) (by first | exact nomark _ | rfl)) (pw_and1 (pt_cmpR op_gt (pv 4) pe_int (by first | exact nomark _ | rfl))))) (pw_or1 (PW.pt (pw_and (pt_cmpR op_eq (pv 2) pe_int (by first | exact nomark _ | rfl)) (pw_and1 (pt_cmpR op_eq (pv 4) pe_int (by first | exact nomark _ | rfl)))))))) (pss_one (ps_expr (pe_bm PySem.F.plainAttrs_list PySem.F.slot_list_append PySem.F.type_list_append mt_append (pv 3) (pa_cons (pe_tup (pa_cons pe_int (pa_cons (pv 4) pa_nil))) pa_nil)))) pss_nil))) (pss_one (ps_if (pt_cmpR op_eq (pv 2) pe_int (by first | exact nomark _ | rfl)) (pss_one (ps_expr (pe_bm PySem.F.plainAttrs_list PySem.F.slot_list_append PySem.F.type_list_append mt_append (pv 3) (pa_cons (pe_tup (pa_cons (pe_h h_law_draw hr (by decide) rfl (pa_cons (pv 0) (pa_cons (pv 4) pa_nil))) (pa_cons (pv 4) pa_nil))) pa_nil)))) (pss_cons (ps_sv 5 nd (pe_h h_law_draw hr (by decide) rfl (pa_cons (pv 0) (pa_cons (pv 4) pa_nil))))
    (pss_cons (ps_setLc (i := 6) (own := [("one", 7)]) (g := gName 7) rfl nd rfl rfl (sw_true rfl rfl rfl (by decide +kernel)) (pi_range1 rfl T.z_range (pa_cons (pv 4) pa_nil)) (blkOk_by (own := [("one", 7)]) (N := ["source", "many", "kind", "found", "at", "to", "seen", "one"]) (sc := defScope sLawPairs) (by decide +kernel)) (fun _ _ _ _ _ => (pg_name (i := 7) nd rfl (by first | exact Or.inl rfl | exact Or.inr rfl))) (fun _ _ _ _ _ => (pts_one (pt_cmpR (op_inDk (K := K) rfl (units65 hr)) (pe_tup (pa_cons (pe_callB (call_min2 rfl) (by rfl) T.z_min (by decide +kernel) (pa_cons (pv 7) (pa_cons (pv 5) pa_nil))) (pa_cons (pe_callB (call_max2 rfl) (by rfl) T.z_max (by decide +kernel) (pa_cons (pv 7) (pa_cons (pv 5) pa_nil))) pa_nil))) (pv 3) (by first | exact nomark _ | rfl)))) (fun _ _ _ _ _ => (pv 7)))
    (pss_one (ps_sv 3 nd (pe_op op_cat (pe_op op_cat (pv 3) (pe_lst (pa_cons (pe_tup (pa_cons (pv 5) (pa_cons (pv 4) pa_nil))) pa_nil))) (pe_lc (own := [("one", 7)]) (g := gName 7) rfl nd (pi_list (pv 6)) (blkOk_by (own := [("one", 7)]) (N := ["source", "many", "kind", "found", "at", "to", "seen", "one"]) (sc := defScope sLawPairs) (by decide +kernel)) (fun _ _ _ _ _ => (pg_name (i := 7) nd rfl (by first | exact Or.inl rfl | exact Or.inr rfl))) (fun _ _ _ _ _ => (pts_one (pt_cmpR op_eq (pe_h h_law_draw hr (by decide) rfl (pa_cons (pv 0) (pa_cons pe_int pa_nil))) pe_int (by first | exact nomark _ | rfl)))) (fun _ _ _ _ _ => (pe_tup (pa_cons (pv 7) (pa_cons (pv 4) pa_nil)))))))))))))))))
    (pss_one (ps_ret (pv 3))))), ?_⟩
    have lv := Lv.one hp
    wide_line
    wide_line with al lv l0 nl0 H1 lv1 s1
    wide_line
    refine for_range (fun i σ H' => Hold (∃ (r m : Int) (l : Addr) (xs : List V) (ps : List (Nat × Nat)) (u4 u5 u6 u7 : Option V), σ = [some (.ref p), some (.int n), some (.int kd), some (.ref l), u4, u5, u6, u7] ∧
      Lv H [p] H' [(l, .lst xs), (p, .lst [.int r, .int m])] ∧ SrcOk r m ∧ PairsT H' xs ps ∧ PsOk (1 + i) ps ∧ ps.length ≤ 16 * i)) ⟨r, m, l0, [], [], none, none, none, none, rfl, lv1, ok, .nil, ⟨List.nodup_nil, fun _ z => nomatch z⟩, Nat.zero_le _⟩ ?_ ?_
    · rintro i σ H2 hi ⟨r2, m2, l, xs, ps, u4, u5, u6, u7, rfl, lv2, ok2, pt, po, pl⟩
      rw [show (1 : Int) + (i : Nat) = ((1 + i : Nat) : Int) by omega]
      wide_line
      wide_line with al lv2 t0 nt0 H3 lv3 s3
      wide_line
      have pt3 := pt.keep (KeepT.same s3)
      refine ite2 (fun c => ?_) (fun c => ?_)
      · wide_line
        intro D nD
        refine lc_range (fun j H' => Hold (∃ (r m : Int) (acc : List V) (qs : List (Nat × Nat)), Lv H [p] H' [(D, .lst acc), (t0, .tup [.int 0, .int 1]), (l, .lst xs), (p, .lst [.int r, .int m])] ∧ SrcOk r m ∧ PairsT H' acc qs ∧ qs.Nodup ∧ (∀ q ∈ qs, q.1 < j ∧ q.2 = 1 + i) ∧ qs.length ≤ j ∧ PairsT H' xs ps))
          ⟨r2, m2, [], [], lv3.al nD, ok2, .nil, List.nodup_nil, (fun _ z => nomatch z), Nat.zero_le _, pt3.keep (KeepT.same (same_new nD))⟩ ?_ ?_
        · rintro j H4 hj ⟨r4, m4, acc, qs, lv4, ok4, pa, qn, qo, ql, px⟩
          rw [Int.zero_add]
          wide_line
          intro r5 m5 k5 ok5 k50 k51
          wide_line with stk lv4 3 H5 lv5 kt5
          wide_line
          have pa5 := pa.keep kt5
          have px5 := px.keep kt5
          refine ite2 (fun c => ?_) (fun c => ?_)
          · wide_line
            wide_line with al lv5 t1 nt1 H6 lv6 s6
            wide_line
            have al := paired_len pa
            refine ⟨by rw [sizeLine_eq]; omega, ?_⟩
            wide_line with stk lv6 1 H7 lv7 kt7
            have kt := (KeepT.same s6).trans kt7
            refine ⟨r5, m5, _, qs ++ [(j, 1 + i)], ?_, ok5, paired_app (pa5.keep kt) (.cons ⟨t1, rfl, kt7 _ _ (lv6.get 0 rfl)⟩ .nil), ?_, ?_, by simp; omega, px5.keep kt⟩
            · exact lv7.tl (fun z => lv6.ne 0 4 (by decide) rfl rfl (List.mem_singleton.mp z))
            · refine List.nodup_append.mpr ⟨qn, (by simp), fun x hx y hy e => ?_⟩
              subst e
              have := (qo x hx).1
              rw [List.mem_singleton.mp hy] at this
              exact absurd this (Nat.lt_irrefl _)
            · intro q hq
              rcases List.mem_append.mp hq with z | z
              · have := qo q z; exact ⟨by omega, this.2⟩
              · rw [List.mem_singleton.mp z]; exact ⟨Nat.lt_succ_self j, rfl⟩
          · exact ⟨r5, m5, acc, qs, lv5, ok5, pa5, qn, (fun q hq => ⟨Nat.lt_succ_of_lt (qo q hq).1, (qo q hq).2⟩), Nat.le_succ_of_le ql, px5⟩
        · rintro H4 ⟨r4, m4, acc, qs, lv4, ok4, pa, qn, qo, ql, px⟩
          wide_line
          have al := paired_len pa
          have xl := paired_len px
          rw [Int.toNat_natCast] at ql qo
          refine ⟨by rw [sizeLine_eq]; omega, ?_⟩
          wide_line with al lv4 l5 nl5 H5 lv5 s5
          exact ⟨r4, m4, l5, _, ps ++ qs, _, _, _, _, rfl, lv5.pick2 0 4 (by decide) rfl rfl, ok4, paired_app (px.keep (.same s5)) (pa.keep (.same s5)), po.add qn (fun q hq => ⟨(by have := qo q hq; omega), (qo q hq).2⟩), by simp; omega⟩
      · have xl := paired_len pt3
        refine ifs_any (fun _ => True) (fun Q hQ => ?_) (fun _ => ?_) (fun _ => ?_)
        · wide_line
          refine ite2 (fun c => ?_) (fun c => ?_)
          · exact hQ _ True.intro
          · wide_line
            refine ite2 (fun c => ?_) (fun c => ?_)
            · wide_line
              exact hQ _ True.intro
            · exact hQ _ True.intro
        · wide_line
          wide_line with al lv3 t1 nt1 H4 lv4 s4
          rw [show ((1 + i : Nat) : Int) - 1 = (i : Nat) by omega] at lv4
          wide_line
          refine ⟨by rw [sizeLine_eq]; omega, ?_⟩
          wide_line with stk lv4 2 H5 lv5 kt5
          have pt5 : PairsT H5 (xs ++ [.ref t1]) (ps ++ [(i, 1 + i)]) := paired_app ((pt3.keep (.same s4)).keep kt5) (.cons ⟨t1, rfl, kt5 _ _ (lv4.get 0 rfl)⟩ (.nil : PairsT H5 [] []) : PairsT H5 [.ref t1] [(i, 1 + i)])
          dsimp only
          refine ifs_any (fun b => b = true → 1 ≤ i) (fun Q hQ => ?_) (fun c => ?_) (fun _ => ?_)
          · have second : tAnd (tTest (tOp rEq (tVar 2) (tC (V.int 3)))) (tTest (tOp rEq (tVar 4) (tC (V.int 3)))) ([some (.ref p), some (.int n), some (.int kd), some (.ref l), some (.int ((1 + i : Nat) : Int)), u5, u6, u7]) H5 Q := by
              wide_line
              refine ite2 (fun c => ?_) (fun c => ?_)
              · wide_line
                exact hQ _ (fun z => by have := of_decide_eq_true z; injection this with this; omega)
              · exact hQ _ (fun z => nomatch z)
            wide_line
            refine ite2 (fun c => ?_) (fun c => ?_)
            · wide_line
              refine ite2 (fun c => ?_) (fun c => ?_)
              · exact hQ _ (fun z => by have := of_decide_eq_true c; omega)
              · exact second
            · exact iteF second
          · have c := c rfl
            wide_line
            wide_line with al lv5 t2 nt2 H6 lv6 s6
            wide_line
            refine ⟨by rw [sizeLine_eq]; simp; omega, ?_⟩
            wide_line with stk lv6 3 H7 lv7 kt7
            refine ⟨r2, m2, l, _, _, _, _, _, _, rfl, lv7.pick2 3 4 (by decide) rfl rfl, ok2, paired_app ((pt5.keep (.same s6)).keep kt7) (.cons ⟨t2, rfl, kt7 _ _ (lv6.get 0 rfl)⟩ (.nil : PairsT H7 [] []) : PairsT H7 [.ref t2] [(0, 1 + i)]), ?_, by simp; omega⟩
            rw [List.append_assoc]
            refine po.add ?_ ?_
            · simp; omega
            · intro q hq
              simp at hq
              rcases hq with rfl | rfl
              · exact ⟨by show i < 1 + i; omega, rfl⟩
              · exact ⟨by show 0 < 1 + i; omega, rfl⟩
          · refine ⟨r2, m2, l, _, _, _, _, _, _, rfl, lv5.pick2 2 3 (by decide) rfl rfl, ok2, pt5, ?_, by simp; omega⟩
            refine po.add (by simp) ?_
            intro q hq
            rw [List.mem_singleton.mp hq]
            exact ⟨by show i < 1 + i; omega, rfl⟩
        · refine ifs_any (fun _ => True) (fun Q hQ => ?_) (fun _ => ?_) (fun _ => ?_)
          · wide_line
            exact hQ _ True.intro
          · wide_line
            intro r4 m4 j ok4 j0 j1
            obtain ⟨a, rfl⟩ := Int.eq_ofNat_of_zero_le j0
            wide_line with stk lv3 2 H4 lv4 kt4
            wide_line
            wide_line with al lv4 t1 nt1 H5 lv5 s5
            wide_line
            refine ⟨by rw [sizeLine_eq]; omega, ?_⟩
            wide_line with stk lv5 2 H6 lv6 kt6
            refine ⟨r4, m4, l, _, ps ++ [(a, 1 + i)], _, _, _, _, rfl, lv6.pick2 2 3 (by decide) rfl rfl, ok4, paired_app (((pt3.keep kt4).keep (.same s5)).keep kt6) (.cons ⟨t1, rfl, kt6 _ _ (lv5.get 0 rfl)⟩ (.nil : PairsT H6 [] []) : PairsT H6 [.ref t1] [(a, 1 + i)]), ?_, by simp; omega⟩
            refine po.add (by simp) ?_
            intro q hq
            rw [List.mem_singleton.mp hq]
            exact ⟨by show a < 1 + i; omega, rfl⟩
          · wide_line
            intro r4 m4 j ok4 j0 j1
            obtain ⟨a, rfl⟩ := Int.eq_ofNat_of_zero_le j0
            wide_line with stk lv3 2 H4 lv4 kt4
            wide_line
            have pt4 := pt3.keep kt4
            intro D nD
            refine lc_range (fun j H' => Hold (∃ ss : List Nat, Lv H [p] H' [(D, .lst (ss.map fun z => V.int (z : Nat))), (t0, .tup [.int 0, .int 1]), (l, .lst xs), (p, .lst [.int r4, .int m4])] ∧ ss.Nodup ∧ (∀ z ∈ ss, z < j ∧ z ≠ a) ∧ ss.length ≤ j ∧ PairsT H' xs ps))
              ⟨[], lv4.al nD, List.nodup_nil, (fun _ z => nomatch z), Nat.zero_le _, pt4.keep (.same (same_new nD))⟩ ?_ ?_
            · rintro j H5 hj ⟨ss, lv5, sn, so, sl, px⟩
              rw [Int.zero_add]
              wide_line
              wide_line with al lv5 t1 nt1 H6 lv6 s6
              have e1 : (if (a : Int) < (j : Nat) then (a : Int) else (j : Nat)) = ((if a < j then a else j : Nat) : Int) := by split <;> split <;> omega
              have e2 : (if (a : Int) > (j : Nat) then (a : Int) else (j : Nat)) = ((if a > j then a else j : Nat) : Int) := by split <;> split <;> omega
              rw [e1, e2] at lv6
              have px6 := px.keep (.same s6)
              wide_line
              refine ⟨(.tup (SqT.of (lv6.get 0 rfl)) (.cons (.int _) (.cons (.int _) .nil)) : Dp K H6 (.ref t1) (pairI (if a < j then a else j, if a > j then a else j))), .lst (SqL.of (lv6.get 3 rfl)) px6.dp, shaped_pair _, shaped_pairs _, ?_⟩
              rw [show ((ps.map pairI).any fun z => PyData.eqv z (.tuple [.int ((if a < j then a else j : Nat) : Int), .int ((if a > j then a else j : Nat) : Int)])) = decide (((if a < j then a else j), (if a > j then a else j)) ∈ ps) from any_pairI ps ((if a < j then a else j), (if a > j then a else j))]
              wide_line
              refine ite2 (fun c => ?_) (fun c => ?_)
              · wide_line
                refine ⟨by rw [List.length_map, sizeLine_eq]; omega, ?_⟩
                wide_line with stk lv6 1 H7 lv7 kt7
                refine ⟨ss ++ [j], ?_, ?_, ?_, by simp; omega, px6.keep kt7⟩
                · rw [List.map_append]
                  exact lv7.tl (fun z => lv6.ne 0 4 (by decide) rfl rfl (List.mem_singleton.mp z))
                · refine List.nodup_append.mpr ⟨sn, by simp, fun x hx y hy e => ?_⟩
                  subst e
                  have := (so x hx).1
                  rw [List.mem_singleton.mp hy] at this
                  exact absurd this (Nat.lt_irrefl _)
                · intro z hz
                  rcases List.mem_append.mp hz with z1 | z1
                  · have := so z z1; exact ⟨by omega, this.2⟩
                  · rw [List.mem_singleton.mp z1]
                    refine ⟨Nat.lt_succ_self j, fun e => ?_⟩
                    subst e
                    have := (po.2 _ (of_decide_eq_true c)).1
                    simp at this
              · exact ⟨ss, lv6.tl (fun z => lv6.ne 0 4 (by decide) rfl rfl (List.mem_singleton.mp z)), sn, (fun z hz => ⟨Nat.lt_succ_of_lt (so z hz).1, (so z hz).2⟩), Nat.le_succ_of_le sl, px6⟩
            · rintro H5 ⟨ss, lv5, sn, so, sl, px⟩
              rw [Int.toNat_natCast] at sl so
              have xl5 := paired_len px
              wide_line
              wide_line with al lv5 t1 nt1 H6 lv6 s6
              wide_line
              wide_line with al lv6 l1 nl1 H7 lv7 s7
              wide_line
              refine ⟨by rw [sizeLine_eq]; simp; omega, ?_⟩
              wide_line with al lv7 l2 nl2 H8 lv8 s8
              have s68 := s7.trans s8
              have px8 : PairsT H8 (xs ++ [.ref t1]) (ps ++ [(a, 1 + i)]) := paired_app (px.keep (.same (s6.trans s68))) (.cons ⟨t1, rfl, s68 _ _ (lv6.get 0 rfl)⟩ .nil)
              wide_line
              intro D2 nD2
              have lvD := lv8.al (o := .lst []) nD2
              refine lc_list (K := K) (a := D) (xs := ss.map fun z => V.int (z : Nat)) (fun k H' => Hold (∃ (r m : Int) (acc : List V) (sub : List Nat), Lv H [p] H' [(D2, .lst acc), (l2, .lst (xs ++ [.ref t1])), (D, .lst (ss.map fun z => V.int (z : Nat))), (p, .lst [.int r, .int m])] ∧ SrcOk r m ∧ PairsT H' acc (sub.map fun z => (z, 1 + i)) ∧ sub.Sublist (ss.take k) ∧ sub.length ≤ k ∧ PairsT H' (xs ++ [.ref t1]) (ps ++ [(a, 1 + i)])))
                ⟨r4, m4, [], [], lvD.picks [0, 1, 4, 7] rfl (by decide) (by simp), ok4, .nil, List.nil_sublist _, Nat.zero_le _, px8.keep (.same (same_new nD2))⟩ (fun k H' _ ⟨_, _, _, _, z, _⟩ => SqL.of (z.get 2 rfl)) ?_ ?_
              · rintro k y H9 hy ⟨r9, m9, acc, sub, lv9, ok9, pa, sb, sbl, px9⟩
                obtain ⟨z, hz, rfl⟩ : ∃ z, ss[k]? = some z ∧ y = .int (z : Nat) := by
                  rw [List.getElem?_map] at hy
                  cases e : ss[k]? with
                  | none => rw [e] at hy; cases hy
                  | some z => rw [e] at hy; exact ⟨z, rfl, (Option.some.inj hy).symm⟩
                have kl := (List.getElem?_eq_some_iff.mp hz).1
                wide_line
                intro r10 m10 j ok10 j0 j1
                wide_line with stk lv9 3 H10 lv10 kt10
                wide_line
                have pa10 := pa.keep kt10
                have px10 := px9.keep kt10
                have tk : ss.take (k + 1) = ss.take k ++ [z] := by rw [List.take_succ, hz]; rfl
                refine ite2 (fun c => ?_) (fun c => ?_)
                · wide_line
                  wide_line with al lv10 t2 nt2 H11 lv11 s11
                  wide_line
                  have al := paired_len pa
                  rw [List.length_map] at al
                  refine ⟨by rw [sizeLine_eq]; omega, ?_⟩
                  wide_line with stk lv11 1 H12 lv12 kt12
                  have kt := (KeepT.same s11).trans kt12
                  refine ⟨r10, m10, _, sub ++ [z], lv12.tl (fun z => lv11.ne 0 4 (by decide) rfl rfl (List.mem_singleton.mp z)), ok10, ?_, ?_, by simp; omega, px10.keep kt⟩
                  · rw [List.map_append]
                    exact paired_app (pa10.keep kt) (.cons ⟨t2, rfl, kt12 _ _ (lv11.get 0 rfl)⟩ .nil)
                  · rw [tk]
                    exact List.Sublist.append sb (List.Sublist.refl _)
                · exact ⟨r10, m10, acc, sub, lv10, ok10, pa10, by rw [tk]; exact sb.trans (List.sublist_append_left _ _), Nat.le_succ_of_le sbl, px10⟩
              · rintro H9 ⟨r9, m9, acc, sub, lv9, ok9, pa, sb, sbl, px9⟩
                rw [List.length_map] at sb sbl
                rw [List.take_length] at sb
                have al := paired_len pa
                rw [List.length_map] at al
                have xl9 := paired_len px9
                wide_line
                refine ⟨by rw [sizeLine_eq]; simp at xl9 ⊢; omega, ?_⟩
                wide_line with al lv9 l3 nl3 H10 lv10 s10
                refine ⟨r9, m9, l3, _, (ps ++ [(a, 1 + i)]) ++ sub.map fun z => (z, 1 + i), _, _, _, _, rfl, lv10.pick2 0 4 (by decide) rfl rfl, ok9, paired_app (px9.keep (.same s10)) (pa.keep (.same s10)), ?_, by simp; omega⟩
                rw [List.append_assoc]
                refine po.add ?_ ?_
                · refine List.nodup_append.mpr ⟨by simp, nodup_inj (fun x y e => (Prod.mk.inj e).1) (sn.sublist sb), fun x hx y hy e => ?_⟩
                  subst e
                  rw [List.mem_singleton.mp hx] at hy
                  obtain ⟨z, hz, e⟩ := List.mem_map.mp hy
                  exact (so z (sb.subset hz)).2 (Prod.mk.inj e).1
                · intro q hq
                  rcases List.mem_append.mp hq with z | z
                  · rw [List.mem_singleton.mp z]
                    exact ⟨by show a < 1 + i; omega, rfl⟩
                  · obtain ⟨y, hy, rfl⟩ := List.mem_map.mp z
                    exact ⟨(so y (sb.subset hy)).1, rfl⟩
    · rintro σ H2 ⟨r2, m2, l, xs, ps, u4, u5, u6, u7, rfl, lv2, ok2, pt, po, pl⟩
      wide_line
      have e : 1 + ((n : Int) - 1).toNat = n := by omega
      exact k r2 m2 ps xs l H2 ok2 (e ▸ po) lv2.off (lv2.get 1 rfl) (lv2.fresh 0 rfl (fun z => lv2.ne 0 1 (by decide) rfl rfl (List.mem_singleton.mp z))) (lv2.get 0 rfl) pt
end
end Pw

set_option Elab.async false
set_option linter.all false
set_option maxRecDepth 100000
set_option maxHeartbeats 4000000
namespace Pw
open PySem PySem.Spec PyProof.Rows L2 Ct
theorem iteNN {c A B : Prop} [Decidable c] (hc : ¬ c) (h : A) : if (!decide c) = true then A else B := by
  rw [decide_eq_false hc]
  exact iteT h
/-- names: a list or tuple of texts -/
abbrev Nms (K : PySem.W.Frag) (H : Hp) (a : Addr) (ns : List Str) : Prop := SqS K H a (ns.map V.str)
theorem map_kv (ns : List Str) : (ns.map Sum.inr : List Key).map kV = ns.map V.str := by rw [List.map_map]; rfl
theorem nodup_inr {ns : List Str} : (ns.map (Sum.inr : Str → Key)).Nodup ↔ ns.Nodup := by
  constructor
  · exact fun h => List.Pairwise.of_map _ (fun _ _ hne e => hne (congrArg _ e)) h
  · exact fun h => List.Pairwise.map _ (fun _ _ hne e => hne (Sum.inr.inj e)) h
def spAllDiffer (K : PySem.W.Frag) : Sp := fun vs H Q _ => ∃ (a : Addr) (ns : List Str), vs = [.ref a] ∧ Nms K H a ns ∧ ns.length < 4096 ∧ ∀ H', Same H H' → (ns.Nodup → Q (.bl true) H') ∧ (¬ ns.Nodup → Q (.bl false) H')
/-- a tuple of two data -/
def tieD : PyData → Option (PyData × PyData)
  | .tuple [x, y] => some (x, y)
  | _ => none
/-- the datum is a tie among the names -/
def tieOf (ns : List Str) : PyData → Option (Str × Str)
  | .tuple [x, y] => match x, y with
    | .str a, .str b => if a ∈ ns ∧ b ∈ ns ∧ a ≠ b then some (a, b) else none
    | _, _ => none
  | _ => none
theorem tie_no1 {ns : List Str} {x y : PyData} (h : amid x ns = false) : tieOf ns (.tuple [x, y]) = none := by
  cases x with
  | str a =>
    cases y with
    | str b => exact if_neg fun z => Bool.noConfusion (h.symm.trans (amid_str.mpr z.1))
    | _ => rfl
  | _ => rfl
theorem tie_no2 {ns : List Str} {x y : PyData} (h : amid y ns = false) : tieOf ns (.tuple [x, y]) = none := by
  cases x with
  | str a =>
    cases y with
    | str b => exact if_neg fun z => Bool.noConfusion (h.symm.trans (amid_str.mpr z.2.1))
    | _ => rfl
  | _ => rfl
theorem tie_yes {ns : List Str} {x y : Str} (h1 : amid (.str x) ns = true) (h2 : amid (.str y) ns = true) : (tieOf ns (.tuple [.str x, .str y])).isSome = !decide (V.str x = V.str y) := by
  show (if x ∈ ns ∧ y ∈ ns ∧ x ≠ y then some (x, y) else none).isSome = _
  by_cases e : x = y
  · rw [if_neg (fun z => z.2.2 e), e]; simp
  · rw [if_pos ⟨amid_str.mp h1, amid_str.mp h2, e⟩, decide_eq_false (fun z => e (V.str.inj z))]; rfl
/-- no dict within -/
def flatD : PyData → Bool
  | .dict _ => false
  | _ => true
mutual
def noDict : PyData → Bool
  | .dict _ => false
  | .list xs => noDicts xs
  | .tuple xs => noDicts xs
  | _ => true
def noDicts : List PyData → Bool
  | [] => true
  | x :: xs => noDict x && noDicts xs
end
mutual
theorem Dq.dp {K : PySem.W.Frag} {H : Hp} : ∀ {v : V} {d : PyData}, Dq K H v d → noDict d = true → Dp K H v d
  | _, _, .non, _ => .non
  | _, _, .bl b, _ => .bl b
  | _, _, .int i, _ => .int i
  | _, _, .str x, _ => .str x
  | _, _, .lst h a, n => .lst h (DqAll.dp a (by simpa [noDict] using n))
  | _, _, .tup h a, n => .tup h (DqAll.dp a (by simpa [noDict] using n))
  | _, _, .dic _ _ _ _, n => absurd n (by simp [noDict])
  | _, _, .dicT _ _ _ _, n => absurd n (by simp [noDict])
theorem DqAll.dp {K : PySem.W.Frag} {H : Hp} : ∀ {vs : List V} {ds : List PyData}, DqAll K H vs ds → noDicts ds = true → DpAll K H vs ds
  | _, _, .nil, _ => .nil
  | _, _, .cons h a, n => by
    rw [noDicts, Bool.and_eq_true] at n
    exact .cons (Dq.dp h n.1) (DqAll.dp a n.2)
end
/-- the entries are of a kind that can be compared -/
def plainTie : PyData → Prop
  | .tuple [x, y] => noDict x = true ∧ noDict y = true
  | _ => True
def spIsTie (K : PySem.W.Frag) : Sp := fun vs H Q _ => ∃ (a : Addr) (ns : List Str) (v : V) (d : PyData), vs = [.ref a, v] ∧ Nms K H a ns ∧ Dq K H v d ∧ plainTie d ∧ Q (.bl (tieOf ns d).isSome) H
/-- a tie's pair: the lesser text first -/
def ltS (x y : Str) : Bool := decide (x.cps.toList < y.cps.toList)
def pairS (x y : Str) : Str × Str := if ltS x y = true then (x, y) else (y, x)
def TupS (K : PySem.W.Frag) (H : Hp) (a : Addr) (p : Str × Str) : Prop := SqT K H a [.str p.1, .str p.2]
def spPair (K : PySem.W.Frag) : Sp := fun vs H Q _ => ∃ (a : Addr) (x y : Str), vs = [.ref a] ∧ TupS K H a (x, y) ∧ ∀ p, H p = none → Q (.ref p) (upd H p (.tup [.str (pairS x y).1, .str (pairS x y).2]))
section
variable {P : Program} {w : World} {K : PySem.W.Frag} {mg : Str → Option Value} {base : Heap}
abbrev sAllDiffer : Stmt := top ix_all_differ
theorem scAllDiffer : FnScope ["names"] ["names"] (defScope sAllDiffer) := ⟨rfl, rfl, rfl, by decide +kernel, rfl, by decide +kernel, by decide +kernel⟩
theorem has_all_differ (T : Bn mg) (D : DFE K mg "_all_differ" sAllDiffer ["names"]) : Has P w K mg base CX0 1 "_all_differ" ["names"] (spAllDiffer K) := by
  refine has_of D scAllDiffer (fun vs H Q E h => ?_) (fun f cdv A outer s H vs Q E hr h => ?_)
  · obtain ⟨a, ns, rfl, _⟩ := h; rfl
  · obtain ⟨a, ns, rfl, ha, hl, k⟩ := h
    have nd := scAllDiffer.nd
    refine ⟨_, (pss_one (ps_ret (pe_cmpR op_eq (pe_callB call_lenK (by rfl) T.z_len (by decide +kernel) (pa_cons (pe_callTy (call_setOf rfl) (by rfl) T.z_set (by decide +kernel) (pa_cons (pv 0) pa_nil)) pa_nil)) (pe_callB call_len_seq (by rfl) T.z_len (by decide +kernel) (pa_cons (pv 0) pa_nil)) (by first | exact nomark _ | rfl)))), ?_⟩
    refine ⟨_, rfl, a, ns.map Sum.inr, rfl, by rw [map_kv]; exact ha, by rw [List.length_map]; exact hl, fun p hp => ?_⟩
    have u := same_new (o := SetK P w p (fun k => (ns.map Sum.inr : List Key).any (fun j => decide (j = k))) (cnt (ns.map Sum.inr) (ns.map (Sum.inr : Str → Key)).length)) hp
    obtain ⟨H', hH'⟩ : ∃ H', H' = upd H p (SetK P w p (fun k => (ns.map Sum.inr : List Key).any (fun j => decide (j = k))) (cnt (ns.map Sum.inr) (ns.map (Sum.inr : Str → Key)).length)) := ⟨_, rfl⟩
    obtain ⟨k1, k2⟩ := k _ u
    rw [← hH'] at k1 k2
    refine ⟨p, _, _, rfl, upd_same, _, rfl, a, ns.map V.str, rfl, SqS.same u ha, rfl, ?_⟩
    have e : decide ((cnt (ns.map (Sum.inr : Str → Key)) (ns.map (Sum.inr : Str → Key)).length : Int) = ((ns.map V.str).length : Nat)) = decide ns.Nodup := by
      have z := cnt_eq (ns.map (Sum.inr : Str → Key)) _ (Nat.le_refl _)
      rw [List.take_length, nodup_inr] at z
      refine decide_eq_decide.mpr (Iff.trans ?_ z)
      rw [List.length_map, List.length_map]
      omega
    have ev : decide (V.int (cnt (ns.map (Sum.inr : Str → Key)) (ns.map (Sum.inr : Str → Key)).length : Nat) = V.int ((ns.map V.str).length : Nat)) = decide ns.Nodup := by
      rw [← e]
      exact decide_eq_decide.mpr ⟨fun z => V.int.inj z, fun z => congrArg V.int z⟩
    have fin : Q (.bl (decide ns.Nodup)) H' := by
      by_cases c : ns.Nodup
      · rw [decide_eq_true c]; exact k1 c
      · rw [decide_eq_false c]; exact k2 c
    rw [← ev, hH'] at fin
    exact fin
abbrev sIsTie : Stmt := top ix_is_tie
theorem scIsTie : FnScope ["places", "value", "one", "other"] ["places", "value"] (defScope sIsTie) := ⟨rfl, rfl, rfl, by decide +kernel, rfl, by decide +kernel, by decide +kernel⟩
theorem has_is_tie (T : Bn mg) (D : DFE K mg "_is_tie" sIsTie ["places", "value"]) : Has P w K mg base CX0 1 "_is_tie" ["places", "value"] (spIsTie K) := by
  refine has_of D scIsTie (fun vs H Q E h => ?_) (fun f cdv A outer s H vs Q E hr h => ?_)
  · obtain ⟨a, ns, v, d, rfl, _⟩ := h; rfl
  · obtain ⟨a, ns, v, d, rfl, ha, hd, pl, k⟩ := h
    have nd := scIsTie.nd
    refine ⟨_, (pss_cons (ps_if (PW.pt (pw_or (pt_not (pt_val (pe_callB call_isD (by rfl) T.z_isinstance (by decide +kernel) (pa_cons (pv 1) (pa_cons (pe_bltn (v := .ty "tuple") rfl T.z_tuple (by decide +kernel) rfl) pa_nil))))) (pw_or1 (pt_cmpR op_ne (pe_callB call_len_seq (by rfl) T.z_len (by decide +kernel) (pa_cons (pv 1) pa_nil)) pe_int (by first | exact nomark _ | rfl))))) (pss_one (ps_ret pe_bl)) pss_nil)
    (pss_cons (ps_asg (pv 1) (pg_tup rfl (pgs_cons (pg_name (i := 2) nd rfl (by first | exact Or.inl rfl | exact Or.inr rfl)) (pgs_cons (pg_name (i := 3) nd rfl (by first | exact Or.inl rfl | exact Or.inr rfl)) pgs_nil))))
    (pss_one (ps_ret (pe_and (pe_cmpR (or_amid hr.units) (pv 2) (pv 0) (by first | exact nomark _ | rfl)) (pe_and (pe_cmpR (or_amid hr.units) (pv 3) (pv 0) (by first | exact nomark _ | rfl)) (pe_one (pe_cmpR op_ne (pv 2) (pv 3) (by first | exact nomark _ | rfl))))))))), ?_⟩
    have no : tieOf ns d = none → Q (.bl false) H := fun e => by rw [e] at k; exact k
    refine ⟨_, rfl, _, d, "tuple", _, rfl, hd, kit_tuple d, _, rfl, ?_⟩
    cases hd with
    | @tup t xs ds ht hx =>
      refine iteF ⟨_, rfl, _, _, rfl, .inr ht, rfl, _, rfl, ?_⟩
      cases hx with
      | nil => exact iteT (no rfl)
      | @cons v1 vs1 d1 ds1 h1 hx =>
        cases hx with
        | nil => exact iteT (no rfl)
        | @cons v2 vs2 d2 ds2 h2 hx =>
          cases hx with
          | @cons v3 vs3 d3 ds3 h3 hx =>
            refine iteNN (fun z => ?_) (no rfl)
            have := V.int.inj z
            simp only [List.length_cons] at this
            omega
          | nil =>
            refine iteNS rfl ?_
            obtain ⟨p1, p2⟩ := pl
            refine ⟨_, rfl, t, _, rfl, ht, rfl, ?_⟩
            refine ⟨_, _, rfl, _, _, rfl, rfl, ?_⟩
            refine ⟨_, rfl, _, rfl, d1, a, ns, rfl, ha, Dq.dp h1 p1, ?_⟩
            rw [if_neg (by decide)]
            refine ⟨_, rfl, ?_⟩
            have two : ∀ b : Bool, b = (tieOf ns (.tuple [d1, d2])).isSome → Q (.bl b) H := fun b e => by subst e; exact k
            cases c1 : amid d1 ns with
            | false => exact iteF (two false (by rw [tie_no1 c1]; rfl))
            | true =>
              refine iteT ⟨_, rfl, _, rfl, d2, a, ns, rfl, ha, Dq.dp h2 p2, ?_⟩
              rw [if_neg (by decide)]
              refine ⟨_, rfl, ?_⟩
              cases c2 : amid d2 ns with
              | false => exact iteF (two false (by rw [tie_no2 c2]; rfl))
              | true =>
                refine iteT ?_
                cases d1 with
                | str x =>
                  cases d2 with
                  | str y =>
                    cases h1
                    cases h2
                    exact ⟨_, rfl, _, rfl, rfl, two _ (tie_yes c1 c2).symm⟩
                  | _ => exact absurd c2 Bool.false_ne_true
                | _ => exact absurd c1 Bool.false_ne_true
    | _ => exact no rfl
abbrev sPair : Stmt := top ix_pair
theorem scPair : FnScope ["tie", "one", "other"] ["tie"] (defScope sPair) := ⟨rfl, rfl, rfl, by decide +kernel, rfl, by decide +kernel, by decide +kernel⟩
theorem has_pair (D : DFE K mg "_pair" sPair ["tie"]) : Has P w K mg base CX0 1 "_pair" ["tie"] (spPair K) := by
  refine has_of D scPair (fun vs H Q E h => ?_) (fun f cdv A outer s H vs Q E hr h => ?_)
  · obtain ⟨a, x, y, rfl, _⟩ := h; rfl
  · obtain ⟨a, x, y, rfl, ha, k⟩ := h
    have nd := scPair.nd
    refine ⟨_, (pss_cons (ps_asg (pv 0) (pg_tup rfl (pgs_cons (pg_name (i := 1) nd rfl (by first | exact Or.inl rfl | exact Or.inr rfl)) (pgs_cons (pg_name (i := 2) nd rfl (by first | exact Or.inl rfl | exact Or.inr rfl)) pgs_nil))))
    (pss_one (ps_ret (pe_ifExp (pt_cmpR op_lt_str (pv 1) (pv 2) (by first | exact nomark _ | rfl)) (pe_tup (pa_cons (pv 1) (pa_cons (pv 2) pa_nil))) (pe_tup (pa_cons (pv 2) (pa_cons (pv 1) pa_nil))))))), ?_⟩
    refine ⟨_, rfl, a, _, rfl, ha, rfl, _, _, rfl, _, _, rfl, rfl, ?_⟩
    refine ⟨_, rfl, _, rfl, _, _, rfl, rfl, _, rfl, ?_⟩
    have kk : ∀ p, H p = none → Q (.ref p) (upd H p (.tup [.str (pairS x y).1, .str (pairS x y).2])) := k
    unfold pairS ltS at kk
    refine ite2 (fun c => ?_) (fun c => ?_)
    · rw [if_pos c] at kk
      exact ⟨_, rfl, _, rfl, by show 2 ≤ sizeLine; decide, kk⟩
    · rw [if_neg c] at kk
      exact ⟨_, rfl, _, rfl, by show 2 ≤ sizeLine; decide, kk⟩
end
end Pw

set_option Elab.async false
set_option linter.all false
set_option maxRecDepth 100000
set_option maxHeartbeats 4000000
namespace Pw
open PySem PySem.Spec PyProof.Rows L2 Ct
/-- the items of a list or a tuple -/
def seqD : PyData → Option (List PyData)
  | .list ds => some ds
  | .tuple ds => some ds
  | _ => none
/-- the texts among data -/
def strsD : List PyData → List Str
  | [] => []
  | .str x :: ds => x :: strsD ds
  | _ :: ds => strsD ds
/-- the places that a datum is -/
def placesOf (d : PyData) : Option (List Str) := match seqD d with
  | some ds => if (1 ≤ ds.length ∧ ds.length ≤ 12) ∧ ds.all nameD = true ∧ (strsD ds).Nodup then some (strsD ds) else none
  | none => none
/-- the texts within are of a length that can be walked -/
def txtOk (d : PyData) : Prop := ∀ ds, seqD d = some ds → ds.length ≤ 4000 ∧ ∀ x, PyData.str x ∈ ds → x.length ≤ sizeLine
theorem strs_of {K : PySem.W.Frag} {H : Hp} : ∀ {xs : List V} {ds : List PyData}, DqAll K H xs ds → ds.all nameD = true → xs = (strsD ds).map V.str ∧ (strsD ds).length = ds.length
  | _, _, .nil, _ => ⟨rfl, rfl⟩
  | _, _, .cons (d := d) h t, n => by
    rw [List.all_cons, Bool.and_eq_true] at n
    obtain ⟨e1, e2⟩ := strs_of t n.2
    cases d with
    | str x =>
      cases h
      exact ⟨by rw [e1]; rfl, by show (strsD _).length + 1 = _ + 1; rw [e2]⟩
    | _ => exact absurd n.1 Bool.false_ne_true
/-- a list or a tuple, its items -/
theorem seq_of {K : PySem.W.Frag} {H : Hp} {v : V} {d : PyData} (h : Dq K H v d) {ds : List PyData} (e : seqD d = some ds) : ∃ a xs, v = .ref a ∧ SqS K H a xs ∧ DqAll K H xs ds ∧ xs.length = ds.length := by
  have len : ∀ {xs : List V} {ds : List PyData}, DqAll K H xs ds → xs.length = ds.length := by
    intro xs
    induction xs with
    | nil => intro ds h; cases h; rfl
    | cons x xs ih => intro ds h; cases h with | cons h t => rw [List.length_cons, List.length_cons, ih t]
  cases h with
  | @lst a xs ds' hs ha => cases e; exact ⟨a, xs, rfl, .inl hs, ha, len ha⟩
  | @tup a xs ds' hs ha => cases e; exact ⟨a, xs, rfl, .inr hs, ha, len ha⟩
  | _ => cases e
theorem kit_seq (d : PyData) : ∃ b1 b2, kitB (dty d) "list" = some b1 ∧ kitB (dty d) "tuple" = some b2 ∧ (b1 || b2) = (seqD d).isSome := by
  cases d <;> exact ⟨_, _, kit_list _, kit_tuple _, rfl⟩
theorem dqAll_at {K : PySem.W.Frag} {H : Hp} : ∀ {xs : List V} {ds : List PyData}, DqAll K H xs ds → ∀ {i : Nat} {x : V}, xs[i]? = some x → ∃ d, ds[i]? = some d ∧ Dq K H x d
  | _, _, .nil, _, _, e => by simp at e
  | _, _, .cons h t, 0, _, e => by simp at e; subst e; exact ⟨_, rfl, h⟩
  | _, _, .cons h t, i + 1, _, e => by
    obtain ⟨d, e1, e2⟩ := dqAll_at t (i := i) (by simpa using e)
    exact ⟨d, by simpa using e1, e2⟩
/-- what is raised: the class, its own dict with the one field -/
def Raised (C : Addr) (f : Str) (H : Hp) (v : V) (E : XK) : Prop := ∀ d H', Same H H' → H d = none → H' d = some (.xd [(f, v)]) → E (.ref C) (some d) H'
def spCheckPlaces (K : PySem.W.Frag) (C : Addr) : Sp := fun vs H Q E => ∃ (v : V) (d : PyData), vs = [v] ∧ Dq K H v d ∧ txtOk d ∧ ((placesOf d).isSome = true → ∀ H', Same H H' → Q .non H') ∧ (placesOf d = none → Raised C "value" H v E)
section
variable {P : Program} {w : World} {K : PySem.W.Frag} {mg : Str → Option Value} {base : Heap} {C : Addr}
abbrev sCheckPlaces : Stmt := top ix_check_places
theorem scCheckPlaces : FnScope ["places", "place"] ["places"] (defScope sCheckPlaces) := ⟨rfl, rfl, rfl, by decide +kernel, rfl, by decide +kernel, by decide +kernel⟩
theorem has_check_places (T : Bn mg) (M : Mc mg) (D : DFE K mg "_check_places" sCheckPlaces ["places"]) (h_is_name : Has P w K mg base CX0 1 "is_name" ["value"] (spIsName K)) (h_all_differ : Has P w K mg base CX0 1 "_all_differ" ["names"] (spAllDiffer K))
    (hE_BadPlaces : HasE P w K mg base 1 "BadPlaces" C "value") : HasR P w K mg base 3 "_check_places" ["places"] (spCheckPlaces K C) := by
  refine hasR_of D scCheckPlaces (fun vs H Q E h => ?_) (fun f cdv A outer s H vs Q E hr h => ?_)
  · obtain ⟨v, d, rfl, _⟩ := h; rfl
  · obtain ⟨v, d, rfl, hd, hx, ky, kn⟩ := h
    have nd := scCheckPlaces.nd
    refine ⟨_, (pss_cons (ps_if (PW.pt (pw_or (pt_not (pt_val (pe_callB call_isDT (by rfl) T.z_isinstance (by decide +kernel) (pa_cons (pv 0) (pa_cons (pe_tup (pa_cons (pe_bltn (v := .ty "list") rfl T.z_list (by decide +kernel) rfl) (pa_cons (pe_bltn (v := .ty "tuple") rfl T.z_tuple (by decide +kernel) rfl) pa_nil))) pa_nil))))) (pw_or1 (pt_not (pt_chain op_le op_le pe_int (pe_callB call_len_seq (by rfl) T.z_len (by decide +kernel) (pa_cons (pv 0) pa_nil)) (pe_gi rfl M.g_MOST_PLACES)))))) (pss_one (ps_raise rfl (takes_of rfl rfl rfl rfl) (pmk_x hE_BadPlaces hr (by decide) rfl (pv 0)))) pss_nil)
    (pss_one (ps_if (PW.pt (pw_or (pt_not (pt_val (pe_callB (cr_all rfl) (by rfl) T.z_all (by decide +kernel) (pa_cons (pe_lc (own := [("place", 1)]) (g := gName 1) (tt := tYes) rfl nd (pi_sq (pv 0)) (blkOk_by (own := [("place", 1)]) (N := ["places", "place"]) (sc := defScope sCheckPlaces) (by decide +kernel)) (fun _ _ _ _ _ => (pg_name (i := 1) nd rfl (by first | exact Or.inl rfl | exact Or.inr rfl))) (fun _ _ _ _ _ => pts_nil) (fun _ _ _ _ _ => (pe_h h_is_name hr (by decide) rfl (pa_cons (pv 1) pa_nil)))) pa_nil)))) (pw_or1 (pt_not (pt_val (pe_h h_all_differ hr (by decide) rfl (pa_cons (pv 0) pa_nil))))))) (pss_one (ps_raise rfl (takes_of rfl rfl rfl rfl) (pmk_x hE_BadPlaces hr (by decide) rfl (pv 0)))) pss_nil))), ?_⟩
    -- what is raised
    have bad : placesOf d = none → ∀ H1, Same H H1 → ∀ e, H1 e = none → E (.ref C) (some e) (upd H1 e (.xd [("value", v)])) := fun z H1 s1 e he =>
      kn z e _ (same_upd s1 (by cases q : H e with | none => rfl | some o => rw [s1 e o q] at he; cases he)) (by cases q : H e with | none => rfl | some o => rw [s1 e o q] at he; cases he) upd_same
    obtain ⟨b1, b2, k1, k2, kb⟩ := kit_seq d
    refine ⟨_, rfl, by show 2 ≤ sizeLine; decide, fun tp ntp => ?_⟩
    have u := same_new (o := .tup [.ty "list", .ty "tuple"]) ntp
    refine ⟨_, tp, d, "list", "tuple", b1, b2, rfl, upd_same, Dq.same u hd, k1, k2, _, rfl, ?_⟩
    generalize upd H tp _ = H1 at u ⊢
    rw [kb]
    cases e : seqD d with
    | none =>
      have z : placesOf d = none := by unfold placesOf; rw [e]
      refine iteT (iteT ⟨_, rfl, fun x hx => bad z _ u x hx⟩)
    | some ds =>
      obtain ⟨a, xs, rfl, hs, ha, hl⟩ := seq_of hd e
      obtain ⟨lx, tx⟩ := hx ds e
      have out : ¬ (1 ≤ ds.length ∧ ds.length ≤ 12) → placesOf d = none := fun z => by
        unfold placesOf
        rw [e]
        exact if_neg fun y => z y.1
      refine iteF ?_
      refine ⟨_, rfl, a, xs, rfl, hs.same u, _, _, rfl, rfl, _, rfl, ?_⟩
      refine ite2 (fun c1 => ?_) (fun c1 => ?_)
      · have c1 := of_decide_eq_true c1
        refine ⟨_, _, rfl, rfl, _, rfl, ?_⟩
        by_cases c2 : xs.length ≤ 12
        · rw [decide_eq_true (show ((xs.length : Nat) : Int) ≤ 12 by omega)]
          refine iteF ?_
          -- all names are names, then they differ
          refine ⟨_, rfl, a, xs, rfl, hs.same u, fun J G ex hG wk L nL => ?_⟩
          refine lc_it wk (fun i H2 => Same H1 H2 ∧ ∃ bs : List Bool, H2 L = some (.lst (bs.map V.bl)) ∧ bs = (ds.take i).map nameD) ⟨same_new nL, [], upd_same, rfl⟩ (fun i H2 _ p => hG H2 (.same p.1)) ?_ ?_
          · rintro i x H2 H3 hi ⟨sm, bs, hL, hb⟩ ⟨rfl, hxi⟩
            obtain ⟨dx, hdx, hqx⟩ := dqAll_at ha hxi
            have s2 := u.trans sm
            refine ⟨rfl, ⟨_, rfl, x, dx, rfl, Dq.same s2 hqx, fun z hz => tx z (hz ▸ List.mem_of_getElem? hdx), fun H4 s4 => ?_⟩⟩
            refine ⟨bs.map V.bl, s4 L _ hL, ?_, same_upd (sm.trans s4) nL, bs ++ [nameD dx], by rw [upd_same, List.map_append]; rfl, by rw [hb, List.take_succ, hdx]; simp⟩
            rw [List.length_map, hb, List.length_map, sizeLine_eq]
            have := List.length_take_le i ds
            have := (List.getElem?_eq_some_iff.mp hdx).1
            omega
          · rintro H2 ⟨sm, bs, hL, hb⟩
            refine ⟨L, bs, rfl, SqL.of hL, _, rfl, ?_⟩
            rw [hl, List.take_length] at hb
            rw [hb, List.all_map]
            have s2 := u.trans sm
            cases al : ds.all nameD with
            | false =>
              rw [show ds.all (id ∘ nameD) = ds.all nameD from rfl, al]
              refine iteT (iteT ⟨_, rfl, fun x hx => bad ?_ _ s2 x hx⟩)
              unfold placesOf
              rw [e]
              exact if_neg fun z => Bool.noConfusion (al.symm.trans z.2.1)
            | true =>
              rw [show ds.all (id ∘ nameD) = ds.all nameD from rfl, al]
              obtain ⟨ex, en⟩ := strs_of ha al
              refine iteF ?_
              subst ex
              refine ⟨_, rfl, a, strsD ds, rfl, hs.same s2, by omega, fun H3 s3 => ⟨fun c => ?_, fun c => ?_⟩⟩
              · refine ⟨_, rfl, iteF (ky ?_ _ (s2.trans s3))⟩
                unfold placesOf
                rw [e]
                show (if _ then _ else _ : Option (List Str)).isSome = true
                rw [if_pos ⟨⟨by omega, by omega⟩, al, c⟩]
                rfl
              · refine ⟨_, rfl, iteT ⟨_, rfl, fun x hx => bad ?_ _ (s2.trans s3) x hx⟩⟩
                unfold placesOf
                rw [e]
                exact if_neg fun z => c z.2.2
        · rw [decide_eq_false (show ¬ ((xs.length : Nat) : Int) ≤ 12 by omega)]
          exact iteT ⟨_, rfl, fun x hx => bad (out (by omega)) _ u x hx⟩
      · have c1 : ¬ (1 : Int) ≤ ((xs.length : Nat) : Int) := fun z => c1 (decide_eq_true z)
        refine ⟨_, rfl, iteT ⟨_, rfl, fun x hx => bad (out (by omega)) _ u x hx⟩⟩
end
end Pw

set_option Elab.async false
set_option linter.all false
set_option maxRecDepth 100000
set_option maxHeartbeats 4000000
namespace Pw
open PySem PySem.Spec PyProof.Rows L2 Ct
/-- ties that stand: tuples of two texts -/
abbrev TiesAt (K : PySem.W.Frag) (H : Hp) : List V → List (Str × Str) → Prop := Paired fun x p => ∃ a, x = .ref a ∧ TupS K H a p
theorem TiesAt.same {K : PySem.W.Frag} {H H' : Hp} (s : Same H H') : ∀ {xs : List V} {ps : List (Str × Str)}, TiesAt K H xs ps → TiesAt K H' xs ps
  | _, _, .nil => .nil
  | _, _, .cons ⟨a, e, h⟩ t => .cons ⟨a, e, same_t s h⟩ (TiesAt.same s t)
theorem ties_at {K : PySem.W.Frag} {H : Hp} : ∀ {xs : List V} {ps : List (Str × Str)}, TiesAt K H xs ps → ∀ {i : Nat} {x : V}, xs[i]? = some x → ∃ p a, ps[i]? = some p ∧ x = .ref a ∧ TupS K H a p
  | _, _, .nil, _, _, e => by simp at e
  | _, _, .cons ⟨a, e2, h⟩ t, 0, _, e => by simp at e; subst e; exact ⟨_, a, rfl, e2, h⟩
  | _, _, .cons _ t, i + 1, _, e => by
    obtain ⟨p, a, e1, e2⟩ := ties_at t (i := i) (by simpa using e)
    exact ⟨p, a, by simpa using e1, e2⟩
/-- a pair as a set's key -/
def keyQ (q : Str × Str) : List Key := [.inr q.1, .inr q.2]
theorem keyQ_inj {q r : Str × Str} (h : keyQ q = keyQ r) : q = r := by
  obtain ⟨a, b⟩ := q
  obtain ⟨c, d⟩ := r
  injection h with h1 h2
  injection h2 with h2 _
  have e1 : a = c := Sum.inr.inj h1
  have e2 : b = d := Sum.inr.inj h2
  rw [e1, e2]
def pairP (p : Str × Str) : Str × Str := pairS p.1 p.2
/-- the place of the first datum that is no further tie -/
def tieBad (ns : List Str) : List (Str × Str) → Nat → List PyData → Option Nat
  | _, _, [] => none
  | ps, i, d :: ds => match tieOf ns d with
    | none => some i
    | some p => if pairP p ∈ ps then some i else tieBad ns (pairP p :: ps) (i + 1) ds
/-- only the list's members count -/
theorem tieBad_mem (ns : List Str) : ∀ (ds : List PyData) (ps qs : List (Str × Str)) (i : Nat), (∀ k, k ∈ ps ↔ k ∈ qs) → tieBad ns ps i ds = tieBad ns qs i ds
  | [], _, _, _, _ => rfl
  | d :: ds, ps, qs, i, h => by
    unfold tieBad
    cases tieOf ns d with
    | none => rfl
    | some p =>
      by_cases c : pairP p ∈ ps
      · simp only [if_pos c, if_pos ((h _).mp c)]
      · simp only [if_neg c, if_neg (fun z => c ((h _).mpr z))]
        exact tieBad_mem ns ds _ _ _ fun k => by rw [List.mem_cons, List.mem_cons, h k]
/-- the set at D holds the pairs -/
def SetAt (P : Program) (w : World) (K : PySem.W.Frag) (H : Hp) (D : Addr) (ps : List (Str × Str)) (n : Nat) : Prop := ∃ L : List Mem, H D = some (KSetO P w D L) ∧ Mems K H L ∧ L.length ≤ n ∧ ∀ q, keyQ q ∈ L.map (·.2) ↔ q ∈ ps
theorem sqT_off {K : PySem.W.Frag} {H H' : Hp} {D c : Addr} {xs : List V} {φ : Heap → Prop} (h : SqT K H c xs) (hD : H D = some (.ext φ)) (o : ∀ c, c ≠ D → H' c = H c) : SqT K H' c xs := by
  rcases h with (h | ⟨ob, h⟩) | h
  · exact .inl (.inl (by rw [o c (ne_of h hD (by intro z; cases z))]; exact h))
  · exact .inl (.inr ⟨ob, by rw [o c (ne_of h hD (by intro z; cases z))]; exact h⟩)
  · exact .inr h
theorem set_add {P : Program} {w : World} {K : PySem.W.Frag} {H : Hp} {D b : Addr} {ps : List (Str × Str)} {n : Nat} {q : Str × Str} {Q : Hp → Prop} (S : SetAt P w K H D ps n) (hb : TupS K H b q) (hn : n + 1 < 77)
    (k : ∀ H', (∀ c, c ≠ D → H' c = H c) → SetAt P w K H' D (q :: ps) (n + 1) → Q H') : rKAdd K P w D b H Q := by
  obtain ⟨L, hD, hm, hl, hq⟩ := S
  refine kadd_in (k := keyQ q) hD hm hb (by omega) fun L' H' hD' o hj hp hl' => k H' o ⟨L', hD', fun p hpm => ?_, by omega, fun r => ?_⟩
  · rcases hp p hpm with rfl | hp
    · exact sqT_off hb hD o
    · exact sqT_off (hm p hp) hD o
  · rw [hj, List.mem_cons, hq]
    exact ⟨fun z => z.elim (fun e => .inl (keyQ_inj e)) .inr, fun z => z.elim (fun e => .inl (congrArg keyQ e)) .inr⟩
theorem set_in {P : Program} {w : World} {K : PySem.W.Frag} {H : Hp} {D b : Addr} {ps : List (Str × Str)} {n : Nat} {q : Str × Str} {Q : VK} (S : SetAt P w K H D ps n) (hb : TupS K H b q) (h1 : q ∈ ps → Q (.bl true) H) (h2 : q ∉ ps → Q (.bl false) H) : rKIn K P w (.ref b) (.ref D) H Q := by
  obtain ⟨L, hD, hm, hl, hq⟩ := S
  exact ⟨D, b, L, keyQ q, rfl, rfl, hD, hm, hb, fun z => h1 ((hq q).mp z), fun z => h2 fun y => z ((hq q).mpr y)⟩
theorem tie_tup {K : PySem.W.Frag} {H : Hp} {ns : List Str} {v : V} {d : PyData} {p : Str × Str} (h : Dq K H v d) (e : tieOf ns d = some p) : ∃ b, v = .ref b ∧ TupS K H b p := by
  cases h with
  | @tup b xs ds hs ha =>
    cases ha with
    | nil => cases e
    | @cons x1 xs1 d1 ds1 h1 ha =>
      cases ha with
      | nil => cases e
      | @cons x2 xs2 d2 ds2 h2 ha =>
        cases ha with
        | cons h3 ha => cases e
        | nil =>
          cases d1 with
          | str x =>
            cases d2 with
            | str y =>
              cases h1
              cases h2
              have e : (if x ∈ ns ∧ y ∈ ns ∧ x ≠ y then some (x, y) else none) = some p := e
              by_cases c : x ∈ ns ∧ y ∈ ns ∧ x ≠ y
              · rw [if_pos c] at e
                cases e
                exact ⟨b, rfl, hs⟩
              · rw [if_neg c] at e
                cases e
            | _ => cases e
          | _ => cases e
  | _ => cases e
theorem SetAt.mem {P : Program} {w : World} {K : PySem.W.Frag} {H : Hp} {D : Addr} {ps qs : List (Str × Str)} {n : Nat} (h : ∀ q, q ∈ ps ↔ q ∈ qs) : SetAt P w K H D ps n → SetAt P w K H D qs n
  | ⟨L, hD, hm, hl, hq⟩ => ⟨L, hD, hm, hl, fun q => (hq q).trans (h q)⟩
theorem SetAt.same {P : Program} {w : World} {K : PySem.W.Frag} {H H' : Hp} {D : Addr} {ps : List (Str × Str)} {n : Nat} (s : Same H H') : SetAt P w K H D ps n → SetAt P w K H' D ps n
  | ⟨L, hD, hm, hl, hq⟩ => ⟨L, s _ _ hD, fun p hp => same_t s (hm p hp), hl, hq⟩
def spCheckTies (K : PySem.W.Frag) (CS CT : Addr) : Sp := fun vs H Q E => ∃ (a kt : Addr) (ns : List Str) (xs : List V) (ks : List (Str × Str)) (v : V) (d : PyData), vs = [.ref a, .ref kt, v] ∧ Nms K H a ns ∧ SqS K H kt xs ∧ TiesAt K H xs ks ∧ Dq K H v d ∧
  (seqD d = none → Raised CS "value" H v E) ∧ ∀ ds, seqD d = some ds → (∀ e ∈ ds, plainTie e) ∧ ks.length + ds.length ≤ 75 ∧ (tieBad ns (ks.map pairP) 0 ds = none → ∀ H', Same H H' → Q .non H') ∧ (∀ i, tieBad ns (ks.map pairP) 0 ds = some i → Raised CT "position" H (.int i) E)
section
variable {P : Program} {w : World} {K : PySem.W.Frag} {mg : Str → Option Value} {base : Heap} {CS CT : Addr}
abbrev sCheckTies : Stmt := top ix_check_ties
theorem scCheckTies : FnScope ["places", "known", "ties", "pairs", "tie", "position", "entry"] ["places", "known", "ties"] (defScope sCheckTies) := ⟨rfl, rfl, rfl, by decide +kernel, rfl, by decide +kernel, by decide +kernel⟩
theorem has_check_ties (T : Bn mg) (D : DFE K mg "_check_ties" sCheckTies ["places", "known", "ties"]) (h_is_tie : Has P w K mg base CX0 1 "_is_tie" ["places", "value"] (spIsTie K)) (h_pair : Has P w K mg base CX0 1 "_pair" ["tie"] (spPair K))
    (hE_BadTies : HasE P w K mg base 1 "BadTies" CS "value") (hE_BadTie : HasE P w K mg base 1 "BadTie" CT "position") : HasR P w K mg base 3 "_check_ties" ["places", "known", "ties"] (spCheckTies K CS CT) := by
  refine hasR_of D scCheckTies (fun vs H Q E h => ?_) (fun f cdv A outer s H vs Q E hr h => ?_)
  · obtain ⟨a, kt, ns, xs, ks, v, d, rfl, _⟩ := h; rfl
  · obtain ⟨a, kt, ns, xs, ks, v, d, rfl, ha, hk, hks, hd, kn, ky⟩ := h
    have nd := scCheckTies.nd
    refine ⟨_, (pss_cons (ps_if (pt_not (pt_val (pe_callB call_isDT (by rfl) T.z_isinstance (by decide +kernel) (pa_cons (pv 2) (pa_cons (pe_tup (pa_cons (pe_bltn (v := .ty "list") rfl T.z_list (by decide +kernel) rfl) (pa_cons (pe_bltn (v := .ty "tuple") rfl T.z_tuple (by decide +kernel) rfl) pa_nil))) pa_nil))))) (pss_one (ps_raise rfl (takes_of rfl rfl rfl rfl) (pmk_x hE_BadTies hr (by decide) rfl (pv 2)))) pss_nil)
    (pss_cons (ps_setKsc (i := 3) (own := [("tie", 4)]) (g := gName 4) hr.units rfl nd rfl rfl (sw_setc rfl rfl rfl (by decide +kernel)) (pi_sq (pv 1)) (blkOk_by (own := [("tie", 4)]) (N := ["places", "known", "ties", "pairs", "tie", "position", "entry"]) (sc := defScope sCheckTies) (by decide +kernel)) (fun _ _ _ _ _ => (pg_name (i := 4) nd rfl (by first | exact Or.inl rfl | exact Or.inr rfl))) (fun _ _ _ _ _ => (pe_h h_pair hr (by decide) rfl (pa_cons (pv 4) pa_nil))))
    (pss_one (ps_for (passes_of rfl) rfl (pi_enumQ rfl T.z_enumerate (pa_cons (pv 2) pa_nil)) (pg_tup rfl (pgs_cons (pg_name (i := 5) nd rfl (by first | exact Or.inl rfl | exact Or.inr rfl)) (pgs_cons (pg_name (i := 6) nd rfl (by first | exact Or.inl rfl | exact Or.inr rfl)) pgs_nil))) (pss_cons (ps_if (PW.pt (pw_or (pt_not (pt_val (pe_h h_is_tie hr (by decide) rfl (pa_cons (pv 0) (pa_cons (pv 6) pa_nil))))) (pw_or1 (pt_cmpR (or_kin hr.units) (pe_h h_pair hr (by decide) rfl (pa_cons (pv 6) pa_nil)) (pv 3) (by first | exact nomark _ | rfl))))) (pss_one (ps_raise rfl (takes_of rfl rfl rfl rfl) (pmk_x hE_BadTie hr (by decide) rfl (pv 5)))) pss_nil)
    (pss_one (ps_expr (pe_kadd hr.units (pv 3) (pe_h h_pair hr (by decide) rfl (pa_cons (pv 6) pa_nil)))))))))), ?_⟩
    obtain ⟨b1, b2, k1, k2, kb⟩ := kit_seq d
    refine ⟨_, rfl, by show 2 ≤ sizeLine; decide, fun tp ntp => ?_⟩
    have u := same_new (o := .tup [.ty "list", .ty "tuple"]) ntp
    refine ⟨_, tp, d, "list", "tuple", b1, b2, rfl, upd_same, Dq.same u hd, k1, k2, _, rfl, ?_⟩
    generalize upd H tp _ = H1 at u ⊢
    have nn : ∀ {H2 : Hp}, Same H H2 → ∀ {e : Addr}, H2 e = none → H e = none := fun {H2} s2 {e} he => by
      cases q : H e with
      | none => rfl
      | some o => rw [s2 e o q] at he; cases he
    rw [kb]
    cases e : seqD d with
    | none => exact iteT ⟨_, rfl, fun x hx => kn e x _ (same_upd u (nn u hx)) (nn u hx) upd_same⟩
    | some ds =>
      obtain ⟨pl, few, ky1, ky2⟩ := ky ds e
      obtain ⟨va, vx, rfl, hv, hda, hlv⟩ := seq_of hd e
      refine iteF ?_
      -- the known pairs
      refine ⟨_, rfl, kt, xs, rfl, hk.same u, fun J G ex hG wk D nD => ?_⟩
      have xl : xs.length = ks.length := Paired.length hks
      refine ksc_it wk (fun i H2 => Same H1 H2 ∧ SetAt P w K H2 D ((ks.take i).map pairP) i) ⟨same_new nD, [], upd_same, (fun p hp => by cases hp), Nat.zero_le _, fun q => by simp⟩ (fun i H2 _ p => hG H2 (.same p.1)) ?_ ?_
      · rintro i x H2 H3 hi ⟨sm, S⟩ ⟨rfl, hxi⟩
        obtain ⟨p, b, hp, rfl, hb⟩ := ties_at (hks.same (u.trans sm)) hxi
        refine ⟨rfl, _, rfl, b, p.1, p.2, rfl, hb, fun c hc => ⟨c, rfl, ?_⟩⟩
        have s3 := same_new (o := .tup [.str (pairS p.1 p.2).1, .str (pairS p.1 p.2).2]) hc
        refine set_add (q := pairP p) (S.same s3) (SqT.of upd_same) (by omega) fun H4 o S4 => ⟨?_, ?_⟩
        · exact fun y o2 ey => by
            rw [o y (ne_of_none ey nD)]
            exact s3 _ _ (sm _ _ ey)
        · refine S4.mem fun q => ?_
          rw [List.take_succ, hp, List.map_append, List.mem_append, List.mem_cons]
          simp [or_comm]
      · rintro H2 ⟨sm, S⟩
        rw [xl, List.take_length] at S
        have s2 := u.trans sm
        refine ⟨_, rfl, va, vx, rfl, hv.same s2, fun J2 G2 ex2 hG2 wk2 => ?_⟩
        refine for_it wk2 (fun i σ H3 => Same H H3 ∧ (∃ p q, σ = [some (.ref a), some (.ref kt), some (.ref va), some (.ref D), none, p, q]) ∧ ∃ ps, SetAt P w K H3 D ps (ks.length + i) ∧ tieBad ns (ks.map pairP) 0 ds = tieBad ns ps i (ds.drop i)) ?_ ?_ ?_ ?_
        · exact ⟨s2, ⟨_, _, rfl⟩, _, S, rfl⟩
        · exact fun i σ3 H3 _ p => hG2 H3 (.of hv s2 p.1 ex2)
        · rintro i x σ3 H3 H4 hi ⟨s3, ⟨p, q, rfl⟩, ps, S3, eb⟩ ⟨T, x1, x2, rfl, hT, rfl, ex1, ex2⟩
          cases ex1
          obtain ⟨dx, hdx, hqx⟩ := dqAll_at hda ex2
          have ed : ds.drop i = dx :: ds.drop (i + 1) := by
            obtain ⟨hi', e'⟩ := List.getElem?_eq_some_iff.mp hdx
            rw [← e']
            exact List.drop_eq_getElem_cons hi'
          have s4 := same_upd (o := .tup [.int (i : Nat), x2]) s3 (nn s3 hT)
          have S4 := S3.same (same_new (o := .tup [.int (i : Nat), x2]) hT)
          have hup : upd H3 T (.tup [.int (i : Nat), x2]) T = some (.tup [.int (i : Nat), x2]) := upd_same
          generalize upd H3 T (.tup [.int (i : Nat), x2]) = H4 at s4 S4 hup ⊢
          refine ⟨T, _, rfl, SqT.of hup, rfl, _, _, rfl, _, _, rfl, rfl, ?_⟩
          refine ⟨_, rfl, _, rfl, a, ns, x2, dx, rfl, ha.same s4, Dq.same s4 hqx, pl dx (List.mem_of_getElem? hdx), _, rfl, ?_⟩
          have bad : tieBad ns (ks.map pairP) 0 ds = some i → ∀ H5, Same H H5 → ∀ e, H5 e = none → E (.ref CT) (some e) (upd H5 e (.xd [("position", .int i)])) := fun z H5 s5 e he => ky2 i z e _ (same_upd s5 (nn s5 he)) (nn s5 he) upd_same
          cases et : tieOf ns dx with
          | none =>
            refine iteT (iteT ⟨_, rfl, fun x hx => bad ?_ _ s4 x hx⟩)
            rw [eb, ed, tieBad, et]
          | some pp =>
            obtain ⟨b, rfl, hb⟩ := tie_tup (Dq.same s4 hqx) et
            refine iteF ?_
            refine ⟨_, rfl, b, pp.1, pp.2, rfl, hb, fun c hc => ?_⟩
            have s5 := same_new (o := .tup [.str (pairS pp.1 pp.2).1, .str (pairS pp.1 pp.2).2]) hc
            have hcu : TupS K (upd H4 c (.tup [.str (pairS pp.1 pp.2).1, .str (pairS pp.1 pp.2).2])) c (pairP pp) := SqT.of upd_same
            generalize upd H4 c (.tup [.str (pairS pp.1 pp.2).1, .str (pairS pp.1 pp.2).2]) = H5 at s5 hcu ⊢
            refine ⟨_, rfl, set_in (S4.same s5) hcu (fun c1 => ?_) (fun c1 => ?_)⟩
            · refine ⟨_, rfl, iteT ⟨_, rfl, fun x hx => bad ?_ _ (s4.trans s5) x hx⟩⟩
              rw [eb, ed, tieBad, et]
              exact if_pos c1
            · refine ⟨_, rfl, iteF ?_⟩
              have S5 := S4.same s5
              obtain ⟨L5, hD5, _⟩ := id S5
              refine ⟨_, rfl, ⟨D, L5, rfl, hD5⟩, _, rfl, b, pp.1, pp.2, rfl, same_t s5 hb, fun c2 hc2 => ⟨D, c2, rfl, rfl, ?_⟩⟩
              have s6 := same_new (o := .tup [.str (pairS pp.1 pp.2).1, .str (pairS pp.1 pp.2).2]) hc2
              refine set_add (q := pairP pp) (S5.same s6) (SqT.of upd_same) (by omega) fun H6 o S6 => ⟨?_, ⟨_, _, rfl⟩, _, S6, ?_⟩
              · intro y o2 ey
                have nD' : H D = none := nn u nD
                rw [o y (ne_of_none ey nD')]
                exact s6 _ _ (s5 _ _ (s4 _ _ ey))
              · rw [eb, ed, tieBad, et]
                exact if_neg c1
        · rintro σ3 H3 ⟨s3, _, ps, S3, eb⟩
          rw [hlv, List.drop_length] at eb
          exact ky1 eb H3 s3
end
end Pw

set_option Elab.async false
set_option linter.all false
set_option maxRecDepth 100000
set_option maxHeartbeats 4000000
namespace Pw
open PySem PySem.Spec PyProof.Rows L2 Ct
local macro_rules | `(tactic| wide_line) => `(tactic| repeat ((fail_if_success (with_reducible refine at_while ?_)); (fail_if_success (with_reducible refine at_while1 ?_)); (conv => whnf); first | ((with_reducible refine And.intro ?_ ?_); focus (first | (first | ((with_reducible show (_ : Nat) ≤ _); first | exact sz0 | exact sz1 | exact sz2 | exact sz3 | exact sz4 | exact sz5 | exact sz6 | exact sz7 | exact sz8 | exact sz10 | exact sz11 | exact sz12 | exact sz14 | omega | decide | (simp only [List.length_cons, List.length_nil]; omega)) | ((with_reducible show (_ : Int) ≤ _); first | omega | decide) | ((with_reducible show (_ : Int) < _); first | omega | decide) | ((with_reducible show (_ : Nat) < _); omega)) | ((fail_if_success (with_reducible show (_ : Nat) ≤ _)); (fail_if_success (with_reducible show (_ : Int) ≤ _)); (fail_if_success (with_reducible show (_ : Int) < _)); (fail_if_success (with_reducible show (_ : Nat) < _)); first | exact kv_str _ | exact kv_int _ | rfl | assumption | exact flat_strs _ | exact Lv.get (by assumption) 0 rfl | exact Lv.get (by assumption) 1 rfl | exact Lv.get (by assumption) 2 rfl | exact Lv.get (by assumption) 3 rfl | exact Lv.get (by assumption) 4 rfl | exact Lv.get (by assumption) 5 rfl | exact Lv.get (by assumption) 6 rfl | exact SqL.of (Lv.get (by assumption) 0 rfl) | exact SqL.of (Lv.get (by assumption) 1 rfl) | exact SqL.of (Lv.get (by assumption) 2 rfl) | exact SqL.of (Lv.get (by assumption) 3 rfl) | exact SqL.of (Lv.get (by assumption) 4 rfl) | exact SqL.of (Lv.get (by assumption) 5 rfl) | exact Or.inl (SqL.of (Lv.get (by assumption) 0 rfl)) | exact Or.inl (SqL.of (Lv.get (by assumption) 1 rfl)) | exact Or.inl (SqL.of (Lv.get (by assumption) 2 rfl)) | exact Or.inl (SqL.of (Lv.get (by assumption) 3 rfl)) | exact Or.inl (SqL.of (Lv.get (by assumption) 4 rfl)) | exact Or.inl (SqL.of (Lv.get (by assumption) 5 rfl)) | exact ⟨_, SqL.of (Lv.get (by assumption) 0 rfl)⟩ | exact ⟨_, SqL.of (Lv.get (by assumption) 1 rfl)⟩ | exact ⟨_, SqL.of (Lv.get (by assumption) 2 rfl)⟩ | exact ⟨_, SqL.of (Lv.get (by assumption) 3 rfl)⟩ | exact ⟨_, SqL.of (Lv.get (by assumption) 4 rfl)⟩ | exact ⟨_, SqL.of (Lv.get (by assumption) 5 rfl)⟩ | exact Or.inl ⟨_, SqL.of (Lv.get (by assumption) 0 rfl), rfl⟩ | exact Or.inl ⟨_, SqL.of (Lv.get (by assumption) 1 rfl), rfl⟩ | exact Or.inl ⟨_, SqL.of (Lv.get (by assumption) 2 rfl), rfl⟩ | exact Or.inl ⟨_, SqL.of (Lv.get (by assumption) 3 rfl), rfl⟩ | exact Or.inl ⟨_, SqL.of (Lv.get (by assumption) 4 rfl), rfl⟩ | exact Or.inl ⟨_, SqL.of (Lv.get (by assumption) 5 rfl), rfl⟩ | exact Or.inl ⟨rfl, _, SqL.of (Lv.get (by assumption) 0 rfl)⟩ | exact Or.inl ⟨rfl, _, SqL.of (Lv.get (by assumption) 1 rfl)⟩ | exact Or.inl ⟨rfl, _, SqL.of (Lv.get (by assumption) 2 rfl)⟩ | exact Or.inl ⟨rfl, _, SqL.of (Lv.get (by assumption) 3 rfl)⟩ | exact Or.inl ⟨rfl, _, SqL.of (Lv.get (by assumption) 4 rfl)⟩ | exact Or.inl ⟨rfl, _, SqL.of (Lv.get (by assumption) 5 rfl)⟩ | exact Or.inr (SqT.of (Lv.get (by assumption) 0 rfl)) | exact Or.inr (SqT.of (Lv.get (by assumption) 1 rfl)) | exact Or.inr (SqT.of (Lv.get (by assumption) 2 rfl)) | exact Or.inr (SqT.of (Lv.get (by assumption) 3 rfl)) | exact SqT.of (Lv.get (by assumption) 0 rfl) | exact SqT.of (Lv.get (by assumption) 1 rfl) | exact SqT.of (Lv.get (by assumption) 2 rfl) | exact dgetN (Lv.get (by assumption) 0 rfl) (by assumption) | exact dgetN (Lv.get (by assumption) 1 rfl) (by assumption) | exact dgetN (Lv.get (by assumption) 2 rfl) (by assumption) | exact dgetN (Lv.get (by assumption) 3 rfl) (by assumption) | exact dgetN (Lv.get (by assumption) 4 rfl) (by assumption) | decide | ((with_reducible show _ ∧ _); omega)))) | ((fail_if_success (with_reducible apply @Exists.intro (Nat → _))); (with_reducible apply Exists.intro))))
local macro_rules
  | `(tactic| wide_line with al $lv:ident $l:ident $nl:ident $H:ident $lv1:ident $s1:ident) => `(tactic| (intro $l:ident $nl:ident; generalize he : upd _ _ _ = $H:ident; have $lv1:ident := Lv.alE $lv $nl he; have $s1:ident := sameE $nl he; clear he; (try dsimp only at $lv1:ident)))
  | `(tactic| wide_line with alx $lv:ident $nl:ident $H:ident $lv1:ident $s1:ident) => `(tactic| (generalize he : upd _ _ _ = $H:ident; have $lv1:ident := Lv.alE $lv $nl he; have $s1:ident := sameE $nl he; clear he; (try dsimp only at $lv1:ident)))
  | `(tactic| wide_line with sts $lv:ident $i:num $H:ident $lv1:ident $s0:ident $np:ident $s1:ident) => `(tactic| (generalize he : upd _ _ _ = $H:ident; have $lv1:ident := Lv.stE $lv $i rfl he; have $s1:ident := sameN $s0 $np he; clear he; (try dsimp only at $lv1:ident)))
  | `(tactic| wide_line with st $lv:ident $i:num $H:ident $lv1:ident) => `(tactic| (generalize he : upd _ _ _ = $H:ident; have $lv1:ident := Lv.stE $lv $i rfl he; clear he; (try dsimp only at $lv1:ident)))
  | `(tactic| wide_line with stk $lv:ident $i:num $H:ident $lv1:ident $k1:ident) => `(tactic| (generalize he : upd _ _ _ = $H:ident; have $lv1:ident := Lv.stE $lv $i rfl he; have $k1:ident := KeepT.st (Lv.get $lv $i rfl) he; clear he; (try dsimp only at $lv1:ident)))
/-- the names and the ties of a drawn web -/
structure PlanOk (n : Nat) (ns : List Str) (ts : List (Str × Str)) : Prop where
  one : 1 ≤ ns.length
  most : ns.length ≤ n
  nd : ns.Nodup
  nm : ∀ x ∈ ns, okName x = true
  tie : ∀ t ∈ ts, t.1 ∈ ns ∧ t.2 ∈ ns ∧ t.1 ≠ t.2
  dif : (ts.map pairP).Nodup
  few : ts.length ≤ 75
theorem PlanOk.perm {n : Nat} {ns ms : List Str} {ts us : List (Str × Str)} (h : PlanOk n ns ts) (a : ms.Perm ns) (b : us.Perm ts) : PlanOk n ms us :=
  ⟨a.length_eq ▸ h.one, a.length_eq ▸ h.most, a.nodup_iff.mpr h.nd, fun x hx => h.nm x (a.mem_iff.mp hx), fun t ht => by
    obtain ⟨h1, h2, h3⟩ := h.tie t (b.mem_iff.mp ht)
    exact ⟨a.mem_iff.mpr h1, a.mem_iff.mpr h2, h3⟩, (b.map pairP).nodup_iff.mpr h.dif, b.length_eq ▸ h.few⟩
/-- ties out of couples of places -/
abbrev TieR (ns : List Str) : List (Nat × Nat) → List (Str × Str) → Prop := Paired fun q t => ∃ x y, ns[q.1]? = some x ∧ ns[q.2]? = some y ∧ (t = (x, y) ∨ t = (y, x))
abbrev pairs12 : List (Nat × Nat) := (List.range 14).flatMap fun j => (List.range j).map fun i => (i, j)
theorem mem_pairs12 {n : Nat} (hn : n ≤ 14) {q : Nat × Nat} (h : q.1 < q.2 ∧ q.2 < n) : q ∈ (List.range n).flatMap fun j => (List.range j).map fun i => (i, j) :=
  List.mem_flatMap.mpr ⟨q.2, List.mem_range.mpr h.2, List.mem_map.mpr ⟨q.1, List.mem_range.mpr h.1, rfl⟩⟩
theorem few_pairs {n : Nat} (hn : n ≤ 12) {ps : List (Nat × Nat)} (h : PsOk n ps) : ps.length ≤ 66 := by
  have h1 := nodup_len h.1 fun q hq => mem_pairs12 (n := 12) (by decide) ⟨(h.2 q hq).1, Nat.lt_of_lt_of_le (h.2 q hq).2 hn⟩
  exact Nat.le_trans h1 (by decide +kernel)
theorem pairS_or (x y : Str) : pairS x y = (x, y) ∨ pairS x y = (y, x) := by
  unfold pairS
  split
  · exact .inl rfl
  · exact .inr rfl
theorem tieR_inj {ns : List Str} (nd : ns.Nodup) {q r : Nat × Nat} {t u : Str × Str} (hq : q.1 < q.2) (hr : r.1 < r.2)
    (h1 : ∃ x y, ns[q.1]? = some x ∧ ns[q.2]? = some y ∧ (t = (x, y) ∨ t = (y, x))) (h2 : ∃ x y, ns[r.1]? = some x ∧ ns[r.2]? = some y ∧ (u = (x, y) ∨ u = (y, x))) (e : pairP t = pairP u) : q = r := by
  obtain ⟨x, y, hx, hy, ht⟩ := h1
  obtain ⟨x', y', hx', hy', hu⟩ := h2
  have key : (x = x' ∧ y = y') ∨ (x = y' ∧ y = x') := by
    unfold pairP at e
    rcases ht with rfl | rfl <;> rcases hu with rfl | rfl <;> simp only at e
    all_goals
      rcases pairS_or x y with z | z <;> rcases pairS_or y x with z' | z' <;> rcases pairS_or x' y' with w | w <;> rcases pairS_or y' x' with w' | w'
    all_goals
      simp only [z, z', w, w'] at e
      injection e with e1 e2
      subst e1 e2
      first
        | exact .inl ⟨rfl, rfl⟩
        | exact .inr ⟨rfl, rfl⟩
  rcases key with ⟨rfl, rfl⟩ | ⟨rfl, rfl⟩
  · have a := idx_inj nd hx hx'
    have b := idx_inj nd hy hy'
    exact Prod.ext a b
  · have a := idx_inj nd hx hy'
    have b := idx_inj nd hy hx'
    omega
theorem tieR_dif {ns : List Str} (nd : ns.Nodup) : ∀ {ps : List (Nat × Nat)} {ts : List (Str × Str)}, TieR ns ps ts → ps.Nodup → (∀ q ∈ ps, q.1 < q.2) → (ts.map pairP).Nodup
  | _, _, .nil, _, _ => List.nodup_nil
  | q :: ps, t :: ts, .cons a r, h, lt => by
    obtain ⟨n, h⟩ := List.nodup_cons.mp h
    refine List.nodup_cons.mpr ⟨fun z => ?_, tieR_dif nd r h fun q hq => lt q (List.mem_cons_of_mem _ hq)⟩
    obtain ⟨u, hu, e⟩ := List.mem_map.mp z
    obtain ⟨s, hs, b⟩ := paired_mem r u hu
    exact n (tieR_inj nd (lt q List.mem_cons_self) (lt s (List.mem_cons_of_mem _ hs)) a b e.symm ▸ hs)
theorem tieR_in {ns : List Str} (nd : ns.Nodup) {ps : List (Nat × Nat)} {ts : List (Str × Str)} (r : TieR ns ps ts) (lt : ∀ q ∈ ps, q.1 < q.2) : ∀ t ∈ ts, t.1 ∈ ns ∧ t.2 ∈ ns ∧ t.1 ≠ t.2 := fun t ht => by
  obtain ⟨q, hq, x, y, hx, hy, e⟩ := paired_mem r t ht
  have ne : x ≠ y := fun z => by
    subst z
    have := idx_inj nd hx hy
    have := lt q hq
    omega
  rcases e with rfl | rfl
  · exact ⟨List.mem_of_getElem? hx, List.mem_of_getElem? hy, ne⟩
  · exact ⟨List.mem_of_getElem? hy, List.mem_of_getElem? hx, ne.symm⟩
/-- plan(source, n): a new tuple of names and ties -/
def spPlan : Sp := fun vs H Q _ => ∃ (p : Addr) (r m : Int) (n : Nat), vs = [.ref p, .int n] ∧ H p = some (.lst [.int r, .int m]) ∧ SrcOk r m ∧ 1 ≤ n ∧ n ≤ 12 ∧
  ∀ (r' m' : Int) (ns : List Str) (ts : List (Str × Str)) (t tn tt : Addr) (xs : List V) (H' : Hp), SrcOk r' m' → PlanOk n ns ts → (∀ b o, b ≠ p → H b = some o → H' b = some o) → H' p = some (.lst [.int r', .int m']) → H t = none →
    H' t = some (.tup [.ref tn, .ref tt]) → H' tn = some (.tup (ns.map V.str)) → H' tt = some (.tup xs) → TiesT H' xs ts → Q (.ref t) H'
section
variable {P : Program} {w : World} {K : PySem.W.Frag} {mg : Str → Option Value} {base : Heap}
abbrev sLawPlan : Stmt := top ix_law_plan
theorem scLawPlan : FnScope ["source", "most", "many", "names", "ties", "at", "to"] ["source", "most"] (defScope sLawPlan) := ⟨rfl, rfl, rfl, by decide +kernel, rfl, by decide +kernel, by decide +kernel⟩
theorem has_plan (T : Bn mg) (D : DFE K mg "_law_plan" sLawPlan ["source", "most"]) (h_law_draw : Has P w K mg base CX0 1 "_law_draw" ["source", "span"] spDraw) (h_law_mixed : Has P w K mg base CX0 2 "_law_mixed" ["source", "things"] (spMixed K)) (h_law_names : Has P w K mg base CX0 4 "_law_names" ["source", "many"] spNames) (h_law_pairs : Has P w K mg base CX0 2 "_law_pairs" ["source", "many", "kind"] spPairs) : Has P w K mg base CX0 5 "_law_plan" ["source", "most"] spPlan := by
  refine has_of D scLawPlan (fun vs H Q E h => ?_) (fun f cdv A outer s H vs Q E hr h => ?_)
  · obtain ⟨p, r, m, n, rfl, _⟩ := h; rfl
  · obtain ⟨p, r, m, n, rfl, hp, ok, n1, n2, k⟩ := h
    have nd := scLawPlan.nd
    refine ⟨_, (pss_cons (ps_sv 2 nd (pe_op op_add pe_int (pe_h h_law_draw hr (by decide) rfl (pa_cons (pv 0) (pa_cons (pv 1) pa_nil)))))
    (pss_cons (ps_par (i := 3) (j := 4) (by rfl) nd rfl rfl (by decide) rfl rfl (pa_cons (pe_h h_law_names hr (by decide) rfl (pa_cons (pv 0) (pa_cons (pv 2) pa_nil))) (pa_cons (pe_lst pa_nil) pa_nil)) (by rfl))
    (pss_cons (ps_for PassesOwn.never rfl (pi_list (pe_h h_law_pairs hr (by decide) rfl (pa_cons (pv 0) (pa_cons (pv 2) (pa_cons (pe_h h_law_draw hr (by decide) rfl (pa_cons (pv 0) (pa_cons pe_int pa_nil))) pa_nil))))) (pg_tup rfl (pgs_cons (pg_name (i := 5) nd rfl (by first | exact Or.inl rfl | exact Or.inr rfl)) (pgs_cons (pg_name (i := 6) nd rfl (by first | exact Or.inl rfl | exact Or.inr rfl)) pgs_nil))) (pss_one (ps_expr (pe_bm PySem.F.plainAttrs_list PySem.F.slot_list_append PySem.F.type_list_append mt_append (pv 4) (pa_cons (pe_ifExp (pt_cmpR op_eq (pe_h h_law_draw hr (by decide) rfl (pa_cons (pv 0) (pa_cons pe_int pa_nil))) pe_int (by first | exact nomark _ | rfl)) (pe_tup (pa_cons (pe_ix ix_list (pv 3) (pv 5) (fun _ _ => rfl)) (pa_cons (pe_ix ix_list (pv 3) (pv 6) (fun _ _ => rfl)) pa_nil))) (pe_tup (pa_cons (pe_ix ix_list (pv 3) (pv 6) (fun _ _ => rfl)) (pa_cons (pe_ix ix_list (pv 3) (pv 5) (fun _ _ => rfl)) pa_nil)))) pa_nil)))))
    (pss_one (ps_ret (pe_tup (pa_cons (pe_callTy call_tuple_of (by rfl) T.z_tuple (by decide +kernel) (pa_cons (pe_h h_law_mixed hr (by decide) rfl (pa_cons (pv 0) (pa_cons (pv 3) pa_nil))) pa_nil)) (pa_cons (pe_callTy call_tuple_of (by rfl) T.z_tuple (by decide +kernel) (pa_cons (pe_h h_law_mixed hr (by decide) rfl (pa_cons (pv 0) (pa_cons (pv 4) pa_nil))) pa_nil)) pa_nil)))))))), ?_⟩
    have lv := Lv.one hp
    wide_line
    intro r1 m1 j ok1 j0 j1
    obtain ⟨a, rfl⟩ := Int.eq_ofNat_of_zero_le j0
    wide_line with st lv 0 H1 lv1
    wide_line
    intro r2 m2 ns ln H2 ok2 nl nn no off2 src2 fln hln
    have nl : ns.length = 1 + a := nl
    have al : 1 + a ≤ n := by omega
    have lv2 := lv1.stn 0 rfl src2 off2 fln hln
    wide_line
    wide_line with al lv2 lt flt H3 lv3 s3
    wide_line
    intro r3 m3 kd ok3 kd0 kd1
    wide_line with st lv3 2 H4 lv4
    wide_line
    intro r5 m5 ps xs lp H5 ok5 po off5 src5 flp hlp pt
    have lv5 := lv4.stn 2 rfl src5 off5 flp hlp
    wide_line
    refine for_list (K := K) (a := lp) (xs := xs) (fun k σ H' => Hold (∃ (r m : Int) (ys : List V) (ts : List (Str × Str)) (u5 u6 : Option V), σ = [some (.ref p), some (.int n), some (.int ((1 + a : Nat) : Int)), some (.ref ln), some (.ref lt), u5, u6] ∧
      Lv H [p] H' [(lp, .lst xs), (lt, .lst ys), (ln, .lst (ns.map V.str)), (p, .lst [.int r, .int m])] ∧ SrcOk r m ∧ PairsT H' xs ps ∧ TiesT H' ys ts ∧ TieR ns (ps.take k) ts))
      ⟨r5, m5, [], [], none, none, rfl, lv5, ok5, pt, .nil, .nil⟩ (fun k σ H' _ ⟨_, _, _, _, _, _, _, z, _⟩ => SqL.of (z.get 0 rfl)) ?_ ?_
    · rintro k0 y σ H6 hy ⟨r6, m6, ys, ts, u5, u6, rfl, lv6, ok6, pt6, tt6, tr6⟩
      obtain ⟨q, hq, b, rfl, hb⟩ := paired_at pt6 hy
      have pq := po.2 q (List.mem_of_getElem? hq)
      have hb2 : SqT K H6 b [.int (q.1 : Nat), .int (q.2 : Nat)] := SqT.of hb
      have i1 : ns[q.1]? = some (ns[q.1]'(by omega)) := List.getElem?_eq_getElem _
      have i2 : ns[q.2]? = some (ns[q.2]'(by omega)) := List.getElem?_eq_getElem _
      generalize ns[q.1]'(by omega) = x1 at i1
      generalize ns[q.2]'(by omega) = x2 at i2
      have a1 : atI (ns.map V.str) ((q.1 : Nat) : Int) = some (V.str x1) := atI_nat (by rw [List.getElem?_map, i1]; rfl)
      have a2 : atI (ns.map V.str) ((q.2 : Nat) : Int) = some (V.str x2) := atI_nat (by rw [List.getElem?_map, i2]; rfl)
      have tk : ps.take (k0 + 1) = ps.take k0 ++ [q] := by rw [List.take_succ, hq]; rfl
      have tl6 : ts.length ≤ 66 := by
        have h1 := paired_len tr6
        have h2 := few_pairs (Nat.le_trans (by omega : 1 + a ≤ 12) (Nat.le_refl _)) po
        rw [List.length_take] at h1
        omega
      have yl6 := paired_len tt6
      wide_line
      intro r7 m7 z ok7 z0 z1
      wide_line with stk lv6 3 H7 lv7 kt7
      wide_line
      have fin : ∀ (tq : Str × Str) (hq : tq = (x1, x2) ∨ tq = (x2, x1)) (b2 : Addr) (H8 : Hp), Lv H [p] H8 [(b2, .tup [.str tq.1, .str tq.2]), (lp, .lst xs), (lt, .lst ys), (ln, .lst (ns.map V.str)), (p, .lst [.int r7, .int m7])] → Same H7 H8 →
          ∀ H9, upd H8 lt (.lst (ys ++ [.ref b2])) = H9 → Hold (∃ (r m : Int) (ys : List V) (ts : List (Str × Str)) (u5 u6 : Option V), [some (.ref p), some (.int n), some (.int ((1 + a : Nat) : Int)), some (.ref ln), some (.ref lt), some (.int (q.1 : Nat)), some (.int (q.2 : Nat))] = [some (.ref p), some (.int n), some (.int ((1 + a : Nat) : Int)), some (.ref ln), some (.ref lt), u5, u6] ∧
      Lv H [p] H9 [(lp, .lst xs), (lt, .lst ys), (ln, .lst (ns.map V.str)), (p, .lst [.int r, .int m])] ∧ SrcOk r m ∧ PairsT H9 xs ps ∧ TiesT H9 ys ts ∧ TieR ns (ps.take (k0 + 1)) ts) := by
        intro tq hq b2 H8 lv8 s8 H9 e9
        have lv9 := Lv.stE lv8 2 rfl e9
        have kt9 := KeepT.st (lv8.get 2 rfl) e9
        have kt := kt7.trans ((KeepT.same s8).trans kt9)
        refine ⟨r7, m7, ys ++ [.ref b2], ts ++ [tq], _, _, rfl, lv9.picks [1, 2, 3, 4] rfl (by decide) (by simp), ok7, pt6.keep kt, paired_app (tt6.keep kt) (.cons ⟨b2, rfl, kt9 _ _ (lv8.get 0 rfl)⟩ .nil), ?_⟩
        rw [tk]
        exact paired_app tr6 (.cons ⟨x1, x2, i1, i2, hq⟩ .nil)
      refine ite2 (fun c => ?_) (fun c => ?_)
      · wide_line
        wide_line with al lv7 b2 fb2 H8 lv8 s8
        wide_line
        refine ⟨by rw [sizeLine_eq]; omega, ?_⟩
        exact fin (x1, x2) (.inl rfl) b2 H8 lv8 s8 _ rfl
      · wide_line
        wide_line with al lv7 b2 fb2 H8 lv8 s8
        wide_line
        refine ⟨by rw [sizeLine_eq]; omega, ?_⟩
        exact fin (x2, x1) (.inr rfl) b2 H8 lv8 s8 _ rfl
    · rintro σ H6 ⟨r6, m6, ys, ts, u5, u6, rfl, lv6, ok6, pt6, tt6, tr6⟩
      rw [paired_len pt6, List.take_length] at tr6
      have pk : PlanOk n ns ts := ⟨by omega, by omega, nn, no, tieR_in nn tr6 fun q hq => (po.2 q hq).1, tieR_dif nn tr6 po.1 fun q hq => (po.2 q hq).1, by
        rw [← paired_len tr6]
        exact Nat.le_trans (few_pairs (by omega : 1 + a ≤ 12) po) (by decide)⟩
      have l12 := pk.most
      have l66 := pk.few
      have yl6 := paired_len tt6
      wide_line
      refine ⟨by rw [List.length_map]; omega, ?_⟩
      intro r7 m7 zs l7 H7 ok7 pm7 off7 src7 fl7 hl7
      obtain ⟨ns', pn, rfl⟩ := strs_perm pm7
      have lv7 := lv6.stn 3 rfl src7 off7 fl7 hl7
      have tt7 := tt6.keep (.off (lv6.get 3 rfl) (fun _ z => nomatch z) off7)
      wide_line
      refine .inl ⟨SqL.of (lv7.get 0 rfl), ?_⟩
      wide_line with al lv7 tn ftn H8 lv8 s8
      wide_line
      intro r9 m9 zs9 l9 H9 ok9 pm9 off9 src9 fl9 hl9
      have tt9 := (tt7.keep (.same s8)).keep (.off (lv8.get 5 rfl) (fun _ z => nomatch z) off9)
      obtain ⟨ts', pt', tt'⟩ := paired_perm pm9 tt9
      have lv9 := lv8.stn 5 rfl src9 off9 fl9 hl9
      wide_line
      refine .inl ⟨SqL.of (lv9.get 0 rfl), ?_⟩
      wide_line with al lv9 tt0 ftt H10 lv10 s10
      wide_line
      wide_line with al lv10 t0 ft0 H11 lv11 s11
      exact k r9 m9 ns' ts' t0 tn tt0 zs9 H11 ok9 (pk.perm pn pt') lv11.off (lv11.get 8 rfl) (lv10.free ft0) (lv11.get 0 rfl) (lv11.get 3 rfl) (lv11.get 1 rfl) (TiesT.keep (.same (s10.trans s11)) tt')
end
end Pw

set_option Elab.async false
set_option linter.all false
set_option maxRecDepth 100000
set_option maxHeartbeats 4000000
namespace Pw
open PySem PySem.Spec PyProof.Rows L2 Ct
local macro_rules | `(tactic| wide_line) => `(tactic| repeat ((fail_if_success (with_reducible refine at_while ?_)); (fail_if_success (with_reducible refine at_while1 ?_)); (conv => whnf); first | ((with_reducible refine And.intro ?_ ?_); focus (first | (first | ((with_reducible show (_ : Nat) ≤ _); first | exact sz0 | exact sz1 | exact sz2 | exact sz3 | exact sz4 | exact sz5 | exact sz6 | exact sz7 | exact sz8 | exact sz10 | exact sz11 | exact sz12 | exact sz14 | omega | decide | (simp only [List.length_cons, List.length_nil]; omega)) | ((with_reducible show (_ : Int) ≤ _); first | omega | decide) | ((with_reducible show (_ : Int) < _); first | omega | decide) | ((with_reducible show (_ : Nat) < _); omega)) | ((fail_if_success (with_reducible show (_ : Nat) ≤ _)); (fail_if_success (with_reducible show (_ : Int) ≤ _)); (fail_if_success (with_reducible show (_ : Int) < _)); (fail_if_success (with_reducible show (_ : Nat) < _)); first | exact kv_str _ | exact kv_int _ | rfl | assumption | exact flat_strs _ | exact Lv.get (by assumption) 0 rfl | exact Lv.get (by assumption) 1 rfl | exact Lv.get (by assumption) 2 rfl | exact Lv.get (by assumption) 3 rfl | exact Lv.get (by assumption) 4 rfl | exact Lv.get (by assumption) 5 rfl | exact Lv.get (by assumption) 6 rfl | exact SqL.of (Lv.get (by assumption) 0 rfl) | exact SqL.of (Lv.get (by assumption) 1 rfl) | exact SqL.of (Lv.get (by assumption) 2 rfl) | exact SqL.of (Lv.get (by assumption) 3 rfl) | exact SqL.of (Lv.get (by assumption) 4 rfl) | exact SqL.of (Lv.get (by assumption) 5 rfl) | exact Or.inl (SqL.of (Lv.get (by assumption) 0 rfl)) | exact Or.inl (SqL.of (Lv.get (by assumption) 1 rfl)) | exact Or.inl (SqL.of (Lv.get (by assumption) 2 rfl)) | exact Or.inl (SqL.of (Lv.get (by assumption) 3 rfl)) | exact Or.inl (SqL.of (Lv.get (by assumption) 4 rfl)) | exact Or.inl (SqL.of (Lv.get (by assumption) 5 rfl)) | exact ⟨_, SqL.of (Lv.get (by assumption) 0 rfl)⟩ | exact ⟨_, SqL.of (Lv.get (by assumption) 1 rfl)⟩ | exact ⟨_, SqL.of (Lv.get (by assumption) 2 rfl)⟩ | exact ⟨_, SqL.of (Lv.get (by assumption) 3 rfl)⟩ | exact ⟨_, SqL.of (Lv.get (by assumption) 4 rfl)⟩ | exact ⟨_, SqL.of (Lv.get (by assumption) 5 rfl)⟩ | exact Or.inl ⟨_, SqL.of (Lv.get (by assumption) 0 rfl), rfl⟩ | exact Or.inl ⟨_, SqL.of (Lv.get (by assumption) 1 rfl), rfl⟩ | exact Or.inl ⟨_, SqL.of (Lv.get (by assumption) 2 rfl), rfl⟩ | exact Or.inl ⟨_, SqL.of (Lv.get (by assumption) 3 rfl), rfl⟩ | exact Or.inl ⟨_, SqL.of (Lv.get (by assumption) 4 rfl), rfl⟩ | exact Or.inl ⟨_, SqL.of (Lv.get (by assumption) 5 rfl), rfl⟩ | exact Or.inl ⟨rfl, _, SqL.of (Lv.get (by assumption) 0 rfl)⟩ | exact Or.inl ⟨rfl, _, SqL.of (Lv.get (by assumption) 1 rfl)⟩ | exact Or.inl ⟨rfl, _, SqL.of (Lv.get (by assumption) 2 rfl)⟩ | exact Or.inl ⟨rfl, _, SqL.of (Lv.get (by assumption) 3 rfl)⟩ | exact Or.inl ⟨rfl, _, SqL.of (Lv.get (by assumption) 4 rfl)⟩ | exact Or.inl ⟨rfl, _, SqL.of (Lv.get (by assumption) 5 rfl)⟩ | exact Or.inr (SqT.of (Lv.get (by assumption) 0 rfl)) | exact Or.inr (SqT.of (Lv.get (by assumption) 1 rfl)) | exact Or.inr (SqT.of (Lv.get (by assumption) 2 rfl)) | exact Or.inr (SqT.of (Lv.get (by assumption) 3 rfl)) | exact SqT.of (Lv.get (by assumption) 0 rfl) | exact SqT.of (Lv.get (by assumption) 1 rfl) | exact SqT.of (Lv.get (by assumption) 2 rfl) | exact dgetN (Lv.get (by assumption) 0 rfl) (by assumption) | exact dgetN (Lv.get (by assumption) 1 rfl) (by assumption) | exact dgetN (Lv.get (by assumption) 2 rfl) (by assumption) | exact dgetN (Lv.get (by assumption) 3 rfl) (by assumption) | exact dgetN (Lv.get (by assumption) 4 rfl) (by assumption) | decide | ((with_reducible show _ ∧ _); omega)))) | ((fail_if_success (with_reducible apply @Exists.intro (Nat → _))); (with_reducible apply Exists.intro))))
local macro_rules
  | `(tactic| wide_line with al $lv:ident $l:ident $nl:ident $H:ident $lv1:ident $s1:ident) => `(tactic| (intro $l:ident $nl:ident; generalize he : upd _ _ _ = $H:ident; have $lv1:ident := Lv.alE $lv $nl he; have $s1:ident := sameE $nl he; clear he; (try dsimp only at $lv1:ident)))
  | `(tactic| wide_line with alx $lv:ident $nl:ident $H:ident $lv1:ident $s1:ident) => `(tactic| (generalize he : upd _ _ _ = $H:ident; have $lv1:ident := Lv.alE $lv $nl he; have $s1:ident := sameE $nl he; clear he; (try dsimp only at $lv1:ident)))
  | `(tactic| wide_line with sts $lv:ident $i:num $H:ident $lv1:ident $s0:ident $np:ident $s1:ident) => `(tactic| (generalize he : upd _ _ _ = $H:ident; have $lv1:ident := Lv.stE $lv $i rfl he; have $s1:ident := sameN $s0 $np he; clear he; (try dsimp only at $lv1:ident)))
  | `(tactic| wide_line with st $lv:ident $i:num $H:ident $lv1:ident) => `(tactic| (generalize he : upd _ _ _ = $H:ident; have $lv1:ident := Lv.stE $lv $i rfl he; clear he; (try dsimp only at $lv1:ident)))
  | `(tactic| wide_line with stk $lv:ident $i:num $H:ident $lv1:ident $k1:ident) => `(tactic| (generalize he : upd _ _ _ = $H:ident; have $lv1:ident := Lv.stE $lv $i rfl he; have $k1:ident := KeepT.st (Lv.get $lv $i rfl) he; clear he; (try dsimp only at $lv1:ident)))
/-- bits_of(n): a new list of the positions -/
def spBitsOf : Sp := fun vs H Q _ => ∃ N : Nat, vs = [.int (N : Nat)] ∧ N < 2 ^ 200 ∧ ∀ l H', Same H H' → H l = none → H' l = some (.lst ((bitsL N).map natV)) → Q (.ref l) H'
/-- the names at the bits of a number -/
def pickN (ns : List Str) (N : Nat) : List Str := (bitsL N).filterMap fun i => ns[i]?
/-- web.named(n): a new list of the names at the bits; the web may be half made -/
def spNamed (K : PySem.W.Frag) (C : Addr) : Sp := fun vs H Q _ => ∃ (x dx tp : Addr) (N : Nat) (fs : List (Str × V)) (ns : List Str), vs = [.ref x, .int (N : Nat)] ∧ H x = some (.ins C dx fs) ∧ fs.lookup ("_places" : Str) = some (V.ref tp) ∧ SqT K H tp (ns.map V.str) ∧ N < 2 ^ ns.length ∧ ns.length ≤ 100 ∧
  ∀ l H', Same H H' → H l = none → H' l = some (.lst ((pickN ns N).map V.str)) → Q (.ref l) H'
section
variable {P : Program} {w : World} {K : PySem.W.Frag} {mg : Str → Option Value} {base : Heap} {C fa : Addr} {fd : FuncData}
abbrev sBitsOf : Stmt := top ix_bits_of
theorem scBitsOf : FnScope ["number", "at"] ["number"] (defScope sBitsOf) := ⟨rfl, rfl, rfl, by decide +kernel, rfl, by decide +kernel, by decide +kernel⟩
theorem has_bits_of (T : Bn mg) (D : DFE K mg "bits_of" sBitsOf ["number"]) : Has P w K mg base CX0 1 "bits_of" ["number"] spBitsOf := by
  refine has_of D scBitsOf (fun vs H Q E h => ?_) (fun f cdv A outer s H vs Q E hr h => ?_)
  · obtain ⟨N, rfl, _⟩ := h; rfl
  · obtain ⟨N, rfl, hN, k⟩ := h
    have nd := scBitsOf.nd
    refine ⟨_, (pss_one (ps_ret (pe_lc (own := [("at", 1)]) (g := gName 1) rfl nd (pi_range1 rfl T.z_range (pa_cons (pe_bits (pv 0)) pa_nil)) (blkOk_by (own := [("at", 1)]) (N := ["number", "at"]) (sc := defScope sBitsOf) (by decide +kernel)) (fun _ _ _ _ _ => (pg_name (i := 1) nd rfl (by first | exact Or.inl rfl | exact Or.inr rfl))) (fun _ _ _ _ _ => (pts_one (pt_truthk (K := K) rfl (pe_op op_andB (pe_op op_shrB (pv 0) (pv 1)) pe_int) (by intro _; rfl)))) (fun _ _ _ _ _ => (pv 1))))), ?_⟩
    have lv := Lv.zero H
    have hb : Builtin.Int.intBits (N : Int) ≤ 200 := intBits_le_iff.mpr (by simpa using hN)
    wide_line
    intro D nD
    refine lc_range (fun j H' => Hold (Lv H [] H' [(D, .lst (((List.range j).filter N.testBit).map natV))])) ⟨lv.al nD⟩ ?_ ?_
    · rintro j H1 hj ⟨lv1⟩
      rw [Int.zero_add]
      wide_line
      have e : ((((N / 2 ^ j &&& 1 : Nat) : Int)) != 0) = N.testBit j := by
        rw [Nat.and_one_is_mod, Bool.eq_iff_iff, ← odd_test, bne_iff_ne]
        omega
      rw [e]
      have st : (List.range (j + 1)).filter N.testBit = (List.range j).filter N.testBit ++ (if N.testBit j = true then [j] else []) := by
        rw [List.range_succ, List.filter_append]
        congr 1
        cases e2 : N.testBit j <;> simp [List.filter, e2]
      refine ite2 (fun c => ?_) (fun c => ?_)
      · wide_line
        refine ⟨?_, ?_⟩
        · have := List.length_filter_le N.testBit (List.range j)
          rw [List.length_map, sizeLine_eq]
          rw [List.length_range] at this
          rw [Int.toNat_natCast] at hj
          omega
        · wide_line with st lv1 0 H2 lv2
          refine ⟨lv2.re ?_⟩
          rw [st, if_pos c, List.map_append]
          rfl
      · refine ⟨lv1.re ?_⟩
        rw [st, if_neg c, List.append_nil]
    · rintro H1 ⟨lv1⟩
      wide_line
      rw [Int.toNat_natCast] at lv1
      exact k D H1 lv1.sm nD (lv1.get 0 rfl)
abbrev sNamed : Stmt := inClass (top ix_Web) mx_Web_named
theorem scNamed : FnScope ["self", "number", "at"] ["self", "number"] (defScope sNamed) := ⟨rfl, rfl, rfl, by decide +kernel, rfl, by decide +kernel, by decide +kernel⟩
theorem ok_named (W : Cls K C) (n1 : NoAttr K C "_places") (F : Fun K "named" "Web.named" sNamed fa fd) (h_bits_of : Has P w K mg base CX0 1 "bits_of" ["number"] spBitsOf) : FnOk P w K mg base CX0 2 fa fd ["self", "number"] (spNamed K C) := by
  refine F.ok scNamed (fun vs H Q E h => ?_) (fun cdv A outer s H vs Q E hr h => ?_)
  · obtain ⟨x, dx, tp, N, fs, ns, rfl, _⟩ := h; rfl
  · obtain ⟨x, dx, tp, N, fs, ns, rfl, hx, hp, htp, hN, hl, k⟩ := h
    have nd := scNamed.nd
    refine ⟨_, (pss_one (ps_ret (pe_lc (own := [("at", 2)]) (g := gName 2) (tt := tYes) rfl nd (pi_list (pe_h h_bits_of hr (by decide) rfl (pa_cons (pv 1) pa_nil))) (blkOk_by (own := [("at", 2)]) (N := ["self", "number", "at"]) (sc := defScope sNamed) (by decide +kernel)) (fun _ _ _ _ _ => (pg_name (i := 2) nd rfl (by first | exact Or.inl rfl | exact Or.inr rfl))) (fun _ _ _ _ _ => pts_nil) (fun _ _ _ _ _ => (pe_ix (ix_tupk (K := K) rfl) (pe_fldk (K := K) rfl (pv 0) rfl) (pv 2) (fun _ _ => rfl)))))), ?_⟩
    have lv := Lv.zero H
    wide_line
    refine ⟨Nat.lt_of_lt_of_le hN (Nat.pow_le_pow_right (by decide) (by omega)), fun l H1 s1 nl hl1 => ?_⟩
    have lv1 := lv.al' s1 nl hl1
    wide_line
    intro D nD
    have lvD := lv1.al (o := .lst []) nD
    have bl : bitsL N = (List.range ns.length).filter N.testBit := bitsL_of hN
    refine lc_list (K := K) (a := l) (xs := (bitsL N).map natV) (fun j H' => Hold (Lv H [] H' [(D, .lst ((((bitsL N).take j).filterMap fun i => ns[i]?).map V.str)), (l, .lst ((bitsL N).map natV))])) ⟨lvD⟩ (fun j H' _ z => SqL.of (z.out.get 1 rfl)) ?_ ?_
    · rintro j y H2 hy ⟨lv2⟩
      obtain ⟨i, hi, rfl⟩ : ∃ i, (bitsL N)[j]? = some i ∧ y = natV i := by
        rw [List.getElem?_map] at hy
        cases e : (bitsL N)[j]? with
        | none => rw [e] at hy; cases hy
        | some i => rw [e] at hy; exact ⟨i, rfl, (Option.some.inj hy).symm⟩
      have il : i < ns.length := by
        have := List.mem_of_getElem? hi
        rw [bl] at this
        exact List.mem_range.mp (List.mem_filter.mp this).1
      have i1 : ns[i]? = some ns[i] := List.getElem?_eq_getElem il
      have hx2 := lv2.sm _ _ hx
      have htp2 : SqT K H2 tp (ns.map V.str) := same_t lv2.sm htp
      have a1 : atI (ns.map V.str) ((i : Nat) : Int) = some (V.str ns[i]) := atI_nat (by rw [List.getElem?_map, i1]; rfl)
      have tk : (bitsL N).take (j + 1) = (bitsL N).take j ++ [i] := by rw [List.take_succ, hi]; rfl
      wide_line
      refine ⟨?_, ?_⟩
      · have h1 := List.length_filterMap_le (fun i => ns[i]?) ((bitsL N).take j)
        have h2 := List.length_take_le j (bitsL N)
        have h3 := (List.getElem?_eq_some_iff.mp hi).1
        have h4 := List.length_filter_le N.testBit (List.range ns.length)
        rw [← bl, List.length_range] at h4
        rw [List.length_map, sizeLine_eq]
        omega
      · wide_line with st lv2 0 H3 lv3
        refine ⟨lv3.re ?_⟩
        rw [tk, List.filterMap_append, List.map_append]
        simp [i1]
    · rintro H2 ⟨lv2⟩
      wide_line
      rw [List.length_map, List.take_length] at lv2
      exact k D H2 lv2.sm (lv1.free nD) (lv2.get 0 rfl)
/-- whose bits are those of a test are the names that pass it -/
theorem pickN_filter {ns : List Str} {N : Nat} {g : Str → Bool} (hN : N < 2 ^ ns.length) (h : ∀ i x, ns[i]? = some x → N.testBit i = g x) : pickN ns N = ns.filter g := by
  have key : ∀ (k : Nat), k ≤ ns.length → ((List.range k).filter N.testBit).filterMap (fun i => ns[i]?) = (ns.take k).filter g := by
    intro k
    induction k with
    | zero => intro _; rfl
    | succ k ih =>
      intro hk
      have i1 : ns[k]? = some ns[k] := List.getElem?_eq_getElem hk
      rw [List.range_succ, List.filter_append, List.filterMap_append, ih (Nat.le_of_lt hk), List.take_succ, i1, List.filter_append]
      congr 1
      have := h k _ i1
      cases e : N.testBit k <;> rw [e] at this <;> simp [List.filter, e, ← this, i1]
  unfold pickN
  rw [bitsL_of hN, key ns.length (Nat.le_refl _), List.take_length]
end
end Pw

set_option Elab.async false
set_option linter.all false
set_option maxRecDepth 100000
set_option maxHeartbeats 4000000
namespace Pw
open PySem PySem.Spec PyProof.Rows L2 Ct
local macro_rules | `(tactic| wide_line) => `(tactic| repeat ((fail_if_success (with_reducible refine at_while ?_)); (fail_if_success (with_reducible refine at_while1 ?_)); (conv => whnf); first | ((with_reducible refine And.intro ?_ ?_); focus (first | (first | ((with_reducible show (_ : Nat) ≤ _); first | exact sz0 | exact sz1 | exact sz2 | exact sz3 | exact sz4 | exact sz5 | exact sz6 | exact sz7 | exact sz8 | exact sz10 | exact sz11 | exact sz12 | exact sz14 | omega | decide | (simp only [List.length_cons, List.length_nil]; omega)) | ((with_reducible show (_ : Int) ≤ _); first | omega | decide) | ((with_reducible show (_ : Int) < _); first | omega | decide) | ((with_reducible show (_ : Nat) < _); omega)) | ((fail_if_success (with_reducible show (_ : Nat) ≤ _)); (fail_if_success (with_reducible show (_ : Int) ≤ _)); (fail_if_success (with_reducible show (_ : Int) < _)); (fail_if_success (with_reducible show (_ : Nat) < _)); first | exact kv_str _ | exact kv_int _ | rfl | assumption | exact flat_strs _ | exact Lv.get (by assumption) 0 rfl | exact Lv.get (by assumption) 1 rfl | exact Lv.get (by assumption) 2 rfl | exact Lv.get (by assumption) 3 rfl | exact Lv.get (by assumption) 4 rfl | exact Lv.get (by assumption) 5 rfl | exact Lv.get (by assumption) 6 rfl | exact SqL.of (Lv.get (by assumption) 0 rfl) | exact SqL.of (Lv.get (by assumption) 1 rfl) | exact SqL.of (Lv.get (by assumption) 2 rfl) | exact SqL.of (Lv.get (by assumption) 3 rfl) | exact SqL.of (Lv.get (by assumption) 4 rfl) | exact SqL.of (Lv.get (by assumption) 5 rfl) | exact Or.inl (SqL.of (Lv.get (by assumption) 0 rfl)) | exact Or.inl (SqL.of (Lv.get (by assumption) 1 rfl)) | exact Or.inl (SqL.of (Lv.get (by assumption) 2 rfl)) | exact Or.inl (SqL.of (Lv.get (by assumption) 3 rfl)) | exact Or.inl (SqL.of (Lv.get (by assumption) 4 rfl)) | exact Or.inl (SqL.of (Lv.get (by assumption) 5 rfl)) | exact ⟨_, SqL.of (Lv.get (by assumption) 0 rfl)⟩ | exact ⟨_, SqL.of (Lv.get (by assumption) 1 rfl)⟩ | exact ⟨_, SqL.of (Lv.get (by assumption) 2 rfl)⟩ | exact ⟨_, SqL.of (Lv.get (by assumption) 3 rfl)⟩ | exact ⟨_, SqL.of (Lv.get (by assumption) 4 rfl)⟩ | exact ⟨_, SqL.of (Lv.get (by assumption) 5 rfl)⟩ | exact Or.inl ⟨_, SqL.of (Lv.get (by assumption) 0 rfl), rfl⟩ | exact Or.inl ⟨_, SqL.of (Lv.get (by assumption) 1 rfl), rfl⟩ | exact Or.inl ⟨_, SqL.of (Lv.get (by assumption) 2 rfl), rfl⟩ | exact Or.inl ⟨_, SqL.of (Lv.get (by assumption) 3 rfl), rfl⟩ | exact Or.inl ⟨_, SqL.of (Lv.get (by assumption) 4 rfl), rfl⟩ | exact Or.inl ⟨_, SqL.of (Lv.get (by assumption) 5 rfl), rfl⟩ | exact Or.inl ⟨rfl, _, SqL.of (Lv.get (by assumption) 0 rfl)⟩ | exact Or.inl ⟨rfl, _, SqL.of (Lv.get (by assumption) 1 rfl)⟩ | exact Or.inl ⟨rfl, _, SqL.of (Lv.get (by assumption) 2 rfl)⟩ | exact Or.inl ⟨rfl, _, SqL.of (Lv.get (by assumption) 3 rfl)⟩ | exact Or.inl ⟨rfl, _, SqL.of (Lv.get (by assumption) 4 rfl)⟩ | exact Or.inl ⟨rfl, _, SqL.of (Lv.get (by assumption) 5 rfl)⟩ | exact Or.inr (SqT.of (Lv.get (by assumption) 0 rfl)) | exact Or.inr (SqT.of (Lv.get (by assumption) 1 rfl)) | exact Or.inr (SqT.of (Lv.get (by assumption) 2 rfl)) | exact Or.inr (SqT.of (Lv.get (by assumption) 3 rfl)) | exact SqT.of (Lv.get (by assumption) 0 rfl) | exact SqT.of (Lv.get (by assumption) 1 rfl) | exact SqT.of (Lv.get (by assumption) 2 rfl) | exact dgetN (Lv.get (by assumption) 0 rfl) (by assumption) | exact dgetN (Lv.get (by assumption) 1 rfl) (by assumption) | exact dgetN (Lv.get (by assumption) 2 rfl) (by assumption) | exact dgetN (Lv.get (by assumption) 3 rfl) (by assumption) | exact dgetN (Lv.get (by assumption) 4 rfl) (by assumption) | decide | ((with_reducible show _ ∧ _); omega)))) | ((fail_if_success (with_reducible apply @Exists.intro (Nat → _))); (with_reducible apply Exists.intro))))
local macro_rules
  | `(tactic| wide_line with al $lv:ident $l:ident $nl:ident $H:ident $lv1:ident $s1:ident) => `(tactic| (intro $l:ident $nl:ident; generalize he : upd _ _ _ = $H:ident; have $lv1:ident := Lv.alE $lv $nl he; have $s1:ident := sameE $nl he; clear he; (try dsimp only at $lv1:ident)))
  | `(tactic| wide_line with alx $lv:ident $nl:ident $H:ident $lv1:ident $s1:ident) => `(tactic| (generalize he : upd _ _ _ = $H:ident; have $lv1:ident := Lv.alE $lv $nl he; have $s1:ident := sameE $nl he; clear he; (try dsimp only at $lv1:ident)))
  | `(tactic| wide_line with sts $lv:ident $i:num $H:ident $lv1:ident $s0:ident $np:ident $s1:ident) => `(tactic| (generalize he : upd _ _ _ = $H:ident; have $lv1:ident := Lv.stE $lv $i rfl he; have $s1:ident := sameN $s0 $np he; clear he; (try dsimp only at $lv1:ident)))
  | `(tactic| wide_line with st $lv:ident $i:num $H:ident $lv1:ident) => `(tactic| (generalize he : upd _ _ _ = $H:ident; have $lv1:ident := Lv.stE $lv $i rfl he; clear he; (try dsimp only at $lv1:ident)))
  | `(tactic| wide_line with stk $lv:ident $i:num $H:ident $lv1:ident $k1:ident) => `(tactic| (generalize he : upd _ _ _ = $H:ident; have $lv1:ident := Lv.stE $lv $i rfl he; have $k1:ident := KeepT.st (Lv.get $lv $i rfl) he; clear he; (try dsimp only at $lv1:ident)))
/-- p and q are tied -/
def tiedB (ts : List (Str × Str)) (p q : Str) : Bool := ts.any fun t => (t.1 == p && t.2 == q) || (t.2 == p && t.1 == q)
/-- p sees q -/
def seesB (ts : List (Str × Str)) (p q : Str) : Bool := q == p || tiedB ts p q
/-- what p sees, in the names' sequence -/
def seenOf (ns : List Str) (ts : List (Str × Str)) (p : Str) : List Str := ns.filter (seesB ts p)
/-- what p sees, as bits -/
def sightN (ns : List Str) (ts : List (Str × Str)) (p : Str) : Nat := maskOf (fun i => match ns[i]? with | some q => seesB ts p q | none => false) ns.length
theorem sight_bit {ns : List Str} {ts : List (Str × Str)} {p q : Str} {i : Nat} (h : ns[i]? = some q) : (sightN ns ts p).testBit i = seesB ts p q := by
  unfold sightN
  rw [test_mask, decide_eq_true (List.getElem?_eq_some_iff.mp h).1, h, Bool.true_and]
theorem sight_lt (ns : List Str) (ts : List (Str × Str)) (p : Str) : sightN ns ts p < 2 ^ ns.length := mask_lt _ _
theorem pick_sight (ns : List Str) (ts : List (Str × Str)) (p : Str) : pickN ns (sightN ns ts p) = seenOf ns ts p := pickN_filter (sight_lt ns ts p) fun _ _ h => sight_bit h
theorem idx_of {ns : List Str} (nd : ns.Nodup) {i : Nat} {p : Str} (h : ns[i]? = some p) : ns.idxOf p = i := by
  have hm := List.mem_of_getElem? h
  have h2 : ns[ns.idxOf p]? = some p := by
    rw [List.getElem?_eq_getElem (List.idxOf_lt_length_of_mem hm)]
    exact congrArg some (List.getElem_idxOf _)
  exact (List.getElem?_inj (List.idxOf_lt_length_of_mem hm) nd).mp (h2.trans h.symm)
/-- one tie more -/
theorem sight_snoc {ns : List Str} (nd : ns.Nodup) {ts : List (Str × Str)} {t : Str × Str} (h1 : t.1 ∈ ns) (h2 : t.2 ∈ ns) (p : Str) :
    sightN ns (ts ++ [t]) p = (sightN ns ts p ||| (if p = t.1 then 2 ^ ns.idxOf t.2 else 0)) ||| (if p = t.2 then 2 ^ ns.idxOf t.1 else 0) := by
  refine Nat.eq_of_testBit_eq fun i => ?_
  rw [Nat.testBit_or, Nat.testBit_or]
  have bit : ∀ (c : Prop) [Decidable c] (k : Nat), (if c then 2 ^ k else 0).testBit i = (decide c && decide (k = i)) := by
    intro c _ k
    by_cases h : c
    · rw [if_pos h, Nat.testBit_two_pow, decide_eq_true h, Bool.true_and]
    · rw [if_neg h, decide_eq_false h, Nat.zero_testBit]; rfl
  rw [bit, bit]
  cases e : ns[i]? with
  | none =>
    have hl := List.getElem?_eq_none_iff.mp e
    have big : ∀ us, (sightN ns us p).testBit i = false := fun us => by
      unfold sightN
      rw [test_mask, decide_eq_false (by omega)]; rfl
    have no : ∀ x ∈ ns, ns.idxOf x ≠ i := fun x hx z => by
      have := List.idxOf_lt_length_of_mem hx
      omega
    rw [big, big, decide_eq_false (no _ h2), decide_eq_false (no _ h1)]
    simp
  | some q =>
    rw [sight_bit e, sight_bit e]
    have ix : ∀ x ∈ ns, (ns.idxOf x = i ↔ x = q) := fun x hx => by
      constructor
      · intro z
        have h2 : ns[ns.idxOf x]? = some x := by
          rw [List.getElem?_eq_getElem (List.idxOf_lt_length_of_mem hx)]
          exact congrArg some (List.getElem_idxOf _)
        rw [z, e] at h2
        exact (Option.some.inj h2).symm
      · intro z
        subst z
        exact idx_of nd e
    unfold seesB tiedB
    rw [List.any_append, Bool.eq_iff_iff]
    simp only [Bool.or_eq_true, Bool.and_eq_true, decide_eq_true_eq, List.any_cons, List.any_nil, Bool.or_false, beq_iff_eq]
    rw [ix _ h1, ix _ h2]
    constructor
    · rintro (h | h | h | h)
      · exact .inl (.inl (.inl h))
      · exact .inl (.inl (.inr h))
      · exact .inl (.inr ⟨h.1.symm, h.2⟩)
      · exact .inr ⟨h.1.symm, h.2⟩
    · rintro (((h | h) | h) | h)
      · exact .inl h
      · exact .inr (.inl h)
      · exact .inr (.inr (.inl ⟨h.1.symm, h.2⟩))
      · exact .inr (.inr (.inr ⟨h.1.symm, h.2⟩))
theorem sight_nil {ns : List Str} (nd : ns.Nodup) {p : Str} (hp : p ∈ ns) : sightN ns [] p = 2 ^ ns.idxOf p := by
  refine Nat.eq_of_testBit_eq fun i => ?_
  rw [Nat.testBit_two_pow]
  cases e : ns[i]? with
  | none =>
    have hl := List.getElem?_eq_none_iff.mp e
    have := List.idxOf_lt_length_of_mem hp
    unfold sightN
    rw [test_mask, decide_eq_false (by omega), decide_eq_false (by omega)]; rfl
  | some q =>
    rw [sight_bit e, Bool.eq_iff_iff, decide_eq_true_eq]
    unfold seesB tiedB
    simp only [List.any_nil, Bool.or_false, beq_iff_eq]
    constructor
    · intro z; subst z; exact idx_of nd e
    · intro z
      have h2 : ns[ns.idxOf p]? = some p := by
        rw [List.getElem?_eq_getElem (List.idxOf_lt_length_of_mem hp)]
        exact congrArg some (List.getElem_idxOf _)
      rw [z, e] at h2
      exact Option.some.inj h2
/-- sights(places, ties): a new tuple of numbers -/
def spSights (K : PySem.W.Frag) : Sp := fun vs H Q _ => ∃ (a kt : Addr) (ns : List Str) (xs : List V) (ts : List (Str × Str)), vs = [.ref a, .ref kt] ∧ Nms K H a ns ∧ ns.Nodup ∧ ns.length ≤ 100 ∧ SqS K H kt xs ∧ TiesAt K H xs ts ∧ (∀ t ∈ ts, t.1 ∈ ns ∧ t.2 ∈ ns) ∧ ts.length ≤ 1000 ∧
  ∀ t H', Same H H' → H t = none → H' t = some (.tup (ns.map fun p => natV (sightN ns ts p))) → Q (.ref t) H'
section
variable {P : Program} {w : World} {K : PySem.W.Frag} {mg : Str → Option Value} {base : Heap}
abbrev sSights : Stmt := top ix_sights
theorem scSights : FnScope ["places", "ties", "bits", "at", "place", "sights", "one", "other"] ["places", "ties"] (defScope sSights) := ⟨rfl, rfl, rfl, by decide +kernel, rfl, by decide +kernel, by decide +kernel⟩
theorem has_sights (T : Bn mg) (D : DFE K mg "_sights" sSights ["places", "ties"]) : Has P w K mg base CX0 1 "_sights" ["places", "ties"] (spSights K) := by
  refine has_of D scSights (fun vs H Q E h => ?_) (fun f cdv A outer s H vs Q E hr h => ?_)
  · obtain ⟨a, kt, ns, xs, ts, rfl, _⟩ := h; rfl
  · obtain ⟨a, kt, ns, xs, ts, rfl, ha, nn, ln, hk, hks, hin, lt, k⟩ := h
    have nd := scSights.nd
    refine ⟨_, (pss_cons (ps_sv 2 nd (pe_dc (own := [("at", 3), ("place", 4)]) (g := _) (tt := tYes) rfl nd (pi_enumQ rfl T.z_enumerate (pa_cons (pv 0) pa_nil)) (blkOk_by (own := [("at", 3), ("place", 4)]) (N := ["places", "ties", "bits", "at", "place", "sights", "one", "other"]) (sc := defScope sSights) (by decide +kernel)) (fun _ _ _ _ _ => (pg_tupk (K := K) (n := 2) rfl rfl (pgs_cons (pg_name (i := 3) nd rfl (by first | exact Or.inl rfl | exact Or.inr rfl)) (pgs_cons (pg_name (i := 4) nd rfl (by first | exact Or.inl rfl | exact Or.inr rfl)) pgs_nil)))) (fun _ _ _ _ _ => pts_nil) (fun _ _ _ _ _ => (pv 4)) (fun _ _ _ _ _ => (pe_op op_shlB pe_int (pv 3)))))
    (pss_cons (ps_sv 5 nd (pe_dc (own := [("place", 4)]) (g := gName 4) (tt := tYes) rfl nd (pi_sq (pv 0)) (blkOk_by (own := [("place", 4)]) (N := ["places", "ties", "bits", "at", "place", "sights", "one", "other"]) (sc := defScope sSights) (by decide +kernel)) (fun _ _ _ _ _ => (pg_name (i := 4) nd rfl (by first | exact Or.inl rfl | exact Or.inr rfl))) (fun _ _ _ _ _ => pts_nil) (fun _ _ _ _ _ => (pv 4)) (fun _ _ _ _ _ => (pe_dget (hu_of hr) (pv 2) (pv 4) (fun _ _ => rfl)))))
    (pss_cons (ps_for PassesOwn.never rfl (pi_sq (pv 1)) (pg_tup (n := 2) rfl (pgs_cons (pg_name (i := 6) nd rfl (by first | exact Or.inl rfl | exact Or.inr rfl)) (pgs_cons (pg_name (i := 7) nd rfl (by first | exact Or.inl rfl | exact Or.inr rfl)) pgs_nil))) (pss_cons (ps_daug (hu_of hr) (pv 5) (pv 6) (pe_dget (hu_of hr) (pv 2) (pv 7) (fun _ _ => rfl)) in_orB (by intros; rfl))
    (pss_one (ps_daug (hu_of hr) (pv 5) (pv 7) (pe_dget (hu_of hr) (pv 2) (pv 6) (fun _ _ => rfl)) in_orB (by intros; rfl)))))
    (pss_one (ps_ret (pe_callTy call_tuple_of (by rfl) T.z_tuple (by decide +kernel) (pa_cons (pe_lc (own := [("place", 4)]) (g := gName 4) (tt := tYes) rfl nd (pi_sq (pv 0)) (blkOk_by (own := [("place", 4)]) (N := ["places", "ties", "bits", "at", "place", "sights", "one", "other"]) (sc := defScope sSights) (by decide +kernel)) (fun _ _ _ _ _ => (pg_name (i := 4) nd rfl (by first | exact Or.inl rfl | exact Or.inr rfl))) (fun _ _ _ _ _ => pts_nil) (fun _ _ _ _ _ => (pe_dget (hu_of hr) (pv 5) (pv 4) (fun _ _ => rfl)))) pa_nil))))))), ?_⟩
    have lv := Lv.zero H
    wide_line
    intro J G ex hG wk D nD
    have lvD := lv.al (o := .dK []) nD
    refine dc_it wk (fun i H' => Hold (∃ kvs, Lv H [] H' [(D, .dK kvs)] ∧ DN kvs (ns.take i) (fun p => 2 ^ ns.idxOf p) i)) ⟨[], lvD, Nat.le_refl _, fun p hp => by simp at hp⟩ (fun i H' _ ⟨_, z, _⟩ => hG H' (.same z.sm)) ?_ ?_
    · rintro i x H1 H2 hi ⟨kvs, lv1, dn1⟩ ⟨T, x1, x2, rfl, hT, rfl, ex1, ex2⟩
      cases ex1
      obtain ⟨p, hp, rfl⟩ := str_at ex2
      have hi' : i < ns.length := by simpa using hi
      wide_line with alx lv1 hT H3 lv3 s3
      wide_line
      refine ⟨by have := dn1.1; rw [sizeLine_eq]; omega, ?_⟩
      wide_line with st lv3 1 H4 lv4
      refine ⟨_, lv4.tl (fun z => nomatch z), ?_⟩
      rw [take_next2 hp]
      exact dn1.snoc (by show 2 ^ ns.idxOf p = 2 ^ i; rw [idx_of nn hp])
    · rintro H1 ⟨kv1, lv1, dn1⟩
      rw [List.length_map, List.take_length] at dn1
      wide_line
      refine ⟨ha.same lv1.sm, ?_⟩
      intro J2 G2 ex2 hG2 wk2 D2 nD2
      have lvD2 := lv1.al (o := .dK []) nD2
      refine dc_it wk2 (fun i H' => Hold (∃ kvs, Lv H [] H' [(D2, .dK kvs), (D, .dK kv1)] ∧ Same H1 H' ∧ DN kvs (ns.take i) (fun p => 2 ^ ns.idxOf p) i)) ⟨[], lvD2, same_new nD2, Nat.le_refl _, fun p hp => by simp at hp⟩ (fun i H' _ ⟨_, _, z, _⟩ => hG2 H' (.same z)) ?_ ?_
      · rintro i x H2 H3 hi ⟨kvs, lv2, s2, dn2⟩ ⟨rfl, ex2⟩
        obtain ⟨p, hp, rfl⟩ := str_at ex2
        have hi' : i < ns.length := by simpa using hi
        have hv := dn1.2 p (List.mem_of_getElem? hp)
        wide_line
        refine ⟨by have := dn2.1; rw [sizeLine_eq]; omega, ?_⟩
        wide_line with sts lv2 0 H4 lv4 s2 nD2 s4
        refine ⟨_, lv4, s4, ?_⟩
        rw [take_next2 hp]
        exact dn2.snoc rfl
      · rintro H2 ⟨kv2, lv2, s2, dn2⟩
        rw [List.length_map, List.take_length] at dn2
        wide_line
        refine ⟨hk.same lv2.sm, ?_⟩
        intro J3 G3 ex3 hG3 wk3
        have xl : xs.length = ts.length := paired_len hks
        refine for_it wk3 (fun i σ H' => Hold (∃ (kvs : List (Key × V)) (u3 u4 u6 u7 : Option V), σ = [some (.ref a), some (.ref kt), some (.ref D), u3, u4, some (.ref D2), u6, u7] ∧ Lv H [] H' [(D2, .dK kvs), (D, .dK kv1)] ∧ Same H1 H' ∧ DN kvs ns (sightN ns (ts.take i)) (ns.length + 2 * i)))
          ⟨kv2, _, _, _, _, rfl, lv2, s2, dn2.1, fun p hp => by rw [dn2.2 p hp, List.take_zero, sight_nil nn hp]⟩ (fun i σ H' _ ⟨_, _, _, _, _, _, z, _⟩ => hG3 H' (SqKeep.of hk lv2.sm z.sm ex3)) ?_ ?_
        · rintro i x σ H3 H4 hi ⟨kvs, u3, u4, u6, u7, rfl, lv3, s3, dn3⟩ ⟨rfl, ex4⟩
          obtain ⟨t, b, ht, rfl, hb⟩ := ties_at (hks.same lv3.sm) ex4
          have hb : SqT K H4 b [.str t.1, .str t.2] := hb
          obtain ⟨in1, in2⟩ := hin t (List.mem_of_getElem? ht)
          have v1 := dn3.2 _ in1
          have b1 := dn1.2 _ in1
          have b2 := dn1.2 _ in2
          have i7 : i < 1000 := by omega
          wide_line
          refine ⟨_, dputN (lv3.get 0 rfl) (by have := dn3.1; rw [sizeLine_eq]; omega), ?_⟩
          wide_line with sts lv3 0 H5 lv4 s3 nD2 s4
          have dn4 : DN (putK kvs (.inr t.1) (natV (sightN ns (ts.take i) t.1 ||| 2 ^ ns.idxOf t.2))) ns (fun p => sightN ns (ts.take i) p ||| (if p = t.1 then 2 ^ ns.idxOf t.2 else 0)) (ns.length + 2 * i + 1) := dn3.upd (by simp) fun q _ hq => by simp [hq]
          generalize putK kvs (.inr t.1) (natV (sightN ns (ts.take i) t.1 ||| 2 ^ ns.idxOf t.2)) = kvs4 at lv4 dn4
          have v2 := dn4.2 _ in2
          wide_line
          refine ⟨_, dputN (lv4.get 0 rfl) (by have := dn4.1; rw [sizeLine_eq]; omega), ?_⟩
          wide_line with sts lv4 0 H6 lv5 s4 nD2 s5
          refine ⟨_, _, _, _, _, rfl, lv5, s5, ?_⟩
          have e : sightN ns (ts.take (i + 1)) = fun p => (sightN ns (ts.take i) p ||| (if p = t.1 then 2 ^ ns.idxOf t.2 else 0)) ||| (if p = t.2 then 2 ^ ns.idxOf t.1 else 0) := by
            funext p
            rw [take_next2 ht, sight_snoc nn in1 in2]
          rw [e]
          exact dn4.upd (by simp) fun q _ hq => by simp [hq]
        · rintro σ H3 ⟨kvs, u3, u4, u6, u7, rfl, lv3, s3, dn3⟩
          rw [xl, List.take_length] at dn3
          wide_line
          refine ⟨ha.same lv3.sm, ?_⟩
          intro J4 G4 ex4 hG4 wk4 L nL
          have lvL := lv3.al (o := .lst []) nL
          refine lc_it wk4 (fun i H' => Hold (Lv H [] H' [(L, .lst ((ns.take i).map fun p => natV (sightN ns ts p))), (D2, .dK kvs)] ∧ Same H3 H')) ⟨lvL.picks [0, 1] rfl (by decide) (by simp), same_new nL⟩ (fun i H' _ ⟨_, z⟩ => hG4 H' (.same z)) ?_ ?_
          · rintro i x H4 H5 hi ⟨lv4, s4⟩ ⟨rfl, ex5⟩
            obtain ⟨p, hp, rfl⟩ := str_at ex5
            have hi' : i < ns.length := by simpa using hi
            have hv := dn3.2 p (List.mem_of_getElem? hp)
            wide_line
            refine ⟨by rw [List.length_map, sizeLine_eq]; have := List.length_take_le i ns; omega, ?_⟩
            wide_line with sts lv4 0 H5 lv5 s4 nL s5
            rw [take_next2 hp, List.map_append]
            exact ⟨lv5, s5⟩
          · rintro H4 ⟨lv4, s4⟩
            rw [List.length_map, List.take_length] at lv4
            wide_line
            refine .inl ⟨SqL.of (lv4.get 0 rfl), ?_⟩
            wide_line with al lv4 t0 nt0 H5 lv5 s5
            exact k t0 H5 lv5.sm (lv4.free nt0) (lv5.get 0 rfl)
end
end Pw

set_option Elab.async false
set_option linter.all false
set_option maxRecDepth 100000
set_option maxHeartbeats 4000000
namespace Pw
open PySem PySem.Spec PyProof.Rows L2 Ct
/-! what the ranks are (the definition alone) -/
/-- the place at i sees the place at j -/
def seeAt (ns : List Str) (ts : List (Str × Str)) (i j : Nat) : Bool := match ns[i]? with
  | some p => (sightN ns ts p).testBit j
  | none => false
/-- the guard at g wins against the runner at r within less than k turns -/
def wonAt (see : Nat → Nat → Bool) (n : Nat) : Nat → Nat → Nat → Bool
  | 0, _, _ => false
  | k + 1, g, r => g == r || wonAt see n k g r || (List.range n).any fun h => see g h && (h == r || (k != 0 && (List.range n).all fun q => !see r q || wonAt see n k h q))
/-- the least number of turns -/
def rankAt (see : Nat → Nat → Bool) (n i j : Nat) : Option Nat := (List.range (n * n + 1)).find? fun k => if k = 0 then i == j else wonAt see n k i j
def rankRows (ns : List Str) (ts : List (Str × Str)) : List (List (Option Nat)) := (List.range ns.length).map fun i => (List.range ns.length).map fun j => rankAt (seeAt ns ts) ns.length i j
def rkV : Option Nat → V
  | none => .non
  | some k => .int (k : Nat)
/-- what is kept of a web: nothing -/
def RkOk (K : PySem.W.Frag) (H : Hp) (ns : List Str) (ts : List (Str × Str)) (rk : V) : Prop := ∃ kd : Addr, rk = .ref kd ∧ H kd = some (.dK [])
end Pw

set_option Elab.async false
set_option linter.all false
set_option maxRecDepth 100000
set_option maxHeartbeats 4000000
namespace Pw
open PySem PySem.Spec PyProof.Rows L2 Ct
/-- a property and its getter's promise -/
def HasP (P : Program) (w : World) (K : PySem.W.Frag) (mg : Str → Option Value) (base : Heap) (k : Nat) (C : Addr) (f : Str) (sp : Sp) : Prop := ∃ p g fd, PropOf K C f p g ∧ FnOk P w K mg base CX0 k g fd ["self"] sp ∧ Binds K fd ["self"] []
theorem pe_hP {X : Cx} {k j : Nat} {C : Addr} {f : Str} {sp : Sp} {e : Expr} {pos : Pos} {ta : TE} (h : HasP X.prog X.w X.K X.mg X.base j C f sp) (c : Cls X.K C) (hr : Room k X.A) (l : j + 1 ≤ k) (he : PE X e ta) (hab : attributeBase e f X.env (eval e X.env) = eval e X.env := by rfl) : PE X (.Attribute e f pos) (tProp C sp [] E0 ta) := by
  obtain ⟨p, g, fd, hp, F, b⟩ := h
  exact pe_prop he c hp F (hr.mono l) b .nil pass0 hab
/-- a method and its promise -/
def HasM (P : Program) (w : World) (K : PySem.W.Frag) (mg : Str → Option Value) (base : Heap) (CX : CXT) (k : Nat) (C : Addr) (m : Str) (ps : List Str) (sp : Sp) : Prop := ∃ f fd, Meth K C m f ∧ Binds K fd ps [] ∧ FnOk P w K mg base CX k f fd ps sp
theorem pe_hM {X : Cx} {k j : Nat} {C : Addr} {m : Str} {ps : List Str} {sp : Sp} {o e : Expr} {es : List Expr} {apos pos : Pos} {ta : TE} {t : TA} {pl : Sem Bool} (h : HasM X.prog X.w X.K X.mg X.base CX0 j C m ps sp) (c : Cls X.K C) (hr : Room k X.A) (l : j ≤ k) (ho : PE X o ta) (ha : PA X (e :: es) t)
    (hst : starEach (e :: es) X.env = (false, eval e X.env) :: starEach es X.env := by rfl) (hpl : (backTo pos (starEach es X.env)).any (·.1) = false := by rfl)
    (ht : eval (.Call (.Attribute o m apos) (e :: es) [] pos) X.env = (do
      let ov ← eval o X.env
      standAt apos.atName
      let (f, first) ← holding [ov] (getMethod ov m pl)
      callWith pos f first (backTo pos (starEach (e :: es) X.env)) (backToKw pos (keywordEach [] X.env))) := by rfl) : PE X (.Call (.Attribute o m apos) (e :: es) [] pos) (tMeth C m sp [] E0 ta t) := by
  obtain ⟨f, fd, hm, b, F⟩ := h
  exact pe_meth ho c hm F (hr.mono l) b .nil pass0 ha hst hpl ht
end Pw

set_option Elab.async false
set_option linter.all false
set_option maxRecDepth 100000
set_option maxHeartbeats 4000000
namespace Pw
open PySem PySem.Spec PyProof.Rows L2 Ct
/-- a dict from the names to lists of texts, each list at a place of its own -/
def MapAt (H : Hp) (D : Addr) (ns : List Str) (f : Str → List Str) : Prop := ∃ (kvs : List (Key × V)) (l : Str → Addr), H D = some (.dK kvs) ∧ kvs.length ≤ ns.length ∧ (∀ p ∈ ns, valV kvs (.inr p) = some (.ref (l p)) ∧ H (l p) = some (.lst ((f p).map V.str))) ∧ ∀ p ∈ ns, ∀ q ∈ ns, l p = l q → p = q
/-- the same, the lists new behind H0 -/
def MapOn (H0 H : Hp) (D : Addr) (ns : List Str) (f : Str → List Str) : Prop := ∃ (kvs : List (Key × V)) (l : Str → Addr), H D = some (.dK kvs) ∧ kvs.length ≤ ns.length ∧ (∀ p ∈ ns, valV kvs (.inr p) = some (.ref (l p)) ∧ H (l p) = some (.lst ((f p).map V.str)) ∧ H0 (l p) = none) ∧ ∀ p ∈ ns, ∀ q ∈ ns, l p = l q → p = q
theorem MapOn.at {H0 H : Hp} {D : Addr} {ns : List Str} {f : Str → List Str} : MapOn H0 H D ns f → MapAt H D ns f
  | ⟨kvs, l, h1, h2, h3, h4⟩ => ⟨kvs, l, h1, h2, fun p hp => ⟨(h3 p hp).1, (h3 p hp).2.1⟩, h4⟩
theorem MapOn.same {H0 H H' : Hp} {D : Addr} {ns : List Str} {f : Str → List Str} (s : Same H H') : MapOn H0 H D ns f → MapOn H0 H' D ns f
  | ⟨kvs, l, h1, h2, h3, h4⟩ => ⟨kvs, l, s _ _ h1, h2, fun p hp => ⟨(h3 p hp).1, s _ _ (h3 p hp).2.1, (h3 p hp).2.2⟩, h4⟩
theorem MapOn.congr {H0 H : Hp} {D : Addr} {ns : List Str} {f g : Str → List Str} (e : ∀ p ∈ ns, f p = g p) : MapOn H0 H D ns f → MapOn H0 H D ns g
  | ⟨kvs, l, h1, h2, h3, h4⟩ => ⟨kvs, l, h1, h2, fun p hp => by rw [← e p hp]; exact h3 p hp, h4⟩
/-- one name more -/
theorem MapOn.snoc {H0 H H5 : Hp} {D L : Addr} {ns : List Str} {f : Str → List Str} {p : Str} (M : MapOn H0 H D ns f) (s : Same H H5) (hL : H L = none) (h5 : H5 L = some (.lst ((f p).map V.str))) (h0 : H0 L = none) (np : p ∉ ns) :
    ∃ kvs, H5 D = some (.dK kvs) ∧ kvs.length ≤ ns.length ∧ MapOn H0 (upd H5 D (.dK (putK kvs (.inr p) (.ref L)))) D (ns ++ [p]) f := by
  obtain ⟨kvs, l, h1, h2, h3, h4⟩ := M
  have h1' := s _ _ h1
  refine ⟨kvs, h1', h2, _, fun q => if q = p then L else l q, upd_same, ?_, fun q hq => ?_, fun q hq r hr e => ?_⟩
  · rw [List.length_append]
    have := length_putK kvs (Sum.inr p) (V.ref L)
    simp only [List.length_cons, List.length_nil]
    omega
  · rw [valV_put]
    dsimp only
    rcases List.mem_append.mp hq with hq | hq
    · have ne : q ≠ p := fun e => np (e ▸ hq)
      have a := h3 q hq
      rw [if_neg (fun z => ne (Sum.inr.inj z)), if_neg ne, upd_ne (ne_of (s _ _ a.2.1) h1' (by intro z; cases z))]
      exact ⟨a.1, s _ _ a.2.1, a.2.2⟩
    · rw [List.mem_singleton.mp hq, if_pos rfl, if_pos rfl, upd_ne (ne_of h5 h1' (by intro z; cases z))]
      exact ⟨rfl, h5, h0⟩
  · dsimp only at e
    have old : ∀ {x}, x ∈ ns → l x ≠ L := fun {x} hx z => by
      have a := (h3 x hx).2.1
      rw [z, hL] at a
      cases a
    rcases List.mem_append.mp hq with hq | hq
    · have ne : q ≠ p := fun e => np (e ▸ hq)
      rw [if_neg ne] at e
      rcases List.mem_append.mp hr with hr | hr
      · have ne2 : r ≠ p := fun e => np (e ▸ hr)
        rw [if_neg ne2] at e
        exact h4 q hq r hr e
      · rw [List.mem_singleton.mp hr, if_pos rfl] at e
        exact absurd e (old hq)
    · rw [List.mem_singleton.mp hq] at e ⊢
      rcases List.mem_append.mp hr with hr | hr
      · have ne2 : r ≠ p := fun e => np (e ▸ hr)
        rw [if_pos rfl, if_neg ne2] at e
        exact absurd e.symm (old hr)
      · exact (List.mem_singleton.mp hr).symm
/-- what the walk asks of the class Web -/
structure WC (K : PySem.W.Frag) (C : Addr) : Prop where
  cls : Cls K C
  n1 : NoAttr K C "_places"
  n2 : NoAttr K C "_ties"
  n3 : NoAttr K C "_sights"
  n4 : NoAttr K C "_seen"
  n5 : NoAttr K C "_kept"
  n6 : NoAttr K C "_sorted_places"
  n7 : NoAttr K C "_sorted_pairs"
/-- sorted -/
def srt (ds : List PyData) : List PyData := ds.mergeSort (W.dataLe false id)
def pairD (p : Str × Str) : PyData := .tuple [.str (pairP p).1, .str (pairP p).2]
/-- the ties that data are -/
def tiesD (ns : List Str) (ds : List PyData) : List (Str × Str) := ds.filterMap (tieOf ns)
/-- a web at x -/
structure WebAt (K : PySem.W.Frag) (C : Addr) (H : Hp) (x : Addr) (ns : List Str) (ts : List (Str × Str)) : Prop where
  ex : ∃ (dx tp tt sg sn sp sq : Addr) (rk : V) (xs : List V), H x = some (.ins C dx [("_places", .ref tp), ("_ties", .ref tt), ("_sights", .ref sg), ("_seen", .ref sn), ("_kept", rk), ("_sorted_places", .ref sp), ("_sorted_pairs", .ref sq)]) ∧
    SqT K H tp (ns.map V.str) ∧ SqT K H tt xs ∧ TiesAt K H xs ts ∧ SqT K H sg (ns.map fun p => natV (sightN ns ts p)) ∧ MapAt H sn ns (seenOf ns ts) ∧ RkOk K H ns ts rk ∧ Dp K H (.ref sp) (.list (srt (ns.map PyData.str))) ∧ Dp K H (.ref sq) (.list (srt (ts.map pairD)))
theorem places_at {K : PySem.W.Frag} {H : Hp} {v : V} {d : PyData} {ns : List Str} (h : Dq K H v d) (e : placesOf d = some ns) : ∃ a, v = .ref a ∧ Nms K H a ns ∧ ns.Nodup ∧ 1 ≤ ns.length ∧ ns.length ≤ 12 := by
  unfold placesOf at e
  cases es : seqD d with
  | none => rw [es] at e; cases e
  | some ds =>
    rw [es] at e
    dsimp only at e
    by_cases c : (1 ≤ ds.length ∧ ds.length ≤ 12) ∧ ds.all nameD = true ∧ (strsD ds).Nodup
    · rw [if_pos c] at e
      cases e
      obtain ⟨a, xs, rfl, hs, ha, _⟩ := seq_of h es
      obtain ⟨e1, e2⟩ := strs_of ha c.2.1
      rw [e1] at hs
      exact ⟨a, rfl, hs, c.2.2, by omega, by omega⟩
    · rw [if_neg c] at e
      cases e
theorem tie_mem {ns : List Str} {d : PyData} {p : Str × Str} (e : tieOf ns d = some p) : p.1 ∈ ns ∧ p.2 ∈ ns := by
  unfold tieOf at e
  split at e
  · split at e
    · split at e
      · rename_i c
        cases e
        exact ⟨c.1, c.2.1⟩
      · cases e
    · cases e
  · cases e
/-- where no datum is bad all are ties -/
theorem ties_ok {K : PySem.W.Frag} {H : Hp} {ns : List Str} : ∀ {xs : List V} {ds : List PyData} {ps : List (Str × Str)} {i : Nat}, DqAll K H xs ds → tieBad ns ps i ds = none → TiesAt K H xs (tiesD ns ds) ∧ ∀ t ∈ tiesD ns ds, t.1 ∈ ns ∧ t.2 ∈ ns
  | _, _, _, _, .nil, _ => ⟨.nil, fun t h => by cases h⟩
  | _, d :: ds, ps, i, .cons h t, e => by
    unfold tieBad at e
    cases et : tieOf ns d with
    | none => rw [et] at e; cases e
    | some p =>
      rw [et] at e
      dsimp only at e
      by_cases c : pairP p ∈ ps
      · rw [if_pos c] at e; cases e
      · rw [if_neg c] at e
        obtain ⟨h1, h2⟩ := ties_ok t e
        have et2 : tiesD ns (d :: ds) = p :: tiesD ns ds := by unfold tiesD; rw [List.filterMap_cons_some et]
        rw [et2]
        refine ⟨.cons (tie_tup h et) h1, fun t ht => ?_⟩
        rcases List.mem_cons.mp ht with rfl | ht
        · exact tie_mem et
        · exact h2 t ht
end Pw
namespace Ct
open PySem PySem.Spec PyProof.Rows L2 Pw
section
variable {K : PySem.W.Frag} {H H' : Hp}
theorem SameD.l (s : SameD H H') {a : Addr} {xs : List V} : SqL K H a xs → SqL K H' a xs
  | .inl (.inl h) => .inl (.inl (s _ _ h (by intro _ _ _ z; cases z)))
  | .inl (.inr ⟨o, h⟩) => .inl (.inr ⟨o, s _ _ h (by intro _ _ _ z; cases z)⟩)
  | .inr h => .inr h
theorem SameD.t (s : SameD H H') {a : Addr} {xs : List V} : SqT K H a xs → SqT K H' a xs
  | .inl (.inl h) => .inl (.inl (s _ _ h (by intro _ _ _ z; cases z)))
  | .inl (.inr ⟨o, h⟩) => .inl (.inr ⟨o, s _ _ h (by intro _ _ _ z; cases z)⟩)
  | .inr h => .inr h
theorem SameD.s (s : SameD H H') {a : Addr} {xs : List V} : SqS K H a xs → SqS K H' a xs
  | .inl h => .inl (s.l h)
  | .inr h => .inr (s.t h)
theorem SameD.ties (s : SameD H H') : ∀ {xs : List V} {ps : List (Str × Str)}, TiesAt K H xs ps → TiesAt K H' xs ps
  | _, _, .nil => .nil
  | _, _, .cons ⟨a, e, h⟩ t => .cons ⟨a, e, s.t h⟩ (SameD.ties s t)
theorem SameD.map (s : SameD H H') {D : Addr} {ns : List Str} {f : Str → List Str} : MapAt H D ns f → MapAt H' D ns f
  | ⟨kvs, l, h1, h2, h3, h4⟩ => ⟨kvs, l, s _ _ h1 (by intro _ _ _ z; cases z), h2, fun p hp => ⟨(h3 p hp).1, s _ _ (h3 p hp).2 (by intro _ _ _ z; cases z)⟩, h4⟩
mutual
theorem SameD.dp (s : SameD H H') : ∀ {v : V} {d : PyData}, Dp K H v d → Dp K H' v d
  | _, _, .non => .non
  | _, _, .bl b => .bl b
  | _, _, .int i => .int i
  | _, _, .str x => .str x
  | _, _, .lst h a => .lst (s.l h) (SameD.dps s a)
  | _, _, .tup h a => .tup (s.t h) (SameD.dps s a)
theorem SameD.dps (s : SameD H H') : ∀ {vs : List V} {ds : List PyData}, DpAll K H vs ds → DpAll K H' vs ds
  | _, _, .nil => .nil
  | _, _, .cons a b => .cons (SameD.dp s a) (SameD.dps s b)
end
end
end Ct
namespace Pw
open PySem PySem.Spec PyProof.Rows L2 Ct
section
variable {K : PySem.W.Frag} {H H' : Hp}
theorem RkOk.same (s : Same H H') {ns : List Str} {ts : List (Str × Str)} {rk : V} : RkOk K H ns ts rk → RkOk K H' ns ts rk
  | ⟨kd, e, h⟩ => ⟨kd, e, s _ _ h⟩
/-- tuple(xs) -/
theorem tuple_of {p : Addr} {ys : List V} {Q : VK} (h : SqS K H p ys) (k : ∀ t H', Same H H' → SqT K H' t ys → Q (.ref t) H') : (SqL K H p ys ∧ ∀ l, H l = none → Q (.ref l) (upd H l (.tup ys))) ∨ (SqT K H p ys ∧ Q (.ref p) H) := by
  rcases h with h | h
  · exact .inl ⟨h, fun l hl => k l _ (same_new hl) (SqT.of upd_same)⟩
  · exact .inr ⟨h, k p H (Same.refl H) h⟩
theorem dp_all {bs : List It2} (h : ∀ b ∈ bs, Dp K H b.1 b.2) : DpAll K H (bs.map (·.1)) (bs.map (·.2)) := by
  induction bs with
  | nil => exact .nil
  | cons b bs ih => exact .cons (h b List.mem_cons_self) (ih fun c hc => h c (List.mem_cons_of_mem _ hc))
theorem srt_map (bs : List It2) : (bs.mergeSort (W.dataLe false (·.2))).map (·.2) = srt (bs.map (·.2)) := by
  unfold srt
  exact List.map_mergeSort (fun a _ b _ => rfl)
theorem dp_srt {bs : List It2} (h : ∀ b ∈ bs, Dp K H b.1 b.2) : DpAll K H ((bs.mergeSort (W.dataLe false (·.2))).map (·.1)) (srt (bs.map (·.2))) := by
  rw [← srt_map]
  exact dp_all fun b hb => h b ((List.mergeSort_perm bs _).mem_iff.mp hb)
theorem sqT_lst {L a : Addr} {ys xs : List V} {o : HO} (h : H L = some (.lst ys)) (t : SqT K H a xs) : SqT K (upd H L o) a xs := by
  rcases t with (t | ⟨ob, t⟩) | t
  · exact .inl (.inl (by rw [upd_ne (ne_of t h (by intro z; cases z))]; exact t))
  · exact .inl (.inr ⟨ob, by rw [upd_ne (ne_of t h (by intro z; cases z))]; exact t⟩)
  · exact .inr t
def rTup (K : PySem.W.Frag) : List V → Hp → VK → Prop := fun xs H Q => ∃ (p : Addr) (ys : List V), xs = [.ref p] ∧ SqS K H p ys ∧ ∀ t H', Same H H' → SqT K H' t ys → Q (.ref t) H'
theorem call_tupS {X : Cx} : CallR X (.type "tuple") (rTup X.K) := by
  intro pins s σ H xs us Q I r h
  obtain ⟨p, ys, rfl, hs, k⟩ := h
  exact call_tuple_of pins s σ H _ us Q I r ⟨p, ys, rfl, tuple_of hs k⟩
/-- what stood before, x aside -/
def Off (x : Addr) (H H' : Hp) : Prop := ∀ b o, b ≠ x → H b = some o → H' b = some o
theorem Off.of {x : Addr} (s : Same H H') : Off x H H' := fun b o _ e => s b o e
theorem Off.trans {x : Addr} {H1 H2 : Hp} (s : Off x H H1) (t : Off x H1 H2) : Off x H H2 := fun b o n e => t b o n (s b o n e)
theorem Off.store {x : Addr} {o : HO} : Off x H (upd H x o) := fun b u n e => by rw [upd_ne n]; exact e
end
local macro_rules | `(tactic| wide_line) => `(tactic| repeat ((fail_if_success (with_reducible refine at_while ?_)); (fail_if_success (with_reducible refine at_while1 ?_)); (conv => whnf); first | ((with_reducible refine And.intro ?_ ?_); focus (first | (first | ((with_reducible show (_ : Nat) ≤ _); first | exact sz0 | exact sz1 | exact sz2 | exact sz3 | exact sz4 | exact sz5 | exact sz6 | exact sz7 | exact sz8 | exact sz10 | exact sz11 | exact sz12 | exact sz14 | omega | decide | (simp only [List.length_cons, List.length_nil]; omega)) | ((with_reducible show (_ : Int) ≤ _); first | omega | decide) | ((with_reducible show (_ : Int) < _); first | omega | decide) | ((with_reducible show (_ : Nat) < _); omega)) | ((fail_if_success (with_reducible show (_ : Nat) ≤ _)); (fail_if_success (with_reducible show (_ : Int) ≤ _)); (fail_if_success (with_reducible show (_ : Int) < _)); (fail_if_success (with_reducible show (_ : Nat) < _)); first | exact kv_str _ | exact kv_int _ | rfl | assumption | exact flat_strs _ | exact Lv.get (by assumption) 0 rfl | exact Lv.get (by assumption) 1 rfl | exact Lv.get (by assumption) 2 rfl | exact Lv.get (by assumption) 3 rfl | exact Lv.get (by assumption) 4 rfl | exact Lv.get (by assumption) 5 rfl | exact Lv.get (by assumption) 6 rfl | exact SqL.of (Lv.get (by assumption) 0 rfl) | exact SqL.of (Lv.get (by assumption) 1 rfl) | exact SqL.of (Lv.get (by assumption) 2 rfl) | exact SqL.of (Lv.get (by assumption) 3 rfl) | exact SqL.of (Lv.get (by assumption) 4 rfl) | exact SqL.of (Lv.get (by assumption) 5 rfl) | exact Or.inl (SqL.of (Lv.get (by assumption) 0 rfl)) | exact Or.inl (SqL.of (Lv.get (by assumption) 1 rfl)) | exact Or.inl (SqL.of (Lv.get (by assumption) 2 rfl)) | exact Or.inl (SqL.of (Lv.get (by assumption) 3 rfl)) | exact Or.inl (SqL.of (Lv.get (by assumption) 4 rfl)) | exact Or.inl (SqL.of (Lv.get (by assumption) 5 rfl)) | exact ⟨_, SqL.of (Lv.get (by assumption) 0 rfl)⟩ | exact ⟨_, SqL.of (Lv.get (by assumption) 1 rfl)⟩ | exact ⟨_, SqL.of (Lv.get (by assumption) 2 rfl)⟩ | exact ⟨_, SqL.of (Lv.get (by assumption) 3 rfl)⟩ | exact ⟨_, SqL.of (Lv.get (by assumption) 4 rfl)⟩ | exact ⟨_, SqL.of (Lv.get (by assumption) 5 rfl)⟩ | exact Or.inl ⟨_, SqL.of (Lv.get (by assumption) 0 rfl), rfl⟩ | exact Or.inl ⟨_, SqL.of (Lv.get (by assumption) 1 rfl), rfl⟩ | exact Or.inl ⟨_, SqL.of (Lv.get (by assumption) 2 rfl), rfl⟩ | exact Or.inl ⟨_, SqL.of (Lv.get (by assumption) 3 rfl), rfl⟩ | exact Or.inl ⟨_, SqL.of (Lv.get (by assumption) 4 rfl), rfl⟩ | exact Or.inl ⟨_, SqL.of (Lv.get (by assumption) 5 rfl), rfl⟩ | exact Or.inl ⟨rfl, _, SqL.of (Lv.get (by assumption) 0 rfl)⟩ | exact Or.inl ⟨rfl, _, SqL.of (Lv.get (by assumption) 1 rfl)⟩ | exact Or.inl ⟨rfl, _, SqL.of (Lv.get (by assumption) 2 rfl)⟩ | exact Or.inl ⟨rfl, _, SqL.of (Lv.get (by assumption) 3 rfl)⟩ | exact Or.inl ⟨rfl, _, SqL.of (Lv.get (by assumption) 4 rfl)⟩ | exact Or.inl ⟨rfl, _, SqL.of (Lv.get (by assumption) 5 rfl)⟩ | exact Or.inr (SqT.of (Lv.get (by assumption) 0 rfl)) | exact Or.inr (SqT.of (Lv.get (by assumption) 1 rfl)) | exact Or.inr (SqT.of (Lv.get (by assumption) 2 rfl)) | exact Or.inr (SqT.of (Lv.get (by assumption) 3 rfl)) | exact SqT.of (Lv.get (by assumption) 0 rfl) | exact SqT.of (Lv.get (by assumption) 1 rfl) | exact SqT.of (Lv.get (by assumption) 2 rfl) | exact dgetN (Lv.get (by assumption) 0 rfl) (by assumption) | exact dgetN (Lv.get (by assumption) 1 rfl) (by assumption) | exact dgetN (Lv.get (by assumption) 2 rfl) (by assumption) | exact dgetN (Lv.get (by assumption) 3 rfl) (by assumption) | exact dgetN (Lv.get (by assumption) 4 rfl) (by assumption) | decide | ((with_reducible show _ ∧ _); omega)))) | ((fail_if_success (with_reducible apply @Exists.intro (Nat → _))); (with_reducible apply Exists.intro))))
local macro_rules
  | `(tactic| wide_line with al $lv:ident $l:ident $nl:ident $H:ident $lv1:ident $s1:ident) => `(tactic| (intro $l:ident $nl:ident; generalize he : upd _ _ _ = $H:ident; have $lv1:ident := Lv.alE $lv $nl he; have $s1:ident := sameE $nl he; clear he; (try dsimp only at $lv1:ident)))
  | `(tactic| wide_line with alx $lv:ident $nl:ident $H:ident $lv1:ident $s1:ident) => `(tactic| (generalize he : upd _ _ _ = $H:ident; have $lv1:ident := Lv.alE $lv $nl he; have $s1:ident := sameE $nl he; clear he; (try dsimp only at $lv1:ident)))
  | `(tactic| wide_line with sts $lv:ident $i:num $H:ident $lv1:ident $s0:ident $np:ident $s1:ident) => `(tactic| (generalize he : upd _ _ _ = $H:ident; have $lv1:ident := Lv.stE $lv $i rfl he; have $s1:ident := sameN $s0 $np he; clear he; (try dsimp only at $lv1:ident)))
  | `(tactic| wide_line with stx $lv:ident $H:ident $lv1:ident $d1:ident) => `(tactic| (generalize he : upd _ _ _ = $H:ident; have $lv1:ident := Lv.stE $lv 0 rfl he; have $d1:ident := SameD.storeE (Lv.get $lv 0 rfl) he; clear he; (try dsimp only at $lv1:ident)))
  | `(tactic| wide_line with st $lv:ident $i:num $H:ident $lv1:ident) => `(tactic| (generalize he : upd _ _ _ = $H:ident; have $lv1:ident := Lv.stE $lv $i rfl he; clear he; (try dsimp only at $lv1:ident)))
  | `(tactic| wide_line with stk $lv:ident $i:num $H:ident $lv1:ident $k1:ident) => `(tactic| (generalize he : upd _ _ _ = $H:ident; have $lv1:ident := Lv.stE $lv $i rfl he; have $k1:ident := KeepT.st (Lv.get $lv $i rfl) he; clear he; (try dsimp only at $lv1:ident)))
/-- a heap without the lists that stood in another -/
def noLst (Z H : Hp) : Hp := fun b => match Z b with
  | some (.lst _) => none
  | _ => H b
theorem noLst_sub {Z H : Hp} : Same (noLst Z H) H := fun b o e => by
  unfold noLst at e
  split at e
  · cases e
  · exact e
theorem noLst_at {Z H : Hp} {b : Addr} {o : HO} (n : ∀ xs, Z b ≠ some (.lst xs)) (e : H b = some o) : noLst Z H b = some o := by
  unfold noLst
  split
  · rename_i xs h
    exact absurd h (n xs)
  · exact e
theorem noLst_new {Z H : Hp} {b : Addr} {o : HO} (n : Z b = none) (e : H b = some o) : noLst Z H b = some o := noLst_at (fun xs z => by rw [n] at z; cases z) e
theorem noLst_keep {Z H : Hp} {b : Addr} {o : HO} (nl : ∀ b xs, Z b = some (.lst xs) → H b = some (.lst xs)) (e : H b = some o) (no : ∀ xs, o ≠ .lst xs) : noLst Z H b = some o := noLst_at (fun xs z => no xs (by have := nl b xs z; rw [e] at this; exact Option.some.inj this)) e
theorem noLst_t {K : PySem.W.Frag} {Z H : Hp} {b : Addr} {xs : List V} (nl : ∀ b xs, Z b = some (.lst xs) → H b = some (.lst xs)) (h : SqT K H b xs) : SqT K (noLst Z H) b xs := by
  rcases h with (h | ⟨o, h⟩) | h
  · exact .inl (.inl (noLst_keep nl h fun _ z => nomatch z))
  · exact .inl (.inr ⟨o, noLst_keep nl h fun _ z => nomatch z⟩)
  · exact .inr h
theorem noLst_ties {K : PySem.W.Frag} {Z H : Hp} (nl : ∀ b xs, Z b = some (.lst xs) → H b = some (.lst xs)) : ∀ {xs : List V} {ts : List (Str × Str)}, TiesAt K H xs ts → TiesAt K (noLst Z H) xs ts
  | _, _, .nil => .nil
  | _, _, .cons ⟨a, e, h⟩ t => .cons ⟨a, e, noLst_t nl h⟩ (noLst_ties nl t)
theorem MapOn.new {Z H0 H : Hp} {D : Addr} {ns : List Str} {f : Str → List Str} (g : ∀ b, H0 b = none → Z b = none) : MapOn H0 H D ns f → MapOn Z H D ns f
  | ⟨kvs, l, h1, h2, h3, h4⟩ => ⟨kvs, l, h1, h2, fun p hp => ⟨(h3 p hp).1, (h3 p hp).2.1, g _ (h3 p hp).2.2⟩, h4⟩
theorem MapOn.keepD {Z H H' : Hp} {D : Addr} {ns : List Str} {f : Str → List Str} (s : SameD H H') : MapOn Z H D ns f → MapOn Z H' D ns f
  | ⟨kvs, l, h1, h2, h3, h4⟩ => ⟨kvs, l, s _ _ h1 (fun _ _ _ z => nomatch z), h2, fun p hp => ⟨(h3 p hp).1, s _ _ (h3 p hp).2.1 (fun _ _ _ z => nomatch z), (h3 p hp).2.2⟩, h4⟩
theorem MapOn.apart {Z H : Hp} {D : Addr} {ns : List Str} {f : Str → List Str} (nl : ∀ b xs, Z b = some (.lst xs) → H b = some (.lst xs)) : MapOn Z H D ns f → MapAt (noLst Z H) D ns f
  | ⟨kvs, l, h1, h2, h3, h4⟩ => ⟨kvs, l, noLst_keep nl h1 (fun _ z => nomatch z), h2, fun p hp => ⟨(h3 p hp).1, noLst_new (h3 p hp).2.2 (h3 p hp).2.1⟩, h4⟩
/-- a text, or a tuple of two -/
def flatE (d : PyData) : Prop := (∃ x, d = .str x) ∨ ∃ x y, d = .tuple [.str x, .str y]
theorem noLst_dps {K : PySem.W.Frag} {Z H : Hp} (nl : ∀ b xs, Z b = some (.lst xs) → H b = some (.lst xs)) : ∀ {xs : List V} {ds : List PyData}, DpAll K H xs ds → (∀ d ∈ ds, flatE d) → DpAll K (noLst Z H) xs ds
  | _, _, .nil, _ => .nil
  | _, _, .cons h t, f => .cons (by
      rcases f _ List.mem_cons_self with ⟨x, rfl⟩ | ⟨x, y, rfl⟩
      · cases h; exact .str x
      · cases h with
        | tup ht ha =>
          cases ha with
          | cons h1 ha =>
            cases ha with
            | cons h2 ha =>
              cases ha
              cases h1
              cases h2
              exact .tup (noLst_t nl ht) (.cons (.str x) (.cons (.str y) .nil))) (noLst_dps nl t fun d hd => f d (List.mem_cons_of_mem _ hd))
theorem noLst_dp {K : PySem.W.Frag} {Z H : Hp} {a : Addr} {ds : List PyData} (nl : ∀ b xs, Z b = some (.lst xs) → H b = some (.lst xs)) (na : Z a = none) (h : Dp K H (.ref a) (.list ds)) (f : ∀ d ∈ ds, flatE d) : Dp K (noLst Z H) (.ref a) (.list ds) := by
  cases h with
  | lst hs ha =>
    refine .lst ?_ (noLst_dps nl ha f)
    rcases hs with (h | ⟨o, h⟩) | h
    · exact .inl (.inl (noLst_new na h))
    · exact .inl (.inr ⟨o, noLst_new na h⟩)
    · exact .inr h
/-- what a new web promises -/
def spInit (K : PySem.W.Frag) (C CP CS CT : Addr) : Sp := fun vs H Q E => ∃ (x dx : Addr) (v tv : V) (d td : PyData), vs = [.ref x, v, tv] ∧ H x = some (.ins C dx []) ∧ Dq K H v d ∧ txtOk d ∧ Dq K H tv td ∧
  (placesOf d = none → Raised CP "value" H v E) ∧ ∀ ns, placesOf d = some ns → (seqD td = none → Raised CS "value" H tv E) ∧ ∀ tds, seqD td = some tds → (∀ e ∈ tds, plainTie e) ∧ tds.length ≤ 75 ∧
    (∀ i, tieBad ns [] 0 tds = some i → Raised CT "position" H (.int i) E) ∧ (tieBad ns [] 0 tds = none → ∀ H', (∀ b o, b ≠ x → H b = some o → H' b = some o) → WebAt K C (noLst H H') x ns (tiesD ns tds) → Q .non H')
section
variable {P : Program} {w : World} {K : PySem.W.Frag} {mg : Str → Option Value} {base : Heap} {C CP CS CT T0 fa : Addr} {fd : FuncData}
abbrev sInit : Stmt := inClass (top ix_Web) mx_Web_init
theorem scInit : FnScope ["self", "places", "ties", "place", "sight", "tie"] ["self", "places", "ties"] (defScope sInit) := ⟨rfl, rfl, rfl, by decide +kernel, rfl, by decide +kernel, by decide +kernel⟩
theorem ok_init (T : Bn mg) (X : WC K C) (F : FunD K "__init__" "Web.__init__" (defArgs sInit) (defBody sInit) (defScope sInit) [.ref T0] [] fa fd) (h_check_places : HasR P w K mg base 3 "_check_places" ["places"] (spCheckPlaces K CP)) (h_check_ties : HasR P w K mg base 3 "_check_ties" ["places", "known", "ties"] (spCheckTies K CS CT))
    (h_sights : Has P w K mg base CX0 1 "_sights" ["places", "ties"] (spSights K)) (h_pair : Has P w K mg base CX0 1 "_pair" ["tie"] (spPair K)) (hM_named : HasM P w K mg base CX0 2 C "named" ["self", "number"] (spNamed K C)) : FnOk P w K mg base (L2.CX P w) 4 fa fd ["self", "places", "ties"] (spInit K C CP CS CT) := by
  refine F.ok scInit (fun vs H Q E h => ?_) (fun cdv A outer s H vs Q E hr h => ?_)
  · obtain ⟨x, dx, v, tv, d, td, rfl, _⟩ := h; rfl
  · obtain ⟨x, dx, v, tv, d, td, rfl, hx, hd, ok, htd, kp, kt⟩ := h
    have nd := scInit.nd
    refine ⟨_, (pss_cons (ps_expr (pe_hR h_check_places (takes_of rfl rfl rfl rfl) hr (by decide) rfl (pa_cons (pv 1) pa_nil)))
    (pss_cons (ps_expr (pe_hR h_check_ties (takes_of rfl rfl rfl rfl) hr (by decide) rfl (pa_cons (pv 1) (pa_cons (pe_tup pa_nil) (pa_cons (pv 2) pa_nil)))))
    (pss_cons (ps_fld (pv 0) (pe_callTy call_tupS (by rfl) T.z_tuple (by decide +kernel) (pa_cons (pv 1) pa_nil)) rfl)
    (pss_cons (ps_fld (pv 0) (pe_callTy call_tupS (by rfl) T.z_tuple (by decide +kernel) (pa_cons (pv 2) pa_nil)) rfl)
    (pss_cons (ps_fld (pv 0) (pe_h h_sights hr (by decide) rfl (pa_cons (pe_fld (pv 0) rfl) (pa_cons (pe_fld (pv 0) rfl) pa_nil))) rfl)
    (pss_cons (ps_fld (pv 0) (pe_dc (own := [("place", 3), ("sight", 4)]) (g := _) (tt := tYes) rfl nd (RZ.pi_zipA rfl T.z_zip (pa_cons (pe_fld (pv 0) rfl) (pa_cons (pe_fld (pv 0) rfl) pa_nil))) (blkOk_by (own := [("place", 3), ("sight", 4)]) (N := ["self", "places", "ties", "place", "sight", "tie"]) (sc := defScope sInit) (by decide +kernel)) (fun _ _ _ _ _ => (pg_tupk (K := K) (n := 2) rfl rfl (pgs_cons (pg_name (i := 3) nd rfl (by first | exact Or.inl rfl | exact Or.inr rfl)) (pgs_cons (pg_name (i := 4) nd rfl (by first | exact Or.inl rfl | exact Or.inr rfl)) pgs_nil)))) (fun _ _ _ _ _ => pts_nil) (fun _ _ _ _ _ => (pv 3)) (fun _ _ _ _ _ => (pe_hM hM_named X.cls hr (by decide) (pv 0) (pa_cons (pv 4) pa_nil)))) rfl)
    (pss_cons (ps_fld (pv 0) pe_dnewK rfl)
    (pss_cons (ps_fld (pv 0) (pe_callB (call_sortD hr.units) (by rfl) T.z_sorted (by decide +kernel) (pa_cons (pe_fld (pv 0) rfl) pa_nil)) rfl)
    (pss_one (ps_fld (pv 0) (pe_callB (call_sortD hr.units) (by rfl) T.z_sorted (by decide +kernel) (pa_cons (pe_lc (own := [("tie", 5)]) (g := gName 5) (tt := tYes) rfl nd (pi_sq (pe_fld (pv 0) rfl)) (blkOk_by (own := [("tie", 5)]) (N := ["self", "places", "ties", "place", "sight", "tie"]) (sc := defScope sInit) (by decide +kernel)) (fun _ _ _ _ _ => (pg_name (i := 5) nd rfl (by first | exact Or.inl rfl | exact Or.inr rfl))) (fun _ _ _ _ _ => pts_nil) (fun _ _ _ _ _ => (pe_h h_pair hr (by decide) rfl (pa_cons (pv 5) pa_nil)))) pa_nil)) rfl)))))))))), ?_⟩
    have lv := Lv.one hx
    -- the places
    refine ⟨_, rfl, v, d, rfl, hd, ok, fun hp H1 s1 => ?_, fun z => kp z⟩
    obtain ⟨ns, ep⟩ := Option.isSome_iff_exists.mp hp
    obtain ⟨kt1, kt2⟩ := kt ns ep
    obtain ⟨a, rfl, ha, nd1, l1, l12⟩ := places_at hd ep
    have lv1 := lv.same s1
    -- the ties
    wide_line
    wide_line with al lv1 kt nkt H2 lv2 s2
    have s02 := s1.trans s2
    have hkt : SqS K H2 kt [] := .inr (SqT.of (lv2.get 0 rfl))
    have lift : ∀ {C' : Addr} {f : Str} {z : V}, Raised C' f H z E → Raised C' f H2 z E := fun r e H' s he hH => r e H' (s02.trans s) (free_of s02 he) hH
    refine ⟨_, rfl, a, kt, ns, [], [], tv, td, rfl, ha.same s02, hkt, .nil, Dq.same s02 htd, fun z => lift (kt1 z), fun tds es => ?_⟩
    obtain ⟨pl, few, kb, kg⟩ := kt2 tds es
    refine ⟨pl, by simpa using few, fun gd H3 s3 => ?_, fun i z => lift (kb i z)⟩
    have s4 := s02.trans s3
    have gd : tieBad ns [] 0 tds = none := gd
    obtain ⟨tva, txs, rfl, hts, hta, htl⟩ := seq_of htd es
    obtain ⟨tat, tin⟩ := ties_ok hta gd
    have tlen : (tiesD ns tds).length ≤ tds.length := List.length_filterMap_le _ _
    generalize tiesD ns tds = tsx at *
    have lv3 := (lv2.same s3).picks [1] rfl (by decide) (by simp)
    -- the fields
    refine ⟨_, rfl, a, _, rfl, ha.same s4, fun tp H4 s5 htp => ?_⟩
    have c1 := X.cls
    obtain ⟨_, n1, n2, n3, n4, n5, n6, n7⟩ := id X
    have lv4 := lv3.same s5
    wide_line
    refine ⟨(by show 0 < 1000; decide), ?_⟩
    wide_line with stx lv4 H5 lv5 d5
    have lv5 := lv5.re (l' := [(x, .ins C dx [("_places", .ref tp)])]) rfl
    have D05 : SameD H H5 := (SameD.of (s4.trans s5)).trans d5
    have htp5 := d5.t htp
    wide_line
    refine ⟨D05.s hts, fun tt H6 s6 htt => ?_⟩
    have lv6 := lv5.same s6
    wide_line
    refine ⟨(by show 1 < 1000; decide), ?_⟩
    wide_line with stx lv6 H7 lv7 d7
    have lv7 := lv7.re (l' := [(x, .ins C dx [("_places", .ref tp), ("_ties", .ref tt)])]) rfl
    have D57 : SameD H5 H7 := (SameD.of s6).trans d7
    have htt7 := d7.t htt
    have htp7 := D57.t htp5
    have tat7 := (D05.trans D57).ties tat
    wide_line
    refine ⟨.inr htp7, nd1, by omega, .inr htt7, tat7, tin, by omega, fun sg H8 s8 nsg hsg => ?_⟩
    have lv8 := lv7.same s8
    wide_line
    refine ⟨(by show 2 < 1000; decide), ?_⟩
    wide_line with stx lv8 H9 lv9 d9
    have lv9 := lv9.re (l' := [(x, .ins C dx [("_places", .ref tp), ("_ties", .ref tt), ("_sights", .ref sg)])]) rfl
    have D79 : SameD H7 H9 := (SameD.of s8).trans d9
    have hsg9 : SqT K H9 sg (ns.map fun p => natV (sightN ns tsx p)) := d9.t (SqT.of hsg)
    have htp9 := D79.t htp7
    wide_line
    refine .inr ⟨htp9, hsg9, ?_⟩
    intro D nD
    have lvD := lv9.al (o := .dK []) nD
    have hN : ns.length = ns.length := rfl
    refine dc_it (walk_zipT rfl) (fun i H' => Hold (∃ kvs, Lv H [x] H' [(D, .dK kvs), (x, .ins C dx [("_places", .ref tp), ("_ties", .ref tt), ("_sights", .ref sg)])] ∧ Same H9 H' ∧ MapOn H9 H' D (ns.take i) (seenOf ns tsx)))
      ⟨[], lvD, same_new nD, [], fun _ => 0, upd_same, Nat.le_refl _, (fun p hp => by simp at hp), (fun p hp => by simp at hp)⟩ (fun i H' _ ⟨_, _, z, _⟩ => ⟨same_t z htp9, same_t z hsg9⟩) ?_ ?_
    · rintro i y H10 H11 hi ⟨kvs, lv10, s10, m10⟩ ⟨T, x1, x2, rfl, hT, rfl, ex1, ex2⟩
      obtain ⟨p, hp, rfl⟩ := str_at ex1
      obtain rfl : x2 = natV (sightN ns tsx p) := by
        have ex2 : (ns.map fun p => natV (sightN ns tsx p))[i]? = some x2 := ex2
        rw [List.getElem?_map, hp] at ex2
        exact (Option.some.inj ex2).symm
      have hi' : i < ns.length := by
        have := (List.getElem?_eq_some_iff.mp hp).1
        exact this
      wide_line with alx lv10 hT H12 lv12 s12
      wide_line
      refine ⟨same_t (s10.trans s12) htp9, sight_lt ns tsx p, by omega, fun l H13 s13 nl hl => ?_⟩
      have lv13 := lv12.same s13
      rw [pick_sight] at hl
      obtain ⟨kvs', e1, e2, m13⟩ := m10.snoc (p := p) (s12.trans s13) (free_of s12 nl) hl (free_of (s10.trans s12) nl) (fun z => by
        obtain ⟨j, hj⟩ := List.mem_iff_getElem?.mp z
        have jl : j < i := by
          have := (List.getElem?_eq_some_iff.mp hj).1
          rw [List.length_take] at this
          omega
        rw [List.getElem?_take_of_lt jl] at hj
        exact absurd (idx_inj nd1 hj hp) (by omega))
      wide_line
      obtain rfl : kvs' = kvs := by
        have := lv13.get 1 rfl
        rw [e1] at this
        cases this
        rfl
      refine ⟨by have := List.length_take_le i ns; rw [sizeLine_eq]; omega, ?_⟩
      have sE : Same H9 (upd H13 D (.dK (putK kvs' (.inr p) (.ref l)))) := same_upd (s10.trans (s12.trans s13)) nD
      generalize he : upd H13 D (.dK (putK kvs' (.inr p) (.ref l))) = H14 at sE m13
      have lv14 := lv13.stE 1 rfl he
      refine ⟨_, lv14.picks [1, 2] rfl (by decide) (by simp), sE, ?_⟩
      rw [take_next2 hp]
      exact m13
    · rintro H10 ⟨kvs, lv10, s10, m10⟩
      rw [show min (ns.map V.str).length (ns.map fun p => natV (sightN ns tsx p)).length = ns.length by simp, List.take_length] at m10
      have D910 := SameD.of s10
      have lv10 := lv10.picks [1, 0] rfl (by decide) (by simp)
      wide_line
      refine ⟨(by show 3 < 1000; decide), ?_⟩
      wide_line with stx lv10 H11 lv11 d11
      have D911 := D910.trans d11
      wide_line
      wide_line with al lv11 kd nkd Hk lvk sk
      have D9k := D911.trans (.of sk)
      have lvk := lvk.picks [1, 2, 0] rfl (by decide) (by simp)
      wide_line
      refine ⟨(by show 4 < 1000; decide), ?_⟩
      wide_line with stx lvk H12 lv12 d12
      have D912 := D9k.trans d12
      have lv12 := lv12.re (l' := [(x, .ins C dx [("_places", .ref tp), ("_ties", .ref tt), ("_sights", .ref sg), ("_seen", .ref D), ("_kept", .ref kd)]), (D, .dK kvs), (kd, .dK [])]) rfl
      have htx : ∀ {G : Hp}, ∀ b ∈ Ct.txs ns, Dp K G b.1 b.2 := fun {G} b hb => by
        obtain ⟨n, _, rfl⟩ := List.mem_map.mp hb
        exact .str n
      wide_line
      refine ⟨.inr (by rw [txs_fst]; exact D912.t htp9), htx, (txs_ok ns).1, (txs_ok ns).2, ?_, ?_⟩
      · intro b hb
        obtain ⟨n, _, rfl⟩ := List.mem_map.mp hb
        simp [PyData.depth]
      wide_line with al lv12 sp nsp H13 lv13 s13
      have hsp : Dp K H13 (.ref sp) (.list (srt (ns.map PyData.str))) := by
        rw [← txs_snd]
        exact .lst (SqL.of (lv13.get 0 rfl)) (dp_srt htx)
      have lv13 := lv13.picks [1, 2, 3] rfl (by decide) (by simp)
      wide_line
      refine ⟨(by show 5 < 1000; decide), ?_⟩
      wide_line with stx lv13 H14 lv14 d14
      have lv14 := lv14.re (l' := [(x, .ins C dx [("_places", .ref tp), ("_ties", .ref tt), ("_sights", .ref sg), ("_seen", .ref D), ("_kept", .ref kd), ("_sorted_places", .ref sp)]), (D, .dK kvs), (kd, .dK [])]) rfl
      have D914 := (D912.trans (.of s13)).trans d14
      have hsp14 := d14.dp hsp
      have D714 := D79.trans D914
      have htt14 := D714.t htt7
      have tat14 := D714.ties tat7
      have xl : txs.length = tsx.length := paired_len tat14
      -- the sorted pairs
      wide_line
      refine ⟨.inr htt14, fun J G ex hG wk L nL => ?_⟩
      refine lc_it wk (fun i H' => Hold (Same H14 H' ∧ ∃ ps : List (Addr × Str × Str), H' L = some (.lst (ps.map fun p => V.ref p.1)) ∧ ps.map (·.2) = (tsx.take i).map pairP ∧ ∀ p ∈ ps, TupS K H' p.1 p.2)) ⟨same_new nL, [], upd_same, rfl, fun p hp => by cases hp⟩ (fun i H' _ p => hG H' (.same p.out.1)) ?_ ?_
      · rintro i y H15 H16 hi ⟨s15, ps, hL, hps, hpt⟩ ⟨rfl, hyi⟩
        obtain ⟨p, b, hp, rfl, hb⟩ := ties_at (tat14.same s15) hyi
        refine ⟨rfl, _, rfl, b, p.1, p.2, rfl, hb, fun c hc => ?_⟩
        have s16 := same_new (o := .tup [.str (pairS p.1 p.2).1, .str (pairS p.1 p.2).2]) hc
        refine ⟨_, s16 _ _ hL, ?_, same_upd (s15.trans s16) nL, ps ++ [(c, pairP p)], by rw [upd_same, List.map_append]; rfl, by rw [List.map_append, hps, List.take_succ, hp]; simp, fun r hr => ?_⟩
        · have e := congrArg List.length hps
          rw [List.length_map, List.length_map] at e
          have := List.length_take_le i tsx
          rw [List.length_map, sizeLine_eq]
          omega
        · have hL16 := s16 _ _ hL
          rcases List.mem_append.mp hr with hr | hr
          · exact sqT_lst hL16 (same_t s16 (hpt r hr))
          · rw [List.mem_singleton.mp hr]
            exact sqT_lst hL16 (SqT.of upd_same)
      · rintro H15 ⟨s15, ps, hL, hps, hpt⟩
        rw [xl, List.take_length] at hps
        have lv15 := lv14.same s15
        have hpd : ∀ b ∈ Ct.prs ps, Dp K H15 b.1 b.2 := fun b hb => by
          obtain ⟨r, hr, rfl⟩ := List.mem_map.mp hb
          exact .tup (hpt r hr) (.cons (.str _) (.cons (.str _) .nil))
        have ed : (Ct.prs ps).map (·.2) = tsx.map pairD := by
          have e1 : (Ct.prs ps).map (·.2) = (ps.map (·.2)).map fun q => PyData.tuple [.str q.1, .str q.2] := by
            unfold Ct.prs
            rw [List.map_map, List.map_map]
            rfl
          rw [e1, hps, List.map_map]
          rfl
        wide_line
        refine ⟨.inl (by rw [prs_fst]; exact SqL.of hL), hpd, (prs_ok ps).1, (prs_ok ps).2, ?_, ?_⟩
        · intro b hb
          obtain ⟨r, _, rfl⟩ := List.mem_map.mp hb
          simp [PyData.depth, PyData.depthAll]
        wide_line with al lv15 sq nsq H16 lv16 s16
        have hsq : Dp K H16 (.ref sq) (.list (srt (tsx.map pairD))) := by
          rw [← ed]
          exact .lst (SqL.of (lv16.get 0 rfl)) (SameD.dps (.of s16) (dp_srt hpd))
        have lv16 := lv16.picks [1, 2, 3] rfl (by decide) (by simp)
        wide_line
        refine ⟨(by show 6 < 1000; decide), ?_⟩
        wide_line with stx lv16 H17 lv17 d17
        have D1417 := (SameD.of (s15.trans s16)).trans d17
        have D917 := D914.trans D1417
        have nl : ∀ b xs, H b = some (.lst xs) → H17 b = some (.lst xs) := fun b xs z => lv17.off b _ (fun q => by subst q; rw [hx] at z; cases z) z
        have mem : ∀ {ds : List PyData} {d : PyData}, d ∈ srt ds → d ∈ ds := fun {ds d} hd => (List.mergeSort_perm ds _).mem_iff.mp hd
        refine kg gd _ lv17.off ⟨⟨dx, tp, tt, sg, D, sp, sq, .ref kd, txs, noLst_at (fun _ z => by rw [hx] at z; cases z) (lv17.get 0 rfl), noLst_t nl (D917.t htp9), noLst_t nl (D1417.t htt14), noLst_ties nl (D1417.ties tat14), noLst_t nl (D917.t hsg9), ?_, ⟨kd, rfl, noLst_keep nl (lv17.get 2 rfl) (fun _ z => nomatch z)⟩, noLst_dp nl (lv12.free nsp) (D1417.dp hsp14) (fun d hd => ?_), noLst_dp nl (lv15.free nsq) (d17.dp hsq) (fun d hd => ?_)⟩⟩
        · exact (MapOn.keepD (((SameD.of (s13)).trans d14).trans D1417) (MapOn.keepD ((SameD.of sk).trans d12) (MapOn.keepD d11 (m10.new fun b z => lv9.free z)))).apart nl
        · obtain ⟨x, _, rfl⟩ := List.mem_map.mp (mem hd)
          exact .inl ⟨x, rfl⟩
        · obtain ⟨t, _, rfl⟩ := List.mem_map.mp (mem hd)
          exact .inr ⟨_, _, rfl⟩
end
end Pw

set_option Elab.async false
set_option linter.all false
set_option maxRecDepth 100000
set_option maxHeartbeats 2000000
/-! Own kit X: the head by facts: one more Bool, own errors, defs as bundles; the end for defs that lean on no guard. -/
namespace Ct
open PySem PySem.Spec PyProof.Rows L2 He
/-! ### the Hook -/
abbrev AlB : Type := AlD × Bool
def obsB (fa : List Fa) (fn : List DefD) (ex : PySem.W.Frag → Bool) (K : PySem.W.Frag) : AlB := (obsD fa fn K, ex K)
def obsBG (n : Nat) (fa : List Fa) (fn : List DefD) (ex : PySem.W.Frag → Bool) (g : Addr → Option Obj) : AlB := obsB fa fn ex (frG g (asD g n))
def hookB (n : Nat) (fa : List Fa) (fn : List DefD) (ex : PySem.W.Frag → Bool) : PySem.W.Hook where
  α := AlB
  obs := fun s => obsBG n fa fn ex s.heap.get?
  val := fun _ => (valD fn, true)
  says := fun _ h => ∃ K : PySem.W.Frag, K.In h ∧ SaysD fa fn K ∧ ex K = true
  of := fun _ _ e => ⟨_, frG_in, congrArg (fun z : AlB => z.1) e, congrArg (fun z : AlB => z.2) e⟩
  keeps := fun _ _ _ ⟨K, hK, c⟩ k => ⟨K, PySem.W.Frag.In.keeps hK k, c⟩
theorem obsBG_eq {n : Nat} {fa : List Fa} {fn : List DefD} {ex : PySem.W.Frag → Bool} {g : Addr → Option Obj} {s : Shared} (h : ∀ a, g a = s.heap.get? a) : obsBG n fa fn ex g = (hookB n fa fn ex).obs s := by
  have e : g = s.heap.get? := funext h
  rw [e] <;> rfl
/-! ### defs -/
section
variable {K : PySem.W.Frag} {mg : Str → Option Value} {h : Heap} {x q nm : Str} {st : Stmt} {f : Addr} {fd : FuncData} {ps : List Str} {fa : List Fa} {fn : List DefD}
theorem fun_of (F : FunD K x q (defArgs st) (defBody st) (defScope st) [] [] f fd) : Fun K x q st f fd := by
  obtain ⟨oc, od, dV, kV, doc, pm, an, cdv, ct, osl, e, lk, hcd, hD, _⟩ := F.ex
  rcases hD with ⟨_, rfl⟩ | ⟨n, _⟩
  · exact ⟨⟨oc, od, kV, doc, pm, an, cdv, ct, osl, e, lk, hcd⟩, F.kp⟩
  · exact absurd rfl n
/-- a module's def -/
abbrev dM (nm : Str) (st : Stmt) : DefD := ⟨(nm, none), nm, nm, defArgs st, defBody st, defScope st, [], []⟩
/-- a class's def -/
abbrev dC (C m q : Str) (st : Stmt) : DefD := ⟨(C, some m), m, q, defArgs st, defBody st, defScope st, [], []⟩
theorem dfe_of (X : K.In h) (G : h.Ns mainGlobals mg) (c : SaysD fa fn K) (i j : Nat) (hi : fn[i]? = some (dM nm st)) (hj : fa[j]? = some (.glo nm))
    (b : ∀ (kV doc pm : Value) (an : Option Addr) (cdv ct : Value) (us : List Value), us.length = ps.length → bindArgs (PySem.W.fnOf nm nm (defArgs st) (defBody st) (defScope st) .none kV doc pm an cdv ct) ⟨us, []⟩ = pure (ps.zip us)) : DFE K mg nm st ps := by
  obtain ⟨fd, F⟩ := c.def_ i hi
  exact ⟨_, fd, fun_of F, glo_ok X G (c.fact j hj), FunD.bindsN (ps := ps) F b⟩
theorem fun_at {C m q : Str} (c : SaysD fa fn K) (i : Nat) (hi : fn[i]? = some (dC C m q st)) : ∃ fd, Fun K m q st (ma K (ga K C) m) fd := by
  obtain ⟨fd, F⟩ := c.def_ i hi
  exact ⟨fd, fun_of F⟩
end
/-! ### own errors -/
section
variable {K : PySem.W.Frag} {C : Addr} {x f : Str}
def oexB (K : PySem.W.Frag) (C : Addr) : Bool := match K.lookup C with
  | some ⟨.type "type", _, .cls cd, sl⟩ => (match cd.mro, sl.toList with
    | .ref C' :: bm, [_, _, _, _, some (.builtin n), _] => C' == C && n == "ValueError.__new__" && !cd.hasDel && cd.hasDict && PySem.HandSPX.refsVE bm
    | _, _ => false)
  | _ => false
theorem oexB_ok (q : oexB K C = true) : ∃ nm qn N bs bm sn sub ab col dd k0 k1 k2 k3 k5, K.lookup C = some (excClassObj nm qn C N bs bm true sn sub ab col dd k0 k1 k2 k3 k5 "ValueError.__new__") ∧ PySem.HandSPX.refsVE bm = true := by
  unfold oexB at q
  split at q
  · rename_i dd cd sl ho
    split at q
    · rename_i C' bm k0 k1 k2 k3 n k5 hm hs
      simp only [Bool.and_eq_true, beq_iff_eq, Bool.not_eq_true'] at q
      obtain ⟨⟨⟨⟨rfl, rfl⟩, hdel⟩, hdct⟩, ht⟩ := q
      obtain ⟨nm, bs, mro, ns, qn, hd, sn, sub, ab, col, del⟩ := cd
      dsimp only at hm hdel hdct
      subst hm hdel hdct
      have hsl : sl = #[k0, k1, k2, k3, some (.builtin "ValueError.__new__"), k5] := by
        obtain ⟨l⟩ := sl
        simp only at hs
        rw [hs]
      subst hsl
      exact ⟨nm, qn, ns, bs, bm, sn, sub, ab, col, dd, k0, k1, k2, k3, k5, ho, ht⟩
    · cases q
  · cases q
def genB (K : PySem.W.Frag) : Bool := eqO (PySem.W.specialIn K (.builtin "object.__class__") "__get__") (some (some (.builtin "getset_descriptor.__get__"))) && decide (PySem.W.takesIn K (.builtin "object.__class__") = some true)
def xclB (K : PySem.W.Frag) (x f : Str) : Bool := oexB K (ga K x) && (eqO (PySem.W.findIn K (.ref (ga K x)) "__setattr__") (some (some (.builtin "object.__setattr__"))) && (decide (PySem.W.subIn K (.ref (ga K x)) (.type "BaseException") = some true) &&
  (decide (PySem.W.typeIn K (.ref (ga K x)) = some (.type "type")) && (PySem.W.keepIn K (.ref (ga K x)) && (eqO (PySem.W.findIn K (.ref (ga K x)) "__getattribute__") (some (some (.builtin "BaseException.__getattribute__"))) &&
  (eqO (PySem.W.findIn K (.ref (ga K x)) "__getattr__") (some none) && (PySem.W.hasDictIn K (ga K x) && (eqO (PySem.W.findIn K (.ref (ga K x)) "__class__") (some (some (.builtin "object.__class__"))) && (decide (PySem.W.mroIn K (ga K x) (.type "object") = some true) &&
  (eqO (PySem.W.findIn K (.ref (ga K x)) "__init__") (some (some (.ref (ma K (ga K x) "__init__")))) && (decide (PySem.W.typeIn K (.ref (ma K (ga K x) "__init__")) = some (.type "function")) && eqO (PySem.W.findIn K (.ref (ga K x)) f) (some none))))))))))))
theorem xclB_ok (g : genB K = true) (c : xclB K x f = true) : XCls K (ga K x) (ma K (ga K x) "__init__") ∧ PySem.W.findIn K (.ref (ga K x)) f = some none := by
  obtain ⟨g1, g2⟩ := ba g
  have hn := eqO_ok g1
  have ht := of_decide_eq_true g2
  obtain ⟨c1, c⟩ := ba c
  obtain ⟨c2, c⟩ := ba c
  obtain ⟨c3, c⟩ := ba c
  obtain ⟨c4, c⟩ := ba c
  obtain ⟨c5, c⟩ := ba c
  obtain ⟨c6, c⟩ := ba c
  obtain ⟨c7, c⟩ := ba c
  obtain ⟨c8, c⟩ := ba c
  obtain ⟨c9, c⟩ := ba c
  obtain ⟨c10, c⟩ := ba c
  obtain ⟨c11, c⟩ := ba c
  obtain ⟨c12, c13⟩ := ba c
  have hs := of_decide_eq_true c3
  exact ⟨⟨⟨oexB_ok c1, eqO_ok c2, hs, of_decide_eq_true c4, c5⟩, ⟨eqO_ok c6, eqO_ok c7, hs, c8, eqO_ok c9, hn, ht, of_decide_eq_true c10⟩, eqO_ok c11, of_decide_eq_true c12⟩, eqO_ok c13⟩
/-- the kit's word on isinstance -/
def isB (K : PySem.W.Frag) (x : Str) (c : Value) (b : Bool) : Bool := decide (PySem.W.kitOne K (.ref (ga K x)) c = some b)
def exmB (K : PySem.W.Frag) (x y : Str) (b : Bool) : Bool := decide (PySem.W.exmOne K (.ref (ga K x)) (.ref (ga K y)) = some b)
end
/-! ### the end -/
theorem walk_gE {l : PySem.W.OpenLaw} {n k : Nat} {q : Program} {loose : List Str} {XP : (Str → Option Value) → Heap → Prop} {YP : World → Heap → Prop} {d : DefRec} {CX : CXT} {x : Str}
    (hn : l.most = some n) (hq : importsNone q = true) (hn2 : n ≤ sizeLine) (hdf : d.params.defaults = []) (hr : Room k callerA)
    (F : ∀ (w : World) (mg : Str → Option Value) (fa : Addr) (h : Heap), YP w h → h.Ns mainGlobals mg → mg d.name = some (.ref fa) →
      ∃ (K : PySem.W.Frag) (fd : FuncData) (sp : Sp), K.In h ∧ (∀ (s : Shared) (u : Value), BindsTo s fd ⟨[u], []⟩ [(x, u)]) ∧
        (∀ (H : Hp) (a : Addr) (ns : List Int), ns.length ≤ n → (∀ z ∈ ns, Builtin.Int.intBits z ≤ 1048576) → Only H → SqL K H a (ns.map V.int) → sp [.ref a] H (fun v _ => v = .bl true) fun _ _ _ => False) ∧
        ∀ base : Heap, K.In base → base.Ns mainGlobals mg → (∃ mm, base.Ns sysModules mm) → GFn l.prog w K mg base CX k fa fd [x] sp)
    (hCX : ∀ (H : Hp) (s : Shared) (e : Value) (s' : Shared), CX [] H s (fun _ _ _ => False) e s' → False) :
    PySem.W.WalkO q loose XP YP l.row.toRowW d [] (fun f vs => PySem.call f vs) := by
  refine Att.attach_callB hn hdf ?_
  intro w s0 s1 mg mb fa o pm cd doc a vs ns G Y _ _ _ hmg hobj hints hlen hbits hg
  obtain ⟨K, fd, sp, KX, hb, hsp, hF⟩ := F w mg fa _ Y G.T.g hmg
  exact end_g KX G.T.g G.T.b G.T.builtins G.T.nolimit hg hobj hints (Nat.le_trans hlen hn2) hr ((G.T.seer hq).mods.imp fun _ z => z.1) hF hb (fun H h1 h2 => hsp H a ns hlen hbits h1 h2) (fun H e s' => hCX H s1 e s')
end Ct

set_option Elab.async false
set_option linter.all false
set_option maxRecDepth 100000
set_option maxHeartbeats 2000000
/-! Own kit Y: the head by facts, properties' getters too. -/
namespace Ct
open PySem PySem.Spec PyProof.Rows L2 He
/-! ### functions by a path of one's own -/
structure GetD where
  at_ : PySem.W.Frag → Addr
  name : Str
  qual : Str
  params : Arguments
  body : List Stmt
  scope : Scope
def fnWA (K : PySem.W.Frag) (a : Addr) : FnW := match K.lookup a with
  | some ⟨_, _, .func fd, _⟩ => some (fd.name, fd.qualname, fd.params, fd.body, fd.scope, fd.globals, fd.closure, fd.builtins)
  | _ => none
def GetD.val (d : GetD) : FnW := some (d.name, d.qual, d.params, .stmts d.body, d.scope, mainGlobals, [], builtinsNs)
def GetD.ok (K : PySem.W.Frag) (d : GetD) : Bool := PySem.W.keepIn K (.ref (d.at_ K)) && (match K.lookup (d.at_ K) with
  | some ⟨_, _, .func fd, _⟩ => PySem.W.codeIn K fd.code d.qual && (dflB K fd.defaults [] && kwdB K fd.kwdefaults [])
  | _ => false)
theorem GetD.funD {K : PySem.W.Frag} {d : GetD} (e : fnWA K (d.at_ K) = d.val) (c : d.ok K = true) : ∃ fd, FunD K d.name d.qual d.params d.body d.scope [] [] (d.at_ K) fd := by
  obtain ⟨kp, c2⟩ := ba c
  unfold fnWA at e
  cases q : K.lookup (d.at_ K) with
  | none =>
    rw [q] at c2
    cases c2
  | some o =>
    obtain ⟨oc, od, dt, osl⟩ := o
    rw [q] at c2 e
    cases dt with
    | func fd =>
      obtain ⟨n1, n2, n3, n4, n5, n6, n7, n8, n9, n10, n11, n12, n13, n14, n15⟩ := fd
      have e2 : (some (n1, n2, n3, n4, n5, n6, n7, n15) : FnW) = some (d.name, d.qual, d.params, .stmts d.body, d.scope, mainGlobals, [], builtinsNs) := e
      simp only [Option.some.injEq, Prod.mk.injEq] at e2
      obtain ⟨h1, h2, h3, h4, h5, h6, h7, h8⟩ := e2
      subst h1 h2 h3 h4 h5 h6 h7 h8
      have c3 : (PySem.W.codeIn K n13 d.qual && (dflB K n8 [] && kwdB K n9 [])) = true := c2
      obtain ⟨k1, k2⟩ := ba c3
      obtain ⟨k3, k4⟩ := ba k2
      exact ⟨_, ⟨oc, od, n8, n9, n10, n11, n12, n13, n14, osl, rfl, q, k1, dflB_ok k3, kwdB_ok k4⟩, kp⟩
    | _ => cases c2
/-! ### the Hook -/
abbrev AlG : Type := AlD × List FnW × Bool
def obsGt (fa : List Fa) (fn : List DefD) (gs : List GetD) (ex : PySem.W.Frag → Bool) (K : PySem.W.Frag) : AlG := (obsD fa fn K, gs.map (fun d => fnWA K (d.at_ K)), (gs.all fun d => d.ok K) && ex K)
def obsGtG (n : Nat) (fa : List Fa) (fn : List DefD) (gs : List GetD) (ex : PySem.W.Frag → Bool) (g : Addr → Option Obj) : AlG := obsGt fa fn gs ex (frG g (asD g n))
def SaysG (gs : List GetD) (K : PySem.W.Frag) : Prop := (gs.map (fun d => fnWA K (d.at_ K))) = gs.map GetD.val ∧ (gs.all fun d => d.ok K) = true
def hookG (n : Nat) (fa : List Fa) (fn : List DefD) (gs : List GetD) (ex : PySem.W.Frag → Bool) : PySem.W.Hook where
  α := AlG
  obs := fun s => obsGtG n fa fn gs ex s.heap.get?
  val := fun _ => (valD fn, gs.map GetD.val, true)
  says := fun _ h => ∃ K : PySem.W.Frag, K.In h ∧ SaysD fa fn K ∧ SaysG gs K ∧ ex K = true
  of := fun _ _ e => ⟨_, frG_in, congrArg (fun z : AlG => z.1) e, ⟨congrArg (fun z : AlG => z.2.1) e, (ba (congrArg (fun z : AlG => z.2.2) e)).1⟩, (ba (congrArg (fun z : AlG => z.2.2) e)).2⟩
  keeps := fun _ _ _ ⟨K, hK, c⟩ k => ⟨K, PySem.W.Frag.In.keeps hK k, c⟩
theorem obsGtG_eq {n : Nat} {fa : List Fa} {fn : List DefD} {gs : List GetD} {ex : PySem.W.Frag → Bool} {g : Addr → Option Obj} {s : Shared} (h : ∀ a, g a = s.heap.get? a) : obsGtG n fa fn gs ex g = (hookG n fa fn gs ex).obs s := by
  have e : g = s.heap.get? := funext h
  rw [e] <;> rfl
theorem SaysG.at {gs : List GetD} {K : PySem.W.Frag} (c : SaysG gs K) (i : Nat) {d : GetD} (h : gs[i]? = some d := by rfl) : ∃ fd, FunD K d.name d.qual d.params d.body d.scope [] [] (d.at_ K) fd := by
  have e2 : (gs.map fun d => fnWA K (d.at_ K))[i]? = (gs.map GetD.val)[i]? := by rw [c.1]
  rw [List.getElem?_map, List.getElem?_map, h] at e2
  exact GetD.funD (Option.some.inj e2) (List.all_eq_true.mp c.2 d (List.mem_of_getElem? h))
/-! ### properties -/
/-- the getter of the property f of the class x -/
def prA (x f : Str) (K : PySem.W.Frag) : Addr := match PySem.W.recIn K (ma K (ga K x) f) "property" with
  | some (.ref g :: _) => g
  | _ => 0
def prB (K : PySem.W.Frag) (x f : Str) : Bool := eqO (PySem.W.findIn K (.ref (ga K x)) f) (some (some (.ref (ma K (ga K x) f)))) && (eqO (PySem.W.specialIn K (.ref (ma K (ga K x) f)) "__get__") (some (some (.builtin "property.__get__"))) &&
  (decide (PySem.W.takesIn K (.ref (ma K (ga K x) f)) = some true) && (match PySem.W.recIn K (ma K (ga K x) f) "property" with
    | some (.ref _ :: _) => true
    | _ => false)))
section
variable {K : PySem.W.Frag} {x f : Str}
theorem prB_ok (c : prB K x f = true) : PropOf K (ga K x) f (ma K (ga K x) f) (prA x f K) := by
  obtain ⟨c1, c⟩ := ba c
  obtain ⟨c2, c⟩ := ba c
  obtain ⟨c3, c4⟩ := ba c
  refine ⟨eqO_ok c1, eqO_ok c2, of_decide_eq_true c3, ?_⟩
  have c4 : (match PySem.W.recIn K (ma K (ga K x) f) "property" with
    | some (.ref _ :: _) => true
    | _ => false) = true := c4
  unfold prA
  split at c4
  · rename_i g rest h
    exact ⟨rest, by rw [h]⟩
  · cases c4
/-- the getter as it stands -/
abbrev dG (x f q : Str) (st : Stmt) : GetD := ⟨prA x f, f, q, defArgs st, defBody st, defScope st⟩
/-- a tuple of nothing: a default -/
def emptyB (K : PySem.W.Frag) (a : Addr) : Bool := match K.lookup a with
  | some ⟨.type c, _, .seq its _, _⟩ => c == "tuple" && its.size == 0
  | _ => false
theorem emptyB_ok {a : Addr} (c : emptyB K a = true) : ∃ o n, K.lookup a = some o ∧ o.cls = .type "tuple" ∧ o.data = .seq #[] n := by
  unfold emptyB at c
  split at c
  · rename_i t d its n sl h
    rw [Bool.and_eq_true, beq_iff_eq, beq_iff_eq] at c
    obtain ⟨rfl, c2⟩ := c
    exact ⟨_, n, h, rfl, by rw [Array.eq_empty_of_size_eq_zero c2]⟩
  · cases c
/-- the common facts of classes' instances -/
def clsB (K : PySem.W.Frag) (x : Str) : Bool := eqO (PySem.W.findIn K (.ref (ga K x)) "__class__") (some (some (.builtin "object.__class__"))) && decide (PySem.W.mroIn K (ga K x) (.type "object") = some true)
end
end Ct

set_option Elab.async false
set_option linter.all false
set_option maxRecDepth 100000
set_option maxHeartbeats 2000000
/-! Own kit Z: == and != of a class with its own ==, whatever it answers; == with a datum. -/
namespace Ct
open PySem PySem.Spec PyProof.Rows L2
/-- a class over object with its own ==, without != -/
structure EqC (K : PySem.W.Frag) (C f : Addr) : Prop where
  ex : ∃ nm q N bs hdct sn sub ab col dd k0 k1 k2 k3 k5 newId, K.lookup C = some (excClassObj nm q C N bs [.type "object"] hdct sn sub ab col dd k0 k1 k2 k3 k5 newId) ∧ PySem.W.nsOkIn K N = true ∧ PySem.W.nsIn K N "__eq__" = some (some (.ref f)) ∧ PySem.W.nsIn K N "__ne__" = some none
  at_ : PySem.W.findIn K (.ref C) "__eq__" = some (some (.ref f))
  fn : PySem.W.isFn K (.ref f) = true
  lo : ∀ T ∈ ["NoneType", "bool", "int", "str", "list", "tuple", "dict"], PySem.W.notFirst K C (.type T) = true
section
open He
def eqcB (K : PySem.W.Frag) (x : Str) : Bool := (match K.lookup (ga K x) with
    | some ⟨.type "type", _, .cls cd, sl⟩ => (match cd.mro, sl.toList with
      | [.ref C', .type "object"], [_, _, _, _, some (.builtin _), _] => C' == ga K x && !cd.hasDel && PySem.W.nsOkIn K cd.ns && eqO (PySem.W.nsIn K cd.ns "__eq__") (some (some (.ref (ma K (ga K x) "__eq__")))) && eqO (PySem.W.nsIn K cd.ns "__ne__") (some none)
      | _, _ => false)
    | _ => false) && (eqO (PySem.W.findIn K (.ref (ga K x)) "__eq__") (some (some (.ref (ma K (ga K x) "__eq__")))) && (PySem.W.isFn K (.ref (ma K (ga K x) "__eq__")) && ["NoneType", "bool", "int", "str", "list", "tuple", "dict"].all fun T => PySem.W.notFirst K (ga K x) (.type T)))
theorem eqcB_ok {K : PySem.W.Frag} {x : Str} (c : eqcB K x = true) : EqC K (ga K x) (ma K (ga K x) "__eq__") := by
  obtain ⟨c1, c⟩ := ba c
  obtain ⟨c2, c⟩ := ba c
  obtain ⟨c3, c4⟩ := ba c
  refine ⟨?_, eqO_ok c2, c3, fun T hT => List.all_eq_true.mp c4 T hT⟩
  split at c1
  · rename_i dd cd sl ho
    split at c1
    · rename_i C' k0 k1 k2 k3 n k5 hm hs
      simp only [Bool.and_eq_true, beq_iff_eq, Bool.not_eq_true'] at c1
      obtain ⟨⟨⟨⟨rfl, hdel⟩, h1⟩, h2⟩, h3⟩ := c1
      obtain ⟨nm, bs, mro, ns, qn, hd, sn, sub, ab, col, del⟩ := cd
      dsimp only at hm hdel h1 h2 h3
      subst hm hdel
      have hsl : sl = #[k0, k1, k2, k3, some (.builtin n), k5] := by
        obtain ⟨l⟩ := sl
        simp only at hs
        rw [hs]
      subst hsl
      exact ⟨nm, qn, ns, bs, hd, sn, sub, ab, col, dd, k0, k1, k2, k3, k5, n, ho, h1, eqO_ok h2, eqO_ok h3⟩
    · cases c1
  · cases c1
end
theorem ns_at {K : PySem.W.Frag} {h : Heap} {N : Addr} {n : Str} {v : Value} {mg : Str → Option Value} (X : K.In h) (G : h.Ns N mg) (e : PySem.W.nsIn K N n = some (some v)) : mg n = some v := by
  obtain ⟨o, es, ep, ho, hd, _, hf⟩ := G
  unfold PySem.W.nsIn at e
  split at e
  · rename_i c d es' n' sl q
    have := X _ _ q
    rw [ho] at this
    cases this
    cases hd
    split at e
    · rename_i en he
      cases e
      rw [← hf]
      unfold nsFind findBy
      rw [← Array.find?_toList, he]
      rfl
    · split at e <;> cases e
  · cases e
theorem EqC.own {K : PySem.W.Frag} {h : Heap} {C f x dx : Addr} {o : Obj} (Z : EqC K C f) (X : K.In h) (hx : h.get? x = some o) (hc : o.cls = .ref C) : h.OwnEqNoNe x C f "object" [.type "object"] := by
  obtain ⟨nm, q, N, bs, hdct, sn, sub, ab, col, dd, k0, k1, k2, k3, k5, newId, hC, h1, h2, h3⟩ := Z.ex
  have G := Heap.Ns.of_isNs (PySem.W.isNs_of_in X h1)
  have hf : PySem.W.typeIn K (.ref f) = some (.type "function") := beq_iff_eq.mp Z.fn
  obtain ⟨of, l, cl⟩ := Option.map_eq_some_iff.mp (show (K.lookup f).map (·.cls) = some (.type "function") from hf)
  exact ⟨o, of, nm, q, N, bs, hdct, sn, sub, ab, col, dd, k0, k1, k2, k3, k5, newId, h.nsMap N, _, hx, hc, X _ _ hC, G, ns_at X G h2, X _ _ l, cl, PySem.F.mro_object, (show typeLookup (.type "object") ("__eq__" : Str) = pure (some (.builtin "object.__eq__")) by kernel_rfl), PySem.W.nsMap_none_of_in X h1 h3⟩
/-! ### the readings -/
/-- x == y by the own ==, x an instance of C: what it promises to answer -/
def rOwn (C : Addr) (sp : Sp) (E : XK) (neg : Bool) : R2 := fun x y H Q => ∃ (a dx : Addr) (fs : List (Str × V)), x = .ref a ∧ H a = some (.ins C dx fs) ∧ sp [x, y] H (fun v H' => ∃ b : Bool, v = .bl b ∧ Q (.bl (if neg then !b else b)) H') E
section
variable {X : Cx} {CX : CXT} {n : Nat} {C f : Addr} {fd : FuncData} {ps : List Str} {sp : Sp} {E : XK}
theorem run_own {A : Around} {pins : List (Addr × Obj)} {σ : L2.St} {H : Hp} {s : Shared} {x y : V} {u v : Value} {Q : VK} (F : FnOk X.prog X.w X.K X.mg X.base CX n f fd ps sp) (hb : Binds X.K fd ps []) (hx : Passes CX X E) (hr : Room n A) (hfr : A.frames = X.A.frames) (I : Inv X pins σ H s)
    (rx : RelV x u) (ry : RelV y v) (h : sp [x, y] H Q E) : wpAny (model X.prog X.w) A (call (.ref f) [u, v]) (EP X pins σ Q) X.xe s := by
  have e0 : Env0 X.prog X.w X.K X.mg X.base A X.stack s H := by
    have e := I.env0
    exact ⟨by rw [hfr]; exact e.frames, e.mod, e.bs, e.bsz, e.funs, e.frf, e.hok, e.bare⟩
  have hl := F.len _ _ _ _ h
  have r2 : Vals [x, y] [u, v] := .cons rx (.cons ry .nil)
  refine wpAny_call (codeAny_mono (F.run A X.stack s H ⟨[u, v], []⟩ [u, v] [x, y] Q E hr e0 (by
    have := hb s [u, v] I.kIn (by simpa using hl)
    simpa using this) r2 h) fun r s' hq => ?_)
  cases r with
  | error e => exact hx pins σ H s e s' I hq
  | ok fl =>
    cases fl with
    | ret w => exact I.after hq
    | next => exact False.elim hq
    | brk => exact False.elim hq
    | cont => exact False.elim hq
/-- web == thing: y of a type that T tells -/
theorem op_eqO (Z : EqC X.K C f) (F : FnOk X.prog X.w X.K X.mg X.base CX n f fd ps sp) (hb : Binds X.K fd ps []) (hx : Passes CX X E) (hr : Room n X.A) :
    OpR X (compareOp .Eq) (fun x y H Q => (∃ t, TyX X.K H y t ∧ PySem.W.notFirst X.K C t = true) ∧ rOwn C sp E false x y H Q) := by
  intro pins s σ H x y v u Q I rx ry h
  obtain ⟨⟨t, ty, nf⟩, a, dx, fs, rfl, ha, hsp⟩ := h
  cases (show v = Value.ref a from rx)
  obtain ⟨mA, J, _⟩ := ins_get I.hok ha
  obtain ⟨od, J, _⟩ := J.look
  obtain ⟨m, hF⟩ := I.fr
  obtain ⟨Pp, Zk, p, _⟩ := kit_of I ry ty
  show wpAny (model X.prog X.w) X.A (richCompare .Eq (.ref a) u) (EP X pins σ Q) X.xe s
  refine PySem.W.cmp_K (op := .Eq) (tb := t) hr.units0 hF I.ok.mod.kin J (Zk.ty _ _ I.kIn p) nf Z.at_ Z.fn ?_
  refine wpAny_mono (run_own F hb hx hr rfl I rx ry hsp) (fun r s' z => ?_) fun _ _ x => x
  obtain ⟨w, H', I', rw', b, rfl, q⟩ := z
  cases (show r = Value.bool b from rw')
  exact ⟨.bl b, H', I', rfl, q⟩
/-- web != web -/
theorem op_neO (Z : EqC X.K C f) (F : FnOk X.prog X.w X.K X.mg X.base CX n f fd ps sp) (hb : Binds X.K fd ps []) (hx : Passes CX X E) (hr : Room (n + 1) X.A) :
    OpR X (compareOp .NotEq) (fun x y H Q => (∃ (b dy : Addr) (gs : List (Str × V)), y = .ref b ∧ H b = some (.ins C dy gs)) ∧ rOwn C sp E true x y H Q) := by
  intro pins s σ H x y v u Q I rx ry h
  obtain ⟨⟨b, dy, gs, rfl, hb'⟩, a, dx, fs, rfl, ha, hsp⟩ := h
  cases (show v = Value.ref a from rx)
  cases (show u = Value.ref b from ry)
  obtain ⟨mA, O, _⟩ := ins_get I.hok ha
  obtain ⟨od, J, _⟩ := O.look
  obtain ⟨mB, O2, _⟩ := ins_get I.hok hb'
  obtain ⟨od2, J2, _⟩ := O2.look
  have hu : X.A.units + 1 < cLine := by have := hr.un; omega
  obtain ⟨hh, g, d, t, os⟩ := s
  refine compareOp_ne_ownEq PySem.F.cmp_object (Z.own (dx := dx) I.kIn J.at_ J.cls) J2.at_ J2.cls hu ?_
  refine wpAny_mono (run_own (A := X.A.in1) F hb hx hr.in1 rfl I rx ry hsp) (fun r s' z => ?_) fun _ _ x => x
  obtain ⟨w, H', I', rw', b, rfl, q⟩ := z
  cases (show r = Value.bool b from rw')
  exact ⟨b, rfl, .bl (!b), H', I', rfl, q⟩
end
end Ct

set_option Elab.async false
set_option linter.all false
set_option maxRecDepth 100000
set_option maxHeartbeats 2000000
/-! Own kit Zb: x in a tuple of data. -/
namespace Ct
open PySem PySem.Spec PyProof.Rows L2
def rInTD (K : PySem.W.Frag) (neg : Bool) : R2 := fun x y H Q => ∃ d ds, Dp K H x d ∧ Dp K H y (.tuple ds) ∧ SeqAt.shaped d = true ∧ SeqAt.shaped (.list ds) = true ∧ Q (.bl (if neg then !ds.any fun z => PyData.eqv z d else ds.any fun z => PyData.eqv z d)) H
section
variable {X : Cx} {K : PySem.W.Frag}
theorem op_inTD (hK : X.K = K) (hu : X.A.units + 65 < cLine) : OpR X (compareOp .In) (rInTD K false) := by
  subst hK
  intro pins s σ H x y v u Q I rx ry h
  obtain ⟨d, ds, hd, he, sd, se, q⟩ := h
  obtain ⟨as, r1⟩ := Dp.reads I d x v hd rx
  obtain ⟨bs, r2⟩ := Dp.reads I (.tuple ds) y u he ry
  exact SeqAt.in_tuple_reads r2 r1 (SeqAt.canLay_of_shaped se) (SeqAt.canLay_of_shaped sd) (room_in_shaped sd hu) ⟨.bl _, H, I, rfl, q⟩
theorem op_notInTD (hK : X.K = K) (hu : X.A.units + 65 < cLine) : OpR X (compareOp .NotIn) (rInTD K true) := by
  subst hK
  intro pins s σ H x y v u Q I rx ry h
  obtain ⟨d, ds, hd, he, sd, se, q⟩ := h
  obtain ⟨as, r1⟩ := Dp.reads I d x v hd rx
  obtain ⟨bs, r2⟩ := Dp.reads I (.tuple ds) y u he ry
  exact SeqAt.notIn_tuple_reads r2 r1 (SeqAt.canLay_of_shaped se) (SeqAt.canLay_of_shaped sd) (room_in_shaped sd hu) ⟨.bl _, H, I, rfl, q⟩
end
end Ct

set_option Elab.async false
set_option linter.all false
set_option maxRecDepth 100000
set_option maxHeartbeats 2000000
/-! Own kit Zc: a text against a dict. -/
namespace PySem.SeqAt
open PySem PySem.Spec PySem.Calls Builtin
theorem sub_dict_str : isSubtype (.type "dict") (.type "str") = pure false := by kernel_rfl
theorem sub_str_dict : isSubtype (.type "str") (.type "dict") = pure false := by kernel_rfl
theorem dict_eq_declines_str (l : Addr) (es : Array DictEntry) (n : Nat) (dd : Option Addr) (sl : Array (Option Value)) (b : Str) (u : Tok) :
    Meets (Builtin.«dict.__eq__» ⟨[.ref l, .str b u], []⟩) (fun _ R s => s.heap.get? l = some { cls := .type "dict", dict := dd, data := .dict es n, slots := sl } ∧ R (.ok (.ret .notImplemented)) s) :=
  .of_wp fun prog w A R s h => by obtain ⟨hp, g, d, tk, os⟩ := s; obtain ⟨hl, h⟩ := h; have f1 := sub_str_dict; wp_walk using wpAny_loadPart' hl; exact ⟨_, rfl, h⟩
theorem str_eq_declines_dict (b : Str) (u : Tok) (l : Addr) (es : Array DictEntry) (n : Nat) (dd : Option Addr) (sl : Array (Option Value)) :
    Meets (Builtin.«str.__eq__» ⟨[.str b u, .ref l], []⟩) (fun _ R s => s.heap.get? l = some { cls := .type "dict", dict := dd, data := .dict es n, slots := sl } ∧ R (.ok (.ret .notImplemented)) s) :=
  .of_wp fun prog w A R s h => by obtain ⟨hp, g, d, tk, os⟩ := s; obtain ⟨hl, h⟩ := h; wp_walk using wpAny_loadPart' hl, wpAny_load hl; exact ⟨_, rfl, h⟩
section
variable {A : Around} {s : Shared}
/-- a dict at l -/
def IsDictAt (h : Heap) (l : Addr) : Prop := ∃ (es : Array DictEntry) (n : Nat) (dd : Option Addr) (sl : Array (Option Value)), h.get? l = some { cls := .type "dict", dict := dd, data := .dict es n, slots := sl }
theorem RcAt.str_dict {l : Addr} (b : Str) (u : Tok) (hl : IsDictAt s.heap l) (hu : A.units < cLine) : RcAt A s (.str b u) (.ref l) false := fun prog w E Q h => by
  obtain ⟨es, n, dd, sl, ho⟩ := hl
  exact rc_eq_decline_or (k := false) (typeIs_str s b u) ⟨_, ho, rfl⟩ (by decide) sub_dict_str F.slot_str_eq F.slot_dict_eq_refl
    (fun _ hq => call_meets F.slot_str_eq (typeIs_str s b u) F.entry_str_eq (F.args_str_eq_2 _ _) (str_eq_declines_dict b u l es n dd sl) ⟨ho, hq⟩)
    (fun _ hq => call_meets F.slot_dict_eq_refl ⟨_, ho, rfl⟩ F.entry_dict_eq (F.args_dict_eq_2 _ _) (dict_eq_declines_str l es n dd sl b u) ⟨ho, hq⟩)
    (fun _ hq => wpAny_of_eq (rfl : isSame (.str b u) (.ref l) = pure false) hq) (.inr hu) h
theorem EqAt.str_dict {l : Addr} (b : Str) (u : Tok) (hl : IsDictAt s.heap l) (hu : A.units < cLine) : EqAt A s (.str b u) (.ref l) false := fun prog w E Q h => by
  unfold eqBool
  refine wpAny_holding ?_
  refine wpAny_ite_split (fun hab => absurd (eq_of_beq hab) nofun) (fun _ => ?_)
  exact wpAny_bind (RcAt.str_dict b u hl hu prog w E _ (wpAny_truthy_bool h))
end
end PySem.SeqAt
namespace Ct
open PySem PySem.Spec PyProof.Rows L2
section
variable {X : Cx} {pins : List (Addr × Obj)} {σ : L2.St} {H : Hp} {s : Shared} {K : PySem.W.Frag}
/-- a datum, or a dict of data, against texts -/
theorem amU_eqQ {A : Around} (I : Inv X pins σ H s) (hu : A.units < cLine) {x : V} {v : Value} {d : PyData} (r : RelV x v) (h : Dq X.K H x d) : ∀ {ns : List Str} {us : List Value}, Vals (ns.map V.str) us → ∀ u ∈ us, SeqAt.EqAt A s u v (amU d u)
  | [], _, .nil => fun u hu => by cases hu
  | n :: ns, w :: us, .cons r0 t => fun u m => by
    rcases List.mem_cons.mp m with rfl | m
    · obtain ⟨k, rfl⟩ := r0
      cases h with
      | non => cases r; exact SeqAt.EqAt.str_none n k
      | bl b => cases r; exact SeqAt.EqAt.str_bool n k b
      | int i => obtain ⟨t2, rfl⟩ := r; exact SeqAt.EqAt.str_int n k i t2
      | str y => obtain ⟨t2, rfl⟩ := r; exact SeqAt.EqAt.str_str n k y t2
      | lst hs _ =>
        cases r
        obtain ⟨its, rv, pl, _⟩ := I.list hs
        exact SeqAt.EqAt.str_list n k pl.isList hu
      | tup hs _ =>
        cases r
        obtain ⟨its, rv, pl, _⟩ := I.tuple hs
        exact SeqAt.EqAt.str_tuple n k (show s.heap.IsTuple _ its.toArray from pl) hu
      | dic hs hk hv ha =>
        cases r
        obtain ⟨_, hy, vs, rkv, o, es, ep, ho, hx, hd, _⟩ := hs.ok I.hok
        obtain ⟨oc, od, dt, sl⟩ := o
        simp only at hd
        subst hd
        have hc : oc = .type "dict" := hx.1
        subst hc
        exact SeqAt.EqAt.str_dict n k ⟨es, _, od, sl, ho⟩ hu
      | dicT hs hk hv ha =>
        cases r
        obtain ⟨_, hy, xs, rp, o, es, ep, ho, hx, hd, he, _⟩ := hs.ok I.hok
        obtain ⟨oc, od, dt, sl⟩ := o
        simp only at hd
        subst hd
        have hc : oc = .type "dict" := hx.1
        subst hc
        exact SeqAt.EqAt.str_dict n k ⟨es, _, od, sl, ho⟩ hu
    · exact amU_eqQ I hu r h t u m
/-- x in names, x any datum -/
def rAmidQ (K : PySem.W.Frag) (neg : Bool) : R2 := fun x y H Q => ∃ (d : PyData) (a : Addr) (ns : List Str), y = .ref a ∧ SqS K H a (ns.map V.str) ∧ Dq K H x d ∧ Q (.bl (if neg then !amid d ns else amid d ns)) H
theorem or_amidQ (hK : X.K = K) (hu : X.A.units + 64 < cLine) : OpR X (compareOp .In) (rAmidQ K false) := by
  subst hK
  intro pins s σ H x y v u Q I rx ry h
  obtain ⟨d, a, ns, rfl, ha, hd, q⟩ := h
  cases (show u = Value.ref a from ry)
  have hu1 : X.A.in1.units < cLine := by show X.A.units + 1 < _; omega
  rw [if_neg (by decide)] at q
  rcases ha with ha | ha
  · obtain ⟨its, rv, pl, hz⟩ := I.list ha
    refine SeqAt.in_listAt (amU d) pl.isList (fun w hw => amU_eqQ I hu1 rx hd rv w (by simpa using hw)) ⟨.bl _, H, I, rfl, ?_⟩
    rw [show its.toArray.any (amU d) = its.any (amU d) by simp, amU_any d rv]
    exact q
  · obtain ⟨its, rv, pl, hz⟩ := I.tuple ha
    refine SeqAt.in_tupleAt (amU d) pl (fun w hw => amU_eqQ I hu1 rx hd rv w (by simpa using hw)) ⟨.bl _, H, I, rfl, ?_⟩
    rw [show its.toArray.any (amU d) = its.any (amU d) by simp, amU_any d rv]
    exact q
theorem or_namidQ (hK : X.K = K) (hu : X.A.units + 64 < cLine) : OpR X (compareOp .NotIn) (rAmidQ K true) := by
  subst hK
  intro pins s σ H x y v u Q I rx ry h
  obtain ⟨d, a, ns, rfl, ha, hd, q⟩ := h
  cases (show u = Value.ref a from ry)
  have hu1 : X.A.in1.units < cLine := by show X.A.units + 1 < _; omega
  rw [if_pos rfl] at q
  rcases ha with ha | ha
  · obtain ⟨its, rv, pl, hz⟩ := I.list ha
    refine SeqAt.notIn_listAt (amU d) pl.isList (fun w hw => amU_eqQ I hu1 rx hd rv w (by simpa using hw)) ⟨.bl _, H, I, rfl, ?_⟩
    rw [show its.toArray.any (amU d) = its.any (amU d) by simp, amU_any d rv]
    exact q
  · obtain ⟨its, rv, pl, hz⟩ := I.tuple ha
    refine SeqAt.notIn_tupleAt (amU d) pl (fun w hw => amU_eqQ I hu1 rx hd rv w (by simpa using hw)) ⟨.bl _, H, I, rfl, ?_⟩
    rw [show its.toArray.any (amU d) = its.any (amU d) by simp, amU_any d rv]
    exact q
end
end Ct

set_option Elab.async false
set_option linter.all false
set_option maxRecDepth 100000
set_option maxHeartbeats 4000000
namespace Pw
open PySem PySem.Spec PyProof.Rows L2 Ct
def spIsPlace (K : PySem.W.Frag) (C : Addr) : Sp := fun vs H Q _ => ∃ (x : Addr) (v : V) (ns : List Str) (ts : List (Str × Str)) (d : PyData), vs = [.ref x, v] ∧ WebAt K C H x ns ts ∧ Dq K H v d ∧ Q (.bl (amid d ns)) H
def spCheckPlace (K : PySem.W.Frag) (C CN : Addr) : Sp := fun vs H Q E => ∃ (x : Addr) (v : V) (ns : List Str) (ts : List (Str × Str)) (d : PyData), vs = [.ref x, v] ∧ WebAt K C H x ns ts ∧ Dq K H v d ∧ (amid d ns = true → Q .non H) ∧ (amid d ns = false → Raised CN "value" H v E)
def spSees (K : PySem.W.Frag) (C CN : Addr) : Sp := fun vs H Q E => ∃ (x : Addr) (v : V) (ns : List Str) (ts : List (Str × Str)) (d : PyData), vs = [.ref x, v] ∧ WebAt K C H x ns ts ∧ Dq K H v d ∧ (∀ p, d = .str p → p ∈ ns → ∀ l H', Same H H' → H l = none → H' l = some (.lst ((seenOf ns ts p).map V.str)) → Q (.ref l) H') ∧ (amid d ns = false → Raised CN "value" H v E)
section
variable {P : Program} {w : World} {K : PySem.W.Frag} {mg : Str → Option Value} {base : Heap} {C CN fa : Addr} {fd : FuncData}
abbrev sIsPlace : Stmt := top ix_is_place
theorem scIsPlace : FnScope ["web", "value"] ["web", "value"] (defScope sIsPlace) := ⟨rfl, rfl, rfl, by decide +kernel, rfl, by decide +kernel, by decide +kernel⟩
theorem has_is_place (X : WC K C) (D : DFE K mg "is_place" sIsPlace ["web", "value"]) (hP_places : HasP P w K mg base 1 C "places" (getSp C "_places")) : Has P w K mg base CX0 3 "is_place" ["web", "value"] (spIsPlace K C) := by
  refine has_of D scIsPlace (fun vs H Q E h => ?_) (fun f cdv A outer s H vs Q E hr h => ?_)
  · obtain ⟨x, v, ns, ts, d, rfl, _⟩ := h; rfl
  · obtain ⟨x, v, ns, ts, d, rfl, hw, hd, k⟩ := h
    have nd := scIsPlace.nd
    refine ⟨_, (pss_one (ps_ret (pe_cmpR (or_amidQ rfl hr.units) (pv 1) (pe_hP hP_places X.cls hr (by decide) (pv 0)) (by first | exact nomark _ | rfl)))), ?_⟩
    obtain ⟨⟨dx, tp, tt, sg, sn, sp, sq, rk, xs, hx, htp, _⟩⟩ := hw
    refine ⟨_, rfl, _, rfl, x, dx, _, rfl, hx, x, dx, _, _, rfl, hx, rfl, d, tp, ns, rfl, .inr htp, hd, ?_⟩
    rw [if_neg (by decide)]
    exact k
abbrev sCheckPlace : Stmt := top ix_check_place
theorem scCheckPlace : FnScope ["web", "value"] ["web", "value"] (defScope sCheckPlace) := ⟨rfl, rfl, rfl, by decide +kernel, rfl, by decide +kernel, by decide +kernel⟩
theorem has_check_place (D : DFE K mg "check_place" sCheckPlace ["web", "value"]) (h_is_place : Has P w K mg base CX0 3 "is_place" ["web", "value"] (spIsPlace K C)) (hE_NoPlace : HasE P w K mg base 1 "NoPlace" CN "value") : HasR P w K mg base 4 "check_place" ["web", "value"] (spCheckPlace K C CN) := by
  refine hasR_of D scCheckPlace (fun vs H Q E h => ?_) (fun f cdv A outer s H vs Q E hr h => ?_)
  · obtain ⟨x, v, ns, ts, d, rfl, _⟩ := h; rfl
  · obtain ⟨x, v, ns, ts, d, rfl, hw, hd, k1, k2⟩ := h
    have nd := scCheckPlace.nd
    refine ⟨_, (pss_one (ps_if (pt_not (pt_val (pe_h h_is_place hr (by decide) rfl (pa_cons (pv 0) (pa_cons (pv 1) pa_nil))))) (pss_one (ps_raise rfl (takes_of rfl rfl rfl rfl) (pmk_x hE_NoPlace hr (by decide) rfl (pv 1)))) pss_nil)), ?_⟩
    refine ⟨_, rfl, _, rfl, x, v, ns, ts, d, rfl, hw, hd, _, rfl, ?_⟩
    cases c : amid d ns with
    | true => exact iteF (k1 c)
    | false => exact iteT ⟨_, rfl, fun e he => k2 c e _ (same_new he) he upd_same⟩
abbrev sSees : Stmt := inClass (top ix_Web) mx_Web_sees
theorem scSees : FnScope ["self", "place"] ["self", "place"] (defScope sSees) := ⟨rfl, rfl, rfl, by decide +kernel, rfl, by decide +kernel, by decide +kernel⟩
theorem ok_sees (T : Bn mg) (X : WC K C) (F : Fun K "sees" "Web.sees" sSees fa fd) (h_check_place : HasR P w K mg base 4 "check_place" ["web", "value"] (spCheckPlace K C CN)) : FnOk P w K mg base (L2.CX P w) 5 fa fd ["self", "place"] (spSees K C CN) := by
  refine F.okX scSees (fun vs H Q E h => ?_) (fun cdv A outer s H vs Q E hr h => ?_)
  · obtain ⟨x, v, ns, ts, d, rfl, _⟩ := h; rfl
  · obtain ⟨x, v, ns, ts, d, rfl, hw, hd, k1, k2⟩ := h
    have nd := scSees.nd
    refine ⟨_, (pss_cons (ps_expr (pe_hR h_check_place (takes_of rfl rfl rfl rfl) hr (by decide) rfl (pa_cons (pv 0) (pa_cons (pv 1) pa_nil))))
    (pss_one (ps_ret (pe_callTy call_list_of (by rfl) T.z_list (by decide +kernel) (pa_cons (pe_dget (hu_of hr) (pe_fld (pv 0) rfl) (pv 1) (fun _ _ => rfl)) pa_nil))))), ?_⟩
    refine ⟨_, rfl, _, rfl, x, v, ns, ts, d, rfl, hw, hd, fun c => ?_, k2⟩
    obtain ⟨⟨dx, tp, tt, sg, sn, sp, sq, rk, xs, hx, htp, htt, hts, hsg, ⟨kvs, l, m1, m2, m3, m4⟩, _⟩⟩ := hw
    cases d with
    | str p =>
      cases hd
      have hp := amid_str.mp c
      obtain ⟨v1, v2⟩ := m3 p hp
      refine ⟨_, rfl, x, C, dx, _, _, rfl, hx, X.cls, X.n4, rfl, _, rfl, sn, .ref (l p), rfl, (by rw [← v1]; exact DGet.k (k := Sum.inr p) m1), l p, _, rfl, .inl (SqL.of v2), fun L nL => ?_⟩
      exact k1 p rfl hp L _ (same_new nL) nL upd_same
    | _ => exact absurd c Bool.false_ne_true
end
end Pw

set_option Elab.async false
set_option linter.all false
set_option maxRecDepth 100000
set_option maxHeartbeats 4000000
namespace Pw
open PySem PySem.Spec PyProof.Rows L2 Ct
/-- the names of a row that are new are reached, and wait (the last one first) -/
def visit (r w : List Str) : List Str → List Str × List Str
  | [] => (r, w)
  | p :: ps => if p ∈ r then visit r w ps else visit (r ++ [p]) (p :: w) ps
/-- what is reached at last -/
inductive Runs (S : Str → List Str) : List Str → List Str → List Str → Prop
  | done {r : List Str} : Runs S r [] r
  | step {r w e : List Str} {h : Str} : Runs S (visit r w (S h)).1 (visit r w (S h)).2 e → Runs S r (h :: w) e
theorem Runs.det {S : Str → List Str} {r w e : List Str} (a : Runs S r w e) : ∀ {e' : List Str}, Runs S r w e' → e = e' := by
  induction a with
  | done => intro e' b; cases b; rfl
  | step _ ih => intro e' b; cases b with | step c => exact ih c
theorem visit_take {r w : List Str} (ps : List Str) (q : Str) : visit r w (ps ++ [q]) = if q ∈ (visit r w ps).1 then visit r w ps else ((visit r w ps).1 ++ [q], q :: (visit r w ps).2) := by
  induction ps generalizing r w with
  | nil => rfl
  | cons p ps ih =>
    rw [List.cons_append]
    unfold visit
    by_cases c : p ∈ r
    · rw [if_pos c, if_pos c]; exact ih
    · rw [if_neg c, if_neg c]; exact ih
theorem visit_ok {ns : List Str} : ∀ (ps r w : List Str), r.Nodup → (∀ q ∈ r, q ∈ ns) → (∀ q ∈ w, q ∈ ns) → (∀ q ∈ ps, q ∈ ns) →
    (visit r w ps).1.Nodup ∧ (∀ q ∈ (visit r w ps).1, q ∈ ns) ∧ (∀ q ∈ (visit r w ps).2, q ∈ ns) ∧ (visit r w ps).1.length + w.length = (visit r w ps).2.length + r.length ∧ r.length ≤ (visit r w ps).1.length
  | [], r, w, h1, h2, h3, _ => ⟨h1, h2, h3, Nat.add_comm _ _, Nat.le_refl _⟩
  | p :: ps, r, w, h1, h2, h3, h4 => by
    have h4' : ∀ q ∈ ps, q ∈ ns := fun q hq => h4 q (List.mem_cons_of_mem _ hq)
    unfold visit
    by_cases c : p ∈ r
    · rw [if_pos c]
      exact visit_ok ps r w h1 h2 h3 h4'
    · rw [if_neg c]
      have a := visit_ok (ns := ns) ps (r ++ [p]) (p :: w) (List.nodup_append.mpr ⟨h1, by simp, fun x hx y hy e => by rw [List.mem_singleton.mp hy] at e; exact c (e ▸ hx)⟩)
        (fun q hq => (List.mem_append.mp hq).elim (h2 q) (fun z => by rw [List.mem_singleton.mp z]; exact h4 p List.mem_cons_self))
        (fun q hq => (List.mem_cons.mp hq).elim (fun z => by rw [z]; exact h4 p List.mem_cons_self) (h3 q)) h4'
      obtain ⟨a1, a2, a3, a4, a5⟩ := a
      rw [List.length_append, List.length_cons] at a4
      rw [List.length_append] at a5
      simp only [List.length_cons, List.length_nil] at a4 a5
      exact ⟨a1, a2, a3, by omega, by omega⟩
theorem nodup_le {r ns : List Str} (h : r.Nodup) (s : ∀ q ∈ r, q ∈ ns) : r.length ≤ ns.length := by
  induction r generalizing ns with
  | nil => exact Nat.zero_le _
  | cons p r ih =>
    obtain ⟨h1, h2⟩ := List.nodup_cons.mp h
    have hp := s p List.mem_cons_self
    have := ih (ns := ns.erase p) h2 fun q hq => (List.mem_erase_of_ne (fun (e : q = p) => h1 (by rw [← e]; exact hq))).2 (s q (List.mem_cons_of_mem _ hq))
    have e := List.length_erase_of_mem hp
    have := List.length_pos_of_mem hp
    rw [List.length_cons]
    omega
/-- the dict that marks the names -/
def marks (r : List Str) : List (Key × V) := r.map fun q => (.inr q, .bl true)
theorem marks_at (r : List Str) (q : Str) : valV (marks r) (.inr q) = if q ∈ r then some (.bl true) else none := by
  unfold marks
  induction r with
  | nil => rfl
  | cons p r ih =>
    rw [List.map_cons]
    by_cases e : p = q
    · rw [valV_pos (p := (Sum.inr p, V.bl true)) (show (Sum.inr p : Key) = Sum.inr q from congrArg _ e), if_pos (by rw [e]; exact List.mem_cons_self)]
    · rw [valV_neg (p := (Sum.inr p, V.bl true)) (fun z => e (Sum.inr.inj z)), ih]
      by_cases c : q ∈ r
      · rw [if_pos c, if_pos (List.mem_cons_of_mem _ c)]
      · rw [if_neg c, if_neg (fun z => (List.mem_cons.mp z).elim (fun z => e z.symm) c)]
theorem marks_put {r : List Str} {q : Str} (c : q ∉ r) : putK (marks r) (.inr q) (.bl true) = marks (r ++ [q]) := by
  rw [putK_new _ (by rw [marks_at, if_neg c])]
  unfold marks
  rw [List.map_append]
  rfl
def lenD : Option HO → Nat
  | some (.dK kvs) => kvs.length
  | some (.lst l) => l.length
  | _ => 0
def spPartOf (K : PySem.W.Frag) (C : Addr) : Sp := fun vs H Q _ => ∃ (x : Addr) (p : Str) (ns : List Str) (ts : List (Str × Str)), vs = [.ref x, .str p] ∧ WebAt K C H x ns ts ∧ p ∈ ns ∧ ns.length ≤ 100 ∧
  ∀ e, Runs (seenOf ns ts) [p] [p] e → ∀ l H', Same H H' → H l = none → H' l = some (.lst ((ns.filter fun q => decide (q ∈ e)).map V.str)) → Q (.ref l) H'
section
variable {P : Program} {w : World} {K : PySem.W.Frag} {mg : Str → Option Value} {base : Heap} {C fa : Addr} {fd : FuncData}
abbrev sPartOf : Stmt := inClass (top ix_Web) mx_Web_part_of
theorem scPartOf : FnScope ["self", "start", "reached", "waiting", "here", "place"] ["self", "start"] (defScope sPartOf) := ⟨rfl, rfl, rfl, by decide +kernel, rfl, by decide +kernel, by decide +kernel⟩
theorem ok_part_of (T : Bn mg) (X : WC K C) (F : Fun K "_part_of" "Web._part_of" sPartOf fa fd) : FnOk P w K mg base CX0 1 fa fd ["self", "start"] (spPartOf K C) := by
  refine F.ok scPartOf (fun vs H Q E h => ?_) (fun cdv A outer s H vs Q E hr h => ?_)
  · obtain ⟨x, p, ns, ts, rfl, _⟩ := h; rfl
  · obtain ⟨x, p, ns, ts, rfl, hw, hp, hl, k⟩ := h
    have nd := scPartOf.nd
    refine ⟨_, (pss_cons (ps_sv 2 nd (pe_disp (pps_cons (pv 1) pe_bl pps_nil) (by rfl) (by rfl) (fun z => by cases z) (by decide)))
    (pss_cons (ps_sv 3 nd (pe_lst (pa_cons (pv 1) pa_nil)))
    (pss_cons (ps_while PassesOwn.never (pt_truth (pv 3) (by intro _; rfl)) (pss_cons (ps_sv 4 nd (pe_bm0 PySem.F.plainAttrs_list PySem.F.slot_list_pop PySem.F.type_list_pop mt_pop (pv 3)))
    (pss_one (ps_for PassesOwn.never rfl (pi_list (pe_dget (hu_of hr) (pe_fld (pv 0) rfl) (pv 4) (fun _ _ => rfl))) (pg_name (i := 5) nd rfl (by first | exact Or.inl rfl | exact Or.inr rfl)) (pss_one (ps_if (pt_cmp (pc_dnotin (hu_of hr) (pv 5) (pv 2))) (pss_cons (ps_dput (hu_of hr) (pv 2) (pv 5) pe_bl rfl)
    (pss_one (ps_expr (pe_bm PySem.F.plainAttrs_list PySem.F.slot_list_append PySem.F.type_list_append mt_append (pv 3) (pa_cons (pv 5) pa_nil))))) pss_nil))))))
    (pss_one (ps_ret (pe_lc (own := [("place", 5)]) (g := gName 5) rfl nd (pi_tup (pe_fld (pv 0) rfl)) (blkOk_by (own := [("place", 5)]) (N := ["self", "start", "reached", "waiting", "here", "place"]) (sc := defScope sPartOf) (by decide +kernel)) (fun _ _ _ _ _ => (pg_name (i := 5) nd rfl (by first | exact Or.inl rfl | exact Or.inr rfl))) (fun _ _ _ _ _ => (pts_one (pt_cmp (pc_din (hu_of hr) (pv 5) (pv 2))))) (fun _ _ _ _ _ => (pv 5)))))))), ?_⟩
    obtain ⟨⟨dx, tp, tt, sg, sn, sp, sq, rk, xs, hx, htp, htt, hts, hsg, hmap, _⟩⟩ := hw
    -- reached, waiting
    intro D nD
    refine ⟨_, rfl, upd_same, [(.inr p, .bl true)], rfl, by show 1 ≤ 15; decide, ?_⟩
    have s1 : Same H (upd (upd H D (.dK [])) D (.dK (marks [p]))) := same_upd (same_new nD) nD
    have hD : upd (upd H D (.dK [])) D (.dK (marks [p])) D = some (.dK (marks [p])) := upd_same
    show gName 2 _ _ (upd (upd H D (.dK [])) D (.dK (marks [p]))) _
    generalize upd (upd H D (.dK [])) D (.dK (marks [p])) = H1 at s1 hD ⊢
    refine ⟨_, rfl, by show 1 ≤ sizeLine; decide, fun W nW => ?_⟩
    have fresh : ∀ {H2 : Hp}, Same H H2 → ∀ {e : Addr}, H2 e = none → H e = none := fun {H2} s2 {e} he => by
      cases q : H e with
      | none => rfl
      | some o => rw [s2 e o q] at he; cases he
    have nW0 := fresh s1 nW
    have s2 := s1.trans (same_new (o := .lst [V.str p]) nW)
    have hD2 := same_new (o := .lst [V.str p]) nW _ _ hD
    have hW2 : upd H1 W (.lst [V.str p]) W = some (.lst [V.str p]) := upd_same
    generalize upd H1 W (.lst [V.str p]) = H2 at s2 hD2 hW2 ⊢
    have DW : D ≠ W := ne_of hD2 hW2 (by intro z; cases z)
    dsimp only [gName, tSeq]
    refine while_by (fun σ H' => Same H H' ∧ ∃ r wq u v, σ = [some (.ref x), some (.str p), some (.ref D), some (.ref W), u, v] ∧ H' D = some (.dK (marks r)) ∧ H' W = some (.lst (wq.reverse.map V.str)) ∧ r.Nodup ∧ (∀ q ∈ r, q ∈ ns) ∧ (∀ q ∈ wq, q ∈ ns) ∧ wq.length ≤ r.length ∧ ∀ e, Runs (seenOf ns ts) r wq e → Runs (seenOf ns ts) [p] [p] e)
      (fun σ H' => 2 * (ns.length - lenD (H' D)) + lenD (H' W)) ?_ ?_ ?_
    · exact ⟨s2, [p], [p], _, _, rfl, hD2, hW2, by simp, by simpa using hp, by simpa using hp, Nat.le_refl _, fun e z => z⟩
    · rintro σ H3 ⟨s3, r, wq, u, v, rfl, hD3, hW3, nr, rn, wn, wl, run⟩
      cases wq with
      | nil =>
        refine ⟨_, rfl, false, .inl ⟨_, SqL.of hW3, rfl⟩, iteF ?_⟩
        have hr := run r .done
        refine ⟨_, rfl, x, C, dx, _, _, rfl, s3 _ _ hx, X.cls, X.n1, rfl, tp, rfl, ⟨_, same_t s3 htp⟩, fun L nL => ?_⟩
        refine lc_it walk_tup (fun i H' => Same H3 H' ∧ H' L = some (.lst (((ns.take i).filter fun q => decide (q ∈ r)).map V.str))) ⟨same_new nL, upd_same⟩ (fun i H' _ p => same_t p.1 (same_t s3 htp)) ?_ ?_
        · rintro i y H4 H5 hi ⟨s4, hL⟩ ⟨rfl, hyi⟩
          obtain ⟨q, hq, rfl⟩ : ∃ q, ns[i]? = some q ∧ y = .str q := by
            rw [List.getElem?_map] at hyi
            cases e : ns[i]? with
            | none => rw [e] at hyi; cases hyi
            | some q => rw [e] at hyi; exact ⟨q, rfl, (Option.some.inj hyi).symm⟩
          refine ⟨rfl, _, rfl, _, rfl, D, _, rfl, DGet.k (k := Sum.inr q) (s4 _ _ hD3), _, rfl, ?_⟩
          have step : (ns.take (i + 1)).filter (fun q => decide (q ∈ r)) = (ns.take i).filter (fun q => decide (q ∈ r)) ++ (if decide (q ∈ r) = true then [q] else []) := by
            rw [List.take_succ, hq, List.filter_append]
            exact congrArg _ (filter_one _ q)
          rw [marks_at]
          by_cases c : q ∈ r
          · rw [if_pos c]
            refine iteT ⟨_, rfl, _, hL, ?_, same_upd s4 nL, ?_⟩
            · rw [List.length_map, sizeLine_eq]
              have := List.length_filter_le (fun q => decide (q ∈ r)) (ns.take i)
              have := List.length_take_le i ns
              have : i < ns.length := (List.getElem?_eq_some_iff.mp hq).1
              omega
            · rw [upd_same, step, if_pos (decide_eq_true c), List.map_append]
              rfl
          · rw [if_neg c]
            refine iteF ⟨s4, ?_⟩
            rw [step, if_neg (by rw [decide_eq_false c]; decide), List.append_nil]
            exact hL
        · rintro H4 ⟨s4, hL⟩
          rw [List.length_map, List.take_length] at hL
          exact k r hr L H4 (s3.trans s4) (fresh s3 nL) hL
      | cons hh wq =>
        have hhn := wn hh List.mem_cons_self
        have rev : ((hh :: wq).reverse.map V.str) = wq.reverse.map V.str ++ [V.str hh] := by
          rw [List.reverse_cons, List.map_append]; rfl
        rw [rev] at hW3
        refine ⟨_, rfl, true, .inl ⟨_, SqL.of hW3, by simp⟩, iteT ?_⟩
        refine ⟨_, rfl, .inl ⟨rfl, _, SqL.of hW3⟩, W, _, .str hh, rfl, rfl, hW3, by simp, ?_⟩
        rw [List.dropLast_concat]
        have s4 : Same H (upd H3 W (.lst (wq.reverse.map V.str))) := same_upd s3 nW0
        have hD4 : upd H3 W (.lst (wq.reverse.map V.str)) D = some (.dK (marks r)) := by rw [upd_ne DW]; exact hD3
        have hW4 : upd H3 W (.lst (wq.reverse.map V.str)) W = some (.lst (wq.reverse.map V.str)) := upd_same
        have muE : 2 * (ns.length - lenD (H3 D)) + lenD (H3 W) = 2 * (ns.length - r.length) + wq.length + 1 := by
          rw [hD3, hW3]
          show 2 * (ns.length - (marks r).length) + (wq.reverse.map V.str ++ [V.str hh]).length = _
          unfold marks
          rw [List.length_map, List.length_append, List.length_map, List.length_reverse]
          rfl
        generalize upd H3 W (.lst (wq.reverse.map V.str)) = H4 at s4 hD4 hW4 ⊢
        obtain ⟨kvs, l, m1, m2, m3, m4⟩ := (SameD.of s4).map hmap
        obtain ⟨v1, v2⟩ := m3 hh hhn
        refine ⟨_, rfl, x, C, dx, _, _, rfl, s4 _ _ hx, X.cls, X.n4, rfl, _, rfl, sn, .ref (l hh), rfl, (by rw [← v1]; exact DGet.k (k := Sum.inr hh) m1), l hh, rfl, ⟨_, SqL.of v2⟩, ?_⟩
        have lnew : H (l hh) = none → False := fun z => by
          obtain ⟨kv0, l0, q1, q2, q3, q4⟩ := hmap
          obtain ⟨w1, w2⟩ := q3 hh hhn
          have e1 := s4 _ _ q1
          rw [m1] at e1
          cases e1
          rw [v1] at w1
          have e2 : l hh = l0 hh := V.ref.inj (Option.some.inj w1)
          rw [e2] at z
          rw [w2] at z
          cases z
        have lD : l hh ≠ D := fun z => lnew (by rw [z]; exact nD)
        have lW : l hh ≠ W := fun z => lnew (by rw [z]; exact nW0)
        have seenIn : ∀ q ∈ seenOf ns ts hh, q ∈ ns := fun q hq => (List.mem_filter.mp hq).1
        refine for_it walk_list (fun j σ' H' => Same H H' ∧ H' (l hh) = some (.lst ((seenOf ns ts hh).map V.str)) ∧ (∃ v, σ' = [some (.ref x), some (.str p), some (.ref D), some (.ref W), some (.str hh), v]) ∧ H' D = some (.dK (marks (visit r wq ((seenOf ns ts hh).take j)).1)) ∧ H' W = some (.lst ((visit r wq ((seenOf ns ts hh).take j)).2.reverse.map V.str))) ⟨s4, v2, ⟨_, rfl⟩, hD4, hW4⟩ (fun j σ' H' _ p => SqL.of p.2.1) ?_ ?_
        · rintro j y σ5 H5 H6 hj ⟨s5, hl5, ⟨v5, rfl⟩, hD5, hW5⟩ ⟨rfl, hyj⟩
          obtain ⟨q, hq, rfl⟩ : ∃ q, (seenOf ns ts hh)[j]? = some q ∧ y = .str q := by
            rw [List.getElem?_map] at hyj
            cases e : (seenOf ns ts hh)[j]? with
            | none => rw [e] at hyj; cases hyj
            | some q => rw [e] at hyj; exact ⟨q, rfl, (Option.some.inj hyj).symm⟩
          obtain ⟨o1, o2, o3, o4, o5⟩ := visit_ok (ns := ns) ((seenOf ns ts hh).take j) r wq nr rn (fun z hz => wn z (List.mem_cons_of_mem _ hz)) (fun z hz => seenIn z (List.mem_of_mem_take hz))
          have o6 := nodup_le o1 o2
          have o7 := nodup_le nr rn
          have vt : visit r wq ((seenOf ns ts hh).take (j + 1)) = if q ∈ (visit r wq ((seenOf ns ts hh).take j)).1 then visit r wq ((seenOf ns ts hh).take j) else ((visit r wq ((seenOf ns ts hh).take j)).1 ++ [q], q :: (visit r wq ((seenOf ns ts hh).take j)).2) := by
            rw [List.take_succ, hq]
            exact visit_take _ q
          rw [vt]
          refine ⟨_, rfl, _, rfl, D, _, rfl, DGet.k (k := Sum.inr q) hD5, _, rfl, ?_⟩
          rw [marks_at]
          generalize visit r wq ((seenOf ns ts hh).take j) = vv at hD5 hW5 o1 o2 o3 o4 o5 o6 ⊢
          by_cases c : q ∈ vv.1
          · rw [if_pos c, if_pos c]
            exact iteF ⟨s5, hl5, ⟨_, rfl⟩, hD5, hW5⟩
          · rw [if_neg c, if_neg c]
            refine iteT ⟨_, rfl, _, rfl, D, _, rfl, DPut.k (k := Sum.inr q) hD5 (by unfold marks; rw [List.length_map, sizeLine_eq]; omega), ?_⟩
            rw [marks_put c]
            have s6 : Same H (upd H6 D (.dK (marks (vv.1 ++ [q])))) := same_upd s5 nD
            have hD6 : upd H6 D (.dK (marks (vv.1 ++ [q]))) D = some (.dK (marks (vv.1 ++ [q]))) := upd_same
            have hW6 : upd H6 D (.dK (marks (vv.1 ++ [q]))) W = some (.lst (vv.2.reverse.map V.str)) := by rw [upd_ne (Ne.symm DW)]; exact hW5
            have hl6 : upd H6 D (.dK (marks (vv.1 ++ [q]))) (l hh) = some (.lst ((seenOf ns ts hh).map V.str)) := by rw [upd_ne lD]; exact hl5
            generalize upd H6 D (.dK (marks (vv.1 ++ [q]))) = H7 at s6 hD6 hW6 hl6 ⊢
            refine ⟨_, rfl, .inl ⟨rfl, _, SqL.of hW6⟩, _, rfl, W, _, _, rfl, rfl, hW6, ?_, ?_⟩
            · rw [List.length_map, List.length_reverse, sizeLine_eq]
              rw [List.length_cons] at wl
              omega
            · refine ⟨same_upd s6 nW0, by rw [upd_ne lW]; exact hl6, ⟨_, rfl⟩, by rw [upd_ne DW]; exact hD6, ?_⟩
              rw [upd_same]
              simp
        · rintro σ5 H5 ⟨s5, hl5, ⟨v5, rfl⟩, hD5, hW5⟩
          rw [List.length_map, List.take_length] at hD5 hW5
          obtain ⟨o1, o2, o3, o4, o5⟩ := visit_ok (ns := ns) (seenOf ns ts hh) r wq nr rn (fun z hz => wn z (List.mem_cons_of_mem _ hz)) seenIn
          have o6 := nodup_le o1 o2
          refine ⟨⟨s5, _, _, _, _, rfl, hD5, hW5, o1, o2, o3, by rw [List.length_cons] at wl; omega, fun e z => run e (.step z)⟩, ?_⟩
          show 2 * (ns.length - lenD (H5 D)) + lenD (H5 W) < 2 * (ns.length - lenD (H3 D)) + lenD (H3 W)
          rw [muE, hD5, hW5]
          show 2 * (ns.length - (marks _).length) + (List.map V.str _).length < _
          unfold marks
          rw [List.length_map, List.length_map, List.length_reverse]
          omega
    · rintro σ H' Q Q' m ⟨v, e, b, t, q⟩
      exact ⟨v, e, b, t, m _ _ q⟩
end
end Pw

set_option Elab.async false
set_option linter.all false
set_option maxRecDepth 100000
set_option maxHeartbeats 4000000
namespace Pw
open PySem PySem.Spec PyProof.Rows L2 Ct
theorem lays_of : ∀ {ds : List PyData}, (∀ d ∈ ds, d.canLay0 = true) → PyData.canLayAll0 ds = true
  | [], _ => by simp [PyData.canLayAll0]
  | d :: ds, h => by rw [PyData.canLayAll0, h d List.mem_cons_self, lays_of fun e he => h e (List.mem_cons_of_mem _ he)]; rfl
theorem depths_of {m : Nat} : ∀ {ds : List PyData}, (∀ d ∈ ds, d.depth ≤ m) → PyData.depthAll ds ≤ m
  | [], _ => by simp [PyData.depthAll]
  | d :: ds, h => by rw [PyData.depthAll]; exact Nat.max_le.mpr ⟨h d List.mem_cons_self, depths_of fun e he => h e (List.mem_cons_of_mem _ he)⟩
theorem shaped_srt {ds : List PyData} (h : ∀ d ∈ ds, d.canLay0 = true ∧ d.depth ≤ 50) : SeqAt.shaped (.list (srt ds)) = true := by
  have m : ∀ d ∈ srt ds, d ∈ ds := fun d hd => (List.mergeSort_perm ds _).mem_iff.mp hd
  unfold SeqAt.shaped
  rw [Bool.and_eq_true, decide_eq_true_eq]
  refine ⟨?_, ?_⟩
  · rw [PyData.canLay0]
    exact lays_of fun d hd => (h d (m d hd)).1
  · have := depths_of (m := 50) fun d hd => (h d (m d hd)).2
    simp only [PyData.depth]
    omega
theorem lt_small : LT.cps.toList.all (fun c => decide (c < 0x110000)) = true := by decide +kernel
theorem strOk_of {x : Str} (h : okName x = true) : PyData.strOk x = true := by
  unfold okName at h
  rw [Bool.and_eq_true] at h
  have h2 := h.2
  unfold okSigns at h2
  unfold PyData.strOk
  rw [← Array.all_toList, List.all_eq_true]
  intro c hc
  exact List.all_eq_true.mp lt_small c (of_decide_eq_true (List.all_eq_true.mp h2 c hc))
/-- names and ties of which all are well formed -/
def Good (ns : List Str) (ts : List (Str × Str)) : Prop := (∀ n ∈ ns, okName n = true) ∧ ∀ t ∈ ts, okName t.1 = true ∧ okName t.2 = true
theorem good_names {ns : List Str} {ts : List (Str × Str)} (g : Good ns ts) : ∀ d ∈ ns.map PyData.str, d.canLay0 = true ∧ d.depth ≤ 50 := fun d hd => by
  obtain ⟨n, hn, rfl⟩ := List.mem_map.mp hd
  exact ⟨by rw [PyData.canLay0]; exact strOk_of (g.1 n hn), by simp [PyData.depth]⟩
theorem good_pairs {ns : List Str} {ts : List (Str × Str)} (g : Good ns ts) : ∀ d ∈ ts.map pairD, d.canLay0 = true ∧ d.depth ≤ 50 := fun d hd => by
  obtain ⟨t, ht, rfl⟩ := List.mem_map.mp hd
  obtain ⟨h1, h2⟩ := g.2 t ht
  have e : PyData.strOk (pairP t).1 = true ∧ PyData.strOk (pairP t).2 = true := by
    unfold pairP pairS
    split
    · exact ⟨strOk_of h1, strOk_of h2⟩
    · exact ⟨strOk_of h2, strOk_of h1⟩
  refine ⟨?_, by simp [pairD, PyData.depth, PyData.depthAll]⟩
  unfold pairD
  rw [PyData.canLay0, PyData.canLayAll0, PyData.canLayAll0, PyData.canLayAll0, PyData.canLay0, PyData.canLay0, e.1, e.2]
  rfl
/-- what isinstance asks of the class -/
structure WI (K : PySem.W.Frag) (C : Addr) : Prop where
  ha : PySem.W.findIn K (.ref C) "__class__" = some (some (.builtin "object.__class__"))
  hn : PySem.W.specialIn K (.builtin "object.__class__") "__get__" = some (some (.builtin "getset_descriptor.__get__"))
  ht : PySem.W.takesIn K (.builtin "object.__class__") = some true
  hm : PySem.W.mroIn K C (.type "object") = some true
  kit : PySem.W.kitOne K (.ref C) (.ref C) = some true
/-- webs are alike in all that == looks at -/
def eqW (ns ms : List Str) (ts us : List (Str × Str)) : Bool := PyData.eqv (.list (srt (ns.map PyData.str))) (.list (srt (ms.map PyData.str))) && PyData.eqv (.list (srt (ts.map pairD))) (.list (srt (us.map pairD)))
def spEqW (K : PySem.W.Frag) (C : Addr) : Sp := fun vs H Q _ => ∃ (x y : Addr) (ns ms : List Str) (ts us : List (Str × Str)), vs = [.ref x, .ref y] ∧ WebAt K C H x ns ts ∧ WebAt K C H y ms us ∧ Good ns ts ∧ Good ms us ∧ Q (.bl (eqW ns ms ts us)) H
theorem eqW_self {ns : List Str} {ts : List (Str × Str)} (g : Good ns ts) : eqW ns ns ts ts = true := by
  unfold eqW
  rw [SeqAt.eqv_refl _ (SeqAt.canLay_of_shaped (shaped_srt (good_names g))), SeqAt.eqv_refl _ (SeqAt.canLay_of_shaped (shaped_srt (good_pairs g)))]
  rfl
section
variable {P : Program} {w : World} {K : PySem.W.Frag} {mg : Str → Option Value} {base : Heap} {C fa : Addr} {fd : FuncData}
abbrev sEqW : Stmt := inClass (top ix_Web) mx_Web_eq
theorem scEqW : FnScope ["self", "other"] ["self", "other"] (defScope sEqW) := ⟨rfl, rfl, rfl, by decide +kernel, rfl, by decide +kernel, by decide +kernel⟩
theorem ok_eq (T : Bn mg) (X : WC K C) (I : WI K C) (gW : mg "Web" = some (.ref C)) (F : Fun K "__eq__" "Web.__eq__" sEqW fa fd) : FnOk P w K mg base CX0 1 fa fd ["self", "other"] (spEqW K C) := by
  refine F.ok scEqW (fun vs H Q E h => ?_) (fun cdv A outer s H vs Q E hr h => ?_)
  · obtain ⟨x, y, ns, ms, ts, us, rfl, _⟩ := h; rfl
  · obtain ⟨x, y, ns, ms, ts, us, rfl, hw, hv, g1, g2, k⟩ := h
    have nd := scEqW.nd
    refine ⟨_, (pss_one (ps_ret (pe_and (pe_callB call_isi (by rfl) T.z_isinstance (by decide +kernel) (pa_cons (pv 1) (pa_cons (pe_ref rfl gW) pa_nil))) (pe_and (pe_cmpR (op_eqD hr.units) (pe_fld (pv 0) rfl) (pe_fld (pv 1) rfl) (by first | exact nomark _ | rfl)) (pe_one (pe_cmpR (op_eqD hr.units) (pe_fld (pv 0) rfl) (pe_fld (pv 1) rfl) (by first | exact nomark _ | rfl))))))), ?_⟩
    obtain ⟨⟨dx, tp, tt, sg, sn, sp, sq, rk, xs, hx, _, _, _, _, _, _, hsp, hsq⟩⟩ := hw
    obtain ⟨⟨dx2, tp2, tt2, sg2, sn2, sp2, sq2, rk2, xs2, hx2, _, _, _, _, _, _, hsp2, hsq2⟩⟩ := hv
    refine ⟨_, rfl, .ref y, .ref C, _, _, true, rfl, .own C, .base (.ins hx2 X.cls I.ha I.hn I.ht I.hm), I.kit, _, rfl, iteT ?_⟩
    refine ⟨_, rfl, x, C, dx, _, _, rfl, hx, X.cls, X.n6, rfl, _, rfl, y, C, dx2, _, _, rfl, hx2, X.cls, X.n6, rfl, _, _, hsp, hsp2, shaped_srt (good_names g1), shaped_srt (good_names g2), _, rfl, ?_⟩
    unfold eqW at k
    cases e : PyData.eqv (.list (srt (ns.map PyData.str))) (.list (srt (ms.map PyData.str))) with
    | false => rw [e] at k; exact iteF k
    | true =>
      rw [e, Bool.true_and] at k
      refine iteT ⟨_, rfl, x, C, dx, _, _, rfl, hx, X.cls, X.n7, rfl, _, rfl, y, C, dx2, _, _, rfl, hx2, X.cls, X.n7, rfl, _, _, hsq, hsq2, shaped_srt (good_pairs g1), shaped_srt (good_pairs g2), k⟩
end
end Pw

set_option Elab.async false
set_option linter.all false
set_option maxRecDepth 100000
set_option maxHeartbeats 4000000
namespace Pw
open PySem PySem.Spec PyProof.Rows L2 Ct
theorem Runs.sub {S : Str → List Str} {r w e : List Str} (h : Runs S r w e) : ∀ q ∈ r, q ∈ e := by
  induction h with
  | done => exact fun q z => z
  | @step r w e hh _ ih =>
    have grow : ∀ (ps r w : List Str), ∀ q ∈ r, q ∈ (visit r w ps).1 := by
      intro ps
      induction ps with
      | nil => exact fun r w q z => z
      | cons p ps ih2 =>
        intro r w q z
        unfold visit
        by_cases c : p ∈ r
        · rw [if_pos c]; exact ih2 r w q z
        · rw [if_neg c]; exact ih2 _ _ q (List.mem_append_left _ z)
    exact fun q z => ih q (grow _ _ _ q z)
/-- the parts, from what is left -/
inductive PartsR (S : Str → List Str) (ns : List Str) : List Str → List (List Str) → Prop
  | nil : PartsR S ns [] []
  | cons {p : Str} {left e : List Str} {rest : List (List Str)} : Runs S [p] [p] e → PartsR S ns ((p :: left).filter fun q => !decide (q ∈ ns.filter fun q => decide (q ∈ e))) rest → PartsR S ns (p :: left) ((ns.filter fun q => decide (q ∈ e)) :: rest)
theorem PartsR.det {S : Str → List Str} {ns left : List Str} {a : List (List Str)} (h : PartsR S ns left a) : ∀ {b : List (List Str)}, PartsR S ns left b → a = b := by
  induction h with
  | nil => intro b h; cases h; rfl
  | cons r _ ih =>
    intro b h
    cases h with
    | cons r2 h2 =>
      obtain rfl := r.det r2
      rw [ih h2]
/-- a row of lists of texts, each at its place -/
abbrev RowAt (H : Hp) : List V → List (List Str) → Prop := Paired fun x l => ∃ a, x = .ref a ∧ H a = some (.lst (l.map V.str))
theorem RowAt.same {H H' : Hp} (s : Same H H') : ∀ {xs : List V} {ls : List (List Str)}, RowAt H xs ls → RowAt H' xs ls
  | _, _, .nil => .nil
  | _, _, .cons ⟨a, e, h⟩ t => .cons ⟨a, e, s _ _ h⟩ (RowAt.same s t)
/-- the same, none of them at F -/
abbrev RowO (F : Addr) (H : Hp) : List V → List (List Str) → Prop := Paired fun x l => ∃ a, x = .ref a ∧ a ≠ F ∧ H a = some (.lst (l.map V.str))
theorem RowO.row {F : Addr} {H : Hp} : ∀ {xs : List V} {ls : List (List Str)}, RowO F H xs ls → RowAt H xs ls
  | _, _, .nil => .nil
  | _, _, .cons ⟨a, e, _, h⟩ t => .cons ⟨a, e, h⟩ (RowO.row t)
theorem RowO.off {F : Addr} {H H' : Hp} (s : ∀ b o, b ≠ F → H b = some o → H' b = some o) : ∀ {xs : List V} {ls : List (List Str)}, RowO F H xs ls → RowO F H' xs ls
  | _, _, .nil => .nil
  | _, _, .cons ⟨a, e, n, h⟩ t => .cons ⟨a, e, n, s _ _ n h⟩ (RowO.off s t)
theorem RowO.snoc {F : Addr} {H : Hp} {a : Addr} {l : List Str} (n : a ≠ F) (h : H a = some (.lst (l.map V.str))) : ∀ {xs : List V} {ls : List (List Str)}, RowO F H xs ls → RowO F H (xs ++ [.ref a]) (ls ++ [l])
  | _, _, .nil => .cons ⟨a, rfl, n, h⟩ .nil
  | _, _, .cons x t => .cons x (RowO.snoc n h t)
theorem WebAt.same {K : PySem.W.Frag} {C : Addr} {H H' : Hp} {x : Addr} {ns : List Str} {ts : List (Str × Str)} (s : Same H H') : WebAt K C H x ns ts → WebAt K C H' x ns ts
  | ⟨⟨dx, tp, tt, sg, sn, sp, sq, rk, xs, h1, h2, h3, h4, h5, h6, h7, h8, h9⟩⟩ => ⟨⟨dx, tp, tt, sg, sn, sp, sq, rk, xs, s _ _ h1, same_t s h2, same_t s h3, h4.same s, same_t s h5, (SameD.of s).map h6, h7.same s, (SameD.of s).dp h8, (SameD.of s).dp h9⟩⟩
def muL (σ : List (Option V)) (H : Hp) : Nat := match σ[2]? with
  | some (some (V.ref a)) => lenD (H a)
  | _ => 0
def spParts (C : Addr) (K : PySem.W.Frag) : Sp := fun vs H Q _ => ∃ (x : Addr) (ns : List Str) (ts : List (Str × Str)), vs = [.ref x] ∧ WebAt K C H x ns ts ∧ ns.length ≤ 100 ∧
  ∀ ls, PartsR (seenOf ns ts) ns ns ls → ∀ l xs H', Same H H' → H l = none → H' l = some (.lst xs) → RowAt H' xs ls → (∀ v ∈ xs, ∃ a, v = .ref a ∧ H a = none) → Q (.ref l) H'
section
variable {P : Program} {w : World} {K : PySem.W.Frag} {mg : Str → Option Value} {base : Heap} {C fa : Addr} {fd : FuncData}
abbrev sParts : Stmt := inClass (top ix_Web) mx_Web_parts
theorem scParts : FnScope ["self", "found", "left", "part", "place"] ["self"] (defScope sParts) := ⟨rfl, rfl, rfl, by decide +kernel, rfl, by decide +kernel, by decide +kernel⟩
theorem ok_parts (T : Bn mg) (X : WC K C) (F : Fun K "parts" "Web.parts" sParts fa fd) (h_part_of : HasM P w K mg base CX0 1 C "_part_of" ["self", "start"] (spPartOf K C)) : FnOk P w K mg base CX0 2 fa fd ["self"] (spParts C K) := by
  refine F.ok scParts (fun vs H Q E h => ?_) (fun cdv A outer s H vs Q E hr h => ?_)
  · obtain ⟨x, ns, ts, rfl, _⟩ := h; rfl
  · obtain ⟨x, ns, ts, rfl, hw, hl, k⟩ := h
    have nd := scParts.nd
    refine ⟨_, (pss_cons (ps_sv 1 nd (pe_lst pa_nil))
    (pss_cons (ps_sv 2 nd (pe_callTy call_list_of (by rfl) T.z_list (by decide +kernel) (pa_cons (pe_fld (pv 0) rfl) pa_nil)))
    (pss_cons (ps_while PassesOwn.never (pt_truth (pv 2) (by intro _; rfl)) (pss_cons (ps_sv 3 nd (pe_hM h_part_of X.cls hr (by decide) (pv 0) (pa_cons (pe_ix ix_list (pv 2) pe_int (fun _ _ => rfl)) pa_nil)))
    (pss_cons (ps_expr (pe_bm PySem.F.plainAttrs_list PySem.F.slot_list_append PySem.F.type_list_append mt_append (pv 1) (pa_cons (pv 3) pa_nil)))
    (pss_one (ps_setLc (i := 2) (own := [("place", 4)]) (g := gName 4) rfl nd rfl rfl (sw_true rfl rfl rfl (by decide +kernel)) (pi_list (pv 2)) (blkOk_by (own := [("place", 4)]) (N := ["self", "found", "left", "part", "place"]) (sc := defScope sParts) (by decide +kernel)) (fun _ _ _ _ _ => (pg_name (i := 4) nd rfl (by first | exact Or.inl rfl | exact Or.inr rfl))) (fun _ _ _ _ _ => (pts_one (pt_cmpR (op_notIn_seqk (K := K) rfl) (pv 4) (pv 3) (by first | exact nomark _ | rfl)))) (fun _ _ _ _ _ => (pv 4)))))))
    (pss_one (ps_ret (pv 1)))))), ?_⟩
    obtain ⟨⟨dx, tp, tt, sg, sn, sp, sq, rk, xs, hx, htp, hrest⟩⟩ := id hw
    have fresh : ∀ {H2 : Hp}, Same H H2 → ∀ {e : Addr}, H2 e = none → H e = none := fun {H2} s2 {e} he => by
      cases q : H e with
      | none => rfl
      | some o => rw [s2 e o q] at he; cases he
    refine ⟨Nat.zero_le _, fun Fd nF => ?_⟩
    have s1 := same_new (o := .lst []) nF
    have hF1 : upd H Fd (.lst []) Fd = some (.lst []) := upd_same
    generalize upd H Fd (.lst []) = H1 at s1 hF1 ⊢
    refine ⟨_, rfl, x, C, dx, _, _, rfl, s1 _ _ hx, X.cls, X.n1, rfl, tp, _, rfl, .inr (same_t s1 htp), fun L0 nL0 => ?_⟩
    have s2 := s1.trans (same_new (o := .lst (ns.map V.str)) nL0)
    have hF2 := same_new (o := .lst (ns.map V.str)) nL0 _ _ hF1
    have hL2 : upd H1 L0 (.lst (ns.map V.str)) L0 = some (.lst (ns.map V.str)) := upd_same
    have nLF : L0 ≠ Fd := fun z => by rw [z, hF1] at nL0; cases nL0
    generalize upd H1 L0 (.lst (ns.map V.str)) = H2 at s2 hF2 hL2 ⊢
    dsimp only [gName, tSeq]
    refine while_by (fun σ H' => Same H H' ∧ ∃ (L : Addr) (left : List Str) (xs : List V) (done : List (List Str)) (u v : Option V), σ = [some (.ref x), some (.ref Fd), some (.ref L), u, v] ∧ L ≠ Fd ∧ H' Fd = some (.lst xs) ∧ RowO Fd H' xs done ∧ (∀ v ∈ xs, ∃ a, v = .ref a ∧ H a = none) ∧ H' L = some (.lst (left.map V.str)) ∧ (∀ q ∈ left, q ∈ ns) ∧ xs.length + left.length ≤ 100 ∧ ∀ rest, PartsR (seenOf ns ts) ns left rest → PartsR (seenOf ns ts) ns ns (done ++ rest)) muL ?_ ?_ ?_
    · exact ⟨s2, L0, ns, [], [], _, _, rfl, nLF, hF2, .nil, (fun _ z => nomatch z), hL2, fun q z => z, by simpa using hl, fun r z => z⟩
    · rintro σ H3 ⟨s3, L, left, xs, done, u, v, rfl, LF, hF3, hR3, fr3, hL3, ln, few, run⟩
      cases left with
      | nil =>
        refine ⟨_, rfl, false, .inl ⟨_, SqL.of hL3, rfl⟩, iteF ?_⟩
        have hr := run [] .nil
        rw [List.append_nil] at hr
        exact ⟨_, rfl, k done hr Fd xs H3 s3 nF hF3 hR3.row fr3⟩
      | cons p left =>
        have hpn := ln p List.mem_cons_self
        have mu3 : muL [some (.ref x), some (.ref Fd), some (.ref L), u, v] H3 = left.length + 1 := by
          show lenD (H3 L) = _
          rw [hL3]
          show ((p :: left).map V.str).length = _
          simp
        refine ⟨_, rfl, true, .inl ⟨_, SqL.of hL3, rfl⟩, iteT ?_⟩
        refine ⟨_, rfl, x, dx, _, rfl, s3 _ _ hx, rfl, _, rfl, L, _, 0, .str p, rfl, rfl, SqL.of hL3, (show atI _ ((0 : Nat) : Int) = some (V.str p) from atI_nat rfl), x, p, ns, ts, rfl, hw.same s3, hpn, hl, fun e re l H4 s4 nl hl4 => ?_⟩
        have lF : l ≠ Fd := fun z => by rw [z, hF3] at nl; cases nl
        have hF4 := s4 _ _ hF3
        have hL4 := s4 _ _ hL3
        have hR4 : RowO Fd H4 xs done := hR3.off fun b o _ h => s4 b o h
        have s5 := s3.trans s4
        rw [List.length_cons] at few
        refine ⟨_, rfl, .inl ⟨rfl, _, SqL.of hF4⟩, _, rfl, Fd, _, _, rfl, rfl, hF4, by rw [sizeLine_eq]; omega, ?_⟩
        have s6 : Same H (upd H4 Fd (.lst (xs ++ [.ref l]))) := same_upd s5 nF
        have hF6 : upd H4 Fd (.lst (xs ++ [.ref l])) Fd = some (.lst (xs ++ [.ref l])) := upd_same
        have hR6 : RowO Fd (upd H4 Fd (.lst (xs ++ [.ref l]))) (xs ++ [.ref l]) (done ++ [ns.filter fun q => decide (q ∈ e)]) := RowO.snoc lF (by rw [upd_ne lF]; exact hl4) (hR4.off fun b o n h => by rw [upd_ne n]; exact h)
        have hL6 : upd H4 Fd (.lst (xs ++ [.ref l])) L = some (.lst ((p :: left).map V.str)) := by rw [upd_ne LF]; exact hL4
        have hl6 : upd H4 Fd (.lst (xs ++ [.ref l])) l = some (.lst ((ns.filter fun q => decide (q ∈ e)).map V.str)) := by rw [upd_ne lF]; exact hl4
        generalize upd H4 Fd (.lst (xs ++ [.ref l])) = H6 at s6 hF6 hR6 hL6 hl6 ⊢
        refine ⟨_, rfl, L, rfl, ⟨_, SqL.of hL6⟩, fun N nN => ?_⟩
        refine lc_it walk_list (fun i H' => Same H6 H' ∧ H' N = some (.lst ((((p :: left).take i).filter fun q => !decide (q ∈ ns.filter fun q => decide (q ∈ e))).map V.str))) ⟨same_new nN, upd_same⟩ (fun i H' _ q => q.1.seq (SqL.of hL6)) ?_ ?_
        · rintro i y H7 H8 hi ⟨s7, hN⟩ ⟨rfl, hyi⟩
          obtain ⟨q, hq, rfl⟩ : ∃ q, (p :: left)[i]? = some q ∧ y = .str q := by
            rw [List.getElem?_map] at hyi
            cases e : (p :: left)[i]? with
            | none => rw [e] at hyi; cases hyi
            | some q => rw [e] at hyi; exact ⟨q, rfl, (Option.some.inj hyi).symm⟩
          refine ⟨rfl, _, rfl, _, rfl, l, _, rfl, .inl (SqL.of (s7 _ _ hl6)), rfl, flat_strs _, ?_⟩
          rw [if_pos rfl, in_strs]
          have step : ((p :: left).take (i + 1)).filter (fun q => !decide (q ∈ ns.filter fun q => decide (q ∈ e))) = ((p :: left).take i).filter (fun q => !decide (q ∈ ns.filter fun q => decide (q ∈ e))) ++ (if (!decide (q ∈ ns.filter fun q => decide (q ∈ e))) = true then [q] else []) := by
            rw [List.take_succ, hq, List.filter_append]
            exact congrArg _ (filter_one _ q)
          refine ⟨_, rfl, ite2 (fun c => ?_) (fun c => ?_)⟩
          · refine ⟨_, rfl, _, hN, ?_, same_upd s7 nN, ?_⟩
            · rw [List.length_map, sizeLine_eq]
              have := List.length_filter_le (fun q => !decide (q ∈ ns.filter fun q => decide (q ∈ e))) ((p :: left).take i)
              have := List.length_take_le i (p :: left)
              have : i < (p :: left).length := (List.getElem?_eq_some_iff.mp hq).1
              rw [List.length_cons] at this
              omega
            · rw [upd_same, step, if_pos c, List.map_append]
              rfl
          · refine ⟨s7, ?_⟩
            rw [step, if_neg c, List.append_nil]
            exact hN
        · rintro H7 ⟨s7, hN⟩
          rw [List.length_map, List.take_length] at hN
          have pin : p ∈ ns.filter fun q => decide (q ∈ e) := List.mem_filter.mpr ⟨hpn, decide_eq_true (re.sub p (List.mem_singleton.mpr rfl))⟩
          have less : ((p :: left).filter fun q => !decide (q ∈ ns.filter fun q => decide (q ∈ e))).length ≤ left.length := by
            rw [List.filter_cons_of_neg (by rw [decide_eq_true pin]; decide)]
            exact List.length_filter_le _ _
          have NF : N ≠ Fd := fun z => by rw [z, hF6] at nN; cases nN
          refine ⟨⟨s6.trans s7, N, _, _, _, _, _, rfl, NF, s7 _ _ hF6, hR6.off (fun b o _ h => s7 b o h), (fun v hv => (List.mem_append.mp hv).elim (fr3 v) fun z => ⟨l, List.mem_singleton.mp z, fresh s3 nl⟩), hN, fun q z => ln q (List.mem_filter.mp z).1, ?_, fun rest z => ?_⟩, ?_⟩
          · rw [List.length_append]
            simp only [List.length_cons, List.length_nil]
            omega
          · rw [List.append_assoc]
            exact run _ (.cons re z)
          · rw [mu3]
            show lenD (H7 N) < _
            rw [hN]
            show (List.map V.str _).length < _
            rw [List.length_map]
            omega
    · rintro σ H' Q Q' m ⟨v, e, b, t, q⟩
      exact ⟨v, e, b, t, m _ _ q⟩
end
end Pw

set_option Elab.async false
set_option linter.all false
set_option maxRecDepth 100000
set_option maxHeartbeats 4000000
namespace Pw
open PySem PySem.Spec PyProof.Rows L2 Ct
local macro_rules | `(tactic| wide_line) => `(tactic| repeat ((fail_if_success (with_reducible refine at_while ?_)); (fail_if_success (with_reducible refine at_while1 ?_)); (conv => whnf); first | ((with_reducible refine And.intro ?_ ?_); focus (first | (first | ((with_reducible show (_ : Nat) ≤ _); first | exact sz0 | exact sz1 | exact sz2 | exact sz3 | exact sz4 | exact sz5 | exact sz6 | exact sz7 | exact sz8 | exact sz10 | exact sz11 | exact sz12 | exact sz14 | omega | decide | (simp only [List.length_cons, List.length_nil]; omega)) | ((with_reducible show (_ : Int) ≤ _); first | omega | decide) | ((with_reducible show (_ : Int) < _); first | omega | decide) | ((with_reducible show (_ : Nat) < _); omega)) | ((fail_if_success (with_reducible show (_ : Nat) ≤ _)); (fail_if_success (with_reducible show (_ : Int) ≤ _)); (fail_if_success (with_reducible show (_ : Int) < _)); (fail_if_success (with_reducible show (_ : Nat) < _)); first | exact kv_str _ | exact kv_int _ | rfl | assumption | exact flat_strs _ | exact Lv.get (by assumption) 0 rfl | exact Lv.get (by assumption) 1 rfl | exact Lv.get (by assumption) 2 rfl | exact Lv.get (by assumption) 3 rfl | exact Lv.get (by assumption) 4 rfl | exact Lv.get (by assumption) 5 rfl | exact Lv.get (by assumption) 6 rfl | exact SqL.of (Lv.get (by assumption) 0 rfl) | exact SqL.of (Lv.get (by assumption) 1 rfl) | exact SqL.of (Lv.get (by assumption) 2 rfl) | exact SqL.of (Lv.get (by assumption) 3 rfl) | exact SqL.of (Lv.get (by assumption) 4 rfl) | exact SqL.of (Lv.get (by assumption) 5 rfl) | exact Or.inl (SqL.of (Lv.get (by assumption) 0 rfl)) | exact Or.inl (SqL.of (Lv.get (by assumption) 1 rfl)) | exact Or.inl (SqL.of (Lv.get (by assumption) 2 rfl)) | exact Or.inl (SqL.of (Lv.get (by assumption) 3 rfl)) | exact Or.inl (SqL.of (Lv.get (by assumption) 4 rfl)) | exact Or.inl (SqL.of (Lv.get (by assumption) 5 rfl)) | exact ⟨_, SqL.of (Lv.get (by assumption) 0 rfl)⟩ | exact ⟨_, SqL.of (Lv.get (by assumption) 1 rfl)⟩ | exact ⟨_, SqL.of (Lv.get (by assumption) 2 rfl)⟩ | exact ⟨_, SqL.of (Lv.get (by assumption) 3 rfl)⟩ | exact ⟨_, SqL.of (Lv.get (by assumption) 4 rfl)⟩ | exact ⟨_, SqL.of (Lv.get (by assumption) 5 rfl)⟩ | exact Or.inl ⟨_, SqL.of (Lv.get (by assumption) 0 rfl), rfl⟩ | exact Or.inl ⟨_, SqL.of (Lv.get (by assumption) 1 rfl), rfl⟩ | exact Or.inl ⟨_, SqL.of (Lv.get (by assumption) 2 rfl), rfl⟩ | exact Or.inl ⟨_, SqL.of (Lv.get (by assumption) 3 rfl), rfl⟩ | exact Or.inl ⟨_, SqL.of (Lv.get (by assumption) 4 rfl), rfl⟩ | exact Or.inl ⟨_, SqL.of (Lv.get (by assumption) 5 rfl), rfl⟩ | exact Or.inl ⟨rfl, _, SqL.of (Lv.get (by assumption) 0 rfl)⟩ | exact Or.inl ⟨rfl, _, SqL.of (Lv.get (by assumption) 1 rfl)⟩ | exact Or.inl ⟨rfl, _, SqL.of (Lv.get (by assumption) 2 rfl)⟩ | exact Or.inl ⟨rfl, _, SqL.of (Lv.get (by assumption) 3 rfl)⟩ | exact Or.inl ⟨rfl, _, SqL.of (Lv.get (by assumption) 4 rfl)⟩ | exact Or.inl ⟨rfl, _, SqL.of (Lv.get (by assumption) 5 rfl)⟩ | exact Or.inr (SqT.of (Lv.get (by assumption) 0 rfl)) | exact Or.inr (SqT.of (Lv.get (by assumption) 1 rfl)) | exact Or.inr (SqT.of (Lv.get (by assumption) 2 rfl)) | exact Or.inr (SqT.of (Lv.get (by assumption) 3 rfl)) | exact SqT.of (Lv.get (by assumption) 0 rfl) | exact SqT.of (Lv.get (by assumption) 1 rfl) | exact SqT.of (Lv.get (by assumption) 2 rfl) | exact dgetN (Lv.get (by assumption) 0 rfl) (by assumption) | exact dgetN (Lv.get (by assumption) 1 rfl) (by assumption) | exact dgetN (Lv.get (by assumption) 2 rfl) (by assumption) | exact dgetN (Lv.get (by assumption) 3 rfl) (by assumption) | exact dgetN (Lv.get (by assumption) 4 rfl) (by assumption) | decide | ((with_reducible show _ ∧ _); omega)))) | ((fail_if_success (with_reducible apply @Exists.intro (Nat → _))); (with_reducible apply Exists.intro))))
local macro_rules
  | `(tactic| wide_line with al $lv:ident $l:ident $nl:ident $H:ident $lv1:ident $s1:ident) => `(tactic| (intro $l:ident $nl:ident; generalize he : upd _ _ _ = $H:ident; have $lv1:ident := Lv.alE $lv $nl he; have $s1:ident := sameE $nl he; clear he; (try dsimp only at $lv1:ident)))
  | `(tactic| wide_line with alx $lv:ident $nl:ident $H:ident $lv1:ident $s1:ident) => `(tactic| (generalize he : upd _ _ _ = $H:ident; have $lv1:ident := Lv.alE $lv $nl he; have $s1:ident := sameE $nl he; clear he; (try dsimp only at $lv1:ident)))
  | `(tactic| wide_line with sts $lv:ident $i:num $H:ident $lv1:ident $s0:ident $np:ident $s1:ident) => `(tactic| (generalize he : upd _ _ _ = $H:ident; have $lv1:ident := Lv.stE $lv $i rfl he; have $s1:ident := sameN $s0 $np he; clear he; (try dsimp only at $lv1:ident)))
  | `(tactic| wide_line with stx $lv:ident $H:ident $lv1:ident $d1:ident) => `(tactic| (generalize he : upd _ _ _ = $H:ident; have $lv1:ident := Lv.stE $lv 0 rfl he; have $d1:ident := SameD.storeE (Lv.get $lv 0 rfl) he; clear he; (try dsimp only at $lv1:ident)))
  | `(tactic| wide_line with st $lv:ident $i:num $H:ident $lv1:ident) => `(tactic| (generalize he : upd _ _ _ = $H:ident; have $lv1:ident := Lv.stE $lv $i rfl he; clear he; (try dsimp only at $lv1:ident)))
  | `(tactic| wide_line with stk $lv:ident $i:num $H:ident $lv1:ident $k1:ident) => `(tactic| (generalize he : upd _ _ _ = $H:ident; have $lv1:ident := Lv.stE $lv $i rfl he; have $k1:ident := KeepT.st (Lv.get $lv $i rfl) he; clear he; (try dsimp only at $lv1:ident)))
/-- the datum is a list of different names -/
def placesIn (ns : List Str) : PyData → Bool
  | .list ds => ds.all (fun d => amid d ns) && decide (strsD ds).Nodup
  | _ => false
theorem amids_of {K : PySem.W.Frag} {H : Hp} {ns : List Str} : ∀ {xs : List V} {ds : List PyData}, DqAll K H xs ds → ds.all (fun d => amid d ns) = true → xs = (strsD ds).map V.str ∧ (strsD ds).length = ds.length ∧ ∀ q ∈ strsD ds, q ∈ ns
  | _, _, .nil, _ => ⟨rfl, rfl, fun q h => by cases h⟩
  | _, _, .cons (d := d) h t, n => by
    rw [List.all_cons, Bool.and_eq_true] at n
    obtain ⟨e1, e2, e3⟩ := amids_of t n.2
    cases d with
    | str x =>
      cases h
      refine ⟨by rw [e1]; rfl, by show (strsD _).length + 1 = _ + 1; rw [e2], fun q hq => ?_⟩
      rcases List.mem_cons.mp (show q ∈ x :: strsD _ from hq) with z | z
      · rw [z]; exact amid_str.mp n.1
      · exact e3 q z
    | _ => exact absurd n.1 Bool.false_ne_true
theorem noDicts_at : ∀ {ds : List PyData}, noDicts ds = true → ∀ d ∈ ds, noDict d = true
  | [], _, _, h => by cases h
  | e :: ds, n, d, h => by
    rw [noDicts, Bool.and_eq_true] at n
    rcases List.mem_cons.mp h with rfl | h
    · exact n.1
    · exact noDicts_at n.2 d h
theorem dqAll_len {K : PySem.W.Frag} {H : Hp} : ∀ {xs : List V} {ds : List PyData}, DqAll K H xs ds → xs.length = ds.length
  | _, _, .nil => rfl
  | _, _, .cons _ t => congrArg (· + 1) (dqAll_len t)
/-- are_places(web, value) -/
def spArePlaces (K : PySem.W.Frag) (C : Addr) : Sp := fun vs H Q _ => ∃ (x : Addr) (v : V) (ns : List Str) (ts : List (Str × Str)) (d : PyData), vs = [.ref x, v] ∧ WebAt K C H x ns ts ∧ Dq K H v d ∧ (∀ ds, d = .list ds → ds.length ≤ 4000) ∧ ∀ H', Same H H' → Q (.bl (placesIn ns d)) H'
section
variable {P : Program} {w : World} {K : PySem.W.Frag} {mg : Str → Option Value} {base : Heap} {C fa : Addr} {fd : FuncData}
abbrev sArePlaces : Stmt := top ix_are_places
theorem scArePlaces : FnScope ["web", "value", "place"] ["web", "value"] (defScope sArePlaces) := ⟨rfl, rfl, rfl, by decide +kernel, rfl, by decide +kernel, by decide +kernel⟩
theorem has_are_places (T : Bn mg) (D : DFE K mg "are_places" sArePlaces ["web", "value"]) (h_is_place : Has P w K mg base CX0 3 "is_place" ["web", "value"] (spIsPlace K C)) (h_all_differ : Has P w K mg base CX0 1 "_all_differ" ["names"] (spAllDiffer K)) : Has P w K mg base CX0 4 "are_places" ["web", "value"] (spArePlaces K C) := by
  refine has_of D scArePlaces (fun vs H Q E h => ?_) (fun f cdv A outer s H vs Q E hr h => ?_)
  · obtain ⟨x, v, ns, ts, d, rfl, _⟩ := h; rfl
  · obtain ⟨x, v, ns, ts, d, rfl, hw, hd, hn, k⟩ := h
    have nd := scArePlaces.nd
    refine ⟨_, (pss_cons (ps_if (PW.pt (pw_or (pt_not (pt_val (pe_callB call_isD (by rfl) T.z_isinstance (by decide +kernel) (pa_cons (pv 1) (pa_cons (pe_bltn (v := .ty "list") rfl T.z_list (by decide +kernel) rfl) pa_nil))))) (pw_or1 (pt_not (pt_val (pe_callB (cr_all rfl) (by rfl) T.z_all (by decide +kernel) (pa_cons (pe_lc (own := [("place", 2)]) (g := gName 2) (tt := tYes) rfl nd (pi_sq (pv 1)) (blkOk_by (own := [("place", 2)]) (N := ["web", "value", "place"]) (sc := defScope sArePlaces) (by decide +kernel)) (fun _ _ _ _ _ => (pg_name (i := 2) nd rfl (by first | exact Or.inl rfl | exact Or.inr rfl))) (fun _ _ _ _ _ => pts_nil) (fun _ _ _ _ _ => (pe_h h_is_place hr (by decide) rfl (pa_cons (pv 0) (pa_cons (pv 2) pa_nil))))) pa_nil))))))) (pss_one (ps_ret pe_bl)) pss_nil)
    (pss_one (ps_ret (pe_h h_all_differ hr (by decide) rfl (pa_cons (pv 1) pa_nil))))), ?_⟩
    refine ⟨_, rfl, _, d, "list", _, rfl, hd, kit_list d, _, rfl, ?_⟩
    cases hd with
    | @lst a xs ds hs ha =>
      have n2 := hn ds rfl
      refine iteF ⟨_, rfl, a, xs, rfl, .inl hs, fun J G ex hG wk L nL => ?_⟩
      refine lc_it wk (fun i H2 => Same H H2 ∧ ∃ bs : List Bool, H2 L = some (.lst (bs.map V.bl)) ∧ bs = (ds.take i).map fun d => amid d ns) ⟨same_new nL, [], upd_same, rfl⟩ (fun i H2 _ p => hG H2 (.same p.1)) ?_ ?_
      · rintro i y H2 H3 hi ⟨sm, bs, hL, hb⟩ ⟨rfl, hyi⟩
        obtain ⟨dx, hdx, hqx⟩ := dqAll_at ha hyi
        refine ⟨rfl, _, rfl, _, rfl, x, y, ns, ts, dx, rfl, hw.same sm, Dq.same sm hqx, ?_⟩
        refine ⟨bs.map V.bl, hL, ?_, same_upd sm nL, bs ++ [amid dx ns], by rw [upd_same, List.map_append]; rfl, by rw [hb, List.take_succ, hdx]; simp⟩
        rw [List.length_map, hb, List.length_map, sizeLine_eq]
        have := List.length_take_le i ds
        have := (List.getElem?_eq_some_iff.mp hdx).1
        omega
      · rintro H2 ⟨sm, bs, hL, hb⟩
        refine ⟨L, bs, rfl, SqL.of hL, _, rfl, ?_⟩
        rw [dqAll_len ha, List.take_length] at hb
        have eb : bs.all id = ds.all fun d => amid d ns := by rw [hb, List.all_map]; rfl
        rw [eb]
        have kk : ∀ H', Same H H' → Q (.bl (ds.all (fun d => amid d ns) && decide (strsD ds).Nodup)) H' := k
        have k2 := kk H2 sm
        cases al : ds.all (fun d => amid d ns) with
        | false => rw [al] at k2; exact iteT k2
        | true =>
          obtain ⟨e1, e2, _⟩ := amids_of ha al
          refine iteF ?_
          subst e1
          refine ⟨_, rfl, a, strsD ds, rfl, .inl (sm.seq hs), by omega, fun H3 s3 => ⟨fun c => ?_, fun c => ?_⟩⟩
          · have k3 := kk H3 (sm.trans s3)
            rw [al, Bool.true_and, decide_eq_true c] at k3
            exact k3
          · have k3 := kk H3 (sm.trans s3)
            rw [al, Bool.true_and, decide_eq_false c] at k3
            exact k3
    | _ => exact iteT (iteT (k H (Same.refl H)))
end
end Pw

set_option Elab.async false
set_option linter.all false
set_option maxRecDepth 100000
set_option maxHeartbeats 4000000
namespace Pw
open PySem PySem.Spec PyProof.Rows L2 Ct
local macro_rules | `(tactic| wide_line) => `(tactic| repeat ((fail_if_success (with_reducible refine at_while ?_)); (fail_if_success (with_reducible refine at_while1 ?_)); (conv => whnf); first | ((with_reducible refine And.intro ?_ ?_); focus (first | (first | ((with_reducible show (_ : Nat) ≤ _); first | exact sz0 | exact sz1 | exact sz2 | exact sz3 | exact sz4 | exact sz5 | exact sz6 | exact sz7 | exact sz8 | exact sz10 | exact sz11 | exact sz12 | exact sz14 | omega | decide | (simp only [List.length_cons, List.length_nil]; omega)) | ((with_reducible show (_ : Int) ≤ _); first | omega | decide) | ((with_reducible show (_ : Int) < _); first | omega | decide) | ((with_reducible show (_ : Nat) < _); omega)) | ((fail_if_success (with_reducible show (_ : Nat) ≤ _)); (fail_if_success (with_reducible show (_ : Int) ≤ _)); (fail_if_success (with_reducible show (_ : Int) < _)); (fail_if_success (with_reducible show (_ : Nat) < _)); first | exact kv_str _ | exact kv_int _ | rfl | assumption | exact flat_strs _ | exact Lv.get (by assumption) 0 rfl | exact Lv.get (by assumption) 1 rfl | exact Lv.get (by assumption) 2 rfl | exact Lv.get (by assumption) 3 rfl | exact Lv.get (by assumption) 4 rfl | exact Lv.get (by assumption) 5 rfl | exact Lv.get (by assumption) 6 rfl | exact SqL.of (Lv.get (by assumption) 0 rfl) | exact SqL.of (Lv.get (by assumption) 1 rfl) | exact SqL.of (Lv.get (by assumption) 2 rfl) | exact SqL.of (Lv.get (by assumption) 3 rfl) | exact SqL.of (Lv.get (by assumption) 4 rfl) | exact SqL.of (Lv.get (by assumption) 5 rfl) | exact Or.inl (SqL.of (Lv.get (by assumption) 0 rfl)) | exact Or.inl (SqL.of (Lv.get (by assumption) 1 rfl)) | exact Or.inl (SqL.of (Lv.get (by assumption) 2 rfl)) | exact Or.inl (SqL.of (Lv.get (by assumption) 3 rfl)) | exact Or.inl (SqL.of (Lv.get (by assumption) 4 rfl)) | exact Or.inl (SqL.of (Lv.get (by assumption) 5 rfl)) | exact ⟨_, SqL.of (Lv.get (by assumption) 0 rfl)⟩ | exact ⟨_, SqL.of (Lv.get (by assumption) 1 rfl)⟩ | exact ⟨_, SqL.of (Lv.get (by assumption) 2 rfl)⟩ | exact ⟨_, SqL.of (Lv.get (by assumption) 3 rfl)⟩ | exact ⟨_, SqL.of (Lv.get (by assumption) 4 rfl)⟩ | exact ⟨_, SqL.of (Lv.get (by assumption) 5 rfl)⟩ | exact Or.inl ⟨_, SqL.of (Lv.get (by assumption) 0 rfl), rfl⟩ | exact Or.inl ⟨_, SqL.of (Lv.get (by assumption) 1 rfl), rfl⟩ | exact Or.inl ⟨_, SqL.of (Lv.get (by assumption) 2 rfl), rfl⟩ | exact Or.inl ⟨_, SqL.of (Lv.get (by assumption) 3 rfl), rfl⟩ | exact Or.inl ⟨_, SqL.of (Lv.get (by assumption) 4 rfl), rfl⟩ | exact Or.inl ⟨_, SqL.of (Lv.get (by assumption) 5 rfl), rfl⟩ | exact Or.inl ⟨rfl, _, SqL.of (Lv.get (by assumption) 0 rfl)⟩ | exact Or.inl ⟨rfl, _, SqL.of (Lv.get (by assumption) 1 rfl)⟩ | exact Or.inl ⟨rfl, _, SqL.of (Lv.get (by assumption) 2 rfl)⟩ | exact Or.inl ⟨rfl, _, SqL.of (Lv.get (by assumption) 3 rfl)⟩ | exact Or.inl ⟨rfl, _, SqL.of (Lv.get (by assumption) 4 rfl)⟩ | exact Or.inl ⟨rfl, _, SqL.of (Lv.get (by assumption) 5 rfl)⟩ | exact Or.inr (SqT.of (Lv.get (by assumption) 0 rfl)) | exact Or.inr (SqT.of (Lv.get (by assumption) 1 rfl)) | exact Or.inr (SqT.of (Lv.get (by assumption) 2 rfl)) | exact Or.inr (SqT.of (Lv.get (by assumption) 3 rfl)) | exact SqT.of (Lv.get (by assumption) 0 rfl) | exact SqT.of (Lv.get (by assumption) 1 rfl) | exact SqT.of (Lv.get (by assumption) 2 rfl) | exact dgetN (Lv.get (by assumption) 0 rfl) (by assumption) | exact dgetN (Lv.get (by assumption) 1 rfl) (by assumption) | exact dgetN (Lv.get (by assumption) 2 rfl) (by assumption) | exact dgetN (Lv.get (by assumption) 3 rfl) (by assumption) | exact dgetN (Lv.get (by assumption) 4 rfl) (by assumption) | decide | ((with_reducible show _ ∧ _); omega)))) | ((fail_if_success (with_reducible apply @Exists.intro (Nat → _))); (with_reducible apply Exists.intro))))
local macro_rules
  | `(tactic| wide_line with al $lv:ident $l:ident $nl:ident $H:ident $lv1:ident $s1:ident) => `(tactic| (intro $l:ident $nl:ident; generalize he : upd _ _ _ = $H:ident; have $lv1:ident := Lv.alE $lv $nl he; have $s1:ident := sameE $nl he; clear he; (try dsimp only at $lv1:ident)))
  | `(tactic| wide_line with alx $lv:ident $nl:ident $H:ident $lv1:ident $s1:ident) => `(tactic| (generalize he : upd _ _ _ = $H:ident; have $lv1:ident := Lv.alE $lv $nl he; have $s1:ident := sameE $nl he; clear he; (try dsimp only at $lv1:ident)))
  | `(tactic| wide_line with sts $lv:ident $i:num $H:ident $lv1:ident $s0:ident $np:ident $s1:ident) => `(tactic| (generalize he : upd _ _ _ = $H:ident; have $lv1:ident := Lv.stE $lv $i rfl he; have $s1:ident := sameN $s0 $np he; clear he; (try dsimp only at $lv1:ident)))
  | `(tactic| wide_line with stx $lv:ident $H:ident $lv1:ident $d1:ident) => `(tactic| (generalize he : upd _ _ _ = $H:ident; have $lv1:ident := Lv.stE $lv 0 rfl he; have $d1:ident := SameD.storeE (Lv.get $lv 0 rfl) he; clear he; (try dsimp only at $lv1:ident)))
  | `(tactic| wide_line with st $lv:ident $i:num $H:ident $lv1:ident) => `(tactic| (generalize he : upd _ _ _ = $H:ident; have $lv1:ident := Lv.stE $lv $i rfl he; clear he; (try dsimp only at $lv1:ident)))
  | `(tactic| wide_line with stk $lv:ident $i:num $H:ident $lv1:ident $k1:ident) => `(tactic| (generalize he : upd _ _ _ = $H:ident; have $lv1:ident := Lv.stE $lv $i rfl he; have $k1:ident := KeepT.st (Lv.get $lv $i rfl) he; clear he; (try dsimp only at $lv1:ident)))
/-! a web made of what is right -/
def tieDat (t : Str × Str) : PyData := .tuple [.str t.1, .str t.2]
theorem strsD_map : ∀ ns : List Str, strsD (ns.map PyData.str) = ns
  | [] => rfl
  | n :: ns => by rw [List.map_cons, strsD, strsD_map ns]
theorem places_good {d : PyData} {n : Nat} {ns : List Str} {ts : List (Str × Str)} (h : PlanOk n ns ts) (hn : n ≤ 12) (e : seqD d = some (ns.map PyData.str)) : placesOf d = some ns := by
  unfold placesOf
  rw [e]
  dsimp only
  rw [strsD_map, List.length_map, if_pos ⟨⟨h.one, Nat.le_trans h.most hn⟩, by rw [List.all_map, List.all_eq_true]; exact h.nm, h.nd⟩]
theorem tieOf_good {ns : List Str} {t : Str × Str} (h : t.1 ∈ ns ∧ t.2 ∈ ns ∧ t.1 ≠ t.2) : tieOf ns (tieDat t) = some t := by
  show (if t.1 ∈ ns ∧ t.2 ∈ ns ∧ t.1 ≠ t.2 then some (t.1, t.2) else none) = _
  rw [if_pos h]
theorem tieBad_good {ns : List Str} : ∀ {ts qs : List (Str × Str)} {i : Nat}, (∀ t ∈ ts, t.1 ∈ ns ∧ t.2 ∈ ns ∧ t.1 ≠ t.2) → (ts.map pairP).Nodup → (∀ t ∈ ts, pairP t ∉ qs) → tieBad ns qs i (ts.map tieDat) = none
  | [], _, _, _, _, _ => rfl
  | t :: ts, qs, i, h, d, o => by
    obtain ⟨n, d⟩ := List.nodup_cons.mp d
    rw [List.map_cons, tieBad, tieOf_good (h t List.mem_cons_self)]
    dsimp only
    rw [if_neg (o t List.mem_cons_self)]
    refine tieBad_good (fun u hu => h u (List.mem_cons_of_mem _ hu)) d fun u hu z => ?_
    rcases List.mem_cons.mp z with z | z
    · exact n (List.mem_map.mpr ⟨u, hu, z⟩)
    · exact o u (List.mem_cons_of_mem _ hu) z
theorem tiesD_good {ns : List Str} : ∀ {ts : List (Str × Str)}, (∀ t ∈ ts, t.1 ∈ ns ∧ t.2 ∈ ns ∧ t.1 ≠ t.2) → tiesD ns (ts.map tieDat) = ts
  | [], _ => rfl
  | t :: ts, h => by
    unfold tiesD
    rw [List.map_cons, List.filterMap_cons, tieOf_good (h t List.mem_cons_self)]
    exact congrArg _ (tiesD_good fun u hu => h u (List.mem_cons_of_mem _ hu))
section
variable {K : PySem.W.Frag} {H : Hp}
theorem dq_strs : ∀ ns : List Str, DqAll K H (ns.map V.str) (ns.map PyData.str)
  | [] => .nil
  | n :: ns => .cons (.str n) (dq_strs ns)
theorem dq_ties : ∀ {xs : List V} {ts : List (Str × Str)}, TiesAt K H xs ts → DqAll K H xs (ts.map tieDat)
  | _, _, .nil => .nil
  | _, _, .cons ⟨a, e, h⟩ t => .cons (by subst e; exact .tup h (.cons (.str _) (.cons (.str _) .nil))) (dq_ties t)
/-- a list or a tuple of what is known item by item -/
theorem dq_seq {a : Addr} {xs : List V} {ds : List PyData} (h : SqS K H a xs) (e : DqAll K H xs ds) : ∃ d, seqD d = some ds ∧ Dq K H (.ref a) d := by
  rcases h with h | h
  · exact ⟨.list ds, rfl, .lst h e⟩
  · exact ⟨.tuple ds, rfl, .tup h e⟩
end
/-- the class Web: what a new one promises -/
structure HasW (P : Program) (w : World) (K : PySem.W.Frag) (mg : Str → Option Value) (base : Heap) (k : Nat) (C CP CS CT : Addr) : Prop where
  g : mg "Web" = some (.ref C)
  ex : ∃ (f T0 : Addr) (fd : FuncData) (ds : List Value) (o : Obj) (n : Nat), Mk K C f ∧ FnOk P w K mg base (L2.CX P w) k f fd ["self", "places", "ties"] (spInit K C CP CS CT) ∧ Binds K fd ["self", "places", "ties"] [] ∧ Binds K fd ["self", "places", "ties"] ds ∧ Vals [.ref T0] ds ∧
    K.lookup T0 = some o ∧ o.cls = .type "tuple" ∧ o.data = .seq #[] n
/-- Web(p, t) of what is right -/
def tWeb (K : PySem.W.Frag) (C : Addr) (t : TA) : TE := fun σ H Q => t σ H fun vs H1 => ∃ (a b : Addr) (n : Nat) (ns : List Str) (xs : List V) (ts : List (Str × Str)), vs = [.ref a, .ref b] ∧ SqS K H1 a (ns.map V.str) ∧ SqS K H1 b xs ∧ TiesAt K H1 xs ts ∧ PlanOk n ns ts ∧ n ≤ 12 ∧
  ∀ x H', Same H1 H' → H1 x = none → WebAt K C (noLst H1 H') x ns ts → Q (.ref x) H'
theorem noLst_le {H1 H2 H' : Hp} (s : Same H1 H2) : Same (noLst H2 H') (noLst H1 H') := fun b o e => by
  refine noLst_at (fun xs z => ?_) (noLst_sub b o e)
  unfold noLst at e
  rw [s b _ z] at e
  cases e
theorem init_good {K : PySem.W.Frag} {C CP CS CT a b x dx : Addr} {n : Nat} {H1 : Hp} {ns : List Str} {xs : List V} {ts : List (Str × Str)} {Q : VK} {E : XK} (ha : SqS K H1 a (ns.map V.str)) (hb : SqS K H1 b xs) (ht : TiesAt K H1 xs ts) (pk : PlanOk n ns ts) (hn : n ≤ 12) (nx : H1 x = none) (ndx : H1 dx = none) (ne : dx ≠ x)
    (k : ∀ H', Same H1 H' → H1 x = none → WebAt K C (noLst H1 H') x ns ts → Q .non H') : spInit K C CP CS CT [.ref x, .ref a, .ref b] (upd (upd H1 dx (.own x)) x (.ins C dx [])) Q E := by
  have s1 : Same H1 (upd (upd H1 dx (.own x)) x (.ins C dx [])) := (same_new ndx).trans (same_new (by rw [upd_ne (fun z => ne z.symm)]; exact nx))
  have hx : upd (upd H1 dx (.own x)) x (.ins C dx []) x = some (.ins C dx []) := upd_same
  generalize upd (upd H1 dx (.own x)) x (.ins C dx []) = H2 at s1 hx ⊢
  obtain ⟨d, ed, hd⟩ := dq_seq (ha.same s1) (dq_strs ns)
  obtain ⟨td, etd, htd⟩ := dq_seq (hb.same s1) (dq_ties (ht.same s1))
  have pg := places_good pk hn ed
  refine ⟨x, dx, .ref a, .ref b, d, td, rfl, hx, hd, fun ds e => ?_, htd, fun z => (by rw [pg] at z; cases z), fun ns' e => ?_⟩
  · rw [ed] at e
    cases e
    refine ⟨by rw [List.length_map]; have := pk.most; omega, fun y hy => ?_⟩
    obtain ⟨z, hz, e⟩ := List.mem_map.mp hy
    cases e
    have := pk.nm _ hz
    unfold okName at this
    simp only [Bool.and_eq_true, decide_eq_true_eq] at this
    rw [sizeLine_eq]
    omega
  · rw [pg] at e
    cases e
    refine ⟨fun z => (by rw [etd] at z; cases z), fun tds e => ?_⟩
    rw [etd] at e
    cases e
    have tb := tieBad_good (i := 0) (qs := []) pk.tie pk.dif (fun _ _ z => nomatch z)
    refine ⟨fun e he => ?_, by rw [List.length_map]; have := pk.few; omega, fun i z => (by rw [tb] at z; cases z), fun _ H' off hw => ?_⟩
    · obtain ⟨t, _, rfl⟩ := List.mem_map.mp he
      exact ⟨rfl, rfl⟩
    · rw [tiesD_good pk.tie] at hw
      exact k H' (fun c o ec => off c o (ne_of_none ec nx) (s1 c o ec)) nx (hw.same (noLst_le s1))
theorem pe_web {X : Cx} {C CP CS CT : Addr} {j k : Nat} {e : Expr} {es : List Expr} {t : TA} {p pos : Pos} (h : HasW X.prog X.w X.K X.mg X.base j C CP CS CT) (hr : Room k X.A) (l : j + 1 ≤ k) (hg : Gl X "Web") (ha : PA X (e :: es) t)
    (he : starEach (e :: es) X.env = (false, eval e X.env) :: starEach es X.env := by rfl) (hpl : (backTo pos (starEach es X.env)).any (·.1) = false := by rfl) : PE X (.Call (.Name "Web" p) (e :: es) [] pos) (tWeb X.K C t) := by
  obtain ⟨g, f, T0, fd, ds, o, n0, M, F, b, _⟩ := h
  refine pe_makeG (E := fun _ => E0) M F (hr.mono l) hg g b .nil (fun vs H1 Q σ x dx q nx ndx ne => ?_) (fun pins σ H s e s' I z => passL pins σ H s e s' I z) ha (by decide) he hpl
  obtain ⟨a, b, n, ns, xs, ts, rfl, ha, hb, ht, pk, hn, k⟩ := q
  exact init_good ha hb ht pk hn nx ndx ne fun H' s' nx' hw => ⟨rfl, k x H' s' nx' hw⟩
end Pw

set_option Elab.async false
set_option linter.all false
set_option maxRecDepth 100000
set_option maxHeartbeats 4000000
namespace Pw
open PySem PySem.Spec PyProof.Rows L2 Ct
local macro_rules | `(tactic| wide_line) => `(tactic| repeat ((fail_if_success (with_reducible refine at_while ?_)); (fail_if_success (with_reducible refine at_while1 ?_)); (conv => whnf); first | ((with_reducible refine And.intro ?_ ?_); focus (first | (first | ((with_reducible show (_ : Nat) ≤ _); first | exact sz0 | exact sz1 | exact sz2 | exact sz3 | exact sz4 | exact sz5 | exact sz6 | exact sz7 | exact sz8 | exact sz10 | exact sz11 | exact sz12 | exact sz14 | omega | decide | (simp only [List.length_cons, List.length_nil]; omega)) | ((with_reducible show (_ : Int) ≤ _); first | omega | decide) | ((with_reducible show (_ : Int) < _); first | omega | decide) | ((with_reducible show (_ : Nat) < _); omega)) | ((fail_if_success (with_reducible show (_ : Nat) ≤ _)); (fail_if_success (with_reducible show (_ : Int) ≤ _)); (fail_if_success (with_reducible show (_ : Int) < _)); (fail_if_success (with_reducible show (_ : Nat) < _)); first | exact kv_str _ | exact kv_int _ | rfl | assumption | exact flat_strs _ | exact Lv.get (by assumption) 0 rfl | exact Lv.get (by assumption) 1 rfl | exact Lv.get (by assumption) 2 rfl | exact Lv.get (by assumption) 3 rfl | exact Lv.get (by assumption) 4 rfl | exact Lv.get (by assumption) 5 rfl | exact Lv.get (by assumption) 6 rfl | exact SqL.of (Lv.get (by assumption) 0 rfl) | exact SqL.of (Lv.get (by assumption) 1 rfl) | exact SqL.of (Lv.get (by assumption) 2 rfl) | exact SqL.of (Lv.get (by assumption) 3 rfl) | exact SqL.of (Lv.get (by assumption) 4 rfl) | exact SqL.of (Lv.get (by assumption) 5 rfl) | exact Or.inl (SqL.of (Lv.get (by assumption) 0 rfl)) | exact Or.inl (SqL.of (Lv.get (by assumption) 1 rfl)) | exact Or.inl (SqL.of (Lv.get (by assumption) 2 rfl)) | exact Or.inl (SqL.of (Lv.get (by assumption) 3 rfl)) | exact Or.inl (SqL.of (Lv.get (by assumption) 4 rfl)) | exact Or.inl (SqL.of (Lv.get (by assumption) 5 rfl)) | exact ⟨_, SqL.of (Lv.get (by assumption) 0 rfl)⟩ | exact ⟨_, SqL.of (Lv.get (by assumption) 1 rfl)⟩ | exact ⟨_, SqL.of (Lv.get (by assumption) 2 rfl)⟩ | exact ⟨_, SqL.of (Lv.get (by assumption) 3 rfl)⟩ | exact ⟨_, SqL.of (Lv.get (by assumption) 4 rfl)⟩ | exact ⟨_, SqL.of (Lv.get (by assumption) 5 rfl)⟩ | exact Or.inl ⟨_, SqL.of (Lv.get (by assumption) 0 rfl), rfl⟩ | exact Or.inl ⟨_, SqL.of (Lv.get (by assumption) 1 rfl), rfl⟩ | exact Or.inl ⟨_, SqL.of (Lv.get (by assumption) 2 rfl), rfl⟩ | exact Or.inl ⟨_, SqL.of (Lv.get (by assumption) 3 rfl), rfl⟩ | exact Or.inl ⟨_, SqL.of (Lv.get (by assumption) 4 rfl), rfl⟩ | exact Or.inl ⟨_, SqL.of (Lv.get (by assumption) 5 rfl), rfl⟩ | exact Or.inl ⟨rfl, _, SqL.of (Lv.get (by assumption) 0 rfl)⟩ | exact Or.inl ⟨rfl, _, SqL.of (Lv.get (by assumption) 1 rfl)⟩ | exact Or.inl ⟨rfl, _, SqL.of (Lv.get (by assumption) 2 rfl)⟩ | exact Or.inl ⟨rfl, _, SqL.of (Lv.get (by assumption) 3 rfl)⟩ | exact Or.inl ⟨rfl, _, SqL.of (Lv.get (by assumption) 4 rfl)⟩ | exact Or.inl ⟨rfl, _, SqL.of (Lv.get (by assumption) 5 rfl)⟩ | exact Or.inr (SqT.of (Lv.get (by assumption) 0 rfl)) | exact Or.inr (SqT.of (Lv.get (by assumption) 1 rfl)) | exact Or.inr (SqT.of (Lv.get (by assumption) 2 rfl)) | exact Or.inr (SqT.of (Lv.get (by assumption) 3 rfl)) | exact SqT.of (Lv.get (by assumption) 0 rfl) | exact SqT.of (Lv.get (by assumption) 1 rfl) | exact SqT.of (Lv.get (by assumption) 2 rfl) | exact dgetN (Lv.get (by assumption) 0 rfl) (by assumption) | exact dgetN (Lv.get (by assumption) 1 rfl) (by assumption) | exact dgetN (Lv.get (by assumption) 2 rfl) (by assumption) | exact dgetN (Lv.get (by assumption) 3 rfl) (by assumption) | exact dgetN (Lv.get (by assumption) 4 rfl) (by assumption) | exact Or.inl (by assumption) | exact Or.inr (by assumption) | decide | ((with_reducible show _ ∧ _); omega)))) | ((fail_if_success (with_reducible apply @Exists.intro (Nat → _))); (with_reducible apply Exists.intro))))
local macro_rules
  | `(tactic| wide_line with al $lv:ident $l:ident $nl:ident $H:ident $lv1:ident $s1:ident) => `(tactic| (intro $l:ident $nl:ident; generalize he : upd _ _ _ = $H:ident; have $lv1:ident := Lv.alE $lv $nl he; have $s1:ident := sameE $nl he; clear he; (try dsimp only at $lv1:ident)))
  | `(tactic| wide_line with alx $lv:ident $nl:ident $H:ident $lv1:ident $s1:ident) => `(tactic| (generalize he : upd _ _ _ = $H:ident; have $lv1:ident := Lv.alE $lv $nl he; have $s1:ident := sameE $nl he; clear he; (try dsimp only at $lv1:ident)))
  | `(tactic| wide_line with sts $lv:ident $i:num $H:ident $lv1:ident $s0:ident $np:ident $s1:ident) => `(tactic| (generalize he : upd _ _ _ = $H:ident; have $lv1:ident := Lv.stE $lv $i rfl he; have $s1:ident := sameN $s0 $np he; clear he; (try dsimp only at $lv1:ident)))
  | `(tactic| wide_line with stx $lv:ident $H:ident $lv1:ident $d1:ident) => `(tactic| (generalize he : upd _ _ _ = $H:ident; have $lv1:ident := Lv.stE $lv 0 rfl he; have $d1:ident := SameD.storeE (Lv.get $lv 0 rfl) he; clear he; (try dsimp only at $lv1:ident)))
  | `(tactic| wide_line with st $lv:ident $i:num $H:ident $lv1:ident) => `(tactic| (generalize he : upd _ _ _ = $H:ident; have $lv1:ident := Lv.stE $lv $i rfl he; clear he; (try dsimp only at $lv1:ident)))
  | `(tactic| wide_line with stk $lv:ident $i:num $H:ident $lv1:ident $k1:ident) => `(tactic| (generalize he : upd _ _ _ = $H:ident; have $lv1:ident := Lv.stE $lv $i rfl he; have $k1:ident := KeepT.st (Lv.get $lv $i rfl) he; clear he; (try dsimp only at $lv1:ident)))
/-- o.m(e, ..), nothing raised -/
theorem pe_hML {X : Cx} {k j : Nat} {C : Addr} {m : Str} {ps : List Str} {sp : Sp} {o e : Expr} {es : List Expr} {apos pos : Pos} {ta : TE} {t : TA} {pl : Sem Bool} (h : HasM X.prog X.w X.K X.mg X.base (L2.CX X.prog X.w) j C m ps sp) (c : Cls X.K C) (hr : Room k X.A) (l : j ≤ k) (ho : PE X o ta) (ha : PA X (e :: es) t)
    (hst : starEach (e :: es) X.env = (false, eval e X.env) :: starEach es X.env := by rfl) (hpl : (backTo pos (starEach es X.env)).any (·.1) = false := by rfl)
    (ht : eval (.Call (.Attribute o m apos) (e :: es) [] pos) X.env = (do
      let ov ← eval o X.env
      standAt apos.atName
      let (f, first) ← holding [ov] (getMethod ov m pl)
      callWith pos f first (backTo pos (starEach (e :: es) X.env)) (backToKw pos (keywordEach [] X.env))) := by rfl) : PE X (.Call (.Attribute o m apos) (e :: es) [] pos) (tMeth C m sp [] E0 ta t) := by
  obtain ⟨f, fd, hm, b, F⟩ := h
  exact pe_meth ho c hm F (hr.mono l) b .nil passL ha hst hpl ht
theorem tiesAt_of {K : PySem.W.Frag} {H : Hp} : ∀ {xs : List V} {ts : List (Str × Str)}, TiesT H xs ts → TiesAt K H xs ts
  | _, _, .nil => .nil
  | _, _, .cons ⟨a, e, h⟩ t => .cons ⟨a, e, SqT.of h⟩ (tiesAt_of t)
/-- what is left without some names -/
def lessN (ns g : List Str) : List Str := ns.filter fun p => !decide (p ∈ g)
def lessT (ns : List Str) (ts : List (Str × Str)) (g : List Str) : List (Str × Str) := ts.filter fun t => decide (t.1 ∈ lessN ns g) && decide (t.2 ∈ lessN ns g)
/-- some, but not all names -/
def spareOf (ns : List Str) (d : PyData) : Bool := placesIn ns d && (match d with | .list ds => !decide (ds.length = ns.length) | _ => false)
theorem less_ok {n : Nat} {ns : List Str} {ts : List (Str × Str)} (h : PlanOk n ns ts) {g : List Str} (gn : g.Nodup) (gi : ∀ q ∈ g, q ∈ ns) (gl : g.length ≠ ns.length) : PlanOk n (lessN ns g) (lessT ns ts g) where
  one := by
    rcases Nat.eq_zero_or_pos (lessN ns g).length with z | z
    · exfalso
      have all : ∀ q ∈ ns, q ∈ g := fun q hq => by
        rcases Classical.em (q ∈ g) with y | y
        · exact y
        · have : q ∈ lessN ns g := List.mem_filter.mpr ⟨hq, by rw [decide_eq_false y]; rfl⟩
          rw [List.eq_nil_of_length_eq_zero z] at this
          cases this
      have a := nodup_len h.nd all
      have b := nodup_len gn gi
      omega
    · exact z
  most := Nat.le_trans (List.length_filter_le _ _) h.most
  nd := h.nd.sublist List.filter_sublist
  nm := fun x hx => h.nm x (List.mem_filter.mp hx).1
  tie := fun t ht => by
    obtain ⟨h1, h2⟩ := List.mem_filter.mp ht
    rw [Bool.and_eq_true, decide_eq_true_eq, decide_eq_true_eq] at h2
    exact ⟨h2.1, h2.2, (h.tie t h1).2.2⟩
  dif := h.dif.sublist (List.filter_sublist.map pairP)
  few := Nat.le_trans (List.length_filter_le _ _) h.few
/-- web.without(value) -/
def spWithout (K : PySem.W.Frag) (C CP : Addr) : Sp := fun vs H Q E => ∃ (x : Addr) (v : V) (n : Nat) (ns : List Str) (ts : List (Str × Str)) (d : PyData), vs = [.ref x, v] ∧ WebAt K C H x ns ts ∧ PlanOk n ns ts ∧ n ≤ 12 ∧ Dq K H v d ∧ (∀ ds, d = .list ds → ds.length ≤ 4000) ∧
  (spareOf ns d = false → Raised CP "value" H v E) ∧ ∀ ds, d = .list ds → spareOf ns d = true → ∀ y H', Same H H' → H y = none → WebAt K C (noLst H H') y (lessN ns (strsD ds)) (lessT ns ts (strsD ds)) → Q (.ref y) H'
section
variable {P : Program} {w : World} {K : PySem.W.Frag} {mg : Str → Option Value} {base : Heap} {C CP CS CT fa : Addr} {fd : FuncData}
abbrev sWithout : Stmt := inClass (top ix_Web) mx_Web_without
theorem scWithout : FnScope ["self", "places", "kept", "place", "one", "other"] ["self", "places"] (defScope sWithout) := ⟨rfl, rfl, rfl, by decide +kernel, rfl, by decide +kernel, by decide +kernel⟩
theorem ok_without (T : Bn mg) (X : WC K C) (F : Fun K "without" "Web.without" sWithout fa fd) (h_are_places : Has P w K mg base CX0 4 "are_places" ["web", "value"] (spArePlaces K C)) (hE_BadPlaces : HasE P w K mg base 1 "BadPlaces" CP "value") (hW : HasW P w K mg base 4 C CP CS CT) : FnOk P w K mg base (L2.CX P w) 6 fa fd ["self", "places"] (spWithout K C CP) := by
  refine F.okX scWithout (fun vs H Q E h => ?_) (fun cdv A outer s H vs Q E hr h => ?_)
  · obtain ⟨x, v, n, ns, ts, d, rfl, _⟩ := h; rfl
  · obtain ⟨x, v, n, ns, ts, d, rfl, hw, pk, hn, hd, nodic, kb, kg⟩ := h
    have nd := scWithout.nd
    refine ⟨_, (pss_cons (ps_if (PW.pt (pw_or (pt_not (pt_val (pe_h h_are_places hr (by decide) rfl (pa_cons (pv 0) (pa_cons (pv 1) pa_nil))))) (pw_or1 (pt_cmpR op_eq (pe_callB call_len (by rfl) T.z_len (by decide +kernel) (pa_cons (pv 1) pa_nil)) (pe_callB call_len (by rfl) T.z_len (by decide +kernel) (pa_cons (pe_fld (pv 0) rfl) pa_nil)) (by first | exact nomark _ | rfl))))) (pss_one (ps_raise rfl (takes_of rfl rfl rfl rfl) (pmk_x hE_BadPlaces hr (by decide) rfl (pv 1)))) pss_nil)
    (pss_cons (ps_sv 2 nd (pe_lc (own := [("place", 3)]) (g := gName 3) rfl nd (pi_sq (pe_fld (pv 0) rfl)) (blkOk_by (own := [("place", 3)]) (N := ["self", "places", "kept", "place", "one", "other"]) (sc := defScope sWithout) (by decide +kernel)) (fun _ _ _ _ _ => (pg_name (i := 3) nd rfl (by first | exact Or.inl rfl | exact Or.inr rfl))) (fun _ _ _ _ _ => (pts_one (pt_cmpR (op_notIn_seqk (K := K) rfl) (pv 3) (pv 1) (by first | exact nomark _ | rfl)))) (fun _ _ _ _ _ => (pv 3))))
    (pss_one (ps_ret (pe_web hW hr (by decide) rfl (pa_cons (pv 2) (pa_cons (pe_lc (own := [("one", 4), ("other", 5)]) (g := _) rfl nd (pi_sq (pe_fld (pv 0) rfl)) (blkOk_by (own := [("one", 4), ("other", 5)]) (N := ["self", "places", "kept", "place", "one", "other"]) (sc := defScope sWithout) (by decide +kernel)) (fun _ _ _ _ _ => (pg_tupk (K := K) (n := 2) rfl rfl (pgs_cons (pg_name (i := 4) nd rfl (by first | exact Or.inl rfl | exact Or.inr rfl)) (pgs_cons (pg_name (i := 5) nd rfl (by first | exact Or.inl rfl | exact Or.inr rfl)) pgs_nil)))) (fun _ _ _ _ _ => (pts_one (PW.pt (pw_and (pt_cmpR (op_in_seqk (K := K) rfl) (pv 4) (pv 2) (by first | exact nomark _ | rfl)) (pw_and1 (pt_cmpR (op_in_seqk (K := K) rfl) (pv 5) (pv 2) (by first | exact nomark _ | rfl))))))) (fun _ _ _ _ _ => (pe_tup (pa_cons (pv 4) (pa_cons (pv 5) pa_nil))))) pa_nil))))))), ?_⟩
    have bad : ∀ H1, Same H H1 → spareOf ns d = false → Raised CP "value" H1 v E := fun H1 s1 c e H' s he hH => kb c e H' (s1.trans s) (free_of s1 he) hH
    have c1 := X.cls
    obtain ⟨_, n1, n2, _⟩ := id X
    refine ifs_to (fun b H' => Same H H' ∧ b = !spareOf ns d) (fun Q hQ => ?_) (fun H1 h1 => ?_) (fun H1 h1 => ?_)
    · wide_line
      intro H1 s1
      wide_line
      cases c : placesIn ns d with
      | false => exact iteT (hQ _ _ ⟨s1, by unfold spareOf; rw [c]; rfl⟩)
      | true =>
        cases hd with
        | @lst a xs ds hs ha =>
          have c0 : (ds.all (fun d => amid d ns) && decide (strsD ds).Nodup) = true := c
          rw [Bool.and_eq_true] at c0
          obtain ⟨e1, e2, e3⟩ := amids_of ha c0.1
          subst e1
          obtain ⟨⟨dx, tp, tt, sg, sn, sp, sq, rk, txs, hx, htp, htt, hts, _⟩⟩ := hw.same s1
          have hs1 : SqL K H1 a ((strsD ds).map V.str) := s1.seq hs
          have la : LenV K (.ref a) H1 (strsD ds).length := .inl ⟨_, hs1, by rw [List.length_map]⟩
          have lb : LenV K (.ref tp) H1 ns.length := .inr ⟨_, htp, by rw [List.length_map]⟩
          refine iteF ?_
          wide_line
          refine hQ _ _ ⟨s1, ?_⟩
          unfold spareOf
          rw [c]
          show decide (V.int ((strsD ds).length : Nat) = V.int (ns.length : Nat)) = !(true && !decide (ds.length = ns.length))
          rw [Bool.true_and, Bool.not_not]
          refine decide_eq_decide.mpr ⟨fun z => ?_, fun z => by rw [e2, z]⟩
          injection z with z
          omega
        | _ => cases c
    · wide_line
      intro e he
      have h2 := h1.2
      exact bad H1 h1.1 (by revert h2; cases spareOf ns d <;> intro h2 <;> first | rfl | cases h2) e _ (same_new he) he upd_same
    · obtain ⟨s1, eb⟩ := h1
      have sp1 : spareOf ns d = true := by revert eb; cases spareOf ns d <;> intro eb <;> first | rfl | cases eb
      have c : placesIn ns d = true := by
        unfold spareOf at sp1
        exact (Bool.and_eq_true_iff.mp sp1).1
      cases hd with
      | @lst a xs ds hs ha =>
        have c0 : (ds.all (fun d => amid d ns) && decide (strsD ds).Nodup) = true := c
        rw [Bool.and_eq_true] at c0
        obtain ⟨e1, e2, e3⟩ := amids_of ha c0.1
        subst e1
        have gne : (strsD ds).length ≠ ns.length := fun z => by
          unfold spareOf at sp1
          rw [c] at sp1
          have : (true && !decide (ds.length = ns.length)) = true := sp1
          rw [decide_eq_true (by omega)] at this
          cases this
        have pk2 := less_ok pk (of_decide_eq_true c0.2) e3 gne
        obtain ⟨⟨dx, tp, tt, sg, sn, sp, sq, rk, txs, hx, htp, htt, hts, _⟩⟩ := hw.same s1
        have hs1 : SqL K H1 a ((strsD ds).map V.str) := s1.seq hs
        have kg2 := kg ds rfl sp1
        generalize strsD ds = g at *
        have lv := Lv.zero H1
        wide_line
        intro J G ex hG wk L nL
        refine lc_it wk (fun i H' => Hold (Lv H1 [] H' [(L, .lst ((lessN (ns.take i) g).map V.str))])) ⟨lv.al nL⟩ (fun i H' _ z => hG H' (.same z.out.sm)) ?_ ?_
        · rintro i y H2 H3 hi ⟨lv2⟩ ⟨rfl, ex2⟩
          obtain ⟨p, hp, rfl⟩ := str_at ex2
          have hs2 : SqL K H3 a (g.map V.str) := lv2.sm.seq hs1
          wide_line
          rw [if_pos rfl, in_strs]
          wide_line
          have tk : lessN (ns.take (i + 1)) g = lessN (ns.take i) g ++ (if (!decide (p ∈ g)) = true then [p] else []) := by
            unfold lessN
            rw [take_next2 hp, List.filter_append, filter_one]
          refine ite2 (fun c3 => ?_) (fun c3 => ?_)
          · wide_line
            have l1 := List.length_filter_le (fun p => !decide (p ∈ g)) (ns.take i)
            have l2 := List.length_take_le i ns
            have l3 := (List.getElem?_eq_some_iff.mp hp).1
            have l4 := pk.most
            refine ⟨by rw [List.length_map, sizeLine_eq]; unfold lessN; omega, ?_⟩
            wide_line with st lv2 0 H4 lv4
            refine ⟨lv4.re ?_⟩
            rw [tk, if_pos c3, List.map_append]
            rfl
          · refine ⟨lv2.re ?_⟩
            rw [tk, if_neg c3, List.append_nil]
        · rintro H2 ⟨lv2⟩
          rw [List.length_map, List.take_length] at lv2
          have hx2 := lv2.sm _ _ hx
          have htt2 := same_t lv2.sm htt
          wide_line
          intro J2 G2 ex2 hG2 wk2 L2 nL2
          have xl : txs.length = ts.length := paired_len hts
          have hL2 := lv2.get 0 rfl
          have lvL := (Lv.zero H2).al (o := .lst []) nL2
          refine lc_it wk2 (fun i H' => Hold (∃ ys, Lv H2 [] H' [(L2, .lst ys)] ∧ TiesT H' ys (lessT ns (ts.take i) g))) ⟨[], lvL, .nil⟩ (fun i H' _ ⟨_, z, _⟩ => hG2 H' (.same z.sm)) ?_ ?_
          · rintro i y H3 H4 hi ⟨ys, lv3, tt3⟩ ⟨rfl, ex4⟩
            obtain ⟨t, b, ht, rfl, hb⟩ := ties_at ((hts.same lv2.sm).same lv3.sm) ex4
            have hLs : SqL K H4 L ((lessN ns g).map V.str) := SqL.of (lv3.sm _ _ hL2)
            have hb : SqT K H4 b [.str t.1, .str t.2] := hb
            have i7 : i < txs.length := hi
            have yl := paired_len tt3
            have l4 := pk.few
            have l5 := List.length_filter_le (fun t => decide (t.1 ∈ lessN ns g) && decide (t.2 ∈ lessN ns g)) (ts.take i)
            have l6 := List.length_take_le i ts
            have tk : lessT ns (ts.take (i + 1)) g = lessT ns (ts.take i) g ++ (if (decide (t.1 ∈ lessN ns g) && decide (t.2 ∈ lessN ns g)) = true then [t] else []) := by
              unfold lessT
              rw [take_next2 ht, List.filter_append]
              congr 1
              cases e : (decide (t.1 ∈ lessN ns g) && decide (t.2 ∈ lessN ns g)) <;> simp [List.filter, e]
            have skip : (decide (t.1 ∈ lessN ns g) && decide (t.2 ∈ lessN ns g)) = false → Hold (∃ ys, Lv H2 [] H4 [(L2, .lst ys)] ∧ TiesT H4 ys (lessT ns (ts.take (i + 1)) g)) := fun c => by
              rw [tk, if_neg (by rw [c]; decide), List.append_nil]
              exact ⟨ys, lv3, tt3⟩
            wide_line
            rw [if_neg (by decide), in_strs]
            wide_line
            refine ite2 (fun c3 => ?_) (fun c3 => ?_)
            · wide_line
              rw [if_neg (by decide), in_strs]
              wide_line
              refine ite2 (fun c4 => ?_) (fun c4 => ?_)
              · wide_line
                wide_line with al lv3 t1 nt1 H5 lv5 s5
                wide_line
                refine ⟨by rw [sizeLine_eq]; unfold lessT at yl; omega, ?_⟩
                wide_line with stk lv5 1 H6 lv6 kt6
                rw [tk, c3, c4]
                exact ⟨_, lv6.tl (fun z => nomatch z), paired_app ((tt3.keep (.same s5)).keep kt6) (.cons ⟨t1, rfl, kt6 _ _ (lv5.get 0 rfl)⟩ .nil)⟩
              · exact skip (by rw [c3]; cases z : decide (t.2 ∈ lessN ns g) with
                  | true => exact absurd z c4
                  | false => rfl)
            · exact skip (by cases z : decide (t.1 ∈ lessN ns g) with
                | true => exact absurd z c3
                | false => rfl)
          · rintro H3 ⟨ys, lv3, tt3⟩
            rw [xl, List.take_length] at tt3
            have sq1 : SqS K H3 L ((lessN ns g).map V.str) := .inl (SqL.of (lv3.sm _ _ hL2))
            have sq2 : SqS K H3 L2 ys := .inl (SqL.of (lv3.get 0 rfl))
            have tt3 : TiesAt K H3 ys (lessT ns ts g) := tiesAt_of tt3
            wide_line
            intro y H4 s4 ny hy
            exact kg2 y H4 (s1.trans (lv2.sm.trans (lv3.sm.trans s4))) (free_of (s1.trans lv2.sm) (lv3.free ny)) (WebAt.same (noLst_le (s1.trans (lv2.sm.trans lv3.sm))) hy)
      | _ => cases c
end
end Pw

set_option Elab.async false
set_option linter.all false
set_option maxRecDepth 100000
set_option maxHeartbeats 4000000
namespace Pw
open PySem PySem.Spec PyProof.Rows L2 Ct
local macro_rules | `(tactic| wide_line) => `(tactic| repeat ((fail_if_success (with_reducible refine at_while ?_)); (fail_if_success (with_reducible refine at_while1 ?_)); (conv => whnf); first | ((with_reducible refine And.intro ?_ ?_); focus (first | (first | ((with_reducible show (_ : Nat) ≤ _); first | exact sz0 | exact sz1 | exact sz2 | exact sz3 | exact sz4 | exact sz5 | exact sz6 | exact sz7 | exact sz8 | exact sz10 | exact sz11 | exact sz12 | exact sz14 | omega | decide | (simp only [List.length_cons, List.length_nil]; omega)) | ((with_reducible show (_ : Int) ≤ _); first | omega | decide) | ((with_reducible show (_ : Int) < _); first | omega | decide) | ((with_reducible show (_ : Nat) < _); omega)) | ((fail_if_success (with_reducible show (_ : Nat) ≤ _)); (fail_if_success (with_reducible show (_ : Int) ≤ _)); (fail_if_success (with_reducible show (_ : Int) < _)); (fail_if_success (with_reducible show (_ : Nat) < _)); first | exact kv_str _ | exact kv_int _ | rfl | assumption | exact flat_strs _ | exact Lv.get (by assumption) 0 rfl | exact Lv.get (by assumption) 1 rfl | exact Lv.get (by assumption) 2 rfl | exact Lv.get (by assumption) 3 rfl | exact Lv.get (by assumption) 4 rfl | exact Lv.get (by assumption) 5 rfl | exact Lv.get (by assumption) 6 rfl | exact SqL.of (Lv.get (by assumption) 0 rfl) | exact SqL.of (Lv.get (by assumption) 1 rfl) | exact SqL.of (Lv.get (by assumption) 2 rfl) | exact SqL.of (Lv.get (by assumption) 3 rfl) | exact SqL.of (Lv.get (by assumption) 4 rfl) | exact SqL.of (Lv.get (by assumption) 5 rfl) | exact Or.inl (SqL.of (Lv.get (by assumption) 0 rfl)) | exact Or.inl (SqL.of (Lv.get (by assumption) 1 rfl)) | exact Or.inl (SqL.of (Lv.get (by assumption) 2 rfl)) | exact Or.inl (SqL.of (Lv.get (by assumption) 3 rfl)) | exact Or.inl (SqL.of (Lv.get (by assumption) 4 rfl)) | exact Or.inl (SqL.of (Lv.get (by assumption) 5 rfl)) | exact ⟨_, SqL.of (Lv.get (by assumption) 0 rfl)⟩ | exact ⟨_, SqL.of (Lv.get (by assumption) 1 rfl)⟩ | exact ⟨_, SqL.of (Lv.get (by assumption) 2 rfl)⟩ | exact ⟨_, SqL.of (Lv.get (by assumption) 3 rfl)⟩ | exact ⟨_, SqL.of (Lv.get (by assumption) 4 rfl)⟩ | exact ⟨_, SqL.of (Lv.get (by assumption) 5 rfl)⟩ | exact Or.inl ⟨_, SqL.of (Lv.get (by assumption) 0 rfl), rfl⟩ | exact Or.inl ⟨_, SqL.of (Lv.get (by assumption) 1 rfl), rfl⟩ | exact Or.inl ⟨_, SqL.of (Lv.get (by assumption) 2 rfl), rfl⟩ | exact Or.inl ⟨_, SqL.of (Lv.get (by assumption) 3 rfl), rfl⟩ | exact Or.inl ⟨_, SqL.of (Lv.get (by assumption) 4 rfl), rfl⟩ | exact Or.inl ⟨_, SqL.of (Lv.get (by assumption) 5 rfl), rfl⟩ | exact Or.inl ⟨rfl, _, SqL.of (Lv.get (by assumption) 0 rfl)⟩ | exact Or.inl ⟨rfl, _, SqL.of (Lv.get (by assumption) 1 rfl)⟩ | exact Or.inl ⟨rfl, _, SqL.of (Lv.get (by assumption) 2 rfl)⟩ | exact Or.inl ⟨rfl, _, SqL.of (Lv.get (by assumption) 3 rfl)⟩ | exact Or.inl ⟨rfl, _, SqL.of (Lv.get (by assumption) 4 rfl)⟩ | exact Or.inl ⟨rfl, _, SqL.of (Lv.get (by assumption) 5 rfl)⟩ | exact Or.inr (SqT.of (Lv.get (by assumption) 0 rfl)) | exact Or.inr (SqT.of (Lv.get (by assumption) 1 rfl)) | exact Or.inr (SqT.of (Lv.get (by assumption) 2 rfl)) | exact Or.inr (SqT.of (Lv.get (by assumption) 3 rfl)) | exact SqT.of (Lv.get (by assumption) 0 rfl) | exact SqT.of (Lv.get (by assumption) 1 rfl) | exact SqT.of (Lv.get (by assumption) 2 rfl) | exact dgetN (Lv.get (by assumption) 0 rfl) (by assumption) | exact dgetN (Lv.get (by assumption) 1 rfl) (by assumption) | exact dgetN (Lv.get (by assumption) 2 rfl) (by assumption) | exact dgetN (Lv.get (by assumption) 3 rfl) (by assumption) | exact dgetN (Lv.get (by assumption) 4 rfl) (by assumption) | exact Or.inl (by assumption) | exact Or.inr (by assumption) | decide | ((with_reducible show _ ∧ _); omega)))) | ((fail_if_success (with_reducible apply @Exists.intro (Nat → _))); (with_reducible apply Exists.intro))))
local macro_rules
  | `(tactic| wide_line with al $lv:ident $l:ident $nl:ident $H:ident $lv1:ident $s1:ident) => `(tactic| (intro $l:ident $nl:ident; generalize he : upd _ _ _ = $H:ident; have $lv1:ident := Lv.alE $lv $nl he; have $s1:ident := sameE $nl he; clear he; (try dsimp only at $lv1:ident)))
  | `(tactic| wide_line with alx $lv:ident $nl:ident $H:ident $lv1:ident $s1:ident) => `(tactic| (generalize he : upd _ _ _ = $H:ident; have $lv1:ident := Lv.alE $lv $nl he; have $s1:ident := sameE $nl he; clear he; (try dsimp only at $lv1:ident)))
  | `(tactic| wide_line with sts $lv:ident $i:num $H:ident $lv1:ident $s0:ident $np:ident $s1:ident) => `(tactic| (generalize he : upd _ _ _ = $H:ident; have $lv1:ident := Lv.stE $lv $i rfl he; have $s1:ident := sameN $s0 $np he; clear he; (try dsimp only at $lv1:ident)))
  | `(tactic| wide_line with stx $lv:ident $H:ident $lv1:ident $d1:ident) => `(tactic| (generalize he : upd _ _ _ = $H:ident; have $lv1:ident := Lv.stE $lv 0 rfl he; have $d1:ident := SameD.storeE (Lv.get $lv 0 rfl) he; clear he; (try dsimp only at $lv1:ident)))
  | `(tactic| wide_line with st $lv:ident $i:num $H:ident $lv1:ident) => `(tactic| (generalize he : upd _ _ _ = $H:ident; have $lv1:ident := Lv.stE $lv $i rfl he; clear he; (try dsimp only at $lv1:ident)))
  | `(tactic| wide_line with stk $lv:ident $i:num $H:ident $lv1:ident $k1:ident) => `(tactic| (generalize he : upd _ _ _ = $H:ident; have $lv1:ident := Lv.stE $lv $i rfl he; have $k1:ident := KeepT.st (Lv.get $lv $i rfl) he; clear he; (try dsimp only at $lv1:ident)))
/-- where no datum is bad they are further ties -/
theorem tieBad_none {ns : List Str} : ∀ {ds : List PyData} {qs : List (Str × Str)} {i : Nat}, tieBad ns qs i ds = none → (∀ t ∈ tiesD ns ds, t.1 ∈ ns ∧ t.2 ∈ ns ∧ t.1 ≠ t.2) ∧ ((tiesD ns ds).map pairP).Nodup ∧ ∀ t ∈ tiesD ns ds, pairP t ∉ qs
  | [], _, _, _ => ⟨fun t h => (nomatch h), List.nodup_nil, fun t h => (nomatch h)⟩
  | d :: ds, qs, i, h => by
    unfold tieBad at h
    cases e : tieOf ns d with
    | none => rw [e] at h; cases h
    | some p =>
      rw [e] at h
      dsimp only at h
      by_cases c : pairP p ∈ qs
      · rw [if_pos c] at h; cases h
      · rw [if_neg c] at h
        obtain ⟨h1, h2, h3⟩ := tieBad_none h
        have ed : tiesD ns (d :: ds) = p :: tiesD ns ds := by unfold tiesD; rw [List.filterMap_cons, e]
        have pn : p.1 ∈ ns ∧ p.2 ∈ ns ∧ p.1 ≠ p.2 := by
          unfold tieOf at e
          split at e
          · split at e
            · split at e
              · rename_i c2
                cases e
                exact c2
              · cases e
            · cases e
          · cases e
        rw [ed]
        refine ⟨fun t ht => ?_, ?_, fun t ht => ?_⟩
        · rcases List.mem_cons.mp ht with rfl | ht
          · exact pn
          · exact h1 t ht
        · rw [List.map_cons]
          refine List.nodup_cons.mpr ⟨fun z => ?_, h2⟩
          obtain ⟨u, hu, eu⟩ := List.mem_map.mp z
          exact h3 u hu (eu ▸ List.mem_cons_self)
        · rcases List.mem_cons.mp ht with rfl | ht
          · exact c
          · exact fun z => h3 t ht (List.mem_cons_of_mem _ z)
theorem PlanOk.more {n : Nat} {ns : List Str} {ts : List (Str × Str)} (h : PlanOk n ns ts) {ds : List PyData} {i : Nat} (tb : tieBad ns (ts.map pairP) i ds = none) (few : ts.length + ds.length ≤ 75) : PlanOk n ns (ts ++ tiesD ns ds) := by
  obtain ⟨h1, h2, h3⟩ := tieBad_none tb
  refine ⟨h.one, h.most, h.nd, h.nm, fun t ht => ?_, ?_, ?_⟩
  · rcases List.mem_append.mp ht with z | z
    · exact h.tie t z
    · exact h1 t z
  · rw [List.map_append]
    refine List.nodup_append.mpr ⟨h.dif, h2, fun x hx y hy e => ?_⟩
    subst e
    obtain ⟨t, ht, rfl⟩ := List.mem_map.mp hy
    exact h3 t ht hx
  · rw [List.length_append]
    have : (tiesD ns ds).length ≤ ds.length := List.length_filterMap_le _ _
    omega
theorem TiesAt.app {K : PySem.W.Frag} {H : Hp} {xs ys : List V} {ts us : List (Str × Str)} (a : TiesAt K H xs ts) (b : TiesAt K H ys us) : TiesAt K H (xs ++ ys) (ts ++ us) := paired_app a b
/-- web.tied(value) -/
def spTied (K : PySem.W.Frag) (C CS CT : Addr) : Sp := fun vs H Q E => ∃ (x : Addr) (v : V) (n : Nat) (ns : List Str) (ts : List (Str × Str)) (d : PyData), vs = [.ref x, v] ∧ WebAt K C H x ns ts ∧ PlanOk n ns ts ∧ n ≤ 12 ∧ Dq K H v d ∧
  (seqD d = none → Raised CS "value" H v E) ∧ ∀ ds, seqD d = some ds → (∀ e ∈ ds, plainTie e) ∧ ts.length + ds.length ≤ 75 ∧ (∀ i, tieBad ns (ts.map pairP) 0 ds = some i → Raised CT "position" H (.int i) E) ∧
    (tieBad ns (ts.map pairP) 0 ds = none → ∀ y H', Same H H' → H y = none → WebAt K C (noLst H H') y ns (ts ++ tiesD ns ds) → Q (.ref y) H')
section
variable {P : Program} {w : World} {K : PySem.W.Frag} {mg : Str → Option Value} {base : Heap} {C CP CS CT fa : Addr} {fd : FuncData}
abbrev sTied : Stmt := inClass (top ix_Web) mx_Web_tied
theorem scTied : FnScope ["self", "ties"] ["self", "ties"] (defScope sTied) := ⟨rfl, rfl, rfl, by decide +kernel, rfl, by decide +kernel, by decide +kernel⟩
theorem ok_tied (T : Bn mg) (X : WC K C) (F : Fun K "tied" "Web.tied" sTied fa fd) (h_check_ties : HasR P w K mg base 3 "_check_ties" ["places", "known", "ties"] (spCheckTies K CS CT)) (hW : HasW P w K mg base 4 C CP CS CT) : FnOk P w K mg base (L2.CX P w) 6 fa fd ["self", "ties"] (spTied K C CS CT) := by
  refine F.okX scTied (fun vs H Q E h => ?_) (fun cdv A outer s H vs Q E hr h => ?_)
  · obtain ⟨x, v, n, ns, ts, d, rfl, _⟩ := h; rfl
  · obtain ⟨x, v, n, ns, ts, d, rfl, hw, pk, hn, hd, kb, kg⟩ := h
    have nd := scTied.nd
    refine ⟨_, (pss_cons (ps_expr (pe_hR h_check_ties (takes_of rfl rfl rfl rfl) hr (by decide) rfl (pa_cons (pe_fld (pv 0) rfl) (pa_cons (pe_fld (pv 0) rfl) (pa_cons (pv 1) pa_nil)))))
    (pss_one (ps_ret (pe_web hW hr (by decide) rfl (pa_cons (pe_fld (pv 0) rfl) (pa_cons (pe_op op_catT2 (pe_fld (pv 0) rfl) (pe_callTy call_tupS (by rfl) T.z_tuple (by decide +kernel) (pa_cons (pv 1) pa_nil))) pa_nil)))))), ?_⟩
    have c1 := X.cls
    obtain ⟨_, n1, n2, _⟩ := id X
    obtain ⟨⟨dx, tp, tt, sg, sn, sp, sq, rk, txs, hx, htp, htt, hts, _⟩⟩ := id hw
    have sq1 : SqS K H tp (ns.map V.str) := .inr htp
    have sq2 : SqS K H tt txs := .inr htt
    wide_line
    intro ds e
    obtain ⟨pl, few, bad, good⟩ := kg ds e
    refine ⟨pl, few, fun gd H1 s1 => ?_, bad⟩
    obtain ⟨va, vxs, rfl, hv, hda, hvl⟩ := seq_of hd e
    obtain ⟨tat, tin⟩ := ties_ok hda gd
    have hx1 := s1 _ _ hx
    have htp1 := same_t s1 htp
    have htt1 := same_t s1 htt
    have hv1 := hv.same s1
    wide_line
    intro t2 H2 s2 ht2
    have l1 := paired_len hts
    have l2 := pk.few
    refine ⟨tt, t2, txs, vxs, rfl, rfl, same_t s2 htt1, ht2, by rw [sizeLine_eq]; omega, fun t3 H3 s3 ht3 => ?_⟩
    have s13 := s2.trans s3
    have sa : SqS K H3 tp (ns.map V.str) := .inr (same_t s13 htp1)
    have sb : SqS K H3 t3 (txs ++ vxs) := .inr ht3
    have st : TiesAt K H3 (txs ++ vxs) (ts ++ tiesD ns ds) := TiesAt.app (hts.same (s1.trans s13)) (tat.same (s1.trans s13))
    refine ⟨tp, t3, n, ns, _, ts ++ tiesD ns ds, rfl, sa, sb, st, pk.more gd few, hn, fun y H4 s4 ny hy => ?_⟩
    exact good gd y H4 (s1.trans (s13.trans s4)) (free_of (s1.trans s13) ny) (WebAt.same (noLst_le (s1.trans s13)) hy)
end
end Pw

set_option Elab.async false
set_option linter.all false
set_option maxRecDepth 100000
set_option maxHeartbeats 4000000
/-! t[::-1] of a pair. -/
namespace Ct
open PySem PySem.Spec PyProof.Rows L2
section
variable {prog : Program} {w : World} {A : Around} {E : Value → Shared → Prop} {s : Shared}
theorem backApplied {q : Addr} {tk : Value} {G : Int × Int × Nat → Shared → Prop} (hq : s.heap.IsSliceOf q .none .none tk) (p1 : IsPart tk (some (-1))) (g : G (1, -1, 2) s) :
    wpAny (model prog w) A (Builtin.Slice.sliceApplied (.ref q) (pure ((2 : Nat) : Int))) G E s := by
  obtain ⟨ob, hob, _, hd⟩ := id hq
  unfold Builtin.Slice.sliceApplied Builtin.Slice.sliceFields
  refine wpAny_bind (wpAny_bind (wpAny_field hob hd (x := .none) rfl (wpAny_bind (wpAny_field hob hd (x := .none) rfl (wpAny_bind (wpAny_field hob hd (x := tk) rfl (wpAny_pure ?_)))))))
  refine wpAny_bind (HT.slicePart_ p1 ?_)
  show wpAny _ _ (if ((-1 : Int) == 0) = true then _ else _) _ _ s
  rw [if_neg (by decide)]
  refine wpAny_bind (slicePart_none (wpAny_bind (slicePart_none (wpAny_bind (wpAny_pure ?_)))))
  exact wpAny_pure g
theorem getBack {t q : Addr} {x y tk : Value} {G : Value → Shared → Prop} (ht : IsTup s.heap t #[x, y]) (hq : s.heap.IsSliceOf q .none .none tk) (p1 : IsPart tk (some (-1)))
    (g : G (.ref s.heap.objs.size) { s with heap := s.heap.push { cls := .type "tuple", data := .seq #[y, x] } }) : wpAny (model prog w) A (getItem (.ref t) (.ref q)) G E s := by
  have fits : sizeOk (.seq #[y, x]) := by show 2 ≤ sizeLine; decide
  obtain ⟨ob, hob, hcl, hd⟩ := id hq
  have isS : s.TypeIs (.ref q) "slice" := ⟨ob, hob, hcl⟩
  unfold getItem
  try with_reducible refine wpAny_holding ?_
  first | refine wpAny_bind (wpAny_pure ?_) | skip
  refine wpAny_bind (wpAny_sequenceKey ht.typeIs (by decide) ?_)
  refine wpAny_bind (wpAny_callSpecial?_slot (name := Str.ofString "__getitem__") ht.typeIs PyProof.Rows.slot_tuple_getitem (wpAny_call_entry PyProof.Rows.slot_tuple_getitem ht.typeIs entry_tuple_getitem ?_ (args_tuple_getitem _ _)))
  show wpAny _ _ (Builtin.Tuple.tupleItemsOf (.ref t) >>= _) _ _ s
  refine wpAny_bind (tupleItemsOf_ ht (wpAny_bind (wpAny_typeOf isS ?_)))
  rw [if_pos (by decide)]
  refine wpAny_bind (backApplied hq p1 ?_)
  show wpAny _ _ (if ((1 : Int) == 0 && (-1 : Int) == 1 && (2 : Nat) == #[x, y].size) = true then _ else _) _ _ s
  rw [if_neg (fun z => by cases z)]
  first
    | exact wpAny_bind (m := Builtin.Tuple.tupleExact _) (wpAny_newObj_type (wpAny_pure ⟨_, rfl, wpAny_pure g⟩) fits)
    | exact wpAny_bind (m := Builtin.Tuple.tupleExact _) (wpAny_newObj_type (wpAny_bind (wpAny_pure (wpAny_pure ⟨_, rfl, wpAny_pure g⟩))) fits)
    | exact wpAny_bind (wpAny_bind (m := Builtin.Tuple.tupleExact _) (wpAny_newObj_type (wpAny_pure (wpAny_pure ⟨_, rfl, wpAny_pure g⟩)) fits))
    | exact wpAny_bind (wpAny_bind (m := Builtin.Tuple.tupleExact _) (wpAny_newObj_type (wpAny_pure ⟨_, rfl, wpAny_pure g⟩) fits))
end
section
variable {X : Cx}
def tBack (K : PySem.W.Frag) (te : TE) : TE := fun σ H Q => te σ H fun v H1 => ∃ a x y, v = .ref a ∧ SqT K H1 a [x, y] ∧ ∀ p, H1 p = none → Q (.ref p) (upd H1 p (.tup [y, x]))
theorem pe_back {e : Expr} {te : TE} {k : Nat} {p1 p2 p3 pos : Pos} (he : PE X e te) : PE X (.Subscript e (.Slice none none (some (.UnaryOp .USub (.Constant (.int 1) k p1) p2)) p3) pos) (tBack X.K te) := by
  refine ⟨fun pins s0 σ H G I h => Subscript_ (thn (he.run pins s0 σ H _ I h) fun v s1 ⟨z, H1, I1, r1, q1⟩ => ?_)⟩
  obtain ⟨a, x, y, ez, hx, g⟩ := q1
  subst ez
  cases r1
  have part : PO X (some (.UnaryOp .USub (.Constant (.int 1) k p1) p2)) (tPart (tUn (rU fun i => .int (-i)) (tC (.int 1)))) := po_some (pe_un un_neg pe_int)
  refine wpAny_Slice (thn (po_none.run pins s1 σ H1 (fun o J => o = none ∧ J = H1) I1 ⟨rfl, rfl⟩) fun vl s2 ⟨l, H2, I2, pl, el, e2⟩ => ?_)
  subst el e2
  refine thn (po_none.run pins s2 σ H2 (fun o J => o = none ∧ J = H2) I2 ⟨rfl, rfl⟩) fun vh s3 ⟨u, H3, I3, pu, eu, e3⟩ => ?_
  subst eu e3
  refine thn (part.run pins s3 σ H3 (fun o J => o = some (-1) ∧ J = H3) I3 ⟨1, rfl, -1, rfl, rfl, rfl⟩) fun vs s4 ⟨o, H4, I4, ps, eo, e4⟩ => ?_
  subst eo e4
  cases pl
  cases pu
  have I5 : Inv X pins σ H4 { s4 with heap := s4.heap.push { cls := .type "slice", data := .fields #[.none, .none, vs] } } := I4.kept (t' := s4.toks) fun b ob z => Heap.get?_push_of_some _ z
  obtain ⟨its, r, ht, hz⟩ := I5.tuple hx
  cases r with
  | cons ra r =>
    cases r with
    | cons rb r =>
      cases r
      rename_i ua ub
      refine tail_any (ops := [.ref a, .ref s4.heap.objs.size]) ht.typeIs (PyProof.Rows.slot_tuple_getitem.lookup) ?_ (by with_unfolding_all rfl)
      refine getBack (x := ua) (y := ub) ht (Heap.IsSliceOf.new _ .none .none vs) ps ?_
      refine ⟨.ref _, _, I5.laid (t' := s4.toks) (o := .tup [y, x]) (fun b ob z => Heap.get?_push_of_some _ z) (Nat.le_refl _) ?_, rfl, g _ (I5.hok.fresh (Nat.le_refl _))⟩
      exact ⟨by show 2 ≤ sizeLine; decide, [ub, ua], .cons rb (.cons ra .nil), IsTup.new _ _⟩
end
end Ct

set_option Elab.async false
set_option linter.all false
set_option maxRecDepth 100000
set_option maxHeartbeats 4000000
/-! try with several clauses that give the exception a name. -/
namespace Ct
open PySem PySem.Spec PyProof.Rows L2
/-- what a suite's end is behind the name's removal -/
def endsGone (i : Nat) (D : Ends) : Ends := { nx := fun τ G => D.nx (τ.set i none) G, rt := D.rt, bk := fun τ G => D.bk (τ.set i none) G, ct := fun τ G => D.ct (τ.set i none) G }
abbrev Clause := Value × Nat × (Addr → Value → Option Addr → TS)
/-- what the clauses wish, one after the other -/
def wNamed (K : PySem.W.Frag) (Wout : WX) (D : Ends) : List Clause → WX
  | [] => Wout
  | q :: r => fun k d τ G => ∃ yes, PySem.W.exmOne K k q.1 = some yes ∧ (yes = true → ∀ a, G a = none → q.2.2 a k d (endsGone q.2.1 D) (τ.set q.2.1 (some (.ref a))) G) ∧ (yes = false → wNamed K Wout D r k d τ G)
inductive Clauses (X : Cx) : List ExceptHandler → List Clause → Prop
  | nil : Clauses X [] []
  | cons {n x : Str} {c : Value} {i : Nat} {t : Addr → Value → Option Addr → TS} {b : Stmt} {bs : List Stmt} {p1 p2 : Pos} {hds : List ExceptHandler} {l : List Clause} (nm : Names X x c) (at_ : X.N[i]? = some n) (lo : X.env.kindOf n = some .local)
      (su : ∀ (a : Addr) (o : Obj) (k : Value) (d : Option Addr) (pn : List (Addr × Obj)), Zc k d o → (∃ vs, o.data = .fields vs) → PSs (X.suite a ((a, o) :: pn)) (b :: bs) (t a k d)) (r : Clauses X hds l) :
      Clauses X (.ExceptHandler (some (.Name x p1)) (some n) (b :: bs) p2 :: hds) ((c, i, t) :: l)
/-- an exception that has been noted and looked at -/
structure Air (X : Cx) (pins : List (Addr × Obj)) (B : Heap) (s0 s1 : Shared) (τ : L2.St) (G : Hp) (k : Value) (d : Option Addr) (a : Addr) (h : Heap) : Prop where
  inv : Inv X pins τ G s0
  keep : ∀ b o, s0.heap.get? b = some o → b ∉ frs X.stack → B.get? b = some o
  fly : HandSPX.FlyingZ B (X.env :: X.outer) a (Zc k d) h
  up : s0.heap.UpToSlots h
  os : s1.os = s0.os
  bare : AllBare s1.gens
  free : G a = none
  notL : a ≠ X.env.locals
  notF : a ∉ X.fs
section
variable {X : Cx} {pins : List (Addr × Obj)} {B : Heap} {s0 s1 : Shared} {τ : L2.St} {G : Hp} {k : Value} {d : Option Addr} {a : Addr} {h : Heap}
theorem Air.now (A : Air X pins B s0 s1 τ G k d a h) : Inv X pins τ G { s1 with heap := h } := A.inv.landed (s' := { s1 with heap := h }) A.keep A.fly.1 A.up A.os A.bare
theorem Air.within (A : Air X pins B s0 s1 τ G k d a h) : ∃ o, h.get? a = some o ∧ Zc k d o ∧ (∃ vs, o.data = .fields vs) ∧ Inv (X.suite a ((a, o) :: (X.pn ++ pins))) [] τ G { s1 with heap := h } := by
  obtain ⟨o, vs, e1, e2, e3⟩ := A.fly.there
  exact ⟨o, e1, e2, ⟨vs, e3⟩, A.now.suite e1 e3 A.free A.notL A.notF⟩
theorem Air.move (A : Air X pins B s0 s1 τ G k d a h) {h' : Heap} (f : HandSPX.FlyingZ B (X.env :: X.outer) a (Zc k d) h') (u : h.UpToSlots h') : Air X pins B s0 s1 τ G k d a h' :=
  ⟨A.inv, A.keep, f, A.up.trans u, A.os, A.bare, A.free, A.notL, A.notF⟩
/-- the clause's question -/
theorem Air.asks (A : Air X pins B s0 s1 τ G k d a h) {x : Str} {c : Value} {p : Pos} {yes : Bool} (nm : Names X x c) (e : PySem.W.exmOne X.K k c = some yes) {R : Bool → Shared → Prop} {E : Value → Shared → Prop} (r : R yes { s1 with heap := h }) :
    wpAny (model X.prog X.w) (X.A.mark (some (.ref a))) (eval (.Name x p) X.env) (fun v s => wpAny (model X.prog X.w) (X.A.mark (some (.ref a))) (excMatches (.ref a) v) R E s) E { s1 with heap := h } := by
  obtain ⟨o, e1, e2, _, S⟩ := A.within
  have L : PySem.W.Looks (model X.prog X.w) h (typeOf (.ref a)) k := fun _ _ _ _ z g => wpAny_typeOf_ref (z _ _ e1) (by rw [e2.1]; exact g)
  have M := PySem.W.exm_one (M := model X.prog X.w) A.now.kIn L e
  obtain ⟨g1, g2, g3 | ⟨g3, g4, g5⟩⟩ := nm
  · exact ld_glob (X := X.suite a ((a, o) :: (X.pn ++ pins))) S g1 g3 (M.here r) g2
  · exact ld_blt (X := X.suite a ((a, o) :: (X.pn ++ pins))) S g1 g3 g4 (M.here r) g5 g2
/-- no clause is left: it goes on -/
theorem Air.goesOn (A : Air X pins B s0 s1 τ G k d a h) (hs : X.stack = X.env :: X.outer) (hf : X.env.frame = some X.env.locals) {W : WX} (tk : Takes X W) {D : Ends} (w : W k d τ G) :
    wpAny (model X.prog X.w) X.A (handleBy (.ref a) X.env []) (SP X pins D) X.xe { s1 with heap := h } := by
  refine wpAny_handleBy_nil ?_
  obtain ⟨_, _, _, o, vs, tb, _, _, e1, _, e3, e4, _⟩ := id A.fly
  have last : wpAny (model X.prog X.w) X.A (setFlight (.ref a) X.env.frame) (fun _ s => wpAny (model X.prog X.w) X.A (throw (.ref a) : Sem Flow) (SP X pins D) X.xe s) X.xe { s1 with heap := h } := by
    rw [hf]
    exact HandSPX.setFlight_upZ A.fly fun h4 f4 u4 => wpAny_throw (tk _ _ ⟨a, B, s0, pins, τ, G, k, d, rfl, A.inv, A.keep, A.up.trans u4, .inr (.inr (by rw [hs]; exact f4)), A.free, A.os, A.bare, w⟩)
  unfold PySem.passOn
  refine wpAny_bind (wpAny_field e1 e3 e4 ?_)
  rw [if_neg (fun z => nomatch (eq_of_beq z : Value.ref tb = Value.none))]
  first
    | exact wpAny_bind (wpAny_pure (wpAny_bind last))
    | exact wpAny_bind last
theorem Air.handled (hs : X.stack = X.env :: X.outer) (hf : X.env.frame = some X.env.locals) (nd : X.N.Nodup) {W : WX} (tk : Takes X W) {D : Ends} : ∀ {hds : List ExceptHandler} {l : List Clause}, Clauses X hds l → Air X pins B s0 s1 τ G k d a h → wNamed X.K W D l k d τ G →
    wpAny (model X.prog X.w) X.A (handleBy (.ref a) X.env hds) (SP X pins D) X.xe { s1 with heap := h } := by
  intro hds l cl A
  induction cl with
  | nil => exact fun w => A.goesOn hs hf tk w
  | @cons n x c i t b bs p1 p2 hds l nm at_ lo su r ih =>
    rintro ⟨yes, e, wy, wn⟩
    refine wpAny_handleBy_cons (codeAny_handlers_test (A.asks nm e ?_)) (fun z => nomatch z)
    cases yes with
    | false => exact ih (wn rfl)
    | true =>
      refine codeAny_handlers_suite_as (HandSPX.lands_againZ A.fly fun h4 f4 u4 => ?_)
      have A4 := A.move f4 u4
      obtain ⟨o, e1, e2, e3, S⟩ := A4.within
      refine store_ok (X := X.suite a ((a, o) :: (X.pn ++ pins))) (v := .ref a) S nd at_ (.inl lo) rfl (fun s5 S5 => ?_) (.inr lo)
      refine wpAny_mono ((su a o k d (X.pn ++ pins) e2 e3).run [] s5 _ G _ S5 (wy rfl a A.free)) (fun f s6 z => ?_) (fun _ _ z => z.elim)
      have gone : ∀ {τ6 : L2.St} {G6 : Hp} {R : Shared → Prop}, Inv (X.suite a ((a, o) :: (X.pn ++ pins))) [] τ6 G6 s6 → (∀ s7, Inv X pins (τ6.set i none) G6 s7 → R s7) → wpAny (model X.prog X.w) X.A (do bindName X.env n .none; unbindBehindTheSuite X.env n p2) (fun _ s7 => R s7) X.xe s6 :=
        fun {τ6 G6 R} I6 z => gone_ok (I6.unsuite A.inv.ok) nd at_ lo z
      cases f with
      | ret u => obtain ⟨v6, τ6, G6, I6, r6, z6⟩ := z; exact gone I6 fun s7 J7 => ⟨_, _, _, J7, r6, z6⟩
      | next => obtain ⟨τ6, G6, I6, z6⟩ := z; exact gone I6 fun s7 J7 => ⟨_, _, J7, z6⟩
      | brk => obtain ⟨τ6, G6, I6, z6⟩ := z; exact gone I6 fun s7 J7 => ⟨_, _, J7, z6⟩
      | cont => obtain ⟨τ6, G6, I6, z6⟩ := z; exact gone I6 fun s7 J7 => ⟨_, _, J7, z6⟩
end
section
variable {X : Cx} {body : List Stmt} {hd : ExceptHandler} {hds : List ExceptHandler} {l : List Clause} {pos : Pos} {tb : WX → TS} {Wout : WX}
/-- try: body / except A as n: .. / except B as n: .. -/
theorem ps_try_named (hs : X.stack = X.env :: X.outer) (hf : X.env.frame = some X.env.locals) (nd : X.N.Nodup) (tk : Takes X Wout) (cl : Clauses X (hd :: hds) l)
    (hb : ∀ (W : WX) (pn : List (Addr × Obj)) (xe : Value → Shared → Prop), Takes (X.tr pn xe) W → PassesOwn (model X.prog X.w) X.A X.env xe → PSs (X.tr pn xe) body (tb W)) : PS X (.Try body (hd :: hds) [] [] pos) (fun D σ H => tb (wNamed X.K Wout D l) D σ H) := by
  refine ⟨fun pins s σ H D I q => wpAny_Try_except ?_⟩
  have ok := I.ok
  refine wpAny_mono ((hb (wNamed X.K Wout D l) (X.pn ++ pins) (fun u z => wpAny (model X.prog X.w) X.A (noteFrame u X.env) (fun _ z => wpAny (model X.prog X.w) X.A (setFlight u none) (fun _ z =>
    wpAny (model X.prog X.w) X.A (handleBy u X.env (hd :: hds)) (SP X pins D) X.xe z) X.xe z) X.xe z) (fun u s2 xx => ?_) PassesOwn.looking).run [] s σ H D (I.toTry _) q) (fun f s2 z => ?_) (fun _ _ z => z)
  · obtain ⟨a, B, s0, _, τ, G, k, d, rfl, J, keep, up, sky, free, os, bare, w⟩ := xx
    have frames : X.A.frames = some (X.env :: X.outer) := by rw [ok.frames, hs]
    refine Sky.land (env := X.env) (outer := X.outer) Zc.steady frames hf (hs ▸ sky) fun h3 f3 u3 => ?_
    obtain ⟨o, vs, e1, _, e3⟩ := f3.there
    have nf : a ∉ frs (X.env :: X.outer) := fun m => by
      obtain ⟨_, o', e', n'⟩ := f3.2.2.1.mem m
      cases e1.symm.trans e'
      exact n' _ e3
    refine Air.handled hs hf nd tk cl ⟨J.ofTry ok, keep, f3, up.trans u3, os, bare, free, fun z => ?_, fun m => ?_⟩ w
    · exact nf (List.mem_filterMap.mpr ⟨X.env, List.mem_cons_self, by rw [hf, z]⟩)
    · obtain ⟨e, m1, m2⟩ := List.mem_filterMap.mp m
      exact nf (List.mem_filterMap.mpr ⟨e, List.mem_cons_of_mem _ m1, m2⟩)
  · cases f with
    | ret u => obtain ⟨v, τ, G, J, r, z⟩ := z; exact ⟨v, τ, G, J.ofTry ok, r, z⟩
    | next => obtain ⟨τ, G, J, z⟩ := z; exact wpAny_execs_nil ⟨τ, G, J.ofTry ok, z⟩
    | brk => obtain ⟨τ, G, J, z⟩ := z; exact ⟨τ, G, J.ofTry ok, z⟩
    | cont => obtain ⟨τ, G, J, z⟩ := z; exact ⟨τ, G, J.ofTry ok, z⟩
end
end Ct
namespace Ct
open PySem PySem.Spec PyProof.Rows L2
section
variable {X : Cx}
/-- error.n of the exception that the clause has named -/
def tCaught (K : PySem.W.Frag) (a : Addr) (k : Value) (d : Option Addr) (n : Str) (te : TE) : TE := fun σ H Q => te σ H fun x G => x = .ref a ∧ ∃ (C dd : Addr) (fs : List (Str × V)) (v : V), k = .ref C ∧ d = some dd ∧ G dd = some (.xd fs) ∧ ExcC K C ∧ PySem.W.findIn K (.ref C) n = some none ∧ fs.lookup n = some v ∧ Q v G
theorem pe_caught {a : Addr} {o : Obj} {k : Value} {d : Option Addr} {pn : List (Addr × Obj)} {e : Expr} {te : TE} {n : Str} {pos : Pos} {K : PySem.W.Frag} (hK : X.K = K) (hz : Zc k d o) (hf : ∃ vs, o.data = .fields vs) (he : PE (X.suite a ((a, o) :: pn)) e te)
    (hb : attributeBase e n X.env (eval e X.env) = eval e X.env := by rfl) : PE (X.suite a ((a, o) :: pn)) (.Attribute e n pos) (tCaught K a k d n te) := by
  subst hK
  refine ⟨fun pins s σ H Q I h => attr_of hb (thn (he.run pins s σ H _ I h) fun u s1 hh => ?_)⟩
  obtain ⟨x, G, J, rx, ex, C, dd, fs, v, ec, ed, ea, T, no, l, q⟩ := hh
  subst ex ec ed
  cases (show u = Value.ref a from rx)
  obtain ⟨here, _⟩ := J.pin (a, o) (List.mem_append_left _ List.mem_cons_self)
  obtain ⟨vs, dat⟩ := hf
  obtain ⟨mA, ns, rl⟩ : ObjOk X.prog X.w G s1.heap dd (.xd fs) := J.hok dd _ ea
  obtain ⟨od, hod, lk⟩ := lookIn_ns ns
  obtain ⟨u, hu, ru⟩ := RelO.some_of (v := v) (o := mA n) (by rw [← l]; exact rl n)
  have inst : PySem.W.InstAt s1.heap a o C (some od) := ⟨here, hz.1, by unfold PySem.W.notCls; rw [dat] <;> rfl, by rw [hz.2]; exact hod⟩
  exact PySem.HandSPX.exc_get J.kIn inst T.hg T.hk T.hs (PySem.W.findObj_own T.hd no rfl (by rw [lk, hu])) (handed_of ru) ⟨v, G, J.tok _, ru, q⟩
end
end Ct

set_option Elab.async false
set_option linter.all false
set_option maxRecDepth 100000
set_option maxHeartbeats 4000000
/-! One promise behind a statement; a dict display of one pair with a tuple for its key; what is shown of data. -/
namespace Ct
open PySem PySem.Spec PyProof.Rows L2
/-- a statement's end told once, for all its ways -/
def tJoin (t : TS) : TS := fun D σ H => ∃ J : L2.St → Hp → Prop, t { D with nx := J } σ H ∧ ∀ τ G, J τ G → D.nx τ G
section
variable {X : Cx}
theorem ps_join {st : Stmt} {t : TS} (h : PS X st t) : PS X st (tJoin t) := by
  refine ⟨fun pins s σ H D I ⟨J, h1, h2⟩ => ?_⟩
  refine wpAny_mono (h.run pins s σ H { D with nx := J } (I.wish _) h1) (fun f s1 q => ?_) (fun _ _ z => z)
  have q' : SP X pins { D with nx := J } f s1 := q
  cases f with
  | next => obtain ⟨τ, G, I2, q2⟩ := q'; exact ⟨τ, G, I2, h2 _ _ q2⟩
  | ret v => exact q'
  | brk => exact q'
  | cont => exact q'
def tDispT (tk tv : TE) : TE := fun σ H Q => ∀ p, H p = none → tk σ (upd H p (.dT [])) fun x H1 => tv σ H1 fun y H2 => ∃ (b : Addr) (k : List Key), x = .ref b ∧ H2 b = some (.tup (k.map kV)) ∧ H2 p = some (.dT []) ∧ Q (.ref p) (upd H2 p (.dT [(k, y)]))
theorem pe_dispT {k v : Expr} {tk tv : TE} {pos : Pos} (hu : X.A.units + 1 < cLine) (hk : PE X k tk) (hv : PE X v tv) : PE X (.Dict [some k] [v] pos) (tDispT tk tv) := by
  have hh : PPs X pos [some k] [v] [(tk, tv)] := pps_cons hk hv pps_nil
  refine ⟨fun pins s σ H Q I q => ?_⟩
  have hn := I.hok.fresh (Nat.le_refl s.heap.objs.size)
  have I1 := I.laid (a := s.heap.objs.size) (o := .dT []) (h' := s.heap.push { cls := .type "dict", data := .dict #[] }) (t' := s.toks) (fun _ _ z => Heap.get?_push_of_some _ z) (Nat.le_refl _) (dt_empty s.heap I.big)
  have mono : ∀ {τ : L2.St} {G : Hp}, tk τ G (fun x H1 => tv τ H1 fun y H2 => ∃ (b : Addr) (k : List Key), x = .ref b ∧ H2 b = some (.tup (k.map kV)) ∧ H2 s.heap.objs.size = some (.dT []) ∧ Q (.ref s.heap.objs.size) (upd H2 s.heap.objs.size (.dT [(k, y)]))) →
      tPairs [(tk, tv)] τ G (fun ps H2 => ∃ (b : Addr) (k : List Key) (y : V), ps = [(.ref b, y)] ∧ H2 b = some (.tup (k.map kV)) ∧ H2 s.heap.objs.size = some (.dT []) ∧ Q (.ref s.heap.objs.size) (upd H2 s.heap.objs.size (.dT [(k, y)]))) := by
    intro τ G z
    show tk τ G fun x H1 => tv τ H1 fun y H2 => ∃ (b : Addr) (k : List Key) (y' : V), [(x, y)] = [(.ref b, y')] ∧ _
    have e : (fun (x : V) (H1 : Hp) => tv τ H1 fun y H2 => ∃ (b : Addr) (k : List Key), x = .ref b ∧ H2 b = some (.tup (k.map kV)) ∧ H2 s.heap.objs.size = some (.dT []) ∧ Q (.ref s.heap.objs.size) (upd H2 s.heap.objs.size (.dT [(k, y)]))) =
        fun (x : V) (H1 : Hp) => tv τ H1 fun y H2 => ∃ (b : Addr) (k : List Key) (y' : V), [(x, y)] = [(V.ref b, y')] ∧ H2 b = some (.tup (k.map kV)) ∧ H2 s.heap.objs.size = some (.dT []) ∧ Q (.ref s.heap.objs.size) (upd H2 s.heap.objs.size (.dT [(k, y')])) := by
      funext x H1
      refine congrArg _ ?_
      funext y H2
      refine propext ⟨fun ⟨b, k, e, r⟩ => ⟨b, k, y, by rw [e], r⟩, fun ⟨b, k, y', e, r⟩ => ?_⟩
      cases e
      exact ⟨b, k, rfl, r⟩
    rw [← e]
    exact z
  rw [arm_eval_Dict, zip_pairTrees [some k] [v] X.env pos (by rfl) (by rfl), dictDisplay_pairs _ (fun z => ?_) (by have := pairTrees_length [some k] [v] X.env pos (by rfl) (by rfl); rw [this]; show 1 < 17; decide)]
  · refine wpAny_bind (wpAny_standAt (wpAny_bind (wpAny_subDictH (knd := tupleKind (mixKind X.prog X.w)) (Q := fun d s' => wpAny (model X.prog X.w) X.A (pure (Value.ref d)) (EP X pins σ Q) X.xe s') (show X.A.units < cLine by omega) (by rw [pairTrees_length [some k] [v] X.env pos (by rfl) (by rfl)]; show 1 ≤ 15; decide) ?_)))
    refine thn (hh.run pins _ σ _ _ I1 (mono (q _ hn))) fun ws s2 ⟨ps, H2, I2, rel, b, ks, y, ep, hb, hd, q2⟩ => ?_
    subst ep
    cases rel with
    | @cons p1 w1 _ _ r1 t1 =>
      cases t1
      obtain ⟨wk, wv⟩ := w1
      obtain ⟨r1, r2⟩ := r1
      cases (show wk = Value.ref b from r1)
      obtain ⟨_, h2, xs, rel0, dd⟩ := dt_of I2.hok hd
      cases rel0
      refine ⟨[(ks, b, wv)], ⟨rfl, rfl, key_of I2.hok hb, trivial⟩, dd, fun h' tk' dd' hs => wpAny_pure ⟨.ref s.heap.objs.size, _, ?_, rfl, q2⟩⟩
      obtain ⟨o, es, ep, hq, g2, g3, g4, _, g5⟩ := dd'
      refine d_write I2 (by rw [hd]; exact True.intro) hs ⟨o, hq⟩ ⟨by show 1 ≤ sizeLine; decide, h2, _, .cons ⟨rfl, ?_, r2⟩ .nil, o, es, ep, hq, g2, g3, g4, g5⟩
      rw [upd_ne (ne_of hb hd (fun z => nomatch z))]
      exact hb
  · have := pairTrees_length [some k] [v] X.env pos (by rfl) (by rfl)
    rw [z] at this
    exact absurd (show 0 = 1 from this) (by decide)
end
end Ct

set_option Elab.async false
set_option linter.all false
set_option maxRecDepth 100000
set_option maxHeartbeats 4000000
namespace Pw
open PySem PySem.Spec PyProof.Rows L2 Ct
local macro_rules | `(tactic| wide_line) => `(tactic| repeat ((fail_if_success (with_reducible refine at_while ?_)); (fail_if_success (with_reducible refine at_while1 ?_)); (conv => whnf); first | ((with_reducible refine And.intro ?_ ?_); focus (first | (first | ((with_reducible show (_ : Nat) ≤ _); first | exact sz0 | exact sz1 | exact sz2 | exact sz3 | exact sz4 | exact sz5 | exact sz6 | exact sz7 | exact sz8 | exact sz10 | exact sz11 | exact sz12 | exact sz14 | omega | decide | (simp only [List.length_cons, List.length_nil]; omega)) | ((with_reducible show (_ : Int) ≤ _); first | omega | decide) | ((with_reducible show (_ : Int) < _); first | omega | decide) | ((with_reducible show (_ : Nat) < _); omega)) | ((fail_if_success (with_reducible show (_ : Nat) ≤ _)); (fail_if_success (with_reducible show (_ : Int) ≤ _)); (fail_if_success (with_reducible show (_ : Int) < _)); (fail_if_success (with_reducible show (_ : Nat) < _)); first | exact kv_str _ | exact kv_int _ | rfl | assumption | exact flat_strs _ | exact Lv.get (by assumption) 0 rfl | exact Lv.get (by assumption) 1 rfl | exact Lv.get (by assumption) 2 rfl | exact Lv.get (by assumption) 3 rfl | exact Lv.get (by assumption) 4 rfl | exact Lv.get (by assumption) 5 rfl | exact Lv.get (by assumption) 6 rfl | exact SqL.of (Lv.get (by assumption) 0 rfl) | exact SqL.of (Lv.get (by assumption) 1 rfl) | exact SqL.of (Lv.get (by assumption) 2 rfl) | exact SqL.of (Lv.get (by assumption) 3 rfl) | exact SqL.of (Lv.get (by assumption) 4 rfl) | exact SqL.of (Lv.get (by assumption) 5 rfl) | exact Or.inl (SqL.of (Lv.get (by assumption) 0 rfl)) | exact Or.inl (SqL.of (Lv.get (by assumption) 1 rfl)) | exact Or.inl (SqL.of (Lv.get (by assumption) 2 rfl)) | exact Or.inl (SqL.of (Lv.get (by assumption) 3 rfl)) | exact Or.inl (SqL.of (Lv.get (by assumption) 4 rfl)) | exact Or.inl (SqL.of (Lv.get (by assumption) 5 rfl)) | exact ⟨_, SqL.of (Lv.get (by assumption) 0 rfl)⟩ | exact ⟨_, SqL.of (Lv.get (by assumption) 1 rfl)⟩ | exact ⟨_, SqL.of (Lv.get (by assumption) 2 rfl)⟩ | exact ⟨_, SqL.of (Lv.get (by assumption) 3 rfl)⟩ | exact ⟨_, SqL.of (Lv.get (by assumption) 4 rfl)⟩ | exact ⟨_, SqL.of (Lv.get (by assumption) 5 rfl)⟩ | exact Or.inl ⟨_, SqL.of (Lv.get (by assumption) 0 rfl), rfl⟩ | exact Or.inl ⟨_, SqL.of (Lv.get (by assumption) 1 rfl), rfl⟩ | exact Or.inl ⟨_, SqL.of (Lv.get (by assumption) 2 rfl), rfl⟩ | exact Or.inl ⟨_, SqL.of (Lv.get (by assumption) 3 rfl), rfl⟩ | exact Or.inl ⟨_, SqL.of (Lv.get (by assumption) 4 rfl), rfl⟩ | exact Or.inl ⟨_, SqL.of (Lv.get (by assumption) 5 rfl), rfl⟩ | exact Or.inl ⟨rfl, _, SqL.of (Lv.get (by assumption) 0 rfl)⟩ | exact Or.inl ⟨rfl, _, SqL.of (Lv.get (by assumption) 1 rfl)⟩ | exact Or.inl ⟨rfl, _, SqL.of (Lv.get (by assumption) 2 rfl)⟩ | exact Or.inl ⟨rfl, _, SqL.of (Lv.get (by assumption) 3 rfl)⟩ | exact Or.inl ⟨rfl, _, SqL.of (Lv.get (by assumption) 4 rfl)⟩ | exact Or.inl ⟨rfl, _, SqL.of (Lv.get (by assumption) 5 rfl)⟩ | exact Or.inr (SqT.of (Lv.get (by assumption) 0 rfl)) | exact Or.inr (SqT.of (Lv.get (by assumption) 1 rfl)) | exact Or.inr (SqT.of (Lv.get (by assumption) 2 rfl)) | exact Or.inr (SqT.of (Lv.get (by assumption) 3 rfl)) | exact SqT.of (Lv.get (by assumption) 0 rfl) | exact SqT.of (Lv.get (by assumption) 1 rfl) | exact SqT.of (Lv.get (by assumption) 2 rfl) | exact dgetN (Lv.get (by assumption) 0 rfl) (by assumption) | exact dgetN (Lv.get (by assumption) 1 rfl) (by assumption) | exact dgetN (Lv.get (by assumption) 2 rfl) (by assumption) | exact dgetN (Lv.get (by assumption) 3 rfl) (by assumption) | exact dgetN (Lv.get (by assumption) 4 rfl) (by assumption) | exact Or.inl (by assumption) | exact Or.inr (by assumption) | decide | ((with_reducible show _ ∧ _); omega)))) | ((fail_if_success (with_reducible apply @Exists.intro (Nat → _))); (with_reducible apply Exists.intro))))
local macro_rules
  | `(tactic| wide_line with al $lv:ident $l:ident $nl:ident $H:ident $lv1:ident $s1:ident) => `(tactic| (intro $l:ident $nl:ident; generalize he : upd _ _ _ = $H:ident; have $lv1:ident := Lv.alE $lv $nl he; have $s1:ident := sameE $nl he; clear he; (try dsimp only at $lv1:ident)))
  | `(tactic| wide_line with alx $lv:ident $nl:ident $H:ident $lv1:ident $s1:ident) => `(tactic| (generalize he : upd _ _ _ = $H:ident; have $lv1:ident := Lv.alE $lv $nl he; have $s1:ident := sameE $nl he; clear he; (try dsimp only at $lv1:ident)))
  | `(tactic| wide_line with sts $lv:ident $i:num $H:ident $lv1:ident $s0:ident $np:ident $s1:ident) => `(tactic| (generalize he : upd _ _ _ = $H:ident; have $lv1:ident := Lv.stE $lv $i rfl he; have $s1:ident := sameN $s0 $np he; clear he; (try dsimp only at $lv1:ident)))
  | `(tactic| wide_line with stx $lv:ident $H:ident $lv1:ident $d1:ident) => `(tactic| (generalize he : upd _ _ _ = $H:ident; have $lv1:ident := Lv.stE $lv 0 rfl he; have $d1:ident := SameD.storeE (Lv.get $lv 0 rfl) he; clear he; (try dsimp only at $lv1:ident)))
  | `(tactic| wide_line with st $lv:ident $i:num $H:ident $lv1:ident) => `(tactic| (generalize he : upd _ _ _ = $H:ident; have $lv1:ident := Lv.stE $lv $i rfl he; clear he; (try dsimp only at $lv1:ident)))
  | `(tactic| wide_line with stk $lv:ident $i:num $H:ident $lv1:ident $k1:ident) => `(tactic| (generalize he : upd _ _ _ = $H:ident; have $lv1:ident := Lv.stE $lv $i rfl he; have $k1:ident := KeepT.st (Lv.get $lv $i rfl) he; clear he; (try dsimp only at $lv1:ident)))
theorem same_l {K : PySem.W.Frag} {H H' : Hp} {a : Addr} {xs : List V} (s : Same H H') (h : SqL K H a xs) : SqL K H' a xs := by
  rcases h with (h | ⟨o, h⟩) | h
  · exact .inl (.inl (s _ _ h))
  · exact .inl (.inr ⟨o, s _ _ h⟩)
  · exact .inr h
theorem str_ext {x y : Str} (h : x.cps.toList = y.cps.toList) : x = y := by
  obtain ⟨⟨a⟩⟩ := x
  obtain ⟨⟨b⟩⟩ := y
  exact congrArg (fun l => (⟨⟨l⟩⟩ : Str)) h
theorem pairS_sw (x y : Str) : pairS x y = pairS y x := by
  unfold pairS ltS
  by_cases h1 : x.cps.toList < y.cps.toList
  · rw [decide_eq_true h1, if_pos rfl, decide_eq_false (List.lt_asymm h1), if_neg Bool.false_ne_true]
  · rw [decide_eq_false h1, if_neg Bool.false_ne_true]
    by_cases h2 : y.cps.toList < x.cps.toList
    · rw [decide_eq_true h2, if_pos rfl]
    · rw [decide_eq_false h2, if_neg Bool.false_ne_true]
      have : x = y := str_ext (List.le_antisymm h2 h1)
      rw [this]
theorem eqv_str (x y : Str) : PyData.eqv (.str x) (.str y) = decide (x = y) := by
  rw [PyData.eqv, Bool.eq_iff_iff, decide_eq_true_eq, beq_iff_eq]
theorem eqv_tie (p q : Str × Str) : PyData.eqv (tieDat p) (tieDat q) = decide (p = q) := by
  obtain ⟨a, b⟩ := p
  obtain ⟨c, d⟩ := q
  show PyData.eqvAll [.str a, .str b] [.str c, .str d] = _
  rw [PyData.eqvAll, PyData.eqvAll, PyData.eqvAll, eqv_str, eqv_str, Bool.and_true, Bool.eq_iff_iff, decide_eq_true_eq, Bool.and_eq_true, decide_eq_true_eq, decide_eq_true_eq]
  exact ⟨fun ⟨h1, h2⟩ => by rw [h1, h2], fun h => by cases h; exact ⟨rfl, rfl⟩⟩
theorem any_tie (ps : List (Str × Str)) (q : Str × Str) : ((ps.map tieDat).any fun z => PyData.eqv z (tieDat q)) = decide (q ∈ ps) := by
  rw [Bool.eq_iff_iff, decide_eq_true_eq, List.any_map, List.any_eq_true]
  constructor
  · rintro ⟨y, hy, e⟩
    have e : decide (y = q) = true := (eqv_tie y q) ▸ e
    exact (of_decide_eq_true e) ▸ hy
  · exact fun h => ⟨q, h, by show PyData.eqv (tieDat q) (tieDat q) = true; rw [eqv_tie]; exact decide_eq_true rfl⟩
def okTie (t : Str × Str) : Prop := okName t.1 = true ∧ okName t.2 = true
theorem lay_tie {q : Str × Str} (h : okTie q) : (tieDat q).canLay0 = true ∧ (tieDat q).depth ≤ 50 := by
  refine ⟨?_, by simp [tieDat, PyData.depth, PyData.depthAll]⟩
  unfold tieDat
  rw [PyData.canLay0, PyData.canLayAll0, PyData.canLayAll0, PyData.canLayAll0, PyData.canLay0, PyData.canLay0, strOk_of h.1, strOk_of h.2]
  rfl
theorem shaped_tie {q : Str × Str} (h : okTie q) : SeqAt.shaped (tieDat q) = true := by
  obtain ⟨h1, h2⟩ := lay_tie h
  unfold SeqAt.shaped
  rw [h1, Bool.true_and]
  exact decide_eq_true (by omega)
theorem shaped_list {ds : List PyData} (h : ∀ d ∈ ds, d.canLay0 = true ∧ d.depth ≤ 50) : SeqAt.shaped (.list ds) = true := by
  unfold SeqAt.shaped
  rw [Bool.and_eq_true, decide_eq_true_eq]
  refine ⟨?_, ?_⟩
  · rw [PyData.canLay0]
    exact lays_of fun d hd => (h d hd).1
  · have := depths_of (m := 50) fun d hd => (h d hd).2
    simp only [PyData.depth]
    omega
theorem shaped_ties {ps : List (Str × Str)} (h : ∀ t ∈ ps, okTie t) : SeqAt.shaped (.list (ps.map tieDat)) = true := shaped_list fun d hd => by
  obtain ⟨t, ht, rfl⟩ := List.mem_map.mp hd
  exact lay_tie (h t ht)
theorem dp_ties {K : PySem.W.Frag} {H : Hp} : ∀ {xs : List V} {ts : List (Str × Str)}, TiesAt K H xs ts → DpAll K H xs (ts.map tieDat)
  | _, _, .nil => .nil
  | _, _, .cons ⟨a, e, h⟩ t => .cons (by subst e; exact .tup h (.cons (.str _) (.cons (.str _) .nil))) (dp_ties t)
theorem pairP_eq {t u : Str × Str} : pairP t = pairP u ↔ t = u ∨ (t.2, t.1) = u := by
  obtain ⟨x, y⟩ := t
  obtain ⟨a, b⟩ := u
  unfold pairP
  constructor
  · intro e
    dsimp only at e
    rcases pairS_or x y with z | z <;> rcases pairS_or a b with z' | z' <;> rw [z, z'] at e <;> cases e
    · exact .inl rfl
    · exact .inr rfl
    · exact .inr rfl
    · exact .inl rfl
  · rintro (h | h)
    · cases h; rfl
    · cases h
      exact pairS_sw x y
/-- a tie that is not known yet -/
def newTie (ns : List Str) (qs : List (Str × Str)) (d : PyData) : Bool := match tieOf ns d with
  | some t => !decide (t ∈ qs) && !decide ((t.2, t.1) ∈ qs)
  | none => false
theorem newTie_eq {ns : List Str} {qs : List (Str × Str)} {d : PyData} {t : Str × Str} (h : tieOf ns d = some t) : newTie ns qs d = !decide (pairP t ∈ qs.map pairP) := by
  unfold newTie
  rw [h]
  dsimp only
  rw [← Bool.not_or, ← Bool.decide_or]
  refine congrArg _ (decide_eq_decide.mpr ⟨fun z => ?_, fun z => ?_⟩)
  · rcases z with z | z
    · exact List.mem_map.mpr ⟨_, z, rfl⟩
    · exact List.mem_map.mpr ⟨_, z, (pairP_eq.mpr (.inr rfl)).symm⟩
  · obtain ⟨u, hu, e⟩ := List.mem_map.mp z
    rcases pairP_eq.mp e.symm with z | z
    · exact .inl (z ▸ hu)
    · exact .inr (z ▸ hu)
theorem tieBad_new {ns : List Str} {qs ps : List (Str × Str)} {i : Nat} {d : PyData} {ds : List PyData} (h : ∀ k, k ∈ ps ↔ k ∈ qs.map pairP) :
    tieBad ns ps i (d :: ds) = if newTie ns qs d = true then tieBad ns ((qs ++ tiesD ns [d]).map pairP) (i + 1) ds else some i := by
  rw [tieBad]
  cases e : tieOf ns d with
  | none =>
    have : newTie ns qs d = false := by unfold newTie; rw [e]
    rw [this, if_neg Bool.false_ne_true]
  | some t =>
    dsimp only
    rw [newTie_eq e]
    by_cases c : pairP t ∈ qs.map pairP
    · rw [if_pos ((h _).mpr c), decide_eq_true c]; rfl
    · rw [if_neg (fun z => c ((h _).mp z)), decide_eq_false c]
      show _ = if true = true then _ else _
      rw [if_pos rfl]
      refine tieBad_mem _ _ _ _ _ fun k => ?_
      rw [List.map_append, List.mem_append, List.mem_cons, h k]
      have : tiesD ns [d] = [t] := by unfold tiesD; rw [List.filterMap_cons, e]; rfl
      rw [this, List.map_singleton, List.mem_singleton]
      exact Or.comm
theorem tieOf_in {ns : List Str} {d : PyData} {t : Str × Str} (h : tieOf ns d = some t) : t.1 ∈ ns ∧ t.2 ∈ ns := by
  unfold tieOf at h
  split at h
  · split at h
    · split at h
      · rename_i c
        cases h
        exact ⟨c.1, c.2.1⟩
      · cases h
    · cases h
  · cases h
theorem upd_at {H H' : Hp} {p : Addr} {o : HO} (e : upd H p o = H') : H' p = some o := e ▸ upd_same
theorem names_of : ∀ {ds : List PyData}, ds.all nameD = true → ∀ n ∈ strsD ds, okName n = true
  | [], _, _, z => nomatch z
  | d :: ds, h, n, z => by
    rw [List.all_cons, Bool.and_eq_true] at h
    cases d with
    | str x =>
      rcases List.mem_cons.mp z with z | z
      · subst z; exact h.1
      · exact names_of h.2 n z
    | _ => exact names_of h.2 n z
theorem textFrom_le {m : Nat} : ∀ (ts : List Str) (k : Nat) (acc : Str), (∀ t ∈ ts, t.length ≤ m) → (textFrom k acc ts).length ≤ acc.length + ts.length * (m + 2)
  | [], _, _, _ => by show _ ≤ _ + 0 * _; rw [Nat.zero_mul]; exact Nat.le_refl _
  | t :: ts, k, acc, h => by
    have ih := textFrom_le ts (k + 1) (acc ++ (if k > 0 then ", " else "" : String) ++ t) fun x hx => h x (List.mem_cons_of_mem _ hx)
    have e : (acc ++ (if k > 0 then ", " else "" : String) ++ t).length = acc.length + (if k > 0 then 2 else 0) + t.length := by
      rw [strLen_append, strLen_append]
      split <;> rfl
    have ht := h t List.mem_cons_self
    show (textFrom (k + 1) _ ts).length ≤ _
    rw [List.length_cons, Nat.succ_mul]
    rw [e] at ih
    have : (if k > 0 then 2 else 0) ≤ 2 := by split <;> omega
    omega
theorem listText_le {m : Nat} {ts : List Str} (h : ∀ t ∈ ts, t.length ≤ m) : (listText ts).length ≤ ts.length * (m + 2) + 4 := by
  unfold listText
  rw [strLen_append]
  have h1 := textFrom_le ts 0 "[" h
  have e1 : (("[" : String) : Str).length = 1 := rfl
  have e2 : (("]" : String) : Str).length = 1 := rfl
  omega
theorem piled_le {m : Nat} : ∀ {ts : List Str}, (∀ t ∈ ts, t.length ≤ m) → piled ts ≤ ts.length * (m + 2)
  | [], _ => Nat.zero_le _
  | t :: ts, h => by
    rw [piled_cons, List.length_cons, Nat.succ_mul]
    have := piled_le (m := m) (ts := ts) fun x hx => h x (List.mem_cons_of_mem _ hx)
    have := h t List.mem_cons_self
    omega
theorem join_le {m : Nat} {ts : List Str} (h : ∀ t ∈ ts, t.length ≤ m) : (Str.join ", " ts).length ≤ ts.length * (m + 2) := by
  by_cases e : ts = []
  · subst e; exact Nat.zero_le _
  · have := join_length_add ts e
    have := piled_le h
    omega
theorem tupleText_le {m : Nat} {ts : List Str} (h : ∀ t ∈ ts, t.length ≤ m) : (tupleText ts).length ≤ ts.length * (m + 2) + 4 := by
  unfold tupleText
  rw [strLen_append, strLen_append]
  have h1 := join_le h
  have e1 : (("(" : String) : Str).length = 1 := rfl
  have e2 : ((if ts.length == 1 then ",)" else ")" : String) : Str).length ≤ 2 := by split <;> decide
  omega
theorem shownAll_map : ∀ ds : List PyData, PyData.shownAll ds = ds.map PyData.shown
  | [] => by rw [PyData.shownAll]; rfl
  | d :: ds => by rw [PyData.shownAll, shownAll_map ds]; rfl
/-- of depth k and m signs at most -/
def Sm (k m : Nat) (d : PyData) : Prop := d.showable = true ∧ d.depth ≤ k ∧ d.shown.length ≤ m
theorem Sm.mono {k m k' m' : Nat} {d : PyData} (h : Sm k m d) (a : k ≤ k') (b : m ≤ m') : Sm k' m' d := ⟨h.1, Nat.le_trans h.2.1 a, Nat.le_trans h.2.2 b⟩
theorem showables {k m : Nat} : ∀ {ds : List PyData}, (∀ d ∈ ds, Sm k m d) → PyData.showableAll ds = true
  | [], _ => by rw [PyData.showableAll]
  | d :: ds, h => by rw [PyData.showableAll, (h d List.mem_cons_self).1, showables fun e he => h e (List.mem_cons_of_mem _ he)]; rfl
theorem Sm.list {k m n : Nat} {ds : List PyData} (h : ∀ d ∈ ds, Sm k m d) (hn : ds.length ≤ n) : Sm (k + 1) (n * (m + 2) + 4) (.list ds) := by
  refine ⟨by rw [PyData.showable]; exact showables h, by rw [PyData.depth]; have := depths_of (m := k) fun d hd => (h d hd).2.1; omega, ?_⟩
  rw [PyData.shown, shownAll_map]
  refine Nat.le_trans (listText_le (m := m) fun t ht => ?_) ?_
  · obtain ⟨d, hd, rfl⟩ := List.mem_map.mp ht
    exact (h d hd).2.2
  · rw [List.length_map]
    exact Nat.add_le_add_right (Nat.mul_le_mul_right _ hn) _
theorem Sm.tuple {k m n : Nat} {ds : List PyData} (h : ∀ d ∈ ds, Sm k m d) (hn : ds.length ≤ n) : Sm (k + 1) (n * (m + 2) + 4) (.tuple ds) := by
  refine ⟨by rw [PyData.showable]; exact showables h, by rw [PyData.depth]; have := depths_of (m := k) fun d hd => (h d hd).2.1; omega, ?_⟩
  rw [PyData.shown, shownAll_map]
  refine Nat.le_trans (tupleText_le (m := m) fun t ht => ?_) ?_
  · obtain ⟨d, hd, rfl⟩ := List.mem_map.mp ht
    exact (h d hd).2.2
  · rw [List.length_map]
    exact Nat.add_le_add_right (Nat.mul_le_mul_right _ hn) _
def small (x : Str) : Prop := ∀ c ∈ x.cps.toList, c < 16 ^ 8
theorem Sm.str {x : Str} {n : Nat} (h : small x) (l : x.length ≤ n) : Sm 0 (10 * n + 2) (.str x) := by
  refine ⟨by rw [PyData.showable], by rw [PyData.depth]; exact Nat.le_refl _, ?_⟩
  rw [PyData.shown]
  have := PySem.StrLaws.reprText_len x h
  omega
theorem small_name {x : Str} (h : okName x = true) : small x := by
  unfold okName at h
  rw [Bool.and_eq_true] at h
  have h2 := h.2
  unfold okSigns at h2
  intro c hc
  have := List.all_eq_true.mp lt_small c (of_decide_eq_true (List.all_eq_true.mp h2 c hc))
  exact Nat.lt_trans (of_decide_eq_true this) (by decide)
theorem name_len {x : Str} (h : okName x = true) : x.length ≤ 8 := by
  unfold okName at h
  rw [Bool.and_eq_true, Bool.and_eq_true] at h
  exact of_decide_eq_true h.1.2
/-- a thing that may stand among the places or the ties -/
def Fit (d : PyData) : Prop := Sm 3 400 d ∧ plainTie d ∧ ∀ x, d = .str x → x.length ≤ 100
theorem Fit.str {x : Str} (h : small x) (l : x.length ≤ 20) : Fit (.str x) := ⟨(Sm.str h l).mono (by decide) (by decide), trivial, fun y e => by cases e; omega⟩
theorem Fit.name {x : Str} (h : okName x = true) : Fit (.str x) := .str (small_name h) (Nat.le_trans (name_len h) (by decide))
/-- what the new of a heap adds to R -/
def grown (R H H' : Hp) : Hp := fun b => match H b with
  | none => H' b
  | some _ => R b
theorem grown_new {R H H' : Hp} {b : Addr} (h : H b = none) : grown R H H' b = H' b := by unfold grown; rw [h]
theorem grown_old {R H H' : Hp} {b : Addr} {o : HO} (h : H b = some o) : grown R H H' b = R b := by unfold grown; rw [h]
theorem grown_at {R H H' : Hp} {b : Addr} {o : HO} (h : H b = none) (e : H' b = some o) : grown R H H' b = some o := (grown_new h).trans e
abbrev R0 : Hp := fun _ => none
theorem grown_mono {R H H' : Hp} : Same (grown R0 H H') (grown R H H') := fun b o e => by
  cases h : H b with
  | none => rw [grown_new h] at e ⊢; exact e
  | some u => rw [grown_old h] at e; cases e
theorem grown_up {R H H' : Hp} (s : Same R H) : Same R (grown R H H') := fun b o e => by rw [grown_old (s b o e)]; exact e
theorem grown_sub {R H H' : Hp} {p : Addr} (s : Same R H) (np : R p = none) (f : ∀ b o, b ≠ p → H b = some o → H' b = some o) : Same (grown R H H') H' := fun b o e => by
  cases h : H b with
  | none => rw [grown_new h] at e; exact e
  | some u =>
    rw [grown_old h] at e
    have ne : b ≠ p := fun z => by rw [z, np] at e; cases e
    rw [f b u ne h, ← h]
    exact s b o e
theorem cut_drop (xs : List V) (n : Nat) : cutV xs (some (n : Int)) none = xs.drop n := by
  unfold cutV
  rw [HT.sIx_none, HT.sIx_nat]
  by_cases h : n ≤ xs.length
  · rw [Nat.min_eq_left h]
    exact List.take_of_length_le (by rw [List.length_drop]; exact Nat.le_refl _)
  · rw [Nat.min_eq_right (by omega), Nat.sub_self, List.take_zero, List.drop_of_length_le (by omega : xs.length ≤ n)]
theorem small_app {x y : Str} (hx : small x) (hy : small y) : small (x ++ y) := fun c hc => by
  have e : (x ++ y).cps.toList = x.cps.toList ++ y.cps.toList := Array.toList_append
  rw [e] at hc
  rcases List.mem_append.mp hc with z | z
  · exact hx c z
  · exact hy c z
theorem small_cut {x : Str} {lo hi : Option Int} (hx : small x) : small (cutS x lo hi) := fun c hc => hx c (List.mem_of_mem_drop (List.mem_of_mem_take hc))
def consts : List PyData := [.none, .int 5, .bool true, .list [.str "a"], .tuple [.str "a"], .dict [], .str "ab", .tuple [], .list [], .dict [(.str "a", .int 1)], .tuple [.str "ab", .str "ba"], .str "", .str "a", .list [.str "a", .str "a"]]
theorem sm_consts0 : consts.all (fun d => d.showable && decide (d.depth ≤ 3) && decide (d.shown.length ≤ 400)) = true := by decide +kernel
theorem sm_consts (d : PyData) (h : d ∈ consts) : Sm 3 400 d := by
  have z := List.all_eq_true.mp sm_consts0 d h
  rw [Bool.and_eq_true, Bool.and_eq_true] at z
  exact ⟨z.1.1, of_decide_eq_true z.1.2, of_decide_eq_true z.2⟩
theorem small_lit : small "abcdefghi" := by
  have z : ("abcdefghi" : Str).cps.toList.all (fun c => decide (c < 16 ^ 8)) = true := by decide +kernel
  exact fun c hc => of_decide_eq_true (List.all_eq_true.mp z c hc)
theorem pe_hM0 {X : Cx} {k j : Nat} {C : Addr} {m : Str} {ps : List Str} {sp : Sp} {o : Expr} {apos pos : Pos} {ta : TE} {pl : Sem Bool} (h : HasM X.prog X.w X.K X.mg X.base CX0 j C m ps sp) (c : Cls X.K C) (hr : Room k X.A) (l : j ≤ k) (ho : PE X o ta)
    (ht : eval (.Call (.Attribute o m apos) [] [] pos) X.env = (do
      let ov ← eval o X.env
      standAt apos.atName
      let (f, first) ← holding [ov] (getMethod ov m pl)
      callWith pos f first (backTo pos (starEach [] X.env)) (backToKw pos (keywordEach [] X.env))) := by rfl) : PE X (.Call (.Attribute o m apos) [] [] pos) (tMeth C m sp [] E0 ta tNil) := by
  obtain ⟨f, fd, hm, b, F⟩ := h
  exact pe_meth0 ho c hm F (hr.mono l) b .nil pass0 ht
/-- the own == of Web -/
def HasEq (P : Program) (w : World) (K : PySem.W.Frag) (mg : Str → Option Value) (base : Heap) (C : Addr) : Prop := ∃ f fd, FnOk P w K mg base CX0 1 f fd ["self", "other"] (spEqW K C) ∧ PySem.W.findIn K (.ref C) "__eq__" = some (some (.ref f)) ∧ PySem.W.isFn K (.ref f) = true ∧ Binds K fd ["self", "other"] []
def AlikeW (K : PySem.W.Frag) (C a b : Addr) (H : Hp) : Prop := ∃ ns ms ts us, WebAt K C H a ns ts ∧ WebAt K C H b ms us ∧ Good ns ts ∧ Good ms us ∧ eqW ns ms ts us = true
theorem op_eqW {X : Cx} {k : Nat} {C : Addr} (h : HasEq X.prog X.w X.K X.mg X.base C) (hr : Room k X.A) (l : 1 ≤ k) : OpR X (compareOp .Eq) (rEqG (DIns C (AlikeW X.K C))) := by
  obtain ⟨f, fd, F, h1, h2, b⟩ := h
  refine op_eqG (rcG_ins (F.imp fun vs H Q E q => ?_) h1 h2 b pass0) (hr.mono l)
  obtain ⟨x, y, rfl, ⟨ns, ms, ts, us, hx, hy, g1, g2, e⟩, q⟩ := q
  exact ⟨x, y, ns, ms, ts, us, rfl, hx, hy, g1, g2, by rw [e]; exact q H Ext.rfl'⟩
theorem op_neDk {X : Cx} {K : PySem.W.Frag} (hK : X.K = K) (hu : X.A.units + 64 < cLine) : OpR X (compareOp .NotEq) (rNeD K) := hK ▸ op_neD hu
theorem webIns {K : PySem.W.Frag} {C : Addr} {H : Hp} {x : Addr} {ns : List Str} {ts : List (Str × Str)} : WebAt K C H x ns ts → ∃ dx fs, H x = some (.ins C dx fs)
  | ⟨⟨dx, tp, tt, sg, sn, sp, sq, rk, xs, h1, _⟩⟩ => ⟨dx, _, h1⟩
theorem webNo {K : PySem.W.Frag} {C : Addr} {H : Hp} {x : Addr} {ns : List Str} {ts : List (Str × Str)} : WebAt K C H x ns ts → ∃ dx fs, H x = some (.ins C dx fs) ∧ fs.lookup ("sees" : Str) = none ∧ fs.lookup ("parts" : Str) = none ∧ fs.lookup ("tied" : Str) = none ∧ fs.lookup ("without" : Str) = none
  | ⟨⟨dx, tp, tt, sg, sn, sp, sq, rk, xs, h1, _⟩⟩ => ⟨dx, _, h1, rfl, rfl, rfl, rfl⟩
theorem PlanOk.good {n : Nat} {ns : List Str} {ts : List (Str × Str)} (h : PlanOk n ns ts) : Good ns ts := ⟨h.nm, fun t ht => ⟨h.nm _ (h.tie t ht).1, h.nm _ (h.tie t ht).2.1⟩⟩
theorem alike {K : PySem.W.Frag} {C : Addr} {H : Hp} {x y : Addr} {ns : List Str} {ts : List (Str × Str)} (hx : WebAt K C H x ns ts) (hy : WebAt K C H y ns ts) (g : Good ns ts) : DIns C (AlikeW K C) (.ref x) (.ref y) H := by
  obtain ⟨dx, fs, h1⟩ := webIns hx
  obtain ⟨dy, gs, h2⟩ := webIns hy
  exact ⟨x, y, dx, dy, fs, gs, rfl, rfl, h1, h2, ns, ns, ts, ts, hx, hy, g, g, eqW_self g⟩
theorem few_ties12 {n : Nat} {ns : List Str} {ts : List (Str × Str)} (pk : PlanOk n ns ts) (_ : n ≤ 12) : ts.length ≤ 75 := pk.few
theorem PartsR.mem {S : Str → List Str} {ns left : List Str} {ls : List (List Str)} (h : PartsR S ns left ls) : ∀ l ∈ ls, ∀ q ∈ l, q ∈ ns := by
  induction h with
  | nil => exact fun l z => nomatch z
  | cons _ _ ih =>
    intro l hl q hq
    rcases List.mem_cons.mp hl with z | z
    · rw [z] at hq; exact (List.mem_filter.mp hq).1
    · exact ih l z q hq
def rowD (l : List Str) : PyData := .list (l.map PyData.str)
theorem dp_strs {K : PySem.W.Frag} {H : Hp} : ∀ l : List Str, DpAll K H (l.map V.str) (l.map PyData.str)
  | [] => .nil
  | x :: l => .cons (.str x) (dp_strs l)
theorem RowAt.dp {K : PySem.W.Frag} {H : Hp} : ∀ {xs : List V} {ls : List (List Str)}, RowAt H xs ls → DpAll K H xs (ls.map rowD)
  | _, _, .nil => .nil
  | _, _, .cons ⟨a, e, h⟩ t => .cons (by subst e; exact .lst (SqL.of h) (dp_strs _)) (RowAt.dp t)
theorem lay_row {l : List Str} (h : ∀ q ∈ l, okName q = true) : (rowD l).canLay0 = true ∧ (rowD l).depth ≤ 5 := by
  have g : ∀ d ∈ l.map PyData.str, d.canLay0 = true ∧ d.depth ≤ 0 := fun d hd => by
    obtain ⟨n, hn, rfl⟩ := List.mem_map.mp hd
    exact ⟨by rw [PyData.canLay0]; exact strOk_of (h n hn), by simp [PyData.depth]⟩
  refine ⟨by unfold rowD; rw [PyData.canLay0]; exact lays_of fun d hd => (g d hd).1, ?_⟩
  unfold rowD
  rw [PyData.depth]
  have := depths_of (m := 0) fun d hd => (g d hd).2
  omega
theorem shaped_row {l : List Str} (h : ∀ q ∈ l, okName q = true) : SeqAt.shaped (rowD l) = true := by
  obtain ⟨h1, h2⟩ := lay_row h
  unfold SeqAt.shaped
  rw [h1, Bool.true_and]
  exact decide_eq_true (by omega)
theorem shaped_rows {ls : List (List Str)} (h : ∀ l ∈ ls, ∀ q ∈ l, okName q = true) : SeqAt.shaped (.list (ls.map rowD)) = true := shaped_list fun d hd => by
  obtain ⟨l, hl, rfl⟩ := List.mem_map.mp hd
  obtain ⟨h1, h2⟩ := lay_row (h l hl)
  exact ⟨h1, Nat.le_trans h2 (by decide)⟩
theorem lessN_nil (ns : List Str) : lessN ns [] = ns := List.filter_eq_self.mpr fun a _ => rfl
theorem lessT_nil {ns : List Str} {ts : List (Str × Str)} (h : ∀ t ∈ ts, t.1 ∈ ns ∧ t.2 ∈ ns ∧ t.1 ≠ t.2) : lessT ns ts [] = ts := List.filter_eq_self.mpr fun t ht => by
  rw [lessN_nil, decide_eq_true (h t ht).1, decide_eq_true (h t ht).2.1]; rfl
end Pw

set_option Elab.async false
set_option linter.all false
set_option maxRecDepth 100000
set_option maxHeartbeats 4000000
namespace Pw
open PySem PySem.Spec PyProof.Rows L2 Ct
local macro_rules | `(tactic| wide_line) => `(tactic| repeat ((fail_if_success (with_reducible refine at_while ?_)); (fail_if_success (with_reducible refine at_while1 ?_)); (conv => whnf); first | ((with_reducible refine And.intro ?_ ?_); focus (first | (first | ((with_reducible show (_ : Nat) ≤ _); first | exact sz0 | exact sz1 | exact sz2 | exact sz3 | exact sz4 | exact sz5 | exact sz6 | exact sz7 | exact sz8 | exact sz10 | exact sz11 | exact sz12 | exact sz14 | omega | decide | (simp only [List.length_cons, List.length_nil]; omega)) | ((with_reducible show (_ : Int) ≤ _); first | omega | decide) | ((with_reducible show (_ : Int) < _); first | omega | decide) | ((with_reducible show (_ : Nat) < _); omega)) | ((fail_if_success (with_reducible show (_ : Nat) ≤ _)); (fail_if_success (with_reducible show (_ : Int) ≤ _)); (fail_if_success (with_reducible show (_ : Int) < _)); (fail_if_success (with_reducible show (_ : Nat) < _)); first | exact kv_str _ | exact kv_int _ | rfl | assumption | exact flat_strs _ | exact Lv.get (by assumption) 0 rfl | exact Lv.get (by assumption) 1 rfl | exact Lv.get (by assumption) 2 rfl | exact Lv.get (by assumption) 3 rfl | exact Lv.get (by assumption) 4 rfl | exact Lv.get (by assumption) 5 rfl | exact Lv.get (by assumption) 6 rfl | exact SqL.of (Lv.get (by assumption) 0 rfl) | exact SqL.of (Lv.get (by assumption) 1 rfl) | exact SqL.of (Lv.get (by assumption) 2 rfl) | exact SqL.of (Lv.get (by assumption) 3 rfl) | exact SqL.of (Lv.get (by assumption) 4 rfl) | exact SqL.of (Lv.get (by assumption) 5 rfl) | exact Or.inl (SqL.of (Lv.get (by assumption) 0 rfl)) | exact Or.inl (SqL.of (Lv.get (by assumption) 1 rfl)) | exact Or.inl (SqL.of (Lv.get (by assumption) 2 rfl)) | exact Or.inl (SqL.of (Lv.get (by assumption) 3 rfl)) | exact Or.inl (SqL.of (Lv.get (by assumption) 4 rfl)) | exact Or.inl (SqL.of (Lv.get (by assumption) 5 rfl)) | exact ⟨_, SqL.of (Lv.get (by assumption) 0 rfl)⟩ | exact ⟨_, SqL.of (Lv.get (by assumption) 1 rfl)⟩ | exact ⟨_, SqL.of (Lv.get (by assumption) 2 rfl)⟩ | exact ⟨_, SqL.of (Lv.get (by assumption) 3 rfl)⟩ | exact ⟨_, SqL.of (Lv.get (by assumption) 4 rfl)⟩ | exact ⟨_, SqL.of (Lv.get (by assumption) 5 rfl)⟩ | exact Or.inl ⟨_, SqL.of (Lv.get (by assumption) 0 rfl), rfl⟩ | exact Or.inl ⟨_, SqL.of (Lv.get (by assumption) 1 rfl), rfl⟩ | exact Or.inl ⟨_, SqL.of (Lv.get (by assumption) 2 rfl), rfl⟩ | exact Or.inl ⟨_, SqL.of (Lv.get (by assumption) 3 rfl), rfl⟩ | exact Or.inl ⟨_, SqL.of (Lv.get (by assumption) 4 rfl), rfl⟩ | exact Or.inl ⟨_, SqL.of (Lv.get (by assumption) 5 rfl), rfl⟩ | exact Or.inl ⟨rfl, _, SqL.of (Lv.get (by assumption) 0 rfl)⟩ | exact Or.inl ⟨rfl, _, SqL.of (Lv.get (by assumption) 1 rfl)⟩ | exact Or.inl ⟨rfl, _, SqL.of (Lv.get (by assumption) 2 rfl)⟩ | exact Or.inl ⟨rfl, _, SqL.of (Lv.get (by assumption) 3 rfl)⟩ | exact Or.inl ⟨rfl, _, SqL.of (Lv.get (by assumption) 4 rfl)⟩ | exact Or.inl ⟨rfl, _, SqL.of (Lv.get (by assumption) 5 rfl)⟩ | exact Or.inr (SqT.of (Lv.get (by assumption) 0 rfl)) | exact Or.inr (SqT.of (Lv.get (by assumption) 1 rfl)) | exact Or.inr (SqT.of (Lv.get (by assumption) 2 rfl)) | exact Or.inr (SqT.of (Lv.get (by assumption) 3 rfl)) | exact SqT.of (Lv.get (by assumption) 0 rfl) | exact SqT.of (Lv.get (by assumption) 1 rfl) | exact SqT.of (Lv.get (by assumption) 2 rfl) | exact dgetN (Lv.get (by assumption) 0 rfl) (by assumption) | exact dgetN (Lv.get (by assumption) 1 rfl) (by assumption) | exact dgetN (Lv.get (by assumption) 2 rfl) (by assumption) | exact dgetN (Lv.get (by assumption) 3 rfl) (by assumption) | exact dgetN (Lv.get (by assumption) 4 rfl) (by assumption) | exact Or.inl (by assumption) | exact Or.inr (by assumption) | decide | ((with_reducible show _ ∧ _); omega)))) | ((fail_if_success (with_reducible apply @Exists.intro (Nat → _))); (with_reducible apply Exists.intro))))
local macro_rules
  | `(tactic| wide_line with al $lv:ident $l:ident $nl:ident $H:ident $lv1:ident $s1:ident) => `(tactic| (intro $l:ident $nl:ident; generalize he : upd _ _ _ = $H:ident; have $lv1:ident := Lv.alE $lv $nl he; have $s1:ident := sameE $nl he; clear he; (try dsimp only at $lv1:ident)))
  | `(tactic| wide_line with alx $lv:ident $nl:ident $H:ident $lv1:ident $s1:ident) => `(tactic| (generalize he : upd _ _ _ = $H:ident; have $lv1:ident := Lv.alE $lv $nl he; have $s1:ident := sameE $nl he; clear he; (try dsimp only at $lv1:ident)))
  | `(tactic| wide_line with sts $lv:ident $i:num $H:ident $lv1:ident $s0:ident $np:ident $s1:ident) => `(tactic| (generalize he : upd _ _ _ = $H:ident; have $lv1:ident := Lv.stE $lv $i rfl he; have $s1:ident := sameN $s0 $np he; clear he; (try dsimp only at $lv1:ident)))
  | `(tactic| wide_line with stx $lv:ident $H:ident $lv1:ident $d1:ident) => `(tactic| (generalize he : upd _ _ _ = $H:ident; have $lv1:ident := Lv.stE $lv 0 rfl he; have $d1:ident := SameD.storeE (Lv.get $lv 0 rfl) he; clear he; (try dsimp only at $lv1:ident)))
  | `(tactic| wide_line with st $lv:ident $i:num $H:ident $lv1:ident) => `(tactic| (generalize he : upd _ _ _ = $H:ident; have $lv1:ident := Lv.stE $lv $i rfl he; clear he; (try dsimp only at $lv1:ident)))
  | `(tactic| wide_line with stk $lv:ident $i:num $H:ident $lv1:ident $k1:ident) => `(tactic| (generalize he : upd _ _ _ = $H:ident; have $lv1:ident := Lv.stE $lv $i rfl he; have $k1:ident := KeepT.st (Lv.get $lv $i rfl) he; clear he; (try dsimp only at $lv1:ident)))
/-- a plan: a tuple of the places and of the ties -/
def PlanAt (K : PySem.W.Frag) (H : Hp) (t : Addr) (ns : List Str) (ts : List (Str × Str)) : Prop := ∃ tn tt xs, SqT K H t [.ref tn, .ref tt] ∧ SqT K H tn (ns.map V.str) ∧ SqT K H tt xs ∧ TiesAt K H xs ts
theorem PlanAt.same {K : PySem.W.Frag} {H H' : Hp} {t : Addr} {ns : List Str} {ts : List (Str × Str)} (s : Same H H') : PlanAt K H t ns ts → PlanAt K H' t ns ts
  | ⟨tn, tt, xs, h1, h2, h3, h4⟩ => ⟨tn, tt, xs, same_t s h1, same_t s h2, same_t s h3, h4.same s⟩
def spWebOf (K : PySem.W.Frag) (C : Addr) : Sp := fun vs H Q _ => ∃ (t : Addr) (n : Nat) (ns : List Str) (ts : List (Str × Str)), vs = [.ref t] ∧ PlanAt K H t ns ts ∧ PlanOk n ns ts ∧ n ≤ 12 ∧ ∀ x H', Same H H' → H x = none → WebAt K C (noLst H H') x ns ts → Q (.ref x) H'
/-- a dict from each place to the new list of those that it sees -/
def NearAt (H0 H : Hp) (D : Addr) (ns : List Str) (ts : List (Str × Str)) : Prop := ∃ l : Str → Addr, H D = some (.dK (ns.map fun p => ((.inr p : Key), V.ref (l p)))) ∧ ∀ p ∈ ns, H (l p) = some (.lst ((seenOf ns ts p).map V.str)) ∧ H0 (l p) = none
theorem NearAt.same {H0 H H' : Hp} {D : Addr} {ns : List Str} {ts : List (Str × Str)} (s : Same H H') : NearAt H0 H D ns ts → NearAt H0 H' D ns ts
  | ⟨l, h1, h2⟩ => ⟨l, s _ _ h1, fun p hp => ⟨s _ _ (h2 p hp).1, (h2 p hp).2⟩⟩
def spNear (K : PySem.W.Frag) : Sp := fun vs H Q _ => ∃ (t : Addr) (n : Nat) (ns : List Str) (ts : List (Str × Str)), vs = [.ref t] ∧ PlanAt K H t ns ts ∧ PlanOk n ns ts ∧ n ≤ 12 ∧ ∀ D H', Same H H' → H D = none → NearAt H H' D ns ts → Q (.ref D) H'
theorem sees_alt {ns : List Str} {ts : List (Str × Str)} (p q : Str) : seesB ts p q = (decide ((p, q) ∈ ts) || (decide ((q, p) ∈ ts) || decide (q = p))) := by
  unfold seesB tiedB
  rw [Bool.eq_iff_iff]
  simp only [Bool.or_eq_true, List.any_eq_true, Bool.and_eq_true, beq_iff_eq, decide_eq_true_eq]
  constructor
  · rintro (h | ⟨t, ht, ⟨h1, h2⟩ | ⟨h1, h2⟩⟩)
    · exact .inr (.inr h)
    · left; subst h1; subst h2; exact ht
    · right; left; subst h1; subst h2; exact ht
  · rintro (h | h | h)
    · exact .inr ⟨_, h, .inl ⟨rfl, rfl⟩⟩
    · exact .inr ⟨_, h, .inr ⟨rfl, rfl⟩⟩
    · exact .inl h
theorem str_dec (x y : Str) : decide (V.str x = V.str y) = decide (x = y) := decide_eq_decide.mpr ⟨fun z => V.str.inj z, fun z => congrArg V.str z⟩
theorem putK_new {kvs : List (Key × V)} {k : Key} {v : V} (h : ∀ q ∈ kvs, q.1 ≠ k) : putK kvs k v = kvs ++ [(k, v)] := by
  unfold putK
  rw [if_neg fun z => ?_]
  obtain ⟨q, hq, e⟩ := List.any_eq_true.mp z
  exact h q hq (of_decide_eq_true e)
section
variable {P : Program} {w : World} {K : PySem.W.Frag} {mg : Str → Option Value} {base : Heap} {C CP CS CT : Addr}
abbrev sLawWeb : Stmt := top ix_law_web
theorem scLawWeb : FnScope ["plan"] ["plan"] (defScope sLawWeb) := ⟨rfl, rfl, rfl, by decide +kernel, rfl, by decide +kernel, by decide +kernel⟩
theorem has_law_web (T : Bn mg) (D : DFE K mg "_law_web" sLawWeb ["plan"]) (hW : HasW P w K mg base 4 C CP CS CT) : Has P w K mg base CX0 6 "_law_web" ["plan"] (spWebOf K C) := by
  refine has_of D scLawWeb (fun vs H Q E h => ?_) (fun f cdv A outer s H vs Q E hr h => ?_)
  · obtain ⟨t, n, ns, ts, rfl, _⟩ := h; rfl
  · obtain ⟨t, n, ns, ts, rfl, ⟨tn, tt, xs, h1, h2, h3, h4⟩, pk, hn, k⟩ := h
    have nd := scLawWeb.nd
    refine ⟨_, (pss_one (ps_ret (pe_web hW hr (by decide) rfl (pa_cons (pe_ix ix_tup (pv 0) pe_int (fun _ _ => rfl)) (pa_cons (pe_ix ix_tup (pv 0) pe_int (fun _ _ => rfl)) pa_nil))))), ?_⟩
    exact ⟨_, rfl, t, _, 0, _, rfl, rfl, h1, rfl, _, rfl, t, _, 1, _, rfl, rfl, h1, rfl, tn, tt, n, ns, xs, ts, rfl, .inr h2, .inr h3, h4, pk, hn, fun x H' s nx hw => k x H' s nx hw⟩
abbrev sLawNear : Stmt := top ix_law_near
theorem scLawNear : FnScope ["plan", "found", "place", "seen", "one"] ["plan"] (defScope sLawNear) := ⟨rfl, rfl, rfl, by decide +kernel, rfl, by decide +kernel, by decide +kernel⟩
theorem has_law_near (T : Bn mg) (D : DFE K mg "_law_near" sLawNear ["plan"]) : Has P w K mg base CX0 1 "_law_near" ["plan"] (spNear K) := by
  refine has_of D scLawNear (fun vs H Q E h => ?_) (fun f cdv A outer s H vs Q E hr h => ?_)
  · obtain ⟨t, n, ns, ts, rfl, _⟩ := h; rfl
  · obtain ⟨t, n, ns, ts, rfl, ⟨tn, tt, xs, h1, h2, h3, h4⟩, pk, hn, k⟩ := h
    have nd := scLawNear.nd
    refine ⟨_, (pss_cons (ps_sv 1 nd pe_dnewK)
    (pss_cons (ps_for PassesOwn.never rfl (pi_sq (pe_ix ix_tup (pv 0) pe_int (fun _ _ => rfl))) (pg_name (i := 2) nd rfl (by first | exact Or.inl rfl | exact Or.inr rfl)) (pss_cons (ps_setLc (i := 3) (own := [("one", 4)]) (g := gName 4) rfl nd rfl rfl (sw_true rfl rfl rfl (by decide +kernel)) (pi_sq (pe_ix ix_tup (pv 0) pe_int (fun _ _ => rfl))) (blkOk_by (own := [("one", 4)]) (N := ["plan", "found", "place", "seen", "one"]) (sc := defScope sLawNear) (by decide +kernel)) (fun _ _ _ _ _ => (pg_name (i := 4) nd rfl (by first | exact Or.inl rfl | exact Or.inr rfl))) (fun _ _ _ _ _ => (pts_one (PW.pt (pw_or (pt_cmpR (op_inTD (K := K) rfl (units65 hr)) (pe_tup (pa_cons (pv 2) (pa_cons (pv 4) pa_nil))) (pe_ix (ix_tupk (K := K) rfl) (pv 0) pe_int (fun _ _ => rfl)) (by first | exact nomark _ | rfl)) (pw_or (pt_cmpR (op_inTD (K := K) rfl (units65 hr)) (pe_tup (pa_cons (pv 4) (pa_cons (pv 2) pa_nil))) (pe_ix (ix_tupk (K := K) rfl) (pv 0) pe_int (fun _ _ => rfl)) (by first | exact nomark _ | rfl)) (pw_or1 (pt_cmpR op_eq (pv 4) (pv 2) (by first | exact nomark _ | rfl)))))))) (fun _ _ _ _ _ => (pv 4)))
    (pss_one (ps_dput (hu_of hr) (pv 1) (pv 2) (pv 3) rfl))))
    (pss_one (ps_ret (pv 1))))), ?_⟩
    have lv := Lv.zero H
    have nl : ns.length ≤ 12 := Nat.le_trans pk.most hn
    wide_line
    intro D0 nD0
    have lvD := lv.al (o := .dK []) nD0
    have s0 := lvD.sm
    refine ⟨_, rfl, t, _, 0, .ref tn, rfl, rfl, same_t s0 h1, rfl, tn, ns.map V.str, rfl, .inr (same_t s0 h2), ?_⟩
    intro J G ex hG wk
    have okt : ∀ u ∈ ts, okTie u := fun u hu => ⟨pk.nm _ (pk.tie u hu).1, pk.nm _ (pk.tie u hu).2.1⟩
    refine for_it wk (fun i σ H' => Hold (∃ (l : Str → Addr) (u2 u3 u4 : Option V), σ = [some (.ref t), some (.ref D0), u2, u3, u4] ∧ Lv H [] H' [(D0, .dK ((ns.take i).map fun p => ((.inr p : Key), V.ref (l p))))] ∧ ∀ p ∈ ns.take i, H' (l p) = some (.lst ((seenOf ns ts p).map V.str)) ∧ H (l p) = none))
      ⟨fun _ => 0, _, _, _, rfl, lvD, fun p hp => by simp at hp⟩ (fun i σ H' _ ⟨_, _, _, _, _, z, _⟩ => hG H' (SqKeep.of (.inr h2) s0 z.sm ex)) ?_ ?_
    · rintro i x σ H1 H2 hi ⟨l, u2, u3, u4, rfl, lv1, hl⟩ ⟨rfl, ex1⟩
      obtain ⟨p, hp, rfl⟩ := str_at ex1
      have hi' : i < ns.length := by simpa using hi
      have s1 := lv1.sm
      refine ⟨_, rfl, t, _, 0, .ref tn, rfl, rfl, same_t s1 h1, rfl, tn, ns.map V.str, rfl, .inr (same_t s1 h2), ?_⟩
      intro J2 G2 ex2 hG2 wk2 L nL
      have lvL := lv1.al (o := .lst []) nL
      refine lc_it wk2 (fun j H' => Hold (Lv H [] H' [(L, .lst (((ns.take j).filter (seesB ts p)).map V.str)), (D0, .dK ((ns.take i).map fun p => ((.inr p : Key), V.ref (l p))))] ∧ Same H2 H')) ⟨lvL, same_new nL⟩ (fun j H' _ ⟨z, z2⟩ => hG2 H' (SqKeep.of (.inr (same_t s1 h2)) (.refl _) z2 ex2)) ?_ ?_
      · rintro j y H3 H4 hj ⟨lv3, s3⟩ ⟨rfl, ex3⟩
        obtain ⟨q, hq, rfl⟩ := str_at ex3
        have tkj : (ns.take (j + 1)) = ns.take j ++ [q] := take_next2 hq
        have hj' : j < ns.length := by simpa using hj
        refine ⟨rfl, _, rfl, _, rfl, sz2, fun T1 n1 => ?_⟩
        wide_line with alx lv3 n1 H5 lv5 s5
        have tup1 := lv5.get 0 rfl
        have okp : okTie (p, q) := ⟨pk.nm _ (List.mem_of_getElem? hp), pk.nm _ (List.mem_of_getElem? hq)⟩
        have okq : okTie (q, p) := ⟨pk.nm _ (List.mem_of_getElem? hq), pk.nm _ (List.mem_of_getElem? hp)⟩
        have d5 : Dp K H5 (.ref tt) (.tuple (ts.map tieDat)) := .tup (same_t lv5.sm h3) (dp_ties (h4.same lv5.sm))
        refine ⟨_, rfl, t, _, 1, .ref tt, rfl, rfl, same_t lv5.sm h1, rfl, tieDat (p, q), ts.map tieDat, .tup (SqT.of tup1) (.cons (.str _) (.cons (.str _) .nil)), d5, shaped_tie okp, shaped_ties okt, ?_⟩
        rw [any_tie]
        have fin : ∀ H6, Lv H [] H6 [(L, .lst (((ns.take j).filter (seesB ts p)).map V.str)), (D0, .dK ((ns.take i).map fun p => ((.inr p : Key), V.ref (l p))))] → Same H2 H6 → seesB ts p q = true → ∃ acc, H6 L = some (.lst acc) ∧ acc.length < sizeLine ∧
            Hold (Lv H [] (upd H6 L (.lst (acc ++ [V.str q]))) [(L, .lst (((ns.take (j + 1)).filter (seesB ts p)).map V.str)), (D0, .dK ((ns.take i).map fun p => ((.inr p : Key), V.ref (l p))))] ∧ Same H2 (upd H6 L (.lst (acc ++ [V.str q])))) := fun H6 lv6 s6 e => by
          refine ⟨_, lv6.get 0 rfl, ?_, ?_, same_upd s6 nL⟩
          · have h1 := List.length_filter_le (seesB ts p) (ns.take j)
            have h2 := List.length_take_le j ns
            rw [List.length_map, sizeLine_eq]
            omega
          · rw [tkj, List.filter_append, List.map_append, show [q].filter (seesB ts p) = [q] by simp [e]]
            exact lv6.stE 0 rfl rfl
        have nay : ∀ H6, Lv H [] H6 [(L, .lst (((ns.take j).filter (seesB ts p)).map V.str)), (D0, .dK ((ns.take i).map fun p => ((.inr p : Key), V.ref (l p))))] → Same H2 H6 → seesB ts p q = false →
            Hold (Lv H [] H6 [(L, .lst (((ns.take (j + 1)).filter (seesB ts p)).map V.str)), (D0, .dK ((ns.take i).map fun p => ((.inr p : Key), V.ref (l p))))] ∧ Same H2 H6) := fun H6 lv6 s6 e => by
          rw [tkj, List.filter_append, show [q].filter (seesB ts p) = [] by simp [e], List.append_nil]
          exact ⟨lv6, s6⟩
        have alt := sees_alt (ns := ns) (ts := ts) p q
        refine ⟨_, rfl, ?_⟩
        refine ite2 (fun c1 => ?_) (fun c1 => ?_)
        · have c1 : decide ((p, q) ∈ ts) = true := c1
          rw [c1, Bool.true_or] at alt
          exact iteT ⟨_, rfl, fin H5 (lv5.picks [1, 2] rfl (by decide) (by simp)) (s3.trans s5) alt⟩
        · have c1 : decide ((p, q) ∈ ts) = false := by simpa using c1
          rw [c1, Bool.false_or] at alt
          refine ⟨_, rfl, _, rfl, sz2, fun T2 n2 => ?_⟩
          wide_line with alx lv5 n2 H6 lv6 s6
          have d6 : Dp K H6 (.ref tt) (.tuple (ts.map tieDat)) := .tup (same_t lv6.sm h3) (dp_ties (h4.same lv6.sm))
          refine ⟨_, rfl, t, _, 1, .ref tt, rfl, rfl, same_t lv6.sm h1, rfl, tieDat (q, p), ts.map tieDat, .tup (SqT.of (lv6.get 0 rfl)) (.cons (.str _) (.cons (.str _) .nil)), d6, shaped_tie okq, shaped_ties okt, ?_⟩
          rw [any_tie]
          have lv6' := lv6.picks [2, 3] rfl (by decide) (by simp)
          have s36 := s3.trans (s5.trans s6)
          refine ⟨_, rfl, ?_⟩
          refine ite2 (fun c2 => ?_) (fun c2 => ?_)
          · have c2 : decide ((q, p) ∈ ts) = true := c2
            rw [c2, Bool.true_or] at alt
            exact iteT ⟨_, rfl, fin H6 lv6' s36 alt⟩
          · have c2 : decide ((q, p) ∈ ts) = false := by simpa using c2
            rw [c2, Bool.false_or] at alt
            refine ⟨_, rfl, _, rfl, rfl, _, rfl, ?_⟩
            rw [str_dec]
            refine ite2 (fun c3 => ?_) (fun c3 => ?_)
            · exact ⟨_, rfl, fin H6 lv6' s36 (by rw [alt]; exact c3)⟩
            · exact nay H6 lv6' s36 (by rw [alt]; simpa using c3)
      · rintro H3 ⟨lv3, s3⟩
        rw [List.length_map, List.take_length] at lv3
        have nlp := free_of (s1) nL
        have tki : ns.take (i + 1) = ns.take i ++ [p] := take_next2 hp
        have np : p ∉ ns.take i := fun z => by
          obtain ⟨j, hj⟩ := List.mem_iff_getElem?.mp z
          have jl : j < i := by
            have := (List.getElem?_eq_some_iff.mp hj).1
            rw [List.length_take] at this
            omega
          rw [List.getElem?_take_of_lt jl] at hj
          exact absurd (idx_inj pk.nd hj hp) (by omega)
        refine ⟨_, rfl, _, rfl, _, rfl, D0, _, rfl, DPut.k (k := Sum.inr p) (lv3.get 1 rfl) ?_, ?_⟩
        · rw [List.length_map, sizeLine_eq]
          have := List.length_take_le i ns
          omega
        have ep : putK ((ns.take i).map fun q => ((Sum.inr q : Key), V.ref (l q))) (Sum.inr p) (V.ref L) = (ns.take (i + 1)).map fun q => ((Sum.inr q : Key), V.ref (if q = p then L else l q)) := by
          rw [putK_new, tki, List.map_append]
          · refine congr (congrArg _ (List.map_congr_left fun q hq => ?_)) ?_
            · rw [if_neg (show ¬ q = p from fun z => np (z ▸ hq))]
            · simp
          · rintro q hq e
            obtain ⟨r, hr, rfl⟩ := List.mem_map.mp hq
            exact np (Sum.inr.inj e ▸ hr)
        rw [ep]
        generalize he : upd H3 D0 _ = H4
        have lv4 := lv3.stE 1 rfl he
        have kp : ∀ b ys, H3 b = some (.lst ys) → H4 b = some (.lst ys) := fun b ys z => by
          rw [← he, upd_ne (fun q => by rw [q, lv3.get 1 rfl] at z; cases z)]
          exact z
        refine ⟨_, _, _, _, rfl, lv4.picks [1] rfl (by decide) (by simp), fun q hq => ?_⟩
        rw [tki] at hq
        rcases List.mem_append.mp hq with hq | hq
        · rw [if_neg (show ¬ q = p from fun z => np (z ▸ hq))]
          exact ⟨kp _ _ (s3 _ _ (hl q hq).1), (hl q hq).2⟩
        · rw [List.mem_singleton.mp hq, if_pos rfl]
          exact ⟨kp _ _ (lv3.get 0 rfl), nlp⟩
    · rintro σ H1 ⟨l, u2, u3, u4, rfl, lv1, hl⟩
      rw [List.length_map, List.take_length] at lv1 hl
      exact ⟨_, rfl, k D0 H1 lv1.sm nD0 ⟨l, lv1.get 0 rfl, hl⟩⟩
end
end Pw

set_option Elab.async false
set_option linter.all false
set_option maxRecDepth 100000
set_option maxHeartbeats 4000000
namespace Pw
open PySem PySem.Spec PyProof.Rows L2 Ct
/-! the parts of a web: what is reached, and closing up step by step -/
theorem visit_sub {ps : List Str} : ∀ {r w : List Str}, (∀ q ∈ r, q ∈ (visit r w ps).1) ∧ (∀ q ∈ w, q ∈ (visit r w ps).2) ∧ (∀ q ∈ ps, q ∈ (visit r w ps).1) ∧ (∀ q ∈ (visit r w ps).1, q ∈ r ∨ q ∈ (visit r w ps).2) ∧ (∀ q ∈ (visit r w ps).1, q ∈ r ∨ q ∈ ps) ∧ (∀ q ∈ (visit r w ps).2, q ∈ w ∨ q ∈ ps) := by
  induction ps with
  | nil => intro r w; exact ⟨fun _ h => h, fun _ h => h, fun _ h => (nomatch h), fun _ h => .inl h, fun _ h => .inl h, fun _ h => .inl h⟩
  | cons p ps ih =>
    intro r w
    unfold visit
    by_cases c : p ∈ r
    · rw [if_pos c]
      obtain ⟨h1, h2, h3, h4, h5, h6⟩ := @ih r w
      refine ⟨h1, h2, fun q hq => ?_, h4, fun q hq => (h5 q hq).imp id (List.mem_cons_of_mem _), fun q hq => (h6 q hq).imp id (List.mem_cons_of_mem _)⟩
      rcases List.mem_cons.mp hq with rfl | hq
      · exact h1 _ c
      · exact h3 _ hq
    · rw [if_neg c]
      obtain ⟨h1, h2, h3, h4, h5, h6⟩ := @ih (r ++ [p]) (p :: w)
      refine ⟨fun q hq => h1 q (List.mem_append_left _ hq), fun q hq => h2 q (List.mem_cons_of_mem _ hq), fun q hq => ?_, fun q hq => ?_, fun q hq => ?_, fun q hq => ?_⟩
      · rcases List.mem_cons.mp hq with rfl | hq
        · exact h1 _ (List.mem_append_right _ (List.mem_singleton.mpr rfl))
        · exact h3 _ hq
      · rcases h4 q hq with z | z
        · rcases List.mem_append.mp z with z | z
          · exact .inl z
          · rw [List.mem_singleton.mp z]; exact .inr (h2 _ List.mem_cons_self)
        · exact .inr z
      · rcases h5 q hq with z | z
        · rcases List.mem_append.mp z with z | z
          · exact .inl z
          · rw [List.mem_singleton.mp z]; exact .inr List.mem_cons_self
        · exact .inr (List.mem_cons_of_mem _ z)
      · rcases h6 q hq with z | z
        · rcases List.mem_cons.mp z with rfl | z
          · exact .inr List.mem_cons_self
          · exact .inl z
        · exact .inr (List.mem_cons_of_mem _ z)
/-- what is reached is closed -/
theorem Runs.closed {S : Str → List Str} {r w e : List Str} (h : Runs S r w e) : (∀ q ∈ r, q ∈ w ∨ ∀ o ∈ S q, o ∈ r) → ∀ q ∈ e, ∀ o ∈ S q, o ∈ e := by
  induction h with
  | done => exact fun i q hq => (i q hq).resolve_left (fun z => nomatch z)
  | @step r w e h _ ih =>
    intro i
    obtain ⟨h1, h2, h3, h4, _, _⟩ := @visit_sub (S h) r w
    refine ih fun q hq => ?_
    rcases h4 q hq with z | z
    · rcases i q z with y | y
      · rcases List.mem_cons.mp y with rfl | y
        · exact .inr h3
        · exact .inl (h2 _ y)
      · exact .inr fun o ho => h1 _ (y o ho)
    · exact .inl z
/-- and no more than what is closed -/
theorem Runs.least {S : Str → List Str} {Z : Str → Prop} (cl : ∀ q, Z q → ∀ o ∈ S q, Z o) {r w e : List Str} (h : Runs S r w e) : (∀ q ∈ r, Z q) → (∀ q ∈ w, Z q) → ∀ q ∈ e, Z q := by
  induction h with
  | done => exact fun i _ => i
  | @step r w e h _ ih =>
    intro i j
    obtain ⟨_, _, _, _, h5, h6⟩ := @visit_sub (S h) r w
    have zh := cl h (j h List.mem_cons_self)
    refine ih (fun q hq => ?_) (fun q hq => ?_)
    · rcases h5 q hq with z | z
      · exact i q z
      · exact zh q z
    · rcases h6 q hq with z | z
      · exact j q (List.mem_cons_of_mem _ z)
      · exact zh q z
theorem sees_alt0 {ts : List (Str × Str)} (p q : Str) : seesB ts p q = (decide ((p, q) ∈ ts) || (decide ((q, p) ∈ ts) || decide (q = p))) := by
  unfold seesB tiedB
  rw [Bool.eq_iff_iff]
  simp only [Bool.or_eq_true, List.any_eq_true, Bool.and_eq_true, beq_iff_eq, decide_eq_true_eq]
  constructor
  · rintro (h | ⟨t, ht, ⟨h1, h2⟩ | ⟨h1, h2⟩⟩)
    · exact .inr (.inr h)
    · left; subst h1; subst h2; exact ht
    · right; left; subst h1; subst h2; exact ht
  · rintro (h | h | h)
    · exact .inr ⟨_, h, .inl ⟨rfl, rfl⟩⟩
    · exact .inr ⟨_, h, .inr ⟨rfl, rfl⟩⟩
    · exact .inl h
theorem sees_sym {ts : List (Str × Str)} {p q : Str} (h : seesB ts p q = true) : seesB ts q p = true := by
  rw [sees_alt0] at h ⊢
  simp only [Bool.or_eq_true, decide_eq_true_eq] at h ⊢
  rcases h with h | h | h
  · exact .inr (.inl h)
  · exact .inl h
  · exact .inr (.inr h.symm)
theorem sees_self {ts : List (Str × Str)} {p : Str} : seesB ts p p = true := by
  rw [sees_alt0]
  simp
/-- those that see one of some -/
def closeT (ns : List Str) (ts : List (Str × Str)) (part : List Str) : List Str := ns.filter fun q => (seenOf ns ts q).any fun o => decide (o ∈ part)
theorem mem_closeT {ns : List Str} {ts : List (Str × Str)} {part : List Str} {q : Str} : q ∈ closeT ns ts part ↔ q ∈ ns ∧ ∃ o, o ∈ ns ∧ seesB ts q o = true ∧ o ∈ part := by
  unfold closeT seenOf
  rw [List.mem_filter, List.any_eq_true]
  constructor
  · rintro ⟨h, o, h1, h2⟩
    obtain ⟨h3, h4⟩ := List.mem_filter.mp h1
    exact ⟨h, o, h3, h4, of_decide_eq_true h2⟩
  · rintro ⟨h, o, h1, h2, h3⟩
    exact ⟨h, o, List.mem_filter.mpr ⟨h1, h2⟩, decide_eq_true h3⟩
theorem closeT_sub {ns : List Str} {ts : List (Str × Str)} {part : List Str} (h : ∀ q ∈ part, q ∈ ns) : ∀ q ∈ part, q ∈ closeT ns ts part := fun q hq => mem_closeT.mpr ⟨h q hq, q, h q hq, sees_self, hq⟩
theorem closeT_nd {ns : List Str} {ts : List (Str × Str)} {part : List Str} (nd : ns.Nodup) : (closeT ns ts part).Nodup := nd.filter _
theorem closeT_in {ns : List Str} {ts : List (Str × Str)} {part : List Str} : ∀ q ∈ closeT ns ts part, q ∈ ns := fun q hq => (mem_closeT.mp hq).1
/-- what is within a closed set stays within -/
theorem closeT_e {ns : List Str} {ts : List (Str × Str)} {part e : List Str} (cl : ∀ q ∈ e, ∀ o ∈ seenOf ns ts q, o ∈ e) (h : ∀ q ∈ part, q ∈ e) : ∀ q ∈ closeT ns ts part, q ∈ e := fun q hq => by
  obtain ⟨h1, o, h2, h3, h4⟩ := mem_closeT.mp hq
  exact cl o (h o h4) q (List.mem_filter.mpr ⟨h1, sees_sym h3⟩)
/-- as many as before: the whole part -/
theorem closeT_done {ns : List Str} {ts : List (Str × Str)} {prev e : List Str} {p : Str} (nd : ns.Nodup) (r : Runs (seenOf ns ts) [p] [p] e) (n1 : prev.Nodup) (n2 : ∀ q ∈ prev, q ∈ ns) (hp : p ∈ prev) (pe : ∀ q ∈ prev, q ∈ e) (l : (closeT ns ts prev).length ≤ prev.length) :
    closeT ns ts prev = ns.filter fun q => decide (q ∈ e) := by
  have cl := r.closed fun q hq => .inl hq
  have back : ∀ q ∈ closeT ns ts prev, q ∈ prev := fun q hq => by
    by_cases c : q ∈ prev
    · exact c
    · exfalso
      have := nodup_len (r := q :: prev) (ns := closeT ns ts prev) (List.nodup_cons.mpr ⟨c, n1⟩) fun z hz => by
        rcases List.mem_cons.mp hz with rfl | hz
        · exact hq
        · exact closeT_sub n2 z hz
      rw [List.length_cons] at this
      omega
  refine List.filter_congr fun q hq => ?_
  rw [Bool.eq_iff_iff, decide_eq_true_eq]
  have iff1 : ((seenOf ns ts q).any fun o => decide (o ∈ prev)) = true ↔ q ∈ closeT ns ts prev := by
    unfold closeT
    rw [List.mem_filter]
    exact ⟨fun z => ⟨hq, z⟩, fun z => z.2⟩
  rw [iff1]
  constructor
  · exact closeT_e cl pe q
  · intro h
    refine r.least (Z := fun q => q ∈ closeT ns ts prev) (fun q hq o ho => ?_) (fun q hq => ?_) (fun q hq => ?_) q h
    · obtain ⟨h1, h2⟩ := List.mem_filter.mp ho
      exact mem_closeT.mpr ⟨h1, q, closeT_in q hq, sees_sym h2, back q hq⟩
    · rw [List.mem_singleton.mp hq]; exact closeT_sub n2 p hp
    · rw [List.mem_singleton.mp hq]; exact closeT_sub n2 p hp
/-- in none of the parts -/
def offAll (fs : List (List Str)) (q : Str) : Bool := !(fs.any fun l => decide (q ∈ l))
theorem parts_skip {S : Str → List Str} {ns left : List Str} {p : Str} {fs ls : List (List Str)} (h : PartsR S ns ((p :: left).filter (offAll fs)) ls) (c : offAll fs p = false) : PartsR S ns (left.filter (offAll fs)) ls := by
  rw [List.filter_cons, if_neg (by rw [c]; decide)] at h
  exact h
theorem parts_next {S : Str → List Str} {ns left : List Str} {p : Str} {fs ls : List (List Str)} (hp : p ∈ ns) (h : PartsR S ns ((p :: left).filter (offAll fs)) ls) (c : offAll fs p = true) :
    ∃ e rest, Runs S [p] [p] e ∧ ls = (ns.filter fun q => decide (q ∈ e)) :: rest ∧ PartsR S ns (left.filter (offAll (fs ++ [ns.filter fun q => decide (q ∈ e)]))) rest := by
  rw [List.filter_cons, if_pos c] at h
  cases h with
  | @cons _ _ e rest r h =>
    refine ⟨e, rest, r, rfl, ?_⟩
    have pe : p ∈ e := r.sub p (List.mem_singleton.mpr rfl)
    have e1 : ((p :: left.filter (offAll fs)).filter fun q => !decide (q ∈ ns.filter fun q => decide (q ∈ e))) = left.filter (offAll (fs ++ [ns.filter fun q => decide (q ∈ e)])) := by
      rw [List.filter_cons, if_neg (by
        rw [decide_eq_true (List.mem_filter.mpr ⟨hp, decide_eq_true pe⟩)]
        decide), List.filter_filter]
      refine List.filter_congr fun q _ => ?_
      unfold offAll
      rw [List.any_append]
      simp only [List.any_cons, List.any_nil, Bool.or_false, Bool.not_or]
      rw [Bool.and_comm]
    rw [e1] at h
    exact h
end Pw

set_option Elab.async false
set_option linter.all false
set_option maxRecDepth 100000
set_option maxHeartbeats 4000000
namespace Pw
open PySem PySem.Spec PyProof.Rows L2 Ct
local macro_rules | `(tactic| wide_line) => `(tactic| repeat ((fail_if_success (with_reducible refine at_while ?_)); (fail_if_success (with_reducible refine at_while1 ?_)); (conv => whnf); first | ((with_reducible refine And.intro ?_ ?_); focus (first | (first | ((with_reducible show (_ : Nat) ≤ _); first | exact sz0 | exact sz1 | exact sz2 | exact sz3 | exact sz4 | exact sz5 | exact sz6 | exact sz7 | exact sz8 | exact sz10 | exact sz11 | exact sz12 | exact sz14 | omega | decide | (simp only [List.length_cons, List.length_nil]; omega)) | ((with_reducible show (_ : Int) ≤ _); first | omega | decide) | ((with_reducible show (_ : Int) < _); first | omega | decide) | ((with_reducible show (_ : Nat) < _); omega)) | ((fail_if_success (with_reducible show (_ : Nat) ≤ _)); (fail_if_success (with_reducible show (_ : Int) ≤ _)); (fail_if_success (with_reducible show (_ : Int) < _)); (fail_if_success (with_reducible show (_ : Nat) < _)); first | exact kv_str _ | exact kv_int _ | rfl | assumption | exact flat_strs _ | exact Lv.get (by assumption) 0 rfl | exact Lv.get (by assumption) 1 rfl | exact Lv.get (by assumption) 2 rfl | exact Lv.get (by assumption) 3 rfl | exact Lv.get (by assumption) 4 rfl | exact Lv.get (by assumption) 5 rfl | exact Lv.get (by assumption) 6 rfl | exact SqL.of (Lv.get (by assumption) 0 rfl) | exact SqL.of (Lv.get (by assumption) 1 rfl) | exact SqL.of (Lv.get (by assumption) 2 rfl) | exact SqL.of (Lv.get (by assumption) 3 rfl) | exact SqL.of (Lv.get (by assumption) 4 rfl) | exact SqL.of (Lv.get (by assumption) 5 rfl) | exact Or.inl (SqL.of (Lv.get (by assumption) 0 rfl)) | exact Or.inl (SqL.of (Lv.get (by assumption) 1 rfl)) | exact Or.inl (SqL.of (Lv.get (by assumption) 2 rfl)) | exact Or.inl (SqL.of (Lv.get (by assumption) 3 rfl)) | exact Or.inl (SqL.of (Lv.get (by assumption) 4 rfl)) | exact Or.inl (SqL.of (Lv.get (by assumption) 5 rfl)) | exact ⟨_, SqL.of (Lv.get (by assumption) 0 rfl)⟩ | exact ⟨_, SqL.of (Lv.get (by assumption) 1 rfl)⟩ | exact ⟨_, SqL.of (Lv.get (by assumption) 2 rfl)⟩ | exact ⟨_, SqL.of (Lv.get (by assumption) 3 rfl)⟩ | exact ⟨_, SqL.of (Lv.get (by assumption) 4 rfl)⟩ | exact ⟨_, SqL.of (Lv.get (by assumption) 5 rfl)⟩ | exact Or.inl ⟨_, SqL.of (Lv.get (by assumption) 0 rfl), rfl⟩ | exact Or.inl ⟨_, SqL.of (Lv.get (by assumption) 1 rfl), rfl⟩ | exact Or.inl ⟨_, SqL.of (Lv.get (by assumption) 2 rfl), rfl⟩ | exact Or.inl ⟨_, SqL.of (Lv.get (by assumption) 3 rfl), rfl⟩ | exact Or.inl ⟨_, SqL.of (Lv.get (by assumption) 4 rfl), rfl⟩ | exact Or.inl ⟨_, SqL.of (Lv.get (by assumption) 5 rfl), rfl⟩ | exact Or.inl ⟨rfl, _, SqL.of (Lv.get (by assumption) 0 rfl)⟩ | exact Or.inl ⟨rfl, _, SqL.of (Lv.get (by assumption) 1 rfl)⟩ | exact Or.inl ⟨rfl, _, SqL.of (Lv.get (by assumption) 2 rfl)⟩ | exact Or.inl ⟨rfl, _, SqL.of (Lv.get (by assumption) 3 rfl)⟩ | exact Or.inl ⟨rfl, _, SqL.of (Lv.get (by assumption) 4 rfl)⟩ | exact Or.inl ⟨rfl, _, SqL.of (Lv.get (by assumption) 5 rfl)⟩ | exact Or.inr (SqT.of (Lv.get (by assumption) 0 rfl)) | exact Or.inr (SqT.of (Lv.get (by assumption) 1 rfl)) | exact Or.inr (SqT.of (Lv.get (by assumption) 2 rfl)) | exact Or.inr (SqT.of (Lv.get (by assumption) 3 rfl)) | exact SqT.of (Lv.get (by assumption) 0 rfl) | exact SqT.of (Lv.get (by assumption) 1 rfl) | exact SqT.of (Lv.get (by assumption) 2 rfl) | exact dgetN (Lv.get (by assumption) 0 rfl) (by assumption) | exact dgetN (Lv.get (by assumption) 1 rfl) (by assumption) | exact dgetN (Lv.get (by assumption) 2 rfl) (by assumption) | exact dgetN (Lv.get (by assumption) 3 rfl) (by assumption) | exact dgetN (Lv.get (by assumption) 4 rfl) (by assumption) | exact Or.inl (by assumption) | exact Or.inr (by assumption) | decide | ((with_reducible show _ ∧ _); omega)))) | ((fail_if_success (with_reducible apply @Exists.intro (Nat → _))); (with_reducible apply Exists.intro))))
local macro_rules
  | `(tactic| wide_line with al $lv:ident $l:ident $nl:ident $H:ident $lv1:ident $s1:ident) => `(tactic| (intro $l:ident $nl:ident; generalize he : upd _ _ _ = $H:ident; have $lv1:ident := Lv.alE $lv $nl he; have $s1:ident := sameE $nl he; clear he; (try dsimp only at $lv1:ident)))
  | `(tactic| wide_line with alx $lv:ident $nl:ident $H:ident $lv1:ident $s1:ident) => `(tactic| (generalize he : upd _ _ _ = $H:ident; have $lv1:ident := Lv.alE $lv $nl he; have $s1:ident := sameE $nl he; clear he; (try dsimp only at $lv1:ident)))
  | `(tactic| wide_line with sts $lv:ident $i:num $H:ident $lv1:ident $s0:ident $np:ident $s1:ident) => `(tactic| (generalize he : upd _ _ _ = $H:ident; have $lv1:ident := Lv.stE $lv $i rfl he; have $s1:ident := sameN $s0 $np he; clear he; (try dsimp only at $lv1:ident)))
  | `(tactic| wide_line with stx $lv:ident $H:ident $lv1:ident $d1:ident) => `(tactic| (generalize he : upd _ _ _ = $H:ident; have $lv1:ident := Lv.stE $lv 0 rfl he; have $d1:ident := SameD.storeE (Lv.get $lv 0 rfl) he; clear he; (try dsimp only at $lv1:ident)))
  | `(tactic| wide_line with st $lv:ident $i:num $H:ident $lv1:ident) => `(tactic| (generalize he : upd _ _ _ = $H:ident; have $lv1:ident := Lv.stE $lv $i rfl he; clear he; (try dsimp only at $lv1:ident)))
  | `(tactic| wide_line with stk $lv:ident $i:num $H:ident $lv1:ident $k1:ident) => `(tactic| (generalize he : upd _ _ _ = $H:ident; have $lv1:ident := Lv.stE $lv $i rfl he; have $k1:ident := KeepT.st (Lv.get $lv $i rfl) he; clear he; (try dsimp only at $lv1:ident)))
def spLawParts (K : PySem.W.Frag) : Sp := fun vs H Q _ => ∃ (t : Addr) (n : Nat) (ns : List Str) (ts : List (Str × Str)) (ls : List (List Str)), vs = [.ref t] ∧ PlanAt K H t ns ts ∧ PlanOk n ns ts ∧ n ≤ 12 ∧ PartsR (seenOf ns ts) ns ns ls ∧ ∀ l xs H', Same H H' → H l = none → H' l = some (.lst xs) → RowAt H' xs ls → Q (.ref l) H'
theorem near_val {l : Str → Addr} {p : Str} : ∀ {ns : List Str}, p ∈ ns → valV (ns.map fun q => ((Sum.inr q : Key), V.ref (l q))) (.inr p) = some (.ref (l p))
  | q :: ns, h => by
    rw [List.map_cons]
    by_cases c : q = p
    · rw [valV_pos (p := ((Sum.inr q : Key), V.ref (l q))) (show (Sum.inr q : Key) = Sum.inr p from congrArg _ c), c]
    · rw [valV_neg (p := ((Sum.inr q : Key), V.ref (l q))) (fun z => c (Sum.inr.inj z))]
      exact near_val ((List.mem_cons.mp h).resolve_left (fun z => c z.symm))
/-- the while's measure -/
def muP (σ : L2.St) (_ : Hp) : Nat := match σ[5]? with
  | some (some (V.int m)) => 13 - m.toNat
  | _ => 0
section
variable {P : Program} {w : World} {K : PySem.W.Frag} {mg : Str → Option Value} {base : Heap}
abbrev sLawParts : Stmt := top ix_law_parts
theorem scLawParts : FnScope ["plan", "near", "found", "place", "part", "many", "one", "other"] ["plan"] (defScope sLawParts) := ⟨rfl, rfl, rfl, by decide +kernel, rfl, by decide +kernel, by decide +kernel⟩
theorem has_law_parts (T : Bn mg) (D : DFE K mg "_law_parts" sLawParts ["plan"]) (h_law_near : Has P w K mg base CX0 1 "_law_near" ["plan"] (spNear K)) : Has P w K mg base CX0 2 "_law_parts" ["plan"] (spLawParts K) := by
  refine has_of D scLawParts (fun vs H Q E h => ?_) (fun f cdv A outer s H vs Q E hr h => ?_)
  · obtain ⟨t, n, ns, ts, ls, rfl, _⟩ := h; rfl
  · obtain ⟨t, n, ns, ts, ls, rfl, hp, pk, hn, pr, k⟩ := h
    have nd := scLawParts.nd
    refine ⟨_, (pss_cons (ps_asg (pe_tup (pa_cons (pe_h h_law_near hr (by decide) rfl (pa_cons (pv 0) pa_nil)) (pa_cons (pe_lst pa_nil) pa_nil))) (pg_tup (n := 2) rfl (pgs_cons (pg_name (i := 1) nd rfl (by first | exact Or.inl rfl | exact Or.inr rfl)) (pgs_cons (pg_name (i := 2) nd rfl (by first | exact Or.inl rfl | exact Or.inr rfl)) pgs_nil))))
    (pss_cons (ps_for PassesOwn.never rfl (pi_sq (pe_ix ix_tup (pv 0) pe_int (fun _ _ => rfl))) (pg_name (i := 3) nd rfl (by first | exact Or.inl rfl | exact Or.inr rfl)) (pss_one (ps_if (pt_cmpR (op_eqNil hr.units) (pe_lc (own := [("part", 4)]) (g := gName 4) rfl nd (pi_list (pv 2)) (blkOk_by (own := [("part", 4)]) (N := ["plan", "near", "found", "place", "part", "many", "one", "other"]) (sc := defScope sLawParts) (by decide +kernel)) (fun _ _ _ _ _ => (pg_name (i := 4) nd rfl (by first | exact Or.inl rfl | exact Or.inr rfl))) (fun _ _ _ _ _ => (pts_one (pt_cmpR (op_in_seqk (K := K) rfl) (pv 3) (pv 4) (by first | exact nomark _ | rfl)))) (fun _ _ _ _ _ => (pv 4))) (pe_lst pa_nil) (by first | exact nomark _ | rfl)) (pss_cons (ps_asg (pe_tup (pa_cons (pe_lst (pa_cons (pv 3) pa_nil)) (pa_cons pe_int pa_nil))) (pg_tup (n := 2) rfl (pgs_cons (pg_name (i := 4) nd rfl (by first | exact Or.inl rfl | exact Or.inr rfl)) (pgs_cons (pg_name (i := 5) nd rfl (by first | exact Or.inl rfl | exact Or.inr rfl)) pgs_nil))))
    (pss_cons (ps_while PassesOwn.never (pt_cmpR op_ne (pv 5) (pe_callB call_len (by rfl) T.z_len (by decide +kernel) (pa_cons (pv 4) pa_nil)) (by first | exact nomark _ | rfl)) (pss_cons (ps_sv 5 nd (pe_callB call_len (by rfl) T.z_len (by decide +kernel) (pa_cons (pv 4) pa_nil)))
    (pss_one (ps_sv 4 nd (pe_lc (own := [("one", 6)]) (g := gName 6) rfl nd (pi_sq (pe_ix ix_tup (pv 0) pe_int (fun _ _ => rfl))) (blkOk_by (own := [("one", 6)]) (N := ["plan", "near", "found", "place", "part", "many", "one", "other"]) (sc := defScope sLawParts) (by decide +kernel)) (fun _ _ _ _ _ => (pg_name (i := 6) nd rfl (by first | exact Or.inl rfl | exact Or.inr rfl))) (fun _ _ _ _ _ => (pts_one (pt_cmpR (op_neNilk (K := K) rfl hr.units) (pe_lc (own := [("other", 7)]) (g := gName 7) rfl nd (pi_sqk (K := K) rfl (pe_dget (hu_of hr) (pv 1) (pv 6) (fun _ _ => rfl))) (blkOk_by (own := [("other", 7)]) (N := ["plan", "near", "found", "place", "part", "many", "one", "other"]) (sc := ({ kind := .function, names := [(".0", .local), ("one", .local), ("near", .cell), ("part", .cell)], isGenerator := false, isCoroutine := false } : Scope)) (by decide +kernel)) (fun _ _ _ _ _ => (pg_name (i := 7) nd rfl (by first | exact Or.inl rfl | exact Or.inr rfl))) (fun _ _ _ _ _ => (pts_one (pt_cmpR (op_in_seqk (K := K) rfl) (pv 7) (pv 4) (by first | exact nomark _ | rfl)))) (fun _ _ _ _ _ => (pv 7))) (pe_lst pa_nil) (by first | exact nomark _ | rfl)))) (fun _ _ _ _ _ => (pv 6)))))))
    (pss_one (ps_expr (pe_bm PySem.F.plainAttrs_list PySem.F.slot_list_append PySem.F.type_list_append mt_append (pv 2) (pa_cons (pv 4) pa_nil)))))) pss_nil)))
    (pss_one (ps_ret (pv 2))))), ?_⟩
    obtain ⟨tn, tt, xs, h1, h2, h3, h4⟩ := id hp
    have nl : ns.length ≤ 12 := Nat.le_trans pk.most hn
    refine ⟨_, rfl, t, n, ns, ts, rfl, hp, pk, hn, fun D1 H1 s1 nD1 near1 => ?_⟩
    obtain ⟨lf, hD1, hlf⟩ := near1
    have g1 := same_t s1 h1
    have g2 := same_t s1 h2
    refine ⟨sz0, fun Fd nFd => ?_⟩
    have lv2 := (Lv.zero H1).al (o := .lst []) nFd
    generalize upd H1 Fd (.lst []) = H2 at lv2 ⊢
    refine ⟨sz2, fun tp ntp => ?_⟩
    wide_line with alx lv2 ntp H3 lv3 s3
    refine ⟨tp, _, rfl, SqT.of (lv3.get 0 rfl), rfl, _, _, rfl, _, _, rfl, rfl, ?_⟩
    have lv3 := lv3.picks [1] rfl (by decide) (by simp)
    refine ⟨_, rfl, t, _, 0, .ref tn, rfl, rfl, same_t lv3.sm g1, rfl, tn, ns.map V.str, rfl, .inr (same_t lv3.sm g2), ?_⟩
    intro J G ex hG wk
    refine for_it wk (fun i σ H' => Hold (∃ (u3 u4 u5 u6 u7 : Option V) (xs : List V) (fs rest : List (List Str)), σ = [some (.ref t), some (.ref D1), some (.ref Fd), u3, u4, u5, u6, u7] ∧ Lv H1 [] H' [(Fd, .lst xs)] ∧ RowO Fd H' xs fs ∧ fs.length ≤ i ∧ ls = fs ++ rest ∧ PartsR (seenOf ns ts) ns ((ns.drop i).filter (offAll fs)) rest))
      ⟨_, _, _, _, _, [], [], ls, rfl, lv3, .nil, Nat.le_refl _, rfl, by
        rw [List.drop_zero, show ns.filter (offAll []) = ns from List.filter_eq_self.mpr fun _ _ => rfl]
        exact pr⟩ (fun i σ H' _ ⟨_, _, _, _, _, _, _, _, _, z, _⟩ => hG H' (SqKeep.of (.inr g2) lv3.sm z.sm ex)) ?_ ?_
    · rintro i x σ H4 H5 hi ⟨u3, u4, u5, u6, u7, xs4, fs, rest, rfl, lv4, ro, fl, els, pr4⟩ ⟨rfl, ex1⟩
      obtain ⟨p, hip, rfl⟩ := str_at ex1
      have hi' : i < ns.length := by simpa using hi
      have pin := List.mem_of_getElem? hip
      have dr : ns.drop i = p :: ns.drop (i + 1) := by
        rw [List.drop_eq_getElem_cons hi']
        congr 1
        exact (List.getElem?_eq_some_iff.mp hip).2
      rw [dr] at pr4
      have xl : xs4.length = fs.length := paired_len ro
      -- is the place within a part that is there
      refine ⟨_, rfl, Fd, rfl, ⟨_, SqL.of (lv4.get 0 rfl)⟩, fun L nL => ?_⟩
      have lvL := lv4.al (o := .lst []) nL
      refine lc_list (K := K) (a := Fd) (xs := xs4) (fun j H' => Hold (∃ ys, Lv H1 [] H' [(L, .lst ys), (Fd, .lst xs4)] ∧ Same H5 H' ∧ ys.length ≤ j ∧ ys.isEmpty = !((fs.take j).any fun l => decide (p ∈ l))))
        ⟨[], lvL, same_new nL, Nat.le_refl _, rfl⟩ (fun j H' _ ⟨_, z, _⟩ => SqL.of (z.get 1 rfl)) ?_ ?_
      · rintro j y H5 hj ⟨ys, lv5, s5, ly, e5⟩
        obtain ⟨l, hl, a, rfl, na, ha⟩ := paired_at ro hj
        have jl := (List.getElem?_eq_some_iff.mp hl).1
        have tk : fs.take (j + 1) = fs.take j ++ [l] := take_next2 hl
        refine ⟨rfl, _, rfl, _, rfl, a, l.map V.str, rfl, .inl (SqL.of (s5 _ _ ha)), rfl, flat_strs _, _, rfl, ?_⟩
        rw [if_neg (by decide), in_strs]
        refine ite2 (fun c => ?_) (fun c => ?_)
        · refine ⟨_, rfl, _, lv5.get 0 rfl, by rw [sizeLine_eq]; omega, ys ++ [.ref a], lv5.stE 0 rfl rfl, same_upd s5 nL, by rw [List.length_append, List.length_singleton]; omega, ?_⟩
          rw [tk, List.any_append, List.any_cons, c]
          simp
        · refine ⟨ys, lv5, s5, by omega, ?_⟩
          rw [tk, List.any_append, List.any_cons, show decide (p ∈ l) = false by simpa using c]
          simpa using e5
      · rintro H6 ⟨ys, lv6, s6, ly, e6⟩
        rw [xl, List.take_length] at e6
        refine ⟨sz0, fun L2 nL2 => ?_⟩
        wide_line with alx lv6 nL2 H7 lv7 s7
        refine ⟨_, _, _, rfl, rfl, SqL.of (lv7.get 1 rfl), SqL.of (lv7.get 0 rfl), _, rfl, ?_⟩
        have s57 := s6.trans s7
        have lv7 := lv7.picks [2] rfl (by decide) (by simp)
        have ro7 := ro.off (fun b o _ h => s57 b o h)
        rw [if_neg (by decide), e6, show (!fs.any fun l => decide (p ∈ l)) = offAll fs p from rfl]
        cases c : offAll fs p with
        | false =>
          refine iteF ?_
          exact ⟨_, _, _, _, _, xs4, fs, rest, rfl, lv7, ro7, by omega, els, parts_skip pr4 c⟩
        | true =>
          refine iteT ?_
          obtain ⟨e, rest', hr', er, pr5⟩ := parts_next pin pr4 c
          subst er
          have cl := hr'.closed fun q hq => .inl hq
          have pe : p ∈ e := hr'.sub p (List.mem_singleton.mpr rfl)
          -- the part
          refine ⟨_, rfl, sz1, fun Pa nPa => ?_⟩
          wide_line with alx lv7 nPa H8 lv8 s8
          refine ⟨sz2, fun tp ntp => ?_⟩
          wide_line with alx lv8 ntp H9 lv9 s9
          refine ⟨tp, _, rfl, SqT.of (lv9.get 0 rfl), rfl, _, _, rfl, _, _, rfl, rfl, ?_⟩
          have lv9 := lv9.picks [1, 2] rfl (by decide) (by simp)
          have ro9 := ro7.off (fun b o _ h => (s8.trans s9) b o h)
          clear lv8 s8 s9 ro7 s57
          refine while_n (fun σ H' => Hold (∃ (Pa : Addr) (part : List Str) (many : Nat) (u6 u7 : Option V), σ = [some (.ref t), some (.ref D1), some (.ref Fd), some (.str p), some (.ref Pa), some (.int (many : Nat)), u6, u7] ∧ Lv H1 [] H' [(Pa, .lst (part.map V.str)), (Fd, .lst xs4)] ∧ RowO Fd H' xs4 fs ∧
              ((many = 0 ∧ part = [p]) ∨ ∃ prev : List Str, many = prev.length ∧ part = closeT ns ts prev ∧ prev.Nodup ∧ (∀ q ∈ prev, q ∈ ns) ∧ p ∈ prev ∧ ∀ q ∈ prev, q ∈ e))) muP
            ⟨Pa, [p], 0, _, _, rfl, lv9, ro9, .inl ⟨rfl, rfl⟩⟩ ?_
          rintro σ H6 ⟨Pa, part, many, u6, u7, rfl, lv6, ro6, cond⟩
          have pk1 : part.Nodup ∧ (∀ q ∈ part, q ∈ ns) ∧ p ∈ part ∧ ∀ q ∈ part, q ∈ e := by
            rcases cond with ⟨_, rfl⟩ | ⟨prev, _, rfl, p1, p2, p3, p4⟩
            · exact ⟨by simp, by simpa using pin, by simp, by simpa using pe⟩
            · exact ⟨closeT_nd pk.nd, closeT_in, closeT_sub p2 p p3, closeT_e cl p4⟩
          obtain ⟨pn, pi, pp, pe'⟩ := pk1
          have pl : part.length ≤ 12 := Nat.le_trans (nodup_len pn pi) nl
          refine ⟨_, rfl, _, rfl, _, _, rfl, .inl ⟨_, SqL.of (lv6.get 0 rfl), rfl⟩, rfl, _, rfl, ?_⟩
          rw [List.length_map]
          by_cases same : many = part.length
          · rw [show decide (V.int (many : Nat) = V.int (part.length : Nat)) = true by rw [same]; exact decide_eq_true rfl]
            refine iteF ?_
            have fin : part = ns.filter fun q => decide (q ∈ e) := by
              rcases cond with ⟨rfl, rfl⟩ | ⟨prev, rfl, rfl, p1, p2, p3, p4⟩
              · simp at same
              · exact closeT_done pk.nd hr' p1 p2 p3 p4 (by omega)
            have nPF : Pa ≠ Fd := lv6.ne 0 1 (by decide) rfl rfl
            have fl4 : xs4.length < sizeLine := by rw [sizeLine_eq]; omega
            refine ⟨_, rfl, .inl ⟨rfl, _, SqL.of (lv6.get 1 rfl)⟩, _, rfl, Fd, xs4, _, rfl, rfl, lv6.get 1 rfl, fl4, ?_⟩
            generalize he : upd H6 Fd (.lst (xs4 ++ [.ref Pa])) = H7
            have lv7 := lv6.stE 1 rfl he
            have ro7 : RowO Fd H7 (xs4 ++ [.ref Pa]) (fs ++ [part]) := (ro6.off (fun b o nb hb => by rw [← he, upd_ne nb]; exact hb)).snoc nPF (lv7.get 0 rfl)
            rw [fin] at ro7
            exact ⟨_, _, _, _, _, _, _, rest', rfl, lv7.picks [1] rfl (by decide) (by simp), ro7, by rw [List.length_append, List.length_singleton]; omega, by rw [List.append_assoc]; exact els, pr5⟩
          · rw [show decide (V.int (many : Nat) = V.int (part.length : Nat)) = false from decide_eq_false (fun z => same (by have := V.int.inj z; omega))]
            refine iteT ⟨_, while_nx, ?_⟩
            have g16 := same_t lv6.sm g1
            have g26 := same_t lv6.sm g2
            have hD6 := lv6.sm _ _ hD1
            refine ⟨_, rfl, _, _, rfl, .inl ⟨_, SqL.of (lv6.get 0 rfl), rfl⟩, ?_⟩
            refine ⟨_, rfl, t, _, 0, .ref tn, rfl, rfl, g16, rfl, tn, ns.map V.str, rfl, .inr g26, ?_⟩
            intro J2 G2 ex2 hG2 wk2 L nL
            have lvL := lv6.al (o := .lst []) nL
            refine lc_it wk2 (fun j H' => Hold (Lv H1 [] H' [(L, .lst (((ns.take j).filter fun q => (seenOf ns ts q).any fun o => decide (o ∈ part)).map V.str)), (Pa, .lst (part.map V.str)), (Fd, .lst xs4)] ∧ Same H6 H')) ⟨lvL, same_new nL⟩ (fun j H' _ ⟨z, z2⟩ => hG2 H' (SqKeep.of (.inr g26) (.refl _) z2 ex2)) ?_ ?_
            · rintro j y H7 H8 hj ⟨lv7, s7⟩ ⟨rfl, ex3⟩
              obtain ⟨q, hq, rfl⟩ := str_at ex3
              have hj' : j < ns.length := by simpa using hj
              have tkj : ns.take (j + 1) = ns.take j ++ [q] := take_next2 hq
              have qin := List.mem_of_getElem? hq
              obtain ⟨hlq, _⟩ := hlf q qin
              have hlq7 := lv7.sm _ _ hlq
              have hD7 := lv7.sm _ _ hD1
              refine ⟨rfl, _, rfl, _, rfl, D1, .ref (lf q), rfl, dgetN hD7 (near_val qin), lf q, (seenOf ns ts q).map V.str, rfl, .inl (SqL.of hlq7), ?_⟩
              intro J3 G3 ex3 hG3 wk3 L3 nL3
              have lvL3 := lv7.al (o := .lst []) nL3
              refine lc_it wk3 (fun m H' => Hold (∃ ys, Lv H1 [] H' [(L3, .lst ys), (L, .lst (((ns.take j).filter fun q => (seenOf ns ts q).any fun o => decide (o ∈ part)).map V.str)), (Pa, .lst (part.map V.str)), (Fd, .lst xs4)] ∧ Same H8 H' ∧ ys.length ≤ m ∧ ys.isEmpty = !(((seenOf ns ts q).take m).any fun o => decide (o ∈ part))))
                ⟨[], lvL3, same_new nL3, Nat.le_refl _, rfl⟩ (fun m H' _ ⟨_, _, z2, _⟩ => hG3 H' (SqKeep.of (.inl (SqL.of hlq7)) (.refl _) z2 ex3)) ?_ ?_
              · rintro m z H9 H10 hm ⟨ys, lv9, s9, ly, e9⟩ ⟨rfl, ex4⟩
                obtain ⟨o, ho, rfl⟩ := str_at ex4
                have tkm : (seenOf ns ts q).take (m + 1) = (seenOf ns ts q).take m ++ [o] := take_next2 ho
                have ml : (seenOf ns ts q).length ≤ 12 := Nat.le_trans (List.length_filter_le _ _) nl
                have ml2 := (List.getElem?_eq_some_iff.mp ho).1
                refine ⟨rfl, _, rfl, _, rfl, Pa, part.map V.str, rfl, .inl (SqL.of (lv9.get 2 rfl)), rfl, flat_strs _, _, rfl, ?_⟩
                rw [if_neg (by decide), in_strs]
                refine ite2 (fun c => ?_) (fun c => ?_)
                · refine ⟨_, rfl, _, lv9.get 0 rfl, by rw [sizeLine_eq]; omega, ys ++ [.str o], lv9.stE 0 rfl rfl, same_upd s9 nL3, by rw [List.length_append, List.length_singleton]; omega, ?_⟩
                  rw [tkm, List.any_append, List.any_cons, c]
                  simp
                · refine ⟨ys, lv9, s9, by omega, ?_⟩
                  rw [tkm, List.any_append, List.any_cons, show decide (o ∈ part) = false by simpa using c]
                  simpa using e9
              · rintro H9 ⟨ys, lv9, s9, ly, e9⟩
                rw [List.length_map, List.take_length] at e9
                refine ⟨sz0, fun L4 nL4 => ?_⟩
                wide_line with alx lv9 nL4 H10 lv10 s10
                refine ⟨_, _, _, rfl, rfl, SqL.of (lv10.get 1 rfl), SqL.of (lv10.get 0 rfl), _, rfl, ?_⟩
                rw [if_pos rfl, e9, Bool.not_not]
                have s610 := s7.trans (s9.trans s10)
                refine ite2 (fun c => ?_) (fun c => ?_)
                · refine ⟨_, rfl, _, lv10.get 2 rfl, ?_, ?_, same_upd s610 nL⟩
                  · have h1 := List.length_filter_le (fun q => (seenOf ns ts q).any fun o => decide (o ∈ part)) (ns.take j)
                    have h2 := List.length_take_le j ns
                    rw [List.length_map, sizeLine_eq]
                    omega
                  · rw [tkj, List.filter_append, List.map_append, show [q].filter (fun q => (seenOf ns ts q).any fun o => decide (o ∈ part)) = [q] by simp only [List.filter]; rw [c]]
                    exact (lv10.stE 2 rfl rfl).picks [2, 3, 4] rfl (by decide) (by simp)
                · rw [tkj, List.filter_append, show [q].filter (fun q => (seenOf ns ts q).any fun o => decide (o ∈ part)) = [] by simp only [List.filter]; rw [show ((seenOf ns ts q).any fun o => decide (o ∈ part)) = false by simpa using c], List.append_nil]
                  exact ⟨lv10.picks [2, 3, 4] rfl (by decide) (by simp), s610⟩
            · rintro H7 ⟨lv7, s7⟩
              rw [List.length_map, List.take_length] at lv7
              have ro8 := ro6.off (fun b o _ h => s7 b o h)
              refine ⟨⟨L, closeT ns ts part, part.length, _, _, by rw [List.length_map]; rfl, lv7.picks [0, 2] rfl (by decide) (by simp), ro8, .inr ⟨part, rfl, rfl, pn, pi, pp, pe'⟩⟩, ?_⟩
              rw [List.length_map]
              show 13 - (part.length : Int).toNat < 13 - (many : Int).toNat
              have lt : many < part.length := by
                rcases cond with ⟨rfl, rfl⟩ | ⟨prev, rfl, rfl, p1, p2, p3, p4⟩
                · simp
                · have := nodup_len p1 (closeT_sub (ts := ts) p2)
                  omega
              omega
    · rintro σ H4 ⟨u3, u4, u5, u6, u7, xs4, fs, rest, rfl, lv4, ro, fl, els, pr4⟩
      rw [List.length_map, List.drop_length] at pr4
      cases pr4
      rw [List.append_nil] at els
      subst els
      exact ⟨_, rfl, k Fd xs4 H4 (s1.trans lv4.sm) (free_of s1 nFd) (lv4.get 0 rfl) (RowO.row ro)⟩
end
end Pw

set_option Elab.async false
set_option linter.all false
set_option maxRecDepth 100000
set_option maxHeartbeats 4000000
namespace Pw
open PySem PySem.Spec PyProof.Rows L2 Ct
/-! == and != of webs, with both answers; == with something else -/
/-- two webs, or a web and something else -/
def spEqA (K : PySem.W.Frag) (C : Addr) : Sp := fun vs H Q E => spEqW K C vs H Q E ∨ ∃ (x : Addr) (v : V) (ns : List Str) (ts : List (Str × Str)) (t : Value), vs = [.ref x, v] ∧ WebAt K C H x ns ts ∧ TyX K H v t ∧ PySem.W.kitOne K t (.ref C) = some false ∧ Q (.bl false) H
structure HasEq2 (P : Program) (w : World) (K : PySem.W.Frag) (mg : Str → Option Value) (base : Heap) (C : Addr) : Prop where
  ex : ∃ f fd, FnOk P w K mg base CX0 1 f fd ["self", "other"] (spEqA K C) ∧ EqC K C f ∧ Binds K fd ["self", "other"] []
section
variable {P : Program} {w : World} {K : PySem.W.Frag} {mg : Str → Option Value} {base : Heap} {C fa : Addr} {fd : FuncData}
theorem ok_eqA (T : Bn mg) (X : WC K C) (I : WI K C) (gW : mg "Web" = some (.ref C)) (F : Fun K "__eq__" "Web.__eq__" sEqW fa fd) : FnOk P w K mg base CX0 1 fa fd ["self", "other"] (spEqA K C) := by
  refine F.ok scEqW (fun vs H Q E h => ?_) (fun cdv A outer s H vs Q E hr h => ?_)
  · rcases h with ⟨x, y, ns, ms, ts, us, rfl, _⟩ | ⟨x, v, ns, ts, t, rfl, _⟩ <;> rfl
  · have nd := scEqW.nd
    refine ⟨_, (pss_one (ps_ret (pe_and (pe_callB call_isi (by rfl) T.z_isinstance (by decide +kernel) (pa_cons (pv 1) (pa_cons (pe_ref rfl gW) pa_nil))) (pe_and (pe_cmpR (op_eqD hr.units) (pe_fld (pv 0) rfl) (pe_fld (pv 1) rfl) (by first | exact nomark _ | rfl)) (pe_one (pe_cmpR (op_eqD hr.units) (pe_fld (pv 0) rfl) (pe_fld (pv 1) rfl) (by first | exact nomark _ | rfl))))))), ?_⟩
    rcases h with ⟨x, y, ns, ms, ts, us, rfl, hw, hv, g1, g2, k⟩ | ⟨x, v, ns, ts, t, rfl, hw, ty, kt, k⟩
    · obtain ⟨⟨dx, tp, tt, sg, sn, sp, sq, rk, xs, hx, _, _, _, _, _, _, hsp, hsq⟩⟩ := hw
      obtain ⟨⟨dx2, tp2, tt2, sg2, sn2, sp2, sq2, rk2, xs2, hx2, _, _, _, _, _, _, hsp2, hsq2⟩⟩ := hv
      refine ⟨_, rfl, .ref y, .ref C, _, _, true, rfl, .own C, .base (.ins hx2 X.cls I.ha I.hn I.ht I.hm), I.kit, _, rfl, iteT ?_⟩
      refine ⟨_, rfl, x, C, dx, _, _, rfl, hx, X.cls, X.n6, rfl, _, rfl, y, C, dx2, _, _, rfl, hx2, X.cls, X.n6, rfl, _, _, hsp, hsp2, shaped_srt (good_names g1), shaped_srt (good_names g2), _, rfl, ?_⟩
      unfold eqW at k
      cases e : PyData.eqv (.list (srt (ns.map PyData.str))) (.list (srt (ms.map PyData.str))) with
      | false => rw [e] at k; exact iteF k
      | true =>
        rw [e, Bool.true_and] at k
        refine iteT ⟨_, rfl, x, C, dx, _, _, rfl, hx, X.cls, X.n7, rfl, _, rfl, y, C, dx2, _, _, rfl, hx2, X.cls, X.n7, rfl, _, _, hsq, hsq2, shaped_srt (good_pairs g1), shaped_srt (good_pairs g2), k⟩
    · exact ⟨_, rfl, v, .ref C, t, _, false, rfl, .own C, ty, kt, _, rfl, iteF k⟩
end
/-- web == web, web != web -/
def rEqWW (K : PySem.W.Frag) (C : Addr) (neg : Bool) : R2 := fun x y H Q => ∃ (a b : Addr) (ns ms : List Str) (ts us : List (Str × Str)), x = .ref a ∧ y = .ref b ∧ WebAt K C H a ns ts ∧ WebAt K C H b ms us ∧ Good ns ts ∧ Good ms us ∧ Q (.bl (if neg then !eqW ns ms ts us else eqW ns ms ts us)) H
/-- web == something else -/
def rEqWD (K : PySem.W.Frag) (C : Addr) : R2 := fun x y H Q => ∃ (a : Addr) (ns : List Str) (ts : List (Str × Str)) (t : Value), x = .ref a ∧ WebAt K C H a ns ts ∧ TyX K H y t ∧ PySem.W.notFirst K C t = true ∧ PySem.W.kitOne K t (.ref C) = some false ∧ Q (.bl false) H
section
variable {X : Cx} {k : Nat} {C : Addr} {K : PySem.W.Frag}
theorem op_eqWW (hK : X.K = K) (h : HasEq2 X.prog X.w X.K X.mg X.base C) (X0 : WC X.K C) (I0 : WI X.K C) (hr : Room k X.A) (l : 1 ≤ k) (nf : PySem.W.notFirst X.K C (.ref C) = true) : OpR X (compareOp .Eq) (rEqWW K C false) := by
  subst hK
  obtain ⟨f, fd, F, Z, b⟩ := h.ex
  intro pins s σ H x y v u Q I rx ry q
  obtain ⟨a, c, ns, ms, ts, us, rfl, rfl, hx, hy, g1, g2, q⟩ := q
  obtain ⟨dx, fs, h1⟩ := webIns hx
  obtain ⟨dy, gs, h2⟩ := webIns hy
  exact op_eqO Z F b pass0 (hr.mono l) pins s σ H _ _ v u Q I rx ry ⟨⟨_, .base (.ins h2 X0.cls I0.ha I0.hn I0.ht I0.hm), nf⟩, a, dx, fs, rfl, h1, .inl ⟨a, c, ns, ms, ts, us, rfl, hx, hy, g1, g2, _, rfl, q⟩⟩
theorem op_neWW (hK : X.K = K) (h : HasEq2 X.prog X.w X.K X.mg X.base C) (hr : Room k X.A) (l : 2 ≤ k) : OpR X (compareOp .NotEq) (rEqWW K C true) := by
  subst hK
  obtain ⟨f, fd, F, Z, b⟩ := h.ex
  intro pins s σ H x y v u Q I rx ry q
  obtain ⟨a, c, ns, ms, ts, us, rfl, rfl, hx, hy, g1, g2, q⟩ := q
  obtain ⟨dx, fs, h1⟩ := webIns hx
  obtain ⟨dy, gs, h2⟩ := webIns hy
  exact op_neO Z F b pass0 (hr.mono l) pins s σ H _ _ v u Q I rx ry ⟨⟨c, dy, gs, rfl, h2⟩, a, dx, fs, rfl, h1, .inl ⟨a, c, ns, ms, ts, us, rfl, hx, hy, g1, g2, _, rfl, q⟩⟩
theorem op_eqWD (hK : X.K = K) (h : HasEq2 X.prog X.w X.K X.mg X.base C) (hr : Room k X.A) (l : 1 ≤ k) : OpR X (compareOp .Eq) (rEqWD K C) := by
  subst hK
  obtain ⟨f, fd, F, Z, b⟩ := h.ex
  intro pins s σ H x y v u Q I rx ry q
  obtain ⟨a, ns, ts, t, rfl, hx, ty, nf, kt, q⟩ := q
  obtain ⟨dx, fs, h1⟩ := webIns hx
  exact op_eqO Z F b pass0 (hr.mono l) pins s σ H _ _ v u Q I rx ry ⟨⟨t, ty, nf⟩, a, dx, fs, rfl, h1, .inr ⟨a, y, ns, ts, t, rfl, hx, ty, kt, _, rfl, q⟩⟩
end
end Pw

set_option Elab.async false
set_option linter.all false
set_option maxRecDepth 100000
set_option maxHeartbeats 4000000
namespace Pw
open PySem PySem.Spec PyProof.Rows L2 Ct
local macro_rules | `(tactic| wide_line) => `(tactic| repeat ((fail_if_success (with_reducible refine at_while ?_)); (fail_if_success (with_reducible refine at_while1 ?_)); (conv => whnf); first | ((with_reducible refine And.intro ?_ ?_); focus (first | (first | ((with_reducible show (_ : Nat) ≤ _); first | exact sz0 | exact sz1 | exact sz2 | exact sz3 | exact sz4 | exact sz5 | exact sz6 | exact sz7 | exact sz8 | exact sz10 | exact sz11 | exact sz12 | exact sz14 | omega | decide | (simp only [List.length_cons, List.length_nil]; omega)) | ((with_reducible show (_ : Int) ≤ _); first | omega | decide) | ((with_reducible show (_ : Int) < _); first | omega | decide) | ((with_reducible show (_ : Nat) < _); omega)) | ((fail_if_success (with_reducible show (_ : Nat) ≤ _)); (fail_if_success (with_reducible show (_ : Int) ≤ _)); (fail_if_success (with_reducible show (_ : Int) < _)); (fail_if_success (with_reducible show (_ : Nat) < _)); first | exact kv_str _ | exact kv_int _ | rfl | assumption | exact flat_strs _ | exact Lv.get (by assumption) 0 rfl | exact Lv.get (by assumption) 1 rfl | exact Lv.get (by assumption) 2 rfl | exact Lv.get (by assumption) 3 rfl | exact Lv.get (by assumption) 4 rfl | exact Lv.get (by assumption) 5 rfl | exact Lv.get (by assumption) 6 rfl | exact SqL.of (Lv.get (by assumption) 0 rfl) | exact SqL.of (Lv.get (by assumption) 1 rfl) | exact SqL.of (Lv.get (by assumption) 2 rfl) | exact SqL.of (Lv.get (by assumption) 3 rfl) | exact SqL.of (Lv.get (by assumption) 4 rfl) | exact SqL.of (Lv.get (by assumption) 5 rfl) | exact Or.inl (SqL.of (Lv.get (by assumption) 0 rfl)) | exact Or.inl (SqL.of (Lv.get (by assumption) 1 rfl)) | exact Or.inl (SqL.of (Lv.get (by assumption) 2 rfl)) | exact Or.inl (SqL.of (Lv.get (by assumption) 3 rfl)) | exact Or.inl (SqL.of (Lv.get (by assumption) 4 rfl)) | exact Or.inl (SqL.of (Lv.get (by assumption) 5 rfl)) | exact ⟨_, SqL.of (Lv.get (by assumption) 0 rfl)⟩ | exact ⟨_, SqL.of (Lv.get (by assumption) 1 rfl)⟩ | exact ⟨_, SqL.of (Lv.get (by assumption) 2 rfl)⟩ | exact ⟨_, SqL.of (Lv.get (by assumption) 3 rfl)⟩ | exact ⟨_, SqL.of (Lv.get (by assumption) 4 rfl)⟩ | exact ⟨_, SqL.of (Lv.get (by assumption) 5 rfl)⟩ | exact Or.inl ⟨_, SqL.of (Lv.get (by assumption) 0 rfl), rfl⟩ | exact Or.inl ⟨_, SqL.of (Lv.get (by assumption) 1 rfl), rfl⟩ | exact Or.inl ⟨_, SqL.of (Lv.get (by assumption) 2 rfl), rfl⟩ | exact Or.inl ⟨_, SqL.of (Lv.get (by assumption) 3 rfl), rfl⟩ | exact Or.inl ⟨_, SqL.of (Lv.get (by assumption) 4 rfl), rfl⟩ | exact Or.inl ⟨_, SqL.of (Lv.get (by assumption) 5 rfl), rfl⟩ | exact Or.inl ⟨rfl, _, SqL.of (Lv.get (by assumption) 0 rfl)⟩ | exact Or.inl ⟨rfl, _, SqL.of (Lv.get (by assumption) 1 rfl)⟩ | exact Or.inl ⟨rfl, _, SqL.of (Lv.get (by assumption) 2 rfl)⟩ | exact Or.inl ⟨rfl, _, SqL.of (Lv.get (by assumption) 3 rfl)⟩ | exact Or.inl ⟨rfl, _, SqL.of (Lv.get (by assumption) 4 rfl)⟩ | exact Or.inl ⟨rfl, _, SqL.of (Lv.get (by assumption) 5 rfl)⟩ | exact Or.inr (SqT.of (Lv.get (by assumption) 0 rfl)) | exact Or.inr (SqT.of (Lv.get (by assumption) 1 rfl)) | exact Or.inr (SqT.of (Lv.get (by assumption) 2 rfl)) | exact Or.inr (SqT.of (Lv.get (by assumption) 3 rfl)) | exact SqT.of (Lv.get (by assumption) 0 rfl) | exact SqT.of (Lv.get (by assumption) 1 rfl) | exact SqT.of (Lv.get (by assumption) 2 rfl) | exact dgetN (Lv.get (by assumption) 0 rfl) (by assumption) | exact dgetN (Lv.get (by assumption) 1 rfl) (by assumption) | exact dgetN (Lv.get (by assumption) 2 rfl) (by assumption) | exact dgetN (Lv.get (by assumption) 3 rfl) (by assumption) | exact dgetN (Lv.get (by assumption) 4 rfl) (by assumption) | exact Or.inl (by assumption) | exact Or.inr (by assumption) | decide | ((with_reducible show _ ∧ _); omega)))) | ((fail_if_success (with_reducible apply @Exists.intro (Nat → _))); (with_reducible apply Exists.intro))))
local macro_rules
  | `(tactic| wide_line with al $lv:ident $l:ident $nl:ident $H:ident $lv1:ident $s1:ident) => `(tactic| (intro $l:ident $nl:ident; generalize he : upd _ _ _ = $H:ident; have $lv1:ident := Lv.alE $lv $nl he; have $s1:ident := sameE $nl he; clear he; (try dsimp only at $lv1:ident)))
  | `(tactic| wide_line with alx $lv:ident $nl:ident $H:ident $lv1:ident $s1:ident) => `(tactic| (generalize he : upd _ _ _ = $H:ident; have $lv1:ident := Lv.alE $lv $nl he; have $s1:ident := sameE $nl he; clear he; (try dsimp only at $lv1:ident)))
  | `(tactic| wide_line with sts $lv:ident $i:num $H:ident $lv1:ident $s0:ident $np:ident $s1:ident) => `(tactic| (generalize he : upd _ _ _ = $H:ident; have $lv1:ident := Lv.stE $lv $i rfl he; have $s1:ident := sameN $s0 $np he; clear he; (try dsimp only at $lv1:ident)))
  | `(tactic| wide_line with stx $lv:ident $H:ident $lv1:ident $d1:ident) => `(tactic| (generalize he : upd _ _ _ = $H:ident; have $lv1:ident := Lv.stE $lv 0 rfl he; have $d1:ident := SameD.storeE (Lv.get $lv 0 rfl) he; clear he; (try dsimp only at $lv1:ident)))
  | `(tactic| wide_line with st $lv:ident $i:num $H:ident $lv1:ident) => `(tactic| (generalize he : upd _ _ _ = $H:ident; have $lv1:ident := Lv.stE $lv $i rfl he; clear he; (try dsimp only at $lv1:ident)))
  | `(tactic| wide_line with stk $lv:ident $i:num $H:ident $lv1:ident $k1:ident) => `(tactic| (generalize he : upd _ _ _ = $H:ident; have $lv1:ident := Lv.stE $lv $i rfl he; have $k1:ident := KeepT.st (Lv.get $lv $i rfl) he; clear he; (try dsimp only at $lv1:ident)))
def spLess (K : PySem.W.Frag) : Sp := fun vs H Q _ => ∃ (t g : Addr) (n : Nat) (ns : List Str) (ts : List (Str × Str)) (gs : List Str), vs = [.ref t, .ref g] ∧ PlanAt K H t ns ts ∧ PlanOk n ns ts ∧ n ≤ 12 ∧ SqL K H g (gs.map V.str) ∧ ∀ r H', Same H H' → H r = none → PlanAt K H' r (lessN ns gs) (lessT ns ts gs) → Q (.ref r) H'
theorem lessT_alt {ns : List Str} {ts : List (Str × Str)} (h : ∀ t ∈ ts, t.1 ∈ ns ∧ t.2 ∈ ns ∧ t.1 ≠ t.2) (gs : List Str) : lessT ns ts gs = ts.filter fun t => !decide (t.1 ∈ gs) && !decide (t.2 ∈ gs) := by
  unfold lessT lessN
  refine List.filter_congr fun t ht => ?_
  obtain ⟨h1, h2, _⟩ := h t ht
  simp [h1, h2]
section
variable {P : Program} {w : World} {K : PySem.W.Frag} {mg : Str → Option Value} {base : Heap}
abbrev sLawLess : Stmt := top ix_law_less
theorem scLawLess : FnScope ["plan", "gone", "ties", "tie", "place"] ["plan", "gone"] (defScope sLawLess) := ⟨rfl, rfl, rfl, by decide +kernel, rfl, by decide +kernel, by decide +kernel⟩
theorem has_law_less (T : Bn mg) (D : DFE K mg "_law_less" sLawLess ["plan", "gone"]) : Has P w K mg base CX0 1 "_law_less" ["plan", "gone"] (spLess K) := by
  refine has_of D scLawLess (fun vs H Q E h => ?_) (fun f cdv A outer s H vs Q E hr h => ?_)
  · obtain ⟨t, g, n, ns, ts, gs, rfl, _⟩ := h; rfl
  · obtain ⟨t, g, n, ns, ts, gs, rfl, ⟨tn, tt, xs, h1, h2, h3, h4⟩, pk, hn, hg, k⟩ := h
    have nd := scLawLess.nd
    refine ⟨_, (pss_cons (ps_setLc (i := 2) (own := [("tie", 3)]) (g := gName 3) rfl nd rfl rfl (sw_true rfl rfl rfl (by decide +kernel)) (pi_sq (pe_ix ix_tup (pv 0) pe_int (fun _ _ => rfl))) (blkOk_by (own := [("tie", 3)]) (N := ["plan", "gone", "ties", "tie", "place"]) (sc := defScope sLawLess) (by decide +kernel)) (fun _ _ _ _ _ => (pg_name (i := 3) nd rfl (by first | exact Or.inl rfl | exact Or.inr rfl))) (fun _ _ _ _ _ => (pts_one (PW.pt (pw_and (pt_cmpR (op_notIn_seqk (K := K) rfl) (pe_ix (ix_tupk (K := K) rfl) (pv 3) pe_int (fun _ _ => rfl)) (pv 1) (by first | exact nomark _ | rfl)) (pw_and1 (pt_cmpR (op_notIn_seqk (K := K) rfl) (pe_ix (ix_tupk (K := K) rfl) (pv 3) pe_int (fun _ _ => rfl)) (pv 1) (by first | exact nomark _ | rfl))))))) (fun _ _ _ _ _ => (pv 3)))
    (pss_one (ps_ret (pe_tup (pa_cons (pe_callTy call_tuple_of (by rfl) T.z_tuple (by decide +kernel) (pa_cons (pe_lc (own := [("place", 4)]) (g := gName 4) rfl nd (pi_sq (pe_ix ix_tup (pv 0) pe_int (fun _ _ => rfl))) (blkOk_by (own := [("place", 4)]) (N := ["plan", "gone", "ties", "tie", "place"]) (sc := defScope sLawLess) (by decide +kernel)) (fun _ _ _ _ _ => (pg_name (i := 4) nd rfl (by first | exact Or.inl rfl | exact Or.inr rfl))) (fun _ _ _ _ _ => (pts_one (pt_cmpR (op_notIn_seqk (K := K) rfl) (pv 4) (pv 1) (by first | exact nomark _ | rfl)))) (fun _ _ _ _ _ => (pv 4))) pa_nil)) (pa_cons (pe_callTy call_tuple_of (by rfl) T.z_tuple (by decide +kernel) (pa_cons (pv 2) pa_nil)) pa_nil)))))), ?_⟩
    have nl : ns.length ≤ 12 := Nat.le_trans pk.most hn
    have xl : xs.length = ts.length := paired_len h4
    have tl := pk.few
    refine ⟨_, rfl, t, _, 1, .ref tt, rfl, rfl, h1, rfl, tt, xs, rfl, .inr h3, ?_⟩
    intro J G ex hG wk L nL
    have lvL := (Lv.zero H).al (o := .lst []) nL
    refine lc_it wk (fun i H' => Hold (∃ ys, Lv H [] H' [(L, .lst ys)] ∧ ys.length ≤ i ∧ TiesAt K H ys ((ts.take i).filter fun t => !decide (t.1 ∈ gs) && !decide (t.2 ∈ gs)))) ⟨[], lvL, Nat.le_refl _, .nil⟩ (fun i H' _ ⟨_, z, _⟩ => hG H' (SqKeep.of (.inr h3) (.refl _) z.sm ex)) ?_ ?_
    · rintro i x H1 H2 hi ⟨ys, lv1, ly, ty⟩ ⟨rfl, ex1⟩
      obtain ⟨u, b, hu, rfl, hb⟩ := ties_at h4 ex1
      have hb1 : SqT K H2 b [.str u.1, .str u.2] := same_t lv1.sm hb
      have hg1 := lv1.sm.seq hg
      have tk : ts.take (i + 1) = ts.take i ++ [u] := take_next2 hu
      have i7 : i < 75 := by omega
      have no : (!decide (u.1 ∈ gs) && !decide (u.2 ∈ gs)) = false → Hold (∃ ys, Lv H [] H2 [(L, .lst ys)] ∧ ys.length ≤ i + 1 ∧ TiesAt K H ys ((ts.take (i + 1)).filter fun t => !decide (t.1 ∈ gs) && !decide (t.2 ∈ gs))) := fun e => by
        refine ⟨ys, lv1, by omega, ?_⟩
        rw [tk, List.filter_append, show [u].filter (fun t => !decide (t.1 ∈ gs) && !decide (t.2 ∈ gs)) = [] by simp only [List.filter]; rw [e], List.append_nil]
        exact ty
      refine ⟨rfl, _, rfl, b, _, 0, .str u.1, rfl, rfl, hb1, rfl, _, rfl, g, gs.map V.str, rfl, .inl hg1, rfl, flat_strs _, _, rfl, ?_⟩
      rw [if_pos rfl, in_strs]
      refine ite2 (fun c1 => ?_) (fun c1 => no (by rw [show (!decide (u.1 ∈ gs)) = false by simpa using c1]; rfl))
      refine ⟨_, rfl, b, _, 1, .str u.2, rfl, rfl, hb1, rfl, _, rfl, g, gs.map V.str, rfl, .inl hg1, rfl, flat_strs _, _, rfl, ?_⟩
      rw [if_pos rfl, in_strs]
      refine ite2 (fun c2 => ?_) (fun c2 => no (by rw [show (!decide (u.2 ∈ gs)) = false by simpa using c2, Bool.and_false]))
      refine ⟨_, rfl, _, lv1.get 0 rfl, by rw [sizeLine_eq]; omega, ys ++ [.ref b], lv1.stE 0 rfl rfl, by rw [List.length_append, List.length_singleton]; omega, ?_⟩
      rw [tk, List.filter_append, show [u].filter (fun t => !decide (t.1 ∈ gs) && !decide (t.2 ∈ gs)) = [u] by simp only [List.filter]; rw [show (!decide (u.1 ∈ gs) && !decide (u.2 ∈ gs)) = true by rw [c1, c2]; rfl]]
      exact ty.app (.cons ⟨b, rfl, hb⟩ .nil)
    · rintro H1 ⟨ys, lv1, ly, ty⟩
      rw [xl, List.take_length] at ty
      rw [xl] at ly
      have g1 := same_t lv1.sm h1
      have g2 := same_t lv1.sm h2
      have hg1 := lv1.sm.seq hg
      refine ⟨_, rfl, t, _, 0, .ref tn, rfl, rfl, g1, rfl, tn, ns.map V.str, rfl, .inr g2, ?_⟩
      intro J2 G2 ex2 hG2 wk2 L2 nL2
      have lvL2 := lv1.al (o := .lst []) nL2
      refine lc_it wk2 (fun i H' => Hold (Lv H [] H' [(L2, .lst ((lessN (ns.take i) gs).map V.str)), (L, .lst ys)] ∧ Same H1 H')) ⟨lvL2, same_new nL2⟩ (fun i H' _ ⟨z, z2⟩ => hG2 H' (SqKeep.of (.inr g2) (.refl _) z2 ex2)) ?_ ?_
      · rintro i x H2 H3 hi ⟨lv2, s2⟩ ⟨rfl, ex3⟩
        obtain ⟨q, hq, rfl⟩ := str_at ex3
        have tk : ns.take (i + 1) = ns.take i ++ [q] := take_next2 hq
        have i7 := (List.getElem?_eq_some_iff.mp hq).1
        refine ⟨rfl, _, rfl, _, rfl, g, gs.map V.str, rfl, .inl (s2.seq hg1), rfl, flat_strs _, _, rfl, ?_⟩
        rw [if_pos rfl, in_strs]
        unfold lessN at lv2 ⊢
        refine ite2 (fun c => ?_) (fun c => ?_)
        · refine ⟨_, rfl, _, lv2.get 0 rfl, ?_, ?_, same_upd s2 nL2⟩
          · have h1 := List.length_filter_le (fun p => !decide (p ∈ gs)) (ns.take i)
            have h2 := List.length_take_le i ns
            rw [List.length_map, sizeLine_eq]
            omega
          · rw [tk, List.filter_append, List.map_append, show [q].filter (fun p => !decide (p ∈ gs)) = [q] by simp only [List.filter]; rw [c]]
            exact lv2.stE 0 rfl rfl
        · rw [tk, List.filter_append, show [q].filter (fun p => !decide (p ∈ gs)) = [] by simp only [List.filter]; rw [show (!decide (q ∈ gs)) = false by simpa using c], List.append_nil]
          exact ⟨lv2, s2⟩
      · rintro H2 ⟨lv2, s2⟩
        rw [List.length_map, List.take_length] at lv2
        refine ⟨L2, _, rfl, .inl ⟨SqL.of (lv2.get 0 rfl), fun tn2 ntn => ?_⟩⟩
        wide_line with alx lv2 ntn H3 lv3 s3
        refine ⟨_, rfl, L, _, rfl, .inl ⟨SqL.of (lv3.get 2 rfl), fun tt2 ntt => ?_⟩⟩
        wide_line with alx lv3 ntt H4 lv4 s4
        refine ⟨sz2, fun r nr => ?_⟩
        wide_line with alx lv4 nr H5 lv5 s5
        refine k r H5 lv5.sm (lv4.free nr) ⟨tn2, tt2, ys, SqT.of (lv5.get 0 rfl), SqT.of (lv5.get 2 rfl), SqT.of (lv5.get 1 rfl), ?_⟩
        rw [lessT_alt pk.tie]
        exact ty.same lv5.sm
end
end Pw

set_option Elab.async false
set_option linter.all false
set_option maxRecDepth 100000
set_option maxHeartbeats 4000000
namespace Pw
open PySem PySem.Spec PyProof.Rows L2 Ct
local macro_rules | `(tactic| wide_line) => `(tactic| repeat ((fail_if_success (with_reducible refine at_while ?_)); (fail_if_success (with_reducible refine at_while1 ?_)); (conv => whnf); first | ((with_reducible refine And.intro ?_ ?_); focus (first | (first | ((with_reducible show (_ : Nat) ≤ _); first | exact sz0 | exact sz1 | exact sz2 | exact sz3 | exact sz4 | exact sz5 | exact sz6 | exact sz7 | exact sz8 | exact sz10 | exact sz11 | exact sz12 | exact sz14 | omega | decide | (simp only [List.length_cons, List.length_nil]; omega)) | ((with_reducible show (_ : Int) ≤ _); first | omega | decide) | ((with_reducible show (_ : Int) < _); first | omega | decide) | ((with_reducible show (_ : Nat) < _); omega)) | ((fail_if_success (with_reducible show (_ : Nat) ≤ _)); (fail_if_success (with_reducible show (_ : Int) ≤ _)); (fail_if_success (with_reducible show (_ : Int) < _)); (fail_if_success (with_reducible show (_ : Nat) < _)); first | exact kv_str _ | exact kv_int _ | rfl | assumption | exact flat_strs _ | exact Lv.get (by assumption) 0 rfl | exact Lv.get (by assumption) 1 rfl | exact Lv.get (by assumption) 2 rfl | exact Lv.get (by assumption) 3 rfl | exact Lv.get (by assumption) 4 rfl | exact Lv.get (by assumption) 5 rfl | exact Lv.get (by assumption) 6 rfl | exact SqL.of (Lv.get (by assumption) 0 rfl) | exact SqL.of (Lv.get (by assumption) 1 rfl) | exact SqL.of (Lv.get (by assumption) 2 rfl) | exact SqL.of (Lv.get (by assumption) 3 rfl) | exact SqL.of (Lv.get (by assumption) 4 rfl) | exact SqL.of (Lv.get (by assumption) 5 rfl) | exact Or.inl (SqL.of (Lv.get (by assumption) 0 rfl)) | exact Or.inl (SqL.of (Lv.get (by assumption) 1 rfl)) | exact Or.inl (SqL.of (Lv.get (by assumption) 2 rfl)) | exact Or.inl (SqL.of (Lv.get (by assumption) 3 rfl)) | exact Or.inl (SqL.of (Lv.get (by assumption) 4 rfl)) | exact Or.inl (SqL.of (Lv.get (by assumption) 5 rfl)) | exact ⟨_, SqL.of (Lv.get (by assumption) 0 rfl)⟩ | exact ⟨_, SqL.of (Lv.get (by assumption) 1 rfl)⟩ | exact ⟨_, SqL.of (Lv.get (by assumption) 2 rfl)⟩ | exact ⟨_, SqL.of (Lv.get (by assumption) 3 rfl)⟩ | exact ⟨_, SqL.of (Lv.get (by assumption) 4 rfl)⟩ | exact ⟨_, SqL.of (Lv.get (by assumption) 5 rfl)⟩ | exact Or.inl ⟨_, SqL.of (Lv.get (by assumption) 0 rfl), rfl⟩ | exact Or.inl ⟨_, SqL.of (Lv.get (by assumption) 1 rfl), rfl⟩ | exact Or.inl ⟨_, SqL.of (Lv.get (by assumption) 2 rfl), rfl⟩ | exact Or.inl ⟨_, SqL.of (Lv.get (by assumption) 3 rfl), rfl⟩ | exact Or.inl ⟨_, SqL.of (Lv.get (by assumption) 4 rfl), rfl⟩ | exact Or.inl ⟨_, SqL.of (Lv.get (by assumption) 5 rfl), rfl⟩ | exact Or.inl ⟨rfl, _, SqL.of (Lv.get (by assumption) 0 rfl)⟩ | exact Or.inl ⟨rfl, _, SqL.of (Lv.get (by assumption) 1 rfl)⟩ | exact Or.inl ⟨rfl, _, SqL.of (Lv.get (by assumption) 2 rfl)⟩ | exact Or.inl ⟨rfl, _, SqL.of (Lv.get (by assumption) 3 rfl)⟩ | exact Or.inl ⟨rfl, _, SqL.of (Lv.get (by assumption) 4 rfl)⟩ | exact Or.inl ⟨rfl, _, SqL.of (Lv.get (by assumption) 5 rfl)⟩ | exact Or.inr (SqT.of (Lv.get (by assumption) 0 rfl)) | exact Or.inr (SqT.of (Lv.get (by assumption) 1 rfl)) | exact Or.inr (SqT.of (Lv.get (by assumption) 2 rfl)) | exact Or.inr (SqT.of (Lv.get (by assumption) 3 rfl)) | exact SqT.of (Lv.get (by assumption) 0 rfl) | exact SqT.of (Lv.get (by assumption) 1 rfl) | exact SqT.of (Lv.get (by assumption) 2 rfl) | exact dgetN (Lv.get (by assumption) 0 rfl) (by assumption) | exact dgetN (Lv.get (by assumption) 1 rfl) (by assumption) | exact dgetN (Lv.get (by assumption) 2 rfl) (by assumption) | exact dgetN (Lv.get (by assumption) 3 rfl) (by assumption) | exact dgetN (Lv.get (by assumption) 4 rfl) (by assumption) | exact Or.inl (by assumption) | exact Or.inr (by assumption) | decide | ((with_reducible show _ ∧ _); omega)))) | ((fail_if_success (with_reducible apply @Exists.intro (Nat → _))); (with_reducible apply Exists.intro))))
local macro_rules
  | `(tactic| wide_line with al $lv:ident $l:ident $nl:ident $H:ident $lv1:ident $s1:ident) => `(tactic| (intro $l:ident $nl:ident; generalize he : upd _ _ _ = $H:ident; have $lv1:ident := Lv.alE $lv $nl he; have $s1:ident := sameE $nl he; clear he; (try dsimp only at $lv1:ident)))
  | `(tactic| wide_line with alx $lv:ident $nl:ident $H:ident $lv1:ident $s1:ident) => `(tactic| (generalize he : upd _ _ _ = $H:ident; have $lv1:ident := Lv.alE $lv $nl he; have $s1:ident := sameE $nl he; clear he; (try dsimp only at $lv1:ident)))
  | `(tactic| wide_line with sts $lv:ident $i:num $H:ident $lv1:ident $s0:ident $np:ident $s1:ident) => `(tactic| (generalize he : upd _ _ _ = $H:ident; have $lv1:ident := Lv.stE $lv $i rfl he; have $s1:ident := sameN $s0 $np he; clear he; (try dsimp only at $lv1:ident)))
  | `(tactic| wide_line with stx $lv:ident $H:ident $lv1:ident $d1:ident) => `(tactic| (generalize he : upd _ _ _ = $H:ident; have $lv1:ident := Lv.stE $lv 0 rfl he; have $d1:ident := SameD.storeE (Lv.get $lv 0 rfl) he; clear he; (try dsimp only at $lv1:ident)))
  | `(tactic| wide_line with st $lv:ident $i:num $H:ident $lv1:ident) => `(tactic| (generalize he : upd _ _ _ = $H:ident; have $lv1:ident := Lv.stE $lv $i rfl he; clear he; (try dsimp only at $lv1:ident)))
  | `(tactic| wide_line with stk $lv:ident $i:num $H:ident $lv1:ident $k1:ident) => `(tactic| (generalize he : upd _ _ _ = $H:ident; have $lv1:ident := Lv.stE $lv $i rfl he; have $k1:ident := KeepT.st (Lv.get $lv $i rfl) he; clear he; (try dsimp only at $lv1:ident)))
def spSame (K : PySem.W.Frag) (C : Addr) : Sp := fun vs H Q _ => ∃ (x t : Addr) (n : Nat) (ns : List Str) (ts : List (Str × Str)), vs = [.ref x, .ref t] ∧ WebAt K C H x ns ts ∧ PlanAt K H t ns ts ∧ PlanOk n ns ts ∧ n ≤ 12 ∧ ∀ H', Same H H' → Q (.bl true) H'
theorem shaped_tup {ds : List PyData} (h : SeqAt.shaped (.list ds) = true) : SeqAt.shaped (.tuple ds) = true := by
  unfold SeqAt.shaped at h ⊢
  rw [Bool.and_eq_true, decide_eq_true_eq] at h ⊢
  refine ⟨?_, ?_⟩
  · have := h.1
    simp only [PyData.canLay0] at this ⊢
    exact this
  · have := h.2
    simp only [PyData.depth] at this ⊢
    exact this
theorem shaped_names {ns : List Str} (h : ∀ x ∈ ns, okName x = true) : SeqAt.shaped (.tuple (ns.map PyData.str)) = true := shaped_tup (shaped_row h)
theorem eqv_refl' {d : PyData} (h : SeqAt.shaped d = true) : PyData.eqv d d = true := SeqAt.eqv_refl _ (SeqAt.canLay_of_shaped h)
section
variable {P : Program} {w : World} {K : PySem.W.Frag} {mg : Str → Option Value} {base : Heap} {C CP CS CT CN : Addr}
abbrev sLawSame : Stmt := top ix_law_same
theorem scLawSame : FnScope ["web", "plan", "near", "place"] ["web", "plan"] (defScope sLawSame) := ⟨rfl, rfl, rfl, by decide +kernel, rfl, by decide +kernel, by decide +kernel⟩
theorem has_law_same (T : Bn mg) (X : WC K C) (D : DFE K mg "_law_same" sLawSame ["web", "plan"]) (hP_places : HasP P w K mg base 1 C "places" (getSp C "_places")) (hP_ties : HasP P w K mg base 1 C "ties" (getSp C "_ties")) (hQ : HasEq2 P w K mg base C) (hM_sees : HasM P w K mg base (L2.CX P w) 5 C "sees" ["self", "place"] (spSees K C CN)) (hM_parts : HasM P w K mg base CX0 2 C "parts" ["self"] (spParts C K))
    (h_law_near : Has P w K mg base CX0 1 "_law_near" ["plan"] (spNear K)) (h_law_web : Has P w K mg base CX0 6 "_law_web" ["plan"] (spWebOf K C)) (h_law_parts : Has P w K mg base CX0 2 "_law_parts" ["plan"] (spLawParts K)) : Has P w K mg base CX0 7 "_law_same" ["web", "plan"] (spSame K C) := by
  refine has_of D scLawSame (fun vs H Q E h => ?_) (fun f cdv A outer s H vs Q E hr h => ?_)
  · obtain ⟨x, t, n, ns, ts, rfl, _⟩ := h; rfl
  · obtain ⟨x, t, n, ns, ts, rfl, hw, hp, pk, hn, k⟩ := h
    have nd := scLawSame.nd
    refine ⟨_, (pss_cons (ps_sv 2 nd (pe_h h_law_near hr (by decide) rfl (pa_cons (pv 1) pa_nil)))
    (pss_cons (ps_if (PW.pt (pw_or (pt_cmpR (op_neD hr.units) (pe_hP hP_places X.cls hr (by decide) (pv 0)) (pe_ix ix_tup (pv 1) pe_int (fun _ _ => rfl)) (by first | exact nomark _ | rfl)) (pw_or (pt_cmpR (op_neD hr.units) (pe_hP hP_ties X.cls hr (by decide) (pv 0)) (pe_ix ix_tup (pv 1) pe_int (fun _ _ => rfl)) (by first | exact nomark _ | rfl)) (pw_or (pt_cmpR (op_neWW (K := K) rfl hQ hr (by decide)) (pv 0) (pe_h h_law_web hr (by decide) rfl (pa_cons (pv 1) pa_nil)) (by first | exact nomark _ | rfl)) (pw_or1 (pt_cmpR (op_neD hr.units) (pe_hM0 hM_parts X.cls hr (by decide) (pv 0)) (pe_h h_law_parts hr (by decide) rfl (pa_cons (pv 1) pa_nil)) (by first | exact nomark _ | rfl))))))) (pss_one (ps_ret pe_bl)) pss_nil)
    (pss_one (ps_ret (pe_cmpR (op_eqNil hr.units) (pe_lc (own := [("place", 3)]) (g := gName 3) rfl nd (pi_sq (pe_ix ix_tup (pv 1) pe_int (fun _ _ => rfl))) (blkOk_by (own := [("place", 3)]) (N := ["web", "plan", "near", "place"]) (sc := defScope sLawSame) (by decide +kernel)) (fun _ _ _ _ _ => (pg_name (i := 3) nd rfl (by first | exact Or.inl rfl | exact Or.inr rfl))) (fun _ _ _ _ _ => (pts_one (pt_cmpR (op_neDk (K := K) rfl hr.units) (pe_hML hM_sees X.cls hr (by decide) (pv 0) (pa_cons (pv 3) pa_nil)) (pe_dget (hu_of hr) (pv 2) (pv 3) (fun _ _ => rfl)) (by first | exact nomark _ | rfl)))) (fun _ _ _ _ _ => (pv 3))) (pe_lst pa_nil) (by first | exact nomark _ | rfl)))))), ?_⟩
    have gd := pk.good
    have okt : ∀ u ∈ ts, okTie u := fun u hu => ⟨pk.nm _ (pk.tie u hu).1, pk.nm _ (pk.tie u hu).2.1⟩
    refine ⟨_, rfl, t, n, ns, ts, rfl, hp, pk, hn, fun D1 H1 s1 nD1 near1 => ?_⟩
    have hw1 := WebAt.same s1 hw
    obtain ⟨tn, tt, xs, h1, h2, h3, h4⟩ := hp.same s1
    obtain ⟨⟨dx, tp, ttw, sg, sn, sp, sq, rk, txs, hx, htp, htt, hts, _⟩⟩ := id hw1
    refine ⟨_, rfl, x, dx, _, rfl, hx, x, dx, _, _, rfl, hx, rfl, _, rfl, t, _, 0, .ref tn, rfl, rfl, h1, rfl, .tuple (ns.map PyData.str), .tuple (ns.map PyData.str), .tup htp (dp_strs _), .tup h2 (dp_strs _), shaped_names pk.nm, shaped_names pk.nm, _, rfl, ?_⟩
    rw [eqv_refl' (shaped_names pk.nm)]
    refine iteF ?_
    refine ⟨_, rfl, x, dx, _, rfl, hx, x, dx, _, _, rfl, hx, rfl, _, rfl, t, _, 1, .ref tt, rfl, rfl, h1, rfl, .tuple (ts.map tieDat), .tuple (ts.map tieDat), .tup htt (dp_ties hts), .tup h3 (dp_ties h4), shaped_tup (shaped_ties okt), shaped_tup (shaped_ties okt), _, rfl, ?_⟩
    rw [eqv_refl' (shaped_tup (shaped_ties okt))]
    refine iteF ?_
    refine ⟨_, rfl, _, rfl, t, n, ns, ts, rfl, ⟨tn, tt, xs, h1, h2, h3, h4⟩, pk, hn, fun y H2 s2 ny hy0 => ?_⟩
    have hy := WebAt.same noLst_sub hy0
    have hw2 := WebAt.same s2 hw1
    refine ⟨x, y, ns, ns, ts, ts, rfl, rfl, hw2, hy, gd, gd, _, rfl, ?_⟩
    rw [eqW_self gd, if_pos rfl]
    refine iteF ?_
    obtain ⟨dx2, fs2, hx2, _, no2, _⟩ := webNo hw2
    refine ⟨_, rfl, x, dx2, fs2, rfl, hx2, no2, x, ns, ts, rfl, hw2, Nat.le_trans pk.most (Nat.le_trans hn (by decide)), fun ls pl l xs1 H3 s3 nl hl rw1 _ => ?_⟩
    have hp3 : PlanAt K H3 t ns ts := PlanAt.same (s2.trans s3) ⟨tn, tt, xs, h1, h2, h3, h4⟩
    refine ⟨_, rfl, t, n, ns, ts, ls, rfl, hp3, pk, hn, pl, fun l4 xs4 H4 s4 nl4 hl4 rw4 => ?_⟩
    have go : ∀ l ∈ ls, ∀ q ∈ l, okName q = true := fun l hl q hq => pk.nm q (pl.mem l hl q hq)
    refine ⟨.list (ls.map rowD), .list (ls.map rowD), .lst (SqL.of (s4 _ _ hl)) (RowAt.dp (RowAt.same s4 rw1)), .lst (SqL.of hl4) (RowAt.dp rw4), shaped_rows go, shaped_rows go, _, rfl, ?_⟩
    rw [eqv_refl' (shaped_rows go)]
    refine iteF ?_
    have s14 := s2.trans (s3.trans s4)
    have hw4 := WebAt.same s14 hw1
    obtain ⟨lf, hD1, hlf⟩ := near1.same s14
    have g1 := same_t s14 h1
    have g2 := same_t s14 h2
    refine ⟨_, rfl, t, _, 0, .ref tn, rfl, rfl, g1, rfl, tn, ns.map V.str, rfl, .inr g2, ?_⟩
    intro J G ex hG wk L nL
    refine lc_it wk (fun i H' => Hold (Lv H4 [] H' [(L, .lst [])])) ⟨(Lv.zero H4).al nL⟩ (fun i H' _ p => hG H' (SqKeep.of (.inr g2) (.refl _) p.out.sm ex)) ?_ ?_
    · rintro i v H5 H6 hi ⟨lv⟩ ⟨rfl, hxi⟩
      obtain ⟨q, hq, rfl⟩ := str_at hxi
      have qin := List.mem_of_getElem? hq
      have hw5 := WebAt.same lv.sm hw4
      obtain ⟨dx5, fs5, hx5, no5, _⟩ := webNo hw5
      refine ⟨rfl, _, rfl, x, dx5, fs5, rfl, hx5, no5, _, rfl, x, .str q, ns, ts, .str q, rfl, hw5, .str q, fun p e hp l H7 s7 nl hl => ?_, fun z => ?_⟩
      · cases e
        have go : ∀ z ∈ seenOf ns ts q, okName z = true := fun z hz => pk.nm z (List.mem_filter.mp hz).1
        refine ⟨_, rfl, _, rfl, D1, .ref (lf q), rfl, dgetN (s7 _ _ (lv.sm _ _ hD1)) (near_val qin), rowD (seenOf ns ts q), rowD (seenOf ns ts q), .lst (SqL.of hl) (dp_strs _), .lst (SqL.of (s7 _ _ (lv.sm _ _ (hlf q qin).1))) (dp_strs _), shaped_row go, shaped_row go, ?_⟩
        rw [eqv_refl' (shaped_row go)]
        exact ⟨_, rfl, iteF (Hold.mk (Lv.same lv s7))⟩
      · exact absurd (amid_str.mpr qin) (by rw [z]; decide)
    · rintro H5 ⟨lv⟩
      refine ⟨sz0, fun l2 n2 => ?_⟩
      wide_line with alx lv n2 H6 lv6 s6
      exact ⟨_, _, _, rfl, rfl, SqL.of (lv6.get 1 rfl), SqL.of (lv6.get 0 rfl), k H6 (s1.trans (s14.trans lv6.sm))⟩
end
end Pw

set_option Elab.async false
set_option linter.all false
set_option maxRecDepth 100000
set_option maxHeartbeats 2000000
/-! Own kit Zd: a method in a try. -/
namespace Ct
open PySem PySem.Spec PyProof.Rows L2
def tMethT (C : Addr) (m : Str) (sp : Sp) (E : L2.St → XK) (ta : TE) (t : TA) : TE := fun σ H Q => ta σ H fun x H1 => ∃ a dx fs, x = .ref a ∧ H1 a = some (.ins C dx fs) ∧ fs.lookup m = none ∧ t σ H1 fun vs H2 => sp (x :: vs) H2 Q (E σ)
section
variable {X : Cx} {k j : Nat} {C f : Addr} {fd : FuncData} {ps : List Str} {sp : Sp} {W : WX} {m : Str} {pos apos : Pos} {e o : Expr} {es : List Expr} {ta : TE} {t : TA}
theorem pe_methT {pl : Sem Bool} (tk : Takes X W) (hm : Meth X.K C m f) (b : Binds X.K fd ps []) (F : FnOk X.prog X.w X.K X.mg X.base (L2.CX X.prog X.w) j f fd ps sp) (c : Cls X.K C) (hr : Room k X.A) (l : j ≤ k) (ho : PE X o ta) (ha : PA X (e :: es) t)
    (hst : starEach (e :: es) X.env = (false, eval e X.env) :: starEach es X.env := by rfl) (hpl : (backTo pos (starEach es X.env)).any (·.1) = false := by rfl)
    (ht : eval (.Call (.Attribute o m apos) (e :: es) [] pos) X.env = (do
      let ov ← eval o X.env
      standAt apos.atName
      let (f, first) ← holding [ov] (getMethod ov m pl)
      callWith pos f first (backTo pos (starEach (e :: es) X.env)) (backToKw pos (keywordEach [] X.env))) := by rfl) :
    PE X (.Call (.Attribute o m apos) (e :: es) [] pos) (tMethT C m sp (WE W) ta t) := by
  refine ⟨fun pins s σ H Q I h => ?_⟩
  refine PySem.W.methodCall_KW (pl := pl) (thn (ho.run pins s σ H _ I h) fun u s1 ⟨x, H1, I1, rx, a, dx, fs, ex, ea, l, q⟩ => ?_) ht
  subst ex
  obtain rfl : u = Value.ref a := rx
  refine getmeth_ok I1 ea c hm l ?_
  refine PySem.W.callWith_K (first := [.ref a]) (h₀ := X.base) I.ok.mod.kin hm.kp (thn (ha.run pos pins s1 σ H1 _ I1 q) fun us s2 ⟨vs, H2, I2, r, q2⟩ => ⟨I2.kIn, ?_⟩) hst hpl
  exact run_fnS (us := .ref a :: us) (vs := .ref a :: vs) F (hr.mono (by assumption)) b (passAt tk σ) I2 (.cons rfl r) q2
end
end Ct

set_option Elab.async false
set_option linter.all false
set_option maxRecDepth 100000
set_option maxHeartbeats 4000000
namespace Pw
open PySem PySem.Spec PyProof.Rows L2 Ct
local macro_rules | `(tactic| wide_line) => `(tactic| repeat ((fail_if_success (with_reducible refine at_while ?_)); (fail_if_success (with_reducible refine at_while1 ?_)); (conv => whnf); first | ((with_reducible refine And.intro ?_ ?_); focus (first | (first | ((with_reducible show (_ : Nat) ≤ _); first | exact sz0 | exact sz1 | exact sz2 | exact sz3 | exact sz4 | exact sz5 | exact sz6 | exact sz7 | exact sz8 | exact sz10 | exact sz11 | exact sz12 | exact sz14 | omega | decide | (simp only [List.length_cons, List.length_nil]; omega)) | ((with_reducible show (_ : Int) ≤ _); first | omega | decide) | ((with_reducible show (_ : Int) < _); first | omega | decide) | ((with_reducible show (_ : Nat) < _); omega)) | ((fail_if_success (with_reducible show (_ : Nat) ≤ _)); (fail_if_success (with_reducible show (_ : Int) ≤ _)); (fail_if_success (with_reducible show (_ : Int) < _)); (fail_if_success (with_reducible show (_ : Nat) < _)); first | exact kv_str _ | exact kv_int _ | rfl | assumption | exact flat_strs _ | exact Lv.get (by assumption) 0 rfl | exact Lv.get (by assumption) 1 rfl | exact Lv.get (by assumption) 2 rfl | exact Lv.get (by assumption) 3 rfl | exact Lv.get (by assumption) 4 rfl | exact Lv.get (by assumption) 5 rfl | exact Lv.get (by assumption) 6 rfl | exact SqL.of (Lv.get (by assumption) 0 rfl) | exact SqL.of (Lv.get (by assumption) 1 rfl) | exact SqL.of (Lv.get (by assumption) 2 rfl) | exact SqL.of (Lv.get (by assumption) 3 rfl) | exact SqL.of (Lv.get (by assumption) 4 rfl) | exact SqL.of (Lv.get (by assumption) 5 rfl) | exact Or.inl (SqL.of (Lv.get (by assumption) 0 rfl)) | exact Or.inl (SqL.of (Lv.get (by assumption) 1 rfl)) | exact Or.inl (SqL.of (Lv.get (by assumption) 2 rfl)) | exact Or.inl (SqL.of (Lv.get (by assumption) 3 rfl)) | exact Or.inl (SqL.of (Lv.get (by assumption) 4 rfl)) | exact Or.inl (SqL.of (Lv.get (by assumption) 5 rfl)) | exact ⟨_, SqL.of (Lv.get (by assumption) 0 rfl)⟩ | exact ⟨_, SqL.of (Lv.get (by assumption) 1 rfl)⟩ | exact ⟨_, SqL.of (Lv.get (by assumption) 2 rfl)⟩ | exact ⟨_, SqL.of (Lv.get (by assumption) 3 rfl)⟩ | exact ⟨_, SqL.of (Lv.get (by assumption) 4 rfl)⟩ | exact ⟨_, SqL.of (Lv.get (by assumption) 5 rfl)⟩ | exact Or.inl ⟨_, SqL.of (Lv.get (by assumption) 0 rfl), rfl⟩ | exact Or.inl ⟨_, SqL.of (Lv.get (by assumption) 1 rfl), rfl⟩ | exact Or.inl ⟨_, SqL.of (Lv.get (by assumption) 2 rfl), rfl⟩ | exact Or.inl ⟨_, SqL.of (Lv.get (by assumption) 3 rfl), rfl⟩ | exact Or.inl ⟨_, SqL.of (Lv.get (by assumption) 4 rfl), rfl⟩ | exact Or.inl ⟨_, SqL.of (Lv.get (by assumption) 5 rfl), rfl⟩ | exact Or.inl ⟨rfl, _, SqL.of (Lv.get (by assumption) 0 rfl)⟩ | exact Or.inl ⟨rfl, _, SqL.of (Lv.get (by assumption) 1 rfl)⟩ | exact Or.inl ⟨rfl, _, SqL.of (Lv.get (by assumption) 2 rfl)⟩ | exact Or.inl ⟨rfl, _, SqL.of (Lv.get (by assumption) 3 rfl)⟩ | exact Or.inl ⟨rfl, _, SqL.of (Lv.get (by assumption) 4 rfl)⟩ | exact Or.inl ⟨rfl, _, SqL.of (Lv.get (by assumption) 5 rfl)⟩ | exact Or.inr (SqT.of (Lv.get (by assumption) 0 rfl)) | exact Or.inr (SqT.of (Lv.get (by assumption) 1 rfl)) | exact Or.inr (SqT.of (Lv.get (by assumption) 2 rfl)) | exact Or.inr (SqT.of (Lv.get (by assumption) 3 rfl)) | exact SqT.of (Lv.get (by assumption) 0 rfl) | exact SqT.of (Lv.get (by assumption) 1 rfl) | exact SqT.of (Lv.get (by assumption) 2 rfl) | exact dgetN (Lv.get (by assumption) 0 rfl) (by assumption) | exact dgetN (Lv.get (by assumption) 1 rfl) (by assumption) | exact dgetN (Lv.get (by assumption) 2 rfl) (by assumption) | exact dgetN (Lv.get (by assumption) 3 rfl) (by assumption) | exact dgetN (Lv.get (by assumption) 4 rfl) (by assumption) | exact Or.inl (by assumption) | exact Or.inr (by assumption) | decide | ((with_reducible show _ ∧ _); omega)))) | ((fail_if_success (with_reducible apply @Exists.intro (Nat → _))); (with_reducible apply Exists.intro))))
local macro_rules
  | `(tactic| wide_line with al $lv:ident $l:ident $nl:ident $H:ident $lv1:ident $s1:ident) => `(tactic| (intro $l:ident $nl:ident; generalize he : upd _ _ _ = $H:ident; have $lv1:ident := Lv.alE $lv $nl he; have $s1:ident := sameE $nl he; clear he; (try dsimp only at $lv1:ident)))
  | `(tactic| wide_line with alx $lv:ident $nl:ident $H:ident $lv1:ident $s1:ident) => `(tactic| (generalize he : upd _ _ _ = $H:ident; have $lv1:ident := Lv.alE $lv $nl he; have $s1:ident := sameE $nl he; clear he; (try dsimp only at $lv1:ident)))
  | `(tactic| wide_line with sts $lv:ident $i:num $H:ident $lv1:ident $s0:ident $np:ident $s1:ident) => `(tactic| (generalize he : upd _ _ _ = $H:ident; have $lv1:ident := Lv.stE $lv $i rfl he; have $s1:ident := sameN $s0 $np he; clear he; (try dsimp only at $lv1:ident)))
  | `(tactic| wide_line with stx $lv:ident $H:ident $lv1:ident $d1:ident) => `(tactic| (generalize he : upd _ _ _ = $H:ident; have $lv1:ident := Lv.stE $lv 0 rfl he; have $d1:ident := SameD.storeE (Lv.get $lv 0 rfl) he; clear he; (try dsimp only at $lv1:ident)))
  | `(tactic| wide_line with st $lv:ident $i:num $H:ident $lv1:ident) => `(tactic| (generalize he : upd _ _ _ = $H:ident; have $lv1:ident := Lv.stE $lv $i rfl he; clear he; (try dsimp only at $lv1:ident)))
  | `(tactic| wide_line with stk $lv:ident $i:num $H:ident $lv1:ident $k1:ident) => `(tactic| (generalize he : upd _ _ _ = $H:ident; have $lv1:ident := Lv.stE $lv $i rfl he; have $k1:ident := KeepT.st (Lv.get $lv $i rfl) he; clear he; (try dsimp only at $lv1:ident)))
/-- the errors' classes as the clauses see them -/
structure Told4 (K : PySem.W.Frag) (mg : Str → Option Value) (CN CP CS CT : Addr) : Prop where
  gN : mg "NoPlace" = some (.ref CN)
  gP : mg "BadPlaces" = some (.ref CP)
  gS : mg "BadTies" = some (.ref CS)
  gT : mg "BadTie" = some (.ref CT)
  xN : ExcC K CN
  xP : ExcC K CP
  xS : ExcC K CS
  xT : ExcC K CT
  nN : PySem.W.findIn K (.ref CN) "value" = some none
  nP : PySem.W.findIn K (.ref CP) "value" = some none
  nS : PySem.W.findIn K (.ref CS) "value" = some none
  nT : PySem.W.findIn K (.ref CT) "position" = some none
  nn : PySem.W.exmOne K (.ref CN) (.ref CN) = some true
  pn : PySem.W.exmOne K (.ref CP) (.ref CN) = some false
  pp : PySem.W.exmOne K (.ref CP) (.ref CP) = some true
  sn : PySem.W.exmOne K (.ref CS) (.ref CN) = some false
  sp : PySem.W.exmOne K (.ref CS) (.ref CP) = some false
  ss : PySem.W.exmOne K (.ref CS) (.ref CS) = some true
  tn : PySem.W.exmOne K (.ref CT) (.ref CN) = some false
  tp : PySem.W.exmOne K (.ref CT) (.ref CP) = some false
  ts : PySem.W.exmOne K (.ref CT) (.ref CS) = some false
  tt : PySem.W.exmOne K (.ref CT) (.ref CT) = some true
theorem noLst_grow {H H1 H3 : Hp} {r : Addr} {o : HO} (s : Same H H1) (nr : H3 r = none) : Same (noLst H1 H3) (noLst H (upd H3 r o)) := fun b u e => by
  have e3 : H3 b = some u := noLst_sub b u e
  refine noLst_at (fun xs z => ?_) ((upd_ne (fun q => by subst q; rw [nr] at e3; cases e3)).trans e3)
  have z1 := s b _ z
  unfold noLst at e
  rw [z1] at e
  cases e
/-- a couple that tells -/
abbrev Tells (H : Hp) (Q : VK) (tag : Str) (v : V) : Prop := ∀ r H', Same H H' → H r = none → H' r = some (.tup [.str tag, v]) → Q (.ref r) H'
def spSeesT (K : PySem.W.Frag) (C : Addr) (x : Addr) (v : V) (H : Hp) (Q : VK) : Prop := ∃ ns ts d, WebAt K C H x ns ts ∧ Dq K H v d ∧
  (∀ p, d = .str p → p ∈ ns → ∀ r l H', Same H H' → H r = none → H l = none → H' r = some (.tup [.str "made", .ref l]) → H' l = some (.lst ((seenOf ns ts p).map V.str)) → Q (.ref r) H') ∧ (amid d ns = false → Tells H Q "place" v)
def spWithoutT (K : PySem.W.Frag) (C : Addr) (x : Addr) (v : V) (H : Hp) (Q : VK) : Prop := ∃ (n : Nat) (ns : List Str) (ts : List (Str × Str)) (d : PyData), WebAt K C H x ns ts ∧ PlanOk n ns ts ∧ n ≤ 12 ∧ Dq K H v d ∧ (∀ ds, d = .list ds → ds.length ≤ 4000) ∧
  (spareOf ns d = false → Tells H Q "places" v) ∧ ∀ ds, d = .list ds → spareOf ns d = true → ∀ r y H', Same H H' → H r = none → H y = none → H' r = some (.tup [.str "made", .ref y]) → WebAt K C (noLst H H') y (lessN ns (strsD ds)) (lessT ns ts (strsD ds)) → Q (.ref r) H'
def spTiedT (K : PySem.W.Frag) (C : Addr) (x : Addr) (v : V) (H : Hp) (Q : VK) : Prop := ∃ (n : Nat) (ns : List Str) (ts : List (Str × Str)) (d : PyData), WebAt K C H x ns ts ∧ PlanOk n ns ts ∧ n ≤ 12 ∧ Dq K H v d ∧
  (seqD d = none → Tells H Q "ties" v) ∧ ∀ ds, seqD d = some ds → (∀ e ∈ ds, plainTie e) ∧ ts.length + ds.length ≤ 75 ∧ (∀ i, tieBad ns (ts.map pairP) 0 ds = some i → Tells H Q "tie" (.int i)) ∧
    (tieBad ns (ts.map pairP) 0 ds = none → ∀ r y H', Same H H' → H r = none → H y = none → H' r = some (.tup [.str "made", .ref y]) → WebAt K C (noLst H H') y ns (ts ++ tiesD ns ds) → Q (.ref r) H')
def spTold4 (K : PySem.W.Frag) (C : Addr) : Sp := fun vs H Q _ => ∃ (x : Addr) (w : Str) (v : V), vs = [.ref x, .str w, v] ∧ ((w = "sees" ∧ spSeesT K C x v H Q) ∨ (w = "without" ∧ spWithoutT K C x v H Q) ∨ (w = "tied" ∧ spTiedT K C x v H Q))
section
variable {P : Program} {w : World} {K : PySem.W.Frag} {mg : Str → Option Value} {base : Heap} {C CP CS CT CN : Addr}
abbrev sLawTold : Stmt := top ix_law_told
theorem scLawTold : FnScope ["web", "word", "value", "error"] ["web", "word", "value"] (defScope sLawTold) := ⟨rfl, rfl, rfl, by decide +kernel, rfl, by decide +kernel, by decide +kernel⟩
theorem has_law_told (L : Told4 K mg CN CP CS CT) (X : WC K C) (D : DFE K mg "_law_told" sLawTold ["web", "word", "value"]) (hM_sees : HasM P w K mg base (L2.CX P w) 5 C "sees" ["self", "place"] (spSees K C CN))
    (hM_tied : HasM P w K mg base (L2.CX P w) 6 C "tied" ["self", "ties"] (spTied K C CS CT)) (hM_without : HasM P w K mg base (L2.CX P w) 6 C "without" ["self", "places"] (spWithout K C CP)) : Has P w K mg base CX0 7 "_law_told" ["web", "word", "value"] (spTold4 K C) := by
  obtain ⟨f1, fd1, M1, b1, F1⟩ := hM_sees
  obtain ⟨f2, fd2, M2, b2, F2⟩ := hM_tied
  obtain ⟨f3, fd3, M3, b3, F3⟩ := hM_without
  refine has_of D scLawTold (fun vs H Q E h => ?_) (fun f cdv A outer s H vs Q E hr h => ?_)
  · obtain ⟨x, w, v, rfl, _⟩ := h; rfl
  · obtain ⟨x, w, v, rfl, h⟩ := h
    have nd := scLawTold.nd
    refine ⟨_, (pss_one (ps_try_named (Wout := fun _ _ _ _ => False) rfl rfl nd takes_none5
      (.cons (i := 3) ⟨rfl, by decide, .inl L.gN⟩ rfl rfl (fun a o k d pn hz hf => pss_one (ps_ret (pe_tup (pa_cons pe_str (pa_cons (pe_caught (K := K) rfl hz hf (pv 3)) pa_nil)))))
      (.cons (i := 3) ⟨rfl, by decide, .inl L.gP⟩ rfl rfl (fun a o k d pn hz hf => pss_one (ps_ret (pe_tup (pa_cons pe_str (pa_cons (pe_caught (K := K) rfl hz hf (pv 3)) pa_nil)))))
      (.cons (i := 3) ⟨rfl, by decide, .inl L.gS⟩ rfl rfl (fun a o k d pn hz hf => pss_one (ps_ret (pe_tup (pa_cons pe_str (pa_cons (pe_caught (K := K) rfl hz hf (pv 3)) pa_nil)))))
      (.cons (i := 3) ⟨rfl, by decide, .inl L.gT⟩ rfl rfl (fun a o k d pn hz hf => pss_one (ps_ret (pe_tup (pa_cons pe_str (pa_cons (pe_caught (K := K) rfl hz hf (pv 3)) pa_nil))))) .nil))))
      (fun W pn xe tk _ => pss_cons (ps_if (pt_cmpR op_eq (pv 1) pe_str (by first | exact nomark _ | rfl)) (pss_one (ps_ret (pe_tup (pa_cons pe_str (pa_cons (pe_methT tk M1 b1 F1 X.cls hr (by decide) (pv 0) (pa_cons (pv 2) pa_nil)) pa_nil))))) pss_nil)
        (pss_one (ps_ret (pe_tup (pa_cons pe_str (pa_cons (pe_ifExp (pt_cmpR op_eq (pv 1) pe_str (by first | exact nomark _ | rfl)) (pe_methT tk M3 b3 F3 X.cls hr (by decide) (pv 0) (pa_cons (pv 2) pa_nil)) (pe_methT tk M2 b2 F2 X.cls hr (by decide) (pv 0) (pa_cons (pv 2) pa_nil))) pa_nil)))))))), ?_⟩
    rcases h with ⟨rfl, ns, ts, d, hw, hd, kg, kb⟩ | ⟨rfl, n, ns, ts, d, hw, pk, hn, hd, hl, kb, kg⟩ | ⟨rfl, n, ns, ts, d, hw, pk, hn, hd, kb0, kt⟩
    · refine ⟨_, rfl, rfl, _, rfl, iteT ?_⟩
      obtain ⟨dx, fs, hx, no, _⟩ := webNo hw
      refine ⟨_, rfl, x, dx, fs, rfl, hx, no, _, rfl, x, v, ns, ts, d, rfl, hw, hd, fun p e hp l H1 s1 nl hl => ?_, fun c => ?_⟩
      · exact ⟨sz2, fun r nr => kg p e hp r l _ (same_upd s1 (free_of s1 nr)) (free_of s1 nr) nl upd_same ((same_new nr) _ _ hl)⟩
      · intro dd H3 s3 ndd hdd
        exact ⟨true, L.nn, fun _ a na => ⟨_, rfl, rfl, CN, dd, _, v, rfl, rfl, hdd, L.xN, L.nN, rfl, sz2, fun r nr => kb c r _ (same_upd s3 (free_of s3 nr)) (free_of s3 nr) upd_same⟩, (fun z => nomatch z)⟩
    · refine ⟨_, rfl, rfl, _, rfl, iteF ⟨_, rfl, rfl, _, rfl, iteT ?_⟩⟩
      obtain ⟨dx, fs, hx, _, _, _, no⟩ := webNo hw
      refine ⟨_, rfl, x, dx, fs, rfl, hx, no, _, rfl, x, v, n, ns, ts, d, rfl, hw, pk, hn, hd, hl, fun c => ?_, fun ds e c y H1 s1 ny hy => ?_⟩
      · intro dd H3 s3 ndd hdd
        exact ⟨false, L.pn, (fun z => nomatch z), fun _ => ⟨true, L.pp, fun _ a na => ⟨_, rfl, rfl, CP, dd, _, v, rfl, rfl, hdd, L.xP, L.nP, rfl, sz2, fun r nr => kb c r _ (same_upd s3 (free_of s3 nr)) (free_of s3 nr) upd_same⟩, (fun z => nomatch z)⟩⟩
      · exact ⟨sz2, fun r nr => kg ds e c r y _ (same_upd s1 (free_of s1 nr)) (free_of s1 nr) ny upd_same (hy.same (noLst_grow (.refl _) nr))⟩
    · refine ⟨_, rfl, rfl, _, rfl, iteF ⟨_, rfl, rfl, _, rfl, iteF ?_⟩⟩
      obtain ⟨dx, fs, hx, _, _, no, _⟩ := webNo hw
      refine ⟨_, rfl, x, dx, fs, rfl, hx, no, _, rfl, x, v, n, ns, ts, d, rfl, hw, pk, hn, hd, fun c => ?_, fun ds e => ?_⟩
      · intro dd H3 s3 ndd hdd
        exact ⟨false, L.sn, (fun z => nomatch z), fun _ => ⟨false, L.sp, (fun z => nomatch z), fun _ => ⟨true, L.ss, fun _ a na => ⟨_, rfl, rfl, CS, dd, _, v, rfl, rfl, hdd, L.xS, L.nS, rfl, sz2, fun r nr => kb0 c r _ (same_upd s3 (free_of s3 nr)) (free_of s3 nr) upd_same⟩, (fun z => nomatch z)⟩⟩⟩
      · obtain ⟨pl, few, kb, kg⟩ := kt ds e
        refine ⟨pl, few, fun i tb => ?_, fun tb y H1 s1 ny hy => ?_⟩
        · intro dd H3 s3 ndd hdd
          exact ⟨false, L.tn, (fun z => nomatch z), fun _ => ⟨false, L.tp, (fun z => nomatch z), fun _ => ⟨false, L.ts, (fun z => nomatch z), fun _ => ⟨true, L.tt, fun _ a na => ⟨_, rfl, rfl, CT, dd, _, .int i, rfl, rfl, hdd, L.xT, L.nT, rfl, sz2, fun r nr => kb i tb r _ (same_upd s3 (free_of s3 nr)) (free_of s3 nr) upd_same⟩, (fun z => nomatch z)⟩⟩⟩⟩
        · exact ⟨sz2, fun r nr => kg tb r y _ (same_upd s1 (free_of s1 nr)) (free_of s1 nr) ny upd_same (hy.same (noLst_grow (.refl _) nr))⟩
end
end Pw

set_option Elab.async false
set_option linter.all false
set_option maxRecDepth 100000
set_option maxHeartbeats 4000000
namespace Pw
open PySem PySem.Spec PyProof.Rows L2 Ct
local macro_rules | `(tactic| wide_line) => `(tactic| repeat ((fail_if_success (with_reducible refine at_while ?_)); (fail_if_success (with_reducible refine at_while1 ?_)); (conv => whnf); first | ((with_reducible refine And.intro ?_ ?_); focus (first | (first | ((with_reducible show (_ : Nat) ≤ _); first | exact sz0 | exact sz1 | exact sz2 | exact sz3 | exact sz4 | exact sz5 | exact sz6 | exact sz7 | exact sz8 | exact sz10 | exact sz11 | exact sz12 | exact sz14 | omega | decide | (simp only [List.length_cons, List.length_nil]; omega)) | ((with_reducible show (_ : Int) ≤ _); first | omega | decide) | ((with_reducible show (_ : Int) < _); first | omega | decide) | ((with_reducible show (_ : Nat) < _); omega)) | ((fail_if_success (with_reducible show (_ : Nat) ≤ _)); (fail_if_success (with_reducible show (_ : Int) ≤ _)); (fail_if_success (with_reducible show (_ : Int) < _)); (fail_if_success (with_reducible show (_ : Nat) < _)); first | exact kv_str _ | exact kv_int _ | rfl | assumption | exact flat_strs _ | exact Lv.get (by assumption) 0 rfl | exact Lv.get (by assumption) 1 rfl | exact Lv.get (by assumption) 2 rfl | exact Lv.get (by assumption) 3 rfl | exact Lv.get (by assumption) 4 rfl | exact Lv.get (by assumption) 5 rfl | exact Lv.get (by assumption) 6 rfl | exact SqL.of (Lv.get (by assumption) 0 rfl) | exact SqL.of (Lv.get (by assumption) 1 rfl) | exact SqL.of (Lv.get (by assumption) 2 rfl) | exact SqL.of (Lv.get (by assumption) 3 rfl) | exact SqL.of (Lv.get (by assumption) 4 rfl) | exact SqL.of (Lv.get (by assumption) 5 rfl) | exact Or.inl (SqL.of (Lv.get (by assumption) 0 rfl)) | exact Or.inl (SqL.of (Lv.get (by assumption) 1 rfl)) | exact Or.inl (SqL.of (Lv.get (by assumption) 2 rfl)) | exact Or.inl (SqL.of (Lv.get (by assumption) 3 rfl)) | exact Or.inl (SqL.of (Lv.get (by assumption) 4 rfl)) | exact Or.inl (SqL.of (Lv.get (by assumption) 5 rfl)) | exact ⟨_, SqL.of (Lv.get (by assumption) 0 rfl)⟩ | exact ⟨_, SqL.of (Lv.get (by assumption) 1 rfl)⟩ | exact ⟨_, SqL.of (Lv.get (by assumption) 2 rfl)⟩ | exact ⟨_, SqL.of (Lv.get (by assumption) 3 rfl)⟩ | exact ⟨_, SqL.of (Lv.get (by assumption) 4 rfl)⟩ | exact ⟨_, SqL.of (Lv.get (by assumption) 5 rfl)⟩ | exact Or.inl ⟨_, SqL.of (Lv.get (by assumption) 0 rfl), rfl⟩ | exact Or.inl ⟨_, SqL.of (Lv.get (by assumption) 1 rfl), rfl⟩ | exact Or.inl ⟨_, SqL.of (Lv.get (by assumption) 2 rfl), rfl⟩ | exact Or.inl ⟨_, SqL.of (Lv.get (by assumption) 3 rfl), rfl⟩ | exact Or.inl ⟨_, SqL.of (Lv.get (by assumption) 4 rfl), rfl⟩ | exact Or.inl ⟨_, SqL.of (Lv.get (by assumption) 5 rfl), rfl⟩ | exact Or.inl ⟨rfl, _, SqL.of (Lv.get (by assumption) 0 rfl)⟩ | exact Or.inl ⟨rfl, _, SqL.of (Lv.get (by assumption) 1 rfl)⟩ | exact Or.inl ⟨rfl, _, SqL.of (Lv.get (by assumption) 2 rfl)⟩ | exact Or.inl ⟨rfl, _, SqL.of (Lv.get (by assumption) 3 rfl)⟩ | exact Or.inl ⟨rfl, _, SqL.of (Lv.get (by assumption) 4 rfl)⟩ | exact Or.inl ⟨rfl, _, SqL.of (Lv.get (by assumption) 5 rfl)⟩ | exact Or.inr (SqT.of (Lv.get (by assumption) 0 rfl)) | exact Or.inr (SqT.of (Lv.get (by assumption) 1 rfl)) | exact Or.inr (SqT.of (Lv.get (by assumption) 2 rfl)) | exact Or.inr (SqT.of (Lv.get (by assumption) 3 rfl)) | exact SqT.of (Lv.get (by assumption) 0 rfl) | exact SqT.of (Lv.get (by assumption) 1 rfl) | exact SqT.of (Lv.get (by assumption) 2 rfl) | exact dgetN (Lv.get (by assumption) 0 rfl) (by assumption) | exact dgetN (Lv.get (by assumption) 1 rfl) (by assumption) | exact dgetN (Lv.get (by assumption) 2 rfl) (by assumption) | exact dgetN (Lv.get (by assumption) 3 rfl) (by assumption) | exact dgetN (Lv.get (by assumption) 4 rfl) (by assumption) | exact Or.inl (by assumption) | exact Or.inr (by assumption) | decide | ((with_reducible show _ ∧ _); omega)))) | ((fail_if_success (with_reducible apply @Exists.intro (Nat → _))); (with_reducible apply Exists.intro))))
local macro_rules
  | `(tactic| wide_line with al $lv:ident $l:ident $nl:ident $H:ident $lv1:ident $s1:ident) => `(tactic| (intro $l:ident $nl:ident; generalize he : upd _ _ _ = $H:ident; have $lv1:ident := Lv.alE $lv $nl he; have $s1:ident := sameE $nl he; clear he; (try dsimp only at $lv1:ident)))
  | `(tactic| wide_line with alx $lv:ident $nl:ident $H:ident $lv1:ident $s1:ident) => `(tactic| (generalize he : upd _ _ _ = $H:ident; have $lv1:ident := Lv.alE $lv $nl he; have $s1:ident := sameE $nl he; clear he; (try dsimp only at $lv1:ident)))
  | `(tactic| wide_line with sts $lv:ident $i:num $H:ident $lv1:ident $s0:ident $np:ident $s1:ident) => `(tactic| (generalize he : upd _ _ _ = $H:ident; have $lv1:ident := Lv.stE $lv $i rfl he; have $s1:ident := sameN $s0 $np he; clear he; (try dsimp only at $lv1:ident)))
  | `(tactic| wide_line with stx $lv:ident $H:ident $lv1:ident $d1:ident) => `(tactic| (generalize he : upd _ _ _ = $H:ident; have $lv1:ident := Lv.stE $lv 0 rfl he; have $d1:ident := SameD.storeE (Lv.get $lv 0 rfl) he; clear he; (try dsimp only at $lv1:ident)))
  | `(tactic| wide_line with st $lv:ident $i:num $H:ident $lv1:ident) => `(tactic| (generalize he : upd _ _ _ = $H:ident; have $lv1:ident := Lv.stE $lv $i rfl he; clear he; (try dsimp only at $lv1:ident)))
  | `(tactic| wide_line with stk $lv:ident $i:num $H:ident $lv1:ident $k1:ident) => `(tactic| (generalize he : upd _ _ _ = $H:ident; have $lv1:ident := Lv.stE $lv $i rfl he; have $k1:ident := KeepT.st (Lv.get $lv $i rfl) he; clear he; (try dsimp only at $lv1:ident)))
def spDue4 (K : PySem.W.Frag) : Sp := fun vs H Q _ => ∃ (t : Addr) (w : Str) (v : V) (n : Nat) (ns : List Str) (ts : List (Str × Str)) (d : PyData), vs = [.ref t, .str w, v] ∧ PlanAt K H t ns ts ∧ PlanOk n ns ts ∧ n ≤ 12 ∧ Dq K H v d ∧
  ((w = "without" ∧ (∀ ds, d = .list ds → ds.length < 4000) ∧ (spareOf ns d = false → Tells H Q "places" v) ∧ ∀ ds, d = .list ds → spareOf ns d = true → ∀ r p H', Same H H' → H r = none → H' r = some (.tup [.str "made", .ref p]) → PlanAt K H' p (lessN ns (strsD ds)) (lessT ns ts (strsD ds)) → Q (.ref r) H') ∨
   (w = "tied" ∧ (seqD d = none → Tells H Q "ties" v) ∧ ∀ ds, seqD d = some ds → (∀ e ∈ ds, plainTie e) ∧ ts.length + ds.length ≤ 75 ∧ (∀ i, tieBad ns (ts.map pairP) 0 ds = some i → Tells H Q "tie" (.int i)) ∧
    (tieBad ns (ts.map pairP) 0 ds = none → ∀ r p H', Same H H' → H r = none → H' r = some (.tup [.str "made", .ref p]) → PlanAt K H' p ns (ts ++ tiesD ns ds) → Q (.ref r) H')))
def isStrD : PyData → Bool
  | .str _ => true
  | _ => false
def isL : PyData → Bool
  | .list _ => true
  | _ => false
def isT : PyData → Bool
  | .tuple _ => true
  | _ => false
theorem kit_isL (d : PyData) : kitB (dty d) "list" = some (isL d) := kit_list d
theorem kit_isT (d : PyData) : kitB (dty d) "tuple" = some (isT d) := kit_tuple d
theorem seq_none {d : PyData} (h : seqD d = none) : isL d = false ∧ isT d = false := by
  cases d with
  | list ds => cases h
  | tuple ds => cases h
  | _ => exact ⟨rfl, rfl⟩
theorem seq_some {d : PyData} {ds : List PyData} (h : seqD d = some ds) : isL d = true ∨ (isL d = false ∧ isT d = true) := by
  cases d with
  | list ds => exact .inl rfl
  | tuple ds => exact .inr ⟨rfl, rfl⟩
  | _ => cases h
theorem tieOf_tup {ns : List Str} {d : PyData} {t : Str × Str} (h : tieOf ns d = some t) : d = tieDat t := by
  unfold tieOf at h
  split at h
  · split at h
    · split at h
      · cases h; rfl
      · cases h
    · cases h
  · cases h
theorem newTie_none {ns : List Str} {qs : List (Str × Str)} {d : PyData} (h : tieOf ns d = none) : newTie ns qs d = false := by unfold newTie; rw [h]
theorem amids_strs : ∀ {ds : List PyData} {ns : List Str}, ds.all (fun d => amid d ns) = true → ds = (strsD ds).map PyData.str
  | [], _, _ => rfl
  | d :: ds, ns, h => by
    rw [List.all_cons, Bool.and_eq_true] at h
    have ih := amids_strs h.2
    cases d with
    | str x => rw [show strsD (.str x :: ds) = x :: strsD ds from rfl, List.map_cons, ← ih]
    | _ => exact absurd h.1 Bool.false_ne_true
theorem amid_isStr {d : PyData} {ns : List Str} (h : amid d ns = true) : isStrD d = true := by
  cases d with
  | str x => rfl
  | _ => exact absurd h Bool.false_ne_true
section
variable {P : Program} {w : World} {K : PySem.W.Frag} {mg : Str → Option Value} {base : Heap}
abbrev sLawDue : Stmt := top ix_law_due
theorem scLawDue : FnScope ["plan", "word", "value", "places", "known", "is_right", "one", "at", "tie", "is_far"] ["plan", "word", "value"] (defScope sLawDue) := ⟨rfl, rfl, rfl, by decide +kernel, rfl, by decide +kernel, by decide +kernel⟩
theorem has_law_due (T : Bn mg) (D : DFE K mg "_law_due" sLawDue ["plan", "word", "value"]) (h_law_less : Has P w K mg base CX0 1 "_law_less" ["plan", "gone"] (spLess K)) : Has P w K mg base CX0 2 "_law_due" ["plan", "word", "value"] (spDue4 K) := by
  refine has_of D scLawDue (fun vs H Q E h => ?_) (fun f cdv A outer s H vs Q E hr h => ?_)
  · obtain ⟨t, w, v, n, ns, ts, d, rfl, _⟩ := h; rfl
  · obtain ⟨t, w, v, n, ns, ts, d, rfl, ⟨tn, tt, xs, h1, h2, h3, h4⟩, pk, hn, hd, h⟩ := h
    have nd := scLawDue.nd
    refine ⟨_, (pss_cons (ps_asg (pe_tup (pa_cons (pe_ix ix_tup (pv 0) pe_int (fun _ _ => rfl)) (pa_cons (pe_callTy call_list_of (by rfl) T.z_list (by decide +kernel) (pa_cons (pe_ix ix_tup (pv 0) pe_int (fun _ _ => rfl)) pa_nil)) pa_nil))) (pg_tup (n := 2) rfl (pgs_cons (pg_name (i := 3) nd rfl (by first | exact Or.inl rfl | exact Or.inr rfl)) (pgs_cons (pg_name (i := 4) nd rfl (by first | exact Or.inl rfl | exact Or.inr rfl)) pgs_nil))))
    (pss_cons (ps_if (pt_cmpR op_eq (pv 1) pe_str (by first | exact nomark _ | rfl)) (pss_cons (ps_sv 5 nd (pe_and (pe_callB call_isD (by rfl) T.z_isinstance (by decide +kernel) (pa_cons (pv 2) (pa_cons (pe_bltn (v := .ty "list") rfl T.z_list (by decide +kernel) rfl) pa_nil))) (pe_one (pe_cmpR (op_eqNil hr.units) (pe_lc (own := [("one", 6)]) (g := gName 6) rfl nd (pi_sq (pv 2)) (blkOk_by (own := [("one", 6)]) (N := ["plan", "word", "value", "places", "known", "is_right", "one", "at", "tie", "is_far"]) (sc := defScope sLawDue) (by decide +kernel)) (fun _ _ _ _ _ => (pg_name (i := 6) nd rfl (by first | exact Or.inl rfl | exact Or.inr rfl))) (fun _ _ _ _ _ => (pts_one (pt_not (pt_val (pe_callB (call_isDk (K := K) rfl) (by rfl) T.z_isinstance (by decide +kernel) (pa_cons (pv 6) (pa_cons (pe_bltn (v := .ty "str") rfl T.z_str (by decide +kernel) rfl) pa_nil))))))) (fun _ _ _ _ _ => (pv 6))) (pe_lst pa_nil) (by first | exact nomark _ | rfl)))))
    (pss_cons (ps_if (PW.pt (pw_or (pt_not (pt_val (pv 5))) (pw_or (pt_cmpR (op_neNil hr.units) (pe_lc (own := [("one", 6)]) (g := gName 6) rfl nd (pi_sq (pv 2)) (blkOk_by (own := [("one", 6)]) (N := ["plan", "word", "value", "places", "known", "is_right", "one", "at", "tie", "is_far"]) (sc := defScope sLawDue) (by decide +kernel)) (fun _ _ _ _ _ => (pg_name (i := 6) nd rfl (by first | exact Or.inl rfl | exact Or.inr rfl))) (fun _ _ _ _ _ => (pts_one (pt_cmpR (or_namidQ (K := K) rfl hr.units) (pv 6) (pv 3) (by first | exact nomark _ | rfl)))) (fun _ _ _ _ _ => (pv 6))) (pe_lst pa_nil) (by first | exact nomark _ | rfl)) (pw_or1 (pt_cmpR op_ne (pe_callB call_lenK (by rfl) T.z_len (by decide +kernel) (pa_cons (pe_callTy (call_setOf rfl) (by rfl) T.z_set (by decide +kernel) (pa_cons (pv 2) pa_nil)) pa_nil)) (pe_callB call_len_seq (by rfl) T.z_len (by decide +kernel) (pa_cons (pv 2) pa_nil)) (by first | exact nomark _ | rfl)))))) (pss_one (ps_ret (pe_tup (pa_cons pe_str (pa_cons (pv 2) pa_nil))))) pss_nil)
    (pss_one (ps_ret (pe_ifExp (pt_cmpR op_eq (pe_callB call_len_seq (by rfl) T.z_len (by decide +kernel) (pa_cons (pv 2) pa_nil)) (pe_callB call_len_seq (by rfl) T.z_len (by decide +kernel) (pa_cons (pv 3) pa_nil)) (by first | exact nomark _ | rfl)) (pe_tup (pa_cons pe_str (pa_cons (pv 2) pa_nil))) (pe_tup (pa_cons pe_str (pa_cons (pe_h h_law_less hr (by decide) rfl (pa_cons (pv 0) (pa_cons (pv 2) pa_nil))) pa_nil)))))))) pss_nil)
    (pss_cons (ps_if (PW.pt (pw_and (pt_not (pt_val (pe_callB call_isD (by rfl) T.z_isinstance (by decide +kernel) (pa_cons (pv 2) (pa_cons (pe_bltn (v := .ty "list") rfl T.z_list (by decide +kernel) rfl) pa_nil))))) (pw_and1 (pt_not (pt_val (pe_callB call_isD (by rfl) T.z_isinstance (by decide +kernel) (pa_cons (pv 2) (pa_cons (pe_bltn (v := .ty "tuple") rfl T.z_tuple (by decide +kernel) rfl) pa_nil)))))))) (pss_one (ps_ret (pe_tup (pa_cons pe_str (pa_cons (pv 2) pa_nil))))) pss_nil)
    (pss_cons (ps_for PassesOwn.never rfl (pi_enumQ rfl T.z_enumerate (pa_cons (pv 2) pa_nil)) (pg_tup (n := 2) rfl (pgs_cons (pg_name (i := 7) nd rfl (by first | exact Or.inl rfl | exact Or.inr rfl)) (pgs_cons (pg_name (i := 8) nd rfl (by first | exact Or.inl rfl | exact Or.inr rfl)) pgs_nil))) (pss_cons (ps_if (PW.pt (pw_or (pt_not (pt_val (pe_callB call_isD (by rfl) T.z_isinstance (by decide +kernel) (pa_cons (pv 8) (pa_cons (pe_bltn (v := .ty "tuple") rfl T.z_tuple (by decide +kernel) rfl) pa_nil))))) (pw_or (pt_cmpR op_ne (pe_callB call_len_seq (by rfl) T.z_len (by decide +kernel) (pa_cons (pv 8) pa_nil)) pe_int (by first | exact nomark _ | rfl)) (pw_or1 (pt_cmpR (op_neNil hr.units) (pe_lc (own := [("one", 6)]) (g := gName 6) rfl nd (pi_tup (pv 8)) (blkOk_by (own := [("one", 6)]) (N := ["plan", "word", "value", "places", "known", "is_right", "one", "at", "tie", "is_far"]) (sc := defScope sLawDue) (by decide +kernel)) (fun _ _ _ _ _ => (pg_name (i := 6) nd rfl (by first | exact Or.inl rfl | exact Or.inr rfl))) (fun _ _ _ _ _ => (pts_one (pt_not (pt_val (pe_callB (call_isDk (K := K) rfl) (by rfl) T.z_isinstance (by decide +kernel) (pa_cons (pv 6) (pa_cons (pe_bltn (v := .ty "str") rfl T.z_str (by decide +kernel) rfl) pa_nil))))))) (fun _ _ _ _ _ => (pv 6))) (pe_lst pa_nil) (by first | exact nomark _ | rfl)))))) (pss_one (ps_ret (pe_tup (pa_cons pe_str (pa_cons (pv 7) pa_nil))))) pss_nil)
    (pss_cons (ps_sv 9 nd (pe_or (pe_cmpR (or_namidQ (K := K) rfl hr.units) (pe_ix ix_tup (pv 8) pe_int (fun _ _ => rfl)) (pv 3) (by first | exact nomark _ | rfl)) (pe_or (pe_cmpR (or_namidQ (K := K) rfl hr.units) (pe_ix ix_tup (pv 8) pe_int (fun _ _ => rfl)) (pv 3) (by first | exact nomark _ | rfl)) (pe_one (pe_cmpR op_eq (pe_ix ix_tup (pv 8) pe_int (fun _ _ => rfl)) (pe_ix ix_tup (pv 8) pe_int (fun _ _ => rfl)) (by first | exact nomark _ | rfl))))))
    (pss_cons (ps_if (PW.pt (pw_or (pt_val (pv 9)) (pw_or (pt_cmpR (op_inDk (K := K) rfl (units65 hr)) (pv 8) (pv 4) (by first | exact nomark _ | rfl)) (pw_or1 (pt_cmpR (op_inDk (K := K) rfl (units65 hr)) (pe_back (pv 8)) (pv 4) (by first | exact nomark _ | rfl)))))) (pss_one (ps_ret (pe_tup (pa_cons pe_str (pa_cons (pv 7) pa_nil))))) pss_nil)
    (pss_one (ps_expr (pe_bm PySem.F.plainAttrs_list PySem.F.slot_list_append PySem.F.type_list_append mt_append (pv 4) (pa_cons (pv 8) pa_nil))))))))
    (pss_one (ps_ret (pe_tup (pa_cons pe_str (pa_cons (pe_tup (pa_cons (pv 3) (pa_cons (pe_callTy call_tuple_of (by rfl) T.z_tuple (by decide +kernel) (pa_cons (pv 4) pa_nil)) pa_nil))) pa_nil))))))))), ?_⟩
    refine ⟨_, rfl, t, _, 0, .ref tn, rfl, rfl, h1, rfl, _, rfl, t, _, 1, .ref tt, rfl, rfl, h1, rfl, tt, xs, rfl, .inr h3, fun kn nkn => ?_⟩
    have nl : ns.length ≤ 12 := Nat.le_trans pk.most hn
    have lv1 := (Lv.zero H).al (o := .lst xs) nkn
    generalize upd H kn (.lst xs) = H1 at lv1 ⊢
    refine ⟨sz2, fun tp ntp => ?_⟩
    wide_line with alx lv1 ntp H2 lv2 s2
    refine ⟨tp, _, rfl, SqT.of (lv2.get 0 rfl), rfl, _, _, rfl, _, _, rfl, rfl, ?_⟩
    have lv2 := lv2.picks [1] rfl (by decide) (by simp)
    have s02 : Same H H2 := lv2.sm
    have hd2 := Dq.same s02 hd
    have g2 := same_t s02 h2
    rcases h with ⟨rfl, hl, kb, kg⟩ | ⟨rfl, kb0, kt⟩
    · refine ⟨_, rfl, rfl, _, rfl, iteT ?_⟩
      have bad : spareOf ns d = false → ∀ H3, Same H H3 → ∀ r, H3 r = none → Q (.ref r) (upd H3 r (.tup [.str "places", v])) := fun c H3 s3 r nr => kb c r _ (same_upd s3 (free_of s3 nr)) (free_of s3 nr) upd_same
      refine ⟨_, rfl, _, d, "list", _, rfl, hd2, kit_list d, _, rfl, ?_⟩
      cases hd2 with
      | @lst a ys ds hs ha =>
        refine iteT ?_
        have dl := hl ds rfl
        have yl : ys.length = ds.length := dqAll_len ha
        refine ⟨_, rfl, a, ys, rfl, .inl hs, fun J G ex hG wk L nL => ?_⟩
        refine lc_it wk (fun i H3 => Hold (∃ zs, Lv H [] H3 [(L, .lst zs), (kn, .lst xs)] ∧ Same H2 H3 ∧ zs.length ≤ i ∧ zs.isEmpty = (ds.take i).all isStrD)) ⟨[], lv2.al nL, same_new nL, Nat.le_refl _, rfl⟩ (fun i H3 _ ⟨_, _, z, _⟩ => hG H3 (.same z)) ?_ ?_
        · rintro i x H3 H4 hi ⟨zs, lv3, s3, lz, ez⟩ ⟨rfl, hxi⟩
          obtain ⟨dx, hdx, hqx⟩ := dqAll_at ha hxi
          have il := (List.getElem?_eq_some_iff.mp hdx).1
          have tk : ds.take (i + 1) = ds.take i ++ [dx] := take_next2 hdx
          refine ⟨rfl, _, rfl, _, dx, "str", _, rfl, Dq.same s3 hqx, kit_str dx, _, rfl, ?_⟩
          have yes : isStrD dx = true → Hold (∃ zs, Lv H [] H4 [(L, .lst zs), (kn, .lst xs)] ∧ Same H2 H4 ∧ zs.length ≤ i + 1 ∧ zs.isEmpty = (ds.take (i + 1)).all isStrD) := fun c => ⟨zs, lv3, s3, by omega, by rw [tk, List.all_append, List.all_cons, c]; simpa using ez⟩
          have nay : isStrD dx = false → ∃ acc, H4 L = some (.lst acc) ∧ acc.length < sizeLine ∧ Hold (∃ zs, Lv H [] (upd H4 L (.lst (acc ++ [x]))) [(L, .lst zs), (kn, .lst xs)] ∧ Same H2 (upd H4 L (.lst (acc ++ [x]))) ∧ zs.length ≤ i + 1 ∧ zs.isEmpty = (ds.take (i + 1)).all isStrD) := fun c =>
            ⟨zs, lv3.get 0 rfl, by rw [sizeLine_eq]; omega, zs ++ [x], lv3.stE 0 rfl rfl, same_upd s3 nL, by rw [List.length_append, List.length_singleton]; omega, by rw [tk, List.all_append, List.all_cons, c]; simp⟩
          cases dx with
          | str y => exact iteF (yes rfl)
          | _ => exact iteT ⟨_, rfl, nay rfl⟩
        · rintro H3 ⟨zs, lv3, s3, lz, ez⟩
          rw [yl, List.take_length] at ez
          refine ⟨sz0, fun l2 n2 => ?_⟩
          wide_line with alx lv3 n2 H4 lv4 s4
          refine ⟨_, _, _, rfl, rfl, SqL.of (lv4.get 1 rfl), SqL.of (lv4.get 0 rfl), ?_⟩
          rw [if_neg (by decide), ez]
          have s24 := s3.trans s4
          have lv4 := lv4.picks [2] rfl (by decide) (by simp)
          refine ⟨_, rfl, _, rfl, ?_⟩
          cases b1 : ds.all isStrD with
          | false =>
            refine iteT (iteT ⟨_, rfl, sz2, fun r nr => bad ?_ H4 lv4.sm r nr⟩)
            unfold spareOf placesIn
            dsimp only
            rw [show (ds.all fun d => amid d ns) = false from by
              rw [Bool.eq_false_iff]
              intro z
              rw [List.all_eq_true] at z
              exact absurd (List.all_eq_true.mpr fun d hd => amid_isStr (z d hd)) (by rw [b1]; decide)]
            rfl
          | true =>
            refine iteF ?_
            have hs4 := s24.seq hs
            refine ⟨_, rfl, a, ys, rfl, .inl hs4, fun J2 G2 ex2 hG2 wk2 L2 nL2 => ?_⟩
            refine lc_it wk2 (fun i H5 => Hold (∃ zs, Lv H [] H5 [(L2, .lst zs), (kn, .lst xs)] ∧ Same H4 H5 ∧ zs.length ≤ i ∧ zs.isEmpty = (ds.take i).all fun d => amid d ns)) ⟨[], lv4.al nL2, same_new nL2, Nat.le_refl _, rfl⟩ (fun i H5 _ ⟨_, _, z, _⟩ => hG2 H5 (.same z)) ?_ ?_
            · rintro i x H5 H6 hi ⟨zs, lv5, s5, lz, ez⟩ ⟨rfl, hxi⟩
              obtain ⟨dx, hdx, hqx⟩ := dqAll_at ha hxi
              have il := (List.getElem?_eq_some_iff.mp hdx).1
              have tk : ds.take (i + 1) = ds.take i ++ [dx] := take_next2 hdx
              refine ⟨rfl, _, rfl, _, rfl, dx, tn, ns, rfl, .inr (same_t (s24.trans s5) g2), Dq.same (s24.trans s5) hqx, _, rfl, ?_⟩
              rw [if_pos rfl]
              cases c : amid dx ns with
              | true => exact iteF ⟨zs, lv5, s5, by omega, by rw [tk, List.all_append, List.all_cons, c]; simpa using ez⟩
              | false => exact iteT ⟨_, rfl, zs, lv5.get 0 rfl, by rw [sizeLine_eq]; omega, zs ++ [x], lv5.stE 0 rfl rfl, same_upd s5 nL2, by rw [List.length_append, List.length_singleton]; omega, by rw [tk, List.all_append, List.all_cons, c]; simp⟩
            · rintro H5 ⟨zs, lv5, s5, lz, ez⟩
              rw [yl, List.take_length] at ez
              refine ⟨sz0, fun l2 n2 => ?_⟩
              wide_line with alx lv5 n2 H6 lv6 s6
              refine ⟨_, _, _, rfl, rfl, SqL.of (lv6.get 1 rfl), SqL.of (lv6.get 0 rfl), ?_⟩
              rw [if_pos rfl, ez]
              have s26 := s24.trans (s5.trans s6)
              have lv6 := lv6.picks [2] rfl (by decide) (by simp)
              refine ⟨_, rfl, ?_⟩
              cases b2 : ds.all (fun d => amid d ns) with
              | false =>
                refine iteT (iteT ⟨_, rfl, sz2, fun r nr => bad ?_ H6 lv6.sm r nr⟩)
                unfold spareOf placesIn
                dsimp only
                rw [b2]
                rfl
              | true =>
                refine iteF ?_
                obtain ⟨e1, e2, e3⟩ := amids_of ha b2
                subst e1
                have hs6 : SqS K H6 a ((strsD ds).map V.str) := .inl (s26.seq hs)
                have gl : (strsD ds).length = ds.length := e2
                refine ⟨_, rfl, a, (strsD ds).map Sum.inr, rfl, by rw [map_kv]; exact hs6, by rw [List.length_map]; exact (show (strsD ds).length < 4096 by omega), fun p np => ?_⟩
                have u : Same H6 (upd H6 p (SetK P w p (fun k => ((strsD ds).map Sum.inr : List Key).any (fun j => decide (j = k))) (cnt ((strsD ds).map Sum.inr) ((strsD ds).map (Sum.inr : Str → Key)).length))) := same_new np
                refine ⟨p, _, _, rfl, upd_same, _, rfl, a, (strsD ds).map V.str, rfl, SqS.same u hs6, rfl, ?_⟩
                have s27 := s26.trans u
                have s07 := lv6.sm.trans u
                have ev : decide (V.int (cnt ((strsD ds).map (Sum.inr : Str → Key)) ((strsD ds).map (Sum.inr : Str → Key)).length : Nat) = V.int (((strsD ds).map V.str).length : Nat)) = decide (strsD ds).Nodup := by
                  have z := cnt_eq ((strsD ds).map (Sum.inr : Str → Key)) _ (Nat.le_refl _)
                  rw [List.take_length, nodup_inr] at z
                  refine decide_eq_decide.mpr (Iff.trans ?_ z)
                  rw [List.length_map, List.length_map]
                  exact ⟨fun q => by have := V.int.inj q; omega, fun q => by rw [q]⟩
                rw [ev]
                refine ⟨_, rfl, ?_⟩
                cases b3 : decide (strsD ds).Nodup with
                | false =>
                  refine iteT ⟨_, rfl, sz2, fun r nr => bad ?_ _ s07 r nr⟩
                  unfold spareOf placesIn
                  dsimp only
                  rw [b2, b3]
                  rfl
                | true =>
                  refine iteF ?_
                  have hs7 : SqS K _ a ((strsD ds).map V.str) := .inl (s27.seq hs)
                  refine ⟨_, rfl, a, _, rfl, hs7, _, rfl, tn, _, rfl, .inr (same_t s27 g2), rfl, _, rfl, ?_⟩
                  have spd : spareOf ns (.list ds) = !decide (ds.length = ns.length) := by
                    unfold spareOf placesIn
                    dsimp only
                    rw [b2, b3]
                    rfl
                  have el : decide (V.int (((strsD ds).map V.str).length : Nat) = V.int ((ns.map V.str).length : Nat)) = decide (ds.length = ns.length) := by
                    rw [List.length_map, List.length_map, gl]
                    exact decide_eq_decide.mpr ⟨fun q => by have := V.int.inj q; omega, fun q => by rw [q]⟩
                  rw [el]
                  cases b4 : decide (ds.length = ns.length) with
                  | true => exact iteT ⟨_, rfl, sz2, fun r nr => bad (by rw [spd, b4]; rfl) _ s07 r nr⟩
                  | false =>
                    refine iteF ⟨_, rfl, _, rfl, t, a, n, ns, ts, strsD ds, rfl, ⟨tn, tt, xs, same_t s07 h1, same_t s07 h2, same_t s07 h3, h4.same s07⟩, pk, hn, s27.seq hs, fun q H8 s8 nq hq => ?_⟩
                    refine ⟨sz2, fun r nr => ?_⟩
                    have s08 := s07.trans s8
                    exact kg ds rfl (by rw [spd, b4]; rfl) r q _ (same_upd s08 (free_of s08 nr)) (free_of s08 nr) upd_same (hq.same (same_new nr))
      | _ =>
        refine iteF ?_
        exact ⟨_, rfl, _, rfl, iteT (iteT ⟨_, rfl, sz2, fun r nr => bad rfl H2 s02 r nr⟩)⟩
    · refine ⟨_, rfl, rfl, _, rfl, iteF ?_⟩
      have okt : ∀ u ∈ ts, okTie u := fun u hu => ⟨pk.nm _ (pk.tie u hu).1, pk.nm _ (pk.tie u hu).2.1⟩
      refine ⟨_, rfl, _, d, "list", _, rfl, hd2, kit_isL d, _, rfl, ?_⟩
      cases e : seqD d with
      | none =>
        obtain ⟨m1, m2⟩ := seq_none e
        rw [m1]
        refine iteT ⟨_, rfl, _, d, "tuple", _, rfl, hd2, kit_isT d, _, rfl, ?_⟩
        rw [m2]
        exact iteT ⟨_, rfl, sz2, fun r nr => kb0 e r _ (same_upd s02 (free_of s02 nr)) (free_of s02 nr) upd_same⟩
      | some ds =>
        obtain ⟨pl, few, kb, kg⟩ := kt ds e
        obtain ⟨a, ys, rfl, hs, ha, hl⟩ := seq_of hd e
        have xl : xs.length = ts.length := paired_len h4
        have tl := pk.few
        have okd : ∀ n ∈ ns, okName n = true := pk.nm
        have m0 := seq_some e
        generalize isL d = b1 at m0 ⊢
        generalize eb2 : isT d = b2 at m0
        have go : (b1 = true) ∨ (b1 = false ∧ b2 = true) := m0
        rcases go with rfl | ⟨rfl, rfl⟩
        all_goals first
          | refine iteF (iteF ?_)
          | refine iteT ⟨_, rfl, _, d, "tuple", true, rfl, hd2, (by rw [kit_isT, eb2]), _, rfl, iteF ?_⟩
        all_goals
          refine ⟨_, rfl, a, ys, rfl, hs.same s02, fun J G ex hG wk => ?_⟩
          refine for_it wk (fun i σ H' => Hold (∃ (u5 u6 u7 u8 u9 : Option V) (zs : List V), σ = [some (.ref t), some (.str "tied"), some (.ref a), some (.ref tn), some (.ref kn), u5, u6, u7, u8, u9] ∧ Lv H [] H' [(kn, .lst (xs ++ zs))] ∧ zs.length ≤ i ∧ TiesAt K H zs (tiesD ns (ds.take i)) ∧
              tieBad ns (ts.map pairP) 0 ds = tieBad ns ((ts ++ tiesD ns (ds.take i)).map pairP) i (ds.drop i)))
            ⟨_, _, _, _, _, [], rfl, by rw [List.append_nil]; exact lv2, Nat.le_refl _, .nil, by rw [List.take_zero, show tiesD ns [] = [] from rfl, List.append_nil]; rfl⟩ (fun i σ H' _ ⟨_, _, _, _, _, _, _, z, _⟩ => hG H' (.of hs s02 z.sm ex)) ?_ ?_
          · rintro i x σ H5 H6 hi ⟨u5, u6, u7, u8, u9, zs, rfl, lv5, lz, tz, eb⟩ ⟨T, x1, x2, rfl, hT, rfl, ex1, ex2⟩
            cases ex1
            obtain ⟨dx, hdx, hqx⟩ := dqAll_at ha ex2
            have il := (List.getElem?_eq_some_iff.mp hdx).1
            have ed : ds.drop i = dx :: ds.drop (i + 1) := by
              obtain ⟨hi', e'⟩ := List.getElem?_eq_some_iff.mp hdx
              rw [← e']
              exact List.drop_eq_getElem_cons hi'
            have tk : tiesD ns (ds.take (i + 1)) = tiesD ns (ds.take i) ++ tiesD ns [dx] := by
              rw [take_next2 hdx]
              unfold tiesD
              rw [List.filterMap_append]
            have nt := tieBad_new (ns := ns) (qs := ts ++ tiesD ns (ds.take i)) (ps := (ts ++ tiesD ns (ds.take i)).map pairP) (i := i) (d := dx) (ds := ds.drop (i + 1)) fun _ => Iff.rfl
            have px := pl dx (List.mem_of_getElem? hdx)
            wide_line with alx lv5 hT H6 lv6 s6
            have tz6 := tz.same lv6.sm
            refine ⟨T, _, rfl, SqT.of (lv6.get 0 rfl), rfl, _, _, rfl, _, _, rfl, rfl, ?_⟩
            have hq6 := hqx.same lv6.sm
            have bad : newTie ns (ts ++ tiesD ns (ds.take i)) dx = false → ∀ H7, Same H H7 → ∀ r, H7 r = none → Q (.ref r) (upd H7 r (.tup [.str "tie", .int (i : Nat)])) := fun c H7 s7 r nr => kb i (by rw [eb, ed, nt, if_neg (by rw [c]; decide)]) r _ (same_upd s7 (free_of s7 nr)) (free_of s7 nr) upd_same
            refine ⟨_, rfl, _, dx, "tuple", _, rfl, hq6, kit_isT dx, _, rfl, ?_⟩
            cases hqx with
            | @tup b vs es hsb0 hb =>
              have hsb := same_t lv6.sm hsb0
              refine iteF ⟨_, rfl, b, vs, rfl, .inr hsb, rfl, _, rfl, ?_⟩
              cases hb with
              | nil => exact iteT ⟨_, rfl, sz2, fun r nr => bad rfl H6 lv6.sm r nr⟩
              | @cons v1 vs1 d1 ds1 k1 hb =>
                cases hb with
                | nil => exact iteT ⟨_, rfl, sz2, fun r nr => bad rfl H6 lv6.sm r nr⟩
                | @cons v2 vs2 d2 ds2 k2 hb =>
                  cases hb with
                  | @cons v3 vs3 d3 ds3 k3 hb =>
                    refine iteNN (fun z => ?_) ⟨_, rfl, sz2, fun r nr => bad rfl H6 lv6.sm r nr⟩
                    have := V.int.inj z
                    simp only [List.length_cons] at this
                    omega
                  | nil =>
                    refine iteF ⟨_, rfl, _, rfl, ⟨_, hsb⟩, fun L nL => ?_⟩
                    have lvL := lv6.al (o := .lst []) nL
                    have pq : ∀ j y, [v1, v2][j]? = some y → ∃ dy, [d1, d2][j]? = some dy ∧ Dq K H6 y dy := fun j y hy => dqAll_at (.cons (Dq.same lv6.sm k1) (.cons (Dq.same lv6.sm k2) .nil)) hy
                    refine lc_tup (xs := [v1, v2]) (fun j H7 => Hold (∃ us, Lv H [] H7 [(L, .lst us), (T, .tup [.int (i : Nat), .ref b]), (kn, .lst (xs ++ zs))] ∧ Same H6 H7 ∧ us.length ≤ j ∧ us.isEmpty = ([d1, d2].take j).all isStrD)) ⟨[], lvL, same_new nL, Nat.le_refl _, rfl⟩ (fun _ _ _ ⟨_, _, z, _⟩ => same_t z hsb) ?_ ?_
                    · rintro j y H7 hj ⟨us, lv7, s7, lu, eu⟩
                      obtain ⟨dy, hdy, hy⟩ := pq j y hj
                      have j2 : j < 2 := (List.getElem?_eq_some_iff.mp hj).1
                      have tkj : [d1, d2].take (j + 1) = [d1, d2].take j ++ [dy] := take_next2 hdy
                      refine ⟨rfl, _, rfl, _, dy, "str", _, rfl, Dq.same s7 hy, kit_str dy, _, rfl, ?_⟩
                      have nay : isStrD dy = false → ∃ acc, H7 L = some (.lst acc) ∧ acc.length < sizeLine ∧ Hold (∃ us, Lv H [] (upd H7 L (.lst (acc ++ [y]))) [(L, .lst us), (T, .tup [.int (i : Nat), .ref b]), (kn, .lst (xs ++ zs))] ∧ Same H6 (upd H7 L (.lst (acc ++ [y]))) ∧ us.length ≤ j + 1 ∧ us.isEmpty = ([d1, d2].take (j + 1)).all isStrD) := fun c =>
                        ⟨us, lv7.get 0 rfl, by rw [sizeLine_eq]; omega, us ++ [y], lv7.stE 0 rfl rfl, same_upd s7 nL, by rw [List.length_append, List.length_singleton]; omega, by rw [tkj, List.all_append, List.all_cons, c]; simp⟩
                      cases dy with
                      | str z => exact iteF ⟨us, lv7, s7, by omega, by rw [tkj, List.all_append, List.all_cons, show isStrD (.str z) = true from rfl]; simpa using eu⟩
                      | _ => exact iteT ⟨_, rfl, nay rfl⟩
                    · rintro H7 ⟨us, lv7, s7, lu, eu⟩
                      refine ⟨sz0, fun l2 n2 => ?_⟩
                      wide_line with alx lv7 n2 H8 lv8 s8
                      refine ⟨_, _, _, rfl, rfl, SqL.of (lv8.get 1 rfl), SqL.of (lv8.get 0 rfl), ?_⟩
                      have eu : us.isEmpty = (isStrD d1 && (isStrD d2 && true)) := eu
                      rw [if_pos rfl, eu, Bool.and_true]
                      have s68 := s7.trans s8
                      refine ⟨_, rfl, ?_⟩
                      have notS : (isStrD d1 && isStrD d2) = false → tieOf ns (.tuple [d1, d2]) = none := fun c => by
                        cases d1 with
                        | str x =>
                          cases d2 with
                          | str y => exact Bool.noConfusion (show true = false from c)
                          | _ => rfl
                        | _ => rfl
                      cases c0 : (isStrD d1 && isStrD d2) with
                      | false => exact iteT ⟨_, rfl, sz2, fun r nr => bad (newTie_none (notS c0)) H8 lv8.sm r nr⟩
                      | true =>
                        refine iteF ?_
                        rw [Bool.and_eq_true] at c0
                        obtain ⟨x, rfl⟩ : ∃ x, d1 = .str x := by
                          cases d1 with
                          | str x => exact ⟨x, rfl⟩
                          | _ => exact absurd c0.1 Bool.false_ne_true
                        obtain ⟨y, rfl⟩ : ∃ y, d2 = .str y := by
                          cases d2 with
                          | str y => exact ⟨y, rfl⟩
                          | _ => exact absurd c0.2 Bool.false_ne_true
                        cases k1
                        cases k2
                        have hsb8 := same_t s68 hsb
                        have g28 := same_t lv8.sm h2
                        have am : ∀ z : Str, amid (.str z) ns = decide (z ∈ ns) := fun z => Bool.eq_iff_iff.mpr (by rw [decide_eq_true_eq]; exact amid_str)
                        have far : ¬ (x ∈ ns ∧ y ∈ ns ∧ x ≠ y) → tieOf ns (.tuple [.str x, .str y]) = none := fun z => if_neg z
                        have nay : tieOf ns (.tuple [.str x, .str y]) = none → ∀ r, H8 r = none → Q (.ref r) (upd H8 r (.tup [.str "tie", .int (i : Nat)])) := fun c r nr => bad (newTie_none c) H8 lv8.sm r nr
                        refine ⟨_, rfl, b, _, 0, .str x, rfl, rfl, hsb8, rfl, _, rfl, .str x, tn, ns, rfl, .inr g28, .str x, ?_⟩
                        rw [if_pos rfl, am]
                        refine ⟨_, rfl, ?_⟩
                        by_cases cx : x ∈ ns
                        case neg =>
                          rw [decide_eq_false cx]
                          exact iteT ⟨_, rfl, _, rfl, iteT ⟨_, rfl, sz2, fun r nr => nay (far fun z => cx z.1) r nr⟩⟩
                        rw [decide_eq_true cx]
                        refine iteF ⟨_, rfl, b, _, 1, .str y, rfl, rfl, hsb8, rfl, _, rfl, .str y, tn, ns, rfl, .inr g28, .str y, ?_⟩
                        rw [if_pos rfl, am]
                        refine ⟨_, rfl, ?_⟩
                        by_cases cy : y ∈ ns
                        case neg =>
                          rw [decide_eq_false cy]
                          exact iteT ⟨_, rfl, _, rfl, iteT ⟨_, rfl, sz2, fun r nr => nay (far fun z => cy z.2.1) r nr⟩⟩
                        rw [decide_eq_true cy]
                        refine iteF ⟨_, rfl, b, _, 0, .str x, rfl, rfl, hsb8, rfl, _, rfl, b, _, 1, .str y, rfl, rfl, hsb8, rfl, rfl, ?_⟩
                        rw [str_dec]
                        by_cases cxy : x = y
                        · rw [decide_eq_true cxy]
                          exact ⟨_, rfl, _, rfl, iteT ⟨_, rfl, sz2, fun r nr => nay (far fun z => z.2.2 cxy) r nr⟩⟩
                        rw [decide_eq_false cxy]
                        refine ⟨_, rfl, _, rfl, iteF ?_⟩
                        have tq : tieOf ns (.tuple [.str x, .str y]) = some (x, y) := if_pos ⟨cx, cy, cxy⟩
                        have o1 : okTie (x, y) := ⟨okd _ cx, okd _ cy⟩
                        have o2 : okTie (y, x) := ⟨okd _ cy, okd _ cx⟩
                        have okq : ∀ u ∈ ts ++ tiesD ns (ds.take i), okTie u := fun u hu => by
                          rcases List.mem_append.mp hu with z | z
                          · exact okt u z
                          · obtain ⟨d9, h9, e9⟩ := List.mem_filterMap.mp z
                            obtain ⟨m1, m2⟩ := tieOf_in e9
                            exact ⟨okd _ m1, okd _ m2⟩
                        have tat8 : TiesAt K H8 (xs ++ zs) (ts ++ tiesD ns (ds.take i)) := TiesAt.app (h4.same lv8.sm) (tz6.same s68)
                        have dk8 : Dp K H8 (.ref kn) (.list ((ts ++ tiesD ns (ds.take i)).map tieDat)) := .lst (SqL.of (lv8.get 3 rfl)) (dp_ties tat8)
                        have nte : newTie ns (ts ++ tiesD ns (ds.take i)) (.tuple [.str x, .str y]) = (!decide ((x, y) ∈ ts ++ tiesD ns (ds.take i)) && !decide ((y, x) ∈ ts ++ tiesD ns (ds.take i))) := by
                          unfold newTie
                          rw [tq]
                        refine ⟨_, rfl, _, rfl, tieDat (x, y), _, .tup hsb8 (.cons (.str _) (.cons (.str _) .nil)), dk8, shaped_tie o1, shaped_ties okq, ?_⟩
                        rw [any_tie]
                        refine ⟨_, rfl, ?_⟩
                        by_cases i1 : (x, y) ∈ ts ++ tiesD ns (ds.take i)
                        case pos =>
                          rw [decide_eq_true i1]
                          exact iteT ⟨_, rfl, sz2, fun r nr => bad (by rw [nte, decide_eq_true i1]; rfl) H8 lv8.sm r nr⟩
                        rw [decide_eq_false i1]
                        refine iteF ⟨_, rfl, _, _, _, rfl, hsb8, fun p np => ?_⟩
                        wide_line with alx lv8 np H9 lv9 s9
                        refine ⟨_, rfl, tieDat (y, x), _, .tup (SqT.of (lv9.get 0 rfl)) (.cons (.str _) (.cons (.str _) .nil)), .lst (SqL.of (lv9.get 4 rfl)) (dp_ties (tat8.same s9)), shaped_tie o2, shaped_ties okq, ?_⟩
                        rw [any_tie]
                        refine ⟨_, rfl, ?_⟩
                        by_cases i2 : (y, x) ∈ ts ++ tiesD ns (ds.take i)
                        case pos =>
                          rw [decide_eq_true i2]
                          exact iteT ⟨_, rfl, sz2, fun r nr => bad (by rw [nte, decide_eq_true i2, Bool.not_true, Bool.and_false]) H9 lv9.sm r nr⟩
                        rw [decide_eq_false i2]
                        refine iteF ?_
                        have e1 : tiesD ns [.tuple [.str x, .str y]] = [(x, y)] := by unfold tiesD; rw [List.filterMap_cons, tq]; rfl
                        have ntt : newTie ns (ts ++ tiesD ns (ds.take i)) (.tuple [.str x, .str y]) = true := by rw [nte, decide_eq_false i1, decide_eq_false i2]; rfl
                        refine ⟨_, rfl, .inl ⟨rfl, _, SqL.of (lv9.get 4 rfl)⟩, _, rfl, kn, _, _, rfl, rfl, lv9.get 4 rfl, ?_, ?_⟩
                        · rw [List.length_append, sizeLine_eq]
                          omega
                        · generalize he : upd H9 kn (.lst (xs ++ zs ++ [.ref b])) = H10
                          have lv10 := (lv9.stE 4 rfl he).picks [4] rfl (by decide) (by simp)
                          rw [List.append_assoc] at lv10
                          have tzf : TiesAt K H (zs ++ [.ref b]) (tiesD ns (ds.take (i + 1))) := by
                            rw [tk, e1]
                            exact TiesAt.app tz (.cons ⟨b, rfl, hsb0⟩ .nil)
                          refine ⟨_, _, _, _, _, _, rfl, lv10, by rw [List.length_append, List.length_singleton]; omega, tzf, ?_⟩
                          rw [eb, ed, nt, if_pos ntt, tk, List.append_assoc]
            | _ => exact iteT ⟨_, rfl, sz2, fun r nr => bad rfl H6 lv6.sm r nr⟩
          · rintro σ H5 ⟨u5, u6, u7, u8, u9, zs, rfl, lv5, lz, tz, eb⟩
            rw [hl, List.drop_length, List.take_length] at eb
            rw [hl, List.take_length] at tz
            have gd : tieBad ns (ts.map pairP) 0 ds = none := by rw [eb]; rfl
            have tat : TiesAt K H5 (xs ++ zs) (ts ++ tiesD ns ds) := TiesAt.app (h4.same lv5.sm) (tz.same lv5.sm)
            refine ⟨_, rfl, _, rfl, kn, _, rfl, .inl ⟨SqL.of (lv5.get 0 rfl), fun q nq => ?_⟩⟩
            wide_line with alx lv5 nq H6 lv6 s6
            refine ⟨sz2, fun p np => ?_⟩
            wide_line with alx lv6 np H7 lv7 s7
            refine ⟨sz2, fun r nr => ?_⟩
            wide_line with alx lv7 nr H8 lv8 s8
            exact kg gd r p H8 lv8.sm (lv7.free nr) (lv8.get 0 rfl) ⟨tn, q, _, SqT.of (lv8.get 1 rfl), same_t lv8.sm h2, SqT.of (lv8.get 2 rfl), tat.same (s6.trans (s7.trans s8))⟩
end
end Pw

set_option Elab.async false
set_option linter.all false
set_option maxRecDepth 100000
set_option maxHeartbeats 2000000
/-! Own kit Ze: repr of any datum. -/
namespace Ct
open PySem PySem.Spec PyProof.Rows L2
def rRepV (K : PySem.W.Frag) : List V → Hp → VK → Prop := fun xs H Q => ∃ (v : V) (d : PyData), xs = [v] ∧ Dq K H v d ∧ d.showable = true ∧ d.depth ≤ 60 ∧ d.shown.length ≤ sizeLine ∧ Q (.str d.shown) H
theorem call_repV {X : Cx} (g : X.A.guards = some []) (S : SysB X.base) (hu : X.A.units + 64 < cLine) : CallR X (.builtin "repr") (rRepV X.K) := by
  intro pins s σ H xs us Q I r h
  obtain ⟨v, d, rfl, hd, hs, hp, hz, q⟩ := h
  obtain ⟨u, rfl, ru⟩ := vals1 r
  cases hd with
  | non =>
    cases (show u = Value.none from ru)
    exact PySem.P.repr_of_none ⟨.str _, H, I.tok _, ⟨_, rfl⟩, by simpa only [PyData.shown] using q⟩
  | bl b =>
    cases (show u = Value.bool b from ru)
    exact PySem.P.repr_of_bool ⟨.str _, H, I.tok _, ⟨_, rfl⟩, by simpa only [PyData.shown] using q⟩
  | int i =>
    obtain ⟨t, rfl⟩ := ru
    exact PySem.P.repr_of_int (by simpa [PyData.showable] using hs) ⟨.str _, H, I.tok _, ⟨_, rfl⟩, by simpa only [PyData.shown] using q⟩
  | str x =>
    obtain ⟨t, rfl⟩ := ru
    exact PySem.P.repr_of_str ⟨.str _, H, I.tok _, ⟨_, rfl⟩, by simpa only [PyData.shown] using q⟩ (by simpa only [PyData.shown] using hz)
  | lst h1 h2 =>
    obtain ⟨as, hr, hn⟩ := Dq.reads I S (.lst h1 h2) ru
    cases (show u = Value.ref _ from ru)
    exact repr_of_reads' hr hs (fun _ => hn) g (by omega) (fun _ _ e => e) (fun h' u tk k => ⟨.str _, H, I.kept k, ⟨_, rfl⟩, q⟩) hz
  | tup h1 h2 =>
    obtain ⟨as, hr, hn⟩ := Dq.reads I S (.tup h1 h2) ru
    cases (show u = Value.ref _ from ru)
    exact repr_of_reads' hr hs (fun _ => hn) g (by omega) (fun _ _ e => e) (fun h' u tk k => ⟨.str _, H, I.kept k, ⟨_, rfl⟩, q⟩) hz
  | dic h1 h2 h3 h4 =>
    obtain ⟨as, hr, hn⟩ := Dq.reads I S (.dic h1 h2 h3 h4) ru
    cases (show u = Value.ref _ from ru)
    exact repr_of_reads' hr hs (fun _ => hn) g (by omega) (fun _ _ e => e) (fun h' u tk k => ⟨.str _, H, I.kept k, ⟨_, rfl⟩, q⟩) hz
  | dicT h1 h2 h3 h4 =>
    obtain ⟨as, hr, hn⟩ := Dq.reads I S (.dicT h1 h2 h3 h4) ru
    cases (show u = Value.ref _ from ru)
    exact repr_of_reads' hr hs (fun _ => hn) g (by omega) (fun _ _ e => e) (fun h' u tk k => ⟨.str _, H, I.kept k, ⟨_, rfl⟩, q⟩) hz
end Ct

set_option Elab.async false
set_option linter.all false
set_option maxRecDepth 100000
set_option maxHeartbeats 4000000
namespace Pw
open PySem PySem.Spec PyProof.Rows L2 Ct
local macro_rules | `(tactic| wide_line) => `(tactic| repeat ((fail_if_success (with_reducible refine at_while ?_)); (fail_if_success (with_reducible refine at_while1 ?_)); (conv => whnf); first | ((with_reducible refine And.intro ?_ ?_); focus (first | (first | ((with_reducible show (_ : Nat) ≤ _); first | exact sz0 | exact sz1 | exact sz2 | exact sz3 | exact sz4 | exact sz5 | exact sz6 | exact sz7 | exact sz8 | exact sz10 | exact sz11 | exact sz12 | exact sz14 | omega | decide | (simp only [List.length_cons, List.length_nil]; omega)) | ((with_reducible show (_ : Int) ≤ _); first | omega | decide) | ((with_reducible show (_ : Int) < _); first | omega | decide) | ((with_reducible show (_ : Nat) < _); omega)) | ((fail_if_success (with_reducible show (_ : Nat) ≤ _)); (fail_if_success (with_reducible show (_ : Int) ≤ _)); (fail_if_success (with_reducible show (_ : Int) < _)); (fail_if_success (with_reducible show (_ : Nat) < _)); first | exact kv_str _ | exact kv_int _ | rfl | assumption | exact flat_strs _ | exact Lv.get (by assumption) 0 rfl | exact Lv.get (by assumption) 1 rfl | exact Lv.get (by assumption) 2 rfl | exact Lv.get (by assumption) 3 rfl | exact Lv.get (by assumption) 4 rfl | exact Lv.get (by assumption) 5 rfl | exact Lv.get (by assumption) 6 rfl | exact SqL.of (Lv.get (by assumption) 0 rfl) | exact SqL.of (Lv.get (by assumption) 1 rfl) | exact SqL.of (Lv.get (by assumption) 2 rfl) | exact SqL.of (Lv.get (by assumption) 3 rfl) | exact SqL.of (Lv.get (by assumption) 4 rfl) | exact SqL.of (Lv.get (by assumption) 5 rfl) | exact Or.inl (SqL.of (Lv.get (by assumption) 0 rfl)) | exact Or.inl (SqL.of (Lv.get (by assumption) 1 rfl)) | exact Or.inl (SqL.of (Lv.get (by assumption) 2 rfl)) | exact Or.inl (SqL.of (Lv.get (by assumption) 3 rfl)) | exact Or.inl (SqL.of (Lv.get (by assumption) 4 rfl)) | exact Or.inl (SqL.of (Lv.get (by assumption) 5 rfl)) | exact ⟨_, SqL.of (Lv.get (by assumption) 0 rfl)⟩ | exact ⟨_, SqL.of (Lv.get (by assumption) 1 rfl)⟩ | exact ⟨_, SqL.of (Lv.get (by assumption) 2 rfl)⟩ | exact ⟨_, SqL.of (Lv.get (by assumption) 3 rfl)⟩ | exact ⟨_, SqL.of (Lv.get (by assumption) 4 rfl)⟩ | exact ⟨_, SqL.of (Lv.get (by assumption) 5 rfl)⟩ | exact Or.inl ⟨_, SqL.of (Lv.get (by assumption) 0 rfl), rfl⟩ | exact Or.inl ⟨_, SqL.of (Lv.get (by assumption) 1 rfl), rfl⟩ | exact Or.inl ⟨_, SqL.of (Lv.get (by assumption) 2 rfl), rfl⟩ | exact Or.inl ⟨_, SqL.of (Lv.get (by assumption) 3 rfl), rfl⟩ | exact Or.inl ⟨_, SqL.of (Lv.get (by assumption) 4 rfl), rfl⟩ | exact Or.inl ⟨_, SqL.of (Lv.get (by assumption) 5 rfl), rfl⟩ | exact Or.inl ⟨rfl, _, SqL.of (Lv.get (by assumption) 0 rfl)⟩ | exact Or.inl ⟨rfl, _, SqL.of (Lv.get (by assumption) 1 rfl)⟩ | exact Or.inl ⟨rfl, _, SqL.of (Lv.get (by assumption) 2 rfl)⟩ | exact Or.inl ⟨rfl, _, SqL.of (Lv.get (by assumption) 3 rfl)⟩ | exact Or.inl ⟨rfl, _, SqL.of (Lv.get (by assumption) 4 rfl)⟩ | exact Or.inl ⟨rfl, _, SqL.of (Lv.get (by assumption) 5 rfl)⟩ | exact Or.inr (SqT.of (Lv.get (by assumption) 0 rfl)) | exact Or.inr (SqT.of (Lv.get (by assumption) 1 rfl)) | exact Or.inr (SqT.of (Lv.get (by assumption) 2 rfl)) | exact Or.inr (SqT.of (Lv.get (by assumption) 3 rfl)) | exact SqT.of (Lv.get (by assumption) 0 rfl) | exact SqT.of (Lv.get (by assumption) 1 rfl) | exact SqT.of (Lv.get (by assumption) 2 rfl) | exact dgetN (Lv.get (by assumption) 0 rfl) (by assumption) | exact dgetN (Lv.get (by assumption) 1 rfl) (by assumption) | exact dgetN (Lv.get (by assumption) 2 rfl) (by assumption) | exact dgetN (Lv.get (by assumption) 3 rfl) (by assumption) | exact dgetN (Lv.get (by assumption) 4 rfl) (by assumption) | exact Or.inl (by assumption) | exact Or.inr (by assumption) | decide | ((with_reducible show _ ∧ _); omega)))) | ((fail_if_success (with_reducible apply @Exists.intro (Nat → _))); (with_reducible apply Exists.intro))))
local macro_rules
  | `(tactic| wide_line with al $lv:ident $l:ident $nl:ident $H:ident $lv1:ident $s1:ident) => `(tactic| (intro $l:ident $nl:ident; generalize he : upd _ _ _ = $H:ident; have $lv1:ident := Lv.alE $lv $nl he; have $s1:ident := sameE $nl he; clear he; (try dsimp only at $lv1:ident)))
  | `(tactic| wide_line with alx $lv:ident $nl:ident $H:ident $lv1:ident $s1:ident) => `(tactic| (generalize he : upd _ _ _ = $H:ident; have $lv1:ident := Lv.alE $lv $nl he; have $s1:ident := sameE $nl he; clear he; (try dsimp only at $lv1:ident)))
  | `(tactic| wide_line with sts $lv:ident $i:num $H:ident $lv1:ident $s0:ident $np:ident $s1:ident) => `(tactic| (generalize he : upd _ _ _ = $H:ident; have $lv1:ident := Lv.stE $lv $i rfl he; have $s1:ident := sameN $s0 $np he; clear he; (try dsimp only at $lv1:ident)))
  | `(tactic| wide_line with stx $lv:ident $H:ident $lv1:ident $d1:ident) => `(tactic| (generalize he : upd _ _ _ = $H:ident; have $lv1:ident := Lv.stE $lv 0 rfl he; have $d1:ident := SameD.storeE (Lv.get $lv 0 rfl) he; clear he; (try dsimp only at $lv1:ident)))
  | `(tactic| wide_line with st $lv:ident $i:num $H:ident $lv1:ident) => `(tactic| (generalize he : upd _ _ _ = $H:ident; have $lv1:ident := Lv.stE $lv $i rfl he; clear he; (try dsimp only at $lv1:ident)))
  | `(tactic| wide_line with stk $lv:ident $i:num $H:ident $lv1:ident $k1:ident) => `(tactic| (generalize he : upd _ _ _ = $H:ident; have $lv1:ident := Lv.stE $lv $i rfl he; have $k1:ident := KeepT.st (Lv.get $lv $i rfl) he; clear he; (try dsimp only at $lv1:ident)))
theorem join_at {t : TS} {D : Ends} {σ : L2.St} {H : Hp} {P : Hp → Prop} (h1 : t { D with nx := fun τ G => τ = σ ∧ P G } σ H) (h2 : ∀ G, P G → D.nx σ G) : tJoin t D σ H := ⟨_, h1, fun τ G ⟨e, p⟩ => e ▸ h2 G p⟩
/-- a value that may be changed if it is a list: it stands apart from R -/
def VR (K : PySem.W.Frag) (R H : Hp) (v : V) (d : PyData) : Prop := (∃ a xs ds, v = .ref a ∧ d = .list ds ∧ H a = some (.lst xs) ∧ R a = none ∧ DqAll K R xs ds) ∨ ((∀ ds, d ≠ .list ds) ∧ Dq K R v d)
theorem VR.dq {K : PySem.W.Frag} {R H : Hp} {v : V} {d : PyData} (s : Same R H) : VR K R H v d → Dq K H v d
  | .inl ⟨a, xs, ds, e1, e2, h, _, hd⟩ => by subst e1; subst e2; exact .lst (SqL.of h) (DqAll.same s hd)
  | .inr ⟨_, h⟩ => Dq.same s h
theorem VR.same {K : PySem.W.Frag} {R H H' : Hp} {v : V} {d : PyData} (s : Same H H') : VR K R H v d → VR K R H' v d
  | .inl ⟨a, xs, ds, e1, e2, h, n, hd⟩ => .inl ⟨a, xs, ds, e1, e2, s _ _ h, n, hd⟩
  | .inr h => .inr h
theorem dqAll_app {K : PySem.W.Frag} {H : Hp} : ∀ {xs ys : List V} {ds es : List PyData}, DqAll K H xs ds → DqAll K H ys es → DqAll K H (xs ++ ys) (ds ++ es)
  | _, _, _, _, .nil, t => t
  | _, _, _, _, .cons h t, u => .cons h (dqAll_app t u)
/-- all but the value -/
abbrev FrV (v : V) (d : PyData) (H H' : Hp) : Prop := ∀ b o, (V.ref b ≠ v ∨ isL d = false) → H b = some o → H' b = some o
theorem FrV.of {v : V} {d : PyData} {H H' : Hp} (s : Same H H') : FrV v d H H' := fun b o _ h => s b o h
theorem VR.lst {K : PySem.W.Frag} {R H : Hp} {v : V} {d : PyData} (h : VR K R H v d) (il : isL d = true) : ∃ a xs, v = .ref a ∧ H a = some (.lst xs) ∧ R a = none := by
  rcases h with ⟨a, xs, ds, e1, e2, h, n, _⟩ | ⟨no, _⟩
  · exact ⟨a, xs, e1, h, n⟩
  · cases d with
    | list ds => exact absurd rfl (no ds)
    | _ => exact absurd il Bool.false_ne_true
theorem FrV.sub {K : PySem.W.Frag} {R H H' : Hp} {v : V} {d : PyData} (vr : VR K R H v d) (s : Same R H) (f : FrV v d H H') : Same R H' := fun b o e => f b o (by
  cases il : isL d with
  | false => exact .inr rfl
  | true =>
    obtain ⟨a, ys, rfl, _, na⟩ := vr.lst il
    refine .inl fun z => ?_
    cases z
    rw [na] at e
    cases e) (s b o e)
/-- tuples stand -/
theorem sqT_frame {K : PySem.W.Frag} {R H H' : Hp} {v : V} {d : PyData} (vr : VR K R H v d) (f : FrV v d H H') {b : Addr} {xs : List V} (h : SqT K H b xs) : SqT K H' b xs := by
  have go : ∀ {o}, H b = some o → (∀ ys, o ≠ .lst ys) → H' b = some o := fun {o} e n => f b o (by
    cases il : isL d with
    | false => exact .inr rfl
    | true =>
      obtain ⟨a, ys, rfl, ha, _⟩ := vr.lst il
      refine .inl fun z => ?_
      cases z
      rw [ha] at e
      exact n ys (Option.some.inj e).symm) e
  rcases h with (h | ⟨o, h⟩) | h
  · exact .inl (.inl (go h fun _ z => nomatch z))
  · exact .inl (.inr ⟨o, go h fun _ z => nomatch z⟩)
  · exact .inr h
theorem tiesAt_frame {K : PySem.W.Frag} {R H H' : Hp} {v : V} {d : PyData} (vr : VR K R H v d) (f : FrV v d H H') : ∀ {xs : List V} {ts : List (Str × Str)}, TiesAt K H xs ts → TiesAt K H' xs ts
  | _, _, .nil => .nil
  | _, _, .cons ⟨a, e, h⟩ t => .cons ⟨a, e, sqT_frame vr f h⟩ (tiesAt_frame vr f t)
theorem planAt_frame {K : PySem.W.Frag} {R H H' : Hp} {v : V} {d : PyData} {t : Addr} {ns : List Str} {ts : List (Str × Str)} (vr : VR K R H v d) (f : FrV v d H H') : PlanAt K H t ns ts → PlanAt K H' t ns ts
  | ⟨tn, tt, xs, h1, h2, h3, h4⟩ => ⟨tn, tt, xs, sqT_frame vr f h1, sqT_frame vr f h2, sqT_frame vr f h3, tiesAt_frame vr f h4⟩
/-- what is due: an error -/
inductive BadV (v : V) (d : PyData) (ns : List Str) (ts : List (Str × Str)) : Str → Str → V → PyData → Prop
  | places : spareOf ns d = false → BadV v d ns ts "without" "places" v d
  | ties : seqD d = none → BadV v d ns ts "tied" "ties" v d
  | tie {ds : List PyData} {i : Nat} : seqD d = some ds → tieBad ns (ts.map pairP) 0 ds = some i → BadV v d ns ts "tied" "tie" (.int (i : Nat)) (.int (i : Nat))
/-- .. or a new web -/
inductive GoodV (d : PyData) (ns : List Str) (ts : List (Str × Str)) : Str → List Str → List (Str × Str) → Prop
  | without {ds : List PyData} : d = .list ds → spareOf ns d = true → GoodV d ns ts "without" (lessN ns (strsD ds)) (lessT ns ts (strsD ds))
  | tied {ds : List PyData} : seqD d = some ds → tieBad ns (ts.map pairP) 0 ds = none → GoodV d ns ts "tied" ns (ts ++ tiesD ns ds)
theorem verd (w : Str) (hw : w = "without" ∨ w = "tied") (v : V) (d : PyData) (ns : List Str) (ts : List (Str × Str)) : (∃ tag u du, BadV v d ns ts w tag u du) ∨ ∃ ns' ts', GoodV d ns ts w ns' ts' := by
  rcases hw with rfl | rfl
  · cases c : spareOf ns d with
    | false => exact .inl ⟨_, _, _, .places c⟩
    | true =>
      cases d with
      | list ds => exact .inr ⟨_, _, .without rfl c⟩
      | _ => exact absurd c (by unfold spareOf placesIn; simp)
  · cases e : seqD d with
    | none => exact .inl ⟨_, _, _, .ties e⟩
    | some ds =>
      cases e2 : tieBad ns (ts.map pairP) 0 ds with
      | some i => exact .inl ⟨_, _, _, .tie e e2⟩
      | none => exact .inr ⟨_, _, .tied e e2⟩
/-- what the values are -/
structure ValD (w : Str) (m : Nat) (d : PyData) : Prop where
  word : w = "without" ∨ w = "tied"
  sm : Sm 6 30000 d
  more : ∀ ds, d = .list ds → Sm 6 30000 (.list (ds ++ [.str "more"]))
  lst : ∀ ds, d = .list ds → ds.length < 4000
  tie : w = "tied" → ∀ ds, seqD d = some ds → (∀ e ∈ ds, plainTie e) ∧ m + ds.length ≤ 75
section
variable {K : PySem.W.Frag} {C : Addr} {H : Hp} {Q : VK} {E : XK} {w : Str} {v u : V} {d du : PyData} {n : Nat} {ns ns' : List Str} {ts ts' : List (Str × Str)} {x t : Addr} {tag : Str}
theorem due_badV (b : BadV v d ns ts w tag u du) (vd : ValD w ts.length d) (hp : PlanAt K H t ns ts) (pk : PlanOk n ns ts) (hn : n ≤ 12) (hd : Dq K H v d) (k : Tells H Q tag u) : spDue4 K [.ref t, .str w, v] H Q E := by
  refine ⟨t, w, v, n, ns, ts, d, rfl, hp, pk, hn, hd, ?_⟩
  cases b with
  | places c => exact .inl ⟨rfl, vd.lst, fun _ => k, fun _ _ z => (by rw [c] at z; cases z)⟩
  | ties e => exact .inr ⟨rfl, fun _ => k, fun ds z => by rw [e] at z; cases z⟩
  | tie e e2 =>
    refine .inr ⟨rfl, fun z => (by rw [e] at z; cases z), fun ds z => ?_⟩
    rw [e] at z
    cases z
    obtain ⟨p1, p2⟩ := vd.tie rfl _ e
    exact ⟨p1, p2, fun i z => by rw [e2] at z; cases z; exact k, fun z => by rw [e2] at z; cases z⟩
theorem due_goodV (b : GoodV d ns ts w ns' ts') (vd : ValD w ts.length d) (hp : PlanAt K H t ns ts) (pk : PlanOk n ns ts) (hn : n ≤ 12) (hd : Dq K H v d) (k : ∀ r p H', Same H H' → H r = none → H' r = some (.tup [.str "made", .ref p]) → PlanAt K H' p ns' ts' → Q (.ref r) H') : spDue4 K [.ref t, .str w, v] H Q E := by
  refine ⟨t, w, v, n, ns, ts, d, rfl, hp, pk, hn, hd, ?_⟩
  cases b with
  | without e c =>
    subst e
    exact .inl ⟨rfl, vd.lst, fun z => (by rw [c] at z; cases z), fun ds z _ => by cases z; exact k⟩
  | tied e e2 =>
    refine .inr ⟨rfl, fun z => (by rw [e] at z; cases z), fun ds z => ?_⟩
    rw [e] at z
    cases z
    obtain ⟨p1, p2⟩ := vd.tie rfl _ e
    exact ⟨p1, p2, fun i z => (by rw [e2] at z; cases z), fun _ => k⟩
theorem told_badV (b : BadV v d ns ts w tag u du) (vd : ValD w ts.length d) (hw : WebAt K C H x ns ts) (pk : PlanOk n ns ts) (hn : n ≤ 12) (hd : Dq K H v d) (k : Tells H Q tag u) : spTold4 K C [.ref x, .str w, v] H Q E := by
  refine ⟨x, w, v, rfl, ?_⟩
  cases b with
  | places c => exact .inr (.inl ⟨rfl, n, ns, ts, d, hw, pk, hn, hd, fun ds e => Nat.le_of_lt (vd.lst ds e), fun _ => k, fun _ _ z => (by rw [c] at z; cases z)⟩)
  | ties e => exact .inr (.inr ⟨rfl, n, ns, ts, d, hw, pk, hn, hd, fun _ => k, fun ds z => by rw [e] at z; cases z⟩)
  | tie e e2 =>
    refine .inr (.inr ⟨rfl, n, ns, ts, d, hw, pk, hn, hd, fun z => (by rw [e] at z; cases z), fun ds z => ?_⟩)
    rw [e] at z
    cases z
    obtain ⟨p1, p2⟩ := vd.tie rfl _ e
    exact ⟨p1, p2, fun i z => by rw [e2] at z; cases z; exact k, fun z => by rw [e2] at z; cases z⟩
theorem told_goodV (b : GoodV d ns ts w ns' ts') (vd : ValD w ts.length d) (hw : WebAt K C H x ns ts) (pk : PlanOk n ns ts) (hn : n ≤ 12) (hd : Dq K H v d) (k : ∀ r y H', Same H H' → H r = none → H y = none → H' r = some (.tup [.str "made", .ref y]) → WebAt K C (noLst H H') y ns' ts' → Q (.ref r) H') : spTold4 K C [.ref x, .str w, v] H Q E := by
  refine ⟨x, w, v, rfl, ?_⟩
  cases b with
  | without e c =>
    subst e
    exact .inr (.inl ⟨rfl, n, ns, ts, _, hw, pk, hn, hd, fun ds e => Nat.le_of_lt (vd.lst ds e), fun z => (by rw [c] at z; cases z), fun ds z _ => by cases z; exact k⟩)
  | tied e e2 =>
    refine .inr (.inr ⟨rfl, n, ns, ts, d, hw, pk, hn, hd, fun z => (by rw [e] at z; cases z), fun ds z => ?_⟩)
    rw [e] at z
    cases z
    obtain ⟨p1, p2⟩ := vd.tie rfl _ e
    exact ⟨p1, p2, fun i z => (by rw [e2] at z; cases z), fun _ => k⟩
theorem amids_len {ds : List PyData} {ns : List Str} (h : ds.all (fun d => amid d ns) = true) : (strsD ds).length = ds.length ∧ ∀ q ∈ strsD ds, q ∈ ns := by
  have e := amids_strs h
  refine ⟨by have := congrArg List.length e; rw [List.length_map] at this; exact this.symm, fun q hq => ?_⟩
  have : PyData.str q ∈ ds := by rw [e]; exact List.mem_map.mpr ⟨q, hq, rfl⟩
  exact amid_str.mp (List.all_eq_true.mp h _ this)
/-- the new web is a good one -/
theorem GoodV.ok (b : GoodV d ns ts w ns' ts') (vd : ValD w ts.length d) (pk : PlanOk n ns ts) : PlanOk n ns' ts' ∧ (∀ q ∈ ns', q ∈ ns) ∧ ts'.length ≤ ts.length + (match seqD d with | some ds => ds.length | none => 0) ∧ (w = "without" → ts'.length ≤ ts.length) := by
  cases b with
  | @without ds e c =>
    subst e
    unfold spareOf placesIn at c
    simp only [Bool.and_eq_true, decide_eq_true_eq, Bool.not_eq_true', decide_eq_false_iff_not] at c
    obtain ⟨⟨c1, c2⟩, c3⟩ := c
    obtain ⟨l1, l2⟩ := amids_len c1
    refine ⟨less_ok pk c2 l2 (by rw [l1]; exact c3), fun q hq => (List.mem_filter.mp hq).1, ?_, fun _ => List.length_filter_le _ _⟩
    exact Nat.le_trans (List.length_filter_le _ _) (Nat.le_add_right _ _)
  | @tied ds e e2 =>
    obtain ⟨p1, p2⟩ := vd.tie rfl _ e
    refine ⟨pk.more e2 p2, fun q hq => hq, ?_, fun z => absurd z (by decide)⟩
    rw [e, List.length_append]
    have : (tiesD ns ds).length ≤ ds.length := List.length_filterMap_le _ _
    show _ ≤ ts.length + ds.length
    omega
theorem Sm.two {k m : Nat} {x y : PyData} (hx : Sm k m x) (hy : Sm k m y) : Sm (k + 1) (2 * (m + 2) + 4) (.list [x, y]) ∧ Sm (k + 1) (2 * (m + 2) + 4) (.tuple [x, y]) := by
  have h : ∀ d ∈ [x, y], Sm k m d := fun d hd => by
    rcases List.mem_cons.mp hd with z | z
    · rw [z]; exact hx
    · rw [List.mem_singleton.mp z]; exact hy
  exact ⟨Sm.list h (Nat.le_refl 2), Sm.tuple h (Nat.le_refl 2)⟩
theorem Sm.rep {k m : Nat} {d : PyData} (h : Sm k m d) (hk : k ≤ 60) (hm : m ≤ 1000000) : d.showable = true ∧ d.depth ≤ 60 ∧ d.shown.length ≤ sizeLine :=
  ⟨h.1, Nat.le_trans h.2.1 hk, Nat.le_trans h.2.2 (Nat.le_trans hm (by decide))⟩
theorem tieBad_lt {ns : List Str} : ∀ {ds : List PyData} {ps : List (Str × Str)} {k i : Nat}, tieBad ns ps k ds = some i → i < k + ds.length
  | [], _, _, _, h => by cases h
  | d :: ds, ps, k, i, h => by
    unfold tieBad at h
    split at h
    · cases h; rw [List.length_cons]; omega
    · split at h
      · cases h; rw [List.length_cons]; omega
      · have := tieBad_lt h
        rw [List.length_cons]; omega
theorem sm_nat {i : Nat} (h : i ≤ 100) : Sm 6 30000 (.int i) := by
  refine ⟨?_, by rw [PyData.depth]; exact Nat.zero_le _, Nat.le_trans (PyData.shown_int_le2 (by omega) (by omega)) (by decide)⟩
  rw [PyData.showable]
  refine decide_eq_true ?_
  have e : ((i : Nat) : Int).natAbs = i := rfl
  rw [e]
  exact Nat.lt_of_le_of_lt (Nat.log2_le_self i) (by omega)
theorem BadV.sm (b : BadV v d ns ts w tag u du) (vd : ValD w ts.length d) : Sm 6 30000 du := by
  cases b with
  | places c => exact vd.sm
  | ties e => exact vd.sm
  | tie e e2 => exact sm_nat (by have := tieBad_lt e2; have := (vd.tie rfl _ e).2; omega)
theorem BadV.is (b : BadV v d ns ts w tag u du) : ((u = v ∧ du = d) ∧ tag ≠ "tie") ∨ (∃ i : Nat, u = .int i ∧ du = .int i) ∧ tag = "tie" := by
  cases b with
  | places c => exact .inl ⟨⟨rfl, rfl⟩, by decide⟩
  | ties e => exact .inl ⟨⟨rfl, rfl⟩, by decide⟩
  | tie e e2 => exact .inr ⟨⟨_, rfl, rfl⟩, rfl⟩
theorem BadV.dq (b : BadV v d ns ts w tag u du) (hd : Dq K H v d) : Dq K H u du := by
  rcases b.is with ⟨⟨rfl, rfl⟩, _⟩ | ⟨⟨i, rfl, rfl⟩, _⟩
  · exact hd
  · exact .int _
theorem BadV.tagd (b : BadV v d ns ts w tag u du) : tag ≠ "made" ∧ Sm 6 30000 (.str tag) := by
  have h : ∀ x ∈ (["places", "ties", "tie"] : List Str), (PyData.str x).showable = true ∧ (PyData.str x).depth ≤ 6 ∧ (PyData.str x).shown.length ≤ 30000 := by decide +kernel
  cases b with
  | places _ => exact ⟨by decide, h _ (by simp)⟩
  | ties _ => exact ⟨by decide, h _ (by simp)⟩
  | tie _ _ => exact ⟨by decide, h _ (by simp)⟩
/-- what a second try meets -/
def LateR (K : PySem.W.Frag) (H : Hp) (w : Str) (v : V) (d : PyData) (ns : List Str) (ts : List (Str × Str)) (tag : Str) (u : V) : Prop := (∃ du, BadV v d ns ts w tag u du) ∨ (tag = "made" ∧ ∃ (q : Addr) (ns2 : List Str) (ts2 : List (Str × Str)), u = .ref q ∧ GoodV d ns ts w ns2 ts2 ∧ PlanAt K H q ns2 ts2)
theorem due_any (vd : ValD w ts.length d) (hp : PlanAt K H t ns ts) (pk : PlanOk n ns ts) (hn : n ≤ 12) (hd : Dq K H v d) (k : ∀ tag u r H', Same H H' → H r = none → H' r = some (.tup [.str tag, u]) → LateR K H' w v d ns ts tag u → Q (.ref r) H') : spDue4 K [.ref t, .str w, v] H Q E := by
  rcases verd w vd.word v d ns ts with ⟨tag, u, du, b⟩ | ⟨ns', ts', g⟩
  · exact due_badV b vd hp pk hn hd fun r H' s n e => k tag u r H' s n e (.inl ⟨du, b⟩)
  · exact due_goodV g vd hp pk hn hd fun r p H' s n e pl => k "made" (.ref p) r H' s n e (.inr ⟨rfl, p, ns', ts', rfl, g, pl⟩)
theorem told_any {H0 : Hp} (l : LateR K H0 w v d ns ts tag u) (vd : ValD w ts.length d) (hw : WebAt K C H x ns ts) (pk : PlanOk n ns ts) (hn : n ≤ 12) (hd : Dq K H v d) (k : ∀ u2 r H', Same H H' → H r = none → H' r = some (.tup [.str tag, u2]) → ((∃ du, BadV v d ns ts w tag u du) ∧ u2 = u) ∨ (tag = "made" ∧ ∃ (q y : Addr) (ns2 : List Str) (ts2 : List (Str × Str)), u = .ref q ∧ u2 = .ref y ∧ GoodV d ns ts w ns2 ts2 ∧ PlanAt K H0 q ns2 ts2 ∧ WebAt K C H' y ns2 ts2) → Q (.ref r) H') : spTold4 K C [.ref x, .str w, v] H Q E := by
  rcases l with ⟨du, b⟩ | ⟨rfl, q, ns2, ts2, rfl, g, pl⟩
  · exact told_badV b vd hw pk hn hd fun r H' s n e => k u r H' s n e (.inl ⟨⟨du, b⟩, rfl⟩)
  · exact told_goodV g vd hw pk hn hd fun r y H' s n _ e wy => k (.ref y) r H' s n e (.inr ⟨rfl, q, y, ns2, ts2, rfl, rfl, g, pl, WebAt.same noLst_sub wy⟩)
theorem sl_first {a : Addr} {z : V} {xs : List V} (h : SqT K H a (z :: xs)) (k : ∀ p H', Same H H' → SqT K H' p [z] → Q (.ref p) H') : rSlA K (.ref a) none (some 1) H Q := by
  refine ⟨a, z :: xs, rfl, h, fun c => ?_, fun _ p np => k p _ (same_new np) ?_⟩
  · have e : HT.sIx (z :: xs).length (z :: xs).length (some (1 : Int)) = min 1 (z :: xs).length := HT.sIx_nat _ _ 1
    have c2 := c.2
    rw [e] at c2
    have : xs = [] := by
      cases xs with
      | nil => rfl
      | cons y ys => simp only [List.length_cons] at c2; omega
    subst this
    exact k a H (.refl _) h
  · refine SqT.of (upd_same.trans (congrArg (fun l => some (HO.tup l)) ?_))
    unfold cutV
    have e : HT.sIx (z :: xs).length (z :: xs).length (some (1 : Int)) = min 1 (z :: xs).length := HT.sIx_nat _ _ 1
    rw [e, HT.sIx_none]
    simp only [List.length_cons, List.drop_zero, Nat.sub_zero]
    rw [show min 1 (xs.length + 1) = 1 by omega]
    rfl
end
end Pw

set_option Elab.async false
set_option linter.all false
set_option maxRecDepth 100000
set_option maxHeartbeats 4000000
namespace Pw
open PySem PySem.Spec PyProof.Rows L2 Ct
local macro_rules | `(tactic| wide_line) => `(tactic| repeat ((fail_if_success (with_reducible refine at_while ?_)); (fail_if_success (with_reducible refine at_while1 ?_)); (conv => whnf); first | ((with_reducible refine And.intro ?_ ?_); focus (first | (first | ((with_reducible show (_ : Nat) ≤ _); first | exact sz0 | exact sz1 | exact sz2 | exact sz3 | exact sz4 | exact sz5 | exact sz6 | exact sz7 | exact sz8 | exact sz10 | exact sz11 | exact sz12 | exact sz14 | omega | decide | (simp only [List.length_cons, List.length_nil]; omega)) | ((with_reducible show (_ : Int) ≤ _); first | omega | decide) | ((with_reducible show (_ : Int) < _); first | omega | decide) | ((with_reducible show (_ : Nat) < _); omega)) | ((fail_if_success (with_reducible show (_ : Nat) ≤ _)); (fail_if_success (with_reducible show (_ : Int) ≤ _)); (fail_if_success (with_reducible show (_ : Int) < _)); (fail_if_success (with_reducible show (_ : Nat) < _)); first | exact kv_str _ | exact kv_int _ | rfl | assumption | exact flat_strs _ | exact Lv.get (by assumption) 0 rfl | exact Lv.get (by assumption) 1 rfl | exact Lv.get (by assumption) 2 rfl | exact Lv.get (by assumption) 3 rfl | exact Lv.get (by assumption) 4 rfl | exact Lv.get (by assumption) 5 rfl | exact Lv.get (by assumption) 6 rfl | exact SqL.of (Lv.get (by assumption) 0 rfl) | exact SqL.of (Lv.get (by assumption) 1 rfl) | exact SqL.of (Lv.get (by assumption) 2 rfl) | exact SqL.of (Lv.get (by assumption) 3 rfl) | exact SqL.of (Lv.get (by assumption) 4 rfl) | exact SqL.of (Lv.get (by assumption) 5 rfl) | exact Or.inl (SqL.of (Lv.get (by assumption) 0 rfl)) | exact Or.inl (SqL.of (Lv.get (by assumption) 1 rfl)) | exact Or.inl (SqL.of (Lv.get (by assumption) 2 rfl)) | exact Or.inl (SqL.of (Lv.get (by assumption) 3 rfl)) | exact Or.inl (SqL.of (Lv.get (by assumption) 4 rfl)) | exact Or.inl (SqL.of (Lv.get (by assumption) 5 rfl)) | exact ⟨_, SqL.of (Lv.get (by assumption) 0 rfl)⟩ | exact ⟨_, SqL.of (Lv.get (by assumption) 1 rfl)⟩ | exact ⟨_, SqL.of (Lv.get (by assumption) 2 rfl)⟩ | exact ⟨_, SqL.of (Lv.get (by assumption) 3 rfl)⟩ | exact ⟨_, SqL.of (Lv.get (by assumption) 4 rfl)⟩ | exact ⟨_, SqL.of (Lv.get (by assumption) 5 rfl)⟩ | exact Or.inl ⟨_, SqL.of (Lv.get (by assumption) 0 rfl), rfl⟩ | exact Or.inl ⟨_, SqL.of (Lv.get (by assumption) 1 rfl), rfl⟩ | exact Or.inl ⟨_, SqL.of (Lv.get (by assumption) 2 rfl), rfl⟩ | exact Or.inl ⟨_, SqL.of (Lv.get (by assumption) 3 rfl), rfl⟩ | exact Or.inl ⟨_, SqL.of (Lv.get (by assumption) 4 rfl), rfl⟩ | exact Or.inl ⟨_, SqL.of (Lv.get (by assumption) 5 rfl), rfl⟩ | exact Or.inl ⟨rfl, _, SqL.of (Lv.get (by assumption) 0 rfl)⟩ | exact Or.inl ⟨rfl, _, SqL.of (Lv.get (by assumption) 1 rfl)⟩ | exact Or.inl ⟨rfl, _, SqL.of (Lv.get (by assumption) 2 rfl)⟩ | exact Or.inl ⟨rfl, _, SqL.of (Lv.get (by assumption) 3 rfl)⟩ | exact Or.inl ⟨rfl, _, SqL.of (Lv.get (by assumption) 4 rfl)⟩ | exact Or.inl ⟨rfl, _, SqL.of (Lv.get (by assumption) 5 rfl)⟩ | exact Or.inr (SqT.of (Lv.get (by assumption) 0 rfl)) | exact Or.inr (SqT.of (Lv.get (by assumption) 1 rfl)) | exact Or.inr (SqT.of (Lv.get (by assumption) 2 rfl)) | exact Or.inr (SqT.of (Lv.get (by assumption) 3 rfl)) | exact SqT.of (Lv.get (by assumption) 0 rfl) | exact SqT.of (Lv.get (by assumption) 1 rfl) | exact SqT.of (Lv.get (by assumption) 2 rfl) | exact dgetN (Lv.get (by assumption) 0 rfl) (by assumption) | exact dgetN (Lv.get (by assumption) 1 rfl) (by assumption) | exact dgetN (Lv.get (by assumption) 2 rfl) (by assumption) | exact dgetN (Lv.get (by assumption) 3 rfl) (by assumption) | exact dgetN (Lv.get (by assumption) 4 rfl) (by assumption) | exact Or.inl (by assumption) | exact Or.inr (by assumption) | decide | ((with_reducible show _ ∧ _); omega)))) | ((fail_if_success (with_reducible apply @Exists.intro (Nat → _))); (with_reducible apply Exists.intro))))
local macro_rules
  | `(tactic| wide_line with al $lv:ident $l:ident $nl:ident $H:ident $lv1:ident $s1:ident) => `(tactic| (intro $l:ident $nl:ident; generalize he : upd _ _ _ = $H:ident; have $lv1:ident := Lv.alE $lv $nl he; have $s1:ident := sameE $nl he; clear he; (try dsimp only at $lv1:ident)))
  | `(tactic| wide_line with alx $lv:ident $nl:ident $H:ident $lv1:ident $s1:ident) => `(tactic| (generalize he : upd _ _ _ = $H:ident; have $lv1:ident := Lv.alE $lv $nl he; have $s1:ident := sameE $nl he; clear he; (try dsimp only at $lv1:ident)))
  | `(tactic| wide_line with sts $lv:ident $i:num $H:ident $lv1:ident $s0:ident $np:ident $s1:ident) => `(tactic| (generalize he : upd _ _ _ = $H:ident; have $lv1:ident := Lv.stE $lv $i rfl he; have $s1:ident := sameN $s0 $np he; clear he; (try dsimp only at $lv1:ident)))
  | `(tactic| wide_line with stx $lv:ident $H:ident $lv1:ident $d1:ident) => `(tactic| (generalize he : upd _ _ _ = $H:ident; have $lv1:ident := Lv.stE $lv 0 rfl he; have $d1:ident := SameD.storeE (Lv.get $lv 0 rfl) he; clear he; (try dsimp only at $lv1:ident)))
  | `(tactic| wide_line with st $lv:ident $i:num $H:ident $lv1:ident) => `(tactic| (generalize he : upd _ _ _ = $H:ident; have $lv1:ident := Lv.stE $lv $i rfl he; clear he; (try dsimp only at $lv1:ident)))
  | `(tactic| wide_line with stk $lv:ident $i:num $H:ident $lv1:ident $k1:ident) => `(tactic| (generalize he : upd _ _ _ = $H:ident; have $lv1:ident := Lv.stE $lv $i rfl he; have $k1:ident := KeepT.st (Lv.get $lv $i rfl) he; clear he; (try dsimp only at $lv1:ident)))
def spAsked (K : PySem.W.Frag) (C : Addr) : Sp := fun vs H Q _ => ∃ (x t : Addr) (w : Str) (v : V) (R : Hp) (n : Nat) (ns : List Str) (ts : List (Str × Str)) (d : PyData), vs = [.ref x, .ref t, .str w, v] ∧ Same R H ∧ WebAt K C R x ns ts ∧ PlanAt K R t ns ts ∧ PlanOk n ns ts ∧ n ≤ 12 ∧ VR K R H v d ∧ ValD w ts.length d ∧ (w = "tied" → ∀ ds, seqD d = some ds → ts.length + 2 * ds.length ≤ 75) ∧ ∀ H', FrV v d H H' → Q (.bl true) H'
section
variable {P : Program} {w : World} {K : PySem.W.Frag} {mg : Str → Option Value} {base : Heap} {C CP CS CT CN : Addr}
abbrev sLawAskedRight : Stmt := top ix_law_asked_right
theorem scLawAskedRight : FnScope ["web", "plan", "word", "value", "due", "seen", "told", "gone", "place", "late", "heard", "first"] ["web", "plan", "word", "value"] (defScope sLawAskedRight) := ⟨rfl, rfl, rfl, by decide +kernel, rfl, by decide +kernel, by decide +kernel⟩
theorem has_law_asked (T : Bn mg) (SB : SysB base) (X : WC K C) (D : DFE K mg "_law_asked_right" sLawAskedRight ["web", "plan", "word", "value"]) (hQ : HasEq2 P w K mg base C) (hM_without : HasM P w K mg base (L2.CX P w) 6 C "without" ["self", "places"] (spWithout K C CP))
    (h_law_due : Has P w K mg base CX0 2 "_law_due" ["plan", "word", "value"] (spDue4 K)) (h_law_told : Has P w K mg base CX0 7 "_law_told" ["web", "word", "value"] (spTold4 K C)) (h_law_same : Has P w K mg base CX0 7 "_law_same" ["web", "plan"] (spSame K C)) (h_law_less : Has P w K mg base CX0 1 "_law_less" ["plan", "gone"] (spLess K)) (h_law_web : Has P w K mg base CX0 6 "_law_web" ["plan"] (spWebOf K C)) : HasG P w K mg base CX0 8 "_law_asked_right" ["web", "plan", "word", "value"] (spAsked K C) := by
  refine hasG_of D scLawAskedRight (fun vs H Q E h => ?_) (fun f cdv A outer s H vs Q E gd hr h => ?_)
  · obtain ⟨x, t, w, v, R, n, ns, ts, d, rfl, _⟩ := h; rfl
  · obtain ⟨x, t, w, v, R, n, ns, ts, d, rfl, sR, hw, hp, pk, hn, vr, vd, more, k⟩ := h
    have nd := scLawAskedRight.nd
    refine ⟨_, (pss_cons (ps_asg (pe_tup (pa_cons (pe_h h_law_due hr (by decide) rfl (pa_cons (pv 1) (pa_cons (pv 2) (pa_cons (pv 3) pa_nil)))) (pa_cons (pe_callB (call_repV gd SB hr.units) (by rfl) T.z_repr (by decide +kernel) (pa_cons (pv 3) pa_nil)) pa_nil))) (pg_tup (n := 2) rfl (pgs_cons (pg_name (i := 4) nd rfl (by first | exact Or.inl rfl | exact Or.inr rfl)) (pgs_cons (pg_name (i := 5) nd rfl (by first | exact Or.inl rfl | exact Or.inr rfl)) pgs_nil))))
    (pss_cons (ps_sv 6 nd (pe_h h_law_told hr (by decide) rfl (pa_cons (pv 0) (pa_cons (pv 2) (pa_cons (pv 3) pa_nil)))))
    (pss_cons (ps_if (PW.pt (pw_or (pt_cmpR op_ne (pe_ix ix_tup (pv 6) pe_int (fun _ _ => rfl)) (pe_ix ix_tup (pv 4) pe_int (fun _ _ => rfl)) (by first | exact nomark _ | rfl)) (pw_or (pt_cmpR op_ne (pe_callB (call_repV gd SB hr.units) (by rfl) T.z_repr (by decide +kernel) (pa_cons (pv 3) pa_nil)) (pv 5) (by first | exact nomark _ | rfl)) (pw_or1 (pt_not (pt_val (pe_h h_law_same hr (by decide) rfl (pa_cons (pv 0) (pa_cons (pv 1) pa_nil))))))))) (pss_one (ps_ret pe_bl)) pss_nil)
    (pss_cons (ps_if (pt_cmpR op_eq (pe_ix ix_tup (pv 4) pe_int (fun _ _ => rfl)) pe_str (by first | exact nomark _ | rfl)) (pss_cons (ps_setLc (i := 7) (own := [("place", 8)]) (g := gName 8) rfl nd rfl rfl (sw_true rfl rfl rfl (by decide +kernel)) (pi_sq (pe_ix ix_tup (pv 1) pe_int (fun _ _ => rfl))) (blkOk_by (own := [("place", 8)]) (N := ["web", "plan", "word", "value", "due", "seen", "told", "gone", "place", "late", "heard", "first"]) (sc := defScope sLawAskedRight) (by decide +kernel)) (fun _ _ _ _ _ => (pg_name (i := 8) nd rfl (by first | exact Or.inl rfl | exact Or.inr rfl))) (fun _ _ _ _ _ => (pts_one (pt_cmpR (op_notIn_seqk (K := K) rfl) (pv 8) (pe_ix (ix_tupk (K := K) rfl) (pe_ix (ix_tupk (K := K) rfl) (pv 4) pe_int (fun _ _ => rfl)) pe_int (fun _ _ => rfl)) (by first | exact nomark _ | rfl)))) (fun _ _ _ _ _ => (pv 8)))
    (pss_cons (ps_if (pt_cmpR (op_neNil hr.units) (pe_lc (own := [("place", 8)]) (g := gName 8) rfl nd (pi_sq (pv 7)) (blkOk_by (own := [("place", 8)]) (N := ["web", "plan", "word", "value", "due", "seen", "told", "gone", "place", "late", "heard", "first"]) (sc := defScope sLawAskedRight) (by decide +kernel)) (fun _ _ _ _ _ => (pg_name (i := 8) nd rfl (by first | exact Or.inl rfl | exact Or.inr rfl))) (fun _ _ _ _ _ => (pts_one (pt_cmpR (op_neDk (K := K) rfl hr.units) (pe_h h_law_told hr (by decide) rfl (pa_cons (pe_ix (ix_tupk (K := K) rfl) (pv 6) pe_int (fun _ _ => rfl)) (pa_cons pe_str (pa_cons (pv 8) pa_nil)))) (pe_tup (pa_cons pe_str (pa_cons (pv 8) pa_nil))) (by first | exact nomark _ | rfl)))) (fun _ _ _ _ _ => (pv 8))) (pe_lst pa_nil) (by first | exact nomark _ | rfl)) (pss_one (ps_ret pe_bl)) pss_nil)
    (pss_cons (ps_sv 9 nd (pe_h h_law_due hr (by decide) rfl (pa_cons (pe_ix ix_tup (pv 4) pe_int (fun _ _ => rfl)) (pa_cons (pv 2) (pa_cons (pv 3) pa_nil)))))
    (pss_cons (ps_sv 10 nd (pe_h h_law_told hr (by decide) rfl (pa_cons (pe_ix ix_tup (pv 6) pe_int (fun _ _ => rfl)) (pa_cons (pv 2) (pa_cons (pv 3) pa_nil)))))
    (pss_cons (ps_join (ps_if (PW.pt (pw_or (pt_cmpR op_ne (pe_ix ix_tup (pv 9) pe_int (fun _ _ => rfl)) (pe_ix ix_tup (pv 10) pe_int (fun _ _ => rfl)) (by first | exact nomark _ | rfl)) (pw_or1 (PW.pt (pw_and (pt_cmpR op_eq (pe_ix ix_tup (pv 9) pe_int (fun _ _ => rfl)) pe_str (by first | exact nomark _ | rfl)) (pw_and1 (pt_not (pt_val (pe_h h_law_same hr (by decide) rfl (pa_cons (pe_ix ix_tup (pv 10) pe_int (fun _ _ => rfl)) (pa_cons (pe_ix ix_tup (pv 9) pe_int (fun _ _ => rfl)) pa_nil))))))))))) (pss_one (ps_ret pe_bl)) pss_nil))
    (pss_cons (ps_join (ps_if (PW.pt (pw_and (pt_cmpR op_ne (pe_ix ix_tup (pv 9) pe_int (fun _ _ => rfl)) pe_str (by first | exact nomark _ | rfl)) (pw_and1 (pt_cmpR op_ne (pe_callB (call_repV gd SB hr.units) (by rfl) T.z_repr (by decide +kernel) (pa_cons (pv 9) pa_nil)) (pe_callB (call_repV gd SB hr.units) (by rfl) T.z_repr (by decide +kernel) (pa_cons (pv 10) pa_nil)) (by first | exact nomark _ | rfl))))) (pss_one (ps_ret pe_bl)) pss_nil))
    (pss_cons (ps_join (ps_if (pt_val (pe_callB call_isD (by rfl) T.z_isinstance (by decide +kernel) (pa_cons (pv 3) (pa_cons (pe_bltn (v := .ty "list") rfl T.z_list (by decide +kernel) rfl) pa_nil)))) (pss_one (ps_expr (pe_bm0 PySem.F.plainAttrs_list PySem.F.slot_list_clear PySem.F.type_list_clear mt_clear (pv 3)))) pss_nil))
    (pss_cons (ps_sv 11 nd (pe_callTy call_list_of (by rfl) T.z_list (by decide +kernel) (pa_cons (pe_slice sl_tupA (pe_ix ix_tup (pe_ix ix_tup (pv 4) pe_int (fun _ _ => rfl)) pe_int (fun _ _ => rfl)) po_none (po_some pe_int)) pa_nil)))
    (pss_cons (ps_if (PW.pt (pw_and (pt_cmpR op_gt (pe_callB call_len_seq (by rfl) T.z_len (by decide +kernel) (pa_cons (pe_ix ix_tup (pe_ix ix_tup (pv 4) pe_int (fun _ _ => rfl)) pe_int (fun _ _ => rfl)) pa_nil)) pe_int (by first | exact nomark _ | rfl)) (pw_and1 (pt_cmpR (op_neWW (K := K) rfl hQ hr (by decide)) (pe_hML hM_without X.cls hr (by decide) (pe_ix ix_tup (pv 6) pe_int (fun _ _ => rfl)) (pa_cons (pv 11) pa_nil)) (pe_h h_law_web hr (by decide) rfl (pa_cons (pe_h h_law_less hr (by decide) rfl (pa_cons (pe_ix ix_tup (pv 4) pe_int (fun _ _ => rfl)) (pa_cons (pv 11) pa_nil))) pa_nil)) (by first | exact nomark _ | rfl))))) (pss_one (ps_ret pe_bl)) pss_nil)
    (pss_one (ps_ret (pe_h h_law_same hr (by decide) rfl (pa_cons (pe_ix ix_tup (pv 6) pe_int (fun _ _ => rfl)) (pa_cons (pe_ix ix_tup (pv 4) pe_int (fun _ _ => rfl)) pa_nil)))))))))))))) pss_nil)
    (pss_cons (ps_if (PW.pt (pw_and (pt_val (pe_callB call_isD (by rfl) T.z_isinstance (by decide +kernel) (pa_cons (pv 3) (pa_cons (pe_bltn (v := .ty "list") rfl T.z_list (by decide +kernel) rfl) pa_nil)))) (pw_and1 (pt_cmpR op_ne (pe_ix ix_tup (pv 4) pe_int (fun _ _ => rfl)) pe_str (by first | exact nomark _ | rfl))))) (pss_one (ps_expr (pe_bm PySem.F.plainAttrs_list PySem.F.slot_list_append PySem.F.type_list_append mt_append (pv 3) (pa_cons pe_str pa_nil)))) pss_nil)
    (pss_one (ps_ret (pe_cmpR op_eq (pe_callB (call_repV gd SB hr.units) (by rfl) T.z_repr (by decide +kernel) (pa_cons (pe_ix ix_tup (pv 6) pe_int (fun _ _ => rfl)) pa_nil)) (pe_callB (call_repV gd SB hr.units) (by rfl) T.z_repr (by decide +kernel) (pa_cons (pe_ix ix_tup (pv 4) pe_int (fun _ _ => rfl)) pa_nil)) (by first | exact nomark _ | rfl))))))))), ?_⟩
    have hd := vr.dq sR
    have hw0 := WebAt.same sR hw
    have hp0 := hp.same sR
    obtain ⟨c1, c2, c3⟩ := vd.sm.rep (by decide) (by decide)
    obtain ⟨c1, c2, c3⟩ := vd.sm.rep (by decide) (by decide)
    obtain ⟨c1, c2, c3⟩ := vd.sm.rep (by decide) (by decide)
    obtain ⟨c1, c2, c3⟩ := vd.sm.rep (by decide) (by decide)
    obtain ⟨c1, c2, c3⟩ := vd.sm.rep (by decide) (by decide)
    obtain ⟨c1, c2, c3⟩ := vd.sm.rep (by decide) (by decide)
    obtain ⟨c1, c2, c3⟩ := vd.sm.rep (by decide) (by decide)
    obtain ⟨c1, c2, c3⟩ := vd.sm.rep (by decide) (by decide)
    obtain ⟨c1, c2, c3⟩ := vd.sm.rep (by decide) (by decide)
    obtain ⟨c1, c2, c3⟩ := vd.sm.rep (by decide) (by decide)
    obtain ⟨c1, c2, c3⟩ := vd.sm.rep (by decide) (by decide)
    obtain ⟨c1, c2, c3⟩ := vd.sm.rep (by decide) (by decide)
    obtain ⟨c1, c2, c3⟩ := vd.sm.rep (by decide) (by decide)
    obtain ⟨c1, c2, c3⟩ := vd.sm.rep (by decide) (by decide)
    obtain ⟨c1, c2, c3⟩ := vd.sm.rep (by decide) (by decide)
    obtain ⟨c1, c2, c3⟩ := vd.sm.rep (by decide) (by decide)
    obtain ⟨c1, c2, c3⟩ := vd.sm.rep (by decide) (by decide)
    rcases verd w vd.word v d ns ts with ⟨tag, u, du, b⟩ | ⟨ns', ts', g⟩
    · refine ⟨_, rfl, _, rfl, _, rfl, due_badV (E := E0) b vd hp0 pk hn hd fun r1 H1 s1 n1 e1 => ?_⟩
      refine ⟨_, rfl, v, d, rfl, Dq.same s1 hd, c1, c2, c3, sz2, fun tp ntp => ?_⟩
      generalize he : upd H1 tp _ = H2
      have s2 : Same H1 H2 := sameE ntp he
      have e2 := upd_at he
      clear he
      refine ⟨tp, _, rfl, SqT.of e2, rfl, _, _, rfl, _, _, rfl, rfl, ?_⟩
      have s02 := s1.trans s2
      refine ⟨_, rfl, _, rfl, _, rfl, told_badV (E := E0) b vd (WebAt.same s02 hw0) pk hn (Dq.same s02 hd) fun r3 H3 s3 n3 e3 => ?_⟩
      have s03 := s02.trans s3
      have f1 := s3 _ _ (s2 _ _ e1)
      refine ⟨_, rfl, r3, _, 0, .str tag, rfl, rfl, SqT.of e3, rfl, _, rfl, r1, _, 0, .str tag, rfl, rfl, SqT.of f1, rfl, rfl, ?_⟩
      rw [str_dec, decide_eq_true rfl]
      refine ⟨_, rfl, iteF ?_⟩
      refine ⟨_, rfl, v, d, rfl, Dq.same s03 hd, c1, c2, c3, _, rfl, rfl, ?_⟩
      rw [str_dec, decide_eq_true rfl]
      refine ⟨_, rfl, iteF ?_⟩
      refine ⟨_, rfl, _, rfl, x, t, n, ns, ts, rfl, WebAt.same s03 hw0, hp0.same s03, pk, hn, fun H4 s4 => ?_⟩
      have s04 := s03.trans s4
      have g1 := s4 _ _ f1
      have g3 := s4 _ _ e3
      refine ⟨_, rfl, iteF ⟨_, rfl, r1, _, 0, .str tag, rfl, rfl, SqT.of g1, rfl, rfl, ?_⟩⟩
      rw [str_dec, decide_eq_false b.tagd.1]
      refine ⟨_, rfl, iteF ?_⟩
      have hd4 := Dq.same s04 hd
      -- the last line
      have fin : ∀ {d' : PyData} {H5 : Hp}, Dq K H5 v d' → Sm 6 30000 d' → FrV v d H4 H5 → H5 r1 = some (.tup [.str tag, u]) → H5 r3 = some (.tup [.str tag, u]) → ∃ du', Dq K H5 u du' ∧ Sm 6 30000 du' := fun {d' H5} k1 k2 _ _ _ => by
        rcases b.is with ⟨⟨rfl, rfl⟩, _⟩ | ⟨⟨i, rfl, rfl⟩, _⟩
        · exact ⟨d', k1, k2⟩
        · exact ⟨_, .int _, b.sm vd⟩
      refine ⟨_, rfl, v, d, "list", _, rfl, hd4, kit_isL d, _, rfl, ?_⟩
      cases il : isL d with
      | false =>
        refine iteF (iteF ?_)
        obtain ⟨du', q1, q2⟩ := fin hd4 vd.sm (.of (.refl _)) g1 g3
        obtain ⟨a1, a2, a3⟩ := q2.rep (by decide) (by decide)
        refine ⟨_, rfl, r3, _, 1, u, rfl, rfl, SqT.of g3, rfl, u, du', rfl, q1, a1, a2, a3, _, rfl, r1, _, 1, u, rfl, rfl, SqT.of g1, rfl, u, du', rfl, q1, a1, a2, a3, rfl, ?_⟩
        rw [str_dec, decide_eq_true rfl]
        exact k H4 (.of s04)
      | true =>
        refine iteT ?_
        refine ⟨_, rfl, r1, _, 0, .str tag, rfl, rfl, SqT.of g1, rfl, rfl, ?_⟩
        rw [str_dec]
        rcases vr with ⟨a, xs, ds, rfl, rfl, ha, na, hda⟩ | ⟨no, _⟩
        case inr =>
          cases d with
          | list ds => exact absurd rfl (no ds)
          | _ => exact absurd il Bool.false_ne_true
        have vr : VR K R H (.ref a) (.list ds) := .inl ⟨a, xs, ds, rfl, rfl, ha, na, hda⟩
        have ha4 := s04 _ _ ha
        have xl : xs.length = ds.length := dqAll_len hda
        by_cases ct : tag = "tie"
        · rw [decide_eq_true ct]
          refine ⟨_, rfl, iteF ?_⟩
          obtain ⟨du', q1, q2⟩ := fin hd4 vd.sm (.of (.refl _)) g1 g3
          obtain ⟨a1, a2, a3⟩ := q2.rep (by decide) (by decide)
          refine ⟨_, rfl, r3, _, 1, u, rfl, rfl, SqT.of g3, rfl, u, du', rfl, q1, a1, a2, a3, _, rfl, r1, _, 1, u, rfl, rfl, SqT.of g1, rfl, u, du', rfl, q1, a1, a2, a3, rfl, ?_⟩
          rw [str_dec, decide_eq_true rfl]
          exact k H4 (.of s04)
        · rw [decide_eq_false ct]
          refine ⟨_, rfl, iteT ⟨_, rfl, .inl ⟨rfl, _, SqL.of ha4⟩, a, xs, _, rfl, rfl, ha4, by have := vd.lst ds rfl; rw [sizeLine_eq]; omega, ?_⟩⟩
          generalize he : upd H4 a _ = H5
          have f45 : FrV (.ref a) (.list ds) H4 H5 := fun b o nb e => by
            rw [← he]
            refine (upd_ne fun z => ?_).trans e
            subst z
            rcases nb with z | z
            · exact z rfl
            · cases z
          have e5 := upd_at he
          clear he
          have n1a : V.ref r1 ≠ .ref a := fun z => by cases z; rw [ha] at n1; cases n1
          have n3a : V.ref r3 ≠ .ref a := fun z => by cases z; rw [s02 _ _ ha] at n3; cases n3
          have j1 := f45 _ _ (.inl n1a) g1
          have j3 := f45 _ _ (.inl n3a) g3
          have f05 : FrV (.ref a) (.list ds) H H5 := fun b o nb e => f45 b o nb (s04 _ _ e)
          have hd5 : Dq K H5 (.ref a) (.list (ds ++ [.str "more"])) := .lst (SqL.of e5) (dqAll_app (DqAll.same (f05.sub vr sR) hda) (.cons (.str _) .nil))
          obtain ⟨du', q1, q2⟩ := fin hd5 (vd.more ds rfl) f45 j1 j3
          obtain ⟨a1, a2, a3⟩ := q2.rep (by decide) (by decide)
          refine ⟨_, rfl, r3, _, 1, u, rfl, rfl, SqT.of j3, rfl, u, du', rfl, q1, a1, a2, a3, _, rfl, r1, _, 1, u, rfl, rfl, SqT.of j1, rfl, u, du', rfl, q1, a1, a2, a3, rfl, ?_⟩
          rw [str_dec, decide_eq_true rfl]
          exact k H5 f05
    · obtain ⟨pk', sub, le', leW⟩ := g.ok vd pk
      refine ⟨_, rfl, _, rfl, _, rfl, due_goodV (E := E0) g vd hp0 pk hn hd fun r1 p H1 s1 n1 e1 pl1 => ?_⟩
      refine ⟨_, rfl, v, d, rfl, Dq.same s1 hd, c1, c2, c3, sz2, fun tp ntp => ?_⟩
      generalize he : upd H1 tp _ = H2
      have s2 : Same H1 H2 := sameE ntp he
      have e2 := upd_at he
      clear he
      refine ⟨tp, _, rfl, SqT.of e2, rfl, _, _, rfl, _, _, rfl, rfl, ?_⟩
      have s02 := s1.trans s2
      refine ⟨_, rfl, _, rfl, _, rfl, told_goodV (E := E0) g vd (WebAt.same s02 hw0) pk hn (Dq.same s02 hd) fun r3 y H3 s3 n3 ny e3 hy => ?_⟩
      have s03 := s02.trans s3
      have f1 := s3 _ _ (s2 _ _ e1)
      refine ⟨_, rfl, r3, _, 0, .str "made", rfl, rfl, SqT.of e3, rfl, _, rfl, r1, _, 0, .str "made", rfl, rfl, SqT.of f1, rfl, rfl, ?_⟩
      rw [str_dec, decide_eq_true rfl]
      refine ⟨_, rfl, iteF ?_⟩
      refine ⟨_, rfl, v, d, rfl, Dq.same s03 hd, c1, c2, c3, _, rfl, rfl, ?_⟩
      rw [str_dec, decide_eq_true rfl]
      refine ⟨_, rfl, iteF ?_⟩
      refine ⟨_, rfl, _, rfl, x, t, n, ns, ts, rfl, WebAt.same s03 hw0, hp0.same s03, pk, hn, fun H4 s4 => ?_⟩
      have s04 := s03.trans s4
      have g1 := s4 _ _ f1
      have g3 := s4 _ _ e3
      refine ⟨_, rfl, iteF ⟨_, rfl, r1, _, 0, .str "made", rfl, rfl, SqT.of g1, rfl, rfl, ?_⟩⟩
      rw [str_dec, decide_eq_true rfl]
      refine ⟨_, rfl, iteT ?_⟩
      have hy4 : WebAt K C H4 y ns' ts' := WebAt.same (noLst_sub.trans s4) hy
      have pl4 : PlanAt K H4 p ns' ts' := pl1.same (s2.trans (s3.trans s4))
      obtain ⟨tn, tt, xs, h1, h2, h3, h4⟩ := hp0.same s04
      obtain ⟨tn', tt', xs', h1', h2', h3', h4'⟩ := id pl4
      refine ⟨_, rfl, t, _, 0, .ref tn, rfl, rfl, h1, rfl, tn, ns.map V.str, rfl, .inr h2, ?_⟩
      intro J G ex hG wk L nL
      have lvL := (Lv.zero H4).al (o := .lst []) nL
      refine lc_it wk (fun i H' => Hold (Lv H4 [] H' [(L, .lst ((lessN (ns.take i) ns').map V.str))])) ⟨lvL⟩ (fun i H' _ ⟨z⟩ => hG H' (SqKeep.of (.inr h2) (.refl _) z.sm ex)) ?_ ?_
      · rintro i x H5 H6 hi ⟨lv⟩ ⟨rfl, hxi⟩
        obtain ⟨q, hq, rfl⟩ := str_at hxi
        have tk : ns.take (i + 1) = ns.take i ++ [q] := take_next2 hq
        have i7 := (List.getElem?_eq_some_iff.mp hq).1
        have nl : ns.length ≤ 12 := Nat.le_trans pk.most hn
        refine ⟨rfl, _, rfl, _, rfl, r1, _, 1, .ref p, rfl, rfl, SqT.of (lv.sm _ _ g1), rfl, p, _, 0, .ref tn', rfl, rfl, same_t lv.sm h1', rfl, tn', ns'.map V.str, rfl, .inr (same_t lv.sm h2'), rfl, flat_strs _, _, rfl, ?_⟩
        rw [if_pos rfl, in_strs]
        unfold lessN at lv ⊢
        refine ite2 (fun c => ?_) (fun c => ?_)
        · refine ⟨_, rfl, _, lv.get 0 rfl, ?_, ?_⟩
          · have h1 := List.length_filter_le (fun p => !decide (p ∈ ns')) (ns.take i)
            have h2 := List.length_take_le i ns
            rw [List.length_map, sizeLine_eq]
            omega
          · rw [tk, List.filter_append, List.map_append, show [q].filter (fun p => !decide (p ∈ ns')) = [q] by simp only [List.filter]; rw [c]]
            exact ⟨lv.stE 0 rfl rfl⟩
        · rw [tk, List.filter_append, show [q].filter (fun p => !decide (p ∈ ns')) = [] by simp only [List.filter]; rw [show (!decide (q ∈ ns')) = false by simpa using c], List.append_nil]
          exact ⟨lv⟩
      · rintro H5 ⟨lv⟩
        rw [List.length_map, List.take_length] at lv
        generalize hgo : lessN ns ns' = gone at lv
        have gin : ∀ q ∈ gone, q ∉ ns' ∧ okName q = true := fun q hq => by
          rw [← hgo] at hq
          obtain ⟨m1, m2⟩ := List.mem_filter.mp hq
          exact ⟨by simpa using m2, pk.nm q m1⟩
        have l5 := lv.get 0 rfl
        refine ⟨_, rfl, L, gone.map V.str, rfl, .inl (SqL.of l5), ?_⟩
        intro J2 G2 ex2 hG2 wk2 L2 nL2
        have lv0 := (Lv.zero H5).al (o := .lst []) nL2
        have s5 := lv.sm
        refine lc_it wk2 (fun i H' => Hold (Lv H5 [] H' [(L2, .lst [])])) ⟨lv0⟩ (fun i H' _ ⟨z⟩ => hG2 H' (.same z.sm)) ?_ ?_
        · rintro i x H6 H7 hi ⟨lv6⟩ ⟨rfl, hxi⟩
          obtain ⟨q, hq, rfl⟩ := str_at hxi
          obtain ⟨nq, oq⟩ := gin q (List.mem_of_getElem? hq)
          have s6 := s5.trans lv6.sm
          have hy6 := WebAt.same s6 hy4
          refine ⟨rfl, _, rfl, r3, _, 1, .ref y, rfl, rfl, SqT.of (s6 _ _ g3), rfl, _, rfl, ?_⟩
          refine ⟨y, "sees", .str q, rfl, .inl ⟨rfl, ns', ts', .str q, hy6, .str q, fun p e hp => (by cases e; exact absurd hp nq), fun _ r8 H8 s8 n8 e8 => ⟨_, rfl, sz2, fun r9 n9 => ?_⟩⟩⟩
          generalize he : upd H8 r9 _ = H9
          have s9 : Same H8 H9 := sameE n9 he
          have e9 := upd_at he
          clear he
          have ok : okTie (("place" : Str), q) := ⟨by show okName "place" = true; decide +kernel, oq⟩
          refine ⟨tieDat ("place", q), tieDat ("place", q), .tup (SqT.of (s9 _ _ e8)) (.cons (.str _) (.cons (.str _) .nil)), .tup (SqT.of e9) (.cons (.str _) (.cons (.str _) .nil)), shaped_tie ok, shaped_tie ok, ?_⟩
          rw [eqv_refl' (shaped_tie ok)]
          exact ⟨_, rfl, iteF ⟨lv6.same (s8.trans s9)⟩⟩
        · rintro H6 ⟨lv6⟩
          refine ⟨sz0, fun l2 n2 => ?_⟩
          wide_line with alx lv6 n2 H7 lv7 s7
          refine ⟨_, _, _, rfl, rfl, SqL.of (lv7.get 1 rfl), SqL.of (lv7.get 0 rfl), ?_⟩
          rw [if_pos rfl]
          have s47 : Same H4 H7 := s5.trans (lv6.sm.trans s7)
          have s07 := s04.trans s47
          have hy7 := WebAt.same s47 hy4
          have pl7 := pl4.same s47
          have m1 := s47 _ _ g1
          have m3 := s47 _ _ g3
          have hd7 := Dq.same s07 hd
          have R3 : Same (noLst H2 H3) H7 := noLst_sub.trans (s4.trans s47)
          refine ⟨_, rfl, iteF ?_⟩
          have vd' : ValD w ts'.length d := ⟨vd.word, vd.sm, vd.more, vd.lst, fun e ds z => ⟨(vd.tie e ds z).1, by have := more e ds z; rw [z] at le'; have : ts'.length ≤ ts.length + ds.length := le'; omega⟩⟩
          refine ⟨_, rfl, r1, _, 1, .ref p, rfl, rfl, SqT.of m1, rfl, _, rfl, _, rfl, due_any (E := E0) vd' pl7 pk' hn hd7 fun tg u4 r4 H8 s8 n8 e8 l4 => ?_⟩
          refine ⟨_, rfl, r3, _, 1, .ref y, rfl, rfl, SqT.of (s8 _ _ m3), rfl, _, rfl, _, rfl, told_any (E := E0) l4 vd' (WebAt.same s8 hy7) pk' hn (Dq.same s8 hd7) fun u5 r5 H9 s9 n9 e9 l5 => ?_⟩
          have e4 := s9 _ _ e8
          refine join_at (P := fun G => Same H9 G) ?_ fun H10 s10 => ?_
          · refine ⟨_, rfl, r4, _, 0, .str tg, rfl, rfl, SqT.of e4, rfl, _, rfl, r5, _, 0, .str tg, rfl, rfl, SqT.of e9, rfl, rfl, ?_⟩
            rw [str_dec, decide_eq_true rfl]
            refine ⟨_, rfl, iteF ⟨_, rfl, r4, _, 0, .str tg, rfl, rfl, SqT.of e4, rfl, rfl, ?_⟩⟩
            rw [str_dec]
            rcases l5 with ⟨⟨du, b2⟩, rfl⟩ | ⟨rfl, q, y2, ns2, ts2, rfl, rfl, g2, q2, w2⟩
            · rw [decide_eq_false b2.tagd.1]
              exact ⟨_, rfl, iteF (iteF ⟨rfl, .refl _⟩)⟩
            · rw [decide_eq_true rfl]
              obtain ⟨pk2, _⟩ := g2.ok vd' pk'
              refine ⟨_, rfl, iteT ⟨_, rfl, r5, _, 1, .ref y2, rfl, rfl, SqT.of e9, rfl, _, rfl, r4, _, 1, .ref q, rfl, rfl, SqT.of e4, rfl, y2, q, n, ns2, ts2, rfl, w2, q2.same s9, pk2, hn, fun H10 s10 => ⟨_, rfl, iteF ⟨rfl, s10⟩⟩⟩⟩
          have f4 := s10 _ _ e4
          have f5 := s10 _ _ e9
          have s710 := s8.trans (s9.trans s10)
          have hd10 := Dq.same s710 hd7
          refine join_at (P := fun G => Same H10 G) ?_ fun H11 s11 => ?_
          · refine ⟨_, rfl, r4, _, 0, .str tg, rfl, rfl, SqT.of f4, rfl, rfl, ?_⟩
            rw [str_dec]
            rcases l5 with ⟨⟨du, b2⟩, rfl⟩ | ⟨rfl, _⟩
            · rw [decide_eq_false b2.tagd.1]
              refine ⟨_, rfl, iteT ?_⟩
              have bd := b2.dq hd10
              obtain ⟨a1, a2, a3⟩ := (Sm.two b2.tagd.2 (b2.sm vd')).2.rep (by decide) (by decide)
              refine ⟨_, rfl, .ref r4, .tuple [.str tg, du], rfl, .tup (SqT.of f4) (.cons (.str _) (.cons bd .nil)), a1, a2, a3, _, rfl, .ref r5, .tuple [.str tg, du], rfl, .tup (SqT.of f5) (.cons (.str _) (.cons bd .nil)), a1, a2, a3, rfl, ?_⟩
              rw [str_dec, decide_eq_true rfl]
              exact ⟨_, rfl, iteF ⟨rfl, .refl _⟩⟩
            · rw [decide_eq_true rfl]
              exact ⟨_, rfl, iteF (iteF ⟨rfl, .refl _⟩)⟩
          have s711 := s710.trans s11
          have s011 := s07.trans s711
          have hd11 := Dq.same s711 hd7
          refine join_at (P := fun G => FrV v d H11 G) ?_ fun H12 f12 => ?_
          · refine ⟨_, rfl, v, d, "list", _, rfl, hd11, kit_isL d, _, rfl, ?_⟩
            cases il : isL d with
            | false => exact iteF ⟨rfl, .of (.refl _)⟩
            | true =>
              obtain ⟨a, ys, rfl, ha, na⟩ := vr.lst il
              have ha11 := s011 _ _ ha
              refine iteT ⟨_, rfl, .inl ⟨rfl, _, SqL.of ha11⟩, a, ys, rfl, rfl, ha11, rfl, fun b o nb e => (upd_ne fun z => ?_).trans e⟩
              subst z
              rcases nb with z | z
              · exact z rfl
              · rw [il] at z; cases z
          have vr11 : VR K R H11 v d := vr.same s011
          have R12 : Same (noLst H2 H3) H12 := fun b o e => f12 b o (by
            cases il : isL d with
            | false => exact .inr rfl
            | true =>
              obtain ⟨a, ys, rfl, ha, na⟩ := vr.lst il
              refine .inl fun z => ?_
              cases z
              unfold noLst at e
              rw [s02 _ _ ha] at e
              cases e) (s711 _ _ (R3 b o e))
          have hy12 := WebAt.same R12 hy
          have pl12 := planAt_frame vr11 f12 (pl7.same s711)
          have t1 : SqT K H12 r1 _ := sqT_frame vr11 f12 (SqT.of (s711 _ _ m1))
          have t3 : SqT K H12 r3 _ := sqT_frame vr11 f12 (SqT.of (s711 _ _ m3))
          have f012 : FrV v d H H12 := fun b o nb e => f12 b o nb (s011 _ _ e)
          obtain ⟨un, ut, us, u1, u2, u3, u4'⟩ := id pl12
          refine ⟨_, rfl, r1, _, 1, .ref p, rfl, rfl, t1, rfl, p, _, 0, .ref un, rfl, rfl, u1, rfl, ?_⟩
          obtain ⟨q0, qs, eq0⟩ : ∃ q0 qs, ns' = q0 :: qs := by
            cases ns' with
            | nil => exact absurd pk'.one (by decide)
            | cons a b => exact ⟨a, b, rfl⟩
          have u2q : SqT K H12 un (.str q0 :: qs.map V.str) := by rw [eq0] at u2; exact u2
          refine ⟨1, rfl, sl_first u2q fun fp H13 s13 hfp => ⟨fp, [.str q0], rfl, .inr hfp, fun fl nfl => ?_⟩⟩
          generalize he : upd H13 fl _ = H14
          have s14 : Same H13 H14 := sameE nfl he
          have e14 := upd_at he
          clear he
          have sc := s13.trans s14
          have t1c := same_t sc t1
          have t3c := same_t sc t3
          have u1c := same_t sc u1
          have u2c := same_t sc u2
          have plc := pl12.same sc
          have hyc := WebAt.same sc hy12
          have f014 : FrV v d H H14 := fun b o nb e => sc _ _ (f012 b o nb e)
          refine ⟨_, rfl, r1, _, 1, .ref p, rfl, rfl, t1c, rfl, p, _, 0, .ref un, rfl, rfl, u1c, rfl, un, ns'.map V.str, rfl, .inr u2c, ?_⟩
          refine ⟨_, _, rfl, rfl, _, rfl, ?_⟩
          by_cases c : (1 : Int) < ((ns'.map V.str).length : Nat)
          case neg =>
            rw [decide_eq_false c]
            refine iteF (iteF ⟨_, rfl, r3, _, 1, .ref y, rfl, rfl, t3c, rfl, _, rfl, r1, _, 1, .ref p, rfl, rfl, t1c, rfl, y, p, n, ns', ts', rfl, hyc, plc, pk', hn, fun H18 s18 => k H18 fun b o nb e => s18 _ _ (f014 b o nb e)⟩)
          rw [decide_eq_true c]
          rw [List.length_map] at c
          have l1 : [q0].length ≠ ns'.length := by rw [List.length_singleton]; omega
          have gi : ∀ q ∈ [q0], q ∈ ns' := fun q hq => by rw [List.mem_singleton.mp hq, eq0]; exact List.mem_cons_self
          have spr : spareOf ns' (.list [.str q0]) = true := by
            unfold spareOf placesIn
            simp only [Bool.and_eq_true, decide_eq_true_eq, Bool.not_eq_true', decide_eq_false_iff_not]
            refine ⟨⟨?_, by simp [strsD]⟩, l1⟩
            rw [List.all_cons, List.all_nil, Bool.and_true]
            exact amid_str.mpr (gi q0 (List.mem_singleton.mpr rfl))
          have pk3 := less_ok pk' (g := [q0]) (by simp) gi l1
          obtain ⟨dx, fs, hx, _, _, _, no⟩ := webNo hyc
          refine iteT ⟨_, rfl, r3, _, 1, .ref y, rfl, rfl, t3c, rfl, y, dx, fs, rfl, hx, no, _, rfl, y, .ref fl, n, ns', ts', .list [.str q0], rfl, hyc, pk', hn, .lst (SqL.of e14) (.cons (.str _) .nil), fun ds e => (by cases e; rw [List.length_singleton]; omega), fun z => (by rw [spr] at z; cases z), fun ds e _ z H15 s15 nz hz => ?_⟩
          cases e
          refine ⟨_, rfl, r1, _, 1, .ref p, rfl, rfl, same_t s15 t1c, rfl, _, rfl, p, fl, n, ns', ts', [q0], rfl, plc.same s15, pk', hn, SqL.of (s15 _ _ e14), fun t5 H16 s16 n16 pl16 => ?_⟩
          refine ⟨t5, n, _, _, rfl, pl16, pk3, hn, fun z2 H17 s17 nz2 hz2 => ?_⟩
          have sf := s15.trans (s16.trans s17)
          refine ⟨z, z2, _, _, _, _, rfl, rfl, WebAt.same (noLst_sub.trans (s16.trans s17)) hz, WebAt.same noLst_sub hz2, pk3.good, pk3.good, _, rfl, ?_⟩
          rw [show strsD [.str q0] = [q0] from rfl, eqW_self pk3.good, if_pos rfl]
          refine iteF ⟨_, rfl, r3, _, 1, .ref y, rfl, rfl, same_t sf t3c, rfl, _, rfl, r1, _, 1, .ref p, rfl, rfl, same_t sf t1c, rfl, y, p, n, ns', ts', rfl, WebAt.same sf hyc, plc.same sf, pk', hn, fun H18 s18 => k H18 fun b o nb e => s18 _ _ (sf _ _ (f014 b o nb e))⟩
end
end Pw

set_option Elab.async false
set_option linter.all false
set_option maxRecDepth 100000
set_option maxHeartbeats 4000000
namespace Pw
open PySem PySem.Spec PyProof.Rows L2 Ct
local macro_rules | `(tactic| wide_line) => `(tactic| repeat ((fail_if_success (with_reducible refine at_while ?_)); (fail_if_success (with_reducible refine at_while1 ?_)); (conv => whnf); first | ((with_reducible refine And.intro ?_ ?_); focus (first | (first | ((with_reducible show (_ : Nat) ≤ _); first | exact sz0 | exact sz1 | exact sz2 | exact sz3 | exact sz4 | exact sz5 | exact sz6 | exact sz7 | exact sz8 | exact sz10 | exact sz11 | exact sz12 | exact sz14 | omega | decide | (simp only [List.length_cons, List.length_nil]; omega)) | ((with_reducible show (_ : Int) ≤ _); first | omega | decide) | ((with_reducible show (_ : Int) < _); first | omega | decide) | ((with_reducible show (_ : Nat) < _); omega)) | ((fail_if_success (with_reducible show (_ : Nat) ≤ _)); (fail_if_success (with_reducible show (_ : Int) ≤ _)); (fail_if_success (with_reducible show (_ : Int) < _)); (fail_if_success (with_reducible show (_ : Nat) < _)); first | exact kv_str _ | exact kv_int _ | rfl | assumption | exact flat_strs _ | exact Lv.get (by assumption) 0 rfl | exact Lv.get (by assumption) 1 rfl | exact Lv.get (by assumption) 2 rfl | exact Lv.get (by assumption) 3 rfl | exact Lv.get (by assumption) 4 rfl | exact Lv.get (by assumption) 5 rfl | exact Lv.get (by assumption) 6 rfl | exact SqL.of (Lv.get (by assumption) 0 rfl) | exact SqL.of (Lv.get (by assumption) 1 rfl) | exact SqL.of (Lv.get (by assumption) 2 rfl) | exact SqL.of (Lv.get (by assumption) 3 rfl) | exact SqL.of (Lv.get (by assumption) 4 rfl) | exact SqL.of (Lv.get (by assumption) 5 rfl) | exact Or.inl (SqL.of (Lv.get (by assumption) 0 rfl)) | exact Or.inl (SqL.of (Lv.get (by assumption) 1 rfl)) | exact Or.inl (SqL.of (Lv.get (by assumption) 2 rfl)) | exact Or.inl (SqL.of (Lv.get (by assumption) 3 rfl)) | exact Or.inl (SqL.of (Lv.get (by assumption) 4 rfl)) | exact Or.inl (SqL.of (Lv.get (by assumption) 5 rfl)) | exact ⟨_, SqL.of (Lv.get (by assumption) 0 rfl)⟩ | exact ⟨_, SqL.of (Lv.get (by assumption) 1 rfl)⟩ | exact ⟨_, SqL.of (Lv.get (by assumption) 2 rfl)⟩ | exact ⟨_, SqL.of (Lv.get (by assumption) 3 rfl)⟩ | exact ⟨_, SqL.of (Lv.get (by assumption) 4 rfl)⟩ | exact ⟨_, SqL.of (Lv.get (by assumption) 5 rfl)⟩ | exact Or.inl ⟨_, SqL.of (Lv.get (by assumption) 0 rfl), rfl⟩ | exact Or.inl ⟨_, SqL.of (Lv.get (by assumption) 1 rfl), rfl⟩ | exact Or.inl ⟨_, SqL.of (Lv.get (by assumption) 2 rfl), rfl⟩ | exact Or.inl ⟨_, SqL.of (Lv.get (by assumption) 3 rfl), rfl⟩ | exact Or.inl ⟨_, SqL.of (Lv.get (by assumption) 4 rfl), rfl⟩ | exact Or.inl ⟨_, SqL.of (Lv.get (by assumption) 5 rfl), rfl⟩ | exact Or.inl ⟨rfl, _, SqL.of (Lv.get (by assumption) 0 rfl)⟩ | exact Or.inl ⟨rfl, _, SqL.of (Lv.get (by assumption) 1 rfl)⟩ | exact Or.inl ⟨rfl, _, SqL.of (Lv.get (by assumption) 2 rfl)⟩ | exact Or.inl ⟨rfl, _, SqL.of (Lv.get (by assumption) 3 rfl)⟩ | exact Or.inl ⟨rfl, _, SqL.of (Lv.get (by assumption) 4 rfl)⟩ | exact Or.inl ⟨rfl, _, SqL.of (Lv.get (by assumption) 5 rfl)⟩ | exact Or.inr (SqT.of (Lv.get (by assumption) 0 rfl)) | exact Or.inr (SqT.of (Lv.get (by assumption) 1 rfl)) | exact Or.inr (SqT.of (Lv.get (by assumption) 2 rfl)) | exact Or.inr (SqT.of (Lv.get (by assumption) 3 rfl)) | exact SqT.of (Lv.get (by assumption) 0 rfl) | exact SqT.of (Lv.get (by assumption) 1 rfl) | exact SqT.of (Lv.get (by assumption) 2 rfl) | exact dgetN (Lv.get (by assumption) 0 rfl) (by assumption) | exact dgetN (Lv.get (by assumption) 1 rfl) (by assumption) | exact dgetN (Lv.get (by assumption) 2 rfl) (by assumption) | exact dgetN (Lv.get (by assumption) 3 rfl) (by assumption) | exact dgetN (Lv.get (by assumption) 4 rfl) (by assumption) | exact Or.inl (by assumption) | exact Or.inr (by assumption) | decide | ((with_reducible show _ ∧ _); omega)))) | ((fail_if_success (with_reducible apply @Exists.intro (Nat → _))); (with_reducible apply Exists.intro))))
local macro_rules
  | `(tactic| wide_line with al $lv:ident $l:ident $nl:ident $H:ident $lv1:ident $s1:ident) => `(tactic| (intro $l:ident $nl:ident; generalize he : upd _ _ _ = $H:ident; have $lv1:ident := Lv.alE $lv $nl he; have $s1:ident := sameE $nl he; clear he; (try dsimp only at $lv1:ident)))
  | `(tactic| wide_line with alx $lv:ident $nl:ident $H:ident $lv1:ident $s1:ident) => `(tactic| (generalize he : upd _ _ _ = $H:ident; have $lv1:ident := Lv.alE $lv $nl he; have $s1:ident := sameE $nl he; clear he; (try dsimp only at $lv1:ident)))
  | `(tactic| wide_line with sts $lv:ident $i:num $H:ident $lv1:ident $s0:ident $np:ident $s1:ident) => `(tactic| (generalize he : upd _ _ _ = $H:ident; have $lv1:ident := Lv.stE $lv $i rfl he; have $s1:ident := sameN $s0 $np he; clear he; (try dsimp only at $lv1:ident)))
  | `(tactic| wide_line with stx $lv:ident $H:ident $lv1:ident $d1:ident) => `(tactic| (generalize he : upd _ _ _ = $H:ident; have $lv1:ident := Lv.stE $lv 0 rfl he; have $d1:ident := SameD.storeE (Lv.get $lv 0 rfl) he; clear he; (try dsimp only at $lv1:ident)))
  | `(tactic| wide_line with st $lv:ident $i:num $H:ident $lv1:ident) => `(tactic| (generalize he : upd _ _ _ = $H:ident; have $lv1:ident := Lv.stE $lv $i rfl he; clear he; (try dsimp only at $lv1:ident)))
  | `(tactic| wide_line with stk $lv:ident $i:num $H:ident $lv1:ident $k1:ident) => `(tactic| (generalize he : upd _ _ _ = $H:ident; have $lv1:ident := Lv.stE $lv $i rfl he; have $k1:ident := KeepT.st (Lv.get $lv $i rfl) he; clear he; (try dsimp only at $lv1:ident)))
/-- a plan of this law's own making -/
def PlanD (H : Hp) (t : Addr) (ns : List Str) (ts : List (Str × Str)) : Prop := ∃ tn tt xs, H t = some (.tup [.ref tn, .ref tt]) ∧ H tn = some (.tup (ns.map V.str)) ∧ H tt = some (.tup xs) ∧ TiesT H xs ts
theorem tiesT_at {K : PySem.W.Frag} {H : Hp} : ∀ {xs : List V} {ts : List (Str × Str)}, TiesT H xs ts → TiesAt K H xs ts
  | _, _, .nil => .nil
  | _, _, .cons ⟨a, e, h⟩ t => .cons ⟨a, e, SqT.of h⟩ (tiesT_at t)
theorem PlanD.at {K : PySem.W.Frag} {H : Hp} {t : Addr} {ns : List Str} {ts : List (Str × Str)} : PlanD H t ns ts → PlanAt K H t ns ts
  | ⟨tn, tt, xs, h1, h2, h3, h4⟩ => ⟨tn, tt, xs, SqT.of h1, SqT.of h2, SqT.of h3, tiesT_at h4⟩
theorem PlanD.keep {H H' : Hp} {t : Addr} {ns : List Str} {ts : List (Str × Str)} (kt : KeepT H H') : PlanD H t ns ts → PlanD H' t ns ts
  | ⟨tn, tt, xs, h1, h2, h3, h4⟩ => ⟨tn, tt, xs, kt _ _ h1, kt _ _ h2, kt _ _ h3, h4.keep kt⟩
theorem paired_take {α β : Type} {R : α → β → Prop} : ∀ (i : Nat) {xs : List α} {ps : List β}, Paired R xs ps → Paired R (xs.take i) (ps.take i)
  | 0, _, _, _ => by rw [List.take_zero, List.take_zero]; exact .nil
  | i + 1, _, _, .nil => by rw [List.take_nil, List.take_nil]; exact .nil
  | i + 1, _, _, .cons a t => by rw [List.take_succ_cons, List.take_succ_cons]; exact .cons a (paired_take i t)
/-- a fitting value to put in -/
structure TiesV (ds : List PyData) : Prop where
  few : ds.length ≤ 4
  fit : ∀ e ∈ ds, Fit e
/-- H' without the source and the list -/
def offH (H : Hp) (p a : Addr) : Hp := fun b => if b = p ∨ b = a then none else H b
theorem offH_sub {H : Hp} {p a : Addr} : Same (offH H p a) H := fun b o e => by
  unfold offH at e
  split at e
  · cases e
  · exact e
theorem offH_at {H : Hp} {p a b : Addr} (n1 : b ≠ p) (n2 : b ≠ a) : offH H p a b = H b := if_neg fun z => z.elim n1 n2
theorem offH_up {R H : Hp} {p a : Addr} (s : Same R H) (n1 : R p = none) (n2 : R a = none) : Same R (offH H p a) := fun b o e => by
  rw [offH_at (fun z => by rw [z, n1] at e; cases e) (fun z => by rw [z, n2] at e; cases e)]
  exact s b o e
theorem offH_mono {H H' : Hp} {p a : Addr} (f : ∀ b o, b ≠ p → b ≠ a → H b = some o → H' b = some o) : Same (offH H p a) (offH H' p a) := fun b o e => by
  unfold offH at e ⊢
  split at e
  · cases e
  · rename_i n
    rw [if_neg n]
    exact f b o (fun z => n (.inl z)) (fun z => n (.inr z)) e
theorem ties_off {K : PySem.W.Frag} {H : Hp} {p a : Addr} {zs ys : List V} (hp : H p = some (.lst zs)) (ha : H a = some (.lst ys)) : ∀ {xs : List V} {us : List (Str × Str)}, TiesT H xs us → DqAll K (offH H p a) xs (us.map tieDat)
  | _, _, .nil => .nil
  | _, _, .cons ⟨b, e, h⟩ t => by
    refine .cons ?_ (ties_off hp ha t)
    subst e
    refine .tup (SqT.of ((offH_at ?_ ?_).trans h)) (.cons (.str _) (.cons (.str _) .nil))
    · intro z; subst z; rw [hp] at h; cases h
    · intro z; subst z; rw [ha] at h; cases h
theorem at_last {xs : List V} {v : V} (h : xs[xs.length - 1]? = some v) (l : 1 ≤ xs.length) : atI xs (-1) = some v := by
  unfold atI ixN
  rw [if_neg (by decide), if_pos (by omega)]
  have e : ((-1 : Int) + (xs.length : Nat)).toNat = xs.length - 1 := by omega
  show xs[((-1 : Int) + (xs.length : Nat)).toNat]? = some v
  rw [e]
  exact h
theorem sm_pair {x y : Str} (hx : okName x = true) (hy : okName y = true) : Sm 1 172 (.tuple [.str x, .str y]) := by
  have h := Sm.tuple (k := 0) (m := 82) (n := 2) (ds := [.str x, .str y]) (fun d hd => ?_) (Nat.le_refl 2)
  · exact h
  · rcases List.mem_cons.mp hd with z | z
    · rw [z]; exact Sm.str (small_name hx) (name_len hx)
    · rw [List.mem_singleton.mp z]; exact Sm.str (small_name hy) (name_len hy)
theorem sm_txt {x : Str} (h : okName x = true) : Sm 1 100 (.str x) := (Sm.str (small_name h) (name_len h)).mono (by decide) (by decide)
theorem sm_none : Sm 1 100 .none := by unfold Sm; decide +kernel
theorem sm_five : Sm 1 100 (.int 5) := by unfold Sm; decide +kernel
theorem sm_zzz : Sm 1 100 (.str "zzz") := by unfold Sm; decide +kernel
theorem fit_tup {ds : List PyData} (h : ∀ d ∈ ds, Sm 1 100 d) (l : ds.length ≤ 3) (t : plainTie (.tuple ds)) : Fit (.tuple ds) := ⟨(Sm.tuple h l).mono (by decide) (by decide), t, fun _ z => nomatch z⟩
theorem fit_lst {ds : List PyData} (h : ∀ d ∈ ds, Sm 1 100 d) (l : ds.length ≤ 3) : Fit (.list ds) := ⟨(Sm.list h l).mono (by decide) (by decide), trivial, fun _ z => nomatch z⟩
theorem fit_tie {u : Str × Str} (h : okTie u) : Fit (tieDat u) := ⟨(sm_pair h.1 h.2).mono (by decide) (by decide), ⟨rfl, rfl⟩, fun _ z => nomatch z⟩
theorem dqAll_take {K : PySem.W.Frag} {H : Hp} : ∀ {xs : List V} {ds : List PyData} (i : Nat), DqAll K H xs ds → DqAll K H (xs.take i) (ds.take i)
  | _, _, 0, _ => by rw [List.take_zero, List.take_zero]; exact .nil
  | _, _, i + 1, .nil => by rw [List.take_nil, List.take_nil]; exact .nil
  | _, _, i + 1, .cons a t => by rw [List.take_succ_cons, List.take_succ_cons]; exact .cons a (dqAll_take i t)
theorem dqAll_drop {K : PySem.W.Frag} {H : Hp} : ∀ {xs : List V} {ds : List PyData} (i : Nat), DqAll K H xs ds → DqAll K H (xs.drop i) (ds.drop i)
  | _, _, 0, h => h
  | _, _, i + 1, .nil => by rw [List.drop_nil, List.drop_nil]; exact .nil
  | _, _, i + 1, .cons a t => by rw [List.drop_succ_cons, List.drop_succ_cons]; exact dqAll_drop i t
def spTiesFor (K : PySem.W.Frag) : Sp := fun vs H Q _ => ∃ (p t : Addr) (r m : Int) (n : Nat) (ns : List Str) (ts : List (Str × Str)), vs = [.ref p, .ref t] ∧ H p = some (.lst [.int r, .int m]) ∧ SrcOk r m ∧ PlanD H t ns ts ∧ PlanOk n ns ts ∧ n ≤ 12 ∧
  ∀ (r' m' : Int) (v : V) (d : PyData) (H' : Hp), SrcOk r' m' → (∀ b o, b ≠ p → H b = some o → H' b = some o) → H' p = some (.lst [.int r', .int m']) →
    (∃ (a : Addr) (xs : List V) (ds : List PyData), v = .ref a ∧ d = .list ds ∧ a ≠ p ∧ H a = none ∧ H' a = some (.lst xs) ∧ DqAll K (offH H' p a) xs ds ∧ TiesV ds) ∨ ((∀ ds, d ≠ .list ds) ∧ Dq K (offH H' p p) v d ∧ ((∃ ds, d = .tuple ds ∧ TiesV ds) ∨ (seqD d = none ∧ d ∈ consts))) → Q v H'
section
variable {P : Program} {w : World} {K : PySem.W.Frag} {mg : Str → Option Value} {base : Heap}
abbrev sLawTiesFor : Stmt := top ix_law_ties_for
theorem scLawTiesFor : FnScope ["source", "plan", "places", "found", "turn", "free", "one", "two", "odd"] ["source", "plan"] (defScope sLawTiesFor) := ⟨rfl, rfl, rfl, by decide +kernel, rfl, by decide +kernel, by decide +kernel⟩
theorem has_law_ties_for (T : Bn mg) (D : DFE K mg "_law_ties_for" sLawTiesFor ["source", "plan"]) (h_law_draw : Has P w K mg base CX0 1 "_law_draw" ["source", "span"] spDraw) (h_law_pick : Has P w K mg base CX0 2 "_law_pick" ["source", "things"] (spPick2 K)) (h_law_mixed : Has P w K mg base CX0 2 "_law_mixed" ["source", "things"] (spMixed K)) : Has P w K mg base CX0 3 "_law_ties_for" ["source", "plan"] (spTiesFor K) := by
  refine has_of D scLawTiesFor (fun vs H Q E h => ?_) (fun f cdv A outer s H vs Q E hr h => ?_)
  · obtain ⟨p, t, r, m, n, ns, ts, rfl, _⟩ := h; rfl
  · obtain ⟨p, t, r, m, n, ns, ts, rfl, hp, ok, ⟨tn, tt, txs, h1, h2, h3, h4⟩, pk, hn, k⟩ := h
    have nd := scLawTiesFor.nd
    refine ⟨_, (pss_cons (ps_par (i := 2) (j := 3) (by rfl) nd rfl rfl (by decide) rfl rfl (pa_cons (pe_ix ix_tup (pv 1) pe_int (fun _ _ => rfl)) (pa_cons (pe_lst pa_nil) pa_nil)) (by rfl))
    (pss_cons (ps_for PassesOwn.never rfl (pi_range1 rfl T.z_range (pa_cons (pe_h h_law_draw hr (by decide) rfl (pa_cons (pv 0) (pa_cons pe_int pa_nil))) pa_nil)) (pg_name (i := 4) nd rfl (by first | exact Or.inl rfl | exact Or.inr rfl)) (pss_one (ps_expr (pe_bm PySem.F.plainAttrs_list PySem.F.slot_list_append PySem.F.type_list_append mt_append (pv 3) (pa_cons (pe_tup (pa_cons (pe_h h_law_pick hr (by decide) rfl (pa_cons (pv 0) (pa_cons (pv 2) pa_nil))) (pa_cons (pe_h h_law_pick hr (by decide) rfl (pa_cons (pv 0) (pa_cons (pv 2) pa_nil))) pa_nil))) pa_nil)))))
    (pss_cons (ps_sv 5 nd (pe_lst pa_nil))
    (pss_cons (ps_for PassesOwn.never rfl (pi_sq (pv 2)) (pg_name (i := 6) nd rfl (by first | exact Or.inl rfl | exact Or.inr rfl)) (pss_one (ps_sv 5 nd (pe_op op_cat (pv 5) (pe_lc (own := [("two", 7)]) (g := gName 7) rfl nd (pi_sq (pv 2)) (blkOk_by (own := [("two", 7)]) (N := ["source", "plan", "places", "found", "turn", "free", "one", "two", "odd"]) (sc := defScope sLawTiesFor) (by decide +kernel)) (fun _ _ _ _ _ => (pg_name (i := 7) nd rfl (by first | exact Or.inl rfl | exact Or.inr rfl))) (fun _ _ _ _ _ => (pts_one (PW.pt (pw_and (pt_cmpR op_ne (pv 6) (pv 7) (by first | exact nomark _ | rfl)) (pw_and1 (pt_cmpR (op_notInTD (K := K) rfl (units65 hr)) (pe_tup (pa_cons (pv 6) (pa_cons (pv 7) pa_nil))) (pe_ix (ix_tupk (K := K) rfl) (pv 1) pe_int (fun _ _ => rfl)) (by first | exact nomark _ | rfl))))))) (fun _ _ _ _ _ => (pe_tup (pa_cons (pv 6) (pa_cons (pv 7) pa_nil)))))))))
    (pss_cons (ps_join (ps_if (PW.pt (pw_and (pt_cmpR (op_neNil hr.units) (pv 5) (pe_lst pa_nil) (by first | exact nomark _ | rfl)) (pw_and1 (pt_cmpR op_gt (pe_h h_law_draw hr (by decide) rfl (pa_cons (pv 0) (pa_cons pe_int pa_nil))) pe_int (by first | exact nomark _ | rfl))))) (pss_one (ps_sv 3 nd (pe_slice sl_list (pe_h h_law_mixed hr (by decide) rfl (pa_cons (pv 0) (pa_cons (pv 5) pa_nil))) po_none (po_some (pe_h h_law_draw hr (by decide) rfl (pa_cons (pv 0) (pa_cons pe_int pa_nil))))))) pss_nil))
    (pss_cons (ps_sv 8 nd (pe_lst (pa_cons pe_non (pa_cons (pe_tup pa_nil) (pa_cons (pe_lst (pa_cons (pe_ix ix_tup (pv 2) pe_int (fun _ _ => rfl)) (pa_cons (pe_ix ix_tup (pv 2) (pe_un un_neg pe_int) (fun _ _ => rfl)) pa_nil))) (pa_cons (pe_tup (pa_cons pe_str (pa_cons (pe_ix ix_tup (pv 2) pe_int (fun _ _ => rfl)) pa_nil))) (pa_cons (pe_tup (pa_cons (pe_ix ix_tup (pv 2) pe_int (fun _ _ => rfl)) pa_nil)) (pa_cons pe_str (pa_cons (pe_tup (pa_cons (pe_ix ix_tup (pv 2) pe_int (fun _ _ => rfl)) (pa_cons pe_non pa_nil))) (pa_cons (pe_tup (pa_cons pe_int (pa_cons (pe_ix ix_tup (pv 2) pe_int (fun _ _ => rfl)) pa_nil))) pa_nil))))))))))
    (pss_cons (ps_join (ps_if (pt_cmpR op_eq (pe_h h_law_draw hr (by decide) rfl (pa_cons (pv 0) (pa_cons pe_int pa_nil))) pe_int (by first | exact nomark _ | rfl)) (pss_one (ps_expr (pe_bm PySem.F.plainAttrs_list PySem.F.slot_list_insert PySem.F.type_list_insert mt_insert (pv 3) (pa_cons (pe_h h_law_draw hr (by decide) rfl (pa_cons (pv 0) (pa_cons (pe_op op_add (pe_callB call_len (by rfl) T.z_len (by decide +kernel) (pa_cons (pv 3) pa_nil)) pe_int) pa_nil))) (pa_cons (pe_h h_law_pick hr (by decide) rfl (pa_cons (pv 0) (pa_cons (pv 8) pa_nil))) pa_nil))))) pss_nil))
    (pss_one (ps_ret (pe_h h_law_pick hr (by decide) rfl (pa_cons (pv 0) (pa_cons (pe_lst (pa_cons (pv 3) (pa_cons (pv 3) (pa_cons (pe_callTy call_tuple_of (by rfl) T.z_tuple (by decide +kernel) (pa_cons (pv 3) pa_nil)) (pa_cons (pv 3) (pa_cons (pe_h h_law_pick hr (by decide) rfl (pa_cons (pv 0) (pa_cons (pe_lst (pa_cons pe_non (pa_cons pe_str (pa_cons pe_dnewK (pa_cons pe_int pa_nil))))) pa_nil))) pa_nil)))))) pa_nil)))))))))))), ?_⟩
    have lv := Lv.one hp
    have nl : ns.length ≤ 12 := Nat.le_trans pk.most hn
    have ktp : ∀ {H' : Hp}, (∀ b o, b ≠ p → H b = some o → H' b = some o) → KeepT H H' := fun f => KeepT.off hp (fun _ z => nomatch z) f
    have tnp : tn ≠ p := fun z => by subst z; rw [hp] at h2; cases h2
    have nne : ns.map V.str ≠ [] := fun z => by have := pk.one; rw [List.map_eq_nil_iff] at z; rw [z] at this; exact absurd this (by decide)
    have nlen : (ns.map V.str).length ≤ 1000000 := by rw [List.length_map]; omega
    refine ⟨_, rfl, t, _, 0, .ref tn, rfl, rfl, SqT.of h1, rfl, ?_⟩
    wide_line
    wide_line with al lv a na H1 lv1 s1
    wide_line
    intro r1 m1 k1 ok1 z0 z1
    obtain ⟨k0, rfl⟩ := Int.eq_ofNat_of_zero_le z0
    wide_line with st lv1 1 H2 lv2
    wide_line
    refine for_range (fun i σ H' => Hold (∃ (r m : Int) (xs : List V) (us : List (Str × Str)) (u4 : Option V), σ = [some (.ref p), some (.ref t), some (.ref tn), some (.ref a), u4, none, none, none, none] ∧
      Lv H [p] H' [(a, .lst xs), (p, .lst [.int r, .int m])] ∧ SrcOk r m ∧ TiesT H' xs us ∧ us.length ≤ i ∧ ∀ u ∈ us, okTie u)) ⟨r1, m1, [], [], none, rfl, lv2, ok1, .nil, Nat.zero_le _, fun _ z => nomatch z⟩ ?_ ?_
    · rintro i σ H3 hi ⟨r3, m3, xs, us, u4, rfl, lv3, ok3, tx3, ul3, uo3⟩
      refine ⟨_, rfl, .inl ⟨rfl, _, SqL.of (lv3.get 0 rfl)⟩, _, rfl, _, rfl, .inl ⟨p, tn, r3, m3, _, rfl, tnp, lv3.get 1 rfl, ok3, .inr (SqT.of (ktp lv3.off _ _ h2)), nne, nlen, fun r4 m4 x ok4 hx => ?_⟩⟩
      obtain ⟨q1, hq1, rfl⟩ := List.mem_map.mp hx
      wide_line with stk lv3 1 H4 lv4 kt4
      refine ⟨_, rfl, _, rfl, .inl ⟨p, tn, r4, m4, _, rfl, tnp, lv4.get 1 rfl, ok4, .inr (SqT.of (ktp lv4.off _ _ h2)), nne, nlen, fun r5 m5 x ok5 hx => ?_⟩⟩
      obtain ⟨q2, hq2, rfl⟩ := List.mem_map.mp hx
      wide_line with stk lv4 1 H5 lv5 kt5
      refine ⟨sz2, fun c nc => ?_⟩
      wide_line with alx lv5 nc H6 lv6 s6
      have xl := paired_len tx3
      refine ⟨a, xs, _, rfl, rfl, lv6.get 1 rfl, by rw [sizeLine_eq]; omega, ?_⟩
      wide_line with stk lv6 1 H7 lv7 kt7
      have kt := kt4.trans (kt5.trans ((KeepT.same s6).trans kt7))
      refine ⟨r5, m5, _, us ++ [(q1, q2)], _, rfl, lv7.picks [1, 2] rfl (by decide) (by simp), ok5, paired_app (tx3.keep kt) (.cons ⟨c, rfl, kt7 _ _ (lv6.get 0 rfl)⟩ .nil), by rw [List.length_append, List.length_singleton]; omega, fun u hu => ?_⟩
      rcases List.mem_append.mp hu with z | z
      · exact uo3 u z
      · rw [List.mem_singleton.mp z]; exact ⟨pk.nm _ hq1, pk.nm _ hq2⟩
    · rintro σ H3 ⟨r3, m3, xs, us, u4, rfl, lv3, ok3, tx3, ul3, uo3⟩
      have us3 : us.length ≤ 3 := by omega
      wide_line
      wide_line with al lv3 fl nfl H4 lv4 s4
      have kt4 := KeepT.same s4
      have g2 := ktp lv4.off _ _ h2
      refine ⟨_, rfl, tn, ns.map V.str, rfl, .inr (SqT.of g2), ?_⟩
      intro J G ex hG wk
      refine for_it wk (fun i σ H' => Hold (∃ (fl : Addr) (ys : List V) (es : List (Str × Str)) (u6 u7 : Option V), σ = [some (.ref p), some (.ref t), some (.ref tn), some (.ref a), u4, some (.ref fl), u6, u7, none] ∧
        Lv H [p] H' [(fl, .lst ys), (a, .lst xs), (p, .lst [.int r3, .int m3])] ∧ Same H4 H' ∧ TiesT H' ys es ∧ es.length ≤ 12 * i ∧ ∀ u ∈ es, okTie u)) ⟨fl, [], [], _, _, rfl, lv4, .refl _, .nil, Nat.zero_le _, fun _ z => nomatch z⟩ (fun i σ H' _ ⟨_, _, _, _, _, _, _, z, _⟩ => hG H' (SqKeep.of (.inr (SqT.of g2)) (.refl _) z ex)) ?_ ?_
      · rintro i x σ H5 H6 hi ⟨fl, ys, es, u6, u7, rfl, lv6, s46, ty6, el6, eo6⟩ ⟨rfl, ex1⟩
        obtain ⟨q1, hq1, rfl⟩ := str_at ex1
        have okq1 := pk.nm _ (List.mem_of_getElem? hq1)
        have i12 : i < 12 := by have := (List.getElem?_eq_some_iff.mp hq1).1; omega
        have yl6 := paired_len ty6
        refine ⟨_, rfl, _, rfl, tn, ns.map V.str, rfl, .inr (SqT.of (s46 _ _ g2)), ?_⟩
        intro J2 G2 ex2 hG2 wk2 L nL
        have lvL := lv6.al (o := .lst []) nL
        refine lc_it wk2 (fun j H' => Hold (∃ (zs : List V) (gs : List (Str × Str)), Lv H [p] H' [(L, .lst zs), (fl, .lst ys), (a, .lst xs), (p, .lst [.int r3, .int m3])] ∧ Same H6 H' ∧ TiesT H' zs gs ∧ gs.length ≤ j ∧ ∀ u ∈ gs, okTie u)) ⟨[], [], lvL, same_new nL, .nil, Nat.zero_le _, fun _ z => nomatch z⟩ (fun j H' _ ⟨_, _, _, z2, _⟩ => hG2 H' (SqKeep.of (.inr (SqT.of (s46 _ _ g2))) (.refl _) z2 ex2)) ?_ ?_
        · rintro j y H7 H8 hj ⟨zs, gs, lv8, s68, tz8, gl8, go8⟩ ⟨rfl, ex3⟩
          obtain ⟨q2, hq2, rfl⟩ := str_at ex3
          have okq2 := pk.nm _ (List.mem_of_getElem? hq2)
          have j12 : j < 12 := by have := (List.getElem?_eq_some_iff.mp hq2).1; omega
          have zl8 := paired_len tz8
          refine ⟨rfl, _, rfl, _, rfl, rfl, ?_⟩
          have no : ∀ {H9 : Hp}, Lv H [p] H9 [(L, .lst zs), (fl, .lst ys), (a, .lst xs), (p, .lst [.int r3, .int m3])] → Same H8 H9 → Hold (∃ (zs : List V) (gs : List (Str × Str)), Lv H [p] H9 [(L, .lst zs), (fl, .lst ys), (a, .lst xs), (p, .lst [.int r3, .int m3])] ∧ Same H6 H9 ∧ TiesT H9 zs gs ∧ gs.length ≤ j + 1 ∧ ∀ u ∈ gs, okTie u) := fun l9 s9 => ⟨zs, gs, l9, s68.trans s9, tz8.keep (KeepT.same s9), by omega, go8⟩
          refine ⟨_, rfl, ?_⟩
          refine ite2 (fun c => ?_) (fun c => iteF (no lv8 (.refl _)))
          refine ⟨_, rfl, _, rfl, sz2, fun T1 n1 => ?_⟩
          wide_line with alx lv8 n1 H9 lv9 s9
          have k9 := ktp lv9.off
          have okt : ∀ u ∈ ts, okTie u := fun u hu => ⟨pk.nm _ (pk.tie u hu).1, pk.nm _ (pk.tie u hu).2.1⟩
          have okp : okTie (q1, q2) := ⟨okq1, okq2⟩
          refine ⟨_, rfl, t, _, 1, .ref tt, rfl, rfl, SqT.of (k9 _ _ h1), rfl, tieDat (q1, q2), ts.map tieDat, .tup (SqT.of (lv9.get 0 rfl)) (.cons (.str _) (.cons (.str _) .nil)), .tup (SqT.of (k9 _ _ h3)) (dp_ties (tiesT_at (h4.keep k9))), shaped_tie okp, shaped_ties okt, ?_⟩
          refine ⟨_, rfl, ?_⟩
          refine ite2 (fun c2 => ?_) (fun c2 => (no (lv9.picks [1, 2, 3, 4] rfl (by decide) (by simp)) s9))
          refine ⟨_, rfl, _, rfl, sz2, fun T2 n2 => ?_⟩
          wide_line with alx lv9 n2 H10 lv10 s10
          refine ⟨_, lv10.get 2 rfl, by rw [sizeLine_eq]; omega, ?_⟩
          generalize he : upd H10 L _ = H11
          have lv11 := lv10.stE 2 rfl he
          have kt11 := KeepT.st (lv10.get 2 rfl) he
          have s11 := sameN (s68.trans (s9.trans s10)) nL he
          clear he
          have kt := (KeepT.same (s9.trans s10)).trans kt11
          refine ⟨_, gs ++ [(q1, q2)], lv11.picks [2, 3, 4, 5] rfl (by decide) (by simp), s11, paired_app (tz8.keep kt) (.cons ⟨T2, rfl, kt11 _ _ (lv10.get 0 rfl)⟩ .nil), by rw [List.length_append, List.length_singleton]; omega, fun u hu => ?_⟩
          rcases List.mem_append.mp hu with z | z
          · exact go8 u z
          · rw [List.mem_singleton.mp z]; exact okp
        · rintro H7 ⟨zs, gs, lv7, s67, tz7, gl7, go7⟩
          have gl7 : gs.length ≤ 12 := by rw [List.length_map] at gl7; omega
          have zl7 := paired_len tz7
          refine ⟨fl, L, _, _, rfl, rfl, lv7.get 1 rfl, lv7.get 0 rfl, by rw [sizeLine_eq]; omega, fun f2 nf2 => ?_⟩
          wide_line with alx lv7 nf2 H8 lv8 s8
          refine ⟨f2, _, es ++ gs, _, _, rfl, lv8.picks [0, 3, 4] rfl (by decide) (by simp), s46.trans (s67.trans s8), paired_app (ty6.keep (KeepT.same (s67.trans s8))) (tz7.keep (KeepT.same s8)), by rw [List.length_append]; omega, fun u hu => ?_⟩
          rcases List.mem_append.mp hu with z | z
          · exact eo6 u z
          · exact go7 u z
      · rintro σ H5 ⟨fl, ys, es, u6, u7, rfl, lv5, s45, ty5, el5, eo5⟩
        refine ⟨fun σ H' => Hold (∃ (a : Addr) (xs : List V) (us : List (Str × Str)) (r m : Int), σ = [some (.ref p), some (.ref t), some (.ref tn), some (.ref a), u4, some (.ref fl), u6, u7, none] ∧ Lv H [p] H' [(a, .lst xs), (p, .lst [.int r, .int m])] ∧ SrcOk r m ∧ TiesT H' xs us ∧ us.length ≤ 3 ∧ ∀ u ∈ us, okTie u), ?_, ?_⟩
        · have yl5 := paired_len ty5
          have el5 : es.length ≤ 144 := by rw [List.length_map] at el5; omega
          refine ⟨_, rfl, sz0, fun l2 n2 => ?_⟩
          wide_line with alx lv5 n2 H6 lv6 s6
          refine ⟨_, _, _, rfl, rfl, SqL.of (lv6.get 1 rfl), SqL.of (lv6.get 0 rfl), ?_⟩
          have stay : ∀ {H7 : Hp} {r7 m7 : Int}, Lv H [p] H7 [(l2, .lst []), (fl, .lst ys), (a, .lst xs), (p, .lst [.int r7, .int m7])] → SrcOk r7 m7 → KeepT H6 H7 → Hold (∃ (a' : Addr) (xs : List V) (us : List (Str × Str)) (r m : Int), [some (V.ref p), some (.ref t), some (.ref tn), some (.ref a), u4, some (.ref fl), u6, u7, none] = [some (.ref p), some (.ref t), some (.ref tn), some (.ref a'), u4, some (.ref fl), u6, u7, none] ∧ Lv H [p] H7 [(a', .lst xs), (p, .lst [.int r, .int m])] ∧ SrcOk r m ∧ TiesT H7 xs us ∧ us.length ≤ 3 ∧ ∀ u ∈ us, okTie u) := fun l7 o7 k7 =>
            ⟨a, xs, us, _, _, rfl, l7.picks [2, 3] rfl (by decide) (by simp), o7, tx3.keep ((KeepT.same (s4.trans (s45.trans s6))).trans k7), us3, uo3⟩
          refine ⟨_, rfl, ?_⟩
          refine ite2 (fun c => ?_) (fun c => iteF (stay lv6 ok3 (.refl _)))
          refine ⟨_, rfl, p, r3, m3, 3, rfl, lv6.get 3 rfl, ok3, by decide, by decide, fun r7 m7 k7 ok7 z0 z1 => ?_⟩
          wide_line with stk lv6 3 H7 lv7 kt7
          refine ⟨_, _, rfl, rfl, _, rfl, ?_⟩
          refine ite2 (fun c2 => ?_) (fun c2 => stay lv7 ok7 kt7)
          refine ⟨_, rfl, _, rfl, p, fl, r7, m7, ys, rfl, lv7.get 3 rfl, ok7, .inl (SqL.of (lv7.get 1 rfl)), by omega, fun r8 m8 zs L H8 ok8 perm off8 src8 nL hL => ?_⟩
          obtain ⟨es', pe', te'⟩ := paired_perm perm (ty5.keep ((KeepT.same s6).trans kt7))
          have te' : TiesT H7 zs es' := te'
          have kt8 : KeepT H7 H8 := .off (lv7.get 3 rfl) (fun _ z => nomatch z) off8
          have lv8 := lv7.stn 3 rfl src8 off8 nL hL
          refine ⟨_, rfl, p, r8, m8, 3, rfl, src8, ok8, by decide, by decide, fun r9 m9 k9 ok9 y0 y1 => ?_⟩
          obtain ⟨j9, rfl⟩ := Int.eq_ofNat_of_zero_le y0
          wide_line with stk lv8 4 H9 lv9 kt9
          refine ⟨_, rfl, L, zs, rfl, SqL.of (lv9.get 0 rfl), fun a2 na2 => ?_⟩
          wide_line with alx lv9 na2 H10 lv10 s10
          rw [cut_take] at lv10
          refine ⟨a2, _, es'.take j9, _, _, rfl, lv10.picks [0, 5] rfl (by decide) (by simp), ok9, paired_take j9 ((te'.keep (kt8.trans kt9)).keep (KeepT.same s10)), Nat.le_trans (List.length_take_le _ _) (by omega), fun u hu => eo5 u (pe'.mem_iff.mp (List.mem_of_mem_take hu))⟩
        · rintro σ H6 ⟨a, xs, us, r6, m6, rfl, lv6, ok6, tx6, ul6, uo6⟩
          obtain ⟨q0, qs, eq0⟩ : ∃ q0 qs, ns = q0 :: qs := by
            cases ns with
            | nil => exact absurd rfl nne
            | cons a b => exact ⟨a, b, rfl⟩
          have okq : okName q0 = true := pk.nm _ (by rw [eq0]; exact List.mem_cons_self)
          have at0 : atI (ns.map V.str) 0 = some (.str q0) := by rw [eq0]; exact atI_nat (j := 0) rfl
          obtain ⟨ql, atl, okl⟩ : ∃ ql, atI (ns.map V.str) (-1) = some (.str ql) ∧ okName ql = true := by
            have l1 := pk.one
            have e : ns[ns.length - 1]? = some (ns[ns.length - 1]'(by omega)) := List.getElem?_eq_getElem _
            exact ⟨_, at_last (by rw [List.length_map, List.getElem?_map, e]; rfl) (by rw [List.length_map]; exact l1), pk.nm _ (List.mem_of_getElem? e)⟩
          have xl6 := paired_len tx6
          refine ⟨sz0, fun b0 nb0 => ?_⟩
          wide_line with alx lv6 nb0 H7 lv7 s7
          refine ⟨_, rfl, tn, _, 0, .str q0, rfl, rfl, SqT.of (ktp lv7.off _ _ h2), at0, _, rfl, 1, rfl, tn, _, -1, .str ql, rfl, rfl, SqT.of (ktp lv7.off _ _ h2), atl, sz2, fun b1 nb1 => ?_⟩
          wide_line with alx lv7 nb1 H8 lv8 s8
          refine ⟨_, rfl, tn, _, 0, .str q0, rfl, rfl, SqT.of (ktp lv8.off _ _ h2), at0, sz2, fun b2 nb2 => ?_⟩
          wide_line with alx lv8 nb2 H9 lv9 s9
          refine ⟨_, rfl, tn, _, 0, .str q0, rfl, rfl, SqT.of (ktp lv9.off _ _ h2), at0, sz1, fun b3 nb3 => ?_⟩
          wide_line with alx lv9 nb3 H10 lv10 s10
          refine ⟨_, rfl, tn, _, 0, .str q0, rfl, rfl, SqT.of (ktp lv10.off _ _ h2), at0, sz2, fun b4 nb4 => ?_⟩
          wide_line with alx lv10 nb4 H11 lv11 s11
          refine ⟨_, rfl, tn, _, 0, .str q0, rfl, rfl, SqT.of (ktp lv11.off _ _ h2), at0, sz2, fun b5 nb5 => ?_⟩
          wide_line with alx lv11 nb5 H12 lv12 s12
          refine ⟨sz8, fun od nod => ?_⟩
          wide_line with alx lv12 nod H13 lv13 s13
          have s613 : Same H6 H13 := s7.trans (s8.trans (s9.trans (s10.trans (s11.trans (s12.trans s13)))))
          refine ⟨fun σ H' => Hold (∃ (xs : List V) (ds : List PyData) (r m : Int), σ = [some (.ref p), some (.ref t), some (.ref tn), some (.ref a), u4, some (.ref fl), u6, u7, some (.ref od)] ∧ Lv H [p] H' [(a, .lst xs), (p, .lst [.int r, .int m])] ∧ SrcOk r m ∧ DqAll K (offH H' p a) xs ds ∧ TiesV ds), ?_, ?_⟩
          · refine ⟨_, rfl, p, r6, m6, 3, rfl, lv13.get 8 rfl, ok6, by decide, by decide, fun r7 m7 k7 ok7 z0 z1 => ?_⟩
            wide_line with stk lv13 8 H14 lv14 kt14
            have tx14 := (tx6.keep (KeepT.same s613)).keep kt14
            refine ⟨rfl, _, rfl, ?_⟩
            refine ite2 (fun c => ?_) (fun c => ?_)
            case refine_2 => exact ⟨xs, _, r7, m7, rfl, lv14.picks [7, 8] rfl (by decide) (by simp), ok7, ties_off (lv14.get 8 rfl) (lv14.get 7 rfl) tx14, ⟨by rw [List.length_map]; omega, fun e he => by obtain ⟨u, hu, rfl⟩ := List.mem_map.mp he; exact fit_tie (uo6 u hu)⟩⟩
            refine ⟨_, rfl, .inl ⟨rfl, _, SqL.of (lv14.get 7 rfl)⟩, _, rfl, _, rfl, .ref a, xs.length, rfl, .inl ⟨_, SqL.of (lv14.get 7 rfl), rfl⟩, _, _, rfl, rfl, p, r7, m7, _, rfl, lv14.get 8 rfl, ok7, by omega, by omega, fun r8 m8 k8 ok8 y0 y1 => ?_⟩
            wide_line with stk lv14 8 H15 lv15 kt15
            refine ⟨_, rfl, _, rfl, .inl ⟨p, od, r8, m8, _, rfl, lv15.ne 0 8 (by decide) rfl rfl, lv15.get 8 rfl, ok8, .inl (SqL.of (lv15.get 0 rfl)), List.cons_ne_nil _ _, (by simp only [List.length_cons, List.length_nil]; omega), fun r9 m9 x ok9 hx => ?_⟩⟩
            wide_line with stk lv15 8 H16 lv16 kt16
            have tx16 := (tx14.keep kt15).keep kt16
            have oat : ∀ {i : Nat} {b : Addr} {o : HO} (e : i < 7), [(od, HO.lst [.non, .ref b0, .ref b1, .ref b2, .ref b3, .str "ab", .ref b4, .ref b5]), (b5, .tup [.int 5, .str q0]), (b4, .tup [.str q0, .non]), (b3, .tup [.str q0]), (b2, .tup [.str "zzz", .str q0]), (b1, .lst [.str q0, .str ql]), (b0, .tup []), (a, .lst xs), (p, .lst [.int r9, .int m9])][i]? = some (b, o) → offH H16 p a b = some o := fun e z => (offH_at (lv16.ne _ 8 (by omega) z rfl) (lv16.ne _ 7 (by omega) z rfl)).trans (lv16.get _ z)
            obtain ⟨dx, hdx, fdx⟩ : ∃ dx, Dq K (offH H16 p a) x dx ∧ Fit dx := by
              simp only [List.mem_cons, List.not_mem_nil, or_false] at hx
              rcases hx with rfl | rfl | rfl | rfl | rfl | rfl | rfl | rfl
              · exact ⟨.none, .non, sm_consts _ (by simp [consts]), trivial, fun _ z => nomatch z⟩
              · exact ⟨.tuple [], .tup (SqT.of (oat (i := 6) (by decide) rfl)) .nil, fit_tup (fun _ z => nomatch z) (by decide) trivial⟩
              · exact ⟨.list [.str q0, .str ql], .lst (SqL.of (oat (i := 5) (by decide) rfl)) (.cons (.str _) (.cons (.str _) .nil)), fit_lst (fun d hd => by rcases List.mem_cons.mp hd with rfl | hd; exact sm_txt okq; rw [List.mem_singleton.mp hd]; exact sm_txt okl) (by simp only [List.length_cons, List.length_nil]; omega)⟩
              · exact ⟨.tuple [.str "zzz", .str q0], .tup (SqT.of (oat (i := 4) (by decide) rfl)) (.cons (.str _) (.cons (.str _) .nil)), fit_tup (fun d hd => by rcases List.mem_cons.mp hd with rfl | hd; exact sm_zzz; rw [List.mem_singleton.mp hd]; exact sm_txt okq) (by simp only [List.length_cons, List.length_nil]; omega) ⟨rfl, rfl⟩⟩
              · exact ⟨.tuple [.str q0], .tup (SqT.of (oat (i := 3) (by decide) rfl)) (.cons (.str _) .nil), fit_tup (fun d hd => by rw [List.mem_singleton.mp hd]; exact sm_txt okq) (by simp only [List.length_cons, List.length_nil]; omega) trivial⟩
              · exact ⟨.str "ab", .str _, sm_consts _ (by simp [consts]), trivial, fun y z => by cases z; decide⟩
              · exact ⟨.tuple [.str q0, .none], .tup (SqT.of (oat (i := 2) (by decide) rfl)) (.cons (.str _) (.cons .non .nil)), fit_tup (fun d hd => by rcases List.mem_cons.mp hd with rfl | hd; exact sm_txt okq; rw [List.mem_singleton.mp hd]; exact sm_none) (by simp only [List.length_cons, List.length_nil]; omega) ⟨rfl, rfl⟩⟩
              · exact ⟨.tuple [.int 5, .str q0], .tup (SqT.of (oat (i := 1) (by decide) rfl)) (.cons (.int _) (.cons (.str _) .nil)), fit_tup (fun d hd => by rcases List.mem_cons.mp hd with rfl | hd; exact sm_five; rw [List.mem_singleton.mp hd]; exact sm_txt okq) (by simp only [List.length_cons, List.length_nil]; omega) ⟨rfl, rfl⟩⟩
            have dq16 := ties_off (K := K) (lv16.get 8 rfl) (lv16.get 7 rfl) tx16
            refine ⟨a, xs, k8, x, rfl, rfl, lv16.get 7 rfl, by rw [sizeLine_eq]; omega, y0, by omega, ?_⟩
            generalize he : upd H16 a _ = H17
            have lv17 := lv16.stE 7 rfl he
            have so : Same (offH H16 p a) (offH H17 p a) := offH_mono fun b o _ n e => by rw [← he, upd_ne n]; exact e
            clear he
            refine ⟨_, (us.map tieDat).take k8.toNat ++ [dx] ++ (us.map tieDat).drop k8.toNat, r9, m9, rfl, lv17.picks [7, 8] rfl (by decide) (by simp), ok9, DqAll.same so (dqAll_app (dqAll_app (dqAll_take _ dq16) (.cons hdx .nil)) (dqAll_drop _ dq16)), ⟨?_, fun e he => ?_⟩⟩
            · rw [List.length_append, List.length_append, List.length_take, List.length_drop, List.length_map, List.length_singleton]
              omega
            · rcases List.mem_append.mp he with he | he
              · rcases List.mem_append.mp he with he | he
                · obtain ⟨u, hu, rfl⟩ := List.mem_map.mp (List.mem_of_mem_take he)
                  exact fit_tie (uo6 u hu)
                · rw [List.mem_singleton.mp he]; exact fdx
              · obtain ⟨u, hu, rfl⟩ := List.mem_map.mp (List.mem_of_mem_drop he)
                exact fit_tie (uo6 u hu)
          · rintro σ H14 ⟨xs, ds, r14, m14, rfl, lv14, ok14, dq14, tv14⟩
            have xl14 := dqAll_len dq14
            have few := tv14.few
            have ha0 := lv14.fresh 0 rfl (fun z => lv14.ne 0 1 (by decide) rfl rfl (List.mem_singleton.mp z))
            refine ⟨_, rfl, _, rfl, _, rfl, _, rfl, a, xs, rfl, .inl ⟨SqL.of (lv14.get 0 rfl), fun tp ntp => ?_⟩⟩
            wide_line with alx lv14 ntp H15 lv15 s15
            refine ⟨_, rfl, _, rfl, fun D0 nD0 => ?_⟩
            wide_line with alx lv15 nD0 H16 lv16 s16
            refine ⟨sz4, fun il nil_ => ?_⟩
            wide_line with alx lv16 nil_ H17 lv17 s17
            refine .inl ⟨p, il, r14, m14, _, rfl, lv17.ne 0 4 (by decide) rfl rfl, lv17.get 4 rfl, ok14, .inl (SqL.of (lv17.get 0 rfl)), List.cons_ne_nil _ _, (by simp only [List.length_cons, List.length_nil]; omega), fun r18 m18 y ok18 hy => ?_⟩
            generalize he : upd H17 p _ = H18
            have lv18 := lv17.stE 4 rfl he
            have lv18_at : ∀ {b : Addr} {o : HO}, b ≠ p → H17 b = some o → H18 b = some o := fun n e => by rw [← he, upd_ne n]; exact e
            clear he
            refine ⟨sz5, fun ol nol => ?_⟩
            wide_line with alx lv18 nol H19 lv19 s19
            refine .inl ⟨p, ol, r18, m18, _, rfl, lv19.ne 0 5 (by decide) rfl rfl, lv19.get 5 rfl, ok18, .inl (SqL.of (lv19.get 0 rfl)), List.cons_ne_nil _ _, (by simp only [List.length_cons, List.length_nil]; omega), fun r20 m20 z ok20 hz => ?_⟩
            generalize he : upd H19 p _ = H20
            have lv20 := lv19.stE 5 rfl he
            have so : Same (offH H14 p a) (offH H20 p a) := offH_mono fun b o n _ e => by
              rw [← he, upd_ne n]
              refine s19 _ _ ?_
              have e17 := s17 _ _ (s16 _ _ (s15 _ _ e))
              exact (lv18_at n e17)
            clear he
            have at1 : ∀ {i : Nat} {b : Addr} {o : HO} (e : i < 5), [(ol, HO.lst [.ref a, .ref a, .ref tp, .ref a, y]), (il, .lst [.non, .str "ab", .ref D0, .int 5]), (D0, .dK []), (tp, .tup xs), (a, .lst xs), (p, .lst [.int r20, .int m20])][i]? = some (b, o) → offH H20 p p b = some o := fun e z => (offH_at (lv20.ne _ 5 (by omega) z rfl) (lv20.ne _ 5 (by omega) z rfl)).trans (lv20.get _ z)
            have pp : Same (offH H20 p a) (offH H20 p p) := fun b o e => by
              unfold offH at e ⊢
              split at e
              · cases e
              · rename_i n
                rw [if_neg fun z => n (.inl (z.elim id id))]
                exact e
            have dq20 := DqAll.same so dq14
            have src20 := lv20.get 5 rfl
            have yes : Q (.ref a) H20 := k r20 m20 (.ref a) (.list ds) H20 ok20 lv20.off src20 (.inl ⟨a, xs, ds, rfl, rfl, lv20.ne 4 5 (by decide) rfl rfl, ha0, lv20.get 4 rfl, dq20, tv14⟩)
            have cst : ∀ {d : PyData} {v : V}, Dq K (offH H20 p p) v d → seqD d = none → d ∈ consts → Q v H20 := fun {d v} h1 h2 h3 => k r20 m20 v d H20 ok20 lv20.off src20 (.inr ⟨fun ds e => (by subst e; cases h2), h1, .inr ⟨h2, h3⟩⟩)
            simp only [List.mem_cons, List.not_mem_nil, or_false] at hz hy
            rcases hz with rfl | rfl | rfl | rfl | rfl
            · exact yes
            · exact yes
            · exact k r20 m20 _ (.tuple ds) H20 ok20 lv20.off src20 (.inr ⟨fun _ e => (nomatch e), .tup (SqT.of (at1 (i := 3) (by decide) rfl)) (DqAll.same pp dq20), .inl ⟨ds, rfl, tv14⟩⟩)
            · exact yes
            · rcases hy with rfl | rfl | rfl | rfl
              · exact cst .non rfl (by simp [consts])
              · exact cst (.str _) rfl (by simp [consts])
              · exact cst (d := .dict []) (.dic (.inl (at1 (i := 2) (by decide) rfl)) rfl rfl .nil) rfl (by simp [consts])
              · exact cst (.int 5) rfl (by simp [consts])
end
end Pw

set_option Elab.async false
set_option linter.all false
set_option maxRecDepth 100000
set_option maxHeartbeats 4000000
namespace Pw
open PySem PySem.Spec PyProof.Rows L2 Ct
local macro_rules | `(tactic| wide_line) => `(tactic| repeat ((fail_if_success (with_reducible refine at_while ?_)); (fail_if_success (with_reducible refine at_while1 ?_)); (conv => whnf); first | ((with_reducible refine And.intro ?_ ?_); focus (first | (first | ((with_reducible show (_ : Nat) ≤ _); first | exact sz0 | exact sz1 | exact sz2 | exact sz3 | exact sz4 | exact sz5 | exact sz6 | exact sz7 | exact sz8 | exact sz10 | exact sz11 | exact sz12 | exact sz14 | omega | decide | (simp only [List.length_cons, List.length_nil]; omega)) | ((with_reducible show (_ : Int) ≤ _); first | omega | decide) | ((with_reducible show (_ : Int) < _); first | omega | decide) | ((with_reducible show (_ : Nat) < _); omega)) | ((fail_if_success (with_reducible show (_ : Nat) ≤ _)); (fail_if_success (with_reducible show (_ : Int) ≤ _)); (fail_if_success (with_reducible show (_ : Int) < _)); (fail_if_success (with_reducible show (_ : Nat) < _)); first | exact kv_str _ | exact kv_int _ | rfl | assumption | exact flat_strs _ | exact Lv.get (by assumption) 0 rfl | exact Lv.get (by assumption) 1 rfl | exact Lv.get (by assumption) 2 rfl | exact Lv.get (by assumption) 3 rfl | exact Lv.get (by assumption) 4 rfl | exact Lv.get (by assumption) 5 rfl | exact Lv.get (by assumption) 6 rfl | exact SqL.of (Lv.get (by assumption) 0 rfl) | exact SqL.of (Lv.get (by assumption) 1 rfl) | exact SqL.of (Lv.get (by assumption) 2 rfl) | exact SqL.of (Lv.get (by assumption) 3 rfl) | exact SqL.of (Lv.get (by assumption) 4 rfl) | exact SqL.of (Lv.get (by assumption) 5 rfl) | exact Or.inl (SqL.of (Lv.get (by assumption) 0 rfl)) | exact Or.inl (SqL.of (Lv.get (by assumption) 1 rfl)) | exact Or.inl (SqL.of (Lv.get (by assumption) 2 rfl)) | exact Or.inl (SqL.of (Lv.get (by assumption) 3 rfl)) | exact Or.inl (SqL.of (Lv.get (by assumption) 4 rfl)) | exact Or.inl (SqL.of (Lv.get (by assumption) 5 rfl)) | exact ⟨_, SqL.of (Lv.get (by assumption) 0 rfl)⟩ | exact ⟨_, SqL.of (Lv.get (by assumption) 1 rfl)⟩ | exact ⟨_, SqL.of (Lv.get (by assumption) 2 rfl)⟩ | exact ⟨_, SqL.of (Lv.get (by assumption) 3 rfl)⟩ | exact ⟨_, SqL.of (Lv.get (by assumption) 4 rfl)⟩ | exact ⟨_, SqL.of (Lv.get (by assumption) 5 rfl)⟩ | exact Or.inl ⟨_, SqL.of (Lv.get (by assumption) 0 rfl), rfl⟩ | exact Or.inl ⟨_, SqL.of (Lv.get (by assumption) 1 rfl), rfl⟩ | exact Or.inl ⟨_, SqL.of (Lv.get (by assumption) 2 rfl), rfl⟩ | exact Or.inl ⟨_, SqL.of (Lv.get (by assumption) 3 rfl), rfl⟩ | exact Or.inl ⟨_, SqL.of (Lv.get (by assumption) 4 rfl), rfl⟩ | exact Or.inl ⟨_, SqL.of (Lv.get (by assumption) 5 rfl), rfl⟩ | exact Or.inl ⟨rfl, _, SqL.of (Lv.get (by assumption) 0 rfl)⟩ | exact Or.inl ⟨rfl, _, SqL.of (Lv.get (by assumption) 1 rfl)⟩ | exact Or.inl ⟨rfl, _, SqL.of (Lv.get (by assumption) 2 rfl)⟩ | exact Or.inl ⟨rfl, _, SqL.of (Lv.get (by assumption) 3 rfl)⟩ | exact Or.inl ⟨rfl, _, SqL.of (Lv.get (by assumption) 4 rfl)⟩ | exact Or.inl ⟨rfl, _, SqL.of (Lv.get (by assumption) 5 rfl)⟩ | exact Or.inr (SqT.of (Lv.get (by assumption) 0 rfl)) | exact Or.inr (SqT.of (Lv.get (by assumption) 1 rfl)) | exact Or.inr (SqT.of (Lv.get (by assumption) 2 rfl)) | exact Or.inr (SqT.of (Lv.get (by assumption) 3 rfl)) | exact SqT.of (Lv.get (by assumption) 0 rfl) | exact SqT.of (Lv.get (by assumption) 1 rfl) | exact SqT.of (Lv.get (by assumption) 2 rfl) | exact dgetN (Lv.get (by assumption) 0 rfl) (by assumption) | exact dgetN (Lv.get (by assumption) 1 rfl) (by assumption) | exact dgetN (Lv.get (by assumption) 2 rfl) (by assumption) | exact dgetN (Lv.get (by assumption) 3 rfl) (by assumption) | exact dgetN (Lv.get (by assumption) 4 rfl) (by assumption) | exact Or.inl (by assumption) | exact Or.inr (by assumption) | decide | ((with_reducible show _ ∧ _); omega)))) | ((fail_if_success (with_reducible apply @Exists.intro (Nat → _))); (with_reducible apply Exists.intro))))
local macro_rules
  | `(tactic| wide_line with al $lv:ident $l:ident $nl:ident $H:ident $lv1:ident $s1:ident) => `(tactic| (intro $l:ident $nl:ident; generalize he : upd _ _ _ = $H:ident; have $lv1:ident := Lv.alE $lv $nl he; have $s1:ident := sameE $nl he; clear he; (try dsimp only at $lv1:ident)))
  | `(tactic| wide_line with alx $lv:ident $nl:ident $H:ident $lv1:ident $s1:ident) => `(tactic| (generalize he : upd _ _ _ = $H:ident; have $lv1:ident := Lv.alE $lv $nl he; have $s1:ident := sameE $nl he; clear he; (try dsimp only at $lv1:ident)))
  | `(tactic| wide_line with sts $lv:ident $i:num $H:ident $lv1:ident $s0:ident $np:ident $s1:ident) => `(tactic| (generalize he : upd _ _ _ = $H:ident; have $lv1:ident := Lv.stE $lv $i rfl he; have $s1:ident := sameN $s0 $np he; clear he; (try dsimp only at $lv1:ident)))
  | `(tactic| wide_line with stx $lv:ident $H:ident $lv1:ident $d1:ident) => `(tactic| (generalize he : upd _ _ _ = $H:ident; have $lv1:ident := Lv.stE $lv 0 rfl he; have $d1:ident := SameD.storeE (Lv.get $lv 0 rfl) he; clear he; (try dsimp only at $lv1:ident)))
  | `(tactic| wide_line with st $lv:ident $i:num $H:ident $lv1:ident) => `(tactic| (generalize he : upd _ _ _ = $H:ident; have $lv1:ident := Lv.stE $lv $i rfl he; clear he; (try dsimp only at $lv1:ident)))
  | `(tactic| wide_line with stk $lv:ident $i:num $H:ident $lv1:ident $k1:ident) => `(tactic| (generalize he : upd _ _ _ = $H:ident; have $lv1:ident := Lv.stE $lv $i rfl he; have $k1:ident := KeepT.st (Lv.get $lv $i rfl) he; clear he; (try dsimp only at $lv1:ident)))
section
theorem srt_perm {α : Type} (f : α → PyData) (le : α → α → Bool) (hle : ∀ a b, le a b = PySem.W.dataLe false id (f a) (f b)) (trans : ∀ a b c, le a b = true → le b c = true → le a c = true) (total : ∀ a b, (le a b || le b a) = true) (anti : ∀ a b, le a b = true → le b a = true → a = b)
    (eq : ∀ xs ys : List α, PyData.eqv (.list (xs.map f)) (.list (ys.map f)) = true ↔ xs = ys) (xs ys : List α) : PyData.eqv (.list (srt (xs.map f))) (.list (srt (ys.map f))) = true ↔ xs.Perm ys := by
  have e : ∀ l : List α, srt (l.map f) = (l.mergeSort le).map f := fun l => (List.map_mergeSort (fun a _ b _ => hle a b)).symm
  rw [e, e, eq]
  constructor
  · intro h
    exact (List.mergeSort_perm xs le).symm.trans (h ▸ List.mergeSort_perm ys le)
  · intro h
    exact List.Perm.eq_of_pairwise (le := fun a b => le a b = true) (fun a b _ _ => anti a b) (List.pairwise_mergeSort trans total xs) (List.pairwise_mergeSort trans total ys) ((List.mergeSort_perm xs le).trans (h.trans (List.mergeSort_perm ys le).symm))
theorem eqvL_strs : ∀ xs ys : List Str, PyData.eqvAll (xs.map PyData.str) (ys.map PyData.str) = true ↔ xs = ys
  | [], [] => by simp [PyData.eqvAll]
  | [], y :: ys => by simp [PyData.eqvAll]
  | x :: xs, [] => by simp [PyData.eqvAll]
  | x :: xs, y :: ys => by
    rw [List.map_cons, List.map_cons, PyData.eqvAll, Bool.and_eq_true, eqvL_strs xs ys, eqv_str, decide_eq_true_eq, List.cons.injEq]
theorem eqvL_ties : ∀ xs ys : List (Str × Str), PyData.eqvAll (xs.map tieDat) (ys.map tieDat) = true ↔ xs = ys
  | [], [] => by simp [PyData.eqvAll]
  | [], y :: ys => by simp [PyData.eqvAll]
  | x :: xs, [] => by simp [PyData.eqvAll]
  | x :: xs, y :: ys => by
    rw [List.map_cons, List.map_cons, PyData.eqvAll, Bool.and_eq_true, eqvL_ties xs ys, eqv_tie, decide_eq_true_eq, List.cons.injEq]
def leS (a b : Str) : Bool := decide (a.cps.toList ≤ b.cps.toList)
theorem srt_strs (xs ys : List Str) : PyData.eqv (.list (srt (xs.map PyData.str))) (.list (srt (ys.map PyData.str))) = true ↔ xs.Perm ys := by
  refine srt_perm PyData.str leS (fun a b => ?_) (fun a b c h1 h2 => ?_) (fun a b => ?_) (fun a b h1 h2 => ?_) (fun xs ys => eqvL_strs xs ys) xs ys
  · have := congrFun (congrFun (PySem.W.dataLe_str (fun b : Str => b)) a) b
    exact this.symm
  · exact decide_eq_true (List.le_trans (of_decide_eq_true h1) (of_decide_eq_true h2))
  · unfold leS
    rw [Bool.or_eq_true, decide_eq_true_eq, decide_eq_true_eq]
    exact List.le_total _ _
  · exact str_ext (List.le_antisymm (of_decide_eq_true h1) (of_decide_eq_true h2))
def leP (p q : Str × Str) : Bool := PySem.W.dataLe false id (tieDat p) (tieDat q)
theorem leP_iff (p q : Str × Str) : leP p q = true ↔ (p.1.cps.toList < q.1.cps.toList ∨ (p.1 = q.1 ∧ p.2.cps.toList ≤ q.2.cps.toList)) := by
  show (!PySem.W.dataLt (tieDat q) (tieDat p)) = true ↔ _
  unfold tieDat
  rw [PySem.W.dataLt_pair (by simp [PySem.W.alike]) (by simp [PySem.W.alike]), PySem.W.dataLt_str, PySem.W.dataLt_str, eqv_str, eqv_str]
  by_cases h1 : q.1 = p.1
  · rw [decide_eq_true h1, if_pos rfl]
    have irr : ¬ p.1.cps.toList < q.1.cps.toList := by rw [h1]; exact List.lt_irrefl _
    by_cases h2 : q.2 = p.2
    · rw [decide_eq_true h2, if_pos rfl]
      exact ⟨fun _ => .inr ⟨h1.symm, by rw [h2]; exact List.le_refl _⟩, fun _ => rfl⟩
    · rw [decide_eq_false h2, if_neg Bool.false_ne_true, Bool.not_eq_true', decide_eq_false_iff_not]
      exact ⟨fun h => .inr ⟨h1.symm, List.not_lt.mp h⟩, fun h => List.not_lt.mpr ((h.resolve_left irr).2)⟩
  · rw [decide_eq_false h1, if_neg Bool.false_ne_true, Bool.not_eq_true', decide_eq_false_iff_not]
    constructor
    · intro h
      refine .inl ?_
      by_cases c : p.1.cps.toList < q.1.cps.toList
      · exact c
      · exact absurd (str_ext (List.le_antisymm (List.not_lt.mp c) (List.not_lt.mp h))) h1
    · rintro (h | ⟨h, _⟩)
      · exact List.lt_asymm h
      · exact absurd h.symm h1
theorem srt_ties (xs ys : List (Str × Str)) : PyData.eqv (.list (srt (xs.map tieDat))) (.list (srt (ys.map tieDat))) = true ↔ xs.Perm ys := by
  refine srt_perm tieDat leP (fun a b => rfl) (fun a b c h1 h2 => ?_) (fun a b => ?_) (fun a b h1 h2 => ?_) (fun xs ys => eqvL_ties xs ys) xs ys
  · rw [leP_iff] at h1 h2 ⊢
    rcases h1 with h1 | ⟨e1, h1⟩
    · rcases h2 with h2 | ⟨e2, _⟩
      · exact .inl (List.lt_trans h1 h2)
      · exact .inl (e2 ▸ h1)
    · rcases h2 with h2 | ⟨e2, h2⟩
      · exact .inl (e1 ▸ h2)
      · exact .inr ⟨e1.trans e2, List.le_trans h1 h2⟩
  · rw [Bool.or_eq_true, leP_iff, leP_iff]
    by_cases c : a.1.cps.toList < b.1.cps.toList
    · exact .inl (.inl c)
    · by_cases c2 : b.1.cps.toList < a.1.cps.toList
      · exact .inr (.inl c2)
      · have e : a.1 = b.1 := str_ext (List.le_antisymm (List.not_lt.mp c2) (List.not_lt.mp c))
        rcases List.le_total a.2.cps.toList b.2.cps.toList with h | h
        · exact .inl (.inr ⟨e, h⟩)
        · exact .inr (.inr ⟨e.symm, h⟩)
  · rw [leP_iff] at h1 h2
    rcases h1 with h1 | ⟨e1, h1⟩
    · rcases h2 with h2 | ⟨e2, _⟩
      · exact absurd h2 (List.lt_asymm h1)
      · rw [e2] at h1; exact absurd h1 (List.lt_irrefl _)
    · rcases h2 with h2 | ⟨_, h2⟩
      · rw [e1] at h2; exact absurd h2 (List.lt_irrefl _)
      · exact Prod.ext e1 (str_ext (List.le_antisymm h1 h2))
theorem eqW_iff (ns ms : List Str) (ts us : List (Str × Str)) : eqW ns ms ts us = true ↔ ns.Perm ms ∧ (ts.map pairP).Perm (us.map pairP) := by
  have e : ∀ l : List (Str × Str), l.map pairD = (l.map pairP).map tieDat := fun l => by rw [List.map_map]; rfl
  unfold eqW
  rw [Bool.and_eq_true, srt_strs, e, e, srt_ties]
theorem eqW_turn {ns ms : List Str} {ts us vs : List (Str × Str)} (h1 : ms.Perm ns) (h2 : us.Perm vs) (h3 : vs.map pairP = ts.map pairP) : eqW ns ms ts us = true := (eqW_iff _ _ _ _).mpr ⟨h1.symm, by rw [← h3]; exact (h2.map pairP).symm⟩
theorem eqW_comm {ns ms : List Str} {ts us : List (Str × Str)} (h : eqW ns ms ts us = true) : eqW ms ns us ts = true := (eqW_iff _ _ _ _).mpr (((eqW_iff _ _ _ _).mp h).imp List.Perm.symm List.Perm.symm)
theorem eqW_len {ns ms : List Str} {ts us : List (Str × Str)} (h : ts.length ≠ us.length) : eqW ns ms ts us = false := Bool.eq_false_iff.mpr fun z => h (by have := ((eqW_iff _ _ _ _).mp z).2.length_eq; simpa using this)
theorem eqW_new {ns ms : List Str} {ts us : List (Str × Str)} {u : Str × Str} (h1 : u ∈ us) (h2 : pairP u ∉ ts.map pairP) : eqW ns ms ts us = false := Bool.eq_false_iff.mpr fun z => h2 (((eqW_iff _ _ _ _).mp z).2.mem_iff.mpr (List.mem_map.mpr ⟨u, h1, rfl⟩))
end
end Pw

set_option Elab.async false
set_option linter.all false
set_option maxRecDepth 100000
set_option maxHeartbeats 4000000
namespace Pw
open PySem PySem.Spec PyProof.Rows L2 Ct
local macro_rules | `(tactic| wide_line) => `(tactic| repeat ((fail_if_success (with_reducible refine at_while ?_)); (fail_if_success (with_reducible refine at_while1 ?_)); (conv => whnf); first | ((with_reducible refine And.intro ?_ ?_); focus (first | (first | ((with_reducible show (_ : Nat) ≤ _); first | exact sz0 | exact sz1 | exact sz2 | exact sz3 | exact sz4 | exact sz5 | exact sz6 | exact sz7 | exact sz8 | exact sz10 | exact sz11 | exact sz12 | exact sz14 | omega | decide | (simp only [List.length_cons, List.length_nil]; omega)) | ((with_reducible show (_ : Int) ≤ _); first | omega | decide) | ((with_reducible show (_ : Int) < _); first | omega | decide) | ((with_reducible show (_ : Nat) < _); omega)) | ((fail_if_success (with_reducible show (_ : Nat) ≤ _)); (fail_if_success (with_reducible show (_ : Int) ≤ _)); (fail_if_success (with_reducible show (_ : Int) < _)); (fail_if_success (with_reducible show (_ : Nat) < _)); first | exact kv_str _ | exact kv_int _ | rfl | assumption | exact flat_strs _ | exact Lv.get (by assumption) 0 rfl | exact Lv.get (by assumption) 1 rfl | exact Lv.get (by assumption) 2 rfl | exact Lv.get (by assumption) 3 rfl | exact Lv.get (by assumption) 4 rfl | exact Lv.get (by assumption) 5 rfl | exact Lv.get (by assumption) 6 rfl | exact SqL.of (Lv.get (by assumption) 0 rfl) | exact SqL.of (Lv.get (by assumption) 1 rfl) | exact SqL.of (Lv.get (by assumption) 2 rfl) | exact SqL.of (Lv.get (by assumption) 3 rfl) | exact SqL.of (Lv.get (by assumption) 4 rfl) | exact SqL.of (Lv.get (by assumption) 5 rfl) | exact Or.inl (SqL.of (Lv.get (by assumption) 0 rfl)) | exact Or.inl (SqL.of (Lv.get (by assumption) 1 rfl)) | exact Or.inl (SqL.of (Lv.get (by assumption) 2 rfl)) | exact Or.inl (SqL.of (Lv.get (by assumption) 3 rfl)) | exact Or.inl (SqL.of (Lv.get (by assumption) 4 rfl)) | exact Or.inl (SqL.of (Lv.get (by assumption) 5 rfl)) | exact ⟨_, SqL.of (Lv.get (by assumption) 0 rfl)⟩ | exact ⟨_, SqL.of (Lv.get (by assumption) 1 rfl)⟩ | exact ⟨_, SqL.of (Lv.get (by assumption) 2 rfl)⟩ | exact ⟨_, SqL.of (Lv.get (by assumption) 3 rfl)⟩ | exact ⟨_, SqL.of (Lv.get (by assumption) 4 rfl)⟩ | exact ⟨_, SqL.of (Lv.get (by assumption) 5 rfl)⟩ | exact Or.inl ⟨_, SqL.of (Lv.get (by assumption) 0 rfl), rfl⟩ | exact Or.inl ⟨_, SqL.of (Lv.get (by assumption) 1 rfl), rfl⟩ | exact Or.inl ⟨_, SqL.of (Lv.get (by assumption) 2 rfl), rfl⟩ | exact Or.inl ⟨_, SqL.of (Lv.get (by assumption) 3 rfl), rfl⟩ | exact Or.inl ⟨_, SqL.of (Lv.get (by assumption) 4 rfl), rfl⟩ | exact Or.inl ⟨_, SqL.of (Lv.get (by assumption) 5 rfl), rfl⟩ | exact Or.inl ⟨rfl, _, SqL.of (Lv.get (by assumption) 0 rfl)⟩ | exact Or.inl ⟨rfl, _, SqL.of (Lv.get (by assumption) 1 rfl)⟩ | exact Or.inl ⟨rfl, _, SqL.of (Lv.get (by assumption) 2 rfl)⟩ | exact Or.inl ⟨rfl, _, SqL.of (Lv.get (by assumption) 3 rfl)⟩ | exact Or.inl ⟨rfl, _, SqL.of (Lv.get (by assumption) 4 rfl)⟩ | exact Or.inl ⟨rfl, _, SqL.of (Lv.get (by assumption) 5 rfl)⟩ | exact Or.inr (SqT.of (Lv.get (by assumption) 0 rfl)) | exact Or.inr (SqT.of (Lv.get (by assumption) 1 rfl)) | exact Or.inr (SqT.of (Lv.get (by assumption) 2 rfl)) | exact Or.inr (SqT.of (Lv.get (by assumption) 3 rfl)) | exact SqT.of (Lv.get (by assumption) 0 rfl) | exact SqT.of (Lv.get (by assumption) 1 rfl) | exact SqT.of (Lv.get (by assumption) 2 rfl) | exact dgetN (Lv.get (by assumption) 0 rfl) (by assumption) | exact dgetN (Lv.get (by assumption) 1 rfl) (by assumption) | exact dgetN (Lv.get (by assumption) 2 rfl) (by assumption) | exact dgetN (Lv.get (by assumption) 3 rfl) (by assumption) | exact dgetN (Lv.get (by assumption) 4 rfl) (by assumption) | exact Or.inl (by assumption) | exact Or.inr (by assumption) | decide | ((with_reducible show _ ∧ _); omega)))) | ((fail_if_success (with_reducible apply @Exists.intro (Nat → _))); (with_reducible apply Exists.intro))))
local macro_rules
  | `(tactic| wide_line with al $lv:ident $l:ident $nl:ident $H:ident $lv1:ident $s1:ident) => `(tactic| (intro $l:ident $nl:ident; generalize he : upd _ _ _ = $H:ident; have $lv1:ident := Lv.alE $lv $nl he; have $s1:ident := sameE $nl he; clear he; (try dsimp only at $lv1:ident)))
  | `(tactic| wide_line with alx $lv:ident $nl:ident $H:ident $lv1:ident $s1:ident) => `(tactic| (generalize he : upd _ _ _ = $H:ident; have $lv1:ident := Lv.alE $lv $nl he; have $s1:ident := sameE $nl he; clear he; (try dsimp only at $lv1:ident)))
  | `(tactic| wide_line with sts $lv:ident $i:num $H:ident $lv1:ident $s0:ident $np:ident $s1:ident) => `(tactic| (generalize he : upd _ _ _ = $H:ident; have $lv1:ident := Lv.stE $lv $i rfl he; have $s1:ident := sameN $s0 $np he; clear he; (try dsimp only at $lv1:ident)))
  | `(tactic| wide_line with stx $lv:ident $H:ident $lv1:ident $d1:ident) => `(tactic| (generalize he : upd _ _ _ = $H:ident; have $lv1:ident := Lv.stE $lv 0 rfl he; have $d1:ident := SameD.storeE (Lv.get $lv 0 rfl) he; clear he; (try dsimp only at $lv1:ident)))
  | `(tactic| wide_line with st $lv:ident $i:num $H:ident $lv1:ident) => `(tactic| (generalize he : upd _ _ _ = $H:ident; have $lv1:ident := Lv.stE $lv $i rfl he; clear he; (try dsimp only at $lv1:ident)))
  | `(tactic| wide_line with stk $lv:ident $i:num $H:ident $lv1:ident $k1:ident) => `(tactic| (generalize he : upd _ _ _ = $H:ident; have $lv1:ident := Lv.stE $lv $i rfl he; have $k1:ident := KeepT.st (Lv.get $lv $i rfl) he; clear he; (try dsimp only at $lv1:ident)))
section
theorem few_ties {ns : List Str} {ts : List (Str × Str)} (pk : PlanOk 12 ns ts) : ts.length ≤ 66 := by
  have h := nodup_len (ns := ((List.range 12).flatMap fun j => (List.range j).map fun i => (i, j)).map fun q => pairS (ns.getD q.1 "") (ns.getD q.2 "")) pk.dif fun x hx => ?_
  · rw [List.length_map, List.length_map] at h
    exact Nat.le_trans h (by decide +kernel)
  · obtain ⟨t, ht, rfl⟩ := List.mem_map.mp hx
    obtain ⟨m1, m2, ne⟩ := pk.tie t ht
    obtain ⟨i, hi⟩ := List.getElem?_of_mem m1
    obtain ⟨j, hj⟩ := List.getElem?_of_mem m2
    have li := (List.getElem?_eq_some_iff.mp hi).1
    have lj := (List.getElem?_eq_some_iff.mp hj).1
    have mo := pk.most
    have ei : ns.getD i "" = t.1 := by rw [List.getD_eq_getElem?_getD, hi]; rfl
    have ej : ns.getD j "" = t.2 := by rw [List.getD_eq_getElem?_getD, hj]; rfl
    have nij : i ≠ j := fun z => by subst z; rw [hi] at hj; exact ne (Option.some.inj hj)
    by_cases c : i < j
    · exact List.mem_map.mpr ⟨(i, j), mem_pairs12 (by decide) ⟨c, by show j < 12; omega⟩, by dsimp only; rw [ei, ej]; rfl⟩
    · exact List.mem_map.mpr ⟨(j, i), mem_pairs12 (by decide) ⟨by show j < i; omega, by show i < 12; omega⟩, by dsimp only; rw [ei, ej, pairS_sw]; rfl⟩
theorem risingS_le : ∀ {r : List Str} {p : Str}, risingS p r = true → (∀ x ∈ r, p.cps.toList ≤ x.cps.toList) ∧ r.Pairwise fun a b => a.cps.toList ≤ b.cps.toList
  | [], _, _ => ⟨(fun _ z => nomatch z), List.Pairwise.nil⟩
  | x :: r, p, h => by
    have h : (!ltCps x.cps.toList p.cps.toList && risingS x r) = true := h
    rw [Bool.and_eq_true, Bool.not_eq_true', ltCps_eq, decide_eq_false_iff_not] at h
    obtain ⟨h1, h2⟩ := h
    obtain ⟨g1, g2⟩ := risingS_le h2
    have px : p.cps.toList ≤ x.cps.toList := List.not_lt.mp h1
    refine ⟨fun y hy => ?_, List.pairwise_cons.mpr ⟨g1, g2⟩⟩
    rcases List.mem_cons.mp hy with rfl | hy
    · exact px
    · exact List.le_trans px (g1 y hy)
theorem sortedS_le : ∀ {l : List Str}, sortedS l = true → l.Pairwise fun a b => a.cps.toList ≤ b.cps.toList
  | [], _ => List.Pairwise.nil
  | _ :: _, h => let ⟨g1, g2⟩ := risingS_le h; List.pairwise_cons.mpr ⟨g1, g2⟩
theorem sorted_eq {ys zs ks ls : List Str} (h1 : ys.Perm ks) (h2 : sortedS ys = true) (h3 : zs.Perm ls) (h4 : sortedS zs = true) : ys = zs ↔ ks.Perm ls := by
  constructor
  · rintro rfl
    exact h1.symm.trans h3
  · intro h
    exact List.Perm.eq_of_pairwise (fun a b _ _ h1 h2 => str_ext (List.le_antisymm h1 h2)) (sortedS_le h2) (sortedS_le h4) (h1.trans (h.trans h3.symm))
theorem pair_mem {ts : List (Str × Str)} {x y : Str} : pairP (x, y) ∈ ts.map pairP ↔ (x, y) ∈ ts ∨ (y, x) ∈ ts := by
  constructor
  · intro h
    obtain ⟨t, ht, e⟩ := List.mem_map.mp h
    rcases pairP_eq.mp e with rfl | z
    · exact .inl ht
    · obtain ⟨a, b⟩ := t
      cases z
      exact .inr ht
  · rintro (h | h)
    · exact List.mem_map.mpr ⟨_, h, rfl⟩
    · exact List.mem_map.mpr ⟨_, h, pairP_eq.mpr (.inr rfl)⟩
theorem seen_mem {ns : List Str} {ts : List (Str × Str)} {p q : Str} : q ∈ seenOf ns ts p ↔ q ∈ ns ∧ (q = p ∨ pairP (p, q) ∈ ts.map pairP) := by
  have := sees_alt (ns := ns) (ts := ts) p q
  unfold seenOf
  rw [List.mem_filter]
  show q ∈ ns ∧ seesB ts p q = true ↔ _
  rw [this, Bool.or_eq_true, Bool.or_eq_true, decide_eq_true_eq, decide_eq_true_eq, decide_eq_true_eq, pair_mem]
  constructor
  · rintro ⟨h1, h2 | h2 | h2⟩
    · exact ⟨h1, .inr (.inl h2)⟩
    · exact ⟨h1, .inr (.inr h2)⟩
    · exact ⟨h1, .inl h2⟩
  · rintro ⟨h1, h2 | h2 | h2⟩
    · exact ⟨h1, .inr (.inr h2)⟩
    · exact ⟨h1, .inl h2⟩
    · exact ⟨h1, .inr (.inl h2)⟩
theorem near_iff {n m : Nat} {ns ms : List Str} {ts us : List (Str × Str)} (p1 : PlanOk n ns ts) (p2 : PlanOk m ms us) : eqW ns ms ts us = true ↔ ns.Perm ms ∧ ∀ p ∈ ns, (seenOf ns ts p).Perm (seenOf ms us p) := by
  rw [eqW_iff]
  refine and_congr_right fun hp => ?_
  have nf : ∀ {l : List Str} {us : List (Str × Str)} {p : Str}, l.Nodup → (seenOf l us p).Nodup := fun h => h.sublist List.filter_sublist
  constructor
  · intro h p _
    refine (List.perm_ext_iff_of_nodup (nf p1.nd) (nf p2.nd)).mpr fun q => ?_
    rw [seen_mem, seen_mem, hp.mem_iff, h.mem_iff]
  · intro h
    refine (List.perm_ext_iff_of_nodup p1.dif p2.dif).mpr fun k => ?_
    have half : ∀ {x y : Str}, x ∈ ns → y ∈ ns → x ≠ y → (pairP (x, y) ∈ ts.map pairP ↔ pairP (x, y) ∈ us.map pairP) := fun {x y} hx hy ne => by
      have e := (h x hx).mem_iff (a := y)
      rw [seen_mem, seen_mem, ← hp.mem_iff] at e
      constructor
      · intro z; exact ((e.mp ⟨hy, .inr z⟩).2).resolve_left fun w => ne w.symm
      · intro z; exact ((e.mpr ⟨hy, .inr z⟩).2).resolve_left fun w => ne w.symm
    constructor
    · intro z
      obtain ⟨t, ht, rfl⟩ := List.mem_map.mp z
      obtain ⟨a1, a2, a3⟩ := p1.tie t ht
      exact (half a1 a2 a3).mp z
    · intro z
      obtain ⟨t, ht, rfl⟩ := List.mem_map.mp z
      obtain ⟨a1, a2, a3⟩ := p2.tie t ht
      exact (half (hp.mem_iff.mpr a1) (hp.mem_iff.mpr a2) a3).mpr z
theorem PlanOk.sub {n : Nat} {ns : List Str} {ts us : List (Str × Str)} (h : PlanOk n ns ts) (s : us.Sublist ts) : PlanOk n ns us :=
  ⟨h.one, h.most, h.nd, h.nm, fun t ht => h.tie t (s.subset ht), h.dif.sublist (s.map _), Nat.le_trans s.length_le h.few⟩
theorem PlanOk.put {n : Nat} {ns : List Str} {ts : List (Str × Str)} (h : PlanOk n ns ts) {u : Str × Str} (hu : u.1 ∈ ns ∧ u.2 ∈ ns ∧ u.1 ≠ u.2) (hn : pairP u ∉ ts.map pairP) (few : ts.length < 75) : PlanOk n ns (ts ++ [u]) :=
  ⟨h.one, h.most, h.nd, h.nm, fun t ht => (List.mem_append.mp ht).elim (h.tie t) fun z => List.mem_singleton.mp z ▸ hu, by
    rw [List.map_append]
    refine List.nodup_append.mpr ⟨h.dif, (by simp), fun x hx y hy e => ?_⟩
    rw [List.map_singleton, List.mem_singleton] at hy
    exact hn (hy ▸ e ▸ hx), by rw [List.length_append, List.length_singleton]; omega⟩
theorem PlanOk.turn {n : Nat} {ns : List Str} {ts us : List (Str × Str)} (h : PlanOk n ns ts) (e : us.map pairP = ts.map pairP) (g : ∀ u ∈ us, u ∈ ts ∨ (u.2, u.1) ∈ ts) : PlanOk n ns us :=
  ⟨h.one, h.most, h.nd, h.nm, fun t ht => (g t ht).elim (h.tie t) fun z => let ⟨a, b, c⟩ := h.tie _ z; ⟨b, a, fun w => c w.symm⟩, e ▸ h.dif, by have := congrArg List.length e; rw [List.length_map, List.length_map] at this; rw [this]; exact h.few⟩
end
end Pw

set_option Elab.async false
set_option linter.all false
set_option maxRecDepth 100000
set_option maxHeartbeats 4000000
namespace Pw
open PySem PySem.Spec PyProof.Rows L2 Ct
local macro_rules | `(tactic| wide_line) => `(tactic| repeat ((fail_if_success (with_reducible refine at_while ?_)); (fail_if_success (with_reducible refine at_while1 ?_)); (conv => whnf); first | ((with_reducible refine And.intro ?_ ?_); focus (first | (first | ((with_reducible show (_ : Nat) ≤ _); first | exact sz0 | exact sz1 | exact sz2 | exact sz3 | exact sz4 | exact sz5 | exact sz6 | exact sz7 | exact sz8 | exact sz10 | exact sz11 | exact sz12 | exact sz14 | omega | decide | (simp only [List.length_cons, List.length_nil]; omega)) | ((with_reducible show (_ : Int) ≤ _); first | omega | decide) | ((with_reducible show (_ : Int) < _); first | omega | decide) | ((with_reducible show (_ : Nat) < _); omega)) | ((fail_if_success (with_reducible show (_ : Nat) ≤ _)); (fail_if_success (with_reducible show (_ : Int) ≤ _)); (fail_if_success (with_reducible show (_ : Int) < _)); (fail_if_success (with_reducible show (_ : Nat) < _)); first | exact kv_str _ | exact kv_int _ | rfl | assumption | exact flat_strs _ | exact Lv.get (by assumption) 0 rfl | exact Lv.get (by assumption) 1 rfl | exact Lv.get (by assumption) 2 rfl | exact Lv.get (by assumption) 3 rfl | exact Lv.get (by assumption) 4 rfl | exact Lv.get (by assumption) 5 rfl | exact Lv.get (by assumption) 6 rfl | exact SqL.of (Lv.get (by assumption) 0 rfl) | exact SqL.of (Lv.get (by assumption) 1 rfl) | exact SqL.of (Lv.get (by assumption) 2 rfl) | exact SqL.of (Lv.get (by assumption) 3 rfl) | exact SqL.of (Lv.get (by assumption) 4 rfl) | exact SqL.of (Lv.get (by assumption) 5 rfl) | exact Or.inl (SqL.of (Lv.get (by assumption) 0 rfl)) | exact Or.inl (SqL.of (Lv.get (by assumption) 1 rfl)) | exact Or.inl (SqL.of (Lv.get (by assumption) 2 rfl)) | exact Or.inl (SqL.of (Lv.get (by assumption) 3 rfl)) | exact Or.inl (SqL.of (Lv.get (by assumption) 4 rfl)) | exact Or.inl (SqL.of (Lv.get (by assumption) 5 rfl)) | exact ⟨_, SqL.of (Lv.get (by assumption) 0 rfl)⟩ | exact ⟨_, SqL.of (Lv.get (by assumption) 1 rfl)⟩ | exact ⟨_, SqL.of (Lv.get (by assumption) 2 rfl)⟩ | exact ⟨_, SqL.of (Lv.get (by assumption) 3 rfl)⟩ | exact ⟨_, SqL.of (Lv.get (by assumption) 4 rfl)⟩ | exact ⟨_, SqL.of (Lv.get (by assumption) 5 rfl)⟩ | exact Or.inl ⟨_, SqL.of (Lv.get (by assumption) 0 rfl), rfl⟩ | exact Or.inl ⟨_, SqL.of (Lv.get (by assumption) 1 rfl), rfl⟩ | exact Or.inl ⟨_, SqL.of (Lv.get (by assumption) 2 rfl), rfl⟩ | exact Or.inl ⟨_, SqL.of (Lv.get (by assumption) 3 rfl), rfl⟩ | exact Or.inl ⟨_, SqL.of (Lv.get (by assumption) 4 rfl), rfl⟩ | exact Or.inl ⟨_, SqL.of (Lv.get (by assumption) 5 rfl), rfl⟩ | exact Or.inl ⟨rfl, _, SqL.of (Lv.get (by assumption) 0 rfl)⟩ | exact Or.inl ⟨rfl, _, SqL.of (Lv.get (by assumption) 1 rfl)⟩ | exact Or.inl ⟨rfl, _, SqL.of (Lv.get (by assumption) 2 rfl)⟩ | exact Or.inl ⟨rfl, _, SqL.of (Lv.get (by assumption) 3 rfl)⟩ | exact Or.inl ⟨rfl, _, SqL.of (Lv.get (by assumption) 4 rfl)⟩ | exact Or.inl ⟨rfl, _, SqL.of (Lv.get (by assumption) 5 rfl)⟩ | exact Or.inr (SqT.of (Lv.get (by assumption) 0 rfl)) | exact Or.inr (SqT.of (Lv.get (by assumption) 1 rfl)) | exact Or.inr (SqT.of (Lv.get (by assumption) 2 rfl)) | exact Or.inr (SqT.of (Lv.get (by assumption) 3 rfl)) | exact SqT.of (Lv.get (by assumption) 0 rfl) | exact SqT.of (Lv.get (by assumption) 1 rfl) | exact SqT.of (Lv.get (by assumption) 2 rfl) | exact dgetN (Lv.get (by assumption) 0 rfl) (by assumption) | exact dgetN (Lv.get (by assumption) 1 rfl) (by assumption) | exact dgetN (Lv.get (by assumption) 2 rfl) (by assumption) | exact dgetN (Lv.get (by assumption) 3 rfl) (by assumption) | exact dgetN (Lv.get (by assumption) 4 rfl) (by assumption) | exact Or.inl (by assumption) | exact Or.inr (by assumption) | decide | ((with_reducible show _ ∧ _); omega)))) | ((fail_if_success (with_reducible apply @Exists.intro (Nat → _))); (with_reducible apply Exists.intro))))
local macro_rules
  | `(tactic| wide_line with al $lv:ident $l:ident $nl:ident $H:ident $lv1:ident $s1:ident) => `(tactic| (intro $l:ident $nl:ident; generalize he : upd _ _ _ = $H:ident; have $lv1:ident := Lv.alE $lv $nl he; have $s1:ident := sameE $nl he; clear he; (try dsimp only at $lv1:ident)))
  | `(tactic| wide_line with alx $lv:ident $nl:ident $H:ident $lv1:ident $s1:ident) => `(tactic| (generalize he : upd _ _ _ = $H:ident; have $lv1:ident := Lv.alE $lv $nl he; have $s1:ident := sameE $nl he; clear he; (try dsimp only at $lv1:ident)))
  | `(tactic| wide_line with sts $lv:ident $i:num $H:ident $lv1:ident $s0:ident $np:ident $s1:ident) => `(tactic| (generalize he : upd _ _ _ = $H:ident; have $lv1:ident := Lv.stE $lv $i rfl he; have $s1:ident := sameN $s0 $np he; clear he; (try dsimp only at $lv1:ident)))
  | `(tactic| wide_line with stx $lv:ident $H:ident $lv1:ident $d1:ident) => `(tactic| (generalize he : upd _ _ _ = $H:ident; have $lv1:ident := Lv.stE $lv 0 rfl he; have $d1:ident := SameD.storeE (Lv.get $lv 0 rfl) he; clear he; (try dsimp only at $lv1:ident)))
  | `(tactic| wide_line with st $lv:ident $i:num $H:ident $lv1:ident) => `(tactic| (generalize he : upd _ _ _ = $H:ident; have $lv1:ident := Lv.stE $lv $i rfl he; clear he; (try dsimp only at $lv1:ident)))
  | `(tactic| wide_line with stk $lv:ident $i:num $H:ident $lv1:ident $k1:ident) => `(tactic| (generalize he : upd _ _ _ = $H:ident; have $lv1:ident := Lv.stE $lv $i rfl he; have $k1:ident := KeepT.st (Lv.get $lv $i rfl) he; clear he; (try dsimp only at $lv1:ident)))
section
variable {X : Cx}
theorem pe_backk {K : PySem.W.Frag} (hK : X.K = K) {e : Expr} {te : TE} {k : Nat} {p1 p2 p3 pos : Pos} (he : PE X e te) : PE X (.Subscript e (.Slice none none (some (.UnaryOp .USub (.Constant (.int 1) k p1) p2)) p3) pos) (tBack K te) := by
  subst hK
  exact pe_back he
theorem cr_sortedSk {K : PySem.W.Frag} (hK : X.K = K) : CallR X (.builtin "sorted") (rSortedS K) := by
  subst hK
  exact cr_sortedS
end
theorem SqKeep.tup {K : PySem.W.Frag} {a : Addr} {xs : List V} {H H' : Hp} (h0 : SqT K H a xs) (h1 : H' a = some (.tup xs)) (ex : SqL K H a xs → SqT K H a xs → False) : SqKeep K a xs H H' := ⟨fun h => (ex h h0).elim, fun _ => SqT.of h1⟩
/-- the ties of a plan, in a turned sequence or the other way round -/
theorem paired_drop {α β : Type} {R : α → β → Prop} : ∀ (i : Nat) {xs : List α} {ps : List β}, Paired R xs ps → Paired R (xs.drop i) (ps.drop i)
  | 0, _, _, h => h
  | i + 1, _, _, .nil => by rw [List.drop_nil, List.drop_nil]; exact .nil
  | i + 1, _, _, .cons a t => by rw [List.drop_succ_cons, List.drop_succ_cons]; exact paired_drop i t
theorem sl_tail {K : PySem.W.Frag} {H : Hp} {Q : VK} {a : Addr} {xs : List V} (h : SqT K H a xs) (l : 1 ≤ xs.length) (k : ∀ p, H p = none → Q (.ref p) (upd H p (.tup (xs.drop 1)))) : rSlA K (.ref a) (some 1) none H Q := by
  refine ⟨a, xs, rfl, h, fun c => ?_, fun _ p np => ?_⟩
  · have e : HT.sIx xs.length 0 (some (1 : Int)) = min 1 xs.length := HT.sIx_nat _ _ 1
    have := c.1
    omega
  · have e := cut_drop xs 1
    have := k p np
    rw [← e] at this
    exact this
theorem sl_init {K : PySem.W.Frag} {H : Hp} {Q : VK} {a : Addr} {xs : List V} (h : SqT K H a xs) (l : 1 ≤ xs.length) (k : ∀ p, H p = none → Q (.ref p) (upd H p (.tup (xs.take (xs.length - 1))))) : rSlA K (.ref a) none (some (-1)) H Q := by
  have e : HT.sIx xs.length xs.length (some (-1 : Int)) = xs.length - 1 := by
    show (if (-1 : Int) < 0 then ((-1 : Int) + (xs.length : Nat)).toNat else min (-1 : Int).toNat xs.length) = _
    rw [if_pos (by decide)]
    omega
  refine ⟨a, xs, rfl, h, fun c => ?_, fun _ p np => ?_⟩
  · have := c.2
    omega
  · have := k p np
    unfold cutV
    rw [e, HT.sIx_none, Nat.sub_zero, List.drop_zero]
    exact this
theorem cat_one {K : PySem.W.Frag} {H : Hp} {Q : VK} {a b : Addr} {xs : List V} {z : V} (h1 : SqT K H a xs) (h2 : SqT K H b [z]) (l : xs.length ≤ 1000) (k : ∀ c H', Same H H' → SqT K H' c (xs ++ [z]) → Q (.ref c) H') : rCatA K (.ref a) (.ref b) H Q := by
  refine ⟨a, b, xs, [z], rfl, rfl, h1, h2, by rw [List.length_singleton, sizeLine_eq]; omega, fun e => ?_, fun _ e => (nomatch e), fun _ _ p np => k p _ (same_new np) (SqT.of upd_same)⟩
  subst e
  exact k b H (.refl _) h2
theorem eqv_nil (ts : List (Str × Str)) : PyData.eqv (.tuple (ts.map tieDat)) (.tuple []) = ts.isEmpty := by
  cases ts with
  | nil => rfl
  | cons a b => rfl
def spCompared (K : PySem.W.Frag) (C : Addr) : Sp := fun vs H Q _ => ∃ (p x t : Addr) (r m : Int) (R : Hp) (n : Nat) (ns : List Str) (ts : List (Str × Str)), vs = [.ref p, .ref x, .ref t] ∧ H p = some (.lst [.int r, .int m]) ∧ SrcOk r m ∧ Same R H ∧ R p = none ∧ WebAt K C R x ns ts ∧ PlanD R t ns ts ∧ PlanOk n ns ts ∧ n ≤ 12 ∧
  ∀ (r' m' : Int) (H' : Hp), SrcOk r' m' → (∀ b o, b ≠ p → H b = some o → H' b = some o) → H' p = some (.lst [.int r', .int m']) → Q (.bl true) H'
section
variable {P : Program} {w : World} {K : PySem.W.Frag} {mg : Str → Option Value} {base : Heap} {C CP CS CT CN : Addr}
abbrev sLawCompared : Stmt := top ix_law_compared
theorem scLawCompared : FnScope ["source", "web", "plan", "turned", "tie", "same", "less", "free", "one", "two", "near", "second", "other", "far", "is_same", "thing"] ["source", "web", "plan"] (defScope sLawCompared) := ⟨rfl, rfl, rfl, by decide +kernel, rfl, by decide +kernel, by decide +kernel⟩
theorem has_law_compared (T : Bn mg) (X : WC K C) (I : WI K C) (nf : PySem.W.notFirst K C (.ref C) = true) (kn : ∀ T ∈ (["NoneType", "tuple", "str", "int", "dict", "bool"] : List String), PySem.W.kitOne K (.type T) (.ref C) = some false) (D : DFE K mg "_law_compared" sLawCompared ["source", "web", "plan"]) (hQ : HasEq2 P w K mg base C) (hW : HasW P w K mg base 4 C CP CS CT) (hM_sees : HasM P w K mg base (L2.CX P w) 5 C "sees" ["self", "place"] (spSees K C CN))
    (h_law_draw : Has P w K mg base CX0 1 "_law_draw" ["source", "span"] spDraw) (h_law_pick : Has P w K mg base CX0 2 "_law_pick" ["source", "things"] (spPick2 K)) (h_law_mixed : Has P w K mg base CX0 2 "_law_mixed" ["source", "things"] (spMixed K)) (h_law_plan : Has P w K mg base CX0 5 "_law_plan" ["source", "most"] spPlan)
    (h_law_near : Has P w K mg base CX0 1 "_law_near" ["plan"] (spNear K)) (h_law_web : Has P w K mg base CX0 6 "_law_web" ["plan"] (spWebOf K C)) : Has P w K mg base CX0 7 "_law_compared" ["source", "web", "plan"] (spCompared K C) := by
  refine has_of D scLawCompared (fun vs H Q E h => ?_) (fun f cdv A outer s H vs Q E hr h => ?_)
  · obtain ⟨p, x, t, r, m, R, n, ns, ts, rfl, _⟩ := h; rfl
  · obtain ⟨p, x, t, r, m, R, n, ns, ts, rfl, hp, ok, sR, np, hw, hpl, pk, hn, k⟩ := h
    have nd := scLawCompared.nd
    refine ⟨_, (pss_cons (ps_setLc (i := 3) (own := [("tie", 4)]) (g := gName 4) (tt := tYes) rfl nd rfl rfl (sw_true rfl rfl rfl (by decide +kernel)) (pi_sq (pe_ix ix_tup (pv 2) pe_int (fun _ _ => rfl))) (blkOk_by (own := [("tie", 4)]) (N := ["source", "web", "plan", "turned", "tie", "same", "less", "free", "one", "two", "near", "second", "other", "far", "is_same", "thing"]) (sc := defScope sLawCompared) (by decide +kernel)) (fun _ _ _ _ _ => (pg_name (i := 4) nd rfl (by first | exact Or.inl rfl | exact Or.inr rfl))) (fun _ _ _ _ _ => pts_nil) (fun _ _ _ _ _ => (pe_ifExp (pt_cmpR op_eq (pe_h h_law_draw hr (by decide) rfl (pa_cons (pv 0) (pa_cons pe_int pa_nil))) pe_int (by first | exact nomark _ | rfl)) (pe_backk (K := K) rfl (pv 4)) (pv 4))))
    (pss_cons (ps_sv 5 nd (pe_web hW hr (by decide) rfl (pa_cons (pe_h h_law_mixed hr (by decide) rfl (pa_cons (pv 0) (pa_cons (pe_ix ix_tup (pv 2) pe_int (fun _ _ => rfl)) pa_nil))) (pa_cons (pe_h h_law_mixed hr (by decide) rfl (pa_cons (pv 0) (pa_cons (pv 3) pa_nil))) pa_nil))))
    (pss_cons (ps_if (PW.pt (pw_or (pt_not (pt_cmpR (op_eqWW (K := K) rfl hQ X I hr (by decide) nf) (pv 1) (pv 5) (by first | exact nomark _ | rfl))) (pw_or (pt_cmpR (op_neWW (K := K) rfl hQ hr (by decide)) (pv 1) (pv 5) (by first | exact nomark _ | rfl)) (pw_or1 (pt_not (pt_cmpR (op_eqWW (K := K) rfl hQ X I hr (by decide) nf) (pv 5) (pv 1) (by first | exact nomark _ | rfl))))))) (pss_one (ps_ret pe_bl)) pss_nil)
    (pss_cons (ps_join (ps_for PassesOwn.never rfl (pi_list (pe_ifExp (pt_cmpR (op_neD hr.units) (pe_ix ix_tup (pv 2) pe_int (fun _ _ => rfl)) (pe_tup pa_nil) (by first | exact nomark _ | rfl)) (pe_lst (pa_cons (pe_slice sl_tupA (pe_ix ix_tup (pv 2) pe_int (fun _ _ => rfl)) (po_some pe_int) po_none) (pa_cons (pe_slice sl_tupA (pe_ix ix_tup (pv 2) pe_int (fun _ _ => rfl)) po_none (po_some (pe_un un_neg pe_int))) pa_nil))) (pe_lst pa_nil))) (pg_name (i := 6) nd rfl (by first | exact Or.inl rfl | exact Or.inr rfl)) (pss_one (ps_if (PW.pt (pw_or (pt_cmpR (op_eqWW (K := K) rfl hQ X I hr (by decide) nf) (pv 1) (pe_web hW hr (by decide) rfl (pa_cons (pe_ix ix_tup (pv 2) pe_int (fun _ _ => rfl)) (pa_cons (pv 6) pa_nil))) (by first | exact nomark _ | rfl)) (pw_or1 (pt_not (pt_cmpR (op_neWW (K := K) rfl hQ hr (by decide)) (pv 1) (pe_web hW hr (by decide) rfl (pa_cons (pe_ix ix_tup (pv 2) pe_int (fun _ _ => rfl)) (pa_cons (pv 6) pa_nil))) (by first | exact nomark _ | rfl)))))) (pss_one (ps_ret pe_bl)) pss_nil))))
    (pss_cons (ps_sv 7 nd (pe_lst pa_nil))
    (pss_cons (ps_for PassesOwn.never rfl (pi_sq (pe_ix ix_tup (pv 2) pe_int (fun _ _ => rfl))) (pg_name (i := 8) nd rfl (by first | exact Or.inl rfl | exact Or.inr rfl)) (pss_one (ps_sv 7 nd (pe_op op_cat (pv 7) (pe_lc (own := [("two", 9)]) (g := gName 9) rfl nd (pi_sq (pe_ix ix_tup (pv 2) pe_int (fun _ _ => rfl))) (blkOk_by (own := [("two", 9)]) (N := ["source", "web", "plan", "turned", "tie", "same", "less", "free", "one", "two", "near", "second", "other", "far", "is_same", "thing"]) (sc := defScope sLawCompared) (by decide +kernel)) (fun _ _ _ _ _ => (pg_name (i := 9) nd rfl (by first | exact Or.inl rfl | exact Or.inr rfl))) (fun _ _ _ _ _ => (pts_one (PW.pt (pw_and (pt_cmpR op_ne (pv 8) (pv 9) (by first | exact nomark _ | rfl)) (pw_and1 (pt_cmpR (op_notIn_seqk (K := K) rfl) (pv 9) (pe_hML hM_sees X.cls hr (by decide) (pv 1) (pa_cons (pv 8) pa_nil)) (by first | exact nomark _ | rfl))))))) (fun _ _ _ _ _ => (pe_tup (pa_cons (pv 8) (pa_cons (pv 9) pa_nil)))))))))
    (pss_cons (ps_join (ps_if (PW.pt (pw_and (pt_cmpR (op_neNil hr.units) (pv 7) (pe_lst pa_nil) (by first | exact nomark _ | rfl)) (pw_and1 (pt_cmpR (op_neD hr.units) (pe_ix ix_tup (pv 2) pe_int (fun _ _ => rfl)) (pe_tup pa_nil) (by first | exact nomark _ | rfl))))) (pss_one (ps_if (pt_cmpR (op_eqWW (K := K) rfl hQ X I hr (by decide) nf) (pv 1) (pe_web hW hr (by decide) rfl (pa_cons (pe_ix ix_tup (pv 2) pe_int (fun _ _ => rfl)) (pa_cons (pe_op op_catA (pe_slice sl_tupA (pe_ix ix_tup (pv 2) pe_int (fun _ _ => rfl)) (po_some pe_int) po_none) (pe_tup (pa_cons (pe_h h_law_pick hr (by decide) rfl (pa_cons (pv 0) (pa_cons (pv 7) pa_nil))) pa_nil))) pa_nil))) (by first | exact nomark _ | rfl)) (pss_one (ps_ret pe_bl)) pss_nil)) pss_nil))
    (pss_cons (ps_asg (pe_tup (pa_cons (pe_h h_law_near hr (by decide) rfl (pa_cons (pv 2) pa_nil)) (pa_cons (pe_h h_law_plan hr (by decide) rfl (pa_cons (pv 0) (pa_cons pe_int pa_nil))) pa_nil))) (pg_tup (n := 2) rfl (pgs_cons (pg_name (i := 10) nd rfl (by first | exact Or.inl rfl | exact Or.inr rfl)) (pgs_cons (pg_name (i := 11) nd rfl (by first | exact Or.inl rfl | exact Or.inr rfl)) pgs_nil))))
    (pss_cons (ps_asg (pe_tup (pa_cons (pe_h h_law_web hr (by decide) rfl (pa_cons (pv 11) pa_nil)) (pa_cons (pe_h h_law_near hr (by decide) rfl (pa_cons (pv 11) pa_nil)) pa_nil))) (pg_tup (n := 2) rfl (pgs_cons (pg_name (i := 12) nd rfl (by first | exact Or.inl rfl | exact Or.inr rfl)) (pgs_cons (pg_name (i := 13) nd rfl (by first | exact Or.inl rfl | exact Or.inr rfl)) pgs_nil))))
    (pss_cons (ps_sv 14 nd (pe_cmpR (op_eqD hr.units) (pe_callB (call_sortedD rfl) (by rfl) T.z_sorted (by decide +kernel) (pa_cons (pv 10) pa_nil)) (pe_callB (call_sortedD rfl) (by rfl) T.z_sorted (by decide +kernel) (pa_cons (pv 13) pa_nil)) (by first | exact nomark _ | rfl)))
    (pss_cons (ps_join (ps_if (pt_val (pv 14)) (pss_one (ps_lock (ps_sv 14 nd (pe_cmpR (op_eqNil hr.units) (pe_lc (own := [("one", 8)]) (g := gName 8) rfl nd (pi_keys (pv 10)) (blkOk_by (own := [("one", 8)]) (N := ["source", "web", "plan", "turned", "tie", "same", "less", "free", "one", "two", "near", "second", "other", "far", "is_same", "thing"]) (sc := defScope sLawCompared) (by decide +kernel)) (fun _ _ _ _ _ => (pg_name (i := 8) nd rfl (by first | exact Or.inl rfl | exact Or.inr rfl))) (fun _ _ _ _ _ => (pts_one (pt_cmpR (op_neDk (K := K) rfl hr.units) (pe_callB (cr_sortedSk (K := K) rfl) (by rfl) T.z_sorted (by decide +kernel) (pa_cons (pe_dget (hu_of hr) (pv 10) (pv 8) (fun _ _ => rfl)) pa_nil)) (pe_callB (cr_sortedSk (K := K) rfl) (by rfl) T.z_sorted (by decide +kernel) (pa_cons (pe_dget (hu_of hr) (pv 13) (pv 8) (fun _ _ => rfl)) pa_nil)) (by first | exact nomark _ | rfl)))) (fun _ _ _ _ _ => (pv 8))) (pe_lst pa_nil) (by first | exact nomark _ | rfl))))) pss_nil))
    (pss_cons (ps_if (pt_cmpR op_ne (pe_cmpR (op_eqWW (K := K) rfl hQ X I hr (by decide) nf) (pv 1) (pv 12) (by first | exact nomark _ | rfl)) (pv 14) (by first | exact nomark _ | rfl)) (pss_one (ps_ret pe_bl)) pss_nil)
    (pss_one (ps_ret (pe_cmpR (op_eqNil hr.units) (pe_lc (own := [("thing", 15)]) (g := gName 15) rfl nd (pi_list (pe_lst (pa_cons pe_non (pa_cons (pv 2) (pa_cons (pe_ix ix_tup (pv 2) pe_int (fun _ _ => rfl)) (pa_cons pe_str (pa_cons pe_int (pa_cons pe_dnewK (pa_cons pe_bl pa_nil))))))))) (blkOk_by (own := [("thing", 15)]) (N := ["source", "web", "plan", "turned", "tie", "same", "less", "free", "one", "two", "near", "second", "other", "far", "is_same", "thing"]) (sc := defScope sLawCompared) (by decide +kernel)) (fun _ _ _ _ _ => (pg_name (i := 15) nd rfl (by first | exact Or.inl rfl | exact Or.inr rfl))) (fun _ _ _ _ _ => (pts_one (pt_cmpR (op_eqWD (K := K) rfl hQ hr (by decide)) (pv 1) (pv 15) (by first | exact nomark _ | rfl)))) (fun _ _ _ _ _ => (pv 15))) (pe_lst pa_nil) (by first | exact nomark _ | rfl)))))))))))))))), ?_⟩
    have up : ∀ {H' : Hp}, (∀ b o, b ≠ p → H b = some o → H' b = some o) → Same R H' := fun f b o e => f b o (fun z => by rw [z, np] at e; cases e) (sR b o e)
    obtain ⟨tn, tt, txs, h1, h2, h3, h4⟩ := hpl
    have lv := Lv.one hp
    have nl : ns.length ≤ 12 := Nat.le_trans pk.most hn
    have tl : ts.length ≤ 75 := pk.few
    have xl : txs.length = ts.length := paired_len h4
    refine ⟨_, rfl, t, _, 1, .ref tt, rfl, rfl, SqT.of (sR _ _ h1), rfl, tt, txs, rfl, .inr (SqT.of (sR _ _ h3)), ?_⟩
    intro J G ex hG wk L nL
    refine lc_it wk (fun i H' => Hold (∃ (ys : List V) (us : List (Str × Str)) (r m : Int), Lv H [p] H' [(L, .lst ys), (p, .lst [.int r, .int m])] ∧ SrcOk r m ∧ TiesT H' ys us ∧ us.length ≤ i ∧ us.map pairP = (ts.take i).map pairP ∧ ∀ u ∈ us, u ∈ ts ∨ (u.2, u.1) ∈ ts)) ⟨[], [], r, m, lv.al nL, ok, .nil, Nat.zero_le _, rfl, fun _ z => nomatch z⟩
      (fun i H' _ ⟨_, _, _, _, z, _⟩ => hG H' (SqKeep.tup (SqT.of (sR _ _ h3)) (up z.off _ _ h3) ex)) ?_ ?_
    · rintro i x H1 H2 hi ⟨ys, us, r2, m2, lv2, ok2, tu2, ul2, ue2, um2⟩ ⟨rfl, ex1⟩
      obtain ⟨u, hu, b, rfl, hb⟩ := paired_at h4 ex1
      have hb2 := up lv2.off _ _ hb
      have tk : ts.take (i + 1) = ts.take i ++ [u] := take_next2 hu
      have uin := List.mem_of_getElem? hu
      have yl := paired_len tu2
      refine ⟨rfl, _, rfl, p, r2, m2, 2, rfl, lv2.get 1 rfl, ok2, by decide, by decide, fun r3 m3 k3 ok3 z0 z1 => ?_⟩
      wide_line with stk lv2 1 H3 lv3 kt3
      refine ⟨rfl, _, rfl, ?_⟩
      refine ite2 (fun c => ?_) (fun c => ?_)
      · refine ⟨_, rfl, b, _, _, rfl, SqT.of (kt3 _ _ hb2), fun q nq => ?_⟩
        wide_line with alx lv3 nq H4 lv4 s4
        refine ⟨_, lv4.get 1 rfl, by rw [sizeLine_eq]; omega, ?_⟩
        wide_line with stk lv4 1 H5 lv5 kt5
        refine ⟨_, us ++ [(u.2, u.1)], _, _, lv5.picks [1, 2] rfl (by decide) (by simp), ok3, paired_app (tu2.keep (kt3.trans ((KeepT.same s4).trans kt5))) (.cons ⟨q, rfl, kt5 _ _ (lv4.get 0 rfl)⟩ .nil), by rw [List.length_append, List.length_singleton]; omega, ?_, fun w hw => ?_⟩
        · rw [tk, List.map_append, List.map_append, ue2, List.map_singleton, List.map_singleton, show pairP (u.2, u.1) = pairP u from pairP_eq.mpr (.inr rfl)]
        · rcases List.mem_append.mp hw with z | z
          · exact um2 w z
          · rw [List.mem_singleton.mp z]; exact .inr uin
      · refine ⟨_, rfl, _, lv3.get 0 rfl, by rw [sizeLine_eq]; omega, ?_⟩
        wide_line with stk lv3 0 H5 lv5 kt5
        refine ⟨_, us ++ [u], _, _, lv5, ok3, paired_app (tu2.keep (kt3.trans kt5)) (.cons ⟨b, rfl, kt5 _ _ (kt3 _ _ hb2)⟩ .nil), by rw [List.length_append, List.length_singleton]; omega, ?_, fun w hw => ?_⟩
        · rw [tk, List.map_append, List.map_append, ue2]
        · rcases List.mem_append.mp hw with z | z
          · exact um2 w z
          · rw [List.mem_singleton.mp z]; exact .inl uin
    · rintro H1 ⟨ys, us, r1, m1, lv1, ok1, tu1, ul1, ue1, um1⟩
      rw [xl, List.take_length] at ue1
      have g1 := up lv1.off _ _ h1
      have g2 := up lv1.off _ _ h2
      refine ⟨_, rfl, _, rfl, t, _, 0, .ref tn, rfl, rfl, SqT.of g1, rfl, p, tn, r1, m1, _, rfl, lv1.get 1 rfl, ok1, .inr (SqT.of g2), by rw [List.length_map]; omega, fun r2 m2 zs L2 H2 ok2 perm2 off2 src2 nL2 hL2 => ?_⟩
      obtain ⟨ms, pm, rfl⟩ := strs_perm perm2
      have kt2 : KeepT H1 H2 := .off (lv1.get 1 rfl) (fun _ z => nomatch z) off2
      have lv2 := lv1.stn 1 rfl src2 off2 nL2 hL2
      refine ⟨_, rfl, _, rfl, p, L, r2, m2, ys, rfl, src2, ok2, .inl (SqL.of (lv2.get 1 rfl)), by have := paired_len tu1; omega, fun r3 m3 zs L3 H3 ok3 perm3 off3 src3 nL3 hL3 => ?_⟩
      obtain ⟨vs, pv_, tv⟩ := paired_perm perm3 (tu1.keep kt2)
      have tv : TiesT H2 zs vs := tv
      have kt3 : KeepT H2 H3 := .off src2 (fun _ z => nomatch z) off3
      have lv3 := lv2.stn 2 rfl src3 off3 nL3 hL3
      have pkt : PlanOk n ns us := pk.turn ue1 um1
      have pkm : PlanOk n ms vs := pkt.perm pm pv_
      refine ⟨L2, L3, n, ms, zs, vs, rfl, .inl (SqL.of (lv3.get 1 rfl)), .inl (SqL.of (lv3.get 0 rfl)), tiesT_at (tv.keep kt3), pkm, hn, fun y H4 s4 ny wy => ?_⟩
      have e1 : eqW ns ms ts vs = true := eqW_turn pm pv_ ue1
      have f4 : ∀ b o, b ≠ p → H b = some o → H4 b = some o := fun b o z e => s4 _ _ (lv3.off b o z e)
      have hw4 := WebAt.same (up f4) hw
      have wy4 := WebAt.same noLst_sub wy
      have src4 := s4 _ _ src3
      refine ⟨_, rfl, _, rfl, x, y, ns, ms, ts, vs, rfl, rfl, hw4, wy4, pk.good, pkm.good, _, rfl, ?_⟩
      rw [e1, if_neg (by decide)]
      refine iteF ⟨_, rfl, _, rfl, x, y, ns, ms, ts, vs, rfl, rfl, hw4, wy4, pk.good, pkm.good, _, rfl, ?_⟩
      rw [e1, if_pos rfl]
      refine iteF ⟨_, rfl, _, rfl, y, x, ms, ns, vs, ts, rfl, rfl, wy4, hw4, pkm.good, pk.good, _, rfl, ?_⟩
      rw [eqW_comm e1, if_neg (by decide)]
      refine iteF ?_
      have okt : ∀ u ∈ ts, okTie u := fun u hu => ⟨pk.nm _ (pk.tie u hu).1, pk.nm _ (pk.tie u hu).2.1⟩
      have dT : ∀ {H' : Hp}, (∀ b o, b ≠ p → H b = some o → H' b = some o) → Dp K H' (.ref tt) (.tuple (ts.map tieDat)) := fun f => .tup (SqT.of (up f _ _ h3)) (dp_ties (tiesT_at (h4.keep (KeepT.same (up f)))))
      have hpn : H p ≠ none := by rw [hp]; exact fun z => nomatch z
      refine ⟨fun σ H' => Hold (∃ u6 : Option V, σ = [some (.ref p), some (.ref x), some (.ref t), some (.ref L), none, some (.ref y), u6, none, none, none, none, none, none, none, none, none] ∧ (∀ b o, b ≠ p → H b = some o → H' b = some o) ∧ H' p = some (.lst [.int r3, .int m3])), ?_, ?_⟩
      · refine ⟨_, rfl, t, _, 1, .ref tt, rfl, rfl, SqT.of (up f4 _ _ h1), rfl, sz0, fun e0 ne0 => ?_⟩
        generalize he : upd H4 e0 _ = H5
        have s5 : Same H4 H5 := sameE ne0 he
        have e5 := upd_at he
        clear he
        have f5 : ∀ b o, b ≠ p → H b = some o → H5 b = some o := fun b o z e => s5 _ _ (f4 b o z e)
        refine ⟨.tuple (ts.map tieDat), .tuple [], dT f5, .tup (SqT.of e5) .nil, shaped_tup (shaped_ties okt), by decide +kernel, _, rfl, ?_⟩
        rw [eqv_nil]
        cases hts : ts.isEmpty with
        | true =>
          refine iteF ⟨sz0, fun l0 nl0 => ?_⟩
          generalize he : upd H5 l0 _ = H6
          have s6 : Same H5 H6 := sameE nl0 he
          have e6 := upd_at he
          clear he
          have e7 := e6
          refine ⟨l0, rfl, ⟨_, SqL.of e6⟩, ?_⟩
          refine for_list (K := K) (a := l0) (xs := []) (fun k σ H' => σ = [some (.ref p), some (.ref x), some (.ref t), some (.ref L), none, some (.ref y), none, none, none, none, none, none, none, none, none, none] ∧ H' = H6) ⟨rfl, rfl⟩ (fun k σ H' _ ⟨_, z⟩ => by rw [z]; exact SqL.of e6) (fun k v σ H' hv => by cases hv) ?_
          rintro σ H' ⟨rfl, rfl⟩
          exact ⟨none, rfl, fun b o z e => s6 _ _ (f5 b o z e), s6 _ _ (s5 _ _ src4)⟩
        | false =>
          have tne : 1 ≤ ts.length := by cases ts with
            | nil => cases hts
            | cons a b => rw [List.length_cons]; omega
          refine iteT ⟨_, rfl, t, _, 1, .ref tt, rfl, rfl, SqT.of (up f5 _ _ h1), rfl, 1, rfl, ?_⟩
          unfold tNoPart
          refine sl_tail (SqT.of (up f5 _ _ h3)) (by omega) fun a1 na1 => ?_
          generalize he : upd H5 a1 _ = H6
          have s6 : Same H5 H6 := sameE na1 he
          have e6 := upd_at he
          clear he
          have f6 : ∀ b o, b ≠ p → H b = some o → H6 b = some o := fun b o z e => s6 _ _ (f5 b o z e)
          refine ⟨_, rfl, t, _, 1, .ref tt, rfl, rfl, SqT.of (up f6 _ _ h1), rfl, 1, rfl, -1, rfl, sl_init (SqT.of (up f6 _ _ h3)) (by omega) fun a2 na2 => ?_⟩
          generalize he : upd H6 a2 _ = H7
          have s7 : Same H6 H7 := sameE na2 he
          have e7 := upd_at he
          clear he
          refine ⟨sz2, fun la nla => ?_⟩
          generalize he : upd H7 la _ = H8
          have s8 : Same H7 H8 := sameE nla he
          have e8 := upd_at he
          clear he
          have f8 : ∀ b o, b ≠ p → H b = some o → H8 b = some o := fun b o z e => s8 _ _ (s7 _ _ (f6 b o z e))
          have src8 := s8 _ _ (s7 _ _ (s6 _ _ (s5 _ _ src4)))
          have ones : ∀ v ∈ [V.ref a1, V.ref a2], ∃ la ys us, v = .ref la ∧ H8 la = some (.tup ys) ∧ TiesT H8 ys us ∧ us.Sublist ts ∧ us.length ≠ ts.length := fun v hv => by
            have tq := h4.keep (KeepT.same (up f8))
            rcases List.mem_cons.mp hv with rfl | hv
            · exact ⟨a1, _, _, rfl, s8 _ _ (s7 _ _ e6), paired_drop 1 tq, List.drop_sublist _ _, by rw [List.length_drop]; omega⟩
            · rw [List.mem_singleton.mp hv]
              exact ⟨a2, _, _, rfl, s8 _ _ e7, paired_take (txs.length - 1) tq, List.take_sublist _ _, by rw [List.length_take]; omega⟩
          refine ⟨la, rfl, ⟨_, SqL.of e8⟩, ?_⟩
          refine for_list (K := K) (a := la) (xs := [.ref a1, .ref a2]) (fun k σ H' => Hold (∃ u6 : Option V, σ = [some (.ref p), some (.ref x), some (.ref t), some (.ref L), none, some (.ref y), u6, none, none, none, none, none, none, none, none, none] ∧ Same H8 H')) ⟨none, rfl, .refl _⟩ (fun k σ H' _ ⟨_, _, z⟩ => SqL.of (z _ _ e8)) ?_ ?_
          · rintro k0 v σ H9 hv ⟨u6, rfl, s9⟩
            obtain ⟨lx, ys, us, rfl, hl, tu, sb, ne⟩ := ones v (List.mem_of_getElem? hv)
            have f9 : ∀ b o, b ≠ p → H b = some o → H9 b = some o := fun b o z e => s9 _ _ (f8 b o z e)
            have pku := pk.sub sb
            have e9 := eqW_len (ns := ns) (ms := ns) (fun z : ts.length = us.length => ne z.symm)
            refine ⟨_, rfl, _, rfl, t, _, 0, .ref tn, rfl, rfl, SqT.of (up f9 _ _ h1), rfl, _, rfl, tn, lx, n, ns, ys, us, rfl, .inr (SqT.of (up f9 _ _ h2)), .inr (SqT.of (s9 _ _ hl)), tiesT_at (tu.keep (KeepT.same s9)), pku, hn, fun z H10 s10 nz wz => ?_⟩
            have f10 : ∀ b o, b ≠ p → H b = some o → H10 b = some o := fun b o z e => s10 _ _ (f9 b o z e)
            refine ⟨x, z, ns, ns, ts, us, rfl, rfl, WebAt.same (up f10) hw, WebAt.same noLst_sub wz, pk.good, pku.good, _, rfl, ?_⟩
            rw [e9, if_neg (by decide)]
            refine iteF ⟨_, rfl, _, rfl, t, _, 0, .ref tn, rfl, rfl, SqT.of (up f10 _ _ h1), rfl, _, rfl, tn, lx, n, ns, ys, us, rfl, .inr (SqT.of (up f10 _ _ h2)), .inr (SqT.of (s10 _ _ (s9 _ _ hl))), tiesT_at (tu.keep (KeepT.same (s9.trans s10))), pku, hn, fun z H11 s11 nz wz => ?_⟩
            have f11 : ∀ b o, b ≠ p → H b = some o → H11 b = some o := fun b o z e => s11 _ _ (f10 b o z e)
            refine ⟨x, z, ns, ns, ts, us, rfl, rfl, WebAt.same (up f11) hw, WebAt.same noLst_sub wz, pk.good, pku.good, _, rfl, ?_⟩
            rw [e9, if_pos rfl]
            refine iteF ?_
            exact ⟨_, rfl, s9.trans (s10.trans s11)⟩
          · rintro σ H9 ⟨u6, rfl, s9⟩
            exact ⟨u6, rfl, fun b o z e => s9 _ _ (f8 b o z e), s9 _ _ src8⟩
      · rintro σ H5 ⟨u6, rfl, f5, src5⟩
        refine ⟨sz0, fun fl0 nfl0 => ?_⟩
        have lvf := (Lv.zero H5).al (o := .lst []) nfl0
        have g1 := up f5 _ _ h1
        have g2 := up f5 _ _ h2
        have t0 : SqT K (upd H5 fl0 (.lst [])) tn (ns.map V.str) := SqT.of (lvf.sm _ _ g2)
        have Fu : ∀ {H' : Hp}, Same H5 H' → ∀ b o, b ≠ p → H b = some o → H' b = some o := fun s b o z e => s _ _ (f5 b o z e)
        refine ⟨_, rfl, t, _, 0, .ref tn, rfl, rfl, SqT.of (lvf.sm _ _ g1), rfl, tn, ns.map V.str, rfl, .inr t0, ?_⟩
        intro J G ex hG wk
        refine for_it wk (fun i σ H' => Hold (∃ (fl : Addr) (ys : List V) (es : List (Str × Str)) (u6 u8 u9 : Option V), σ = [some (.ref p), some (.ref x), some (.ref t), some (.ref L), none, some (.ref y), u6, some (.ref fl), u8, u9, none, none, none, none, none, none] ∧ Lv H5 [] H' [(fl, .lst ys)] ∧ TiesT H' ys es ∧ es.length ≤ 12 * i ∧ ∀ u ∈ es, u.1 ∈ ns ∧ u.2 ∈ ns ∧ u.1 ≠ u.2 ∧ pairP u ∉ ts.map pairP))
          ⟨fl0, [], [], _, _, _, rfl, lvf, .nil, Nat.zero_le _, fun _ z => nomatch z⟩ (fun i σ H' _ ⟨_, _, _, _, _, _, _, z, _⟩ => hG H' (SqKeep.tup t0 (z.sm _ _ g2) ex)) ?_ ?_
        · rintro i v σ H6 H7 hi ⟨fl, ys, es, u6, u8, u9, rfl, lv7, ty7, el7, eo7⟩ ⟨rfl, ex1⟩
          obtain ⟨q1, hq1, rfl⟩ := str_at ex1
          have q1in := List.mem_of_getElem? hq1
          have i12 : i < 12 := by have := (List.getElem?_eq_some_iff.mp hq1).1; omega
          have yl7 := paired_len ty7
          have t7 : SqT K H7 tn (ns.map V.str) := SqT.of (lv7.sm _ _ g2)
          refine ⟨_, rfl, _, rfl, t, _, 0, .ref tn, rfl, rfl, SqT.of (lv7.sm _ _ g1), rfl, tn, ns.map V.str, rfl, .inr t7, ?_⟩
          intro J2 G2 ex2 hG2 wk2 L9 nL9
          have lvL := lv7.al (o := .lst []) nL9
          refine lc_it wk2 (fun j H' => Hold (∃ (zs : List V) (gs : List (Str × Str)), Lv H5 [] H' [(L9, .lst zs), (fl, .lst ys)] ∧ KeepT H7 H' ∧ TiesT H' zs gs ∧ gs.length ≤ j ∧ ∀ u ∈ gs, u.1 ∈ ns ∧ u.2 ∈ ns ∧ u.1 ≠ u.2 ∧ pairP u ∉ ts.map pairP)) ⟨[], [], lvL, KeepT.same (same_new nL9), .nil, Nat.zero_le _, fun _ z => nomatch z⟩ (fun j H' _ ⟨_, _, z2, _⟩ => hG2 H' (SqKeep.tup t7 (z2.sm _ _ g2) ex2)) ?_ ?_
          · rintro j v H8 H9 hj ⟨zs, gs, lv9, k79, tz9, gl9, go9⟩ ⟨rfl, ex3⟩
            obtain ⟨q2, hq2, rfl⟩ := str_at ex3
            have q2in := List.mem_of_getElem? hq2
            have j12 : j < 12 := by have := (List.getElem?_eq_some_iff.mp hq2).1; omega
            have zl9 := paired_len tz9
            have no : ∀ {H' : Hp}, Same H9 H' → Hold (∃ (zs : List V) (gs : List (Str × Str)), Lv H5 [] H' [(L9, .lst zs), (fl, .lst ys)] ∧ KeepT H7 H' ∧ TiesT H' zs gs ∧ gs.length ≤ j + 1 ∧ ∀ u ∈ gs, u.1 ∈ ns ∧ u.2 ∈ ns ∧ u.1 ≠ u.2 ∧ pairP u ∉ ts.map pairP) := fun s => ⟨zs, gs, lv9.same s, k79.trans (KeepT.same s), tz9.keep (KeepT.same s), by omega, go9⟩
            refine ⟨rfl, _, rfl, _, rfl, rfl, _, rfl, ?_⟩
            refine ite2 (fun c => ?_) (fun c => iteF (no (.refl _)))
            have hw9 := WebAt.same (up (Fu lv9.sm)) hw
            obtain ⟨dx9, fs9, hx9, no9, _⟩ := webNo hw9
            refine ⟨_, rfl, _, rfl, x, dx9, fs9, rfl, hx9, no9, _, rfl, x, .str q1, ns, ts, .str q1, rfl, hw9, .str q1, fun z e hz l H10 s10 nl10 hl10 => ?_, fun z => absurd (amid_str.mpr q1in) (by rw [z]; decide)⟩
            cases e
            refine ⟨l, _, rfl, .inl (SqL.of hl10), rfl, flat_strs _, _, rfl, ?_⟩
            rw [if_pos rfl, in_strs]
            refine ite2 (fun c2 => ?_) (fun c2 => no s10)
            have c2 : q2 ∉ seenOf ns ts q1 := by simpa using c2
            have c1 : q1 ≠ q2 := by
              intro z
              rw [z] at c
              simp at c
            have nw : pairP (q1, q2) ∉ ts.map pairP := fun z => c2 (seen_mem.mpr ⟨q2in, .inr z⟩)
            have lv10 := lv9.same s10
            refine ⟨_, rfl, _, rfl, sz2, fun T2 n2 => ?_⟩
            wide_line with alx lv10 n2 H11 lv11 s11
            refine ⟨_, lv11.get 1 rfl, by rw [sizeLine_eq]; omega, ?_⟩
            wide_line with stk lv11 1 H12 lv12 kt12
            have kt := (KeepT.same (s10.trans s11)).trans kt12
            refine ⟨_, gs ++ [(q1, q2)], lv12.picks [1, 2] rfl (by decide) (by simp), k79.trans kt, paired_app (tz9.keep kt) (.cons ⟨T2, rfl, kt12 _ _ (lv11.get 0 rfl)⟩ .nil), by rw [List.length_append, List.length_singleton]; omega, fun u hu => ?_⟩
            rcases List.mem_append.mp hu with z | z
            · exact go9 u z
            · rw [List.mem_singleton.mp z]; exact ⟨q1in, q2in, c1, nw⟩
          · rintro H8 ⟨zs, gs, lv8, k78, tz8, gl8, go8⟩
            have gl8 : gs.length ≤ 12 := by rw [List.length_map] at gl8; omega
            have zl8 := paired_len tz8
            refine ⟨fl, L9, _, _, rfl, rfl, lv8.get 1 rfl, lv8.get 0 rfl, by rw [sizeLine_eq]; omega, fun f2 nf2 => ?_⟩
            wide_line with alx lv8 nf2 H9 lv9 s9
            refine ⟨f2, _, es ++ gs, _, _, _, rfl, lv9.picks [0] rfl (by decide) (by simp), paired_app (ty7.keep (k78.trans (KeepT.same s9))) (tz8.keep (KeepT.same s9)), by rw [List.length_append]; omega, fun u hu => ?_⟩
            rcases List.mem_append.mp hu with z | z
            · exact eo7 u z
            · exact go8 u z
        · rintro σ H6 ⟨fl, ys, es, u6, u8, u9, rfl, lv6, ty6, el6, eo6⟩
          have yl6 := paired_len ty6
          have el6 : es.length ≤ 144 := by rw [List.length_map] at el6; omega
          have flp : fl ≠ p := fun z => by have := lv6.fresh 0 rfl (fun z => nomatch z); rw [z, src5] at this; cases this
          have f6 := Fu lv6.sm
          have src6 := lv6.sm _ _ src5
          refine ⟨fun σ' H' => Hold (∃ r m : Int, σ' = [some (.ref p), some (.ref x), some (.ref t), some (.ref L), none, some (.ref y), u6, some (.ref fl), u8, u9, none, none, none, none, none, none] ∧ (∀ b o, b ≠ p → H b = some o → H' b = some o) ∧ H' p = some (.lst [.int r, .int m]) ∧ SrcOk r m), ?_, ?_⟩
          · have stay : ∀ {H' : Hp}, Same H6 H' → Hold (∃ r m : Int, [some (V.ref p), some (.ref x), some (.ref t), some (.ref L), none, some (.ref y), u6, some (.ref fl), u8, u9, none, none, none, none, none, none] = [some (V.ref p), some (.ref x), some (.ref t), some (.ref L), none, some (.ref y), u6, some (.ref fl), u8, u9, none, none, none, none, none, none] ∧ (∀ b o, b ≠ p → H b = some o → H' b = some o) ∧ H' p = some (.lst [.int r, .int m]) ∧ SrcOk r m) := fun s => ⟨r3, m3, rfl, fun b o z e => s _ _ (f6 b o z e), s _ _ src6, ok3⟩
            refine ⟨_, rfl, sz0, fun l2 n2 => ?_⟩
            generalize he : upd H6 l2 _ = H7
            have s7 : Same H6 H7 := sameE n2 he
            have e7 := upd_at he
            clear he
            refine ⟨_, _, _, rfl, rfl, SqL.of (s7 _ _ (lv6.get 0 rfl)), SqL.of e7, ?_⟩
            refine ⟨_, rfl, ?_⟩
            refine ite2 (fun c => ?_) (fun c => iteF (stay s7))
            have yne : ys ≠ [] := fun z => by rw [z] at c; exact absurd c (by decide)
            have f7 : ∀ b o, b ≠ p → H b = some o → H7 b = some o := fun b o z e => s7 _ _ (f6 b o z e)
            refine ⟨_, rfl, t, _, 1, .ref tt, rfl, rfl, SqT.of (up f7 _ _ h1), rfl, sz0, fun e0 ne0 => ?_⟩
            generalize he : upd H7 e0 _ = H8
            have s8 : Same H7 H8 := sameE ne0 he
            have e8 := upd_at he
            clear he
            have s68 := s7.trans s8
            have f8 : ∀ b o, b ≠ p → H b = some o → H8 b = some o := fun b o z e => s8 _ _ (f7 b o z e)
            refine ⟨.tuple (ts.map tieDat), .tuple [], dT f8, .tup (SqT.of e8) .nil, shaped_tup (shaped_ties okt), by decide +kernel, ?_⟩
            rw [eqv_nil]
            refine ⟨_, rfl, ?_⟩
            refine ite2 (fun c2 => ?_) (fun c2 => stay s68)
            have tne : 1 ≤ ts.length := by cases ts with
              | nil => exact absurd c2 (by decide)
              | cons a b => rw [List.length_cons]; omega
            refine ⟨_, rfl, _, rfl, t, _, 0, .ref tn, rfl, rfl, SqT.of (up f8 _ _ h1), rfl, _, rfl, t, _, 1, .ref tt, rfl, rfl, SqT.of (up f8 _ _ h1), rfl, 1, rfl, ?_⟩
            unfold tNoPart
            refine sl_tail (SqT.of (up f8 _ _ h3)) (by omega) fun a1 na1 => ?_
            generalize he : upd H8 a1 _ = H9
            have s9 : Same H8 H9 := sameE na1 he
            have e9 := upd_at he
            clear he
            have s69 := s68.trans s9
            have f9 : ∀ b o, b ≠ p → H b = some o → H9 b = some o := fun b o z e => s9 _ _ (f8 b o z e)
            refine ⟨_, rfl, _, rfl, .inl ⟨p, fl, r3, m3, ys, rfl, flp, s69 _ _ src6, ok3, .inl (SqL.of (s69 _ _ (lv6.get 0 rfl))), yne, by omega, fun r10 m10 v ok10 hv => ?_⟩⟩
            obtain ⟨iv, hiv⟩ := List.getElem?_of_mem hv
            obtain ⟨u, hu, b, rfl, hb⟩ := paired_at ty6 hiv
            obtain ⟨ux, uy, une, unw⟩ := eo6 u (List.mem_of_getElem? hu)
            generalize he : upd H9 p _ = H10
            have k10 : KeepT H9 H10 := KeepT.st (s69 _ _ src6) he
            have o10 : ∀ b o, b ≠ p → H9 b = some o → H10 b = some o := fun b o z e => by rw [← he, upd_ne z]; exact e
            have src10 := upd_at he
            clear he
            have f10 : ∀ b o, b ≠ p → H b = some o → H10 b = some o := fun b o z e => o10 b o z (f9 b o z e)
            refine ⟨sz1, fun b1 nb1 => ?_⟩
            generalize he : upd H10 b1 _ = H11
            have s11 : Same H10 H11 := sameE nb1 he
            have e11 := upd_at he
            clear he
            refine cat_one (SqT.of (s11 _ _ (k10 _ _ e9))) (SqT.of e11) (by rw [List.length_drop]; omega) fun cz H12 s12 hcz => ?_
            have f12 : ∀ b o, b ≠ p → H b = some o → H12 b = some o := fun b o z e => s12 _ _ (s11 _ _ (f10 b o z e))
            have pku : PlanOk n ns (ts.drop 1 ++ [u]) := (pk.sub (List.drop_sublist 1 ts)).put ⟨ux, uy, une⟩ (fun z => unw ((List.drop_sublist 1 ts).map pairP |>.subset z)) (by rw [List.length_drop]; omega)
            have tz : TiesT H12 (txs.drop 1 ++ [.ref b]) (ts.drop 1 ++ [u]) := paired_app (paired_drop 1 (h4.keep (KeepT.same (up f12)))) (.cons ⟨b, rfl, s12 _ _ (s11 _ _ (k10 _ _ (s69 _ _ hb)))⟩ .nil)
            refine ⟨tn, cz, n, ns, _, _, rfl, .inr (SqT.of (up f12 _ _ h2)), .inr hcz, tiesT_at tz, pku, hn, fun z H13 s13 nz wz => ?_⟩
            have f13 : ∀ b o, b ≠ p → H b = some o → H13 b = some o := fun b o z e => s13 _ _ (f12 b o z e)
            refine ⟨x, z, ns, ns, ts, _, rfl, rfl, WebAt.same (up f13) hw, WebAt.same noLst_sub wz, pk.good, pku.good, _, rfl, ?_⟩
            rw [eqW_new (List.mem_append_right _ (List.mem_singleton.mpr rfl)) unw, if_neg (by decide)]
            refine iteF ⟨r10, m10, rfl, f13, s13 _ _ (s12 _ _ (s11 _ _ src10)), ok10⟩
          · rintro σ H7 ⟨r7, m7, rfl, f7, src7, ok7⟩
            have g71 := up f7 _ _ h1
            have pl7 : PlanD H7 t ns ts := PlanD.keep (KeepT.same (up f7)) ⟨tn, tt, txs, h1, h2, h3, h4⟩
            refine ⟨_, rfl, t, n, ns, ts, rfl, pl7.at, pk, hn, fun D1 H8 s8 nD1 near1 => ?_⟩
            obtain ⟨lf, hD1, hlf⟩ := near1
            have src8 := s8 _ _ src7
            have D1p : D1 ≠ p := fun z => by rw [z, src7] at nD1; cases nD1
            refine ⟨_, rfl, p, r7, m7, 4, rfl, src8, ok7, by decide, by decide, fun r9 m9 ms us t2 tn2 tt2 xs2 H9 ok9 pk2 o9 src9 nt2 ht2 htn2 htt2 tu2 => ⟨sz2, fun tp ntp => ?_⟩⟩
            have pl9 : PlanD H9 t2 ms us := ⟨tn2, tt2, xs2, ht2, htn2, htt2, tu2⟩
            generalize he : upd H9 tp _ = H10
            have s10 : Same H9 H10 := sameE ntp he
            have e10 := upd_at he
            clear he
            refine ⟨tp, _, rfl, SqT.of e10, rfl, _, _, rfl, _, _, rfl, rfl, ?_⟩
            have pl10 := PlanD.keep (KeepT.same s10) pl9
            refine ⟨_, rfl, t2, 4, ms, us, rfl, pl10.at, pk2, by decide, fun z H11 s11 nz wz0 => ?_⟩
            have pl11 := PlanD.keep (KeepT.same s11) pl10
            refine ⟨_, rfl, t2, 4, ms, us, rfl, pl11.at, pk2, by decide, fun D2 H12 s12 nD2 near2 => ⟨sz2, fun tq ntq => ?_⟩⟩
            obtain ⟨lg, hD2, hlg⟩ := near2
            generalize he : upd H12 tq _ = H13
            have s13 : Same H12 H13 := sameE ntq he
            have e13 := upd_at he
            clear he
            refine ⟨tq, _, rfl, SqT.of e13, rfl, _, _, rfl, _, _, rfl, rfl, ?_⟩
            have s913 := s10.trans (s11.trans (s12.trans s13))
            have o13 : ∀ b o, b ≠ p → H8 b = some o → H13 b = some o := fun b o n e => s913 _ _ (o9 b o n e)
            have hD13 := o13 _ _ D1p hD1
            have hlf13 : ∀ q ∈ ns, H13 (lf q) = some (.lst ((seenOf ns ts q).map V.str)) := fun q hq => o13 _ _ (fun z => by have := (hlf q hq).2; rw [z, src7] at this; cases this) (hlf q hq).1
            have hE13 := s13 _ _ hD2
            have hlg13 : ∀ q ∈ ms, H13 (lg q) = some (.lst ((seenOf ms us q).map V.str)) := fun q hq => s13 _ _ (hlg q hq).1
            have dd : D2 ≠ D1 := fun z => by rw [z] at nD2; rw [s11 _ _ (s10 _ _ (o9 _ _ D1p hD1))] at nD2; cases nD2
            have f13 : ∀ b o, b ≠ p → H b = some o → H13 b = some o := fun b o n e => o13 b o n (s8 _ _ (f7 b o n e))
            have src13 := s913 _ _ src9
            have wz13 : WebAt K C H13 z ms us := WebAt.same (noLst_sub.trans (s12.trans s13)) wz0
            have lm : ms.length ≤ 12 := Nat.le_trans pk2.most (by decide)
            -- is_same
            have kk : ∀ (l : Str → Addr) (ns : List Str), (ns.map fun p => ((.inr p : Key), V.ref (l p))).map (·.1) = ns.map Sum.inr := fun l ns => by rw [List.map_map]; rfl
            refine ⟨_, rfl, D1, _, ns, rfl, .inl hD13, kk lf ns, by omega, fun ys1 q1 pm1 so1 nq1 => ?_⟩
            generalize he : upd H13 q1 _ = H14
            have s14 : Same H13 H14 := sameE nq1 he
            have e14 := upd_at he
            clear he
            refine ⟨_, rfl, D2, _, ms, rfl, .inl (s14 _ _ hE13), kk lg ms, by omega, fun zs1 q2 pm2 so2 nq2 => ?_⟩
            generalize he : upd H14 q2 _ = H15
            have s15 : Same H14 H15 := sameE nq2 he
            have e15 := upd_at he
            clear he
            have s1315 := s14.trans s15
            have oks : ∀ {l : List Str}, (∀ q ∈ l, okName q = true) → ∀ {k : List Str}, k.Perm l → ∀ q ∈ k, okName q = true := fun h _ pm q hq => h q (pm.mem_iff.mp hq)
            refine ⟨rowD ys1, rowD zs1, .lst (SqL.of (s15 _ _ e14)) (dp_strs _), .lst (SqL.of e15) (dp_strs _), shaped_row (oks pk.nm pm1), shaped_row (oks pk2.nm pm2), ?_⟩
            have hb1 : PyData.eqv (rowD ys1) (rowD zs1) = true ↔ ns.Perm ms := (eqvL_strs ys1 zs1).trans (sorted_eq pm1 so1 pm2 so2)
            generalize PyData.eqv (rowD ys1) (rowD zs1) = b1 at hb1
            refine ⟨fun σ' H' => σ' = [some (.ref p), some (.ref x), some (.ref t), some (.ref L), none, some (.ref y), u6, some (.ref fl), u8, u9, some (.ref D1), some (.ref t2), some (.ref z), some (.ref D2), some (.bl (eqW ns ms ts us)), none] ∧ Same H15 H', ?_, ?_⟩
            · refine ⟨_, rfl, b1, rfl, ?_⟩
              cases b1 with
              | false =>
                have : eqW ns ms ts us = false := Bool.eq_false_iff.mpr fun z => by have := hb1.mpr ((near_iff pk pk2).mp z).1; cases this
                rw [this]
                exact iteF ⟨rfl, .refl _⟩
              | true =>
                have pm := hb1.mp rfl
                refine iteT ⟨D1, _, s1315 _ _ hD13, trivial, fun od => ?_⟩
                generalize he : upd H15 D1 _ = H16
                have fz : H16 D1 = some (.frz od (.dK (ns.map fun p => ((.inr p : Key), V.ref (lf p))))) := upd_at he
                have o16 : ∀ b o, b ≠ D1 → H15 b = some o → H16 b = some o := fun b o n e => by rw [← he, upd_ne n]; exact e
                have b16 : ∀ b, b ≠ D1 → H16 b = H15 b := fun b n => by rw [← he, upd_ne n]
                clear he
                have g2 : ∀ q ∈ ns, H16 (lf q) = some (.lst ((seenOf ns ts q).map V.str)) := fun q hq => o16 _ _ (fun z => by have := hlf13 q hq; rw [z, hD13] at this; cases this) (s1315 _ _ (hlf13 q hq))
                have g3 : ∀ q ∈ ms, H16 (lg q) = some (.lst ((seenOf ms us q).map V.str)) := fun q hq => o16 _ _ (fun z => by have := hlg13 q hq; rw [z, hD13] at this; cases this) (s1315 _ _ (hlg13 q hq))
                have g4 := o16 _ _ dd (s1315 _ _ hE13)
                refine ⟨_, rfl, D1, od, rfl, .inl ⟨_, fz, fun L9 nL9 => ?_⟩⟩
                refine lc_it walk_keys (fun i H' => Hold (∃ zs : List V, Lv H16 [] H' [(L9, .lst zs)] ∧ zs.length ≤ i ∧ (zs.isEmpty = true ↔ ∀ q ∈ ns.take i, (seenOf ns ts q).Perm (seenOf ms us q)))) ⟨[], (Lv.zero H16).al nL9, Nat.le_refl _, ⟨fun _ q hq => (by simp at hq), fun _ => rfl⟩⟩ (fun i H' _ ⟨_, z, _⟩ => z.sm _ _ fz) ?_ ?_
                · rintro i v H17 H18 hi ⟨zs, lv, lz, ez⟩ ⟨rfl, k0, v0, hkv, rfl⟩
                  rw [List.getElem?_map] at hkv
                  obtain ⟨q, hq, e⟩ := Option.map_eq_some_iff.mp hkv
                  cases e
                  have qin := List.mem_of_getElem? hq
                  have qim := pm.mem_iff.mp qin
                  have i12 : i < 12 := by have := (List.getElem?_eq_some_iff.mp hq).1; omega
                  have tk : ns.take (i + 1) = ns.take i ++ [q] := take_next2 hq
                  have la : (seenOf ns ts q).length < 64 := by have : (seenOf ns ts q).length ≤ ns.length := List.length_filter_le _ _; omega
                  have lb : (seenOf ms us q).length < 64 := by have : (seenOf ms us q).length ≤ ms.length := List.length_filter_le _ _; omega
                  refine ⟨rfl, _, rfl, _, rfl, D1, .ref (lf q), rfl, .inl ⟨_, Sum.inr q, .inr ⟨od, lv.sm _ _ fz⟩, rfl, (near_val qin).symm⟩, lf q, _, rfl, SqL.of (lv.sm _ _ (g2 q qin)), la, fun ya qa pa soa nqa => ?_⟩
                  wide_line with alx lv nqa H19 lv19 s19
                  refine ⟨_, rfl, _, rfl, D2, .ref (lg q), rfl, dgetN (lv19.sm _ _ g4) (near_val qim), lg q, _, rfl, SqL.of (lv19.sm _ _ (g3 q qim)), lb, fun yb qb pb sob nqb => ?_⟩
                  wide_line with alx lv19 nqb H20 lv20 s20
                  refine ⟨rowD ya, rowD yb, .lst (SqL.of (lv20.get 1 rfl)) (dp_strs _), .lst (SqL.of (lv20.get 0 rfl)) (dp_strs _), shaped_row (oks (fun z hz => pk.nm z (List.mem_filter.mp hz).1) pa), shaped_row (oks (fun z hz => pk2.nm z (List.mem_filter.mp hz).1) pb), ?_⟩
                  have hb2 : PyData.eqv (rowD ya) (rowD yb) = true ↔ (seenOf ns ts q).Perm (seenOf ms us q) := (eqvL_strs ya yb).trans (sorted_eq pa soa pb sob)
                  generalize PyData.eqv (rowD ya) (rowD yb) = b2 at hb2
                  refine ⟨_, rfl, ?_⟩
                  cases b2 with
                  | true =>
                    refine iteF ⟨zs, lv20.picks [2] rfl (by decide) (by simp), by omega, ez.trans ⟨fun h z hz => ?_, fun h z hz => h z (by rw [tk]; exact List.mem_append_left _ hz)⟩⟩
                    rw [tk] at hz
                    rcases List.mem_append.mp hz with hz | hz
                    · exact h z hz
                    · rw [List.mem_singleton.mp hz]; exact hb2.mp rfl
                  | false =>
                    refine iteT ⟨_, rfl, _, lv20.get 2 rfl, by rw [sizeLine_eq]; omega, _, (lv20.stE 2 rfl rfl).picks [2] rfl (by decide) (by simp), by rw [List.length_append, List.length_singleton]; omega, ?_⟩
                    constructor
                    · intro h; simp at h
                    · intro h
                      have := hb2.mpr (h q (by rw [tk]; exact List.mem_append_right _ (List.mem_singleton.mpr rfl)))
                      cases this
                · rintro H17 ⟨zs, lv, lz, ez⟩
                  rw [List.length_map, List.take_length] at ez
                  refine ⟨sz0, fun l2 n2 => ?_⟩
                  wide_line with alx lv n2 H18 lv18 s18
                  refine ⟨_, _, _, rfl, rfl, SqL.of (lv18.get 1 rfl), SqL.of (lv18.get 0 rfl), ?_⟩
                  rw [if_neg (by decide)]
                  have e18 : zs.isEmpty = eqW ns ms ts us := Bool.eq_iff_iff.mpr (ez.trans ⟨fun h => (near_iff pk pk2).mpr ⟨pm, h⟩, fun h => ((near_iff pk pk2).mp h).2⟩)
                  rw [e18]
                  refine ⟨lv18.sm _ _ fz, rfl, fun b o e => ?_⟩
                  by_cases c : b = D1
                  · subst c
                    rw [s1315 _ _ hD13] at e
                    cases e
                    exact upd_same
                  · rw [upd_ne c]
                    exact lv18.sm _ _ (o16 _ _ c e)
            · rintro σ H16 ⟨rfl, s16⟩
              have f16 : ∀ b o, b ≠ p → H b = some o → H16 b = some o := fun b o n e => s16 _ _ (s1315 _ _ (f13 b o n e))
              have src16 := s16 _ _ (s1315 _ _ src13)
              have wz16 := WebAt.same (s1315.trans s16) wz13
              refine ⟨_, rfl, _, rfl, x, z, ns, ms, ts, us, rfl, rfl, WebAt.same (up f16) hw, wz16, pk.good, pk2.good, ?_⟩
              rw [if_neg (by decide)]
              refine ⟨_, rfl, rfl, ?_⟩
              rw [decide_eq_true rfl]
              refine ⟨_, rfl, iteF ?_⟩
              have g1 := up f16 _ _ h1
              refine ⟨_, rfl, _, rfl, t, _, 0, .ref tn, rfl, rfl, SqT.of g1, rfl, fun D3 nD3 => ?_⟩
              generalize he : upd H16 D3 _ = H17
              have s17 : Same H16 H17 := sameE nD3 he
              have e17 := upd_at he
              clear he
              refine ⟨sz7, fun lt nlt => ?_⟩
              generalize he : upd H17 lt _ = H18
              have s18 : Same H17 H18 := sameE nlt he
              have e18 := upd_at he
              clear he
              have s1618 := s17.trans s18
              obtain ⟨f0, fd0, F0, Z, B0⟩ := hQ.ex
              have tys : ∀ {H' : Hp}, Same H18 H' → ∀ v ∈ [V.non, .ref t, .ref tn, .str "a", .int 0, .ref D3, .bl true], ∃ T : String, TyX K H' v (.type T) ∧ PySem.W.notFirst K C (.type T) = true ∧ PySem.W.kitOne K (.type T) (.ref C) = some false := fun sH v hv => by
                have sA := s1618.trans sH
                simp only [List.mem_cons, List.not_mem_nil, or_false] at hv
                rcases hv with rfl | rfl | rfl | rfl | rfl | rfl | rfl
                · exact ⟨"NoneType", .base .non, Z.lo _ (by simp), kn _ (by simp)⟩
                · exact ⟨"tuple", .base (.tup (sA _ _ g1)), Z.lo _ (by simp), kn _ (by simp)⟩
                · exact ⟨"tuple", .base (.tup (sA _ _ (up f16 _ _ h2))), Z.lo _ (by simp), kn _ (by simp)⟩
                · exact ⟨"str", .base (.str _), Z.lo _ (by simp), kn _ (by simp)⟩
                · exact ⟨"int", .base (.int _), Z.lo _ (by simp), kn _ (by simp)⟩
                · exact ⟨"dict", .base (.dK (sH _ _ (s18 _ _ e17))), Z.lo _ (by simp), kn _ (by simp)⟩
                · exact ⟨"bool", .base (.bl _), Z.lo _ (by simp), kn _ (by simp)⟩
              refine ⟨lt, rfl, ⟨_, SqL.of e18⟩, fun L9 nL9 => ?_⟩
              refine lc_list (K := K) (a := lt) (xs := [V.non, .ref t, .ref tn, .str "a", .int 0, .ref D3, .bl true]) (fun i H' => Hold (Lv H18 [] H' [(L9, .lst [])])) ⟨(Lv.zero H18).al nL9⟩ (fun i H' _ ⟨z⟩ => SqL.of (z.sm _ _ e18)) ?_ ?_
              · rintro i v H19 hv ⟨lv⟩
                obtain ⟨T', ty, q1, q2⟩ := tys lv.sm v (List.mem_of_getElem? hv)
                exact ⟨rfl, _, rfl, _, rfl, x, ns, ts, .type T', rfl, WebAt.same ((up f16).trans (s1618.trans lv.sm)) hw, ty, q1, q2, _, rfl, iteF ⟨lv⟩⟩
              · rintro H19 ⟨lv⟩
                refine ⟨sz0, fun l2 n2 => ?_⟩
                wide_line with alx lv n2 H20 lv20 s20
                refine ⟨_, _, _, rfl, rfl, SqL.of (lv20.get 1 rfl), SqL.of (lv20.get 0 rfl), ?_⟩
                rw [if_neg (by decide)]
                have sZ := s1618.trans lv20.sm
                exact k r9 m9 H20 ok9 (fun b o n e => sZ _ _ (f16 b o n e)) (sZ _ _ src16)
end
end Pw

set_option Elab.async false
set_option linter.all false
set_option maxRecDepth 100000
set_option maxHeartbeats 4000000
namespace Pw
open PySem PySem.Spec PyProof.Rows L2 Ct
local macro_rules | `(tactic| wide_line) => `(tactic| repeat ((fail_if_success (with_reducible refine at_while ?_)); (fail_if_success (with_reducible refine at_while1 ?_)); (conv => whnf); first | ((with_reducible refine And.intro ?_ ?_); focus (first | (first | ((with_reducible show (_ : Nat) ≤ _); first | exact sz0 | exact sz1 | exact sz2 | exact sz3 | exact sz4 | exact sz5 | exact sz6 | exact sz7 | exact sz8 | exact sz10 | exact sz11 | exact sz12 | exact sz14 | omega | decide | (simp only [List.length_cons, List.length_nil]; omega)) | ((with_reducible show (_ : Int) ≤ _); first | omega | decide) | ((with_reducible show (_ : Int) < _); first | omega | decide) | ((with_reducible show (_ : Nat) < _); omega)) | ((fail_if_success (with_reducible show (_ : Nat) ≤ _)); (fail_if_success (with_reducible show (_ : Int) ≤ _)); (fail_if_success (with_reducible show (_ : Int) < _)); (fail_if_success (with_reducible show (_ : Nat) < _)); first | exact kv_str _ | exact kv_int _ | rfl | assumption | exact flat_strs _ | exact Lv.get (by assumption) 0 rfl | exact Lv.get (by assumption) 1 rfl | exact Lv.get (by assumption) 2 rfl | exact Lv.get (by assumption) 3 rfl | exact Lv.get (by assumption) 4 rfl | exact Lv.get (by assumption) 5 rfl | exact Lv.get (by assumption) 6 rfl | exact SqL.of (Lv.get (by assumption) 0 rfl) | exact SqL.of (Lv.get (by assumption) 1 rfl) | exact SqL.of (Lv.get (by assumption) 2 rfl) | exact SqL.of (Lv.get (by assumption) 3 rfl) | exact SqL.of (Lv.get (by assumption) 4 rfl) | exact SqL.of (Lv.get (by assumption) 5 rfl) | exact Or.inl (SqL.of (Lv.get (by assumption) 0 rfl)) | exact Or.inl (SqL.of (Lv.get (by assumption) 1 rfl)) | exact Or.inl (SqL.of (Lv.get (by assumption) 2 rfl)) | exact Or.inl (SqL.of (Lv.get (by assumption) 3 rfl)) | exact Or.inl (SqL.of (Lv.get (by assumption) 4 rfl)) | exact Or.inl (SqL.of (Lv.get (by assumption) 5 rfl)) | exact ⟨_, SqL.of (Lv.get (by assumption) 0 rfl)⟩ | exact ⟨_, SqL.of (Lv.get (by assumption) 1 rfl)⟩ | exact ⟨_, SqL.of (Lv.get (by assumption) 2 rfl)⟩ | exact ⟨_, SqL.of (Lv.get (by assumption) 3 rfl)⟩ | exact ⟨_, SqL.of (Lv.get (by assumption) 4 rfl)⟩ | exact ⟨_, SqL.of (Lv.get (by assumption) 5 rfl)⟩ | exact Or.inl ⟨_, SqL.of (Lv.get (by assumption) 0 rfl), rfl⟩ | exact Or.inl ⟨_, SqL.of (Lv.get (by assumption) 1 rfl), rfl⟩ | exact Or.inl ⟨_, SqL.of (Lv.get (by assumption) 2 rfl), rfl⟩ | exact Or.inl ⟨_, SqL.of (Lv.get (by assumption) 3 rfl), rfl⟩ | exact Or.inl ⟨_, SqL.of (Lv.get (by assumption) 4 rfl), rfl⟩ | exact Or.inl ⟨_, SqL.of (Lv.get (by assumption) 5 rfl), rfl⟩ | exact Or.inl ⟨rfl, _, SqL.of (Lv.get (by assumption) 0 rfl)⟩ | exact Or.inl ⟨rfl, _, SqL.of (Lv.get (by assumption) 1 rfl)⟩ | exact Or.inl ⟨rfl, _, SqL.of (Lv.get (by assumption) 2 rfl)⟩ | exact Or.inl ⟨rfl, _, SqL.of (Lv.get (by assumption) 3 rfl)⟩ | exact Or.inl ⟨rfl, _, SqL.of (Lv.get (by assumption) 4 rfl)⟩ | exact Or.inl ⟨rfl, _, SqL.of (Lv.get (by assumption) 5 rfl)⟩ | exact Or.inr (SqT.of (Lv.get (by assumption) 0 rfl)) | exact Or.inr (SqT.of (Lv.get (by assumption) 1 rfl)) | exact Or.inr (SqT.of (Lv.get (by assumption) 2 rfl)) | exact Or.inr (SqT.of (Lv.get (by assumption) 3 rfl)) | exact SqT.of (Lv.get (by assumption) 0 rfl) | exact SqT.of (Lv.get (by assumption) 1 rfl) | exact SqT.of (Lv.get (by assumption) 2 rfl) | exact dgetN (Lv.get (by assumption) 0 rfl) (by assumption) | exact dgetN (Lv.get (by assumption) 1 rfl) (by assumption) | exact dgetN (Lv.get (by assumption) 2 rfl) (by assumption) | exact dgetN (Lv.get (by assumption) 3 rfl) (by assumption) | exact dgetN (Lv.get (by assumption) 4 rfl) (by assumption) | exact Or.inl (by assumption) | exact Or.inr (by assumption) | decide | ((with_reducible show _ ∧ _); omega)))) | ((fail_if_success (with_reducible apply @Exists.intro (Nat → _))); (with_reducible apply Exists.intro))))
local macro_rules
  | `(tactic| wide_line with al $lv:ident $l:ident $nl:ident $H:ident $lv1:ident $s1:ident) => `(tactic| (intro $l:ident $nl:ident; generalize he : upd _ _ _ = $H:ident; have $lv1:ident := Lv.alE $lv $nl he; have $s1:ident := sameE $nl he; clear he; (try dsimp only at $lv1:ident)))
  | `(tactic| wide_line with alx $lv:ident $nl:ident $H:ident $lv1:ident $s1:ident) => `(tactic| (generalize he : upd _ _ _ = $H:ident; have $lv1:ident := Lv.alE $lv $nl he; have $s1:ident := sameE $nl he; clear he; (try dsimp only at $lv1:ident)))
  | `(tactic| wide_line with sts $lv:ident $i:num $H:ident $lv1:ident $s0:ident $np:ident $s1:ident) => `(tactic| (generalize he : upd _ _ _ = $H:ident; have $lv1:ident := Lv.stE $lv $i rfl he; have $s1:ident := sameN $s0 $np he; clear he; (try dsimp only at $lv1:ident)))
  | `(tactic| wide_line with stx $lv:ident $H:ident $lv1:ident $d1:ident) => `(tactic| (generalize he : upd _ _ _ = $H:ident; have $lv1:ident := Lv.stE $lv 0 rfl he; have $d1:ident := SameD.storeE (Lv.get $lv 0 rfl) he; clear he; (try dsimp only at $lv1:ident)))
  | `(tactic| wide_line with st $lv:ident $i:num $H:ident $lv1:ident) => `(tactic| (generalize he : upd _ _ _ = $H:ident; have $lv1:ident := Lv.stE $lv $i rfl he; clear he; (try dsimp only at $lv1:ident)))
  | `(tactic| wide_line with stk $lv:ident $i:num $H:ident $lv1:ident $k1:ident) => `(tactic| (generalize he : upd _ _ _ = $H:ident; have $lv1:ident := Lv.stE $lv $i rfl he; have $k1:ident := KeepT.st (Lv.get $lv $i rfl) he; clear he; (try dsimp only at $lv1:ident)))
def spLaw (K : PySem.W.Frag) : Sp := fun vs H Q _ => ∃ (a : Addr) (ns : List Int), vs = [.ref a] ∧ Only H ∧ SqL K H a (ns.map V.int) ∧ ns.length ≤ 63 ∧ (∀ z ∈ ns, Builtin.Int.intBits z ≤ 1048576) ∧ ∀ H', Q (.bl true) H'
theorem dqS {K : PySem.W.Frag} {H : Hp} : ∀ l : List Str, DqAll K H (l.map V.str) (l.map PyData.str)
  | [] => .nil
  | _ :: l => .cons (.str _) (dqS l)
theorem parts_ne {S : Str → List Str} {ns left : List Str} {ls : List (List Str)} (h : PartsR S ns left ls) (n : left ≠ []) : ls ≠ [] := by
  cases h with
  | nil => exact absurd rfl n
  | cons _ _ => exact List.cons_ne_nil _ _
theorem parts_len {S : Str → List Str} {ns left : List Str} {ls : List (List Str)} (h : PartsR S ns left ls) : ∀ l ∈ ls, l.length ≤ ns.length := by
  induction h with
  | nil => exact fun _ z => nomatch z
  | cons _ _ ih =>
    intro l hl
    rcases List.mem_cons.mp hl with rfl | hl
    · exact List.length_filter_le _ _
    · exact ih l hl
theorem sm_more : Sm 3 400 (.str "more") := by unfold Sm; decide +kernel
theorem valD_list {w : Str} {m : Nat} {ds : List PyData} (hw : w = "without" ∨ w = "tied") (h : ∀ e ∈ ds, Fit e) (l : ds.length ≤ 20) (t : w = "tied" → m + ds.length ≤ 75) : ValD w m (.list ds) :=
  ⟨hw, (Sm.list (fun e he => (h e he).1) l).mono (by decide) (by decide), fun es z => (by
    cases z
    refine (Sm.list (k := 3) (m := 400) (n := 21) (fun e he => ?_) ?_).mono (by decide) (by decide)
    · rcases List.mem_append.mp he with z | z
      · exact (h e z).1
      · rw [List.mem_singleton.mp z]; exact sm_more
    · rw [List.length_append, List.length_singleton]; omega), fun es z => (by cases z; omega), fun z es e => (by cases e; exact ⟨fun e he => (h e he).2.1, t z⟩)⟩
theorem valD_tuple {w : Str} {m : Nat} {ds : List PyData} (hw : w = "without" ∨ w = "tied") (h : ∀ e ∈ ds, Fit e) (l : ds.length ≤ 20) (t : w = "tied" → m + ds.length ≤ 75) : ValD w m (.tuple ds) :=
  ⟨hw, (Sm.tuple (fun e he => (h e he).1) l).mono (by decide) (by decide), (fun es z => nomatch z), (fun es z => nomatch z), fun z es e => (by cases e; exact ⟨fun e he => (h e he).2.1, t z⟩)⟩
theorem valD_else {w : Str} {m : Nat} {d : PyData} (hw : w = "without" ∨ w = "tied") (e : seqD d = none) (h : d ∈ consts) : ValD w m d :=
  ⟨hw, (sm_consts d h).mono (by decide) (by decide), fun es z => (by subst z; cases e), fun es z => (by subst z; cases e), fun _ es z => (by rw [e] at z; cases z)⟩
theorem PlanOk.mono {n m : Nat} {ns : List Str} {ts : List (Str × Str)} (h : PlanOk n ns ts) (l : n ≤ m) : PlanOk m ns ts := ⟨h.one, Nat.le_trans h.most l, h.nd, h.nm, h.tie, h.dif, h.few⟩
theorem sm_tup2 : Sm 3 400 (.tuple [.list [.str "a"], .str "b"]) := by unfold Sm; decide +kernel
theorem small_x : small "x" := fun c hc => of_decide_eq_true (List.all_eq_true.mp (show ("x" : Str).cps.toList.all (fun c => decide (c < 16 ^ 8)) = true by decide +kernel) c hc)
theorem sm_tag : Sm 6 30000 (.str "made") ∧ Sm 6 30000 (.str "place") := by unfold Sm; decide +kernel
theorem sm_names {l : List Str} (h : ∀ q ∈ l, okName q = true) (n : l.length ≤ 12) : Sm 6 30000 (.list (l.map PyData.str)) := (Sm.list (k := 1) (m := 100) (fun d hd => by obtain ⟨q, hq, rfl⟩ := List.mem_map.mp hd; exact sm_txt (h q hq)) (by rw [List.length_map]; exact n)).mono (by decide) (by decide)
section
variable {P : Program} {w : World} {K : PySem.W.Frag} {mg : Str → Option Value} {base : Heap} {C CP CS CT CN : Addr}
abbrev sLaw : Stmt := top ix_law
theorem scLaw : FnScope ["script", "start", "source", "turn", "plan", "web", "places", "thing", "look", "some", "bad", "more", "odd"] ["script"] (defScope sLaw) := ⟨rfl, rfl, rfl, by decide +kernel, rfl, by decide +kernel, by decide +kernel⟩
theorem has_law (T : Bn mg) (X : WC K C) (SB : SysB base) {f : Addr} {fd : FuncData} (D : Fun K "law" "law" sLaw f fd) (h_law_source : Has P w K mg base CX0 1 "_law_source" ["script", "start"] (spSource K)) (h_law_draw : Has P w K mg base CX0 1 "_law_draw" ["source", "span"] spDraw) (h_law_pick : Has P w K mg base CX0 2 "_law_pick" ["source", "things"] (spPick2 K)) (h_law_mixed : Has P w K mg base CX0 2 "_law_mixed" ["source", "things"] (spMixed K))
    (h_law_plan : Has P w K mg base CX0 5 "_law_plan" ["source", "most"] spPlan) (h_law_web : Has P w K mg base CX0 6 "_law_web" ["plan"] (spWebOf K C)) (h_law_same : Has P w K mg base CX0 7 "_law_same" ["web", "plan"] (spSame K C)) (h_law_compared : Has P w K mg base CX0 7 "_law_compared" ["source", "web", "plan"] (spCompared K C)) (h_law_told : Has P w K mg base CX0 7 "_law_told" ["web", "word", "value"] (spTold4 K C))
    (hM_sees : HasM P w K mg base (L2.CX P w) 5 C "sees" ["self", "place"] (spSees K C CN)) (hM_parts : HasM P w K mg base CX0 2 C "parts" ["self"] (spParts C K)) (h_law_ties_for : Has P w K mg base CX0 3 "_law_ties_for" ["source", "plan"] (spTiesFor K)) (h_law_asked_right : HasG P w K mg base CX0 8 "_law_asked_right" ["web", "plan", "word", "value"] (spAsked K C)) : GFn P w K mg base CX0 9 f fd ["script"] (spLaw K) := by
  refine law_of D scLaw (fun vs H Q E h => ?_) (fun cdv A outer s H vs Q E gd hr h => ?_)
  · obtain ⟨a, ns, rfl, _⟩ := h; rfl
  · obtain ⟨a, zs0, rfl, on, hS, hlen, hbits, k⟩ := h
    have nd := scLaw.nd
    refine ⟨_, (pss_cons (ps_for PassesOwn.never rfl (pi_range1 rfl T.z_range (pa_cons (pe_callB (call_max2 rfl) (by rfl) T.z_max (by decide +kernel) (pa_cons pe_int (pa_cons (pe_callB (call_min2 rfl) (by rfl) T.z_min (by decide +kernel) (pa_cons pe_int (pa_cons (pe_callB call_len (by rfl) T.z_len (by decide +kernel) (pa_cons (pv 0) pa_nil)) pa_nil))) pa_nil))) pa_nil)) (pg_name (i := 1) nd rfl (by first | exact Or.inl rfl | exact Or.inr rfl)) (pss_cons (ps_sv 2 nd (pe_h h_law_source hr (by decide) rfl (pa_cons (pv 0) (pa_cons (pv 1) pa_nil))))
    (pss_one (ps_for PassesOwn.never rfl (pi_range1 rfl T.z_range (pa_cons pe_int pa_nil)) (pg_name (i := 3) nd rfl (by first | exact Or.inl rfl | exact Or.inr rfl)) (pss_cons (ps_sv 4 nd (pe_h h_law_plan hr (by decide) rfl (pa_cons (pv 2) (pa_cons (pe_h h_law_pick hr (by decide) rfl (pa_cons (pv 2) (pa_cons (pe_lst (pa_cons pe_int (pa_cons pe_int pa_nil))) pa_nil))) pa_nil))))
    (pss_cons (ps_par (i := 5) (j := 6) (by rfl) nd rfl rfl (by decide) rfl rfl (pa_cons (pe_h h_law_web hr (by decide) rfl (pa_cons (pv 4) pa_nil)) (pa_cons (pe_callTy call_list_of (by rfl) T.z_list (by decide +kernel) (pa_cons (pe_ix ix_tup (pv 4) pe_int (fun _ _ => rfl)) pa_nil)) pa_nil)) (by rfl))
    (pss_cons (ps_if (PW.pt (pw_or (pt_not (pt_val (pe_h h_law_same hr (by decide) rfl (pa_cons (pv 5) (pa_cons (pv 4) pa_nil))))) (pw_or1 (pt_not (pt_val (pe_h h_law_compared hr (by decide) rfl (pa_cons (pv 2) (pa_cons (pv 5) (pa_cons (pv 4) pa_nil))))))))) (pss_one (ps_ret pe_bl)) pss_nil)
    (pss_cons (ps_for PassesOwn.never rfl (pi_list (pe_lst (pa_cons pe_non (pa_cons pe_str (pa_cons pe_str (pa_cons pe_int (pa_cons (pe_lst (pa_cons pe_str pa_nil)) (pa_cons (pe_tup (pa_cons pe_str pa_nil)) (pa_cons pe_dnewK (pa_cons pe_bl (pa_cons (pe_op op_add_str (pe_ix ix_list (pv 6) pe_int (fun _ _ => rfl)) pe_str) (pa_cons (pe_tup (pa_cons (pe_lst (pa_cons pe_str pa_nil)) (pa_cons pe_str pa_nil))) pa_nil)))))))))))) (pg_name (i := 7) nd rfl (by first | exact Or.inl rfl | exact Or.inr rfl)) (pss_one (ps_if (PW.pt (pw_and (pt_cmpR op_ne (pe_callB (call_repV gd SB hr.units) (by rfl) T.z_repr (by decide +kernel) (pa_cons (pe_h h_law_told hr (by decide) rfl (pa_cons (pv 5) (pa_cons pe_str (pa_cons (pv 7) pa_nil)))) pa_nil)) (pe_callB (call_repV gd SB hr.units) (by rfl) T.z_repr (by decide +kernel) (pa_cons (pe_tup (pa_cons pe_str (pa_cons (pv 7) pa_nil))) pa_nil)) (by first | exact nomark _ | rfl)) (pw_and1 (pt_cmpR (or_namidQ (K := K) rfl hr.units) (pv 7) (pv 6) (by first | exact nomark _ | rfl))))) (pss_one (ps_ret pe_bl)) pss_nil)))
    (pss_cons (ps_expr (pe_bm PySem.F.plainAttrs_list PySem.F.slot_list_append PySem.F.type_list_append mt_append (pe_hML hM_sees X.cls hr (by decide) (pv 5) (pa_cons (pe_ix ix_list (pv 6) pe_int (fun _ _ => rfl)) pa_nil)) (pa_cons pe_str pa_nil)))
    (pss_cons (ps_expr (pe_bm PySem.F.plainAttrs_list PySem.F.slot_list_append PySem.F.type_list_append mt_append (pe_ix ix_list (pe_hM0 hM_parts X.cls hr (by decide) (pv 5)) pe_int (fun _ _ => rfl)) (pa_cons pe_str pa_nil)))
    (pss_one (ps_for PassesOwn.never rfl (pi_range1 rfl T.z_range (pa_cons pe_int pa_nil)) (pg_name (i := 8) nd rfl (by first | exact Or.inl rfl | exact Or.inr rfl)) (pss_cons (ps_sv 9 nd (pe_slice sl_list (pe_h h_law_mixed hr (by decide) rfl (pa_cons (pv 2) (pa_cons (pv 6) pa_nil))) po_none (po_some (pe_h h_law_draw hr (by decide) rfl (pa_cons (pv 2) (pa_cons (pe_op op_add (pe_callB call_len (by rfl) T.z_len (by decide +kernel) (pa_cons (pv 6) pa_nil)) pe_int) pa_nil))))))
    (pss_cons (ps_par (i := 10) (j := 11) (by rfl) nd rfl rfl (by decide) rfl rfl (pa_cons (pe_callTy call_list_of (by rfl) T.z_list (by decide +kernel) (pa_cons (pv 9) pa_nil)) (pa_cons (pe_h h_law_pick hr (by decide) rfl (pa_cons (pv 2) (pa_cons (pe_op op_cat (pe_lst (pa_cons pe_non (pa_cons pe_str (pa_cons pe_int (pa_cons (pe_lst (pa_cons pe_str pa_nil)) (pa_cons pe_bl (pa_cons pe_str pa_nil))))))) (pv 9)) pa_nil))) pa_nil)) (by rfl))
    (pss_cons (ps_expr (pe_bm PySem.F.plainAttrs_list PySem.F.slot_list_insert PySem.F.type_list_insert mt_insert (pv 10) (pa_cons (pe_h h_law_draw hr (by decide) rfl (pa_cons (pv 2) (pa_cons (pe_op op_add (pe_callB call_len (by rfl) T.z_len (by decide +kernel) (pa_cons (pv 9) pa_nil)) pe_int) pa_nil))) (pa_cons (pv 11) pa_nil))))
    (pss_cons (ps_sv 12 nd (pe_h h_law_pick hr (by decide) rfl (pa_cons (pv 2) (pa_cons (pe_lst (pa_cons pe_non (pa_cons (pe_tup pa_nil) (pa_cons pe_str (pa_cons pe_dnewK (pa_cons pe_int (pa_cons (pe_callTy call_tuple_of (by rfl) T.z_tuple (by decide +kernel) (pa_cons (pv 9) pa_nil)) pa_nil))))))) pa_nil))))
    (pss_cons (ps_if (pt_not (pt_val (pe_hG h_law_asked_right gd hr (by decide) rfl (pa_cons (pv 5) (pa_cons (pv 4) (pa_cons pe_str (pa_cons (pe_h h_law_pick hr (by decide) rfl (pa_cons (pv 2) (pa_cons (pe_lst (pa_cons (pv 9) (pa_cons (pv 9) (pa_cons (pv 10) (pa_cons (pv 12) pa_nil))))) pa_nil))) pa_nil))))))) (pss_one (ps_ret pe_bl)) pss_nil)
    (pss_one (ps_if (pt_not (pt_val (pe_hG h_law_asked_right gd hr (by decide) rfl (pa_cons (pv 5) (pa_cons (pv 4) (pa_cons pe_str (pa_cons (pe_h h_law_ties_for hr (by decide) rfl (pa_cons (pv 2) (pa_cons (pv 4) pa_nil))) pa_nil))))))) (pss_one (ps_ret pe_bl)) pss_nil)))))))))))))))))))
    (pss_one (ps_ret pe_bl))), ?_⟩
    refine ⟨_, rfl, _, _, rfl, .inl ⟨_, hS, rfl⟩, _, _, rfl, _, _, rfl, _, rfl, ?_, ?_, ?_⟩
    · split <;> (try split) <;> omega
    · split <;> (try split) <;> omega
    have hj : (if (if (((zs0.map V.int).length : Nat) : Int) < 3 then (((zs0.map V.int).length : Nat) : Int) else 3) > 1 then (if (((zs0.map V.int).length : Nat) : Int) < 3 then (((zs0.map V.int).length : Nat) : Int) else 3) else 1) ≤ 3 := by split <;> (try split) <;> omega
    generalize (if (if (((zs0.map V.int).length : Nat) : Int) < 3 then (((zs0.map V.int).length : Nat) : Int) else 3) > 1 then (if (((zs0.map V.int).length : Nat) : Int) < 3 then (((zs0.map V.int).length : Nat) : Int) else 3) else 1) = jj at hj ⊢
    refine for_range (lo := 0) (n := jj.toNat) (fun i σ H' => Hold (∃ s1 s2 s3 s4 s5 s6 s7 s8 s9 s10 s11 s12 : Option V, σ = [some (.ref a), s1, s2, s3, s4, s5, s6, s7, s8, s9, s10, s11, s12] ∧ Same H H')) ⟨none, none, none, none, none, none, none, none, none, none, none, none, rfl, Same.refl H⟩ ?_ ?_
    · rintro i σ H1 hi ⟨s1, s2, s3, s4, s5, s6, s7, s8, s9, s10, s11, s12, rfl, sm⟩
      refine ⟨_, rfl, _, rfl, a, zs0, _, rfl, by omega, by omega, sm.seq hS, hlen, hbits, fun ps r m nps ok => ?_⟩
      have u0 := same_new (o := .lst [.int r, .int m]) nps
      have hp : (upd H1 ps (.lst [.int r, .int m])) ps = some (.lst [.int r, .int m]) := upd_same
      generalize upd H1 ps (.lst [.int r, .int m]) = H2 at u0 hp ⊢
      have nps0 : H ps = none := free_of sm nps
      have sm2 := sm.trans u0
      wide_line
      refine for_range (lo := 0) (n := 2) (fun j σ H' => Hold (∃ (r m : Int) (t3 t4 t5 t6 t7 t8 t9 t10 t11 t12 : Option V), σ = [some (.ref a), some (.int (0 + (i : Nat))), some (.ref ps), t3, t4, t5, t6, t7, t8, t9, t10, t11, t12] ∧ Same H H' ∧ H' ps = some (.lst [.int r, .int m]) ∧ SrcOk r m)) ⟨r, m, s3, s4, s5, s6, s7, s8, s9, s10, s11, s12, rfl, sm2, hp, ok⟩ ?_ ?_
      · rintro j σ H3 hj2 ⟨r3, m3, t3, t4, t5, t6, t7, t8, t9, t10, t11, t12, rfl, sm3, hp3, ok3⟩
        refine ⟨_, rfl, _, rfl, sz2, fun l6 nl6 => ?_⟩
        have lv3 := Lv.one hp3
        wide_line with alx lv3 nl6 H4 lv4 s4
        refine .inl ⟨ps, l6, r3, m3, _, rfl, lv4.ne 0 1 (by decide) rfl rfl, lv4.get 1 rfl, ok3, .inl (SqL.of (lv4.get 0 rfl)), List.cons_ne_nil _ _, by decide, fun r5 m5 v5 ok5 hv5 => ?_⟩
        obtain ⟨n, rfl, hn1, hn⟩ : ∃ n : Nat, v5 = .int (n : Nat) ∧ 1 ≤ n ∧ n ≤ 12 := by
          simp only [List.mem_cons, List.not_mem_nil, or_false] at hv5
          rcases hv5 with rfl | rfl
          · exact ⟨6, rfl, by decide, by decide⟩
          · exact ⟨12, rfl, by decide, by decide⟩
        wide_line with st lv4 1 H5 lv5
        refine ⟨ps, r5, m5, n, rfl, lv5.get 1 rfl, ok5, hn1, hn, fun r6 m6 ms ts t tn tt txs H6 ok6 pk f6 src6 nt6 ht6 htn6 htt6 htu6 => ?_⟩
        have fr6 : ∀ b o, b ≠ ps → H3 b = some o → H6 b = some o := fun b o z e => f6 b o z (lv5.off b o z e)
        have pl6 : PlanD H6 t ms ts := ⟨tn, tt, txs, ht6, htn6, htt6, htu6⟩
        refine ⟨_, rfl, t, n, ms, ts, rfl, pl6.at, pk, hn, fun x H7 s7 nx7 wx7 => ?_⟩
        refine ⟨_, rfl, t, _, 0, .ref tn, rfl, rfl, SqT.of (s7 _ _ ht6), rfl, tn, _, rfl, .inr (SqT.of (s7 _ _ htn6)), fun pl npl => ?_⟩
        generalize he : upd H7 pl _ = H8
        have s8 : Same H7 H8 := sameE npl he
        have hpl8 := upd_at he
        clear he
        have src8 := s8 _ _ (s7 _ _ src6)
        have s68 := s7.trans s8
        have plp : pl ≠ ps := fun z => by rw [z, s7 _ _ src6] at npl; cases npl
        -- what stands
        have aR : ∀ {b : Addr} {o : HO}, b ≠ ps → H8 b = some o → offH H8 ps ps b = some o := fun n e => (offH_at n n).trans e
        have wR : WebAt K C (offH H8 ps ps) x ms ts := WebAt.same (fun b o e => aR (fun z => by
          subst z
          unfold noLst at e
          rw [src6] at e
          cases e) (s8 _ _ (noLst_sub b o e))) wx7
        have ktR : KeepT H8 (offH H8 ps ps) := fun b xs e => aR (fun z => by subst z; rw [src8] at e; cases e) e
        have pR := PlanD.keep (ktR) (PlanD.keep (KeepT.same s68) pl6)
        have plR := aR plp hpl8
        have npR : offH H8 ps ps ps = none := if_pos (.inl rfl)
        have sR8 : Same (offH H8 ps ps) H8 := offH_sub
        generalize hRR : offH H8 ps ps = R at aR wR ktR pR plR npR sR8
        have up : ∀ {H' : Hp}, (∀ b o, b ≠ ps → H8 b = some o → H' b = some o) → Same R H' := fun f b o e => f b o (fun z => by rw [z, npR] at e; cases e) (sR8 b o e)
        have lm : ms.length ≤ 12 := Nat.le_trans pk.most hn
        obtain ⟨q0, qs, eq0⟩ : ∃ q0 qs, ms = q0 :: qs := by
          have := pk.one
          cases ms with
          | nil => exact absurd this (by decide)
          | cons a b => exact ⟨a, b, rfl⟩
        have q0in : q0 ∈ ms := by rw [eq0]; exact List.mem_cons_self
        have okq : okName q0 = true := pk.nm _ q0in
        have at0 : atI (ms.map V.str) 0 = some (.str q0) := by rw [eq0]; exact atI_nat (j := 0) rfl
        refine ⟨_, _, rfl, ?_⟩
        refine ⟨_, rfl, _, rfl, x, t, n, ms, ts, rfl, WebAt.same sR8 wR, (pR.at).same sR8, pk, hn, fun H9 s9 => ?_⟩
        refine ⟨_, rfl, iteF ⟨_, rfl, _, rfl, _, rfl, ps, x, t, r6, m6, R, n, ms, ts, rfl, s9 _ _ src8, ok6, sR8.trans s9, npR, wR, pR, pk, hn, fun r10 m10 H10 ok10 f10 src10 => ⟨_, rfl, iteF ?_⟩⟩⟩
        have g10 : ∀ b o, b ≠ ps → H8 b = some o → H10 b = some o := fun b o z e => f10 b o z (s9 _ _ e)
        have lvA := Lv.one src10
        refine ⟨sz1, fun l1 nl1 => ?_⟩
        wide_line with alx lvA nl1 H11 lv11 s11
        refine ⟨sz1, fun t1 nt1 => ?_⟩
        wide_line with alx lv11 nt1 H12 lv12 s12
        refine fun D0 nD0 => ?_
        wide_line with alx lv12 nD0 H13 lv13 s13
        have g13 : ∀ b o, b ≠ ps → H8 b = some o → H13 b = some o := fun b o z e => s13 _ _ (s12 _ _ (s11 _ _ (g10 b o z e)))
        refine ⟨_, rfl, pl, _, 0, .str q0, rfl, rfl, SqL.of (up g13 _ _ plR), at0, _, _, rfl, rfl, ?_, ?_⟩
        · have := name_len okq
          have e1 : (("x" : String) : Str).length = 1 := rfl
          rw [e1, sizeLine_eq]
          omega
        refine ⟨sz1, fun l2 nl2 => ?_⟩
        wide_line with alx lv13 nl2 H14 lv14 s14
        refine ⟨sz2, fun t2 nt2 => ?_⟩
        wide_line with alx lv14 nt2 H15 lv15 s15
        refine ⟨sz10, fun lt nlt => ?_⟩
        wide_line with alx lv15 nlt H16 lv16 s16
        have g16 : ∀ b o, b ≠ ps → H8 b = some o → H16 b = some o := fun b o z e => s16 _ _ (s15 _ _ (s14 _ _ (g13 b o z e)))
        have th : ∀ v ∈ [V.non, .str "", .str "zzz", .int 5, .ref l1, .ref t1, .ref D0, .bl true, .str (q0 ++ "x"), .ref t2], ∃ d, Dq K H16 v d ∧ Sm 3 400 d := fun v hv => by
          simp only [List.mem_cons, List.not_mem_nil, or_false] at hv
          rcases hv with rfl | rfl | rfl | rfl | rfl | rfl | rfl | rfl | rfl | rfl
          · exact ⟨.none, .non, sm_consts _ (by simp [consts])⟩
          · exact ⟨.str "", .str _, sm_consts _ (by simp [consts])⟩
          · exact ⟨.str "zzz", .str _, sm_zzz.mono (by decide) (by decide)⟩
          · exact ⟨.int 5, .int _, sm_consts _ (by simp [consts])⟩
          · exact ⟨.list [.str "a"], .lst (SqL.of (lv16.get 5 rfl)) (.cons (.str _) .nil), sm_consts _ (by simp [consts])⟩
          · exact ⟨.tuple [.str "a"], .tup (SqT.of (lv16.get 4 rfl)) (.cons (.str _) .nil), sm_consts _ (by simp [consts])⟩
          · exact ⟨.dict [], .dic (.inl (lv16.get 3 rfl)) rfl rfl .nil, sm_consts _ (by simp [consts])⟩
          · exact ⟨.bool true, .bl _, sm_consts _ (by simp [consts])⟩
          · refine ⟨.str (q0 ++ "x"), .str _, (Sm.str (n := 9) (small_app (small_name okq) small_x) ?_).mono (by decide) (by decide)⟩
            have := name_len okq
            have e1 : (("x" : String) : Str).length = 1 := rfl
            rw [strLen_append, e1]
            omega
          · exact ⟨.tuple [.list [.str "a"], .str "b"], .tup (SqT.of (lv16.get 1 rfl)) (.cons (.lst (SqL.of (lv16.get 2 rfl)) (.cons (.str _) .nil)) (.cons (.str _) .nil)), sm_tup2⟩
        have e16 := lv16.get 0 rfl
        refine ⟨lt, rfl, ⟨_, SqL.of e16⟩, ?_⟩
        refine for_list (K := K) (a := lt) (xs := [V.non, .str "", .str "zzz", .int 5, .ref l1, .ref t1, .ref D0, .bl true, .str (q0 ++ "x"), .ref t2]) (fun k σ H' => Hold (∃ s7 : Option V, σ = [some (.ref a), some (.int (0 + (i : Nat))), some (.ref ps), some (.int (0 + (j : Nat))), some (.ref t), some (.ref x), some (.ref pl), s7, t8, t9, t10, t11, t12] ∧ Same H16 H')) ⟨t7, rfl, .refl _⟩ (fun k σ H' _ ⟨_, _, z⟩ => SqL.of (z _ _ e16)) ?_ ?_
        · rintro k0 v σ H17 hv ⟨s7', rfl, s17⟩
          obtain ⟨d, hd, smd⟩ := th v (List.mem_of_getElem? hv)
          have hd17 := Dq.same s17 hd
          have g17 : ∀ b o, b ≠ ps → H8 b = some o → H17 b = some o := fun b o z e => s17 _ _ (g16 b o z e)
          have tw := (Sm.two sm_tag.2 (smd.mono (k' := 6) (m' := 30000) (by decide) (by decide))).2.rep (by decide) (by decide)
          refine ⟨_, rfl, _, rfl, x, "sees", v, rfl, .inl ⟨rfl, ms, ts, d, WebAt.same (up g17) wR, hd17, fun q e hq r l H18 s18 nr nl hr hl => ?_, fun c r H18 s18 nr hr => ?_⟩⟩
          · subst e
            have oks : ∀ z ∈ seenOf ms ts q, okName z = true := fun z hz => pk.nm z (List.mem_filter.mp hz).1
            have tw2 := (Sm.two sm_tag.1 (sm_names oks (Nat.le_trans (List.length_filter_le _ _) lm))).2.rep (by decide) (by decide)
            refine ⟨.ref r, .tuple [.str "made", rowD (seenOf ms ts q)], rfl, .tup (SqT.of hr) (.cons (.str _) (.cons (.lst (SqL.of hl) (dqS _)) .nil)), tw2.1, tw2.2.1, tw2.2.2, _, rfl, sz2, fun r2 nr2 => ?_⟩
            generalize he : upd H18 r2 _ = H19
            have s19 : Same H18 H19 := sameE nr2 he
            have e19 := upd_at he
            clear he
            refine ⟨.ref r2, .tuple [.str "place", .str q], rfl, .tup (SqT.of e19) (.cons (.str _) (.cons (Dq.same (s18.trans s19) hd17) .nil)), tw.1, tw.2.1, tw.2.2, rfl, ?_⟩
            refine ⟨_, rfl, ?_⟩
            have s1719 := s18.trans s19
            refine ite2 (fun c => ?_) (fun c => iteF ⟨_, rfl, s17.trans s1719⟩)
            refine ⟨_, rfl, _, rfl, .str q, pl, ms, rfl, .inl (SqL.of (up (fun b o z e => s1719 _ _ (g17 b o z e)) _ _ plR)), Dq.same s1719 hd17, ?_⟩
            rw [if_pos rfl, amid_str.mpr hq]
            exact ⟨_, rfl, iteF ⟨_, rfl, s17.trans s1719⟩⟩
          · refine ⟨.ref r, .tuple [.str "place", d], rfl, .tup (SqT.of hr) (.cons (.str _) (.cons (Dq.same s18 hd17) .nil)), tw.1, tw.2.1, tw.2.2, _, rfl, sz2, fun r2 nr2 => ?_⟩
            generalize he : upd H18 r2 _ = H19
            have s19 : Same H18 H19 := sameE nr2 he
            have e19 := upd_at he
            clear he
            refine ⟨.ref r2, .tuple [.str "place", d], rfl, .tup (SqT.of e19) (.cons (.str _) (.cons (Dq.same (s18.trans s19) hd17) .nil)), tw.1, tw.2.1, tw.2.2, rfl, ?_⟩
            rw [str_dec, decide_eq_true rfl]
            exact ⟨_, rfl, iteF (iteF ⟨_, rfl, s17.trans (s18.trans s19)⟩)⟩
        · rintro σ H17 ⟨s7', rfl, s17⟩
          have g17 : ∀ b o, b ≠ ps → H8 b = some o → H17 b = some o := fun b o z e => s17 _ _ (g16 b o z e)
          have hw17 := WebAt.same (up g17) wR
          obtain ⟨dx, fs, hx, no1, _⟩ := webNo hw17
          refine ⟨_, rfl, x, dx, fs, rfl, hx, no1, _, rfl, pl, _, 0, .str q0, rfl, rfl, SqL.of (up g17 _ _ plR), at0, x, .str q0, ms, ts, .str q0, rfl, hw17, .str q0, fun q e hq l H18 s18 nl hl => ?_, fun c => absurd (amid_str.mpr q0in) (by rw [c]; decide)⟩
          cases e
          have sl : (seenOf ms ts q0).length ≤ ms.length := List.length_filter_le _ _
          refine ⟨.inl ⟨rfl, _, SqL.of hl⟩, l, _, _, rfl, rfl, hl, by rw [List.length_map, sizeLine_eq]; omega, ?_⟩
          generalize he : upd H18 l _ = H19
          have s19 : Same H17 H19 := sameN s18 nl he
          clear he
          have hw19 := WebAt.same s19 hw17
          obtain ⟨dy, gs, hy, _, no2, _⟩ := webNo hw19
          refine ⟨_, rfl, x, dy, gs, rfl, hy, no2, x, ms, ts, rfl, hw19, by omega, fun ls pls l3 xs3 H20 s20 nl3 hl3 rw3 fr3 => ?_⟩
          have lne := parts_ne pls (by rw [eq0]; exact List.cons_ne_nil _ _)
          have lln := parts_len pls
          obtain ⟨a0, xs4, ls0, ex3, els, ha0⟩ : ∃ a0 xs4 ls0, xs3 = .ref a0 :: xs4 ∧ ls0 ∈ ls ∧ H20 a0 = some (.lst (ls0.map V.str)) := by
            cases rw3 with
            | nil => exact absurd rfl lne
            | cons h t => obtain ⟨a0, rfl, h⟩ := h; exact ⟨_, _, _, rfl, List.mem_cons_self, h⟩
          subst ex3
          obtain ⟨a0', ea0, na0⟩ := fr3 _ List.mem_cons_self
          cases ea0
          have l0l := lln _ els
          refine ⟨l3, _, 0, .ref a0, rfl, rfl, SqL.of hl3, atI_nat (j := 0) rfl, .inl ⟨rfl, _, SqL.of ha0⟩, a0, _, _, rfl, rfl, ha0, by rw [List.length_map, sizeLine_eq]; omega, ?_⟩
          generalize he : upd H20 a0 _ = H21
          have s21 : Same H19 H21 := sameN s20 na0 he
          clear he
          have s1621 := s17.trans (s19.trans s21)
          have g21 : ∀ b o, b ≠ ps → H8 b = some o → H21 b = some o := fun b o z e => s1621 _ _ (g16 b o z e)
          have src21 : H21 ps = some (.lst [.int r10, .int m10]) := s1621 _ _ (lv16.get 6 rfl)
          wide_line
          refine for_range (lo := 0) (n := 5) (fun q σ H' => Hold (∃ (r m : Int) (u8 u9 u10 u11 u12 : Option V), σ = [some (.ref a), some (.int (0 + (i : Nat))), some (.ref ps), some (.int (0 + (j : Nat))), some (.ref t), some (.ref x), some (.ref pl), s7', u8, u9, u10, u11, u12] ∧ (∀ b o, b ≠ ps → H8 b = some o → H' b = some o) ∧ H' ps = some (.lst [.int r, .int m]) ∧ SrcOk r m)) ⟨r10, m10, _, _, _, _, _, rfl, g21, src21, ok10⟩ ?_ ?_
          · rintro q σ H22 hq ⟨r22, m22, u8, u9, u10, u11, u12, rfl, g22, src22, ok22⟩
            have lv22 := Lv.one src22
            refine ⟨_, rfl, _, rfl, ps, pl, r22, m22, _, rfl, src22, ok22, .inl (SqL.of (up g22 _ _ plR)), by rw [List.length_map]; omega, fun r23 m23 ys L H23 ok23 perm off23 src23 nL hL => ?_⟩
            obtain ⟨ks, pm, rfl⟩ := strs_perm perm
            have lv23 := lv22.stn 0 rfl src23 off23 nL hL
            have g23 : ∀ b o, b ≠ ps → H8 b = some o → H23 b = some o := fun b o z e => off23 b o z (g22 b o z e)
            refine ⟨_, rfl, _, rfl, .ref pl, ms.length, rfl, .inl ⟨_, SqL.of (up g23 _ _ plR), by rw [List.length_map]⟩, _, _, rfl, rfl, ps, r23, m23, _, rfl, src23, ok23, by omega, by omega, fun r24 m24 k24 ok24 y0 y1 => ?_⟩
            obtain ⟨j24, rfl⟩ := Int.eq_ofNat_of_zero_le y0
            wide_line with st lv23 1 H24 lv24
            refine ⟨_, rfl, L, _, rfl, SqL.of (lv24.get 0 rfl), fun sm_ nsm => ?_⟩
            have nsm0 := nsm
            wide_line with alx lv24 nsm H25 lv25 s25
            rw [cut_take, ← List.map_take] at lv25
            have fin_ : ∀ z ∈ ks.take j24, z ∈ ms := fun z hz => pm.mem_iff.mp (List.mem_of_mem_take hz)
            have fl : (ks.take j24).length ≤ 12 := by have := List.length_take_le j24 ks; have := pm.length_eq; have : (ks.take j24).length ≤ ks.length := List.length_take_le' _ _; omega
            generalize ks.take j24 = fs at lv25 fin_ fl
            have okf : ∀ z ∈ fs, okName z = true := fun z hz => pk.nm z (fin_ z hz)
            refine ⟨_, rfl, sm_, _, rfl, .inl (SqL.of (lv25.get 0 rfl)), fun bd nbd => ?_⟩
            wide_line with alx lv25 nbd H26 lv26 s26
            refine ⟨_, rfl, sz1, fun la nla => ?_⟩
            wide_line with alx lv26 nla H27 lv27 s27
            refine ⟨sz6, fun ml nml => ?_⟩
            wide_line with alx lv27 nml H28 lv28 s28
            refine ⟨_, rfl, ml, sm_, _, _, rfl, rfl, lv28.get 0 rfl, lv28.get 3 rfl, by rw [List.length_map, sizeLine_eq]; simp only [List.length_cons, List.length_nil]; omega, fun mc nmc => ?_⟩
            wide_line with alx lv28 nmc H29 lv29 s29
            refine .inl ⟨ps, mc, r24, m24, _, rfl, lv29.ne 0 6 (by decide) rfl rfl, lv29.get 6 rfl, ok24, .inl (SqL.of (lv29.get 0 rfl)), (by simp), (by rw [List.length_append, List.length_map]; simp only [List.length_cons, List.length_nil]; omega), fun r30 m30 v ok30 hv => ?_⟩
            wide_line with st lv29 6 H30 lv30
            refine ⟨_, _, rfl, ?_⟩
            refine ⟨_, rfl, .inl ⟨rfl, _, SqL.of (lv30.get 3 rfl)⟩, _, rfl, _, rfl, .ref sm_, fs.length, rfl, .inl ⟨_, SqL.of (lv30.get 4 rfl), by rw [List.length_map]⟩, _, _, rfl, rfl, ps, r30, m30, _, rfl, lv30.get 6 rfl, ok30, by omega, by omega, fun r31 m31 k31 ok31 y2 y3 => ?_⟩
            wide_line with st lv30 6 H31 lv31
            refine ⟨_, rfl, bd, _, k31, v, rfl, rfl, lv31.get 3 rfl, by rw [List.length_map, sizeLine_eq]; omega, y2, by omega, ?_⟩
            wide_line with st lv31 3 H32 lv32
            refine ⟨_, rfl, sz0, fun e0 ne0 => ?_⟩
            wide_line with alx lv32 ne0 H33 lv33 s33
            refine fun D3 nD3 => ?_
            wide_line with alx lv33 nD3 H34 lv34 s34
            refine ⟨_, rfl, sm_, _, rfl, .inl ⟨SqL.of (lv34.get 6 rfl), fun tp ntp => ?_⟩⟩
            wide_line with alx lv34 ntp H35 lv35 s35
            refine ⟨sz6, fun ol nol => ?_⟩
            wide_line with alx lv35 nol H36 lv36 s36
            refine .inl ⟨ps, ol, r31, m31, _, rfl, lv36.ne 0 10 (by decide) rfl rfl, lv36.get 10 rfl, ok31, .inl (SqL.of (lv36.get 0 rfl)), List.cons_ne_nil _ _, (by simp only [List.length_cons, List.length_nil]; omega), fun r37 m37 o ok37 ho => ?_⟩
            wide_line with st lv36 10 H37 lv37
            refine ⟨_, rfl, _, rfl, _, rfl, _, rfl, _, rfl, _, rfl, _, rfl, sz4, fun fl_ nfl => ?_⟩
            wide_line with alx lv37 nfl H38 lv38 s38
            refine .inl ⟨ps, fl_, r37, m37, _, rfl, lv38.ne 0 11 (by decide) rfl rfl, lv38.get 11 rfl, ok37, .inl (SqL.of (lv38.get 0 rfl)), List.cons_ne_nil _ _, (by simp only [List.length_cons, List.length_nil]; omega), fun r39 m39 v' ok39 hv' => ?_⟩
            wide_line with st lv38 11 H39 lv39
            have g39 : ∀ b o, b ≠ ps → H8 b = some o → H39 b = some o := fun b o z e => lv39.off b o z (g22 b o z e)
            have src39 := lv39.get 11 rfl
            have off22 : ∀ {b : Addr}, H22 b = none → H8 b = none := fun {b} e => by
              cases c : H8 b with
              | none => rfl
              | some o => rw [g22 b o (fun z => by rw [z, src22] at e; cases e) c] at e; cases e
            have fsm := lv39.fresh 9 rfl (fun z => lv39.ne 9 11 (by decide) rfl rfl (List.mem_singleton.mp z))
            have fbd := lv39.fresh 8 rfl (fun z => lv39.ne 8 11 (by decide) rfl rfl (List.mem_singleton.mp z))
            have Rn : ∀ {b : Addr}, H22 b = none → R b = none := fun e => free_of (up g22) e
            have w0 : ("without" : Str) = "without" ∨ ("without" : Str) = "tied" := .inl rfl
            have nw : ∀ {P : Prop}, ("without" : Str) = "tied" → P := fun z => absurd z (by decide)
            have ftn : ∀ e ∈ fs.map PyData.str, Fit e := fun e he => by obtain ⟨z, hz, rfl⟩ := List.mem_map.mp he; exact Fit.name (okf z hz)
            have len20 : (fs.map PyData.str).length ≤ 20 := by rw [List.length_map]; omega
            have sRp : Same R (offH H39 ps ps) := offH_up (up g39) npR npR
            have pack : ∃ (d : PyData) (R' : Hp), Same R R' ∧ Same R' H39 ∧ VR K R' H39 v' d ∧ ValD "without" ts.length d ∧ (isL d = true → ∃ a, v' = .ref a ∧ H8 a = none ∧ a ≠ ps) := by
              have some_ : ∃ (d : PyData) (R' : Hp), Same R R' ∧ Same R' H39 ∧ VR K R' H39 (.ref sm_) d ∧ ValD "without" ts.length d ∧ (isL d = true → ∃ a, V.ref sm_ = .ref a ∧ H8 a = none ∧ a ≠ ps) :=
                ⟨.list (fs.map PyData.str), offH H39 ps sm_, offH_up (up g39) npR (Rn fsm), offH_sub, .inl ⟨sm_, _, _, rfl, rfl, lv39.get 9 rfl, if_pos (.inr rfl), dqS _⟩, valD_list w0 ftn len20 nw, fun _ => ⟨sm_, rfl, off22 fsm, lv39.ne 9 11 (by decide) rfl rfl⟩⟩
              have no_ : ∀ {d : PyData} {v : V}, (∀ ds, d ≠ .list ds) → Dq K (offH H39 ps ps) v d → ValD "without" ts.length d → ∃ (d : PyData) (R' : Hp), Same R R' ∧ Same R' H39 ∧ VR K R' H39 v d ∧ ValD "without" ts.length d ∧ (isL d = true → ∃ a, v = .ref a ∧ H8 a = none ∧ a ≠ ps) := fun {d v} n h vd =>
                ⟨d, offH H39 ps ps, sRp, offH_sub, .inr ⟨n, h⟩, vd, fun z => by cases d with
                  | list ds => exact absurd rfl (n ds)
                  | _ => exact absurd z Bool.false_ne_true⟩
              simp only [List.mem_cons, List.not_mem_nil, or_false] at hv' ho
              rcases hv' with rfl | rfl | rfl | rfl
              · exact some_
              · exact some_
              · obtain ⟨dv, hdv, fdv⟩ : ∃ dv, Dq K (offH H39 ps bd) v dv ∧ Fit dv := by
                  rcases List.mem_append.mp hv with hv | hv
                  · simp only [List.mem_cons, List.not_mem_nil, or_false] at hv
                    rcases hv with rfl | rfl | rfl | rfl | rfl | rfl
                    · exact ⟨.none, .non, sm_consts _ (by simp [consts]), trivial, fun _ z => nomatch z⟩
                    · exact ⟨.str "zzz", .str _, sm_zzz.mono (by decide) (by decide), trivial, fun y z => by cases z; decide⟩
                    · exact ⟨.int 5, .int _, sm_consts _ (by simp [consts]), trivial, fun _ z => nomatch z⟩
                    · exact ⟨.list [.str "a"], .lst (SqL.of ((offH_at (lv39.ne 7 11 (by decide) rfl rfl) (lv39.ne 7 8 (by decide) rfl rfl)).trans (lv39.get 7 rfl))) (.cons (.str _) .nil), sm_consts _ (by simp [consts]), trivial, fun _ z => nomatch z⟩
                    · exact ⟨.bool true, .bl _, sm_consts _ (by simp [consts]), trivial, fun _ z => nomatch z⟩
                    · exact ⟨.str "", .str _, sm_consts _ (by simp [consts]), trivial, fun y z => by cases z; decide⟩
                  · obtain ⟨z, hz, rfl⟩ := List.mem_map.mp hv
                    exact ⟨.str z, .str _, Fit.name (okf z hz)⟩
                refine ⟨.list ((fs.map PyData.str).take k31.toNat ++ [dv] ++ (fs.map PyData.str).drop k31.toNat), offH H39 ps bd, offH_up (up g39) npR (Rn fbd), offH_sub, .inl ⟨bd, _, _, rfl, rfl, lv39.get 8 rfl, if_pos (.inr rfl), dqAll_app (dqAll_app (dqAll_take _ (dqS _)) (.cons hdv .nil)) (dqAll_drop _ (dqS _))⟩, valD_list w0 (fun e he => ?_) ?_ nw, fun _ => ⟨bd, rfl, off22 fbd, lv39.ne 8 11 (by decide) rfl rfl⟩⟩
                · rcases List.mem_append.mp he with he | he
                  · rcases List.mem_append.mp he with he | he
                    · exact ftn e (List.mem_of_mem_take he)
                    · rw [List.mem_singleton.mp he]; exact fdv
                  · exact ftn e (List.mem_of_mem_drop he)
                · rw [List.length_append, List.length_append, List.length_take, List.length_drop, List.length_map, List.length_singleton]
                  omega
              · rcases ho with rfl | rfl | rfl | rfl | rfl | rfl
                · exact no_ (d := .none) (fun _ z => nomatch z) .non (valD_else w0 rfl (by simp [consts]))
                · exact no_ (d := .tuple []) (fun _ z => nomatch z) (.tup (SqT.of ((offH_at (lv39.ne 4 11 (by decide) rfl rfl) (lv39.ne 4 11 (by decide) rfl rfl)).trans (lv39.get 4 rfl))) .nil) (valD_tuple w0 (fun _ z => nomatch z) (by decide) nw)
                · exact no_ (d := .str "a") (fun _ z => nomatch z) (.str _) (valD_else w0 rfl (by simp [consts]))
                · exact no_ (d := .dict []) (fun _ z => nomatch z) (.dic (.inl ((offH_at (lv39.ne 3 11 (by decide) rfl rfl) (lv39.ne 3 11 (by decide) rfl rfl)).trans (lv39.get 3 rfl))) rfl rfl .nil) (valD_else w0 rfl (by simp [consts]))
                · exact no_ (d := .int 5) (fun _ z => nomatch z) (.int _) (valD_else w0 rfl (by simp [consts]))
                · exact no_ (d := .tuple (fs.map PyData.str)) (fun _ z => nomatch z) (.tup (SqT.of ((offH_at (lv39.ne 2 11 (by decide) rfl rfl) (lv39.ne 2 11 (by decide) rfl rfl)).trans (lv39.get 2 rfl))) (dqS _)) (valD_tuple w0 ftn len20 nw)
            obtain ⟨d, R', sRR, sR', vr, vd, lf⟩ := pack
            refine ⟨x, t, "without", v', R', n, ms, ts, d, rfl, sR', WebAt.same sRR wR, (pR.at).same sRR, pk, hn, vr, vd, nw, fun H40 fv => ?_⟩
            have cn : ∀ {b : Addr}, b = ps ∨ H8 b ≠ none → (V.ref b ≠ v' ∨ isL d = false) := fun {b} h => by
              cases il : isL d with
              | false => exact .inr rfl
              | true =>
                obtain ⟨a, rfl, h8, np_⟩ := lf il
                refine .inl fun z => ?_
                cases z
                exact h.elim (fun z => np_ z) fun z => z h8
            have g40 : ∀ b o, b ≠ ps → H8 b = some o → H40 b = some o := fun b o z e => fv b o (cn (.inr (by rw [e]; exact fun z => nomatch z))) (g39 b o z e)
            have src40 := fv _ _ (cn (.inl rfl)) src39
            have few66 := few_ties (pk.mono hn)
            refine ⟨_, rfl, iteF ⟨_, rfl, _, rfl, _, rfl, _, rfl, ps, t, r39, m39, n, ms, ts, rfl, src40, ok39, PlanD.keep (KeepT.same (up g40)) pR, pk, hn, fun r41 m41 v2 d2 H41 ok41 f41 src41 cs => ?_⟩⟩
            have g41 : ∀ b o, b ≠ ps → H8 b = some o → H41 b = some o := fun b o z e => f41 b o z (g40 b o z e)
            have w1 : ("tied" : Str) = "without" ∨ ("tied" : Str) = "tied" := .inr rfl
            have off40 : ∀ {b : Addr}, H40 b = none → H8 b = none := fun {b} e => by
              cases c : H8 b with
              | none => rfl
              | some o => rw [g40 b o (fun z => by rw [z, src40] at e; cases e) c] at e; cases e
            have pack2 : ∃ R', Same R R' ∧ Same R' H41 ∧ VR K R' H41 v2 d2 ∧ ValD "tied" ts.length d2 ∧ (∀ ds, seqD d2 = some ds → ts.length + 2 * ds.length ≤ 75) ∧ (isL d2 = true → ∃ a, v2 = .ref a ∧ H8 a = none ∧ a ≠ ps) := by
              rcases cs with ⟨a, xs, ds, rfl, rfl, nap, na40, ha41, dq41, tv⟩ | ⟨nol, dq41, ⟨ds, rfl, tv⟩ | ⟨e2, c2⟩⟩
              · have := tv.few
                exact ⟨offH H41 ps a, offH_up (up g41) npR (free_of (up g40) na40), offH_sub, .inl ⟨a, xs, ds, rfl, rfl, ha41, if_pos (.inr rfl), dq41⟩, valD_list w1 tv.fit (by omega) (fun _ => by omega), fun ds e => (by cases e; omega), fun _ => ⟨a, rfl, off40 na40, nap⟩⟩
              · have := tv.few
                exact ⟨offH H41 ps ps, offH_up (up g41) npR npR, offH_sub, .inr ⟨nol, dq41⟩, valD_tuple w1 tv.fit (by omega) (fun _ => by omega), fun ds e => (by cases e; omega), fun z => nomatch z⟩
              · refine ⟨offH H41 ps ps, offH_up (up g41) npR npR, offH_sub, .inr ⟨nol, dq41⟩, valD_else w1 e2 c2, fun ds e => (by rw [e2] at e; cases e), fun z => ?_⟩
                cases d2 with
                | list ds => cases e2
                | _ => exact absurd z Bool.false_ne_true
            obtain ⟨R2, sRR2, sR2, vr2, vd2, bd2, lf2⟩ := pack2
            refine ⟨x, t, "tied", v2, R2, n, ms, ts, d2, rfl, sR2, WebAt.same sRR2 wR, (pR.at).same sRR2, pk, hn, vr2, vd2, fun _ => bd2, fun H42 fv2 => ?_⟩
            have cn2 : ∀ {b : Addr}, b = ps ∨ H8 b ≠ none → (V.ref b ≠ v2 ∨ isL d2 = false) := fun {b} h => by
              cases il : isL d2 with
              | false => exact .inr rfl
              | true =>
                obtain ⟨a, rfl, h8, np_⟩ := lf2 il
                refine .inl fun z => ?_
                cases z
                exact h.elim (fun z => np_ z) fun z => z h8
            have g42 : ∀ b o, b ≠ ps → H8 b = some o → H42 b = some o := fun b o z e => fv2 b o (cn2 (.inr (by rw [e]; exact fun z => nomatch z))) (g41 b o z e)
            have src42 := fv2 _ _ (cn2 (.inl rfl)) src41
            refine ⟨_, rfl, iteF ⟨r41, m41, _, _, _, _, _, rfl, g42, src42, ok41⟩⟩
          · rintro σ H22 ⟨r22, m22, u8, u9, u10, u11, u12, rfl, g22, src22, ok22⟩
            exact ⟨r22, m22, _, _, _, _, _, _, _, _, _, _, rfl, fun b o e => g22 b o (fun z => by rw [z, nps0] at e; cases e) (s8 _ _ (s7 _ _ (fr6 b o (fun z => by rw [z, nps0] at e; cases e) (sm3 b o e)))), src22, ok22⟩
      · rintro σ H3 ⟨r3, m3, t3, t4, t5, t6, t7, t8, t9, t10, t11, t12, rfl, sm3, hp3, ok3⟩
        exact ⟨_, _, _, _, _, _, _, _, _, _, _, _, rfl, sm3⟩
    · rintro σ H1 ⟨s1, s2, s3, s4, s5, s6, s7, s8, s9, s10, s11, s12, rfl, sm⟩
      exact k H1
end
end Pw

set_option Elab.async false
set_option linter.all false
set_option maxRecDepth 100000
set_option maxHeartbeats 4000000
namespace Pw
open PySem PySem.Spec PyProof.Rows L2 Ct
/-! all of it put together -/
section
variable {P : Program} {w : World} {K : PySem.W.Frag} {mg : Str → Option Value} {base : Heap} {C CP CS CT CN : Addr}
theorem law_all (T : Bn mg) (M : Mc mg) (X : WC K C) (I : WI K C) (gW : mg "Web" = some (.ref C)) (SB : SysB base) (L : Told4 K mg CN CP CS CT) (hE_BadPlaces : HasE P w K mg base 1 "BadPlaces" CP "value") (hE_BadTies : HasE P w K mg base 1 "BadTies" CS "value") (hE_BadTie : HasE P w K mg base 1 "BadTie" CT "position") (hE_NoPlace : HasE P w K mg base 1 "NoPlace" CN "value") (hP_places : HasP P w K mg base 1 C "places" (getSp C "_places")) (hP_ties : HasP P w K mg base 1 C "ties" (getSp C "_ties")) (D_is_name : DFE K mg "is_name" sIsName ["value"]) (D_all_differ : DFE K mg "_all_differ" sAllDiffer ["names"]) (D_is_tie : DFE K mg "_is_tie" sIsTie ["places", "value"]) (D_pair : DFE K mg "_pair" sPair ["tie"]) (D_check_places : DFE K mg "_check_places" sCheckPlaces ["places"]) (D_check_ties : DFE K mg "_check_ties" sCheckTies ["places", "known", "ties"]) (D_bits_of : DFE K mg "bits_of" sBitsOf ["number"]) (D_sights : DFE K mg "_sights" sSights ["places", "ties"]) (D_is_place : DFE K mg "is_place" sIsPlace ["web", "value"]) (D_check_place : DFE K mg "check_place" sCheckPlace ["web", "value"]) (D_are_places : DFE K mg "are_places" sArePlaces ["web", "value"]) (D_law_source : DFE K mg "_law_source" sSource ["script", "start"]) (D_law_draw : DFE K mg "_law_draw" sDraw ["source", "span"]) (D_law_mixed : DFE K mg "_law_mixed" sLawMixed ["source", "things"]) (D_law_pick : DFE K mg "_law_pick" sPick ["source", "things"]) (D_law_word : DFE K mg "_law_word" sLawWord ["source"]) (D_law_names : DFE K mg "_law_names" sLawNames ["source", "many"]) (D_law_pairs : DFE K mg "_law_pairs" sLawPairs ["source", "many", "kind"]) (D_law_plan : DFE K mg "_law_plan" sLawPlan ["source", "most"]) (nf : PySem.W.notFirst K C (.ref C) = true) (kn : ∀ T ∈ (["NoneType", "tuple", "str", "int", "dict", "bool"] : List String), PySem.W.kitOne K (.type T) (.ref C) = some false) (D_law_web : DFE K mg "_law_web" sLawWeb ["plan"]) (D_law_near : DFE K mg "_law_near" sLawNear ["plan"]) (D_law_less : DFE K mg "_law_less" sLawLess ["plan", "gone"]) (D_law_told : DFE K mg "_law_told" sLawTold ["web", "word", "value"]) (D_law_due : DFE K mg "_law_due" sLawDue ["plan", "word", "value"]) (D_law_parts : DFE K mg "_law_parts" sLawParts ["plan"]) (D_law_same : DFE K mg "_law_same" sLawSame ["web", "plan"]) (D_law_asked_right : DFE K mg "_law_asked_right" sLawAskedRight ["web", "plan", "word", "value"]) (D_law_ties_for : DFE K mg "_law_ties_for" sLawTiesFor ["source", "plan"]) (D_law_compared : DFE K mg "_law_compared" sLawCompared ["source", "web", "plan"]) {f_named : Addr} {d_named : FuncData} (F_named : Fun K "named" "Web.named" sNamed f_named d_named) (B_named : Binds K d_named ["self", "number"] []) (M_named : Meth K C "named" f_named) {f_part_of : Addr} {d_part_of : FuncData} (F_part_of : Fun K "_part_of" "Web._part_of" sPartOf f_part_of d_part_of) (B_part_of : Binds K d_part_of ["self", "start"] []) (M_part_of : Meth K C "_part_of" f_part_of) {f_parts : Addr} {d_parts : FuncData} (F_parts : Fun K "parts" "Web.parts" sParts f_parts d_parts) (B_parts : Binds K d_parts ["self"] []) (M_parts : Meth K C "parts" f_parts) {f_sees : Addr} {d_sees : FuncData} (F_sees : Fun K "sees" "Web.sees" sSees f_sees d_sees) (B_sees : Binds K d_sees ["self", "place"] []) (M_sees : Meth K C "sees" f_sees) {f_tied : Addr} {d_tied : FuncData} (F_tied : Fun K "tied" "Web.tied" sTied f_tied d_tied) (B_tied : Binds K d_tied ["self", "ties"] []) (M_tied : Meth K C "tied" f_tied) {f_without : Addr} {d_without : FuncData} (F_without : Fun K "without" "Web.without" sWithout f_without d_without) (B_without : Binds K d_without ["self", "places"] []) (M_without : Meth K C "without" f_without) {f_eq : Addr} {d_eq : FuncData} (F_eq : Fun K "__eq__" "Web.__eq__" sEqW f_eq d_eq) (B_eq : Binds K d_eq ["self", "other"] []) (EQ : EqC K C f_eq) {f_init T0 : Addr} {d_init : FuncData} {o0 : Obj} {n0 : Nat} {dv : List Value} (F_init : FunD K "__init__" "Web.__init__" (defArgs sInit) (defBody sInit) (defScope sInit) [.ref T0] [] f_init d_init) (B1 : Binds K d_init ["self", "places", "ties"] []) (B0 : Binds K d_init ["self", "places", "ties"] dv) (V0 : Vals [.ref T0] dv) (l0 : K.lookup T0 = some o0) (c0 : o0.cls = .type "tuple") (s0 : o0.data = .seq #[] n0) (MK : Mk K C f_init) {fl : Addr} {dl : FuncData} (FL : Fun K "law" "law" sLaw fl dl) : GFn P w K mg base CX0 9 fl dl ["script"] (spLaw K) := by
  have h_is_name := has_is_name (P := P) (w := w) (base := base) T M D_is_name
  have h_all_differ := has_all_differ (P := P) (w := w) (base := base) T D_all_differ
  have h_is_tie := has_is_tie (P := P) (w := w) (base := base) T D_is_tie
  have h_pair := has_pair (P := P) (w := w) (base := base) D_pair
  have h_check_places := has_check_places T M D_check_places h_is_name h_all_differ hE_BadPlaces
  have h_check_ties := has_check_ties T D_check_ties h_is_tie h_pair hE_BadTies hE_BadTie
  have h_bits_of := has_bits_of (P := P) (w := w) (base := base) T D_bits_of
  have hM_named : HasM P w K mg base CX0 2 C "named" ["self", "number"] (spNamed K C) := ⟨_, _, M_named, B_named, ok_named X.cls X.n1 F_named h_bits_of⟩
  have h_sights := has_sights (P := P) (w := w) (base := base) T D_sights
  have hW : HasW P w K mg base 4 C CP CS CT := ⟨gW, f_init, T0, d_init, dv, o0, n0, MK, ok_init T X F_init h_check_places h_check_ties h_sights h_pair hM_named, B1, B0, V0, l0, c0, s0⟩
  have h_is_place := has_is_place X D_is_place hP_places
  have h_check_place := has_check_place D_check_place h_is_place hE_NoPlace
  have hM_sees : HasM P w K mg base (L2.CX P w) 5 C "sees" ["self", "place"] (spSees K C CN) := ⟨_, _, M_sees, B_sees, ok_sees T X F_sees h_check_place⟩
  have hM_part_of : HasM P w K mg base CX0 1 C "_part_of" ["self", "start"] (spPartOf K C) := ⟨_, _, M_part_of, B_part_of, ok_part_of T X F_part_of⟩
  have hM_parts : HasM P w K mg base CX0 2 C "parts" ["self"] (spParts C K) := ⟨_, _, M_parts, B_parts, ok_parts T X F_parts hM_part_of⟩
  have hQ : HasEq2 P w K mg base C := ⟨⟨_, _, ok_eqA T X I gW F_eq, EQ, B_eq⟩⟩
  have h_are_places := has_are_places T D_are_places h_is_place h_all_differ
  have hM_without : HasM P w K mg base (L2.CX P w) 6 C "without" ["self", "places"] (spWithout K C CP) := ⟨_, _, M_without, B_without, ok_without T X F_without h_are_places hE_BadPlaces hW⟩
  have hM_tied : HasM P w K mg base (L2.CX P w) 6 C "tied" ["self", "ties"] (spTied K C CS CT) := ⟨_, _, M_tied, B_tied, ok_tied T X F_tied h_check_ties hW⟩
  have h_source := has_source (P := P) (w := w) (base := base) T D_law_source
  have h_draw := has_draw (P := P) (w := w) (base := base) T D_law_draw
  have h_mixed := has_mixed T D_law_mixed h_draw
  have h_pick := has_pick T D_law_pick h_draw
  have h_word := has_word T D_law_word h_draw h_pick
  have h_names := has_names D_law_names h_draw h_mixed h_word
  have h_pairs := has_pairs T D_law_pairs h_draw
  have h_plan := has_plan T D_law_plan h_draw h_mixed h_names h_pairs
  have h_web := has_law_web T D_law_web hW
  have h_near := has_law_near (P := P) (w := w) (base := base) T D_law_near
  have h_parts := has_law_parts T D_law_parts h_near
  have h_less := has_law_less (P := P) (w := w) (base := base) T D_law_less
  have h_same := has_law_same T X D_law_same hP_places hP_ties hQ hM_sees hM_parts h_near h_web h_parts
  have h_told := has_law_told L X D_law_told hM_sees hM_tied hM_without
  have h_due := has_law_due T D_law_due h_less
  have h_asked := has_law_asked T SB X D_law_asked_right hQ hM_without h_due h_told h_same h_less h_web
  have h_tf := has_law_ties_for T D_law_ties_for h_draw h_pick h_mixed
  have h_cmp := has_law_compared T X I nf kn D_law_compared hQ hW hM_sees h_draw h_pick h_mixed h_plan h_near h_web
  exact has_law T X SB FL h_source h_draw h_pick h_mixed h_plan h_web h_same h_cmp h_told hM_sees hM_parts h_tf h_asked
end
end Pw

set_option Elab.async false
set_option linter.all false
set_option maxRecDepth 100000
set_option maxHeartbeats 4000000
namespace Pw
open PySem PySem.Spec PyProof.Rows L2 Ct
section
variable {P : Program} {w : World} {K : PySem.W.Frag} {mg : Str → Option Value} {base : Heap}
abbrev sE_BadPlaces : Stmt := inClass (top ix_BadPlaces) mx_BadPlaces_init
theorem scE_BadPlaces : FnScope ["self", "value"] ["self", "value"] (defScope sE_BadPlaces) := ⟨rfl, rfl, rfl, by decide +kernel, rfl, by decide +kernel, by decide +kernel⟩
theorem hE_BadPlaces {C fI : Addr} {fd : FuncData} (g : mg "BadPlaces" = some (.ref C)) (F : Fun K "__init__" "BadPlaces.__init__" sE_BadPlaces fI fd) (T : XCls K C fI) (no : PySem.W.findIn K (.ref C) "value" = some none) : HasE P w K mg base 1 "BadPlaces" C "value" := by
  refine ⟨g, fI, fd, T, F.ok scE_BadPlaces (fun vs H Q E h => ?_) (fun cdv A outer s H vs Q E hr h => ?_), F.binds fun _ _ _ _ _ _ us hl => match us, hl with | [_, _], _ => rfl⟩
  · obtain ⟨a, v, rfl, _⟩ := h; rfl
  · obtain ⟨a, v, rfl, ha, k⟩ := h
    exact ⟨_, pss_one (ps_ost (pv 0) (pv 1)), _, rfl, _, rfl, a, C, rfl, T.ox, no, .inl ⟨ha, fun dx n ne => k dx n ne⟩⟩
abbrev sE_BadTies : Stmt := inClass (top ix_BadTies) mx_BadTies_init
theorem scE_BadTies : FnScope ["self", "value"] ["self", "value"] (defScope sE_BadTies) := ⟨rfl, rfl, rfl, by decide +kernel, rfl, by decide +kernel, by decide +kernel⟩
theorem hE_BadTies {C fI : Addr} {fd : FuncData} (g : mg "BadTies" = some (.ref C)) (F : Fun K "__init__" "BadTies.__init__" sE_BadTies fI fd) (T : XCls K C fI) (no : PySem.W.findIn K (.ref C) "value" = some none) : HasE P w K mg base 1 "BadTies" C "value" := by
  refine ⟨g, fI, fd, T, F.ok scE_BadTies (fun vs H Q E h => ?_) (fun cdv A outer s H vs Q E hr h => ?_), F.binds fun _ _ _ _ _ _ us hl => match us, hl with | [_, _], _ => rfl⟩
  · obtain ⟨a, v, rfl, _⟩ := h; rfl
  · obtain ⟨a, v, rfl, ha, k⟩ := h
    exact ⟨_, pss_one (ps_ost (pv 0) (pv 1)), _, rfl, _, rfl, a, C, rfl, T.ox, no, .inl ⟨ha, fun dx n ne => k dx n ne⟩⟩
abbrev sE_BadTie : Stmt := inClass (top ix_BadTie) mx_BadTie_init
theorem scE_BadTie : FnScope ["self", "position"] ["self", "position"] (defScope sE_BadTie) := ⟨rfl, rfl, rfl, by decide +kernel, rfl, by decide +kernel, by decide +kernel⟩
theorem hE_BadTie {C fI : Addr} {fd : FuncData} (g : mg "BadTie" = some (.ref C)) (F : Fun K "__init__" "BadTie.__init__" sE_BadTie fI fd) (T : XCls K C fI) (no : PySem.W.findIn K (.ref C) "position" = some none) : HasE P w K mg base 1 "BadTie" C "position" := by
  refine ⟨g, fI, fd, T, F.ok scE_BadTie (fun vs H Q E h => ?_) (fun cdv A outer s H vs Q E hr h => ?_), F.binds fun _ _ _ _ _ _ us hl => match us, hl with | [_, _], _ => rfl⟩
  · obtain ⟨a, v, rfl, _⟩ := h; rfl
  · obtain ⟨a, v, rfl, ha, k⟩ := h
    exact ⟨_, pss_one (ps_ost (pv 0) (pv 1)), _, rfl, _, rfl, a, C, rfl, T.ox, no, .inl ⟨ha, fun dx n ne => k dx n ne⟩⟩
abbrev sE_NoPlace : Stmt := inClass (top ix_NoPlace) mx_NoPlace_init
theorem scE_NoPlace : FnScope ["self", "value"] ["self", "value"] (defScope sE_NoPlace) := ⟨rfl, rfl, rfl, by decide +kernel, rfl, by decide +kernel, by decide +kernel⟩
theorem hE_NoPlace {C fI : Addr} {fd : FuncData} (g : mg "NoPlace" = some (.ref C)) (F : Fun K "__init__" "NoPlace.__init__" sE_NoPlace fI fd) (T : XCls K C fI) (no : PySem.W.findIn K (.ref C) "value" = some none) : HasE P w K mg base 1 "NoPlace" C "value" := by
  refine ⟨g, fI, fd, T, F.ok scE_NoPlace (fun vs H Q E h => ?_) (fun cdv A outer s H vs Q E hr h => ?_), F.binds fun _ _ _ _ _ _ us hl => match us, hl with | [_, _], _ => rfl⟩
  · obtain ⟨a, v, rfl, _⟩ := h; rfl
  · obtain ⟨a, v, rfl, ha, k⟩ := h
    exact ⟨_, pss_one (ps_ost (pv 0) (pv 1)), _, rfl, _, rfl, a, C, rfl, T.ox, no, .inl ⟨ha, fun dx n ne => k dx n ne⟩⟩
abbrev sG_places : Stmt := inClass (top ix_Web) mx_Web_places
theorem scG_places : FnScope ["self"] ["self"] (defScope sG_places) := ⟨rfl, rfl, rfl, by decide +kernel, rfl, by decide +kernel, by decide +kernel⟩
theorem hP_places {C p g : Addr} {fd : FuncData} (hp : PropOf K C "places" p g) (F : FunD K "places" "Web.places" (defArgs sG_places) (defBody sG_places) (defScope sG_places) [] [] g fd) (c : Cls K C) (n : NoAttr K C "_places") : HasP P w K mg base 1 C "places" (getSp C "_places") := by
  have b : Binds K fd ["self"] [] := FunD.bindsN (ps := ["self"]) F fun _ _ _ _ _ _ us hl => match us, hl with | [_], _ => rfl
  obtain ⟨oc, od, dV, kV, doc, pm, an, cdv, ct, osl, e, lk, hcd, _, _⟩ := id F.ex
  subst e
  exact ⟨p, g, _, hp, fn_getter lk hcd scG_places rfl rfl c n, b⟩
abbrev sG_ties : Stmt := inClass (top ix_Web) mx_Web_ties
theorem scG_ties : FnScope ["self"] ["self"] (defScope sG_ties) := ⟨rfl, rfl, rfl, by decide +kernel, rfl, by decide +kernel, by decide +kernel⟩
theorem hP_ties {C p g : Addr} {fd : FuncData} (hp : PropOf K C "ties" p g) (F : FunD K "ties" "Web.ties" (defArgs sG_ties) (defBody sG_ties) (defScope sG_ties) [] [] g fd) (c : Cls K C) (n : NoAttr K C "_ties") : HasP P w K mg base 1 C "ties" (getSp C "_ties") := by
  have b : Binds K fd ["self"] [] := FunD.bindsN (ps := ["self"]) F fun _ _ _ _ _ _ us hl => match us, hl with | [_], _ => rfl
  obtain ⟨oc, od, dV, kV, doc, pm, an, cdv, ct, osl, e, lk, hcd, _, _⟩ := id F.ex
  subst e
  exact ⟨p, g, _, hp, fn_getter lk hcd scG_ties rfl rfl c n, b⟩
end
/-! ### the head: facts by names, the run -/
def tFn_0 : List He.DefD := [dM "law" sLaw, dC "BadPlaces" "__init__" "BadPlaces.__init__" sE_BadPlaces, dC "BadTies" "__init__" "BadTies.__init__" sE_BadTies, dC "BadTie" "__init__" "BadTie.__init__" sE_BadTie, dC "NoPlace" "__init__" "NoPlace.__init__" sE_NoPlace, dC "Web" "named" "Web.named" sNamed, dC "Web" "_part_of" "Web._part_of" sPartOf, dC "Web" "parts" "Web.parts" sParts, dC "Web" "sees" "Web.sees" sSees, dC "Web" "tied" "Web.tied" sTied, dC "Web" "without" "Web.without" sWithout, dC "Web" "__eq__" "Web.__eq__" sEqW, ⟨("Web", some "__init__"), "__init__", "Web.__init__", defArgs sInit, defBody sInit, defScope sInit, [.adr (He.dflAt ("Web", some "__init__") 0)], []⟩, dM "is_name" sIsName, dM "_all_differ" sAllDiffer, dM "_is_tie" sIsTie, dM "_pair" sPair, dM "_check_places" sCheckPlaces, dM "_check_ties" sCheckTies, dM "bits_of" sBitsOf, dM "_sights" sSights, dM "is_place" sIsPlace, dM "check_place" sCheckPlace, dM "are_places" sArePlaces, dM "_law_source" sSource, dM "_law_draw" sDraw, dM "_law_mixed" sLawMixed, dM "_law_pick" sPick, dM "_law_word" sLawWord, dM "_law_names" sLawNames]
def tFn_1 : List He.DefD := [dM "_law_pairs" sLawPairs, dM "_law_plan" sLawPlan, dM "_law_web" sLawWeb, dM "_law_near" sLawNear, dM "_law_less" sLawLess, dM "_law_told" sLawTold, dM "_law_due" sLawDue, dM "_law_parts" sLawParts, dM "_law_same" sLawSame, dM "_law_asked_right" sLawAskedRight, dM "_law_ties_for" sLawTiesFor, dM "_law_compared" sLawCompared]
def tFn : List He.DefD := tFn_0 ++ tFn_1
def tFa_0 : List He.Fa := [.glo "law", .free "int", .free "str", .free "bool", .free "len", .free "range", .free "max", .free "min", .free "isinstance", .free "list", .free "tuple", .free "set", .free "dict", .free "repr", .free "all", .free "any", .free "sorted", .free "enumerate", .free "zip", .free "sum", .free "reversed", .int "MOST_PLACES" 12, .int "MOST_LETTERS" 8, .str "LETTERS" "abcdefghijklmnopqrstuvwxyz", .glo "BadPlaces", .glo "BadTies", .glo "BadTie", .glo "NoPlace", .cls "Web", .noat "Web" "_places"]
def tFa_1 : List He.Fa := [.noat "Web" "_ties", .noat "Web" "_sights", .noat "Web" "_seen", .noat "Web" "_kept", .noat "Web" "_sorted_places", .noat "Web" "_sorted_pairs", .meth "Web" "named", .meth "Web" "_part_of", .meth "Web" "parts", .meth "Web" "sees", .meth "Web" "tied", .meth "Web" "without", .meth "Web" "__eq__", .mkr "Web", .glo "Web", .glo "is_name", .glo "_all_differ", .glo "_is_tie", .glo "_pair", .glo "_check_places", .glo "_check_ties", .glo "bits_of", .glo "_sights", .glo "is_place", .glo "check_place", .glo "are_places", .glo "_law_source", .glo "_law_draw", .glo "_law_mixed", .glo "_law_pick"]
def tFa_2 : List He.Fa := [.glo "_law_word", .glo "_law_names", .glo "_law_pairs", .glo "_law_plan", .glo "_law_web", .glo "_law_near", .glo "_law_less", .glo "_law_told", .glo "_law_due", .glo "_law_parts", .glo "_law_same", .glo "_law_asked_right", .glo "_law_ties_for", .glo "_law_compared"]
def tFa : List He.Fa := tFa_0 ++ tFa_1 ++ tFa_2
def hex_0 : List (PySem.W.Frag → Bool) := [fun K => Ct.genB K, fun K => Ct.xclB K "BadPlaces" "value", fun K => Ct.xclB K "BadTies" "value", fun K => Ct.xclB K "BadTie" "position", fun K => Ct.xclB K "NoPlace" "value", fun K => Ct.clsB K "Web", fun K => Ct.isB K "Web" (.ref (He.ga K "Web")) true, fun K => Ct.prB K "Web" "places", fun K => Ct.prB K "Web" "ties", fun K => Ct.emptyB K (He.dflAt ("Web", some "__init__") 0 K), fun K => Ct.exmB K "NoPlace" "NoPlace" true, fun K => Ct.exmB K "BadPlaces" "NoPlace" false, fun K => Ct.exmB K "BadPlaces" "BadPlaces" true, fun K => Ct.exmB K "BadTies" "NoPlace" false, fun K => Ct.exmB K "BadTies" "BadPlaces" false, fun K => Ct.exmB K "BadTies" "BadTies" true, fun K => Ct.exmB K "BadTie" "NoPlace" false, fun K => Ct.exmB K "BadTie" "BadPlaces" false, fun K => Ct.exmB K "BadTie" "BadTies" false, fun K => Ct.exmB K "BadTie" "BadTie" true]
def hex_1 : List (PySem.W.Frag → Bool) := [fun K => PySem.W.notFirst K (He.ga K "Web") (.ref (He.ga K "Web")), fun K => (["NoneType", "tuple", "str", "int", "dict", "bool"] : List String).all fun T => decide (PySem.W.kitOne K (.type T) (.ref (He.ga K "Web")) = some false), fun K => Ct.eqcB K "Web"]
def hex : List (PySem.W.Frag → Bool) := hex_0 ++ hex_1
def tGs : List Ct.GetD := [Ct.dG "Web" "places" "Web.places" sG_places, Ct.dG "Web" "ties" "Web.ties" sG_ties]
def hexA (K : PySem.W.Frag) : Bool := hex.all fun f => f K
theorem exs_at {K : PySem.W.Frag} (c : hexA K = true) (i : Nat) {f : PySem.W.Frag → Bool} (h : hex[i]? = some f) : f K = true := List.all_eq_true.mp c f (List.mem_of_getElem? h)
def hnames_0 : List Str := ["_wall", "bits_of", "WebError", "BadPlaces", "BadTies", "BadTie", "NoPlace", "MOST_PLACES", "MOST_LETTERS", "LETTERS", "is_name", "is_place", "check_place", "_all_differ", "are_places", "_check_places", "_is_tie", "_pair", "_check_ties", "_sights", "Web", "_law_source", "_law_draw", "_law_pick", "_law_mixed", "_law_word", "_law_names", "_law_pairs", "_law_plan", "_law_web"]
def hnames_1 : List Str := ["_law_near", "_law_less", "_law_told", "_law_due", "_law_parts", "_law_same", "_law_asked_right", "_law_ties_for", "_law_compared"]
def hnames : List Str := hnames_0 ++ hnames_1
abbrev HR : PySem.W.OpenRow := PySem.W.OpenLaw.row PySem.Challenge.rw_cornerturn_k02_webs_asked_and_changed
abbrev hk : PySem.W.Hook := Ct.hookG 6 tFa tFn tGs hexA
def hob (s : PySem.W.SharedT) : Ct.AlG := Ct.obsGtG 6 tFa tFn tGs hexA (HandSHeadRun.getT s)
theorem hob_eq (s : PySem.W.SharedT) : hob s = hk.obs s.abs := Ct.obsGtG_eq (HandSHeadRun.getT_eq s)
theorem hrun (w : World) : HandSHeadRun.RunEq HR (PySem.W.view HR.prog [43]) hk hob 12000 hnames w := by
  intro os
  kernel_rfl
open He in
theorem facts {P : Program} {w : World} {K : PySem.W.Frag} {h : Heap} {mg : Str → Option Value} {f : Addr} (X : K.In h) (G : h.Ns mainGlobals mg) (zfa : mg ("law" : Str) = some (.ref f)) (c : He.SaysD tFa tFn K) (cg : Ct.SaysG tGs K) (ce : hexA K = true) :
    ∃ fd : FuncData, (∀ (s : Shared) (v : Value), BindsTo s fd ⟨[v], []⟩ [("script", v)]) ∧ ∀ base : Heap, K.In base → base.Ns mainGlobals mg → (∃ mm, base.Ns sysModules mm) → GFn P w K mg base CX0 9 f fd ["script"] (spLaw K) := by
  obtain ⟨fd, FL0⟩ := c.def_ 0 (d := dM "law" sLaw) rfl
  have e := zfa.symm.trans (glo_ok X G (c.fact 0 (f := .glo "law") rfl))
  cases e
  have b := FunD.bindsA (ps := ["script"]) FL0 fun _ _ _ _ _ _ us hl => match us, hl with | [_], _ => rfl
  have FL : Fun K "law" "law" sLaw (ga K "law") fd := fun_of FL0
  refine ⟨fd, fun s v => b s [v] rfl, fun base KB _ SB => ?_⟩
  have T : Bn mg := ⟨(free_ok X G (c.fact 1 (f := .free "int") rfl)), (free_ok X G (c.fact 2 (f := .free "str") rfl)), (free_ok X G (c.fact 3 (f := .free "bool") rfl)), (free_ok X G (c.fact 4 (f := .free "len") rfl)), (free_ok X G (c.fact 5 (f := .free "range") rfl)), (free_ok X G (c.fact 6 (f := .free "max") rfl)), (free_ok X G (c.fact 7 (f := .free "min") rfl)), (free_ok X G (c.fact 8 (f := .free "isinstance") rfl)), (free_ok X G (c.fact 9 (f := .free "list") rfl)), (free_ok X G (c.fact 10 (f := .free "tuple") rfl)), (free_ok X G (c.fact 11 (f := .free "set") rfl)), (free_ok X G (c.fact 12 (f := .free "dict") rfl)), (free_ok X G (c.fact 13 (f := .free "repr") rfl)), (free_ok X G (c.fact 14 (f := .free "all") rfl)), (free_ok X G (c.fact 15 (f := .free "any") rfl)), (free_ok X G (c.fact 16 (f := .free "sorted") rfl)), (free_ok X G (c.fact 17 (f := .free "enumerate") rfl)), (free_ok X G (c.fact 18 (f := .free "zip") rfl)), (free_ok X G (c.fact 19 (f := .free "sum") rfl)), (free_ok X G (c.fact 20 (f := .free "reversed") rfl))⟩
  have M : Mc mg := ⟨(int_ok X G (c.fact 21 (f := .int "MOST_PLACES" 12) rfl)), (int_ok X G (c.fact 22 (f := .int "MOST_LETTERS" 8) rfl)), (str_ok X G (c.fact 23 (f := .str "LETTERS" "abcdefghijklmnopqrstuvwxyz") rfl))⟩
  obtain ⟨X_BadPlaces, n_BadPlaces⟩ := xclB_ok (x := "BadPlaces") (f := "value") (show (fun K => Ct.genB K) K = true from exs_at ce 0 rfl) (show (fun K => Ct.xclB K "BadPlaces" "value") K = true from exs_at ce 1 rfl)
  obtain ⟨fd_BadPlaces, F_BadPlaces⟩ := fun_at c 1 (C := "BadPlaces") (m := "__init__") (q := "BadPlaces.__init__") (st := sE_BadPlaces) rfl
  have E_BadPlaces : HasE P w K mg base 1 "BadPlaces" (ga K "BadPlaces") "value" := hE_BadPlaces (glo_ok X G (c.fact 24 (f := .glo "BadPlaces") rfl)) F_BadPlaces X_BadPlaces n_BadPlaces
  obtain ⟨X_BadTies, n_BadTies⟩ := xclB_ok (x := "BadTies") (f := "value") (show (fun K => Ct.genB K) K = true from exs_at ce 0 rfl) (show (fun K => Ct.xclB K "BadTies" "value") K = true from exs_at ce 2 rfl)
  obtain ⟨fd_BadTies, F_BadTies⟩ := fun_at c 2 (C := "BadTies") (m := "__init__") (q := "BadTies.__init__") (st := sE_BadTies) rfl
  have E_BadTies : HasE P w K mg base 1 "BadTies" (ga K "BadTies") "value" := hE_BadTies (glo_ok X G (c.fact 25 (f := .glo "BadTies") rfl)) F_BadTies X_BadTies n_BadTies
  obtain ⟨X_BadTie, n_BadTie⟩ := xclB_ok (x := "BadTie") (f := "position") (show (fun K => Ct.genB K) K = true from exs_at ce 0 rfl) (show (fun K => Ct.xclB K "BadTie" "position") K = true from exs_at ce 3 rfl)
  obtain ⟨fd_BadTie, F_BadTie⟩ := fun_at c 3 (C := "BadTie") (m := "__init__") (q := "BadTie.__init__") (st := sE_BadTie) rfl
  have E_BadTie : HasE P w K mg base 1 "BadTie" (ga K "BadTie") "position" := hE_BadTie (glo_ok X G (c.fact 26 (f := .glo "BadTie") rfl)) F_BadTie X_BadTie n_BadTie
  obtain ⟨X_NoPlace, n_NoPlace⟩ := xclB_ok (x := "NoPlace") (f := "value") (show (fun K => Ct.genB K) K = true from exs_at ce 0 rfl) (show (fun K => Ct.xclB K "NoPlace" "value") K = true from exs_at ce 4 rfl)
  obtain ⟨fd_NoPlace, F_NoPlace⟩ := fun_at c 4 (C := "NoPlace") (m := "__init__") (q := "NoPlace.__init__") (st := sE_NoPlace) rfl
  have E_NoPlace : HasE P w K mg base 1 "NoPlace" (ga K "NoPlace") "value" := hE_NoPlace (glo_ok X G (c.fact 27 (f := .glo "NoPlace") rfl)) F_NoPlace X_NoPlace n_NoPlace
  have c1 : Cls K (ga K "Web") := (cls_ok (c.fact 28 (f := .cls "Web") rfl))
  have WX : WC K (ga K "Web") := ⟨c1, (noat_ok (c.fact 29 (f := .noat "Web" "_places") rfl)), (noat_ok (c.fact 30 (f := .noat "Web" "_ties") rfl)), (noat_ok (c.fact 31 (f := .noat "Web" "_sights") rfl)), (noat_ok (c.fact 32 (f := .noat "Web" "_seen") rfl)), (noat_ok (c.fact 33 (f := .noat "Web" "_kept") rfl)), (noat_ok (c.fact 34 (f := .noat "Web" "_sorted_places") rfl)), (noat_ok (c.fact 35 (f := .noat "Web" "_sorted_pairs") rfl))⟩
  obtain ⟨g1, g2⟩ := ba (show (fun K => Ct.genB K) K = true from exs_at ce 0 rfl)
  obtain ⟨w1, w2⟩ := ba (show (fun K => Ct.clsB K "Web") K = true from exs_at ce 5 rfl)
  have I : WI K (ga K "Web") := ⟨eqO_ok w1, eqO_ok g1, of_decide_eq_true g2, of_decide_eq_true w2, of_decide_eq_true (show (fun K => Ct.isB K "Web" (.ref (He.ga K "Web")) true) K = true from exs_at ce 6 rfl)⟩
  obtain ⟨fd_places, FG_places⟩ := cg.at 0 (d := Ct.dG "Web" "places" "Web.places" sG_places) rfl
  have P_places : HasP P w K mg base 1 (ga K "Web") "places" (getSp (ga K "Web") "_places") := hP_places (prB_ok (show (fun K => Ct.prB K "Web" "places") K = true from exs_at ce 7 rfl)) FG_places c1 WX.n1
  obtain ⟨fd_ties, FG_ties⟩ := cg.at 1 (d := Ct.dG "Web" "ties" "Web.ties" sG_ties) rfl
  have P_ties : HasP P w K mg base 1 (ga K "Web") "ties" (getSp (ga K "Web") "_ties") := hP_ties (prB_ok (show (fun K => Ct.prB K "Web" "ties") K = true from exs_at ce 8 rfl)) FG_ties c1 WX.n2
  obtain ⟨d_named, F_named⟩ := fun_at c 5 (C := "Web") (m := "named") (q := "Web.named") (st := sNamed) rfl
  have B_named : Binds K d_named ["self", "number"] [] := F_named.binds fun _ _ _ _ _ _ us hl => match us, hl with | [_, _], _ => rfl
  have M_named := (meth_ok (c.fact 36 (f := .meth "Web" "named") rfl))
  obtain ⟨d_part_of, F_part_of⟩ := fun_at c 6 (C := "Web") (m := "_part_of") (q := "Web._part_of") (st := sPartOf) rfl
  have B_part_of : Binds K d_part_of ["self", "start"] [] := F_part_of.binds fun _ _ _ _ _ _ us hl => match us, hl with | [_, _], _ => rfl
  have M_part_of := (meth_ok (c.fact 37 (f := .meth "Web" "_part_of") rfl))
  obtain ⟨d_parts, F_parts⟩ := fun_at c 7 (C := "Web") (m := "parts") (q := "Web.parts") (st := sParts) rfl
  have B_parts : Binds K d_parts ["self"] [] := F_parts.binds fun _ _ _ _ _ _ us hl => match us, hl with | [_], _ => rfl
  have M_parts := (meth_ok (c.fact 38 (f := .meth "Web" "parts") rfl))
  obtain ⟨d_sees, F_sees⟩ := fun_at c 8 (C := "Web") (m := "sees") (q := "Web.sees") (st := sSees) rfl
  have B_sees : Binds K d_sees ["self", "place"] [] := F_sees.binds fun _ _ _ _ _ _ us hl => match us, hl with | [_, _], _ => rfl
  have M_sees := (meth_ok (c.fact 39 (f := .meth "Web" "sees") rfl))
  obtain ⟨d_tied, F_tied⟩ := fun_at c 9 (C := "Web") (m := "tied") (q := "Web.tied") (st := sTied) rfl
  have B_tied : Binds K d_tied ["self", "ties"] [] := F_tied.binds fun _ _ _ _ _ _ us hl => match us, hl with | [_, _], _ => rfl
  have M_tied := (meth_ok (c.fact 40 (f := .meth "Web" "tied") rfl))
  obtain ⟨d_without, F_without⟩ := fun_at c 10 (C := "Web") (m := "without") (q := "Web.without") (st := sWithout) rfl
  have B_without : Binds K d_without ["self", "places"] [] := F_without.binds fun _ _ _ _ _ _ us hl => match us, hl with | [_, _], _ => rfl
  have M_without := (meth_ok (c.fact 41 (f := .meth "Web" "without") rfl))
  obtain ⟨d_eq, F_eq⟩ := fun_at c 11 (C := "Web") (m := "__eq__") (q := "Web.__eq__") (st := sEqW) rfl
  have B_eq : Binds K d_eq ["self", "other"] [] := F_eq.binds fun _ _ _ _ _ _ us hl => match us, hl with | [_, _], _ => rfl
  have M_eq := (meth_ok (c.fact 42 (f := .meth "Web" "__eq__") rfl))
  obtain ⟨d_init, F_init0⟩ := c.def_ 12 (d := ⟨("Web", some "__init__"), "__init__", "Web.__init__", defArgs sInit, defBody sInit, defScope sInit, [.adr (He.dflAt ("Web", some "__init__") 0)], []⟩) rfl
  have F_init : FunD K "__init__" "Web.__init__" (defArgs sInit) (defBody sInit) (defScope sInit) [.ref (He.dflAt ("Web", some "__init__") 0 K)] [] (ma K (ga K "Web") "__init__") d_init := F_init0
  obtain ⟨ds1, V1, B1⟩ := FunD.binds1 (ps := ["self", "places", "ties"]) F_init 3 1 (by simp) rfl (fun _ _ _ _ _ _ _ us its hl h2 => match us, hl, its, h2 with | [_, _, _], _, [_], _ => ⟨fun _ => _, rfl, rfl⟩)
  obtain ⟨dv, V0, B0⟩ := FunD.binds1 (ps := ["self", "places", "ties"]) F_init 2 0 (by simp) rfl (fun _ _ _ _ _ _ _ us its hl h2 => match us, hl, its, h2 with | [_, _], _, [_], _ => ⟨_, rfl, rfl⟩)
  cases V1
  obtain ⟨o0, n0, l0, c0, s0⟩ := emptyB_ok (show (fun K => Ct.emptyB K (He.dflAt ("Web", some "__init__") 0 K)) K = true from exs_at ce 9 rfl)
  have MK := (mkr_ok (c.fact 43 (f := .mkr "Web") rfl))
  have L : Told4 K mg (ga K "NoPlace") (ga K "BadPlaces") (ga K "BadTies") (ga K "BadTie") := ⟨(glo_ok X G (c.fact 27 (f := .glo "NoPlace") rfl)), (glo_ok X G (c.fact 24 (f := .glo "BadPlaces") rfl)), (glo_ok X G (c.fact 25 (f := .glo "BadTies") rfl)), (glo_ok X G (c.fact 26 (f := .glo "BadTie") rfl)), X_NoPlace.xe, X_BadPlaces.xe, X_BadTies.xe, X_BadTie.xe, n_NoPlace, n_BadPlaces, n_BadTies, n_BadTie, (of_decide_eq_true (show (fun K => Ct.exmB K "NoPlace" "NoPlace" true) K = true from exs_at ce 10 rfl)), (of_decide_eq_true (show (fun K => Ct.exmB K "BadPlaces" "NoPlace" false) K = true from exs_at ce 11 rfl)), (of_decide_eq_true (show (fun K => Ct.exmB K "BadPlaces" "BadPlaces" true) K = true from exs_at ce 12 rfl)), (of_decide_eq_true (show (fun K => Ct.exmB K "BadTies" "NoPlace" false) K = true from exs_at ce 13 rfl)), (of_decide_eq_true (show (fun K => Ct.exmB K "BadTies" "BadPlaces" false) K = true from exs_at ce 14 rfl)), (of_decide_eq_true (show (fun K => Ct.exmB K "BadTies" "BadTies" true) K = true from exs_at ce 15 rfl)), (of_decide_eq_true (show (fun K => Ct.exmB K "BadTie" "NoPlace" false) K = true from exs_at ce 16 rfl)), (of_decide_eq_true (show (fun K => Ct.exmB K "BadTie" "BadPlaces" false) K = true from exs_at ce 17 rfl)), (of_decide_eq_true (show (fun K => Ct.exmB K "BadTie" "BadTies" false) K = true from exs_at ce 18 rfl)), (of_decide_eq_true (show (fun K => Ct.exmB K "BadTie" "BadTie" true) K = true from exs_at ce 19 rfl))⟩
  have nf : PySem.W.notFirst K (ga K "Web") (.ref (ga K "Web")) = true := (show (fun K => PySem.W.notFirst K (He.ga K "Web") (.ref (He.ga K "Web"))) K = true from exs_at ce 20 rfl)
  have kn : ∀ T ∈ (["NoneType", "tuple", "str", "int", "dict", "bool"] : List String), PySem.W.kitOne K (.type T) (.ref (ga K "Web")) = some false := fun T hT => of_decide_eq_true (List.all_eq_true.mp (show (fun K => (["NoneType", "tuple", "str", "int", "dict", "bool"] : List String).all fun T => decide (PySem.W.kitOne K (.type T) (.ref (He.ga K "Web")) = some false)) K = true from exs_at ce 21 rfl) T hT)
  exact law_all T
    M
    WX
    I
    (glo_ok X G (c.fact 44 (f := .glo "Web") rfl))
    SB
    L
    E_BadPlaces
    E_BadTies
    E_BadTie
    E_NoPlace
    P_places
    P_ties
    (dfe_of (nm := "is_name") (st := sIsName) (ps := ["value"]) X G c 13 45 rfl rfl fun _ _ _ _ _ _ us hl => match us, hl with | [_], _ => rfl)
    (dfe_of (nm := "_all_differ") (st := sAllDiffer) (ps := ["names"]) X G c 14 46 rfl rfl fun _ _ _ _ _ _ us hl => match us, hl with | [_], _ => rfl)
    (dfe_of (nm := "_is_tie") (st := sIsTie) (ps := ["places", "value"]) X G c 15 47 rfl rfl fun _ _ _ _ _ _ us hl => match us, hl with | [_, _], _ => rfl)
    (dfe_of (nm := "_pair") (st := sPair) (ps := ["tie"]) X G c 16 48 rfl rfl fun _ _ _ _ _ _ us hl => match us, hl with | [_], _ => rfl)
    (dfe_of (nm := "_check_places") (st := sCheckPlaces) (ps := ["places"]) X G c 17 49 rfl rfl fun _ _ _ _ _ _ us hl => match us, hl with | [_], _ => rfl)
    (dfe_of (nm := "_check_ties") (st := sCheckTies) (ps := ["places", "known", "ties"]) X G c 18 50 rfl rfl fun _ _ _ _ _ _ us hl => match us, hl with | [_, _, _], _ => rfl)
    (dfe_of (nm := "bits_of") (st := sBitsOf) (ps := ["number"]) X G c 19 51 rfl rfl fun _ _ _ _ _ _ us hl => match us, hl with | [_], _ => rfl)
    (dfe_of (nm := "_sights") (st := sSights) (ps := ["places", "ties"]) X G c 20 52 rfl rfl fun _ _ _ _ _ _ us hl => match us, hl with | [_, _], _ => rfl)
    (dfe_of (nm := "is_place") (st := sIsPlace) (ps := ["web", "value"]) X G c 21 53 rfl rfl fun _ _ _ _ _ _ us hl => match us, hl with | [_, _], _ => rfl)
    (dfe_of (nm := "check_place") (st := sCheckPlace) (ps := ["web", "value"]) X G c 22 54 rfl rfl fun _ _ _ _ _ _ us hl => match us, hl with | [_, _], _ => rfl)
    (dfe_of (nm := "are_places") (st := sArePlaces) (ps := ["web", "value"]) X G c 23 55 rfl rfl fun _ _ _ _ _ _ us hl => match us, hl with | [_, _], _ => rfl)
    (dfe_of (nm := "_law_source") (st := sSource) (ps := ["script", "start"]) X G c 24 56 rfl rfl fun _ _ _ _ _ _ us hl => match us, hl with | [_, _], _ => rfl)
    (dfe_of (nm := "_law_draw") (st := sDraw) (ps := ["source", "span"]) X G c 25 57 rfl rfl fun _ _ _ _ _ _ us hl => match us, hl with | [_, _], _ => rfl)
    (dfe_of (nm := "_law_mixed") (st := sLawMixed) (ps := ["source", "things"]) X G c 26 58 rfl rfl fun _ _ _ _ _ _ us hl => match us, hl with | [_, _], _ => rfl)
    (dfe_of (nm := "_law_pick") (st := sPick) (ps := ["source", "things"]) X G c 27 59 rfl rfl fun _ _ _ _ _ _ us hl => match us, hl with | [_, _], _ => rfl)
    (dfe_of (nm := "_law_word") (st := sLawWord) (ps := ["source"]) X G c 28 60 rfl rfl fun _ _ _ _ _ _ us hl => match us, hl with | [_], _ => rfl)
    (dfe_of (nm := "_law_names") (st := sLawNames) (ps := ["source", "many"]) X G c 29 61 rfl rfl fun _ _ _ _ _ _ us hl => match us, hl with | [_, _], _ => rfl)
    (dfe_of (nm := "_law_pairs") (st := sLawPairs) (ps := ["source", "many", "kind"]) X G c 30 62 rfl rfl fun _ _ _ _ _ _ us hl => match us, hl with | [_, _, _], _ => rfl)
    (dfe_of (nm := "_law_plan") (st := sLawPlan) (ps := ["source", "most"]) X G c 31 63 rfl rfl fun _ _ _ _ _ _ us hl => match us, hl with | [_, _], _ => rfl)
    nf
    kn
    (dfe_of (nm := "_law_web") (st := sLawWeb) (ps := ["plan"]) X G c 32 64 rfl rfl fun _ _ _ _ _ _ us hl => match us, hl with | [_], _ => rfl)
    (dfe_of (nm := "_law_near") (st := sLawNear) (ps := ["plan"]) X G c 33 65 rfl rfl fun _ _ _ _ _ _ us hl => match us, hl with | [_], _ => rfl)
    (dfe_of (nm := "_law_less") (st := sLawLess) (ps := ["plan", "gone"]) X G c 34 66 rfl rfl fun _ _ _ _ _ _ us hl => match us, hl with | [_, _], _ => rfl)
    (dfe_of (nm := "_law_told") (st := sLawTold) (ps := ["web", "word", "value"]) X G c 35 67 rfl rfl fun _ _ _ _ _ _ us hl => match us, hl with | [_, _, _], _ => rfl)
    (dfe_of (nm := "_law_due") (st := sLawDue) (ps := ["plan", "word", "value"]) X G c 36 68 rfl rfl fun _ _ _ _ _ _ us hl => match us, hl with | [_, _, _], _ => rfl)
    (dfe_of (nm := "_law_parts") (st := sLawParts) (ps := ["plan"]) X G c 37 69 rfl rfl fun _ _ _ _ _ _ us hl => match us, hl with | [_], _ => rfl)
    (dfe_of (nm := "_law_same") (st := sLawSame) (ps := ["web", "plan"]) X G c 38 70 rfl rfl fun _ _ _ _ _ _ us hl => match us, hl with | [_, _], _ => rfl)
    (dfe_of (nm := "_law_asked_right") (st := sLawAskedRight) (ps := ["web", "plan", "word", "value"]) X G c 39 71 rfl rfl fun _ _ _ _ _ _ us hl => match us, hl with | [_, _, _, _], _ => rfl)
    (dfe_of (nm := "_law_ties_for") (st := sLawTiesFor) (ps := ["source", "plan"]) X G c 40 72 rfl rfl fun _ _ _ _ _ _ us hl => match us, hl with | [_, _], _ => rfl)
    (dfe_of (nm := "_law_compared") (st := sLawCompared) (ps := ["source", "web", "plan"]) X G c 41 73 rfl rfl fun _ _ _ _ _ _ us hl => match us, hl with | [_, _, _], _ => rfl)
    F_named
    B_named
    M_named
    F_part_of
    B_part_of
    M_part_of
    F_parts
    B_parts
    M_parts
    F_sees
    B_sees
    M_sees
    F_tied
    B_tied
    M_tied
    F_without
    B_without
    M_without
    F_eq
    B_eq
    (eqcB_ok (show (fun K => Ct.eqcB K "Web") K = true from exs_at ce 22 rfl))
    F_init
    B1
    B0
    V0
    l0
    c0
    s0
    MK
    FL
end Pw
open PySem PySem.W PySem.Calls PyProof.Rows
set_option maxRecDepth 100000 in
set_option maxHeartbeats 0 in
theorem PySem.Challenge.cw_cornerturn_k02_webs_asked_and_changed_holds : PySem.Challenge.rw_cornerturn_k02_webs_asked_and_changed.Holds := by
  w_on; o_law
  refine HandSHeadRun.head_any (r := OpenLaw.row PySem.Challenge.rw_cornerturn_k02_webs_asked_and_changed) (q := view (OpenLaw.row PySem.Challenge.rw_cornerturn_k02_webs_asked_and_changed).prog [43]) (H := Pw.hk) (ob := Pw.hob) (M := 12000) (loose := Pw.hnames) (d := HandSHeadRun.topDef (OpenLaw.row PySem.Challenge.rw_cornerturn_k02_webs_asked_and_changed).prog 43) (kwd := []) Pw.hob_eq
    (by kernel_rfl) (fun s => by kernel_rfl) Pw.hrun (by kernel_rfl) (by kernel_rfl) (by kernel_rfl) (by rfl) (by first | assumption | decide +kernel) (by decide +kernel) ⟨rfl, rfl, rfl, rfl, rfl, by decide +kernel⟩ ?hw ?hc
  case hw => w_witness2
  case hc =>
    refine Ct.walk_gE (l := PySem.Challenge.rw_cornerturn_k02_webs_asked_and_changed) (n := 63) (k := 9) (x := "script") (CX := L2.CX0) rfl (by decide +kernel) (by decide) (by kernel_rfl) ⟨rfl, by decide, by decide⟩ ?F (fun _ _ _ _ z => z)
    intro w mg fa h Y G hmg0
    obtain ⟨K, KX, c, cg, ce⟩ := Y
    have hmg : mg ("law" : PySem.Str) = some (.ref fa) := by
      have e : (HandSHeadRun.topDef (OpenLaw.row PySem.Challenge.rw_cornerturn_k02_webs_asked_and_changed).prog 43).name = ("law" : PySem.Str) := by kernel_rfl
      rw [← e]
      exact hmg0
    obtain ⟨fd, hb, hF⟩ := Pw.facts (P := (PySem.Challenge.rw_cornerturn_k02_webs_asked_and_changed).prog) (w := w) KX G hmg c cg ce
    exact ⟨K, fd, Pw.spLaw K, KX, hb, fun H a ns hl hz on hS => ⟨a, ns, rfl, on, hS, hl, hz, fun _ => rfl⟩, hF⟩
#print axioms PySem.Challenge.cw_cornerturn_k02_webs_asked_and_changed_holds
