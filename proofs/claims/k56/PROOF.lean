import PyProof.Rows.All
import Wide.All
import OpenK.AllK
import Wide.FinOn
import PyProof.ReprRoads
import HandS.ForExc
import HandS.ForMost
import HandS.EndBits
import HandS.Wide
import HandS.ExcInit
import HandS.IsInst
import HandS.ExcIs
import KE.KExcIs
import HandS.Defaults
import HandS.Comp
import HandS.TupSets
import HandS.SetKeys
import HandS.SetBool
import HandS.Strs
import KE.GoesMore
import KE.SortData
import HandS.Walk
import HandS.Property
import HandS.DictComp
import HandS.WideBits
import HandS.More
import HandS.Deep
import HandS.Zip
import HandS.TupAny
import PyProof.NeKinds
import HandS.Head0
import HandS.Head1
import HandS.Head2
import HandS.HeadEnd
import HandS.HeadHook1
import HandS.HeadHook2
import HandS.Call
import HandS.OwnEq
import PyProof.InstNe
import PyProof.EqKinds
import PyProof.FactsAll.dict_1
import PyProof.StrLawsChain
import HandS.FStr
import HandS.Text
import PyProof.Rows.StrFin3
import PyProof.StrLaws
import HandS.NoneIn
import KE.GoesEnumKw
import HandS.Small
import HandS.Flow
import HandS.Exc
import HandS.TryMany
import KE.KDictDisplayH
import PyProof.StrLawsRepr
import HandS.Style
import PySem.Challenge.RW_cornerturn_k56_texts_refused
set_option Elab.async false
set_option linter.all false
set_option maxRecDepth 100000
set_option maxHeartbeats 2000000
/-! Own kit A: defs whose promise leans on there being no guard on the stack (repr); the end of a law with such a def. -/
namespace Ct
open PySem PySem.Spec PyProof.Rows L2
/-- a def's promise where no guard stands on the stack -/
structure GFn (P : Program) (w : World) (K : PySem.W.Frag) (mg : Str → Option Value) (base : Heap) (CX : CXT) (k : Nat) (f : Addr) (fd : FuncData) (ps : List Str) (sp : Sp) : Prop where
  len : ∀ vs H Q E, sp vs H Q E → vs.length = ps.length
  run : ∀ (A : Around) (o : List Env) (s : Shared) (H : Hp) (ar : Args) (us : List Value) (vs : List V) (Q : VK) (E : XK), A.guards = some [] → Room k A → Env0 P w K mg base A o s H →
    BindsTo s fd ar (ps.zip us) → Vals vs us → sp vs H Q E → codeAny (model P w) A (.call (.ref f) ar) (CR CX o P w H s Q E) s
theorem GFn.of {P : Program} {w : World} {K : PySem.W.Frag} {mg : Str → Option Value} {base : Heap} {CX : CXT} {k : Nat} {f : Addr} {fd : FuncData} {ps : List Str} {sp : Sp}
    (F : FnOk P w K mg base CX k f fd ps sp) : GFn P w K mg base CX k f fd ps sp := ⟨F.len, fun A o s H ar us vs Q E _ => F.run A o s H ar us vs Q E⟩
theorem GFn.mono {P : Program} {w : World} {K : PySem.W.Frag} {mg : Str → Option Value} {base : Heap} {CX : CXT} {j k : Nat} {f : Addr} {fd : FuncData} {ps : List Str} {sp : Sp}
    (F : GFn P w K mg base CX j f fd ps sp) (h : j ≤ k) : GFn P w K mg base CX k f fd ps sp := ⟨F.len, fun A o s H ar us vs Q E g r => F.run A o s H ar us vs Q E g (r.mono h)⟩
section
variable {P : Program} {w : World} {K : PySem.W.Frag} {mg : Str → Option Value} {base : Heap} {CX : CXT}
/-- the rule for such a def -/
theorem gfn_of {x qual : Str} {st : Stmt} {f : Addr} {fd : FuncData} {N ps : List Str} {k : Nat} {sp : Sp} (F : Fun K x qual st f fd) (S : FnScope N ps (defScope st)) (len : ∀ vs H Q E, sp vs H Q E → vs.length = ps.length)
    (body : ∀ (cdv : Value) (A : Around) (o : List Env) (s : Shared) (H : Hp) (vs : List V) (Q : VK) (E : XK), A.guards = some [] → Room k (A.deeper (envOfC qual (defScope st) s.heap.objs.size f cdv)) → sp vs H Q E →
      ∃ t, PSs (cxOf CX P w K mg base N qual (defScope st) f cdv A o s H E) (defBody st) t ∧ t { nx := fun _ H' => Q .non H', rt := Q } (start N vs) H) : GFn P w K mg base CX (k + 1) f fd ps sp := by
  obtain ⟨oc, od, kV, doc, pm, an, cdv, ct, osl, rfl, lk, hcd⟩ := F.ex
  refine ⟨len, ?_⟩
  intro A o s H ar us vs Q E g hr e0 hb rel hsp
  have kb : ∀ b u, base.get? b = some u → s.heap.get? b = some u := fun b u e => (e0.bs b u e).1
  have KX := e0.mod.kin.keeps kb
  have lim := e0.mod.nolimit.keeps kb
  refine codeAny_call_function hr.depth (KX _ _ lk) rfl S.co S.gen rfl (PySem.W.codeRec_of KX hcd) (hb _ _ _ _ ?_)
  refine wpAny_newFunctionEnv_cells S.kind (fun ⟨n, v⟩ hy => ?_) fun env he s1 ic => ?_
  · cases S.par n (List.of_mem_zip hy).1 with
    | inl q => exact Or.inl q
    | inr q => exact Or.inr ⟨q, PySem.W.cellsFrom_some _ _ _ (Or.inl q)⟩
  cases he
  refine ⟨lim.keeps ic.toInCall.keep, codeAny_func ?_⟩
  obtain ⟨t, ht, hq⟩ := body cdv A o s H vs Q E g (hr.deeper _) hsp
  have I := inv_start (CX := CX) (P := P) (w := w) (K := K) (mg := mg) (base := base) (E := E) S hr.hd e0 (len _ _ _ _ hsp) rel ic
  refine wpAny_mono (ht.run [] s1 (start N vs) H _ I hq) ?_ (fun e s' z => z)
  intro fl s' z
  cases fl with
  | ret u => obtain ⟨v, σ', H', J, rv, q⟩ := z; exact ⟨v, H', J.os, J.bare, J.base, J.hok, rv, q⟩
  | next => obtain ⟨σ', H', J, q⟩ := z; exact ⟨.non, H', J.os, J.bare, J.base, J.hok, rfl, q⟩
  | brk => obtain ⟨_, _, _, q⟩ := z; exact q.elim
  | cont => obtain ⟨_, _, _, q⟩ := z; exact q.elim
end
section
variable {X : Cx} {CX : CXT} {k : Nat} {f : Addr} {fd : FuncData} {ps : List Str} {sp : Sp} {dvs : List V} {ds : List Value} {E : XK} {x : Str} {p pos : Pos} {e : Expr} {es : List Expr} {t : TA}
theorem run_g {pins : List (Addr × Obj)} {σ : L2.St} {H : Hp} {s : Shared} {Q : VK} {us : List Value} {vs : List V} (F : GFn X.prog X.w X.K X.mg X.base CX k f fd ps sp) (g : X.A.guards = some []) (hr : Room k X.A) (hb : Binds X.K fd ps ds) (hd : Vals dvs ds)
    (hx : Passes CX X E) (I : Inv X pins σ H s) (r : Vals vs us) (h : sp (vs ++ dvs) H Q E) : wpAny (model X.prog X.w) X.A (call (.ref f) us) (EP X pins σ Q) X.xe s := by
  have r2 := r.append hd
  refine wpAny_call (codeAny_mono (F.run X.A X.stack s H ⟨us, []⟩ (us ++ ds) (vs ++ dvs) Q E g hr I.env0 (hb s us I.kIn (by rw [← r2.length]; exact F.len _ _ _ _ h)) r2 h) ?_)
  intro r s' z
  match r, z with
  | .error e, z => exact hx pins σ H s e s' I z
  | .ok (.ret u), z => exact I.after z
  | .ok .next, z => exact False.elim z
  | .ok .brk, z => exact False.elim z
  | .ok .cont, z => exact False.elim z
/-- a call of such a def -/
theorem pe_callG (F : GFn X.prog X.w X.K X.mg X.base CX k f fd ps sp) (g : X.A.guards = some []) (hr : Room k X.A) (hg : Gl X x) (hm : X.mg x = some (.ref f)) (hk : PySem.W.keepIn X.K (.ref f) = true) (hb : Binds X.K fd ps ds) (hd : Vals dvs ds) (hx : Passes CX X E)
    (ha : PA X (e :: es) t) (hdb : (x == ("__debug__" : Str)) = false := by decide) (he : starEach (e :: es) X.env = (false, eval e X.env) :: starEach es X.env := by rfl) (hpl : (backTo pos (starEach es X.env)).any (·.1) = false := by rfl) :
    PE X (.Call (.Name x p) (e :: es) [] pos) (tCall sp dvs E t) := by
  constructor
  intro pins s σ H Q I h
  refine wpAny_Call_Name_kw (ld_glob I hg hm ?_ hdb)
  refine PySem.W.callWith_K (h₀ := X.base) I.ok.mod.kin hk (thn (ha.run pos pins s σ H _ I h) ?_) he hpl
  rintro us s1 ⟨vs, H1, I1, r, q⟩
  exact ⟨I1.kIn, run_g F g hr hb hd hx I1 r q⟩
end
/-! the law's own end -/
/-- the abstract heap that tracks the script alone -/
def hpS (a : Addr) (vs : List Value) (ns : List Int) : Hp := fun b => if b = a then some (.frz { cls := .type "list", data := .seq vs.toArray } (.lst (ns.map V.int))) else none
theorem end_g {P : Program} {w : World} {K : PySem.W.Frag} {mg mb : Str → Option Value} {CX : CXT} {k : Nat} {fa a : Addr} {fd : FuncData} {x : Str} {sp : Sp} {s1 : Shared} {vs : List Value} {ns : List Int}
    (KX : K.In s1.heap) (hns : s1.heap.Ns mainGlobals mg) (hb : s1.heap.Ns builtinsNs mb) (hbb : ∀ x : Str, x ≠ "__name__" → mb x = bootBuiltins x) (hlim : s1.heap.NoLimit) (hg : s1.gens = #[])
    (ha : s1.heap.get? a = some { cls := .type "list", data := .seq vs.toArray }) (hi : IntsAre vs ns) (hl : ns.length ≤ sizeLine) (hr : Room k callerA)
    (hmods : ∃ mm, s1.heap.Ns sysModules mm) (F : ∀ base : Heap, K.In base → base.Ns mainGlobals mg → (∃ mm, base.Ns sysModules mm) → GFn P w K mg base CX k fa fd [x] sp) (hbind : ∀ (s : Shared) (u : Value), BindsTo s fd ⟨[u], []⟩ [(x, u)])
    (hsp : ∀ H : Hp, Only H → SqL K H a (ns.map V.int) → sp [.ref a] H (fun v _ => v = .bl true) fun _ _ _ => False)
    (hCX : ∀ H e s', CX [] H s1 (fun _ _ _ => False) e s' → False) :
    codeAny (model P w) callerA (.call (.ref fa) ⟨[.ref a], []⟩) (fun r s' => r = .ok (.ret (.bool true)) ∧ OldK s1.heap s'.heap ∧ s'.os = s1.os ∧ AllBare s'.gens) s1 := by
  have rv := vals_ints hi
  have main : ∀ H : Hp, Only H → SqL K H a (ns.map V.int) → HOk P w H s1.heap → (∀ b, b ≠ a → H b = none) → (∀ o, K.lookup a = some o → H a = none) →
      codeAny (model P w) callerA (.call (.ref fa) ⟨[.ref a], []⟩) (fun r s' => r = .ok (.ret (.bool true)) ∧ OldK s1.heap s'.heap ∧ s'.os = s1.os ∧ AllBare s'.gens) s1 := by
    intro H only seq hok off hK
    -- what is no list of the script's stands in the base
    have inB : ∀ {b : Addr} {o : Obj} {es : Array DictEntry} {ep : Nat}, s1.heap.get? b = some o → o.data = .dict es ep → H b = none := by
      intro b o es ep e d
      by_cases hba : b = a
      · rw [hba, ha] at e
        cases e
        cases d
      · exact off b hba
    have nsB : ∀ {b : Addr} {m : Str → Option Value}, s1.heap.Ns b m → (hidT s1.heap H).Ns b m := by
      rintro b m ⟨o, es, ep, e, d, r⟩
      exact ⟨o, es, ep, hidT_get e (inB e d), d, r⟩
    have KB : K.In (hidT s1.heap H) := by
      intro b o e
      refine hidT_get (KX b o e) ?_
      by_cases hba : b = a
      · rw [hba] at e ⊢
        exact hK o e
      · exact off b hba
    have lim : (hidT s1.heap H).NoLimit := by
      obtain ⟨mc, h1, h2⟩ := hlim
      exact ⟨mc, nsB h1, h2⟩
    have e0 : Env0 P w K mg (hidT s1.heap H) callerA [] s1 H :=
      { frames := rfl, mod := ⟨KB, nsB hns, ⟨mb, nsB hb, hbb⟩, lim⟩, bs := fun b o e => of_hidT e, bsz := Nat.le_of_eq (hidT_size _ _), funs := trivial, frf := (fun b z => nomatch z), hok := hok, bare := .of_eq hg }
    refine codeAny_mono ((F _ KB (nsB hns) (hmods.imp fun _ z => nsB z)).run callerA [] s1 H ⟨[.ref a], []⟩ [.ref a] [.ref a] _ _ rfl hr e0 (hbind s1 (.ref a)) (.cons rfl .nil) (hsp H only seq)) ?_
    intro r s' z
    match r, z with
    | .error e, z => exact (hCX H e s' z).elim
    | .ok .next, z => exact False.elim z
    | .ok .brk, z => exact False.elim z
    | .ok .cont, z => exact False.elim z
    | .ok (.ret u), z =>
      obtain ⟨v, H', os, bare, un, hok', ru, qv⟩ := z
      cases (show v = V.bl true from qv)
      cases (show u = Value.bool true from ru)
      refine ⟨rfl, OldK.of_keep ?_, os, bare⟩
      intro b o e
      cases q : H b with
      | none => exact un.keep b o e q (fun z => (nomatch z)) (fun z => (nomatch z))
      | some u =>
        cases only b with
        | inl z => rw [q] at z; cases z
        | inr z =>
          obtain ⟨ob, xs, z⟩ := z
          have h1 := (hok b _ z).1
          have h2 := (hok' b _ (un.frzs b ob _ z)).1
          rw [e] at h1
          cases h1
          exact h2
  cases hk : K.lookup a with
  | some o =>
    have e := KX a o hk
    rw [ha] at e
    cases e
    exact main (fun _ => none) (fun _ => Or.inl rfl) (Or.inr ⟨_, vs.toArray, _, hk, rfl, rfl, rfl, by rw [List.size_toArray, hi.length]; exact hl, by simpa using rv⟩) (fun b u z => nomatch z) (fun b _ => rfl) (fun _ _ => rfl)
  | none =>
    have at_a : hpS a vs ns a = some (.frz { cls := .type "list", data := .seq vs.toArray } (.lst (ns.map V.int))) := if_pos rfl
    have off_a : ∀ b, b ≠ a → hpS a vs ns b = none := fun b z => if_neg z
    refine main (hpS a vs ns) (fun b => ?_) (Or.inl (Or.inr ⟨_, at_a⟩)) (fun b u z => ?_) off_a (fun o z => ?_)
    · by_cases hba : b = a
      · exact Or.inr ⟨_, _, by rw [hba]; exact at_a⟩
      · exact Or.inl (off_a b hba)
    · by_cases hba : b = a
      · rw [hba] at z ⊢
        rw [at_a] at z
        cases z
        exact ⟨ha, by rw [List.length_map]; exact hl, vs, _, rv, ha⟩
      · rw [off_a b hba] at z
        cases z
    · rw [hk] at z
      cases z
/-- the goal that k_head leaves, from the promise of a law's def that leans on no guard; the script's bits are told -/
theorem walk_g {l : PySem.W.OpenLaw} {n k : Nat} {q : Program} {loose : List Str} {XP : (Str → Option Value) → Heap → Prop} {YP : World → Heap → Prop} {d : DefRec} {K : Params → PySem.W.Frag} {CX : World → CXT} {sp : World → Sp} {x : Str}
    (hn : l.most = some n) (hq : importsNone q = true) (hn2 : n ≤ sizeLine) (hdf : d.params.defaults = []) (hr : Room k callerA) (hY : ∀ (w : World) (h : Heap), YP w h → (K w.params).In h)
    (F : ∀ (w : World) (mg : Str → Option Value) (fa : Addr) (h : Heap), (K w.params).In h → h.Ns mainGlobals mg → mg d.name = some (.ref fa) →
      ∃ fd : FuncData, (∀ (s : Shared) (u : Value), BindsTo s fd ⟨[u], []⟩ [(x, u)]) ∧ ∀ base : Heap, (K w.params).In base → base.Ns mainGlobals mg → (∃ mm, base.Ns sysModules mm) → GFn l.prog w (K w.params) mg base (CX w) k fa fd [x] (sp w))
    (hsp : ∀ (w : World) (H : Hp) (a : Addr) (ns : List Int), ns.length ≤ n → (∀ z ∈ ns, Builtin.Int.intBits z ≤ 1048576) → Only H → SqL (K w.params) H a (ns.map V.int) → sp w [.ref a] H (fun v _ => v = .bl true) fun _ _ _ => False)
    (hCX : ∀ (w : World) (H : Hp) (s : Shared) (e : Value) (s' : Shared), CX w [] H s (fun _ _ _ => False) e s' → False) :
    PySem.W.WalkO q loose XP YP l.row.toRowW d [] (fun f vs => PySem.call f vs) := by
  refine Att.attach_callB hn hdf ?_
  intro w s0 s1 mg mb fa o pm cd doc a vs ns G Y _ _ _ hmg hobj hints hlen hbits hg
  obtain ⟨fd, hb, hF⟩ := F w mg fa _ (hY w _ Y) G.T.g hmg
  exact end_g (hY w _ Y) G.T.g G.T.b G.T.builtins G.T.nolimit hg hobj hints (Nat.le_trans hlen hn2) hr ((G.T.seer hq).mods.imp fun _ z => z.1) hF hb (fun H h1 h2 => hsp w H a ns hlen hbits h1 h2) (fun H e s' => hCX w H s1 e s')
/-- the same where the promise hangs on the written part alone -/
theorem walk_gK {l : PySem.W.OpenLaw} {n k : Nat} {q : Program} {loose : List Str} {XP : (Str → Option Value) → Heap → Prop} {YP : World → Heap → Prop} {d : DefRec} {K : Params → PySem.W.Frag} {CX : CXT} {sp : PySem.W.Frag → Sp} {x : Str}
    (hn : l.most = some n) (hq : importsNone q = true) (hn2 : n ≤ sizeLine) (hdf : d.params.defaults = []) (hr : Room k callerA) (hY : ∀ (w : World) (h : Heap), YP w h → (K w.params).In h)
    (F : ∀ (w : World) (mg : Str → Option Value) (fa : Addr) (h : Heap), (K w.params).In h → h.Ns mainGlobals mg → mg d.name = some (.ref fa) →
      ∃ fd : FuncData, (∀ (s : Shared) (u : Value), BindsTo s fd ⟨[u], []⟩ [(x, u)]) ∧ ∀ base : Heap, (K w.params).In base → base.Ns mainGlobals mg → (∃ mm, base.Ns sysModules mm) → GFn l.prog w (K w.params) mg base CX k fa fd [x] (sp (K w.params)))
    (hsp : ∀ (K : PySem.W.Frag) (H : Hp) (a : Addr) (ns : List Int), ns.length ≤ n → (∀ z ∈ ns, Builtin.Int.intBits z ≤ 1048576) → Only H → SqL K H a (ns.map V.int) → sp K [.ref a] H (fun v _ => v = .bl true) fun _ _ _ => False)
    (hCX : ∀ (H : Hp) (s : Shared) (e : Value) (s' : Shared), CX [] H s (fun _ _ _ => False) e s' → False) :
    PySem.W.WalkO q loose XP YP l.row.toRowW d [] (fun f vs => PySem.call f vs) :=
  walk_g (K := K) (CX := fun _ => CX) (sp := fun w => sp (K w.params)) hn hq hn2 hdf hr hY F (fun w H a ns h1 h2 h3 h4 => hsp (K w.params) H a ns h1 h2 h3 h4) fun _ H s e s' => hCX H s e s'
end Ct

set_option Elab.async false
set_option linter.all false
set_option maxRecDepth 100000
set_option maxHeartbeats 2000000
/-! Own kit B: data of any depth with dicts, read off the abstract heap; repr; great powers. -/
namespace Ct
open PySem PySem.Spec L2
def keyD : Key → PyData
  | .inl i => .int i
  | .inr x => .str x
mutual
/-- the value v is the datum d (lists, tuples, dicts with ints and texts or tuples of such as keys) -/
inductive Dq (K : PySem.W.Frag) (H : Hp) : V → PyData → Prop
  | non : Dq K H .non .none
  | bl (b : Bool) : Dq K H (.bl b) (.bool b)
  | int (i : Int) : Dq K H (.int i) (.int i)
  | str (x : Str) : Dq K H (.str x) (.str x)
  | lst {a : Addr} {xs : List V} {ds : List PyData} : SqL K H a xs → DqAll K H xs ds → Dq K H (.ref a) (.list ds)
  | tup {a : Addr} {xs : List V} {ds : List PyData} : SqT K H a xs → DqAll K H xs ds → Dq K H (.ref a) (.tuple ds)
  | dic {a : Addr} {kvs : List (Key × V)} {vs : List PyData} {ps : List (PyData × PyData)} : Rd H a (.dK kvs) → ps.map (·.1) = kvs.map (fun p => keyD p.1) → vs = ps.map (·.2) → DqAll K H (kvs.map (·.2)) vs → Dq K H (.ref a) (.dict ps)
  | dicT {a : Addr} {kvs : List (List Key × V)} {vs : List PyData} {ps : List (PyData × PyData)} : Rd H a (.dT kvs) → ps.map (·.1) = kvs.map (fun p => .tuple (p.1.map keyD)) → vs = ps.map (·.2) → DqAll K H (kvs.map (·.2)) vs → Dq K H (.ref a) (.dict ps)
inductive DqAll (K : PySem.W.Frag) (H : Hp) : List V → List PyData → Prop
  | nil : DqAll K H [] []
  | cons {v : V} {vs : List V} {d : PyData} {ds : List PyData} : Dq K H v d → DqAll K H vs ds → DqAll K H (v :: vs) (d :: ds)
end
section
variable {X : Cx} {pins : List (Addr × Obj)} {σ : L2.St} {H : Hp} {s : Shared}
theorem reads_key {h : Heap} : ∀ {k : Key} {u : Value}, RelV (kV k) u → Reads h u (keyD k) []
  | .inl i, u, r => by obtain ⟨t, rfl⟩ := r; exact .int i t
  | .inr x, u, r => by obtain ⟨t, rfl⟩ := r; exact .str x t
theorem reads_keys {h : Heap} : ∀ {ks : List Key} {us : List Value}, Vals (ks.map kV) us → ReadsAll h us (ks.map keyD) []
  | [], _, .nil => .nil
  | _ :: _, _, .cons r t => .cons (reads_key r) (reads_keys t)
theorem readsAll_cons0 {h : Heap} {v : Value} {vs : List Value} {d : PyData} {ds : List PyData} (a : Reads h v d []) (b : ReadsAll h vs ds []) : ReadsAll h (v :: vs) (d :: ds) [] := .cons a b
/-- the keys of a dict whose keys are ints and texts; its values -/
theorem kv_keys {prog : Program} {w : World} {h : Heap} : ∀ {kvs : List (Key × V)} {vs : List (Key × Value)} {es : List DictEntry}, KV kvs vs → Pairs (mixKind prog w) es vs →
    ReadsAll h (es.map (·.key)) (kvs.map fun p => keyD p.1) [] ∧ Vals (kvs.map (·.2)) (es.map (·.val))
  | [], _, _, .nil, .nil => ⟨.nil, .nil⟩
  | _ :: _, _, _, .cons r t, .cons e3 e4 u => by
    obtain ⟨h1, h2⟩ := kv_keys (h := h) t u
    obtain ⟨e1, e2⟩ := r
    have e3 := (mixKind_is prog w _ _).symm.trans e3
    refine ⟨readsAll_cons0 ?_ h1, .cons ?_ h2⟩
    · rcases keyIs_shape e3 with ⟨i, tk, z1, z2⟩ | ⟨x, tk, z1, z2⟩
      · dsimp only; rw [z2, e1, z1]; exact .int i tk
      · dsimp only; rw [z2, e1, z1]; exact .str x tk
    · dsimp only; rw [e4]; exact e2
/-- the start-up's table of modules stands in the base -/
def SysB (base : Heap) : Prop := ∃ mm, base.Ns sysModules mm
theorem sys_free (I : Inv X pins σ H s) (S : SysB X.base) {a : Addr} {o : HO} (e : H a = some o) : a ≠ sysModules := by
  obtain ⟨mm, ob, es, ep, h1, _⟩ := S
  intro z
  rw [z, (I.bs _ _ h1).2] at e
  cases e
theorem sys_seq (I : Inv X pins σ H s) (S : SysB X.base) {a : Addr} {o : Obj} {its : Array Value} {n : Nat} (e : s.heap.get? a = some o) (d : o.data = .seq its n) : a ≠ sysModules := by
  obtain ⟨mm, ob, es, ep, h1, h2, _⟩ := S
  intro z
  rw [z, I.bk _ _ h1] at e
  cases e
  rw [h2] at d
  cases d
theorem keysT {Hh : Hp} (hok : HOk X.prog X.w H s.heap) : ∀ {kvs : List (List Key × V)} {xs : List (List Key × Addr × Value)},
    Paired (fun (p : List Key × V) (q : List Key × Addr × Value) => p.1 = q.1 ∧ H q.2.1 = some (.tup (p.1.map kV)) ∧ RelV p.2 q.2.2) kvs xs →
    ReadsAll s.heap ((xs.map (entryOfKey (tupleKind (mixKind X.prog X.w)))).map (·.key)) (kvs.map fun p => .tuple (p.1.map keyD)) [] ∧ Vals (kvs.map (·.2)) ((xs.map (entryOfKey (tupleKind (mixKind X.prog X.w)))).map (·.val))
  | [], _, .nil => ⟨.nil, .nil⟩
  | _ :: _, _, .cons r t => by
    obtain ⟨h1, h2⟩ := keysT (Hh := Hh) hok t
    obtain ⟨e1, e2, e3⟩ := r
    obtain ⟨_, its, rv, o, ho, hc, n, hd⟩ := hok _ _ e2
    exact ⟨readsAll_cons0 (.tuple ho hc hd (by simpa using reads_keys rv)) h1, .cons e3 h2⟩
mutual
theorem Dq.reads (I : Inv X pins σ H s) (S : SysB X.base) : ∀ {v : V} {d : PyData} {u : Value}, Dq X.K H v d → RelV v u → ∃ as, Reads s.heap u d as ∧ sysModules ∉ as
  | _, _, _, .non, r => by cases r; exact ⟨_, .none, by simp⟩
  | _, _, _, .bl b, r => by cases r; exact ⟨_, .bool b, by simp⟩
  | _, _, _, .int i, r => by obtain ⟨t, rfl⟩ := r; exact ⟨_, .int i t, by simp⟩
  | _, _, _, .str x, r => by obtain ⟨t, rfl⟩ := r; exact ⟨_, .str x t, by simp⟩
  | _, _, _, .lst hs ha, r => by
    cases r
    obtain ⟨its, rv, ⟨o, n, ho, hc, _, hd⟩, _⟩ := I.list hs
    obtain ⟨as, hr, hn⟩ := DqAll.reads I S ha rv
    exact ⟨_, .list ho hc hd hr, fun z => (List.mem_cons.mp z).elim (fun e => sys_seq I S ho hd e.symm) hn⟩
  | _, _, _, .tup hs ha, r => by
    cases r
    obtain ⟨its, rv, ⟨o, ho, hc, n, hd⟩, _⟩ := I.tuple hs
    obtain ⟨as, hr, hn⟩ := DqAll.reads I S ha rv
    exact ⟨_, .tuple ho hc hd hr, hn⟩
  | _, _, _, .dic hs hk hv ha, r => by
    cases r
    obtain ⟨_, hy, vs, rkv, o, es, ep, ho, hx, hd, _, hp, _⟩ := hs.ok I.hok
    obtain ⟨h1, h2⟩ := kv_keys (h := s.heap) rkv hp
    obtain ⟨as, hr, hn⟩ := DqAll.reads I S ha h2
    subst hv
    refine ⟨_, .dict ho hx.1 hd (by rw [hk]; exact h1) hr, fun z => ?_⟩
    rcases List.mem_cons.mp z with e | z
    · exact (beq_eq_false_iff_ne.mp hy) e.symm
    · exact hn (by simpa using z)
  | _, _, _, .dicT hs hk hv ha, r => by
    cases r
    obtain ⟨_, hy, xs, rp, o, es, ep, ho, hx, hd, he, _⟩ := hs.ok I.hok
    obtain ⟨h1, h2⟩ := keysT (Hh := H) I.hok rp
    rw [← he] at h1 h2
    obtain ⟨as, hr, hn⟩ := DqAll.reads I S ha h2
    subst hv
    refine ⟨_, .dict ho hx.1 hd (by rw [hk]; exact h1) hr, fun z => ?_⟩
    rcases List.mem_cons.mp z with e | z
    · exact (beq_eq_false_iff_ne.mp hy) e.symm
    · exact hn (by simpa using z)
theorem DqAll.reads (I : Inv X pins σ H s) (S : SysB X.base) : ∀ {vs : List V} {ds : List PyData} {us : List Value}, DqAll X.K H vs ds → Vals vs us → ∃ as, ReadsAll s.heap us ds as ∧ sysModules ∉ as
  | _, _, _, .nil, .nil => ⟨_, .nil, by simp⟩
  | _, _, _, .cons h1 h2, .cons r1 r2 => by
    obtain ⟨as, q1, n1⟩ := Dq.reads I S h1 r1
    obtain ⟨bs, q2, n2⟩ := DqAll.reads I S h2 r2
    exact ⟨_, .cons q1 q2, fun z => (List.mem_append.mp z).elim n1 n2⟩
end
end
/-- repr of a datum that stands at an address -/
def rRep (K : PySem.W.Frag) : List V → Hp → VK → Prop := fun xs H Q => ∃ (a : Addr) (d : PyData), xs = [.ref a] ∧ Dq K H (.ref a) d ∧ d.showable = true ∧ d.depth ≤ 60 ∧ d.shown.length ≤ sizeLine ∧ Q (.str d.shown) H
theorem call_rep {X : Cx} (g : X.A.guards = some []) (S : SysB X.base) (hu : X.A.units + 64 < cLine) : CallR X (.builtin "repr") (rRep X.K) := by
  intro pins s σ H xs us Q I r h
  obtain ⟨a, d, rfl, hd, hs, hp, hz, q⟩ := h
  obtain ⟨u, rfl, ru⟩ := vals1 r
  cases (show u = Value.ref a from ru)
  obtain ⟨as, hr, hn⟩ := Dq.reads I S hd rfl
  refine repr_of_reads' hr hs (fun _ => hn) g (by omega) (fun _ _ e => e) (fun h' u tk k => ?_) hz
  exact ⟨.str d.shown, H, I.kept k, ⟨_, rfl⟩, q⟩
/-- a power of a great int, the exponent written -/
def CPowW (i j : Int) : Prop := 0 ≤ j ∧ (Builtin.Int.intBits i : Int) * j ≤ 2 ^ 27
theorem op_powW {X : Cx} : OpR X (binaryOp .Pow) (rI CPowW fun i j => .int (i ^ j.toNat)) := opI fun _ _ _ _ _ _ _ hc q => PyProof.Rows.pow_int hc.1 hc.2 q
end Ct

set_option Elab.async false
set_option linter.all false
set_option maxRecDepth 100000
set_option maxHeartbeats 4000000
/-! Own kit C: exceptions of own classes (an __init__ of their own) as values: made by place and by name, their fields read, isinstance. -/
namespace PySem
namespace CtX
open PySem.W PySem.Calls PyProof.Rows PySem.HandSPX
section
variable {M : Model} {A : Around} {E : Value → Shared → Prop} {h : Heap} {g : Array GenState} {d : Drawn} {t : Nat} {os : OsState}
variable {nm q : Str} {C N : Addr} {bs bm bmB : List Value} {hdct : Bool} {sn : List Str} {sub : List Value} {ab : Bool} {col : Option Bool} {dd : Option Addr} {k0 k1 k2 k3 k5 : Option Value} {B newId initId : String} {kw : List (Str × Value)}
theorem kw_new_check (F : ExcBaseFacts B newId initId bmB) (hT : ∀ X : String, bm.contains (.type X) = bmB.contains (.type X)) {Q : Unit → Shared → Prop}
    (hC : h.get? C = some (excClassObj nm q C N bs bm hdct sn sub ab col dd k0 k1 k2 k3 k5 newId)) (hq : Q () ⟨h, g, d, t, os⟩) :
    wpAny M A (checkBuiltinCall newId ⟨[.ref C], kw⟩) Q E ⟨h, g, d, t, os⟩ := by
  have hc : (Value.ref C :: bm).contains (.type B) = true := by rw [List.contains_cons, hT, F.hasB, Bool.or_true]
  have hst := F.noStar
  simp only [checkBuiltinCall, F.newKind, F.newSplit, F.newRow]
  repeat (first
    | refine wpAny_loadPart_at hC ?_
    | (refine wpAny_isSubtype_exc hC ?_; rw [hc])
    | refine wpAny_staticBase_exc hC ?_
    | refine wpAny_madeBy_exc hC ?_
    | simp only [bne_self_eq_false, Bool.false_eq_true, if_false]
    | wp_step)
  exact hq
end
section
variable {prog : Program} {w : World} {A : Around} {E : Value → Shared → Prop} {R : Result → Shared → Prop} {h : Heap} {g : Array GenState} {d : Drawn} {t : Nat} {os : OsState}
variable {nm q : Str} {C N : Addr} {bs bm bmB : List Value} {hdct : Bool} {sn : List Str} {sub : List Value} {ab : Bool} {col : Option Bool} {dd : Option Addr} {k0 k1 k2 k3 k5 : Option Value} {B newId initId : String} {kw : List (Str × Value)}
theorem kw_new (F : ExcBaseFacts B newId initId bmB) (hT : ∀ X : String, bm.contains (.type X) = bmB.contains (.type X)) (hC : h.get? C = some (excClassObj nm q C N bs bm hdct sn sub ab col dd k0 k1 k2 k3 k5 newId))
    (hq : R (.ok (.ret (.ref (h.objs.size + 1)))) ⟨(h.push (W.kdv_tup [])).push (excO C h.objs.size), g, d, t, os⟩) :
    codeAny (model prog w) A (.builtin newId ⟨[.ref C], kw⟩) R ⟨h, g, d, t, os⟩ := by
  have he := F.ends
  have c1 : (Value.ref C :: bm).contains (.type B) = true := by rw [List.contains_cons, hT, F.hasB, Bool.or_true]
  have c2 : (Value.ref C :: bm).contains (.type "AttributeError") = false := by rw [List.contains_cons, hT, F.noAttr]; rfl
  have c3 : (Value.ref C :: bm).contains (.type "NameError") = false := by rw [List.contains_cons, hT, F.noName]; rfl
  refine codeAny_builtinAt F.entry ?_
  unfold Builtin.«BaseException.__new__»
  refine wpAt_bind ?_
  show wpAt _ _ _ (stack >>= _) _ _ _
  refine wpAt_bind (wpAt_stack fun p below => wpAt_of_wpAny ?_)
  wp_walk
  refine wpAt_of_wpAny ?_
  rw [F.owner]
  repeat (first
    | with_reducible refine wpAny_madeHere_exc F.canon hC ?_
    | with_reducible refine wpAny_loadPart_at hC ?_
    | (with_reducible refine wpAny_isSubtype_exc hC ?_; first | rw [c1] | rw [c2] | rw [c3])
    | wp_step)
  show R _ _
  rw [Heap.size_push]
  exact hq
theorem kw_type_call (F : ExcBaseFacts B newId initId bmB) (hT : ∀ X : String, bm.contains (.type X) = bmB.contains (.type X)) {fI : Addr} {Q : Fin → Shared → Prop}
    (hC : h.get? C = some (excClassObj nm q C N bs bm hdct sn sub ab col dd k0 k1 k2 k3 k5 newId))
    (hi : W.Looks (model prog w) h (typeLookup (.ref C) "__init__") (some (.ref fI))) (hb : ∀ self, W.Looks (model prog w) h (bindSpecial (.ref fI) self) (.ref fI, [self]))
    (hq : codeAny (model prog w) A (.call (.ref fI) ⟨[.ref (h.objs.size + 1)], kw⟩)
      (fun r s' => match r with | .ok (.ret v) => v = .none ∧ Q (.done (.ret (.ref (h.objs.size + 1)))) s' | .ok _ => False | .error e => E e s')
      ⟨(h.push (W.kdv_tup [])).push (excO C h.objs.size), g, d, t, os⟩) :
    wpAny (model prog w) A (Builtin.«type.__call__» ⟨[.ref C], kw⟩) Q E ⟨h, g, d, t, os⟩ := by
  repeat (first | with_reducible refine wpAny_loadPart_at hC ?_ | with_reducible refine wpAny_madeBy_exc hC ?_ | wp_step)
  refine codeAny_call_builtin_code (Code.quiet_builtin _ F.quiet) (kw_new_check F hT hC ?_)
  refine kw_new F hT hC ?_
  show wpAny _ _ _ _ _ _
  have k : ∀ b o, h.get? b = some o → ((h.push (W.kdv_tup [])).push (excO C h.objs.size)).get? b = some o := fun b o e => Heap.get?_push_of_some _ (Heap.get?_push_of_some _ e)
  have hC1 := k _ _ hC
  have hnew : ((h.push (W.kdv_tup [])).push (excO C h.objs.size)).get? (h.objs.size + 1) = some (excO C h.objs.size) := by heap_get
  have hself : (Value.ref C :: bm).contains (.ref C) = true := by simp
  have i1 := hi.keeps k
  have b1 := (hb (.ref (h.objs.size + 1))).keeps k
  unfold isInstance
  repeat (first | with_reducible refine wpAny_loadPart_at hnew ?_ | (with_reducible refine wpAny_isSubtype_exc hC1 ?_; rw [hself]) | wp_step)
  show wpAny _ _ (typeLookup (.ref C) _) _ _ _
  refine i1.at (wpAny_holding (wpAny_bind (b1.at (wpAny_bind (wpAny_call (codeAny_mono hq ?_))))))
  intro r s' z
  rcases r with e | (v | _ | _ | _)
  · exact z
  all_goals first | exact z.elim | skip
  obtain ⟨rfl, z⟩ := z
  first
    | exact wpAny_pure (wpAny_pure z)
    | (wp_walk; exact z)
theorem kw_call (F : ExcBaseFacts B newId initId bmB) (hT : ∀ X : String, bm.contains (.type X) = bmB.contains (.type X)) {fI : Addr}
    (hC : h.get? C = some (excClassObj nm q C N bs bm hdct sn sub ab col dd k0 k1 k2 k3 k5 newId))
    (hi : W.Looks (model prog w) h (typeLookup (.ref C) "__init__") (some (.ref fI))) (hb : ∀ self, W.Looks (model prog w) h (bindSpecial (.ref fI) self) (.ref fI, [self]))
    (hq : codeAny (model prog w) (A.under (.builtin "type.__call__" ⟨[.ref C], kw⟩)) (.call (.ref fI) ⟨[.ref (h.objs.size + 1)], kw⟩) (W.InitBack (h.objs.size + 1) R)
      ⟨(h.push (W.kdv_tup [])).push (excO C h.objs.size), g, d, t, os⟩) :
    codeAny (model prog w) A (.call (.ref C) ⟨[], kw⟩) R ⟨h, g, d, t, os⟩ := by
  have f1 := tc_lookup
  have f2 := tc_bind (.ref C)
  have ty : (⟨h, g, d, t, os⟩ : Shared).TypeIs (.ref C) "type" := ⟨_, hC, rfl⟩
  refine codeAny_of_tree ?_
  show wpAny _ _ (callAny (.ref C) _) _ _ _
  repeat (any_goals (first | assumption | with_reducible refine wpAny_loadPart_at hC ?_ | wp_step))
  refine ⟨rfl, ?_⟩
  refine codeAny_call_builtin_at (Code.quiet_builtin _ (by decide +kernel)) entry_typeCall (wpAny_check_type_call_sub hC (kw_type_call F hT hC hi hb ?_))
  refine codeAny_mono hq fun r s' z => ?_
  rcases r with e | (v | _ | _ | _) <;> exact z
end
end CtX
end PySem
namespace Ct
open PySem PySem.Spec L2
/-- what the walk asks of an exception class of one's own at C, its __init__ at fI -/
structure XCls (K : PySem.W.Frag) (C fI : Addr) : Prop where
  ox : OexC K C
  xe : ExcC K C
  iC : PySem.W.findIn K (.ref C) "__init__" = some (some (.ref fI))
  tI : PySem.W.typeIn K (.ref fI) = some (.type "function")
/-- the heap behind C(v): the exception at a, its dict at d with the one field -/
def mkH (H : Hp) (a d C : Addr) (f : Str) (v : V) : Hp := upd (upd H d (exd d [(f, v)])) a (exo a C (some d))
/-- what __init__(self, f): self.f = f promises -/
def spXI (C : Addr) (f : Str) : Sp := fun vs H Q _ => ∃ (a : Addr) (v : V), vs = [.ref a, v] ∧ H a = some (exo a C none) ∧ ∀ d, H d = none → d ≠ a → Q .non (mkH H a d C f v)
theorem mkH_new {H : Hp} {a d C : Addr} {f : Str} {v : V} {o : HO} : mkH (upd H a o) a d C f v = mkH H a d C f v := by
  funext b
  unfold mkH
  by_cases hb : b = a
  · rw [hb, upd_same, upd_same]
  · rw [upd_ne hb, upd_ne hb]
    by_cases hd : b = d
    · rw [hd, upd_same, upd_same]
    · rw [upd_ne hd, upd_ne hd, upd_ne hb]
/-- C(e), C(f=e): a new exception -/
def tMkX (C : Addr) (f : Str) (te : TE) : TE := fun σ H Q => te σ H fun v H1 => ∀ a d, H1 a = none → H1 d = none → d ≠ a → Q (.ref a) (mkH H1 a d C f v)
section
variable {X : Cx} {k : Nat} {C fI : Addr} {fd : FuncData} {x f pn : Str} {p pos kp : Pos} {e : Expr} {te : TE}
theorem run_mkX {pins : List (Addr × Obj)} {σ : L2.St} {H : Hp} {s : Shared} {Q : VK} {u : Value} {v : V} {pos kwn : Bool} (T : XCls X.K C fI) (F : FnOk X.prog X.w X.K X.mg X.base CX0 k fI fd ["self", pn] (spXI C f)) (hr : Room (k + 1) X.A)
    (hb : ∀ (s : Shared) (a w : Value), BindsTo s fd ⟨[a, w], []⟩ [("self", a), (pn, w)]) (I : Inv X pins σ H s) (r : RelV v u) (h : ∀ a d, H a = none → H d = none → d ≠ a → Q (.ref a) (mkH H a d C f v)) :
    wpAny (model X.prog X.w) X.A (call (.ref C) [u]) (EP X pins σ Q) X.xe s := by
  obtain ⟨nm, q, N, bs, bm, sn, sub, ab, col, dd, k0, k1, k2, k3, k5, hC, hbm⟩ := T.ox.cls
  obtain ⟨hp, g, dr, tk, os⟩ := s
  have kk : ∀ b o, hp.get? b = some o → ((hp.push (PySem.W.kdv_tup [u])).push (PySem.HandSPX.excO C hp.objs.size)).get? b = some o := fun b o e => Heap.get?_push_of_some _ (Heap.get?_push_of_some _ e)
  have hget : ((hp.push (PySem.W.kdv_tup [u])).push (PySem.HandSPX.excO C hp.objs.size)).get? (hp.objs.size + 1) = some (PySem.HandSPX.excO C hp.objs.size) := by heap_get
  have I2 : Inv X pins σ (upd H (hp.objs.size + 1) (exo (hp.objs.size + 1) C none)) ⟨(hp.push (PySem.W.kdv_tup [u])).push (PySem.HandSPX.excO C hp.objs.size), g, dr, tk, os⟩ :=
    I.laid (t' := tk) kk (Nat.le_succ _) (exo_ok hget)
  have hn : H (hp.objs.size + 1) = none := I.hok.fresh (Nat.le_succ _)
  have hq : spXI C f [.ref (hp.objs.size + 1), v] (upd H (hp.objs.size + 1) (exo (hp.objs.size + 1) C none)) (fun z H2 => z = .non ∧ Q (.ref (hp.objs.size + 1)) H2) E0 := by
    refine ⟨_, v, rfl, upd_same, fun d hd hne => ⟨rfl, ?_⟩⟩
    rw [mkH_new]
    rw [upd_ne hne] at hd
    exact h _ d hn hd hne
  have rr : Vals [V.ref (hp.objs.size + 1), v] [Value.ref (hp.objs.size + 1), u] := .cons rfl (.cons r .nil)
  refine wpAny_call (PySem.HandSPX.call_own PySem.F.excBase_ValueError (fun Y => PySem.HandSPX.refsVE_contains Y bm hbm) (I.kIn _ _ hC) (PySem.W.looks_findIn I.kIn T.iC) (fun self => PySem.W.bind_fn I.kIn self T.tI) (by show 1 ≤ sizeLine; decide)
    (codeAny_mono (F.run _ X.stack _ _ ⟨[.ref (hp.objs.size + 1), u], []⟩ [.ref (hp.objs.size + 1), u] _ _ _ (hr.make C [u] []) (I2.env0.make C [u] []) (hb _ _ _) rr hq) ?_))
  intro r s' z
  match r, z with
  | .error er, z => exact False.elim z
  | .ok .next, z => exact False.elim z
  | .ok .brk, z => exact False.elim z
  | .ok .cont, z => exact False.elim z
  | .ok (.ret u), z =>
    obtain ⟨v', H', I3, rv, ev, q3⟩ := I2.after z
    subst ev
    exact ⟨rv, .ref (hp.objs.size + 1), H', I3, rfl, q3⟩
theorem run_mkXk {pins : List (Addr × Obj)} {σ : L2.St} {H : Hp} {s : Shared} {Q : VK} {u : Value} {v : V} {kn : Str} (T : XCls X.K C fI) (F : FnOk X.prog X.w X.K X.mg X.base CX0 k fI fd ["self", pn] (spXI C f)) (hr : Room (k + 1) X.A)
    (hb : ∀ (s : Shared) (a w : Value), BindsTo s fd ⟨[a], [(kn, w)]⟩ [("self", a), (pn, w)]) (I : Inv X pins σ H s) (r : RelV v u) (h : ∀ a d, H a = none → H d = none → d ≠ a → Q (.ref a) (mkH H a d C f v)) :
    wpAny (model X.prog X.w) X.A (call (.ref C) [] [(kn, u)]) (EP X pins σ Q) X.xe s := by
  obtain ⟨nm, q, N, bs, bm, sn, sub, ab, col, dd, k0, k1, k2, k3, k5, hC, hbm⟩ := T.ox.cls
  obtain ⟨hp, g, dr, tk, os⟩ := s
  have kk : ∀ b o, hp.get? b = some o → ((hp.push (PySem.W.kdv_tup [])).push (PySem.HandSPX.excO C hp.objs.size)).get? b = some o := fun b o e => Heap.get?_push_of_some _ (Heap.get?_push_of_some _ e)
  have hget : ((hp.push (PySem.W.kdv_tup [])).push (PySem.HandSPX.excO C hp.objs.size)).get? (hp.objs.size + 1) = some (PySem.HandSPX.excO C hp.objs.size) := by heap_get
  have I2 : Inv X pins σ (upd H (hp.objs.size + 1) (exo (hp.objs.size + 1) C none)) ⟨(hp.push (PySem.W.kdv_tup [])).push (PySem.HandSPX.excO C hp.objs.size), g, dr, tk, os⟩ :=
    I.laid (t' := tk) kk (Nat.le_succ _) (exo_ok hget)
  have hn : H (hp.objs.size + 1) = none := I.hok.fresh (Nat.le_succ _)
  have hq : spXI C f [.ref (hp.objs.size + 1), v] (upd H (hp.objs.size + 1) (exo (hp.objs.size + 1) C none)) (fun z H2 => z = .non ∧ Q (.ref (hp.objs.size + 1)) H2) E0 := by
    refine ⟨_, v, rfl, upd_same, fun d hd hne => ⟨rfl, ?_⟩⟩
    rw [mkH_new]
    rw [upd_ne hne] at hd
    exact h _ d hn hd hne
  have rr : Vals [V.ref (hp.objs.size + 1), v] [Value.ref (hp.objs.size + 1), u] := .cons rfl (.cons r .nil)
  refine wpAny_call (PySem.CtX.kw_call PySem.F.excBase_ValueError (fun Y => PySem.HandSPX.refsVE_contains Y bm hbm) (I.kIn _ _ hC) (PySem.W.looks_findIn I.kIn T.iC) (fun self => PySem.W.bind_fn I.kIn self T.tI)
    (codeAny_mono (F.run _ X.stack _ _ ⟨[.ref (hp.objs.size + 1)], [(kn, u)]⟩ [.ref (hp.objs.size + 1), u] _ _ _ (hr.make C [] [(kn, u)]) (I2.env0.make C [] [(kn, u)]) (hb _ _ _) rr hq) ?_))
  intro r s' z
  match r, z with
  | .error er, z => exact False.elim z
  | .ok .next, z => exact False.elim z
  | .ok .brk, z => exact False.elim z
  | .ok .cont, z => exact False.elim z
  | .ok (.ret u), z =>
    obtain ⟨v', H', I3, rv, ev, q3⟩ := I2.after z
    subst ev
    exact ⟨rv, .ref (hp.objs.size + 1), H', I3, rfl, q3⟩
theorem pe_mkX (T : XCls X.K C fI) (F : FnOk X.prog X.w X.K X.mg X.base CX0 k fI fd ["self", pn] (spXI C f)) (hr : Room (k + 1) X.A) (hb : ∀ (s : Shared) (a w : Value), BindsTo s fd ⟨[a, w], []⟩ [("self", a), (pn, w)])
    (hg : Gl X x) (hm : X.mg x = some (.ref C)) (he : PE X e te) (hdb : (x == ("__debug__" : Str)) = false := by decide) (hs : starEach [e] X.env = (false, eval e X.env) :: starEach [] X.env := by rfl) :
    PE X (.Call (.Name x p) [e] [] pos) (tMkX C f te) := by
  constructor
  intro pins s σ H Q I h
  refine wpAny_Call_Name_kw (ld_glob I hg hm ?_ hdb)
  refine PySem.W.callWith_K (h₀ := X.base) I.ok.mod.kin T.ox.kC ?_ hs (by rfl)
  rw [hs]
  show wpAny _ _ (spliced ((false, eval e X.env) :: backTo pos (starEach [] X.env))) _ _ s
  refine Calls.spliced_cons (thn (he.run pins s σ H _ I h) ?_)
  rintro u s1 ⟨v, H1, I1, r1, q1⟩
  exact Calls.spliced_nil ⟨I1.kIn, run_mkX (pos := true) (kwn := true) T F hr hb I1 r1 q1⟩
/-- C(f=e) -/
theorem pe_mkXk {kn : Str} (T : XCls X.K C fI) (F : FnOk X.prog X.w X.K X.mg X.base CX0 k fI fd ["self", pn] (spXI C f)) (hr : Room (k + 1) X.A) (hb : ∀ (s : Shared) (a w : Value), BindsTo s fd ⟨[a], [(kn, w)]⟩ [("self", a), (pn, w)])
    (hg : Gl X x) (hm : X.mg x = some (.ref C)) (he : PE X e te) (hdb : (x == ("__debug__" : Str)) = false := by decide) :
    PE X (.Call (.Name x p) [] [⟨some kn, e, kp⟩] pos) (tMkX C f te) := by
  constructor
  intro pins s σ H Q I h
  refine wpAny_Call_Name_kw (ld_glob I hg hm ?_ hdb)
  refine PySem.W.callWith_KW0 (h₀ := X.base) I.ok.mod.kin T.ox.kC (by rfl) ?_ (by rfl)
  have pk : PK X [⟨some kn, e, kp⟩] (tCons te tNil) := pk_cons he pk_nil
  refine thn (pk.run pos pins s σ H (fun vs H1 => ∃ v, vs = [v] ∧ ∀ a d, H1 a = none → H1 d = none → d ≠ a → Q (.ref a) (mkH H1 a d C f v)) I ?_) ?_
  · show te σ H _
    have mono : (fun v H1 => ∀ a d, H1 a = none → H1 d = none → d ≠ a → Q (.ref a) (mkH H1 a d C f v)) = fun (v : V) (H1 : Hp) => ∃ w, [v] = [w] ∧ ∀ a d, H1 a = none → H1 d = none → d ≠ a → Q (.ref a) (mkH H1 a d C f w) := by
      funext v H1
      refine propext ⟨fun z => ⟨v, rfl, z⟩, fun ⟨w, e, z⟩ => ?_⟩
      cases e
      exact z
    have h' := h
    unfold tMkX at h'
    rw [mono] at h'
    exact h'
  · rintro us s1 ⟨vs, H1, I1, r1, v, rfl, q1⟩
    obtain ⟨u, rfl, ru⟩ := vals1 r1
    exact ⟨I1.kIn, run_mkXk T F hr hb I1 ru q1⟩
/-- e.n of an exception -/
def tXF (K : PySem.W.Frag) (n : Str) (te : TE) : TE := fun σ H Q => te σ H fun x H1 => ∃ (a C d : Addr) (fs : List (Str × V)) (v : V), x = .ref a ∧ H1 a = some (exo a C (some d)) ∧ H1 d = some (exd d fs) ∧ ExcC K C ∧ PySem.W.findIn K (.ref C) n = some none ∧ fs.lookup n = some v ∧ Q v H1
theorem exo_inst {pins : List (Addr × Obj)} {σ : L2.St} {H : Hp} {s : Shared} {a d : Addr} {fs : List (Str × V)} (I : Inv X pins σ H s) (ea : H a = some (exo a C (some d))) (ed : H d = some (exd d fs)) :
    ∃ (ox od : Obj) (mA : Str → Option Value), PySem.W.InstAt s.heap a ox C (some od) ∧ (∀ name, PySem.W.lookIn name od = some (mA name)) ∧ ∀ f, RelO (fs.lookup f) (mA f) := by
  obtain ⟨t1, ho⟩ := exo_at I.hok ea
  obtain ⟨mA, hns, hr⟩ := exd_at I.hok ed
  obtain ⟨od, hod, hl⟩ := lookIn_ns hns
  exact ⟨_, od, mA, ⟨ho, rfl, rfl, hod⟩, hl, hr⟩
theorem pe_xF {n : Str} (he : PE X e te) (hb : attributeBase e n X.env (eval e X.env) = eval e X.env := by rfl) : PE X (.Attribute e n pos) (tXF X.K n te) := by
  constructor
  intro pins s σ H Q I h
  refine attr_of hb (thn (he.run pins s σ H _ I h) ?_)
  rintro u s1 ⟨x, H1, I1, rx, a, C, d, fs, v, ex, ea, ed, T, hno, l, q⟩
  subst ex
  cases (show u = Value.ref a from rx)
  obtain ⟨ox, od, mA, J, hl, hr⟩ := exo_inst I1 ea ed
  obtain ⟨u, hu, ru⟩ := RelO.some_of (v := v) (o := mA n) (by rw [← l]; exact hr n)
  exact PySem.HandSPX.exc_get I1.kIn J T.hg T.hk T.hs (PySem.W.findObj_own T.hd hno rfl (by rw [hl, hu])) (handed_of ru) ⟨v, H1, I1.tok _, ru, q⟩
/-- isinstance(x, c) of an exception: one class -/
def rIsX (K : PySem.W.Frag) : List V → Hp → VK → Prop := fun xs H Q => ∃ (a C d : Addr) (fs : List (Str × V)) (c : V) (cu : Value) (b : Bool), xs = [.ref a, c] ∧ H a = some (exo a C (some d)) ∧ H d = some (exd d fs) ∧ ExcC K C ∧ ClsV c cu ∧
  PySem.W.kitOne K (.ref C) cu = some b ∧ Q (.bl b) H
theorem call_isX : CallR X (.builtin "isinstance") (rIsX X.K) := by
  intro pins s σ H xs us Q I r h
  obtain ⟨a, C, d, fs, c, cu, b, rfl, ea, ed, T, kc, e, q⟩ := h
  obtain ⟨u1, u2, rfl, r1, r2⟩ := vals2 r
  cases (show u1 = Value.ref a from r1)
  have e2 := kc.eq r2
  subst e2
  obtain ⟨ox, od, mA, J, hl, hr⟩ := exo_inst I ea ed
  obtain ⟨cd, hcd, _⟩ := PySem.W.any_some T.hd
  exact PySem.W.kia_one (PySem.W.kitx_exc (by rw [hcd]; rfl) T.hg T.hk T.hs T.ha T.hn T.ht T.hm) I.kIn J e (fun z => (nomatch z)) fun tk => ⟨.bl b, H, I.tok tk, rfl, q⟩
end
end Ct

set_option Elab.async false
set_option linter.all false
set_option maxRecDepth 100000
set_option maxHeartbeats 2000000
/-! Own kit D: bundles (a def as the top has left it; a def that keeps its promise), calls by bundle. -/
namespace Ct
open PySem PySem.Spec PyProof.Rows L2
/-- a def of the text, as it stands behind the top -/
def DFE (K : PySem.W.Frag) (mg : Str → Option Value) (nm : Str) (st : Stmt) (ps : List Str) : Prop := ∃ f fd, Fun K nm nm st f fd ∧ mg nm = some (.ref f) ∧ Binds K fd ps []
/-- a def that keeps a promise -/
def Has (P : Program) (w : World) (K : PySem.W.Frag) (mg : Str → Option Value) (base : Heap) (CX : CXT) (k : Nat) (nm : Str) (ps : List Str) (sp : Sp) : Prop :=
  ∃ f fd, mg nm = some (.ref f) ∧ PySem.W.keepIn K (.ref f) = true ∧ Binds K fd ps [] ∧ FnOk P w K mg base CX k f fd ps sp
def HasG (P : Program) (w : World) (K : PySem.W.Frag) (mg : Str → Option Value) (base : Heap) (CX : CXT) (k : Nat) (nm : Str) (ps : List Str) (sp : Sp) : Prop :=
  ∃ f fd, mg nm = some (.ref f) ∧ PySem.W.keepIn K (.ref f) = true ∧ Binds K fd ps [] ∧ GFn P w K mg base CX k f fd ps sp
section
variable {P : Program} {w : World} {K : PySem.W.Frag} {mg : Str → Option Value} {base : Heap} {CX : CXT} {k : Nat} {nm : Str} {ps : List Str} {sp : Sp} {st : Stmt}
theorem dfe_mk {h : Heap} {f : Addr} {oc : Value} {od an : Option Addr} {osl : Array (Option Value)} {kV doc pm cdv ct : Value} (X : K.In h) (G : h.Ns mainGlobals mg) (a : PySem.W.nsIn K mainGlobals nm = some (some (.ref f)))
    (l : K.lookup f = some ⟨oc, od, .func (PySem.W.fnOf nm nm (defArgs st) (defBody st) (defScope st) .none kV doc pm an cdv ct), osl⟩) (c : PySem.W.codeIn K cdv nm = true) (kp : PySem.W.keepIn K (.ref f) = true)
    (b : ∀ (kV doc pm : Value) (an : Option Addr) (cdv ct : Value) (us : List Value), us.length = ps.length → bindArgs (PySem.W.fnOf nm nm (defArgs st) (defBody st) (defScope st) .none kV doc pm an cdv ct) ⟨us, []⟩ = pure (ps.zip us)) : DFE K mg nm st ps :=
  have F := fun_mk (st := st) l c kp
  ⟨f, _, F, PySem.W.mg_of X G a, F.binds b⟩
/-- THE RULE for a def by its bundle -/
theorem has_of {N : List Str} (D : DFE K mg nm st ps) (S : FnScope N ps (defScope st)) (len : ∀ vs H Q E, sp vs H Q E → vs.length = ps.length)
    (body : ∀ (f : Addr) (cdv : Value) (A : Around) (outer : List Env) (s : Shared) (H : Hp) (vs : List V) (Q : VK) (E : XK), Room k (A.deeper (envOfC nm (defScope st) s.heap.objs.size f cdv)) → sp vs H Q E →
      ∃ t, PSs (cxOf CX0 P w K mg base N nm (defScope st) f cdv A outer s H E).nox (defBody st) t ∧ t { nx := fun _ H' => Q .non H', rt := Q } (start N vs) H) : Has P w K mg base CX0 (k + 1) nm ps sp := by
  obtain ⟨f, fd, F, g, b⟩ := D
  exact ⟨f, fd, g, F.kp, b, F.ok S len (body f)⟩
theorem hasG_of {N : List Str} (D : DFE K mg nm st ps) (S : FnScope N ps (defScope st)) (len : ∀ vs H Q E, sp vs H Q E → vs.length = ps.length)
    (body : ∀ (f : Addr) (cdv : Value) (A : Around) (outer : List Env) (s : Shared) (H : Hp) (vs : List V) (Q : VK) (E : XK), A.guards = some [] → Room k (A.deeper (envOfC nm (defScope st) s.heap.objs.size f cdv)) → sp vs H Q E →
      ∃ t, PSs (cxOf CX0 P w K mg base N nm (defScope st) f cdv A outer s H E).nox (defBody st) t ∧ t { nx := fun _ H' => Q .non H', rt := Q } (start N vs) H) : HasG P w K mg base CX0 (k + 1) nm ps sp := by
  obtain ⟨f, fd, F, g, b⟩ := D
  refine ⟨f, fd, g, F.kp, b, gfn_of F S len (fun cdv A o s H vs Q E ga hr h => ?_)⟩
  obtain ⟨t, h1, h2⟩ := body f cdv A o s H vs Q E ga hr h
  exact ⟨t, h1.nox, h2⟩
/-- .. at its place: a law's own def -/
theorem law_of {N : List Str} {f : Addr} {fd : FuncData} (F : Fun K nm nm st f fd) (S : FnScope N ps (defScope st)) (len : ∀ vs H Q E, sp vs H Q E → vs.length = ps.length)
    (body : ∀ (cdv : Value) (A : Around) (outer : List Env) (s : Shared) (H : Hp) (vs : List V) (Q : VK) (E : XK), A.guards = some [] → Room k (A.deeper (envOfC nm (defScope st) s.heap.objs.size f cdv)) → sp vs H Q E →
      ∃ t, PSs (cxOf CX0 P w K mg base N nm (defScope st) f cdv A outer s H E).nox (defBody st) t ∧ t { nx := fun _ H' => Q .non H', rt := Q } (start N vs) H) : GFn P w K mg base CX0 (k + 1) f fd ps sp :=
  gfn_of F S len fun cdv A o s H vs Q E ga hr h => by
    obtain ⟨t, h1, h2⟩ := body cdv A o s H vs Q E ga hr h
    exact ⟨t, h1.nox, h2⟩
theorem Has.mono {j : Nat} (h : Has P w K mg base CX j nm ps sp) (l : j ≤ k) : Has P w K mg base CX k nm ps sp := by
  obtain ⟨f, fd, g, kp, b, F⟩ := h
  exact ⟨f, fd, g, kp, b, F.mono l⟩
theorem Has.g (h : Has P w K mg base CX k nm ps sp) : HasG P w K mg base CX k nm ps sp := by
  obtain ⟨f, fd, g, kp, b, F⟩ := h
  exact ⟨f, fd, g, kp, b, .of F⟩
end
section
variable {X : Cx} {k j : Nat} {nm : Str} {ps : List Str} {sp : Sp} {e : Expr} {es : List Expr} {t : TA} {p pos : Pos}
/-- f(e, ..) by its bundle, nothing raised -/
theorem pe_h (h : Has X.prog X.w X.K X.mg X.base CX0 j nm ps sp) (hr : Room k X.A) (l : j ≤ k) (hg : Gl X nm) (ha : PA X (e :: es) t) (hdb : (nm == ("__debug__" : Str)) = false := by decide)
    (he : starEach (e :: es) X.env = (false, eval e X.env) :: starEach es X.env := by rfl) (hpl : (backTo pos (starEach es X.env)).any (·.1) = false := by rfl) : PE X (.Call (.Name nm p) (e :: es) [] pos) (tCall sp [] E0 t) := by
  obtain ⟨f, fd, g, kp, b, F⟩ := h
  exact pe_call F (hr.mono l) hg g kp b .nil pass0 ha hdb he hpl
theorem pe_h0 (h : Has X.prog X.w X.K X.mg X.base CX0 j nm ps sp) (hr : Room k X.A) (l : j ≤ k) (hg : Gl X nm) (hdb : (nm == ("__debug__" : Str)) = false := by decide) : PE X (.Call (.Name nm p) [] [] pos) (tCall sp [] E0 tNil) := by
  obtain ⟨f, fd, g, kp, b, F⟩ := h
  exact pe_call0 F (hr.mono l) hg g kp b .nil pass0 hdb
theorem pe_hG (h : HasG X.prog X.w X.K X.mg X.base CX0 j nm ps sp) (gd : X.A.guards = some []) (hr : Room k X.A) (l : j ≤ k) (hg : Gl X nm) (ha : PA X (e :: es) t) (hdb : (nm == ("__debug__" : Str)) = false := by decide)
    (he : starEach (e :: es) X.env = (false, eval e X.env) :: starEach es X.env := by rfl) (hpl : (backTo pos (starEach es X.env)).any (·.1) = false := by rfl) : PE X (.Call (.Name nm p) (e :: es) [] pos) (tCall sp [] E0 t) := by
  obtain ⟨f, fd, g, kp, b, F⟩ := h
  exact pe_callG F gd (hr.mono l) hg g kp b .nil pass0 ha hdb he hpl
/-- a class or a def of the module as a value -/
theorem pe_ref {x : Str} {a : Addr} {pos : Pos} (hg : Gl X x) (hm : X.mg x = some (.ref a)) (hd : (x == ("__debug__" : Str)) = false := by decide) : PE X (.Name x pos) (tC (.ref a)) := pe_glob hg hm rfl hd
/-- a field of an exception, the written part named (within a comprehension) -/
theorem pe_xFk {K : PySem.W.Frag} {n : Str} {te : TE} (hK : X.K = K) (he : PE X e te) (hb : attributeBase e n X.env (eval e X.env) = eval e X.env := by rfl) : PE X (.Attribute e n pos) (tXF K n te) := by
  subst hK
  exact pe_xF he hb
/-- slots, short -/
theorem ps_sv (i : Nat) {x : Str} {e : Expr} {te : TE} {pos' : Pos} (hN : X.N.Nodup) (he : PE X e te) (hi : X.N[i]? = some x := by rfl) (hx : Loc X.env.scope x := by first | exact Or.inl rfl | exact Or.inr rfl) (hs : swapsWith e (some (.Name x pos')) pos.line X.env = pure false := by rfl)
    (hf : X.fn x = true ∨ X.env.scope.names.lookup x = some .local := by first | exact .inl rfl | exact .inr rfl | assumption) : PS X (.Assign [.Name x pos'] e pos) (tAsg te (gName i)) := ps_set hN hi hx he hs hf
end
end Ct

set_option Elab.async false
set_option linter.all false
set_option maxRecDepth 100000
set_option maxHeartbeats 2000000
/-! Own kit E: what a law's source of draws promises: source, draw, pick. -/
namespace Ct
open PySem PySem.Spec PyProof.Rows L2
def SrcOk (r m : Int) : Prop := 0 ≤ r ∧ 0 ≤ m ∧ m ≤ 2147483647
/-- source(script, start): a new list of two ints -/
def spSource (K : PySem.W.Frag) : Sp := fun vs H Q _ => ∃ (a : Addr) (ns : List Int) (st : Int), vs = [.ref a, .int st] ∧ 0 ≤ st ∧ st ≤ 100 ∧ SqL K H a (ns.map V.int) ∧ ns.length ≤ 63 ∧ (∀ z ∈ ns, Builtin.Int.intBits z ≤ 1048576) ∧
  ∀ p r m, H p = none → SrcOk r m → Q (.ref p) (upd H p (.lst [.int r, .int m]))
/-- draw(source, span): a number below span; the source turns -/
def spDraw : Sp := fun vs H Q _ => ∃ (p : Addr) (r m n : Int), vs = [.ref p, .int n] ∧ H p = some (.lst [.int r, .int m]) ∧ SrcOk r m ∧ 1 ≤ n ∧ n ≤ 1000000000 ∧
  ∀ r' m' k, SrcOk r' m' → 0 ≤ k → k < n → Q (.int k) (upd H p (.lst [.int r', .int m']))
/-- pick(source, things): one of the things -/
def spPick (K : PySem.W.Frag) : Sp := fun vs H Q _ => ∃ (p q : Addr) (r m : Int) (xs : List V), vs = [.ref p, .ref q] ∧ q ≠ p ∧ H p = some (.lst [.int r, .int m]) ∧ SrcOk r m ∧ (SqL K H q xs ∨ SqT K H q xs) ∧ xs ≠ [] ∧ xs.length ≤ 1000000 ∧
  ∀ r' m' x, SrcOk r' m' → x ∈ xs → Q x (upd H p (.lst [.int r', .int m']))
theorem sqL_upd {K : PySem.W.Frag} {H : Hp} {p q : Addr} {o : HO} {xs : List V} (h : SqL K H q xs) (n : q ≠ p) : SqL K (upd H p o) q xs := by
  rcases h with (h | ⟨u, h⟩) | h
  · exact .inl (.inl (by rw [upd_ne n]; exact h))
  · exact .inl (.inr ⟨u, by rw [upd_ne n]; exact h⟩)
  · exact .inr h
theorem sqT_upd {K : PySem.W.Frag} {H : Hp} {p q : Addr} {o : HO} {xs : List V} (h : SqT K H q xs) (n : q ≠ p) : SqT K (upd H p o) q xs := by
  rcases h with (h | ⟨u, h⟩) | h
  · exact .inl (.inl (by rw [upd_ne n]; exact h))
  · exact .inl (.inr ⟨u, by rw [upd_ne n]; exact h⟩)
  · exact .inr h
theorem at_in {xs : List V} {k : Int} (h0 : 0 ≤ k) (h1 : k < (xs.length : Nat)) : ∃ x, x ∈ xs ∧ atI xs k = some x := by
  obtain ⟨j, rfl⟩ := Int.eq_ofNat_of_zero_le h0
  have hj : j < xs.length := by omega
  exact ⟨xs[j], List.getElem_mem hj, atI_nat (List.getElem?_eq_getElem hj)⟩
theorem ints_at {ns : List Int} {i : Nat} {y : V} (h : (ns.map V.int)[i]? = some y) : ∃ z, ns[i]? = some z ∧ z ∈ ns ∧ y = .int z := by
  rw [List.getElem?_map] at h
  cases e : ns[i]? with
  | none => rw [e] at h; cases h
  | some z => rw [e] at h; exact ⟨z, rfl, List.mem_of_getElem? e, (Option.some.inj h).symm⟩
theorem pow_ok {x : Int} {n : Nat} {j : Int} (h : Builtin.Int.intBits x ≤ n) (h0 : 0 ≤ j) (hz : (n : Int) * j ≤ 2 ^ 27) : CPowW x j := by
  refine ⟨h0, Int.le_trans (Int.mul_le_mul_of_nonneg_right ?_ h0) hz⟩
  omega
theorem bits_small {x : Int} {n : Nat} (h0 : 0 ≤ x) (h : x < 2 ^ n) : Builtin.Int.intBits x ≤ n := by
  refine intBits_le_iff.mpr ?_
  have e : ((x.natAbs : Nat) : Int) = x := by omega
  have z : ((x.natAbs : Nat) : Int) < ((2 ^ n : Nat) : Int) := by rw [e, Int.natCast_pow]; exact h
  omega
end Ct

set_option Elab.async false
set_option linter.all false
set_option maxRecDepth 100000
set_option maxHeartbeats 2000000
/-! Own kit F: for over enumerate; heaps that only grow. -/
namespace Ct
open PySem PySem.Spec PyProof.Rows L2
theorem for_enum {K : PySem.W.Frag} {a : Addr} {xs : List V} {g : TG} {tb : TS} {D : Ends} {σ : L2.St} {H : Hp} (Pv : Nat → L2.St → Hp → Prop) (h0 : Pv 0 σ H) (hl : ∀ i σ H, i ≤ xs.length → Pv i σ H → SqL K H a xs)
    (hs : ∀ i x σ H T, xs[i]? = some x → Pv i σ H → H T = none → g (.ref T) σ (upd H T (.tup [.int (i : Nat), x])) fun σ2 H2 => tb { D with nx := Pv (i + 1), ct := Pv (i + 1), bk := D.nx } σ2 H2)
    (hd : ∀ σ H, Pv xs.length σ H → D.nx σ H) :
    ∃ W : Nat → Nat → L2.St → Hp → Prop, (∃ m, W 0 m σ H) ∧ ∀ i m σ H, W i m σ H →
      ((Ite K a).stop i H ∧ D.nx σ H) ∨ ((Ite K a).go i H ∧ ∃ N : L2.St → Hp → Prop, (∀ σ' H', N σ' H' → ∃ m', m' < m ∧ W (i + 1) m' σ' H') ∧ ∀ x H', (Ite K a).yld i H x H' → g x σ H' fun σ2 H2 => tb { D with nx := N, ct := N, bk := D.nx } σ2 H2) := by
  refine ⟨fun i m σ H => m = xs.length - i ∧ i ≤ xs.length ∧ Pv i σ H, ⟨xs.length, rfl, Nat.zero_le _, h0⟩, ?_⟩
  rintro i m σ H ⟨rfl, hi, p⟩
  have q := hl i σ H hi p
  rcases Nat.lt_or_ge i xs.length with lt | ge
  · right
    refine ⟨⟨xs, xs[i], q, List.getElem?_eq_getElem lt⟩, Pv (i + 1), fun σ' H' p' => ⟨_, by omega, rfl, lt, p'⟩, ?_⟩
    rintro _ _ ⟨T, x, rfl, hT, rfl, hx⟩
    exact hs i x σ H T (hx xs q) p hT
  · left
    have e : i = xs.length := Nat.le_antisymm hi ge
    subst e
    exact ⟨⟨xs, q, Nat.le_refl _⟩, hd σ H p⟩
theorem same_upd {H H' : Hp} {p : Addr} {o : HO} (s : Same H H') (h : H p = none) : Same H (upd H' p o) := fun b u e => by
  rw [upd_ne (ne_of_none e h)]
  exact s b u e
theorem same_new {H : Hp} {p : Addr} {o : HO} (h : H p = none) : Same H (upd H p o) := same_upd (Same.refl H) h
/-- only locked things are tracked: a store leaves them -/
theorem only_upd {H H' : Hp} {p : Addr} {o u : HO} (on : Only H) (s : Same H H') (h : H' p = some u) (n : ∀ ob x, u ≠ .frz ob x) : Same H (upd H' p o) := fun b v e => by
  rcases on b with z | ⟨ob, xs, z⟩
  · rw [z] at e; cases e
  · rw [z] at e; cases e
    have q := s b _ z
    rw [upd_ne (ne_of q h (Ne.symm (n _ _)))]
    exact q
/-- a store at p leaves what is of other content -/
theorem upd_other {H : Hp} {p b : Addr} {o u v : HO} (h : H p = some u) (e : H b = some v) (n : v ≠ u) : upd H p o b = some v := by
  rw [upd_ne (ne_of e h n)]
  exact e
theorem same_t {K : PySem.W.Frag} {H H' : Hp} {a : Addr} {xs : List V} (s : Same H H') (h : SqT K H a xs) : SqT K H' a xs := by
  rcases h with (h | ⟨o, h⟩) | h
  · exact .inl (.inl (s _ _ h))
  · exact .inl (.inr ⟨o, s _ _ h⟩)
  · exact .inr h
theorem same_rd {H H' : Hp} {a : Addr} {u : HO} (s : Same H H') (h : Rd H a u) : Rd H' a u := by
  rcases h with h | ⟨o, h⟩
  · exact .inl (s _ _ h)
  · exact .inr ⟨o, s _ _ h⟩
mutual
theorem Dq.same {K : PySem.W.Frag} {H H' : Hp} (s : Same H H') : ∀ {v : V} {d : PyData}, Dq K H v d → Dq K H' v d
  | _, _, .non => .non
  | _, _, .bl b => .bl b
  | _, _, .int i => .int i
  | _, _, .str x => .str x
  | _, _, .lst h a => .lst (s.seq h) (DqAll.same s a)
  | _, _, .tup h a => .tup (same_t s h) (DqAll.same s a)
  | _, _, .dic h k e a => .dic (same_rd s h) k e (DqAll.same s a)
  | _, _, .dicT h k e a => .dicT (same_rd s h) k e (DqAll.same s a)
theorem DqAll.same {K : PySem.W.Frag} {H H' : Hp} (s : Same H H') : ∀ {vs : List V} {ds : List PyData}, DqAll K H vs ds → DqAll K H' vs ds
  | _, _, .nil => .nil
  | _, _, .cons a b => .cons (Dq.same s a) (DqAll.same s b)
end
end Ct

set_option Elab.async false
set_option linter.all false
set_option maxRecDepth 100000
set_option maxHeartbeats 2000000
/-! Own kit G: sets of tuples of keys (texts, ints), up to 76 members: what is looked for, what is put in. -/
namespace Ct
open PySem PySem.Spec PyProof.Rows L2
abbrev TupAt (P : Program) (w : World) (h : Heap) (k : List Key) (a : Addr) : Prop := IsTupleKey (mixKind P w) h k a
abbrev kh (P : Program) (w : World) (k : List Key) : Int := tupleKeyHash (mixKind P w) k
abbrev Mem := Addr × List Key
def rowK (P : Program) (w : World) (p : Mem) : Int × Value := (kh P w p.2, Value.ref p.1)
theorem key_scan' {P : Program} {w : World} {k : Key} {v : Value} (h : (mixKind P w).is k v = true) : v.scannable = true := by
  rcases keyIs_shape ((mixKind_is P w k v).symm.trans h) with ⟨i, t, rfl, rfl⟩ | ⟨x, t, rfl, rfl⟩ <;> rfl
theorem items_scan {P : Program} {w : World} {ks : List Key} {vs : List Value} (h : ItemsAre (mixKind P w) ks vs) : ∀ v ∈ vs, v.scannable = true := by
  induction h with
  | nil => intro v hv; cases hv
  | cons h1 _ ih =>
    intro v hv
    rcases List.mem_cons.mp hv with rfl | hv
    · exact key_scan' h1
    · exact ih v hv
theorem noClass0 {n : Nat} {v : Value} (h : v.scannable = true) : ofAClassStatement n v = pure false := by
  cases v <;> first | (cases n <;> rfl) | exact absurd h Bool.false_ne_true
section
variable {P : Program} {w : World} {A : Around} {E : Value → Shared → Prop} {s : Shared}
theorem noClass {k : List Key} {b : Addr} {Q : Bool → Shared → Prop} (hk : TupAt P w s.heap k b) (h : Q false s) : wpAny (model P w) A (ofAClassStatement 8 (.ref b)) Q E s := by
  have hT := hk.typeIs
  obtain ⟨o, its, n, ho, _, hd, hi⟩ := hk
  unfold ofAClassStatement
  refine wpAny_bind (wpAny_typeOf hT ?_)
  dsimp only
  simp only [show (("tuple" : String) == "tuple") = true by decide, if_true, pure_bind, Bool.not_true, Bool.false_eq_true, if_false]
  refine wpAny_bind (wpAny_seqItems ho hd ?_)
  dsimp only
  refine wpAny_bind ?_
  rw [← Array.forIn_toList]
  refine wpAny_forIn_list _ (fun l r s' => r.1 = none ∧ s' = s ∧ ∀ v ∈ l, v.scannable = true) _ ?_ ?_ _ _ ⟨rfl, rfl, items_scan hi⟩
  · rintro v l r s' ⟨_, rfl, al⟩
    rw [noClass0 (al v List.mem_cons_self), pure_bind]
    exact wpAny_pure ⟨rfl, rfl, fun u hu => al u (List.mem_cons_of_mem _ hu)⟩
  · rintro ⟨r1, r2⟩ s' ⟨hr, rfl, _⟩
    cases (show r1 = none from hr)
    exact wpAny_pure h
theorem hashBy {k : List Key} {b : Addr} {Q : Bool → Shared → Prop} (hk : TupAt P w s.heap k b) (h : ∀ r, Q r s) : wpAny (model P w) A (hashByValue 8 (.ref b)) Q E s := by
  have hT := hk.typeIs
  obtain ⟨o, its, n, ho, _, hd, hi⟩ := hk
  unfold hashByValue
  refine wpAny_bind (wpAny_specialOf hT F.slot_tuple_hash.lookup ?_)
  show wpAny _ _ (seqItems? (.ref b) >>= _) _ _ s
  refine wpAny_bind (wpAny_seqItems ho hd ?_)
  refine wpAny_bind ?_
  show wpAny _ _ (forIn its _ _) _ _ s
  rw [← Array.forIn_toList]
  refine wpAny_forIn_list _ (fun l r s' => r.1 = none ∧ s' = s ∧ ∀ v ∈ l, v.scannable = true) _ ?_ ?_ _ _ ⟨rfl, rfl, items_scan hi⟩
  · rintro v l r s' ⟨_, rfl, al⟩
    rw [hashByValue_scannable _ (al v List.mem_cons_self), pure_bind]
    cases plainKind v
    · exact wpAny_pure (wpAny_pure (h false))
    · exact wpAny_pure ⟨rfl, rfl, fun u hu => al u (List.mem_cons_of_mem _ hu)⟩
  · rintro ⟨r1, r2⟩ s' ⟨hr, rfl, _⟩
    cases (show r1 = none from hr)
    exact wpAny_pure (h true)
theorem unseen {k : List Key} {b : Addr} {Q : Bool → Shared → Prop} (hk : TupAt P w s.heap k b) {ys : List Value} (hy : ∀ y ∈ ys, ∃ k' c, y = Value.ref c ∧ TupAt P w s.heap k' c) (h : Q false s) :
    wpAny (model P w) A (searchCouldBeSeen (.ref b) ys) Q E s := by
  unfold searchCouldBeSeen
  refine wpAny_bind ?_
  refine wpAny_forIn_list _ (fun l r s' => r.1 = none ∧ s' = s ∧ ∀ y ∈ l, ∃ k' c, y = Value.ref c ∧ TupAt P w s.heap k' c) _ ?_ ?_ _ _ ⟨rfl, rfl, hy⟩
  · rintro v l r s' ⟨_, rfl, al⟩
    obtain ⟨k', c, rfl, hc⟩ := al v List.mem_cons_self
    have al' : ∀ y ∈ l, ∃ k' c, y = Value.ref c ∧ TupAt P w s'.heap k' c := fun u hu => al u (List.mem_cons_of_mem _ hu)
    dsimp only
    by_cases hv : (b == c || (carriedByValue (.ref b) && carriedByValue (.ref c))) = true
    · exact wp_if_pos hv (wpAny_pure ⟨rfl, rfl, al'⟩)
    · refine wp_if_neg hv ?_
      refine wpAny_bind (wpAny_eqIsQuiet_tuple hk ?_)
      simp only [Bool.not_true, Bool.false_eq_true, if_false]
      refine wpAny_bind (wpAny_eqIsQuiet_tuple hc ?_)
      simp only [Bool.not_true, Bool.false_eq_true, if_false]
      refine wpAny_bind (noClass hk ?_)
      simp only [Bool.false_eq_true, if_false]
      refine wpAny_bind (noClass hc ?_)
      simp only [Bool.false_eq_true, if_false]
      exact wpAny_pure ⟨rfl, rfl, al'⟩
  · rintro ⟨r1, r2⟩ s' ⟨hr, rfl, _⟩
    cases (show r1 = none from hr)
    exact wpAny_pure h
/-- the set at a, its table told -/
structure KSet (P : Program) (w : World) (h : Heap) (a : Addr) (L : List Mem) (es : Array (Int × Value)) (ep : Nat) (t : SetTable) : Prop where
  ob : ∃ o, h.get? a = some o ∧ o.ExactSet ∧ o.data = .set es ep t
  rows : es.toList = L.map (rowK P w)
  tab : TabOk t (L.map fun p => kh P w p.2)
  nd : (L.map (·.2)).Nodup
  led : w.params.followText "set-order" = true ∨ t.led = true
  room : L.length * 5 < t.mask * 3
  few : L.length < 77
variable {a : Addr} {L : List Mem} {es : Array (Int × Value)} {ep : Nat} {t : SetTable}
theorem rows_size (h : es.toList = L.map (rowK P w)) : es.size = L.length := by
  have z := congrArg List.length h
  rwa [Array.length_toList, List.length_map] at z
theorem rows_at (h : es.toList = L.map (rowK P w)) (i : Nat) : es[i]? = (L[i]?).map (rowK P w) := by
  rw [← Array.getElem?_toList, h, List.getElem?_map]
theorem KSet.fits (R : KSet P w s.heap a L es ep t) : t.fits es.size = true := by
  have h1 := R.tab.sz
  have h2 := rows_size R.rows
  have h3 := R.room
  rw [List.length_map] at h1
  unfold SetTable.fits SetTable.fill
  rw [R.tab.dm, Bool.and_eq_true, beq_iff_eq, decide_eq_true_eq]
  show t.place.size = es.size ∧ t.place.size + 0 ≤ t.mask
  omega
theorem nth_dummy (m : Nat) : ∀ (n : Nat) (p : SetTable.Probe), p.dummy = none → (nth m p n).dummy = none
  | 0, _, h => h
  | n + 1, p, h => nth_dummy m n (adv m p) (by unfold adv; split <;> exact h)
/-- the way's c-th stand -/
abbrev std (m : Nat) (h : Int) (c : Nat) : SetTable.Probe := nth m (runAt m (SetTable.bits h % (m + 1)) (SetTable.bits h)) c
/-- THE SEARCH -/
theorem seek (R : KSet P w s.heap a L es ep t) (tup : ∀ p ∈ L, TupAt P w s.heap p.2 p.1) {x : Addr} {k : List Key} (hx : TupAt P w s.heap k x) (hu : A.units < cLine) {ad : Bool} {K : Nat} (hK10 : K < 10 * SetTable.turns t.mask)
    (hK : way t.mask (kh P w k) K ∉ t.place.toList) (hb : ∀ c, c < K → way t.mask (kh P w k) c ∈ t.place.toList) {Q : SetFound → Shared → Prop}
    (yes : ∀ r : Option Nat, (ad = true → r = none) → (ad = false → r.isSome = true) → k ∈ L.map (·.2) → Q (.there r) s) (no : k ∉ L.map (·.2) → Q (.free (way t.mask (kh P w k) K) false) s) :
    ∀ (f c : Nat) (st : Option SetTable.Probe), st.getD (t.probeStart (kh P w k)) = std t.mask (kh P w k) c → c ≤ K → K - c < f →
      (∀ (i : Nat) (p : Mem), L[i]? = some p → p.2 = k → ∃ c', c ≤ c' ∧ c' < K ∧ t.place.toList[i]? = some (way t.mask (kh P w k) c')) →
      wpAny (model P w) A (setSearchFrom a (.ref x) (kh P w k) ad f st) Q E s
  | 0, _, _, _, _, z, _ => absurd z (Nat.not_lt_zero _)
  | f + 1, c, st, hst, hc, hf, ahead => by
    obtain ⟨o, ho, hex, hd⟩ := R.ob
    rw [setSearchFrom_succ]
    refine wpAny_bind (wpAny_setState_of ho hd R.fits ?_)
    dsimp only
    refine wp_if_neg (by unfold SetTable.gaveWay; rw [mask_odd R.tab.mok]; decide) ?_
    have sh : ∀ q, nth t.mask (std t.mask (kh P w k) c) q = std t.mask (kh P w k) (c + q) := fun q => (nth_add t.mask c _ q).symm
    have shj : ∀ q, (nth t.mask (std t.mask (kh P w k) c) q).j = way t.mask (kh P w k) (c + q) := fun q => congrArg SetTable.Probe.j (sh q)
    have kk : c + (K - c) = K := by omega
    have hAt : ∀ (i : Nat) (p : Mem), L[i]? = some p → (fun i => (es[i]?.map (·.1)).getD 0) i = kh P w p.2 := fun i p hp => by
      show (es[i]?.map (·.1)).getD 0 = _
      rw [rows_at R.rows, hp] <;> rfl
    have G := go_spec t R.tab.ris R.tab.dm (fun i => (es[i]?.map (·.1)).getD 0) (kh P w k) (10 * SetTable.turns t.mask) (K - c) (std t.mask (kh P w k) c) (nth_dummy _ _ _ rfl) (by omega)
      (fun q hq => by rw [shj]; exact hb _ (by omega)) (by rw [shj, kk]; exact hK)
    rcases G with ⟨q, i, hq, hi, hh, hno, hpr⟩ | ⟨hno, hpr⟩
    · have pr : t.probe (fun i => (es[i]?.map (·.1)).getD 0) (kh P w k) (st.getD (t.probeStart (kh P w k))) = some (.candidate (way t.mask (kh P w k) (c + q)) i (std t.mask (kh P w k) (c + (q + 1)))) := by
        rw [hst, ← shj, ← sh]
        exact hpr
      rw [pr]
      dsimp only
      rw [shj] at hi
      have hil : i < L.length := by
        have h1 : i < t.place.toList.length := (List.getElem?_eq_some_iff.mp hi).1
        have h2 := R.tab.sz
        rw [List.length_map] at h2
        rw [Array.length_toList] at h1
        omega
      obtain ⟨p, hp⟩ : ∃ p, L[i]? = some p := ⟨L[i], List.getElem?_eq_getElem hil⟩
      have hm : p ∈ L := List.mem_of_getElem? hp
      have sl : t.slot (way t.mask (kh P w k) (c + q)) = .live i := slot_live R.tab.ris hi
      have ent : es[i]? = some (rowK P w p) := by rw [rows_at R.rows, hp]; rfl
      have go : wpAny (model P w) A (searchRest a (.ref x) (kh P w k) ad f es t (way t.mask (kh P w k) (c + q)) i (std t.mask (kh P w k) (c + (q + 1)))) Q E s := by
        unfold searchRest
        rw [ent]
        dsimp only [rowK]
        refine wpAny_bind (wpAny_holding (wpAny_eqBool_tuple hu (tup p hm) hx ?_))
        refine wpAny_bind (wpAny_setState_of ho hd R.fits ?_)
        dsimp only
        by_cases e : p.2 = k
        · have mem : k ∈ L.map (·.2) := List.mem_map.mpr ⟨p, hm, e⟩
          cases ad with
          | true => exact wp_if_pos (by simp [e]) (wpAny_pure (yes none (fun _ => rfl) (fun z => Bool.noConfusion z) mem))
          | false =>
            refine wp_if_neg (by simp) ?_
            rw [sameMem]
            simp only [if_true, sl, ent]
            refine wpAny_bind (wpAny_isSame_ref_self (wpAny_bind (wpAny_pure ?_)))
            simp only [if_true]
            exact wp_if_pos (by simp [e]) (wpAny_pure (yes (some i) (fun z => Bool.noConfusion z) (fun _ => rfl) mem))
        · refine wp_if_neg (by simp [e]) ?_
          rw [sameMem]
          simp only [if_true, sl, ent]
          refine wpAny_bind (wpAny_isSame_ref_self (wpAny_bind (wpAny_pure ?_)))
          simp only [if_true]
          refine wp_if_neg (by simp [e]) ?_
          refine seek R tup hx hu hK10 hK hb yes no f (c + (q + 1)) _ rfl (by omega) (by omega) fun i0 p0 h0 e0 => ?_
          obtain ⟨c', a1, a2, a3⟩ := ahead i0 p0 h0 e0
          refine ⟨c', ?_, a2, a3⟩
          have n1 : ¬ c' < c + q := fun z => hno (c' - c) i0 (by omega) (by rw [shj, show c + (c' - c) = c' by omega]; exact a3) ((hAt i0 p0 h0).trans (congrArg (kh P w) e0))
          have n2 : c' ≠ c + q := fun z => by
            rw [z] at a3
            have s0 := slot_live R.tab.ris a3
            rw [sl] at s0
            injection s0 with s0
            rw [← s0, hp] at h0
            exact e ((congrArg Prod.snd (Option.some.inj h0)).trans e0)
          omega
      cases hl : t.led with
      | true => exact wp_if_neg (by decide) go
      | false =>
        refine wp_if_pos (by decide) ?_
        refine wpAny_bind (unseen hx (fun y hy => ?_) (wp_if_neg (by decide) go))
        obtain ⟨e, he, rfl⟩ := List.mem_map.mp hy
        have he2 : e ∈ es.toList := by
          have z : e ∈ es ∧ e.1 = kh P w k := by simpa using he
          simpa using z.1
        rw [R.rows] at he2
        obtain ⟨p2, hp2, rfl⟩ := List.mem_map.mp he2
        exact ⟨p2.2, p2.1, rfl, tup p2 hp2⟩
    · have pr : t.probe (fun i => (es[i]?.map (·.1)).getD 0) (kh P w k) (st.getD (t.probeStart (kh P w k))) = some (.empty (way t.mask (kh P w k) K) none) := by
        have e2 : way t.mask (kh P w k) K = (nth t.mask (std t.mask (kh P w k) c) (K - c)).j := by rw [shj, kk]
        rw [hst, e2]
        exact hpr
      rw [pr]
      dsimp only
      refine wpAny_pure (no fun hm => ?_)
      obtain ⟨p0, h0, e0⟩ := List.mem_map.mp hm
      obtain ⟨i0, hi0⟩ := List.mem_iff_getElem?.mp h0
      obtain ⟨c', a1, a2, a3⟩ := ahead i0 p0 hi0 e0
      exact hno (c' - c) i0 (by omega) (by rw [shj, show c + (c' - c) = c' by omega]; exact a3) ((hAt i0 p0 hi0).trans (congrArg (kh P w) e0))
/-- the search from the way's start -/
theorem seek0 (R : KSet P w s.heap a L es ep t) (tup : ∀ p ∈ L, TupAt P w s.heap p.2 p.1) {x : Addr} {k : List Key} (hx : TupAt P w s.heap k x) (hu : A.units < cLine) {ad : Bool} {Q : SetFound → Shared → Prop}
    (yes : ∀ r : Option Nat, (ad = true → r = none) → (ad = false → r.isSome = true) → k ∈ L.map (·.2) → Q (.there r) s)
    (no : ∀ K, k ∉ L.map (·.2) → way t.mask (kh P w k) K ∉ t.place.toList → (∀ c, c < K → way t.mask (kh P w k) c ∈ t.place.toList) → Q (.free (way t.mask (kh P w k) K) false) s) :
    wpAny (model P w) A (setSearch a (.ref x) (kh P w k) ad) Q E s := by
  have hroom := R.room
  obtain ⟨K, hK10, hK, hb⟩ := R.tab.first (by rw [List.length_map]; omega) (kh P w k)
  have big : K < 100000 := by
    have : 10 * SetTable.turns t.mask ≤ 1420 := by
      unfold SetTable.turns
      rcases R.tab.mok with e | e | e <;> omega
    omega
  unfold setSearch
  refine seek R tup hx hu hK10 hK hb yes (fun n => no K n hK hb) 100000 0 none rfl (Nat.zero_le _) (by omega) fun i p hp e => ?_
  have hil : i < t.place.toList.length := by
    have h1 : i < L.length := (List.getElem?_eq_some_iff.mp hp).1
    have h2 := R.tab.sz
    rw [List.length_map] at h2
    rw [Array.length_toList]
    omega
  have hj := List.getElem?_eq_getElem hil
  obtain ⟨c, hc, e2⟩ := R.tab.before hK (h := kh P w k) (by rw [List.getElem?_map, hp, ← e] <;> rfl) hj
  exact ⟨c, Nat.zero_le _, hc, by rw [hj, e2]⟩
end
end Ct

set_option Elab.async false
set_option linter.all false
set_option maxRecDepth 100000
set_option maxHeartbeats 2000000
/-! Own kit H: the same sets: add, in; over the layer. -/
namespace Ct
open PySem PySem.Spec PyProof.Rows L2
section
variable {P : Program} {w : World} {A : Around} {E : Value → Shared → Prop} {s : Shared} {a : Addr} {L : List Mem} {es : Array (Int × Value)} {ep : Nat} {t : SetTable}
theorem tup_same {h h' : Heap} {k : List Key} {b : Addr} {o : Obj} (hb : TupAt P w h k b) (ho : h.get? a = some o) (hd : o.data = .set es ep t) (sb : Heap.SameBut a h h') : TupAt P w h' k b := by
  obtain ⟨o', its, n, ho', hc, hd', hi⟩ := hb
  refine ⟨o', its, n, (sb.2 b ?_).trans ho', hc, hd', hi⟩
  rintro rfl
  rw [ho] at ho'
  cases ho'
  rw [hd] at hd'
  cases hd'
theorem getD_range (L : List Mem) : (List.range L.length).map (fun i => L.getD i (0, [])) = L := by
  refine List.ext_getElem (by simp) fun i h1 h2 => ?_
  simp [List.getD_eq_getElem?_getD, List.getElem?_eq_getElem h2]
/-- the rows in another order -/
theorem reorder (h : es.toList = L.map (rowK P w)) {order : Array Nat} (pm : order.toList.Perm (List.range L.length)) :
    ∃ L2 : List Mem, (order.filterMap (es[·]?)).toList = L2.map (rowK P w) ∧ L2.Perm L ∧ (L2.map fun p => kh P w p.2) = order.toList.map fun i => (es.map (·.1)).getD i 0 := by
  have bd : ∀ i ∈ order.toList, i < L.length := fun i hi => List.mem_range.mp (pm.mem_iff.mp hi)
  refine ⟨order.toList.map fun i => L.getD i (0, []), ?_, ?_, ?_⟩
  · have key : ∀ l : List Nat, (∀ i ∈ l, i < L.length) → l.filterMap (fun i => es[i]?) = (l.map fun i => L.getD i (0, [])).map (rowK P w) := by
      intro l
      induction l with
      | nil => intro _; rfl
      | cons i l ih =>
        intro hl
        have hi := hl i List.mem_cons_self
        have e : es[i]? = some (rowK P w (L.getD i (0, []))) := by
          rw [rows_at h, List.getElem?_eq_getElem hi]
          simp [List.getD_eq_getElem?_getD, List.getElem?_eq_getElem hi]
        rw [List.filterMap_cons_some e, ih fun j hj => hl j (List.mem_cons_of_mem _ hj)]
        rfl
    rw [Array.toList_filterMap]
    exact key _ bd
  · have z := pm.map fun i => L.getD i (0, [])
    rwa [getD_range] at z
  · rw [List.map_map]
    refine List.map_congr_left fun i hi => ?_
    have e1 := rows_at h i
    rw [List.getElem?_eq_getElem (bd i hi)] at e1
    have e2 : (es.map (·.1))[i]? = some (kh P w (L[i]'(bd i hi)).2) := by rw [Array.getElem?_map, e1]; rfl
    simp [Array.getD_eq_getD_getElem?, e2, List.getD_eq_getElem?_getD, List.getElem?_eq_getElem (bd i hi)]
/-- the table laid anew -/
theorem relay {o : Obj} (ho : s.heap.get? a = some o) (hex : o.ExactSet) (hd : o.data = .set es ep t) (hr : es.toList = L.map (rowK P w)) (hsz : t.place.size = es.size) (hdm : t.dummies = #[]) (hfl : es.size ≤ t.mask)
    (nd : (L.map (·.2)).Nodup) (ld : w.params.followText "set-order" = true ∨ t.led = true) (few : L.length < 77) {wanted M : Nat}
    (hw : SetTable.sizeAbove wanted - 1 = M) (hM : MaskOk M) (hw2 : SetTable.sizeAbove wanted ≤ 128) (hn : L.length * 5 < M * 3) {Q : Unit → Shared → Prop}
    (hQ : ∀ h' L' es' ep' t', Heap.SameBut a s.heap h' → KSet P w h' a L' es' ep' t' → L'.Perm L → Q () { s with heap := h' }) : wpAny (model P w) A (setRelay a wanted) Q E s := by
  have hsl := rows_size hr
  have fits : t.fits es.size = true := by
    unfold SetTable.fits SetTable.fill
    rw [hdm, Bool.and_eq_true, beq_iff_eq, decide_eq_true_eq]
    show t.place.size = es.size ∧ t.place.size + 0 ≤ t.mask
    omega
  obtain ⟨t', order, e, hp, T, em, el, _, _⟩ := relaid_ok t (hs := es.map (·.1)) (wanted := wanted) hw hM (by rw [Array.size_map, hsl]; omega)
  rw [Array.size_map, hsl] at hp
  obtain ⟨L2, r1, r2, r3⟩ := reorder hr hp
  rw [← r3] at T
  have hs2 : (order.filterMap (es[·]?)).size = es.size := by rw [rows_size r1, r2.length_eq, hsl]
  rw [setRelay_eq]
  refine wpAny_bind (wpAny_setState_of ho hd fits ?_)
  dsimp only
  refine wp_if_neg (by rw [sizeLine_eq]; omega) ?_
  rw [e]
  dsimp only
  refine wpAny_bind ?_
  refine wp_if_neg (by rw [hs2]; simp) ?_
  refine wpAny_pure ?_
  dsimp only
  refine wpAny_storeSet_of ho hd ?_ (by rw [hs2, hsl, sizeLine_eq]; omega)
  refine hQ _ L2 _ (ep + 1) t' (Heap.SameBut.update ..) ⟨⟨_, store_at ho hd, ⟨hex.1, hex.2.1, hex.2.2⟩, rfl⟩, r1, T, (r2.map (·.2)).nodup_iff.mpr nd, by rw [el]; exact ld, ?_, by rw [r2.length_eq]; exact few⟩ r2
  rw [r2.length_eq, em]
  exact hn
theorem size_relay {n m : Nat} (h : (m = 7 ∧ n = 4) ∨ (m = 31 ∧ n = 18)) : MaskOk (SetTable.sizeAbove (SetTable.grown (n + 1)) - 1) ∧ SetTable.sizeAbove (SetTable.grown (n + 1)) ≤ 128 ∧ (n + 1) * 5 < (SetTable.sizeAbove (SetTable.grown (n + 1)) - 1) * 3 := by
  rcases h with ⟨_, rfl⟩ | ⟨_, rfl⟩
  · rw [size_20]; exact ⟨.inr (.inl rfl), by decide, by decide⟩
  · rw [size_76]; exact ⟨.inr (.inr rfl), by decide, by decide⟩
/-- ADDING -/
theorem putIn (R : KSet P w s.heap a L es ep t) (tup : ∀ p ∈ L, TupAt P w s.heap p.2 p.1) {x : Addr} {k : List Key} (hx : TupAt P w s.heap k x) (hu : A.units < cLine) (few : L.length + 1 < 77) {Q : Bool → Shared → Prop}
    (old : k ∈ L.map (·.2) → ∀ b, Q b s) (new : k ∉ L.map (·.2) → ∀ b h' L' es' ep' t', Heap.SameBut a s.heap h' → KSet P w h' a L' es' ep' t' → L'.Perm ((x, k) :: L) → Q b { s with heap := h' }) :
    wpAny (model P w) A (setAddHashed a (.ref x) (kh P w k)) Q E s := by
  obtain ⟨o, ho, hex, hd⟩ := R.ob
  have hsl := rows_size R.rows
  have hroom := R.room
  unfold setAddHashed
  refine wpAny_holding ?_
  rw [show (100000 : Nat) = 99999 + 1 from rfl, setAddHashedIn_succ]
  refine wpAny_bind (wpAny_setState_of ho hd R.fits ?_)
  dsimp only
  refine wp_if_neg (by simp [byScan, Value.scannable]) ?_
  refine wpAny_bind (seek0 R tup hx hu (ad := true) (fun r _ _ hm => wpAny_pure (old hm false)) fun K hm hK hb => ?_)
  dsimp only
  refine wpAny_bind (wpAny_setState_of ho hd R.fits ?_)
  dsimp only
  obtain ⟨q1, q2, q3, q4, q5, q6, q7, q8, q9⟩ := R.tab.put hK hb
  generalize hpt : t.put (way t.mask (kh P w k) K) = pt at q1 q3 q4 q5 q6 q7 q8 q9 ⊢
  obtain ⟨t1, p⟩ := pt
  dsimp only at q1 q3 q4 q5 q6 q7 q8 q9 ⊢
  subst q1
  generalize SetTable.below t.place (way t.mask (kh P w k) K) = p at q2 q3 ⊢
  have pm : (L.take p ++ (x, k) :: L.drop p).Perm ((x, k) :: L) := by
    have z : (L.take p ++ (x, k) :: L.drop p).Perm ((x, k) :: (L.take p ++ L.drop p)) := List.perm_middle
    rwa [List.take_append_drop] at z
  have rows1 : (SetTable.insertAt es p (kh P w k, Value.ref x)).toList = (L.take p ++ (x, k) :: L.drop p).map (rowK P w) := by
    rw [SetTable.toList_insertAt, R.rows, List.map_append, List.map_cons, List.map_take, List.map_drop]; rfl
  have hs1 : (L.take p ++ (x, k) :: L.drop p).map (fun p => kh P w p.2) = (L.map fun p => kh P w p.2).take p ++ kh P w k :: (L.map fun p => kh P w p.2).drop p := by
    rw [List.map_append, List.map_cons, List.map_take, List.map_drop]
  rw [← hs1] at q3
  have nd1 : ((L.take p ++ (x, k) :: L.drop p).map (·.2)).Nodup := (pm.map (·.2)).nodup_iff.mpr (List.nodup_cons.mpr ⟨hm, R.nd⟩)
  have len1 : (L.take p ++ (x, k) :: L.drop p).length = L.length + 1 := pm.length_eq
  generalize L.take p ++ (x, k) :: L.drop p = L1 at pm rows1 q3 nd1 len1
  generalize SetTable.insertAt es p (kh P w k, Value.ref x) = es1 at rows1 ⊢
  have sz1 := rows_size rows1
  -- behind the hash: a table that differs in its mark alone
  have fin : ∀ t2 : SetTable, t2.place = t1.place → t2.dummies = t1.dummies → t2.mask = t1.mask → t2.led = t1.led → wpAny (model P w) A (do
      storeSet a es1 t2
      if !false && t2.tooFull then setRelay a (SetTable.grown (es.size + 1))
      return true) Q E s := by
    intro t2 e1 e2 e3 e4
    have T2 : TabOk t2 (L1.map fun p => kh P w p.2) := by
      refine ⟨by rw [e1]; exact q3.ris, by rw [e2]; exact q3.dm, by rw [e1]; exact q3.sz, by rw [e3]; exact q3.mok, by rw [e1, e3]; exact q3.bd, ?_⟩
      rw [e1, e3]
      exact q3.reach
    have ld2 : w.params.followText "set-order" = true ∨ t2.led = true := by rw [e4, q5]; exact R.led
    have fl2 : t2.fill = L.length + 1 := by
      unfold SetTable.fill at q9 ⊢
      rw [e1, e2, q9, List.length_map]
    have mk2 : t2.mask = t.mask := e3.trans q4
    refine wpAny_bind (wpAny_storeSet_of ho hd ?_ (by rw [sz1, len1, sizeLine_eq]; omega))
    have sb : Heap.SameBut a s.heap (s.heap.update a (Obj.putSet es1 t2)) := Heap.SameBut.update ..
    have ho1 := store_at (es' := es1) (t' := t2) ho hd
    generalize s.heap.update a (Obj.putSet es1 t2) = h1 at sb ho1 ⊢
    by_cases hf : t2.tooFull = true
    · have full : (L.length + 1) * 5 ≥ t.mask * 3 := by
        have h := hf
        unfold SetTable.tooFull at h
        rw [decide_eq_true_eq, fl2, mk2] at h
        exact h
      have two : (t.mask = 7 ∧ L.length = 4) ∨ (t.mask = 31 ∧ L.length = 18) := by
        rcases R.tab.mok with e | e | e
        · rw [e] at full hroom; exact .inl ⟨e, by omega⟩
        · rw [e] at full hroom; exact .inr ⟨e, by omega⟩
        · exfalso; rw [e] at full; omega
      obtain ⟨m1, m2, m3⟩ := size_relay two
      simp only [hf, Bool.not_false, Bool.and_self, if_true]
      rw [hsl]
      refine wpAny_bind (relay (s := { s with heap := h1 }) ho1 ⟨hex.1, hex.2.1, hex.2.2⟩ rfl rows1 (by rw [T2.sz, List.length_map, sz1]) T2.dm (by rw [sz1, len1, mk2]; rcases two with ⟨e, e'⟩ | ⟨e, e'⟩ <;> omega) nd1 ld2 (by rw [len1]; exact few) rfl m1 m2 (by rw [len1]; exact m3) ?_)
      intro h2 L2 es2 ep2 t3 sb2 R2 pm2
      exact wpAny_pure (new hm true h2 L2 es2 ep2 t3 (sb.trans sb2) R2 (pm2.trans pm))
    · simp only [hf, Bool.not_false, Bool.and_false, Bool.false_eq_true, if_false]
      refine wpAny_pure (new hm true h1 L1 es1 (ep + 1) t2 sb ⟨⟨_, ho1, ⟨hex.1, hex.2.1, hex.2.2⟩, rfl⟩, rows1, T2, nd1, ld2, ?_, by rw [len1]; exact few⟩ pm)
      unfold SetTable.tooFull at hf
      rw [decide_eq_true_eq, fl2] at hf
      rw [len1]
      omega
  have fin2 : ∀ b : Bool, wpAny (model P w) A (do
      storeSet a es1 (if b then t1 else { t1 with plain := false })
      if !false && (if b then t1 else { t1 with plain := false }).tooFull then setRelay a (SetTable.grown (es.size + 1))
      return true) Q E s := fun b => by
    cases b
    · exact fin _ rfl rfl rfl rfl
    · exact fin _ rfl rfl rfl rfl
  by_cases hp1 : t1.plain = true
  · simp only [hp1, if_true]
    first
      | exact wpAny_bind (hashBy hx fun r => fin2 r)
      | exact wpAny_bind (hashBy hx fun r => wpAny_bind (wpAny_pure (fin2 r)))
  · simp only [hp1, Bool.false_eq_true, if_false]
    first
      | exact fin2 true
      | exact wpAny_bind (wpAny_pure (fin2 true))
/-- FINDING -/
theorem findIt (R : KSet P w s.heap a L es ep t) (tup : ∀ p ∈ L, TupAt P w s.heap p.2 p.1) {x : Addr} {k : List Key} (hx : TupAt P w s.heap k x) (hu : A.units < cLine) {Q : Option Nat → Shared → Prop}
    (yes : k ∈ L.map (·.2) → ∀ r : Option Nat, r.isSome = true → Q r s) (no : k ∉ L.map (·.2) → Q none s) : wpAny (model P w) A (setFind a (.ref x) (kh P w k)) Q E s := by
  obtain ⟨o, ho, hex, hd⟩ := R.ob
  unfold setFind setFindIn
  refine wpAny_bind (wpAny_setState_of ho hd R.fits ?_)
  dsimp only
  refine wp_if_neg (by simp [byScan, Value.scannable]) ?_
  refine wpAny_bind (seek0 R tup hx hu (ad := false) (fun r _ hr hm => ?_) fun K hm _ _ => ?_)
  · exact wpAny_pure (yes hm r (hr rfl))
  · exact wpAny_pure (no hm)
end
end Ct

set_option Elab.async false
set_option linter.all false
set_option maxRecDepth 100000
set_option maxHeartbeats 2000000
/-! Own kit I: sets of tuples of keys over the layer: add, in, comprehensions. -/
namespace Ct
open PySem PySem.Spec PyProof.Rows L2
/-- the set at a; that its members stand as they do is told apart -/
def KSetO (P : Program) (w : World) (a : Addr) (L : List Mem) : HO := .ext fun h => ∃ es ep t, KSet P w h a L es ep t
theorem kset_new {P : Program} {w : World} {H : Hp} {h : Heap} {a : Addr} {L : List Mem} {es : Array (Int × Value)} {ep : Nat} {t : SetTable} (R : KSet P w h a L es ep t) : ObjOk P w H h a (KSetO P w a L) := by
  obtain ⟨o, ho, r⟩ := R.ob
  refine ⟨⟨es, ep, t, R⟩, ⟨o, ho⟩, fun h1 h2 ⟨es, ep, t, R⟩ k => ?_⟩
  obtain ⟨o, ho, r⟩ := R.ob
  exact ⟨es, ep, t, ⟨o, k o ho, r⟩, R.rows, R.tab, R.nd, R.led, R.room, R.few⟩
theorem kset_fresh {P : Program} {w : World} {h : Heap} {a : Addr} (ho : h.get? a = some { cls := .type "set", dict := none, data := .set #[] 0 (.fresh 0 0 (!w.params.followText "set-order")) }) :
    KSet P w h a [] #[] 0 (.fresh 0 0 (!w.params.followText "set-order")) := by
  refine ⟨⟨_, ho, ⟨rfl, rfl, rfl⟩, rfl⟩, rfl, ⟨List.Pairwise.nil, rfl, rfl, .inl rfl, fun x hx => (by cases hx), fun i h j hi => (by simp at hi)⟩, List.nodup_nil, ?_, by show 0 * 5 < 7 * 3; decide, by show 0 < 77; decide⟩
  show _ ∨ (!w.params.followText "set-order") = true
  cases w.params.followText "set-order"
  · exact .inr rfl
  · exact .inl rfl
section
variable {X : Cx} {pins : List (Addr × Obj)} {σ : L2.St} {H : Hp} {s : Shared}
theorem vals_items {P : Program} {w : World} : ∀ {k : List Key} {us : List Value}, Vals (k.map kV) us → ItemsAre (mixKind P w) k us
  | [], _, .nil => .nil
  | _ :: _, _, .cons r t => .cons (kV_is r) (vals_items t)
theorem tup_of (I : Inv X pins σ H s) {b : Addr} {k : List Key} (h : SqT X.K H b (k.map kV)) : TupAt X.prog X.w s.heap k b := by
  obtain ⟨its, r, ⟨o, ho, hc, n, hd⟩, _⟩ := I.tuple h
  exact ⟨o, its.toArray, n, ho, hc, hd, by simpa using vals_items r⟩
/-- the members stand -/
def Mems (K : PySem.W.Frag) (H : Hp) (L : List Mem) : Prop := ∀ p ∈ L, SqT K H p.1 (p.2.map kV)
theorem mems_at (I : Inv X pins σ H s) {L : List Mem} (h : Mems X.K H L) : ∀ p ∈ L, TupAt X.prog X.w s.heap p.2 p.1 := fun p hp => tup_of I (h p hp)
/-- what add promises: k, a tuple at b, put into the set at a -/
def rKAdd (K : PySem.W.Frag) (P : Program) (w : World) (a b : Addr) (H : Hp) (Q : Hp → Prop) : Prop := ∃ (L : List Mem) (k : List Key), H a = some (KSetO P w a L) ∧ Mems K H L ∧ SqT K H b (k.map kV) ∧ L.length + 1 < 77 ∧
  (k ∈ L.map (·.2) → Q H) ∧ (k ∉ L.map (·.2) → ∀ L', L'.Perm ((b, k) :: L) → Q (upd H a (KSetO P w a L')))
theorem kadd {E : Value → Shared → Prop} {a b : Addr} {Qh : Hp → Prop} {Q : Value → Shared → Prop} (hu : X.A.units + 64 < cLine) (I : Inv X pins σ H s) (h : rKAdd X.K X.prog X.w a b H Qh)
    (q : ∀ H' s', Inv X pins σ H' s' → Qh H' → Q .none s') : wpAny (model X.prog X.w) X.A (call (.builtin "set.add") [.ref a, .ref b]) Q E s := by
  obtain ⟨L, k, ha, hm, hb, few, q1, q2⟩ := h
  obtain ⟨⟨es, ep, t, R⟩, _⟩ := I.hok _ _ ha
  have R : KSet X.prog X.w s.heap a L es ep t := R
  have tup := mems_at I hm
  have hx := tup_of I hb
  obtain ⟨o, ho, hex, hd⟩ := R.ob
  have ty : s.TypeIs (.ref a) "set" := ⟨o, ho, hex.1⟩
  have hu1 : X.A.in1.units < cLine := by show X.A.units + 1 < _; omega
  refine wpAny_call_entry F.slot_set_add ty F.entry_set_add ?_ (F.args_set_add_2 _ _)
  unfold Builtin.«set.add» Builtin.Frozenset.oneOther
  simp only [List.isEmpty_nil, bind_assoc]
  unfold Builtin.Frozenset.addrOf setAdd
  refine wpAny_bind (wpAny_pure ?_)
  try dsimp only
  refine wpAny_bind (wpAny_pure ?_)
  try dsimp only
  refine wpAny_bind ?_
  refine wpAny_holding ?_
  refine wpAny_bind (wpAny_pyHash_tuple hu1 hx ?_)
  have I1 : Inv X pins σ H { s with toks := s.toks + (k.length + 1) } := I.tok _
  refine putIn (s := { s with toks := s.toks + (k.length + 1) }) R tup hx hu1 few (fun hm b => ?_) fun hm b h' L' es' ep' t' sb R' pm => ?_
  · show wpAny _ _ (ret Value.none) _ _ _
    exact wpAny_pure ⟨_, rfl, q H _ I1 (q1 hm)⟩
  · show wpAny _ _ (ret Value.none) _ _ _
    obtain ⟨o', ho', _⟩ := R'.ob
    have he : ∃ u, h'.get? a = some u := ⟨o', ho'⟩
    exact wpAny_pure ⟨_, rfl, q _ _ (I.write (e := a) (t' := s.toks + (k.length + 1)) (by rw [ha]; trivial) (.inl rfl) (fun b u hb hu => (sb.2 b hb).trans hu) he (kset_new R')) (q2 hm L' pm)⟩
/-- k in s -/
def rKIn (K : PySem.W.Frag) (P : Program) (w : World) : V → V → Hp → VK → Prop := fun x y H Q => ∃ (a b : Addr) (L : List Mem) (k : List Key), x = .ref b ∧ y = .ref a ∧ H a = some (KSetO P w a L) ∧ Mems K H L ∧ SqT K H b (k.map kV) ∧
  (k ∈ L.map (·.2) → Q (.bl true) H) ∧ (k ∉ L.map (·.2) → Q (.bl false) H)
theorem or_kin (hu : X.A.units + 64 < cLine) : OpR X (compareOp .In) (rKIn X.K X.prog X.w) := by
  intro pins s σ H x y v u Q I rx ry h
  obtain ⟨a, b, L, k, rfl, rfl, ha, hm, hb, q1, q2⟩ := h
  cases rx
  cases ry
  obtain ⟨⟨es, ep, t, R⟩, _⟩ := I.hok _ _ ha
  have R : KSet X.prog X.w s.heap a L es ep t := R
  have tup := mems_at I hm
  have hx := tup_of I hb
  obtain ⟨o, ho, hex, hd⟩ := R.ob
  have ty : s.TypeIs (.ref a) "set" := ⟨o, ho, hex.1⟩
  have hu1 : X.A.in1.units < cLine := by show X.A.units + 1 < _; omega
  show wpAny _ _ (do return Value.bool (← contains (.ref a) (.ref b))) _ _ s
  refine wpAny_bind ?_
  unfold contains
  refine wpAny_holding ?_
  refine wpAny_bind (wpAny_specialOf ty F.slot_set_contains.lookup ?_)
  show wpAny _ _ (if (some (Value.builtin "set.__contains__") == some Value.none) = true then _ else _) _ _ s
  rw [if_neg (by rw [beq_builtin_none]; exact Bool.false_ne_true)]
  refine wpAny_bind (wpAny_callSpecialUnlessNone?_slot (name := Str.ofString "__contains__") ty F.slot_set_contains
    (wpAny_call_entry F.slot_set_contains ty entry_set_contains ?_ (F.args_set_contains_2 _ _)))
  unfold Builtin.«frozenset.__contains__» Builtin.Frozenset.oneOther
  simp only [List.isEmpty_nil, bind_assoc]
  unfold Builtin.Frozenset.addrOf Builtin.Frozenset.withSetAsKey setContains
  refine wpAny_bind (wpAny_pure ?_)
  try dsimp only
  refine wpAny_bind (wpAny_pure ?_)
  try dsimp only
  refine wpAny_bind (wpAny_tryCatch ?_)
  refine wpAny_holding ?_
  refine wpAny_bind (wpAny_pyHash_tuple hu1 hx ?_)
  have I1 : Inv X pins σ H { s with toks := s.toks + (k.length + 1) } := I.tok _
  refine wpAny_bind (findIt (s := { s with toks := s.toks + (k.length + 1) }) R tup hx hu1 (fun hk r hr => ?_) fun hk => ?_)
  · refine wpAny_pure ?_
    show wpAny _ _ (ret (Value.bool r.isSome)) _ _ _
    rw [hr]
    exact wpAny_pure ⟨_, rfl, wpAny_truthy_bool (wpAny_pure ⟨.bl true, H, I1, rfl, q1 hk⟩)⟩
  · refine wpAny_pure ?_
    show wpAny _ _ (ret (Value.bool false)) _ _ _
    exact wpAny_pure ⟨_, rfl, wpAny_truthy_bool (wpAny_pure ⟨.bl false, H, I1, rfl, q2 hk⟩)⟩
/-- s.add(t) -/
def tKAdd (K : PySem.W.Frag) (P : Program) (w : World) (to te : TE) : TE := fun σ H Q => to σ H fun x H1 => (∃ a L, x = V.ref a ∧ H1 a = some (KSetO P w a L)) ∧ te σ H1 fun y H2 => ∃ a b, x = .ref a ∧ y = .ref b ∧ rKAdd K P w a b H2 fun H3 => Q .non H3
theorem pe_kadd {o e : Expr} {to te : TE} {apos cpos : Pos} (hu : X.A.units + 64 < cLine) (ho : PE X o to) (he : PE X e te)
    (hbase : attributeBase o "add" X.env (eval o X.env) = eval o X.env := by rfl)
    (hfew : ((backTo cpos (starEach [e] X.env)).all (fun x => !x.1) && (backToKw cpos (keywordEach [] X.env)).all (fun x => x.1.isSome)
      && decide ([e].length + ([] : List Keyword).length + (if ([] : List Keyword).isEmpty then 0 else 1) < 30)) = true := by rfl)
    (hline : (apos.endLine == cpos.line) = true := by rfl) (hs : starEach [e] X.env = (false, eval e X.env) :: starEach [] X.env := by rfl) :
    PE X (.Call (.Attribute o "add" apos) [e] [] cpos) (tKAdd X.K X.prog X.w to te) := by
  refine ⟨fun pins s σ H Q I h => ?_⟩
  refine wpAny_Call_method_late hbase hfew hline rfl (thn (ho.run pins s σ H _ I h) fun v s1 ⟨x, H1, I1, r1, ty, q1⟩ => ?_)
  obtain ⟨a, L, rfl, ha⟩ := ty
  obtain ⟨⟨es, ep, t, R⟩, _⟩ := I1.hok _ _ ha
  have R : KSet X.prog X.w s1.heap a L es ep t := R
  obtain ⟨ob, hob, hex, _⟩ := R.ob
  cases r1
  refine ⟨"set", "set.add", F.plainAttrs_set, F.slot_set_add, F.type_set_add, ⟨ob, hob, hex.1⟩, (fun b e => by cases e; exact ⟨ob, hob, hex.2.1⟩), ?_⟩
  rw [hs]
  refine Calls.callWith_builtin rfl (Calls.evalArgs_plain (Calls.spliced_cons (thn (he.run pins s1 σ H1 _ I1 q1) fun iv s2 ⟨y, H2, I2, ry, a', b, ea, eb, q2⟩ => Calls.spliced_nil ?_)))
  cases ea
  subst eb
  cases ry
  exact kadd hu I2 q2 fun H' s' I' q' => ⟨.non, H', I', rfl, q'⟩
end
end Ct

set_option Elab.async false
set_option linter.all false
set_option maxRecDepth 100000
set_option maxHeartbeats 2000000
/-! Own kit J: {e for x in xs}, e a tuple of keys. -/
namespace Ct
open PySem PySem.Spec PyProof.Rows L2 PpSet
section
variable {X : Cx}
/-- the turns of {e for x in it}, D the new set -/
def tKSc (K : PySem.W.Frag) (P : Program) (w : World) (wi : TI) (g : TG) (te : TE) (vs : List Nat) : TE := fun σ H Q => wi σ H fun J H1 => ∀ D, H1 D = none → ∃ W : Nat → Nat → Hp → Prop, (∃ m, W 0 m (upd H1 D (KSetO P w D []))) ∧ ∀ i m H, W i m H →
  (J.stop i H ∧ Q (.ref D) H) ∨ (J.go i H ∧ ∃ Nx : Hp → Prop, (∀ H', Nx H' → ∃ m', m' < m ∧ W (i + 1) m' H') ∧ ∀ x H', J.yld i H x H' → g x (wipe σ vs) H' fun σ2 H2 => wipe σ2 vs = wipe σ vs ∧
    te σ2 H2 fun y H4 => ∃ b, y = .ref b ∧ rKAdd K P w D b H4 Nx)
theorem ksc_core {pins : List (Addr × Obj)} {s : Shared} {σ : L2.St} {H : Hp} {Q : VK} {elt tg iter : Expr} {scope : Scope} {own : List (PySem.Str × Nat)} {pos pos' : Pos} {wi : TI} {g : TG} {te : TE} {use : Option (Value → Sem Unit)} {Qf : Value → Shared → Prop}
    (hu : X.A.units + 64 < cLine) (hc : X.calm = true) (hN : X.N.Nodup) (I : Inv X pins σ H s) (hi : PI X tg iter wi) (ok : BlkOk X.N X.env.scope scope own)
    (hg : ∀ (s : Shared) (H : Hp) (C : Addr) (cl : List (PySem.Str × Addr)) (fp : List Addr), PG (X.blk s H scope (compEnvC scope cl C X.env) fp) tg g)
    (he : ∀ (s : Shared) (H : Hp) (C : Addr) (cl : List (PySem.Str × Addr)) (fp : List Addr), PE (X.blk s H scope (compEnvC scope cl C X.env) fp) elt te) (hs : ∀ x, foldedSetIterable iter X.env x = pure x)
    (h : tKSc X.K X.prog X.w wi g te (own.map (·.2)) σ H Q)
    (hRR : ∀ D C s' m H', Inv X pins σ H' s' → Q (.ref D) H' → s'.heap.Ns C m → FpOk X pins H' C → compPost (model X.prog X.w) X.A X.xe use Qf (.ref D) C (.ok .next) s') :
    wpAny (model X.prog X.w) X.A (comprehension (.SetComp elt [⟨tg, iter, [], 0⟩] scope pos) scope X.env pos' (newSet (.type "set")) false (eval iter X.env) use) Qf X.xe s := by
  have free : ∀ y ∈ scope.names, y.2 = .free → ∃ c, X.env.cells.lookup y.1 = some c := fun y hy e => (ok.free y hy e).elim (fun k => I.ok.has _ (.inl k)) (fun k => I.ok.has _ (.inr k))
  refine wpAny_comprehension_free (use := use) rfl hs (closure_ok free) ok.kind (fun y hy e => by rw [ok.uniq y hy, e])
    (thn (hi.run pins s σ H _ I h) fun xv s1 hx => thn hx fun itv s2 h2 => ?_)
  obtain ⟨it, fp, tn, J, H2, rfl, I2, T, st2, f2, q⟩ := h2
  refine newSet_ok (newEnv_comp ?_)
  generalize hD : s2.heap.objs.size = D
  obtain ⟨W, ⟨m0, w0⟩, turn⟩ := q D (I2.hok.fresh (Nat.le_of_eq hD))
  generalize hs3 : ({ s2 with heap := s2.heap.push { cls := .type "set", dict := none, data := .set #[] 0 (.fresh 0 0 (!X.w.params.followText "set-order")) } } : Shared) = s3
  have h3 : s3.heap = s2.heap.push { cls := .type "set", dict := none, data := .set #[] 0 (.fresh 0 0 (!X.w.params.followText "set-order")) } := by rw [← hs3]
  have I3 : Inv X pins σ (upd H2 D (KSetO X.prog X.w D [])) s3 := by
    rw [← hs3, ← hD]
    exact I2.laid (t' := s2.toks) (fun b o e => Heap.get?_push_of_some _ e) (Nat.le_refl _) (kset_new (kset_fresh (Heap.get?_push_size _ rfl)))
  have kp3 : ∀ b ∈ fp, ∀ o, s2.heap.get? b = some o → s3.heap.get? b = some o := fun b _ o e => by rw [h3]; exact Heap.get?_push_of_some _ e
  have st3 : tn 0 s3.heap := T.keep _ _ _ st2 kp3
  have f3 : ∀ b ∈ fp, FpOk X pins (upd H2 D (KSetO X.prog X.w D [])) b ∧ b < s3.heap.objs.size := fun b hb => by
    obtain ⟨o, e, _⟩ := T.obj _ _ st2 b hb
    have lt : b < s2.heap.objs.size := Heap.lt_size e
    exact ⟨⟨by rw [upd_ne (by rw [← hD]; exact Nat.ne_of_lt lt)]; exact (f2 b hb).1, (f2 b hb).2⟩, by rw [h3, Heap.size_push]; exact Nat.lt_succ_of_lt lt⟩
  have I4 := block_start I3 ok hN f3
  have pg := hg s3 (upd H2 D (KSetO X.prog X.w D [])) s3.heap.objs.size (cellsFrom (s3.heap.objs.size + 1) scope.names (cloFrom X.env.cells scope.names [])) fp
  have pe := he s3 (upd H2 D (KSetO X.prog X.w D [])) s3.heap.objs.size (cellsFrom (s3.heap.objs.size + 1) scope.names (cloFrom X.env.cells scope.names [])) fp
  show codeAny _ _ (.compStart (.SetComp elt [⟨tg, iter, [], 0⟩] scope pos) 0 (.ref it) (.ref D) (compEnvC scope (cellsFrom (s3.heap.objs.size + 1) scope.names (cloFrom X.env.cells scope.names [])) s3.heap.objs.size X.env)) (compPost (model X.prog X.w) X.A X.xe use Qf (.ref D) s3.heap.objs.size) { s3 with heap := pushCells (s3.heap.push { cls := .type "dict", data := .dict #[] }) scope.names }
  generalize hce : compEnvC scope (cellsFrom (s3.heap.objs.size + 1) scope.names (cloFrom X.env.cells scope.names [])) s3.heap.objs.size X.env = ce at I4 pg pe ⊢
  have cL : ce.locals = s3.heap.objs.size := by subst hce; rfl
  have nfp : ∀ b ∈ fp, (upd H2 D (KSetO X.prog X.w D [])) b = none := fun b hb => (f3 b hb).1.1
  generalize upd H2 D (KSetO X.prog X.w D []) = H3 at I3 I4 pg pe w0 nfp f3
  generalize hs4 : ({ s3 with heap := pushCells (s3.heap.push { cls := .type "dict", data := .dict #[] }) scope.names } : Shared) = s4 at I4 ⊢
  have st4 : tn 0 s4.heap := T.keep _ _ _ st3 fun b _ o e => by rw [← hs4]; exact pushCells_keeps _ _ _ _ (Heap.get?_push_of_some _ e)
  have foot : ∀ {σ' : L2.St} {H' : Hp} {s' : Shared}, Inv (X.blk s3 H3 scope ce fp) [] σ' H' s' → (∀ b ∈ fp, H' b = none) → ∀ b ∈ fp, FpOk (X.blk s3 H3 scope ce fp) [] H' b := fun {σ' H' s'} I' hn b hb =>
    ⟨hn b hb, (I'.ok.exf b hb).1, I'.ok.exfs b hb, .inl hb, fun x c e => (I'.ok.exf b hb).2 x c e, fun p hp => absurd (show p ∈ ([] : List (Addr × Obj)) ++ [] from hp) (by simp)⟩
  have loop : codeAny (model X.prog X.w) X.A (.compLoop (.SetComp elt [⟨tg, iter, [], 0⟩] scope pos) 0 (.ref it) (.ref D) ce) (compPost (model X.prog X.w) X.A X.xe use Qf (.ref D) s3.heap.objs.size) s4 := by
    refine compLoopS_any (fun n s' => ∃ i H', Inv (X.blk s3 H3 scope ce fp) [] (wipe σ (own.map (·.2))) H' s' ∧ tn i s'.heap ∧ (∀ b ∈ fp, H' b = none) ∧ W i n H') ?_ m0 ⟨0, H3, I4, st4, nfp, w0⟩
    rintro n s5 ⟨i, H5, I5, st5, n5, w5⟩
    rcases turn i n H5 w5 with ⟨stop, qq⟩ | ⟨go, Nx, hNx, step⟩
    · refine thnF (T.done (X.blk s3 H3 scope ce fp) rfl rfl rfl hc i [] s5 _ H5 (fun _ _ => False) I5 (foot I5 n5) st5 stop) fun r s6 ⟨hr, I6⟩ => ?_
      subst hr
      have I7 : Inv X pins σ H5 s6 := I3.call' (ch := fp) I6.os I6.base I6.hok I6.bare fun b hb => ⟨(f3 b hb).1.2.2.2.1, (f3 b hb).1.2.1, (f3 b hb).1.2.2.2.2.1, (f3 b hb).1.2.2.2.2.2⟩
      have nC : H5 s3.heap.objs.size = none := cL ▸ (I6.free : H5 ce.locals = none)
      obtain ⟨m, hn, _⟩ := I6.loc
      exact hRR D s3.heap.objs.size s6 m H5 I7 qq (cL ▸ (hn : s6.heap.Ns ce.locals m)) (I3.fpOk (Nat.le_refl _) nC)
    · refine thnF (T.item (X.blk s3 H3 scope ce fp) rfl rfl rfl hc i [] s5 _ H5 (fun _ _ => False) I5 (foot I5 n5) st5 go) fun r s6 ⟨u, hr, h6⟩ => ?_
      subst hr
      refine thnF h6 fun _ s7 ⟨x, H7, I7, r7, y7, st7, n7⟩ => ?_
      refine thnF (pg.run _ s7 _ H7 x u _ (I7.pinned (foot I7 n7) (T.obj _ _ st7)) r7 (step x H7 y7)) fun _ s8 ⟨σ8, H8, I8, hw8, q8⟩ => ?_
      have fin : ∀ {s' : Shared} {H' : Hp}, Inv (X.blk s3 H3 scope ce fp) ([] ++ pinsAt fp s7.heap) σ8 H' s' → Nx H' → ∃ m, m < n ∧ ∃ i H', Inv (X.blk s3 H3 scope ce fp) [] (wipe σ (own.map (·.2))) H' s' ∧ tn i s'.heap ∧ (∀ b ∈ fp, H' b = none) ∧ W i m H' := fun {s' H'} I' nx => by
        obtain ⟨m', hm, w'⟩ := hNx H' nx
        have pin' : ∀ b ∈ fp, ∀ o, s7.heap.get? b = some o → s'.heap.get? b = some o ∧ H' b = none := fun b hb o e =>
          let z := I'.pin (b, o) (List.mem_append_right _ (List.mem_append_right _ (mem_pinsAt hb e)))
          ⟨z.1, z.2.1⟩
        refine ⟨m', hm, i + 1, H', (I'.unpinned (pins := [])).weak (by rw [← hw8, wipe_length]) (fun j v e => ?_), T.keep _ _ _ st7 fun b hb o e => (pin' b hb o e).1, fun b hb => ?_, w'⟩
        · rw [← hw8] at e
          exact (wipe_some e).1
        · obtain ⟨o, e, _⟩ := T.obj _ _ st7 b hb
          exact (pin' b hb o e).2
      show wpAny _ _ (pure true) _ _ s8
      refine wpAny_pure ?_
      simp only [if_true]
      refine thnF (pe.run _ s8 σ8 H8 _ I8 q8) fun z s10 ⟨yv, H10, I10, r10, b, ey, ad⟩ => ?_
      subst ey
      cases (show z = Value.ref b from r10)
      exact kadd (X := X.blk s3 H3 scope ce fp) hu I10 ad fun H' s' I' nx => fin I' nx
  exact codeAny_compStart_set loop (T.self X.A 0 _ _ _ st4 loop)
/-- as a value -/
theorem pe_ksc {elt tg iter : Expr} {scope : Scope} {own : List (PySem.Str × Nat)} {pos : Pos} {wi : TI} {g : TG} {te : TE} (hu : X.A.units + 64 < cLine) (hc : X.calm = true) (hN : X.N.Nodup) (hi : PI X tg iter wi) (ok : BlkOk X.N X.env.scope scope own)
    (hg : ∀ (s : Shared) (H : Hp) (C : Addr) (cl : List (PySem.Str × Addr)) (fp : List Addr), PG (X.blk s H scope (compEnvC scope cl C X.env) fp) tg g)
    (he : ∀ (s : Shared) (H : Hp) (C : Addr) (cl : List (PySem.Str × Addr)) (fp : List Addr), PE (X.blk s H scope (compEnvC scope cl C X.env) fp) elt te) (hs : ∀ x, foldedSetIterable iter X.env x = pure x := by intro _; rfl) :
    PE X (.SetComp elt [⟨tg, iter, [], 0⟩] scope pos) (tKSc X.K X.prog X.w wi g te (own.map (·.2))) := by
  refine ⟨fun pins s σ H Q I h => ?_⟩
  rw [eval_SetComp]
  refine ksc_core hu hc hN I hi ok hg he hs h fun D C s' m H' I' q hn f => ⟨m, hn, fun h'' sb => ?_⟩
  obtain ⟨f0, f1, f2, f3, f4, f5⟩ := f
  exact ⟨.ref D, H', I'.turned (t' := s'.toks) (fun b o hb e => (sb.2 b hb).trans e) f0 f1 f3 f4 f5, rfl, q⟩
/-- y = {e for x in xs} -/
theorem ps_setKsc {i : Nat} {y : PySem.Str} {py : Pos} {elt tg iter : Expr} {scope : Scope} {own : List (PySem.Str × Nat)} {pos spos : Pos} {wi : TI} {g : TG} {te : TE} (hu : X.A.units + 64 < cLine) (hc : X.calm = true) (hN : X.N.Nodup) (hy : X.N[i]? = some y) (hyl : X.env.scope.names.lookup y = some .local)
    (hsw : swapsWith (.SetComp elt [⟨tg, iter, [], 0⟩] scope pos) (some (.Name y py)) spos.line X.env = pure true) (hi : PI X tg iter wi) (ok : BlkOk X.N X.env.scope scope own)
    (hg : ∀ (s : Shared) (H : Hp) (C : Addr) (cl : List (PySem.Str × Addr)) (fp : List Addr), PG (X.blk s H scope (compEnvC scope cl C X.env) fp) tg g)
    (he : ∀ (s : Shared) (H : Hp) (C : Addr) (cl : List (PySem.Str × Addr)) (fp : List Addr), PE (X.blk s H scope (compEnvC scope cl C X.env) fp) elt te) (hs : ∀ x, foldedSetIterable iter X.env x = pure x := by intro _; rfl) :
    PS X (.Assign [.Name y py] (.SetComp elt [⟨tg, iter, [], 0⟩] scope pos) spos) (tAsg (tKSc X.K X.prog X.w wi g te (own.map (·.2))) (gName i)) := by
  refine ⟨fun pins s σ H D I h => ?_⟩
  rw [exec_Assign_Name_used _ _ _ _ hsw]
  refine wpAny_bind (wpAny_standAt (wpAny_bind ?_))
  show wpAny _ X.A (do let _ ← comprehension (.SetComp elt [⟨tg, iter, [], 0⟩] scope pos) scope X.env (firstIterPos [⟨tg, iter, [], 0⟩] pos) (newSet (.type "set")) false (eval iter X.env) (some (assign (.Name y py) X.env))) _ _ s
  have q : tKSc X.K X.prog X.w wi g te (own.map (·.2)) σ H (fun x H1 => gName i x σ H1 D.nx) := h
  refine wpAny_bind (thn (ksc_core (Qf := fun _ s' => SP X pins D .next s') hu hc hN I hi ok hg he hs q fun L C s' m H' I' q hn f => ?_) fun _ s' hq => wpAny_pure (wpAny_pure hq))
  show wpAny _ _ (assign (.Name y py) X.env (.ref L)) _ _ _
  refine wpAny_assign_Name (store_ok2 (v := V.ref L) I' hN hy (.inl hyl) rfl (fun s2 I2 ⟨a, sb, ha⟩ => ?_) (.inr hyl))
  obtain ⟨f0, f1, f2, f3, f4, f5⟩ := f
  have ne : C ≠ a := ha.elim (fun z => z ▸ f1) (fun z e => f4 y a z e.symm)
  exact ⟨m, hn.sameBut sb ne, fun h3 sb3 => ⟨_, H', I2.turned (t' := s2.toks) (fun b o hb e => (sb3.2 b hb).trans e) f0 f1 f3 f4 f5, q⟩⟩
theorem sw_setc {elt : Expr} {gs : List Comprehension} {scope : Scope} {pos py : Pos} {y : PySem.Str} {l : Nat} {env : Env} (hk : env.scope.kind = .function) (hy : env.scope.names.lookup y = some .local) (hl : (py.line == pos.line) = true)
    (ha : (scope.names.any fun (n, k) => n == y && (k == .local || k == .cell)) = false) : swapsWith (.SetComp elt gs scope pos) (some (.Name y py)) l env = pure true := by
  have ky : env.kindOf y = some .local := hy
  have hb : env.blockKind = .function := by unfold Env.blockKind; rw [hk]; rfl
  unfold swapsWith
  simp only [hb, ky, ha, Expr.pos, hl]
  rfl
end
end Ct

set_option Elab.async false
set_option linter.all false
set_option maxRecDepth 100000
set_option maxHeartbeats 4000000
/-! Own kit K: set(xs) of any number of texts and ints, its len. -/
namespace Ct
open PySem PySem.Spec PyProof.Rows L2
/-- how many of the first i are new -/
def cnt (ks : List Key) : Nat → Nat
  | 0 => 0
  | i + 1 => cnt ks i + (if (ks.take i).any (fun j => decide (j = ks.getD i (.inl 0))) = true then 0 else 1)
theorem cnt_le (ks : List Key) : ∀ i, cnt ks i ≤ i
  | 0 => Nat.le_refl _
  | i + 1 => by
    have := cnt_le ks i
    unfold cnt
    split <;> omega
theorem any_mem {ks : List Key} {k : Key} : ks.any (fun j => decide (j = k)) = true ↔ k ∈ ks := by
  rw [List.any_eq_true]
  exact ⟨fun ⟨j, hj, e⟩ => (of_decide_eq_true e) ▸ hj, fun h => ⟨k, h, decide_eq_true rfl⟩⟩
theorem take_next' {ks : List Key} {i : Nat} (h : i < ks.length) : ks.take (i + 1) = ks.take i ++ [ks.getD i (.inl 0)] := by
  rw [List.take_succ, List.getElem?_eq_getElem h, List.getD_eq_getElem?_getD, List.getElem?_eq_getElem h]; rfl
theorem cnt_eq (ks : List Key) : ∀ i, i ≤ ks.length → (cnt ks i = i ↔ (ks.take i).Nodup)
  | 0, _ => by simp [cnt]
  | i + 1, hi => by
    have ih := cnt_eq ks i (Nat.le_of_lt hi)
    have le := cnt_le ks i
    rw [take_next' hi, List.nodup_append]
    unfold cnt
    by_cases c : ks.getD i (.inl 0) ∈ ks.take i
    · rw [if_pos (any_mem.mpr c)]
      exact ⟨fun z => by omega, fun z => absurd rfl (z.2.2 _ c _ (List.mem_singleton.mpr rfl))⟩
    · rw [if_neg (fun z => c (any_mem.mp z))]
      constructor
      · intro z
        refine ⟨ih.mp (by omega), List.nodup_cons.mpr ⟨by simp, List.nodup_nil⟩, fun a ha b hb e => ?_⟩
        rw [List.mem_singleton.mp hb] at e
        exact c (e ▸ ha)
      · intro z
        have := ih.mpr z.1
        omega
section
variable {prog : Program} {w : World} {A : Around} {R : Result → Shared → Prop} {I : Addr} {fp wr : List Addr} {G : Array GenState → Array GenState → Prop} {n : Nat} {P : Nat → Value → Prop} {St : Nat → Shared → Prop}
theorem set_turns (W : WalksS prog w A.in1 I fp wr G n P St) (S : Addr) (hS : S ∉ fp) (ks : List Key) (hn : ks.length = n) (hb : n < scanBound) (hv : ∀ i v, P i v → (mixKind prog w).is (ks.getD i (.inl 0)) v = true) :
    ∀ (j i : Nat) (s : Shared), n - i = j → i ≤ n → St i s → s.heap.SetOf (mixKind prog w) S (fun k => (ks.take i).any (fun j => decide (j = k))) (cnt ks i) →
      (∀ s', Moved (S :: wr) G s s' → s'.heap.SetOf (mixKind prog w) S (fun k => (ks.take n).any (fun j => decide (j = k))) (cnt ks n) → R (.ok (.ret .none)) s') →
      codeAny (model prog w) A (.builtin "set.update.loop" ⟨[.ref S, .ref I], []⟩) R s := by
  have hSw : S ∉ wr := fun h => hS (W.sub _ h)
  have sub : ∀ b ∈ wr, b ∈ S :: wr := fun b h => List.mem_cons_of_mem _ h
  intro j
  induction j with
  | zero =>
    intro i s hj hi st h0 q
    obtain rfl : i = n := by omega
    refine codeAny_builtin F.entry_set_update_loop ?_
    rw [Around.under_plainId F.plain_set_update_loop _]
    show wpAny _ A.in1 (pyNext (.ref I) >>= _) _ _ s
    refine wpAny_bind (W.done s _ _ st fun s' hm => ?_)
    show wpAny _ A.in1 (ret Value.none) _ _ s'
    exact wpAny_pure (q s' (hm.mono sub) (setOf_at h0 fun o e => hm.heap S o hSw e))
  | succ j ih =>
    intro i s hj hi st h0 q
    have lt : i < n := by omega
    refine codeAny_builtin F.entry_set_update_loop ?_
    rw [Around.under_plainId F.plain_set_update_loop _]
    show wpAny _ A.in1 (pyNext (.ref I) >>= _) _ _ s
    refine wpAny_bind (W.item i s _ _ lt st fun v s' hP st' hm => ?_)
    have kv := hv i v hP
    have sc : v.scannable = true := key_scan' kv
    have h1 := setOf_at h0 fun o e => hm.heap S o hSw e
    show wpAny _ A.in1 (holding [v] (setAdd S v) >>= _) _ _ s'
    refine wpAny_bind (wpAny_holding ?_)
    unfold setAdd
    refine wpAny_holding ?_
    refine wpAny_bind ((mixKind prog w).pyHash kv ?_)
    have room : cnt ks i + 1 < scanBound := by have := cnt_le ks i; omega
    refine wpAny_setAddHashed_of (knd := mixKind prog w) (s := { s' with toks := s'.toks + 1 }) kv sc h1 room fun h' sb h2 => ?_
    have h3 : h'.SetOf (mixKind prog w) S (fun k => (ks.take (i + 1)).any (fun j => decide (j = k))) (cnt ks (i + 1)) := by
      have e1 : (fun k => (ks.take (i + 1)).any (fun j => decide (j = k))) = fun k => (ks.take i).any (fun j => decide (j = k)) || decide (k = ks.getD i (.inl 0)) := by
        funext k
        rw [take_next' (by omega), List.any_append]
        congr 1
        simp only [List.any_cons, List.any_nil, Bool.or_false]
        exact decide_eq_decide.mpr eq_comm
      have e2 : cnt ks (i + 1) = if (ks.take i).any (fun j => decide (j = ks.getD i (.inl 0))) = true then cnt ks i else cnt ks i + 1 := by
        show cnt ks i + _ = _
        split <;> rfl
      rw [e1, e2]
      exact h2
    refine wpAny_pure ⟨plainId_quiet F.plain_set_update_loop _, ih (i + 1) _ (by omega) lt (W.frame _ s' _ _ st' (Nat.le_succ _) fun b hb o e => ?_) h3 fun s'' hm2 h4 => ?_⟩
    · rw [sb.2 b (fun h : b = S => hS (h ▸ hb))]; exact e
    · refine q s'' (Moved.trans W.gtrans ((hm.mono sub).then_heap (Nat.le_succ _) fun b o hb e => ?_) hm2) h4
      rw [sb.2 b (fun h : b = S => hb (h ▸ List.mem_cons_self))]; exact e
end
/-- what is asked of the walked thing: its type, what its iterator is -/
structure Walked (prog : Program) (w : World) (A : Around) (T : String) (IT : String) (ob : Obj) (l : Addr) (items : Array Value) : Prop where
  cls : ob.cls = .type T
  s1 : isSubtype (.type T) (.type "set") = pure false
  s2 : isSubtype (.type T) (.type "frozenset") = pure false
  nd : (Value.type T == Value.type "dict") = false
  iter : ∀ (A : Around) (E : Value → Shared → Prop) (s : Shared) (Q : Value → Shared → Prop), s.heap.get? l = some ob → Q (.ref s.heap.objs.size) { s with heap := s.heap.push { cls := .type IT, data := .fields #[.ref l, .int 0 0] } } → wpAny (model prog w) A (pyIter (.ref l)) Q E s
  walk : ∀ (A : Around), A.handled = none → ∀ it, l ≠ it → ∃ St : Nat → Heap → Prop, Walks prog w A it [it, l] [it] items.size (fun i v => items[i]? = some v) St ∧ ∀ h, h.get? l = some ob → h.get? it = some { cls := .type IT, data := .fields #[.ref l, .int 0 0] } → St 0 h
section
variable {prog : Program} {w : World} {A : Around} {E : Value → Shared → Prop} {s : Shared}
theorem set_call {T IT : String} {ob : Obj} {l : Addr} {items : Array Value} {ks : List Key} {Q : Value → Shared → Prop} (hh : A.handled = none) (Wk : Walked prog w A T IT ob l items) (hl : s.heap.get? l = some ob) (hn : ks.length = items.size) (hb : items.size < scanBound)
    (hv : ∀ i v, items[i]? = some v → (mixKind prog w).is (ks.getD i (.inl 0)) v = true)
    (h : ∀ (h' : Heap) (tk : Nat), h'.SetOf (mixKind prog w) s.heap.objs.size (fun k => ks.any (fun j => decide (j = k))) (cnt ks ks.length) →
      (∀ b o, b < s.heap.objs.size → s.heap.get? b = some o → h'.get? b = some o) → Q (.ref s.heap.objs.size) { s with heap := h', toks := tk }) :
    wpAny (model prog w) A (call (.type "set") [.ref l]) Q E s := by
  obtain ⟨c, tl, hmro⟩ := PySem.F.called_set.mro
  have hmade := PySem.F.called_set.made
  have hsub := PySem.F.called_set.sub
  refine wpAny_call (codeAny_of_tree ?_)
  show wpAny _ _ (callAny (.type "set") _) _ _ _
  refine wpAny_pure ⟨Code.quiet_builtin _ (by decide +kernel), codeAny_builtin PySem.F.entry_type_call ?_⟩
  rw [Around.under_plain (weight_type_call_type "set" [.ref l] []) rfl]
  have h1 := PySem.F.called_set.notType
  have h2 := PySem.F.called_set.canCreate
  have hct := PySem.F.typeCall_set_1 (.ref l)
  repeat (any_goals (first | assumption | wp_step))
  refine codeAny_mono (code_set_new_1 (.ref l) (E := E) (Q₁ := fun obj s₁ => ∃ led : Bool, obj = .ref s.heap.objs.size ∧ s₁ = { s with heap := s.heap.push { cls := .type "set", dict := none, data := .set #[] 0 (.fresh 0 0 led) } }) fun led => ⟨led, rfl, rfl⟩) fun r s₁ hr => ?_
  match r, hr with
  | .error e, hr => exact hr
  | .ok .next, hr => exact hr.elim
  | .ok .brk, hr => exact hr.elim
  | .ok .cont, hr => exact hr.elim
  | .ok (.ret obj), hr =>
    obtain ⟨led, rfl, rfl⟩ := hr
    have hS : (s.heap.push { cls := .type "set", dict := none, data := .set #[] 0 (.fresh 0 0 led) }).get? s.heap.objs.size = some { cls := .type "set", dict := none, data := .set #[] 0 (.fresh 0 0 led) } := Heap.get?_push_size _ rfl
    have hT : Shared.TypeIs { s with heap := s.heap.push { cls := .type "set", dict := none, data := .set #[] 0 (.fresh 0 0 led) } } (.ref s.heap.objs.size) "set" := ⟨_, hS, rfl⟩
    have hli := PySem.F.called_set.init.lookup
    have hbi := PySem.F.called_set.init.bind (.ref s.heap.objs.size)
    repeat (any_goals (first | assumption | wp_step))
    refine codeAny_mono (codeAny_call_builtin (R := wants (fun r s₂ => r = .none ∧ ∃ h' tk, s₂ = { s with heap := h', toks := tk } ∧
        h'.SetOf (mixKind prog w) s.heap.objs.size (fun k => ks.any (fun j => decide (j = k))) (cnt ks ks.length) ∧
        (∀ b o, b < s.heap.objs.size → s.heap.get? b = some o → h'.get? b = some o)) E) PySem.F.called_set.init.plain PySem.F.entry_set_init (check_set_init_1 hT ?_)) fun r₂ s₂ hr₂ => ?_
    · have hl1 : (s.heap.push { cls := .type "set", dict := none, data := .set #[] 0 (.fresh 0 0 led) }).get? l = some ob := Heap.get?_push_of_some _ hl
      have it := Wk.iter
      have wk := Wk.walk
      obtain ⟨ocls, odict, odata, oslots⟩ := ob
      have hcl := Wk.cls
      dsimp only at hcl
      subst hcl
      have hsls := Wk.s1
      have hslf := Wk.s2
      have hne := Wk.nd
      unfold Builtin.«set.__init__» noKeywords Builtin.Frozenset.updateFrom
      generalize hPI : pyIter = PI
      wp_walk
      subst hPI
      refine it _ _ _ _ hl1 ?_
      refine wpAny_bind (wpAny_runValue ?_)
      have hlS : l < s.heap.objs.size := Heap.lt_size hl
      have hneI : l ≠ (s.heap.push { cls := .type "set", dict := none, data := .set #[] 0 (.fresh 0 0 led) }).objs.size := by
        rw [Heap.size_push]; exact Nat.ne_of_lt (Nat.lt_succ_of_lt hlS)
      have hSf : s.heap.objs.size ∉ [(s.heap.push { cls := .type "set", dict := none, data := .set #[] 0 (.fresh 0 0 led) }).objs.size, l] := by
        rw [Heap.size_push]; simp only [List.mem_cons, List.not_mem_nil, or_false, not_or]
        exact ⟨Nat.ne_of_lt (Nat.lt_succ_self _), Nat.ne_of_gt hlS⟩
      obtain ⟨St, W, st0⟩ := wk A.in1.in1.in1 (by simp [hh]) _ hneI
      refine set_turns W.toS s.heap.objs.size hSf ks hn hb hv (items.size - 0) 0 _ rfl (Nat.zero_le _) (st0 _ (Heap.get?_push_of_some _ hl1) (Heap.get?_push_size _ rfl)) ?_ ?_
      · exact ⟨_, #[], 0, _, Heap.get?_push_of_some _ hS, ⟨rfl, rfl, rfl⟩, rfl, (fun e he => by simp at he), (fun k => by simp), (by decide), (by rfl), rfl⟩
      · intro s' hm hS'
        obtain ⟨h', g', d', tk', os'⟩ := s'
        have eg : g' = s.gens := hm.gens
        have ed : d' = s.drawn := hm.drawn
        have eo : os' = s.os := hm.os
        subst eg; subst ed; subst eo
        show wpAny _ _ _ _ _ _
        refine wpAny_pure ?_
        show wpAny _ _ (ret Value.none) _ _ _
        rw [← hn, List.take_length] at hS'
        refine wpAny_pure ⟨rfl, h', tk', rfl, hS', fun b o hb e => ?_⟩
        refine hm.heap b o ?_ (Heap.get?_push_of_some _ (Heap.get?_push_of_some _ e))
        simp only [List.mem_cons, List.not_mem_nil, or_false, not_or, Heap.size_push]
        exact ⟨Nat.ne_of_lt hb, Nat.ne_of_lt (Nat.lt_succ_of_lt hb)⟩
    · match r₂, hr₂ with
      | .error e, hr₂ => exact hr₂
      | .ok .next, hr₂ => exact hr₂.elim
      | .ok .brk, hr₂ => exact hr₂.elim
      | .ok .cont, hr₂ => exact hr₂.elim
      | .ok (.ret r), hr₂ =>
        obtain ⟨rfl, h', tk, rfl, hS', hk'⟩ := hr₂
        repeat (any_goals (first | assumption | wp_step))
        exact h _ _ hS' hk'
theorem walked_list {ob : Obj} {l : Addr} {items : Array Value} {n : Nat} (hc : ob.cls = .type "list") (hd : ob.data = .seq items n) : Walked prog w A "list" "list_iterator" ob l items where
  cls := hc
  s1 := PySem.F.sub_list_set
  s2 := PySem.F.sub_list_frozenset
  nd := by decide
  iter := fun A E s Q ho q => wpAny_pyIter_list ⟨ob, ho, hc, n, hd⟩ q
  walk := fun A hh it ne => ⟨_, Walks.list hh it l ne items, fun h h1 h2 => ⟨⟨_, h2, rfl, rfl⟩, ⟨ob, h1, hc, n, hd⟩⟩⟩
theorem walked_tup {ob : Obj} {l : Addr} {items : Array Value} {n : Nat} (hc : ob.cls = .type "tuple") (hd : ob.data = .seq items n) : Walked prog w A "tuple" "tuple_iterator" ob l items where
  cls := hc
  s1 := PySem.F.sub_tuple_set
  s2 := PySem.F.sub_tuple_frozenset
  nd := by decide
  iter := fun A E s Q ho q => wpAny_pyIter_tuple ⟨ob, ho, hc, n, hd⟩ q
  walk := fun A hh it ne => ⟨_, Walks.tuple hh it l ne items, fun h h1 h2 => ⟨⟨_, h2, rfl, rfl⟩, ⟨ob, h1, hc, n, hd⟩⟩⟩
end
section
variable {X : Cx}
/-- set(xs), xs a list or tuple of ints and texts -/
def rSetOf (K : PySem.W.Frag) (P : Program) (w : World) : List V → Hp → VK → Prop := fun xs H Q => ∃ (a : Addr) (ks : List Key), xs = [.ref a] ∧ (SqL K H a (ks.map kV) ∨ SqT K H a (ks.map kV)) ∧ ks.length < scanBound ∧
  ∀ p, H p = none → Q (.ref p) (upd H p (SetK P w p (fun k => ks.any (fun j => decide (j = k))) (cnt ks ks.length)))
theorem keys_at {P : Program} {w : World} {ks : List Key} {its : List Value} (r : Vals (ks.map kV) its) : ∀ (i : Nat) (v : Value), its.toArray[i]? = some v → (mixKind P w).is (ks.getD i (.inl 0)) v = true := fun i v e => by
  have e : its[i]? = some v := by simpa using e
  have hi : i < ks.length := by
    have h1 := (List.getElem?_eq_some_iff.mp e).1
    have h2 := r.length
    rw [List.length_map] at h2
    omega
  obtain ⟨u, e2, rv⟩ := r.get (i := i) (x := kV ks[i]) (by rw [List.getElem?_map, List.getElem?_eq_getElem hi]; rfl)
  rw [e] at e2
  cases e2
  rw [List.getD_eq_getElem?_getD, List.getElem?_eq_getElem hi]
  exact kV_is rv
theorem call_setOf (hc : X.calm = true) : CallR X (.type "set") (rSetOf X.K X.prog X.w) := by
  intro pins s σ H xs us Q I r h
  obtain ⟨a, ks, rfl, ha, hb, q⟩ := h
  obtain ⟨u, rfl, ru⟩ := vals1 r
  cases (show u = Value.ref a from ru)
  have hh := I.ok.hd hc
  have fin : ∀ (h' : Heap) (tk : Nat), h'.SetOf (mixKind X.prog X.w) s.heap.objs.size (fun k => ks.any (fun j => decide (j = k))) (cnt ks ks.length) →
      (∀ b o, b < s.heap.objs.size → s.heap.get? b = some o → h'.get? b = some o) → EP X pins σ Q (.ref s.heap.objs.size) { s with heap := h', toks := tk } := fun h' tk hS kp =>
    ⟨.ref _, _, I.laid (t' := tk) (fun b o e => kp b o (Heap.lt_size e) e) (Nat.le_refl _) (setK_new hS), rfl, q _ (I.hok.fresh (Nat.le_refl _))⟩
  rcases ha with ha | ha
  · obtain ⟨its, rv, pl, hz⟩ := I.list ha
    obtain ⟨ob, ho, hcl, n, hd⟩ := pl.isList
    have hl := rv.length
    rw [List.length_map] at hl
    exact set_call hh (walked_list hcl hd) ho (by rw [List.size_toArray]; exact hl) (by rw [List.size_toArray, ← hl]; exact hb) (keys_at rv) fin
  · obtain ⟨its, rv, ⟨ob, ho, hcl, n, hd⟩, hz⟩ := I.tuple ha
    have hl := rv.length
    rw [List.length_map] at hl
    exact set_call hh (walked_tup hcl hd) ho (by rw [List.size_toArray]; exact hl) (by rw [List.size_toArray, ← hl]; exact hb) (keys_at rv) fin
/-- len(s) -/
def rLenK (P : Program) (w : World) : List V → Hp → VK → Prop := fun xs H Q => ∃ (a : Addr) (S : Key → Bool) (n : Nat), xs = [.ref a] ∧ H a = some (SetK P w a S n) ∧ Q (.int n) H
theorem call_lenK : CallR X (.builtin "len") (rLenK X.prog X.w) := by
  intro pins s σ H xs us Q I r h
  obtain ⟨a, S, n, rfl, ha, q⟩ := h
  obtain ⟨u, rfl, ru⟩ := vals1 r
  cases (show u = Value.ref a from ru)
  obtain ⟨o, es, ep, t, ho, hex, hd, _, _, hb, hf, hn⟩ := setK_get I ha
  refine call_len_set ho hex hd hf (by unfold scanBound at hb; omega) ⟨.int n, H, I.tok _, ⟨_, by rw [hn]⟩, q⟩
end
end Ct

set_option Elab.async false
set_option linter.all false
set_option maxRecDepth 100000
set_option maxHeartbeats 4000000
/-! Own kit L: sorted of lists and tuples of texts, and of pairs of texts, any length. -/
namespace Ct
open PySem PySem.Spec PySem.Calls PyProof.Rows L2
section
variable {prog : Program} {w : World} {A : Around} {E : Value → Shared → Prop} {s : Shared}
theorem collect_tuple {l : Addr} {vs : List Value} {Q : List Value → Shared → Prop} (hl : s.heap.IsTuple l vs.toArray) (hz : vs.length ≤ sizeLine)
    (h : Q vs { s with heap := (s.heap.push (seqObj "list" #[] 0)).update s.heap.objs.size (Obj.mapSeq (· ++ vs.toArray)) }) : wpAny (model prog w) A (collect (.ref l)) Q E s := by
  obtain ⟨o, ho, hc, n, hd⟩ := id hl
  unfold collect
  refine wpAny_bind (wpAny_runValue (codeAny_builtin entry_proto_collect' ?_))
  show wpAny _ _ (do again (.builtin "list.__iadd__" ⟨[← newList [], .ref l], []⟩)) _ _ s
  refine wpAny_bind (wpAny_newList (wpAny_pure ⟨Code.quiet_builtin _ (by decide +kernel), codeAny_builtin entry_list_iadd' ?_⟩))
  show wpAny _ _ (Builtin.List.listExtendWith (.ref s.heap.objs.size) (.ref l) (.ref s.heap.objs.size)) _ _ { s with heap := s.heap.push (seqObj "list" #[] 0) }
  unfold Builtin.List.listExtendWith
  have ho' : (s.heap.push (seqObj "list" #[] 0)).get? l = some o := Heap.get?_push_of_some _ ho
  have hn := Heap.get?_push_size (h := s.heap) (o := seqObj "list" #[] 0) rfl
  refine wpAny_bind (wpAny_typeOf (T := "tuple") ⟨o, ho', hc⟩ ?_)
  rw [if_pos (by rw [show (Value.type "tuple" == Value.type "tuple") = true from rfl, Bool.or_true])]
  refine wpAny_bind (listItems_at ho' hd ?_)
  refine wpAny_bind (listItems_at (xs := #[]) (n := 0) hn rfl ?_)
  rw [if_neg (by simp)]
  refine wpAny_bind (listUpdate_at (xs := #[]) (n := 0) hn rfl ?_ (Nat.zero_le _) (by show (#[] ++ vs.toArray).size ≤ sizeLine + 1; simp only [Array.size_append, List.size_toArray, List.length_nil]; omega))
  refine wpAny_pure ?_
  show wpAny (model prog w) A (do
      let o ← load s.heap.objs.size
      match o.data with
      | .seq xs _ => pure xs.toList
      | _ => unsupported "internal:collect") Q E { s with heap := (s.heap.push (seqObj "list" #[] 0)).update s.heap.objs.size (Obj.mapSeq (· ++ vs.toArray)) }
  refine wpAny_bind (wpAny_load (get?_update_seq hn _) ?_)
  show wpAny _ _ (pure ((#[] : Array Value) ++ vs.toArray).toList) Q E _
  rw [show ((#[] : Array Value) ++ vs.toArray).toList = vs by simp]
  exact wpAny_pure h
variable {β : Type} {vs : List Value} {bs : List β} {enc : β → PyData} {R : Value → β → Prop}
/-- sorted(t), t a tuple -/
theorem sorted_tup {l : Addr} {Q : Value → Shared → Prop} (hl : s.heap.IsTuple l vs.toArray) (e : W.EachIs R vs bs) (er : W.EachIs (fun v b => ∃ as, Reads s.heap v (enc b) as) vs bs) (hal : W.AllAlike (bs.map enc)) (hk : W.Sortable (bs.map enc)) (hL : bs.length ≤ sizeLine)
    (hu : ∀ b, b ∈ bs → A.units + 2 + (enc b).depth < cLine) (h : ∀ out, out.length = bs.length → W.EachIs R out (bs.mergeSort (W.dataLe false enc)) → Q (.ref (s.heap.objs.size + 1)) { s with heap := sortedAll s.heap vs (List.toArray out) }) :
    wpAny (model prog w) A (call (.builtin "sorted") [.ref l]) Q E s := by
  have er' : W.EachIs (fun v b => ∃ as, Reads (W.sortingHeap (W.copyHeap s.heap vs) (s.heap.objs.size + 1) vs) v (enc b) as) vs bs := er.mono fun _ _ ⟨as, r⟩ => ⟨as, PyProof.Rows.Reads.keeps (fun _ _ => W.sorting_copy_old) r⟩
  have hL' : vs.length ≤ sizeLine := by rw [e.length]; exact hL
  refine call_function_entry_kw kind_sorted plain_sorted entry_sorted (args_sorted1 _) ?_
  unfold Builtin.«sorted»
  refine wpAny_bind (m := checkCount "sorted" 1 1 _) (wpAny_pure ?_)
  refine wpAny_bind (collect_tuple hl hL' ?_)
  refine wpAny_bind (wpAny_newList ?_ hL')
  have hsz : ((s.heap.push (seqObj "list" #[] 0)).update s.heap.objs.size (Obj.mapSeq (· ++ vs.toArray))).objs.size = s.heap.objs.size + 1 := by
    rw [Heap.size_update, size_push']
  show wpAny _ _ _ _ _ { s with heap := W.copyHeap s.heap vs }
  rw [hsz]
  refine wpAny_bind (wpAny_holding (wpAny_call_entry_kw slot_list_sort ⟨_, W.copyHeap_at s.heap vs, rfl⟩ entry_list_sort ?_ (args_list_sort _)))
  refine wpAny_mono (W.list_sort_vals (s := { s with heap := W.copyHeap s.heap vs }) (W.copyHeap_at s.heap vs) (W.SortsAt.data (s := { s with heap := W.sortingHeap (W.copyHeap s.heap vs) (s.heap.objs.size + 1) vs }) (W.each_map (R := fun v d => ∃ as, Reads (W.sortingHeap (W.copyHeap s.heap vs) (s.heap.objs.size + 1) vs) v d as) enc er') hal hk (W.bound_map hu)) hL'
    (P := fun f s' => f = .done (.ret .none) ∧ Q (.ref (s.heap.objs.size + 1)) s') ⟨rfl, h _ (by rw [W.sortVals_length false rfl]; exact e.length) (W.sortVals_data false e er' hal)⟩) (fun f s' hf => ?_) fun _ _ e => e
  obtain ⟨rfl, hq⟩ := hf
  exact ⟨_, rfl, wpAny_pure ⟨_, rfl, hq⟩⟩
end
section
variable {X : Cx}
/-- an item: the value, what it is as a datum -/
abbrev It2 := V × PyData
theorem each_vals {h : Heap} {K : PySem.W.Frag} : ∀ {bs : List It2} {us : List Value}, Vals (bs.map (·.1)) us → W.EachIs (fun v b => RelV b.1 v) us bs
  | [], _, .nil => .nil
  | _ :: _, _, .cons r t => .cons r (each_vals (h := h) (K := K) t)
theorem vals_each : ∀ {bs : List It2} {us : List Value}, W.EachIs (fun v b => RelV b.1 v) us bs → Vals (bs.map (·.1)) us
  | _, _, .nil => .nil
  | _, _, .cons r t => .cons r (vals_each t)
theorem each_reads {pins : List (Addr × Obj)} {σ : L2.St} {H : Hp} {s : Shared} (I : Inv X pins σ H s) : ∀ {bs : List It2} {us : List Value}, Vals (bs.map (·.1)) us → (∀ b ∈ bs, Dp X.K H b.1 b.2) → W.EachIs (fun v (b : It2) => ∃ as, Reads s.heap v b.2 as) us bs
  | [], _, .nil, _ => .nil
  | b :: _, _, .cons r t, h => .cons (Dp.reads I b.2 b.1 _ (h b List.mem_cons_self) r) (each_reads I t fun c hc => h c (List.mem_cons_of_mem _ hc))
/-- sorted(xs) -/
def rSortD (K : PySem.W.Frag) : List V → Hp → VK → Prop := fun xs H Q => ∃ (a : Addr) (bs : List It2), xs = [.ref a] ∧ (SqL K H a (bs.map (·.1)) ∨ SqT K H a (bs.map (·.1))) ∧ (∀ b ∈ bs, Dp K H b.1 b.2) ∧ W.AllAlike (bs.map (·.2)) ∧ W.Sortable (bs.map (·.2)) ∧ (∀ b ∈ bs, b.2.depth ≤ 50) ∧
  ∀ p, H p = none → Q (.ref p) (upd H p (.lst ((bs.mergeSort (W.dataLe false (·.2))).map (·.1))))
theorem call_sortD (hu : X.A.units + 64 < cLine) : CallR X (.builtin "sorted") (rSortD X.K) := by
  intro pins s σ H xs us Q I r h
  obtain ⟨a, bs, rfl, ha, hb, al, so, dp, q⟩ := h
  obtain ⟨u, rfl, ru⟩ := vals1 r
  cases (show u = Value.ref a from ru)
  have hu2 : ∀ b, b ∈ bs → X.A.units + 2 + b.2.depth < cLine := fun b m => by have := dp b m; omega
  have fin : ∀ (its : List Value), its.length ≤ sizeLine → ∀ out : List Value, out.length = bs.length → W.EachIs (fun v (b : It2) => RelV b.1 v) out (bs.mergeSort (W.dataLe false (·.2))) → bs.length ≤ sizeLine →
      EP X pins σ Q (.ref (s.heap.objs.size + 1)) { s with heap := sortedAll s.heap its (List.toArray out) } := fun its hz out hl eo hbl => by
    obtain ⟨ep, he⟩ := sortedAll_at s.heap its out.toArray
    refine ⟨.ref _, upd H (s.heap.objs.size + 1) (.lst ((bs.mergeSort (W.dataLe false (·.2))).map (·.1))), I.laid (t' := s.toks) (fun _ _ => sortedAll_old) (Nat.le_succ _) ⟨?_, out, ep, vals_each eo, he⟩, rfl, q _ (I.hok.fresh (Nat.le_succ _))⟩
    rw [List.length_map, List.length_mergeSort]
    exact hbl
  rcases ha with ha | ha
  · obtain ⟨its, rv, pl, hz⟩ := I.list ha
    have hl := rv.length
    rw [List.length_map] at hl hz
    exact W.sorted_data pl.isList (each_vals (h := s.heap) (K := X.K) rv) (each_reads I rv hb) al so hz hu2 fun out h1 h2 => fin its (by omega) out h1 h2 hz
  · obtain ⟨its, rv, pl, hz⟩ := I.tuple ha
    have hl := rv.length
    rw [List.length_map] at hl hz
    exact sorted_tup (show s.heap.IsTuple a its.toArray from pl) (each_vals (h := s.heap) (K := X.K) rv) (each_reads I rv hb) al so hz hu2 fun out h1 h2 => fin its (by omega) out h1 h2 hz
end
/-- texts -/
def txs (xs : List Str) : List It2 := xs.map fun x => (.str x, .str x)
theorem txs_fst (xs : List Str) : (txs xs).map (·.1) = xs.map V.str := by unfold txs; rw [List.map_map]; rfl
theorem txs_snd (xs : List Str) : (txs xs).map (·.2) = xs.map PyData.str := by unfold txs; rw [List.map_map]; rfl
theorem txs_ok (xs : List Str) : W.AllAlike ((txs xs).map (·.2)) ∧ W.Sortable ((txs xs).map (·.2)) := by
  rw [txs_snd]
  exact ⟨W.AllAlike.of fun _ _ => by simp [W.alike], W.Sortable.others fun b => ⟨by simp, by simp⟩⟩
/-- pairs of texts, each at its place -/
def prs (ps : List (Addr × Str × Str)) : List It2 := ps.map fun p => (.ref p.1, .tuple [.str p.2.1, .str p.2.2])
theorem prs_fst (ps : List (Addr × Str × Str)) : (prs ps).map (·.1) = ps.map fun p => V.ref p.1 := by unfold prs; rw [List.map_map]; rfl
theorem prs_ok (ps : List (Addr × Str × Str)) : W.AllAlike ((prs ps).map (·.2)) ∧ W.Sortable ((prs ps).map (·.2)) := by
  unfold prs
  rw [List.map_map]
  exact ⟨W.AllAlike.of (enc := fun p : Addr × Str × Str => PyData.tuple [.str p.2.1, .str p.2.2]) fun _ _ => by simp [W.alike, W.alikeAll], W.Sortable.tuples (enc := fun p : Addr × Str × Str => PyData.tuple [.str p.2.1, .str p.2.2]) fun b => ⟨_, _, rfl⟩⟩
end Ct

set_option Elab.async false
set_option linter.all false
set_option maxRecDepth 100000
set_option maxHeartbeats 4000000
/-! Own kit M: enumerate over a tuple; walks over a list or a tuple; a datum among texts; types of data. -/
namespace Ct
open PySem PySem.Spec PyProof.Rows L2
theorem meets_enumT (l : Addr) (items : Array Value) (n : Nat) (dct : Option Addr) (sl : Array (Option Value)) :
    Meets (Builtin.«enumerate.__new__» ⟨[.type "enumerate", .ref l], []⟩) (fun _ R s => s.heap.get? l = some { cls := .type "tuple", dict := dct, data := .seq items n, slots := sl } ∧
      R (.ok (.ret (.ref (s.heap.push { cls := .type "tuple_iterator", data := .fields #[.ref l, .int 0 0] }).objs.size)))
        { s with heap := (s.heap.push { cls := .type "tuple_iterator", data := .fields #[.ref l, .int 0 0] }).push { cls := .type "enumerate", data := .fields #[.none, .bool false, .ref s.heap.objs.size, rawInt 0, .none, .none] } }) :=
  .of_wp fun prog w A R s h => by
    obtain ⟨hp, g, d, tk, os⟩ := s; obtain ⟨hl, h⟩ := h
    have hsub := sub_enumerate
    have hL : Heap.IsTuple (Shared.heap ⟨hp, g, d, tk, os⟩) l items := ⟨_, hl, rfl, n, rfl⟩
    wp_walk using AutoSeq1.wpAny_loadPart' hl
    refine wpAny_stack_any fun st => wpAny_pure ?_
    split
    · rename_i c _ _ _ _ _
      cases (c == Value.type "enumerate")
      · wp_walk using AutoSeq1.wpAny_loadPart' hl, wpAny_pyIter_tuple hL
        exact ⟨_, rfl, h⟩
      · wp_walk using AutoSeq1.wpAny_loadPart' hl, wpAny_pyIter_tuple hL
        exact ⟨_, rfl, h⟩
    · wp_walk using AutoSeq1.wpAny_loadPart' hl, wpAny_pyIter_tuple hL
      exact ⟨_, rfl, h⟩
section
variable {prog : Program} {w : World} {A : Around} {E : Value → Shared → Prop} {s : Shared}
theorem call_enumT {l : Addr} {items : Array Value} {Q : Value → Shared → Prop} (hL : s.heap.IsTuple l items)
    (h : ∀ h', IsEnum h' (s.heap.objs.size + 1) s.heap.objs.size 0 .none → h'.IsTupleIter s.heap.objs.size l 0 →
      (∀ b o, s.heap.get? b = some o → h'.get? b = some o) → Q (.ref (s.heap.objs.size + 1)) { s with heap := h' }) :
    wpAny (model prog w) A (call (.type "enumerate") [.ref l]) Q E s := by
  obtain ⟨⟨c, dct, dt, sl⟩, hl, hc, n, hd⟩ := hL
  replace hc : c = .type "tuple" := hc
  replace hd : dt = .seq items n := hd
  subst hc hd
  refine callType_new F.called_enumerate (by decide) (F.typeCall_enumerate_1 _) (F.newCall_enumerate_1 _) (fun obj => F.args_object_init_2 obj _) F.entry_enumerate_new
    (meets_enumT l items n dct sl) ⟨hl, ?_⟩
  have hz : (s.heap.push { cls := .type "tuple_iterator", data := .fields #[.ref l, .int 0 0] }).objs.size = s.heap.objs.size + 1 := Heap.size_push ..
  show _ ∧ _
  rw [hz]
  have he : IsEnum ((s.heap.push { cls := .type "tuple_iterator", data := .fields #[.ref l, .int 0 0] }).push
      { cls := .type "enumerate", data := .fields #[.none, .bool false, .ref s.heap.objs.size, rawInt 0, .none, .none] }) (s.heap.objs.size + 1) s.heap.objs.size 0 .none := by
    have := Heap.get?_push_size (s.heap.push { cls := .type "tuple_iterator", data := .fields #[.ref l, .int 0 0] })
      (o := { cls := .type "enumerate", data := .fields #[.none, .bool false, .ref s.heap.objs.size, rawInt 0, .none, .none] }) rfl
    rw [hz] at this; exact this
  exact ⟨⟨_, he, rfl⟩, h _ he ⟨_, Heap.get?_push_of_some _ (Heap.get?_push_size _ rfl), rfl, rfl⟩ fun b o x => Heap.get?_push_of_some _ (Heap.get?_push_of_some _ x)⟩
end
/-- the tuple at a, each item in a new pair with its number -/
def Iet (K : PySem.W.Frag) (a : Addr) : It :=
  ⟨fun i H => ∃ (xs : List V) (x : V), SqT K H a xs ∧ xs[i]? = some x, fun i H v H' => ∃ T x, v = .ref T ∧ H T = none ∧ H' = upd H T (.tup [.int (i : Nat), x]) ∧ ∀ xs, SqT K H a xs → xs[i]? = some x, fun i H => ∃ xs : List V, SqT K H a xs ∧ xs.length ≤ i⟩
theorem turn_enumT {P : Program} {w : World} {K : PySem.W.Frag} {elts : List Expr} {kk : Nat} {tpos : Pos} (a e it : Addr) :
    Turn P w K (.Tuple elts kk tpos) (Iet K a) [e, it] e (fun i h => (∃ old, IsEnum h e it ((i : Nat) : Int) old) ∧ h.IsTupleIter it a i ∧ e ≠ it) where
  mem := by simp
  obj := fun i h st b hb => by
    obtain ⟨⟨old, he⟩, ⟨o, ho, hc, hd⟩, _⟩ := st
    rcases (show b = e ∨ b = it by simpa using hb) with rfl | rfl
    · exact ⟨_, he, fun v q => nomatch q⟩
    · exact ⟨o, ho, fun v q => by rw [hd] at q; cases q⟩
  keep := fun i h h' st k => let ⟨⟨old, he⟩, hi, hne⟩ := st; ⟨⟨old, k e (by simp) _ he⟩, hi.at fun o q => k it (by simp) o q, hne⟩
  item := by
    intro X hP hw hK hc i pins s σ H E I hf st hg
    subst hP hw hK
    obtain ⟨⟨old, he⟩, hit, hne⟩ := st
    obtain ⟨xs, x, hq, hx⟩ := hg
    obtain ⟨its, rv, p, hz⟩ := I.tuple hq
    obtain ⟨u, hu, ru⟩ := rv.get hx
    have p : s.heap.IsTuple a its.toArray := p
    have hel : e < s.heap.objs.size := Heap.lt_size he
    have hil : it < s.heap.objs.size := by obtain ⟨_, q, _⟩ := hit; exact Heap.lt_size q
    have ait : a ≠ it := by
      rintro rfl
      obtain ⟨o1, h1, h2, _⟩ := p
      obtain ⟨o2, h3, h4, _⟩ := hit
      rw [h1] at h3
      cases h3
      rw [h2] at h4
      exact absurd h4 (by decide)
    have ae : e ≠ a := by
      rintro rfl
      obtain ⟨o1, h1, h2, _⟩ := p
      have he' := he
      unfold IsEnum at he'
      rw [h1] at he'
      cases he'
      exact absurd (show Value.type "enumerate" = Value.type "tuple" from h2) (by decide)
    have hlt : i < its.toArray.size := by
      have := (List.getElem?_eq_some_iff.mp hu).1
      simpa using this
    refine wpAny_pyNext_enum_itemD (PySem.Draws.tuple (by simpa using I.ok.hd hc) it a ait its.toArray) he ⟨hit, p⟩ hlt hne (by simp [hne, ae]) fun x2 h' tk hx2 ho hst' hT hsz hk => ?_
    have ex2 : x2 = u := by
      have z : its[i]? = some x2 := by simpa using hx2
      rw [hu] at z
      exact (Option.some.inj z).symm
    subst ex2
    refine ⟨_, rfl, wpAny_letOwnedTupleGo_enum (s := { s with heap := h', toks := tk + 1 }) ho fun h'' he' sb => ?_⟩
    have hT2 : h''.get? s.heap.objs.size = some { cls := .type "tuple", data := .seq #[.int i tk, x2] } := (sb.2 _ (Nat.ne_of_gt hel)).trans hT
    have new : ObjOk X.prog X.w (upd H s.heap.objs.size (.tup [.int (i : Nat), x])) h'' s.heap.objs.size (.tup [.int (i : Nat), x]) :=
      ⟨by show 2 ≤ sizeLine; decide, [.int i tk, x2], .cons ⟨_, rfl⟩ (.cons ru .nil), ⟨_, hT2, rfl, _, rfl⟩⟩
    have I1 : Inv X pins σ (upd H s.heap.objs.size (.tup [.int (i : Nat), x])) { s with heap := h'', toks := tk + 1 } :=
      I.turnedNew (ch := [e, it]) (fun b ob hb q => (sb.2 b (fun z => hb (by simp [z]))).trans (hk b ob (fun z => hb (by simp [z])) (fun z => hb (by simp [z])) q)) hf (Nat.le_refl _) new
    refine ⟨.ref s.heap.objs.size, _, I1, rfl, ⟨_, x, rfl, I.hok.fresh (Nat.le_refl _), rfl, fun ys hy => by rw [I.tuple_inj hy hq]; exact hx⟩, ⟨⟨x2, ?_⟩, hst'.1.at fun o q => (sb.2 it (Ne.symm hne)).trans q, hne⟩, fun b hb => ?_⟩
    · have e1 : ((i + 1 : Nat) : Int) = (i : Int) + 1 := by omega
      rw [e1]; exact he'
    · have hb' : b < s.heap.objs.size := by
        rcases (show b = e ∨ b = it by simpa using hb) with z | z
        · rw [z]; exact hel
        · rw [z]; exact hil
      rw [upd_ne (Nat.ne_of_lt hb')]
      exact (hf b hb).1
  done := by
    intro X hP hw hK hc i pins s σ H E I hf st hg
    subst hP hw hK
    obtain ⟨⟨old, he⟩, hit, hne⟩ := st
    obtain ⟨xs, hq, hx⟩ := hg
    obtain ⟨its, rv, p, hz⟩ := I.tuple hq
    have p : s.heap.IsTuple a its.toArray := p
    obtain ⟨f0, f1, f2, f3, f4, f5⟩ := hf it (by simp)
    have hl := rv.length
    have hnone : its.toArray[i]? = none := by simp; omega
    unfold pyNext
    refine wpAny_bind (wpAny_attempt (wpAny_callSpecial?_slot (name := Str.ofString "__next__") ⟨_, he, rfl⟩ F.slot_enumerate_next
      (wpAny_call_entry F.slot_enumerate_next ⟨_, he, rfl⟩ F.entry_enumerate_next ?_ (F.args_enumerate_next_1 _))))
    show wpAny _ _ (field (.ref e) 2 >>= _) _ _ _
    refine wpAny_bind (wpAny_field he rfl (x := .ref it) rfl ?_)
    refine wpAny_bind (PySem.wpAny_nextOf_tuple_end (by simpa using I.ok.hd hc) hit p hnone fun h' x he' hx' => ?_)
    obtain ⟨o, ho, hcc⟩ := hx'
    refine wpAny_bind (wpAny_isInstance (T := "StopIteration") (b := true) ⟨o, ho, hcc⟩ isSubtype_stop ?_)
    exact wpAny_pure ⟨rfl, I.turned (t' := s.toks) (fun b o hb q => he' b o hb q) f0 f1 f3 f4 f5⟩
  self := fun A i s Q E st h => let ⟨⟨_, he⟩, _⟩ := st; wpAny_pyIter_enum he h
section
variable {X : Cx}
/-- enumerate of a list or of a tuple -/
def iEnumS (K : PySem.W.Frag) (ta : TA) : TI := fun σ H R => ta σ H fun vs H1 => ∃ a xs, vs = [.ref a] ∧ ((SqL K H1 a xs ∧ R (Ite K a) H1) ∨ (SqT K H1 a xs ∧ R (Iet K a) H1))
theorem pi_enumS {e : Expr} {ta : TA} {p pos tpos : Pos} {elts : List Expr} {kk : Nat} (hg : Gl X "enumerate") (hm : X.mg "enumerate" = none) (ha : PA X [e] ta) (hs : starEach [e] X.env = [(false, eval e X.env)] := by rfl) :
    PI X (.Tuple elts kk tpos) (.Call (.Name "enumerate" p) [e] [] pos) (iEnumS X.K ta) := by
  refine ⟨fun pins s σ H R I h => ?_⟩
  refine Call_ (ld_blt I hg hm boot_enumerate (PyProof.Rows.callWith_type1 (thn (ha.run pos pins s σ H _ I h) fun us s1 ⟨vs, H1, I1, r1, q1⟩ => ?_) hs rfl))
  obtain ⟨a, xs, ex, hq⟩ := q1
  subst ex
  obtain ⟨u, rfl, ru⟩ := vals1 r1
  cases (show u = Value.ref a from ru)
  have feet : ∀ b ∈ [s1.heap.objs.size + 1, s1.heap.objs.size], FpOk X pins H1 b := fun b hb => by
    have hle : s1.heap.objs.size ≤ b := by
      rcases (show b = s1.heap.objs.size + 1 ∨ b = s1.heap.objs.size by simpa using hb) with z | z
      · rw [z]; exact Nat.le_add_right _ _
      · rw [z]; exact Nat.le_refl _
    exact I1.fpOk hle (I1.hok.fresh hle)
  rcases hq with ⟨hq, q⟩ | ⟨hq, q⟩
  · obtain ⟨its, rv, p', hz⟩ := I1.list hq
    refine call_enumerate_list p'.isList fun h' he hit hsz hk => wpAny_pyIter_enum he ?_
    exact ⟨s1.heap.objs.size + 1, [s1.heap.objs.size + 1, s1.heap.objs.size], _, _, H1, rfl, I1.kept (t' := s1.toks) hk, turn_enum a (s1.heap.objs.size + 1) s1.heap.objs.size, ⟨⟨.none, he⟩, hit, Nat.succ_ne_self _⟩, feet, q⟩
  · obtain ⟨its, rv, p', hz⟩ := I1.tuple hq
    refine call_enumT (show s1.heap.IsTuple a its.toArray from p') fun h' he hit hk => wpAny_pyIter_enum he ?_
    exact ⟨s1.heap.objs.size + 1, [s1.heap.objs.size + 1, s1.heap.objs.size], _, _, H1, rfl, I1.kept (t' := s1.toks) hk, turn_enumT a (s1.heap.objs.size + 1) s1.heap.objs.size, ⟨⟨.none, he⟩, hit, Nat.succ_ne_self _⟩, feet, q⟩
/-- a walk over a list or a tuple -/
def iSeq (K : PySem.W.Frag) (tl : TE) : TI := fun σ H R => iList K tl σ H R ∨ iTup K tl σ H R
theorem pi_seq {tg l : Expr} {tl : TE} (hl : PE X l tl) : PI X tg l (iSeq X.K tl) :=
  ⟨fun pins s σ H R I h => h.elim ((pi_list hl).run pins s σ H R I) ((pi_tup hl).run pins s σ H R I)⟩
end
open L2 in
theorem walk_enumT {K : PySem.W.Frag} {a : Addr} {xs : List V} : Walk (Iet K a) xs.length (fun H => SqT K H a xs) (YPair (fun i => some (.int (i : Nat))) (fun i => xs[i]?)) :=
  ⟨fun i _ hi q => ⟨xs, xs[i], q, by simp [hi]⟩, fun _ q => ⟨xs, q, Nat.le_refl _⟩, fun i H v H' hi q y => by
    obtain ⟨T, x, rfl, hT, rfl, hx⟩ := y
    exact ⟨T, _, x, rfl, hT, rfl, rfl, hx xs q⟩⟩
end Ct

set_option Elab.async false
set_option linter.all false
set_option maxRecDepth 100000
set_option maxHeartbeats 4000000
/-! Own kit N: a datum among texts; isinstance of data; lists or tuples alike. -/
namespace Ct
open PySem PySem.Spec PyProof.Rows L2
/-- a list or a tuple -/
def SqS (K : PySem.W.Frag) (H : Hp) (a : Addr) (xs : List V) : Prop := SqL K H a xs ∨ SqT K H a xs
theorem SqS.same {K : PySem.W.Frag} {H H' : Hp} {a : Addr} {xs : List V} (s : Same H H') : SqS K H a xs → SqS K H' a xs
  | .inl h => .inl (s.seq h)
  | .inr h => .inr (same_t s h)
theorem units65 {k : Nat} {A : Around} (r : Room k A) : A.units + 65 < cLine := by have := r.un; omega
/-- the datum is one of the texts -/
def amid (d : PyData) (ns : List Str) : Bool := match d with
  | .str x => ns.any fun y => y == x
  | _ => false
theorem amid_str {x : Str} {ns : List Str} : amid (.str x) ns = true ↔ x ∈ ns := by
  unfold amid
  rw [List.any_eq_true]
  exact ⟨fun ⟨y, hy, e⟩ => (eq_of_beq e) ▸ hy, fun h => ⟨x, h, beq_self_eq_true x⟩⟩
section
variable {X : Cx} {pins : List (Addr × Obj)} {σ : L2.St} {H : Hp} {s : Shared}
/-- the items' answers -/
def amU (d : PyData) (u : Value) : Bool := match d, u with
  | .str x, .str y _ => y == x
  | _, _ => false
theorem amU_any (d : PyData) : ∀ {ns : List Str} {us : List Value}, Vals (ns.map V.str) us → us.any (amU d) = amid d ns
  | [], _, .nil => by cases d <;> rfl
  | n :: ns, u :: us, .cons r t => by
    obtain ⟨k, rfl⟩ := r
    rw [List.any_cons, amU_any d t]
    cases d <;> rfl
theorem amU_eq {A : Around} {K : PySem.W.Frag} (I : Inv X pins σ H s) (hu : A.units < cLine) {x : V} {v : Value} {d : PyData} (r : RelV x v) (h : Dp X.K H x d) : ∀ {ns : List Str} {us : List Value}, Vals (ns.map V.str) us → ∀ u ∈ us, SeqAt.EqAt A s u v (amU d u)
  | [], _, .nil => fun u hu => by cases hu
  | n :: ns, w :: us, .cons r0 t => fun u m => by
    rcases List.mem_cons.mp m with rfl | m
    · obtain ⟨k, rfl⟩ := r0
      cases h with
      | non => cases r; exact SeqAt.EqAt.str_none n k
      | bl b => cases r; exact SeqAt.EqAt.str_bool n k b
      | int i => obtain ⟨t2, rfl⟩ := r; exact SeqAt.EqAt.str_int n k i t2
      | str y => obtain ⟨t2, rfl⟩ := r; exact SeqAt.EqAt.str_str n k y t2
      | lst hs _ =>
        cases r
        obtain ⟨its, rv, pl, _⟩ := I.list hs
        exact SeqAt.EqAt.str_list n k pl.isList hu
      | tup hs _ =>
        cases r
        obtain ⟨its, rv, pl, _⟩ := I.tuple hs
        exact SeqAt.EqAt.str_tuple n k (show s.heap.IsTuple _ its.toArray from pl) hu
    · exact amU_eq (K := K) I hu r h t u m
/-- x in names, x a datum -/
def rAmid (K : PySem.W.Frag) (neg : Bool) : R2 := fun x y H Q => ∃ (d : PyData) (a : Addr) (ns : List Str), y = .ref a ∧ SqS K H a (ns.map V.str) ∧ Dp K H x d ∧ Q (.bl (if neg then !amid d ns else amid d ns)) H
theorem or_amid (hu : X.A.units + 64 < cLine) : OpR X (compareOp .In) (rAmid X.K false) := by
  intro pins s σ H x y v u Q I rx ry h
  obtain ⟨d, a, ns, rfl, ha, hd, q⟩ := h
  cases (show u = Value.ref a from ry)
  have hu1 : X.A.in1.units < cLine := by show X.A.units + 1 < _; omega
  rw [if_neg (by decide)] at q
  rcases ha with ha | ha
  · obtain ⟨its, rv, pl, hz⟩ := I.list ha
    refine SeqAt.in_listAt (amU d) pl.isList (fun w hw => amU_eq (K := X.K) I hu1 rx hd rv w (by simpa using hw)) ⟨.bl _, H, I, rfl, ?_⟩
    rw [show its.toArray.any (amU d) = its.any (amU d) by simp, amU_any d rv]
    exact q
  · obtain ⟨its, rv, pl, hz⟩ := I.tuple ha
    refine SeqAt.in_tupleAt (amU d) pl (fun w hw => amU_eq (K := X.K) I hu1 rx hd rv w (by simpa using hw)) ⟨.bl _, H, I, rfl, ?_⟩
    rw [show its.toArray.any (amU d) = its.any (amU d) by simp, amU_any d rv]
    exact q
theorem or_namid (hu : X.A.units + 64 < cLine) : OpR X (compareOp .NotIn) (rAmid X.K true) := by
  intro pins s σ H x y v u Q I rx ry h
  obtain ⟨d, a, ns, rfl, ha, hd, q⟩ := h
  cases (show u = Value.ref a from ry)
  have hu1 : X.A.in1.units < cLine := by show X.A.units + 1 < _; omega
  rw [if_pos rfl] at q
  rcases ha with ha | ha
  · obtain ⟨its, rv, pl, hz⟩ := I.list ha
    refine SeqAt.notIn_listAt (amU d) pl.isList (fun w hw => amU_eq (K := X.K) I hu1 rx hd rv w (by simpa using hw)) ⟨.bl _, H, I, rfl, ?_⟩
    rw [show its.toArray.any (amU d) = its.any (amU d) by simp, amU_any d rv]
    exact q
  · obtain ⟨its, rv, pl, hz⟩ := I.tuple ha
    refine SeqAt.notIn_tupleAt (amU d) pl (fun w hw => amU_eq (K := X.K) I hu1 rx hd rv w (by simpa using hw)) ⟨.bl _, H, I, rfl, ?_⟩
    rw [show its.toArray.any (amU d) = its.any (amU d) by simp, amU_any d rv]
    exact q
/-- the name of a datum's type -/
def dty : PyData → String
  | .none => "NoneType"
  | .bool _ => "bool"
  | .int _ => "int"
  | .str _ => "str"
  | .list _ => "list"
  | .tuple _ => "tuple"
  | .dict _ => "dict"
theorem kit_dq (I : Inv X pins σ H s) {v : V} {u : Value} {d : PyData} (r : RelV v u) (h : Dq X.K H v d) : ∃ P : Heap → Prop, PySem.W.KitX X.K u (.type (dty d)) P ∧ P s.heap ∧ u ≠ .builtin "__main__.__loader__#opaque" := by
  cases h with
  | non => cases r; exact ⟨_, PySem.W.kitx_none, True.intro, fun z => nomatch z⟩
  | bl b => cases r; exact ⟨_, PySem.W.kitx_bool, True.intro, fun z => nomatch z⟩
  | int i => obtain ⟨t, rfl⟩ := r; exact ⟨_, PySem.W.kitx_int, True.intro, fun z => nomatch z⟩
  | str x => obtain ⟨t, rfl⟩ := r; exact ⟨_, PySem.W.kitx_str, True.intro, fun z => nomatch z⟩
  | lst hs ha =>
    cases r
    obtain ⟨its, rv, pl, _⟩ := I.list hs
    obtain ⟨o, ho, hc, _⟩ := pl.isList
    exact ⟨_, PySem.W.kitx_list, ⟨o, ho, hc⟩, fun z => nomatch z⟩
  | tup hs ha =>
    cases r
    obtain ⟨its, rv, ⟨o, ho, hc, _⟩, _⟩ := I.tuple hs
    exact ⟨_, PySem.W.kitx_tuple, ⟨o, ho, hc⟩, fun z => nomatch z⟩
  | dic hs hk hv ha =>
    cases r
    obtain ⟨_, hy, vs, rkv, o, es, ep, ho, hx, hd, _⟩ := hs.ok I.hok
    exact ⟨_, PySem.W.kitx_dict, ⟨o, ho, hx.1⟩, fun z => nomatch z⟩
  | dicT hs hk hv ha =>
    cases r
    obtain ⟨_, hy, xs, rp, o, es, ep, ho, hx, hd, he, _⟩ := hs.ok I.hok
    exact ⟨_, PySem.W.kitx_dict, ⟨o, ho, hx.1⟩, fun z => nomatch z⟩
/-- isinstance(x, T), x a datum -/
def rIsD (K : PySem.W.Frag) : List V → Hp → VK → Prop := fun xs H Q => ∃ (x : V) (d : PyData) (T : String) (b : Bool), xs = [x, .ty T] ∧ Dq K H x d ∧ kitB (dty d) T = some b ∧ Q (.bl b) H
theorem call_isD : CallR X (.builtin "isinstance") (rIsD X.K) := by
  intro pins s σ H xs us Q I r h
  obtain ⟨x, d, T, b, rfl, hd, e, q⟩ := h
  obtain ⟨u1, u2, rfl, r1, r2⟩ := vals2 r
  cases (show u2 = Value.type T from r2)
  obtain ⟨P, Z, p, hx⟩ := kit_dq I r1 hd
  exact PySem.W.kia_one Z I.kIn p (kit_ty e) hx fun tk => ⟨.bl b, H, I.tok tk, rfl, q⟩
/-- isinstance(x, (list, tuple)), x a datum, the tuple just laid -/
def rIsDT (K : PySem.W.Frag) : List V → Hp → VK → Prop := fun xs H Q => ∃ (x : V) (tp : Addr) (d : PyData) (T1 T2 : String) (b1 b2 : Bool), xs = [x, .ref tp] ∧ H tp = some (.tup [.ty T1, .ty T2]) ∧ Dq K H x d ∧ kitB (dty d) T1 = some b1 ∧ kitB (dty d) T2 = some b2 ∧ Q (.bl (b1 || b2)) H
theorem call_isDT : CallR X (.builtin "isinstance") (rIsDT X.K) := by
  intro pins s σ H xs us Q I r h
  obtain ⟨x, tp, d, T1, T2, b1, b2, rfl, hT, hd, e1, e2, q⟩ := h
  obtain ⟨u1, u2, rfl, r1, r2⟩ := vals2 r
  cases (show u2 = Value.ref tp from r2)
  obtain ⟨P, Z, p, hx⟩ := kit_dq I r1 hd
  obtain ⟨_, its, rv, o, h1, h2, n, h3⟩ := (show ObjOk X.prog X.w H s.heap tp (.tup [.ty T1, .ty T2]) from I.hok tp _ hT)
  have e3 := ClsV.all (.cons (.ty T1) (.cons (.ty T2) .nil)) rv
  subst e3
  obtain ⟨oc, od, dt, sl⟩ := o
  simp only at h2 h3
  subst h2 h3
  refine PySem.W.kia_tup Z I.kIn p h1 (b := b1 || b2) ?_ hx fun tk => ⟨.bl (b1 || b2), H, I.tok tk, rfl, q⟩
  exact kitAny_cons (kit_ty e1) (fun z => by
    subst z
    exact kitAny_cons (kit_ty e2) (fun z => by subst z; exact kitAny_nil) (fun z => by rw [z]; rfl)) (fun z => by rw [z]; rfl)
end
theorem kit_str (d : PyData) : kitB (dty d) "str" = some (match d with | .str _ => true | _ => false) := by cases d <;> (show kitB _ "str" = _; dsimp only [dty]; decide +kernel)
theorem kit_list (d : PyData) : kitB (dty d) "list" = some (match d with | .list _ => true | _ => false) := by cases d <;> (show kitB _ "list" = _; dsimp only [dty]; decide +kernel)
theorem kit_tuple (d : PyData) : kitB (dty d) "tuple" = some (match d with | .tuple _ => true | _ => false) := by cases d <;> (show kitB _ "tuple" = _; dsimp only [dty]; decide +kernel)
end Ct

set_option Elab.async false
set_option linter.all false
set_option maxRecDepth 100000
set_option maxHeartbeats 4000000
/-! Own kit O: defs that raise, by bundle; own errors raised; objects made where something may be raised. -/
namespace Ct
open PySem PySem.Spec PyProof.Rows L2
/-- a def that may raise and keeps a promise -/
def HasR (P : Program) (w : World) (K : PySem.W.Frag) (mg : Str → Option Value) (base : Heap) (k : Nat) (nm : Str) (ps : List Str) (sp : Sp) : Prop :=
  ∃ f fd, mg nm = some (.ref f) ∧ PySem.W.keepIn K (.ref f) = true ∧ Binds K fd ps [] ∧ FnOk P w K mg base (L2.CX P w) k f fd ps sp
section
variable {P : Program} {w : World} {K : PySem.W.Frag} {mg : Str → Option Value} {base : Heap} {k : Nat} {nm : Str} {ps : List Str} {sp : Sp} {st : Stmt}
theorem hasR_of {N : List Str} (D : DFE K mg nm st ps) (S : FnScope N ps (defScope st)) (len : ∀ vs H Q E, sp vs H Q E → vs.length = ps.length)
    (body : ∀ (f : Addr) (cdv : Value) (A : Around) (outer : List Env) (s : Shared) (H : Hp) (vs : List V) (Q : VK) (E : XK), Room k (A.deeper (envOfC nm (defScope st) s.heap.objs.size f cdv)) → sp vs H Q E →
      ∃ t, PSs (cxOf (L2.CX P w) P w K mg base N nm (defScope st) f cdv A outer s H E) (defBody st) t ∧ t { nx := fun _ H' => Q .non H', rt := Q } (start N vs) H) : HasR P w K mg base (k + 1) nm ps sp := by
  obtain ⟨f, fd, F, g, b⟩ := D
  exact ⟨f, fd, g, F.kp, b, F.okX S len (body f)⟩
theorem HasR.mono {j : Nat} (h : HasR P w K mg base j nm ps sp) (l : j ≤ k) : HasR P w K mg base k nm ps sp := by
  obtain ⟨f, fd, g, kp, b, F⟩ := h
  exact ⟨f, fd, g, kp, b, F.mono l⟩
end
section
variable {X : Cx} {k j : Nat} {nm : Str} {ps : List Str} {sp : Sp} {e : Expr} {es : List Expr} {t : TA} {p pos : Pos} {W : WX}
/-- f(e, ..), what it raises is taken by W -/
theorem pe_hR (h : HasR X.prog X.w X.K X.mg X.base j nm ps sp) (tk : Takes X W) (hr : Room k X.A) (l : j ≤ k) (hg : Gl X nm) (ha : PA X (e :: es) t) (hdb : (nm == ("__debug__" : Str)) = false := by decide)
    (he : starEach (e :: es) X.env = (false, eval e X.env) :: starEach es X.env := by rfl) (hpl : (backTo pos (starEach es X.env)).any (·.1) = false := by rfl) : PE X (.Call (.Name nm p) (e :: es) [] pos) (tCallS sp (WE W) t) := by
  obtain ⟨f, fd, g, kp, b, F⟩ := h
  exact pe_callS F (hr.mono l) hg g kp b (fun σ => passAt tk σ) ha hdb he hpl
/-- f(e, ..), nothing raised -/
theorem pe_hR0 (h : HasR X.prog X.w X.K X.mg X.base j nm ps sp) (hr : Room k X.A) (l : j ≤ k) (hg : Gl X nm) (ha : PA X (e :: es) t) (hdb : (nm == ("__debug__" : Str)) = false := by decide)
    (he : starEach (e :: es) X.env = (false, eval e X.env) :: starEach es X.env := by rfl) (hpl : (backTo pos (starEach es X.env)).any (·.1) = false := by rfl) : PE X (.Call (.Name nm p) (e :: es) [] pos) (tCall sp [] E0 t) := by
  obtain ⟨f, fd, g, kp, b, F⟩ := h
  exact pe_call F (hr.mono l) hg g kp b .nil passL ha hdb he hpl
end
/-- an own error's class: what its __init__ promises, how it binds -/
def HasE (P : Program) (w : World) (K : PySem.W.Frag) (mg : Str → Option Value) (base : Heap) (k : Nat) (x : Str) (C : Addr) (f : Str) : Prop :=
  mg x = some (.ref C) ∧ ∃ fI fd, XCls K C fI ∧ FnOk P w K mg base CX0 k fI fd ["self", f] (spXI C f) ∧ Binds K fd ["self", f] []
/-- C(e) to be raised -/
def tRx (C : Addr) (f : Str) (te : TE) : L2.St → Hp → XK → Prop := fun σ H Q => te σ H fun v H1 => ∀ d, H1 d = none → Q (.ref C) (some d) (upd H1 d (.xd [(f, v)]))
section
variable {X : Cx} {k j : Nat} {x f : Str} {C : Addr} {p pos : Pos} {e : Expr} {te : TE}
theorem del_mkH {H : Hp} {a d : Addr} {v : V} (ha : H a = none) : upd (del (mkH H a d C f v) a) d (.xd [(f, v)]) = upd H d (.xd [(f, v)]) := by
  funext b
  by_cases hb : b = d
  · rw [hb, upd_same, upd_same]
  · rw [upd_ne hb, upd_ne hb]
    by_cases hba : b = a
    · rw [hba, del_same, ha]
    · rw [del_ne hba]
      unfold mkH
      rw [upd_ne hba, upd_ne hb]
/-- a reading with what follows made weaker -/
def tMono (te : TE) : TE := fun σ H Q => ∃ Q0 : VK, te σ H Q0 ∧ ∀ v H1, Q0 v H1 → Q v H1
theorem pe_mono (he : PE X e te) : PE X e (tMono te) := ⟨fun pins s σ H Q I ⟨Q0, h, m⟩ => thn (he.run pins s σ H Q0 I h) fun u s1 ⟨v, H1, I1, r, q⟩ => ⟨v, H1, I1, r, m v H1 q⟩⟩
theorem pmk_x (h : HasE X.prog X.w X.K X.mg X.base j x C f) (hr : Room k X.A) (l : j + 1 ≤ k) (hg : Gl X x) (he : PE X e te) (hdb : (x == ("__debug__" : Str)) = false := by decide)
    (hs : starEach [e] X.env = (false, eval e X.env) :: starEach [] X.env := by rfl) (hpl : (backTo pos (starEach [] X.env)).any (·.1) = false := by rfl)
    (hs2 : starEach [e] X.env = [(false, eval e X.env)] := by rfl) : PMk X (.Call (.Name x p) [e] [] pos) (tRx C f te) := by
  obtain ⟨hm, fI, fd, T, F, b⟩ := h
  intro pins s σ H Q I q
  refine pmk_oex T.ox T.iC T.tI F (hr.mono l) b .nil (fun _ _ _ _ _ _ _ z => z.elim) hg hm (pa_cons (pe_mono he) pa_nil hs) hdb hs hpl pins s σ H Q I ?_
  refine ⟨_, q, fun v H1 z => ⟨by show 1 ≤ 1000; decide, fun a ha => ⟨a, v, rfl, upd_same, fun d hd hne => ⟨rfl, d, [(f, v)], ?_, ?_, ?_, ?_⟩⟩⟩⟩
  · rw [mkH_new]; exact upd_same
  · rw [mkH_new]; unfold mkH; rw [upd_ne hne]; exact upd_same
  · rw [upd_ne hne] at hd; exact hd
  · rw [mkH_new, del_mkH ha]
    rw [upd_ne hne] at hd
    exact z d hd
end
/-- C(..) where what is raised is told at the slots -/
def tMakeS (C : Addr) (sp : Sp) (dvs : List V) (E : L2.St → XK) (t : TA) : TE := fun σ H Q => t σ H fun vs H1 => ∀ x dx, H1 x = none → H1 dx = none → dx ≠ x →
  sp (.ref x :: (vs ++ dvs)) (upd (upd H1 dx (.own x)) x (.ins C dx [])) (fun v H2 => v = .non ∧ Q (.ref x) H2) (E σ)
section
variable {X : Cx} {CX : CXT} {k : Nat} {f C : Addr} {fd : FuncData} {ps : List Str} {sp : Sp} {dvs : List V} {ds : List Value} {E : L2.St → XK} {x : Str} {p pos : Pos} {e : Expr} {es : List Expr} {t : TA}
theorem pe_makeS (M : Mk X.K C f) (F : FnOk X.prog X.w X.K X.mg X.base CX k f fd ps sp) (hr : Room (k + 1) X.A) (hg : Gl X x) (hm : X.mg x = some (.ref C)) (hb : Binds X.K fd ps ds) (hd : Vals dvs ds)
    (hx : ∀ (pins : List (Addr × Obj)) (σ : L2.St) (H : Hp) (s : Shared) (e : Value) (s' : Shared), Inv X pins σ H s → CX X.stack H s (E σ) e s' → X.xe e s')
    (ha : PA X (e :: es) t) (hdb : (x == ("__debug__" : Str)) = false := by decide) (he : starEach (e :: es) X.env = (false, eval e X.env) :: starEach es X.env := by rfl) (hpl : (backTo pos (starEach es X.env)).any (·.1) = false := by rfl) :
    PE X (.Call (.Name x p) (e :: es) [] pos) (tMakeS C sp dvs E t) := by
  refine ⟨fun pins s σ H Q I h => ?_⟩
  refine wpAny_Call_Name_kw (ld_glob I hg hm ?_ hdb)
  refine PySem.W.callWith_K (h₀ := X.base) I.ok.mod.kin M.kp (thn (ha.run pos pins s σ H _ I h) fun us s1 ⟨vs, H1, I1, r, q⟩ => ⟨I1.kIn, ?_⟩) he hpl
  have hq := q (s1.heap.objs.size + 1) s1.heap.objs.size (I1.hok.fresh (Nat.le_succ _)) (I1.hok.fresh (Nat.le_refl _)) (Nat.ne_of_lt (Nat.lt_succ_self _))
  have I2 := Inv.made (C := C) I1
  have r2 : Vals (V.ref (s1.heap.objs.size + 1) :: (vs ++ dvs)) (Value.ref (s1.heap.objs.size + 1) :: (us ++ ds)) := .cons rfl (r.append hd)
  have hl : (Value.ref (s1.heap.objs.size + 1) :: us ++ ds).length = ps.length := by
    have e := r2.length
    rw [F.len _ _ _ _ hq] at e
    exact e.symm
  refine wpAny_call (make_map (f := f) I1.kIn M.makes M.init (beq_iff_eq.mp M.fn) (codeAny_mono (F.run _ X.stack _ _ ⟨Value.ref (s1.heap.objs.size + 1) :: us, []⟩ (Value.ref (s1.heap.objs.size + 1) :: (us ++ ds)) _ _ (E σ) (hr.make C us [])
    (I2.env0.make C us []) (hb _ (Value.ref (s1.heap.objs.size + 1) :: us) I2.kIn hl) r2 hq) fun r s' hq' => ?_))
  match r, hq' with
  | .error e, hq' => exact hx pins σ _ _ e s' I2 hq'
  | .ok .next, hq' => exact False.elim hq'
  | .ok .brk, hq' => exact False.elim hq'
  | .ok .cont, hq' => exact False.elim hq'
  | .ok (.ret u), hq' =>
    obtain ⟨v, H', I3, rv, ev, q3⟩ := I2.after hq'
    subst ev
    exact ⟨rv, ⟨V.ref (s1.heap.objs.size + 1), H', I3, rfl, q3⟩⟩
end
end Ct

set_option Elab.async false
set_option linter.all false
set_option maxRecDepth 100000
set_option maxHeartbeats 4000000
/-! Own kit P: one reading for a walk over a list or a tuple. -/
namespace Ct
open PySem PySem.Spec PyProof.Rows L2
/-- the list or the tuple at a stands on -/
def SqKeep (K : PySem.W.Frag) (a : Addr) (xs : List V) (H H' : Hp) : Prop := (SqL K H a xs → SqL K H' a xs) ∧ (SqT K H a xs → SqT K H' a xs)
theorem SqKeep.same {K : PySem.W.Frag} {a : Addr} {xs : List V} {H H' : Hp} (s : Same H H') : SqKeep K a xs H H' := ⟨fun h => s.seq h, fun h => same_t s h⟩
theorem SqKeep.sqs {K : PySem.W.Frag} {a : Addr} {xs : List V} {H H' : Hp} (k : SqKeep K a xs H H') : SqS K H a xs → SqS K H' a xs
  | .inl h => .inl (k.1 h)
  | .inr h => .inr (k.2 h)
theorem SqKeep.of {K : PySem.W.Frag} {a : Addr} {xs : List V} {H H1 H' : Hp} (h : SqS K H a xs) (s1 : Same H H1) (s2 : Same H H') (ex : SqL K H1 a xs → SqT K H1 a xs → False) : SqKeep K a xs H1 H' := by
  rcases h with h | h
  · exact ⟨fun _ => s2.seq h, fun z => (ex (s1.seq h) z).elim⟩
  · exact ⟨fun z => (ex z (same_t s1 h)).elim, fun _ => same_t s2 h⟩
theorem seq_excl {X : Cx} {pins : List (Addr × Obj)} {σ : L2.St} {H : Hp} {s : Shared} {a : Addr} {xs : List V} (I : Inv X pins σ H s) (h1 : SqL X.K H a xs) (h2 : SqT X.K H a xs) : False := by
  obtain ⟨its, rv, p, _⟩ := I.list h1
  obtain ⟨o, ho, hc, _⟩ := p.isList
  obtain ⟨its2, rv2, ⟨o2, ho2, hc2, _⟩, _⟩ := I.tuple h2
  rw [ho] at ho2
  cases ho2
  rw [hc] at hc2
  exact absurd hc2 (by decide)
def iSq (K : PySem.W.Frag) (tl : TE) : TI := fun σ H R => tl σ H fun v H1 => ∃ a xs, v = .ref a ∧ SqS K H1 a xs ∧ ∀ (J : It) (G : Hp → Prop), (SqL K H1 a xs → SqT K H1 a xs → False) → (∀ H', SqKeep K a xs H1 H' → G H') → Walk J xs.length G (YAt xs) → R J H1
section
variable {X : Cx}
theorem pi_sq {tg l : Expr} {tl : TE} (hl : PE X l tl) : PI X tg l (iSq X.K tl) := by
  refine ⟨fun pins s σ H R I h => ?_⟩
  refine thn (hl.run pins s σ H _ I h) fun v s1 ⟨x, H1, I1, r1, a, xs, e, hq, q⟩ => ?_
  subst e
  cases r1
  have foot : ∀ b ∈ [s1.heap.objs.size], FpOk X pins H1 b := fun b hb => by
    have e : b = s1.heap.objs.size := by simpa using hb
    subst e
    exact I1.fpOk (Nat.le_refl _) (I1.hok.fresh (Nat.le_refl _))
  rcases hq with hq | hq
  · obtain ⟨its, rv, p, hz⟩ := I1.list hq
    refine wpAny_pyIter_list p.isList ?_
    exact ⟨s1.heap.objs.size, [s1.heap.objs.size], _, _, H1, rfl, I1.kept (t' := s1.toks) fun b o e => Heap.get?_push_of_some _ e, turn_list a _, ⟨_, Heap.get?_push_size _ rfl, rfl, rfl⟩, foot, q _ _ (seq_excl I1) (fun H' k => k.1 hq) walk_list⟩
  · obtain ⟨its, rv, p, hz⟩ := I1.tuple hq
    refine wpAny_pyIter_tuple (show s1.heap.IsTuple a its.toArray from p) ?_
    exact ⟨s1.heap.objs.size, [s1.heap.objs.size], _, _, H1, rfl, I1.kept (t' := s1.toks) fun b o e => Heap.get?_push_of_some _ e, turn_tuple a _, ⟨_, Heap.get?_push_size _ rfl, rfl, rfl⟩, foot, q _ _ (seq_excl I1) (fun H' k => k.2 hq) walk_tup⟩
/-- enumerate, one reading for a list and a tuple -/
def iEnumQ (K : PySem.W.Frag) (ta : TA) : TI := fun σ H R => ta σ H fun vs H1 => ∃ a xs, vs = [.ref a] ∧ SqS K H1 a xs ∧ ∀ (J : It) (G : Hp → Prop), (SqL K H1 a xs → SqT K H1 a xs → False) → (∀ H', SqKeep K a xs H1 H' → G H') → Walk J xs.length G (YPair (fun i => some (.int (i : Nat))) (fun i => xs[i]?)) → R J H1
theorem pi_enumQ {e : Expr} {ta : TA} {p pos tpos : Pos} {elts : List Expr} {kk : Nat} (hg : Gl X "enumerate") (hm : X.mg "enumerate" = none) (ha : PA X [e] ta) (hs : starEach [e] X.env = [(false, eval e X.env)] := by rfl) :
    PI X (.Tuple elts kk tpos) (.Call (.Name "enumerate" p) [e] [] pos) (iEnumQ X.K ta) := by
  refine ⟨fun pins s σ H R I h => ?_⟩
  refine Call_ (ld_blt I hg hm boot_enumerate (PyProof.Rows.callWith_type1 (thn (ha.run pos pins s σ H _ I h) fun us s1 ⟨vs, H1, I1, r1, a, xs, e, hq, q⟩ => ?_) hs rfl))
  subst e
  obtain ⟨u, rfl, ru⟩ := vals1 r1
  cases (show u = Value.ref a from ru)
  have feet : ∀ b ∈ [s1.heap.objs.size + 1, s1.heap.objs.size], FpOk X pins H1 b := fun b hb => by
    have hle : s1.heap.objs.size ≤ b := by
      rcases (show b = s1.heap.objs.size + 1 ∨ b = s1.heap.objs.size by simpa using hb) with z | z
      · rw [z]; exact Nat.le_add_right _ _
      · rw [z]; exact Nat.le_refl _
    exact I1.fpOk hle (I1.hok.fresh hle)
  rcases hq with hq | hq
  · obtain ⟨its, rv, p', hz⟩ := I1.list hq
    refine call_enumerate_list p'.isList fun h' he hit hsz hk => wpAny_pyIter_enum he ?_
    exact ⟨s1.heap.objs.size + 1, [s1.heap.objs.size + 1, s1.heap.objs.size], _, _, H1, rfl, I1.kept (t' := s1.toks) hk, turn_enum a (s1.heap.objs.size + 1) s1.heap.objs.size, ⟨⟨.none, he⟩, hit, Nat.succ_ne_self _⟩, feet, q _ _ (seq_excl I1) (fun H' k => k.1 hq) walk_enum⟩
  · obtain ⟨its, rv, p', hz⟩ := I1.tuple hq
    refine call_enumT (show s1.heap.IsTuple a its.toArray from p') fun h' he hit hk => wpAny_pyIter_enum he ?_
    exact ⟨s1.heap.objs.size + 1, [s1.heap.objs.size + 1, s1.heap.objs.size], _, _, H1, rfl, I1.kept (t' := s1.toks) hk, turn_enumT a (s1.heap.objs.size + 1) s1.heap.objs.size, ⟨⟨.none, he⟩, hit, Nat.succ_ne_self _⟩, feet, q _ _ (seq_excl I1) (fun H' k => k.2 hq) walk_enumT⟩
end
end Ct

set_option Elab.async false
set_option linter.all false
set_option maxRecDepth 100000
set_option maxHeartbeats 4000000
/-! Own kit Q: set comprehensions by a walk. -/
namespace Ct
open PySem PySem.Spec PyProof.Rows L2 PpSet
theorem ksc_it {K : PySem.W.Frag} {P : Program} {w : World} {J : It} {n : Nat} {G : Hp → Prop} {Y : Nat → Hp → V → Hp → Prop} (wk : Walk J n G Y) {g : TG} {te : TE} {vs : List Nat} {σ : L2.St} {H1 : Hp} {D : Addr} {Qd : Hp → Prop} (Pv : Nat → Hp → Prop)
    (h0 : Pv 0 (upd H1 D (KSetO P w D []))) (hG : ∀ i H, i ≤ n → Pv i H → G H)
    (hs : ∀ i x H H', i < n → Pv i H → Y i H x H' → g x (wipe σ vs) H' fun σ2 H2 => wipe σ2 vs = wipe σ vs ∧ te σ2 H2 fun y H4 => ∃ b, y = .ref b ∧ rKAdd K P w D b H4 (Pv (i + 1))) (hd : ∀ H, Pv n H → Qd H) :
    ∃ W : Nat → Nat → Hp → Prop, (∃ m, W 0 m (upd H1 D (KSetO P w D []))) ∧ ∀ i m H, W i m H →
      (J.stop i H ∧ Qd H) ∨ (J.go i H ∧ ∃ Nx : Hp → Prop, (∀ H', Nx H' → ∃ m', m' < m ∧ W (i + 1) m' H') ∧ ∀ x H', J.yld i H x H' → g x (wipe σ vs) H' fun σ2 H2 => wipe σ2 vs = wipe σ vs ∧
        te σ2 H2 fun y H4 => ∃ b, y = .ref b ∧ rKAdd K P w D b H4 Nx) := by
  refine ⟨fun i m H => m = n - i ∧ i ≤ n ∧ Pv i H, ⟨n, by simp, Nat.zero_le _, h0⟩, ?_⟩
  rintro i m H ⟨rfl, hi, p⟩
  have q := hG i H hi p
  rcases Nat.lt_or_ge i n with lt | ge
  · exact .inr ⟨wk.goes i H lt q, Pv (i + 1), fun H' p' => ⟨n - (i + 1), by omega, rfl, lt, p'⟩, fun x H' y => hs i x H H' lt p (wk.yields i H x H' lt q y)⟩
  · obtain rfl : i = n := Nat.le_antisymm hi ge
    exact .inl ⟨wk.stops H q, hd H p⟩
/-- a set that has got one key more -/
theorem kadd_in {K : PySem.W.Frag} {P : Program} {w : World} {D b : Addr} {H : Hp} {L : List Mem} {k : List Key} {Q : Hp → Prop} (hD : H D = some (KSetO P w D L)) (hm : Mems K H L) (hb : SqT K H b (k.map kV)) (hl : L.length + 1 < 77)
    (q : ∀ L' H', H' D = some (KSetO P w D L') → (∀ c, c ≠ D → H' c = H c) → (∀ j, j ∈ L'.map (·.2) ↔ j = k ∨ j ∈ L.map (·.2)) → (∀ p ∈ L', p = (b, k) ∨ p ∈ L) → L'.length ≤ L.length + 1 → Q H') : rKAdd K P w D b H Q := by
  refine ⟨L, k, hD, hm, hb, hl, fun z => ?_, fun z L' pm => ?_⟩
  · exact q L H hD (fun _ _ => rfl) (fun j => ⟨.inr, fun h => h.elim (fun e => e ▸ z) id⟩) (fun p hp => .inr hp) (Nat.le_succ _)
  · refine q L' _ upd_same (fun c hc => upd_ne hc) (fun j => ?_) (fun p hp => ?_) (Nat.le_of_eq pm.length_eq)
    · have := (pm.map (·.2)).mem_iff (a := j)
      rw [this, List.map_cons, List.mem_cons]
    · have := pm.mem_iff.mp hp
      rcases List.mem_cons.mp this with e | e
      · exact .inl e
      · exact .inr e
end Ct

set_option Elab.async false
set_option linter.all false
set_option maxRecDepth 100000
set_option maxHeartbeats 4000000
/-! Own kit R: dict comprehensions stored, and by a walk. -/
namespace Ct
open PySem PySem.Spec PyProof.Rows L2
section
variable {X : Cx}
/-- y = {k: v for x in xs} -/
theorem ps_setDc {i : Nat} {y : PySem.Str} {py : Pos} {kx vx tg iter : Expr} {ifs : List Expr} {scope : Scope} {own : List (PySem.Str × Nat)} {pos spos : Pos} {wi : TI} {g : TG} {tt : TT} {tk tv : TE} (hc : X.calm = true) (hN : X.N.Nodup) (hy : X.N[i]? = some y) (hyl : X.env.scope.names.lookup y = some .local)
    (hsw : swapsWith (.DictComp kx vx [⟨tg, iter, ifs, 0⟩] scope pos) (some (.Name y py)) spos.line X.env = pure true) (hi : PI X tg iter wi) (ok : BlkOk X.N X.env.scope scope own)
    (hg : ∀ (s : Shared) (H : Hp) (C : Addr) (cl : List (PySem.Str × Addr)) (fp : List Addr), PG (X.blk s H scope (compEnvC scope cl C X.env) fp) tg g) (ht : ∀ (s : Shared) (H : Hp) (C : Addr) (cl : List (PySem.Str × Addr)) (fp : List Addr), PTs (X.blk s H scope (compEnvC scope cl C X.env) fp) ifs tt)
    (hk : ∀ (s : Shared) (H : Hp) (C : Addr) (cl : List (PySem.Str × Addr)) (fp : List Addr), PE (X.blk s H scope (compEnvC scope cl C X.env) fp) kx tk)
    (he : ∀ (s : Shared) (H : Hp) (C : Addr) (cl : List (PySem.Str × Addr)) (fp : List Addr), PE (X.blk s H scope (compEnvC scope cl C X.env) fp) vx tv) (hs : ∀ x, foldedSetIterable iter X.env x = pure x := by intro _; rfl) :
    PS X (.Assign [.Name y py] (.DictComp kx vx [⟨tg, iter, ifs, 0⟩] scope pos) spos) (tAsg (tDc wi g tt tk tv (own.map (·.2))) (gName i)) := by
  refine ⟨fun pins s σ H D I h => ?_⟩
  rw [exec_Assign_Name_used _ _ _ _ hsw]
  refine wpAny_bind (wpAny_standAt (wpAny_bind ?_))
  show wpAny _ X.A (do let _ ← comprehension (.DictComp kx vx [⟨tg, iter, ifs, 0⟩] scope pos) scope X.env (firstIterPos [⟨tg, iter, ifs, 0⟩] pos) newDict false (eval iter X.env) (some (assign (.Name y py) X.env))) _ _ s
  have q : tDc wi g tt tk tv (own.map (·.2)) σ H (fun x H1 => gName i x σ H1 D.nx) := h
  refine wpAny_bind (thn (dc_core (Qf := fun _ s' => SP X pins D .next s') hc hN I hi ok hg ht hk he hs q fun L C s' m H' I' q hn f => ?_) fun _ s' hq => wpAny_pure (wpAny_pure hq))
  show wpAny _ _ (assign (.Name y py) X.env (.ref L)) _ _ _
  refine wpAny_assign_Name (store_ok2 (v := V.ref L) I' hN hy (.inl hyl) rfl (fun s2 I2 ⟨a, sb, ha⟩ => ?_) (.inr hyl))
  obtain ⟨f0, f1, f2, f3, f4, f5⟩ := f
  have ne : C ≠ a := ha.elim (fun z => z ▸ f1) (fun z e => f4 y a z e.symm)
  exact ⟨m, hn.sameBut sb ne, fun h3 sb3 => ⟨_, H', I2.turned (t' := s2.toks) (fun b o hb e => (sb3.2 b hb).trans e) f0 f1 f3 f4 f5, q⟩⟩
theorem sw_setd {kx vx : Expr} {gs : List Comprehension} {scope : Scope} {pos py : Pos} {y : PySem.Str} {l : Nat} {env : Env} (hk : env.scope.kind = .function) (hy : env.scope.names.lookup y = some .local) (hl : (py.line == pos.line) = true)
    (ha : (scope.names.any fun (n, k) => n == y && (k == .local || k == .cell)) = false) : swapsWith (.DictComp kx vx gs scope pos) (some (.Name y py)) l env = pure true := by
  have ky : env.kindOf y = some .local := hy
  have hb : env.blockKind = .function := by unfold Env.blockKind; rw [hk]; rfl
  unfold swapsWith
  simp only [hb, ky, ha, Expr.pos, hl]
  rfl
end
theorem dc_it {J : It} {n : Nat} {G : Hp → Prop} {Y : Nat → Hp → V → Hp → Prop} (wk : Walk J n G Y) {g : TG} {tt : TT} {tk tv : TE} {vs : List Nat} {σ : L2.St} {H1 : Hp} {D : Addr} {Qd : Hp → Prop} (Pv : Nat → Hp → Prop) (h0 : Pv 0 (upd H1 D (.dK []))) (hG : ∀ i H, i ≤ n → Pv i H → G H)
    (hs : ∀ i x H H', i < n → Pv i H → Y i H x H' → g x (wipe σ vs) H' fun σ2 H2 => wipe σ2 vs = wipe σ vs ∧ tt σ2 H2 fun b H3 =>
      if b = true then tk σ2 H3 fun y H4 => tv σ2 H4 fun z H5 => ∃ kvs k, y = kV k ∧ H5 D = some (.dK kvs) ∧ kvs.length < sizeLine ∧ Pv (i + 1) (upd H5 D (.dK (putK kvs k z))) else Pv (i + 1) H3) (hd : ∀ H, Pv n H → Qd H) :
    ∃ W : Nat → Nat → Hp → Prop, (∃ m, W 0 m (upd H1 D (.dK []))) ∧ ∀ i m H, W i m H →
      (J.stop i H ∧ Qd H) ∨ (J.go i H ∧ ∃ Nx : Hp → Prop, (∀ H', Nx H' → ∃ m', m' < m ∧ W (i + 1) m' H') ∧ ∀ x H', J.yld i H x H' → g x (wipe σ vs) H' fun σ2 H2 => wipe σ2 vs = wipe σ vs ∧ tt σ2 H2 fun b H3 =>
        if b = true then tk σ2 H3 fun y H4 => tv σ2 H4 fun z H5 => ∃ kvs k, y = kV k ∧ H5 D = some (.dK kvs) ∧ kvs.length < sizeLine ∧ Nx (upd H5 D (.dK (putK kvs k z))) else Nx H3) := by
  refine ⟨fun i m H => m = n - i ∧ i ≤ n ∧ Pv i H, ⟨n, by simp, Nat.zero_le _, h0⟩, ?_⟩
  rintro i m H ⟨rfl, hi, p⟩
  have q := hG i H hi p
  rcases Nat.lt_or_ge i n with lt | ge
  · exact .inr ⟨wk.goes i H lt q, Pv (i + 1), fun H' p' => ⟨n - (i + 1), by omega, rfl, lt, p'⟩, fun x H' y => hs i x H H' lt p (wk.yields i H x H' lt q y)⟩
  · obtain rfl : i = n := Nat.le_antisymm hi ge
    exact .inl ⟨wk.stops H q, hd H p⟩
/-! the written part named: for what stands within a comprehension -/
section
variable {X : Cx} {K : PySem.W.Frag}
theorem pi_sqk (hK : X.K = K) {tg l : Expr} {tl : TE} (hl : PE X l tl) : PI X tg l (iSq K tl) := by
  subst hK
  exact pi_sq hl
theorem op_in_seqk (hK : X.K = K) : OpR X (compareOp .In) (rIn K false) := by
  subst hK
  exact op_in_seq
theorem op_notIn_seqk (hK : X.K = K) : OpR X (compareOp .NotIn) (rIn K true) := by
  subst hK
  exact op_notIn_seq
theorem or_amidk (hK : X.K = K) (hu : X.A.units + 64 < cLine) : OpR X (compareOp .In) (rAmid K false) := by
  subst hK
  exact or_amid hu
theorem or_namidk (hK : X.K = K) (hu : X.A.units + 64 < cLine) : OpR X (compareOp .NotIn) (rAmid K true) := by
  subst hK
  exact or_namid hu
theorem call_isDk (hK : X.K = K) : CallR X (.builtin "isinstance") (rIsD K) := by
  subst hK
  exact call_isD
end
end Ct

set_option Elab.async false
set_option linter.all false
set_option maxRecDepth 100000
set_option maxHeartbeats 2000000
/-! Own kit S: what stands, as one list (Lv); a tactic that answers a reading as far as it is plain. -/
namespace Ct
open PySem PySem.Spec PyProof.Rows L2
theorem at_while {c : TT} {b u : TS} {D : Ends} {σ : L2.St} {H : Hp} (h : tSeq (tWhile c b) u D σ H) : tSeq (tWhile c b) u D σ H := h
theorem at_while1 {c : TT} {b : TS} {D : Ends} {σ : L2.St} {H : Hp} (h : tWhile c b D σ H) : tWhile c b D σ H := h
theorem erase_perm {α : Type} : ∀ {xs : List α} {i : Nat} (h : i < xs.length), (xs[i] :: xs.eraseIdx i).Perm xs
  | x :: xs, 0, _ => .refl _
  | x :: xs, i + 1, h => (List.Perm.swap _ _ _).trans (List.Perm.cons x (erase_perm (Nat.lt_of_succ_lt_succ h)))
theorem map_same {α : Type} {f : α → α} : ∀ {l : List α}, (∀ y ∈ l, f y = y) → l.map f = l
  | [], _ => rfl
  | y :: l, h => by rw [List.map_cons, h y List.mem_cons_self, map_same fun z hz => h z (List.mem_cons_of_mem _ hz)]
/-- a row of the same things in another sequence -/
theorem perm_inv {α β : Type} {f : α → β} (g : β → α) (hg : ∀ x, g (f x) = x) {ys : List β} {xs : List α} (h : ys.Perm (xs.map f)) : ∃ zs : List α, zs.Perm xs ∧ ys = zs.map f := by
  refine ⟨ys.map g, ?_, ?_⟩
  · have := h.map g
    rwa [List.map_map, show g ∘ f = id from funext hg, List.map_id] at this
  · rw [List.map_map]
    refine (map_same fun y hy => ?_).symm
    obtain ⟨x, _, rfl⟩ := List.mem_map.mp (h.mem_iff.mp hy)
    exact congrArg f (hg x)
def strOf : V → Str
  | .str x => x
  | _ => Str.empty
theorem strs_perm {ys : List V} {xs : List Str} (h : ys.Perm (xs.map V.str)) : ∃ zs : List Str, zs.Perm xs ∧ ys = zs.map V.str := perm_inv strOf (fun _ => rfl) h
theorem paired_perm {α β : Type} {R : α → β → Prop} {ys xs : List α} (h : ys.Perm xs) : ∀ {ts : List β}, Paired R xs ts → ∃ us, us.Perm ts ∧ Paired R ys us := by
  induction h with
  | nil => intro ts p; exact ⟨ts, .refl _, p⟩
  | cons x _ ih =>
    intro ts p
    cases p with
    | cons a b =>
      obtain ⟨us, h1, h2⟩ := ih b
      exact ⟨_ :: us, h1.cons _, .cons a h2⟩
  | swap x y l =>
    intro ts p
    cases p with
    | cons a b =>
      cases b with
      | cons b c => exact ⟨_, .swap _ _ _, .cons b (.cons a c)⟩
  | trans _ _ ih1 ih2 =>
    intro ts p
    obtain ⟨us, h1, h2⟩ := ih2 p
    obtain ⟨vs, h3, h4⟩ := ih1 h2
    exact ⟨vs, h3.trans h1, h4⟩
theorem nodup_set {α : Type} : ∀ {l : List α} {i : Nat} {x : α}, l.Nodup → x ∉ l → (l.set i x).Nodup
  | [], _, _, _, _ => List.nodup_nil
  | y :: l, 0, x, h, n => by
    rw [List.set_cons_zero]
    exact List.nodup_cons.mpr ⟨fun z => n (List.mem_cons_of_mem _ z), (List.nodup_cons.mp h).2⟩
  | y :: l, i + 1, x, h, n => by
    rw [List.set_cons_succ]
    refine List.nodup_cons.mpr ⟨fun z => ?_, nodup_set (List.nodup_cons.mp h).2 fun z => n (List.mem_cons_of_mem _ z)⟩
    rcases List.mem_or_eq_of_mem_set z with z | z
    · exact (List.nodup_cons.mp h).1 z
    · exact n (z ▸ List.mem_cons_self)
theorem in_strs (l : List Str) (q : Str) : inV (.str q) (l.map V.str) = decide (q ∈ l) := by
  rw [Bool.eq_iff_iff, decide_eq_true_eq]
  unfold inV
  rw [List.any_map, List.any_eq_true]
  exact ⟨fun ⟨y, hy, e⟩ => (eq_of_beq (show (y == q) = true from e)) ▸ hy, fun h => ⟨q, h, beq_self_eq_true q⟩⟩
/-- a row cut behind the first n -/
theorem cut_take (xs : List V) (n : Nat) : cutV xs none (some (n : Int)) = xs.take n := by
  unfold cutV
  rw [HT.sIx_none, HT.sIx_nat, List.drop_zero, Nat.sub_zero]
  exact (List.take_eq_take_min).symm
/-- a shield: what is within is not looked at -/
structure Hold (p : Prop) : Prop where
  out : p
/-- a test that changes nothing: both ways apart, whatever it leans on -/
theorem ifs_any {c : TT} {a b : TS} {D : Ends} {σ : L2.St} {H : Hp} (R : Bool → Prop) (hc : ∀ Q : Bool → Hp → Prop, (∀ x, R x → Q x H) → c σ H Q) (h1 : R true → a D σ H) (h2 : R false → b D σ H) : tIfS c a b D σ H := by
  refine hc _ fun x hx => ?_
  cases x with
  | true => exact iteT (h1 hx)
  | false => exact iteF (h2 hx)
theorem sz0 : ([] : List V).length ≤ sizeLine := by rw [sizeLine_eq]; simp only [List.length_cons, List.length_nil]; decide
theorem sz1 {a0 : V} : ([a0] : List V).length ≤ sizeLine := by rw [sizeLine_eq]; simp only [List.length_cons, List.length_nil]; decide
theorem sz2 {a0 a1 : V} : ([a0, a1] : List V).length ≤ sizeLine := by rw [sizeLine_eq]; simp only [List.length_cons, List.length_nil]; decide
theorem sz3 {a0 a1 a2 : V} : ([a0, a1, a2] : List V).length ≤ sizeLine := by rw [sizeLine_eq]; simp only [List.length_cons, List.length_nil]; decide
theorem sz4 {a0 a1 a2 a3 : V} : ([a0, a1, a2, a3] : List V).length ≤ sizeLine := by rw [sizeLine_eq]; simp only [List.length_cons, List.length_nil]; decide
theorem sz5 {a0 a1 a2 a3 a4 : V} : ([a0, a1, a2, a3, a4] : List V).length ≤ sizeLine := by rw [sizeLine_eq]; simp only [List.length_cons, List.length_nil]; decide
theorem sz6 {a0 a1 a2 a3 a4 a5 : V} : ([a0, a1, a2, a3, a4, a5] : List V).length ≤ sizeLine := by rw [sizeLine_eq]; simp only [List.length_cons, List.length_nil]; decide
theorem sz7 {a0 a1 a2 a3 a4 a5 a6 : V} : ([a0, a1, a2, a3, a4, a5, a6] : List V).length ≤ sizeLine := by rw [sizeLine_eq]; simp only [List.length_cons, List.length_nil]; decide
theorem sz8 {a0 a1 a2 a3 a4 a5 a6 a7 : V} : ([a0, a1, a2, a3, a4, a5, a6, a7] : List V).length ≤ sizeLine := by rw [sizeLine_eq]; simp only [List.length_cons, List.length_nil]; decide
theorem sz10 {a0 a1 a2 a3 a4 a5 a6 a7 a8 a9 : V} : ([a0, a1, a2, a3, a4, a5, a6, a7, a8, a9] : List V).length ≤ sizeLine := by rw [sizeLine_eq]; simp only [List.length_cons, List.length_nil]; decide
theorem sz11 {a0 a1 a2 a3 a4 a5 a6 a7 a8 a9 a10 : V} : ([a0, a1, a2, a3, a4, a5, a6, a7, a8, a9, a10] : List V).length ≤ sizeLine := by rw [sizeLine_eq]; simp only [List.length_cons, List.length_nil]; decide
theorem sz12 {a0 a1 a2 a3 a4 a5 a6 a7 a8 a9 a10 a11 : V} : ([a0, a1, a2, a3, a4, a5, a6, a7, a8, a9, a10, a11] : List V).length ≤ sizeLine := by rw [sizeLine_eq]; simp only [List.length_cons, List.length_nil]; decide
theorem sz14 {a0 a1 a2 a3 a4 a5 a6 a7 a8 a9 a10 a11 a12 a13 : V} : ([a0, a1, a2, a3, a4, a5, a6, a7, a8, a9, a10, a11, a12, a13] : List V).length ≤ sizeLine := by rw [sizeLine_eq]; simp only [List.length_cons, List.length_nil]; decide
theorem nodup_inj {α β : Type} {f : α → β} (inj : ∀ x y, f x = f y → x = y) {l : List α} (h : l.Nodup) : (l.map f).Nodup := List.pairwise_map.mpr (h.imp fun n e => n (inj _ _ e))
theorem nodup_len {α : Type} [DecidableEq α] : ∀ {r ns : List α}, r.Nodup → (∀ q ∈ r, q ∈ ns) → r.length ≤ ns.length
  | [], _, _, _ => Nat.zero_le _
  | x :: r, ns, h, s => by
    obtain ⟨n, h⟩ := List.nodup_cons.mp h
    have h1 := nodup_len (ns := ns.erase x) h fun q hq => (List.mem_erase_of_ne (fun z => n (by rw [← z]; exact hq))).mpr (s q (List.mem_cons_of_mem _ hq))
    have h2 := List.length_erase_of_mem (s x List.mem_cons_self)
    have h3 := List.length_pos_of_mem (s x List.mem_cons_self)
    rw [List.length_cons]
    omega
theorem idx_inj {ns : List Str} (nd : ns.Nodup) {i j : Nat} {x : Str} (h1 : ns[i]? = some x) (h2 : ns[j]? = some x) : i = j :=
  (List.getElem?_inj (List.getElem?_eq_some_iff.mp h1).1 nd).mp (h1.trans h2.symm)
/-- a test, both ways apart, told by what holds behind it -/
theorem ifs_to {c : TT} {a b : TS} {D : Ends} {σ : L2.St} {H : Hp} (R : Bool → Hp → Prop) (hc : ∀ Q : Bool → Hp → Prop, (∀ x H', R x H' → Q x H') → c σ H Q) (h1 : ∀ H', R true H' → a D σ H') (h2 : ∀ H', R false H' → b D σ H') : tIfS c a b D σ H := by
  refine hc _ fun x H' hx => ?_
  cases x with
  | true => exact iteT (h1 H' hx)
  | false => exact iteF (h2 H' hx)
def updX (H : Hp) (a : Addr) (o : HO) : Hp := upd H a o
theorem upd_mark {H : Hp} {a : Addr} {o : HO} : upd H a o = updX H a o := rfl
/-- a while by an invariant and a measure -/
theorem while_n {c : TT} {tb : TS} {D : Ends} {σ : L2.St} {H : Hp} (Pv : L2.St → Hp → Prop) (μ : L2.St → Hp → Nat) (h0 : Pv σ H)
    (hs : ∀ σ H, Pv σ H → c σ H fun b H1 => if b = true then ∃ N : L2.St → Hp → Prop, (∀ σ' H', N σ' H' → ∃ m', m' < μ σ H ∧ (m' = μ σ' H' ∧ Pv σ' H')) ∧ tb { D with nx := N, ct := N, bk := D.nx } σ H1 else D.nx σ H1) : tWhile c tb D σ H := by
  refine ⟨fun m σ H => m = μ σ H ∧ Pv σ H, ⟨_, rfl, h0⟩, ?_⟩
  rintro m σ H ⟨rfl, p⟩
  exact hs σ H p
theorem while_nx {Pv : L2.St → Hp → Prop} {μ : L2.St → Hp → Nat} {m : Nat} : ∀ σ' H', (Pv σ' H' ∧ μ σ' H' < m) → ∃ m', m' < m ∧ (m' = μ σ' H' ∧ Pv σ' H') := fun _ _ h => ⟨_, h.2, rfl, h.1⟩
/-- a list's length -/
def lenH (H : Hp) (a : Addr) : Nat := match H a with
  | some (.lst xs) => xs.length
  | _ => 0
theorem lenH_eq {H : Hp} {a : Addr} {xs : List V} (h : H a = some (.lst xs)) : lenH H a = xs.length := by unfold lenH; rw [h]
/-- what stands now at different addresses; of what stood in H0 all stands but what is at S -/
structure Lv (H0 : Hp) (S : List Addr) (H : Hp) (l : List (Addr × HO)) : Prop where
  nd : (l.map (·.1)).Nodup
  all : ∀ p ∈ l, H p.1 = some p.2
  fr : ∀ b o, b ∉ S → H0 b = some o → H b = some o
  nw : ∀ p ∈ l, p.1 ∈ S ∨ H0 p.1 = none
  sl : ∀ b ∈ S, b ∈ l.map (·.1)
section
variable {H0 H H' : Hp} {S : List Addr} {l : List (Addr × HO)} {p q : Addr} {o u : HO}
theorem Lv.get (h : Lv H0 S H l) (i : Nat) (e : l[i]? = some (p, o)) : H p = some o := h.all (p, o) (List.mem_of_getElem? e)
/-- nothing is changed -/
theorem Lv.zero (H : Hp) : Lv H [] H [] := ⟨List.nodup_nil, fun _ h => (nomatch h), fun _ _ _ h => h, fun _ h => (nomatch h), fun _ h => (nomatch h)⟩
theorem Lv.add (h : Lv H S H l) (hp : H p = some o) (n : p ∉ l.map (·.1)) : Lv H (p :: S) H ((p, o) :: l) where
  nd := List.nodup_cons.mpr ⟨n, h.nd⟩
  all := fun q hq => by
    cases hq with
    | head => exact hp
    | tail _ hq => exact h.all q hq
  fr := fun b o n hb => hb
  nw := fun q hq => by
    cases hq with
    | head => exact .inl List.mem_cons_self
    | tail _ hq => exact (h.nw q hq).imp (List.mem_cons_of_mem _) id
  sl := fun b hb => by
    cases hb with
    | head => exact List.mem_cons_self
    | tail _ hb => exact List.mem_cons_of_mem _ (h.sl b hb)
/-- one thing may be changed -/
theorem Lv.one (hp : H p = some o) : Lv H [p] H [(p, o)] := (Lv.zero H).add hp (fun z => nomatch z)
theorem Lv.two (hp : H p = some o) (hq : H q = some u) (n : p ≠ q) : Lv H [p, q] H [(p, o), (q, u)] := (Lv.one hq).add hp (fun z => n (List.mem_singleton.mp z))
theorem Lv.new (h : Lv H0 S H l) (np : H p = none) : p ∉ l.map (·.1) := fun z => by
  obtain ⟨q, hq, rfl⟩ := List.mem_map.mp z
  rw [h.all q hq] at np
  cases np
theorem Lv.free (h : Lv H0 S H l) (np : H p = none) : H0 p = none := by
  cases q : H0 p with
  | none => rfl
  | some o =>
    by_cases c : p ∈ S
    · exact absurd (h.sl p c) (h.new np)
    · rw [h.fr p o c q] at np; cases np
theorem Lv.same (h : Lv H0 S H l) (s : Same H H') : Lv H0 S H' l := ⟨h.nd, fun q hq => s _ _ (h.all q hq), fun b o n hb => s _ _ (h.fr b o n hb), h.nw, h.sl⟩
theorem Lv.cons (h : Lv H0 S H l) (hp : H p = some o) (n : p ∉ l.map (·.1)) (n0 : H0 p = none) : Lv H0 S H ((p, o) :: l) where
  nd := List.nodup_cons.mpr ⟨n, h.nd⟩
  all := fun q hq => by
    cases hq with
    | head => exact hp
    | tail _ hq => exact h.all q hq
  fr := h.fr
  nw := fun q hq => by
    cases hq with
    | head => exact .inr n0
    | tail _ hq => exact h.nw q hq
  sl := fun b hb => List.mem_cons_of_mem _ (h.sl b hb)
theorem Lv.al (h : Lv H0 S H l) (np : H p = none) : Lv H0 S (upd H p o) ((p, o) :: l) := (h.same (same_new np)).cons upd_same (h.new np) (h.free np)
/-- a new thing told by what holds behind it -/
theorem Lv.al' (h : Lv H0 S H l) (s : Same H H') (np : H p = none) (hp : H' p = some o) : Lv H0 S H' ((p, o) :: l) := (h.same s).cons hp (h.new np) (h.free np)
theorem Lv.ne (h : Lv H0 S H l) (i j : Nat) (ne : i ≠ j) (e : l[i]? = some (p, o)) (f : l[j]? = some (q, u)) : p ≠ q := fun z => by
  have hi := (List.getElem?_eq_some_iff.mp e).1
  have hj := (List.getElem?_eq_some_iff.mp f).1
  have a : (l.map (·.1))[i]? = some p := by rw [List.getElem?_map, e]; rfl
  have b : (l.map (·.1))[j]? = some p := by rw [List.getElem?_map, f, z]; rfl
  exact ne ((List.getElem?_inj (by rw [List.length_map]; exact hi) h.nd).mp (a.trans b.symm))
theorem set_fst {l : List (Addr × HO)} {i : Nat} (e : l[i]? = some (p, o)) : (l.set i (p, u)).map (·.1) = l.map (·.1) := by
  have hi := (List.getElem?_eq_some_iff.mp e).1
  rw [List.map_set]
  refine List.ext_getElem? fun j => ?_
  rw [List.getElem?_set]
  by_cases c : i = j
  · subst c
    rw [if_pos rfl, if_pos (by rw [List.length_map]; exact hi), List.getElem?_map, e]
    rfl
  · rw [if_neg c]
/-- what is at the i-th address is changed, told by what holds behind it -/
theorem Lv.st' (h : Lv H0 S H l) (i : Nat) (e : l[i]? = some (p, o)) (hp : H' p = some u) (off : ∀ b w, b ≠ p → H b = some w → H' b = some w) : Lv H0 S H' (l.set i (p, u)) := by
  have hi := (List.getElem?_eq_some_iff.mp e).1
  have em := set_fst (u := u) e
  have mem : ∀ q ∈ l.set i (p, u), q = (p, u) ∨ (q ∈ l ∧ q.1 ≠ p) := fun q hq => by
    obtain ⟨j, hj⟩ := List.mem_iff_getElem?.mp hq
    rw [List.getElem?_set] at hj
    by_cases c : i = j
    · rw [if_pos c, if_pos hi] at hj
      cases hj
      exact .inl rfl
    · rw [if_neg c] at hj
      exact .inr ⟨List.mem_of_getElem? hj, fun z => (h.ne i j c e (q := q.1) (u := q.2) hj) z.symm⟩
  refine ⟨by rw [em]; exact h.nd, fun q hq => ?_, fun b w n hb => ?_, fun q hq => ?_, fun b hb => by rw [em]; exact h.sl b hb⟩
  · rcases mem q hq with rfl | ⟨hq, n⟩
    · exact hp
    · exact off _ _ n (h.all q hq)
  · refine off b w (fun z => ?_) (h.fr b w n hb)
    subst z
    rcases h.nw _ (List.mem_of_getElem? e) with z | z
    · exact n z
    · rw [hb] at z; cases z
  · rcases mem q hq with rfl | ⟨hq, _⟩
    · exact h.nw (p, o) (List.mem_of_getElem? e)
    · exact h.nw q hq
/-- what is at the i-th address is changed, and something is new -/
theorem Lv.stn {v : HO} {r : Addr} (h : Lv H0 S H l) (i : Nat) (e : l[i]? = some (p, o)) (hp : H' p = some u) (off : ∀ b w, b ≠ p → H b = some w → H' b = some w) (np : H r = none) (hr : H' r = some v) : Lv H0 S H' ((r, v) :: l.set i (p, u)) :=
  (h.st' i e hp off).cons hr (by rw [set_fst e]; exact h.new np) (h.free np)
theorem Lv.pick (h : Lv H0 S H l) {l' : List (Addr × HO)} (nd : (l'.map (·.1)).Nodup) (sub : ∀ q ∈ l', q ∈ l) (sl : ∀ b ∈ S, b ∈ l'.map (·.1)) : Lv H0 S H l' :=
  ⟨nd, fun q hq => h.all q (sub q hq), h.fr, fun q hq => h.nw q (sub q hq), sl⟩
theorem Lv.pick1 (h : Lv H0 [p] H l) (j : Nat) (ej : l[j]? = some (p, o)) : Lv H0 [p] H [(p, o)] :=
  h.pick (by simp) (fun q hq => by rw [List.mem_singleton.mp hq]; exact List.mem_of_getElem? ej) fun b hb => by rw [List.mem_singleton.mp hb]; simp
theorem Lv.pick2 (h : Lv H0 [p] H l) (i j : Nat) (ne : i ≠ j) (ei : l[i]? = some (q, u)) (ej : l[j]? = some (p, o)) : Lv H0 [p] H [(q, u), (p, o)] :=
  h.pick (by simpa using h.ne i j ne ei ej) (fun q hq => by
    cases hq with
    | head => exact List.mem_of_getElem? ei
    | tail _ hq => rw [List.mem_singleton.mp hq]; exact List.mem_of_getElem? ej) fun b hb => by rw [List.mem_singleton.mp hb]; simp
theorem Lv.pick3 {r : Addr} {v : HO} (h : Lv H0 [p] H l) (i k j : Nat) (n1 : i ≠ k) (n2 : i ≠ j) (n3 : k ≠ j) (ei : l[i]? = some (q, u)) (ek : l[k]? = some (r, v)) (ej : l[j]? = some (p, o)) : Lv H0 [p] H [(q, u), (r, v), (p, o)] :=
  h.pick (by simpa using ⟨⟨h.ne i k n1 ei ek, h.ne i j n2 ei ej⟩, h.ne k j n3 ek ej⟩) (fun q hq => by
    cases hq with
    | head => exact List.mem_of_getElem? ei
    | tail _ hq =>
      cases hq with
      | head => exact List.mem_of_getElem? ek
      | tail _ hq => rw [List.mem_singleton.mp hq]; exact List.mem_of_getElem? ej) fun b hb => by rw [List.mem_singleton.mp hb]; simp
def getAll {α : Type} (l : List α) : List Nat → Option (List α)
  | [] => some []
  | i :: is => match l[i]?, getAll l is with
    | some x, some xs => some (x :: xs)
    | _, _ => none
theorem getAll_mem {α : Type} {l : List α} : ∀ {is : List Nat} {l' : List α}, getAll l is = some l' → ∀ x ∈ l', ∃ i ∈ is, l[i]? = some x
  | [], l', e, x, hx => by cases e; cases hx
  | i :: is, l', e, x, hx => by
    unfold getAll at e
    cases e1 : l[i]? with
    | none => rw [e1] at e; cases e
    | some y =>
      cases e2 : getAll l is with
      | none => rw [e1, e2] at e; cases e
      | some ys =>
        rw [e1, e2] at e
        cases e
        cases hx with
        | head => exact ⟨i, List.mem_cons_self, e1⟩
        | tail _ hx =>
          obtain ⟨j, hj, h⟩ := getAll_mem e2 x hx
          exact ⟨j, List.mem_cons_of_mem _ hj, h⟩
/-- some of what stands -/
theorem Lv.picks (h : Lv H0 S H l) (is : List Nat) {l' : List (Addr × HO)} (e : getAll l is = some l') (nd : is.Nodup) (sl : ∀ b ∈ S, b ∈ l'.map (·.1)) : Lv H0 S H l' := by
  refine h.pick ?_ (fun q hq => ?_) sl
  · clear sl
    induction is generalizing l' with
    | nil => cases e; exact List.nodup_nil
    | cons i is ih =>
      unfold getAll at e
      cases e1 : l[i]? with
      | none => rw [e1] at e; cases e
      | some y =>
        cases e2 : getAll l is with
        | none => rw [e1, e2] at e; cases e
        | some ys =>
          rw [e1, e2] at e
          cases e
          refine List.nodup_cons.mpr ⟨fun z => ?_, ih e2 (List.nodup_cons.mp nd).2⟩
          obtain ⟨q, hq, eq⟩ := List.mem_map.mp z
          obtain ⟨j, hj, ej⟩ := getAll_mem e2 q hq
          exact h.ne i j (fun z => (List.nodup_cons.mp nd).1 (z ▸ hj)) (p := y.1) (o := y.2) (q := q.1) (u := q.2) e1 ej eq.symm
  · obtain ⟨i, _, ei⟩ := getAll_mem e q hq
    exact List.mem_of_getElem? ei
theorem Lv.fresh (h : Lv H0 S H l) (i : Nat) (e : l[i]? = some (p, o)) (n : p ∉ S) : H0 p = none := (h.nw _ (List.mem_of_getElem? e)).resolve_left n
theorem Lv.alE (h : Lv H0 S H l) (np : H p = none) (e : upd H p o = H') : Lv H0 S H' ((p, o) :: l) := e ▸ h.al np
theorem Lv.stE (h : Lv H0 S H l) (i : Nat) (e : l[i]? = some (p, o)) (f : upd H p u = H') : Lv H0 S H' (l.set i (p, u)) := by
  subst f
  exact h.st' i e upd_same fun b w n hb => by rw [upd_ne n]; exact hb
theorem sameE (np : H p = none) (e : upd H p o = H') : Same H H' := e ▸ same_new np
theorem sameN {H1 : Hp} (s : Same H1 H) (np : H1 p = none) (e : upd H p o = H') : Same H1 H' := e ▸ same_upd s np
theorem kv_str (p : Str) : V.str p = kV (.inr p) := rfl
theorem kv_int (i : Int) : V.int i = kV (.inl i) := rfl
/-- all but p -/
theorem Lv.off (h : Lv H0 [p] H l) : ∀ b o, b ≠ p → H0 b = some o → H b = some o := fun b o n hb => h.fr b o (fun z => n (List.mem_singleton.mp z)) hb
theorem Lv.sm (h : Lv H0 [] H l) : Same H0 H := fun b o hb => h.fr b o (fun z => nomatch z) hb
theorem Lv.tl (h : Lv H0 S H ((p, o) :: l)) (n : p ∉ S) : Lv H0 S H l :=
  ⟨(List.nodup_cons.mp h.nd).2, fun q hq => h.all q (List.mem_cons_of_mem _ hq), h.fr, fun q hq => h.nw q (List.mem_cons_of_mem _ hq), fun b hb => by
    have := h.sl b hb
    rw [List.map_cons] at this
    cases this with
    | head => exact absurd hb n
    | tail _ z => exact z⟩
/-- what is told in another way -/
theorem Lv.re {l' : List (Addr × HO)} (h : Lv H0 S H l) (e : l = l') : Lv H0 S H l' := e ▸ h
/-- what stands apart from S -/
theorem Lv.sqL {K : PySem.W.Frag} {xs : List V} (h : Lv H0 S H l) (n : p ∉ S) : SqL K H0 p xs → SqL K H p xs := fun x => x.imp (fun r => r.imp (h.fr _ _ n) fun ⟨o, r⟩ => ⟨o, h.fr _ _ n r⟩) id
theorem Lv.sqT {K : PySem.W.Frag} {xs : List V} (h : Lv H0 S H l) (n : p ∉ S) : SqT K H0 p xs → SqT K H p xs := fun x => x.imp (fun r => r.imp (h.fr _ _ n) fun ⟨o, r⟩ => ⟨o, h.fr _ _ n r⟩) id
theorem Lv.sqS {K : PySem.W.Frag} {xs : List V} (h : Lv H0 S H l) (n : p ∉ S) : SqS K H0 p xs → SqS K H p xs := fun x => x.imp (h.sqL n) (h.sqT n)
/-- a frame within a frame -/
theorem Lv.sub {H1 : Hp} {T : List Addr} {m : List (Addr × HO)} (h : Lv H0 S H l) (k : Lv H T H1 m) (ts : ∀ b ∈ T, b ∈ S ∨ H0 b = none) (hs : ∀ b ∈ S, b ∈ m.map (·.1)) (hm : ∀ p ∈ m, p.1 ∈ S ∨ H0 p.1 = none) : Lv H0 S H1 m :=
  ⟨k.nd, k.all, fun b o n hb => k.fr b o (fun z => by
    rcases ts b z with z | z
    · exact n z
    · rw [hb] at z; cases z) (h.fr b o n hb), hm, hs⟩
end
/-- tuples never change -/
def KeepT (H H' : Hp) : Prop := ∀ b xs, H b = some (.tup xs) → H' b = some (.tup xs)
theorem KeepT.refl (H : Hp) : KeepT H H := fun _ _ h => h
theorem KeepT.trans {H H1 H2 : Hp} (a : KeepT H H1) (b : KeepT H1 H2) : KeepT H H2 := fun c xs h => b c xs (a c xs h)
theorem KeepT.same {H H' : Hp} (s : Same H H') : KeepT H H' := fun b xs h => s b _ h
theorem KeepT.off {H H' : Hp} {p : Addr} {o : HO} (h : H p = some o) (n : ∀ xs, o ≠ .tup xs) (s : ∀ b o, b ≠ p → H b = some o → H' b = some o) : KeepT H H' := fun b xs hb => by
  refine s b _ (fun z => ?_) hb
  rw [z, h] at hb
  exact n xs (Option.some.inj hb)
theorem KeepT.st {H H' : Hp} {p : Addr} {xs : List V} {o : HO} (h : H p = some (.lst xs)) (e : upd H p o = H') : KeepT H H' := e ▸ KeepT.off h (fun _ z => nomatch z) fun b o n hb => by rw [upd_ne n]; exact hb
/-- rows of couples of ints, each a tuple -/
abbrev PairsT (H : Hp) : List V → List (Nat × Nat) → Prop := Paired fun x p => ∃ a, x = .ref a ∧ H a = some (.tup [.int (p.1 : Nat), .int (p.2 : Nat)])
theorem PairsT.keep {H H' : Hp} (k : KeepT H H') : ∀ {xs : List V} {ps : List (Nat × Nat)}, PairsT H xs ps → PairsT H' xs ps
  | _, _, .nil => .nil
  | _, _, .cons ⟨a, e, h⟩ t => .cons ⟨a, e, k _ _ h⟩ (PairsT.keep k t)
/-- rows of couples of texts, each a tuple -/
abbrev TiesT (H : Hp) : List V → List (Str × Str) → Prop := Paired fun x p => ∃ a, x = .ref a ∧ H a = some (.tup [.str p.1, .str p.2])
theorem TiesT.keep {H H' : Hp} (k : KeepT H H') : ∀ {xs : List V} {ps : List (Str × Str)}, TiesT H xs ps → TiesT H' xs ps
  | _, _, .nil => .nil
  | _, _, .cons ⟨a, e, h⟩ t => .cons ⟨a, e, k _ _ h⟩ (TiesT.keep k t)
theorem paired_app {α β : Type} {R : α → β → Prop} : ∀ {xs ys : List α} {ps qs : List β}, Paired R xs ps → Paired R ys qs → Paired R (xs ++ ys) (ps ++ qs)
  | _, _, _, _, .nil, h => h
  | _, _, _, _, .cons a t, h => .cons a (paired_app t h)
theorem paired_at {α β : Type} {R : α → β → Prop} : ∀ {xs : List α} {ps : List β}, Paired R xs ps → ∀ {i : Nat} {x : α}, xs[i]? = some x → ∃ p, ps[i]? = some p ∧ R x p
  | _, _, .cons a _, 0, x, e => by cases e; exact ⟨_, rfl, a⟩
  | _, _, .cons _ t, i + 1, x, e => paired_at t (i := i) e
theorem paired_mem {α β : Type} {R : α → β → Prop} : ∀ {xs : List α} {ps : List β}, Paired R xs ps → ∀ p ∈ ps, ∃ x ∈ xs, R x p
  | _, _, .cons a t, p, h => by
    cases h with
    | head => exact ⟨_, List.mem_cons_self, a⟩
    | tail _ h =>
      obtain ⟨x, hx, r⟩ := paired_mem t p h
      exact ⟨x, List.mem_cons_of_mem _ hx, r⟩
theorem paired_len {α β : Type} {R : α → β → Prop} : ∀ {xs : List α} {ps : List β}, Paired R xs ps → xs.length = ps.length
  | _, _, .nil => rfl
  | _, _, .cons _ t => congrArg (· + 1) (paired_len t)
def pairI (p : Nat × Nat) : PyData := .tuple [.int (p.1 : Nat), .int (p.2 : Nat)]
theorem PairsT.dp {K : PySem.W.Frag} {H : Hp} : ∀ {xs : List V} {ps : List (Nat × Nat)}, PairsT H xs ps → DpAll K H xs (ps.map pairI)
  | _, _, .nil => .nil
  | _, _, .cons ⟨a, e, h⟩ t => .cons (by subst e; exact .tup (SqT.of h) (.cons (.int _) (.cons (.int _) .nil))) (PairsT.dp t)
theorem eqv_pairI (p q : Nat × Nat) : PyData.eqv (pairI p) (pairI q) = decide (p = q) := by
  obtain ⟨a, b⟩ := p
  obtain ⟨c, d⟩ := q
  show PyData.eqvAll [.int (a : Nat), .int (b : Nat)] [.int (c : Nat), .int (d : Nat)] = _
  simp only [PyData.eqvAll, PyData.eqv, Bool.and_true]
  rw [Bool.eq_iff_iff, decide_eq_true_eq, Bool.and_eq_true, beq_iff_eq, beq_iff_eq]
  constructor
  · rintro ⟨h1, h2⟩
    rw [Int.ofNat_inj.mp h1, Int.ofNat_inj.mp h2]
  · intro h
    cases h
    exact ⟨rfl, rfl⟩
theorem any_pairI (ps : List (Nat × Nat)) (q : Nat × Nat) : ((ps.map pairI).any fun z => PyData.eqv z (pairI q)) = decide (q ∈ ps) := by
  rw [Bool.eq_iff_iff, decide_eq_true_eq, List.any_map, List.any_eq_true]
  constructor
  · rintro ⟨y, hy, e⟩
    have e : decide (y = q) = true := (eqv_pairI y q) ▸ e
    exact (of_decide_eq_true e) ▸ hy
  · exact fun h => ⟨q, h, by show PyData.eqv (pairI q) (pairI q) = true; rw [eqv_pairI]; exact decide_eq_true rfl⟩
theorem shaped_pairs (ps : List (Nat × Nat)) : SeqAt.shaped (.list (ps.map pairI)) = true := by
  have h1 : PyData.canLayAll0 (ps.map pairI) = true := by
    induction ps with
    | nil => rfl
    | cons p ps ih => rw [List.map_cons, PyData.canLayAll0, ih]; rfl
  have h2 : PyData.depthAll (ps.map pairI) ≤ 5 := by
    induction ps with
    | nil => simp [PyData.depthAll]
    | cons p ps ih => rw [List.map_cons, PyData.depthAll]; exact Nat.max_le.mpr ⟨by simp [pairI, PyData.depth, PyData.depthAll], ih (by rw [List.map_cons, PyData.canLayAll0] at h1; exact (Bool.and_eq_true_iff.mp h1).2)⟩
  unfold SeqAt.shaped
  rw [PyData.canLay0, h1, Bool.true_and]
  refine decide_eq_true ?_
  rw [PyData.depth]
  omega
theorem shaped_pair (q : Nat × Nat) : SeqAt.shaped (pairI q) = true := by simp [pairI, SeqAt.shaped, PyData.canLay0, PyData.canLayAll0, PyData.depth, PyData.depthAll]
/-- all but instances stands on -/
def SameD (H H' : Hp) : Prop := ∀ b o, H b = some o → (∀ C dx fs, o ≠ .ins C dx fs) → H' b = some o
theorem SameD.of {H H' : Hp} (s : Same H H') : SameD H H' := fun b o e _ => s b o e
theorem SameD.trans {H H1 H2 : Hp} (s : SameD H H1) (t : SameD H1 H2) : SameD H H2 := fun b o e n => t b o (s b o e n) n
theorem SameD.store {H : Hp} {x C dx : Addr} {fs : List (Str × V)} {o : HO} (h : H x = some (.ins C dx fs)) : SameD H (upd H x o) := fun b u e n => by
  rw [upd_ne (fun z => by rw [z, h] at e; cases e; exact n _ _ _ rfl)]
  exact e
theorem SameD.storeE {H H' : Hp} {x C dx : Addr} {fs : List (Str × V)} {o : HO} (h : H x = some (.ins C dx fs)) (e : upd H x o = H') : SameD H H' := e ▸ .store h
theorem free_of {H H' : Hp} {p : Addr} (s : Same H H') (np : H' p = none) : H p = none := by
  cases q : H p with
  | none => rfl
  | some o => rw [s p o q] at np; cases np
end Ct

set_option Elab.async false
set_option linter.all false
set_option maxRecDepth 100000
set_option maxHeartbeats 2000000
/-! Own kit T: a list against [], places as bits of a number. -/
namespace Ct
open PySem PySem.Spec PyProof.Rows L2
section
variable {X : Cx}
/-- xs == [], the list on the right just laid (or any empty list) -/
def rEqNil (K : PySem.W.Frag) (neg : Bool) : R2 := fun x y H Q => ∃ (a b : Addr) (xs : List V), x = .ref a ∧ y = .ref b ∧ SqL K H a xs ∧ SqL K H b [] ∧ Q (.bl (if neg then !xs.isEmpty else xs.isEmpty)) H
theorem op_eqNil (hu : X.A.units + 64 < cLine) : OpR X (compareOp .Eq) (rEqNil X.K false) := by
  intro pins s σ H x y v u Q I rx ry h
  obtain ⟨a, b, xs, rfl, rfl, hx, hy, q⟩ := h
  cases rx; cases ry
  obtain ⟨its, r, ht, hz⟩ := I.list hx
  obtain ⟨its2, r2, ht2, hz2⟩ := I.list hy
  cases r2
  have hl := r.length
  have room : X.A.units < cLine := by omega
  cases xs with
  | nil =>
    cases r
    exact SeqAt.RcAt.lists (e := fun _ => true) ht.isList ht2.isList rfl room (fun j j1 _ => absurd j1 (Nat.not_lt_zero _)) X.prog X.w X.xe _ ⟨.bl true, H, I, rfl, q⟩
  | cons z xs =>
    refine SeqAt.RcAt.lists_lengths ht.isList ht2.isList ?_ room X.prog X.w X.xe _ ⟨.bl false, H, I, rfl, q⟩
    rw [List.size_toArray, ← hl]
    rfl
theorem op_neNil (hu : X.A.units + 64 < cLine) : OpR X (compareOp .NotEq) (rEqNil X.K true) := by
  intro pins s σ H x y v u Q I rx ry h
  obtain ⟨a, b, xs, rfl, rfl, hx, hy, q⟩ := h
  cases rx; cases ry
  obtain ⟨its, r, ht, hz⟩ := I.list hx
  obtain ⟨its2, r2, ht2, hz2⟩ := I.list hy
  cases r2
  have hl := r.length
  have room : X.A.units < cLine := by omega
  cases xs with
  | nil =>
    cases r
    exact SeqAt.RcNeAt.lists (e := fun _ => true) ht.isList ht2.isList rfl room (fun j j1 _ => absurd j1 (Nat.not_lt_zero _)) X.prog X.w X.xe _ ⟨.bl false, H, I, rfl, q⟩
  | cons z xs =>
    refine SeqAt.RcNeAt.lists_lengths ht.isList ht2.isList ?_ room X.prog X.w X.xe _ ⟨.bl true, H, I, rfl, q⟩
    rw [List.size_toArray, ← hl]
    rfl
end
end Ct
namespace Ct
open PySem PySem.Spec PyProof.Rows L2
theorem op_inDk {X : Cx} {K : PySem.W.Frag} (hK : X.K = K) (hu : X.A.units + 65 < cLine) : OpR X (compareOp .In) (rInD K) := hK ▸ op_inD hu
theorem op_notInDk {X : Cx} {K : PySem.W.Frag} (hK : X.K = K) (hu : X.A.units + 65 < cLine) : OpR X (compareOp .NotIn) (rNotInD K) := hK ▸ op_notInD hu
end Ct
namespace Ct
open PySem PySem.Spec PyProof.Rows L2
theorem bitOr_nat (a b : Nat) : Builtin.bitOr (a : Int) (b : Int) = ((a ||| b : Nat) : Int) := by
  have n1 : ∀ a : Nat, ¬ (0 : Int) ≤ -(a : Int) - 1 := fun a => by omega
  have n2 : ∀ a : Nat, (-(-(a : Int) - 1) - 1).toNat = a := fun a => by omega
  unfold Builtin.bitOr Builtin.bitAnd Builtin.bitNot
  rw [decide_eq_false (n1 a), decide_eq_false (n1 b)]
  dsimp only
  rw [n2, n2]
  omega
theorem bitAnd_nat (a b : Nat) : Builtin.bitAnd (a : Int) (b : Int) = ((a &&& b : Nat) : Int) := by
  unfold Builtin.bitAnd
  rw [decide_eq_true (Int.natCast_nonneg a), decide_eq_true (Int.natCast_nonneg b)]
  rfl
section
variable {X : Cx}
def rNat (g : Nat → Nat → V) : R2 := fun x y H Q => ∃ a b : Nat, x = .int (a : Nat) ∧ y = .int (b : Nat) ∧ Q (g a b) H
/-- n >> k, n & m, n | m, n |= m, 1 << k for numbers from 0 on -/
theorem op_shrB : OpR X (binaryOp .RShift) (rNat fun a b => .int ((a / 2 ^ b : Nat))) := by
  intro pins s σ H x y v u Q I rx ry h
  obtain ⟨a, b, rfl, rfl, q⟩ := h
  refine op_shrN pins s σ H _ _ v u Q I rx ry ⟨a, b, rfl, rfl, ?_⟩
  rw [show (a : Int) / 2 ^ b = ((a / 2 ^ b : Nat) : Int) by rw [Int.natCast_ediv, Int.natCast_pow]; rfl]
  exact q
theorem op_andB : OpR X (binaryOp .BitAnd) (rNat fun a b => .int ((a &&& b : Nat))) := by
  intro pins s σ H x y v u Q I rx ry h
  obtain ⟨a, b, rfl, rfl, q⟩ := h
  exact op_and pins s σ H _ _ v u Q I rx ry ⟨a, b, rfl, rfl, by dsimp only; rw [bitAnd_nat]; exact q⟩
theorem op_orB : OpR X (binaryOp .BitOr) (rNat fun a b => .int ((a ||| b : Nat))) := by
  intro pins s σ H x y v u Q I rx ry h
  obtain ⟨a, b, rfl, rfl, q⟩ := h
  exact op_or pins s σ H _ _ v u Q I rx ry ⟨a, b, rfl, rfl, by dsimp only; rw [bitOr_nat]; exact q⟩
theorem iop_orB : OpR X (inplaceOp .BitOr) (rNat fun a b => .int ((a ||| b : Nat))) := by
  intro pins s σ H x y v u Q I rx ry h
  obtain ⟨a, b, rfl, rfl, q⟩ := h
  exact iop_or pins s σ H _ _ v u Q I rx ry ⟨a, b, rfl, rfl, by dsimp only; rw [bitOr_nat]; exact q⟩
theorem op_shlB : OpR X (binaryOp .LShift) (fun x y H Q => ∃ b : Nat, x = .int 1 ∧ y = .int (b : Nat) ∧ b ≤ 1000 ∧ Q (.int ((2 ^ b : Nat))) H) := by
  intro pins s σ H x y v u Q I rx ry h
  obtain ⟨b, rfl, rfl, hb, q⟩ := h
  refine op_oneShl pins s σ H _ _ v u Q I rx ry ⟨b, rfl, rfl, by omega, ?_⟩
  rw [show (2 : Int) ^ b = ((2 ^ b : Nat) : Int) by rw [Int.natCast_pow]; rfl]
  exact q
end
/-- the positions of a number's bits -/
def bitsL (N : Nat) : List Nat := (List.range (Builtin.Int.intBits (N : Int))).filter N.testBit
theorem bitsL_of {N n : Nat} (h : N < 2 ^ n) : bitsL N = (List.range n).filter N.testBit := by
  have h1 : Builtin.Int.intBits (N : Int) ≤ n := intBits_le_iff.mpr (by simpa using h)
  have h2 : N < 2 ^ Builtin.Int.intBits (N : Int) := by
    have := intBits_le_iff (m := Builtin.Int.intBits (N : Int)) (x := (N : Int))
    simpa using this.mp (Nat.le_refl _)
  unfold bitsL
  obtain ⟨d, rfl⟩ := Nat.le.dest h1
  rw [List.range_add, List.filter_append]
  have e : (List.map (fun x => Builtin.Int.intBits (N : Int) + x) (List.range d)).filter N.testBit = [] := by
    refine List.filter_eq_nil_iff.mpr fun i hi => ?_
    obtain ⟨j, _, rfl⟩ := List.mem_map.mp hi
    rw [Nat.testBit_lt_two_pow (Nat.lt_of_lt_of_le h2 (Nat.pow_le_pow_right (by decide) (Nat.le_add_right _ _)))]
    decide
  rw [e, List.append_nil]
theorem odd_test (N k : Nat) : ((N / 2 ^ k) % 2 = 1) ↔ N.testBit k = true := by
  rw [Nat.testBit_eq_decide_div_mod_eq, decide_eq_true_eq]
end Ct
namespace Ct
open PySem PySem.Spec PyProof.Rows L2
theorem ix_tupk {X : Cx} {K : PySem.W.Frag} (hK : X.K = K) : IxR X (rIxT K) := hK ▸ ix_tup
theorem ix_listk {X : Cx} {K : PySem.W.Frag} (hK : X.K = K) : IxR X (rIxL K) := hK ▸ ix_list
/-- numbers as values -/
abbrev natV (n : Nat) : V := .int (n : Nat)
end Ct
namespace Ct
open PySem PySem.Spec PyProof.Rows L2
def tTru (K : PySem.W.Frag) (ta : TE) : TT := fun σ H Q => ta σ H fun x H' => ∃ k, TruV K x H' k ∧ Q k H'
/-- a value's truth, the written part named -/
theorem pt_truthk {X : Cx} {K : PySem.W.Frag} {a : Expr} {ta : TE} (hK : X.K = K) (ha : PE X a ta) (he : ∀ whole, isTrue a X.env whole = (do let v ← whole; standAt a.pos; holding [v] (truthy v))) :
    PT X a (tTru K ta) := hK ▸ pt_truth ha he
end Ct
namespace Ct
open PySem PySem.Spec PyProof.Rows L2
section
variable {X : Cx} {K : PySem.W.Frag}
theorem pe_fldk {e : Expr} {f : Str} {pos : Pos} {ta : TE} (hK : X.K = K) (he : PE X e ta) (hb : attributeBase e f X.env (eval e X.env) = eval e X.env) : PE X (.Attribute e f pos) (tFld K ta f) := hK ▸ pe_fld he hb
theorem op_eqNilk (hK : X.K = K) (hu : X.A.units + 64 < cLine) : OpR X (compareOp .Eq) (rEqNil K false) := hK ▸ op_eqNil hu
theorem op_neNilk (hK : X.K = K) (hu : X.A.units + 64 < cLine) : OpR X (compareOp .NotEq) (rEqNil K true) := hK ▸ op_neNil hu
def rLen (K : PySem.W.Frag) : List V → Hp → VK → Prop := fun xs H Q => ∃ x n, xs = [x] ∧ LenV K x H n ∧ Q (.int n) H
theorem call_lenk (hK : X.K = K) : CallR X (.builtin "len") (rLen K) := hK ▸ call_len
theorem sl_listk (hK : X.K = K) : SlR X (rSlL K) := hK ▸ sl_list
end
end Ct
namespace Ct
open PySem PySem.Spec PyProof.Rows L2
/-- the number with just the bits below n that pass -/
def maskOf (f : Nat → Bool) : Nat → Nat
  | 0 => 0
  | n + 1 => maskOf f n ||| (if f n then 2 ^ n else 0)
theorem test_mask (f : Nat → Bool) (i : Nat) : ∀ n, (maskOf f n).testBit i = (decide (i < n) && f i)
  | 0 => by simp [maskOf]
  | n + 1 => by
    rw [maskOf, Nat.testBit_or, test_mask f i n]
    by_cases e : i = n
    · subst e
      cases h : f i <;> simp [h, Nat.testBit_two_pow]
    · have : (if f n = true then 2 ^ n else 0).testBit i = false := by
        split
        · rw [Nat.testBit_two_pow]
          exact decide_eq_false fun z => e z.symm
        · simp
      rw [this, Bool.or_false]
      congr 1
      rw [Bool.eq_iff_iff, decide_eq_true_eq, decide_eq_true_eq]
      omega
theorem mask_lt (f : Nat → Bool) (n : Nat) : maskOf f n < 2 ^ n := Nat.lt_pow_two_of_testBit _ fun i hi => by
  rw [test_mask, decide_eq_false (by omega), Bool.false_and]
theorem mask_congr {f g : Nat → Bool} {n : Nat} (h : ∀ i, i < n → f i = g i) : maskOf f n = maskOf g n := Nat.eq_of_testBit_eq fun i => by
  rw [test_mask, test_mask]
  by_cases c : i < n
  · rw [h i c]
  · rw [decide_eq_false c]; rfl
/-- a dict from names to numbers -/
def DN (kvs : List (Key × V)) (ns : List Str) (f : Str → Nat) (B : Nat) : Prop := kvs.length ≤ B ∧ ∀ p ∈ ns, valV kvs (.inr p) = some (natV (f p))
theorem DN.snoc {kvs : List (Key × V)} {ns : List Str} {f : Str → Nat} {B : Nat} {p : Str} {v : Nat} (h : DN kvs ns f B) (e : f p = v) : DN (putK kvs (.inr p) (natV v)) (ns ++ [p]) f (B + 1) := by
  refine ⟨Nat.le_trans (length_putK kvs _ _) (Nat.succ_le_succ h.1), fun q hq => ?_⟩
  rw [valV_put]
  by_cases c : q = p
  · rw [if_pos (by rw [c]), c, e]
  · rw [if_neg (fun z => c (Sum.inr.inj z))]
    rcases List.mem_append.mp hq with z | z
    · exact h.2 q z
    · exact absurd (List.mem_singleton.mp z) c
theorem DN.upd {kvs : List (Key × V)} {ns : List Str} {f g : Str → Nat} {B v : Nat} {p : Str} (h : DN kvs ns f B) (ev : g p = v) (e : ∀ q ∈ ns, q ≠ p → g q = f q) : DN (putK kvs (.inr p) (natV v)) ns g (B + 1) := by
  subst ev
  refine ⟨Nat.le_trans (length_putK kvs _ _) (Nat.succ_le_succ h.1), fun q hq => ?_⟩
  rw [valV_put]
  by_cases c : q = p
  · rw [if_pos (by rw [c]), c]
  · rw [if_neg (fun z => c (Sum.inr.inj z)), h.2 q hq, e q hq c]
theorem dgetN {H : Hp} {a : Addr} {kvs : List (Key × V)} {p : Str} {v : V} (h : H a = some (.dK kvs)) (e : valV kvs (.inr p) = some v) : DGet H a (.str p) (some v) := e ▸ DGet.k (k := Sum.inr p) h
theorem dputN {H : Hp} {a : Addr} {kvs : List (Key × V)} {p : Str} {v : V} (h : H a = some (.dK kvs)) (l : kvs.length < sizeLine) : DPut H a (.str p) v (upd H a (.dK (putK kvs (.inr p) v))) := DPut.k (k := Sum.inr p) h l
end Ct
namespace Ct
open PySem PySem.Spec PyProof.Rows L2
theorem in_orB {X : Cx} : InOp X .BitOr (rNat fun a b => .int ((a ||| b : Nat))) := fun pins s σ H x y u v Q I rx ry h => iop_orB pins s σ H x y u v Q I rx ry h
theorem pg_tupk {X : Cx} {K : PySem.W.Frag} {pos : Pos} {es : List Expr} {k : Nat} {t : TGs} {n : Nat} (hK : X.K = K) (hc : X.calm = true) (h : PGs X es t) (hn : (assignEach es X.env).length = n := by rfl) (hst : (assignEach es X.env).findIdx? (·.1) = none := by rfl) : PG X (.Tuple es k pos) (gTup K n t) := hK ▸ pg_tup hc h hn hst
end Ct
namespace Ct
open PySem PySem.Spec PyProof.Rows L2
theorem str_at {ns : List Str} {i : Nat} {x : V} (h : (ns.map V.str)[i]? = some x) : ∃ p, ns[i]? = some p ∧ x = .str p := by
  rw [List.getElem?_map] at h
  cases e : ns[i]? with
  | none => rw [e] at h; cases h
  | some p => rw [e] at h; exact ⟨p, rfl, (Option.some.inj h).symm⟩
theorem take_next2 {α : Type} {l : List α} {i : Nat} {x : α} (h : l[i]? = some x) : l.take (i + 1) = l.take i ++ [x] := by rw [List.take_succ, h]; rfl
end Ct
namespace Ct
open PySem PySem.Spec PyProof.Rows L2
theorem walk_zipT {K : PySem.W.Frag} {a b : Addr} {xs ys : List V} {n : Nat} (hn : n = min xs.length ys.length) : Walk (RZ.ItzT K a b) n (fun H => SqT K H a xs ∧ SqT K H b ys) (YPair (fun i => xs[i]?) (fun i => ys[i]?)) := by
  subst hn
  refine ⟨fun i _ hi q => ?_, fun _ q => ⟨xs, ys, q.1, q.2, by omega⟩, fun i H v H' _ q y => ?_⟩
  · have h1 : i < xs.length := by omega
    have h2 : i < ys.length := by omega
    exact ⟨xs, ys, xs[i], ys[i], q.1, q.2, by simp [h1], by simp [h2]⟩
  · obtain ⟨T, x, z, h1, h2, h3, h4, h5⟩ := y
    exact ⟨T, x, z, h1, h2, h3, h4 xs q.1, h5 ys q.2⟩
end Ct
namespace Ct
open PySem
theorem filter_one (f : Str → Bool) (q : Str) : [q].filter f = if f q = true then [q] else [] := by
  cases e : f q <;> simp [List.filter, e]
end Ct
namespace Ct
open PySem PySem.Spec PyProof.Rows L2
section
variable {X : Cx} {CX : CXT} {k : Nat} {f C : Addr} {fd : FuncData} {ps : List Str} {sp : Sp} {dvs : List V} {ds : List Value} {E : L2.St → XK} {x : Str} {p pos : Pos} {e : Expr} {es : List Expr} {t : TA}
/-- C(..), its reading in other words -/
theorem pe_makeG {G : List V → Hp → VK → Prop} (M : Mk X.K C f) (F : FnOk X.prog X.w X.K X.mg X.base CX k f fd ps sp) (hr : Room (k + 1) X.A) (hg : Gl X x) (hm : X.mg x = some (.ref C)) (hb : Binds X.K fd ps ds) (hd : Vals dvs ds)
    (hG : ∀ (vs : List V) (H1 : Hp) (Q : VK) (σ : L2.St) (x dx : Addr), G vs H1 Q → H1 x = none → H1 dx = none → dx ≠ x → sp (.ref x :: (vs ++ dvs)) (upd (upd H1 dx (.own x)) x (.ins C dx [])) (fun v H2 => v = .non ∧ Q (.ref x) H2) (E σ))
    (hx : ∀ (pins : List (Addr × Obj)) (σ : L2.St) (H : Hp) (s : Shared) (e : Value) (s' : Shared), Inv X pins σ H s → CX X.stack H s (E σ) e s' → X.xe e s')
    (ha : PA X (e :: es) t) (hdb : (x == ("__debug__" : Str)) = false := by decide) (he : starEach (e :: es) X.env = (false, eval e X.env) :: starEach es X.env := by rfl) (hpl : (backTo pos (starEach es X.env)).any (·.1) = false := by rfl) :
    PE X (.Call (.Name x p) (e :: es) [] pos) (fun σ H Q => t σ H fun vs H1 => G vs H1 Q) := by
  refine ⟨fun pins s σ H Q I h => ?_⟩
  refine wpAny_Call_Name_kw (ld_glob I hg hm ?_ hdb)
  refine PySem.W.callWith_K (h₀ := X.base) I.ok.mod.kin M.kp (thn (ha.run pos pins s σ H _ I h) fun us s1 ⟨vs, H1, I1, r, q⟩ => ⟨I1.kIn, ?_⟩) he hpl
  have hq := hG vs H1 _ σ (s1.heap.objs.size + 1) s1.heap.objs.size q (I1.hok.fresh (Nat.le_succ _)) (I1.hok.fresh (Nat.le_refl _)) (Nat.ne_of_lt (Nat.lt_succ_self _))
  have I2 := Inv.made (C := C) I1
  have r2 : Vals (V.ref (s1.heap.objs.size + 1) :: (vs ++ dvs)) (Value.ref (s1.heap.objs.size + 1) :: (us ++ ds)) := .cons rfl (r.append hd)
  have hl : (Value.ref (s1.heap.objs.size + 1) :: us ++ ds).length = ps.length := by
    have e := r2.length
    rw [F.len _ _ _ _ hq] at e
    exact e.symm
  refine wpAny_call (make_map (f := f) I1.kIn M.makes M.init (beq_iff_eq.mp M.fn) (codeAny_mono (F.run _ X.stack _ _ ⟨Value.ref (s1.heap.objs.size + 1) :: us, []⟩ (Value.ref (s1.heap.objs.size + 1) :: (us ++ ds)) _ _ (E σ) (hr.make C us [])
    (I2.env0.make C us []) (hb _ (Value.ref (s1.heap.objs.size + 1) :: us) I2.kIn hl) r2 hq) fun r s' hq' => ?_))
  match r, hq' with
  | .error e, hq' => exact hx pins σ _ _ e s' I2 hq'
  | .ok .next, hq' => exact False.elim hq'
  | .ok .brk, hq' => exact False.elim hq'
  | .ok .cont, hq' => exact False.elim hq'
  | .ok (.ret u), hq' =>
    obtain ⟨v, H', I3, rv, ev, q3⟩ := I2.after hq'
    subst ev
    exact ⟨rv, ⟨V.ref (s1.heap.objs.size + 1), H', I3, rfl, q3⟩⟩
end
end Ct
namespace Ct
open PySem PySem.Spec PyProof.Rows L2
/-- t + u, told by what it is -/
def rCatT2 (K : PySem.W.Frag) : R2 := fun x y H Q => ∃ a b xs ys, x = .ref a ∧ y = .ref b ∧ SqT K H a xs ∧ SqT K H b ys ∧ xs.length + ys.length ≤ sizeLine ∧ ∀ t H', Same H H' → SqT K H' t (xs ++ ys) → Q (.ref t) H'
theorem op_catT2 {X : Cx} : OpR X (binaryOp .Add) (rCatT2 X.K) := by
  intro pins s σ H x y v u Q I rx ry h
  obtain ⟨a, b, xs, ys, rfl, rfl, ha, hb, hz, q⟩ := h
  refine op_catA pins s σ H _ _ v u Q I rx ry ⟨a, b, xs, ys, rfl, rfl, ha, hb, hz, fun e => ?_, fun _ e => ?_, fun _ _ p hp => ?_⟩
  · subst e
    exact q b H (Same.refl H) hb
  · subst e
    exact q a H (Same.refl H) (by rw [List.append_nil]; exact ha)
  · exact q p _ (same_new hp) (SqT.of upd_same)
end Ct

set_option linter.all false
/-! Where each def of this row stands. -/
namespace Pw
open PySem
def top (i : Nat) : Stmt := PySem.Challenge.pw_cornerturn_k56_texts_refused.main.body.getD i (.Pass ⟨0, 0, 0, 0⟩)
abbrev ix_wall : Nat := 0
abbrev ix_WebError : Nat := 2
abbrev ix_BadPlaces : Nat := 3
abbrev mx_BadPlaces_init : Nat := 0
abbrev ix_BadTies : Nat := 4
abbrev mx_BadTies_init : Nat := 0
abbrev ix_BadTie : Nat := 5
abbrev mx_BadTie_init : Nat := 0
abbrev ix_NoPlace : Nat := 6
abbrev mx_NoPlace_init : Nat := 0
abbrev ix_BadText : Nat := 7
abbrev mx_BadText_init : Nat := 0
abbrev ix_bits_of : Nat := 9
abbrev ix_is_name : Nat := 14
abbrev ix_is_place : Nat := 15
abbrev ix_check_place : Nat := 16
abbrev ix_all_differ : Nat := 17
abbrev ix_check_places : Nat := 18
abbrev ix_is_tie : Nat := 19
abbrev ix_pair : Nat := 20
abbrev ix_check_ties : Nat := 21
abbrev ix_sights : Nat := 22
abbrev ix_Web : Nat := 23
abbrev mx_Web_init : Nat := 0
abbrev mx_Web_eq : Nat := 1
abbrev mx_Web_places : Nat := 2
abbrev mx_Web_ties : Nat := 3
abbrev mx_Web_sees : Nat := 4
abbrev mx_Web_whole : Nat := 5
abbrev mx_Web_named : Nat := 6
abbrev mx_Web_sights : Nat := 7
abbrev mx_Web_kept : Nat := 8
abbrev mx_Web_keep : Nat := 9
abbrev mx_Web_parts : Nat := 10
abbrev mx_Web_part_of : Nat := 11
abbrev mx_Web_without : Nat := 12
abbrev mx_Web_tied : Nat := 13
abbrev ix_web_text : Nat := 25
abbrev ix_read_web : Nat := 26
abbrev ix_is_next_place : Nat := 27
abbrev ix_is_next_tie : Nat := 28
abbrev ix_law_source : Nat := 30
abbrev ix_law_draw : Nat := 31
abbrev ix_law_pick : Nat := 32
abbrev ix_law_mixed : Nat := 33
abbrev ix_law_word : Nat := 34
abbrev ix_law_names : Nat := 35
abbrev ix_law_pairs : Nat := 36
abbrev ix_law_plan : Nat := 37
abbrev ix_law_web : Nat := 38
abbrev ix_law_is_name : Nat := 39
abbrev ix_law_first_bad : Nat := 40
abbrev ix_law_told : Nat := 41
abbrev ix_law_bent : Nat := 42
abbrev ix_law : Nat := 43
end Pw

set_option Elab.async false
set_option linter.all false
set_option maxRecDepth 100000
set_option maxHeartbeats 4000000
namespace Pw
open PySem PySem.Spec PyProof.Rows L2 Ct
/-- the built-ins that the text leaves as they are -/
structure Bn (mg : Str → Option Value) : Prop where
  z_int : mg "int" = none
  z_str : mg "str" = none
  z_bool : mg "bool" = none
  z_len : mg "len" = none
  z_range : mg "range" = none
  z_max : mg "max" = none
  z_min : mg "min" = none
  z_isinstance : mg "isinstance" = none
  z_list : mg "list" = none
  z_tuple : mg "tuple" = none
  z_set : mg "set" = none
  z_dict : mg "dict" = none
  z_repr : mg "repr" = none
  z_all : mg "all" = none
  z_any : mg "any" = none
  z_sorted : mg "sorted" = none
  z_enumerate : mg "enumerate" = none
  z_zip : mg "zip" = none
  z_sum : mg "sum" = none
  z_reversed : mg "reversed" = none
/-- the constants of webs -/
structure Mc (mg : Str → Option Value) : Prop where
  g_MOST_PLACES : ∃ t, mg "MOST_PLACES" = some (.int 12 t)
  g_MOST_LETTERS : ∃ t, mg "MOST_LETTERS" = some (.int 8 t)
  g_LETTERS : ∃ t, mg "LETTERS" = some (.str "abcdefghijklmnopqrstuvwxyz" t)
section
variable {X : Cx} {x : Str} {pos : Pos}
theorem pe_gi {i : Int} (hg : Gl X x) (h : ∃ t, X.mg x = some (.int i t)) (hd : (x == ("__debug__" : Str)) = false := by decide) : PE X (.Name x pos) (tC (.int i)) := by
  obtain ⟨t, h⟩ := h
  exact pe_glob hg h ⟨t, rfl⟩ hd
theorem pe_gs {z : Str} (hg : Gl X x) (h : ∃ t, X.mg x = some (.str z t)) (hd : (x == ("__debug__" : Str)) = false := by decide) : PE X (.Name x pos) (tC (.str z)) := by
  obtain ⟨t, h⟩ := h
  exact pe_glob hg h ⟨t, rfl⟩ hd
end
/-- the signs of names -/
abbrev LT : Str := "abcdefghijklmnopqrstuvwxyz"
def okSigns (x : Str) : Bool := x.cps.toList.all fun c => decide (c ∈ LT.cps.toList)
def okName (x : Str) : Bool := decide (1 ≤ x.length) && decide (x.length ≤ 8) && okSigns x
/-- is_name of any datum -/
def nameD : PyData → Bool
  | .str x => okName x
  | _ => false
def spIsName (K : PySem.W.Frag) : Sp := fun vs H Q _ => ∃ (v : V) (d : PyData), vs = [v] ∧ Dq K H v d ∧ (∀ x, d = .str x → x.length ≤ sizeLine) ∧ ∀ H', Same H H' → Q (.bl (nameD d)) H'
section
variable {P : Program} {w : World} {K : PySem.W.Frag} {mg : Str → Option Value} {base : Heap}
abbrev sIsName : Stmt := top ix_is_name
theorem scIsName : FnScope ["value", "sign"] ["value"] (defScope sIsName) := ⟨rfl, rfl, rfl, by decide +kernel, rfl, by decide +kernel, by decide +kernel⟩
theorem has_is_name (T : Bn mg) (M : Mc mg) (D : DFE K mg "is_name" sIsName ["value"]) : Has P w K mg base CX0 1 "is_name" ["value"] (spIsName K) := by
  refine has_of D scIsName (fun vs H Q E h => ?_) (fun f cdv A outer s H vs Q E hr h => ?_)
  · obtain ⟨v, d, rfl, _⟩ := h; rfl
  · obtain ⟨v, d, rfl, hd, hl, k⟩ := h
    have nd := scIsName.nd
    refine ⟨_, (pss_cons (ps_if (pt_not (pt_val (pe_callB call_isD (by rfl) T.z_isinstance (by decide +kernel) (pa_cons (pv 0) (pa_cons (pe_bltn (v := .ty "str") rfl T.z_str (by decide +kernel) rfl) pa_nil))))) (pss_one (ps_ret pe_bl)) pss_nil)
    (pss_one (ps_ret (pe_and (pe_chain op_le op_le pe_int (pe_callB call_len_str (by rfl) T.z_len (by decide +kernel) (pa_cons (pv 0) pa_nil)) (pe_gi rfl M.g_MOST_LETTERS)) (pe_one (pe_callB (cr_all rfl) (by rfl) T.z_all (by decide +kernel) (pa_cons (pe_lc (own := [("sign", 1)]) (g := gName 1) (tt := tYes) rfl nd (pi_str (pv 0)) (blkOk_by (own := [("sign", 1)]) (N := ["value", "sign"]) (sc := defScope sIsName) (by decide +kernel)) (fun _ _ _ _ _ => (pg_name (i := 1) nd rfl (by first | exact Or.inl rfl | exact Or.inr rfl))) (fun _ _ _ _ _ => pts_nil) (fun _ _ _ _ _ => (pe_cmpR op_in_sign (pv 1) (pe_gs rfl M.g_LETTERS) (by first | exact nomark _ | rfl)))) pa_nil))))))), ?_⟩
    refine ⟨_, rfl, _, d, "str", _, rfl, hd, kit_str d, _, rfl, ?_⟩
    cases d with
    | str x =>
      cases hd
      refine ⟨_, rfl, x, rfl, hl x rfl, ?_⟩
      refine ⟨_, _, rfl, rfl, _, rfl, ?_⟩
      have fin : ∀ (b : Bool), b = okName x → Q (.bl b) H := fun b e => by subst e; exact k H (Same.refl H)
      have len : ((x.length : Nat) : Int) = (x.cps.size : Nat) := rfl
      refine ite2 (fun c1 => ?_) (fun c1 => ?_)
      · have c1 := of_decide_eq_true c1
        refine ⟨_, _, rfl, rfl, _, rfl, ?_⟩
        refine ite2 (fun c2 => ?_) (fun c2 => ?_)
        · have c2 := of_decide_eq_true c2
          refine ⟨_, rfl, x, rfl, fun L nL => ?_⟩
          refine lc_it walk_str (fun i H' => Same H H' ∧ ∃ bs : List Bool, H' L = some (.lst (bs.map V.bl)) ∧ bs = (x.cps.toList.take i).map fun c => decide (c ∈ LT.cps.toList)) ⟨same_new nL, [], upd_same, rfl⟩ (fun _ _ _ _ => True.intro) ?_ ?_
          · rintro i z H1 H2 hi ⟨sm, bs, hL, hb⟩ ⟨rfl, c, hc, rfl⟩
            refine ⟨rfl, ⟨_, rfl, c, _, rfl, rfl, bs.map V.bl, hL, ?_, ?_⟩⟩
            · rw [List.length_map, hb, List.length_map]
              exact Nat.lt_of_le_of_lt (List.length_take_le _ _) (Nat.lt_of_lt_of_le hi (Nat.le_trans (show x.cps.size ≤ 8 by have : x.length = x.cps.size := rfl; omega) (by decide)))
            · refine ⟨same_upd sm nL, bs ++ [decide (c ∈ LT.cps.toList)], ?_, ?_⟩
              · rw [upd_same, List.map_append]; rfl
              · have ht : x.cps.toList[i]? = some c := by rw [Array.getElem?_toList]; exact hc
                rw [hb, List.take_succ, ht]
                simp
          · rintro H1 ⟨sm, bs, hL, hb⟩
            refine ⟨L, bs, rfl, SqL.of hL, ?_⟩
            rw [hb, show x.cps.size = x.cps.toList.length from rfl, List.take_length, List.all_map]
            have e : okName x = okSigns x := by
              unfold okName
              rw [decide_eq_true (show 1 ≤ x.length by omega), decide_eq_true (show x.length ≤ 8 by omega)]
              rfl
            have z := k _ sm
            show Q (.bl (okSigns x)) H1
            rw [← e]
            exact z
        · refine fin false ?_
          unfold okName
          rw [show decide (x.length ≤ 8) = false from decide_eq_false (fun z => c2 (decide_eq_true (by omega)))]
          simp
      · refine ⟨_, rfl, iteF (fin false ?_)⟩
        unfold okName
        rw [show decide (1 ≤ x.length) = false from decide_eq_false (fun z => c1 (decide_eq_true (by omega)))]
        simp
    | _ => exact k H (Same.refl H)
end
end Pw

set_option Elab.async false
set_option linter.all false
set_option maxRecDepth 100000
set_option maxHeartbeats 4000000
namespace Pw
open PySem PySem.Spec PyProof.Rows L2 Ct
theorem iteNN {c A B : Prop} [Decidable c] (hc : ¬ c) (h : A) : if (!decide c) = true then A else B := by
  rw [decide_eq_false hc]
  exact iteT h
/-- names: a list or tuple of texts -/
abbrev Nms (K : PySem.W.Frag) (H : Hp) (a : Addr) (ns : List Str) : Prop := SqS K H a (ns.map V.str)
theorem map_kv (ns : List Str) : (ns.map Sum.inr : List Key).map kV = ns.map V.str := by rw [List.map_map]; rfl
theorem nodup_inr {ns : List Str} : (ns.map (Sum.inr : Str → Key)).Nodup ↔ ns.Nodup := by
  constructor
  · exact fun h => List.Pairwise.of_map _ (fun _ _ hne e => hne (congrArg _ e)) h
  · exact fun h => List.Pairwise.map _ (fun _ _ hne e => hne (Sum.inr.inj e)) h
def spAllDiffer (K : PySem.W.Frag) : Sp := fun vs H Q _ => ∃ (a : Addr) (ns : List Str), vs = [.ref a] ∧ Nms K H a ns ∧ ns.length < 4096 ∧ ∀ H', Same H H' → (ns.Nodup → Q (.bl true) H') ∧ (¬ ns.Nodup → Q (.bl false) H')
/-- a tuple of two data -/
def tieD : PyData → Option (PyData × PyData)
  | .tuple [x, y] => some (x, y)
  | _ => none
/-- the datum is a tie among the names -/
def tieOf (ns : List Str) : PyData → Option (Str × Str)
  | .tuple [x, y] => match x, y with
    | .str a, .str b => if a ∈ ns ∧ b ∈ ns ∧ a ≠ b then some (a, b) else none
    | _, _ => none
  | _ => none
theorem tie_no1 {ns : List Str} {x y : PyData} (h : amid x ns = false) : tieOf ns (.tuple [x, y]) = none := by
  cases x with
  | str a =>
    cases y with
    | str b => exact if_neg fun z => Bool.noConfusion (h.symm.trans (amid_str.mpr z.1))
    | _ => rfl
  | _ => rfl
theorem tie_no2 {ns : List Str} {x y : PyData} (h : amid y ns = false) : tieOf ns (.tuple [x, y]) = none := by
  cases x with
  | str a =>
    cases y with
    | str b => exact if_neg fun z => Bool.noConfusion (h.symm.trans (amid_str.mpr z.2.1))
    | _ => rfl
  | _ => rfl
theorem tie_yes {ns : List Str} {x y : Str} (h1 : amid (.str x) ns = true) (h2 : amid (.str y) ns = true) : (tieOf ns (.tuple [.str x, .str y])).isSome = !decide (V.str x = V.str y) := by
  show (if x ∈ ns ∧ y ∈ ns ∧ x ≠ y then some (x, y) else none).isSome = _
  by_cases e : x = y
  · rw [if_neg (fun z => z.2.2 e), e]; simp
  · rw [if_pos ⟨amid_str.mp h1, amid_str.mp h2, e⟩, decide_eq_false (fun z => e (V.str.inj z))]; rfl
/-- no dict within -/
def flatD : PyData → Bool
  | .dict _ => false
  | _ => true
mutual
def noDict : PyData → Bool
  | .dict _ => false
  | .list xs => noDicts xs
  | .tuple xs => noDicts xs
  | _ => true
def noDicts : List PyData → Bool
  | [] => true
  | x :: xs => noDict x && noDicts xs
end
mutual
theorem Dq.dp {K : PySem.W.Frag} {H : Hp} : ∀ {v : V} {d : PyData}, Dq K H v d → noDict d = true → Dp K H v d
  | _, _, .non, _ => .non
  | _, _, .bl b, _ => .bl b
  | _, _, .int i, _ => .int i
  | _, _, .str x, _ => .str x
  | _, _, .lst h a, n => .lst h (DqAll.dp a (by simpa [noDict] using n))
  | _, _, .tup h a, n => .tup h (DqAll.dp a (by simpa [noDict] using n))
  | _, _, .dic _ _ _ _, n => absurd n (by simp [noDict])
  | _, _, .dicT _ _ _ _, n => absurd n (by simp [noDict])
theorem DqAll.dp {K : PySem.W.Frag} {H : Hp} : ∀ {vs : List V} {ds : List PyData}, DqAll K H vs ds → noDicts ds = true → DpAll K H vs ds
  | _, _, .nil, _ => .nil
  | _, _, .cons h a, n => by
    rw [noDicts, Bool.and_eq_true] at n
    exact .cons (Dq.dp h n.1) (DqAll.dp a n.2)
end
/-- the entries are of a kind that can be compared -/
def plainTie : PyData → Prop
  | .tuple [x, y] => noDict x = true ∧ noDict y = true
  | _ => True
def spIsTie (K : PySem.W.Frag) : Sp := fun vs H Q _ => ∃ (a : Addr) (ns : List Str) (v : V) (d : PyData), vs = [.ref a, v] ∧ Nms K H a ns ∧ Dq K H v d ∧ plainTie d ∧ Q (.bl (tieOf ns d).isSome) H
/-- a tie's pair: the lesser text first -/
def ltS (x y : Str) : Bool := decide (x.cps.toList < y.cps.toList)
def pairS (x y : Str) : Str × Str := if ltS x y = true then (x, y) else (y, x)
def TupS (K : PySem.W.Frag) (H : Hp) (a : Addr) (p : Str × Str) : Prop := SqT K H a [.str p.1, .str p.2]
def spPair (K : PySem.W.Frag) : Sp := fun vs H Q _ => ∃ (a : Addr) (x y : Str), vs = [.ref a] ∧ TupS K H a (x, y) ∧ ∀ p, H p = none → Q (.ref p) (upd H p (.tup [.str (pairS x y).1, .str (pairS x y).2]))
section
variable {P : Program} {w : World} {K : PySem.W.Frag} {mg : Str → Option Value} {base : Heap}
abbrev sAllDiffer : Stmt := top ix_all_differ
theorem scAllDiffer : FnScope ["names"] ["names"] (defScope sAllDiffer) := ⟨rfl, rfl, rfl, by decide +kernel, rfl, by decide +kernel, by decide +kernel⟩
theorem has_all_differ (T : Bn mg) (D : DFE K mg "_all_differ" sAllDiffer ["names"]) : Has P w K mg base CX0 1 "_all_differ" ["names"] (spAllDiffer K) := by
  refine has_of D scAllDiffer (fun vs H Q E h => ?_) (fun f cdv A outer s H vs Q E hr h => ?_)
  · obtain ⟨a, ns, rfl, _⟩ := h; rfl
  · obtain ⟨a, ns, rfl, ha, hl, k⟩ := h
    have nd := scAllDiffer.nd
    refine ⟨_, (pss_one (ps_ret (pe_cmpR op_eq (pe_callB call_lenK (by rfl) T.z_len (by decide +kernel) (pa_cons (pe_callTy (call_setOf rfl) (by rfl) T.z_set (by decide +kernel) (pa_cons (pv 0) pa_nil)) pa_nil)) (pe_callB call_len_seq (by rfl) T.z_len (by decide +kernel) (pa_cons (pv 0) pa_nil)) (by first | exact nomark _ | rfl)))), ?_⟩
    refine ⟨_, rfl, a, ns.map Sum.inr, rfl, by rw [map_kv]; exact ha, by rw [List.length_map]; exact hl, fun p hp => ?_⟩
    have u := same_new (o := SetK P w p (fun k => (ns.map Sum.inr : List Key).any (fun j => decide (j = k))) (cnt (ns.map Sum.inr) (ns.map (Sum.inr : Str → Key)).length)) hp
    obtain ⟨H', hH'⟩ : ∃ H', H' = upd H p (SetK P w p (fun k => (ns.map Sum.inr : List Key).any (fun j => decide (j = k))) (cnt (ns.map Sum.inr) (ns.map (Sum.inr : Str → Key)).length)) := ⟨_, rfl⟩
    obtain ⟨k1, k2⟩ := k _ u
    rw [← hH'] at k1 k2
    refine ⟨p, _, _, rfl, upd_same, _, rfl, a, ns.map V.str, rfl, SqS.same u ha, rfl, ?_⟩
    have e : decide ((cnt (ns.map (Sum.inr : Str → Key)) (ns.map (Sum.inr : Str → Key)).length : Int) = ((ns.map V.str).length : Nat)) = decide ns.Nodup := by
      have z := cnt_eq (ns.map (Sum.inr : Str → Key)) _ (Nat.le_refl _)
      rw [List.take_length, nodup_inr] at z
      refine decide_eq_decide.mpr (Iff.trans ?_ z)
      rw [List.length_map, List.length_map]
      omega
    have ev : decide (V.int (cnt (ns.map (Sum.inr : Str → Key)) (ns.map (Sum.inr : Str → Key)).length : Nat) = V.int ((ns.map V.str).length : Nat)) = decide ns.Nodup := by
      rw [← e]
      exact decide_eq_decide.mpr ⟨fun z => V.int.inj z, fun z => congrArg V.int z⟩
    have fin : Q (.bl (decide ns.Nodup)) H' := by
      by_cases c : ns.Nodup
      · rw [decide_eq_true c]; exact k1 c
      · rw [decide_eq_false c]; exact k2 c
    rw [← ev, hH'] at fin
    exact fin
abbrev sIsTie : Stmt := top ix_is_tie
theorem scIsTie : FnScope ["places", "value", "one", "other"] ["places", "value"] (defScope sIsTie) := ⟨rfl, rfl, rfl, by decide +kernel, rfl, by decide +kernel, by decide +kernel⟩
theorem has_is_tie (T : Bn mg) (D : DFE K mg "_is_tie" sIsTie ["places", "value"]) : Has P w K mg base CX0 1 "_is_tie" ["places", "value"] (spIsTie K) := by
  refine has_of D scIsTie (fun vs H Q E h => ?_) (fun f cdv A outer s H vs Q E hr h => ?_)
  · obtain ⟨a, ns, v, d, rfl, _⟩ := h; rfl
  · obtain ⟨a, ns, v, d, rfl, ha, hd, pl, k⟩ := h
    have nd := scIsTie.nd
    refine ⟨_, (pss_cons (ps_if (PW.pt (pw_or (pt_not (pt_val (pe_callB call_isD (by rfl) T.z_isinstance (by decide +kernel) (pa_cons (pv 1) (pa_cons (pe_bltn (v := .ty "tuple") rfl T.z_tuple (by decide +kernel) rfl) pa_nil))))) (pw_or1 (pt_cmpR op_ne (pe_callB call_len_seq (by rfl) T.z_len (by decide +kernel) (pa_cons (pv 1) pa_nil)) pe_int (by first | exact nomark _ | rfl))))) (pss_one (ps_ret pe_bl)) pss_nil)
    (pss_cons (ps_asg (pv 1) (pg_tup rfl (pgs_cons (pg_name (i := 2) nd rfl (by first | exact Or.inl rfl | exact Or.inr rfl)) (pgs_cons (pg_name (i := 3) nd rfl (by first | exact Or.inl rfl | exact Or.inr rfl)) pgs_nil))))
    (pss_one (ps_ret (pe_and (pe_cmpR (or_amid hr.units) (pv 2) (pv 0) (by first | exact nomark _ | rfl)) (pe_and (pe_cmpR (or_amid hr.units) (pv 3) (pv 0) (by first | exact nomark _ | rfl)) (pe_one (pe_cmpR op_ne (pv 2) (pv 3) (by first | exact nomark _ | rfl))))))))), ?_⟩
    have no : tieOf ns d = none → Q (.bl false) H := fun e => by rw [e] at k; exact k
    refine ⟨_, rfl, _, d, "tuple", _, rfl, hd, kit_tuple d, _, rfl, ?_⟩
    cases hd with
    | @tup t xs ds ht hx =>
      refine iteF ⟨_, rfl, _, _, rfl, .inr ht, rfl, _, rfl, ?_⟩
      cases hx with
      | nil => exact iteT (no rfl)
      | @cons v1 vs1 d1 ds1 h1 hx =>
        cases hx with
        | nil => exact iteT (no rfl)
        | @cons v2 vs2 d2 ds2 h2 hx =>
          cases hx with
          | @cons v3 vs3 d3 ds3 h3 hx =>
            refine iteNN (fun z => ?_) (no rfl)
            have := V.int.inj z
            simp only [List.length_cons] at this
            omega
          | nil =>
            refine iteNS rfl ?_
            obtain ⟨p1, p2⟩ := pl
            refine ⟨_, rfl, t, _, rfl, ht, rfl, ?_⟩
            refine ⟨_, _, rfl, _, _, rfl, rfl, ?_⟩
            refine ⟨_, rfl, _, rfl, d1, a, ns, rfl, ha, Dq.dp h1 p1, ?_⟩
            rw [if_neg (by decide)]
            refine ⟨_, rfl, ?_⟩
            have two : ∀ b : Bool, b = (tieOf ns (.tuple [d1, d2])).isSome → Q (.bl b) H := fun b e => by subst e; exact k
            cases c1 : amid d1 ns with
            | false => exact iteF (two false (by rw [tie_no1 c1]; rfl))
            | true =>
              refine iteT ⟨_, rfl, _, rfl, d2, a, ns, rfl, ha, Dq.dp h2 p2, ?_⟩
              rw [if_neg (by decide)]
              refine ⟨_, rfl, ?_⟩
              cases c2 : amid d2 ns with
              | false => exact iteF (two false (by rw [tie_no2 c2]; rfl))
              | true =>
                refine iteT ?_
                cases d1 with
                | str x =>
                  cases d2 with
                  | str y =>
                    cases h1
                    cases h2
                    exact ⟨_, rfl, _, rfl, rfl, two _ (tie_yes c1 c2).symm⟩
                  | _ => exact absurd c2 Bool.false_ne_true
                | _ => exact absurd c1 Bool.false_ne_true
    | _ => exact no rfl
abbrev sPair : Stmt := top ix_pair
theorem scPair : FnScope ["tie", "one", "other"] ["tie"] (defScope sPair) := ⟨rfl, rfl, rfl, by decide +kernel, rfl, by decide +kernel, by decide +kernel⟩
theorem has_pair (D : DFE K mg "_pair" sPair ["tie"]) : Has P w K mg base CX0 1 "_pair" ["tie"] (spPair K) := by
  refine has_of D scPair (fun vs H Q E h => ?_) (fun f cdv A outer s H vs Q E hr h => ?_)
  · obtain ⟨a, x, y, rfl, _⟩ := h; rfl
  · obtain ⟨a, x, y, rfl, ha, k⟩ := h
    have nd := scPair.nd
    refine ⟨_, (pss_cons (ps_asg (pv 0) (pg_tup rfl (pgs_cons (pg_name (i := 1) nd rfl (by first | exact Or.inl rfl | exact Or.inr rfl)) (pgs_cons (pg_name (i := 2) nd rfl (by first | exact Or.inl rfl | exact Or.inr rfl)) pgs_nil))))
    (pss_one (ps_ret (pe_ifExp (pt_cmpR op_lt_str (pv 1) (pv 2) (by first | exact nomark _ | rfl)) (pe_tup (pa_cons (pv 1) (pa_cons (pv 2) pa_nil))) (pe_tup (pa_cons (pv 2) (pa_cons (pv 1) pa_nil))))))), ?_⟩
    refine ⟨_, rfl, a, _, rfl, ha, rfl, _, _, rfl, _, _, rfl, rfl, ?_⟩
    refine ⟨_, rfl, _, rfl, _, _, rfl, rfl, _, rfl, ?_⟩
    have kk : ∀ p, H p = none → Q (.ref p) (upd H p (.tup [.str (pairS x y).1, .str (pairS x y).2])) := k
    unfold pairS ltS at kk
    refine ite2 (fun c => ?_) (fun c => ?_)
    · rw [if_pos c] at kk
      exact ⟨_, rfl, _, rfl, by show 2 ≤ sizeLine; decide, kk⟩
    · rw [if_neg c] at kk
      exact ⟨_, rfl, _, rfl, by show 2 ≤ sizeLine; decide, kk⟩
end
end Pw

set_option Elab.async false
set_option linter.all false
set_option maxRecDepth 100000
set_option maxHeartbeats 4000000
namespace Pw
open PySem PySem.Spec PyProof.Rows L2 Ct
/-- the items of a list or a tuple -/
def seqD : PyData → Option (List PyData)
  | .list ds => some ds
  | .tuple ds => some ds
  | _ => none
/-- the texts among data -/
def strsD : List PyData → List Str
  | [] => []
  | .str x :: ds => x :: strsD ds
  | _ :: ds => strsD ds
/-- the places that a datum is -/
def placesOf (d : PyData) : Option (List Str) := match seqD d with
  | some ds => if (1 ≤ ds.length ∧ ds.length ≤ 12) ∧ ds.all nameD = true ∧ (strsD ds).Nodup then some (strsD ds) else none
  | none => none
/-- the texts within are of a length that can be walked -/
def txtOk (d : PyData) : Prop := ∀ ds, seqD d = some ds → ds.length ≤ 4000 ∧ ∀ x, PyData.str x ∈ ds → x.length ≤ sizeLine
theorem strs_of {K : PySem.W.Frag} {H : Hp} : ∀ {xs : List V} {ds : List PyData}, DqAll K H xs ds → ds.all nameD = true → xs = (strsD ds).map V.str ∧ (strsD ds).length = ds.length
  | _, _, .nil, _ => ⟨rfl, rfl⟩
  | _, _, .cons (d := d) h t, n => by
    rw [List.all_cons, Bool.and_eq_true] at n
    obtain ⟨e1, e2⟩ := strs_of t n.2
    cases d with
    | str x =>
      cases h
      exact ⟨by rw [e1]; rfl, by show (strsD _).length + 1 = _ + 1; rw [e2]⟩
    | _ => exact absurd n.1 Bool.false_ne_true
/-- a list or a tuple, its items -/
theorem seq_of {K : PySem.W.Frag} {H : Hp} {v : V} {d : PyData} (h : Dq K H v d) {ds : List PyData} (e : seqD d = some ds) : ∃ a xs, v = .ref a ∧ SqS K H a xs ∧ DqAll K H xs ds ∧ xs.length = ds.length := by
  have len : ∀ {xs : List V} {ds : List PyData}, DqAll K H xs ds → xs.length = ds.length := by
    intro xs
    induction xs with
    | nil => intro ds h; cases h; rfl
    | cons x xs ih => intro ds h; cases h with | cons h t => rw [List.length_cons, List.length_cons, ih t]
  cases h with
  | @lst a xs ds' hs ha => cases e; exact ⟨a, xs, rfl, .inl hs, ha, len ha⟩
  | @tup a xs ds' hs ha => cases e; exact ⟨a, xs, rfl, .inr hs, ha, len ha⟩
  | _ => cases e
theorem kit_seq (d : PyData) : ∃ b1 b2, kitB (dty d) "list" = some b1 ∧ kitB (dty d) "tuple" = some b2 ∧ (b1 || b2) = (seqD d).isSome := by
  cases d <;> exact ⟨_, _, kit_list _, kit_tuple _, rfl⟩
theorem dqAll_at {K : PySem.W.Frag} {H : Hp} : ∀ {xs : List V} {ds : List PyData}, DqAll K H xs ds → ∀ {i : Nat} {x : V}, xs[i]? = some x → ∃ d, ds[i]? = some d ∧ Dq K H x d
  | _, _, .nil, _, _, e => by simp at e
  | _, _, .cons h t, 0, _, e => by simp at e; subst e; exact ⟨_, rfl, h⟩
  | _, _, .cons h t, i + 1, _, e => by
    obtain ⟨d, e1, e2⟩ := dqAll_at t (i := i) (by simpa using e)
    exact ⟨d, by simpa using e1, e2⟩
/-- what is raised: the class, its own dict with the one field -/
def Raised (C : Addr) (f : Str) (H : Hp) (v : V) (E : XK) : Prop := ∀ d H', Same H H' → H d = none → H' d = some (.xd [(f, v)]) → E (.ref C) (some d) H'
def spCheckPlaces (K : PySem.W.Frag) (C : Addr) : Sp := fun vs H Q E => ∃ (v : V) (d : PyData), vs = [v] ∧ Dq K H v d ∧ txtOk d ∧ ((placesOf d).isSome = true → ∀ H', Same H H' → Q .non H') ∧ (placesOf d = none → Raised C "value" H v E)
section
variable {P : Program} {w : World} {K : PySem.W.Frag} {mg : Str → Option Value} {base : Heap} {C : Addr}
abbrev sCheckPlaces : Stmt := top ix_check_places
theorem scCheckPlaces : FnScope ["places", "place"] ["places"] (defScope sCheckPlaces) := ⟨rfl, rfl, rfl, by decide +kernel, rfl, by decide +kernel, by decide +kernel⟩
theorem has_check_places (T : Bn mg) (M : Mc mg) (D : DFE K mg "_check_places" sCheckPlaces ["places"]) (h_is_name : Has P w K mg base CX0 1 "is_name" ["value"] (spIsName K)) (h_all_differ : Has P w K mg base CX0 1 "_all_differ" ["names"] (spAllDiffer K))
    (hE_BadPlaces : HasE P w K mg base 1 "BadPlaces" C "value") : HasR P w K mg base 3 "_check_places" ["places"] (spCheckPlaces K C) := by
  refine hasR_of D scCheckPlaces (fun vs H Q E h => ?_) (fun f cdv A outer s H vs Q E hr h => ?_)
  · obtain ⟨v, d, rfl, _⟩ := h; rfl
  · obtain ⟨v, d, rfl, hd, hx, ky, kn⟩ := h
    have nd := scCheckPlaces.nd
    refine ⟨_, (pss_cons (ps_if (PW.pt (pw_or (pt_not (pt_val (pe_callB call_isDT (by rfl) T.z_isinstance (by decide +kernel) (pa_cons (pv 0) (pa_cons (pe_tup (pa_cons (pe_bltn (v := .ty "list") rfl T.z_list (by decide +kernel) rfl) (pa_cons (pe_bltn (v := .ty "tuple") rfl T.z_tuple (by decide +kernel) rfl) pa_nil))) pa_nil))))) (pw_or1 (pt_not (pt_chain op_le op_le pe_int (pe_callB call_len_seq (by rfl) T.z_len (by decide +kernel) (pa_cons (pv 0) pa_nil)) (pe_gi rfl M.g_MOST_PLACES)))))) (pss_one (ps_raise rfl (takes_of rfl rfl rfl rfl) (pmk_x hE_BadPlaces hr (by decide) rfl (pv 0)))) pss_nil)
    (pss_one (ps_if (PW.pt (pw_or (pt_not (pt_val (pe_callB (cr_all rfl) (by rfl) T.z_all (by decide +kernel) (pa_cons (pe_lc (own := [("place", 1)]) (g := gName 1) (tt := tYes) rfl nd (pi_sq (pv 0)) (blkOk_by (own := [("place", 1)]) (N := ["places", "place"]) (sc := defScope sCheckPlaces) (by decide +kernel)) (fun _ _ _ _ _ => (pg_name (i := 1) nd rfl (by first | exact Or.inl rfl | exact Or.inr rfl))) (fun _ _ _ _ _ => pts_nil) (fun _ _ _ _ _ => (pe_h h_is_name hr (by decide) rfl (pa_cons (pv 1) pa_nil)))) pa_nil)))) (pw_or1 (pt_not (pt_val (pe_h h_all_differ hr (by decide) rfl (pa_cons (pv 0) pa_nil))))))) (pss_one (ps_raise rfl (takes_of rfl rfl rfl rfl) (pmk_x hE_BadPlaces hr (by decide) rfl (pv 0)))) pss_nil))), ?_⟩
    -- what is raised
    have bad : placesOf d = none → ∀ H1, Same H H1 → ∀ e, H1 e = none → E (.ref C) (some e) (upd H1 e (.xd [("value", v)])) := fun z H1 s1 e he =>
      kn z e _ (same_upd s1 (by cases q : H e with | none => rfl | some o => rw [s1 e o q] at he; cases he)) (by cases q : H e with | none => rfl | some o => rw [s1 e o q] at he; cases he) upd_same
    obtain ⟨b1, b2, k1, k2, kb⟩ := kit_seq d
    refine ⟨_, rfl, by show 2 ≤ sizeLine; decide, fun tp ntp => ?_⟩
    have u := same_new (o := .tup [.ty "list", .ty "tuple"]) ntp
    refine ⟨_, tp, d, "list", "tuple", b1, b2, rfl, upd_same, Dq.same u hd, k1, k2, _, rfl, ?_⟩
    generalize upd H tp _ = H1 at u ⊢
    rw [kb]
    cases e : seqD d with
    | none =>
      have z : placesOf d = none := by unfold placesOf; rw [e]
      refine iteT (iteT ⟨_, rfl, fun x hx => bad z _ u x hx⟩)
    | some ds =>
      obtain ⟨a, xs, rfl, hs, ha, hl⟩ := seq_of hd e
      obtain ⟨lx, tx⟩ := hx ds e
      have out : ¬ (1 ≤ ds.length ∧ ds.length ≤ 12) → placesOf d = none := fun z => by
        unfold placesOf
        rw [e]
        exact if_neg fun y => z y.1
      refine iteF ?_
      refine ⟨_, rfl, a, xs, rfl, hs.same u, _, _, rfl, rfl, _, rfl, ?_⟩
      refine ite2 (fun c1 => ?_) (fun c1 => ?_)
      · have c1 := of_decide_eq_true c1
        refine ⟨_, _, rfl, rfl, _, rfl, ?_⟩
        by_cases c2 : xs.length ≤ 12
        · rw [decide_eq_true (show ((xs.length : Nat) : Int) ≤ 12 by omega)]
          refine iteF ?_
          -- all names are names, then they differ
          refine ⟨_, rfl, a, xs, rfl, hs.same u, fun J G ex hG wk L nL => ?_⟩
          refine lc_it wk (fun i H2 => Same H1 H2 ∧ ∃ bs : List Bool, H2 L = some (.lst (bs.map V.bl)) ∧ bs = (ds.take i).map nameD) ⟨same_new nL, [], upd_same, rfl⟩ (fun i H2 _ p => hG H2 (.same p.1)) ?_ ?_
          · rintro i x H2 H3 hi ⟨sm, bs, hL, hb⟩ ⟨rfl, hxi⟩
            obtain ⟨dx, hdx, hqx⟩ := dqAll_at ha hxi
            have s2 := u.trans sm
            refine ⟨rfl, ⟨_, rfl, x, dx, rfl, Dq.same s2 hqx, fun z hz => tx z (hz ▸ List.mem_of_getElem? hdx), fun H4 s4 => ?_⟩⟩
            refine ⟨bs.map V.bl, s4 L _ hL, ?_, same_upd (sm.trans s4) nL, bs ++ [nameD dx], by rw [upd_same, List.map_append]; rfl, by rw [hb, List.take_succ, hdx]; simp⟩
            rw [List.length_map, hb, List.length_map, sizeLine_eq]
            have := List.length_take_le i ds
            have := (List.getElem?_eq_some_iff.mp hdx).1
            omega
          · rintro H2 ⟨sm, bs, hL, hb⟩
            refine ⟨L, bs, rfl, SqL.of hL, _, rfl, ?_⟩
            rw [hl, List.take_length] at hb
            rw [hb, List.all_map]
            have s2 := u.trans sm
            cases al : ds.all nameD with
            | false =>
              rw [show ds.all (id ∘ nameD) = ds.all nameD from rfl, al]
              refine iteT (iteT ⟨_, rfl, fun x hx => bad ?_ _ s2 x hx⟩)
              unfold placesOf
              rw [e]
              exact if_neg fun z => Bool.noConfusion (al.symm.trans z.2.1)
            | true =>
              rw [show ds.all (id ∘ nameD) = ds.all nameD from rfl, al]
              obtain ⟨ex, en⟩ := strs_of ha al
              refine iteF ?_
              subst ex
              refine ⟨_, rfl, a, strsD ds, rfl, hs.same s2, by omega, fun H3 s3 => ⟨fun c => ?_, fun c => ?_⟩⟩
              · refine ⟨_, rfl, iteF (ky ?_ _ (s2.trans s3))⟩
                unfold placesOf
                rw [e]
                show (if _ then _ else _ : Option (List Str)).isSome = true
                rw [if_pos ⟨⟨by omega, by omega⟩, al, c⟩]
                rfl
              · refine ⟨_, rfl, iteT ⟨_, rfl, fun x hx => bad ?_ _ (s2.trans s3) x hx⟩⟩
                unfold placesOf
                rw [e]
                exact if_neg fun z => c z.2.2
        · rw [decide_eq_false (show ¬ ((xs.length : Nat) : Int) ≤ 12 by omega)]
          exact iteT ⟨_, rfl, fun x hx => bad (out (by omega)) _ u x hx⟩
      · have c1 : ¬ (1 : Int) ≤ ((xs.length : Nat) : Int) := fun z => c1 (decide_eq_true z)
        refine ⟨_, rfl, iteT ⟨_, rfl, fun x hx => bad (out (by omega)) _ u x hx⟩⟩
end
end Pw

set_option Elab.async false
set_option linter.all false
set_option maxRecDepth 100000
set_option maxHeartbeats 4000000
namespace Pw
open PySem PySem.Spec PyProof.Rows L2 Ct
/-- ties that stand: tuples of two texts -/
abbrev TiesAt (K : PySem.W.Frag) (H : Hp) : List V → List (Str × Str) → Prop := Paired fun x p => ∃ a, x = .ref a ∧ TupS K H a p
theorem TiesAt.same {K : PySem.W.Frag} {H H' : Hp} (s : Same H H') : ∀ {xs : List V} {ps : List (Str × Str)}, TiesAt K H xs ps → TiesAt K H' xs ps
  | _, _, .nil => .nil
  | _, _, .cons ⟨a, e, h⟩ t => .cons ⟨a, e, same_t s h⟩ (TiesAt.same s t)
theorem ties_at {K : PySem.W.Frag} {H : Hp} : ∀ {xs : List V} {ps : List (Str × Str)}, TiesAt K H xs ps → ∀ {i : Nat} {x : V}, xs[i]? = some x → ∃ p a, ps[i]? = some p ∧ x = .ref a ∧ TupS K H a p
  | _, _, .nil, _, _, e => by simp at e
  | _, _, .cons ⟨a, e2, h⟩ t, 0, _, e => by simp at e; subst e; exact ⟨_, a, rfl, e2, h⟩
  | _, _, .cons _ t, i + 1, _, e => by
    obtain ⟨p, a, e1, e2⟩ := ties_at t (i := i) (by simpa using e)
    exact ⟨p, a, by simpa using e1, e2⟩
/-- a pair as a set's key -/
def keyQ (q : Str × Str) : List Key := [.inr q.1, .inr q.2]
theorem keyQ_inj {q r : Str × Str} (h : keyQ q = keyQ r) : q = r := by
  obtain ⟨a, b⟩ := q
  obtain ⟨c, d⟩ := r
  injection h with h1 h2
  injection h2 with h2 _
  have e1 : a = c := Sum.inr.inj h1
  have e2 : b = d := Sum.inr.inj h2
  rw [e1, e2]
def pairP (p : Str × Str) : Str × Str := pairS p.1 p.2
/-- the place of the first datum that is no further tie -/
def tieBad (ns : List Str) : List (Str × Str) → Nat → List PyData → Option Nat
  | _, _, [] => none
  | ps, i, d :: ds => match tieOf ns d with
    | none => some i
    | some p => if pairP p ∈ ps then some i else tieBad ns (pairP p :: ps) (i + 1) ds
/-- only the list's members count -/
theorem tieBad_mem (ns : List Str) : ∀ (ds : List PyData) (ps qs : List (Str × Str)) (i : Nat), (∀ k, k ∈ ps ↔ k ∈ qs) → tieBad ns ps i ds = tieBad ns qs i ds
  | [], _, _, _, _ => rfl
  | d :: ds, ps, qs, i, h => by
    unfold tieBad
    cases tieOf ns d with
    | none => rfl
    | some p =>
      by_cases c : pairP p ∈ ps
      · simp only [if_pos c, if_pos ((h _).mp c)]
      · simp only [if_neg c, if_neg (fun z => c ((h _).mpr z))]
        exact tieBad_mem ns ds _ _ _ fun k => by rw [List.mem_cons, List.mem_cons, h k]
/-- the set at D holds the pairs -/
def SetAt (P : Program) (w : World) (K : PySem.W.Frag) (H : Hp) (D : Addr) (ps : List (Str × Str)) (n : Nat) : Prop := ∃ L : List Mem, H D = some (KSetO P w D L) ∧ Mems K H L ∧ L.length ≤ n ∧ ∀ q, keyQ q ∈ L.map (·.2) ↔ q ∈ ps
theorem sqT_off {K : PySem.W.Frag} {H H' : Hp} {D c : Addr} {xs : List V} {φ : Heap → Prop} (h : SqT K H c xs) (hD : H D = some (.ext φ)) (o : ∀ c, c ≠ D → H' c = H c) : SqT K H' c xs := by
  rcases h with (h | ⟨ob, h⟩) | h
  · exact .inl (.inl (by rw [o c (ne_of h hD (by intro z; cases z))]; exact h))
  · exact .inl (.inr ⟨ob, by rw [o c (ne_of h hD (by intro z; cases z))]; exact h⟩)
  · exact .inr h
theorem set_add {P : Program} {w : World} {K : PySem.W.Frag} {H : Hp} {D b : Addr} {ps : List (Str × Str)} {n : Nat} {q : Str × Str} {Q : Hp → Prop} (S : SetAt P w K H D ps n) (hb : TupS K H b q) (hn : n + 1 < 77)
    (k : ∀ H', (∀ c, c ≠ D → H' c = H c) → SetAt P w K H' D (q :: ps) (n + 1) → Q H') : rKAdd K P w D b H Q := by
  obtain ⟨L, hD, hm, hl, hq⟩ := S
  refine kadd_in (k := keyQ q) hD hm hb (by omega) fun L' H' hD' o hj hp hl' => k H' o ⟨L', hD', fun p hpm => ?_, by omega, fun r => ?_⟩
  · rcases hp p hpm with rfl | hp
    · exact sqT_off hb hD o
    · exact sqT_off (hm p hp) hD o
  · rw [hj, List.mem_cons, hq]
    exact ⟨fun z => z.elim (fun e => .inl (keyQ_inj e)) .inr, fun z => z.elim (fun e => .inl (congrArg keyQ e)) .inr⟩
theorem set_in {P : Program} {w : World} {K : PySem.W.Frag} {H : Hp} {D b : Addr} {ps : List (Str × Str)} {n : Nat} {q : Str × Str} {Q : VK} (S : SetAt P w K H D ps n) (hb : TupS K H b q) (h1 : q ∈ ps → Q (.bl true) H) (h2 : q ∉ ps → Q (.bl false) H) : rKIn K P w (.ref b) (.ref D) H Q := by
  obtain ⟨L, hD, hm, hl, hq⟩ := S
  exact ⟨D, b, L, keyQ q, rfl, rfl, hD, hm, hb, fun z => h1 ((hq q).mp z), fun z => h2 fun y => z ((hq q).mpr y)⟩
theorem tie_tup {K : PySem.W.Frag} {H : Hp} {ns : List Str} {v : V} {d : PyData} {p : Str × Str} (h : Dq K H v d) (e : tieOf ns d = some p) : ∃ b, v = .ref b ∧ TupS K H b p := by
  cases h with
  | @tup b xs ds hs ha =>
    cases ha with
    | nil => cases e
    | @cons x1 xs1 d1 ds1 h1 ha =>
      cases ha with
      | nil => cases e
      | @cons x2 xs2 d2 ds2 h2 ha =>
        cases ha with
        | cons h3 ha => cases e
        | nil =>
          cases d1 with
          | str x =>
            cases d2 with
            | str y =>
              cases h1
              cases h2
              have e : (if x ∈ ns ∧ y ∈ ns ∧ x ≠ y then some (x, y) else none) = some p := e
              by_cases c : x ∈ ns ∧ y ∈ ns ∧ x ≠ y
              · rw [if_pos c] at e
                cases e
                exact ⟨b, rfl, hs⟩
              · rw [if_neg c] at e
                cases e
            | _ => cases e
          | _ => cases e
  | _ => cases e
theorem SetAt.mem {P : Program} {w : World} {K : PySem.W.Frag} {H : Hp} {D : Addr} {ps qs : List (Str × Str)} {n : Nat} (h : ∀ q, q ∈ ps ↔ q ∈ qs) : SetAt P w K H D ps n → SetAt P w K H D qs n
  | ⟨L, hD, hm, hl, hq⟩ => ⟨L, hD, hm, hl, fun q => (hq q).trans (h q)⟩
theorem SetAt.same {P : Program} {w : World} {K : PySem.W.Frag} {H H' : Hp} {D : Addr} {ps : List (Str × Str)} {n : Nat} (s : Same H H') : SetAt P w K H D ps n → SetAt P w K H' D ps n
  | ⟨L, hD, hm, hl, hq⟩ => ⟨L, s _ _ hD, fun p hp => same_t s (hm p hp), hl, hq⟩
def spCheckTies (K : PySem.W.Frag) (CS CT : Addr) : Sp := fun vs H Q E => ∃ (a kt : Addr) (ns : List Str) (xs : List V) (ks : List (Str × Str)) (v : V) (d : PyData), vs = [.ref a, .ref kt, v] ∧ Nms K H a ns ∧ SqS K H kt xs ∧ TiesAt K H xs ks ∧ Dq K H v d ∧
  (seqD d = none → Raised CS "value" H v E) ∧ ∀ ds, seqD d = some ds → (∀ e ∈ ds, plainTie e) ∧ ks.length + ds.length ≤ 75 ∧ (tieBad ns (ks.map pairP) 0 ds = none → ∀ H', Same H H' → Q .non H') ∧ (∀ i, tieBad ns (ks.map pairP) 0 ds = some i → Raised CT "position" H (.int i) E)
section
variable {P : Program} {w : World} {K : PySem.W.Frag} {mg : Str → Option Value} {base : Heap} {CS CT : Addr}
abbrev sCheckTies : Stmt := top ix_check_ties
theorem scCheckTies : FnScope ["places", "known", "ties", "pairs", "tie", "position", "entry"] ["places", "known", "ties"] (defScope sCheckTies) := ⟨rfl, rfl, rfl, by decide +kernel, rfl, by decide +kernel, by decide +kernel⟩
theorem has_check_ties (T : Bn mg) (D : DFE K mg "_check_ties" sCheckTies ["places", "known", "ties"]) (h_is_tie : Has P w K mg base CX0 1 "_is_tie" ["places", "value"] (spIsTie K)) (h_pair : Has P w K mg base CX0 1 "_pair" ["tie"] (spPair K))
    (hE_BadTies : HasE P w K mg base 1 "BadTies" CS "value") (hE_BadTie : HasE P w K mg base 1 "BadTie" CT "position") : HasR P w K mg base 3 "_check_ties" ["places", "known", "ties"] (spCheckTies K CS CT) := by
  refine hasR_of D scCheckTies (fun vs H Q E h => ?_) (fun f cdv A outer s H vs Q E hr h => ?_)
  · obtain ⟨a, kt, ns, xs, ks, v, d, rfl, _⟩ := h; rfl
  · obtain ⟨a, kt, ns, xs, ks, v, d, rfl, ha, hk, hks, hd, kn, ky⟩ := h
    have nd := scCheckTies.nd
    refine ⟨_, (pss_cons (ps_if (pt_not (pt_val (pe_callB call_isDT (by rfl) T.z_isinstance (by decide +kernel) (pa_cons (pv 2) (pa_cons (pe_tup (pa_cons (pe_bltn (v := .ty "list") rfl T.z_list (by decide +kernel) rfl) (pa_cons (pe_bltn (v := .ty "tuple") rfl T.z_tuple (by decide +kernel) rfl) pa_nil))) pa_nil))))) (pss_one (ps_raise rfl (takes_of rfl rfl rfl rfl) (pmk_x hE_BadTies hr (by decide) rfl (pv 2)))) pss_nil)
    (pss_cons (ps_setKsc (i := 3) (own := [("tie", 4)]) (g := gName 4) hr.units rfl nd rfl rfl (sw_setc rfl rfl rfl (by decide +kernel)) (pi_sq (pv 1)) (blkOk_by (own := [("tie", 4)]) (N := ["places", "known", "ties", "pairs", "tie", "position", "entry"]) (sc := defScope sCheckTies) (by decide +kernel)) (fun _ _ _ _ _ => (pg_name (i := 4) nd rfl (by first | exact Or.inl rfl | exact Or.inr rfl))) (fun _ _ _ _ _ => (pe_h h_pair hr (by decide) rfl (pa_cons (pv 4) pa_nil))))
    (pss_one (ps_for (passes_of rfl) rfl (pi_enumQ rfl T.z_enumerate (pa_cons (pv 2) pa_nil)) (pg_tup rfl (pgs_cons (pg_name (i := 5) nd rfl (by first | exact Or.inl rfl | exact Or.inr rfl)) (pgs_cons (pg_name (i := 6) nd rfl (by first | exact Or.inl rfl | exact Or.inr rfl)) pgs_nil))) (pss_cons (ps_if (PW.pt (pw_or (pt_not (pt_val (pe_h h_is_tie hr (by decide) rfl (pa_cons (pv 0) (pa_cons (pv 6) pa_nil))))) (pw_or1 (pt_cmpR (or_kin hr.units) (pe_h h_pair hr (by decide) rfl (pa_cons (pv 6) pa_nil)) (pv 3) (by first | exact nomark _ | rfl))))) (pss_one (ps_raise rfl (takes_of rfl rfl rfl rfl) (pmk_x hE_BadTie hr (by decide) rfl (pv 5)))) pss_nil)
    (pss_one (ps_expr (pe_kadd hr.units (pv 3) (pe_h h_pair hr (by decide) rfl (pa_cons (pv 6) pa_nil)))))))))), ?_⟩
    obtain ⟨b1, b2, k1, k2, kb⟩ := kit_seq d
    refine ⟨_, rfl, by show 2 ≤ sizeLine; decide, fun tp ntp => ?_⟩
    have u := same_new (o := .tup [.ty "list", .ty "tuple"]) ntp
    refine ⟨_, tp, d, "list", "tuple", b1, b2, rfl, upd_same, Dq.same u hd, k1, k2, _, rfl, ?_⟩
    generalize upd H tp _ = H1 at u ⊢
    have nn : ∀ {H2 : Hp}, Same H H2 → ∀ {e : Addr}, H2 e = none → H e = none := fun {H2} s2 {e} he => by
      cases q : H e with
      | none => rfl
      | some o => rw [s2 e o q] at he; cases he
    rw [kb]
    cases e : seqD d with
    | none => exact iteT ⟨_, rfl, fun x hx => kn e x _ (same_upd u (nn u hx)) (nn u hx) upd_same⟩
    | some ds =>
      obtain ⟨pl, few, ky1, ky2⟩ := ky ds e
      obtain ⟨va, vx, rfl, hv, hda, hlv⟩ := seq_of hd e
      refine iteF ?_
      -- the known pairs
      refine ⟨_, rfl, kt, xs, rfl, hk.same u, fun J G ex hG wk D nD => ?_⟩
      have xl : xs.length = ks.length := Paired.length hks
      refine ksc_it wk (fun i H2 => Same H1 H2 ∧ SetAt P w K H2 D ((ks.take i).map pairP) i) ⟨same_new nD, [], upd_same, (fun p hp => by cases hp), Nat.zero_le _, fun q => by simp⟩ (fun i H2 _ p => hG H2 (.same p.1)) ?_ ?_
      · rintro i x H2 H3 hi ⟨sm, S⟩ ⟨rfl, hxi⟩
        obtain ⟨p, b, hp, rfl, hb⟩ := ties_at (hks.same (u.trans sm)) hxi
        refine ⟨rfl, _, rfl, b, p.1, p.2, rfl, hb, fun c hc => ⟨c, rfl, ?_⟩⟩
        have s3 := same_new (o := .tup [.str (pairS p.1 p.2).1, .str (pairS p.1 p.2).2]) hc
        refine set_add (q := pairP p) (S.same s3) (SqT.of upd_same) (by omega) fun H4 o S4 => ⟨?_, ?_⟩
        · exact fun y o2 ey => by
            rw [o y (ne_of_none ey nD)]
            exact s3 _ _ (sm _ _ ey)
        · refine S4.mem fun q => ?_
          rw [List.take_succ, hp, List.map_append, List.mem_append, List.mem_cons]
          simp [or_comm]
      · rintro H2 ⟨sm, S⟩
        rw [xl, List.take_length] at S
        have s2 := u.trans sm
        refine ⟨_, rfl, va, vx, rfl, hv.same s2, fun J2 G2 ex2 hG2 wk2 => ?_⟩
        refine for_it wk2 (fun i σ H3 => Same H H3 ∧ (∃ p q, σ = [some (.ref a), some (.ref kt), some (.ref va), some (.ref D), none, p, q]) ∧ ∃ ps, SetAt P w K H3 D ps (ks.length + i) ∧ tieBad ns (ks.map pairP) 0 ds = tieBad ns ps i (ds.drop i)) ?_ ?_ ?_ ?_
        · exact ⟨s2, ⟨_, _, rfl⟩, _, S, rfl⟩
        · exact fun i σ3 H3 _ p => hG2 H3 (.of hv s2 p.1 ex2)
        · rintro i x σ3 H3 H4 hi ⟨s3, ⟨p, q, rfl⟩, ps, S3, eb⟩ ⟨T, x1, x2, rfl, hT, rfl, ex1, ex2⟩
          cases ex1
          obtain ⟨dx, hdx, hqx⟩ := dqAll_at hda ex2
          have ed : ds.drop i = dx :: ds.drop (i + 1) := by
            obtain ⟨hi', e'⟩ := List.getElem?_eq_some_iff.mp hdx
            rw [← e']
            exact List.drop_eq_getElem_cons hi'
          have s4 := same_upd (o := .tup [.int (i : Nat), x2]) s3 (nn s3 hT)
          have S4 := S3.same (same_new (o := .tup [.int (i : Nat), x2]) hT)
          have hup : upd H3 T (.tup [.int (i : Nat), x2]) T = some (.tup [.int (i : Nat), x2]) := upd_same
          generalize upd H3 T (.tup [.int (i : Nat), x2]) = H4 at s4 S4 hup ⊢
          refine ⟨T, _, rfl, SqT.of hup, rfl, _, _, rfl, _, _, rfl, rfl, ?_⟩
          refine ⟨_, rfl, _, rfl, a, ns, x2, dx, rfl, ha.same s4, Dq.same s4 hqx, pl dx (List.mem_of_getElem? hdx), _, rfl, ?_⟩
          have bad : tieBad ns (ks.map pairP) 0 ds = some i → ∀ H5, Same H H5 → ∀ e, H5 e = none → E (.ref CT) (some e) (upd H5 e (.xd [("position", .int i)])) := fun z H5 s5 e he => ky2 i z e _ (same_upd s5 (nn s5 he)) (nn s5 he) upd_same
          cases et : tieOf ns dx with
          | none =>
            refine iteT (iteT ⟨_, rfl, fun x hx => bad ?_ _ s4 x hx⟩)
            rw [eb, ed, tieBad, et]
          | some pp =>
            obtain ⟨b, rfl, hb⟩ := tie_tup (Dq.same s4 hqx) et
            refine iteF ?_
            refine ⟨_, rfl, b, pp.1, pp.2, rfl, hb, fun c hc => ?_⟩
            have s5 := same_new (o := .tup [.str (pairS pp.1 pp.2).1, .str (pairS pp.1 pp.2).2]) hc
            have hcu : TupS K (upd H4 c (.tup [.str (pairS pp.1 pp.2).1, .str (pairS pp.1 pp.2).2])) c (pairP pp) := SqT.of upd_same
            generalize upd H4 c (.tup [.str (pairS pp.1 pp.2).1, .str (pairS pp.1 pp.2).2]) = H5 at s5 hcu ⊢
            refine ⟨_, rfl, set_in (S4.same s5) hcu (fun c1 => ?_) (fun c1 => ?_)⟩
            · refine ⟨_, rfl, iteT ⟨_, rfl, fun x hx => bad ?_ _ (s4.trans s5) x hx⟩⟩
              rw [eb, ed, tieBad, et]
              exact if_pos c1
            · refine ⟨_, rfl, iteF ?_⟩
              have S5 := S4.same s5
              obtain ⟨L5, hD5, _⟩ := id S5
              refine ⟨_, rfl, ⟨D, L5, rfl, hD5⟩, _, rfl, b, pp.1, pp.2, rfl, same_t s5 hb, fun c2 hc2 => ⟨D, c2, rfl, rfl, ?_⟩⟩
              have s6 := same_new (o := .tup [.str (pairS pp.1 pp.2).1, .str (pairS pp.1 pp.2).2]) hc2
              refine set_add (q := pairP pp) (S5.same s6) (SqT.of upd_same) (by omega) fun H6 o S6 => ⟨?_, ⟨_, _, rfl⟩, _, S6, ?_⟩
              · intro y o2 ey
                have nD' : H D = none := nn u nD
                rw [o y (ne_of_none ey nD')]
                exact s6 _ _ (s5 _ _ (s4 _ _ ey))
              · rw [eb, ed, tieBad, et]
                exact if_neg c1
        · rintro σ3 H3 ⟨s3, _, ps, S3, eb⟩
          rw [hlv, List.drop_length] at eb
          exact ky1 eb H3 s3
end
end Pw

set_option Elab.async false
set_option linter.all false
set_option maxRecDepth 100000
set_option maxHeartbeats 4000000
namespace Pw
open PySem PySem.Spec PyProof.Rows L2 Ct
local macro_rules | `(tactic| wide_line) => `(tactic| repeat ((fail_if_success (with_reducible refine at_while ?_)); (fail_if_success (with_reducible refine at_while1 ?_)); (conv => whnf); first | ((with_reducible refine And.intro ?_ ?_); focus (first | (first | ((with_reducible show (_ : Nat) ≤ _); first | exact sz0 | exact sz1 | exact sz2 | exact sz3 | exact sz4 | exact sz5 | exact sz6 | exact sz7 | exact sz8 | exact sz10 | exact sz11 | exact sz12 | exact sz14 | omega | decide | (simp only [List.length_cons, List.length_nil]; omega)) | ((with_reducible show (_ : Int) ≤ _); first | omega | decide) | ((with_reducible show (_ : Int) < _); first | omega | decide) | ((with_reducible show (_ : Nat) < _); omega)) | ((fail_if_success (with_reducible show (_ : Nat) ≤ _)); (fail_if_success (with_reducible show (_ : Int) ≤ _)); (fail_if_success (with_reducible show (_ : Int) < _)); (fail_if_success (with_reducible show (_ : Nat) < _)); first | exact kv_str _ | exact kv_int _ | rfl | assumption | exact flat_strs _ | exact Lv.get (by assumption) 0 rfl | exact Lv.get (by assumption) 1 rfl | exact Lv.get (by assumption) 2 rfl | exact Lv.get (by assumption) 3 rfl | exact Lv.get (by assumption) 4 rfl | exact Lv.get (by assumption) 5 rfl | exact Lv.get (by assumption) 6 rfl | exact SqL.of (Lv.get (by assumption) 0 rfl) | exact SqL.of (Lv.get (by assumption) 1 rfl) | exact SqL.of (Lv.get (by assumption) 2 rfl) | exact SqL.of (Lv.get (by assumption) 3 rfl) | exact SqL.of (Lv.get (by assumption) 4 rfl) | exact SqL.of (Lv.get (by assumption) 5 rfl) | exact Or.inl (SqL.of (Lv.get (by assumption) 0 rfl)) | exact Or.inl (SqL.of (Lv.get (by assumption) 1 rfl)) | exact Or.inl (SqL.of (Lv.get (by assumption) 2 rfl)) | exact Or.inl (SqL.of (Lv.get (by assumption) 3 rfl)) | exact Or.inl (SqL.of (Lv.get (by assumption) 4 rfl)) | exact Or.inl (SqL.of (Lv.get (by assumption) 5 rfl)) | exact ⟨_, SqL.of (Lv.get (by assumption) 0 rfl)⟩ | exact ⟨_, SqL.of (Lv.get (by assumption) 1 rfl)⟩ | exact ⟨_, SqL.of (Lv.get (by assumption) 2 rfl)⟩ | exact ⟨_, SqL.of (Lv.get (by assumption) 3 rfl)⟩ | exact ⟨_, SqL.of (Lv.get (by assumption) 4 rfl)⟩ | exact ⟨_, SqL.of (Lv.get (by assumption) 5 rfl)⟩ | exact Or.inl ⟨_, SqL.of (Lv.get (by assumption) 0 rfl), rfl⟩ | exact Or.inl ⟨_, SqL.of (Lv.get (by assumption) 1 rfl), rfl⟩ | exact Or.inl ⟨_, SqL.of (Lv.get (by assumption) 2 rfl), rfl⟩ | exact Or.inl ⟨_, SqL.of (Lv.get (by assumption) 3 rfl), rfl⟩ | exact Or.inl ⟨_, SqL.of (Lv.get (by assumption) 4 rfl), rfl⟩ | exact Or.inl ⟨_, SqL.of (Lv.get (by assumption) 5 rfl), rfl⟩ | exact Or.inl ⟨rfl, _, SqL.of (Lv.get (by assumption) 0 rfl)⟩ | exact Or.inl ⟨rfl, _, SqL.of (Lv.get (by assumption) 1 rfl)⟩ | exact Or.inl ⟨rfl, _, SqL.of (Lv.get (by assumption) 2 rfl)⟩ | exact Or.inl ⟨rfl, _, SqL.of (Lv.get (by assumption) 3 rfl)⟩ | exact Or.inl ⟨rfl, _, SqL.of (Lv.get (by assumption) 4 rfl)⟩ | exact Or.inl ⟨rfl, _, SqL.of (Lv.get (by assumption) 5 rfl)⟩ | exact Or.inr (SqT.of (Lv.get (by assumption) 0 rfl)) | exact Or.inr (SqT.of (Lv.get (by assumption) 1 rfl)) | exact Or.inr (SqT.of (Lv.get (by assumption) 2 rfl)) | exact Or.inr (SqT.of (Lv.get (by assumption) 3 rfl)) | exact SqT.of (Lv.get (by assumption) 0 rfl) | exact SqT.of (Lv.get (by assumption) 1 rfl) | exact SqT.of (Lv.get (by assumption) 2 rfl) | exact dgetN (Lv.get (by assumption) 0 rfl) (by assumption) | exact dgetN (Lv.get (by assumption) 1 rfl) (by assumption) | exact dgetN (Lv.get (by assumption) 2 rfl) (by assumption) | exact dgetN (Lv.get (by assumption) 3 rfl) (by assumption) | exact dgetN (Lv.get (by assumption) 4 rfl) (by assumption) | decide | ((with_reducible show _ ∧ _); omega)))) | ((fail_if_success (with_reducible apply @Exists.intro (Nat → _))); (with_reducible apply Exists.intro))))
local macro_rules
  | `(tactic| wide_line with al $lv:ident $l:ident $nl:ident $H:ident $lv1:ident $s1:ident) => `(tactic| (intro $l:ident $nl:ident; generalize he : upd _ _ _ = $H:ident; have $lv1:ident := Lv.alE $lv $nl he; have $s1:ident := sameE $nl he; clear he; (try dsimp only at $lv1:ident)))
  | `(tactic| wide_line with alx $lv:ident $nl:ident $H:ident $lv1:ident $s1:ident) => `(tactic| (generalize he : upd _ _ _ = $H:ident; have $lv1:ident := Lv.alE $lv $nl he; have $s1:ident := sameE $nl he; clear he; (try dsimp only at $lv1:ident)))
  | `(tactic| wide_line with sts $lv:ident $i:num $H:ident $lv1:ident $s0:ident $np:ident $s1:ident) => `(tactic| (generalize he : upd _ _ _ = $H:ident; have $lv1:ident := Lv.stE $lv $i rfl he; have $s1:ident := sameN $s0 $np he; clear he; (try dsimp only at $lv1:ident)))
  | `(tactic| wide_line with st $lv:ident $i:num $H:ident $lv1:ident) => `(tactic| (generalize he : upd _ _ _ = $H:ident; have $lv1:ident := Lv.stE $lv $i rfl he; clear he; (try dsimp only at $lv1:ident)))
  | `(tactic| wide_line with stk $lv:ident $i:num $H:ident $lv1:ident $k1:ident) => `(tactic| (generalize he : upd _ _ _ = $H:ident; have $lv1:ident := Lv.stE $lv $i rfl he; have $k1:ident := KeepT.st (Lv.get $lv $i rfl) he; clear he; (try dsimp only at $lv1:ident)))
/-- bits_of(n): a new list of the positions -/
def spBitsOf : Sp := fun vs H Q _ => ∃ N : Nat, vs = [.int (N : Nat)] ∧ N < 2 ^ 200 ∧ ∀ l H', Same H H' → H l = none → H' l = some (.lst ((bitsL N).map natV)) → Q (.ref l) H'
/-- the names at the bits of a number -/
def pickN (ns : List Str) (N : Nat) : List Str := (bitsL N).filterMap fun i => ns[i]?
/-- web.named(n): a new list of the names at the bits; the web may be half made -/
def spNamed (K : PySem.W.Frag) (C : Addr) : Sp := fun vs H Q _ => ∃ (x dx tp : Addr) (N : Nat) (fs : List (Str × V)) (ns : List Str), vs = [.ref x, .int (N : Nat)] ∧ H x = some (.ins C dx fs) ∧ fs.lookup ("_places" : Str) = some (V.ref tp) ∧ SqT K H tp (ns.map V.str) ∧ N < 2 ^ ns.length ∧ ns.length ≤ 100 ∧
  ∀ l H', Same H H' → H l = none → H' l = some (.lst ((pickN ns N).map V.str)) → Q (.ref l) H'
section
variable {P : Program} {w : World} {K : PySem.W.Frag} {mg : Str → Option Value} {base : Heap} {C fa : Addr} {fd : FuncData}
abbrev sBitsOf : Stmt := top ix_bits_of
theorem scBitsOf : FnScope ["number", "at"] ["number"] (defScope sBitsOf) := ⟨rfl, rfl, rfl, by decide +kernel, rfl, by decide +kernel, by decide +kernel⟩
theorem has_bits_of (T : Bn mg) (D : DFE K mg "bits_of" sBitsOf ["number"]) : Has P w K mg base CX0 1 "bits_of" ["number"] spBitsOf := by
  refine has_of D scBitsOf (fun vs H Q E h => ?_) (fun f cdv A outer s H vs Q E hr h => ?_)
  · obtain ⟨N, rfl, _⟩ := h; rfl
  · obtain ⟨N, rfl, hN, k⟩ := h
    have nd := scBitsOf.nd
    refine ⟨_, (pss_one (ps_ret (pe_lc (own := [("at", 1)]) (g := gName 1) rfl nd (pi_range1 rfl T.z_range (pa_cons (pe_bits (pv 0)) pa_nil)) (blkOk_by (own := [("at", 1)]) (N := ["number", "at"]) (sc := defScope sBitsOf) (by decide +kernel)) (fun _ _ _ _ _ => (pg_name (i := 1) nd rfl (by first | exact Or.inl rfl | exact Or.inr rfl))) (fun _ _ _ _ _ => (pts_one (pt_truthk (K := K) rfl (pe_op op_andB (pe_op op_shrB (pv 0) (pv 1)) pe_int) (by intro _; rfl)))) (fun _ _ _ _ _ => (pv 1))))), ?_⟩
    have lv := Lv.zero H
    have hb : Builtin.Int.intBits (N : Int) ≤ 200 := intBits_le_iff.mpr (by simpa using hN)
    wide_line
    intro D nD
    refine lc_range (fun j H' => Hold (Lv H [] H' [(D, .lst (((List.range j).filter N.testBit).map natV))])) ⟨lv.al nD⟩ ?_ ?_
    · rintro j H1 hj ⟨lv1⟩
      rw [Int.zero_add]
      wide_line
      have e : ((((N / 2 ^ j &&& 1 : Nat) : Int)) != 0) = N.testBit j := by
        rw [Nat.and_one_is_mod, Bool.eq_iff_iff, ← odd_test, bne_iff_ne]
        omega
      rw [e]
      have st : (List.range (j + 1)).filter N.testBit = (List.range j).filter N.testBit ++ (if N.testBit j = true then [j] else []) := by
        rw [List.range_succ, List.filter_append]
        congr 1
        cases e2 : N.testBit j <;> simp [List.filter, e2]
      refine ite2 (fun c => ?_) (fun c => ?_)
      · wide_line
        refine ⟨?_, ?_⟩
        · have := List.length_filter_le N.testBit (List.range j)
          rw [List.length_map, sizeLine_eq]
          rw [List.length_range] at this
          rw [Int.toNat_natCast] at hj
          omega
        · wide_line with st lv1 0 H2 lv2
          refine ⟨lv2.re ?_⟩
          rw [st, if_pos c, List.map_append]
          rfl
      · refine ⟨lv1.re ?_⟩
        rw [st, if_neg c, List.append_nil]
    · rintro H1 ⟨lv1⟩
      wide_line
      rw [Int.toNat_natCast] at lv1
      exact k D H1 lv1.sm nD (lv1.get 0 rfl)
abbrev sNamed : Stmt := inClass (top ix_Web) mx_Web_named
theorem scNamed : FnScope ["self", "number", "at"] ["self", "number"] (defScope sNamed) := ⟨rfl, rfl, rfl, by decide +kernel, rfl, by decide +kernel, by decide +kernel⟩
theorem ok_named (W : Cls K C) (n1 : NoAttr K C "_places") (F : Fun K "named" "Web.named" sNamed fa fd) (h_bits_of : Has P w K mg base CX0 1 "bits_of" ["number"] spBitsOf) : FnOk P w K mg base CX0 2 fa fd ["self", "number"] (spNamed K C) := by
  refine F.ok scNamed (fun vs H Q E h => ?_) (fun cdv A outer s H vs Q E hr h => ?_)
  · obtain ⟨x, dx, tp, N, fs, ns, rfl, _⟩ := h; rfl
  · obtain ⟨x, dx, tp, N, fs, ns, rfl, hx, hp, htp, hN, hl, k⟩ := h
    have nd := scNamed.nd
    refine ⟨_, (pss_one (ps_ret (pe_lc (own := [("at", 2)]) (g := gName 2) (tt := tYes) rfl nd (pi_list (pe_h h_bits_of hr (by decide) rfl (pa_cons (pv 1) pa_nil))) (blkOk_by (own := [("at", 2)]) (N := ["self", "number", "at"]) (sc := defScope sNamed) (by decide +kernel)) (fun _ _ _ _ _ => (pg_name (i := 2) nd rfl (by first | exact Or.inl rfl | exact Or.inr rfl))) (fun _ _ _ _ _ => pts_nil) (fun _ _ _ _ _ => (pe_ix (ix_tupk (K := K) rfl) (pe_fldk (K := K) rfl (pv 0) rfl) (pv 2) (fun _ _ => rfl)))))), ?_⟩
    have lv := Lv.zero H
    wide_line
    refine ⟨Nat.lt_of_lt_of_le hN (Nat.pow_le_pow_right (by decide) (by omega)), fun l H1 s1 nl hl1 => ?_⟩
    have lv1 := lv.al' s1 nl hl1
    wide_line
    intro D nD
    have lvD := lv1.al (o := .lst []) nD
    have bl : bitsL N = (List.range ns.length).filter N.testBit := bitsL_of hN
    refine lc_list (K := K) (a := l) (xs := (bitsL N).map natV) (fun j H' => Hold (Lv H [] H' [(D, .lst ((((bitsL N).take j).filterMap fun i => ns[i]?).map V.str)), (l, .lst ((bitsL N).map natV))])) ⟨lvD⟩ (fun j H' _ z => SqL.of (z.out.get 1 rfl)) ?_ ?_
    · rintro j y H2 hy ⟨lv2⟩
      obtain ⟨i, hi, rfl⟩ : ∃ i, (bitsL N)[j]? = some i ∧ y = natV i := by
        rw [List.getElem?_map] at hy
        cases e : (bitsL N)[j]? with
        | none => rw [e] at hy; cases hy
        | some i => rw [e] at hy; exact ⟨i, rfl, (Option.some.inj hy).symm⟩
      have il : i < ns.length := by
        have := List.mem_of_getElem? hi
        rw [bl] at this
        exact List.mem_range.mp (List.mem_filter.mp this).1
      have i1 : ns[i]? = some ns[i] := List.getElem?_eq_getElem il
      have hx2 := lv2.sm _ _ hx
      have htp2 : SqT K H2 tp (ns.map V.str) := same_t lv2.sm htp
      have a1 : atI (ns.map V.str) ((i : Nat) : Int) = some (V.str ns[i]) := atI_nat (by rw [List.getElem?_map, i1]; rfl)
      have tk : (bitsL N).take (j + 1) = (bitsL N).take j ++ [i] := by rw [List.take_succ, hi]; rfl
      wide_line
      refine ⟨?_, ?_⟩
      · have h1 := List.length_filterMap_le (fun i => ns[i]?) ((bitsL N).take j)
        have h2 := List.length_take_le j (bitsL N)
        have h3 := (List.getElem?_eq_some_iff.mp hi).1
        have h4 := List.length_filter_le N.testBit (List.range ns.length)
        rw [← bl, List.length_range] at h4
        rw [List.length_map, sizeLine_eq]
        omega
      · wide_line with st lv2 0 H3 lv3
        refine ⟨lv3.re ?_⟩
        rw [tk, List.filterMap_append, List.map_append]
        simp [i1]
    · rintro H2 ⟨lv2⟩
      wide_line
      rw [List.length_map, List.take_length] at lv2
      exact k D H2 lv2.sm (lv1.free nD) (lv2.get 0 rfl)
/-- whose bits are those of a test are the names that pass it -/
theorem pickN_filter {ns : List Str} {N : Nat} {g : Str → Bool} (hN : N < 2 ^ ns.length) (h : ∀ i x, ns[i]? = some x → N.testBit i = g x) : pickN ns N = ns.filter g := by
  have key : ∀ (k : Nat), k ≤ ns.length → ((List.range k).filter N.testBit).filterMap (fun i => ns[i]?) = (ns.take k).filter g := by
    intro k
    induction k with
    | zero => intro _; rfl
    | succ k ih =>
      intro hk
      have i1 : ns[k]? = some ns[k] := List.getElem?_eq_getElem hk
      rw [List.range_succ, List.filter_append, List.filterMap_append, ih (Nat.le_of_lt hk), List.take_succ, i1, List.filter_append]
      congr 1
      have := h k _ i1
      cases e : N.testBit k <;> rw [e] at this <;> simp [List.filter, e, ← this, i1]
  unfold pickN
  rw [bitsL_of hN, key ns.length (Nat.le_refl _), List.take_length]
end
end Pw

set_option Elab.async false
set_option linter.all false
set_option maxRecDepth 100000
set_option maxHeartbeats 4000000
namespace Pw
open PySem PySem.Spec PyProof.Rows L2 Ct
local macro_rules | `(tactic| wide_line) => `(tactic| repeat ((fail_if_success (with_reducible refine at_while ?_)); (fail_if_success (with_reducible refine at_while1 ?_)); (conv => whnf); first | ((with_reducible refine And.intro ?_ ?_); focus (first | (first | ((with_reducible show (_ : Nat) ≤ _); first | exact sz0 | exact sz1 | exact sz2 | exact sz3 | exact sz4 | exact sz5 | exact sz6 | exact sz7 | exact sz8 | exact sz10 | exact sz11 | exact sz12 | exact sz14 | omega | decide | (simp only [List.length_cons, List.length_nil]; omega)) | ((with_reducible show (_ : Int) ≤ _); first | omega | decide) | ((with_reducible show (_ : Int) < _); first | omega | decide) | ((with_reducible show (_ : Nat) < _); omega)) | ((fail_if_success (with_reducible show (_ : Nat) ≤ _)); (fail_if_success (with_reducible show (_ : Int) ≤ _)); (fail_if_success (with_reducible show (_ : Int) < _)); (fail_if_success (with_reducible show (_ : Nat) < _)); first | exact kv_str _ | exact kv_int _ | rfl | assumption | exact flat_strs _ | exact Lv.get (by assumption) 0 rfl | exact Lv.get (by assumption) 1 rfl | exact Lv.get (by assumption) 2 rfl | exact Lv.get (by assumption) 3 rfl | exact Lv.get (by assumption) 4 rfl | exact Lv.get (by assumption) 5 rfl | exact Lv.get (by assumption) 6 rfl | exact SqL.of (Lv.get (by assumption) 0 rfl) | exact SqL.of (Lv.get (by assumption) 1 rfl) | exact SqL.of (Lv.get (by assumption) 2 rfl) | exact SqL.of (Lv.get (by assumption) 3 rfl) | exact SqL.of (Lv.get (by assumption) 4 rfl) | exact SqL.of (Lv.get (by assumption) 5 rfl) | exact Or.inl (SqL.of (Lv.get (by assumption) 0 rfl)) | exact Or.inl (SqL.of (Lv.get (by assumption) 1 rfl)) | exact Or.inl (SqL.of (Lv.get (by assumption) 2 rfl)) | exact Or.inl (SqL.of (Lv.get (by assumption) 3 rfl)) | exact Or.inl (SqL.of (Lv.get (by assumption) 4 rfl)) | exact Or.inl (SqL.of (Lv.get (by assumption) 5 rfl)) | exact ⟨_, SqL.of (Lv.get (by assumption) 0 rfl)⟩ | exact ⟨_, SqL.of (Lv.get (by assumption) 1 rfl)⟩ | exact ⟨_, SqL.of (Lv.get (by assumption) 2 rfl)⟩ | exact ⟨_, SqL.of (Lv.get (by assumption) 3 rfl)⟩ | exact ⟨_, SqL.of (Lv.get (by assumption) 4 rfl)⟩ | exact ⟨_, SqL.of (Lv.get (by assumption) 5 rfl)⟩ | exact Or.inl ⟨_, SqL.of (Lv.get (by assumption) 0 rfl), rfl⟩ | exact Or.inl ⟨_, SqL.of (Lv.get (by assumption) 1 rfl), rfl⟩ | exact Or.inl ⟨_, SqL.of (Lv.get (by assumption) 2 rfl), rfl⟩ | exact Or.inl ⟨_, SqL.of (Lv.get (by assumption) 3 rfl), rfl⟩ | exact Or.inl ⟨_, SqL.of (Lv.get (by assumption) 4 rfl), rfl⟩ | exact Or.inl ⟨_, SqL.of (Lv.get (by assumption) 5 rfl), rfl⟩ | exact Or.inl ⟨rfl, _, SqL.of (Lv.get (by assumption) 0 rfl)⟩ | exact Or.inl ⟨rfl, _, SqL.of (Lv.get (by assumption) 1 rfl)⟩ | exact Or.inl ⟨rfl, _, SqL.of (Lv.get (by assumption) 2 rfl)⟩ | exact Or.inl ⟨rfl, _, SqL.of (Lv.get (by assumption) 3 rfl)⟩ | exact Or.inl ⟨rfl, _, SqL.of (Lv.get (by assumption) 4 rfl)⟩ | exact Or.inl ⟨rfl, _, SqL.of (Lv.get (by assumption) 5 rfl)⟩ | exact Or.inr (SqT.of (Lv.get (by assumption) 0 rfl)) | exact Or.inr (SqT.of (Lv.get (by assumption) 1 rfl)) | exact Or.inr (SqT.of (Lv.get (by assumption) 2 rfl)) | exact Or.inr (SqT.of (Lv.get (by assumption) 3 rfl)) | exact SqT.of (Lv.get (by assumption) 0 rfl) | exact SqT.of (Lv.get (by assumption) 1 rfl) | exact SqT.of (Lv.get (by assumption) 2 rfl) | exact dgetN (Lv.get (by assumption) 0 rfl) (by assumption) | exact dgetN (Lv.get (by assumption) 1 rfl) (by assumption) | exact dgetN (Lv.get (by assumption) 2 rfl) (by assumption) | exact dgetN (Lv.get (by assumption) 3 rfl) (by assumption) | exact dgetN (Lv.get (by assumption) 4 rfl) (by assumption) | decide | ((with_reducible show _ ∧ _); omega)))) | ((fail_if_success (with_reducible apply @Exists.intro (Nat → _))); (with_reducible apply Exists.intro))))
local macro_rules
  | `(tactic| wide_line with al $lv:ident $l:ident $nl:ident $H:ident $lv1:ident $s1:ident) => `(tactic| (intro $l:ident $nl:ident; generalize he : upd _ _ _ = $H:ident; have $lv1:ident := Lv.alE $lv $nl he; have $s1:ident := sameE $nl he; clear he; (try dsimp only at $lv1:ident)))
  | `(tactic| wide_line with alx $lv:ident $nl:ident $H:ident $lv1:ident $s1:ident) => `(tactic| (generalize he : upd _ _ _ = $H:ident; have $lv1:ident := Lv.alE $lv $nl he; have $s1:ident := sameE $nl he; clear he; (try dsimp only at $lv1:ident)))
  | `(tactic| wide_line with sts $lv:ident $i:num $H:ident $lv1:ident $s0:ident $np:ident $s1:ident) => `(tactic| (generalize he : upd _ _ _ = $H:ident; have $lv1:ident := Lv.stE $lv $i rfl he; have $s1:ident := sameN $s0 $np he; clear he; (try dsimp only at $lv1:ident)))
  | `(tactic| wide_line with st $lv:ident $i:num $H:ident $lv1:ident) => `(tactic| (generalize he : upd _ _ _ = $H:ident; have $lv1:ident := Lv.stE $lv $i rfl he; clear he; (try dsimp only at $lv1:ident)))
  | `(tactic| wide_line with stk $lv:ident $i:num $H:ident $lv1:ident $k1:ident) => `(tactic| (generalize he : upd _ _ _ = $H:ident; have $lv1:ident := Lv.stE $lv $i rfl he; have $k1:ident := KeepT.st (Lv.get $lv $i rfl) he; clear he; (try dsimp only at $lv1:ident)))
/-- p and q are tied -/
def tiedB (ts : List (Str × Str)) (p q : Str) : Bool := ts.any fun t => (t.1 == p && t.2 == q) || (t.2 == p && t.1 == q)
/-- p sees q -/
def seesB (ts : List (Str × Str)) (p q : Str) : Bool := q == p || tiedB ts p q
/-- what p sees, in the names' sequence -/
def seenOf (ns : List Str) (ts : List (Str × Str)) (p : Str) : List Str := ns.filter (seesB ts p)
/-- what p sees, as bits -/
def sightN (ns : List Str) (ts : List (Str × Str)) (p : Str) : Nat := maskOf (fun i => match ns[i]? with | some q => seesB ts p q | none => false) ns.length
theorem sight_bit {ns : List Str} {ts : List (Str × Str)} {p q : Str} {i : Nat} (h : ns[i]? = some q) : (sightN ns ts p).testBit i = seesB ts p q := by
  unfold sightN
  rw [test_mask, decide_eq_true (List.getElem?_eq_some_iff.mp h).1, h, Bool.true_and]
theorem sight_lt (ns : List Str) (ts : List (Str × Str)) (p : Str) : sightN ns ts p < 2 ^ ns.length := mask_lt _ _
theorem pick_sight (ns : List Str) (ts : List (Str × Str)) (p : Str) : pickN ns (sightN ns ts p) = seenOf ns ts p := pickN_filter (sight_lt ns ts p) fun _ _ h => sight_bit h
theorem idx_of {ns : List Str} (nd : ns.Nodup) {i : Nat} {p : Str} (h : ns[i]? = some p) : ns.idxOf p = i := by
  have hm := List.mem_of_getElem? h
  have h2 : ns[ns.idxOf p]? = some p := by
    rw [List.getElem?_eq_getElem (List.idxOf_lt_length_of_mem hm)]
    exact congrArg some (List.getElem_idxOf _)
  exact (List.getElem?_inj (List.idxOf_lt_length_of_mem hm) nd).mp (h2.trans h.symm)
/-- one tie more -/
theorem sight_snoc {ns : List Str} (nd : ns.Nodup) {ts : List (Str × Str)} {t : Str × Str} (h1 : t.1 ∈ ns) (h2 : t.2 ∈ ns) (p : Str) :
    sightN ns (ts ++ [t]) p = (sightN ns ts p ||| (if p = t.1 then 2 ^ ns.idxOf t.2 else 0)) ||| (if p = t.2 then 2 ^ ns.idxOf t.1 else 0) := by
  refine Nat.eq_of_testBit_eq fun i => ?_
  rw [Nat.testBit_or, Nat.testBit_or]
  have bit : ∀ (c : Prop) [Decidable c] (k : Nat), (if c then 2 ^ k else 0).testBit i = (decide c && decide (k = i)) := by
    intro c _ k
    by_cases h : c
    · rw [if_pos h, Nat.testBit_two_pow, decide_eq_true h, Bool.true_and]
    · rw [if_neg h, decide_eq_false h, Nat.zero_testBit]; rfl
  rw [bit, bit]
  cases e : ns[i]? with
  | none =>
    have hl := List.getElem?_eq_none_iff.mp e
    have big : ∀ us, (sightN ns us p).testBit i = false := fun us => by
      unfold sightN
      rw [test_mask, decide_eq_false (by omega)]; rfl
    have no : ∀ x ∈ ns, ns.idxOf x ≠ i := fun x hx z => by
      have := List.idxOf_lt_length_of_mem hx
      omega
    rw [big, big, decide_eq_false (no _ h2), decide_eq_false (no _ h1)]
    simp
  | some q =>
    rw [sight_bit e, sight_bit e]
    have ix : ∀ x ∈ ns, (ns.idxOf x = i ↔ x = q) := fun x hx => by
      constructor
      · intro z
        have h2 : ns[ns.idxOf x]? = some x := by
          rw [List.getElem?_eq_getElem (List.idxOf_lt_length_of_mem hx)]
          exact congrArg some (List.getElem_idxOf _)
        rw [z, e] at h2
        exact (Option.some.inj h2).symm
      · intro z
        subst z
        exact idx_of nd e
    unfold seesB tiedB
    rw [List.any_append, Bool.eq_iff_iff]
    simp only [Bool.or_eq_true, Bool.and_eq_true, decide_eq_true_eq, List.any_cons, List.any_nil, Bool.or_false, beq_iff_eq]
    rw [ix _ h1, ix _ h2]
    constructor
    · rintro (h | h | h | h)
      · exact .inl (.inl (.inl h))
      · exact .inl (.inl (.inr h))
      · exact .inl (.inr ⟨h.1.symm, h.2⟩)
      · exact .inr ⟨h.1.symm, h.2⟩
    · rintro (((h | h) | h) | h)
      · exact .inl h
      · exact .inr (.inl h)
      · exact .inr (.inr (.inl ⟨h.1.symm, h.2⟩))
      · exact .inr (.inr (.inr ⟨h.1.symm, h.2⟩))
theorem sight_nil {ns : List Str} (nd : ns.Nodup) {p : Str} (hp : p ∈ ns) : sightN ns [] p = 2 ^ ns.idxOf p := by
  refine Nat.eq_of_testBit_eq fun i => ?_
  rw [Nat.testBit_two_pow]
  cases e : ns[i]? with
  | none =>
    have hl := List.getElem?_eq_none_iff.mp e
    have := List.idxOf_lt_length_of_mem hp
    unfold sightN
    rw [test_mask, decide_eq_false (by omega), decide_eq_false (by omega)]; rfl
  | some q =>
    rw [sight_bit e, Bool.eq_iff_iff, decide_eq_true_eq]
    unfold seesB tiedB
    simp only [List.any_nil, Bool.or_false, beq_iff_eq]
    constructor
    · intro z; subst z; exact idx_of nd e
    · intro z
      have h2 : ns[ns.idxOf p]? = some p := by
        rw [List.getElem?_eq_getElem (List.idxOf_lt_length_of_mem hp)]
        exact congrArg some (List.getElem_idxOf _)
      rw [z, e] at h2
      exact Option.some.inj h2
/-- sights(places, ties): a new tuple of numbers -/
def spSights (K : PySem.W.Frag) : Sp := fun vs H Q _ => ∃ (a kt : Addr) (ns : List Str) (xs : List V) (ts : List (Str × Str)), vs = [.ref a, .ref kt] ∧ Nms K H a ns ∧ ns.Nodup ∧ ns.length ≤ 100 ∧ SqS K H kt xs ∧ TiesAt K H xs ts ∧ (∀ t ∈ ts, t.1 ∈ ns ∧ t.2 ∈ ns) ∧ ts.length ≤ 1000 ∧
  ∀ t H', Same H H' → H t = none → H' t = some (.tup (ns.map fun p => natV (sightN ns ts p))) → Q (.ref t) H'
section
variable {P : Program} {w : World} {K : PySem.W.Frag} {mg : Str → Option Value} {base : Heap}
abbrev sSights : Stmt := top ix_sights
theorem scSights : FnScope ["places", "ties", "bits", "at", "place", "sights", "one", "other"] ["places", "ties"] (defScope sSights) := ⟨rfl, rfl, rfl, by decide +kernel, rfl, by decide +kernel, by decide +kernel⟩
theorem has_sights (T : Bn mg) (D : DFE K mg "_sights" sSights ["places", "ties"]) : Has P w K mg base CX0 1 "_sights" ["places", "ties"] (spSights K) := by
  refine has_of D scSights (fun vs H Q E h => ?_) (fun f cdv A outer s H vs Q E hr h => ?_)
  · obtain ⟨a, kt, ns, xs, ts, rfl, _⟩ := h; rfl
  · obtain ⟨a, kt, ns, xs, ts, rfl, ha, nn, ln, hk, hks, hin, lt, k⟩ := h
    have nd := scSights.nd
    refine ⟨_, (pss_cons (ps_sv 2 nd (pe_dc (own := [("at", 3), ("place", 4)]) (g := _) (tt := tYes) rfl nd (pi_enumQ rfl T.z_enumerate (pa_cons (pv 0) pa_nil)) (blkOk_by (own := [("at", 3), ("place", 4)]) (N := ["places", "ties", "bits", "at", "place", "sights", "one", "other"]) (sc := defScope sSights) (by decide +kernel)) (fun _ _ _ _ _ => (pg_tupk (K := K) (n := 2) rfl rfl (pgs_cons (pg_name (i := 3) nd rfl (by first | exact Or.inl rfl | exact Or.inr rfl)) (pgs_cons (pg_name (i := 4) nd rfl (by first | exact Or.inl rfl | exact Or.inr rfl)) pgs_nil)))) (fun _ _ _ _ _ => pts_nil) (fun _ _ _ _ _ => (pv 4)) (fun _ _ _ _ _ => (pe_op op_shlB pe_int (pv 3)))))
    (pss_cons (ps_sv 5 nd (pe_dc (own := [("place", 4)]) (g := gName 4) (tt := tYes) rfl nd (pi_sq (pv 0)) (blkOk_by (own := [("place", 4)]) (N := ["places", "ties", "bits", "at", "place", "sights", "one", "other"]) (sc := defScope sSights) (by decide +kernel)) (fun _ _ _ _ _ => (pg_name (i := 4) nd rfl (by first | exact Or.inl rfl | exact Or.inr rfl))) (fun _ _ _ _ _ => pts_nil) (fun _ _ _ _ _ => (pv 4)) (fun _ _ _ _ _ => (pe_dget (hu_of hr) (pv 2) (pv 4) (fun _ _ => rfl)))))
    (pss_cons (ps_for PassesOwn.never rfl (pi_sq (pv 1)) (pg_tup (n := 2) rfl (pgs_cons (pg_name (i := 6) nd rfl (by first | exact Or.inl rfl | exact Or.inr rfl)) (pgs_cons (pg_name (i := 7) nd rfl (by first | exact Or.inl rfl | exact Or.inr rfl)) pgs_nil))) (pss_cons (ps_daug (hu_of hr) (pv 5) (pv 6) (pe_dget (hu_of hr) (pv 2) (pv 7) (fun _ _ => rfl)) in_orB (by intros; rfl))
    (pss_one (ps_daug (hu_of hr) (pv 5) (pv 7) (pe_dget (hu_of hr) (pv 2) (pv 6) (fun _ _ => rfl)) in_orB (by intros; rfl)))))
    (pss_one (ps_ret (pe_callTy call_tuple_of (by rfl) T.z_tuple (by decide +kernel) (pa_cons (pe_lc (own := [("place", 4)]) (g := gName 4) (tt := tYes) rfl nd (pi_sq (pv 0)) (blkOk_by (own := [("place", 4)]) (N := ["places", "ties", "bits", "at", "place", "sights", "one", "other"]) (sc := defScope sSights) (by decide +kernel)) (fun _ _ _ _ _ => (pg_name (i := 4) nd rfl (by first | exact Or.inl rfl | exact Or.inr rfl))) (fun _ _ _ _ _ => pts_nil) (fun _ _ _ _ _ => (pe_dget (hu_of hr) (pv 5) (pv 4) (fun _ _ => rfl)))) pa_nil))))))), ?_⟩
    have lv := Lv.zero H
    wide_line
    intro J G ex hG wk D nD
    have lvD := lv.al (o := .dK []) nD
    refine dc_it wk (fun i H' => Hold (∃ kvs, Lv H [] H' [(D, .dK kvs)] ∧ DN kvs (ns.take i) (fun p => 2 ^ ns.idxOf p) i)) ⟨[], lvD, Nat.le_refl _, fun p hp => by simp at hp⟩ (fun i H' _ ⟨_, z, _⟩ => hG H' (.same z.sm)) ?_ ?_
    · rintro i x H1 H2 hi ⟨kvs, lv1, dn1⟩ ⟨T, x1, x2, rfl, hT, rfl, ex1, ex2⟩
      cases ex1
      obtain ⟨p, hp, rfl⟩ := str_at ex2
      have hi' : i < ns.length := by simpa using hi
      wide_line with alx lv1 hT H3 lv3 s3
      wide_line
      refine ⟨by have := dn1.1; rw [sizeLine_eq]; omega, ?_⟩
      wide_line with st lv3 1 H4 lv4
      refine ⟨_, lv4.tl (fun z => nomatch z), ?_⟩
      rw [take_next2 hp]
      exact dn1.snoc (by show 2 ^ ns.idxOf p = 2 ^ i; rw [idx_of nn hp])
    · rintro H1 ⟨kv1, lv1, dn1⟩
      rw [List.length_map, List.take_length] at dn1
      wide_line
      refine ⟨ha.same lv1.sm, ?_⟩
      intro J2 G2 ex2 hG2 wk2 D2 nD2
      have lvD2 := lv1.al (o := .dK []) nD2
      refine dc_it wk2 (fun i H' => Hold (∃ kvs, Lv H [] H' [(D2, .dK kvs), (D, .dK kv1)] ∧ Same H1 H' ∧ DN kvs (ns.take i) (fun p => 2 ^ ns.idxOf p) i)) ⟨[], lvD2, same_new nD2, Nat.le_refl _, fun p hp => by simp at hp⟩ (fun i H' _ ⟨_, _, z, _⟩ => hG2 H' (.same z)) ?_ ?_
      · rintro i x H2 H3 hi ⟨kvs, lv2, s2, dn2⟩ ⟨rfl, ex2⟩
        obtain ⟨p, hp, rfl⟩ := str_at ex2
        have hi' : i < ns.length := by simpa using hi
        have hv := dn1.2 p (List.mem_of_getElem? hp)
        wide_line
        refine ⟨by have := dn2.1; rw [sizeLine_eq]; omega, ?_⟩
        wide_line with sts lv2 0 H4 lv4 s2 nD2 s4
        refine ⟨_, lv4, s4, ?_⟩
        rw [take_next2 hp]
        exact dn2.snoc rfl
      · rintro H2 ⟨kv2, lv2, s2, dn2⟩
        rw [List.length_map, List.take_length] at dn2
        wide_line
        refine ⟨hk.same lv2.sm, ?_⟩
        intro J3 G3 ex3 hG3 wk3
        have xl : xs.length = ts.length := paired_len hks
        refine for_it wk3 (fun i σ H' => Hold (∃ (kvs : List (Key × V)) (u3 u4 u6 u7 : Option V), σ = [some (.ref a), some (.ref kt), some (.ref D), u3, u4, some (.ref D2), u6, u7] ∧ Lv H [] H' [(D2, .dK kvs), (D, .dK kv1)] ∧ Same H1 H' ∧ DN kvs ns (sightN ns (ts.take i)) (ns.length + 2 * i)))
          ⟨kv2, _, _, _, _, rfl, lv2, s2, dn2.1, fun p hp => by rw [dn2.2 p hp, List.take_zero, sight_nil nn hp]⟩ (fun i σ H' _ ⟨_, _, _, _, _, _, z, _⟩ => hG3 H' (SqKeep.of hk lv2.sm z.sm ex3)) ?_ ?_
        · rintro i x σ H3 H4 hi ⟨kvs, u3, u4, u6, u7, rfl, lv3, s3, dn3⟩ ⟨rfl, ex4⟩
          obtain ⟨t, b, ht, rfl, hb⟩ := ties_at (hks.same lv3.sm) ex4
          have hb : SqT K H4 b [.str t.1, .str t.2] := hb
          obtain ⟨in1, in2⟩ := hin t (List.mem_of_getElem? ht)
          have v1 := dn3.2 _ in1
          have b1 := dn1.2 _ in1
          have b2 := dn1.2 _ in2
          have i7 : i < 1000 := by omega
          wide_line
          refine ⟨_, dputN (lv3.get 0 rfl) (by have := dn3.1; rw [sizeLine_eq]; omega), ?_⟩
          wide_line with sts lv3 0 H5 lv4 s3 nD2 s4
          have dn4 : DN (putK kvs (.inr t.1) (natV (sightN ns (ts.take i) t.1 ||| 2 ^ ns.idxOf t.2))) ns (fun p => sightN ns (ts.take i) p ||| (if p = t.1 then 2 ^ ns.idxOf t.2 else 0)) (ns.length + 2 * i + 1) := dn3.upd (by simp) fun q _ hq => by simp [hq]
          generalize putK kvs (.inr t.1) (natV (sightN ns (ts.take i) t.1 ||| 2 ^ ns.idxOf t.2)) = kvs4 at lv4 dn4
          have v2 := dn4.2 _ in2
          wide_line
          refine ⟨_, dputN (lv4.get 0 rfl) (by have := dn4.1; rw [sizeLine_eq]; omega), ?_⟩
          wide_line with sts lv4 0 H6 lv5 s4 nD2 s5
          refine ⟨_, _, _, _, _, rfl, lv5, s5, ?_⟩
          have e : sightN ns (ts.take (i + 1)) = fun p => (sightN ns (ts.take i) p ||| (if p = t.1 then 2 ^ ns.idxOf t.2 else 0)) ||| (if p = t.2 then 2 ^ ns.idxOf t.1 else 0) := by
            funext p
            rw [take_next2 ht, sight_snoc nn in1 in2]
          rw [e]
          exact dn4.upd (by simp) fun q _ hq => by simp [hq]
        · rintro σ H3 ⟨kvs, u3, u4, u6, u7, rfl, lv3, s3, dn3⟩
          rw [xl, List.take_length] at dn3
          wide_line
          refine ⟨ha.same lv3.sm, ?_⟩
          intro J4 G4 ex4 hG4 wk4 L nL
          have lvL := lv3.al (o := .lst []) nL
          refine lc_it wk4 (fun i H' => Hold (Lv H [] H' [(L, .lst ((ns.take i).map fun p => natV (sightN ns ts p))), (D2, .dK kvs)] ∧ Same H3 H')) ⟨lvL.picks [0, 1] rfl (by decide) (by simp), same_new nL⟩ (fun i H' _ ⟨_, z⟩ => hG4 H' (.same z)) ?_ ?_
          · rintro i x H4 H5 hi ⟨lv4, s4⟩ ⟨rfl, ex5⟩
            obtain ⟨p, hp, rfl⟩ := str_at ex5
            have hi' : i < ns.length := by simpa using hi
            have hv := dn3.2 p (List.mem_of_getElem? hp)
            wide_line
            refine ⟨by rw [List.length_map, sizeLine_eq]; have := List.length_take_le i ns; omega, ?_⟩
            wide_line with sts lv4 0 H5 lv5 s4 nL s5
            rw [take_next2 hp, List.map_append]
            exact ⟨lv5, s5⟩
          · rintro H4 ⟨lv4, s4⟩
            rw [List.length_map, List.take_length] at lv4
            wide_line
            refine .inl ⟨SqL.of (lv4.get 0 rfl), ?_⟩
            wide_line with al lv4 t0 nt0 H5 lv5 s5
            exact k t0 H5 lv5.sm (lv4.free nt0) (lv5.get 0 rfl)
end
end Pw

set_option Elab.async false
set_option linter.all false
set_option maxRecDepth 100000
set_option maxHeartbeats 4000000
namespace Pw
open PySem PySem.Spec PyProof.Rows L2 Ct
/-! what the ranks are (the definition alone) -/
/-- the place at i sees the place at j -/
def seeAt (ns : List Str) (ts : List (Str × Str)) (i j : Nat) : Bool := match ns[i]? with
  | some p => (sightN ns ts p).testBit j
  | none => false
/-- the guard at g wins against the runner at r within less than k turns -/
def wonAt (see : Nat → Nat → Bool) (n : Nat) : Nat → Nat → Nat → Bool
  | 0, _, _ => false
  | k + 1, g, r => g == r || wonAt see n k g r || (List.range n).any fun h => see g h && (h == r || (k != 0 && (List.range n).all fun q => !see r q || wonAt see n k h q))
/-- the least number of turns -/
def rankAt (see : Nat → Nat → Bool) (n i j : Nat) : Option Nat := (List.range (n * n + 1)).find? fun k => if k = 0 then i == j else wonAt see n k i j
def rankRows (ns : List Str) (ts : List (Str × Str)) : List (List (Option Nat)) := (List.range ns.length).map fun i => (List.range ns.length).map fun j => rankAt (seeAt ns ts) ns.length i j
def rkV : Option Nat → V
  | none => .non
  | some k => .int (k : Nat)
/-- what is kept of a web: nothing -/
def RkOk (K : PySem.W.Frag) (H : Hp) (ns : List Str) (ts : List (Str × Str)) (rk : V) : Prop := ∃ kd : Addr, rk = .ref kd ∧ H kd = some (.dK [])
end Pw

set_option Elab.async false
set_option linter.all false
set_option maxRecDepth 100000
set_option maxHeartbeats 4000000
namespace Pw
open PySem PySem.Spec PyProof.Rows L2 Ct
/-- a property and its getter's promise -/
def HasP (P : Program) (w : World) (K : PySem.W.Frag) (mg : Str → Option Value) (base : Heap) (k : Nat) (C : Addr) (f : Str) (sp : Sp) : Prop := ∃ p g fd, PropOf K C f p g ∧ FnOk P w K mg base CX0 k g fd ["self"] sp ∧ Binds K fd ["self"] []
theorem pe_hP {X : Cx} {k j : Nat} {C : Addr} {f : Str} {sp : Sp} {e : Expr} {pos : Pos} {ta : TE} (h : HasP X.prog X.w X.K X.mg X.base j C f sp) (c : Cls X.K C) (hr : Room k X.A) (l : j + 1 ≤ k) (he : PE X e ta) (hab : attributeBase e f X.env (eval e X.env) = eval e X.env := by rfl) : PE X (.Attribute e f pos) (tProp C sp [] E0 ta) := by
  obtain ⟨p, g, fd, hp, F, b⟩ := h
  exact pe_prop he c hp F (hr.mono l) b .nil pass0 hab
/-- a method and its promise -/
def HasM (P : Program) (w : World) (K : PySem.W.Frag) (mg : Str → Option Value) (base : Heap) (CX : CXT) (k : Nat) (C : Addr) (m : Str) (ps : List Str) (sp : Sp) : Prop := ∃ f fd, Meth K C m f ∧ Binds K fd ps [] ∧ FnOk P w K mg base CX k f fd ps sp
theorem pe_hM {X : Cx} {k j : Nat} {C : Addr} {m : Str} {ps : List Str} {sp : Sp} {o e : Expr} {es : List Expr} {apos pos : Pos} {ta : TE} {t : TA} {pl : Sem Bool} (h : HasM X.prog X.w X.K X.mg X.base CX0 j C m ps sp) (c : Cls X.K C) (hr : Room k X.A) (l : j ≤ k) (ho : PE X o ta) (ha : PA X (e :: es) t)
    (hst : starEach (e :: es) X.env = (false, eval e X.env) :: starEach es X.env := by rfl) (hpl : (backTo pos (starEach es X.env)).any (·.1) = false := by rfl)
    (ht : eval (.Call (.Attribute o m apos) (e :: es) [] pos) X.env = (do
      let ov ← eval o X.env
      standAt apos.atName
      let (f, first) ← holding [ov] (getMethod ov m pl)
      callWith pos f first (backTo pos (starEach (e :: es) X.env)) (backToKw pos (keywordEach [] X.env))) := by rfl) : PE X (.Call (.Attribute o m apos) (e :: es) [] pos) (tMeth C m sp [] E0 ta t) := by
  obtain ⟨f, fd, hm, b, F⟩ := h
  exact pe_meth ho c hm F (hr.mono l) b .nil pass0 ha hst hpl ht
end Pw

set_option Elab.async false
set_option linter.all false
set_option maxRecDepth 100000
set_option maxHeartbeats 4000000
namespace Pw
open PySem PySem.Spec PyProof.Rows L2 Ct
/-- a dict from the names to lists of texts, each list at a place of its own -/
def MapAt (H : Hp) (D : Addr) (ns : List Str) (f : Str → List Str) : Prop := ∃ (kvs : List (Key × V)) (l : Str → Addr), H D = some (.dK kvs) ∧ kvs.length ≤ ns.length ∧ (∀ p ∈ ns, valV kvs (.inr p) = some (.ref (l p)) ∧ H (l p) = some (.lst ((f p).map V.str))) ∧ ∀ p ∈ ns, ∀ q ∈ ns, l p = l q → p = q
/-- the same, the lists new behind H0 -/
def MapOn (H0 H : Hp) (D : Addr) (ns : List Str) (f : Str → List Str) : Prop := ∃ (kvs : List (Key × V)) (l : Str → Addr), H D = some (.dK kvs) ∧ kvs.length ≤ ns.length ∧ (∀ p ∈ ns, valV kvs (.inr p) = some (.ref (l p)) ∧ H (l p) = some (.lst ((f p).map V.str)) ∧ H0 (l p) = none) ∧ ∀ p ∈ ns, ∀ q ∈ ns, l p = l q → p = q
theorem MapOn.at {H0 H : Hp} {D : Addr} {ns : List Str} {f : Str → List Str} : MapOn H0 H D ns f → MapAt H D ns f
  | ⟨kvs, l, h1, h2, h3, h4⟩ => ⟨kvs, l, h1, h2, fun p hp => ⟨(h3 p hp).1, (h3 p hp).2.1⟩, h4⟩
theorem MapOn.same {H0 H H' : Hp} {D : Addr} {ns : List Str} {f : Str → List Str} (s : Same H H') : MapOn H0 H D ns f → MapOn H0 H' D ns f
  | ⟨kvs, l, h1, h2, h3, h4⟩ => ⟨kvs, l, s _ _ h1, h2, fun p hp => ⟨(h3 p hp).1, s _ _ (h3 p hp).2.1, (h3 p hp).2.2⟩, h4⟩
theorem MapOn.congr {H0 H : Hp} {D : Addr} {ns : List Str} {f g : Str → List Str} (e : ∀ p ∈ ns, f p = g p) : MapOn H0 H D ns f → MapOn H0 H D ns g
  | ⟨kvs, l, h1, h2, h3, h4⟩ => ⟨kvs, l, h1, h2, fun p hp => by rw [← e p hp]; exact h3 p hp, h4⟩
/-- one name more -/
theorem MapOn.snoc {H0 H H5 : Hp} {D L : Addr} {ns : List Str} {f : Str → List Str} {p : Str} (M : MapOn H0 H D ns f) (s : Same H H5) (hL : H L = none) (h5 : H5 L = some (.lst ((f p).map V.str))) (h0 : H0 L = none) (np : p ∉ ns) :
    ∃ kvs, H5 D = some (.dK kvs) ∧ kvs.length ≤ ns.length ∧ MapOn H0 (upd H5 D (.dK (putK kvs (.inr p) (.ref L)))) D (ns ++ [p]) f := by
  obtain ⟨kvs, l, h1, h2, h3, h4⟩ := M
  have h1' := s _ _ h1
  refine ⟨kvs, h1', h2, _, fun q => if q = p then L else l q, upd_same, ?_, fun q hq => ?_, fun q hq r hr e => ?_⟩
  · rw [List.length_append]
    have := length_putK kvs (Sum.inr p) (V.ref L)
    simp only [List.length_cons, List.length_nil]
    omega
  · rw [valV_put]
    dsimp only
    rcases List.mem_append.mp hq with hq | hq
    · have ne : q ≠ p := fun e => np (e ▸ hq)
      have a := h3 q hq
      rw [if_neg (fun z => ne (Sum.inr.inj z)), if_neg ne, upd_ne (ne_of (s _ _ a.2.1) h1' (by intro z; cases z))]
      exact ⟨a.1, s _ _ a.2.1, a.2.2⟩
    · rw [List.mem_singleton.mp hq, if_pos rfl, if_pos rfl, upd_ne (ne_of h5 h1' (by intro z; cases z))]
      exact ⟨rfl, h5, h0⟩
  · dsimp only at e
    have old : ∀ {x}, x ∈ ns → l x ≠ L := fun {x} hx z => by
      have a := (h3 x hx).2.1
      rw [z, hL] at a
      cases a
    rcases List.mem_append.mp hq with hq | hq
    · have ne : q ≠ p := fun e => np (e ▸ hq)
      rw [if_neg ne] at e
      rcases List.mem_append.mp hr with hr | hr
      · have ne2 : r ≠ p := fun e => np (e ▸ hr)
        rw [if_neg ne2] at e
        exact h4 q hq r hr e
      · rw [List.mem_singleton.mp hr, if_pos rfl] at e
        exact absurd e (old hq)
    · rw [List.mem_singleton.mp hq] at e ⊢
      rcases List.mem_append.mp hr with hr | hr
      · have ne2 : r ≠ p := fun e => np (e ▸ hr)
        rw [if_pos rfl, if_neg ne2] at e
        exact absurd e.symm (old hr)
      · exact (List.mem_singleton.mp hr).symm
/-- what the walk asks of the class Web -/
structure WC (K : PySem.W.Frag) (C : Addr) : Prop where
  cls : Cls K C
  n1 : NoAttr K C "_places"
  n2 : NoAttr K C "_ties"
  n3 : NoAttr K C "_sights"
  n4 : NoAttr K C "_seen"
  n5 : NoAttr K C "_kept"
  n6 : NoAttr K C "_sorted_places"
  n7 : NoAttr K C "_sorted_pairs"
/-- sorted -/
def srt (ds : List PyData) : List PyData := ds.mergeSort (W.dataLe false id)
def pairD (p : Str × Str) : PyData := .tuple [.str (pairP p).1, .str (pairP p).2]
/-- the ties that data are -/
def tiesD (ns : List Str) (ds : List PyData) : List (Str × Str) := ds.filterMap (tieOf ns)
/-- a web at x -/
structure WebAt (K : PySem.W.Frag) (C : Addr) (H : Hp) (x : Addr) (ns : List Str) (ts : List (Str × Str)) : Prop where
  ex : ∃ (dx tp tt sg sn sp sq : Addr) (rk : V) (xs : List V), H x = some (.ins C dx [("_places", .ref tp), ("_ties", .ref tt), ("_sights", .ref sg), ("_seen", .ref sn), ("_kept", rk), ("_sorted_places", .ref sp), ("_sorted_pairs", .ref sq)]) ∧
    SqT K H tp (ns.map V.str) ∧ SqT K H tt xs ∧ TiesAt K H xs ts ∧ SqT K H sg (ns.map fun p => natV (sightN ns ts p)) ∧ MapAt H sn ns (seenOf ns ts) ∧ RkOk K H ns ts rk ∧ Dp K H (.ref sp) (.list (srt (ns.map PyData.str))) ∧ Dp K H (.ref sq) (.list (srt (ts.map pairD)))
theorem places_at {K : PySem.W.Frag} {H : Hp} {v : V} {d : PyData} {ns : List Str} (h : Dq K H v d) (e : placesOf d = some ns) : ∃ a, v = .ref a ∧ Nms K H a ns ∧ ns.Nodup ∧ 1 ≤ ns.length ∧ ns.length ≤ 12 := by
  unfold placesOf at e
  cases es : seqD d with
  | none => rw [es] at e; cases e
  | some ds =>
    rw [es] at e
    dsimp only at e
    by_cases c : (1 ≤ ds.length ∧ ds.length ≤ 12) ∧ ds.all nameD = true ∧ (strsD ds).Nodup
    · rw [if_pos c] at e
      cases e
      obtain ⟨a, xs, rfl, hs, ha, _⟩ := seq_of h es
      obtain ⟨e1, e2⟩ := strs_of ha c.2.1
      rw [e1] at hs
      exact ⟨a, rfl, hs, c.2.2, by omega, by omega⟩
    · rw [if_neg c] at e
      cases e
theorem tie_mem {ns : List Str} {d : PyData} {p : Str × Str} (e : tieOf ns d = some p) : p.1 ∈ ns ∧ p.2 ∈ ns := by
  unfold tieOf at e
  split at e
  · split at e
    · split at e
      · rename_i c
        cases e
        exact ⟨c.1, c.2.1⟩
      · cases e
    · cases e
  · cases e
/-- where no datum is bad all are ties -/
theorem ties_ok {K : PySem.W.Frag} {H : Hp} {ns : List Str} : ∀ {xs : List V} {ds : List PyData} {ps : List (Str × Str)} {i : Nat}, DqAll K H xs ds → tieBad ns ps i ds = none → TiesAt K H xs (tiesD ns ds) ∧ ∀ t ∈ tiesD ns ds, t.1 ∈ ns ∧ t.2 ∈ ns
  | _, _, _, _, .nil, _ => ⟨.nil, fun t h => by cases h⟩
  | _, d :: ds, ps, i, .cons h t, e => by
    unfold tieBad at e
    cases et : tieOf ns d with
    | none => rw [et] at e; cases e
    | some p =>
      rw [et] at e
      dsimp only at e
      by_cases c : pairP p ∈ ps
      · rw [if_pos c] at e; cases e
      · rw [if_neg c] at e
        obtain ⟨h1, h2⟩ := ties_ok t e
        have et2 : tiesD ns (d :: ds) = p :: tiesD ns ds := by unfold tiesD; rw [List.filterMap_cons_some et]
        rw [et2]
        refine ⟨.cons (tie_tup h et) h1, fun t ht => ?_⟩
        rcases List.mem_cons.mp ht with rfl | ht
        · exact tie_mem et
        · exact h2 t ht
end Pw
namespace Ct
open PySem PySem.Spec PyProof.Rows L2 Pw
section
variable {K : PySem.W.Frag} {H H' : Hp}
theorem SameD.l (s : SameD H H') {a : Addr} {xs : List V} : SqL K H a xs → SqL K H' a xs
  | .inl (.inl h) => .inl (.inl (s _ _ h (by intro _ _ _ z; cases z)))
  | .inl (.inr ⟨o, h⟩) => .inl (.inr ⟨o, s _ _ h (by intro _ _ _ z; cases z)⟩)
  | .inr h => .inr h
theorem SameD.t (s : SameD H H') {a : Addr} {xs : List V} : SqT K H a xs → SqT K H' a xs
  | .inl (.inl h) => .inl (.inl (s _ _ h (by intro _ _ _ z; cases z)))
  | .inl (.inr ⟨o, h⟩) => .inl (.inr ⟨o, s _ _ h (by intro _ _ _ z; cases z)⟩)
  | .inr h => .inr h
theorem SameD.s (s : SameD H H') {a : Addr} {xs : List V} : SqS K H a xs → SqS K H' a xs
  | .inl h => .inl (s.l h)
  | .inr h => .inr (s.t h)
theorem SameD.ties (s : SameD H H') : ∀ {xs : List V} {ps : List (Str × Str)}, TiesAt K H xs ps → TiesAt K H' xs ps
  | _, _, .nil => .nil
  | _, _, .cons ⟨a, e, h⟩ t => .cons ⟨a, e, s.t h⟩ (SameD.ties s t)
theorem SameD.map (s : SameD H H') {D : Addr} {ns : List Str} {f : Str → List Str} : MapAt H D ns f → MapAt H' D ns f
  | ⟨kvs, l, h1, h2, h3, h4⟩ => ⟨kvs, l, s _ _ h1 (by intro _ _ _ z; cases z), h2, fun p hp => ⟨(h3 p hp).1, s _ _ (h3 p hp).2 (by intro _ _ _ z; cases z)⟩, h4⟩
mutual
theorem SameD.dp (s : SameD H H') : ∀ {v : V} {d : PyData}, Dp K H v d → Dp K H' v d
  | _, _, .non => .non
  | _, _, .bl b => .bl b
  | _, _, .int i => .int i
  | _, _, .str x => .str x
  | _, _, .lst h a => .lst (s.l h) (SameD.dps s a)
  | _, _, .tup h a => .tup (s.t h) (SameD.dps s a)
theorem SameD.dps (s : SameD H H') : ∀ {vs : List V} {ds : List PyData}, DpAll K H vs ds → DpAll K H' vs ds
  | _, _, .nil => .nil
  | _, _, .cons a b => .cons (SameD.dp s a) (SameD.dps s b)
end
end
end Ct
namespace Pw
open PySem PySem.Spec PyProof.Rows L2 Ct
section
variable {K : PySem.W.Frag} {H H' : Hp}
theorem RkOk.same (s : Same H H') {ns : List Str} {ts : List (Str × Str)} {rk : V} : RkOk K H ns ts rk → RkOk K H' ns ts rk
  | ⟨kd, e, h⟩ => ⟨kd, e, s _ _ h⟩
/-- tuple(xs) -/
theorem tuple_of {p : Addr} {ys : List V} {Q : VK} (h : SqS K H p ys) (k : ∀ t H', Same H H' → SqT K H' t ys → Q (.ref t) H') : (SqL K H p ys ∧ ∀ l, H l = none → Q (.ref l) (upd H l (.tup ys))) ∨ (SqT K H p ys ∧ Q (.ref p) H) := by
  rcases h with h | h
  · exact .inl ⟨h, fun l hl => k l _ (same_new hl) (SqT.of upd_same)⟩
  · exact .inr ⟨h, k p H (Same.refl H) h⟩
theorem dp_all {bs : List It2} (h : ∀ b ∈ bs, Dp K H b.1 b.2) : DpAll K H (bs.map (·.1)) (bs.map (·.2)) := by
  induction bs with
  | nil => exact .nil
  | cons b bs ih => exact .cons (h b List.mem_cons_self) (ih fun c hc => h c (List.mem_cons_of_mem _ hc))
theorem srt_map (bs : List It2) : (bs.mergeSort (W.dataLe false (·.2))).map (·.2) = srt (bs.map (·.2)) := by
  unfold srt
  exact List.map_mergeSort (fun a _ b _ => rfl)
theorem dp_srt {bs : List It2} (h : ∀ b ∈ bs, Dp K H b.1 b.2) : DpAll K H ((bs.mergeSort (W.dataLe false (·.2))).map (·.1)) (srt (bs.map (·.2))) := by
  rw [← srt_map]
  exact dp_all fun b hb => h b ((List.mergeSort_perm bs _).mem_iff.mp hb)
theorem sqT_lst {L a : Addr} {ys xs : List V} {o : HO} (h : H L = some (.lst ys)) (t : SqT K H a xs) : SqT K (upd H L o) a xs := by
  rcases t with (t | ⟨ob, t⟩) | t
  · exact .inl (.inl (by rw [upd_ne (ne_of t h (by intro z; cases z))]; exact t))
  · exact .inl (.inr ⟨ob, by rw [upd_ne (ne_of t h (by intro z; cases z))]; exact t⟩)
  · exact .inr t
def rTup (K : PySem.W.Frag) : List V → Hp → VK → Prop := fun xs H Q => ∃ (p : Addr) (ys : List V), xs = [.ref p] ∧ SqS K H p ys ∧ ∀ t H', Same H H' → SqT K H' t ys → Q (.ref t) H'
theorem call_tupS {X : Cx} : CallR X (.type "tuple") (rTup X.K) := by
  intro pins s σ H xs us Q I r h
  obtain ⟨p, ys, rfl, hs, k⟩ := h
  exact call_tuple_of pins s σ H _ us Q I r ⟨p, ys, rfl, tuple_of hs k⟩
/-- what stood before, x aside -/
def Off (x : Addr) (H H' : Hp) : Prop := ∀ b o, b ≠ x → H b = some o → H' b = some o
theorem Off.of {x : Addr} (s : Same H H') : Off x H H' := fun b o _ e => s b o e
theorem Off.trans {x : Addr} {H1 H2 : Hp} (s : Off x H H1) (t : Off x H1 H2) : Off x H H2 := fun b o n e => t b o n (s b o n e)
theorem Off.store {x : Addr} {o : HO} : Off x H (upd H x o) := fun b u n e => by rw [upd_ne n]; exact e
end
local macro_rules | `(tactic| wide_line) => `(tactic| repeat ((fail_if_success (with_reducible refine at_while ?_)); (fail_if_success (with_reducible refine at_while1 ?_)); (conv => whnf); first | ((with_reducible refine And.intro ?_ ?_); focus (first | (first | ((with_reducible show (_ : Nat) ≤ _); first | exact sz0 | exact sz1 | exact sz2 | exact sz3 | exact sz4 | exact sz5 | exact sz6 | exact sz7 | exact sz8 | exact sz10 | exact sz11 | exact sz12 | exact sz14 | omega | decide | (simp only [List.length_cons, List.length_nil]; omega)) | ((with_reducible show (_ : Int) ≤ _); first | omega | decide) | ((with_reducible show (_ : Int) < _); first | omega | decide) | ((with_reducible show (_ : Nat) < _); omega)) | ((fail_if_success (with_reducible show (_ : Nat) ≤ _)); (fail_if_success (with_reducible show (_ : Int) ≤ _)); (fail_if_success (with_reducible show (_ : Int) < _)); (fail_if_success (with_reducible show (_ : Nat) < _)); first | exact kv_str _ | exact kv_int _ | rfl | assumption | exact flat_strs _ | exact Lv.get (by assumption) 0 rfl | exact Lv.get (by assumption) 1 rfl | exact Lv.get (by assumption) 2 rfl | exact Lv.get (by assumption) 3 rfl | exact Lv.get (by assumption) 4 rfl | exact Lv.get (by assumption) 5 rfl | exact Lv.get (by assumption) 6 rfl | exact SqL.of (Lv.get (by assumption) 0 rfl) | exact SqL.of (Lv.get (by assumption) 1 rfl) | exact SqL.of (Lv.get (by assumption) 2 rfl) | exact SqL.of (Lv.get (by assumption) 3 rfl) | exact SqL.of (Lv.get (by assumption) 4 rfl) | exact SqL.of (Lv.get (by assumption) 5 rfl) | exact Or.inl (SqL.of (Lv.get (by assumption) 0 rfl)) | exact Or.inl (SqL.of (Lv.get (by assumption) 1 rfl)) | exact Or.inl (SqL.of (Lv.get (by assumption) 2 rfl)) | exact Or.inl (SqL.of (Lv.get (by assumption) 3 rfl)) | exact Or.inl (SqL.of (Lv.get (by assumption) 4 rfl)) | exact Or.inl (SqL.of (Lv.get (by assumption) 5 rfl)) | exact ⟨_, SqL.of (Lv.get (by assumption) 0 rfl)⟩ | exact ⟨_, SqL.of (Lv.get (by assumption) 1 rfl)⟩ | exact ⟨_, SqL.of (Lv.get (by assumption) 2 rfl)⟩ | exact ⟨_, SqL.of (Lv.get (by assumption) 3 rfl)⟩ | exact ⟨_, SqL.of (Lv.get (by assumption) 4 rfl)⟩ | exact ⟨_, SqL.of (Lv.get (by assumption) 5 rfl)⟩ | exact Or.inl ⟨_, SqL.of (Lv.get (by assumption) 0 rfl), rfl⟩ | exact Or.inl ⟨_, SqL.of (Lv.get (by assumption) 1 rfl), rfl⟩ | exact Or.inl ⟨_, SqL.of (Lv.get (by assumption) 2 rfl), rfl⟩ | exact Or.inl ⟨_, SqL.of (Lv.get (by assumption) 3 rfl), rfl⟩ | exact Or.inl ⟨_, SqL.of (Lv.get (by assumption) 4 rfl), rfl⟩ | exact Or.inl ⟨_, SqL.of (Lv.get (by assumption) 5 rfl), rfl⟩ | exact Or.inl ⟨rfl, _, SqL.of (Lv.get (by assumption) 0 rfl)⟩ | exact Or.inl ⟨rfl, _, SqL.of (Lv.get (by assumption) 1 rfl)⟩ | exact Or.inl ⟨rfl, _, SqL.of (Lv.get (by assumption) 2 rfl)⟩ | exact Or.inl ⟨rfl, _, SqL.of (Lv.get (by assumption) 3 rfl)⟩ | exact Or.inl ⟨rfl, _, SqL.of (Lv.get (by assumption) 4 rfl)⟩ | exact Or.inl ⟨rfl, _, SqL.of (Lv.get (by assumption) 5 rfl)⟩ | exact Or.inr (SqT.of (Lv.get (by assumption) 0 rfl)) | exact Or.inr (SqT.of (Lv.get (by assumption) 1 rfl)) | exact Or.inr (SqT.of (Lv.get (by assumption) 2 rfl)) | exact Or.inr (SqT.of (Lv.get (by assumption) 3 rfl)) | exact SqT.of (Lv.get (by assumption) 0 rfl) | exact SqT.of (Lv.get (by assumption) 1 rfl) | exact SqT.of (Lv.get (by assumption) 2 rfl) | exact dgetN (Lv.get (by assumption) 0 rfl) (by assumption) | exact dgetN (Lv.get (by assumption) 1 rfl) (by assumption) | exact dgetN (Lv.get (by assumption) 2 rfl) (by assumption) | exact dgetN (Lv.get (by assumption) 3 rfl) (by assumption) | exact dgetN (Lv.get (by assumption) 4 rfl) (by assumption) | decide | ((with_reducible show _ ∧ _); omega)))) | ((fail_if_success (with_reducible apply @Exists.intro (Nat → _))); (with_reducible apply Exists.intro))))
local macro_rules
  | `(tactic| wide_line with al $lv:ident $l:ident $nl:ident $H:ident $lv1:ident $s1:ident) => `(tactic| (intro $l:ident $nl:ident; generalize he : upd _ _ _ = $H:ident; have $lv1:ident := Lv.alE $lv $nl he; have $s1:ident := sameE $nl he; clear he; (try dsimp only at $lv1:ident)))
  | `(tactic| wide_line with alx $lv:ident $nl:ident $H:ident $lv1:ident $s1:ident) => `(tactic| (generalize he : upd _ _ _ = $H:ident; have $lv1:ident := Lv.alE $lv $nl he; have $s1:ident := sameE $nl he; clear he; (try dsimp only at $lv1:ident)))
  | `(tactic| wide_line with sts $lv:ident $i:num $H:ident $lv1:ident $s0:ident $np:ident $s1:ident) => `(tactic| (generalize he : upd _ _ _ = $H:ident; have $lv1:ident := Lv.stE $lv $i rfl he; have $s1:ident := sameN $s0 $np he; clear he; (try dsimp only at $lv1:ident)))
  | `(tactic| wide_line with stx $lv:ident $H:ident $lv1:ident $d1:ident) => `(tactic| (generalize he : upd _ _ _ = $H:ident; have $lv1:ident := Lv.stE $lv 0 rfl he; have $d1:ident := SameD.storeE (Lv.get $lv 0 rfl) he; clear he; (try dsimp only at $lv1:ident)))
  | `(tactic| wide_line with st $lv:ident $i:num $H:ident $lv1:ident) => `(tactic| (generalize he : upd _ _ _ = $H:ident; have $lv1:ident := Lv.stE $lv $i rfl he; clear he; (try dsimp only at $lv1:ident)))
  | `(tactic| wide_line with stk $lv:ident $i:num $H:ident $lv1:ident $k1:ident) => `(tactic| (generalize he : upd _ _ _ = $H:ident; have $lv1:ident := Lv.stE $lv $i rfl he; have $k1:ident := KeepT.st (Lv.get $lv $i rfl) he; clear he; (try dsimp only at $lv1:ident)))
/-- a heap without the lists that stood in another -/
def noLst (Z H : Hp) : Hp := fun b => match Z b with
  | some (.lst _) => none
  | _ => H b
theorem noLst_sub {Z H : Hp} : Same (noLst Z H) H := fun b o e => by
  unfold noLst at e
  split at e
  · cases e
  · exact e
theorem noLst_at {Z H : Hp} {b : Addr} {o : HO} (n : ∀ xs, Z b ≠ some (.lst xs)) (e : H b = some o) : noLst Z H b = some o := by
  unfold noLst
  split
  · rename_i xs h
    exact absurd h (n xs)
  · exact e
theorem noLst_new {Z H : Hp} {b : Addr} {o : HO} (n : Z b = none) (e : H b = some o) : noLst Z H b = some o := noLst_at (fun xs z => by rw [n] at z; cases z) e
theorem noLst_keep {Z H : Hp} {b : Addr} {o : HO} (nl : ∀ b xs, Z b = some (.lst xs) → H b = some (.lst xs)) (e : H b = some o) (no : ∀ xs, o ≠ .lst xs) : noLst Z H b = some o := noLst_at (fun xs z => no xs (by have := nl b xs z; rw [e] at this; exact Option.some.inj this)) e
theorem noLst_t {K : PySem.W.Frag} {Z H : Hp} {b : Addr} {xs : List V} (nl : ∀ b xs, Z b = some (.lst xs) → H b = some (.lst xs)) (h : SqT K H b xs) : SqT K (noLst Z H) b xs := by
  rcases h with (h | ⟨o, h⟩) | h
  · exact .inl (.inl (noLst_keep nl h fun _ z => nomatch z))
  · exact .inl (.inr ⟨o, noLst_keep nl h fun _ z => nomatch z⟩)
  · exact .inr h
theorem noLst_ties {K : PySem.W.Frag} {Z H : Hp} (nl : ∀ b xs, Z b = some (.lst xs) → H b = some (.lst xs)) : ∀ {xs : List V} {ts : List (Str × Str)}, TiesAt K H xs ts → TiesAt K (noLst Z H) xs ts
  | _, _, .nil => .nil
  | _, _, .cons ⟨a, e, h⟩ t => .cons ⟨a, e, noLst_t nl h⟩ (noLst_ties nl t)
theorem MapOn.new {Z H0 H : Hp} {D : Addr} {ns : List Str} {f : Str → List Str} (g : ∀ b, H0 b = none → Z b = none) : MapOn H0 H D ns f → MapOn Z H D ns f
  | ⟨kvs, l, h1, h2, h3, h4⟩ => ⟨kvs, l, h1, h2, fun p hp => ⟨(h3 p hp).1, (h3 p hp).2.1, g _ (h3 p hp).2.2⟩, h4⟩
theorem MapOn.keepD {Z H H' : Hp} {D : Addr} {ns : List Str} {f : Str → List Str} (s : SameD H H') : MapOn Z H D ns f → MapOn Z H' D ns f
  | ⟨kvs, l, h1, h2, h3, h4⟩ => ⟨kvs, l, s _ _ h1 (fun _ _ _ z => nomatch z), h2, fun p hp => ⟨(h3 p hp).1, s _ _ (h3 p hp).2.1 (fun _ _ _ z => nomatch z), (h3 p hp).2.2⟩, h4⟩
theorem MapOn.apart {Z H : Hp} {D : Addr} {ns : List Str} {f : Str → List Str} (nl : ∀ b xs, Z b = some (.lst xs) → H b = some (.lst xs)) : MapOn Z H D ns f → MapAt (noLst Z H) D ns f
  | ⟨kvs, l, h1, h2, h3, h4⟩ => ⟨kvs, l, noLst_keep nl h1 (fun _ z => nomatch z), h2, fun p hp => ⟨(h3 p hp).1, noLst_new (h3 p hp).2.2 (h3 p hp).2.1⟩, h4⟩
/-- a text, or a tuple of two -/
def flatE (d : PyData) : Prop := (∃ x, d = .str x) ∨ ∃ x y, d = .tuple [.str x, .str y]
theorem noLst_dps {K : PySem.W.Frag} {Z H : Hp} (nl : ∀ b xs, Z b = some (.lst xs) → H b = some (.lst xs)) : ∀ {xs : List V} {ds : List PyData}, DpAll K H xs ds → (∀ d ∈ ds, flatE d) → DpAll K (noLst Z H) xs ds
  | _, _, .nil, _ => .nil
  | _, _, .cons h t, f => .cons (by
      rcases f _ List.mem_cons_self with ⟨x, rfl⟩ | ⟨x, y, rfl⟩
      · cases h; exact .str x
      · cases h with
        | tup ht ha =>
          cases ha with
          | cons h1 ha =>
            cases ha with
            | cons h2 ha =>
              cases ha
              cases h1
              cases h2
              exact .tup (noLst_t nl ht) (.cons (.str x) (.cons (.str y) .nil))) (noLst_dps nl t fun d hd => f d (List.mem_cons_of_mem _ hd))
theorem noLst_dp {K : PySem.W.Frag} {Z H : Hp} {a : Addr} {ds : List PyData} (nl : ∀ b xs, Z b = some (.lst xs) → H b = some (.lst xs)) (na : Z a = none) (h : Dp K H (.ref a) (.list ds)) (f : ∀ d ∈ ds, flatE d) : Dp K (noLst Z H) (.ref a) (.list ds) := by
  cases h with
  | lst hs ha =>
    refine .lst ?_ (noLst_dps nl ha f)
    rcases hs with (h | ⟨o, h⟩) | h
    · exact .inl (.inl (noLst_new na h))
    · exact .inl (.inr ⟨o, noLst_new na h⟩)
    · exact .inr h
/-- what a new web promises -/
def spInit (K : PySem.W.Frag) (C CP CS CT : Addr) : Sp := fun vs H Q E => ∃ (x dx : Addr) (v tv : V) (d td : PyData), vs = [.ref x, v, tv] ∧ H x = some (.ins C dx []) ∧ Dq K H v d ∧ txtOk d ∧ Dq K H tv td ∧
  (placesOf d = none → Raised CP "value" H v E) ∧ ∀ ns, placesOf d = some ns → (seqD td = none → Raised CS "value" H tv E) ∧ ∀ tds, seqD td = some tds → (∀ e ∈ tds, plainTie e) ∧ tds.length ≤ 75 ∧
    (∀ i, tieBad ns [] 0 tds = some i → Raised CT "position" H (.int i) E) ∧ (tieBad ns [] 0 tds = none → ∀ H', (∀ b o, b ≠ x → H b = some o → H' b = some o) → WebAt K C (noLst H H') x ns (tiesD ns tds) → Q .non H')
section
variable {P : Program} {w : World} {K : PySem.W.Frag} {mg : Str → Option Value} {base : Heap} {C CP CS CT T0 fa : Addr} {fd : FuncData}
abbrev sInit : Stmt := inClass (top ix_Web) mx_Web_init
theorem scInit : FnScope ["self", "places", "ties", "place", "sight", "tie"] ["self", "places", "ties"] (defScope sInit) := ⟨rfl, rfl, rfl, by decide +kernel, rfl, by decide +kernel, by decide +kernel⟩
theorem ok_init (T : Bn mg) (X : WC K C) (F : FunD K "__init__" "Web.__init__" (defArgs sInit) (defBody sInit) (defScope sInit) [.ref T0] [] fa fd) (h_check_places : HasR P w K mg base 3 "_check_places" ["places"] (spCheckPlaces K CP)) (h_check_ties : HasR P w K mg base 3 "_check_ties" ["places", "known", "ties"] (spCheckTies K CS CT))
    (h_sights : Has P w K mg base CX0 1 "_sights" ["places", "ties"] (spSights K)) (h_pair : Has P w K mg base CX0 1 "_pair" ["tie"] (spPair K)) (hM_named : HasM P w K mg base CX0 2 C "named" ["self", "number"] (spNamed K C)) : FnOk P w K mg base (L2.CX P w) 4 fa fd ["self", "places", "ties"] (spInit K C CP CS CT) := by
  refine F.ok scInit (fun vs H Q E h => ?_) (fun cdv A outer s H vs Q E hr h => ?_)
  · obtain ⟨x, dx, v, tv, d, td, rfl, _⟩ := h; rfl
  · obtain ⟨x, dx, v, tv, d, td, rfl, hx, hd, ok, htd, kp, kt⟩ := h
    have nd := scInit.nd
    refine ⟨_, (pss_cons (ps_expr (pe_hR h_check_places (takes_of rfl rfl rfl rfl) hr (by decide) rfl (pa_cons (pv 1) pa_nil)))
    (pss_cons (ps_expr (pe_hR h_check_ties (takes_of rfl rfl rfl rfl) hr (by decide) rfl (pa_cons (pv 1) (pa_cons (pe_tup pa_nil) (pa_cons (pv 2) pa_nil)))))
    (pss_cons (ps_fld (pv 0) (pe_callTy call_tupS (by rfl) T.z_tuple (by decide +kernel) (pa_cons (pv 1) pa_nil)) rfl)
    (pss_cons (ps_fld (pv 0) (pe_callTy call_tupS (by rfl) T.z_tuple (by decide +kernel) (pa_cons (pv 2) pa_nil)) rfl)
    (pss_cons (ps_fld (pv 0) (pe_h h_sights hr (by decide) rfl (pa_cons (pe_fld (pv 0) rfl) (pa_cons (pe_fld (pv 0) rfl) pa_nil))) rfl)
    (pss_cons (ps_fld (pv 0) (pe_dc (own := [("place", 3), ("sight", 4)]) (g := _) (tt := tYes) rfl nd (RZ.pi_zipA rfl T.z_zip (pa_cons (pe_fld (pv 0) rfl) (pa_cons (pe_fld (pv 0) rfl) pa_nil))) (blkOk_by (own := [("place", 3), ("sight", 4)]) (N := ["self", "places", "ties", "place", "sight", "tie"]) (sc := defScope sInit) (by decide +kernel)) (fun _ _ _ _ _ => (pg_tupk (K := K) (n := 2) rfl rfl (pgs_cons (pg_name (i := 3) nd rfl (by first | exact Or.inl rfl | exact Or.inr rfl)) (pgs_cons (pg_name (i := 4) nd rfl (by first | exact Or.inl rfl | exact Or.inr rfl)) pgs_nil)))) (fun _ _ _ _ _ => pts_nil) (fun _ _ _ _ _ => (pv 3)) (fun _ _ _ _ _ => (pe_hM hM_named X.cls hr (by decide) (pv 0) (pa_cons (pv 4) pa_nil)))) rfl)
    (pss_cons (ps_fld (pv 0) pe_dnewK rfl)
    (pss_cons (ps_fld (pv 0) (pe_callB (call_sortD hr.units) (by rfl) T.z_sorted (by decide +kernel) (pa_cons (pe_fld (pv 0) rfl) pa_nil)) rfl)
    (pss_one (ps_fld (pv 0) (pe_callB (call_sortD hr.units) (by rfl) T.z_sorted (by decide +kernel) (pa_cons (pe_lc (own := [("tie", 5)]) (g := gName 5) (tt := tYes) rfl nd (pi_sq (pe_fld (pv 0) rfl)) (blkOk_by (own := [("tie", 5)]) (N := ["self", "places", "ties", "place", "sight", "tie"]) (sc := defScope sInit) (by decide +kernel)) (fun _ _ _ _ _ => (pg_name (i := 5) nd rfl (by first | exact Or.inl rfl | exact Or.inr rfl))) (fun _ _ _ _ _ => pts_nil) (fun _ _ _ _ _ => (pe_h h_pair hr (by decide) rfl (pa_cons (pv 5) pa_nil)))) pa_nil)) rfl)))))))))), ?_⟩
    have lv := Lv.one hx
    -- the places
    refine ⟨_, rfl, v, d, rfl, hd, ok, fun hp H1 s1 => ?_, fun z => kp z⟩
    obtain ⟨ns, ep⟩ := Option.isSome_iff_exists.mp hp
    obtain ⟨kt1, kt2⟩ := kt ns ep
    obtain ⟨a, rfl, ha, nd1, l1, l12⟩ := places_at hd ep
    have lv1 := lv.same s1
    -- the ties
    wide_line
    wide_line with al lv1 kt nkt H2 lv2 s2
    have s02 := s1.trans s2
    have hkt : SqS K H2 kt [] := .inr (SqT.of (lv2.get 0 rfl))
    have lift : ∀ {C' : Addr} {f : Str} {z : V}, Raised C' f H z E → Raised C' f H2 z E := fun r e H' s he hH => r e H' (s02.trans s) (free_of s02 he) hH
    refine ⟨_, rfl, a, kt, ns, [], [], tv, td, rfl, ha.same s02, hkt, .nil, Dq.same s02 htd, fun z => lift (kt1 z), fun tds es => ?_⟩
    obtain ⟨pl, few, kb, kg⟩ := kt2 tds es
    refine ⟨pl, by simpa using few, fun gd H3 s3 => ?_, fun i z => lift (kb i z)⟩
    have s4 := s02.trans s3
    have gd : tieBad ns [] 0 tds = none := gd
    obtain ⟨tva, txs, rfl, hts, hta, htl⟩ := seq_of htd es
    obtain ⟨tat, tin⟩ := ties_ok hta gd
    have tlen : (tiesD ns tds).length ≤ tds.length := List.length_filterMap_le _ _
    generalize tiesD ns tds = tsx at *
    have lv3 := (lv2.same s3).picks [1] rfl (by decide) (by simp)
    -- the fields
    refine ⟨_, rfl, a, _, rfl, ha.same s4, fun tp H4 s5 htp => ?_⟩
    have c1 := X.cls
    obtain ⟨_, n1, n2, n3, n4, n5, n6, n7⟩ := id X
    have lv4 := lv3.same s5
    wide_line
    refine ⟨(by show 0 < 1000; decide), ?_⟩
    wide_line with stx lv4 H5 lv5 d5
    have lv5 := lv5.re (l' := [(x, .ins C dx [("_places", .ref tp)])]) rfl
    have D05 : SameD H H5 := (SameD.of (s4.trans s5)).trans d5
    have htp5 := d5.t htp
    wide_line
    refine ⟨D05.s hts, fun tt H6 s6 htt => ?_⟩
    have lv6 := lv5.same s6
    wide_line
    refine ⟨(by show 1 < 1000; decide), ?_⟩
    wide_line with stx lv6 H7 lv7 d7
    have lv7 := lv7.re (l' := [(x, .ins C dx [("_places", .ref tp), ("_ties", .ref tt)])]) rfl
    have D57 : SameD H5 H7 := (SameD.of s6).trans d7
    have htt7 := d7.t htt
    have htp7 := D57.t htp5
    have tat7 := (D05.trans D57).ties tat
    wide_line
    refine ⟨.inr htp7, nd1, by omega, .inr htt7, tat7, tin, by omega, fun sg H8 s8 nsg hsg => ?_⟩
    have lv8 := lv7.same s8
    wide_line
    refine ⟨(by show 2 < 1000; decide), ?_⟩
    wide_line with stx lv8 H9 lv9 d9
    have lv9 := lv9.re (l' := [(x, .ins C dx [("_places", .ref tp), ("_ties", .ref tt), ("_sights", .ref sg)])]) rfl
    have D79 : SameD H7 H9 := (SameD.of s8).trans d9
    have hsg9 : SqT K H9 sg (ns.map fun p => natV (sightN ns tsx p)) := d9.t (SqT.of hsg)
    have htp9 := D79.t htp7
    wide_line
    refine .inr ⟨htp9, hsg9, ?_⟩
    intro D nD
    have lvD := lv9.al (o := .dK []) nD
    have hN : ns.length = ns.length := rfl
    refine dc_it (walk_zipT rfl) (fun i H' => Hold (∃ kvs, Lv H [x] H' [(D, .dK kvs), (x, .ins C dx [("_places", .ref tp), ("_ties", .ref tt), ("_sights", .ref sg)])] ∧ Same H9 H' ∧ MapOn H9 H' D (ns.take i) (seenOf ns tsx)))
      ⟨[], lvD, same_new nD, [], fun _ => 0, upd_same, Nat.le_refl _, (fun p hp => by simp at hp), (fun p hp => by simp at hp)⟩ (fun i H' _ ⟨_, _, z, _⟩ => ⟨same_t z htp9, same_t z hsg9⟩) ?_ ?_
    · rintro i y H10 H11 hi ⟨kvs, lv10, s10, m10⟩ ⟨T, x1, x2, rfl, hT, rfl, ex1, ex2⟩
      obtain ⟨p, hp, rfl⟩ := str_at ex1
      obtain rfl : x2 = natV (sightN ns tsx p) := by
        have ex2 : (ns.map fun p => natV (sightN ns tsx p))[i]? = some x2 := ex2
        rw [List.getElem?_map, hp] at ex2
        exact (Option.some.inj ex2).symm
      have hi' : i < ns.length := by
        have := (List.getElem?_eq_some_iff.mp hp).1
        exact this
      wide_line with alx lv10 hT H12 lv12 s12
      wide_line
      refine ⟨same_t (s10.trans s12) htp9, sight_lt ns tsx p, by omega, fun l H13 s13 nl hl => ?_⟩
      have lv13 := lv12.same s13
      rw [pick_sight] at hl
      obtain ⟨kvs', e1, e2, m13⟩ := m10.snoc (p := p) (s12.trans s13) (free_of s12 nl) hl (free_of (s10.trans s12) nl) (fun z => by
        obtain ⟨j, hj⟩ := List.mem_iff_getElem?.mp z
        have jl : j < i := by
          have := (List.getElem?_eq_some_iff.mp hj).1
          rw [List.length_take] at this
          omega
        rw [List.getElem?_take_of_lt jl] at hj
        exact absurd (idx_inj nd1 hj hp) (by omega))
      wide_line
      obtain rfl : kvs' = kvs := by
        have := lv13.get 1 rfl
        rw [e1] at this
        cases this
        rfl
      refine ⟨by have := List.length_take_le i ns; rw [sizeLine_eq]; omega, ?_⟩
      have sE : Same H9 (upd H13 D (.dK (putK kvs' (.inr p) (.ref l)))) := same_upd (s10.trans (s12.trans s13)) nD
      generalize he : upd H13 D (.dK (putK kvs' (.inr p) (.ref l))) = H14 at sE m13
      have lv14 := lv13.stE 1 rfl he
      refine ⟨_, lv14.picks [1, 2] rfl (by decide) (by simp), sE, ?_⟩
      rw [take_next2 hp]
      exact m13
    · rintro H10 ⟨kvs, lv10, s10, m10⟩
      rw [show min (ns.map V.str).length (ns.map fun p => natV (sightN ns tsx p)).length = ns.length by simp, List.take_length] at m10
      have D910 := SameD.of s10
      have lv10 := lv10.picks [1, 0] rfl (by decide) (by simp)
      wide_line
      refine ⟨(by show 3 < 1000; decide), ?_⟩
      wide_line with stx lv10 H11 lv11 d11
      have D911 := D910.trans d11
      wide_line
      wide_line with al lv11 kd nkd Hk lvk sk
      have D9k := D911.trans (.of sk)
      have lvk := lvk.picks [1, 2, 0] rfl (by decide) (by simp)
      wide_line
      refine ⟨(by show 4 < 1000; decide), ?_⟩
      wide_line with stx lvk H12 lv12 d12
      have D912 := D9k.trans d12
      have lv12 := lv12.re (l' := [(x, .ins C dx [("_places", .ref tp), ("_ties", .ref tt), ("_sights", .ref sg), ("_seen", .ref D), ("_kept", .ref kd)]), (D, .dK kvs), (kd, .dK [])]) rfl
      have htx : ∀ {G : Hp}, ∀ b ∈ Ct.txs ns, Dp K G b.1 b.2 := fun {G} b hb => by
        obtain ⟨n, _, rfl⟩ := List.mem_map.mp hb
        exact .str n
      wide_line
      refine ⟨.inr (by rw [txs_fst]; exact D912.t htp9), htx, (txs_ok ns).1, (txs_ok ns).2, ?_, ?_⟩
      · intro b hb
        obtain ⟨n, _, rfl⟩ := List.mem_map.mp hb
        simp [PyData.depth]
      wide_line with al lv12 sp nsp H13 lv13 s13
      have hsp : Dp K H13 (.ref sp) (.list (srt (ns.map PyData.str))) := by
        rw [← txs_snd]
        exact .lst (SqL.of (lv13.get 0 rfl)) (dp_srt htx)
      have lv13 := lv13.picks [1, 2, 3] rfl (by decide) (by simp)
      wide_line
      refine ⟨(by show 5 < 1000; decide), ?_⟩
      wide_line with stx lv13 H14 lv14 d14
      have lv14 := lv14.re (l' := [(x, .ins C dx [("_places", .ref tp), ("_ties", .ref tt), ("_sights", .ref sg), ("_seen", .ref D), ("_kept", .ref kd), ("_sorted_places", .ref sp)]), (D, .dK kvs), (kd, .dK [])]) rfl
      have D914 := (D912.trans (.of s13)).trans d14
      have hsp14 := d14.dp hsp
      have D714 := D79.trans D914
      have htt14 := D714.t htt7
      have tat14 := D714.ties tat7
      have xl : txs.length = tsx.length := paired_len tat14
      -- the sorted pairs
      wide_line
      refine ⟨.inr htt14, fun J G ex hG wk L nL => ?_⟩
      refine lc_it wk (fun i H' => Hold (Same H14 H' ∧ ∃ ps : List (Addr × Str × Str), H' L = some (.lst (ps.map fun p => V.ref p.1)) ∧ ps.map (·.2) = (tsx.take i).map pairP ∧ ∀ p ∈ ps, TupS K H' p.1 p.2)) ⟨same_new nL, [], upd_same, rfl, fun p hp => by cases hp⟩ (fun i H' _ p => hG H' (.same p.out.1)) ?_ ?_
      · rintro i y H15 H16 hi ⟨s15, ps, hL, hps, hpt⟩ ⟨rfl, hyi⟩
        obtain ⟨p, b, hp, rfl, hb⟩ := ties_at (tat14.same s15) hyi
        refine ⟨rfl, _, rfl, b, p.1, p.2, rfl, hb, fun c hc => ?_⟩
        have s16 := same_new (o := .tup [.str (pairS p.1 p.2).1, .str (pairS p.1 p.2).2]) hc
        refine ⟨_, s16 _ _ hL, ?_, same_upd (s15.trans s16) nL, ps ++ [(c, pairP p)], by rw [upd_same, List.map_append]; rfl, by rw [List.map_append, hps, List.take_succ, hp]; simp, fun r hr => ?_⟩
        · have e := congrArg List.length hps
          rw [List.length_map, List.length_map] at e
          have := List.length_take_le i tsx
          rw [List.length_map, sizeLine_eq]
          omega
        · have hL16 := s16 _ _ hL
          rcases List.mem_append.mp hr with hr | hr
          · exact sqT_lst hL16 (same_t s16 (hpt r hr))
          · rw [List.mem_singleton.mp hr]
            exact sqT_lst hL16 (SqT.of upd_same)
      · rintro H15 ⟨s15, ps, hL, hps, hpt⟩
        rw [xl, List.take_length] at hps
        have lv15 := lv14.same s15
        have hpd : ∀ b ∈ Ct.prs ps, Dp K H15 b.1 b.2 := fun b hb => by
          obtain ⟨r, hr, rfl⟩ := List.mem_map.mp hb
          exact .tup (hpt r hr) (.cons (.str _) (.cons (.str _) .nil))
        have ed : (Ct.prs ps).map (·.2) = tsx.map pairD := by
          have e1 : (Ct.prs ps).map (·.2) = (ps.map (·.2)).map fun q => PyData.tuple [.str q.1, .str q.2] := by
            unfold Ct.prs
            rw [List.map_map, List.map_map]
            rfl
          rw [e1, hps, List.map_map]
          rfl
        wide_line
        refine ⟨.inl (by rw [prs_fst]; exact SqL.of hL), hpd, (prs_ok ps).1, (prs_ok ps).2, ?_, ?_⟩
        · intro b hb
          obtain ⟨r, _, rfl⟩ := List.mem_map.mp hb
          simp [PyData.depth, PyData.depthAll]
        wide_line with al lv15 sq nsq H16 lv16 s16
        have hsq : Dp K H16 (.ref sq) (.list (srt (tsx.map pairD))) := by
          rw [← ed]
          exact .lst (SqL.of (lv16.get 0 rfl)) (SameD.dps (.of s16) (dp_srt hpd))
        have lv16 := lv16.picks [1, 2, 3] rfl (by decide) (by simp)
        wide_line
        refine ⟨(by show 6 < 1000; decide), ?_⟩
        wide_line with stx lv16 H17 lv17 d17
        have D1417 := (SameD.of (s15.trans s16)).trans d17
        have D917 := D914.trans D1417
        have nl : ∀ b xs, H b = some (.lst xs) → H17 b = some (.lst xs) := fun b xs z => lv17.off b _ (fun q => by subst q; rw [hx] at z; cases z) z
        have mem : ∀ {ds : List PyData} {d : PyData}, d ∈ srt ds → d ∈ ds := fun {ds d} hd => (List.mergeSort_perm ds _).mem_iff.mp hd
        refine kg gd _ lv17.off ⟨⟨dx, tp, tt, sg, D, sp, sq, .ref kd, txs, noLst_at (fun _ z => by rw [hx] at z; cases z) (lv17.get 0 rfl), noLst_t nl (D917.t htp9), noLst_t nl (D1417.t htt14), noLst_ties nl (D1417.ties tat14), noLst_t nl (D917.t hsg9), ?_, ⟨kd, rfl, noLst_keep nl (lv17.get 2 rfl) (fun _ z => nomatch z)⟩, noLst_dp nl (lv12.free nsp) (D1417.dp hsp14) (fun d hd => ?_), noLst_dp nl (lv15.free nsq) (d17.dp hsq) (fun d hd => ?_)⟩⟩
        · exact (MapOn.keepD (((SameD.of (s13)).trans d14).trans D1417) (MapOn.keepD ((SameD.of sk).trans d12) (MapOn.keepD d11 (m10.new fun b z => lv9.free z)))).apart nl
        · obtain ⟨x, _, rfl⟩ := List.mem_map.mp (mem hd)
          exact .inl ⟨x, rfl⟩
        · obtain ⟨t, _, rfl⟩ := List.mem_map.mp (mem hd)
          exact .inr ⟨_, _, rfl⟩
end
end Pw

set_option Elab.async false
set_option linter.all false
set_option maxRecDepth 100000
set_option maxHeartbeats 2000000
/-! Own kit X: the head by facts: one more Bool, own errors, defs as bundles; the end for defs that lean on no guard. -/
namespace Ct
open PySem PySem.Spec PyProof.Rows L2 He
/-! ### the Hook -/
abbrev AlB : Type := AlD × Bool
def obsB (fa : List Fa) (fn : List DefD) (ex : PySem.W.Frag → Bool) (K : PySem.W.Frag) : AlB := (obsD fa fn K, ex K)
def obsBG (n : Nat) (fa : List Fa) (fn : List DefD) (ex : PySem.W.Frag → Bool) (g : Addr → Option Obj) : AlB := obsB fa fn ex (frG g (asD g n))
def hookB (n : Nat) (fa : List Fa) (fn : List DefD) (ex : PySem.W.Frag → Bool) : PySem.W.Hook where
  α := AlB
  obs := fun s => obsBG n fa fn ex s.heap.get?
  val := fun _ => (valD fn, true)
  says := fun _ h => ∃ K : PySem.W.Frag, K.In h ∧ SaysD fa fn K ∧ ex K = true
  of := fun _ _ e => ⟨_, frG_in, congrArg (fun z : AlB => z.1) e, congrArg (fun z : AlB => z.2) e⟩
  keeps := fun _ _ _ ⟨K, hK, c⟩ k => ⟨K, PySem.W.Frag.In.keeps hK k, c⟩
theorem obsBG_eq {n : Nat} {fa : List Fa} {fn : List DefD} {ex : PySem.W.Frag → Bool} {g : Addr → Option Obj} {s : Shared} (h : ∀ a, g a = s.heap.get? a) : obsBG n fa fn ex g = (hookB n fa fn ex).obs s := by
  have e : g = s.heap.get? := funext h
  rw [e] <;> rfl
/-! ### defs -/
section
variable {K : PySem.W.Frag} {mg : Str → Option Value} {h : Heap} {x q nm : Str} {st : Stmt} {f : Addr} {fd : FuncData} {ps : List Str} {fa : List Fa} {fn : List DefD}
theorem fun_of (F : FunD K x q (defArgs st) (defBody st) (defScope st) [] [] f fd) : Fun K x q st f fd := by
  obtain ⟨oc, od, dV, kV, doc, pm, an, cdv, ct, osl, e, lk, hcd, hD, _⟩ := F.ex
  rcases hD with ⟨_, rfl⟩ | ⟨n, _⟩
  · exact ⟨⟨oc, od, kV, doc, pm, an, cdv, ct, osl, e, lk, hcd⟩, F.kp⟩
  · exact absurd rfl n
/-- a module's def -/
abbrev dM (nm : Str) (st : Stmt) : DefD := ⟨(nm, none), nm, nm, defArgs st, defBody st, defScope st, [], []⟩
/-- a class's def -/
abbrev dC (C m q : Str) (st : Stmt) : DefD := ⟨(C, some m), m, q, defArgs st, defBody st, defScope st, [], []⟩
theorem dfe_of (X : K.In h) (G : h.Ns mainGlobals mg) (c : SaysD fa fn K) (i j : Nat) (hi : fn[i]? = some (dM nm st)) (hj : fa[j]? = some (.glo nm))
    (b : ∀ (kV doc pm : Value) (an : Option Addr) (cdv ct : Value) (us : List Value), us.length = ps.length → bindArgs (PySem.W.fnOf nm nm (defArgs st) (defBody st) (defScope st) .none kV doc pm an cdv ct) ⟨us, []⟩ = pure (ps.zip us)) : DFE K mg nm st ps := by
  obtain ⟨fd, F⟩ := c.def_ i hi
  exact ⟨_, fd, fun_of F, glo_ok X G (c.fact j hj), FunD.bindsN (ps := ps) F b⟩
theorem fun_at {C m q : Str} (c : SaysD fa fn K) (i : Nat) (hi : fn[i]? = some (dC C m q st)) : ∃ fd, Fun K m q st (ma K (ga K C) m) fd := by
  obtain ⟨fd, F⟩ := c.def_ i hi
  exact ⟨fd, fun_of F⟩
end
/-! ### own errors -/
section
variable {K : PySem.W.Frag} {C : Addr} {x f : Str}
def oexB (K : PySem.W.Frag) (C : Addr) : Bool := match K.lookup C with
  | some ⟨.type "type", _, .cls cd, sl⟩ => (match cd.mro, sl.toList with
    | .ref C' :: bm, [_, _, _, _, some (.builtin n), _] => C' == C && n == "ValueError.__new__" && !cd.hasDel && cd.hasDict && PySem.HandSPX.refsVE bm
    | _, _ => false)
  | _ => false
theorem oexB_ok (q : oexB K C = true) : ∃ nm qn N bs bm sn sub ab col dd k0 k1 k2 k3 k5, K.lookup C = some (excClassObj nm qn C N bs bm true sn sub ab col dd k0 k1 k2 k3 k5 "ValueError.__new__") ∧ PySem.HandSPX.refsVE bm = true := by
  unfold oexB at q
  split at q
  · rename_i dd cd sl ho
    split at q
    · rename_i C' bm k0 k1 k2 k3 n k5 hm hs
      simp only [Bool.and_eq_true, beq_iff_eq, Bool.not_eq_true'] at q
      obtain ⟨⟨⟨⟨rfl, rfl⟩, hdel⟩, hdct⟩, ht⟩ := q
      obtain ⟨nm, bs, mro, ns, qn, hd, sn, sub, ab, col, del⟩ := cd
      dsimp only at hm hdel hdct
      subst hm hdel hdct
      have hsl : sl = #[k0, k1, k2, k3, some (.builtin "ValueError.__new__"), k5] := by
        obtain ⟨l⟩ := sl
        simp only at hs
        rw [hs]
      subst hsl
      exact ⟨nm, qn, ns, bs, bm, sn, sub, ab, col, dd, k0, k1, k2, k3, k5, ho, ht⟩
    · cases q
  · cases q
def genB (K : PySem.W.Frag) : Bool := eqO (PySem.W.specialIn K (.builtin "object.__class__") "__get__") (some (some (.builtin "getset_descriptor.__get__"))) && decide (PySem.W.takesIn K (.builtin "object.__class__") = some true)
def xclB (K : PySem.W.Frag) (x f : Str) : Bool := oexB K (ga K x) && (eqO (PySem.W.findIn K (.ref (ga K x)) "__setattr__") (some (some (.builtin "object.__setattr__"))) && (decide (PySem.W.subIn K (.ref (ga K x)) (.type "BaseException") = some true) &&
  (decide (PySem.W.typeIn K (.ref (ga K x)) = some (.type "type")) && (PySem.W.keepIn K (.ref (ga K x)) && (eqO (PySem.W.findIn K (.ref (ga K x)) "__getattribute__") (some (some (.builtin "BaseException.__getattribute__"))) &&
  (eqO (PySem.W.findIn K (.ref (ga K x)) "__getattr__") (some none) && (PySem.W.hasDictIn K (ga K x) && (eqO (PySem.W.findIn K (.ref (ga K x)) "__class__") (some (some (.builtin "object.__class__"))) && (decide (PySem.W.mroIn K (ga K x) (.type "object") = some true) &&
  (eqO (PySem.W.findIn K (.ref (ga K x)) "__init__") (some (some (.ref (ma K (ga K x) "__init__")))) && (decide (PySem.W.typeIn K (.ref (ma K (ga K x) "__init__")) = some (.type "function")) && eqO (PySem.W.findIn K (.ref (ga K x)) f) (some none))))))))))))
theorem xclB_ok (g : genB K = true) (c : xclB K x f = true) : XCls K (ga K x) (ma K (ga K x) "__init__") ∧ PySem.W.findIn K (.ref (ga K x)) f = some none := by
  obtain ⟨g1, g2⟩ := ba g
  have hn := eqO_ok g1
  have ht := of_decide_eq_true g2
  obtain ⟨c1, c⟩ := ba c
  obtain ⟨c2, c⟩ := ba c
  obtain ⟨c3, c⟩ := ba c
  obtain ⟨c4, c⟩ := ba c
  obtain ⟨c5, c⟩ := ba c
  obtain ⟨c6, c⟩ := ba c
  obtain ⟨c7, c⟩ := ba c
  obtain ⟨c8, c⟩ := ba c
  obtain ⟨c9, c⟩ := ba c
  obtain ⟨c10, c⟩ := ba c
  obtain ⟨c11, c⟩ := ba c
  obtain ⟨c12, c13⟩ := ba c
  have hs := of_decide_eq_true c3
  exact ⟨⟨⟨oexB_ok c1, eqO_ok c2, hs, of_decide_eq_true c4, c5⟩, ⟨eqO_ok c6, eqO_ok c7, hs, c8, eqO_ok c9, hn, ht, of_decide_eq_true c10⟩, eqO_ok c11, of_decide_eq_true c12⟩, eqO_ok c13⟩
/-- the kit's word on isinstance -/
def isB (K : PySem.W.Frag) (x : Str) (c : Value) (b : Bool) : Bool := decide (PySem.W.kitOne K (.ref (ga K x)) c = some b)
def exmB (K : PySem.W.Frag) (x y : Str) (b : Bool) : Bool := decide (PySem.W.exmOne K (.ref (ga K x)) (.ref (ga K y)) = some b)
end
/-! ### the end -/
theorem walk_gE {l : PySem.W.OpenLaw} {n k : Nat} {q : Program} {loose : List Str} {XP : (Str → Option Value) → Heap → Prop} {YP : World → Heap → Prop} {d : DefRec} {CX : CXT} {x : Str}
    (hn : l.most = some n) (hq : importsNone q = true) (hn2 : n ≤ sizeLine) (hdf : d.params.defaults = []) (hr : Room k callerA)
    (F : ∀ (w : World) (mg : Str → Option Value) (fa : Addr) (h : Heap), YP w h → h.Ns mainGlobals mg → mg d.name = some (.ref fa) →
      ∃ (K : PySem.W.Frag) (fd : FuncData) (sp : Sp), K.In h ∧ (∀ (s : Shared) (u : Value), BindsTo s fd ⟨[u], []⟩ [(x, u)]) ∧
        (∀ (H : Hp) (a : Addr) (ns : List Int), ns.length ≤ n → (∀ z ∈ ns, Builtin.Int.intBits z ≤ 1048576) → Only H → SqL K H a (ns.map V.int) → sp [.ref a] H (fun v _ => v = .bl true) fun _ _ _ => False) ∧
        ∀ base : Heap, K.In base → base.Ns mainGlobals mg → (∃ mm, base.Ns sysModules mm) → GFn l.prog w K mg base CX k fa fd [x] sp)
    (hCX : ∀ (H : Hp) (s : Shared) (e : Value) (s' : Shared), CX [] H s (fun _ _ _ => False) e s' → False) :
    PySem.W.WalkO q loose XP YP l.row.toRowW d [] (fun f vs => PySem.call f vs) := by
  refine Att.attach_callB hn hdf ?_
  intro w s0 s1 mg mb fa o pm cd doc a vs ns G Y _ _ _ hmg hobj hints hlen hbits hg
  obtain ⟨K, fd, sp, KX, hb, hsp, hF⟩ := F w mg fa _ Y G.T.g hmg
  exact end_g KX G.T.g G.T.b G.T.builtins G.T.nolimit hg hobj hints (Nat.le_trans hlen hn2) hr ((G.T.seer hq).mods.imp fun _ z => z.1) hF hb (fun H h1 h2 => hsp H a ns hlen hbits h1 h2) (fun H e s' => hCX H s1 e s')
end Ct

set_option Elab.async false
set_option linter.all false
set_option maxRecDepth 100000
set_option maxHeartbeats 2000000
/-! Own kit Y: the head by facts, properties' getters too. -/
namespace Ct
open PySem PySem.Spec PyProof.Rows L2 He
/-! ### functions by a path of one's own -/
structure GetD where
  at_ : PySem.W.Frag → Addr
  name : Str
  qual : Str
  params : Arguments
  body : List Stmt
  scope : Scope
def fnWA (K : PySem.W.Frag) (a : Addr) : FnW := match K.lookup a with
  | some ⟨_, _, .func fd, _⟩ => some (fd.name, fd.qualname, fd.params, fd.body, fd.scope, fd.globals, fd.closure, fd.builtins)
  | _ => none
def GetD.val (d : GetD) : FnW := some (d.name, d.qual, d.params, .stmts d.body, d.scope, mainGlobals, [], builtinsNs)
def GetD.ok (K : PySem.W.Frag) (d : GetD) : Bool := PySem.W.keepIn K (.ref (d.at_ K)) && (match K.lookup (d.at_ K) with
  | some ⟨_, _, .func fd, _⟩ => PySem.W.codeIn K fd.code d.qual && (dflB K fd.defaults [] && kwdB K fd.kwdefaults [])
  | _ => false)
theorem GetD.funD {K : PySem.W.Frag} {d : GetD} (e : fnWA K (d.at_ K) = d.val) (c : d.ok K = true) : ∃ fd, FunD K d.name d.qual d.params d.body d.scope [] [] (d.at_ K) fd := by
  obtain ⟨kp, c2⟩ := ba c
  unfold fnWA at e
  cases q : K.lookup (d.at_ K) with
  | none =>
    rw [q] at c2
    cases c2
  | some o =>
    obtain ⟨oc, od, dt, osl⟩ := o
    rw [q] at c2 e
    cases dt with
    | func fd =>
      obtain ⟨n1, n2, n3, n4, n5, n6, n7, n8, n9, n10, n11, n12, n13, n14, n15⟩ := fd
      have e2 : (some (n1, n2, n3, n4, n5, n6, n7, n15) : FnW) = some (d.name, d.qual, d.params, .stmts d.body, d.scope, mainGlobals, [], builtinsNs) := e
      simp only [Option.some.injEq, Prod.mk.injEq] at e2
      obtain ⟨h1, h2, h3, h4, h5, h6, h7, h8⟩ := e2
      subst h1 h2 h3 h4 h5 h6 h7 h8
      have c3 : (PySem.W.codeIn K n13 d.qual && (dflB K n8 [] && kwdB K n9 [])) = true := c2
      obtain ⟨k1, k2⟩ := ba c3
      obtain ⟨k3, k4⟩ := ba k2
      exact ⟨_, ⟨oc, od, n8, n9, n10, n11, n12, n13, n14, osl, rfl, q, k1, dflB_ok k3, kwdB_ok k4⟩, kp⟩
    | _ => cases c2
/-! ### the Hook -/
abbrev AlG : Type := AlD × List FnW × Bool
def obsGt (fa : List Fa) (fn : List DefD) (gs : List GetD) (ex : PySem.W.Frag → Bool) (K : PySem.W.Frag) : AlG := (obsD fa fn K, gs.map (fun d => fnWA K (d.at_ K)), (gs.all fun d => d.ok K) && ex K)
def obsGtG (n : Nat) (fa : List Fa) (fn : List DefD) (gs : List GetD) (ex : PySem.W.Frag → Bool) (g : Addr → Option Obj) : AlG := obsGt fa fn gs ex (frG g (asD g n))
def SaysG (gs : List GetD) (K : PySem.W.Frag) : Prop := (gs.map (fun d => fnWA K (d.at_ K))) = gs.map GetD.val ∧ (gs.all fun d => d.ok K) = true
def hookG (n : Nat) (fa : List Fa) (fn : List DefD) (gs : List GetD) (ex : PySem.W.Frag → Bool) : PySem.W.Hook where
  α := AlG
  obs := fun s => obsGtG n fa fn gs ex s.heap.get?
  val := fun _ => (valD fn, gs.map GetD.val, true)
  says := fun _ h => ∃ K : PySem.W.Frag, K.In h ∧ SaysD fa fn K ∧ SaysG gs K ∧ ex K = true
  of := fun _ _ e => ⟨_, frG_in, congrArg (fun z : AlG => z.1) e, ⟨congrArg (fun z : AlG => z.2.1) e, (ba (congrArg (fun z : AlG => z.2.2) e)).1⟩, (ba (congrArg (fun z : AlG => z.2.2) e)).2⟩
  keeps := fun _ _ _ ⟨K, hK, c⟩ k => ⟨K, PySem.W.Frag.In.keeps hK k, c⟩
theorem obsGtG_eq {n : Nat} {fa : List Fa} {fn : List DefD} {gs : List GetD} {ex : PySem.W.Frag → Bool} {g : Addr → Option Obj} {s : Shared} (h : ∀ a, g a = s.heap.get? a) : obsGtG n fa fn gs ex g = (hookG n fa fn gs ex).obs s := by
  have e : g = s.heap.get? := funext h
  rw [e] <;> rfl
theorem SaysG.at {gs : List GetD} {K : PySem.W.Frag} (c : SaysG gs K) (i : Nat) {d : GetD} (h : gs[i]? = some d := by rfl) : ∃ fd, FunD K d.name d.qual d.params d.body d.scope [] [] (d.at_ K) fd := by
  have e2 : (gs.map fun d => fnWA K (d.at_ K))[i]? = (gs.map GetD.val)[i]? := by rw [c.1]
  rw [List.getElem?_map, List.getElem?_map, h] at e2
  exact GetD.funD (Option.some.inj e2) (List.all_eq_true.mp c.2 d (List.mem_of_getElem? h))
/-! ### properties -/
/-- the getter of the property f of the class x -/
def prA (x f : Str) (K : PySem.W.Frag) : Addr := match PySem.W.recIn K (ma K (ga K x) f) "property" with
  | some (.ref g :: _) => g
  | _ => 0
def prB (K : PySem.W.Frag) (x f : Str) : Bool := eqO (PySem.W.findIn K (.ref (ga K x)) f) (some (some (.ref (ma K (ga K x) f)))) && (eqO (PySem.W.specialIn K (.ref (ma K (ga K x) f)) "__get__") (some (some (.builtin "property.__get__"))) &&
  (decide (PySem.W.takesIn K (.ref (ma K (ga K x) f)) = some true) && (match PySem.W.recIn K (ma K (ga K x) f) "property" with
    | some (.ref _ :: _) => true
    | _ => false)))
section
variable {K : PySem.W.Frag} {x f : Str}
theorem prB_ok (c : prB K x f = true) : PropOf K (ga K x) f (ma K (ga K x) f) (prA x f K) := by
  obtain ⟨c1, c⟩ := ba c
  obtain ⟨c2, c⟩ := ba c
  obtain ⟨c3, c4⟩ := ba c
  refine ⟨eqO_ok c1, eqO_ok c2, of_decide_eq_true c3, ?_⟩
  have c4 : (match PySem.W.recIn K (ma K (ga K x) f) "property" with
    | some (.ref _ :: _) => true
    | _ => false) = true := c4
  unfold prA
  split at c4
  · rename_i g rest h
    exact ⟨rest, by rw [h]⟩
  · cases c4
/-- the getter as it stands -/
abbrev dG (x f q : Str) (st : Stmt) : GetD := ⟨prA x f, f, q, defArgs st, defBody st, defScope st⟩
/-- a tuple of nothing: a default -/
def emptyB (K : PySem.W.Frag) (a : Addr) : Bool := match K.lookup a with
  | some ⟨.type c, _, .seq its _, _⟩ => c == "tuple" && its.size == 0
  | _ => false
theorem emptyB_ok {a : Addr} (c : emptyB K a = true) : ∃ o n, K.lookup a = some o ∧ o.cls = .type "tuple" ∧ o.data = .seq #[] n := by
  unfold emptyB at c
  split at c
  · rename_i t d its n sl h
    rw [Bool.and_eq_true, beq_iff_eq, beq_iff_eq] at c
    obtain ⟨rfl, c2⟩ := c
    exact ⟨_, n, h, rfl, by rw [Array.eq_empty_of_size_eq_zero c2]⟩
  · cases c
/-- the common facts of classes' instances -/
def clsB (K : PySem.W.Frag) (x : Str) : Bool := eqO (PySem.W.findIn K (.ref (ga K x)) "__class__") (some (some (.builtin "object.__class__"))) && decide (PySem.W.mroIn K (ga K x) (.type "object") = some true)
end
end Ct

set_option Elab.async false
set_option linter.all false
set_option maxRecDepth 100000
set_option maxHeartbeats 2000000
/-! Own kit Z: == and != of a class with its own ==, whatever it answers; == with a datum. -/
namespace Ct
open PySem PySem.Spec PyProof.Rows L2
/-- a class over object with its own ==, without != -/
structure EqC (K : PySem.W.Frag) (C f : Addr) : Prop where
  ex : ∃ nm q N bs hdct sn sub ab col dd k0 k1 k2 k3 k5 newId, K.lookup C = some (excClassObj nm q C N bs [.type "object"] hdct sn sub ab col dd k0 k1 k2 k3 k5 newId) ∧ PySem.W.nsOkIn K N = true ∧ PySem.W.nsIn K N "__eq__" = some (some (.ref f)) ∧ PySem.W.nsIn K N "__ne__" = some none
  at_ : PySem.W.findIn K (.ref C) "__eq__" = some (some (.ref f))
  fn : PySem.W.isFn K (.ref f) = true
  lo : ∀ T ∈ ["NoneType", "bool", "int", "str", "list", "tuple", "dict"], PySem.W.notFirst K C (.type T) = true
section
open He
def eqcB (K : PySem.W.Frag) (x : Str) : Bool := (match K.lookup (ga K x) with
    | some ⟨.type "type", _, .cls cd, sl⟩ => (match cd.mro, sl.toList with
      | [.ref C', .type "object"], [_, _, _, _, some (.builtin _), _] => C' == ga K x && !cd.hasDel && PySem.W.nsOkIn K cd.ns && eqO (PySem.W.nsIn K cd.ns "__eq__") (some (some (.ref (ma K (ga K x) "__eq__")))) && eqO (PySem.W.nsIn K cd.ns "__ne__") (some none)
      | _, _ => false)
    | _ => false) && (eqO (PySem.W.findIn K (.ref (ga K x)) "__eq__") (some (some (.ref (ma K (ga K x) "__eq__")))) && (PySem.W.isFn K (.ref (ma K (ga K x) "__eq__")) && ["NoneType", "bool", "int", "str", "list", "tuple", "dict"].all fun T => PySem.W.notFirst K (ga K x) (.type T)))
theorem eqcB_ok {K : PySem.W.Frag} {x : Str} (c : eqcB K x = true) : EqC K (ga K x) (ma K (ga K x) "__eq__") := by
  obtain ⟨c1, c⟩ := ba c
  obtain ⟨c2, c⟩ := ba c
  obtain ⟨c3, c4⟩ := ba c
  refine ⟨?_, eqO_ok c2, c3, fun T hT => List.all_eq_true.mp c4 T hT⟩
  split at c1
  · rename_i dd cd sl ho
    split at c1
    · rename_i C' k0 k1 k2 k3 n k5 hm hs
      simp only [Bool.and_eq_true, beq_iff_eq, Bool.not_eq_true'] at c1
      obtain ⟨⟨⟨⟨rfl, hdel⟩, h1⟩, h2⟩, h3⟩ := c1
      obtain ⟨nm, bs, mro, ns, qn, hd, sn, sub, ab, col, del⟩ := cd
      dsimp only at hm hdel h1 h2 h3
      subst hm hdel
      have hsl : sl = #[k0, k1, k2, k3, some (.builtin n), k5] := by
        obtain ⟨l⟩ := sl
        simp only at hs
        rw [hs]
      subst hsl
      exact ⟨nm, qn, ns, bs, hd, sn, sub, ab, col, dd, k0, k1, k2, k3, k5, n, ho, h1, eqO_ok h2, eqO_ok h3⟩
    · cases c1
  · cases c1
end
theorem ns_at {K : PySem.W.Frag} {h : Heap} {N : Addr} {n : Str} {v : Value} {mg : Str → Option Value} (X : K.In h) (G : h.Ns N mg) (e : PySem.W.nsIn K N n = some (some v)) : mg n = some v := by
  obtain ⟨o, es, ep, ho, hd, _, hf⟩ := G
  unfold PySem.W.nsIn at e
  split at e
  · rename_i c d es' n' sl q
    have := X _ _ q
    rw [ho] at this
    cases this
    cases hd
    split at e
    · rename_i en he
      cases e
      rw [← hf]
      unfold nsFind findBy
      rw [← Array.find?_toList, he]
      rfl
    · split at e <;> cases e
  · cases e
theorem EqC.own {K : PySem.W.Frag} {h : Heap} {C f x dx : Addr} {o : Obj} (Z : EqC K C f) (X : K.In h) (hx : h.get? x = some o) (hc : o.cls = .ref C) : h.OwnEqNoNe x C f "object" [.type "object"] := by
  obtain ⟨nm, q, N, bs, hdct, sn, sub, ab, col, dd, k0, k1, k2, k3, k5, newId, hC, h1, h2, h3⟩ := Z.ex
  have G := Heap.Ns.of_isNs (PySem.W.isNs_of_in X h1)
  have hf : PySem.W.typeIn K (.ref f) = some (.type "function") := beq_iff_eq.mp Z.fn
  obtain ⟨of, l, cl⟩ := Option.map_eq_some_iff.mp (show (K.lookup f).map (·.cls) = some (.type "function") from hf)
  exact ⟨o, of, nm, q, N, bs, hdct, sn, sub, ab, col, dd, k0, k1, k2, k3, k5, newId, h.nsMap N, _, hx, hc, X _ _ hC, G, ns_at X G h2, X _ _ l, cl, PySem.F.mro_object, (show typeLookup (.type "object") ("__eq__" : Str) = pure (some (.builtin "object.__eq__")) by kernel_rfl), PySem.W.nsMap_none_of_in X h1 h3⟩
/-! ### the readings -/
/-- x == y by the own ==, x an instance of C: what it promises to answer -/
def rOwn (C : Addr) (sp : Sp) (E : XK) (neg : Bool) : R2 := fun x y H Q => ∃ (a dx : Addr) (fs : List (Str × V)), x = .ref a ∧ H a = some (.ins C dx fs) ∧ sp [x, y] H (fun v H' => ∃ b : Bool, v = .bl b ∧ Q (.bl (if neg then !b else b)) H') E
section
variable {X : Cx} {CX : CXT} {n : Nat} {C f : Addr} {fd : FuncData} {ps : List Str} {sp : Sp} {E : XK}
theorem run_own {A : Around} {pins : List (Addr × Obj)} {σ : L2.St} {H : Hp} {s : Shared} {x y : V} {u v : Value} {Q : VK} (F : FnOk X.prog X.w X.K X.mg X.base CX n f fd ps sp) (hb : Binds X.K fd ps []) (hx : Passes CX X E) (hr : Room n A) (hfr : A.frames = X.A.frames) (I : Inv X pins σ H s)
    (rx : RelV x u) (ry : RelV y v) (h : sp [x, y] H Q E) : wpAny (model X.prog X.w) A (call (.ref f) [u, v]) (EP X pins σ Q) X.xe s := by
  have e0 : Env0 X.prog X.w X.K X.mg X.base A X.stack s H := by
    have e := I.env0
    exact ⟨by rw [hfr]; exact e.frames, e.mod, e.bs, e.bsz, e.funs, e.frf, e.hok, e.bare⟩
  have hl := F.len _ _ _ _ h
  have r2 : Vals [x, y] [u, v] := .cons rx (.cons ry .nil)
  refine wpAny_call (codeAny_mono (F.run A X.stack s H ⟨[u, v], []⟩ [u, v] [x, y] Q E hr e0 (by
    have := hb s [u, v] I.kIn (by simpa using hl)
    simpa using this) r2 h) fun r s' hq => ?_)
  cases r with
  | error e => exact hx pins σ H s e s' I hq
  | ok fl =>
    cases fl with
    | ret w => exact I.after hq
    | next => exact False.elim hq
    | brk => exact False.elim hq
    | cont => exact False.elim hq
/-- web == thing: y of a type that T tells -/
theorem op_eqO (Z : EqC X.K C f) (F : FnOk X.prog X.w X.K X.mg X.base CX n f fd ps sp) (hb : Binds X.K fd ps []) (hx : Passes CX X E) (hr : Room n X.A) :
    OpR X (compareOp .Eq) (fun x y H Q => (∃ t, TyX X.K H y t ∧ PySem.W.notFirst X.K C t = true) ∧ rOwn C sp E false x y H Q) := by
  intro pins s σ H x y v u Q I rx ry h
  obtain ⟨⟨t, ty, nf⟩, a, dx, fs, rfl, ha, hsp⟩ := h
  cases (show v = Value.ref a from rx)
  obtain ⟨mA, J, _⟩ := ins_get I.hok ha
  obtain ⟨od, J, _⟩ := J.look
  obtain ⟨m, hF⟩ := I.fr
  obtain ⟨Pp, Zk, p, _⟩ := kit_of I ry ty
  show wpAny (model X.prog X.w) X.A (richCompare .Eq (.ref a) u) (EP X pins σ Q) X.xe s
  refine PySem.W.cmp_K (op := .Eq) (tb := t) hr.units0 hF I.ok.mod.kin J (Zk.ty _ _ I.kIn p) nf Z.at_ Z.fn ?_
  refine wpAny_mono (run_own F hb hx hr rfl I rx ry hsp) (fun r s' z => ?_) fun _ _ x => x
  obtain ⟨w, H', I', rw', b, rfl, q⟩ := z
  cases (show r = Value.bool b from rw')
  exact ⟨.bl b, H', I', rfl, q⟩
/-- web != web -/
theorem op_neO (Z : EqC X.K C f) (F : FnOk X.prog X.w X.K X.mg X.base CX n f fd ps sp) (hb : Binds X.K fd ps []) (hx : Passes CX X E) (hr : Room (n + 1) X.A) :
    OpR X (compareOp .NotEq) (fun x y H Q => (∃ (b dy : Addr) (gs : List (Str × V)), y = .ref b ∧ H b = some (.ins C dy gs)) ∧ rOwn C sp E true x y H Q) := by
  intro pins s σ H x y v u Q I rx ry h
  obtain ⟨⟨b, dy, gs, rfl, hb'⟩, a, dx, fs, rfl, ha, hsp⟩ := h
  cases (show v = Value.ref a from rx)
  cases (show u = Value.ref b from ry)
  obtain ⟨mA, O, _⟩ := ins_get I.hok ha
  obtain ⟨od, J, _⟩ := O.look
  obtain ⟨mB, O2, _⟩ := ins_get I.hok hb'
  obtain ⟨od2, J2, _⟩ := O2.look
  have hu : X.A.units + 1 < cLine := by have := hr.un; omega
  obtain ⟨hh, g, d, t, os⟩ := s
  refine compareOp_ne_ownEq PySem.F.cmp_object (Z.own (dx := dx) I.kIn J.at_ J.cls) J2.at_ J2.cls hu ?_
  refine wpAny_mono (run_own (A := X.A.in1) F hb hx hr.in1 rfl I rx ry hsp) (fun r s' z => ?_) fun _ _ x => x
  obtain ⟨w, H', I', rw', b, rfl, q⟩ := z
  cases (show r = Value.bool b from rw')
  exact ⟨b, rfl, .bl (!b), H', I', rfl, q⟩
end
end Ct

set_option Elab.async false
set_option linter.all false
set_option maxRecDepth 100000
set_option maxHeartbeats 2000000
/-! Own kit Zb: x in a tuple of data. -/
namespace Ct
open PySem PySem.Spec PyProof.Rows L2
def rInTD (K : PySem.W.Frag) (neg : Bool) : R2 := fun x y H Q => ∃ d ds, Dp K H x d ∧ Dp K H y (.tuple ds) ∧ SeqAt.shaped d = true ∧ SeqAt.shaped (.list ds) = true ∧ Q (.bl (if neg then !ds.any fun z => PyData.eqv z d else ds.any fun z => PyData.eqv z d)) H
section
variable {X : Cx} {K : PySem.W.Frag}
theorem op_inTD (hK : X.K = K) (hu : X.A.units + 65 < cLine) : OpR X (compareOp .In) (rInTD K false) := by
  subst hK
  intro pins s σ H x y v u Q I rx ry h
  obtain ⟨d, ds, hd, he, sd, se, q⟩ := h
  obtain ⟨as, r1⟩ := Dp.reads I d x v hd rx
  obtain ⟨bs, r2⟩ := Dp.reads I (.tuple ds) y u he ry
  exact SeqAt.in_tuple_reads r2 r1 (SeqAt.canLay_of_shaped se) (SeqAt.canLay_of_shaped sd) (room_in_shaped sd hu) ⟨.bl _, H, I, rfl, q⟩
theorem op_notInTD (hK : X.K = K) (hu : X.A.units + 65 < cLine) : OpR X (compareOp .NotIn) (rInTD K true) := by
  subst hK
  intro pins s σ H x y v u Q I rx ry h
  obtain ⟨d, ds, hd, he, sd, se, q⟩ := h
  obtain ⟨as, r1⟩ := Dp.reads I d x v hd rx
  obtain ⟨bs, r2⟩ := Dp.reads I (.tuple ds) y u he ry
  exact SeqAt.notIn_tuple_reads r2 r1 (SeqAt.canLay_of_shaped se) (SeqAt.canLay_of_shaped sd) (room_in_shaped sd hu) ⟨.bl _, H, I, rfl, q⟩
end
end Ct

set_option Elab.async false
set_option linter.all false
set_option maxRecDepth 100000
set_option maxHeartbeats 2000000
/-! Own kit Zc: a text against a dict. -/
namespace PySem.SeqAt
open PySem PySem.Spec PySem.Calls Builtin
theorem sub_dict_str : isSubtype (.type "dict") (.type "str") = pure false := by kernel_rfl
theorem sub_str_dict : isSubtype (.type "str") (.type "dict") = pure false := by kernel_rfl
theorem dict_eq_declines_str (l : Addr) (es : Array DictEntry) (n : Nat) (dd : Option Addr) (sl : Array (Option Value)) (b : Str) (u : Tok) :
    Meets (Builtin.«dict.__eq__» ⟨[.ref l, .str b u], []⟩) (fun _ R s => s.heap.get? l = some { cls := .type "dict", dict := dd, data := .dict es n, slots := sl } ∧ R (.ok (.ret .notImplemented)) s) :=
  .of_wp fun prog w A R s h => by obtain ⟨hp, g, d, tk, os⟩ := s; obtain ⟨hl, h⟩ := h; have f1 := sub_str_dict; wp_walk using wpAny_loadPart' hl; exact ⟨_, rfl, h⟩
theorem str_eq_declines_dict (b : Str) (u : Tok) (l : Addr) (es : Array DictEntry) (n : Nat) (dd : Option Addr) (sl : Array (Option Value)) :
    Meets (Builtin.«str.__eq__» ⟨[.str b u, .ref l], []⟩) (fun _ R s => s.heap.get? l = some { cls := .type "dict", dict := dd, data := .dict es n, slots := sl } ∧ R (.ok (.ret .notImplemented)) s) :=
  .of_wp fun prog w A R s h => by obtain ⟨hp, g, d, tk, os⟩ := s; obtain ⟨hl, h⟩ := h; wp_walk using wpAny_loadPart' hl, wpAny_load hl; exact ⟨_, rfl, h⟩
section
variable {A : Around} {s : Shared}
/-- a dict at l -/
def IsDictAt (h : Heap) (l : Addr) : Prop := ∃ (es : Array DictEntry) (n : Nat) (dd : Option Addr) (sl : Array (Option Value)), h.get? l = some { cls := .type "dict", dict := dd, data := .dict es n, slots := sl }
theorem RcAt.str_dict {l : Addr} (b : Str) (u : Tok) (hl : IsDictAt s.heap l) (hu : A.units < cLine) : RcAt A s (.str b u) (.ref l) false := fun prog w E Q h => by
  obtain ⟨es, n, dd, sl, ho⟩ := hl
  exact rc_eq_decline_or (k := false) (typeIs_str s b u) ⟨_, ho, rfl⟩ (by decide) sub_dict_str F.slot_str_eq F.slot_dict_eq_refl
    (fun _ hq => call_meets F.slot_str_eq (typeIs_str s b u) F.entry_str_eq (F.args_str_eq_2 _ _) (str_eq_declines_dict b u l es n dd sl) ⟨ho, hq⟩)
    (fun _ hq => call_meets F.slot_dict_eq_refl ⟨_, ho, rfl⟩ F.entry_dict_eq (F.args_dict_eq_2 _ _) (dict_eq_declines_str l es n dd sl b u) ⟨ho, hq⟩)
    (fun _ hq => wpAny_of_eq (rfl : isSame (.str b u) (.ref l) = pure false) hq) (.inr hu) h
theorem EqAt.str_dict {l : Addr} (b : Str) (u : Tok) (hl : IsDictAt s.heap l) (hu : A.units < cLine) : EqAt A s (.str b u) (.ref l) false := fun prog w E Q h => by
  unfold eqBool
  refine wpAny_holding ?_
  refine wpAny_ite_split (fun hab => absurd (eq_of_beq hab) nofun) (fun _ => ?_)
  exact wpAny_bind (RcAt.str_dict b u hl hu prog w E _ (wpAny_truthy_bool h))
end
end PySem.SeqAt
namespace Ct
open PySem PySem.Spec PyProof.Rows L2
section
variable {X : Cx} {pins : List (Addr × Obj)} {σ : L2.St} {H : Hp} {s : Shared} {K : PySem.W.Frag}
/-- a datum, or a dict of data, against texts -/
theorem amU_eqQ {A : Around} (I : Inv X pins σ H s) (hu : A.units < cLine) {x : V} {v : Value} {d : PyData} (r : RelV x v) (h : Dq X.K H x d) : ∀ {ns : List Str} {us : List Value}, Vals (ns.map V.str) us → ∀ u ∈ us, SeqAt.EqAt A s u v (amU d u)
  | [], _, .nil => fun u hu => by cases hu
  | n :: ns, w :: us, .cons r0 t => fun u m => by
    rcases List.mem_cons.mp m with rfl | m
    · obtain ⟨k, rfl⟩ := r0
      cases h with
      | non => cases r; exact SeqAt.EqAt.str_none n k
      | bl b => cases r; exact SeqAt.EqAt.str_bool n k b
      | int i => obtain ⟨t2, rfl⟩ := r; exact SeqAt.EqAt.str_int n k i t2
      | str y => obtain ⟨t2, rfl⟩ := r; exact SeqAt.EqAt.str_str n k y t2
      | lst hs _ =>
        cases r
        obtain ⟨its, rv, pl, _⟩ := I.list hs
        exact SeqAt.EqAt.str_list n k pl.isList hu
      | tup hs _ =>
        cases r
        obtain ⟨its, rv, pl, _⟩ := I.tuple hs
        exact SeqAt.EqAt.str_tuple n k (show s.heap.IsTuple _ its.toArray from pl) hu
      | dic hs hk hv ha =>
        cases r
        obtain ⟨_, hy, vs, rkv, o, es, ep, ho, hx, hd, _⟩ := hs.ok I.hok
        obtain ⟨oc, od, dt, sl⟩ := o
        simp only at hd
        subst hd
        have hc : oc = .type "dict" := hx.1
        subst hc
        exact SeqAt.EqAt.str_dict n k ⟨es, _, od, sl, ho⟩ hu
      | dicT hs hk hv ha =>
        cases r
        obtain ⟨_, hy, xs, rp, o, es, ep, ho, hx, hd, he, _⟩ := hs.ok I.hok
        obtain ⟨oc, od, dt, sl⟩ := o
        simp only at hd
        subst hd
        have hc : oc = .type "dict" := hx.1
        subst hc
        exact SeqAt.EqAt.str_dict n k ⟨es, _, od, sl, ho⟩ hu
    · exact amU_eqQ I hu r h t u m
/-- x in names, x any datum -/
def rAmidQ (K : PySem.W.Frag) (neg : Bool) : R2 := fun x y H Q => ∃ (d : PyData) (a : Addr) (ns : List Str), y = .ref a ∧ SqS K H a (ns.map V.str) ∧ Dq K H x d ∧ Q (.bl (if neg then !amid d ns else amid d ns)) H
theorem or_amidQ (hK : X.K = K) (hu : X.A.units + 64 < cLine) : OpR X (compareOp .In) (rAmidQ K false) := by
  subst hK
  intro pins s σ H x y v u Q I rx ry h
  obtain ⟨d, a, ns, rfl, ha, hd, q⟩ := h
  cases (show u = Value.ref a from ry)
  have hu1 : X.A.in1.units < cLine := by show X.A.units + 1 < _; omega
  rw [if_neg (by decide)] at q
  rcases ha with ha | ha
  · obtain ⟨its, rv, pl, hz⟩ := I.list ha
    refine SeqAt.in_listAt (amU d) pl.isList (fun w hw => amU_eqQ I hu1 rx hd rv w (by simpa using hw)) ⟨.bl _, H, I, rfl, ?_⟩
    rw [show its.toArray.any (amU d) = its.any (amU d) by simp, amU_any d rv]
    exact q
  · obtain ⟨its, rv, pl, hz⟩ := I.tuple ha
    refine SeqAt.in_tupleAt (amU d) pl (fun w hw => amU_eqQ I hu1 rx hd rv w (by simpa using hw)) ⟨.bl _, H, I, rfl, ?_⟩
    rw [show its.toArray.any (amU d) = its.any (amU d) by simp, amU_any d rv]
    exact q
theorem or_namidQ (hK : X.K = K) (hu : X.A.units + 64 < cLine) : OpR X (compareOp .NotIn) (rAmidQ K true) := by
  subst hK
  intro pins s σ H x y v u Q I rx ry h
  obtain ⟨d, a, ns, rfl, ha, hd, q⟩ := h
  cases (show u = Value.ref a from ry)
  have hu1 : X.A.in1.units < cLine := by show X.A.units + 1 < _; omega
  rw [if_pos rfl] at q
  rcases ha with ha | ha
  · obtain ⟨its, rv, pl, hz⟩ := I.list ha
    refine SeqAt.notIn_listAt (amU d) pl.isList (fun w hw => amU_eqQ I hu1 rx hd rv w (by simpa using hw)) ⟨.bl _, H, I, rfl, ?_⟩
    rw [show its.toArray.any (amU d) = its.any (amU d) by simp, amU_any d rv]
    exact q
  · obtain ⟨its, rv, pl, hz⟩ := I.tuple ha
    refine SeqAt.notIn_tupleAt (amU d) pl (fun w hw => amU_eqQ I hu1 rx hd rv w (by simpa using hw)) ⟨.bl _, H, I, rfl, ?_⟩
    rw [show its.toArray.any (amU d) = its.any (amU d) by simp, amU_any d rv]
    exact q
end
end Ct

set_option Elab.async false
set_option linter.all false
set_option maxRecDepth 100000
set_option maxHeartbeats 4000000
namespace Pw
open PySem PySem.Spec PyProof.Rows L2 Ct
def spIsPlace (K : PySem.W.Frag) (C : Addr) : Sp := fun vs H Q _ => ∃ (x : Addr) (v : V) (ns : List Str) (ts : List (Str × Str)) (d : PyData), vs = [.ref x, v] ∧ WebAt K C H x ns ts ∧ Dq K H v d ∧ Q (.bl (amid d ns)) H
def spCheckPlace (K : PySem.W.Frag) (C CN : Addr) : Sp := fun vs H Q E => ∃ (x : Addr) (v : V) (ns : List Str) (ts : List (Str × Str)) (d : PyData), vs = [.ref x, v] ∧ WebAt K C H x ns ts ∧ Dq K H v d ∧ (amid d ns = true → Q .non H) ∧ (amid d ns = false → Raised CN "value" H v E)
def spSees (K : PySem.W.Frag) (C CN : Addr) : Sp := fun vs H Q E => ∃ (x : Addr) (v : V) (ns : List Str) (ts : List (Str × Str)) (d : PyData), vs = [.ref x, v] ∧ WebAt K C H x ns ts ∧ Dq K H v d ∧ (∀ p, d = .str p → p ∈ ns → ∀ l H', Same H H' → H l = none → H' l = some (.lst ((seenOf ns ts p).map V.str)) → Q (.ref l) H') ∧ (amid d ns = false → Raised CN "value" H v E)
section
variable {P : Program} {w : World} {K : PySem.W.Frag} {mg : Str → Option Value} {base : Heap} {C CN fa : Addr} {fd : FuncData}
abbrev sIsPlace : Stmt := top ix_is_place
theorem scIsPlace : FnScope ["web", "value"] ["web", "value"] (defScope sIsPlace) := ⟨rfl, rfl, rfl, by decide +kernel, rfl, by decide +kernel, by decide +kernel⟩
theorem has_is_place (X : WC K C) (D : DFE K mg "is_place" sIsPlace ["web", "value"]) (hP_places : HasP P w K mg base 1 C "places" (getSp C "_places")) : Has P w K mg base CX0 3 "is_place" ["web", "value"] (spIsPlace K C) := by
  refine has_of D scIsPlace (fun vs H Q E h => ?_) (fun f cdv A outer s H vs Q E hr h => ?_)
  · obtain ⟨x, v, ns, ts, d, rfl, _⟩ := h; rfl
  · obtain ⟨x, v, ns, ts, d, rfl, hw, hd, k⟩ := h
    have nd := scIsPlace.nd
    refine ⟨_, (pss_one (ps_ret (pe_cmpR (or_amidQ rfl hr.units) (pv 1) (pe_hP hP_places X.cls hr (by decide) (pv 0)) (by first | exact nomark _ | rfl)))), ?_⟩
    obtain ⟨⟨dx, tp, tt, sg, sn, sp, sq, rk, xs, hx, htp, _⟩⟩ := hw
    refine ⟨_, rfl, _, rfl, x, dx, _, rfl, hx, x, dx, _, _, rfl, hx, rfl, d, tp, ns, rfl, .inr htp, hd, ?_⟩
    rw [if_neg (by decide)]
    exact k
abbrev sCheckPlace : Stmt := top ix_check_place
theorem scCheckPlace : FnScope ["web", "value"] ["web", "value"] (defScope sCheckPlace) := ⟨rfl, rfl, rfl, by decide +kernel, rfl, by decide +kernel, by decide +kernel⟩
theorem has_check_place (D : DFE K mg "check_place" sCheckPlace ["web", "value"]) (h_is_place : Has P w K mg base CX0 3 "is_place" ["web", "value"] (spIsPlace K C)) (hE_NoPlace : HasE P w K mg base 1 "NoPlace" CN "value") : HasR P w K mg base 4 "check_place" ["web", "value"] (spCheckPlace K C CN) := by
  refine hasR_of D scCheckPlace (fun vs H Q E h => ?_) (fun f cdv A outer s H vs Q E hr h => ?_)
  · obtain ⟨x, v, ns, ts, d, rfl, _⟩ := h; rfl
  · obtain ⟨x, v, ns, ts, d, rfl, hw, hd, k1, k2⟩ := h
    have nd := scCheckPlace.nd
    refine ⟨_, (pss_one (ps_if (pt_not (pt_val (pe_h h_is_place hr (by decide) rfl (pa_cons (pv 0) (pa_cons (pv 1) pa_nil))))) (pss_one (ps_raise rfl (takes_of rfl rfl rfl rfl) (pmk_x hE_NoPlace hr (by decide) rfl (pv 1)))) pss_nil)), ?_⟩
    refine ⟨_, rfl, _, rfl, x, v, ns, ts, d, rfl, hw, hd, _, rfl, ?_⟩
    cases c : amid d ns with
    | true => exact iteF (k1 c)
    | false => exact iteT ⟨_, rfl, fun e he => k2 c e _ (same_new he) he upd_same⟩
abbrev sSees : Stmt := inClass (top ix_Web) mx_Web_sees
theorem scSees : FnScope ["self", "place"] ["self", "place"] (defScope sSees) := ⟨rfl, rfl, rfl, by decide +kernel, rfl, by decide +kernel, by decide +kernel⟩
theorem ok_sees (T : Bn mg) (X : WC K C) (F : Fun K "sees" "Web.sees" sSees fa fd) (h_check_place : HasR P w K mg base 4 "check_place" ["web", "value"] (spCheckPlace K C CN)) : FnOk P w K mg base (L2.CX P w) 5 fa fd ["self", "place"] (spSees K C CN) := by
  refine F.okX scSees (fun vs H Q E h => ?_) (fun cdv A outer s H vs Q E hr h => ?_)
  · obtain ⟨x, v, ns, ts, d, rfl, _⟩ := h; rfl
  · obtain ⟨x, v, ns, ts, d, rfl, hw, hd, k1, k2⟩ := h
    have nd := scSees.nd
    refine ⟨_, (pss_cons (ps_expr (pe_hR h_check_place (takes_of rfl rfl rfl rfl) hr (by decide) rfl (pa_cons (pv 0) (pa_cons (pv 1) pa_nil))))
    (pss_one (ps_ret (pe_callTy call_list_of (by rfl) T.z_list (by decide +kernel) (pa_cons (pe_dget (hu_of hr) (pe_fld (pv 0) rfl) (pv 1) (fun _ _ => rfl)) pa_nil))))), ?_⟩
    refine ⟨_, rfl, _, rfl, x, v, ns, ts, d, rfl, hw, hd, fun c => ?_, k2⟩
    obtain ⟨⟨dx, tp, tt, sg, sn, sp, sq, rk, xs, hx, htp, htt, hts, hsg, ⟨kvs, l, m1, m2, m3, m4⟩, _⟩⟩ := hw
    cases d with
    | str p =>
      cases hd
      have hp := amid_str.mp c
      obtain ⟨v1, v2⟩ := m3 p hp
      refine ⟨_, rfl, x, C, dx, _, _, rfl, hx, X.cls, X.n4, rfl, _, rfl, sn, .ref (l p), rfl, (by rw [← v1]; exact DGet.k (k := Sum.inr p) m1), l p, _, rfl, .inl (SqL.of v2), fun L nL => ?_⟩
      exact k1 p rfl hp L _ (same_new nL) nL upd_same
    | _ => exact absurd c Bool.false_ne_true
end
end Pw

set_option Elab.async false
set_option linter.all false
set_option maxRecDepth 100000
set_option maxHeartbeats 4000000
namespace Pw
open PySem PySem.Spec PyProof.Rows L2 Ct
local macro_rules | `(tactic| wide_line) => `(tactic| repeat ((fail_if_success (with_reducible refine at_while ?_)); (fail_if_success (with_reducible refine at_while1 ?_)); (conv => whnf); first | ((with_reducible refine And.intro ?_ ?_); focus (first | (first | ((with_reducible show (_ : Nat) ≤ _); first | exact sz0 | exact sz1 | exact sz2 | exact sz3 | exact sz4 | exact sz5 | exact sz6 | exact sz7 | exact sz8 | exact sz10 | exact sz11 | exact sz12 | exact sz14 | omega | decide | (simp only [List.length_cons, List.length_nil]; omega)) | ((with_reducible show (_ : Int) ≤ _); first | omega | decide) | ((with_reducible show (_ : Int) < _); first | omega | decide) | ((with_reducible show (_ : Nat) < _); omega)) | ((fail_if_success (with_reducible show (_ : Nat) ≤ _)); (fail_if_success (with_reducible show (_ : Int) ≤ _)); (fail_if_success (with_reducible show (_ : Int) < _)); (fail_if_success (with_reducible show (_ : Nat) < _)); first | exact kv_str _ | exact kv_int _ | rfl | assumption | exact flat_strs _ | exact Lv.get (by assumption) 0 rfl | exact Lv.get (by assumption) 1 rfl | exact Lv.get (by assumption) 2 rfl | exact Lv.get (by assumption) 3 rfl | exact Lv.get (by assumption) 4 rfl | exact Lv.get (by assumption) 5 rfl | exact Lv.get (by assumption) 6 rfl | exact SqL.of (Lv.get (by assumption) 0 rfl) | exact SqL.of (Lv.get (by assumption) 1 rfl) | exact SqL.of (Lv.get (by assumption) 2 rfl) | exact SqL.of (Lv.get (by assumption) 3 rfl) | exact SqL.of (Lv.get (by assumption) 4 rfl) | exact SqL.of (Lv.get (by assumption) 5 rfl) | exact Or.inl (SqL.of (Lv.get (by assumption) 0 rfl)) | exact Or.inl (SqL.of (Lv.get (by assumption) 1 rfl)) | exact Or.inl (SqL.of (Lv.get (by assumption) 2 rfl)) | exact Or.inl (SqL.of (Lv.get (by assumption) 3 rfl)) | exact Or.inl (SqL.of (Lv.get (by assumption) 4 rfl)) | exact Or.inl (SqL.of (Lv.get (by assumption) 5 rfl)) | exact ⟨_, SqL.of (Lv.get (by assumption) 0 rfl)⟩ | exact ⟨_, SqL.of (Lv.get (by assumption) 1 rfl)⟩ | exact ⟨_, SqL.of (Lv.get (by assumption) 2 rfl)⟩ | exact ⟨_, SqL.of (Lv.get (by assumption) 3 rfl)⟩ | exact ⟨_, SqL.of (Lv.get (by assumption) 4 rfl)⟩ | exact ⟨_, SqL.of (Lv.get (by assumption) 5 rfl)⟩ | exact Or.inl ⟨_, SqL.of (Lv.get (by assumption) 0 rfl), rfl⟩ | exact Or.inl ⟨_, SqL.of (Lv.get (by assumption) 1 rfl), rfl⟩ | exact Or.inl ⟨_, SqL.of (Lv.get (by assumption) 2 rfl), rfl⟩ | exact Or.inl ⟨_, SqL.of (Lv.get (by assumption) 3 rfl), rfl⟩ | exact Or.inl ⟨_, SqL.of (Lv.get (by assumption) 4 rfl), rfl⟩ | exact Or.inl ⟨_, SqL.of (Lv.get (by assumption) 5 rfl), rfl⟩ | exact Or.inl ⟨rfl, _, SqL.of (Lv.get (by assumption) 0 rfl)⟩ | exact Or.inl ⟨rfl, _, SqL.of (Lv.get (by assumption) 1 rfl)⟩ | exact Or.inl ⟨rfl, _, SqL.of (Lv.get (by assumption) 2 rfl)⟩ | exact Or.inl ⟨rfl, _, SqL.of (Lv.get (by assumption) 3 rfl)⟩ | exact Or.inl ⟨rfl, _, SqL.of (Lv.get (by assumption) 4 rfl)⟩ | exact Or.inl ⟨rfl, _, SqL.of (Lv.get (by assumption) 5 rfl)⟩ | exact Or.inr (SqT.of (Lv.get (by assumption) 0 rfl)) | exact Or.inr (SqT.of (Lv.get (by assumption) 1 rfl)) | exact Or.inr (SqT.of (Lv.get (by assumption) 2 rfl)) | exact Or.inr (SqT.of (Lv.get (by assumption) 3 rfl)) | exact SqT.of (Lv.get (by assumption) 0 rfl) | exact SqT.of (Lv.get (by assumption) 1 rfl) | exact SqT.of (Lv.get (by assumption) 2 rfl) | exact dgetN (Lv.get (by assumption) 0 rfl) (by assumption) | exact dgetN (Lv.get (by assumption) 1 rfl) (by assumption) | exact dgetN (Lv.get (by assumption) 2 rfl) (by assumption) | exact dgetN (Lv.get (by assumption) 3 rfl) (by assumption) | exact dgetN (Lv.get (by assumption) 4 rfl) (by assumption) | exact Or.inl (by assumption) | exact Or.inr (by assumption) | decide | ((with_reducible show _ ∧ _); omega)))) | ((fail_if_success (with_reducible apply @Exists.intro (Nat → _))); (with_reducible apply Exists.intro))))
local macro_rules
  | `(tactic| wide_line with al $lv:ident $l:ident $nl:ident $H:ident $lv1:ident $s1:ident) => `(tactic| (intro $l:ident $nl:ident; generalize he : upd _ _ _ = $H:ident; have $lv1:ident := Lv.alE $lv $nl he; have $s1:ident := sameE $nl he; clear he; (try dsimp only at $lv1:ident)))
  | `(tactic| wide_line with alx $lv:ident $nl:ident $H:ident $lv1:ident $s1:ident) => `(tactic| (generalize he : upd _ _ _ = $H:ident; have $lv1:ident := Lv.alE $lv $nl he; have $s1:ident := sameE $nl he; clear he; (try dsimp only at $lv1:ident)))
  | `(tactic| wide_line with sts $lv:ident $i:num $H:ident $lv1:ident $s0:ident $np:ident $s1:ident) => `(tactic| (generalize he : upd _ _ _ = $H:ident; have $lv1:ident := Lv.stE $lv $i rfl he; have $s1:ident := sameN $s0 $np he; clear he; (try dsimp only at $lv1:ident)))
  | `(tactic| wide_line with stx $lv:ident $H:ident $lv1:ident $d1:ident) => `(tactic| (generalize he : upd _ _ _ = $H:ident; have $lv1:ident := Lv.stE $lv 0 rfl he; have $d1:ident := SameD.storeE (Lv.get $lv 0 rfl) he; clear he; (try dsimp only at $lv1:ident)))
  | `(tactic| wide_line with st $lv:ident $i:num $H:ident $lv1:ident) => `(tactic| (generalize he : upd _ _ _ = $H:ident; have $lv1:ident := Lv.stE $lv $i rfl he; clear he; (try dsimp only at $lv1:ident)))
  | `(tactic| wide_line with stk $lv:ident $i:num $H:ident $lv1:ident $k1:ident) => `(tactic| (generalize he : upd _ _ _ = $H:ident; have $lv1:ident := Lv.stE $lv $i rfl he; have $k1:ident := KeepT.st (Lv.get $lv $i rfl) he; clear he; (try dsimp only at $lv1:ident)))
/-! reading texts of webs: what is said of lines, without the program -/
abbrev NL : Str := "\n"
abbrev SP : Str := " "
/-- one line behind places and ties -/
def stepT (ps : List Str) (ts : List (Str × Str)) (line : Str) : Option (List Str × List (Str × Str)) :=
  match Txt.split line SP with
  | [a, w] => if a = "place" ∧ ts = [] ∧ ps.length < 12 ∧ okName w = true ∧ w ∉ ps then some (ps ++ [w], ts) else none
  | [a, x, y] => if a = "tie" ∧ x ∈ ps ∧ y ∈ ps ∧ x ≠ y ∧ pairP (x, y) ∉ ts.map pairP then some (ps, ts ++ [(x, y)]) else none
  | _ => none
/-- the number of the first line at fault, or the places and ties -/
def readT : Nat → List Str → List (Str × Str) → List Str → Nat ⊕ (List Str × List (Str × Str))
  | _, ps, ts, [] => .inr (ps, ts)
  | n, ps, ts, l :: ls => match stepT ps ts l with
    | none => .inl n
    | some (ps', ts') => readT (n + 1) ps' ts' ls
def lineP (p : Str) : Str := Str.join SP ["place", p]
def lineT (t : Str × Str) : Str := Str.join SP ["tie", t.1, t.2]
theorem stepT_line {ps ps' : List Str} {ts ts' : List (Str × Str)} {l : Str} (h : stepT ps ts l = some (ps', ts')) : (ts = [] ∧ ts' = [] ∧ ∃ w, ps' = ps ++ [w] ∧ l = lineP w ∧ ps.length < 12 ∧ okName w = true ∧ w ∉ ps) ∨ (ps' = ps ∧ ∃ t, ts' = ts ++ [t] ∧ l = lineT t ∧ t.1 ∈ ps ∧ t.2 ∈ ps ∧ t.1 ≠ t.2 ∧ pairP t ∉ ts.map pairP) := by
  unfold stepT at h
  have js := PySem.StrLaws.join_split l SP
  split at h
  · rename_i a w e
    rw [e] at js
    split at h
    · rename_i c
      obtain ⟨rfl, rfl, c3, c4, c5⟩ := c
      cases h
      exact .inl ⟨rfl, rfl, w, rfl, js.symm, c3, c4, c5⟩
    · cases h
  · rename_i a x y e
    rw [e] at js
    split at h
    · rename_i c
      obtain ⟨rfl, c2, c3, c4, c5⟩ := c
      cases h
      exact .inr ⟨rfl, (x, y), rfl, js.symm, c2, c3, c4, c5⟩
    · cases h
  · cases h
/-- what is read through stands in the lines -/
theorem readT_lines : ∀ {ls : List Str} {n : Nat} {ps ps' : List Str} {ts ts' : List (Str × Str)}, readT n ps ts ls = .inr (ps', ts') → ps.map lineP ++ ts.map lineT ++ ls = ps'.map lineP ++ ts'.map lineT
  | [], _, _, _, _, _, h => by
    unfold readT at h
    cases h
    rw [List.append_nil]
  | l :: ls, n, ps, ps', ts, ts', h => by
    unfold readT at h
    split at h
    · cases h
    · rename_i p1 t1 e
      have ih := readT_lines h
      rcases stepT_line e with ⟨rfl, rfl, w, rfl, rfl, _⟩ | ⟨rfl, t, rfl, rfl, _⟩
      · rw [← ih, List.map_append]
        simp
      · rw [← ih, List.map_append]
        simp
/-- .. and is a plan -/
theorem readT_ok : ∀ {ls : List Str} {n : Nat} {ps ps' : List Str} {ts ts' : List (Str × Str)}, readT n ps ts ls = .inr (ps', ts') → ps.length ≤ 12 → ps.Nodup → (∀ x ∈ ps, okName x = true) → (∀ t ∈ ts, t.1 ∈ ps ∧ t.2 ∈ ps ∧ t.1 ≠ t.2) → (ts.map pairP).Nodup →
    ps'.length ≤ 12 ∧ ps'.Nodup ∧ (∀ x ∈ ps', okName x = true) ∧ (∀ t ∈ ts', t.1 ∈ ps' ∧ t.2 ∈ ps' ∧ t.1 ≠ t.2) ∧ (ts'.map pairP).Nodup ∧ ps.length ≤ ps'.length
  | [], _, _, _, _, _, h, a, b, c, d, e => by
    unfold readT at h
    cases h
    exact ⟨a, b, c, d, e, Nat.le_refl _⟩
  | l :: ls, n, ps, ps', ts, ts', h, a, b, c, d, e => by
    unfold readT at h
    split at h
    · cases h
    · rename_i p1 t1 es
      rcases stepT_line es with ⟨rfl, rfl, w, rfl, _, k1, k2, k3⟩ | ⟨rfl, t, rfl, _, k1, k2, k3, k4⟩
      · have ih := readT_ok h (by rw [List.length_append, List.length_singleton]; omega) (List.nodup_append.mpr ⟨b, (by simp), fun x hx y hy z => k3 (by rw [List.mem_singleton.mp hy] at z; exact z ▸ hx)⟩) (fun x hx => (List.mem_append.mp hx).elim (c x) fun z => by rw [List.mem_singleton.mp z]; exact k2) (fun _ z => nomatch z) List.nodup_nil
        refine ⟨ih.1, ih.2.1, ih.2.2.1, ih.2.2.2.1, ih.2.2.2.2.1, ?_⟩
        have := ih.2.2.2.2.2
        rw [List.length_append] at this
        omega
      · exact readT_ok h a b c (fun u hu => (List.mem_append.mp hu).elim (d u) fun z => by rw [List.mem_singleton.mp z]; exact ⟨k1, k2, k3⟩) (by
          rw [List.map_append]
          refine List.nodup_append.mpr ⟨e, (by simp), fun x hx y hy z => ?_⟩
          rw [List.map_singleton, List.mem_singleton] at hy
          exact k4 (hy ▸ z ▸ hx))
/-- the text of a web, and that what is read has it -/
def textOf (ps : List Str) (ts : List (Str × Str)) : Str := Str.join NL (ps.map lineP ++ ts.map lineT)
theorem readT_text {T : Str} {ps : List Str} {ts : List (Str × Str)} (h : readT 1 [] [] (Txt.split T NL) = .inr (ps, ts)) : textOf ps ts = T := by
  have := readT_lines h
  unfold textOf
  rw [← this]
  exact PySem.StrLaws.join_split T NL
end Pw

set_option Elab.async false
set_option linter.all false
set_option maxRecDepth 100000
set_option maxHeartbeats 4000000
namespace Pw
open PySem PySem.Spec PyProof.Rows L2 Ct
/-- the names of a row that are new are reached, and wait (the last one first) -/
def visit (r w : List Str) : List Str → List Str × List Str
  | [] => (r, w)
  | p :: ps => if p ∈ r then visit r w ps else visit (r ++ [p]) (p :: w) ps
/-- what is reached at last -/
inductive Runs (S : Str → List Str) : List Str → List Str → List Str → Prop
  | done {r : List Str} : Runs S r [] r
  | step {r w e : List Str} {h : Str} : Runs S (visit r w (S h)).1 (visit r w (S h)).2 e → Runs S r (h :: w) e
theorem Runs.det {S : Str → List Str} {r w e : List Str} (a : Runs S r w e) : ∀ {e' : List Str}, Runs S r w e' → e = e' := by
  induction a with
  | done => intro e' b; cases b; rfl
  | step _ ih => intro e' b; cases b with | step c => exact ih c
theorem visit_take {r w : List Str} (ps : List Str) (q : Str) : visit r w (ps ++ [q]) = if q ∈ (visit r w ps).1 then visit r w ps else ((visit r w ps).1 ++ [q], q :: (visit r w ps).2) := by
  induction ps generalizing r w with
  | nil => rfl
  | cons p ps ih =>
    rw [List.cons_append]
    unfold visit
    by_cases c : p ∈ r
    · rw [if_pos c, if_pos c]; exact ih
    · rw [if_neg c, if_neg c]; exact ih
theorem visit_ok {ns : List Str} : ∀ (ps r w : List Str), r.Nodup → (∀ q ∈ r, q ∈ ns) → (∀ q ∈ w, q ∈ ns) → (∀ q ∈ ps, q ∈ ns) →
    (visit r w ps).1.Nodup ∧ (∀ q ∈ (visit r w ps).1, q ∈ ns) ∧ (∀ q ∈ (visit r w ps).2, q ∈ ns) ∧ (visit r w ps).1.length + w.length = (visit r w ps).2.length + r.length ∧ r.length ≤ (visit r w ps).1.length
  | [], r, w, h1, h2, h3, _ => ⟨h1, h2, h3, Nat.add_comm _ _, Nat.le_refl _⟩
  | p :: ps, r, w, h1, h2, h3, h4 => by
    have h4' : ∀ q ∈ ps, q ∈ ns := fun q hq => h4 q (List.mem_cons_of_mem _ hq)
    unfold visit
    by_cases c : p ∈ r
    · rw [if_pos c]
      exact visit_ok ps r w h1 h2 h3 h4'
    · rw [if_neg c]
      have a := visit_ok (ns := ns) ps (r ++ [p]) (p :: w) (List.nodup_append.mpr ⟨h1, by simp, fun x hx y hy e => by rw [List.mem_singleton.mp hy] at e; exact c (e ▸ hx)⟩)
        (fun q hq => (List.mem_append.mp hq).elim (h2 q) (fun z => by rw [List.mem_singleton.mp z]; exact h4 p List.mem_cons_self))
        (fun q hq => (List.mem_cons.mp hq).elim (fun z => by rw [z]; exact h4 p List.mem_cons_self) (h3 q)) h4'
      obtain ⟨a1, a2, a3, a4, a5⟩ := a
      rw [List.length_append, List.length_cons] at a4
      rw [List.length_append] at a5
      simp only [List.length_cons, List.length_nil] at a4 a5
      exact ⟨a1, a2, a3, by omega, by omega⟩
theorem nodup_le {r ns : List Str} (h : r.Nodup) (s : ∀ q ∈ r, q ∈ ns) : r.length ≤ ns.length := by
  induction r generalizing ns with
  | nil => exact Nat.zero_le _
  | cons p r ih =>
    obtain ⟨h1, h2⟩ := List.nodup_cons.mp h
    have hp := s p List.mem_cons_self
    have := ih (ns := ns.erase p) h2 fun q hq => (List.mem_erase_of_ne (fun (e : q = p) => h1 (by rw [← e]; exact hq))).2 (s q (List.mem_cons_of_mem _ hq))
    have e := List.length_erase_of_mem hp
    have := List.length_pos_of_mem hp
    rw [List.length_cons]
    omega
/-- the dict that marks the names -/
def marks (r : List Str) : List (Key × V) := r.map fun q => (.inr q, .bl true)
theorem marks_at (r : List Str) (q : Str) : valV (marks r) (.inr q) = if q ∈ r then some (.bl true) else none := by
  unfold marks
  induction r with
  | nil => rfl
  | cons p r ih =>
    rw [List.map_cons]
    by_cases e : p = q
    · rw [valV_pos (p := (Sum.inr p, V.bl true)) (show (Sum.inr p : Key) = Sum.inr q from congrArg _ e), if_pos (by rw [e]; exact List.mem_cons_self)]
    · rw [valV_neg (p := (Sum.inr p, V.bl true)) (fun z => e (Sum.inr.inj z)), ih]
      by_cases c : q ∈ r
      · rw [if_pos c, if_pos (List.mem_cons_of_mem _ c)]
      · rw [if_neg c, if_neg (fun z => (List.mem_cons.mp z).elim (fun z => e z.symm) c)]
theorem marks_put {r : List Str} {q : Str} (c : q ∉ r) : putK (marks r) (.inr q) (.bl true) = marks (r ++ [q]) := by
  rw [putK_new _ (by rw [marks_at, if_neg c])]
  unfold marks
  rw [List.map_append]
  rfl
def lenD : Option HO → Nat
  | some (.dK kvs) => kvs.length
  | some (.lst l) => l.length
  | _ => 0
def spPartOf (K : PySem.W.Frag) (C : Addr) : Sp := fun vs H Q _ => ∃ (x : Addr) (p : Str) (ns : List Str) (ts : List (Str × Str)), vs = [.ref x, .str p] ∧ WebAt K C H x ns ts ∧ p ∈ ns ∧ ns.length ≤ 100 ∧
  ∀ e, Runs (seenOf ns ts) [p] [p] e → ∀ l H', Same H H' → H l = none → H' l = some (.lst ((ns.filter fun q => decide (q ∈ e)).map V.str)) → Q (.ref l) H'
end Pw

set_option Elab.async false
set_option linter.all false
set_option maxRecDepth 100000
set_option maxHeartbeats 4000000
namespace Pw
open PySem PySem.Spec PyProof.Rows L2 Ct
theorem lays_of : ∀ {ds : List PyData}, (∀ d ∈ ds, d.canLay0 = true) → PyData.canLayAll0 ds = true
  | [], _ => by simp [PyData.canLayAll0]
  | d :: ds, h => by rw [PyData.canLayAll0, h d List.mem_cons_self, lays_of fun e he => h e (List.mem_cons_of_mem _ he)]; rfl
theorem depths_of {m : Nat} : ∀ {ds : List PyData}, (∀ d ∈ ds, d.depth ≤ m) → PyData.depthAll ds ≤ m
  | [], _ => by simp [PyData.depthAll]
  | d :: ds, h => by rw [PyData.depthAll]; exact Nat.max_le.mpr ⟨h d List.mem_cons_self, depths_of fun e he => h e (List.mem_cons_of_mem _ he)⟩
theorem shaped_srt {ds : List PyData} (h : ∀ d ∈ ds, d.canLay0 = true ∧ d.depth ≤ 50) : SeqAt.shaped (.list (srt ds)) = true := by
  have m : ∀ d ∈ srt ds, d ∈ ds := fun d hd => (List.mergeSort_perm ds _).mem_iff.mp hd
  unfold SeqAt.shaped
  rw [Bool.and_eq_true, decide_eq_true_eq]
  refine ⟨?_, ?_⟩
  · rw [PyData.canLay0]
    exact lays_of fun d hd => (h d (m d hd)).1
  · have := depths_of (m := 50) fun d hd => (h d (m d hd)).2
    simp only [PyData.depth]
    omega
theorem lt_small : LT.cps.toList.all (fun c => decide (c < 0x110000)) = true := by decide +kernel
theorem strOk_of {x : Str} (h : okName x = true) : PyData.strOk x = true := by
  unfold okName at h
  rw [Bool.and_eq_true] at h
  have h2 := h.2
  unfold okSigns at h2
  unfold PyData.strOk
  rw [← Array.all_toList, List.all_eq_true]
  intro c hc
  exact List.all_eq_true.mp lt_small c (of_decide_eq_true (List.all_eq_true.mp h2 c hc))
/-- names and ties of which all are well formed -/
def Good (ns : List Str) (ts : List (Str × Str)) : Prop := (∀ n ∈ ns, okName n = true) ∧ ∀ t ∈ ts, okName t.1 = true ∧ okName t.2 = true
theorem good_names {ns : List Str} {ts : List (Str × Str)} (g : Good ns ts) : ∀ d ∈ ns.map PyData.str, d.canLay0 = true ∧ d.depth ≤ 50 := fun d hd => by
  obtain ⟨n, hn, rfl⟩ := List.mem_map.mp hd
  exact ⟨by rw [PyData.canLay0]; exact strOk_of (g.1 n hn), by simp [PyData.depth]⟩
theorem good_pairs {ns : List Str} {ts : List (Str × Str)} (g : Good ns ts) : ∀ d ∈ ts.map pairD, d.canLay0 = true ∧ d.depth ≤ 50 := fun d hd => by
  obtain ⟨t, ht, rfl⟩ := List.mem_map.mp hd
  obtain ⟨h1, h2⟩ := g.2 t ht
  have e : PyData.strOk (pairP t).1 = true ∧ PyData.strOk (pairP t).2 = true := by
    unfold pairP pairS
    split
    · exact ⟨strOk_of h1, strOk_of h2⟩
    · exact ⟨strOk_of h2, strOk_of h1⟩
  refine ⟨?_, by simp [pairD, PyData.depth, PyData.depthAll]⟩
  unfold pairD
  rw [PyData.canLay0, PyData.canLayAll0, PyData.canLayAll0, PyData.canLayAll0, PyData.canLay0, PyData.canLay0, e.1, e.2]
  rfl
/-- what isinstance asks of the class -/
structure WI (K : PySem.W.Frag) (C : Addr) : Prop where
  ha : PySem.W.findIn K (.ref C) "__class__" = some (some (.builtin "object.__class__"))
  hn : PySem.W.specialIn K (.builtin "object.__class__") "__get__" = some (some (.builtin "getset_descriptor.__get__"))
  ht : PySem.W.takesIn K (.builtin "object.__class__") = some true
  hm : PySem.W.mroIn K C (.type "object") = some true
  kit : PySem.W.kitOne K (.ref C) (.ref C) = some true
/-- webs are alike in all that == looks at -/
def eqW (ns ms : List Str) (ts us : List (Str × Str)) : Bool := PyData.eqv (.list (srt (ns.map PyData.str))) (.list (srt (ms.map PyData.str))) && PyData.eqv (.list (srt (ts.map pairD))) (.list (srt (us.map pairD)))
def spEqW (K : PySem.W.Frag) (C : Addr) : Sp := fun vs H Q _ => ∃ (x y : Addr) (ns ms : List Str) (ts us : List (Str × Str)), vs = [.ref x, .ref y] ∧ WebAt K C H x ns ts ∧ WebAt K C H y ms us ∧ Good ns ts ∧ Good ms us ∧ Q (.bl (eqW ns ms ts us)) H
theorem eqW_self {ns : List Str} {ts : List (Str × Str)} (g : Good ns ts) : eqW ns ns ts ts = true := by
  unfold eqW
  rw [SeqAt.eqv_refl _ (SeqAt.canLay_of_shaped (shaped_srt (good_names g))), SeqAt.eqv_refl _ (SeqAt.canLay_of_shaped (shaped_srt (good_pairs g)))]
  rfl
section
variable {P : Program} {w : World} {K : PySem.W.Frag} {mg : Str → Option Value} {base : Heap} {C fa : Addr} {fd : FuncData}
abbrev sEqW : Stmt := inClass (top ix_Web) mx_Web_eq
theorem scEqW : FnScope ["self", "other"] ["self", "other"] (defScope sEqW) := ⟨rfl, rfl, rfl, by decide +kernel, rfl, by decide +kernel, by decide +kernel⟩
theorem ok_eq (T : Bn mg) (X : WC K C) (I : WI K C) (gW : mg "Web" = some (.ref C)) (F : Fun K "__eq__" "Web.__eq__" sEqW fa fd) : FnOk P w K mg base CX0 1 fa fd ["self", "other"] (spEqW K C) := by
  refine F.ok scEqW (fun vs H Q E h => ?_) (fun cdv A outer s H vs Q E hr h => ?_)
  · obtain ⟨x, y, ns, ms, ts, us, rfl, _⟩ := h; rfl
  · obtain ⟨x, y, ns, ms, ts, us, rfl, hw, hv, g1, g2, k⟩ := h
    have nd := scEqW.nd
    refine ⟨_, (pss_one (ps_ret (pe_and (pe_callB call_isi (by rfl) T.z_isinstance (by decide +kernel) (pa_cons (pv 1) (pa_cons (pe_ref rfl gW) pa_nil))) (pe_and (pe_cmpR (op_eqD hr.units) (pe_fld (pv 0) rfl) (pe_fld (pv 1) rfl) (by first | exact nomark _ | rfl)) (pe_one (pe_cmpR (op_eqD hr.units) (pe_fld (pv 0) rfl) (pe_fld (pv 1) rfl) (by first | exact nomark _ | rfl))))))), ?_⟩
    obtain ⟨⟨dx, tp, tt, sg, sn, sp, sq, rk, xs, hx, _, _, _, _, _, _, hsp, hsq⟩⟩ := hw
    obtain ⟨⟨dx2, tp2, tt2, sg2, sn2, sp2, sq2, rk2, xs2, hx2, _, _, _, _, _, _, hsp2, hsq2⟩⟩ := hv
    refine ⟨_, rfl, .ref y, .ref C, _, _, true, rfl, .own C, .base (.ins hx2 X.cls I.ha I.hn I.ht I.hm), I.kit, _, rfl, iteT ?_⟩
    refine ⟨_, rfl, x, C, dx, _, _, rfl, hx, X.cls, X.n6, rfl, _, rfl, y, C, dx2, _, _, rfl, hx2, X.cls, X.n6, rfl, _, _, hsp, hsp2, shaped_srt (good_names g1), shaped_srt (good_names g2), _, rfl, ?_⟩
    unfold eqW at k
    cases e : PyData.eqv (.list (srt (ns.map PyData.str))) (.list (srt (ms.map PyData.str))) with
    | false => rw [e] at k; exact iteF k
    | true =>
      rw [e, Bool.true_and] at k
      refine iteT ⟨_, rfl, x, C, dx, _, _, rfl, hx, X.cls, X.n7, rfl, _, rfl, y, C, dx2, _, _, rfl, hx2, X.cls, X.n7, rfl, _, _, hsq, hsq2, shaped_srt (good_pairs g1), shaped_srt (good_pairs g2), k⟩
end
end Pw

set_option Elab.async false
set_option linter.all false
set_option maxRecDepth 100000
set_option maxHeartbeats 4000000
namespace Pw
open PySem PySem.Spec PyProof.Rows L2 Ct
theorem Runs.sub {S : Str → List Str} {r w e : List Str} (h : Runs S r w e) : ∀ q ∈ r, q ∈ e := by
  induction h with
  | done => exact fun q z => z
  | @step r w e hh _ ih =>
    have grow : ∀ (ps r w : List Str), ∀ q ∈ r, q ∈ (visit r w ps).1 := by
      intro ps
      induction ps with
      | nil => exact fun r w q z => z
      | cons p ps ih2 =>
        intro r w q z
        unfold visit
        by_cases c : p ∈ r
        · rw [if_pos c]; exact ih2 r w q z
        · rw [if_neg c]; exact ih2 _ _ q (List.mem_append_left _ z)
    exact fun q z => ih q (grow _ _ _ q z)
/-- the parts, from what is left -/
inductive PartsR (S : Str → List Str) (ns : List Str) : List Str → List (List Str) → Prop
  | nil : PartsR S ns [] []
  | cons {p : Str} {left e : List Str} {rest : List (List Str)} : Runs S [p] [p] e → PartsR S ns ((p :: left).filter fun q => !decide (q ∈ ns.filter fun q => decide (q ∈ e))) rest → PartsR S ns (p :: left) ((ns.filter fun q => decide (q ∈ e)) :: rest)
theorem PartsR.det {S : Str → List Str} {ns left : List Str} {a : List (List Str)} (h : PartsR S ns left a) : ∀ {b : List (List Str)}, PartsR S ns left b → a = b := by
  induction h with
  | nil => intro b h; cases h; rfl
  | cons r _ ih =>
    intro b h
    cases h with
    | cons r2 h2 =>
      obtain rfl := r.det r2
      rw [ih h2]
/-- a row of lists of texts, each at its place -/
abbrev RowAt (H : Hp) : List V → List (List Str) → Prop := Paired fun x l => ∃ a, x = .ref a ∧ H a = some (.lst (l.map V.str))
theorem RowAt.same {H H' : Hp} (s : Same H H') : ∀ {xs : List V} {ls : List (List Str)}, RowAt H xs ls → RowAt H' xs ls
  | _, _, .nil => .nil
  | _, _, .cons ⟨a, e, h⟩ t => .cons ⟨a, e, s _ _ h⟩ (RowAt.same s t)
/-- the same, none of them at F -/
abbrev RowO (F : Addr) (H : Hp) : List V → List (List Str) → Prop := Paired fun x l => ∃ a, x = .ref a ∧ a ≠ F ∧ H a = some (.lst (l.map V.str))
theorem RowO.row {F : Addr} {H : Hp} : ∀ {xs : List V} {ls : List (List Str)}, RowO F H xs ls → RowAt H xs ls
  | _, _, .nil => .nil
  | _, _, .cons ⟨a, e, _, h⟩ t => .cons ⟨a, e, h⟩ (RowO.row t)
theorem RowO.off {F : Addr} {H H' : Hp} (s : ∀ b o, b ≠ F → H b = some o → H' b = some o) : ∀ {xs : List V} {ls : List (List Str)}, RowO F H xs ls → RowO F H' xs ls
  | _, _, .nil => .nil
  | _, _, .cons ⟨a, e, n, h⟩ t => .cons ⟨a, e, n, s _ _ n h⟩ (RowO.off s t)
theorem RowO.snoc {F : Addr} {H : Hp} {a : Addr} {l : List Str} (n : a ≠ F) (h : H a = some (.lst (l.map V.str))) : ∀ {xs : List V} {ls : List (List Str)}, RowO F H xs ls → RowO F H (xs ++ [.ref a]) (ls ++ [l])
  | _, _, .nil => .cons ⟨a, rfl, n, h⟩ .nil
  | _, _, .cons x t => .cons x (RowO.snoc n h t)
theorem WebAt.same {K : PySem.W.Frag} {C : Addr} {H H' : Hp} {x : Addr} {ns : List Str} {ts : List (Str × Str)} (s : Same H H') : WebAt K C H x ns ts → WebAt K C H' x ns ts
  | ⟨⟨dx, tp, tt, sg, sn, sp, sq, rk, xs, h1, h2, h3, h4, h5, h6, h7, h8, h9⟩⟩ => ⟨⟨dx, tp, tt, sg, sn, sp, sq, rk, xs, s _ _ h1, same_t s h2, same_t s h3, h4.same s, same_t s h5, (SameD.of s).map h6, h7.same s, (SameD.of s).dp h8, (SameD.of s).dp h9⟩⟩
def muL (σ : List (Option V)) (H : Hp) : Nat := match σ[2]? with
  | some (some (V.ref a)) => lenD (H a)
  | _ => 0
def spParts (C : Addr) (K : PySem.W.Frag) : Sp := fun vs H Q _ => ∃ (x : Addr) (ns : List Str) (ts : List (Str × Str)), vs = [.ref x] ∧ WebAt K C H x ns ts ∧ ns.length ≤ 100 ∧
  ∀ ls, PartsR (seenOf ns ts) ns ns ls → ∀ l xs H', Same H H' → H l = none → H' l = some (.lst xs) → RowAt H' xs ls → (∀ v ∈ xs, ∃ a, v = .ref a ∧ H a = none) → Q (.ref l) H'
end Pw

set_option Elab.async false
set_option linter.all false
set_option maxRecDepth 100000
set_option maxHeartbeats 4000000
namespace Pw
open PySem PySem.Spec PyProof.Rows L2 Ct
local macro_rules | `(tactic| wide_line) => `(tactic| repeat ((fail_if_success (with_reducible refine at_while ?_)); (fail_if_success (with_reducible refine at_while1 ?_)); (conv => whnf); first | ((with_reducible refine And.intro ?_ ?_); focus (first | (first | ((with_reducible show (_ : Nat) ≤ _); first | exact sz0 | exact sz1 | exact sz2 | exact sz3 | exact sz4 | exact sz5 | exact sz6 | exact sz7 | exact sz8 | exact sz10 | exact sz11 | exact sz12 | exact sz14 | omega | decide | (simp only [List.length_cons, List.length_nil]; omega)) | ((with_reducible show (_ : Int) ≤ _); first | omega | decide) | ((with_reducible show (_ : Int) < _); first | omega | decide) | ((with_reducible show (_ : Nat) < _); omega)) | ((fail_if_success (with_reducible show (_ : Nat) ≤ _)); (fail_if_success (with_reducible show (_ : Int) ≤ _)); (fail_if_success (with_reducible show (_ : Int) < _)); (fail_if_success (with_reducible show (_ : Nat) < _)); first | exact kv_str _ | exact kv_int _ | rfl | assumption | exact flat_strs _ | exact Lv.get (by assumption) 0 rfl | exact Lv.get (by assumption) 1 rfl | exact Lv.get (by assumption) 2 rfl | exact Lv.get (by assumption) 3 rfl | exact Lv.get (by assumption) 4 rfl | exact Lv.get (by assumption) 5 rfl | exact Lv.get (by assumption) 6 rfl | exact SqL.of (Lv.get (by assumption) 0 rfl) | exact SqL.of (Lv.get (by assumption) 1 rfl) | exact SqL.of (Lv.get (by assumption) 2 rfl) | exact SqL.of (Lv.get (by assumption) 3 rfl) | exact SqL.of (Lv.get (by assumption) 4 rfl) | exact SqL.of (Lv.get (by assumption) 5 rfl) | exact Or.inl (SqL.of (Lv.get (by assumption) 0 rfl)) | exact Or.inl (SqL.of (Lv.get (by assumption) 1 rfl)) | exact Or.inl (SqL.of (Lv.get (by assumption) 2 rfl)) | exact Or.inl (SqL.of (Lv.get (by assumption) 3 rfl)) | exact Or.inl (SqL.of (Lv.get (by assumption) 4 rfl)) | exact Or.inl (SqL.of (Lv.get (by assumption) 5 rfl)) | exact ⟨_, SqL.of (Lv.get (by assumption) 0 rfl)⟩ | exact ⟨_, SqL.of (Lv.get (by assumption) 1 rfl)⟩ | exact ⟨_, SqL.of (Lv.get (by assumption) 2 rfl)⟩ | exact ⟨_, SqL.of (Lv.get (by assumption) 3 rfl)⟩ | exact ⟨_, SqL.of (Lv.get (by assumption) 4 rfl)⟩ | exact ⟨_, SqL.of (Lv.get (by assumption) 5 rfl)⟩ | exact Or.inl ⟨_, SqL.of (Lv.get (by assumption) 0 rfl), rfl⟩ | exact Or.inl ⟨_, SqL.of (Lv.get (by assumption) 1 rfl), rfl⟩ | exact Or.inl ⟨_, SqL.of (Lv.get (by assumption) 2 rfl), rfl⟩ | exact Or.inl ⟨_, SqL.of (Lv.get (by assumption) 3 rfl), rfl⟩ | exact Or.inl ⟨_, SqL.of (Lv.get (by assumption) 4 rfl), rfl⟩ | exact Or.inl ⟨_, SqL.of (Lv.get (by assumption) 5 rfl), rfl⟩ | exact Or.inl ⟨rfl, _, SqL.of (Lv.get (by assumption) 0 rfl)⟩ | exact Or.inl ⟨rfl, _, SqL.of (Lv.get (by assumption) 1 rfl)⟩ | exact Or.inl ⟨rfl, _, SqL.of (Lv.get (by assumption) 2 rfl)⟩ | exact Or.inl ⟨rfl, _, SqL.of (Lv.get (by assumption) 3 rfl)⟩ | exact Or.inl ⟨rfl, _, SqL.of (Lv.get (by assumption) 4 rfl)⟩ | exact Or.inl ⟨rfl, _, SqL.of (Lv.get (by assumption) 5 rfl)⟩ | exact Or.inr (SqT.of (Lv.get (by assumption) 0 rfl)) | exact Or.inr (SqT.of (Lv.get (by assumption) 1 rfl)) | exact Or.inr (SqT.of (Lv.get (by assumption) 2 rfl)) | exact Or.inr (SqT.of (Lv.get (by assumption) 3 rfl)) | exact SqT.of (Lv.get (by assumption) 0 rfl) | exact SqT.of (Lv.get (by assumption) 1 rfl) | exact SqT.of (Lv.get (by assumption) 2 rfl) | exact dgetN (Lv.get (by assumption) 0 rfl) (by assumption) | exact dgetN (Lv.get (by assumption) 1 rfl) (by assumption) | exact dgetN (Lv.get (by assumption) 2 rfl) (by assumption) | exact dgetN (Lv.get (by assumption) 3 rfl) (by assumption) | exact dgetN (Lv.get (by assumption) 4 rfl) (by assumption) | decide | ((with_reducible show _ ∧ _); omega)))) | ((fail_if_success (with_reducible apply @Exists.intro (Nat → _))); (with_reducible apply Exists.intro))))
local macro_rules
  | `(tactic| wide_line with al $lv:ident $l:ident $nl:ident $H:ident $lv1:ident $s1:ident) => `(tactic| (intro $l:ident $nl:ident; generalize he : upd _ _ _ = $H:ident; have $lv1:ident := Lv.alE $lv $nl he; have $s1:ident := sameE $nl he; clear he; (try dsimp only at $lv1:ident)))
  | `(tactic| wide_line with alx $lv:ident $nl:ident $H:ident $lv1:ident $s1:ident) => `(tactic| (generalize he : upd _ _ _ = $H:ident; have $lv1:ident := Lv.alE $lv $nl he; have $s1:ident := sameE $nl he; clear he; (try dsimp only at $lv1:ident)))
  | `(tactic| wide_line with sts $lv:ident $i:num $H:ident $lv1:ident $s0:ident $np:ident $s1:ident) => `(tactic| (generalize he : upd _ _ _ = $H:ident; have $lv1:ident := Lv.stE $lv $i rfl he; have $s1:ident := sameN $s0 $np he; clear he; (try dsimp only at $lv1:ident)))
  | `(tactic| wide_line with stx $lv:ident $H:ident $lv1:ident $d1:ident) => `(tactic| (generalize he : upd _ _ _ = $H:ident; have $lv1:ident := Lv.stE $lv 0 rfl he; have $d1:ident := SameD.storeE (Lv.get $lv 0 rfl) he; clear he; (try dsimp only at $lv1:ident)))
  | `(tactic| wide_line with st $lv:ident $i:num $H:ident $lv1:ident) => `(tactic| (generalize he : upd _ _ _ = $H:ident; have $lv1:ident := Lv.stE $lv $i rfl he; clear he; (try dsimp only at $lv1:ident)))
  | `(tactic| wide_line with stk $lv:ident $i:num $H:ident $lv1:ident $k1:ident) => `(tactic| (generalize he : upd _ _ _ = $H:ident; have $lv1:ident := Lv.stE $lv $i rfl he; have $k1:ident := KeepT.st (Lv.get $lv $i rfl) he; clear he; (try dsimp only at $lv1:ident)))
/-- the datum is a list of different names -/
def placesIn (ns : List Str) : PyData → Bool
  | .list ds => ds.all (fun d => amid d ns) && decide (strsD ds).Nodup
  | _ => false
theorem amids_of {K : PySem.W.Frag} {H : Hp} {ns : List Str} : ∀ {xs : List V} {ds : List PyData}, DqAll K H xs ds → ds.all (fun d => amid d ns) = true → xs = (strsD ds).map V.str ∧ (strsD ds).length = ds.length ∧ ∀ q ∈ strsD ds, q ∈ ns
  | _, _, .nil, _ => ⟨rfl, rfl, fun q h => by cases h⟩
  | _, _, .cons (d := d) h t, n => by
    rw [List.all_cons, Bool.and_eq_true] at n
    obtain ⟨e1, e2, e3⟩ := amids_of t n.2
    cases d with
    | str x =>
      cases h
      refine ⟨by rw [e1]; rfl, by show (strsD _).length + 1 = _ + 1; rw [e2], fun q hq => ?_⟩
      rcases List.mem_cons.mp (show q ∈ x :: strsD _ from hq) with z | z
      · rw [z]; exact amid_str.mp n.1
      · exact e3 q z
    | _ => exact absurd n.1 Bool.false_ne_true
theorem noDicts_at : ∀ {ds : List PyData}, noDicts ds = true → ∀ d ∈ ds, noDict d = true
  | [], _, _, h => by cases h
  | e :: ds, n, d, h => by
    rw [noDicts, Bool.and_eq_true] at n
    rcases List.mem_cons.mp h with rfl | h
    · exact n.1
    · exact noDicts_at n.2 d h
theorem dqAll_len {K : PySem.W.Frag} {H : Hp} : ∀ {xs : List V} {ds : List PyData}, DqAll K H xs ds → xs.length = ds.length
  | _, _, .nil => rfl
  | _, _, .cons _ t => congrArg (· + 1) (dqAll_len t)
/-- are_places(web, value) -/
def spArePlaces (K : PySem.W.Frag) (C : Addr) : Sp := fun vs H Q _ => ∃ (x : Addr) (v : V) (ns : List Str) (ts : List (Str × Str)) (d : PyData), vs = [.ref x, v] ∧ WebAt K C H x ns ts ∧ Dq K H v d ∧ (∀ ds, d = .list ds → ds.length ≤ 4000) ∧ ∀ H', Same H H' → Q (.bl (placesIn ns d)) H'
end Pw

set_option Elab.async false
set_option linter.all false
set_option maxRecDepth 100000
set_option maxHeartbeats 4000000
namespace Pw
open PySem PySem.Spec PyProof.Rows L2 Ct
section
variable {P : Program} {w : World} {K : PySem.W.Frag} {mg : Str → Option Value} {base : Heap}
abbrev sSource : Stmt := top ix_law_source
theorem scSource : FnScope ["script", "start", "mixed", "cell", "rest"] ["script", "start"] (defScope sSource) := ⟨rfl, rfl, rfl, by decide +kernel, rfl, by decide +kernel, by decide +kernel⟩
theorem has_source (T : Bn mg) (D : DFE K mg "_law_source" sSource ["script", "start"]) : Has P w K mg base CX0 1 "_law_source" ["script", "start"] (spSource K) := by
  refine has_of D scSource (fun vs H Q E h => ?_) (fun f cdv A outer s H vs Q E hr h => ?_)
  · obtain ⟨a, ns, st, rfl, _⟩ := h; rfl
  · obtain ⟨a, ns, st, rfl, st0, st1, hS, hlen, hbits, k⟩ := h
    have nd := scSource.nd
    refine ⟨_, (pss_cons (ps_sv 2 nd (pe_op op_add pe_int (pv 1)))
      (pss_cons (ps_for PassesOwn.never rfl (pi_list (pv 0)) (pg_name (i := 3) nd rfl (by first | exact Or.inl rfl | exact Or.inr rfl)) (pss_one (ps_sv 2 nd (pe_op op_add (pe_op op_mod (pe_callTy call_int1 (by rfl) T.z_int (by decide +kernel) (pa_cons (pe_op op_powW (pe_callTy call_int1 (by rfl) T.z_int (by decide +kernel) (pa_cons (pe_op op_add (pe_op op_mul (pv 2) pe_int) (pe_callTy call_int1 (by rfl) T.z_int (by decide +kernel) (pa_cons (pv 3) pa_nil))) pa_nil)) pe_int) pa_nil)) pe_int) pe_int))))
      (pss_cons (ps_sv 4 nd pe_int)
      (pss_cons (ps_if (PW.pt (pw_and (pt_cmpR op_lt (pv 1) (pe_callB call_len (by rfl) T.z_len (by decide +kernel) (pa_cons (pv 0) pa_nil)) (by first | exact nomark _ | rfl)) (pw_and1 (pt_cmpR op_ge (pe_ix ix_list (pv 0) (pv 1) (fun _ _ => rfl)) (pe_op op_powW pe_int pe_int) (by first | exact nomark _ | rfl))))) (pss_one (ps_sv 4 nd (pe_op op_sub (pe_ix ix_list (pv 0) (pv 1) (fun _ _ => rfl)) (pe_op op_powW pe_int pe_int)))) pss_nil)
      (pss_one (ps_ret (pe_lst (pa_cons (pv 4) (pa_cons (pv 2) pa_nil))))))))), ?_⟩
    -- mixed = 83 + start; the loop
    refine ⟨_, rfl, _, _, rfl, rfl, _, rfl, a, rfl, ⟨_, hS⟩, for_list (K := K) (a := a) (xs := ns.map V.int) (fun i σ H' => H' = H ∧ ∃ (m : Int) (c : Option V), σ = [some (.ref a), some (.int st), some (.int m), c, none] ∧ 0 ≤ m ∧ m ≤ 2147483647)
      ⟨rfl, _, none, rfl, by omega, by omega⟩ (fun i σ H' _ ⟨e, _⟩ => by rw [e]; exact hS) ?_ ?_⟩
    · rintro i y σ H' hi ⟨rfl, m, c, rfl, m0, m1⟩
      obtain ⟨z, _, hz, rfl⟩ := ints_at hi
      have b1 : Builtin.Int.intBits (m * 50021 + z) ≤ 1048577 := intBits_add_le (m := 1048576) (n := 1048576) (Nat.le_trans (bits_small (n := 64) (by omega) (by omega)) (by decide)) (hbits z hz)
      refine ⟨_, rfl, _, _, rfl, rfl, .inl ⟨by omega, by omega⟩, _, rfl, .inl ⟨_, rfl, _, _, rfl, rfl, .inl ⟨_, rfl, _, _, rfl, rfl, pow_ok b1 (by decide) (by decide), .inl ⟨_, rfl, _, _, rfl, rfl, by show (0 : Int) < 2147483563; decide, _, _, rfl, rfl, ?_⟩⟩⟩⟩
      have q0 := Int.emod_nonneg ((m * 50021 + z) ^ (3 : Int).toNat) (show (2147483563 : Int) ≠ 0 by decide)
      have q1 := Int.emod_lt_of_pos ((m * 50021 + z) ^ (3 : Int).toNat) (show (0 : Int) < 2147483563 by decide)
      exact ⟨rfl, _, _, rfl, by omega, by omega⟩
    · rintro σ H' ⟨rfl, m, c, rfl, m0, m1⟩
      have p18 : CPowW 10 18 := pow_ok (n := 4) (by decide +kernel) (by decide) (by decide)
      -- start < len(script) and script[start] >= 10 ** 18
      refine ⟨_, rfl, _, rfl, _, _, rfl, .inl ⟨_, hS, rfl⟩, _, _, rfl, rfl, _, rfl, ?_⟩
      refine ite2 (fun c1 => ?_) (fun _ => iteF ?_)
      · have c1 := of_decide_eq_true c1
        obtain ⟨y, hy, ey⟩ := at_in st0 c1
        obtain ⟨z, hz, rfl⟩ := List.mem_map.mp hy
        refine ⟨_, rfl, _, rfl, a, _, st, _, rfl, rfl, hS, ey, _, _, rfl, rfl, p18, _, _, rfl, rfl, _, rfl, ?_⟩
        refine ite2 (fun c2 => ?_) (fun _ => ?_)
        · have c2 : (10 : Int) ^ (18 : Int).toNat ≤ z := of_decide_eq_true c2
          refine ⟨_, rfl, _, rfl, a, _, st, _, rfl, rfl, hS, ey, _, _, rfl, rfl, p18, _, _, rfl, rfl, _, rfl, _, rfl, (by show 2 ≤ sizeLine; decide), fun p hp => ?_⟩
          exact k p _ _ hp ⟨by omega, m0, m1⟩
        · refine ⟨_, rfl, _, rfl, (by show 2 ≤ sizeLine; decide), fun p hp => ?_⟩
          exact k p _ _ hp ⟨by decide, m0, m1⟩
      · refine ⟨_, rfl, _, rfl, (by show 2 ≤ sizeLine; decide), fun p hp => ?_⟩
        exact k p _ _ hp ⟨by decide, m0, m1⟩
abbrev sDraw : Stmt := top ix_law_draw
theorem scDraw : FnScope ["source", "span", "found"] ["source", "span"] (defScope sDraw) := ⟨rfl, rfl, rfl, by decide +kernel, rfl, by decide +kernel, by decide +kernel⟩
theorem has_draw (T : Bn mg) (D : DFE K mg "_law_draw" sDraw ["source", "span"]) : Has P w K mg base CX0 1 "_law_draw" ["source", "span"] spDraw := by
  refine has_of D scDraw (fun vs H Q E h => ?_) (fun f cdv A outer s H vs Q E hr h => ?_)
  · obtain ⟨p, r, m, n, rfl, _⟩ := h; rfl
  · obtain ⟨p, r, m, n, rfl, hp, ⟨r0, m0, m1⟩, n1, n2, k⟩ := h
    have nd := scDraw.nd
    refine ⟨_, (pss_cons (ps_if (pt_cmpR op_ge (pe_ix ix_list (pv 0) pe_int (fun _ _ => rfl)) (pv 1) (by first | exact nomark _ | rfl)) (pss_cons (ps_sv 2 nd (pe_op op_mod (pe_callTy call_int1 (by rfl) T.z_int (by decide +kernel) (pa_cons (pe_ix ix_list (pv 0) pe_int (fun _ _ => rfl)) pa_nil)) (pv 1)))
      (pss_cons (ps_asg (pe_op op_fdivW (pe_ix ix_list (pv 0) pe_int (fun _ _ => rfl)) (pv 1)) (pg_sub (pv 0) pe_int set_list))
      (pss_one (ps_ret (pv 2))))) pss_nil)
      (pss_cons (ps_asg (pe_op op_mod (pe_callTy call_int1 (by rfl) T.z_int (by decide +kernel) (pa_cons (pe_op op_add (pe_op op_mul (pe_ix ix_list (pv 0) pe_int (fun _ _ => rfl)) pe_int) pe_int) pa_nil)) pe_int) (pg_sub (pv 0) pe_int set_list))
      (pss_one (ps_ret (pe_op op_mod (pe_callTy call_int1 (by rfl) T.z_int (by decide +kernel) (pa_cons (pe_op op_fdivW (pe_op op_mod (pe_callTy call_int1 (by rfl) T.z_int (by decide +kernel) (pa_cons (pe_op op_powW (pe_callTy call_int1 (by rfl) T.z_int (by decide +kernel) (pa_cons (pe_ix ix_list (pv 0) pe_int (fun _ _ => rfl)) pa_nil)) pe_int) pa_nil)) pe_int) pe_int) pa_nil)) (pv 1)))))), ?_⟩
    -- source[0] >= span
    refine ⟨_, rfl, p, _, 0, _, rfl, rfl, SqL.of hp, rfl, _, rfl, _, _, rfl, rfl, _, rfl, ?_⟩
    refine ite2 (fun c1 => ?_) (fun _ => ?_)
    · refine ⟨_, rfl, p, _, 0, _, rfl, rfl, SqL.of hp, rfl, .inl ⟨_, rfl, _, rfl, _, _, rfl, rfl, (show 0 < n by omega), ?_⟩⟩
      refine ⟨_, rfl, p, _, 0, _, rfl, rfl, SqL.of hp, rfl, _, rfl, _, _, rfl, rfl, wide_div (b := 32) (by omega) (by omega) (by decide) (by decide), _, rfl, p, _, 0, 0, rfl, rfl, hp, rfl, ?_⟩
      refine ⟨_, rfl, ?_⟩
      exact k _ _ _ ⟨Int.ediv_nonneg r0 (by omega), m0, m1⟩ (Int.emod_nonneg _ (by omega)) (Int.emod_lt_of_pos _ (by omega))
    · have q0 := Int.emod_nonneg (m * 69621 + 4241) (show (2147483647 : Int) ≠ 0 by decide)
      have q1 := Int.emod_lt_of_pos (m * 69621 + 4241) (show (0 : Int) < 2147483647 by decide)
      refine ⟨_, rfl, p, _, 1, _, rfl, rfl, SqL.of hp, rfl, _, _, rfl, rfl, .inl ⟨by omega, by omega⟩, _, _, rfl, rfl, .inl ⟨_, rfl, _, _, rfl, rfl, (show (0 : Int) < 2147483647 by decide), ?_⟩⟩
      refine ⟨_, rfl, p, _, 1, 1, rfl, rfl, hp, rfl, ?_⟩
      refine ⟨_, rfl, p, _, 1, _, rfl, rfl, SqL.of upd_same, rfl, .inl ⟨_, rfl, ?_⟩⟩
      refine ⟨_, _, rfl, rfl, pow_ok (n := 32) (bits_small q0 (by omega)) (by decide) (by decide), .inl ⟨_, rfl, ?_⟩⟩
      refine ⟨_, _, rfl, rfl, (show (0 : Int) < 1000000007 by decide), _, _, rfl, rfl, wide_div (b := 8) (by decide) (by decide) (by decide) (by decide), .inl ⟨_, rfl, ?_⟩⟩
      refine ⟨_, rfl, _, _, rfl, rfl, (show 0 < n by omega), ?_⟩
      exact k _ _ _ ⟨r0, q0, by omega⟩ (Int.emod_nonneg _ (by omega)) (Int.emod_lt_of_pos _ (by omega))
end
end Pw

set_option Elab.async false
set_option linter.all false
set_option maxRecDepth 100000
set_option maxHeartbeats 4000000
namespace Pw
open PySem PySem.Spec PyProof.Rows L2 Ct
local macro_rules | `(tactic| wide_line) => `(tactic| repeat ((fail_if_success (with_reducible refine at_while ?_)); (fail_if_success (with_reducible refine at_while1 ?_)); (conv => whnf); first | ((with_reducible refine And.intro ?_ ?_); focus (first | (first | ((with_reducible show (_ : Nat) ≤ _); first | exact sz0 | exact sz1 | exact sz2 | exact sz3 | exact sz4 | exact sz5 | exact sz6 | exact sz7 | exact sz8 | exact sz10 | exact sz11 | exact sz12 | exact sz14 | omega | decide | (simp only [List.length_cons, List.length_nil]; omega)) | ((with_reducible show (_ : Int) ≤ _); first | omega | decide) | ((with_reducible show (_ : Int) < _); first | omega | decide) | ((with_reducible show (_ : Nat) < _); omega)) | ((fail_if_success (with_reducible show (_ : Nat) ≤ _)); (fail_if_success (with_reducible show (_ : Int) ≤ _)); (fail_if_success (with_reducible show (_ : Int) < _)); (fail_if_success (with_reducible show (_ : Nat) < _)); first | exact kv_str _ | exact kv_int _ | rfl | assumption | exact flat_strs _ | exact Lv.get (by assumption) 0 rfl | exact Lv.get (by assumption) 1 rfl | exact Lv.get (by assumption) 2 rfl | exact Lv.get (by assumption) 3 rfl | exact Lv.get (by assumption) 4 rfl | exact Lv.get (by assumption) 5 rfl | exact Lv.get (by assumption) 6 rfl | exact SqL.of (Lv.get (by assumption) 0 rfl) | exact SqL.of (Lv.get (by assumption) 1 rfl) | exact SqL.of (Lv.get (by assumption) 2 rfl) | exact SqL.of (Lv.get (by assumption) 3 rfl) | exact SqL.of (Lv.get (by assumption) 4 rfl) | exact SqL.of (Lv.get (by assumption) 5 rfl) | exact Or.inl (SqL.of (Lv.get (by assumption) 0 rfl)) | exact Or.inl (SqL.of (Lv.get (by assumption) 1 rfl)) | exact Or.inl (SqL.of (Lv.get (by assumption) 2 rfl)) | exact Or.inl (SqL.of (Lv.get (by assumption) 3 rfl)) | exact Or.inl (SqL.of (Lv.get (by assumption) 4 rfl)) | exact Or.inl (SqL.of (Lv.get (by assumption) 5 rfl)) | exact ⟨_, SqL.of (Lv.get (by assumption) 0 rfl)⟩ | exact ⟨_, SqL.of (Lv.get (by assumption) 1 rfl)⟩ | exact ⟨_, SqL.of (Lv.get (by assumption) 2 rfl)⟩ | exact ⟨_, SqL.of (Lv.get (by assumption) 3 rfl)⟩ | exact ⟨_, SqL.of (Lv.get (by assumption) 4 rfl)⟩ | exact ⟨_, SqL.of (Lv.get (by assumption) 5 rfl)⟩ | exact Or.inl ⟨_, SqL.of (Lv.get (by assumption) 0 rfl), rfl⟩ | exact Or.inl ⟨_, SqL.of (Lv.get (by assumption) 1 rfl), rfl⟩ | exact Or.inl ⟨_, SqL.of (Lv.get (by assumption) 2 rfl), rfl⟩ | exact Or.inl ⟨_, SqL.of (Lv.get (by assumption) 3 rfl), rfl⟩ | exact Or.inl ⟨_, SqL.of (Lv.get (by assumption) 4 rfl), rfl⟩ | exact Or.inl ⟨_, SqL.of (Lv.get (by assumption) 5 rfl), rfl⟩ | exact Or.inl ⟨rfl, _, SqL.of (Lv.get (by assumption) 0 rfl)⟩ | exact Or.inl ⟨rfl, _, SqL.of (Lv.get (by assumption) 1 rfl)⟩ | exact Or.inl ⟨rfl, _, SqL.of (Lv.get (by assumption) 2 rfl)⟩ | exact Or.inl ⟨rfl, _, SqL.of (Lv.get (by assumption) 3 rfl)⟩ | exact Or.inl ⟨rfl, _, SqL.of (Lv.get (by assumption) 4 rfl)⟩ | exact Or.inl ⟨rfl, _, SqL.of (Lv.get (by assumption) 5 rfl)⟩ | exact Or.inr (SqT.of (Lv.get (by assumption) 0 rfl)) | exact Or.inr (SqT.of (Lv.get (by assumption) 1 rfl)) | exact Or.inr (SqT.of (Lv.get (by assumption) 2 rfl)) | exact Or.inr (SqT.of (Lv.get (by assumption) 3 rfl)) | exact SqT.of (Lv.get (by assumption) 0 rfl) | exact SqT.of (Lv.get (by assumption) 1 rfl) | exact SqT.of (Lv.get (by assumption) 2 rfl) | exact dgetN (Lv.get (by assumption) 0 rfl) (by assumption) | exact dgetN (Lv.get (by assumption) 1 rfl) (by assumption) | exact dgetN (Lv.get (by assumption) 2 rfl) (by assumption) | exact dgetN (Lv.get (by assumption) 3 rfl) (by assumption) | exact dgetN (Lv.get (by assumption) 4 rfl) (by assumption) | decide | ((with_reducible show _ ∧ _); omega)))) | ((fail_if_success (with_reducible apply @Exists.intro (Nat → _))); (with_reducible apply Exists.intro))))
local macro_rules
  | `(tactic| wide_line with al $lv:ident $l:ident $nl:ident $H:ident $lv1:ident $s1:ident) => `(tactic| (intro $l:ident $nl:ident; generalize he : upd _ _ _ = $H:ident; have $lv1:ident := Lv.alE $lv $nl he; have $s1:ident := sameE $nl he; clear he; (try dsimp only at $lv1:ident)))
  | `(tactic| wide_line with alx $lv:ident $nl:ident $H:ident $lv1:ident $s1:ident) => `(tactic| (generalize he : upd _ _ _ = $H:ident; have $lv1:ident := Lv.alE $lv $nl he; have $s1:ident := sameE $nl he; clear he; (try dsimp only at $lv1:ident)))
  | `(tactic| wide_line with sts $lv:ident $i:num $H:ident $lv1:ident $s0:ident $np:ident $s1:ident) => `(tactic| (generalize he : upd _ _ _ = $H:ident; have $lv1:ident := Lv.stE $lv $i rfl he; have $s1:ident := sameN $s0 $np he; clear he; (try dsimp only at $lv1:ident)))
  | `(tactic| wide_line with st $lv:ident $i:num $H:ident $lv1:ident) => `(tactic| (generalize he : upd _ _ _ = $H:ident; have $lv1:ident := Lv.stE $lv $i rfl he; clear he; (try dsimp only at $lv1:ident)))
  | `(tactic| wide_line with stk $lv:ident $i:num $H:ident $lv1:ident $k1:ident) => `(tactic| (generalize he : upd _ _ _ = $H:ident; have $lv1:ident := Lv.stE $lv $i rfl he; have $k1:ident := KeepT.st (Lv.get $lv $i rfl) he; clear he; (try dsimp only at $lv1:ident)))
/-- mixed(source, things): a new list of them in some sequence -/
def spMixed (K : PySem.W.Frag) : Sp := fun vs H Q _ => ∃ (p q : Addr) (r m : Int) (xs : List V), vs = [.ref p, .ref q] ∧ H p = some (.lst [.int r, .int m]) ∧ SrcOk r m ∧ SqS K H q xs ∧ xs.length ≤ 100000 ∧
  ∀ r' m' ys l H', SrcOk r' m' → ys.Perm xs → (∀ b o, b ≠ p → H b = some o → H' b = some o) → H' p = some (.lst [.int r', .int m']) → H l = none → H' l = some (.lst ys) → Q (.ref l) H'
section
variable {P : Program} {w : World} {K : PySem.W.Frag} {mg : Str → Option Value} {base : Heap}
abbrev sLawMixed : Stmt := top ix_law_mixed
theorem scLawMixed : FnScope ["source", "things", "lot", "found"] ["source", "things"] (defScope sLawMixed) := ⟨rfl, rfl, rfl, by decide +kernel, rfl, by decide +kernel, by decide +kernel⟩
theorem has_mixed (T : Bn mg) (D : DFE K mg "_law_mixed" sLawMixed ["source", "things"]) (h_law_draw : Has P w K mg base CX0 1 "_law_draw" ["source", "span"] spDraw) : Has P w K mg base CX0 2 "_law_mixed" ["source", "things"] (spMixed K) := by
  refine has_of D scLawMixed (fun vs H Q E h => ?_) (fun f cdv A outer s H vs Q E hr h => ?_)
  · obtain ⟨p, q, r, m, xs, rfl, _⟩ := h; rfl
  · obtain ⟨p, q, r, m, xs, rfl, hp, ok, hx, hl, k⟩ := h
    have nd := scLawMixed.nd
    refine ⟨_, (pss_cons (ps_par (i := 2) (j := 3) (by rfl) nd rfl rfl (by decide) rfl rfl (pa_cons (pe_callTy call_list_of (by rfl) T.z_list (by decide +kernel) (pa_cons (pv 1) pa_nil)) (pa_cons (pe_lst pa_nil) pa_nil)) (by rfl))
    (pss_cons (ps_while PassesOwn.never (pt_cmpR (op_neNil hr.units) (pv 2) (pe_lst pa_nil) (by first | exact nomark _ | rfl)) (pss_one (ps_expr (pe_bm PySem.F.plainAttrs_list PySem.F.slot_list_append PySem.F.type_list_append mt_append (pv 3) (pa_cons (pe_bm PySem.F.plainAttrs_list PySem.F.slot_list_pop PySem.F.type_list_pop mt_popAt (pv 2) (pa_cons (pe_h h_law_draw hr (by decide) rfl (pa_cons (pv 0) (pa_cons (pe_callB call_len (by rfl) T.z_len (by decide +kernel) (pa_cons (pv 2) pa_nil)) pa_nil))) pa_nil)) pa_nil)))))
    (pss_one (ps_ret (pv 3))))), ?_⟩
    have lv := Lv.one hp
    wide_line
    wide_line with al lv l nl H1 lv1 s1
    wide_line
    wide_line with al lv1 fd nf H2 lv2 s2
    wide_line
    have s02 := s1.trans s2
    refine while_n (fun σ H' => Hold (∃ (r m : Int) (ys zs : List V), σ = [some (.ref p), some (.ref q), some (.ref l), some (.ref fd)] ∧ Lv H [p] H' [(fd, .lst zs), (l, .lst ys), (p, .lst [.int r, .int m])] ∧ SrcOk r m ∧ (zs ++ ys).Perm xs))
      (fun _ H' => lenH H' l) ⟨r, m, xs, [], rfl, lv2, ok, .refl _⟩ ?_
    rintro σ H3 ⟨r3, m3, ys, zs, rfl, lv3, ok3, pm⟩
    wide_line
    wide_line with al lv3 e0 ne H4 lv4 s4
    wide_line
    cases ys with
    | nil =>
      refine iteF ?_
      wide_line
      exact k r3 m3 zs fd H4 ok3 (by simpa using pm) lv4.off (Lv.get lv4 3 rfl) (lv1.free nf) (Lv.get lv4 1 rfl)
    | cons y0 ys =>
      refine iteT ⟨_, while_nx, ?_⟩
      wide_line
      have few : zs.length + (ys.length + 1) ≤ 100000 := by
        have := pm.length_eq
        rw [List.length_append, List.length_cons] at this
        omega
      refine ⟨(show (1 : Int) ≤ ((y0 :: ys).length : Nat) by simp only [List.length_cons]; omega), (show (((y0 :: ys).length : Nat) : Int) ≤ 1000000000 by simp only [List.length_cons]; omega), fun r4 m4 j ok4 j0 j1 => ?_⟩
      wide_line with st lv4 3 H5 lv5
      have jl : j < 100001 := by
        have z := j1
        simp only [List.length_cons] at z
        omega
      have jn : j.toNat < (y0 :: ys).length := by omega
      wide_line
      have hk := PyProof.Rows.seqIndex_at j0 j1
      have hy : (y0 :: ys)[j.toNat]? = some ((y0 :: ys)[j.toNat]) := List.getElem?_eq_getElem jn
      refine ⟨hk, hy, ?_⟩
      wide_line with st lv5 2 H6 lv6
      wide_line
      refine ⟨(show zs.length < sizeLine by rw [sizeLine_eq]; omega), ?_⟩
      wide_line with st lv6 1 H7 lv7
      refine ⟨⟨r4, m4, (y0 :: ys).eraseIdx j.toNat, zs ++ [(y0 :: ys)[j.toNat]], rfl, lv7.tl (fun z => lv4.ne 0 3 (by decide) rfl rfl (List.mem_singleton.mp z)), ok4, ?_⟩, ?_⟩
      · refine List.Perm.trans ?_ pm
        rw [List.append_assoc]
        exact List.Perm.append_left zs (erase_perm jn)
      · rw [lenH_eq (lv7.get 2 rfl), lenH_eq (lv3.get 1 rfl), List.length_eraseIdx_of_lt jn]
        simp only [List.length_cons]
        omega
end
end Pw

set_option Elab.async false
set_option linter.all false
set_option maxRecDepth 100000
set_option maxHeartbeats 4000000
namespace Pw
open PySem PySem.Spec PyProof.Rows L2 Ct
local macro_rules | `(tactic| wide_line) => `(tactic| repeat ((fail_if_success (with_reducible refine at_while ?_)); (fail_if_success (with_reducible refine at_while1 ?_)); (conv => whnf); first | ((with_reducible refine And.intro ?_ ?_); focus (first | (first | ((with_reducible show (_ : Nat) ≤ _); first | exact sz0 | exact sz1 | exact sz2 | exact sz3 | exact sz4 | exact sz5 | exact sz6 | exact sz7 | exact sz8 | exact sz10 | exact sz11 | exact sz12 | exact sz14 | omega | decide | (simp only [List.length_cons, List.length_nil]; omega)) | ((with_reducible show (_ : Int) ≤ _); first | omega | decide) | ((with_reducible show (_ : Int) < _); first | omega | decide) | ((with_reducible show (_ : Nat) < _); omega)) | ((fail_if_success (with_reducible show (_ : Nat) ≤ _)); (fail_if_success (with_reducible show (_ : Int) ≤ _)); (fail_if_success (with_reducible show (_ : Int) < _)); (fail_if_success (with_reducible show (_ : Nat) < _)); first | exact kv_str _ | exact kv_int _ | rfl | assumption | exact flat_strs _ | exact Lv.get (by assumption) 0 rfl | exact Lv.get (by assumption) 1 rfl | exact Lv.get (by assumption) 2 rfl | exact Lv.get (by assumption) 3 rfl | exact Lv.get (by assumption) 4 rfl | exact Lv.get (by assumption) 5 rfl | exact Lv.get (by assumption) 6 rfl | exact SqL.of (Lv.get (by assumption) 0 rfl) | exact SqL.of (Lv.get (by assumption) 1 rfl) | exact SqL.of (Lv.get (by assumption) 2 rfl) | exact SqL.of (Lv.get (by assumption) 3 rfl) | exact SqL.of (Lv.get (by assumption) 4 rfl) | exact SqL.of (Lv.get (by assumption) 5 rfl) | exact Or.inl (SqL.of (Lv.get (by assumption) 0 rfl)) | exact Or.inl (SqL.of (Lv.get (by assumption) 1 rfl)) | exact Or.inl (SqL.of (Lv.get (by assumption) 2 rfl)) | exact Or.inl (SqL.of (Lv.get (by assumption) 3 rfl)) | exact Or.inl (SqL.of (Lv.get (by assumption) 4 rfl)) | exact Or.inl (SqL.of (Lv.get (by assumption) 5 rfl)) | exact ⟨_, SqL.of (Lv.get (by assumption) 0 rfl)⟩ | exact ⟨_, SqL.of (Lv.get (by assumption) 1 rfl)⟩ | exact ⟨_, SqL.of (Lv.get (by assumption) 2 rfl)⟩ | exact ⟨_, SqL.of (Lv.get (by assumption) 3 rfl)⟩ | exact ⟨_, SqL.of (Lv.get (by assumption) 4 rfl)⟩ | exact ⟨_, SqL.of (Lv.get (by assumption) 5 rfl)⟩ | exact Or.inl ⟨_, SqL.of (Lv.get (by assumption) 0 rfl), rfl⟩ | exact Or.inl ⟨_, SqL.of (Lv.get (by assumption) 1 rfl), rfl⟩ | exact Or.inl ⟨_, SqL.of (Lv.get (by assumption) 2 rfl), rfl⟩ | exact Or.inl ⟨_, SqL.of (Lv.get (by assumption) 3 rfl), rfl⟩ | exact Or.inl ⟨_, SqL.of (Lv.get (by assumption) 4 rfl), rfl⟩ | exact Or.inl ⟨_, SqL.of (Lv.get (by assumption) 5 rfl), rfl⟩ | exact Or.inl ⟨rfl, _, SqL.of (Lv.get (by assumption) 0 rfl)⟩ | exact Or.inl ⟨rfl, _, SqL.of (Lv.get (by assumption) 1 rfl)⟩ | exact Or.inl ⟨rfl, _, SqL.of (Lv.get (by assumption) 2 rfl)⟩ | exact Or.inl ⟨rfl, _, SqL.of (Lv.get (by assumption) 3 rfl)⟩ | exact Or.inl ⟨rfl, _, SqL.of (Lv.get (by assumption) 4 rfl)⟩ | exact Or.inl ⟨rfl, _, SqL.of (Lv.get (by assumption) 5 rfl)⟩ | exact Or.inr (SqT.of (Lv.get (by assumption) 0 rfl)) | exact Or.inr (SqT.of (Lv.get (by assumption) 1 rfl)) | exact Or.inr (SqT.of (Lv.get (by assumption) 2 rfl)) | exact Or.inr (SqT.of (Lv.get (by assumption) 3 rfl)) | exact SqT.of (Lv.get (by assumption) 0 rfl) | exact SqT.of (Lv.get (by assumption) 1 rfl) | exact SqT.of (Lv.get (by assumption) 2 rfl) | exact dgetN (Lv.get (by assumption) 0 rfl) (by assumption) | exact dgetN (Lv.get (by assumption) 1 rfl) (by assumption) | exact dgetN (Lv.get (by assumption) 2 rfl) (by assumption) | exact dgetN (Lv.get (by assumption) 3 rfl) (by assumption) | exact dgetN (Lv.get (by assumption) 4 rfl) (by assumption) | decide | ((with_reducible show _ ∧ _); omega)))) | ((fail_if_success (with_reducible apply @Exists.intro (Nat → _))); (with_reducible apply Exists.intro))))
local macro_rules
  | `(tactic| wide_line with al $lv:ident $l:ident $nl:ident $H:ident $lv1:ident $s1:ident) => `(tactic| (intro $l:ident $nl:ident; generalize he : upd _ _ _ = $H:ident; have $lv1:ident := Lv.alE $lv $nl he; have $s1:ident := sameE $nl he; clear he; (try dsimp only at $lv1:ident)))
  | `(tactic| wide_line with alx $lv:ident $nl:ident $H:ident $lv1:ident $s1:ident) => `(tactic| (generalize he : upd _ _ _ = $H:ident; have $lv1:ident := Lv.alE $lv $nl he; have $s1:ident := sameE $nl he; clear he; (try dsimp only at $lv1:ident)))
  | `(tactic| wide_line with sts $lv:ident $i:num $H:ident $lv1:ident $s0:ident $np:ident $s1:ident) => `(tactic| (generalize he : upd _ _ _ = $H:ident; have $lv1:ident := Lv.stE $lv $i rfl he; have $s1:ident := sameN $s0 $np he; clear he; (try dsimp only at $lv1:ident)))
  | `(tactic| wide_line with st $lv:ident $i:num $H:ident $lv1:ident) => `(tactic| (generalize he : upd _ _ _ = $H:ident; have $lv1:ident := Lv.stE $lv $i rfl he; clear he; (try dsimp only at $lv1:ident)))
  | `(tactic| wide_line with stk $lv:ident $i:num $H:ident $lv1:ident $k1:ident) => `(tactic| (generalize he : upd _ _ _ = $H:ident; have $lv1:ident := Lv.stE $lv $i rfl he; have $k1:ident := KeepT.st (Lv.get $lv $i rfl) he; clear he; (try dsimp only at $lv1:ident)))
/-- pick(source, text): a sign of it -/
def spPickS : Sp := fun vs H Q _ => ∃ (p : Addr) (r m : Int) (x : Str), vs = [.ref p, .str x] ∧ H p = some (.lst [.int r, .int m]) ∧ SrcOk r m ∧ 1 ≤ x.length ∧ x.length ≤ 1000 ∧
  ∀ r' m' c, SrcOk r' m' → c ∈ x.cps.toList → Q (.str ⟨#[c]⟩) (upd H p (.lst [.int r', .int m']))
def spPick2 (K : PySem.W.Frag) : Sp := fun vs H Q E => spPick K vs H Q E ∨ spPickS vs H Q E
section
variable {P : Program} {w : World} {K : PySem.W.Frag} {mg : Str → Option Value} {base : Heap}
abbrev sPick : Stmt := top ix_law_pick
theorem scPick : FnScope ["source", "things"] ["source", "things"] (defScope sPick) := ⟨rfl, rfl, rfl, by decide +kernel, rfl, by decide +kernel, by decide +kernel⟩
theorem has_pick (T : Bn mg) (D : DFE K mg "_law_pick" sPick ["source", "things"]) (h_law_draw : Has P w K mg base CX0 1 "_law_draw" ["source", "span"] spDraw) : Has P w K mg base CX0 2 "_law_pick" ["source", "things"] (spPick2 K) := by
  refine has_of D scPick (fun vs H Q E h => ?_) (fun f cdv A outer s H vs Q E hr h => ?_)
  · rcases h with ⟨p, q, r, m, xs, rfl, _⟩ | ⟨p, r, m, x, rfl, _⟩ <;> rfl
  · have nd := scPick.nd
    refine ⟨_, (pss_one (ps_ret (pe_ix ix_seq (pv 1) (pe_h h_law_draw hr (by decide) rfl (pa_cons (pv 0) (pa_cons (pe_callB call_len (by rfl) T.z_len (by decide +kernel) (pa_cons (pv 1) pa_nil)) pa_nil))) (fun _ _ => rfl)))), ?_⟩
    rcases h with ⟨p, q, r, m, xs, rfl, ne, hp, ok, hx, hne, hl, k⟩ | ⟨p, r, m, x, rfl, hp, ok, l1, l2, k⟩
    · have n1 : 1 ≤ xs.length := by
        cases xs with
        | nil => exact absurd rfl hne
        | cons _ _ => simp
      refine ⟨_, rfl, _, rfl, _, rfl, _, xs.length, rfl, ?_, p, r, m, _, rfl, hp, ok, by omega, by omega, fun r' m' j ok' j0 j1 => ?_⟩
      · rcases hx with hx | hx
        · exact .inl ⟨_, hx, rfl⟩
        · exact .inr ⟨_, hx, rfl⟩
      · obtain ⟨x, hm, ex⟩ := at_in j0 j1
        rcases hx with hx | hx
        · exact .inl ⟨q, xs, _, x, rfl, rfl, sqL_upd hx ne, ex, k _ _ _ ok' hm⟩
        · exact .inr (.inl ⟨q, xs, _, x, rfl, rfl, sqT_upd hx ne, ex, k _ _ _ ok' hm⟩)
    · have lz : x.length ≤ sizeLine := by rw [sizeLine_eq]; omega
      refine ⟨_, rfl, _, rfl, _, rfl, _, x.length, rfl, ⟨lz, rfl⟩, p, r, m, _, rfl, hp, ok, by omega, by omega, fun r' m' j ok' j0 j1 => ?_⟩
      have jn : j.toNat < x.cps.toList.length := by
        have : x.length = x.cps.toList.length := by simp [Str.length]
        omega
      have ex : atI x.cps.toList j = some (x.cps.toList[j.toNat]) := by
        unfold atI ixN
        rw [if_pos j0, if_pos (by omega)]
        exact List.getElem?_eq_getElem jn
      exact .inr (.inr ⟨x, j, _, rfl, rfl, lz, ex, k _ _ _ ok' (List.getElem_mem jn)⟩)
/-- word(source): a name -/
def spWord : Sp := fun vs H Q _ => ∃ (p : Addr) (r m : Int), vs = [.ref p] ∧ H p = some (.lst [.int r, .int m]) ∧ SrcOk r m ∧ ∀ r' m' x, SrcOk r' m' → okName x = true → Q (.str x) (upd H p (.lst [.int r', .int m']))
abbrev sLawWord : Stmt := top ix_law_word
theorem scLawWord : FnScope ["source", "word", "turn"] ["source"] (defScope sLawWord) := ⟨rfl, rfl, rfl, by decide +kernel, rfl, by decide +kernel, by decide +kernel⟩
theorem okSigns_snoc {x : Str} {c : Nat} (h : okSigns x = true) (hc : c ∈ LT.cps.toList) : okSigns (x ++ ⟨#[c]⟩) = true ∧ (x ++ ⟨#[c]⟩ : Str).length = x.length + 1 := by
  have e : (x ++ ⟨#[c]⟩ : Str).cps = x.cps ++ #[c] := rfl
  refine ⟨?_, ?_⟩
  · unfold okSigns at *
    rw [e, Array.toList_append, List.all_append, h]
    simp only [List.all_cons, List.all_nil, Bool.and_true, Bool.true_and]
    exact decide_eq_true hc
  · show (x ++ ⟨#[c]⟩ : Str).cps.size = _
    rw [e]
    simp [Str.length]
theorem has_word (T : Bn mg) (D : DFE K mg "_law_word" sLawWord ["source"]) (h_law_draw : Has P w K mg base CX0 1 "_law_draw" ["source", "span"] spDraw) (h_law_pick : Has P w K mg base CX0 2 "_law_pick" ["source", "things"] (spPick2 K)) : Has P w K mg base CX0 3 "_law_word" ["source"] spWord := by
  refine has_of D scLawWord (fun vs H Q E h => ?_) (fun f cdv A outer s H vs Q E hr h => ?_)
  · obtain ⟨p, r, m, rfl, _⟩ := h; rfl
  · obtain ⟨p, r, m, rfl, hp, ok, k⟩ := h
    have nd := scLawWord.nd
    refine ⟨_, (pss_cons (ps_sv 1 nd pe_str)
    (pss_cons (ps_for PassesOwn.never rfl (pi_range1 rfl T.z_range (pa_cons (pe_op op_add pe_int (pe_h h_law_draw hr (by decide) rfl (pa_cons (pv 0) (pa_cons pe_int pa_nil)))) pa_nil)) (pg_name (i := 2) nd rfl (by first | exact Or.inl rfl | exact Or.inr rfl)) (pss_one (ps_sv 1 nd (pe_op op_add_str (pv 1) (pe_h h_law_pick hr (by decide) rfl (pa_cons (pv 0) (pa_cons pe_str pa_nil)))))))
    (pss_one (ps_ret (pv 1))))), ?_⟩
    wide_line
    intro r1 m1 j ok1 j0 j1
    wide_line
    refine for_range (fun i σ H' => Hold (∃ (r m : Int) (x : Str) (u : Option V), σ = [some (.ref p), some (.str x), u] ∧ H' = upd H p (.lst [.int r, .int m]) ∧ SrcOk r m ∧ okSigns x = true ∧ x.length = i)) ⟨r1, m1, _, none, rfl, rfl, ok1, rfl, rfl⟩ ?_ ?_
    · rintro i σ H1 hi ⟨r2, m2, x, u, rfl, rfl, ok2, hs, hl⟩
      wide_line
      refine .inr ⟨p, r2, m2, LT, rfl, upd_same, ok2, by decide, by decide, fun r3 m3 c ok3 hc => ?_⟩
      rw [upd_upd]
      wide_line
      obtain ⟨h1, h2⟩ := okSigns_snoc hs hc
      refine ⟨(show x.length + (⟨#[c]⟩ : Str).length ≤ sizeLine by show x.length + 1 ≤ _; rw [sizeLine_eq]; omega), ?_⟩
      exact ⟨r3, m3, _, _, rfl, rfl, ok3, h1, by rw [h2, hl]⟩
    · rintro σ H1 ⟨r2, m2, x, u, rfl, rfl, ok2, hs, hl⟩
      wide_line
      refine k r2 m2 x ok2 ?_
      unfold okName
      rw [hs, decide_eq_true (show 1 ≤ x.length by omega), decide_eq_true (show x.length ≤ 8 by omega)]
      rfl
end
end Pw

set_option Elab.async false
set_option linter.all false
set_option maxRecDepth 100000
set_option maxHeartbeats 4000000
namespace Pw
open PySem PySem.Spec PyProof.Rows L2 Ct
local macro_rules | `(tactic| wide_line) => `(tactic| repeat ((fail_if_success (with_reducible refine at_while ?_)); (fail_if_success (with_reducible refine at_while1 ?_)); (conv => whnf); first | ((with_reducible refine And.intro ?_ ?_); focus (first | (first | ((with_reducible show (_ : Nat) ≤ _); first | exact sz0 | exact sz1 | exact sz2 | exact sz3 | exact sz4 | exact sz5 | exact sz6 | exact sz7 | exact sz8 | exact sz10 | exact sz11 | exact sz12 | exact sz14 | omega | decide | (simp only [List.length_cons, List.length_nil]; omega)) | ((with_reducible show (_ : Int) ≤ _); first | omega | decide) | ((with_reducible show (_ : Int) < _); first | omega | decide) | ((with_reducible show (_ : Nat) < _); omega)) | ((fail_if_success (with_reducible show (_ : Nat) ≤ _)); (fail_if_success (with_reducible show (_ : Int) ≤ _)); (fail_if_success (with_reducible show (_ : Int) < _)); (fail_if_success (with_reducible show (_ : Nat) < _)); first | exact kv_str _ | exact kv_int _ | rfl | assumption | exact flat_strs _ | exact Lv.get (by assumption) 0 rfl | exact Lv.get (by assumption) 1 rfl | exact Lv.get (by assumption) 2 rfl | exact Lv.get (by assumption) 3 rfl | exact Lv.get (by assumption) 4 rfl | exact Lv.get (by assumption) 5 rfl | exact Lv.get (by assumption) 6 rfl | exact SqL.of (Lv.get (by assumption) 0 rfl) | exact SqL.of (Lv.get (by assumption) 1 rfl) | exact SqL.of (Lv.get (by assumption) 2 rfl) | exact SqL.of (Lv.get (by assumption) 3 rfl) | exact SqL.of (Lv.get (by assumption) 4 rfl) | exact SqL.of (Lv.get (by assumption) 5 rfl) | exact Or.inl (SqL.of (Lv.get (by assumption) 0 rfl)) | exact Or.inl (SqL.of (Lv.get (by assumption) 1 rfl)) | exact Or.inl (SqL.of (Lv.get (by assumption) 2 rfl)) | exact Or.inl (SqL.of (Lv.get (by assumption) 3 rfl)) | exact Or.inl (SqL.of (Lv.get (by assumption) 4 rfl)) | exact Or.inl (SqL.of (Lv.get (by assumption) 5 rfl)) | exact ⟨_, SqL.of (Lv.get (by assumption) 0 rfl)⟩ | exact ⟨_, SqL.of (Lv.get (by assumption) 1 rfl)⟩ | exact ⟨_, SqL.of (Lv.get (by assumption) 2 rfl)⟩ | exact ⟨_, SqL.of (Lv.get (by assumption) 3 rfl)⟩ | exact ⟨_, SqL.of (Lv.get (by assumption) 4 rfl)⟩ | exact ⟨_, SqL.of (Lv.get (by assumption) 5 rfl)⟩ | exact Or.inl ⟨_, SqL.of (Lv.get (by assumption) 0 rfl), rfl⟩ | exact Or.inl ⟨_, SqL.of (Lv.get (by assumption) 1 rfl), rfl⟩ | exact Or.inl ⟨_, SqL.of (Lv.get (by assumption) 2 rfl), rfl⟩ | exact Or.inl ⟨_, SqL.of (Lv.get (by assumption) 3 rfl), rfl⟩ | exact Or.inl ⟨_, SqL.of (Lv.get (by assumption) 4 rfl), rfl⟩ | exact Or.inl ⟨_, SqL.of (Lv.get (by assumption) 5 rfl), rfl⟩ | exact Or.inl ⟨rfl, _, SqL.of (Lv.get (by assumption) 0 rfl)⟩ | exact Or.inl ⟨rfl, _, SqL.of (Lv.get (by assumption) 1 rfl)⟩ | exact Or.inl ⟨rfl, _, SqL.of (Lv.get (by assumption) 2 rfl)⟩ | exact Or.inl ⟨rfl, _, SqL.of (Lv.get (by assumption) 3 rfl)⟩ | exact Or.inl ⟨rfl, _, SqL.of (Lv.get (by assumption) 4 rfl)⟩ | exact Or.inl ⟨rfl, _, SqL.of (Lv.get (by assumption) 5 rfl)⟩ | exact Or.inr (SqT.of (Lv.get (by assumption) 0 rfl)) | exact Or.inr (SqT.of (Lv.get (by assumption) 1 rfl)) | exact Or.inr (SqT.of (Lv.get (by assumption) 2 rfl)) | exact Or.inr (SqT.of (Lv.get (by assumption) 3 rfl)) | exact SqT.of (Lv.get (by assumption) 0 rfl) | exact SqT.of (Lv.get (by assumption) 1 rfl) | exact SqT.of (Lv.get (by assumption) 2 rfl) | exact dgetN (Lv.get (by assumption) 0 rfl) (by assumption) | exact dgetN (Lv.get (by assumption) 1 rfl) (by assumption) | exact dgetN (Lv.get (by assumption) 2 rfl) (by assumption) | exact dgetN (Lv.get (by assumption) 3 rfl) (by assumption) | exact dgetN (Lv.get (by assumption) 4 rfl) (by assumption) | decide | ((with_reducible show _ ∧ _); omega)))) | ((fail_if_success (with_reducible apply @Exists.intro (Nat → _))); (with_reducible apply Exists.intro))))
local macro_rules
  | `(tactic| wide_line with al $lv:ident $l:ident $nl:ident $H:ident $lv1:ident $s1:ident) => `(tactic| (intro $l:ident $nl:ident; generalize he : upd _ _ _ = $H:ident; have $lv1:ident := Lv.alE $lv $nl he; have $s1:ident := sameE $nl he; clear he; (try dsimp only at $lv1:ident)))
  | `(tactic| wide_line with alx $lv:ident $nl:ident $H:ident $lv1:ident $s1:ident) => `(tactic| (generalize he : upd _ _ _ = $H:ident; have $lv1:ident := Lv.alE $lv $nl he; have $s1:ident := sameE $nl he; clear he; (try dsimp only at $lv1:ident)))
  | `(tactic| wide_line with sts $lv:ident $i:num $H:ident $lv1:ident $s0:ident $np:ident $s1:ident) => `(tactic| (generalize he : upd _ _ _ = $H:ident; have $lv1:ident := Lv.stE $lv $i rfl he; have $s1:ident := sameN $s0 $np he; clear he; (try dsimp only at $lv1:ident)))
  | `(tactic| wide_line with st $lv:ident $i:num $H:ident $lv1:ident) => `(tactic| (generalize he : upd _ _ _ = $H:ident; have $lv1:ident := Lv.stE $lv $i rfl he; clear he; (try dsimp only at $lv1:ident)))
  | `(tactic| wide_line with stk $lv:ident $i:num $H:ident $lv1:ident $k1:ident) => `(tactic| (generalize he : upd _ _ _ = $H:ident; have $lv1:ident := Lv.stE $lv $i rfl he; have $k1:ident := KeepT.st (Lv.get $lv $i rfl) he; clear he; (try dsimp only at $lv1:ident)))
/-- names(source, n): a new list of n names -/
def spNames : Sp := fun vs H Q _ => ∃ (p : Addr) (r m : Int) (n : Nat), vs = [.ref p, .int n] ∧ H p = some (.lst [.int r, .int m]) ∧ SrcOk r m ∧ 1 ≤ n ∧ n ≤ 14 ∧
  ∀ (r' m' : Int) (ns : List Str) (l : Addr) (H' : Hp), SrcOk r' m' → ns.length = n → ns.Nodup → (∀ x ∈ ns, okName x = true) → (∀ b o, b ≠ p → H b = some o → H' b = some o) → H' p = some (.lst [.int r', .int m']) → H l = none → H' l = some (.lst (ns.map V.str)) → Q (.ref l) H'
abbrev names14 : List Str := ["a", "b", "c", "d", "e", "f", "g", "h", "i", "place", "tie", "none", "guard", "abcdefgh"]
section
variable {P : Program} {w : World} {K : PySem.W.Frag} {mg : Str → Option Value} {base : Heap}
abbrev sLawNames : Stmt := top ix_law_names
theorem scLawNames : FnScope ["source", "many", "some", "word"] ["source", "many"] (defScope sLawNames) := ⟨rfl, rfl, rfl, by decide +kernel, rfl, by decide +kernel, by decide +kernel⟩
theorem has_names (D : DFE K mg "_law_names" sLawNames ["source", "many"]) (h_law_draw : Has P w K mg base CX0 1 "_law_draw" ["source", "span"] spDraw) (h_law_mixed : Has P w K mg base CX0 2 "_law_mixed" ["source", "things"] (spMixed K)) (h_law_word : Has P w K mg base CX0 3 "_law_word" ["source"] spWord) : Has P w K mg base CX0 4 "_law_names" ["source", "many"] spNames := by
  refine has_of D scLawNames (fun vs H Q E h => ?_) (fun f cdv A outer s H vs Q E hr h => ?_)
  · obtain ⟨p, r, m, n, rfl, _⟩ := h; rfl
  · obtain ⟨p, r, m, n, rfl, hp, ok, n1, n2, k⟩ := h
    have nd := scLawNames.nd
    refine ⟨_, (pss_cons (ps_sv 2 nd (pe_lst (pa_cons pe_str (pa_cons pe_str (pa_cons pe_str (pa_cons pe_str (pa_cons pe_str (pa_cons pe_str (pa_cons pe_str (pa_cons pe_str (pa_cons pe_str (pa_cons pe_str (pa_cons pe_str (pa_cons pe_str (pa_cons pe_str (pa_cons pe_str pa_nil))))))))))))))))
    (pss_cons (ps_sv 2 nd (pe_h h_law_mixed hr (by decide) rfl (pa_cons (pv 0) (pa_cons (pv 2) pa_nil))))
    (pss_cons (ps_sv 3 nd (pe_h h_law_word hr (by decide) rfl (pa_cons (pv 0) pa_nil)))
    (pss_cons (ps_if (pt_cmpR op_notIn_seq (pv 3) (pv 2) (by first | exact nomark _ | rfl)) (pss_one (ps_asg (pv 3) (pg_sub (pv 2) (pe_h h_law_draw hr (by decide) rfl (pa_cons (pv 0) (pa_cons (pv 1) pa_nil))) set_list))) pss_nil)
    (pss_one (ps_ret (pe_slice sl_list (pv 2) po_none (po_some (pv 1))))))))), ?_⟩
    have lv := Lv.one hp
    wide_line
    wide_line with al lv s0 n0 H1 lv1 s1
    wide_line
    intro r1 m1 ys l H2 ok1 pm off2 src2 nl hl
    have lv2 := lv1.stn 1 rfl src2 off2 nl hl
    obtain ⟨ns, pn, rfl⟩ := strs_perm (xs := names14) pm
    have nsl : ns.length = 14 := pn.length_eq
    have nsd : ns.Nodup := pn.nodup_iff.mpr (by decide +kernel)
    have nso : ∀ x ∈ ns, okName x = true := fun x hx => List.all_eq_true.mp (show names14.all okName = true by decide +kernel) x (pn.mem_iff.mp hx)
    wide_line
    intro r3 m3 x ok3 hx
    wide_line with st lv2 2 H3 lv3
    wide_line
    rw [if_pos rfl, in_strs]
    refine ite2 (fun c => ?_) (fun c => ?_)
    · wide_line
      intro r4 m4 j ok4 j0 j1
      wide_line with st lv3 2 H4 lv4
      have c : x ∉ ns := fun z => by rw [decide_eq_true z] at c; cases c
      wide_line
      refine ⟨(show ixN _ j = some j.toNat by unfold ixN; rw [if_pos j0, if_pos (by rw [List.length_map]; omega)]), ?_⟩
      wide_line with st lv4 0 H5 lv5
      wide_line
      rw [cut_take, ← List.map_set, ← List.map_take]
      wide_line with al lv5 l2 n2 H6 lv6 s6
      refine k r4 m4 ((ns.set j.toNat x).take n) l2 H6 ok4 ?_ ?_ ?_ lv6.off (lv6.get 3 rfl) (lv5.free n2) (lv6.get 0 rfl)
      · rw [List.length_take, List.length_set]; omega
      · exact (nodup_set nsd c).sublist (List.take_sublist _ _)
      · intro y hy
        rcases List.mem_or_eq_of_mem_set (List.mem_of_mem_take hy) with z | z
        · exact nso y z
        · exact z ▸ hx
    · wide_line
      rw [cut_take, ← List.map_take]
      wide_line with al lv3 l2 n2 H4 lv4 s4
      refine k r3 m3 (ns.take n) l2 H4 ok3 ?_ ?_ ?_ lv4.off (lv4.get 3 rfl) (lv3.free n2) (lv4.get 0 rfl)
      · rw [List.length_take]; omega
      · exact nsd.sublist (List.take_sublist _ _)
      · exact fun y hy => nso y (List.mem_of_mem_take hy)
end
end Pw

set_option Elab.async false
set_option linter.all false
set_option maxRecDepth 100000
set_option maxHeartbeats 4000000
namespace Pw
open PySem PySem.Spec PyProof.Rows L2 Ct
local macro_rules | `(tactic| wide_line) => `(tactic| repeat ((fail_if_success (with_reducible refine at_while ?_)); (fail_if_success (with_reducible refine at_while1 ?_)); (conv => whnf); first | ((with_reducible refine And.intro ?_ ?_); focus (first | (first | ((with_reducible show (_ : Nat) ≤ _); first | exact sz0 | exact sz1 | exact sz2 | exact sz3 | exact sz4 | exact sz5 | exact sz6 | exact sz7 | exact sz8 | exact sz10 | exact sz11 | exact sz12 | exact sz14 | omega | decide | (simp only [List.length_cons, List.length_nil]; omega)) | ((with_reducible show (_ : Int) ≤ _); first | omega | decide) | ((with_reducible show (_ : Int) < _); first | omega | decide) | ((with_reducible show (_ : Nat) < _); omega)) | ((fail_if_success (with_reducible show (_ : Nat) ≤ _)); (fail_if_success (with_reducible show (_ : Int) ≤ _)); (fail_if_success (with_reducible show (_ : Int) < _)); (fail_if_success (with_reducible show (_ : Nat) < _)); first | exact kv_str _ | exact kv_int _ | rfl | assumption | exact flat_strs _ | exact Lv.get (by assumption) 0 rfl | exact Lv.get (by assumption) 1 rfl | exact Lv.get (by assumption) 2 rfl | exact Lv.get (by assumption) 3 rfl | exact Lv.get (by assumption) 4 rfl | exact Lv.get (by assumption) 5 rfl | exact Lv.get (by assumption) 6 rfl | exact SqL.of (Lv.get (by assumption) 0 rfl) | exact SqL.of (Lv.get (by assumption) 1 rfl) | exact SqL.of (Lv.get (by assumption) 2 rfl) | exact SqL.of (Lv.get (by assumption) 3 rfl) | exact SqL.of (Lv.get (by assumption) 4 rfl) | exact SqL.of (Lv.get (by assumption) 5 rfl) | exact Or.inl (SqL.of (Lv.get (by assumption) 0 rfl)) | exact Or.inl (SqL.of (Lv.get (by assumption) 1 rfl)) | exact Or.inl (SqL.of (Lv.get (by assumption) 2 rfl)) | exact Or.inl (SqL.of (Lv.get (by assumption) 3 rfl)) | exact Or.inl (SqL.of (Lv.get (by assumption) 4 rfl)) | exact Or.inl (SqL.of (Lv.get (by assumption) 5 rfl)) | exact ⟨_, SqL.of (Lv.get (by assumption) 0 rfl)⟩ | exact ⟨_, SqL.of (Lv.get (by assumption) 1 rfl)⟩ | exact ⟨_, SqL.of (Lv.get (by assumption) 2 rfl)⟩ | exact ⟨_, SqL.of (Lv.get (by assumption) 3 rfl)⟩ | exact ⟨_, SqL.of (Lv.get (by assumption) 4 rfl)⟩ | exact ⟨_, SqL.of (Lv.get (by assumption) 5 rfl)⟩ | exact Or.inl ⟨_, SqL.of (Lv.get (by assumption) 0 rfl), rfl⟩ | exact Or.inl ⟨_, SqL.of (Lv.get (by assumption) 1 rfl), rfl⟩ | exact Or.inl ⟨_, SqL.of (Lv.get (by assumption) 2 rfl), rfl⟩ | exact Or.inl ⟨_, SqL.of (Lv.get (by assumption) 3 rfl), rfl⟩ | exact Or.inl ⟨_, SqL.of (Lv.get (by assumption) 4 rfl), rfl⟩ | exact Or.inl ⟨_, SqL.of (Lv.get (by assumption) 5 rfl), rfl⟩ | exact Or.inl ⟨rfl, _, SqL.of (Lv.get (by assumption) 0 rfl)⟩ | exact Or.inl ⟨rfl, _, SqL.of (Lv.get (by assumption) 1 rfl)⟩ | exact Or.inl ⟨rfl, _, SqL.of (Lv.get (by assumption) 2 rfl)⟩ | exact Or.inl ⟨rfl, _, SqL.of (Lv.get (by assumption) 3 rfl)⟩ | exact Or.inl ⟨rfl, _, SqL.of (Lv.get (by assumption) 4 rfl)⟩ | exact Or.inl ⟨rfl, _, SqL.of (Lv.get (by assumption) 5 rfl)⟩ | exact Or.inr (SqT.of (Lv.get (by assumption) 0 rfl)) | exact Or.inr (SqT.of (Lv.get (by assumption) 1 rfl)) | exact Or.inr (SqT.of (Lv.get (by assumption) 2 rfl)) | exact Or.inr (SqT.of (Lv.get (by assumption) 3 rfl)) | exact SqT.of (Lv.get (by assumption) 0 rfl) | exact SqT.of (Lv.get (by assumption) 1 rfl) | exact SqT.of (Lv.get (by assumption) 2 rfl) | exact dgetN (Lv.get (by assumption) 0 rfl) (by assumption) | exact dgetN (Lv.get (by assumption) 1 rfl) (by assumption) | exact dgetN (Lv.get (by assumption) 2 rfl) (by assumption) | exact dgetN (Lv.get (by assumption) 3 rfl) (by assumption) | exact dgetN (Lv.get (by assumption) 4 rfl) (by assumption) | decide | ((with_reducible show _ ∧ _); omega)))) | ((fail_if_success (with_reducible apply @Exists.intro (Nat → _))); (with_reducible apply Exists.intro))))
local macro_rules
  | `(tactic| wide_line with al $lv:ident $l:ident $nl:ident $H:ident $lv1:ident $s1:ident) => `(tactic| (intro $l:ident $nl:ident; generalize he : upd _ _ _ = $H:ident; have $lv1:ident := Lv.alE $lv $nl he; have $s1:ident := sameE $nl he; clear he; (try dsimp only at $lv1:ident)))
  | `(tactic| wide_line with alx $lv:ident $nl:ident $H:ident $lv1:ident $s1:ident) => `(tactic| (generalize he : upd _ _ _ = $H:ident; have $lv1:ident := Lv.alE $lv $nl he; have $s1:ident := sameE $nl he; clear he; (try dsimp only at $lv1:ident)))
  | `(tactic| wide_line with sts $lv:ident $i:num $H:ident $lv1:ident $s0:ident $np:ident $s1:ident) => `(tactic| (generalize he : upd _ _ _ = $H:ident; have $lv1:ident := Lv.stE $lv $i rfl he; have $s1:ident := sameN $s0 $np he; clear he; (try dsimp only at $lv1:ident)))
  | `(tactic| wide_line with st $lv:ident $i:num $H:ident $lv1:ident) => `(tactic| (generalize he : upd _ _ _ = $H:ident; have $lv1:ident := Lv.stE $lv $i rfl he; clear he; (try dsimp only at $lv1:ident)))
  | `(tactic| wide_line with stk $lv:ident $i:num $H:ident $lv1:ident $k1:ident) => `(tactic| (generalize he : upd _ _ _ = $H:ident; have $lv1:ident := Lv.stE $lv $i rfl he; have $k1:ident := KeepT.st (Lv.get $lv $i rfl) he; clear he; (try dsimp only at $lv1:ident)))
/-- different couples i < j < b -/
def PsOk (b : Nat) (ps : List (Nat × Nat)) : Prop := ps.Nodup ∧ ∀ q ∈ ps, q.1 < q.2 ∧ q.2 < b
theorem PsOk.add {b : Nat} {ps qs : List (Nat × Nat)} (h : PsOk b ps) (hq : qs.Nodup) (h2 : ∀ q ∈ qs, q.1 < q.2 ∧ q.2 = b) : PsOk (b + 1) (ps ++ qs) := by
  refine ⟨List.nodup_append.mpr ⟨h.1, hq, fun x hx y hy e => ?_⟩, fun q hq => ?_⟩
  · subst e
    have := (h.2 x hx).2
    have := (h2 x hy).2
    omega
  · rcases List.mem_append.mp hq with z | z
    · have := h.2 q z; exact ⟨this.1, by omega⟩
    · have := h2 q z; exact ⟨this.1, by omega⟩
/-- pairs(source, n, kind): a new list of different couples i < j < n -/
def spPairs : Sp := fun vs H Q _ => ∃ (p : Addr) (r m : Int) (n : Nat) (kd : Int), vs = [.ref p, .int n, .int kd] ∧ H p = some (.lst [.int r, .int m]) ∧ SrcOk r m ∧ 1 ≤ n ∧ n ≤ 14 ∧
  ∀ (r' m' : Int) (ps : List (Nat × Nat)) (xs : List V) (l : Addr) (H' : Hp), SrcOk r' m' → PsOk n ps → (∀ b o, b ≠ p → H b = some o → H' b = some o) → H' p = some (.lst [.int r', .int m']) → H l = none → H' l = some (.lst xs) → PairsT H' xs ps → Q (.ref l) H'
section
variable {P : Program} {w : World} {K : PySem.W.Frag} {mg : Str → Option Value} {base : Heap}
abbrev sLawPairs : Stmt := top ix_law_pairs
theorem scLawPairs : FnScope ["source", "many", "kind", "found", "at", "to", "seen", "one"] ["source", "many", "kind"] (defScope sLawPairs) := ⟨rfl, rfl, rfl, by decide +kernel, rfl, by decide +kernel, by decide +kernel⟩
theorem has_pairs (T : Bn mg) (D : DFE K mg "_law_pairs" sLawPairs ["source", "many", "kind"]) (h_law_draw : Has P w K mg base CX0 1 "_law_draw" ["source", "span"] spDraw) : Has P w K mg base CX0 2 "_law_pairs" ["source", "many", "kind"] spPairs := by
  refine has_of D scLawPairs (fun vs H Q E h => ?_) (fun f cdv A outer s H vs Q E hr h => ?_)
  · obtain ⟨p, r, m, n, kd, rfl, _⟩ := h; rfl
  · obtain ⟨p, r, m, n, kd, rfl, hp, ok, n1, n2, k⟩ := h
    have nd := scLawPairs.nd
    refine ⟨_, (pss_cons (ps_sv 3 nd (pe_lst pa_nil))
    (pss_cons (ps_for PassesOwn.never rfl (pi_range2 rfl T.z_range (pa_cons pe_int (pa_cons (pv 1) pa_nil))) (pg_name (i := 4) nd rfl (by first | exact Or.inl rfl | exact Or.inr rfl)) (pss_one (ps_if (pt_cmpR op_in_seq (pv 2) (pe_tup (pa_cons pe_int (pa_cons pe_int pa_nil))) (by first | exact nomark _ | rfl)) (pss_one (ps_sv 3 nd (pe_op op_cat (pv 3) (pe_lc (own := [("to", 5)]) (g := gName 5) rfl nd (pi_range1 rfl T.z_range (pa_cons (pv 4) pa_nil)) (blkOk_by (own := [("to", 5)]) (N := ["source", "many", "kind", "found", "at", "to", "seen", "one"]) (sc := defScope sLawPairs) (by decide +kernel)) (fun _ _ _ _ _ => (pg_name (i := 5) nd rfl (by first | exact Or.inl rfl | exact Or.inr rfl))) (fun _ _ _ _ _ => (pts_one (pt_cmpR op_gt (pe_h h_law_draw hr (by decide) rfl (pa_cons (pv 0) (pa_cons pe_int pa_nil))) (pv 2) (by first | exact nomark _ | rfl)))) (fun _ _ _ _ _ => (pe_tup (pa_cons (pv 5) (pa_cons (pv 4) pa_nil)))))))) (pss_one (ps_if (PW.pt (pw_or (pt_cmpR op_eq (pv 2) pe_int (by first | exact nomark _ | rfl)) (pw_or1 (PW.pt (pw_and (pt_cmpR op_eq (pv 2) pe_int (by first | exact nomark _ | rfl)) (pw_and1 (pt_cmpR op_lt (pv 4) pe_int (by first | exact nomark _ | rfl)))))))) (pss_cons (ps_expr (pe_bm PySem.F.plainAttrs_list PySem.F.slot_list_append PySem.F.type_list_append mt_append (pv 3) (pa_cons (pe_tup (pa_cons (pe_op op_sub (pv 4) pe_int) (pa_cons (pv 4) pa_nil))) pa_nil)))
    (pss_one (ps_if (PW.pt (pw_or (PW.pt (pw_and (pt_cmpR op_eq (pv 4) (pe_op op_sub (pv 1) pe_int) (by first | exact nomark _ | rfl)) (pw_and1 (pt_cmpR op_gt (pv 4) pe_int (by first | exact nomark _ | rfl))))) (pw_or1 (PW.pt (pw_and (pt_cmpR op_eq (pv 2) pe_int (by first | exact nomark _ | rfl)) (pw_and1 (pt_cmpR op_eq (pv 4) pe_int (by first | exact nomark _ | rfl)))))))) (pss_one (ps_expr (pe_bm PySem.F.plainAttrs_list PySem.F.slot_list_append PySem.F.type_list_append mt_append (pv 3) (pa_cons (pe_tup (pa_cons pe_int (pa_cons (pv 4) pa_nil))) pa_nil)))) pss_nil))) (pss_one (ps_if (pt_cmpR op_eq (pv 2) pe_int (by first | exact nomark _ | rfl)) (pss_one (ps_expr (pe_bm PySem.F.plainAttrs_list PySem.F.slot_list_append PySem.F.type_list_append mt_append (pv 3) (pa_cons (pe_tup (pa_cons (pe_h h_law_draw hr (by decide) rfl (pa_cons (pv 0) (pa_cons (pv 4) pa_nil))) (pa_cons (pv 4) pa_nil))) pa_nil)))) (pss_cons (ps_sv 5 nd (pe_h h_law_draw hr (by decide) rfl (pa_cons (pv 0) (pa_cons (pv 4) pa_nil))))
    (pss_cons (ps_setLc (i := 6) (own := [("one", 7)]) (g := gName 7) rfl nd rfl rfl (sw_true rfl rfl rfl (by decide +kernel)) (pi_range1 rfl T.z_range (pa_cons (pv 4) pa_nil)) (blkOk_by (own := [("one", 7)]) (N := ["source", "many", "kind", "found", "at", "to", "seen", "one"]) (sc := defScope sLawPairs) (by decide +kernel)) (fun _ _ _ _ _ => (pg_name (i := 7) nd rfl (by first | exact Or.inl rfl | exact Or.inr rfl))) (fun _ _ _ _ _ => (pts_one (pt_cmpR (op_inDk (K := K) rfl (units65 hr)) (pe_tup (pa_cons (pe_callB (call_min2 rfl) (by rfl) T.z_min (by decide +kernel) (pa_cons (pv 7) (pa_cons (pv 5) pa_nil))) (pa_cons (pe_callB (call_max2 rfl) (by rfl) T.z_max (by decide +kernel) (pa_cons (pv 7) (pa_cons (pv 5) pa_nil))) pa_nil))) (pv 3) (by first | exact nomark _ | rfl)))) (fun _ _ _ _ _ => (pv 7)))
    (pss_one (ps_sv 3 nd (pe_op op_cat (pe_op op_cat (pv 3) (pe_lst (pa_cons (pe_tup (pa_cons (pv 5) (pa_cons (pv 4) pa_nil))) pa_nil))) (pe_lc (own := [("one", 7)]) (g := gName 7) rfl nd (pi_list (pv 6)) (blkOk_by (own := [("one", 7)]) (N := ["source", "many", "kind", "found", "at", "to", "seen", "one"]) (sc := defScope sLawPairs) (by decide +kernel)) (fun _ _ _ _ _ => (pg_name (i := 7) nd rfl (by first | exact Or.inl rfl | exact Or.inr rfl))) (fun _ _ _ _ _ => (pts_one (pt_cmpR op_eq (pe_h h_law_draw hr (by decide) rfl (pa_cons (pv 0) (pa_cons pe_int pa_nil))) pe_int (by first | exact nomark _ | rfl)))) (fun _ _ _ _ _ => (pe_tup (pa_cons (pv 7) (pa_cons (pv 4) pa_nil)))))))))))))))))
    (pss_one (ps_ret (pv 3))))), ?_⟩
    have lv := Lv.one hp
    wide_line
    wide_line with al lv l0 nl0 H1 lv1 s1
    wide_line
    refine for_range (fun i σ H' => Hold (∃ (r m : Int) (l : Addr) (xs : List V) (ps : List (Nat × Nat)) (u4 u5 u6 u7 : Option V), σ = [some (.ref p), some (.int n), some (.int kd), some (.ref l), u4, u5, u6, u7] ∧
      Lv H [p] H' [(l, .lst xs), (p, .lst [.int r, .int m])] ∧ SrcOk r m ∧ PairsT H' xs ps ∧ PsOk (1 + i) ps ∧ ps.length ≤ 16 * i)) ⟨r, m, l0, [], [], none, none, none, none, rfl, lv1, ok, .nil, ⟨List.nodup_nil, fun _ z => nomatch z⟩, Nat.zero_le _⟩ ?_ ?_
    · rintro i σ H2 hi ⟨r2, m2, l, xs, ps, u4, u5, u6, u7, rfl, lv2, ok2, pt, po, pl⟩
      rw [show (1 : Int) + (i : Nat) = ((1 + i : Nat) : Int) by omega]
      wide_line
      wide_line with al lv2 t0 nt0 H3 lv3 s3
      wide_line
      have pt3 := pt.keep (KeepT.same s3)
      refine ite2 (fun c => ?_) (fun c => ?_)
      · wide_line
        intro D nD
        refine lc_range (fun j H' => Hold (∃ (r m : Int) (acc : List V) (qs : List (Nat × Nat)), Lv H [p] H' [(D, .lst acc), (t0, .tup [.int 0, .int 1]), (l, .lst xs), (p, .lst [.int r, .int m])] ∧ SrcOk r m ∧ PairsT H' acc qs ∧ qs.Nodup ∧ (∀ q ∈ qs, q.1 < j ∧ q.2 = 1 + i) ∧ qs.length ≤ j ∧ PairsT H' xs ps))
          ⟨r2, m2, [], [], lv3.al nD, ok2, .nil, List.nodup_nil, (fun _ z => nomatch z), Nat.zero_le _, pt3.keep (KeepT.same (same_new nD))⟩ ?_ ?_
        · rintro j H4 hj ⟨r4, m4, acc, qs, lv4, ok4, pa, qn, qo, ql, px⟩
          rw [Int.zero_add]
          wide_line
          intro r5 m5 k5 ok5 k50 k51
          wide_line with stk lv4 3 H5 lv5 kt5
          wide_line
          have pa5 := pa.keep kt5
          have px5 := px.keep kt5
          refine ite2 (fun c => ?_) (fun c => ?_)
          · wide_line
            wide_line with al lv5 t1 nt1 H6 lv6 s6
            wide_line
            have al := paired_len pa
            refine ⟨by rw [sizeLine_eq]; omega, ?_⟩
            wide_line with stk lv6 1 H7 lv7 kt7
            have kt := (KeepT.same s6).trans kt7
            refine ⟨r5, m5, _, qs ++ [(j, 1 + i)], ?_, ok5, paired_app (pa5.keep kt) (.cons ⟨t1, rfl, kt7 _ _ (lv6.get 0 rfl)⟩ .nil), ?_, ?_, by simp; omega, px5.keep kt⟩
            · exact lv7.tl (fun z => lv6.ne 0 4 (by decide) rfl rfl (List.mem_singleton.mp z))
            · refine List.nodup_append.mpr ⟨qn, (by simp), fun x hx y hy e => ?_⟩
              subst e
              have := (qo x hx).1
              rw [List.mem_singleton.mp hy] at this
              exact absurd this (Nat.lt_irrefl _)
            · intro q hq
              rcases List.mem_append.mp hq with z | z
              · have := qo q z; exact ⟨by omega, this.2⟩
              · rw [List.mem_singleton.mp z]; exact ⟨Nat.lt_succ_self j, rfl⟩
          · exact ⟨r5, m5, acc, qs, lv5, ok5, pa5, qn, (fun q hq => ⟨Nat.lt_succ_of_lt (qo q hq).1, (qo q hq).2⟩), Nat.le_succ_of_le ql, px5⟩
        · rintro H4 ⟨r4, m4, acc, qs, lv4, ok4, pa, qn, qo, ql, px⟩
          wide_line
          have al := paired_len pa
          have xl := paired_len px
          rw [Int.toNat_natCast] at ql qo
          refine ⟨by rw [sizeLine_eq]; omega, ?_⟩
          wide_line with al lv4 l5 nl5 H5 lv5 s5
          exact ⟨r4, m4, l5, _, ps ++ qs, _, _, _, _, rfl, lv5.pick2 0 4 (by decide) rfl rfl, ok4, paired_app (px.keep (.same s5)) (pa.keep (.same s5)), po.add qn (fun q hq => ⟨(by have := qo q hq; omega), (qo q hq).2⟩), by simp; omega⟩
      · have xl := paired_len pt3
        refine ifs_any (fun _ => True) (fun Q hQ => ?_) (fun _ => ?_) (fun _ => ?_)
        · wide_line
          refine ite2 (fun c => ?_) (fun c => ?_)
          · exact hQ _ True.intro
          · wide_line
            refine ite2 (fun c => ?_) (fun c => ?_)
            · wide_line
              exact hQ _ True.intro
            · exact hQ _ True.intro
        · wide_line
          wide_line with al lv3 t1 nt1 H4 lv4 s4
          rw [show ((1 + i : Nat) : Int) - 1 = (i : Nat) by omega] at lv4
          wide_line
          refine ⟨by rw [sizeLine_eq]; omega, ?_⟩
          wide_line with stk lv4 2 H5 lv5 kt5
          have pt5 : PairsT H5 (xs ++ [.ref t1]) (ps ++ [(i, 1 + i)]) := paired_app ((pt3.keep (.same s4)).keep kt5) (.cons ⟨t1, rfl, kt5 _ _ (lv4.get 0 rfl)⟩ (.nil : PairsT H5 [] []) : PairsT H5 [.ref t1] [(i, 1 + i)])
          dsimp only
          refine ifs_any (fun b => b = true → 1 ≤ i) (fun Q hQ => ?_) (fun c => ?_) (fun _ => ?_)
          · have second : tAnd (tTest (tOp rEq (tVar 2) (tC (V.int 3)))) (tTest (tOp rEq (tVar 4) (tC (V.int 3)))) ([some (.ref p), some (.int n), some (.int kd), some (.ref l), some (.int ((1 + i : Nat) : Int)), u5, u6, u7]) H5 Q := by
              wide_line
              refine ite2 (fun c => ?_) (fun c => ?_)
              · wide_line
                exact hQ _ (fun z => by have := of_decide_eq_true z; injection this with this; omega)
              · exact hQ _ (fun z => nomatch z)
            wide_line
            refine ite2 (fun c => ?_) (fun c => ?_)
            · wide_line
              refine ite2 (fun c => ?_) (fun c => ?_)
              · exact hQ _ (fun z => by have := of_decide_eq_true c; omega)
              · exact second
            · exact iteF second
          · have c := c rfl
            wide_line
            wide_line with al lv5 t2 nt2 H6 lv6 s6
            wide_line
            refine ⟨by rw [sizeLine_eq]; simp; omega, ?_⟩
            wide_line with stk lv6 3 H7 lv7 kt7
            refine ⟨r2, m2, l, _, _, _, _, _, _, rfl, lv7.pick2 3 4 (by decide) rfl rfl, ok2, paired_app ((pt5.keep (.same s6)).keep kt7) (.cons ⟨t2, rfl, kt7 _ _ (lv6.get 0 rfl)⟩ (.nil : PairsT H7 [] []) : PairsT H7 [.ref t2] [(0, 1 + i)]), ?_, by simp; omega⟩
            rw [List.append_assoc]
            refine po.add ?_ ?_
            · simp; omega
            · intro q hq
              simp at hq
              rcases hq with rfl | rfl
              · exact ⟨by show i < 1 + i; omega, rfl⟩
              · exact ⟨by show 0 < 1 + i; omega, rfl⟩
          · refine ⟨r2, m2, l, _, _, _, _, _, _, rfl, lv5.pick2 2 3 (by decide) rfl rfl, ok2, pt5, ?_, by simp; omega⟩
            refine po.add (by simp) ?_
            intro q hq
            rw [List.mem_singleton.mp hq]
            exact ⟨by show i < 1 + i; omega, rfl⟩
        · refine ifs_any (fun _ => True) (fun Q hQ => ?_) (fun _ => ?_) (fun _ => ?_)
          · wide_line
            exact hQ _ True.intro
          · wide_line
            intro r4 m4 j ok4 j0 j1
            obtain ⟨a, rfl⟩ := Int.eq_ofNat_of_zero_le j0
            wide_line with stk lv3 2 H4 lv4 kt4
            wide_line
            wide_line with al lv4 t1 nt1 H5 lv5 s5
            wide_line
            refine ⟨by rw [sizeLine_eq]; omega, ?_⟩
            wide_line with stk lv5 2 H6 lv6 kt6
            refine ⟨r4, m4, l, _, ps ++ [(a, 1 + i)], _, _, _, _, rfl, lv6.pick2 2 3 (by decide) rfl rfl, ok4, paired_app (((pt3.keep kt4).keep (.same s5)).keep kt6) (.cons ⟨t1, rfl, kt6 _ _ (lv5.get 0 rfl)⟩ (.nil : PairsT H6 [] []) : PairsT H6 [.ref t1] [(a, 1 + i)]), ?_, by simp; omega⟩
            refine po.add (by simp) ?_
            intro q hq
            rw [List.mem_singleton.mp hq]
            exact ⟨by show a < 1 + i; omega, rfl⟩
          · wide_line
            intro r4 m4 j ok4 j0 j1
            obtain ⟨a, rfl⟩ := Int.eq_ofNat_of_zero_le j0
            wide_line with stk lv3 2 H4 lv4 kt4
            wide_line
            have pt4 := pt3.keep kt4
            intro D nD
            refine lc_range (fun j H' => Hold (∃ ss : List Nat, Lv H [p] H' [(D, .lst (ss.map fun z => V.int (z : Nat))), (t0, .tup [.int 0, .int 1]), (l, .lst xs), (p, .lst [.int r4, .int m4])] ∧ ss.Nodup ∧ (∀ z ∈ ss, z < j ∧ z ≠ a) ∧ ss.length ≤ j ∧ PairsT H' xs ps))
              ⟨[], lv4.al nD, List.nodup_nil, (fun _ z => nomatch z), Nat.zero_le _, pt4.keep (.same (same_new nD))⟩ ?_ ?_
            · rintro j H5 hj ⟨ss, lv5, sn, so, sl, px⟩
              rw [Int.zero_add]
              wide_line
              wide_line with al lv5 t1 nt1 H6 lv6 s6
              have e1 : (if (a : Int) < (j : Nat) then (a : Int) else (j : Nat)) = ((if a < j then a else j : Nat) : Int) := by split <;> split <;> omega
              have e2 : (if (a : Int) > (j : Nat) then (a : Int) else (j : Nat)) = ((if a > j then a else j : Nat) : Int) := by split <;> split <;> omega
              rw [e1, e2] at lv6
              have px6 := px.keep (.same s6)
              wide_line
              refine ⟨(.tup (SqT.of (lv6.get 0 rfl)) (.cons (.int _) (.cons (.int _) .nil)) : Dp K H6 (.ref t1) (pairI (if a < j then a else j, if a > j then a else j))), .lst (SqL.of (lv6.get 3 rfl)) px6.dp, shaped_pair _, shaped_pairs _, ?_⟩
              rw [show ((ps.map pairI).any fun z => PyData.eqv z (.tuple [.int ((if a < j then a else j : Nat) : Int), .int ((if a > j then a else j : Nat) : Int)])) = decide (((if a < j then a else j), (if a > j then a else j)) ∈ ps) from any_pairI ps ((if a < j then a else j), (if a > j then a else j))]
              wide_line
              refine ite2 (fun c => ?_) (fun c => ?_)
              · wide_line
                refine ⟨by rw [List.length_map, sizeLine_eq]; omega, ?_⟩
                wide_line with stk lv6 1 H7 lv7 kt7
                refine ⟨ss ++ [j], ?_, ?_, ?_, by simp; omega, px6.keep kt7⟩
                · rw [List.map_append]
                  exact lv7.tl (fun z => lv6.ne 0 4 (by decide) rfl rfl (List.mem_singleton.mp z))
                · refine List.nodup_append.mpr ⟨sn, by simp, fun x hx y hy e => ?_⟩
                  subst e
                  have := (so x hx).1
                  rw [List.mem_singleton.mp hy] at this
                  exact absurd this (Nat.lt_irrefl _)
                · intro z hz
                  rcases List.mem_append.mp hz with z1 | z1
                  · have := so z z1; exact ⟨by omega, this.2⟩
                  · rw [List.mem_singleton.mp z1]
                    refine ⟨Nat.lt_succ_self j, fun e => ?_⟩
                    subst e
                    have := (po.2 _ (of_decide_eq_true c)).1
                    simp at this
              · exact ⟨ss, lv6.tl (fun z => lv6.ne 0 4 (by decide) rfl rfl (List.mem_singleton.mp z)), sn, (fun z hz => ⟨Nat.lt_succ_of_lt (so z hz).1, (so z hz).2⟩), Nat.le_succ_of_le sl, px6⟩
            · rintro H5 ⟨ss, lv5, sn, so, sl, px⟩
              rw [Int.toNat_natCast] at sl so
              have xl5 := paired_len px
              wide_line
              wide_line with al lv5 t1 nt1 H6 lv6 s6
              wide_line
              wide_line with al lv6 l1 nl1 H7 lv7 s7
              wide_line
              refine ⟨by rw [sizeLine_eq]; simp; omega, ?_⟩
              wide_line with al lv7 l2 nl2 H8 lv8 s8
              have s68 := s7.trans s8
              have px8 : PairsT H8 (xs ++ [.ref t1]) (ps ++ [(a, 1 + i)]) := paired_app (px.keep (.same (s6.trans s68))) (.cons ⟨t1, rfl, s68 _ _ (lv6.get 0 rfl)⟩ .nil)
              wide_line
              intro D2 nD2
              have lvD := lv8.al (o := .lst []) nD2
              refine lc_list (K := K) (a := D) (xs := ss.map fun z => V.int (z : Nat)) (fun k H' => Hold (∃ (r m : Int) (acc : List V) (sub : List Nat), Lv H [p] H' [(D2, .lst acc), (l2, .lst (xs ++ [.ref t1])), (D, .lst (ss.map fun z => V.int (z : Nat))), (p, .lst [.int r, .int m])] ∧ SrcOk r m ∧ PairsT H' acc (sub.map fun z => (z, 1 + i)) ∧ sub.Sublist (ss.take k) ∧ sub.length ≤ k ∧ PairsT H' (xs ++ [.ref t1]) (ps ++ [(a, 1 + i)])))
                ⟨r4, m4, [], [], lvD.picks [0, 1, 4, 7] rfl (by decide) (by simp), ok4, .nil, List.nil_sublist _, Nat.zero_le _, px8.keep (.same (same_new nD2))⟩ (fun k H' _ ⟨_, _, _, _, z, _⟩ => SqL.of (z.get 2 rfl)) ?_ ?_
              · rintro k y H9 hy ⟨r9, m9, acc, sub, lv9, ok9, pa, sb, sbl, px9⟩
                obtain ⟨z, hz, rfl⟩ : ∃ z, ss[k]? = some z ∧ y = .int (z : Nat) := by
                  rw [List.getElem?_map] at hy
                  cases e : ss[k]? with
                  | none => rw [e] at hy; cases hy
                  | some z => rw [e] at hy; exact ⟨z, rfl, (Option.some.inj hy).symm⟩
                have kl := (List.getElem?_eq_some_iff.mp hz).1
                wide_line
                intro r10 m10 j ok10 j0 j1
                wide_line with stk lv9 3 H10 lv10 kt10
                wide_line
                have pa10 := pa.keep kt10
                have px10 := px9.keep kt10
                have tk : ss.take (k + 1) = ss.take k ++ [z] := by rw [List.take_succ, hz]; rfl
                refine ite2 (fun c => ?_) (fun c => ?_)
                · wide_line
                  wide_line with al lv10 t2 nt2 H11 lv11 s11
                  wide_line
                  have al := paired_len pa
                  rw [List.length_map] at al
                  refine ⟨by rw [sizeLine_eq]; omega, ?_⟩
                  wide_line with stk lv11 1 H12 lv12 kt12
                  have kt := (KeepT.same s11).trans kt12
                  refine ⟨r10, m10, _, sub ++ [z], lv12.tl (fun z => lv11.ne 0 4 (by decide) rfl rfl (List.mem_singleton.mp z)), ok10, ?_, ?_, by simp; omega, px10.keep kt⟩
                  · rw [List.map_append]
                    exact paired_app (pa10.keep kt) (.cons ⟨t2, rfl, kt12 _ _ (lv11.get 0 rfl)⟩ .nil)
                  · rw [tk]
                    exact List.Sublist.append sb (List.Sublist.refl _)
                · exact ⟨r10, m10, acc, sub, lv10, ok10, pa10, by rw [tk]; exact sb.trans (List.sublist_append_left _ _), Nat.le_succ_of_le sbl, px10⟩
              · rintro H9 ⟨r9, m9, acc, sub, lv9, ok9, pa, sb, sbl, px9⟩
                rw [List.length_map] at sb sbl
                rw [List.take_length] at sb
                have al := paired_len pa
                rw [List.length_map] at al
                have xl9 := paired_len px9
                wide_line
                refine ⟨by rw [sizeLine_eq]; simp at xl9 ⊢; omega, ?_⟩
                wide_line with al lv9 l3 nl3 H10 lv10 s10
                refine ⟨r9, m9, l3, _, (ps ++ [(a, 1 + i)]) ++ sub.map fun z => (z, 1 + i), _, _, _, _, rfl, lv10.pick2 0 4 (by decide) rfl rfl, ok9, paired_app (px9.keep (.same s10)) (pa.keep (.same s10)), ?_, by simp; omega⟩
                rw [List.append_assoc]
                refine po.add ?_ ?_
                · refine List.nodup_append.mpr ⟨by simp, nodup_inj (fun x y e => (Prod.mk.inj e).1) (sn.sublist sb), fun x hx y hy e => ?_⟩
                  subst e
                  rw [List.mem_singleton.mp hx] at hy
                  obtain ⟨z, hz, e⟩ := List.mem_map.mp hy
                  exact (so z (sb.subset hz)).2 (Prod.mk.inj e).1
                · intro q hq
                  rcases List.mem_append.mp hq with z | z
                  · rw [List.mem_singleton.mp z]
                    exact ⟨by show a < 1 + i; omega, rfl⟩
                  · obtain ⟨y, hy, rfl⟩ := List.mem_map.mp z
                    exact ⟨(so y (sb.subset hy)).1, rfl⟩
    · rintro σ H2 ⟨r2, m2, l, xs, ps, u4, u5, u6, u7, rfl, lv2, ok2, pt, po, pl⟩
      wide_line
      have e : 1 + ((n : Int) - 1).toNat = n := by omega
      exact k r2 m2 ps xs l H2 ok2 (e ▸ po) lv2.off (lv2.get 1 rfl) (lv2.fresh 0 rfl (fun z => lv2.ne 0 1 (by decide) rfl rfl (List.mem_singleton.mp z))) (lv2.get 0 rfl) pt
end
end Pw

set_option Elab.async false
set_option linter.all false
set_option maxRecDepth 100000
set_option maxHeartbeats 4000000
namespace Pw
open PySem PySem.Spec PyProof.Rows L2 Ct
local macro_rules | `(tactic| wide_line) => `(tactic| repeat ((fail_if_success (with_reducible refine at_while ?_)); (fail_if_success (with_reducible refine at_while1 ?_)); (conv => whnf); first | ((with_reducible refine And.intro ?_ ?_); focus (first | (first | ((with_reducible show (_ : Nat) ≤ _); first | exact sz0 | exact sz1 | exact sz2 | exact sz3 | exact sz4 | exact sz5 | exact sz6 | exact sz7 | exact sz8 | exact sz10 | exact sz11 | exact sz12 | exact sz14 | omega | decide | (simp only [List.length_cons, List.length_nil]; omega)) | ((with_reducible show (_ : Int) ≤ _); first | omega | decide) | ((with_reducible show (_ : Int) < _); first | omega | decide) | ((with_reducible show (_ : Nat) < _); omega)) | ((fail_if_success (with_reducible show (_ : Nat) ≤ _)); (fail_if_success (with_reducible show (_ : Int) ≤ _)); (fail_if_success (with_reducible show (_ : Int) < _)); (fail_if_success (with_reducible show (_ : Nat) < _)); first | exact kv_str _ | exact kv_int _ | rfl | assumption | exact flat_strs _ | exact Lv.get (by assumption) 0 rfl | exact Lv.get (by assumption) 1 rfl | exact Lv.get (by assumption) 2 rfl | exact Lv.get (by assumption) 3 rfl | exact Lv.get (by assumption) 4 rfl | exact Lv.get (by assumption) 5 rfl | exact Lv.get (by assumption) 6 rfl | exact SqL.of (Lv.get (by assumption) 0 rfl) | exact SqL.of (Lv.get (by assumption) 1 rfl) | exact SqL.of (Lv.get (by assumption) 2 rfl) | exact SqL.of (Lv.get (by assumption) 3 rfl) | exact SqL.of (Lv.get (by assumption) 4 rfl) | exact SqL.of (Lv.get (by assumption) 5 rfl) | exact Or.inl (SqL.of (Lv.get (by assumption) 0 rfl)) | exact Or.inl (SqL.of (Lv.get (by assumption) 1 rfl)) | exact Or.inl (SqL.of (Lv.get (by assumption) 2 rfl)) | exact Or.inl (SqL.of (Lv.get (by assumption) 3 rfl)) | exact Or.inl (SqL.of (Lv.get (by assumption) 4 rfl)) | exact Or.inl (SqL.of (Lv.get (by assumption) 5 rfl)) | exact ⟨_, SqL.of (Lv.get (by assumption) 0 rfl)⟩ | exact ⟨_, SqL.of (Lv.get (by assumption) 1 rfl)⟩ | exact ⟨_, SqL.of (Lv.get (by assumption) 2 rfl)⟩ | exact ⟨_, SqL.of (Lv.get (by assumption) 3 rfl)⟩ | exact ⟨_, SqL.of (Lv.get (by assumption) 4 rfl)⟩ | exact ⟨_, SqL.of (Lv.get (by assumption) 5 rfl)⟩ | exact Or.inl ⟨_, SqL.of (Lv.get (by assumption) 0 rfl), rfl⟩ | exact Or.inl ⟨_, SqL.of (Lv.get (by assumption) 1 rfl), rfl⟩ | exact Or.inl ⟨_, SqL.of (Lv.get (by assumption) 2 rfl), rfl⟩ | exact Or.inl ⟨_, SqL.of (Lv.get (by assumption) 3 rfl), rfl⟩ | exact Or.inl ⟨_, SqL.of (Lv.get (by assumption) 4 rfl), rfl⟩ | exact Or.inl ⟨_, SqL.of (Lv.get (by assumption) 5 rfl), rfl⟩ | exact Or.inl ⟨rfl, _, SqL.of (Lv.get (by assumption) 0 rfl)⟩ | exact Or.inl ⟨rfl, _, SqL.of (Lv.get (by assumption) 1 rfl)⟩ | exact Or.inl ⟨rfl, _, SqL.of (Lv.get (by assumption) 2 rfl)⟩ | exact Or.inl ⟨rfl, _, SqL.of (Lv.get (by assumption) 3 rfl)⟩ | exact Or.inl ⟨rfl, _, SqL.of (Lv.get (by assumption) 4 rfl)⟩ | exact Or.inl ⟨rfl, _, SqL.of (Lv.get (by assumption) 5 rfl)⟩ | exact Or.inr (SqT.of (Lv.get (by assumption) 0 rfl)) | exact Or.inr (SqT.of (Lv.get (by assumption) 1 rfl)) | exact Or.inr (SqT.of (Lv.get (by assumption) 2 rfl)) | exact Or.inr (SqT.of (Lv.get (by assumption) 3 rfl)) | exact SqT.of (Lv.get (by assumption) 0 rfl) | exact SqT.of (Lv.get (by assumption) 1 rfl) | exact SqT.of (Lv.get (by assumption) 2 rfl) | exact dgetN (Lv.get (by assumption) 0 rfl) (by assumption) | exact dgetN (Lv.get (by assumption) 1 rfl) (by assumption) | exact dgetN (Lv.get (by assumption) 2 rfl) (by assumption) | exact dgetN (Lv.get (by assumption) 3 rfl) (by assumption) | exact dgetN (Lv.get (by assumption) 4 rfl) (by assumption) | decide | ((with_reducible show _ ∧ _); omega)))) | ((fail_if_success (with_reducible apply @Exists.intro (Nat → _))); (with_reducible apply Exists.intro))))
local macro_rules
  | `(tactic| wide_line with al $lv:ident $l:ident $nl:ident $H:ident $lv1:ident $s1:ident) => `(tactic| (intro $l:ident $nl:ident; generalize he : upd _ _ _ = $H:ident; have $lv1:ident := Lv.alE $lv $nl he; have $s1:ident := sameE $nl he; clear he; (try dsimp only at $lv1:ident)))
  | `(tactic| wide_line with alx $lv:ident $nl:ident $H:ident $lv1:ident $s1:ident) => `(tactic| (generalize he : upd _ _ _ = $H:ident; have $lv1:ident := Lv.alE $lv $nl he; have $s1:ident := sameE $nl he; clear he; (try dsimp only at $lv1:ident)))
  | `(tactic| wide_line with sts $lv:ident $i:num $H:ident $lv1:ident $s0:ident $np:ident $s1:ident) => `(tactic| (generalize he : upd _ _ _ = $H:ident; have $lv1:ident := Lv.stE $lv $i rfl he; have $s1:ident := sameN $s0 $np he; clear he; (try dsimp only at $lv1:ident)))
  | `(tactic| wide_line with st $lv:ident $i:num $H:ident $lv1:ident) => `(tactic| (generalize he : upd _ _ _ = $H:ident; have $lv1:ident := Lv.stE $lv $i rfl he; clear he; (try dsimp only at $lv1:ident)))
  | `(tactic| wide_line with stk $lv:ident $i:num $H:ident $lv1:ident $k1:ident) => `(tactic| (generalize he : upd _ _ _ = $H:ident; have $lv1:ident := Lv.stE $lv $i rfl he; have $k1:ident := KeepT.st (Lv.get $lv $i rfl) he; clear he; (try dsimp only at $lv1:ident)))
/-- the names and the ties of a drawn web -/
structure PlanOk (n : Nat) (ns : List Str) (ts : List (Str × Str)) : Prop where
  one : 1 ≤ ns.length
  most : ns.length ≤ n
  nd : ns.Nodup
  nm : ∀ x ∈ ns, okName x = true
  tie : ∀ t ∈ ts, t.1 ∈ ns ∧ t.2 ∈ ns ∧ t.1 ≠ t.2
  dif : (ts.map pairP).Nodup
  few : ts.length ≤ 75
theorem PlanOk.perm {n : Nat} {ns ms : List Str} {ts us : List (Str × Str)} (h : PlanOk n ns ts) (a : ms.Perm ns) (b : us.Perm ts) : PlanOk n ms us :=
  ⟨a.length_eq ▸ h.one, a.length_eq ▸ h.most, a.nodup_iff.mpr h.nd, fun x hx => h.nm x (a.mem_iff.mp hx), fun t ht => by
    obtain ⟨h1, h2, h3⟩ := h.tie t (b.mem_iff.mp ht)
    exact ⟨a.mem_iff.mpr h1, a.mem_iff.mpr h2, h3⟩, (b.map pairP).nodup_iff.mpr h.dif, b.length_eq ▸ h.few⟩
/-- ties out of couples of places -/
abbrev TieR (ns : List Str) : List (Nat × Nat) → List (Str × Str) → Prop := Paired fun q t => ∃ x y, ns[q.1]? = some x ∧ ns[q.2]? = some y ∧ (t = (x, y) ∨ t = (y, x))
abbrev pairs12 : List (Nat × Nat) := (List.range 14).flatMap fun j => (List.range j).map fun i => (i, j)
theorem mem_pairs12 {n : Nat} (hn : n ≤ 14) {q : Nat × Nat} (h : q.1 < q.2 ∧ q.2 < n) : q ∈ (List.range n).flatMap fun j => (List.range j).map fun i => (i, j) :=
  List.mem_flatMap.mpr ⟨q.2, List.mem_range.mpr h.2, List.mem_map.mpr ⟨q.1, List.mem_range.mpr h.1, rfl⟩⟩
theorem few_pairs {n : Nat} (hn : n ≤ 12) {ps : List (Nat × Nat)} (h : PsOk n ps) : ps.length ≤ 66 := by
  have h1 := nodup_len h.1 fun q hq => mem_pairs12 (n := 12) (by decide) ⟨(h.2 q hq).1, Nat.lt_of_lt_of_le (h.2 q hq).2 hn⟩
  exact Nat.le_trans h1 (by decide +kernel)
theorem pairS_or (x y : Str) : pairS x y = (x, y) ∨ pairS x y = (y, x) := by
  unfold pairS
  split
  · exact .inl rfl
  · exact .inr rfl
theorem tieR_inj {ns : List Str} (nd : ns.Nodup) {q r : Nat × Nat} {t u : Str × Str} (hq : q.1 < q.2) (hr : r.1 < r.2)
    (h1 : ∃ x y, ns[q.1]? = some x ∧ ns[q.2]? = some y ∧ (t = (x, y) ∨ t = (y, x))) (h2 : ∃ x y, ns[r.1]? = some x ∧ ns[r.2]? = some y ∧ (u = (x, y) ∨ u = (y, x))) (e : pairP t = pairP u) : q = r := by
  obtain ⟨x, y, hx, hy, ht⟩ := h1
  obtain ⟨x', y', hx', hy', hu⟩ := h2
  have key : (x = x' ∧ y = y') ∨ (x = y' ∧ y = x') := by
    unfold pairP at e
    rcases ht with rfl | rfl <;> rcases hu with rfl | rfl <;> simp only at e
    all_goals
      rcases pairS_or x y with z | z <;> rcases pairS_or y x with z' | z' <;> rcases pairS_or x' y' with w | w <;> rcases pairS_or y' x' with w' | w'
    all_goals
      simp only [z, z', w, w'] at e
      injection e with e1 e2
      subst e1 e2
      first
        | exact .inl ⟨rfl, rfl⟩
        | exact .inr ⟨rfl, rfl⟩
  rcases key with ⟨rfl, rfl⟩ | ⟨rfl, rfl⟩
  · have a := idx_inj nd hx hx'
    have b := idx_inj nd hy hy'
    exact Prod.ext a b
  · have a := idx_inj nd hx hy'
    have b := idx_inj nd hy hx'
    omega
theorem tieR_dif {ns : List Str} (nd : ns.Nodup) : ∀ {ps : List (Nat × Nat)} {ts : List (Str × Str)}, TieR ns ps ts → ps.Nodup → (∀ q ∈ ps, q.1 < q.2) → (ts.map pairP).Nodup
  | _, _, .nil, _, _ => List.nodup_nil
  | q :: ps, t :: ts, .cons a r, h, lt => by
    obtain ⟨n, h⟩ := List.nodup_cons.mp h
    refine List.nodup_cons.mpr ⟨fun z => ?_, tieR_dif nd r h fun q hq => lt q (List.mem_cons_of_mem _ hq)⟩
    obtain ⟨u, hu, e⟩ := List.mem_map.mp z
    obtain ⟨s, hs, b⟩ := paired_mem r u hu
    exact n (tieR_inj nd (lt q List.mem_cons_self) (lt s (List.mem_cons_of_mem _ hs)) a b e.symm ▸ hs)
theorem tieR_in {ns : List Str} (nd : ns.Nodup) {ps : List (Nat × Nat)} {ts : List (Str × Str)} (r : TieR ns ps ts) (lt : ∀ q ∈ ps, q.1 < q.2) : ∀ t ∈ ts, t.1 ∈ ns ∧ t.2 ∈ ns ∧ t.1 ≠ t.2 := fun t ht => by
  obtain ⟨q, hq, x, y, hx, hy, e⟩ := paired_mem r t ht
  have ne : x ≠ y := fun z => by
    subst z
    have := idx_inj nd hx hy
    have := lt q hq
    omega
  rcases e with rfl | rfl
  · exact ⟨List.mem_of_getElem? hx, List.mem_of_getElem? hy, ne⟩
  · exact ⟨List.mem_of_getElem? hy, List.mem_of_getElem? hx, ne.symm⟩
/-- plan(source, n): a new tuple of names and ties -/
def spPlan : Sp := fun vs H Q _ => ∃ (p : Addr) (r m : Int) (n : Nat), vs = [.ref p, .int n] ∧ H p = some (.lst [.int r, .int m]) ∧ SrcOk r m ∧ 1 ≤ n ∧ n ≤ 12 ∧
  ∀ (r' m' : Int) (ns : List Str) (ts : List (Str × Str)) (t tn tt : Addr) (xs : List V) (H' : Hp), SrcOk r' m' → PlanOk n ns ts → (∀ b o, b ≠ p → H b = some o → H' b = some o) → H' p = some (.lst [.int r', .int m']) → H t = none →
    H' t = some (.tup [.ref tn, .ref tt]) → H' tn = some (.tup (ns.map V.str)) → H' tt = some (.tup xs) → TiesT H' xs ts → Q (.ref t) H'
section
variable {P : Program} {w : World} {K : PySem.W.Frag} {mg : Str → Option Value} {base : Heap}
abbrev sLawPlan : Stmt := top ix_law_plan
theorem scLawPlan : FnScope ["source", "most", "many", "names", "ties", "at", "to"] ["source", "most"] (defScope sLawPlan) := ⟨rfl, rfl, rfl, by decide +kernel, rfl, by decide +kernel, by decide +kernel⟩
theorem has_plan (T : Bn mg) (D : DFE K mg "_law_plan" sLawPlan ["source", "most"]) (h_law_draw : Has P w K mg base CX0 1 "_law_draw" ["source", "span"] spDraw) (h_law_mixed : Has P w K mg base CX0 2 "_law_mixed" ["source", "things"] (spMixed K)) (h_law_names : Has P w K mg base CX0 4 "_law_names" ["source", "many"] spNames) (h_law_pairs : Has P w K mg base CX0 2 "_law_pairs" ["source", "many", "kind"] spPairs) : Has P w K mg base CX0 5 "_law_plan" ["source", "most"] spPlan := by
  refine has_of D scLawPlan (fun vs H Q E h => ?_) (fun f cdv A outer s H vs Q E hr h => ?_)
  · obtain ⟨p, r, m, n, rfl, _⟩ := h; rfl
  · obtain ⟨p, r, m, n, rfl, hp, ok, n1, n2, k⟩ := h
    have nd := scLawPlan.nd
    refine ⟨_, (pss_cons (ps_sv 2 nd (pe_op op_add pe_int (pe_h h_law_draw hr (by decide) rfl (pa_cons (pv 0) (pa_cons (pv 1) pa_nil)))))
    (pss_cons (ps_par (i := 3) (j := 4) (by rfl) nd rfl rfl (by decide) rfl rfl (pa_cons (pe_h h_law_names hr (by decide) rfl (pa_cons (pv 0) (pa_cons (pv 2) pa_nil))) (pa_cons (pe_lst pa_nil) pa_nil)) (by rfl))
    (pss_cons (ps_for PassesOwn.never rfl (pi_list (pe_h h_law_pairs hr (by decide) rfl (pa_cons (pv 0) (pa_cons (pv 2) (pa_cons (pe_h h_law_draw hr (by decide) rfl (pa_cons (pv 0) (pa_cons pe_int pa_nil))) pa_nil))))) (pg_tup rfl (pgs_cons (pg_name (i := 5) nd rfl (by first | exact Or.inl rfl | exact Or.inr rfl)) (pgs_cons (pg_name (i := 6) nd rfl (by first | exact Or.inl rfl | exact Or.inr rfl)) pgs_nil))) (pss_one (ps_expr (pe_bm PySem.F.plainAttrs_list PySem.F.slot_list_append PySem.F.type_list_append mt_append (pv 4) (pa_cons (pe_ifExp (pt_cmpR op_eq (pe_h h_law_draw hr (by decide) rfl (pa_cons (pv 0) (pa_cons pe_int pa_nil))) pe_int (by first | exact nomark _ | rfl)) (pe_tup (pa_cons (pe_ix ix_list (pv 3) (pv 5) (fun _ _ => rfl)) (pa_cons (pe_ix ix_list (pv 3) (pv 6) (fun _ _ => rfl)) pa_nil))) (pe_tup (pa_cons (pe_ix ix_list (pv 3) (pv 6) (fun _ _ => rfl)) (pa_cons (pe_ix ix_list (pv 3) (pv 5) (fun _ _ => rfl)) pa_nil)))) pa_nil)))))
    (pss_one (ps_ret (pe_tup (pa_cons (pe_callTy call_tuple_of (by rfl) T.z_tuple (by decide +kernel) (pa_cons (pe_h h_law_mixed hr (by decide) rfl (pa_cons (pv 0) (pa_cons (pv 3) pa_nil))) pa_nil)) (pa_cons (pe_callTy call_tuple_of (by rfl) T.z_tuple (by decide +kernel) (pa_cons (pe_h h_law_mixed hr (by decide) rfl (pa_cons (pv 0) (pa_cons (pv 4) pa_nil))) pa_nil)) pa_nil)))))))), ?_⟩
    have lv := Lv.one hp
    wide_line
    intro r1 m1 j ok1 j0 j1
    obtain ⟨a, rfl⟩ := Int.eq_ofNat_of_zero_le j0
    wide_line with st lv 0 H1 lv1
    wide_line
    intro r2 m2 ns ln H2 ok2 nl nn no off2 src2 fln hln
    have nl : ns.length = 1 + a := nl
    have al : 1 + a ≤ n := by omega
    have lv2 := lv1.stn 0 rfl src2 off2 fln hln
    wide_line
    wide_line with al lv2 lt flt H3 lv3 s3
    wide_line
    intro r3 m3 kd ok3 kd0 kd1
    wide_line with st lv3 2 H4 lv4
    wide_line
    intro r5 m5 ps xs lp H5 ok5 po off5 src5 flp hlp pt
    have lv5 := lv4.stn 2 rfl src5 off5 flp hlp
    wide_line
    refine for_list (K := K) (a := lp) (xs := xs) (fun k σ H' => Hold (∃ (r m : Int) (ys : List V) (ts : List (Str × Str)) (u5 u6 : Option V), σ = [some (.ref p), some (.int n), some (.int ((1 + a : Nat) : Int)), some (.ref ln), some (.ref lt), u5, u6] ∧
      Lv H [p] H' [(lp, .lst xs), (lt, .lst ys), (ln, .lst (ns.map V.str)), (p, .lst [.int r, .int m])] ∧ SrcOk r m ∧ PairsT H' xs ps ∧ TiesT H' ys ts ∧ TieR ns (ps.take k) ts))
      ⟨r5, m5, [], [], none, none, rfl, lv5, ok5, pt, .nil, .nil⟩ (fun k σ H' _ ⟨_, _, _, _, _, _, _, z, _⟩ => SqL.of (z.get 0 rfl)) ?_ ?_
    · rintro k0 y σ H6 hy ⟨r6, m6, ys, ts, u5, u6, rfl, lv6, ok6, pt6, tt6, tr6⟩
      obtain ⟨q, hq, b, rfl, hb⟩ := paired_at pt6 hy
      have pq := po.2 q (List.mem_of_getElem? hq)
      have hb2 : SqT K H6 b [.int (q.1 : Nat), .int (q.2 : Nat)] := SqT.of hb
      have i1 : ns[q.1]? = some (ns[q.1]'(by omega)) := List.getElem?_eq_getElem _
      have i2 : ns[q.2]? = some (ns[q.2]'(by omega)) := List.getElem?_eq_getElem _
      generalize ns[q.1]'(by omega) = x1 at i1
      generalize ns[q.2]'(by omega) = x2 at i2
      have a1 : atI (ns.map V.str) ((q.1 : Nat) : Int) = some (V.str x1) := atI_nat (by rw [List.getElem?_map, i1]; rfl)
      have a2 : atI (ns.map V.str) ((q.2 : Nat) : Int) = some (V.str x2) := atI_nat (by rw [List.getElem?_map, i2]; rfl)
      have tk : ps.take (k0 + 1) = ps.take k0 ++ [q] := by rw [List.take_succ, hq]; rfl
      have tl6 : ts.length ≤ 66 := by
        have h1 := paired_len tr6
        have h2 := few_pairs (Nat.le_trans (by omega : 1 + a ≤ 12) (Nat.le_refl _)) po
        rw [List.length_take] at h1
        omega
      have yl6 := paired_len tt6
      wide_line
      intro r7 m7 z ok7 z0 z1
      wide_line with stk lv6 3 H7 lv7 kt7
      wide_line
      have fin : ∀ (tq : Str × Str) (hq : tq = (x1, x2) ∨ tq = (x2, x1)) (b2 : Addr) (H8 : Hp), Lv H [p] H8 [(b2, .tup [.str tq.1, .str tq.2]), (lp, .lst xs), (lt, .lst ys), (ln, .lst (ns.map V.str)), (p, .lst [.int r7, .int m7])] → Same H7 H8 →
          ∀ H9, upd H8 lt (.lst (ys ++ [.ref b2])) = H9 → Hold (∃ (r m : Int) (ys : List V) (ts : List (Str × Str)) (u5 u6 : Option V), [some (.ref p), some (.int n), some (.int ((1 + a : Nat) : Int)), some (.ref ln), some (.ref lt), some (.int (q.1 : Nat)), some (.int (q.2 : Nat))] = [some (.ref p), some (.int n), some (.int ((1 + a : Nat) : Int)), some (.ref ln), some (.ref lt), u5, u6] ∧
      Lv H [p] H9 [(lp, .lst xs), (lt, .lst ys), (ln, .lst (ns.map V.str)), (p, .lst [.int r, .int m])] ∧ SrcOk r m ∧ PairsT H9 xs ps ∧ TiesT H9 ys ts ∧ TieR ns (ps.take (k0 + 1)) ts) := by
        intro tq hq b2 H8 lv8 s8 H9 e9
        have lv9 := Lv.stE lv8 2 rfl e9
        have kt9 := KeepT.st (lv8.get 2 rfl) e9
        have kt := kt7.trans ((KeepT.same s8).trans kt9)
        refine ⟨r7, m7, ys ++ [.ref b2], ts ++ [tq], _, _, rfl, lv9.picks [1, 2, 3, 4] rfl (by decide) (by simp), ok7, pt6.keep kt, paired_app (tt6.keep kt) (.cons ⟨b2, rfl, kt9 _ _ (lv8.get 0 rfl)⟩ .nil), ?_⟩
        rw [tk]
        exact paired_app tr6 (.cons ⟨x1, x2, i1, i2, hq⟩ .nil)
      refine ite2 (fun c => ?_) (fun c => ?_)
      · wide_line
        wide_line with al lv7 b2 fb2 H8 lv8 s8
        wide_line
        refine ⟨by rw [sizeLine_eq]; omega, ?_⟩
        exact fin (x1, x2) (.inl rfl) b2 H8 lv8 s8 _ rfl
      · wide_line
        wide_line with al lv7 b2 fb2 H8 lv8 s8
        wide_line
        refine ⟨by rw [sizeLine_eq]; omega, ?_⟩
        exact fin (x2, x1) (.inr rfl) b2 H8 lv8 s8 _ rfl
    · rintro σ H6 ⟨r6, m6, ys, ts, u5, u6, rfl, lv6, ok6, pt6, tt6, tr6⟩
      rw [paired_len pt6, List.take_length] at tr6
      have pk : PlanOk n ns ts := ⟨by omega, by omega, nn, no, tieR_in nn tr6 fun q hq => (po.2 q hq).1, tieR_dif nn tr6 po.1 fun q hq => (po.2 q hq).1, by
        rw [← paired_len tr6]
        exact Nat.le_trans (few_pairs (by omega : 1 + a ≤ 12) po) (by decide)⟩
      have l12 := pk.most
      have l66 := pk.few
      have yl6 := paired_len tt6
      wide_line
      refine ⟨by rw [List.length_map]; omega, ?_⟩
      intro r7 m7 zs l7 H7 ok7 pm7 off7 src7 fl7 hl7
      obtain ⟨ns', pn, rfl⟩ := strs_perm pm7
      have lv7 := lv6.stn 3 rfl src7 off7 fl7 hl7
      have tt7 := tt6.keep (.off (lv6.get 3 rfl) (fun _ z => nomatch z) off7)
      wide_line
      refine .inl ⟨SqL.of (lv7.get 0 rfl), ?_⟩
      wide_line with al lv7 tn ftn H8 lv8 s8
      wide_line
      intro r9 m9 zs9 l9 H9 ok9 pm9 off9 src9 fl9 hl9
      have tt9 := (tt7.keep (.same s8)).keep (.off (lv8.get 5 rfl) (fun _ z => nomatch z) off9)
      obtain ⟨ts', pt', tt'⟩ := paired_perm pm9 tt9
      have lv9 := lv8.stn 5 rfl src9 off9 fl9 hl9
      wide_line
      refine .inl ⟨SqL.of (lv9.get 0 rfl), ?_⟩
      wide_line with al lv9 tt0 ftt H10 lv10 s10
      wide_line
      wide_line with al lv10 t0 ft0 H11 lv11 s11
      exact k r9 m9 ns' ts' t0 tn tt0 zs9 H11 ok9 (pk.perm pn pt') lv11.off (lv11.get 8 rfl) (lv10.free ft0) (lv11.get 0 rfl) (lv11.get 3 rfl) (lv11.get 1 rfl) (TiesT.keep (.same (s10.trans s11)) tt')
end
end Pw

set_option Elab.async false
set_option linter.all false
set_option maxRecDepth 100000
set_option maxHeartbeats 4000000
namespace Pw
open PySem PySem.Spec PyProof.Rows L2 Ct
local macro_rules | `(tactic| wide_line) => `(tactic| repeat ((fail_if_success (with_reducible refine at_while ?_)); (fail_if_success (with_reducible refine at_while1 ?_)); (conv => whnf); first | ((with_reducible refine And.intro ?_ ?_); focus (first | (first | ((with_reducible show (_ : Nat) ≤ _); first | exact sz0 | exact sz1 | exact sz2 | exact sz3 | exact sz4 | exact sz5 | exact sz6 | exact sz7 | exact sz8 | exact sz10 | exact sz11 | exact sz12 | exact sz14 | omega | decide | (simp only [List.length_cons, List.length_nil]; omega)) | ((with_reducible show (_ : Int) ≤ _); first | omega | decide) | ((with_reducible show (_ : Int) < _); first | omega | decide) | ((with_reducible show (_ : Nat) < _); omega)) | ((fail_if_success (with_reducible show (_ : Nat) ≤ _)); (fail_if_success (with_reducible show (_ : Int) ≤ _)); (fail_if_success (with_reducible show (_ : Int) < _)); (fail_if_success (with_reducible show (_ : Nat) < _)); first | exact kv_str _ | exact kv_int _ | rfl | assumption | exact flat_strs _ | exact Lv.get (by assumption) 0 rfl | exact Lv.get (by assumption) 1 rfl | exact Lv.get (by assumption) 2 rfl | exact Lv.get (by assumption) 3 rfl | exact Lv.get (by assumption) 4 rfl | exact Lv.get (by assumption) 5 rfl | exact Lv.get (by assumption) 6 rfl | exact SqL.of (Lv.get (by assumption) 0 rfl) | exact SqL.of (Lv.get (by assumption) 1 rfl) | exact SqL.of (Lv.get (by assumption) 2 rfl) | exact SqL.of (Lv.get (by assumption) 3 rfl) | exact SqL.of (Lv.get (by assumption) 4 rfl) | exact SqL.of (Lv.get (by assumption) 5 rfl) | exact Or.inl (SqL.of (Lv.get (by assumption) 0 rfl)) | exact Or.inl (SqL.of (Lv.get (by assumption) 1 rfl)) | exact Or.inl (SqL.of (Lv.get (by assumption) 2 rfl)) | exact Or.inl (SqL.of (Lv.get (by assumption) 3 rfl)) | exact Or.inl (SqL.of (Lv.get (by assumption) 4 rfl)) | exact Or.inl (SqL.of (Lv.get (by assumption) 5 rfl)) | exact ⟨_, SqL.of (Lv.get (by assumption) 0 rfl)⟩ | exact ⟨_, SqL.of (Lv.get (by assumption) 1 rfl)⟩ | exact ⟨_, SqL.of (Lv.get (by assumption) 2 rfl)⟩ | exact ⟨_, SqL.of (Lv.get (by assumption) 3 rfl)⟩ | exact ⟨_, SqL.of (Lv.get (by assumption) 4 rfl)⟩ | exact ⟨_, SqL.of (Lv.get (by assumption) 5 rfl)⟩ | exact Or.inl ⟨_, SqL.of (Lv.get (by assumption) 0 rfl), rfl⟩ | exact Or.inl ⟨_, SqL.of (Lv.get (by assumption) 1 rfl), rfl⟩ | exact Or.inl ⟨_, SqL.of (Lv.get (by assumption) 2 rfl), rfl⟩ | exact Or.inl ⟨_, SqL.of (Lv.get (by assumption) 3 rfl), rfl⟩ | exact Or.inl ⟨_, SqL.of (Lv.get (by assumption) 4 rfl), rfl⟩ | exact Or.inl ⟨_, SqL.of (Lv.get (by assumption) 5 rfl), rfl⟩ | exact Or.inl ⟨rfl, _, SqL.of (Lv.get (by assumption) 0 rfl)⟩ | exact Or.inl ⟨rfl, _, SqL.of (Lv.get (by assumption) 1 rfl)⟩ | exact Or.inl ⟨rfl, _, SqL.of (Lv.get (by assumption) 2 rfl)⟩ | exact Or.inl ⟨rfl, _, SqL.of (Lv.get (by assumption) 3 rfl)⟩ | exact Or.inl ⟨rfl, _, SqL.of (Lv.get (by assumption) 4 rfl)⟩ | exact Or.inl ⟨rfl, _, SqL.of (Lv.get (by assumption) 5 rfl)⟩ | exact Or.inr (SqT.of (Lv.get (by assumption) 0 rfl)) | exact Or.inr (SqT.of (Lv.get (by assumption) 1 rfl)) | exact Or.inr (SqT.of (Lv.get (by assumption) 2 rfl)) | exact Or.inr (SqT.of (Lv.get (by assumption) 3 rfl)) | exact SqT.of (Lv.get (by assumption) 0 rfl) | exact SqT.of (Lv.get (by assumption) 1 rfl) | exact SqT.of (Lv.get (by assumption) 2 rfl) | exact dgetN (Lv.get (by assumption) 0 rfl) (by assumption) | exact dgetN (Lv.get (by assumption) 1 rfl) (by assumption) | exact dgetN (Lv.get (by assumption) 2 rfl) (by assumption) | exact dgetN (Lv.get (by assumption) 3 rfl) (by assumption) | exact dgetN (Lv.get (by assumption) 4 rfl) (by assumption) | decide | ((with_reducible show _ ∧ _); omega)))) | ((fail_if_success (with_reducible apply @Exists.intro (Nat → _))); (with_reducible apply Exists.intro))))
local macro_rules
  | `(tactic| wide_line with al $lv:ident $l:ident $nl:ident $H:ident $lv1:ident $s1:ident) => `(tactic| (intro $l:ident $nl:ident; generalize he : upd _ _ _ = $H:ident; have $lv1:ident := Lv.alE $lv $nl he; have $s1:ident := sameE $nl he; clear he; (try dsimp only at $lv1:ident)))
  | `(tactic| wide_line with alx $lv:ident $nl:ident $H:ident $lv1:ident $s1:ident) => `(tactic| (generalize he : upd _ _ _ = $H:ident; have $lv1:ident := Lv.alE $lv $nl he; have $s1:ident := sameE $nl he; clear he; (try dsimp only at $lv1:ident)))
  | `(tactic| wide_line with sts $lv:ident $i:num $H:ident $lv1:ident $s0:ident $np:ident $s1:ident) => `(tactic| (generalize he : upd _ _ _ = $H:ident; have $lv1:ident := Lv.stE $lv $i rfl he; have $s1:ident := sameN $s0 $np he; clear he; (try dsimp only at $lv1:ident)))
  | `(tactic| wide_line with stx $lv:ident $H:ident $lv1:ident $d1:ident) => `(tactic| (generalize he : upd _ _ _ = $H:ident; have $lv1:ident := Lv.stE $lv 0 rfl he; have $d1:ident := SameD.storeE (Lv.get $lv 0 rfl) he; clear he; (try dsimp only at $lv1:ident)))
  | `(tactic| wide_line with st $lv:ident $i:num $H:ident $lv1:ident) => `(tactic| (generalize he : upd _ _ _ = $H:ident; have $lv1:ident := Lv.stE $lv $i rfl he; clear he; (try dsimp only at $lv1:ident)))
  | `(tactic| wide_line with stk $lv:ident $i:num $H:ident $lv1:ident $k1:ident) => `(tactic| (generalize he : upd _ _ _ = $H:ident; have $lv1:ident := Lv.stE $lv $i rfl he; have $k1:ident := KeepT.st (Lv.get $lv $i rfl) he; clear he; (try dsimp only at $lv1:ident)))
/-! a web made of what is right -/
def tieDat (t : Str × Str) : PyData := .tuple [.str t.1, .str t.2]
theorem strsD_map : ∀ ns : List Str, strsD (ns.map PyData.str) = ns
  | [] => rfl
  | n :: ns => by rw [List.map_cons, strsD, strsD_map ns]
theorem places_good {d : PyData} {n : Nat} {ns : List Str} {ts : List (Str × Str)} (h : PlanOk n ns ts) (hn : n ≤ 12) (e : seqD d = some (ns.map PyData.str)) : placesOf d = some ns := by
  unfold placesOf
  rw [e]
  dsimp only
  rw [strsD_map, List.length_map, if_pos ⟨⟨h.one, Nat.le_trans h.most hn⟩, by rw [List.all_map, List.all_eq_true]; exact h.nm, h.nd⟩]
theorem tieOf_good {ns : List Str} {t : Str × Str} (h : t.1 ∈ ns ∧ t.2 ∈ ns ∧ t.1 ≠ t.2) : tieOf ns (tieDat t) = some t := by
  show (if t.1 ∈ ns ∧ t.2 ∈ ns ∧ t.1 ≠ t.2 then some (t.1, t.2) else none) = _
  rw [if_pos h]
theorem tieBad_good {ns : List Str} : ∀ {ts qs : List (Str × Str)} {i : Nat}, (∀ t ∈ ts, t.1 ∈ ns ∧ t.2 ∈ ns ∧ t.1 ≠ t.2) → (ts.map pairP).Nodup → (∀ t ∈ ts, pairP t ∉ qs) → tieBad ns qs i (ts.map tieDat) = none
  | [], _, _, _, _, _ => rfl
  | t :: ts, qs, i, h, d, o => by
    obtain ⟨n, d⟩ := List.nodup_cons.mp d
    rw [List.map_cons, tieBad, tieOf_good (h t List.mem_cons_self)]
    dsimp only
    rw [if_neg (o t List.mem_cons_self)]
    refine tieBad_good (fun u hu => h u (List.mem_cons_of_mem _ hu)) d fun u hu z => ?_
    rcases List.mem_cons.mp z with z | z
    · exact n (List.mem_map.mpr ⟨u, hu, z⟩)
    · exact o u (List.mem_cons_of_mem _ hu) z
theorem tiesD_good {ns : List Str} : ∀ {ts : List (Str × Str)}, (∀ t ∈ ts, t.1 ∈ ns ∧ t.2 ∈ ns ∧ t.1 ≠ t.2) → tiesD ns (ts.map tieDat) = ts
  | [], _ => rfl
  | t :: ts, h => by
    unfold tiesD
    rw [List.map_cons, List.filterMap_cons, tieOf_good (h t List.mem_cons_self)]
    exact congrArg _ (tiesD_good fun u hu => h u (List.mem_cons_of_mem _ hu))
section
variable {K : PySem.W.Frag} {H : Hp}
theorem dq_strs : ∀ ns : List Str, DqAll K H (ns.map V.str) (ns.map PyData.str)
  | [] => .nil
  | n :: ns => .cons (.str n) (dq_strs ns)
theorem dq_ties : ∀ {xs : List V} {ts : List (Str × Str)}, TiesAt K H xs ts → DqAll K H xs (ts.map tieDat)
  | _, _, .nil => .nil
  | _, _, .cons ⟨a, e, h⟩ t => .cons (by subst e; exact .tup h (.cons (.str _) (.cons (.str _) .nil))) (dq_ties t)
/-- a list or a tuple of what is known item by item -/
theorem dq_seq {a : Addr} {xs : List V} {ds : List PyData} (h : SqS K H a xs) (e : DqAll K H xs ds) : ∃ d, seqD d = some ds ∧ Dq K H (.ref a) d := by
  rcases h with h | h
  · exact ⟨.list ds, rfl, .lst h e⟩
  · exact ⟨.tuple ds, rfl, .tup h e⟩
end
/-- the class Web: what a new one promises -/
structure HasW (P : Program) (w : World) (K : PySem.W.Frag) (mg : Str → Option Value) (base : Heap) (k : Nat) (C CP CS CT : Addr) : Prop where
  g : mg "Web" = some (.ref C)
  ex : ∃ (f T0 : Addr) (fd : FuncData) (ds : List Value) (o : Obj) (n : Nat), Mk K C f ∧ FnOk P w K mg base (L2.CX P w) k f fd ["self", "places", "ties"] (spInit K C CP CS CT) ∧ Binds K fd ["self", "places", "ties"] [] ∧ Binds K fd ["self", "places", "ties"] ds ∧ Vals [.ref T0] ds ∧
    K.lookup T0 = some o ∧ o.cls = .type "tuple" ∧ o.data = .seq #[] n
/-- Web(p, t) of what is right -/
def tWeb (K : PySem.W.Frag) (C : Addr) (t : TA) : TE := fun σ H Q => t σ H fun vs H1 => ∃ (a b : Addr) (n : Nat) (ns : List Str) (xs : List V) (ts : List (Str × Str)), vs = [.ref a, .ref b] ∧ SqS K H1 a (ns.map V.str) ∧ SqS K H1 b xs ∧ TiesAt K H1 xs ts ∧ PlanOk n ns ts ∧ n ≤ 12 ∧
  ∀ x H', Same H1 H' → H1 x = none → WebAt K C (noLst H1 H') x ns ts → Q (.ref x) H'
theorem noLst_le {H1 H2 H' : Hp} (s : Same H1 H2) : Same (noLst H2 H') (noLst H1 H') := fun b o e => by
  refine noLst_at (fun xs z => ?_) (noLst_sub b o e)
  unfold noLst at e
  rw [s b _ z] at e
  cases e
theorem init_good {K : PySem.W.Frag} {C CP CS CT a b x dx : Addr} {n : Nat} {H1 : Hp} {ns : List Str} {xs : List V} {ts : List (Str × Str)} {Q : VK} {E : XK} (ha : SqS K H1 a (ns.map V.str)) (hb : SqS K H1 b xs) (ht : TiesAt K H1 xs ts) (pk : PlanOk n ns ts) (hn : n ≤ 12) (nx : H1 x = none) (ndx : H1 dx = none) (ne : dx ≠ x)
    (k : ∀ H', Same H1 H' → H1 x = none → WebAt K C (noLst H1 H') x ns ts → Q .non H') : spInit K C CP CS CT [.ref x, .ref a, .ref b] (upd (upd H1 dx (.own x)) x (.ins C dx [])) Q E := by
  have s1 : Same H1 (upd (upd H1 dx (.own x)) x (.ins C dx [])) := (same_new ndx).trans (same_new (by rw [upd_ne (fun z => ne z.symm)]; exact nx))
  have hx : upd (upd H1 dx (.own x)) x (.ins C dx []) x = some (.ins C dx []) := upd_same
  generalize upd (upd H1 dx (.own x)) x (.ins C dx []) = H2 at s1 hx ⊢
  obtain ⟨d, ed, hd⟩ := dq_seq (ha.same s1) (dq_strs ns)
  obtain ⟨td, etd, htd⟩ := dq_seq (hb.same s1) (dq_ties (ht.same s1))
  have pg := places_good pk hn ed
  refine ⟨x, dx, .ref a, .ref b, d, td, rfl, hx, hd, fun ds e => ?_, htd, fun z => (by rw [pg] at z; cases z), fun ns' e => ?_⟩
  · rw [ed] at e
    cases e
    refine ⟨by rw [List.length_map]; have := pk.most; omega, fun y hy => ?_⟩
    obtain ⟨z, hz, e⟩ := List.mem_map.mp hy
    cases e
    have := pk.nm _ hz
    unfold okName at this
    simp only [Bool.and_eq_true, decide_eq_true_eq] at this
    rw [sizeLine_eq]
    omega
  · rw [pg] at e
    cases e
    refine ⟨fun z => (by rw [etd] at z; cases z), fun tds e => ?_⟩
    rw [etd] at e
    cases e
    have tb := tieBad_good (i := 0) (qs := []) pk.tie pk.dif (fun _ _ z => nomatch z)
    refine ⟨fun e he => ?_, by rw [List.length_map]; have := pk.few; omega, fun i z => (by rw [tb] at z; cases z), fun _ H' off hw => ?_⟩
    · obtain ⟨t, _, rfl⟩ := List.mem_map.mp he
      exact ⟨rfl, rfl⟩
    · rw [tiesD_good pk.tie] at hw
      exact k H' (fun c o ec => off c o (ne_of_none ec nx) (s1 c o ec)) nx (hw.same (noLst_le s1))
theorem pe_web {X : Cx} {C CP CS CT : Addr} {j k : Nat} {e : Expr} {es : List Expr} {t : TA} {p pos : Pos} (h : HasW X.prog X.w X.K X.mg X.base j C CP CS CT) (hr : Room k X.A) (l : j + 1 ≤ k) (hg : Gl X "Web") (ha : PA X (e :: es) t)
    (he : starEach (e :: es) X.env = (false, eval e X.env) :: starEach es X.env := by rfl) (hpl : (backTo pos (starEach es X.env)).any (·.1) = false := by rfl) : PE X (.Call (.Name "Web" p) (e :: es) [] pos) (tWeb X.K C t) := by
  obtain ⟨g, f, T0, fd, ds, o, n0, M, F, b, _⟩ := h
  refine pe_makeG (E := fun _ => E0) M F (hr.mono l) hg g b .nil (fun vs H1 Q σ x dx q nx ndx ne => ?_) (fun pins σ H s e s' I z => passL pins σ H s e s' I z) ha (by decide) he hpl
  obtain ⟨a, b, n, ns, xs, ts, rfl, ha, hb, ht, pk, hn, k⟩ := q
  exact init_good ha hb ht pk hn nx ndx ne fun H' s' nx' hw => ⟨rfl, k x H' s' nx' hw⟩
end Pw

set_option Elab.async false
set_option linter.all false
/-! Own kit Zf: an f-string under a name (for what stands within a comprehension). -/
namespace Ct
open PySem PySem.Spec PyProof.Rows L2
def tJd (ts : List TE) : TE := fun σ H Q => tJs ts Str.empty σ H fun out H1 => Q (.str out) H1
theorem pe_jd {X : Cx} {v1 v2 : Expr} {rest : List Expr} {ts : List TE} {pos : Pos} (h : PJ X (v1 :: v2 :: rest) ts) : PE X (.JoinedStr (v1 :: v2 :: rest) pos) (tJd ts) := pe_joined h
end Ct

set_option Elab.async false
set_option linter.all false
set_option maxRecDepth 100000
set_option maxHeartbeats 4000000
namespace Pw
open PySem PySem.Spec PyProof.Rows L2 Ct
local macro_rules | `(tactic| wide_line) => `(tactic| repeat ((fail_if_success (with_reducible refine at_while ?_)); (fail_if_success (with_reducible refine at_while1 ?_)); (conv => whnf); first | ((with_reducible refine And.intro ?_ ?_); focus (first | (first | ((with_reducible show (_ : Nat) ≤ _); first | exact sz0 | exact sz1 | exact sz2 | exact sz3 | exact sz4 | exact sz5 | exact sz6 | exact sz7 | exact sz8 | exact sz10 | exact sz11 | exact sz12 | exact sz14 | omega | decide | (simp only [List.length_cons, List.length_nil]; omega)) | ((with_reducible show (_ : Int) ≤ _); first | omega | decide) | ((with_reducible show (_ : Int) < _); first | omega | decide) | ((with_reducible show (_ : Nat) < _); omega)) | ((fail_if_success (with_reducible show (_ : Nat) ≤ _)); (fail_if_success (with_reducible show (_ : Int) ≤ _)); (fail_if_success (with_reducible show (_ : Int) < _)); (fail_if_success (with_reducible show (_ : Nat) < _)); first | exact kv_str _ | exact kv_int _ | rfl | assumption | exact flat_strs _ | exact Lv.get (by assumption) 0 rfl | exact Lv.get (by assumption) 1 rfl | exact Lv.get (by assumption) 2 rfl | exact Lv.get (by assumption) 3 rfl | exact Lv.get (by assumption) 4 rfl | exact Lv.get (by assumption) 5 rfl | exact Lv.get (by assumption) 6 rfl | exact SqL.of (Lv.get (by assumption) 0 rfl) | exact SqL.of (Lv.get (by assumption) 1 rfl) | exact SqL.of (Lv.get (by assumption) 2 rfl) | exact SqL.of (Lv.get (by assumption) 3 rfl) | exact SqL.of (Lv.get (by assumption) 4 rfl) | exact SqL.of (Lv.get (by assumption) 5 rfl) | exact Or.inl (SqL.of (Lv.get (by assumption) 0 rfl)) | exact Or.inl (SqL.of (Lv.get (by assumption) 1 rfl)) | exact Or.inl (SqL.of (Lv.get (by assumption) 2 rfl)) | exact Or.inl (SqL.of (Lv.get (by assumption) 3 rfl)) | exact Or.inl (SqL.of (Lv.get (by assumption) 4 rfl)) | exact Or.inl (SqL.of (Lv.get (by assumption) 5 rfl)) | exact ⟨_, SqL.of (Lv.get (by assumption) 0 rfl)⟩ | exact ⟨_, SqL.of (Lv.get (by assumption) 1 rfl)⟩ | exact ⟨_, SqL.of (Lv.get (by assumption) 2 rfl)⟩ | exact ⟨_, SqL.of (Lv.get (by assumption) 3 rfl)⟩ | exact ⟨_, SqL.of (Lv.get (by assumption) 4 rfl)⟩ | exact ⟨_, SqL.of (Lv.get (by assumption) 5 rfl)⟩ | exact Or.inl ⟨_, SqL.of (Lv.get (by assumption) 0 rfl), rfl⟩ | exact Or.inl ⟨_, SqL.of (Lv.get (by assumption) 1 rfl), rfl⟩ | exact Or.inl ⟨_, SqL.of (Lv.get (by assumption) 2 rfl), rfl⟩ | exact Or.inl ⟨_, SqL.of (Lv.get (by assumption) 3 rfl), rfl⟩ | exact Or.inl ⟨_, SqL.of (Lv.get (by assumption) 4 rfl), rfl⟩ | exact Or.inl ⟨_, SqL.of (Lv.get (by assumption) 5 rfl), rfl⟩ | exact Or.inl ⟨rfl, _, SqL.of (Lv.get (by assumption) 0 rfl)⟩ | exact Or.inl ⟨rfl, _, SqL.of (Lv.get (by assumption) 1 rfl)⟩ | exact Or.inl ⟨rfl, _, SqL.of (Lv.get (by assumption) 2 rfl)⟩ | exact Or.inl ⟨rfl, _, SqL.of (Lv.get (by assumption) 3 rfl)⟩ | exact Or.inl ⟨rfl, _, SqL.of (Lv.get (by assumption) 4 rfl)⟩ | exact Or.inl ⟨rfl, _, SqL.of (Lv.get (by assumption) 5 rfl)⟩ | exact Or.inr (SqT.of (Lv.get (by assumption) 0 rfl)) | exact Or.inr (SqT.of (Lv.get (by assumption) 1 rfl)) | exact Or.inr (SqT.of (Lv.get (by assumption) 2 rfl)) | exact Or.inr (SqT.of (Lv.get (by assumption) 3 rfl)) | exact SqT.of (Lv.get (by assumption) 0 rfl) | exact SqT.of (Lv.get (by assumption) 1 rfl) | exact SqT.of (Lv.get (by assumption) 2 rfl) | exact dgetN (Lv.get (by assumption) 0 rfl) (by assumption) | exact dgetN (Lv.get (by assumption) 1 rfl) (by assumption) | exact dgetN (Lv.get (by assumption) 2 rfl) (by assumption) | exact dgetN (Lv.get (by assumption) 3 rfl) (by assumption) | exact dgetN (Lv.get (by assumption) 4 rfl) (by assumption) | exact Or.inl (by assumption) | exact Or.inr (by assumption) | decide | ((with_reducible show _ ∧ _); omega)))) | ((fail_if_success (with_reducible apply @Exists.intro (Nat → _))); (with_reducible apply Exists.intro))))
local macro_rules
  | `(tactic| wide_line with al $lv:ident $l:ident $nl:ident $H:ident $lv1:ident $s1:ident) => `(tactic| (intro $l:ident $nl:ident; generalize he : upd _ _ _ = $H:ident; have $lv1:ident := Lv.alE $lv $nl he; have $s1:ident := sameE $nl he; clear he; (try dsimp only at $lv1:ident)))
  | `(tactic| wide_line with alx $lv:ident $nl:ident $H:ident $lv1:ident $s1:ident) => `(tactic| (generalize he : upd _ _ _ = $H:ident; have $lv1:ident := Lv.alE $lv $nl he; have $s1:ident := sameE $nl he; clear he; (try dsimp only at $lv1:ident)))
  | `(tactic| wide_line with sts $lv:ident $i:num $H:ident $lv1:ident $s0:ident $np:ident $s1:ident) => `(tactic| (generalize he : upd _ _ _ = $H:ident; have $lv1:ident := Lv.stE $lv $i rfl he; have $s1:ident := sameN $s0 $np he; clear he; (try dsimp only at $lv1:ident)))
  | `(tactic| wide_line with stx $lv:ident $H:ident $lv1:ident $d1:ident) => `(tactic| (generalize he : upd _ _ _ = $H:ident; have $lv1:ident := Lv.stE $lv 0 rfl he; have $d1:ident := SameD.storeE (Lv.get $lv 0 rfl) he; clear he; (try dsimp only at $lv1:ident)))
  | `(tactic| wide_line with st $lv:ident $i:num $H:ident $lv1:ident) => `(tactic| (generalize he : upd _ _ _ = $H:ident; have $lv1:ident := Lv.stE $lv $i rfl he; clear he; (try dsimp only at $lv1:ident)))
  | `(tactic| wide_line with stk $lv:ident $i:num $H:ident $lv1:ident $k1:ident) => `(tactic| (generalize he : upd _ _ _ = $H:ident; have $lv1:ident := Lv.stE $lv $i rfl he; have $k1:ident := KeepT.st (Lv.get $lv $i rfl) he; clear he; (try dsimp only at $lv1:ident)))
theorem str_ext' {x y : Str} (h : x.cps.toList = y.cps.toList) : x = y := by
  obtain ⟨⟨a⟩⟩ := x
  obtain ⟨⟨b⟩⟩ := y
  exact congrArg (fun l => (⟨⟨l⟩⟩ : Str)) h
theorem same_lines {K : PySem.W.Frag} {C : Addr} {H H' : Hp} {x : Addr} {ns : List Str} {ts : List (Str × Str)} (s : Same H H') (h : WebAt K C H x ns ts) : WebAt K C H' x ns ts := WebAt.same s h
theorem name_len8 {x : Str} (h : okName x = true) : x.length ≤ 8 := by
  unfold okName at h
  simp only [Bool.and_eq_true, decide_eq_true_eq] at h
  omega
theorem txt_join (a : Str) (l : List Str) : Txt.join a l = Str.join a l := eq_of_beq (join_plain_closes a l)
theorem lineP_eq (q : Str) : (Str.empty ++ ("place " : Str)) ++ q = lineP q := by
  unfold lineP
  show _ = (("place" : Str) ++ SP) ++ q
  rfl
theorem lineT_eq (a b : Str) : (((Str.empty ++ ("tie " : Str)) ++ a) ++ (" " : Str)) ++ b = lineT (a, b) := by
  unfold lineT
  show _ = (("tie" : Str) ++ SP) ++ ((a ++ SP) ++ b)
  rw [show Str.empty ++ ("tie " : Str) = ("tie" : Str) ++ SP from rfl, Str.append_assoc (("tie" : Str) ++ SP) a, Str.append_assoc (("tie" : Str) ++ SP)]
theorem sum_le {m : Nat} : ∀ {l : List Str}, (∀ z ∈ l, z.length ≤ m) → (l.map (·.length)).sum ≤ l.length * m
  | [], _ => Nat.zero_le _
  | x :: l, h => by
    have := sum_le fun z hz => h z (List.mem_cons_of_mem _ hz)
    have := h x List.mem_cons_self
    rw [List.map_cons, List.sum_cons, List.length_cons, Nat.succ_mul]
    omega
/-- web_text(web) -/
def spWebText (K : PySem.W.Frag) (C : Addr) : Sp := fun vs H Q _ => ∃ (x : Addr) (n : Nat) (ns : List Str) (ts : List (Str × Str)), vs = [.ref x] ∧ WebAt K C H x ns ts ∧ PlanOk n ns ts ∧ n ≤ 12 ∧ ∀ H', Same H H' → Q (.str (textOf ns ts)) H'
section
variable {P : Program} {w : World} {K : PySem.W.Frag} {mg : Str → Option Value} {base : Heap} {C : Addr}
abbrev sWebText : Stmt := top ix_web_text
theorem scWebText : FnScope ["web", "lines", "place", "one", "other"] ["web"] (defScope sWebText) := ⟨rfl, rfl, rfl, by decide +kernel, rfl, by decide +kernel, by decide +kernel⟩
theorem has_web_text (T : Bn mg) (X : WC K C) (D : DFE K mg "web_text" sWebText ["web"]) (hP_places : HasP P w K mg base 1 C "places" (getSp C "_places")) (hP_ties : HasP P w K mg base 1 C "ties" (getSp C "_ties")) : Has P w K mg base CX0 3 "web_text" ["web"] (spWebText K C) := by
  refine has_of D scWebText (fun vs H Q E h => ?_) (fun f cdv A outer s H vs Q E hr h => ?_)
  · obtain ⟨x, n, ns, ts, rfl, _⟩ := h; rfl
  · obtain ⟨x, n, ns, ts, rfl, hw, pk, hn, k⟩ := h
    have nd := scWebText.nd
    refine ⟨_, (pss_cons (ps_sv 1 nd (pe_op op_cat (pe_lc (own := [("place", 2)]) (g := gName 2) (tt := tYes) rfl nd (pi_sq (pe_hP hP_places X.cls hr (by decide) (pv 0))) (blkOk_by (own := [("place", 2)]) (N := ["web", "lines", "place", "one", "other"]) (sc := defScope sWebText) (by decide +kernel)) (fun _ _ _ _ _ => (pg_name (i := 2) nd rfl (by first | exact Or.inl rfl | exact Or.inr rfl))) (fun _ _ _ _ _ => pts_nil) (fun _ _ _ _ _ => (pe_jd (.cons pe_str (.cons (pe_fmt (pv 2)) .nil))))) (pe_lc (own := [("one", 3), ("other", 4)]) (g := _) (tt := tYes) rfl nd (pi_sq (pe_hP hP_ties X.cls hr (by decide) (pv 0))) (blkOk_by (own := [("one", 3), ("other", 4)]) (N := ["web", "lines", "place", "one", "other"]) (sc := defScope sWebText) (by decide +kernel)) (fun _ _ _ _ _ => (pg_tupk (K := K) (n := 2) rfl rfl (pgs_cons (pg_name (i := 3) nd rfl (by first | exact Or.inl rfl | exact Or.inr rfl)) (pgs_cons (pg_name (i := 4) nd rfl (by first | exact Or.inl rfl | exact Or.inr rfl)) pgs_nil)))) (fun _ _ _ _ _ => pts_nil) (fun _ _ _ _ _ => (pe_jd (.cons pe_str (.cons (pe_fmt (pv 3)) (.cons pe_str (.cons (pe_fmt (pv 4)) .nil)))))))))
    (pss_one (ps_ret (pe_join pe_str (pv 1))))), ?_⟩
    obtain ⟨⟨dx, tp, ttw, sg, sn, sp, sq, rk, txs, hx, htp, htt, hts, _⟩⟩ := id hw
    have nl : ns.length ≤ 12 := Nat.le_trans pk.most hn
    have tl : ts.length ≤ 75 := pk.few
    have nlen : ∀ q ∈ ns, q.length ≤ 8 := fun q hq => name_len8 (pk.nm q hq)
    refine ⟨_, rfl, x, dx, _, rfl, hx, x, dx, _, _, rfl, hx, rfl, tp, ns.map V.str, rfl, .inr htp, ?_⟩
    intro J G ex hG wk L nL
    refine lc_it wk (fun i H' => Hold (Lv H [] H' [(L, .lst (((ns.take i).map lineP).map V.str))])) ⟨(Lv.zero H).al nL⟩ (fun i H' _ ⟨z⟩ => hG H' (SqKeep.of (.inr htp) (.refl _) z.sm ex)) ?_ ?_
    · rintro i v H1 H2 hi ⟨lv⟩ ⟨rfl, hxi⟩
      obtain ⟨q, hq, rfl⟩ := str_at hxi
      have tk : ns.take (i + 1) = ns.take i ++ [q] := take_next2 hq
      have lq := nlen q (List.mem_of_getElem? hq)
      have i12 := (List.getElem?_eq_some_iff.mp hq).1
      have e6 : (("place " : String) : Str).length = 6 := rfl
      have e0 : Str.empty.length = 0 := rfl
      refine ⟨rfl, "place ", rfl, by rw [strLen_append, e6, e0, sizeLine_eq]; omega, _, rfl, .inl ⟨q, rfl, by rw [sizeLine_eq]; omega, q, rfl, by rw [strLen_append, strLen_append, e6, e0, sizeLine_eq]; omega, ?_⟩⟩
      rw [lineP_eq]
      refine ⟨_, lv.get 0 rfl, by rw [List.length_map, List.length_map, List.length_take, sizeLine_eq]; omega, ?_⟩
      rw [tk, List.map_append, List.map_append]
      exact ⟨lv.stE 0 rfl rfl⟩
    · rintro H1 ⟨lv⟩
      rw [List.length_map, List.take_length] at lv
      have hx1 := lv.sm _ _ hx
      have htt1 := same_t lv.sm htt
      have xl := paired_len hts
      refine ⟨_, rfl, x, dx, _, rfl, hx1, x, dx, _, _, rfl, hx1, rfl, ttw, txs, rfl, .inr htt1, ?_⟩
      intro J2 G2 ex2 hG2 wk2 L2 nL2
      refine lc_it wk2 (fun i H' => Hold (Lv H [] H' [(L2, .lst (((ts.take i).map lineT).map V.str)), (L, .lst ((ns.map lineP).map V.str))] ∧ Same H1 H')) ⟨lv.al nL2, same_new nL2⟩ (fun i H' _ ⟨z, z2⟩ => hG2 H' (SqKeep.of (.inr htt1) (.refl _) z2 ex2)) ?_ ?_
      · rintro i v H2 H3 hi ⟨lv2, s2⟩ ⟨rfl, hxi⟩
        obtain ⟨u, hu, b, rfl, hb⟩ := paired_at hts hxi
        have tk : ts.take (i + 1) = ts.take i ++ [u] := take_next2 hu
        obtain ⟨m1, m2, _⟩ := pk.tie u (List.mem_of_getElem? hu)
        have l1 := nlen _ m1
        have l2 := nlen _ m2
        have i75 := (List.getElem?_eq_some_iff.mp hu).1
        have hb3 := same_t lv2.sm hb
        have e4 : (("tie " : String) : Str).length = 4 := rfl
        have e1 : ((" " : String) : Str).length = 1 := rfl
        have e0 : Str.empty.length = 0 := rfl
        refine ⟨b, _, rfl, hb3, rfl, _, _, rfl, _, _, rfl, rfl, ?_⟩
        refine ⟨rfl, "tie ", rfl, by rw [strLen_append, e4, e0, sizeLine_eq]; omega, _, rfl, .inl ⟨u.1, rfl, by rw [sizeLine_eq]; omega, u.1, rfl, by rw [strLen_append, strLen_append, e4, e0, sizeLine_eq]; omega, " ", rfl, by rw [strLen_append, strLen_append, strLen_append, e4, e1, e0, sizeLine_eq]; omega, _, rfl, .inl ⟨u.2, rfl, by rw [sizeLine_eq]; omega, u.2, rfl, by rw [strLen_append, strLen_append, strLen_append, strLen_append, e4, e1, e0, sizeLine_eq]; omega, ?_⟩⟩⟩
        rw [lineT_eq]
        refine ⟨_, lv2.get 0 rfl, by rw [List.length_map, List.length_map, List.length_take, sizeLine_eq]; omega, ?_⟩
        rw [tk, List.map_append, List.map_append]
        exact ⟨lv2.stE 0 rfl rfl, same_upd s2 nL2⟩
      · rintro H2 ⟨lv2, s2⟩
        rw [xl, List.take_length] at lv2
        refine ⟨L, L2, _, _, rfl, rfl, lv2.get 1 rfl, lv2.get 0 rfl, by rw [List.length_map, List.length_map, List.length_map, List.length_map, sizeLine_eq]; omega, fun l3 n3 => ?_⟩
        wide_line with alx lv2 n3 H3 lv3 s3
        rw [← List.map_append] at lv3
        have bd : ∀ z ∈ ns.map lineP ++ ts.map lineT, z.length ≤ 30 := fun z hz => by
          rcases List.mem_append.mp hz with hz | hz
          · obtain ⟨q, hq, rfl⟩ := List.mem_map.mp hz
            have := nlen q hq
            have e6 : (("place " : String) : Str).length = 6 := rfl
            have e0 : Str.empty.length = 0 := rfl
            rw [← lineP_eq, strLen_append, strLen_append, e6, e0]
            omega
          · obtain ⟨u, hu, rfl⟩ := List.mem_map.mp hz
            obtain ⟨m1, m2, _⟩ := pk.tie u hu
            have l1 := nlen _ m1
            have l2 := nlen _ m2
            have e4 : (("tie " : String) : Str).length = 4 := rfl
            have e1 : ((" " : String) : Str).length = 1 := rfl
            have e0 : Str.empty.length = 0 := rfl
            rw [show lineT u = lineT (u.1, u.2) from rfl, ← lineT_eq, strLen_append, strLen_append, strLen_append, strLen_append, e4, e1, e0]
            omega
        have le : (ns.map lineP ++ ts.map lineT).length ≤ 87 := by rw [List.length_append, List.length_map, List.length_map]; omega
        have sm_ := sum_le bd
        refine ⟨⟨_, rfl⟩, _, rfl, "\n", l3, _, rfl, rfl, .inl (SqL.of (lv3.get 0 rfl)), ?_, ?_⟩
        · have e1 : (("\n" : String) : Str).length = 1 := rfl
          rw [e1]
          omega
        · rw [txt_join]
          exact k H3 lv3.sm
end
end Pw

set_option Elab.async false
set_option linter.all false
set_option maxRecDepth 100000
set_option maxHeartbeats 4000000
namespace Pw
open PySem PySem.Spec PyProof.Rows L2 Ct
local macro_rules | `(tactic| wide_line) => `(tactic| repeat ((fail_if_success (with_reducible refine at_while ?_)); (fail_if_success (with_reducible refine at_while1 ?_)); (conv => whnf); first | ((with_reducible refine And.intro ?_ ?_); focus (first | (first | ((with_reducible show (_ : Nat) ≤ _); first | exact sz0 | exact sz1 | exact sz2 | exact sz3 | exact sz4 | exact sz5 | exact sz6 | exact sz7 | exact sz8 | exact sz10 | exact sz11 | exact sz12 | exact sz14 | omega | decide | (simp only [List.length_cons, List.length_nil]; omega)) | ((with_reducible show (_ : Int) ≤ _); first | omega | decide) | ((with_reducible show (_ : Int) < _); first | omega | decide) | ((with_reducible show (_ : Nat) < _); omega)) | ((fail_if_success (with_reducible show (_ : Nat) ≤ _)); (fail_if_success (with_reducible show (_ : Int) ≤ _)); (fail_if_success (with_reducible show (_ : Int) < _)); (fail_if_success (with_reducible show (_ : Nat) < _)); first | exact kv_str _ | exact kv_int _ | rfl | assumption | exact flat_strs _ | exact Lv.get (by assumption) 0 rfl | exact Lv.get (by assumption) 1 rfl | exact Lv.get (by assumption) 2 rfl | exact Lv.get (by assumption) 3 rfl | exact Lv.get (by assumption) 4 rfl | exact Lv.get (by assumption) 5 rfl | exact Lv.get (by assumption) 6 rfl | exact SqL.of (Lv.get (by assumption) 0 rfl) | exact SqL.of (Lv.get (by assumption) 1 rfl) | exact SqL.of (Lv.get (by assumption) 2 rfl) | exact SqL.of (Lv.get (by assumption) 3 rfl) | exact SqL.of (Lv.get (by assumption) 4 rfl) | exact SqL.of (Lv.get (by assumption) 5 rfl) | exact Or.inl (SqL.of (Lv.get (by assumption) 0 rfl)) | exact Or.inl (SqL.of (Lv.get (by assumption) 1 rfl)) | exact Or.inl (SqL.of (Lv.get (by assumption) 2 rfl)) | exact Or.inl (SqL.of (Lv.get (by assumption) 3 rfl)) | exact Or.inl (SqL.of (Lv.get (by assumption) 4 rfl)) | exact Or.inl (SqL.of (Lv.get (by assumption) 5 rfl)) | exact ⟨_, SqL.of (Lv.get (by assumption) 0 rfl)⟩ | exact ⟨_, SqL.of (Lv.get (by assumption) 1 rfl)⟩ | exact ⟨_, SqL.of (Lv.get (by assumption) 2 rfl)⟩ | exact ⟨_, SqL.of (Lv.get (by assumption) 3 rfl)⟩ | exact ⟨_, SqL.of (Lv.get (by assumption) 4 rfl)⟩ | exact ⟨_, SqL.of (Lv.get (by assumption) 5 rfl)⟩ | exact Or.inl ⟨_, SqL.of (Lv.get (by assumption) 0 rfl), rfl⟩ | exact Or.inl ⟨_, SqL.of (Lv.get (by assumption) 1 rfl), rfl⟩ | exact Or.inl ⟨_, SqL.of (Lv.get (by assumption) 2 rfl), rfl⟩ | exact Or.inl ⟨_, SqL.of (Lv.get (by assumption) 3 rfl), rfl⟩ | exact Or.inl ⟨_, SqL.of (Lv.get (by assumption) 4 rfl), rfl⟩ | exact Or.inl ⟨_, SqL.of (Lv.get (by assumption) 5 rfl), rfl⟩ | exact Or.inl ⟨rfl, _, SqL.of (Lv.get (by assumption) 0 rfl)⟩ | exact Or.inl ⟨rfl, _, SqL.of (Lv.get (by assumption) 1 rfl)⟩ | exact Or.inl ⟨rfl, _, SqL.of (Lv.get (by assumption) 2 rfl)⟩ | exact Or.inl ⟨rfl, _, SqL.of (Lv.get (by assumption) 3 rfl)⟩ | exact Or.inl ⟨rfl, _, SqL.of (Lv.get (by assumption) 4 rfl)⟩ | exact Or.inl ⟨rfl, _, SqL.of (Lv.get (by assumption) 5 rfl)⟩ | exact Or.inr (SqT.of (Lv.get (by assumption) 0 rfl)) | exact Or.inr (SqT.of (Lv.get (by assumption) 1 rfl)) | exact Or.inr (SqT.of (Lv.get (by assumption) 2 rfl)) | exact Or.inr (SqT.of (Lv.get (by assumption) 3 rfl)) | exact SqT.of (Lv.get (by assumption) 0 rfl) | exact SqT.of (Lv.get (by assumption) 1 rfl) | exact SqT.of (Lv.get (by assumption) 2 rfl) | exact dgetN (Lv.get (by assumption) 0 rfl) (by assumption) | exact dgetN (Lv.get (by assumption) 1 rfl) (by assumption) | exact dgetN (Lv.get (by assumption) 2 rfl) (by assumption) | exact dgetN (Lv.get (by assumption) 3 rfl) (by assumption) | exact dgetN (Lv.get (by assumption) 4 rfl) (by assumption) | exact Or.inl (by assumption) | exact Or.inr (by assumption) | decide | ((with_reducible show _ ∧ _); omega)))) | ((fail_if_success (with_reducible apply @Exists.intro (Nat → _))); (with_reducible apply Exists.intro))))
local macro_rules
  | `(tactic| wide_line with al $lv:ident $l:ident $nl:ident $H:ident $lv1:ident $s1:ident) => `(tactic| (intro $l:ident $nl:ident; generalize he : upd _ _ _ = $H:ident; have $lv1:ident := Lv.alE $lv $nl he; have $s1:ident := sameE $nl he; clear he; (try simp only [List.set_cons_zero, List.set_cons_succ] at $lv1:ident)))
  | `(tactic| wide_line with alx $lv:ident $nl:ident $H:ident $lv1:ident $s1:ident) => `(tactic| (generalize he : upd _ _ _ = $H:ident; have $lv1:ident := Lv.alE $lv $nl he; have $s1:ident := sameE $nl he; clear he; (try simp only [List.set_cons_zero, List.set_cons_succ] at $lv1:ident)))
  | `(tactic| wide_line with sts $lv:ident $i:num $H:ident $lv1:ident $s0:ident $np:ident $s1:ident) => `(tactic| (generalize he : upd _ _ _ = $H:ident; have $lv1:ident := Lv.stE $lv $i rfl he; have $s1:ident := sameN $s0 $np he; clear he; (try simp only [List.set_cons_zero, List.set_cons_succ] at $lv1:ident)))
  | `(tactic| wide_line with stx $lv:ident $H:ident $lv1:ident $d1:ident) => `(tactic| (generalize he : upd _ _ _ = $H:ident; have $lv1:ident := Lv.stE $lv 0 rfl he; have $d1:ident := SameD.storeE (Lv.get $lv 0 rfl) he; clear he; (try simp only [List.set_cons_zero, List.set_cons_succ] at $lv1:ident)))
  | `(tactic| wide_line with st $lv:ident $i:num $H:ident $lv1:ident) => `(tactic| (generalize he : upd _ _ _ = $H:ident; have $lv1:ident := Lv.stE $lv $i rfl he; clear he; (try simp only [List.set_cons_zero, List.set_cons_succ] at $lv1:ident)))
  | `(tactic| wide_line with stk $lv:ident $i:num $H:ident $lv1:ident $k1:ident) => `(tactic| (generalize he : upd _ _ _ = $H:ident; have $lv1:ident := Lv.stE $lv $i rfl he; have $k1:ident := KeepT.st (Lv.get $lv $i rfl) he; clear he; (try simp only [List.set_cons_zero, List.set_cons_succ] at $lv1:ident)))
theorem dec_int {a b : Int} : decide (V.int a = V.int b) = decide (a = b) := decide_eq_decide.mpr ⟨fun z => V.int.inj z, fun z => congrArg V.int z⟩
theorem str_dec (x y : Str) : decide (V.str x = V.str y) = decide (x = y) := decide_eq_decide.mpr ⟨fun z => V.str.inj z, fun z => congrArg V.str z⟩
/-- may a line's words stand as the next place -/
def nextP (ps ws : List Str) : Bool := match ws with
  | [a, w] => decide (a = "place") && (!decide (ps.length = 12) && (okName w && !decide (w ∈ ps)))
  | _ => false
def spNextP (K : PySem.W.Frag) : Sp := fun vs H Q _ => ∃ (p w : Addr) (ps ws : List Str), vs = [.ref p, .ref w] ∧ SqL K H p (ps.map V.str) ∧ SqL K H w (ws.map V.str) ∧ (∀ x ∈ ws, x.length ≤ 16000000) ∧ ∀ H', Same H H' → Q (.bl (nextP ps ws)) H'
section
variable {P : Program} {w : World} {K : PySem.W.Frag} {mg : Str → Option Value} {base : Heap} {C : Addr}
abbrev sIsNextPlace : Stmt := top ix_is_next_place
theorem scIsNextPlace : FnScope ["places", "words"] ["places", "words"] (defScope sIsNextPlace) := ⟨rfl, rfl, rfl, by decide +kernel, rfl, by decide +kernel, by decide +kernel⟩
theorem has_is_next_place (T : Bn mg) (M : Mc mg) (D : DFE K mg "_is_next_place" sIsNextPlace ["places", "words"]) (his_name : Has P w K mg base CX0 1 "is_name" ["value"] (spIsName K)) : Has P w K mg base CX0 2 "_is_next_place" ["places", "words"] (spNextP K) := by
  refine has_of D scIsNextPlace (fun vs H Q E h => ?_) (fun f cdv A outer s H vs Q E hr h => ?_)
  · obtain ⟨p, w, ps, ws, rfl, _⟩ := h; rfl
  · obtain ⟨p, w, ps, ws, rfl, hp, hw, sz, k⟩ := h
    have nd := scIsNextPlace.nd
    refine ⟨_, (pss_cons (ps_if (PW.pt (pw_or (pt_cmpR op_ne (pe_callB call_len (by rfl) T.z_len (by decide +kernel) (pa_cons (pv 1) pa_nil)) pe_int (by first | exact nomark _ | rfl)) (pw_or (pt_cmpR op_ne (pe_ix ix_list (pv 1) pe_int (fun _ _ => rfl)) pe_str (by first | exact nomark _ | rfl)) (pw_or1 (pt_cmpR op_eq (pe_callB call_len_seq (by rfl) T.z_len (by decide +kernel) (pa_cons (pv 0) pa_nil)) (pe_gi rfl M.g_MOST_PLACES) (by first | exact nomark _ | rfl)))))) (pss_one (ps_ret pe_bl)) pss_nil)
    (pss_one (ps_ret (pe_and (pe_h his_name hr (by decide) rfl (pa_cons (pe_ix ix_list (pv 1) pe_int (fun _ _ => rfl)) pa_nil)) (pe_one (pe_cmpR op_notIn_seq (pe_ix ix_list (pv 1) pe_int (fun _ _ => rfl)) (pv 0) (by first | exact nomark _ | rfl))))))), ?_⟩
    refine ⟨_, rfl, .ref w, _, rfl, .inl ⟨_, hw, rfl⟩, rfl, ?_⟩
    rw [dec_int]
    refine ⟨_, rfl, ?_⟩
    have no : nextP ps ws = false → Q (.bl false) H := fun e => e ▸ k H (.refl _)
    have two : (∃ a b, ws = [a, b]) ∨ ((((ws.map V.str).length : Nat) : Int) ≠ 2 ∧ nextP ps ws = false) := by
      match ws with
      | [] => exact .inr ⟨by decide, rfl⟩
      | [_] => exact .inr ⟨by simp only [List.length_map, List.length_cons, List.length_nil]; omega, rfl⟩
      | [a, b] => exact .inl ⟨a, b, rfl⟩
      | _ :: _ :: _ :: l => exact .inr ⟨by simp only [List.length_map, List.length_cons]; omega, rfl⟩
    rcases two with ⟨a, b, rfl⟩ | ⟨ne, e⟩
    case inr =>
      rw [decide_eq_false ne]
      exact iteT (iteT (no e))
    rw [show decide ((((([a, b] : List Str).map V.str).length : Nat) : Int) = 2) = true from rfl]
    refine iteF ⟨_, rfl, w, _, 0, .str a, rfl, rfl, hw, atI_nat (j := 0) rfl, rfl, ?_⟩
    rw [str_dec]
    refine ⟨_, rfl, ?_⟩
    by_cases ca : a = "place"
    case neg =>
      rw [decide_eq_false ca]
      exact iteT (iteT (no (by show (decide (a = "place") && _) = false; rw [decide_eq_false ca]; rfl)))
    rw [decide_eq_true ca]
    refine iteF ?_
    obtain ⟨_, gM⟩ := M.g_MOST_PLACES
    refine ⟨_, rfl, p, _, rfl, .inl hp, ?_⟩
    have fin : ∀ c : Bool, c = decide (ps.length = 12) → True := fun _ _ => trivial
    refine ⟨rfl, ?_⟩
    rw [dec_int]
    refine ⟨_, rfl, ?_⟩
    have el : decide ((((ps.map V.str).length : Nat) : Int) = 12) = decide (ps.length = 12) := decide_eq_decide.mpr (by rw [List.length_map]; omega)
    rw [el]
    by_cases cl : ps.length = 12
    case pos =>
      rw [decide_eq_true cl]
      exact iteT (no (by show (decide (a = "place") && (!decide (ps.length = 12) && _)) = false; rw [decide_eq_true cl, Bool.not_true, Bool.false_and, Bool.and_false]))
    rw [decide_eq_false cl]
    refine iteF ?_
    refine ⟨_, rfl, w, _, 1, .str b, rfl, rfl, hw, atI_nat (j := 1) rfl, .str b, .str b, rfl, .str b, fun z e => by cases e; rw [sizeLine_eq]; exact Nat.le_trans (sz b (by simp)) (by decide), fun H1 s1 => ?_⟩
    have res : nextP ps [a, b] = (okName b && !decide (b ∈ ps)) := by
      show (decide (a = "place") && (!decide (ps.length = 12) && (okName b && !decide (b ∈ ps)))) = _
      rw [decide_eq_true ca, decide_eq_false cl]
      rfl
    rw [res] at k
    refine ⟨_, rfl, ?_⟩
    have e0 : nameD (.str b) = okName b := rfl
    rw [e0]
    cases hn : okName b with
    | false =>
      rw [hn] at k
      exact iteF (k H1 s1)
    | true =>
      rw [hn] at k
      refine iteT ⟨_, rfl, w, _, 1, .str b, rfl, rfl, s1.seq hw, atI_nat (j := 1) rfl, _, rfl, p, _, rfl, .inl (s1.seq hp), rfl, flat_strs _, ?_⟩
      rw [if_pos rfl, in_strs]
      exact k H1 s1
end
end Pw

set_option Elab.async false
set_option linter.all false
set_option maxRecDepth 100000
set_option maxHeartbeats 4000000
namespace Pw
open PySem PySem.Spec PyProof.Rows L2 Ct
local macro_rules | `(tactic| wide_line) => `(tactic| repeat ((fail_if_success (with_reducible refine at_while ?_)); (fail_if_success (with_reducible refine at_while1 ?_)); (conv => whnf); first | ((with_reducible refine And.intro ?_ ?_); focus (first | (first | ((with_reducible show (_ : Nat) ≤ _); first | exact sz0 | exact sz1 | exact sz2 | exact sz3 | exact sz4 | exact sz5 | exact sz6 | exact sz7 | exact sz8 | exact sz10 | exact sz11 | exact sz12 | exact sz14 | omega | decide | (simp only [List.length_cons, List.length_nil]; omega)) | ((with_reducible show (_ : Int) ≤ _); first | omega | decide) | ((with_reducible show (_ : Int) < _); first | omega | decide) | ((with_reducible show (_ : Nat) < _); omega)) | ((fail_if_success (with_reducible show (_ : Nat) ≤ _)); (fail_if_success (with_reducible show (_ : Int) ≤ _)); (fail_if_success (with_reducible show (_ : Int) < _)); (fail_if_success (with_reducible show (_ : Nat) < _)); first | exact kv_str _ | exact kv_int _ | rfl | assumption | exact flat_strs _ | exact Lv.get (by assumption) 0 rfl | exact Lv.get (by assumption) 1 rfl | exact Lv.get (by assumption) 2 rfl | exact Lv.get (by assumption) 3 rfl | exact Lv.get (by assumption) 4 rfl | exact Lv.get (by assumption) 5 rfl | exact Lv.get (by assumption) 6 rfl | exact SqL.of (Lv.get (by assumption) 0 rfl) | exact SqL.of (Lv.get (by assumption) 1 rfl) | exact SqL.of (Lv.get (by assumption) 2 rfl) | exact SqL.of (Lv.get (by assumption) 3 rfl) | exact SqL.of (Lv.get (by assumption) 4 rfl) | exact SqL.of (Lv.get (by assumption) 5 rfl) | exact Or.inl (SqL.of (Lv.get (by assumption) 0 rfl)) | exact Or.inl (SqL.of (Lv.get (by assumption) 1 rfl)) | exact Or.inl (SqL.of (Lv.get (by assumption) 2 rfl)) | exact Or.inl (SqL.of (Lv.get (by assumption) 3 rfl)) | exact Or.inl (SqL.of (Lv.get (by assumption) 4 rfl)) | exact Or.inl (SqL.of (Lv.get (by assumption) 5 rfl)) | exact ⟨_, SqL.of (Lv.get (by assumption) 0 rfl)⟩ | exact ⟨_, SqL.of (Lv.get (by assumption) 1 rfl)⟩ | exact ⟨_, SqL.of (Lv.get (by assumption) 2 rfl)⟩ | exact ⟨_, SqL.of (Lv.get (by assumption) 3 rfl)⟩ | exact ⟨_, SqL.of (Lv.get (by assumption) 4 rfl)⟩ | exact ⟨_, SqL.of (Lv.get (by assumption) 5 rfl)⟩ | exact Or.inl ⟨_, SqL.of (Lv.get (by assumption) 0 rfl), rfl⟩ | exact Or.inl ⟨_, SqL.of (Lv.get (by assumption) 1 rfl), rfl⟩ | exact Or.inl ⟨_, SqL.of (Lv.get (by assumption) 2 rfl), rfl⟩ | exact Or.inl ⟨_, SqL.of (Lv.get (by assumption) 3 rfl), rfl⟩ | exact Or.inl ⟨_, SqL.of (Lv.get (by assumption) 4 rfl), rfl⟩ | exact Or.inl ⟨_, SqL.of (Lv.get (by assumption) 5 rfl), rfl⟩ | exact Or.inl ⟨rfl, _, SqL.of (Lv.get (by assumption) 0 rfl)⟩ | exact Or.inl ⟨rfl, _, SqL.of (Lv.get (by assumption) 1 rfl)⟩ | exact Or.inl ⟨rfl, _, SqL.of (Lv.get (by assumption) 2 rfl)⟩ | exact Or.inl ⟨rfl, _, SqL.of (Lv.get (by assumption) 3 rfl)⟩ | exact Or.inl ⟨rfl, _, SqL.of (Lv.get (by assumption) 4 rfl)⟩ | exact Or.inl ⟨rfl, _, SqL.of (Lv.get (by assumption) 5 rfl)⟩ | exact Or.inr (SqT.of (Lv.get (by assumption) 0 rfl)) | exact Or.inr (SqT.of (Lv.get (by assumption) 1 rfl)) | exact Or.inr (SqT.of (Lv.get (by assumption) 2 rfl)) | exact Or.inr (SqT.of (Lv.get (by assumption) 3 rfl)) | exact SqT.of (Lv.get (by assumption) 0 rfl) | exact SqT.of (Lv.get (by assumption) 1 rfl) | exact SqT.of (Lv.get (by assumption) 2 rfl) | exact dgetN (Lv.get (by assumption) 0 rfl) (by assumption) | exact dgetN (Lv.get (by assumption) 1 rfl) (by assumption) | exact dgetN (Lv.get (by assumption) 2 rfl) (by assumption) | exact dgetN (Lv.get (by assumption) 3 rfl) (by assumption) | exact dgetN (Lv.get (by assumption) 4 rfl) (by assumption) | exact Or.inl (by assumption) | exact Or.inr (by assumption) | decide | ((with_reducible show _ ∧ _); omega)))) | ((fail_if_success (with_reducible apply @Exists.intro (Nat → _))); (with_reducible apply Exists.intro))))
local macro_rules
  | `(tactic| wide_line with al $lv:ident $l:ident $nl:ident $H:ident $lv1:ident $s1:ident) => `(tactic| (intro $l:ident $nl:ident; generalize he : upd _ _ _ = $H:ident; have $lv1:ident := Lv.alE $lv $nl he; have $s1:ident := sameE $nl he; clear he; (try simp only [List.set_cons_zero, List.set_cons_succ] at $lv1:ident)))
  | `(tactic| wide_line with alx $lv:ident $nl:ident $H:ident $lv1:ident $s1:ident) => `(tactic| (generalize he : upd _ _ _ = $H:ident; have $lv1:ident := Lv.alE $lv $nl he; have $s1:ident := sameE $nl he; clear he; (try simp only [List.set_cons_zero, List.set_cons_succ] at $lv1:ident)))
  | `(tactic| wide_line with sts $lv:ident $i:num $H:ident $lv1:ident $s0:ident $np:ident $s1:ident) => `(tactic| (generalize he : upd _ _ _ = $H:ident; have $lv1:ident := Lv.stE $lv $i rfl he; have $s1:ident := sameN $s0 $np he; clear he; (try simp only [List.set_cons_zero, List.set_cons_succ] at $lv1:ident)))
  | `(tactic| wide_line with stx $lv:ident $H:ident $lv1:ident $d1:ident) => `(tactic| (generalize he : upd _ _ _ = $H:ident; have $lv1:ident := Lv.stE $lv 0 rfl he; have $d1:ident := SameD.storeE (Lv.get $lv 0 rfl) he; clear he; (try simp only [List.set_cons_zero, List.set_cons_succ] at $lv1:ident)))
  | `(tactic| wide_line with st $lv:ident $i:num $H:ident $lv1:ident) => `(tactic| (generalize he : upd _ _ _ = $H:ident; have $lv1:ident := Lv.stE $lv $i rfl he; clear he; (try simp only [List.set_cons_zero, List.set_cons_succ] at $lv1:ident)))
  | `(tactic| wide_line with stk $lv:ident $i:num $H:ident $lv1:ident $k1:ident) => `(tactic| (generalize he : upd _ _ _ = $H:ident; have $lv1:ident := Lv.stE $lv $i rfl he; have $k1:ident := KeepT.st (Lv.get $lv $i rfl) he; clear he; (try simp only [List.set_cons_zero, List.set_cons_succ] at $lv1:ident)))
theorem upd_at {H H' : Hp} {p : Addr} {o : HO} (e : upd H p o = H') : H' p = some o := e ▸ upd_same
/-- the ties that are known, either way round, as a dict of couples -/
def TiedAt (H : Hp) (D : Addr) (ts : List (Str × Str)) : Prop := ∃ kvs : List (List Key × V), H D = some (.dT kvs) ∧ ∀ a b : Str, (valV kvs [.inr a, .inr b]).isSome = decide (pairP (a, b) ∈ ts.map pairP)
/-- may a line's words stand as the next tie -/
def nextT (ps : List Str) (ts : List (Str × Str)) (ws : List Str) : Bool := match ws with
  | [a, x, y] => decide (a = "tie") && (decide (x ∈ ps) && (decide (y ∈ ps) && (!decide (x = y) && !decide (pairP (x, y) ∈ ts.map pairP))))
  | _ => false
def spNextT (K : PySem.W.Frag) : Sp := fun vs H Q _ => ∃ (p D w : Addr) (ps ws : List Str) (ts : List (Str × Str)), vs = [.ref p, .ref D, .ref w] ∧ SqL K H p (ps.map V.str) ∧ TiedAt H D ts ∧ SqL K H w (ws.map V.str) ∧ ∀ H', Same H H' → Q (.bl (nextT ps ts ws)) H'
section
variable {P : Program} {w : World} {K : PySem.W.Frag} {mg : Str → Option Value} {base : Heap} {C : Addr}
abbrev sIsNextTie : Stmt := top ix_is_next_tie
theorem scIsNextTie : FnScope ["places", "tied", "words", "_", "one", "other"] ["places", "tied", "words"] (defScope sIsNextTie) := ⟨rfl, rfl, rfl, by decide +kernel, rfl, by decide +kernel, by decide +kernel⟩
theorem has_is_next_tie (T : Bn mg) (D : DFE K mg "_is_next_tie" sIsNextTie ["places", "tied", "words"]) : Has P w K mg base CX0 1 "_is_next_tie" ["places", "tied", "words"] (spNextT K) := by
  refine has_of D scIsNextTie (fun vs H Q E h => ?_) (fun f cdv A outer s H vs Q E hr h => ?_)
  · obtain ⟨p, D, w, ps, ws, ts, rfl, _⟩ := h; rfl
  · obtain ⟨p, Dt, w, ps, ws, ts, rfl, hp, ⟨kvs, hD, ht⟩, hw, k⟩ := h
    have nd := scIsNextTie.nd
    refine ⟨_, (pss_cons (ps_if (PW.pt (pw_or (pt_cmpR op_ne (pe_callB call_len (by rfl) T.z_len (by decide +kernel) (pa_cons (pv 2) pa_nil)) pe_int (by first | exact nomark _ | rfl)) (pw_or1 (pt_cmpR op_ne (pe_ix ix_list (pv 2) pe_int (fun _ _ => rfl)) pe_str (by first | exact nomark _ | rfl))))) (pss_one (ps_ret pe_bl)) pss_nil)
    (pss_cons (ps_asg (pv 2) (pg_unl (n := 3) rfl (pgs_cons (pg_name (i := 3) nd rfl (by first | exact Or.inl rfl | exact Or.inr rfl)) (pgs_cons (pg_name (i := 4) nd rfl (by first | exact Or.inl rfl | exact Or.inr rfl)) (pgs_cons (pg_name (i := 5) nd rfl (by first | exact Or.inl rfl | exact Or.inr rfl)) pgs_nil)))))
    (pss_one (ps_ret (pe_and (pe_cmpR op_in_seq (pv 4) (pv 0) (by first | exact nomark _ | rfl)) (pe_and (pe_cmpR op_in_seq (pv 5) (pv 0) (by first | exact nomark _ | rfl)) (pe_and (pe_cmpR op_ne (pv 4) (pv 5) (by first | exact nomark _ | rfl)) (pe_one (pe_cmp (pc_dnotin (hu_of hr) (pe_tup (pa_cons (pv 4) (pa_cons (pv 5) pa_nil))) (pv 1))))))))))), ?_⟩
    refine ⟨_, rfl, .ref w, _, rfl, .inl ⟨_, hw, rfl⟩, rfl, ?_⟩
    rw [dec_int]
    refine ⟨_, rfl, ?_⟩
    have no : nextT ps ts ws = false → ∀ {H' : Hp}, Same H H' → Q (.bl false) H' := fun e {H'} s => e ▸ k H' s
    have three : (∃ a b c, ws = [a, b, c]) ∨ ((((ws.map V.str).length : Nat) : Int) ≠ 3 ∧ nextT ps ts ws = false) := by
      match ws with
      | [] => exact .inr ⟨by decide, rfl⟩
      | [_] => exact .inr ⟨by simp only [List.length_map, List.length_cons, List.length_nil]; omega, rfl⟩
      | [_, _] => exact .inr ⟨by simp only [List.length_map, List.length_cons, List.length_nil]; omega, rfl⟩
      | [a, b, c] => exact .inl ⟨a, b, c, rfl⟩
      | _ :: _ :: _ :: _ :: l => exact .inr ⟨by simp only [List.length_map, List.length_cons]; omega, rfl⟩
    rcases three with ⟨a, b, c, rfl⟩ | ⟨ne, e⟩
    case inr =>
      rw [decide_eq_false ne]
      exact iteT (iteT (no e (.refl _)))
    rw [show decide ((((([a, b, c] : List Str).map V.str).length : Nat) : Int) = 3) = true from rfl]
    refine iteF ⟨_, rfl, w, _, 0, .str a, rfl, rfl, hw, atI_nat (j := 0) rfl, rfl, ?_⟩
    rw [str_dec]
    refine ⟨_, rfl, ?_⟩
    by_cases ca : a = "tie"
    case neg =>
      rw [decide_eq_false ca]
      exact iteT (no (by show (decide (a = "tie") && _) = false; rw [decide_eq_false ca]; rfl) (.refl _))
    rw [decide_eq_true ca]
    refine iteF ?_
    refine ⟨_, rfl, w, _, rfl, hw, rfl, ?_⟩
    have res : nextT ps ts [a, b, c] = (decide (b ∈ ps) && (decide (c ∈ ps) && (!decide (b = c) && !decide (pairP (b, c) ∈ ts.map pairP)))) := by
      show (decide (a = "tie") && _) = _
      rw [decide_eq_true ca]
      rfl
    rw [res] at k
    refine ⟨_, _, rfl, _, _, rfl, _, _, rfl, rfl, ?_⟩
    refine ⟨_, rfl, _, rfl, p, _, rfl, .inl hp, rfl, flat_strs _, ?_⟩
    rw [if_neg (by decide), in_strs]
    refine ⟨_, rfl, ?_⟩
    cases h1 : decide (b ∈ ps) with
    | false =>
      rw [h1] at k
      exact iteF (k H (.refl _))
    | true =>
      rw [h1] at k
      refine iteT ⟨_, rfl, _, rfl, p, _, rfl, .inl hp, rfl, flat_strs _, ?_⟩
      rw [if_neg (by decide), in_strs]
      refine ⟨_, rfl, ?_⟩
      cases h2 : decide (c ∈ ps) with
      | false =>
        rw [h2] at k
        exact iteF (k H (.refl _))
      | true =>
        rw [h2] at k
        refine iteT ⟨_, rfl, _, rfl, rfl, ?_⟩
        rw [str_dec]
        refine ⟨_, rfl, ?_⟩
        cases h3 : decide (b = c) with
        | true =>
          rw [h3] at k
          exact iteF (k H (.refl _))
        | false =>
          rw [h3] at k
          refine iteT ⟨_, rfl, _, rfl, sz2, fun q nq => ?_⟩
          generalize he : upd H q _ = H1
          have s1 : Same H H1 := sameE nq he
          have e1 := upd_at he
          clear he
          refine ⟨_, rfl, Dt, _, rfl, DGet.t (k := [.inr b, .inr c]) (s1 _ _ hD) e1, ?_⟩
          rw [ht]
          exact k H1 s1
end
end Pw

set_option Elab.async false
set_option linter.all false
set_option maxRecDepth 100000
set_option maxHeartbeats 4000000
/-! Own kit Zg: enumerate(xs, start=k), the start written. -/
namespace Ct
open PySem PySem.Spec PyProof.Rows L2
section
variable {M : Model} {A : Around} {E : Value → Shared → Prop} {s : Shared} {env : Env}
theorem callWith_typeKw {pos : Pos} {T : String} {e : Expr} {rest : List Expr} {kws : List Keyword} {Q : Value → Shared → Prop}
    (hall : (backToKw pos (keywordEach kws env)).all (·.1.isSome) = true)
    (h : wpAny M A (spliced (backTo pos (starEach (e :: rest) env))) (fun vs s₁ => wpAny M A (evalAll ((backToKw pos (keywordEach kws env)).map (·.2)))
      (fun kvs s₂ => wpAny M A (call (.type T) vs (((backToKw pos (keywordEach kws env)).filterMap (·.1)).zip kvs)) Q E s₂) E s₁) E s)
    (he : starEach (e :: rest) env = (false, eval e env) :: starEach rest env := by rfl)
    (hplain : (backTo pos (starEach (e :: rest) env)).any (·.1) = false := by rfl)
    (hkw : (backToKw pos (keywordEach kws env)).any (·.1.isNone) = false := by rfl) :
    wpAny M A (callWith pos (.type T) [] (backTo pos (starEach (e :: rest) env)) (backToKw pos (keywordEach kws env))) Q E s := by
  unfold callWith
  refine wpAny_bind (wpAny_holding (wpAny_mono (evalArgs_kw2 (f := .type T) (Q := fun a s₁ => wpAny M A (call (.type T) a.pos a.kw) Q E s₁) hall h he) (fun a s₁ h₁ => wpAny_bind (wpAny_standAt ?_)) fun _ _ x => x))
  simp only [hplain, hkw, Bool.or_false]
  refine wpAny_bind (wpAny_pure ?_)
  exact wpAny_bind (wpAny_mono h₁ (fun r s₂ hr => wpAny_bind (wpAny_holding (wpAny_point (wpAny_pure hr)))) fun _ _ x => x)
end
/-- the list at a, each item in a new pair with its number, counted from k -/
def Itk (K : PySem.W.Frag) (a : Addr) (k : Nat) : It :=
  ⟨fun i H => ∃ (xs : List V) (x : V), SqL K H a xs ∧ xs[i]? = some x, fun i H v H' => ∃ T x, v = .ref T ∧ H T = none ∧ H' = upd H T (.tup [.int ((k + i : Nat) : Int), x]) ∧ ∀ xs, SqL K H a xs → xs[i]? = some x, fun i H => ∃ xs : List V, SqL K H a xs ∧ xs.length ≤ i⟩
theorem turn_enumK {P : Program} {w : World} {K : PySem.W.Frag} {elts : List Expr} {kk : Nat} {tpos : Pos} (k a e it : Addr) :
    Turn P w K (.Tuple elts kk tpos) (Itk K a k) [e, it] e (fun i h => (∃ old, IsEnum h e it ((k + i : Nat) : Int) old) ∧ h.IsListIter it a i ∧ e ≠ it) where
  mem := by simp
  obj := fun i h st b hb => by
    obtain ⟨⟨old, he⟩, ⟨o, ho, hc, hd⟩, _⟩ := st
    have e' : b = e ∨ b = it := by simpa using hb
    rcases e' with z | z
    · rw [z]; exact ⟨_, he, fun v q => nomatch q⟩
    · rw [z]; exact ⟨o, ho, fun v q => by rw [hd] at q; cases q⟩
  keep := fun i h h' st k => let ⟨⟨old, he⟩, hi, hne⟩ := st; ⟨⟨old, k e (by simp) _ he⟩, hi.at fun o q => k it (by simp) o q, hne⟩
  item := by
    intro X hP hw hK hc i pins s σ H E I hf st hg
    subst hP hw hK
    obtain ⟨⟨old, he⟩, hit, hne⟩ := st
    obtain ⟨xs, x, hq, hx⟩ := hg
    obtain ⟨its, rv, p, hz⟩ := I.list hq
    obtain ⟨u, hu, ru⟩ := rv.get hx
    have p : s.heap.IsList a its.toArray := p.isList
    have hel : e < s.heap.objs.size := Heap.lt_size he
    have hil : it < s.heap.objs.size := by obtain ⟨_, q, _⟩ := hit; exact Heap.lt_size q
    have ait : a ≠ it := by
      rintro rfl
      obtain ⟨o1, h1, h2, _⟩ := p
      obtain ⟨o2, h3, h4, _⟩ := hit
      rw [h1] at h3
      cases h3
      rw [h2] at h4
      exact absurd h4 (by decide)
    have ae : e ≠ a := by
      rintro rfl
      obtain ⟨o1, h1, h2, _⟩ := p
      have he' := he
      unfold IsEnum at he'
      rw [h1] at he'
      cases he'
      exact absurd (show Value.type "enumerate" = Value.type "list" from h2) (by decide)
    have hlt : i < its.toArray.size := by
      have := (List.getElem?_eq_some_iff.mp hu).1
      simpa using this
    refine wpAny_pyNext_enum_itemC (PySem.Draws.list (by simpa using I.ok.hd hc) it a ait its.toArray) he ⟨hit, p⟩ hlt hne (by simp [hne, ae]) fun x2 h' tk hx2 ho hst' hT hsz hk => ?_
    have ex2 : x2 = u := by
      have z : its[i]? = some x2 := by simpa using hx2
      rw [hu] at z
      exact (Option.some.inj z).symm
    subst ex2
    refine ⟨_, rfl, wpAny_letOwnedTupleGo_enum (s := { s with heap := h', toks := tk + 1 }) ho fun h'' he' sb => ?_⟩
    have hT2 : h''.get? s.heap.objs.size = some { cls := .type "tuple", data := .seq #[.int ((k + i : Nat) : Int) tk, x2] } := (sb.2 _ (Nat.ne_of_gt hel)).trans hT
    have new : ObjOk X.prog X.w (upd H s.heap.objs.size (.tup [.int ((k + i : Nat) : Int), x])) h'' s.heap.objs.size (.tup [.int ((k + i : Nat) : Int), x]) :=
      ⟨by show 2 ≤ sizeLine; decide, [.int ((k + i : Nat) : Int) tk, x2], .cons ⟨_, rfl⟩ (.cons ru .nil), ⟨_, hT2, rfl, _, rfl⟩⟩
    have I1 : Inv X pins σ (upd H s.heap.objs.size (.tup [.int ((k + i : Nat) : Int), x])) { s with heap := h'', toks := tk + 1 } :=
      I.turnedNew (ch := [e, it]) (fun b ob hb q => (sb.2 b (fun z => hb (by simp [z]))).trans (hk b ob (fun z => hb (by simp [z])) (fun z => hb (by simp [z])) q)) hf (Nat.le_refl _) new
    refine ⟨.ref s.heap.objs.size, _, I1, rfl, ⟨_, x, rfl, I.hok.fresh (Nat.le_refl _), rfl, fun ys hy => by rw [I.list_inj hy hq]; exact hx⟩, ⟨⟨x2, ?_⟩, hst'.1.at fun o q => (sb.2 it (Ne.symm hne)).trans q, hne⟩, fun b hb => ?_⟩
    · have e1 : ((k + (i + 1) : Nat) : Int) = ((k + i : Nat) : Int) + 1 := by omega
      rw [e1]; exact he'
    · have hb' : b < s.heap.objs.size := by
        rcases (show b = e ∨ b = it by simpa using hb) with z | z
        · rw [z]; exact hel
        · rw [z]; exact hil
      rw [upd_ne (Nat.ne_of_lt hb')]
      exact (hf b hb).1
  done := by
    intro X hP hw hK hc i pins s σ H E I hf st hg
    subst hP hw hK
    obtain ⟨⟨old, he⟩, hit, hne⟩ := st
    obtain ⟨xs, hq, hx⟩ := hg
    obtain ⟨its, rv, p, hz⟩ := I.list hq
    obtain ⟨f0, f1, f2, f3, f4, f5⟩ := hf it (by simp)
    have hl := rv.length
    have hnone : its.toArray[i]? = none := by simp; omega
    unfold pyNext
    refine wpAny_bind (wpAny_attempt (wpAny_callSpecial?_slot (name := Str.ofString "__next__") ⟨_, he, rfl⟩ F.slot_enumerate_next
      (wpAny_call_entry F.slot_enumerate_next ⟨_, he, rfl⟩ F.entry_enumerate_next ?_ (F.args_enumerate_next_1 _))))
    show wpAny _ _ (field (.ref e) 2 >>= _) _ _ _
    refine wpAny_bind (wpAny_field he rfl (x := .ref it) rfl ?_)
    refine wpAny_bind (wpAny_nextOf_list_end (by simpa using I.ok.hd hc) hit p.isList hnone fun h' x he' hx' => ?_)
    obtain ⟨o, ho, hcc⟩ := hx'
    refine wpAny_bind (wpAny_isInstance (T := "StopIteration") (b := true) ⟨o, ho, hcc⟩ isSubtype_stop ?_)
    exact wpAny_pure ⟨rfl, I.turned (t' := s.toks) (fun b o hb q => he' b o hb q) f0 f1 f3 f4 f5⟩
  self := fun A i s Q E st h => let ⟨⟨_, he⟩, _⟩ := st; wpAny_pyIter_enum he h
theorem walk_enumK {K : PySem.W.Frag} {a : Addr} {k : Nat} {xs : List V} : Walk (Itk K a k) xs.length (fun H => SqL K H a xs) (YPair (fun i => some (.int ((k + i : Nat) : Int))) (fun i => xs[i]?)) :=
  ⟨fun i _ hi q => ⟨xs, xs[i], q, by simp [hi]⟩, fun _ q => ⟨xs, q, Nat.le_refl _⟩, fun i H v H' hi q y => by
    obtain ⟨T, x, rfl, hT, rfl, hx⟩ := y
    exact ⟨T, _, x, rfl, hT, rfl, rfl, hx xs q⟩⟩
/-- enumerate(xs, start=k) of a list -/
def iEnumK (K : PySem.W.Frag) (k : Nat) (ta : TA) : TI := fun σ H R => ta σ H fun vs H1 => ∃ a xs, vs = [.ref a] ∧ SqL K H1 a xs ∧ ∀ (J : It), Walk J xs.length (fun H' => SqL K H' a xs) (YPair (fun i => some (.int ((k + i : Nat) : Int))) (fun i => xs[i]?)) → R J H1
theorem pi_enumK {X : Cx} {e : Expr} {ta : TA} {p pos tpos kp cp : Pos} {elts : List Expr} {kk k z : Nat} {i : Int} (hi : i = (k : Nat)) (hg : Gl X "enumerate") (hm : X.mg "enumerate" = none) (hz : k < 2 ^ 60) (ha : PA X [e] ta) (hs : starEach [e] X.env = (false, eval e X.env) :: starEach [] X.env := by rfl)
    (hpl : (backTo pos (starEach [e] X.env)).any (·.1) = false := by rfl) :
    PI X (.Tuple elts kk tpos) (.Call (.Name "enumerate" p) [e] [⟨some "start", .Constant (.int i) z cp, kp⟩] pos) (iEnumK X.K k ta) := by
  subst hi
  refine ⟨fun pins s σ H R I h => ?_⟩
  refine wpAny_Call_Name_kw (ld_blt I hg hm boot_enumerate ?_)
  refine callWith_typeKw rfl (thn (ha.run pos pins s σ H _ I h) fun us s1 ⟨vs, H1, I1, r1, a, xs, ex, hq, q⟩ => ?_) hs hpl
  subst ex
  obtain ⟨u, rfl, ru⟩ := vals1 r1
  cases (show u = Value.ref a from ru)
  refine thn ((pk_cons pe_int pk_nil).run pos pins s1 σ H1 (fun ws H2 => ws = [.int (k : Nat)] ∧ H2 = H1) I1 ⟨rfl, rfl⟩) fun ws s2 ⟨zs, H2, I2, rz, ez, eH⟩ => ?_
  subst ez eH
  obtain ⟨u2, rfl, ru2⟩ := vals1 rz
  obtain ⟨tk, rfl⟩ := ru2
  obtain ⟨its, rv, p', hzz⟩ := I2.list hq
  have feet : ∀ b ∈ [s2.heap.objs.size + 1, s2.heap.objs.size], FpOk X pins H2 b := fun b hb => by
    have hle : s2.heap.objs.size ≤ b := by
      rcases (show b = s2.heap.objs.size + 1 ∨ b = s2.heap.objs.size by simpa using hb) with z | z
      · rw [z]; exact Nat.le_add_right _ _
      · rw [z]; exact Nat.le_refl _
    exact I2.fpOk hle (I2.hok.fresh hle)
  refine enum_begins_start (begins_list a its.toArray) p'.isList (by omega) (by omega) fun h' he hit hsz hk => wpAny_pyIter_enum he ?_
  exact ⟨s2.heap.objs.size + 1, [s2.heap.objs.size + 1, s2.heap.objs.size], _, _, H2, rfl, I2.kept (t' := s2.toks) hk, turn_enumK k a (s2.heap.objs.size + 1) s2.heap.objs.size, ⟨⟨.none, he⟩, ⟨_, hit, rfl, rfl⟩, Nat.succ_ne_self _⟩, feet, q _ walk_enumK⟩
end Ct

set_option Elab.async false
set_option linter.all false
set_option maxRecDepth 100000
set_option maxHeartbeats 4000000
namespace Pw
open PySem PySem.Spec PyProof.Rows L2 Ct
local macro_rules | `(tactic| wide_line) => `(tactic| repeat ((fail_if_success (with_reducible refine at_while ?_)); (fail_if_success (with_reducible refine at_while1 ?_)); (conv => whnf); first | ((with_reducible refine And.intro ?_ ?_); focus (first | (first | ((with_reducible show (_ : Nat) ≤ _); first | exact sz0 | exact sz1 | exact sz2 | exact sz3 | exact sz4 | exact sz5 | exact sz6 | exact sz7 | exact sz8 | exact sz10 | exact sz11 | exact sz12 | exact sz14 | omega | decide | (simp only [List.length_cons, List.length_nil]; omega)) | ((with_reducible show (_ : Int) ≤ _); first | omega | decide) | ((with_reducible show (_ : Int) < _); first | omega | decide) | ((with_reducible show (_ : Nat) < _); omega)) | ((fail_if_success (with_reducible show (_ : Nat) ≤ _)); (fail_if_success (with_reducible show (_ : Int) ≤ _)); (fail_if_success (with_reducible show (_ : Int) < _)); (fail_if_success (with_reducible show (_ : Nat) < _)); first | exact kv_str _ | exact kv_int _ | rfl | assumption | exact flat_strs _ | exact Lv.get (by assumption) 0 rfl | exact Lv.get (by assumption) 1 rfl | exact Lv.get (by assumption) 2 rfl | exact Lv.get (by assumption) 3 rfl | exact Lv.get (by assumption) 4 rfl | exact Lv.get (by assumption) 5 rfl | exact Lv.get (by assumption) 6 rfl | exact SqL.of (Lv.get (by assumption) 0 rfl) | exact SqL.of (Lv.get (by assumption) 1 rfl) | exact SqL.of (Lv.get (by assumption) 2 rfl) | exact SqL.of (Lv.get (by assumption) 3 rfl) | exact SqL.of (Lv.get (by assumption) 4 rfl) | exact SqL.of (Lv.get (by assumption) 5 rfl) | exact Or.inl (SqL.of (Lv.get (by assumption) 0 rfl)) | exact Or.inl (SqL.of (Lv.get (by assumption) 1 rfl)) | exact Or.inl (SqL.of (Lv.get (by assumption) 2 rfl)) | exact Or.inl (SqL.of (Lv.get (by assumption) 3 rfl)) | exact Or.inl (SqL.of (Lv.get (by assumption) 4 rfl)) | exact Or.inl (SqL.of (Lv.get (by assumption) 5 rfl)) | exact ⟨_, SqL.of (Lv.get (by assumption) 0 rfl)⟩ | exact ⟨_, SqL.of (Lv.get (by assumption) 1 rfl)⟩ | exact ⟨_, SqL.of (Lv.get (by assumption) 2 rfl)⟩ | exact ⟨_, SqL.of (Lv.get (by assumption) 3 rfl)⟩ | exact ⟨_, SqL.of (Lv.get (by assumption) 4 rfl)⟩ | exact ⟨_, SqL.of (Lv.get (by assumption) 5 rfl)⟩ | exact Or.inl ⟨_, SqL.of (Lv.get (by assumption) 0 rfl), rfl⟩ | exact Or.inl ⟨_, SqL.of (Lv.get (by assumption) 1 rfl), rfl⟩ | exact Or.inl ⟨_, SqL.of (Lv.get (by assumption) 2 rfl), rfl⟩ | exact Or.inl ⟨_, SqL.of (Lv.get (by assumption) 3 rfl), rfl⟩ | exact Or.inl ⟨_, SqL.of (Lv.get (by assumption) 4 rfl), rfl⟩ | exact Or.inl ⟨_, SqL.of (Lv.get (by assumption) 5 rfl), rfl⟩ | exact Or.inl ⟨rfl, _, SqL.of (Lv.get (by assumption) 0 rfl)⟩ | exact Or.inl ⟨rfl, _, SqL.of (Lv.get (by assumption) 1 rfl)⟩ | exact Or.inl ⟨rfl, _, SqL.of (Lv.get (by assumption) 2 rfl)⟩ | exact Or.inl ⟨rfl, _, SqL.of (Lv.get (by assumption) 3 rfl)⟩ | exact Or.inl ⟨rfl, _, SqL.of (Lv.get (by assumption) 4 rfl)⟩ | exact Or.inl ⟨rfl, _, SqL.of (Lv.get (by assumption) 5 rfl)⟩ | exact Or.inr (SqT.of (Lv.get (by assumption) 0 rfl)) | exact Or.inr (SqT.of (Lv.get (by assumption) 1 rfl)) | exact Or.inr (SqT.of (Lv.get (by assumption) 2 rfl)) | exact Or.inr (SqT.of (Lv.get (by assumption) 3 rfl)) | exact SqT.of (Lv.get (by assumption) 0 rfl) | exact SqT.of (Lv.get (by assumption) 1 rfl) | exact SqT.of (Lv.get (by assumption) 2 rfl) | exact dgetN (Lv.get (by assumption) 0 rfl) (by assumption) | exact dgetN (Lv.get (by assumption) 1 rfl) (by assumption) | exact dgetN (Lv.get (by assumption) 2 rfl) (by assumption) | exact dgetN (Lv.get (by assumption) 3 rfl) (by assumption) | exact dgetN (Lv.get (by assumption) 4 rfl) (by assumption) | exact Or.inl (by assumption) | exact Or.inr (by assumption) | decide | ((with_reducible show _ ∧ _); omega)))) | ((fail_if_success (with_reducible apply @Exists.intro (Nat → _))); (with_reducible apply Exists.intro))))
local macro_rules
  | `(tactic| wide_line with al $lv:ident $l:ident $nl:ident $H:ident $lv1:ident $s1:ident) => `(tactic| (intro $l:ident $nl:ident; generalize he : upd _ _ _ = $H:ident; have $lv1:ident := Lv.alE $lv $nl he; have $s1:ident := sameE $nl he; clear he; (try simp only [List.set_cons_zero, List.set_cons_succ] at $lv1:ident)))
  | `(tactic| wide_line with alx $lv:ident $nl:ident $H:ident $lv1:ident $s1:ident) => `(tactic| (generalize he : upd _ _ _ = $H:ident; have $lv1:ident := Lv.alE $lv $nl he; have $s1:ident := sameE $nl he; clear he; (try simp only [List.set_cons_zero, List.set_cons_succ] at $lv1:ident)))
  | `(tactic| wide_line with sts $lv:ident $i:num $H:ident $lv1:ident $s0:ident $np:ident $s1:ident) => `(tactic| (generalize he : upd _ _ _ = $H:ident; have $lv1:ident := Lv.stE $lv $i rfl he; have $s1:ident := sameN $s0 $np he; clear he; (try simp only [List.set_cons_zero, List.set_cons_succ] at $lv1:ident)))
  | `(tactic| wide_line with stx $lv:ident $H:ident $lv1:ident $d1:ident) => `(tactic| (generalize he : upd _ _ _ = $H:ident; have $lv1:ident := Lv.stE $lv 0 rfl he; have $d1:ident := SameD.storeE (Lv.get $lv 0 rfl) he; clear he; (try simp only [List.set_cons_zero, List.set_cons_succ] at $lv1:ident)))
  | `(tactic| wide_line with st $lv:ident $i:num $H:ident $lv1:ident) => `(tactic| (generalize he : upd _ _ _ = $H:ident; have $lv1:ident := Lv.stE $lv $i rfl he; clear he; (try simp only [List.set_cons_zero, List.set_cons_succ] at $lv1:ident)))
  | `(tactic| wide_line with stk $lv:ident $i:num $H:ident $lv1:ident $k1:ident) => `(tactic| (generalize he : upd _ _ _ = $H:ident; have $lv1:ident := Lv.stE $lv $i rfl he; have $k1:ident := KeepT.st (Lv.get $lv $i rfl) he; clear he; (try simp only [List.set_cons_zero, List.set_cons_succ] at $lv1:ident)))
theorem pairS_sw (x y : Str) : pairS x y = pairS y x := by
  unfold pairS ltS
  by_cases h1 : x.cps.toList < y.cps.toList
  · rw [decide_eq_true h1, if_pos rfl, decide_eq_false (List.lt_asymm h1), if_neg Bool.false_ne_true]
  · rw [decide_eq_false h1, if_neg Bool.false_ne_true]
    by_cases h2 : y.cps.toList < x.cps.toList
    · rw [decide_eq_true h2, if_pos rfl]
    · rw [decide_eq_false h2, if_neg Bool.false_ne_true]
      have : x = y := str_ext' (List.le_antisymm h2 h1)
      rw [this]
theorem pairP_eq {t u : Str × Str} : pairP t = pairP u ↔ t = u ∨ (t.2, t.1) = u := by
  obtain ⟨x, y⟩ := t
  obtain ⟨a, b⟩ := u
  unfold pairP
  constructor
  · intro e
    dsimp only at e
    rcases pairS_or x y with z | z <;> rcases pairS_or a b with z' | z' <;> rw [z, z'] at e <;> cases e
    · exact .inl rfl
    · exact .inr rfl
    · exact .inr rfl
    · exact .inl rfl
  · rintro (h | h)
    · cases h; rfl
    · cases h
      exact pairS_sw x y
theorem tiesAt_of {K : PySem.W.Frag} {H : Hp} : ∀ {xs : List V} {ts : List (Str × Str)}, TiesT H xs ts → TiesAt K H xs ts
  | _, _, .nil => .nil
  | _, _, .cons ⟨a, e, h⟩ t => .cons ⟨a, e, SqT.of h⟩ (tiesAt_of t)
/-- what has been read so far is right -/
structure ROk (ps : List Str) (ts : List (Str × Str)) : Prop where
  len : ps.length ≤ 12
  nd : ps.Nodup
  nm : ∀ x ∈ ps, okName x = true
  tie : ∀ t ∈ ts, t.1 ∈ ps ∧ t.2 ∈ ps ∧ t.1 ≠ t.2
  dif : (ts.map pairP).Nodup
theorem ROk.nil : ROk [] [] := ⟨by decide, List.nodup_nil, (fun _ z => nomatch z), (fun _ z => nomatch z), List.nodup_nil⟩
theorem ROk.step {ps ps' : List Str} {ts ts' : List (Str × Str)} {l : Str} (h : ROk ps ts) (e : stepT ps ts l = some (ps', ts')) : ROk ps' ts' := by
  have z : readT 0 ps ts [l] = .inr (ps', ts') := by
    unfold readT
    rw [e]
    rfl
  have r := readT_ok z h.len h.nd h.nm h.tie h.dif
  exact ⟨r.1, r.2.1, r.2.2.1, r.2.2.2.1, r.2.2.2.2.1⟩
theorem readT_next {ls : List Str} {i n : Nat} {l : Str} {ps : List Str} {ts : List (Str × Str)} (hl : ls[i]? = some l) : readT n ps ts (ls.drop i) = match stepT ps ts l with
    | none => .inl n
    | some q => readT (n + 1) q.1 q.2 (ls.drop (i + 1)) := by
  obtain ⟨hi, e⟩ := List.getElem?_eq_some_iff.mp hl
  rw [List.drop_eq_getElem_cons hi, e]
  show readT n ps ts (l :: ls.drop (i + 1)) = _
  rw [readT]
  cases stepT ps ts l with
  | none => rfl
  | some q => rfl
theorem step_of {ps : List Str} {ts : List (Str × Str)} (l : Str) (h : ROk ps ts) :
    (ts = [] ∧ nextP ps (Txt.split l SP) = true ∧ ∃ w : Str, Txt.split l SP = [("place" : Str), w] ∧ stepT ps ts l = some (ps ++ [w], ts)) ∨
    ((ts = [] → nextP ps (Txt.split l SP) = false) ∧ nextT ps ts (Txt.split l SP) = true ∧ ∃ x y : Str, Txt.split l SP = [("tie" : Str), x, y] ∧ stepT ps ts l = some (ps, ts ++ [(x, y)])) ∨
    ((ts = [] → nextP ps (Txt.split l SP) = false) ∧ nextT ps ts (Txt.split l SP) = false ∧ stepT ps ts l = none) := by
  unfold stepT
  generalize Txt.split l SP = ws
  match ws with
  | [] => exact .inr (.inr ⟨fun _ => rfl, rfl, rfl⟩)
  | [_] => exact .inr (.inr ⟨fun _ => rfl, rfl, rfl⟩)
  | [a, w] =>
    have len := h.len
    have en : nextP ps [a, w] = (decide (a = "place") && (!decide (ps.length = 12) && (okName w && !decide (w ∈ ps)))) := rfl
    rw [en]
    by_cases c : a = "place" ∧ ts = [] ∧ ps.length < 12 ∧ okName w = true ∧ w ∉ ps
    · obtain ⟨rfl, rfl, c3, c4, c5⟩ := c
      refine .inl ⟨rfl, ?_, w, rfl, if_pos ⟨rfl, rfl, c3, c4, c5⟩⟩
      rw [decide_eq_true rfl, decide_eq_false (by omega), c4, decide_eq_false c5]
      rfl
    · refine .inr (.inr ⟨fun et => ?_, rfl, if_neg c⟩)
      by_cases c1 : a = "place"
      · by_cases c3 : ps.length = 12
        · rw [decide_eq_true c3, Bool.not_true, Bool.false_and, Bool.and_false]
        · cases c4 : okName w with
          | false => rw [Bool.false_and, Bool.and_false, Bool.and_false]
          | true =>
            by_cases c5 : w ∈ ps
            · rw [decide_eq_true c5, Bool.not_true, Bool.and_false, Bool.and_false, Bool.and_false]
            · exact absurd ⟨c1, et, by omega, c4, c5⟩ c
      · rw [decide_eq_false c1, Bool.false_and]
  | [a, x, y] =>
    have en : nextT ps ts [a, x, y] = (decide (a = "tie") && (decide (x ∈ ps) && (decide (y ∈ ps) && (!decide (x = y) && !decide (pairP (x, y) ∈ ts.map pairP))))) := rfl
    rw [en]
    by_cases c : a = "tie" ∧ x ∈ ps ∧ y ∈ ps ∧ x ≠ y ∧ pairP (x, y) ∉ ts.map pairP
    · refine .inr (.inl ⟨fun _ => rfl, ?_, x, y, ?_, if_pos c⟩)
      · obtain ⟨c1, c2, c3, c4, c5⟩ := c
        rw [decide_eq_true c1, decide_eq_true c2, decide_eq_true c3, decide_eq_false c4, decide_eq_false c5]
        rfl
      · rw [c.1]
    · refine .inr (.inr ⟨fun _ => rfl, ?_, if_neg c⟩)
      by_cases c1 : a = "tie"
      · by_cases c2 : x ∈ ps
        · by_cases c3 : y ∈ ps
          · by_cases c4 : x = y
            · rw [decide_eq_true c4, Bool.not_true, Bool.false_and, Bool.and_false, Bool.and_false, Bool.and_false]
            · by_cases c5 : pairP (x, y) ∈ ts.map pairP
              · rw [decide_eq_true c5, Bool.not_true, Bool.and_false, Bool.and_false, Bool.and_false, Bool.and_false]
              · exact absurd ⟨c1, c2, c3, c4, c5⟩ c
          · rw [decide_eq_false c3, Bool.false_and, Bool.and_false, Bool.and_false]
        · rw [decide_eq_false c2, Bool.false_and, Bool.and_false]
      · rw [decide_eq_false c1, Bool.false_and]
  | _ :: _ :: _ :: _ :: _ => exact .inr (.inr ⟨fun _ => rfl, rfl, rfl⟩)
theorem few_tiesR {ns : List Str} {ts : List (Str × Str)} (h : ROk ns ts) : ts.length ≤ 66 := by
  have h2 := nodup_len (ns := ((List.range 12).flatMap fun j => (List.range j).map fun i => (i, j)).map fun q => pairS (ns.getD q.1 "") (ns.getD q.2 "")) h.dif fun x hx => ?_
  · rw [List.length_map, List.length_map] at h2
    exact Nat.le_trans h2 (by decide +kernel)
  · obtain ⟨t, ht, rfl⟩ := List.mem_map.mp hx
    obtain ⟨m1, m2, ne⟩ := h.tie t ht
    obtain ⟨i, hi⟩ := List.getElem?_of_mem m1
    obtain ⟨j, hj⟩ := List.getElem?_of_mem m2
    have li := (List.getElem?_eq_some_iff.mp hi).1
    have lj := (List.getElem?_eq_some_iff.mp hj).1
    have mo := h.len
    have ei : ns.getD i "" = t.1 := by rw [List.getD_eq_getElem?_getD, hi]; rfl
    have ej : ns.getD j "" = t.2 := by rw [List.getD_eq_getElem?_getD, hj]; rfl
    have nij : i ≠ j := fun z => by subst z; rw [hi] at hj; exact ne (Option.some.inj hj)
    by_cases c : i < j
    · exact List.mem_map.mpr ⟨(i, j), mem_pairs12 (by decide) ⟨c, by show j < 12; omega⟩, by dsimp only; rw [ei, ej]; rfl⟩
    · exact List.mem_map.mpr ⟨(j, i), mem_pairs12 (by decide) ⟨by show j < i; omega, by show i < 12; omega⟩, by dsimp only; rw [ei, ej, pairS_sw]; rfl⟩
/-- the dict of the ties that are known -/
def TK (kvs : List (List Key × V)) (ts : List (Str × Str)) : Prop := kvs.length ≤ 2 * ts.length ∧ ∀ a b : Str, (valV kvs [.inr a, .inr b]).isSome = decide (pairP (a, b) ∈ ts.map pairP)
theorem TK.step {kvs : List (List Key × V)} {ts : List (Str × Str)} {x y : Str} {v u : V} (h : TK kvs ts) : TK (putK (putK kvs [.inr x, .inr y] v) [.inr y, .inr x] u) (ts ++ [(x, y)]) := by
  refine ⟨?_, fun a b => ?_⟩
  · have h1 := length_putK kvs [.inr x, .inr y] v
    have h2 := length_putK (putK kvs [.inr x, .inr y] v) [.inr y, .inr x] u
    have h3 := h.1
    rw [List.length_append, List.length_singleton]
    omega
  · rw [valV_put, valV_put, List.map_append]
    have ee : ∀ {c d e f : Str}, ([.inr c, .inr d] : List Key) = [.inr e, .inr f] ↔ c = e ∧ d = f := fun {c d e f} => ⟨fun z => by injection z with z1 z2; injection z1 with z1; injection z2 with z2 z3; injection z2 with z2; exact ⟨z1, z2⟩, fun z => by rw [z.1, z.2]⟩
    have pe : pairP (a, b) = pairP (x, y) ↔ (a, b) = (x, y) ∨ (b, a) = (x, y) := pairP_eq
    by_cases c1 : a = y ∧ b = x
    · rw [if_pos (ee.mpr c1), Option.isSome_some]
      refine (decide_eq_true (List.mem_append.mpr (.inr (List.mem_singleton.mpr (pe.mpr (.inr ?_)))))).symm
      rw [c1.1, c1.2]
    · rw [if_neg (fun z => c1 (ee.mp z))]
      by_cases c2 : a = x ∧ b = y
      · rw [if_pos (ee.mpr c2), Option.isSome_some]
        refine (decide_eq_true (List.mem_append.mpr (.inr (List.mem_singleton.mpr (pe.mpr (.inl ?_)))))).symm
        rw [c2.1, c2.2]
      · rw [if_neg (fun z => c2 (ee.mp z)), h.2]
        refine decide_eq_decide.mpr ⟨fun z => List.mem_append.mpr (.inl z), fun z => ?_⟩
        rcases List.mem_append.mp z with z | z
        · exact z
        · rcases pe.mp (List.mem_singleton.mp z) with z | z
          · exact absurd ⟨congrArg Prod.fst z, congrArg Prod.snd z⟩ c2
          · exact absurd ⟨congrArg Prod.snd z, congrArg Prod.fst z⟩ c1
theorem TK.nil : TK [] [] := ⟨Nat.le_refl _, fun _ _ => rfl⟩
/-- a text's parts are no longer than it -/
theorem join_len {s : Str} : ∀ {l : List Str}, ∀ z ∈ l, z.length ≤ (Str.join s l).length
  | [a], z, h => by rw [List.mem_singleton.mp h]; exact Nat.le_refl _
  | a :: b :: l, z, h => by
    have e : (Str.join s (a :: b :: l)).length = a.length + s.length + (Str.join s (b :: l)).length := by
      show ((a ++ s) ++ Str.join s (b :: l)).length = _
      rw [strLen_append, strLen_append]
    rw [e]
    rcases List.mem_cons.mp h with rfl | h
    · omega
    · have := join_len (s := s) z h
      omega
theorem split_len {T s z : Str} (h : z ∈ Txt.split T s) : z.length ≤ T.length := by
  have := join_len (s := s) z h
  rwa [PySem.StrLaws.join_split] at this
theorem read_one {ls : List Str} {ps : List Str} {ts : List (Str × Str)} (ne : ls ≠ []) (h : readT 1 [] [] ls = .inr (ps, ts)) : 1 ≤ ps.length := by
  cases ls with
  | nil => exact absurd rfl ne
  | cons l ls =>
    rw [readT] at h
    split at h
    · cases h
    · rename_i p1 t1 es
      have es' := es
      rcases stepT_line es' with ⟨_, rfl, w, rfl, _⟩ | ⟨_, t, _, _, k1, _⟩
      · have r := ROk.nil.step es
        exact (readT_ok h r.len r.nd r.nm r.tie r.dif).2.2.2.2.2
      · cases k1
theorem split_ne (T s : Str) : Txt.split T s ≠ [] := by
  unfold Txt.split
  split
  · exact List.cons_ne_nil _ _
  · split
    · exact List.cons_ne_nil _ _
    · rw [PySem.StrLaws.partsBetween_eq]
      obtain ⟨p, q, e⟩ := PySem.StrLaws.partsFrom_ne T s.length 0 (Builtin.Str.occurrences T s 0 T.length (T.length + 1))
      rw [e]
      exact List.cons_ne_nil _ _
def strB : PyData → Bool
  | .str _ => true
  | _ => false
theorem kit_strB (d : PyData) : kitB (dty d) "str" = some (strB d) := by cases d <;> rfl
/-- read_web(value) -/
def spReadWeb (K : PySem.W.Frag) (C CB : Addr) : Sp := fun vs H Q E => ∃ (v : V) (d : PyData), vs = [v] ∧ Dq K H v d ∧ ((∀ T, d ≠ .str T) → Raised CB "line" H (.int 1) E) ∧
  ∀ T, d = .str T → T.length ≤ 16000000 ∧ (∀ n : Nat, readT 1 [] [] (Txt.split T NL) = .inl n → Raised CB "line" H (.int (n : Nat)) E) ∧ (∀ ps ts, readT 1 [] [] (Txt.split T NL) = .inr (ps, ts) → ∀ x H', Same H H' → H x = none → WebAt K C (noLst H H') x ps ts → Q (.ref x) H')
section
variable {P : Program} {w : World} {K : PySem.W.Frag} {mg : Str → Option Value} {base : Heap} {C CP CS CT CB : Addr}
abbrev sReadWeb : Stmt := top ix_read_web
theorem scReadWeb : FnScope ["text", "places", "ties", "tied", "number", "line", "words", "_", "one", "other"] ["text"] (defScope sReadWeb) := ⟨rfl, rfl, rfl, by decide +kernel, rfl, by decide +kernel, by decide +kernel⟩
theorem has_read_web (T : Bn mg) (D : DFE K mg "read_web" sReadWeb ["text"]) (h_is_next_place : Has P w K mg base CX0 2 "_is_next_place" ["places", "words"] (spNextP K)) (h_is_next_tie : Has P w K mg base CX0 1 "_is_next_tie" ["places", "tied", "words"] (spNextT K)) (hE_BadText : HasE P w K mg base 1 "BadText" CB "line") (hW : HasW P w K mg base 4 C CP CS CT) : HasR P w K mg base 6 "read_web" ["text"] (spReadWeb K C CB) := by
  refine hasR_of D scReadWeb (fun vs H Q E h => ?_) (fun f cdv A outer s H vs Q E hr h => ?_)
  · obtain ⟨v, d, rfl, _⟩ := h; rfl
  · obtain ⟨v, d, rfl, hd, kn, ky⟩ := h
    have nd := scReadWeb.nd
    refine ⟨_, (pss_cons (ps_if (pt_not (pt_val (pe_callB call_isD (by rfl) T.z_isinstance (by decide +kernel) (pa_cons (pv 0) (pa_cons (pe_bltn (v := .ty "str") rfl T.z_str (by decide +kernel) rfl) pa_nil))))) (pss_one (ps_raise rfl (takes_of rfl rfl rfl rfl) (pmk_x hE_BadText hr (by decide) rfl pe_int))) pss_nil)
    (pss_cons (ps_sv 1 nd (pe_lst pa_nil))
    (pss_cons (ps_sv 2 nd (pe_lst pa_nil))
    (pss_cons (ps_sv 3 nd pe_dnewT)
    (pss_cons (ps_for (passes_of rfl) rfl (pi_enumK (k := 1) rfl rfl T.z_enumerate (by decide) (pa_cons (pe_split (pv 0) pe_str) pa_nil)) (pg_tup (n := 2) rfl (pgs_cons (pg_name (i := 4) nd rfl (by first | exact Or.inl rfl | exact Or.inr rfl)) (pgs_cons (pg_name (i := 5) nd rfl (by first | exact Or.inl rfl | exact Or.inr rfl)) pgs_nil))) (pss_cons (ps_sv 6 nd (pe_split (pv 5) pe_str))
    (pss_one (ps_if (PW.pt (pw_and (pt_not (pt_truth (pv 2) (by intro _; rfl))) (pw_and1 (pt_val (pe_h h_is_next_place hr (by decide) rfl (pa_cons (pv 1) (pa_cons (pv 6) pa_nil))))))) (pss_one (ps_expr (pe_bm PySem.F.plainAttrs_list PySem.F.slot_list_append PySem.F.type_list_append mt_append (pv 1) (pa_cons (pe_ix ix_list (pv 6) pe_int (fun _ _ => rfl)) pa_nil)))) (pss_one (ps_if (pt_val (pe_h h_is_next_tie hr (by decide) rfl (pa_cons (pv 1) (pa_cons (pv 3) (pa_cons (pv 6) pa_nil))))) (pss_cons (ps_asg (pv 6) (pg_unl (n := 3) rfl (pgs_cons (pg_name (i := 7) nd rfl (by first | exact Or.inl rfl | exact Or.inr rfl)) (pgs_cons (pg_name (i := 8) nd rfl (by first | exact Or.inl rfl | exact Or.inr rfl)) (pgs_cons (pg_name (i := 9) nd rfl (by first | exact Or.inl rfl | exact Or.inr rfl)) pgs_nil)))))
    (pss_cons (ps_expr (pe_bm PySem.F.plainAttrs_list PySem.F.slot_list_append PySem.F.type_list_append mt_append (pv 2) (pa_cons (pe_tup (pa_cons (pv 8) (pa_cons (pv 9) pa_nil))) pa_nil)))
    (pss_one (ps_asg2 pe_bl (pg_sub (pv 3) (pe_tup (pa_cons (pv 8) (pa_cons (pv 9) pa_nil))) (set_dict (hu_of hr))) (pg_sub (pv 3) (pe_tup (pa_cons (pv 9) (pa_cons (pv 8) pa_nil))) (set_dict (hu_of hr))))))) (pss_one (ps_raise rfl (takes_of rfl rfl rfl rfl) (pmk_x hE_BadText hr (by decide) rfl (pv 4))))))))))
    (pss_one (ps_ret (pe_web hW hr (by decide) rfl (pa_cons (pv 1) (pa_cons (pv 2) pa_nil)))))))))), ?_⟩
    refine ⟨_, rfl, _, d, "str", _, rfl, hd, kit_strB d, _, rfl, ?_⟩
    have st : (∃ T, d = .str T) ∨ ((∀ T, d ≠ .str T) ∧ strB d = false) := by
      cases d <;> first | exact .inl ⟨_, rfl⟩ | exact .inr ⟨(fun _ z => nomatch z), rfl⟩
    rcases st with ⟨T, rfl⟩ | ⟨no, e⟩
    case inr =>
      rw [e]
      exact iteT fun x hx => kn no x _ (same_new hx) hx upd_same
    obtain ⟨len, kb, kg⟩ := ky T rfl
    cases hd
    refine iteF ?_
    refine ⟨sz0, fun p np => ?_⟩
    have lv0 := Lv.zero H
    wide_line with alx lv0 np H1 lv1 s1
    refine ⟨sz0, fun t nt => ?_⟩
    wide_line with alx lv1 nt H2 lv2 s2
    refine fun D nD => ?_
    wide_line with alx lv2 nD H3 lv3 s3
    refine ⟨_, rfl, ⟨_, rfl⟩, T, NL, rfl, rfl, rfl, by rw [sizeLine_eq]; omega, fun L nL => ?_⟩
    wide_line with alx lv3 nL H4 lv4 s4
    refine ⟨L, _, rfl, SqL.of (lv4.get 0 rfl), fun J wk => ?_⟩
    have len_ls : ((Txt.split T NL).map V.str).length = (Txt.split T NL).length := List.length_map _
    refine for_it wk (fun i σ H' => Hold (∃ (ps : List Str) (ts : List (Str × Str)) (tx : List V) (kvs : List (List Key × V)) (s4 s5 s6 s7 s8 s9 : Option V), σ = [some (.str T), some (.ref p), some (.ref t), some (.ref D), s4, s5, s6, s7, s8, s9] ∧ Lv H [] H' [(L, .lst ((Txt.split T NL).map V.str)), (D, .dT kvs), (t, .lst tx), (p, .lst (ps.map V.str))] ∧ TiesT H' tx ts ∧ TK kvs ts ∧ ROk ps ts ∧
      readT 1 [] [] (Txt.split T NL) = readT (1 + i) ps ts ((Txt.split T NL).drop i))) ?_ ?_ ?_ ?_
    · exact ⟨[], [], [], [], none, none, none, none, none, none, rfl, lv4, .nil, .nil, .nil, rfl⟩
    · exact fun i σ H' _ ⟨_, _, _, _, _, _, _, _, _, _, _, lv, _⟩ => SqL.of (lv.get 0 rfl)
    · rintro i x σ H5 H6 hi ⟨ps, ts, tx, kvs, s4, s5, s6, s7, s8, s9, rfl, lv5, ht5, tk5, ro5, er⟩ ⟨U, x1, x2, rfl, nU, rfl, ex1, ex2⟩
      cases ex1
      obtain ⟨l, hl, rfl⟩ := str_at ex2
      wide_line with alx lv5 nU H6 lv6 s6'
      refine ⟨U, _, rfl, SqT.of (lv6.get 0 rfl), rfl, _, _, rfl, _, _, rfl, rfl, ?_⟩
      have ll : l.length ≤ 16000000 := Nat.le_trans (split_len (List.mem_of_getElem? hl)) len
      refine ⟨_, rfl, ⟨_, rfl⟩, l, SP, rfl, rfl, rfl, by rw [sizeLine_eq]; omega, fun W nW => ?_⟩
      wide_line with alx lv6 nW H7 lv7 s7'
      have ht7 : TiesT H7 tx ts := TiesT.keep (KeepT.same (s6'.trans s7')) ht5
      have lenW : ∀ x ∈ Txt.split l SP, x.length ≤ 16000000 := fun x hx => Nat.le_trans (split_len hx) ll
      have rn := readT_next (n := 1 + i) (ps := ps) (ts := ts) hl
      rw [rn] at er
      have tlen : tx.length = ts.length := paired_len ht5
      have few := few_tiesR ro5
      rcases step_of l ro5 with ⟨rfl, n1, w1, ew, es⟩ | ⟨n1, n2, x1, y1, ew, es⟩ | ⟨n1, n2, es⟩
      · -- a place
        have e0 : tx = [] := List.eq_nil_of_length_eq_zero tlen
        subst e0
        rw [ew] at n1 lv7 lenW
        rw [es] at er
        refine ⟨_, rfl, false, .inl ⟨_, SqL.of (lv7.get 4 rfl), rfl⟩, ?_⟩
        refine iteT ⟨_, rfl, _, rfl, p, W, ps, _, rfl, SqL.of (lv7.get 5 rfl), SqL.of (lv7.get 0 rfl), lenW, fun H8 s8 => ?_⟩
        rw [n1]
        refine ⟨_, rfl, iteT ?_⟩
        have lv8 := lv7.same s8
        refine ⟨_, rfl, .inl ⟨rfl, _, SqL.of (lv8.get 5 rfl)⟩, _, rfl, W, _, 1, .str w1, rfl, rfl, SqL.of (lv8.get 0 rfl), atI_nat (j := 1) rfl, p, _, _, rfl, rfl, lv8.get 5 rfl, by have := ro5.len; rw [List.length_map, sizeLine_eq]; omega, ?_⟩
        wide_line with st lv8 5 H9 lv9
        have lvA : Lv H [] H9 [(L, .lst ((Txt.split T NL).map V.str)), (D, .dT kvs), (t, .lst []), (p, .lst ((ps ++ [w1]).map V.str))] := by
          rw [List.map_append]
          exact lv9.picks [2, 3, 4, 5] rfl (by decide) (fun _ z => nomatch z)
        exact ⟨_, [], [], kvs, _, _, _, _, _, _, rfl, lvA, .nil, tk5, ro5.step es, er⟩
      · -- a tie
        rw [es] at er
        have lens := lenW
        rw [ew] at n2 lv7 lenW
        try dsimp only [gName]
        refine ifs_to (fun b H' => b = false ∧ Same H7 H') (fun Q0 hQ => ?_) (fun H' h => by cases h.1) (fun H8 ⟨_, s8⟩ => ?_)
        · cases ts with
          | nil =>
            have e0 : tx = [] := List.eq_nil_of_length_eq_zero tlen
            subst e0
            refine ⟨_, rfl, false, .inl ⟨_, SqL.of (lv7.get 4 rfl), rfl⟩, ?_⟩
            refine iteT ⟨_, rfl, _, rfl, p, W, ps, _, rfl, SqL.of (lv7.get 5 rfl), SqL.of (lv7.get 0 rfl), lenW, fun H8 s8 => ?_⟩
            have n1' := n1 rfl
            rw [ew] at n1'
            rw [n1']
            exact ⟨_, rfl, hQ _ _ ⟨rfl, s8⟩⟩
          | cons t0 tr =>
            obtain ⟨x0, xr, rfl⟩ : ∃ x0 xr, tx = x0 :: xr := by
              cases tx with
              | nil => cases tlen
              | cons a b => exact ⟨a, b, rfl⟩
            exact ⟨_, rfl, true, .inl ⟨_, SqL.of (lv7.get 4 rfl), rfl⟩, iteF (hQ _ _ ⟨rfl, .refl _⟩)⟩
        have lv8 := lv7.same s8
        refine ⟨_, rfl, _, rfl, _, rfl, p, D, W, ps, _, ts, rfl, SqL.of (lv8.get 5 rfl), ⟨kvs, lv8.get 3 rfl, tk5.2⟩, SqL.of (lv8.get 0 rfl), fun H9 s9 => ?_⟩
        rw [n2]
        refine ⟨_, rfl, iteT ?_⟩
        have lv9 := lv8.same s9
        have ht9 : TiesT H9 tx ts := TiesT.keep (KeepT.same (s8.trans s9)) ht7
        refine ⟨_, rfl, W, _, rfl, SqL.of (lv9.get 0 rfl), rfl, ?_⟩
        refine ⟨_, _, rfl, _, _, rfl, _, _, rfl, rfl, ?_⟩
        refine ⟨_, rfl, .inl ⟨rfl, _, SqL.of (lv9.get 4 rfl)⟩, _, rfl, _, rfl, sz2, fun q nq => ?_⟩
        wide_line with alx lv9 nq H10 lv10 s10
        refine ⟨t, _, _, rfl, rfl, lv10.get 5 rfl, by rw [tlen, sizeLine_eq]; omega, ?_⟩
        wide_line with stk lv10 5 H11 lv11 k11
        refine ⟨_, rfl, _, rfl, _, rfl, sz2, fun q1 nq1 => ?_⟩
        wide_line with alx lv11 nq1 H12 lv12 s12
        refine ⟨D, _, rfl, DPut.t (k := [.inr x1, .inr y1]) (lv12.get 5 rfl) (lv12.get 0 rfl) (by have := tk5.1; rw [sizeLine_eq]; omega), ?_⟩
        generalize he : upd _ _ _ = H13
        have lv13 := Lv.stE lv12 5 rfl he
        have k13 : KeepT H12 H13 := KeepT.off (lv12.get 5 rfl) (fun _ z => nomatch z) (fun b o nb e => by rw [← he, upd_ne nb]; exact e)
        clear he
        try dsimp only at lv13
        refine ⟨_, rfl, _, rfl, _, rfl, sz2, fun q2 nq2 => ?_⟩
        wide_line with alx lv13 nq2 H14 lv14 s14
        refine ⟨D, _, rfl, DPut.t (k := [.inr y1, .inr x1]) (lv14.get 6 rfl) (lv14.get 0 rfl) (by have := tk5.1; have := length_putK kvs [.inr x1, .inr y1] (.bl true); rw [sizeLine_eq]; omega), ?_⟩
        generalize he : upd _ _ _ = H15
        have lv15 := Lv.stE lv14 6 rfl he
        have k15 : KeepT H14 H15 := KeepT.off (lv14.get 6 rfl) (fun _ z => nomatch z) (fun b o nb e => by rw [← he, upd_ne nb]; exact e)
        clear he
        try dsimp only at lv15
        have ht15 : TiesT H15 tx ts := TiesT.keep ((KeepT.same s10).trans (k11.trans ((KeepT.same s12).trans (k13.trans ((KeepT.same s14).trans k15))))) ht9
        exact ⟨ps, ts ++ [(x1, y1)], tx ++ [.ref q], _, _, _, _, _, _, _, rfl, lv15.picks [5, 6, 7, 8] rfl (by decide) (fun _ z => nomatch z), paired_app ht15 (.cons ⟨q, rfl, lv15.get 2 rfl⟩ .nil), tk5.step, ro5.step es, er⟩
      · -- neither
        rw [es] at er
        try dsimp only [gName]
        refine ifs_to (fun b H' => b = false ∧ Same H7 H') (fun Q0 hQ => ?_) (fun H' h => by cases h.1) (fun H8 ⟨_, s8⟩ => ?_)
        · cases ts with
          | nil =>
            have e0 : tx = [] := List.eq_nil_of_length_eq_zero tlen
            subst e0
            refine ⟨_, rfl, false, .inl ⟨_, SqL.of (lv7.get 4 rfl), rfl⟩, ?_⟩
            refine iteT ⟨_, rfl, _, rfl, p, W, ps, _, rfl, SqL.of (lv7.get 5 rfl), SqL.of (lv7.get 0 rfl), lenW, fun H8 s8 => ?_⟩
            rw [n1 rfl]
            exact ⟨_, rfl, hQ _ _ ⟨rfl, s8⟩⟩
          | cons t0 tr =>
            obtain ⟨x0, xr, rfl⟩ : ∃ x0 xr, tx = x0 :: xr := by
              cases tx with
              | nil => cases tlen
              | cons a b => exact ⟨a, b, rfl⟩
            exact ⟨_, rfl, true, .inl ⟨_, SqL.of (lv7.get 4 rfl), rfl⟩, iteF (hQ _ _ ⟨rfl, .refl _⟩)⟩
        have lv8 := lv7.same s8
        refine ⟨_, rfl, _, rfl, _, rfl, p, D, W, ps, _, ts, rfl, SqL.of (lv8.get 5 rfl), ⟨kvs, lv8.get 3 rfl, tk5.2⟩, SqL.of (lv8.get 0 rfl), fun H9 s9 => ?_⟩
        rw [n2]
        refine ⟨_, rfl, iteF ⟨_, rfl, fun x hx => ?_⟩⟩
        have lv9 := lv8.same s9
        exact kb (1 + i) er x _ (same_upd lv9.sm (lv9.free hx)) (lv9.free hx) upd_same
    · rintro σ H5 ⟨ps, ts, tx, kvs, s4, s5, s6, s7, s8, s9, rfl, lv5, ht5, tk5, ro5, er⟩
      rw [len_ls, List.drop_length] at er
      have few := few_tiesR ro5
      have pk : PlanOk 12 ps ts := ⟨read_one (split_ne T NL) er, ro5.len, ro5.nd, ro5.nm, ro5.tie, ro5.dif, by omega⟩
      refine ⟨_, rfl, _, rfl, p, t, 12, ps, tx, ts, rfl, .inl (SqL.of (lv5.get 3 rfl)), .inl (SqL.of (lv5.get 2 rfl)), tiesAt_of ht5, pk, Nat.le_refl _, fun x H6 s6 nx wx => ?_⟩
      exact kg ps ts er x H6 (lv5.sm.trans s6) (lv5.free nx) (WebAt.same (noLst_le lv5.sm) wx)
end
end Pw

set_option Elab.async false
set_option linter.all false
set_option maxRecDepth 100000
set_option maxHeartbeats 4000000
/-! t[::-1] of a pair. -/
namespace Ct
open PySem PySem.Spec PyProof.Rows L2
section
variable {prog : Program} {w : World} {A : Around} {E : Value → Shared → Prop} {s : Shared}
theorem backApplied {q : Addr} {tk : Value} {G : Int × Int × Nat → Shared → Prop} (hq : s.heap.IsSliceOf q .none .none tk) (p1 : IsPart tk (some (-1))) (g : G (1, -1, 2) s) :
    wpAny (model prog w) A (Builtin.Slice.sliceApplied (.ref q) (pure ((2 : Nat) : Int))) G E s := by
  obtain ⟨ob, hob, _, hd⟩ := id hq
  unfold Builtin.Slice.sliceApplied Builtin.Slice.sliceFields
  refine wpAny_bind (wpAny_bind (wpAny_field hob hd (x := .none) rfl (wpAny_bind (wpAny_field hob hd (x := .none) rfl (wpAny_bind (wpAny_field hob hd (x := tk) rfl (wpAny_pure ?_)))))))
  refine wpAny_bind (HT.slicePart_ p1 ?_)
  show wpAny _ _ (if ((-1 : Int) == 0) = true then _ else _) _ _ s
  rw [if_neg (by decide)]
  refine wpAny_bind (slicePart_none (wpAny_bind (slicePart_none (wpAny_bind (wpAny_pure ?_)))))
  exact wpAny_pure g
theorem getBack {t q : Addr} {x y tk : Value} {G : Value → Shared → Prop} (ht : IsTup s.heap t #[x, y]) (hq : s.heap.IsSliceOf q .none .none tk) (p1 : IsPart tk (some (-1)))
    (g : G (.ref s.heap.objs.size) { s with heap := s.heap.push { cls := .type "tuple", data := .seq #[y, x] } }) : wpAny (model prog w) A (getItem (.ref t) (.ref q)) G E s := by
  have fits : sizeOk (.seq #[y, x]) := by show 2 ≤ sizeLine; decide
  obtain ⟨ob, hob, hcl, hd⟩ := id hq
  have isS : s.TypeIs (.ref q) "slice" := ⟨ob, hob, hcl⟩
  unfold getItem
  try with_reducible refine wpAny_holding ?_
  first | refine wpAny_bind (wpAny_pure ?_) | skip
  refine wpAny_bind (wpAny_sequenceKey ht.typeIs (by decide) ?_)
  refine wpAny_bind (wpAny_callSpecial?_slot (name := Str.ofString "__getitem__") ht.typeIs PyProof.Rows.slot_tuple_getitem (wpAny_call_entry PyProof.Rows.slot_tuple_getitem ht.typeIs entry_tuple_getitem ?_ (args_tuple_getitem _ _)))
  show wpAny _ _ (Builtin.Tuple.tupleItemsOf (.ref t) >>= _) _ _ s
  refine wpAny_bind (tupleItemsOf_ ht (wpAny_bind (wpAny_typeOf isS ?_)))
  rw [if_pos (by decide)]
  refine wpAny_bind (backApplied hq p1 ?_)
  show wpAny _ _ (if ((1 : Int) == 0 && (-1 : Int) == 1 && (2 : Nat) == #[x, y].size) = true then _ else _) _ _ s
  rw [if_neg (fun z => by cases z)]
  first
    | exact wpAny_bind (m := Builtin.Tuple.tupleExact _) (wpAny_newObj_type (wpAny_pure ⟨_, rfl, wpAny_pure g⟩) fits)
    | exact wpAny_bind (m := Builtin.Tuple.tupleExact _) (wpAny_newObj_type (wpAny_bind (wpAny_pure (wpAny_pure ⟨_, rfl, wpAny_pure g⟩))) fits)
    | exact wpAny_bind (wpAny_bind (m := Builtin.Tuple.tupleExact _) (wpAny_newObj_type (wpAny_pure (wpAny_pure ⟨_, rfl, wpAny_pure g⟩)) fits))
    | exact wpAny_bind (wpAny_bind (m := Builtin.Tuple.tupleExact _) (wpAny_newObj_type (wpAny_pure ⟨_, rfl, wpAny_pure g⟩) fits))
end
section
variable {X : Cx}
def tBack (K : PySem.W.Frag) (te : TE) : TE := fun σ H Q => te σ H fun v H1 => ∃ a x y, v = .ref a ∧ SqT K H1 a [x, y] ∧ ∀ p, H1 p = none → Q (.ref p) (upd H1 p (.tup [y, x]))
theorem pe_back {e : Expr} {te : TE} {k : Nat} {p1 p2 p3 pos : Pos} (he : PE X e te) : PE X (.Subscript e (.Slice none none (some (.UnaryOp .USub (.Constant (.int 1) k p1) p2)) p3) pos) (tBack X.K te) := by
  refine ⟨fun pins s0 σ H G I h => Subscript_ (thn (he.run pins s0 σ H _ I h) fun v s1 ⟨z, H1, I1, r1, q1⟩ => ?_)⟩
  obtain ⟨a, x, y, ez, hx, g⟩ := q1
  subst ez
  cases r1
  have part : PO X (some (.UnaryOp .USub (.Constant (.int 1) k p1) p2)) (tPart (tUn (rU fun i => .int (-i)) (tC (.int 1)))) := po_some (pe_un un_neg pe_int)
  refine wpAny_Slice (thn (po_none.run pins s1 σ H1 (fun o J => o = none ∧ J = H1) I1 ⟨rfl, rfl⟩) fun vl s2 ⟨l, H2, I2, pl, el, e2⟩ => ?_)
  subst el e2
  refine thn (po_none.run pins s2 σ H2 (fun o J => o = none ∧ J = H2) I2 ⟨rfl, rfl⟩) fun vh s3 ⟨u, H3, I3, pu, eu, e3⟩ => ?_
  subst eu e3
  refine thn (part.run pins s3 σ H3 (fun o J => o = some (-1) ∧ J = H3) I3 ⟨1, rfl, -1, rfl, rfl, rfl⟩) fun vs s4 ⟨o, H4, I4, ps, eo, e4⟩ => ?_
  subst eo e4
  cases pl
  cases pu
  have I5 : Inv X pins σ H4 { s4 with heap := s4.heap.push { cls := .type "slice", data := .fields #[.none, .none, vs] } } := I4.kept (t' := s4.toks) fun b ob z => Heap.get?_push_of_some _ z
  obtain ⟨its, r, ht, hz⟩ := I5.tuple hx
  cases r with
  | cons ra r =>
    cases r with
    | cons rb r =>
      cases r
      rename_i ua ub
      refine tail_any (ops := [.ref a, .ref s4.heap.objs.size]) ht.typeIs (PyProof.Rows.slot_tuple_getitem.lookup) ?_ (by with_unfolding_all rfl)
      refine getBack (x := ua) (y := ub) ht (Heap.IsSliceOf.new _ .none .none vs) ps ?_
      refine ⟨.ref _, _, I5.laid (t' := s4.toks) (o := .tup [y, x]) (fun b ob z => Heap.get?_push_of_some _ z) (Nat.le_refl _) ?_, rfl, g _ (I5.hok.fresh (Nat.le_refl _))⟩
      exact ⟨by show 2 ≤ sizeLine; decide, [ub, ua], .cons rb (.cons ra .nil), IsTup.new _ _⟩
end
end Ct

set_option Elab.async false
set_option linter.all false
set_option maxRecDepth 100000
set_option maxHeartbeats 4000000
/-! try with several clauses that give the exception a name. -/
namespace Ct
open PySem PySem.Spec PyProof.Rows L2
/-- what a suite's end is behind the name's removal -/
def endsGone (i : Nat) (D : Ends) : Ends := { nx := fun τ G => D.nx (τ.set i none) G, rt := D.rt, bk := fun τ G => D.bk (τ.set i none) G, ct := fun τ G => D.ct (τ.set i none) G }
abbrev Clause := Value × Nat × (Addr → Value → Option Addr → TS)
/-- what the clauses wish, one after the other -/
def wNamed (K : PySem.W.Frag) (Wout : WX) (D : Ends) : List Clause → WX
  | [] => Wout
  | q :: r => fun k d τ G => ∃ yes, PySem.W.exmOne K k q.1 = some yes ∧ (yes = true → ∀ a, G a = none → q.2.2 a k d (endsGone q.2.1 D) (τ.set q.2.1 (some (.ref a))) G) ∧ (yes = false → wNamed K Wout D r k d τ G)
inductive Clauses (X : Cx) : List ExceptHandler → List Clause → Prop
  | nil : Clauses X [] []
  | cons {n x : Str} {c : Value} {i : Nat} {t : Addr → Value → Option Addr → TS} {b : Stmt} {bs : List Stmt} {p1 p2 : Pos} {hds : List ExceptHandler} {l : List Clause} (nm : Names X x c) (at_ : X.N[i]? = some n) (lo : X.env.kindOf n = some .local)
      (su : ∀ (a : Addr) (o : Obj) (k : Value) (d : Option Addr) (pn : List (Addr × Obj)), Zc k d o → (∃ vs, o.data = .fields vs) → PSs (X.suite a ((a, o) :: pn)) (b :: bs) (t a k d)) (r : Clauses X hds l) :
      Clauses X (.ExceptHandler (some (.Name x p1)) (some n) (b :: bs) p2 :: hds) ((c, i, t) :: l)
/-- an exception that has been noted and looked at -/
structure Air (X : Cx) (pins : List (Addr × Obj)) (B : Heap) (s0 s1 : Shared) (τ : L2.St) (G : Hp) (k : Value) (d : Option Addr) (a : Addr) (h : Heap) : Prop where
  inv : Inv X pins τ G s0
  keep : ∀ b o, s0.heap.get? b = some o → b ∉ frs X.stack → B.get? b = some o
  fly : HandSPX.FlyingZ B (X.env :: X.outer) a (Zc k d) h
  up : s0.heap.UpToSlots h
  os : s1.os = s0.os
  bare : AllBare s1.gens
  free : G a = none
  notL : a ≠ X.env.locals
  notF : a ∉ X.fs
section
variable {X : Cx} {pins : List (Addr × Obj)} {B : Heap} {s0 s1 : Shared} {τ : L2.St} {G : Hp} {k : Value} {d : Option Addr} {a : Addr} {h : Heap}
theorem Air.now (A : Air X pins B s0 s1 τ G k d a h) : Inv X pins τ G { s1 with heap := h } := A.inv.landed (s' := { s1 with heap := h }) A.keep A.fly.1 A.up A.os A.bare
theorem Air.within (A : Air X pins B s0 s1 τ G k d a h) : ∃ o, h.get? a = some o ∧ Zc k d o ∧ (∃ vs, o.data = .fields vs) ∧ Inv (X.suite a ((a, o) :: (X.pn ++ pins))) [] τ G { s1 with heap := h } := by
  obtain ⟨o, vs, e1, e2, e3⟩ := A.fly.there
  exact ⟨o, e1, e2, ⟨vs, e3⟩, A.now.suite e1 e3 A.free A.notL A.notF⟩
theorem Air.move (A : Air X pins B s0 s1 τ G k d a h) {h' : Heap} (f : HandSPX.FlyingZ B (X.env :: X.outer) a (Zc k d) h') (u : h.UpToSlots h') : Air X pins B s0 s1 τ G k d a h' :=
  ⟨A.inv, A.keep, f, A.up.trans u, A.os, A.bare, A.free, A.notL, A.notF⟩
/-- the clause's question -/
theorem Air.asks (A : Air X pins B s0 s1 τ G k d a h) {x : Str} {c : Value} {p : Pos} {yes : Bool} (nm : Names X x c) (e : PySem.W.exmOne X.K k c = some yes) {R : Bool → Shared → Prop} {E : Value → Shared → Prop} (r : R yes { s1 with heap := h }) :
    wpAny (model X.prog X.w) (X.A.mark (some (.ref a))) (eval (.Name x p) X.env) (fun v s => wpAny (model X.prog X.w) (X.A.mark (some (.ref a))) (excMatches (.ref a) v) R E s) E { s1 with heap := h } := by
  obtain ⟨o, e1, e2, _, S⟩ := A.within
  have L : PySem.W.Looks (model X.prog X.w) h (typeOf (.ref a)) k := fun _ _ _ _ z g => wpAny_typeOf_ref (z _ _ e1) (by rw [e2.1]; exact g)
  have M := PySem.W.exm_one (M := model X.prog X.w) A.now.kIn L e
  obtain ⟨g1, g2, g3 | ⟨g3, g4, g5⟩⟩ := nm
  · exact ld_glob (X := X.suite a ((a, o) :: (X.pn ++ pins))) S g1 g3 (M.here r) g2
  · exact ld_blt (X := X.suite a ((a, o) :: (X.pn ++ pins))) S g1 g3 g4 (M.here r) g5 g2
/-- no clause is left: it goes on -/
theorem Air.goesOn (A : Air X pins B s0 s1 τ G k d a h) (hs : X.stack = X.env :: X.outer) (hf : X.env.frame = some X.env.locals) {W : WX} (tk : Takes X W) {D : Ends} (w : W k d τ G) :
    wpAny (model X.prog X.w) X.A (handleBy (.ref a) X.env []) (SP X pins D) X.xe { s1 with heap := h } := by
  refine wpAny_handleBy_nil ?_
  obtain ⟨_, _, _, o, vs, tb, _, _, e1, _, e3, e4, _⟩ := id A.fly
  have last : wpAny (model X.prog X.w) X.A (setFlight (.ref a) X.env.frame) (fun _ s => wpAny (model X.prog X.w) X.A (throw (.ref a) : Sem Flow) (SP X pins D) X.xe s) X.xe { s1 with heap := h } := by
    rw [hf]
    exact HandSPX.setFlight_upZ A.fly fun h4 f4 u4 => wpAny_throw (tk _ _ ⟨a, B, s0, pins, τ, G, k, d, rfl, A.inv, A.keep, A.up.trans u4, .inr (.inr (by rw [hs]; exact f4)), A.free, A.os, A.bare, w⟩)
  unfold PySem.passOn
  refine wpAny_bind (wpAny_field e1 e3 e4 ?_)
  rw [if_neg (fun z => nomatch (eq_of_beq z : Value.ref tb = Value.none))]
  first
    | exact wpAny_bind (wpAny_pure (wpAny_bind last))
    | exact wpAny_bind last
theorem Air.handled (hs : X.stack = X.env :: X.outer) (hf : X.env.frame = some X.env.locals) (nd : X.N.Nodup) {W : WX} (tk : Takes X W) {D : Ends} : ∀ {hds : List ExceptHandler} {l : List Clause}, Clauses X hds l → Air X pins B s0 s1 τ G k d a h → wNamed X.K W D l k d τ G →
    wpAny (model X.prog X.w) X.A (handleBy (.ref a) X.env hds) (SP X pins D) X.xe { s1 with heap := h } := by
  intro hds l cl A
  induction cl with
  | nil => exact fun w => A.goesOn hs hf tk w
  | @cons n x c i t b bs p1 p2 hds l nm at_ lo su r ih =>
    rintro ⟨yes, e, wy, wn⟩
    refine wpAny_handleBy_cons (codeAny_handlers_test (A.asks nm e ?_)) (fun z => nomatch z)
    cases yes with
    | false => exact ih (wn rfl)
    | true =>
      refine codeAny_handlers_suite_as (HandSPX.lands_againZ A.fly fun h4 f4 u4 => ?_)
      have A4 := A.move f4 u4
      obtain ⟨o, e1, e2, e3, S⟩ := A4.within
      refine store_ok (X := X.suite a ((a, o) :: (X.pn ++ pins))) (v := .ref a) S nd at_ (.inl lo) rfl (fun s5 S5 => ?_) (.inr lo)
      refine wpAny_mono ((su a o k d (X.pn ++ pins) e2 e3).run [] s5 _ G _ S5 (wy rfl a A.free)) (fun f s6 z => ?_) (fun _ _ z => z.elim)
      have gone : ∀ {τ6 : L2.St} {G6 : Hp} {R : Shared → Prop}, Inv (X.suite a ((a, o) :: (X.pn ++ pins))) [] τ6 G6 s6 → (∀ s7, Inv X pins (τ6.set i none) G6 s7 → R s7) → wpAny (model X.prog X.w) X.A (do bindName X.env n .none; unbindBehindTheSuite X.env n p2) (fun _ s7 => R s7) X.xe s6 :=
        fun {τ6 G6 R} I6 z => gone_ok (I6.unsuite A.inv.ok) nd at_ lo z
      cases f with
      | ret u => obtain ⟨v6, τ6, G6, I6, r6, z6⟩ := z; exact gone I6 fun s7 J7 => ⟨_, _, _, J7, r6, z6⟩
      | next => obtain ⟨τ6, G6, I6, z6⟩ := z; exact gone I6 fun s7 J7 => ⟨_, _, J7, z6⟩
      | brk => obtain ⟨τ6, G6, I6, z6⟩ := z; exact gone I6 fun s7 J7 => ⟨_, _, J7, z6⟩
      | cont => obtain ⟨τ6, G6, I6, z6⟩ := z; exact gone I6 fun s7 J7 => ⟨_, _, J7, z6⟩
end
section
variable {X : Cx} {body : List Stmt} {hd : ExceptHandler} {hds : List ExceptHandler} {l : List Clause} {pos : Pos} {tb : WX → TS} {Wout : WX}
/-- try: body / except A as n: .. / except B as n: .. -/
theorem ps_try_named (hs : X.stack = X.env :: X.outer) (hf : X.env.frame = some X.env.locals) (nd : X.N.Nodup) (tk : Takes X Wout) (cl : Clauses X (hd :: hds) l)
    (hb : ∀ (W : WX) (pn : List (Addr × Obj)) (xe : Value → Shared → Prop), Takes (X.tr pn xe) W → PassesOwn (model X.prog X.w) X.A X.env xe → PSs (X.tr pn xe) body (tb W)) : PS X (.Try body (hd :: hds) [] [] pos) (fun D σ H => tb (wNamed X.K Wout D l) D σ H) := by
  refine ⟨fun pins s σ H D I q => wpAny_Try_except ?_⟩
  have ok := I.ok
  refine wpAny_mono ((hb (wNamed X.K Wout D l) (X.pn ++ pins) (fun u z => wpAny (model X.prog X.w) X.A (noteFrame u X.env) (fun _ z => wpAny (model X.prog X.w) X.A (setFlight u none) (fun _ z =>
    wpAny (model X.prog X.w) X.A (handleBy u X.env (hd :: hds)) (SP X pins D) X.xe z) X.xe z) X.xe z) (fun u s2 xx => ?_) PassesOwn.looking).run [] s σ H D (I.toTry _) q) (fun f s2 z => ?_) (fun _ _ z => z)
  · obtain ⟨a, B, s0, _, τ, G, k, d, rfl, J, keep, up, sky, free, os, bare, w⟩ := xx
    have frames : X.A.frames = some (X.env :: X.outer) := by rw [ok.frames, hs]
    refine Sky.land (env := X.env) (outer := X.outer) Zc.steady frames hf (hs ▸ sky) fun h3 f3 u3 => ?_
    obtain ⟨o, vs, e1, _, e3⟩ := f3.there
    have nf : a ∉ frs (X.env :: X.outer) := fun m => by
      obtain ⟨_, o', e', n'⟩ := f3.2.2.1.mem m
      cases e1.symm.trans e'
      exact n' _ e3
    refine Air.handled hs hf nd tk cl ⟨J.ofTry ok, keep, f3, up.trans u3, os, bare, free, fun z => ?_, fun m => ?_⟩ w
    · exact nf (List.mem_filterMap.mpr ⟨X.env, List.mem_cons_self, by rw [hf, z]⟩)
    · obtain ⟨e, m1, m2⟩ := List.mem_filterMap.mp m
      exact nf (List.mem_filterMap.mpr ⟨e, List.mem_cons_of_mem _ m1, m2⟩)
  · cases f with
    | ret u => obtain ⟨v, τ, G, J, r, z⟩ := z; exact ⟨v, τ, G, J.ofTry ok, r, z⟩
    | next => obtain ⟨τ, G, J, z⟩ := z; exact wpAny_execs_nil ⟨τ, G, J.ofTry ok, z⟩
    | brk => obtain ⟨τ, G, J, z⟩ := z; exact ⟨τ, G, J.ofTry ok, z⟩
    | cont => obtain ⟨τ, G, J, z⟩ := z; exact ⟨τ, G, J.ofTry ok, z⟩
end
end Ct
namespace Ct
open PySem PySem.Spec PyProof.Rows L2
section
variable {X : Cx}
/-- error.n of the exception that the clause has named -/
def tCaught (K : PySem.W.Frag) (a : Addr) (k : Value) (d : Option Addr) (n : Str) (te : TE) : TE := fun σ H Q => te σ H fun x G => x = .ref a ∧ ∃ (C dd : Addr) (fs : List (Str × V)) (v : V), k = .ref C ∧ d = some dd ∧ G dd = some (.xd fs) ∧ ExcC K C ∧ PySem.W.findIn K (.ref C) n = some none ∧ fs.lookup n = some v ∧ Q v G
theorem pe_caught {a : Addr} {o : Obj} {k : Value} {d : Option Addr} {pn : List (Addr × Obj)} {e : Expr} {te : TE} {n : Str} {pos : Pos} {K : PySem.W.Frag} (hK : X.K = K) (hz : Zc k d o) (hf : ∃ vs, o.data = .fields vs) (he : PE (X.suite a ((a, o) :: pn)) e te)
    (hb : attributeBase e n X.env (eval e X.env) = eval e X.env := by rfl) : PE (X.suite a ((a, o) :: pn)) (.Attribute e n pos) (tCaught K a k d n te) := by
  subst hK
  refine ⟨fun pins s σ H Q I h => attr_of hb (thn (he.run pins s σ H _ I h) fun u s1 hh => ?_)⟩
  obtain ⟨x, G, J, rx, ex, C, dd, fs, v, ec, ed, ea, T, no, l, q⟩ := hh
  subst ex ec ed
  cases (show u = Value.ref a from rx)
  obtain ⟨here, _⟩ := J.pin (a, o) (List.mem_append_left _ List.mem_cons_self)
  obtain ⟨vs, dat⟩ := hf
  obtain ⟨mA, ns, rl⟩ : ObjOk X.prog X.w G s1.heap dd (.xd fs) := J.hok dd _ ea
  obtain ⟨od, hod, lk⟩ := lookIn_ns ns
  obtain ⟨u, hu, ru⟩ := RelO.some_of (v := v) (o := mA n) (by rw [← l]; exact rl n)
  have inst : PySem.W.InstAt s1.heap a o C (some od) := ⟨here, hz.1, by unfold PySem.W.notCls; rw [dat] <;> rfl, by rw [hz.2]; exact hod⟩
  exact PySem.HandSPX.exc_get J.kIn inst T.hg T.hk T.hs (PySem.W.findObj_own T.hd no rfl (by rw [lk, hu])) (handed_of ru) ⟨v, G, J.tok _, ru, q⟩
end
end Ct

set_option Elab.async false
set_option linter.all false
set_option maxRecDepth 100000
set_option maxHeartbeats 4000000
/-! One promise behind a statement; a dict display of one pair with a tuple for its key; what is shown of data. -/
namespace Ct
open PySem PySem.Spec PyProof.Rows L2
/-- a statement's end told once, for all its ways -/
def tJoin (t : TS) : TS := fun D σ H => ∃ J : L2.St → Hp → Prop, t { D with nx := J } σ H ∧ ∀ τ G, J τ G → D.nx τ G
section
variable {X : Cx}
theorem ps_join {st : Stmt} {t : TS} (h : PS X st t) : PS X st (tJoin t) := by
  refine ⟨fun pins s σ H D I ⟨J, h1, h2⟩ => ?_⟩
  refine wpAny_mono (h.run pins s σ H { D with nx := J } (I.wish _) h1) (fun f s1 q => ?_) (fun _ _ z => z)
  have q' : SP X pins { D with nx := J } f s1 := q
  cases f with
  | next => obtain ⟨τ, G, I2, q2⟩ := q'; exact ⟨τ, G, I2, h2 _ _ q2⟩
  | ret v => exact q'
  | brk => exact q'
  | cont => exact q'
def tDispT (tk tv : TE) : TE := fun σ H Q => ∀ p, H p = none → tk σ (upd H p (.dT [])) fun x H1 => tv σ H1 fun y H2 => ∃ (b : Addr) (k : List Key), x = .ref b ∧ H2 b = some (.tup (k.map kV)) ∧ H2 p = some (.dT []) ∧ Q (.ref p) (upd H2 p (.dT [(k, y)]))
theorem pe_dispT {k v : Expr} {tk tv : TE} {pos : Pos} (hu : X.A.units + 1 < cLine) (hk : PE X k tk) (hv : PE X v tv) : PE X (.Dict [some k] [v] pos) (tDispT tk tv) := by
  have hh : PPs X pos [some k] [v] [(tk, tv)] := pps_cons hk hv pps_nil
  refine ⟨fun pins s σ H Q I q => ?_⟩
  have hn := I.hok.fresh (Nat.le_refl s.heap.objs.size)
  have I1 := I.laid (a := s.heap.objs.size) (o := .dT []) (h' := s.heap.push { cls := .type "dict", data := .dict #[] }) (t' := s.toks) (fun _ _ z => Heap.get?_push_of_some _ z) (Nat.le_refl _) (dt_empty s.heap I.big)
  have mono : ∀ {τ : L2.St} {G : Hp}, tk τ G (fun x H1 => tv τ H1 fun y H2 => ∃ (b : Addr) (k : List Key), x = .ref b ∧ H2 b = some (.tup (k.map kV)) ∧ H2 s.heap.objs.size = some (.dT []) ∧ Q (.ref s.heap.objs.size) (upd H2 s.heap.objs.size (.dT [(k, y)]))) →
      tPairs [(tk, tv)] τ G (fun ps H2 => ∃ (b : Addr) (k : List Key) (y : V), ps = [(.ref b, y)] ∧ H2 b = some (.tup (k.map kV)) ∧ H2 s.heap.objs.size = some (.dT []) ∧ Q (.ref s.heap.objs.size) (upd H2 s.heap.objs.size (.dT [(k, y)]))) := by
    intro τ G z
    show tk τ G fun x H1 => tv τ H1 fun y H2 => ∃ (b : Addr) (k : List Key) (y' : V), [(x, y)] = [(.ref b, y')] ∧ _
    have e : (fun (x : V) (H1 : Hp) => tv τ H1 fun y H2 => ∃ (b : Addr) (k : List Key), x = .ref b ∧ H2 b = some (.tup (k.map kV)) ∧ H2 s.heap.objs.size = some (.dT []) ∧ Q (.ref s.heap.objs.size) (upd H2 s.heap.objs.size (.dT [(k, y)]))) =
        fun (x : V) (H1 : Hp) => tv τ H1 fun y H2 => ∃ (b : Addr) (k : List Key) (y' : V), [(x, y)] = [(V.ref b, y')] ∧ H2 b = some (.tup (k.map kV)) ∧ H2 s.heap.objs.size = some (.dT []) ∧ Q (.ref s.heap.objs.size) (upd H2 s.heap.objs.size (.dT [(k, y')])) := by
      funext x H1
      refine congrArg _ ?_
      funext y H2
      refine propext ⟨fun ⟨b, k, e, r⟩ => ⟨b, k, y, by rw [e], r⟩, fun ⟨b, k, y', e, r⟩ => ?_⟩
      cases e
      exact ⟨b, k, rfl, r⟩
    rw [← e]
    exact z
  rw [arm_eval_Dict, zip_pairTrees [some k] [v] X.env pos (by rfl) (by rfl), dictDisplay_pairs _ (fun z => ?_) (by have := pairTrees_length [some k] [v] X.env pos (by rfl) (by rfl); rw [this]; show 1 < 17; decide)]
  · refine wpAny_bind (wpAny_standAt (wpAny_bind (wpAny_subDictH (knd := tupleKind (mixKind X.prog X.w)) (Q := fun d s' => wpAny (model X.prog X.w) X.A (pure (Value.ref d)) (EP X pins σ Q) X.xe s') (show X.A.units < cLine by omega) (by rw [pairTrees_length [some k] [v] X.env pos (by rfl) (by rfl)]; show 1 ≤ 15; decide) ?_)))
    refine thn (hh.run pins _ σ _ _ I1 (mono (q _ hn))) fun ws s2 ⟨ps, H2, I2, rel, b, ks, y, ep, hb, hd, q2⟩ => ?_
    subst ep
    cases rel with
    | @cons p1 w1 _ _ r1 t1 =>
      cases t1
      obtain ⟨wk, wv⟩ := w1
      obtain ⟨r1, r2⟩ := r1
      cases (show wk = Value.ref b from r1)
      obtain ⟨_, h2, xs, rel0, dd⟩ := dt_of I2.hok hd
      cases rel0
      refine ⟨[(ks, b, wv)], ⟨rfl, rfl, key_of I2.hok hb, trivial⟩, dd, fun h' tk' dd' hs => wpAny_pure ⟨.ref s.heap.objs.size, _, ?_, rfl, q2⟩⟩
      obtain ⟨o, es, ep, hq, g2, g3, g4, _, g5⟩ := dd'
      refine d_write I2 (by rw [hd]; exact True.intro) hs ⟨o, hq⟩ ⟨by show 1 ≤ sizeLine; decide, h2, _, .cons ⟨rfl, ?_, r2⟩ .nil, o, es, ep, hq, g2, g3, g4, g5⟩
      rw [upd_ne (ne_of hb hd (fun z => nomatch z))]
      exact hb
  · have := pairTrees_length [some k] [v] X.env pos (by rfl) (by rfl)
    rw [z] at this
    exact absurd (show 0 = 1 from this) (by decide)
end
end Ct

set_option Elab.async false
set_option linter.all false
set_option maxRecDepth 100000
set_option maxHeartbeats 4000000
namespace Pw
open PySem PySem.Spec PyProof.Rows L2 Ct
local macro_rules | `(tactic| wide_line) => `(tactic| repeat ((fail_if_success (with_reducible refine at_while ?_)); (fail_if_success (with_reducible refine at_while1 ?_)); (conv => whnf); first | ((with_reducible refine And.intro ?_ ?_); focus (first | (first | ((with_reducible show (_ : Nat) ≤ _); first | exact sz0 | exact sz1 | exact sz2 | exact sz3 | exact sz4 | exact sz5 | exact sz6 | exact sz7 | exact sz8 | exact sz10 | exact sz11 | exact sz12 | exact sz14 | omega | decide | (simp only [List.length_cons, List.length_nil]; omega)) | ((with_reducible show (_ : Int) ≤ _); first | omega | decide) | ((with_reducible show (_ : Int) < _); first | omega | decide) | ((with_reducible show (_ : Nat) < _); omega)) | ((fail_if_success (with_reducible show (_ : Nat) ≤ _)); (fail_if_success (with_reducible show (_ : Int) ≤ _)); (fail_if_success (with_reducible show (_ : Int) < _)); (fail_if_success (with_reducible show (_ : Nat) < _)); first | exact kv_str _ | exact kv_int _ | rfl | assumption | exact flat_strs _ | exact Lv.get (by assumption) 0 rfl | exact Lv.get (by assumption) 1 rfl | exact Lv.get (by assumption) 2 rfl | exact Lv.get (by assumption) 3 rfl | exact Lv.get (by assumption) 4 rfl | exact Lv.get (by assumption) 5 rfl | exact Lv.get (by assumption) 6 rfl | exact SqL.of (Lv.get (by assumption) 0 rfl) | exact SqL.of (Lv.get (by assumption) 1 rfl) | exact SqL.of (Lv.get (by assumption) 2 rfl) | exact SqL.of (Lv.get (by assumption) 3 rfl) | exact SqL.of (Lv.get (by assumption) 4 rfl) | exact SqL.of (Lv.get (by assumption) 5 rfl) | exact Or.inl (SqL.of (Lv.get (by assumption) 0 rfl)) | exact Or.inl (SqL.of (Lv.get (by assumption) 1 rfl)) | exact Or.inl (SqL.of (Lv.get (by assumption) 2 rfl)) | exact Or.inl (SqL.of (Lv.get (by assumption) 3 rfl)) | exact Or.inl (SqL.of (Lv.get (by assumption) 4 rfl)) | exact Or.inl (SqL.of (Lv.get (by assumption) 5 rfl)) | exact ⟨_, SqL.of (Lv.get (by assumption) 0 rfl)⟩ | exact ⟨_, SqL.of (Lv.get (by assumption) 1 rfl)⟩ | exact ⟨_, SqL.of (Lv.get (by assumption) 2 rfl)⟩ | exact ⟨_, SqL.of (Lv.get (by assumption) 3 rfl)⟩ | exact ⟨_, SqL.of (Lv.get (by assumption) 4 rfl)⟩ | exact ⟨_, SqL.of (Lv.get (by assumption) 5 rfl)⟩ | exact Or.inl ⟨_, SqL.of (Lv.get (by assumption) 0 rfl), rfl⟩ | exact Or.inl ⟨_, SqL.of (Lv.get (by assumption) 1 rfl), rfl⟩ | exact Or.inl ⟨_, SqL.of (Lv.get (by assumption) 2 rfl), rfl⟩ | exact Or.inl ⟨_, SqL.of (Lv.get (by assumption) 3 rfl), rfl⟩ | exact Or.inl ⟨_, SqL.of (Lv.get (by assumption) 4 rfl), rfl⟩ | exact Or.inl ⟨_, SqL.of (Lv.get (by assumption) 5 rfl), rfl⟩ | exact Or.inl ⟨rfl, _, SqL.of (Lv.get (by assumption) 0 rfl)⟩ | exact Or.inl ⟨rfl, _, SqL.of (Lv.get (by assumption) 1 rfl)⟩ | exact Or.inl ⟨rfl, _, SqL.of (Lv.get (by assumption) 2 rfl)⟩ | exact Or.inl ⟨rfl, _, SqL.of (Lv.get (by assumption) 3 rfl)⟩ | exact Or.inl ⟨rfl, _, SqL.of (Lv.get (by assumption) 4 rfl)⟩ | exact Or.inl ⟨rfl, _, SqL.of (Lv.get (by assumption) 5 rfl)⟩ | exact Or.inr (SqT.of (Lv.get (by assumption) 0 rfl)) | exact Or.inr (SqT.of (Lv.get (by assumption) 1 rfl)) | exact Or.inr (SqT.of (Lv.get (by assumption) 2 rfl)) | exact Or.inr (SqT.of (Lv.get (by assumption) 3 rfl)) | exact SqT.of (Lv.get (by assumption) 0 rfl) | exact SqT.of (Lv.get (by assumption) 1 rfl) | exact SqT.of (Lv.get (by assumption) 2 rfl) | exact dgetN (Lv.get (by assumption) 0 rfl) (by assumption) | exact dgetN (Lv.get (by assumption) 1 rfl) (by assumption) | exact dgetN (Lv.get (by assumption) 2 rfl) (by assumption) | exact dgetN (Lv.get (by assumption) 3 rfl) (by assumption) | exact dgetN (Lv.get (by assumption) 4 rfl) (by assumption) | exact Or.inl (by assumption) | exact Or.inr (by assumption) | decide | ((with_reducible show _ ∧ _); omega)))) | ((fail_if_success (with_reducible apply @Exists.intro (Nat → _))); (with_reducible apply Exists.intro))))
local macro_rules
  | `(tactic| wide_line with al $lv:ident $l:ident $nl:ident $H:ident $lv1:ident $s1:ident) => `(tactic| (intro $l:ident $nl:ident; generalize he : upd _ _ _ = $H:ident; have $lv1:ident := Lv.alE $lv $nl he; have $s1:ident := sameE $nl he; clear he; (try simp only [List.set_cons_zero, List.set_cons_succ] at $lv1:ident)))
  | `(tactic| wide_line with alx $lv:ident $nl:ident $H:ident $lv1:ident $s1:ident) => `(tactic| (generalize he : upd _ _ _ = $H:ident; have $lv1:ident := Lv.alE $lv $nl he; have $s1:ident := sameE $nl he; clear he; (try simp only [List.set_cons_zero, List.set_cons_succ] at $lv1:ident)))
  | `(tactic| wide_line with sts $lv:ident $i:num $H:ident $lv1:ident $s0:ident $np:ident $s1:ident) => `(tactic| (generalize he : upd _ _ _ = $H:ident; have $lv1:ident := Lv.stE $lv $i rfl he; have $s1:ident := sameN $s0 $np he; clear he; (try simp only [List.set_cons_zero, List.set_cons_succ] at $lv1:ident)))
  | `(tactic| wide_line with stx $lv:ident $H:ident $lv1:ident $d1:ident) => `(tactic| (generalize he : upd _ _ _ = $H:ident; have $lv1:ident := Lv.stE $lv 0 rfl he; have $d1:ident := SameD.storeE (Lv.get $lv 0 rfl) he; clear he; (try simp only [List.set_cons_zero, List.set_cons_succ] at $lv1:ident)))
  | `(tactic| wide_line with st $lv:ident $i:num $H:ident $lv1:ident) => `(tactic| (generalize he : upd _ _ _ = $H:ident; have $lv1:ident := Lv.stE $lv $i rfl he; clear he; (try simp only [List.set_cons_zero, List.set_cons_succ] at $lv1:ident)))
  | `(tactic| wide_line with stk $lv:ident $i:num $H:ident $lv1:ident $k1:ident) => `(tactic| (generalize he : upd _ _ _ = $H:ident; have $lv1:ident := Lv.stE $lv $i rfl he; have $k1:ident := KeepT.st (Lv.get $lv $i rfl) he; clear he; (try simp only [List.set_cons_zero, List.set_cons_succ] at $lv1:ident)))
/-- signs that can stand in data -/
def sgn (x : Str) : Prop := PyData.strOk x = true
theorem sgn_iff {x : Str} : sgn x ↔ ∀ c ∈ x.cps.toList, c < 0x110000 := by
  unfold sgn PyData.strOk
  rw [← Array.all_toList, List.all_eq_true]
  simp
theorem app_cps (x y : Str) : (x ++ y).cps.toList = x.cps.toList ++ y.cps.toList := Array.toList_append
theorem sgn_app {x y : Str} : sgn (x ++ y) ↔ sgn x ∧ sgn y := by
  rw [sgn_iff, sgn_iff, sgn_iff, app_cps]
  constructor
  · exact fun h => ⟨fun c hc => h c (List.mem_append.mpr (.inl hc)), fun c hc => h c (List.mem_append.mpr (.inr hc))⟩
  · exact fun h c hc => (List.mem_append.mp hc).elim (h.1 c) (h.2 c)
theorem sgn_join {s : Str} : ∀ {l : List Str}, sgn (Str.join s l) → ∀ z ∈ l, sgn z
  | [a], h, z, hz => by rw [List.mem_singleton.mp hz]; exact h
  | a :: b :: l, h, z, hz => by
    have h : sgn ((a ++ s) ++ Str.join s (b :: l)) := h
    rw [sgn_app, sgn_app] at h
    rcases List.mem_cons.mp hz with rfl | hz
    · exact h.1.1
    · exact sgn_join (s := s) h.2 z hz
theorem join_sgn {s : Str} (hs : sgn s) : ∀ {l : List Str}, (∀ z ∈ l, sgn z) → sgn (Str.join s l)
  | [], _ => by show PyData.strOk Str.empty = true; decide +kernel
  | [a], h => h a List.mem_cons_self
  | a :: b :: l, h => by
    show sgn ((a ++ s) ++ Str.join s (b :: l))
    rw [sgn_app, sgn_app]
    exact ⟨⟨h a List.mem_cons_self, hs⟩, join_sgn hs fun z hz => h z (List.mem_cons_of_mem _ hz)⟩
theorem split_sgn {T s z : Str} (h : sgn T) (hz : z ∈ Txt.split T s) : sgn z :=
  sgn_join (s := s) (by rw [PySem.StrLaws.join_split]; exact h) z hz
/-- is a text a name -/
def spIsNameS : Sp := fun vs H Q _ => ∃ x : Str, vs = [.str x] ∧ x.length ≤ sizeLine ∧ ∀ H', Same H H' → Q (.bl (okName x)) H'
/-- all that stands but p and t stands on -/
def F2 (p t : Addr) (H H' : Hp) : Prop := ∀ b o, b ≠ p → b ≠ t → H b = some o → H' b = some o
theorem F2.same {p t : Addr} {H H' : Hp} (s : Same H H') : F2 p t H H' := fun b o _ _ e => s b o e
theorem F2.trans {p t : Addr} {H H1 H2 : Hp} (a : F2 p t H H1) (b : F2 p t H1 H2) : F2 p t H H2 := fun c o n1 n2 e => b c o n1 n2 (a c o n1 n2 e)
abbrev RowP (p t : Addr) (H : Hp) : List V → List (Str × Str) → Prop := Paired fun x q => ∃ a, x = .ref a ∧ a ≠ p ∧ a ≠ t ∧ H a = some (.lst [.str q.1, .str q.2])
theorem RowP.f2 {p t : Addr} {H H' : Hp} (f : F2 p t H H') : ∀ {xs : List V} {qs : List (Str × Str)}, RowP p t H xs qs → RowP p t H' xs qs
  | _, _, .nil => .nil
  | _, _, .cons ⟨a, e, n1, n2, h⟩ r => .cons ⟨a, e, n1, n2, f _ _ n1 n2 h⟩ (RowP.f2 f r)
def pairL (q : Str × Str) : PyData := .list [.str q.1, .str q.2]
theorem RowP.dp {K : PySem.W.Frag} {p t : Addr} {H : Hp} : ∀ {xs : List V} {qs : List (Str × Str)}, RowP p t H xs qs → DpAll K H xs (qs.map pairL)
  | _, _, .nil => .nil
  | _, _, .cons ⟨a, e, _, _, h⟩ r => .cons (by rw [e]; exact .lst (SqL.of h) (.cons (.str _) (.cons (.str _) .nil))) (RowP.dp r)
theorem eqv_pairL (p q : Str × Str) : PyData.eqv (pairL p) (pairL q) = decide (p = q) := by
  obtain ⟨a, b⟩ := p
  obtain ⟨c, d⟩ := q
  unfold pairL
  simp only [PyData.eqv, PyData.eqvAll, Bool.and_true]
  rw [Bool.eq_iff_iff, Bool.and_eq_true, beq_iff_eq, beq_iff_eq, decide_eq_true_eq, Prod.mk.injEq]
theorem any_pairL (ps : List (Str × Str)) (q : Str × Str) : ((ps.map pairL).any fun z => PyData.eqv z (pairL q)) = decide (q ∈ ps) := by
  rw [Bool.eq_iff_iff, List.any_eq_true, decide_eq_true_eq]
  constructor
  · rintro ⟨z, hz, e⟩
    obtain ⟨y, hy, rfl⟩ := List.mem_map.mp hz
    rw [eqv_pairL, decide_eq_true_eq] at e
    exact e ▸ hy
  · exact fun h => ⟨pairL q, List.mem_map.mpr ⟨q, h, rfl⟩, by rw [eqv_pairL, decide_eq_true rfl]⟩
theorem lay_pairL {q : Str × Str} (h1 : sgn q.1) (h2 : sgn q.2) : (pairL q).canLay0 = true ∧ (pairL q).depth ≤ 2 := by
  unfold sgn at h1 h2
  unfold pairL
  simp only [PyData.canLay0, PyData.canLayAll0, h1, h2, Bool.and_self, Bool.and_true, true_and]
  simp only [PyData.depth, PyData.depthAll]
  decide
theorem shaped_pairL {q : Str × Str} (h1 : sgn q.1) (h2 : sgn q.2) : SeqAt.shaped (pairL q) = true := by
  obtain ⟨a, b⟩ := lay_pairL h1 h2
  unfold SeqAt.shaped
  rw [a, decide_eq_true (by omega)]
  rfl
theorem shaped_pairsL {qs : List (Str × Str)} (h : ∀ q ∈ qs, sgn q.1 ∧ sgn q.2) : SeqAt.shaped (.list (qs.map pairL)) = true := by
  have l : PyData.canLayAll0 (qs.map pairL) = true := lays_of fun d hd => by
    obtain ⟨q, hq, rfl⟩ := List.mem_map.mp hd
    exact (lay_pairL (h q hq).1 (h q hq).2).1
  have d : PyData.depthAll (qs.map pairL) ≤ 2 := depths_of fun d hd => by
    obtain ⟨q, hq, rfl⟩ := List.mem_map.mp hd
    exact (lay_pairL (h q hq).1 (h q hq).2).2
  unfold SeqAt.shaped
  have c : PyData.canLay0 (.list (qs.map pairL)) = true := by rw [PyData.canLay0]; exact l
  have dd : PyData.depth (.list (qs.map pairL)) ≤ 64 := by rw [PyData.depth]; omega
  rw [c, decide_eq_true dd]
  rfl
/-- sorted([x, y]) -/
theorem risingS_le : ∀ {r : List Str} {p : Str}, risingS p r = true → (∀ x ∈ r, p.cps.toList ≤ x.cps.toList) ∧ r.Pairwise fun a b => a.cps.toList ≤ b.cps.toList
  | [], _, _ => ⟨(fun _ z => nomatch z), List.Pairwise.nil⟩
  | x :: r, p, h => by
    have h : (!ltCps x.cps.toList p.cps.toList && risingS x r) = true := h
    rw [Bool.and_eq_true, Bool.not_eq_true', ltCps_eq, decide_eq_false_iff_not] at h
    obtain ⟨h1, h2⟩ := h
    obtain ⟨g1, g2⟩ := risingS_le h2
    have px : p.cps.toList ≤ x.cps.toList := List.not_lt.mp h1
    refine ⟨fun y hy => ?_, List.pairwise_cons.mpr ⟨g1, g2⟩⟩
    rcases List.mem_cons.mp hy with rfl | hy
    · exact px
    · exact List.le_trans px (g1 y hy)
theorem sortedS_le : ∀ {l : List Str}, sortedS l = true → l.Pairwise fun a b => a.cps.toList ≤ b.cps.toList
  | [], _ => List.Pairwise.nil
  | _ :: _, h => let ⟨g1, g2⟩ := risingS_le h; List.pairwise_cons.mpr ⟨g1, g2⟩
theorem sorted_two {x y : Str} {ys : List Str} (p : ys.Perm [x, y]) (s : sortedS ys = true) : ys = [(pairS x y).1, (pairS x y).2] := by
  refine List.Perm.eq_of_pairwise (fun a b _ _ h1 h2 => str_ext' (List.le_antisymm h1 h2)) (sortedS_le s) ?_ (p.trans ?_)
  · refine List.pairwise_cons.mpr ⟨fun z hz => ?_, List.pairwise_cons.mpr ⟨(fun _ z => nomatch z), List.Pairwise.nil⟩⟩
    rw [List.mem_singleton.mp hz]
    unfold pairS ltS
    by_cases c : x.cps.toList < y.cps.toList
    · rw [decide_eq_true c, if_pos rfl]
      exact List.le_of_lt c
    · rw [decide_eq_false c, if_neg Bool.false_ne_true]
      exact List.not_lt.mp c
  · rcases pairS_or x y with e | e <;> rw [e]
    exact List.Perm.swap _ _ _
section
variable {P : Program} {w : World} {K : PySem.W.Frag} {mg : Str → Option Value} {base : Heap} {C : Addr}
abbrev sLawIsName : Stmt := top ix_law_is_name
theorem scLawIsName : FnScope ["word", "sign"] ["word"] (defScope sLawIsName) := ⟨rfl, rfl, rfl, by decide +kernel, rfl, by decide +kernel, by decide +kernel⟩
theorem has_law_is_name (T : Bn mg) (D : DFE K mg "_law_is_name" sLawIsName ["word"]) : Has P w K mg base CX0 1 "_law_is_name" ["word"] spIsNameS := by
  refine has_of D scLawIsName (fun vs H Q E h => ?_) (fun f cdv A outer s H vs Q E hr h => ?_)
  · obtain ⟨x, rfl, _⟩ := h; rfl
  · obtain ⟨x, rfl, hl, k⟩ := h
    have nd := scLawIsName.nd
    refine ⟨_, (pss_one (ps_ret (pe_and (pe_chain op_le op_le pe_int (pe_callB call_len_str (by rfl) T.z_len (by decide +kernel) (pa_cons (pv 0) pa_nil)) pe_int) (pe_one (pe_cmpR (op_eqNil hr.units) (pe_lc (own := [("sign", 1)]) (g := gName 1) rfl nd (pi_str (pv 0)) (blkOk_by (own := [("sign", 1)]) (N := ["word", "sign"]) (sc := defScope sLawIsName) (by decide +kernel)) (fun _ _ _ _ _ => (pg_name (i := 1) nd rfl (by first | exact Or.inl rfl | exact Or.inr rfl))) (fun _ _ _ _ _ => (pts_one (pt_cmpR op_notIn_sign (pv 1) pe_str (by first | exact nomark _ | rfl)))) (fun _ _ _ _ _ => (pv 1))) (pe_lst pa_nil) (by first | exact nomark _ | rfl)))))), ?_⟩
    refine ⟨_, rfl, x, rfl, hl, ?_⟩
    refine ⟨_, _, rfl, rfl, _, rfl, ?_⟩
    have len : ((x.length : Nat) : Int) = (x.cps.size : Nat) := rfl
    have no : ¬ (1 ≤ x.length ∧ x.length ≤ 8) → Q (.bl false) H := fun z => by
      have e : okName x = false := by
        unfold okName
        by_cases z1 : 1 ≤ x.length
        · rw [decide_eq_false (fun y => z ⟨z1, y⟩ : ¬ x.length ≤ 8)]; simp
        · rw [decide_eq_false z1]; simp
      rw [← e]
      exact k H (Same.refl H)
    refine ite2 (fun c1 => ?_) (fun c1 => ?_)
    · have c1 := of_decide_eq_true c1
      refine ⟨_, _, rfl, rfl, _, rfl, ?_⟩
      by_cases c2 : x.length ≤ 8
      · rw [decide_eq_true (show ((x.length : Nat) : Int) ≤ 8 by omega)]
        refine iteT ?_
        refine ⟨_, rfl, x, rfl, fun L nL => ?_⟩
        have lv0 := Lv.zero H
        refine lc_it walk_str (fun i H' => Lv H [] H' [(L, .lst (((x.cps.toList.take i).filter fun c => !decide (c ∈ LT.cps.toList)).map fun c => V.str ⟨#[c]⟩))]) (lv0.al nL) (fun _ _ _ _ => True.intro) ?_ ?_
        · rintro i z H1 H2 hi lv ⟨rfl, c, hc, rfl⟩
          have ht : x.cps.toList[i]? = some c := by rw [Array.getElem?_toList]; exact hc
          have tk : x.cps.toList.take (i + 1) = x.cps.toList.take i ++ [c] := by rw [List.take_succ, ht]; rfl
          refine ⟨rfl, _, rfl, c, _, rfl, rfl, ?_⟩
          refine ⟨_, rfl, ite2 (fun c3 => ?_) (fun c3 => ?_)⟩
          · refine ⟨_, rfl, _, lv.get 0 rfl, ?_, ?_⟩
            · have h1 := List.length_filter_le (fun c => !decide (c ∈ LT.cps.toList)) (x.cps.toList.take i)
              have h2 := List.length_take_le i x.cps.toList
              have h3 : x.length = x.cps.size := rfl
              rw [List.length_map, sizeLine_eq]
              omega
            · rw [tk, List.filter_append, List.map_append]
              have : [c].filter (fun c => !decide (c ∈ LT.cps.toList)) = [c] := by simp only [List.filter]; rw [show (!decide (c ∈ LT.cps.toList)) = true from c3]
              rw [this]
              exact Lv.stE lv 0 rfl rfl
          · rw [tk, List.filter_append]
            have : [c].filter (fun c => !decide (c ∈ LT.cps.toList)) = [] := by simp only [List.filter]; rw [show (!decide (c ∈ LT.cps.toList)) = false from by simpa using c3]
            rw [this, List.append_nil]
            exact lv
        · rintro H1 lv
          rw [show x.cps.size = x.cps.toList.length from rfl, List.take_length] at lv
          refine ⟨by decide, fun l2 n2 => ?_⟩
          have lv2 := lv.al (o := .lst []) n2
          refine ⟨_, _, _, rfl, rfl, SqL.of (lv2.get 1 rfl), SqL.of (lv2.get 0 rfl), ?_⟩
          have e : okName x = okSigns x := by
            unfold okName
            rw [decide_eq_true (show 1 ≤ x.length by omega), decide_eq_true c2]
            rfl
          have e2 : ((x.cps.toList.filter fun c => !decide (c ∈ LT.cps.toList)).map fun c => V.str ⟨#[c]⟩).isEmpty = okSigns x := by
            rw [List.isEmpty_map, Bool.eq_iff_iff]
            unfold okSigns
            rw [List.isEmpty_iff, List.filter_eq_nil_iff, List.all_eq_true]
            simp
          have z := k _ (lv2.sm)
          show Q (.bl _) _
          rw [show (if false = true then _ else _ : Bool) = _ from rfl, e2, ← e]
          exact z
      · rw [decide_eq_false (show ¬ ((x.length : Nat) : Int) ≤ 8 by omega)]
        exact iteF (no fun z => c2 z.2)
    · exact ⟨_, rfl, iteF (no fun z => c1 (decide_eq_true (by omega)))⟩
end
end Pw

set_option Elab.async false
set_option linter.all false
set_option maxRecDepth 100000
set_option maxHeartbeats 4000000
namespace Pw
open PySem PySem.Spec PyProof.Rows L2 Ct
local macro_rules | `(tactic| wide_line) => `(tactic| repeat ((fail_if_success (with_reducible refine at_while ?_)); (fail_if_success (with_reducible refine at_while1 ?_)); (conv => whnf); first | ((with_reducible refine And.intro ?_ ?_); focus (first | (first | ((with_reducible show (_ : Nat) ≤ _); first | exact sz0 | exact sz1 | exact sz2 | exact sz3 | exact sz4 | exact sz5 | exact sz6 | exact sz7 | exact sz8 | exact sz10 | exact sz11 | exact sz12 | exact sz14 | omega | decide | (simp only [List.length_cons, List.length_nil]; omega)) | ((with_reducible show (_ : Int) ≤ _); first | omega | decide) | ((with_reducible show (_ : Int) < _); first | omega | decide) | ((with_reducible show (_ : Nat) < _); omega)) | ((fail_if_success (with_reducible show (_ : Nat) ≤ _)); (fail_if_success (with_reducible show (_ : Int) ≤ _)); (fail_if_success (with_reducible show (_ : Int) < _)); (fail_if_success (with_reducible show (_ : Nat) < _)); first | exact kv_str _ | exact kv_int _ | rfl | assumption | exact flat_strs _ | exact Lv.get (by assumption) 0 rfl | exact Lv.get (by assumption) 1 rfl | exact Lv.get (by assumption) 2 rfl | exact Lv.get (by assumption) 3 rfl | exact Lv.get (by assumption) 4 rfl | exact Lv.get (by assumption) 5 rfl | exact Lv.get (by assumption) 6 rfl | exact SqL.of (Lv.get (by assumption) 0 rfl) | exact SqL.of (Lv.get (by assumption) 1 rfl) | exact SqL.of (Lv.get (by assumption) 2 rfl) | exact SqL.of (Lv.get (by assumption) 3 rfl) | exact SqL.of (Lv.get (by assumption) 4 rfl) | exact SqL.of (Lv.get (by assumption) 5 rfl) | exact Or.inl (SqL.of (Lv.get (by assumption) 0 rfl)) | exact Or.inl (SqL.of (Lv.get (by assumption) 1 rfl)) | exact Or.inl (SqL.of (Lv.get (by assumption) 2 rfl)) | exact Or.inl (SqL.of (Lv.get (by assumption) 3 rfl)) | exact Or.inl (SqL.of (Lv.get (by assumption) 4 rfl)) | exact Or.inl (SqL.of (Lv.get (by assumption) 5 rfl)) | exact ⟨_, SqL.of (Lv.get (by assumption) 0 rfl)⟩ | exact ⟨_, SqL.of (Lv.get (by assumption) 1 rfl)⟩ | exact ⟨_, SqL.of (Lv.get (by assumption) 2 rfl)⟩ | exact ⟨_, SqL.of (Lv.get (by assumption) 3 rfl)⟩ | exact ⟨_, SqL.of (Lv.get (by assumption) 4 rfl)⟩ | exact ⟨_, SqL.of (Lv.get (by assumption) 5 rfl)⟩ | exact Or.inl ⟨_, SqL.of (Lv.get (by assumption) 0 rfl), rfl⟩ | exact Or.inl ⟨_, SqL.of (Lv.get (by assumption) 1 rfl), rfl⟩ | exact Or.inl ⟨_, SqL.of (Lv.get (by assumption) 2 rfl), rfl⟩ | exact Or.inl ⟨_, SqL.of (Lv.get (by assumption) 3 rfl), rfl⟩ | exact Or.inl ⟨_, SqL.of (Lv.get (by assumption) 4 rfl), rfl⟩ | exact Or.inl ⟨_, SqL.of (Lv.get (by assumption) 5 rfl), rfl⟩ | exact Or.inl ⟨rfl, _, SqL.of (Lv.get (by assumption) 0 rfl)⟩ | exact Or.inl ⟨rfl, _, SqL.of (Lv.get (by assumption) 1 rfl)⟩ | exact Or.inl ⟨rfl, _, SqL.of (Lv.get (by assumption) 2 rfl)⟩ | exact Or.inl ⟨rfl, _, SqL.of (Lv.get (by assumption) 3 rfl)⟩ | exact Or.inl ⟨rfl, _, SqL.of (Lv.get (by assumption) 4 rfl)⟩ | exact Or.inl ⟨rfl, _, SqL.of (Lv.get (by assumption) 5 rfl)⟩ | exact Or.inr (SqT.of (Lv.get (by assumption) 0 rfl)) | exact Or.inr (SqT.of (Lv.get (by assumption) 1 rfl)) | exact Or.inr (SqT.of (Lv.get (by assumption) 2 rfl)) | exact Or.inr (SqT.of (Lv.get (by assumption) 3 rfl)) | exact SqT.of (Lv.get (by assumption) 0 rfl) | exact SqT.of (Lv.get (by assumption) 1 rfl) | exact SqT.of (Lv.get (by assumption) 2 rfl) | exact dgetN (Lv.get (by assumption) 0 rfl) (by assumption) | exact dgetN (Lv.get (by assumption) 1 rfl) (by assumption) | exact dgetN (Lv.get (by assumption) 2 rfl) (by assumption) | exact dgetN (Lv.get (by assumption) 3 rfl) (by assumption) | exact dgetN (Lv.get (by assumption) 4 rfl) (by assumption) | exact Or.inl (by assumption) | exact Or.inr (by assumption) | decide | ((with_reducible show _ ∧ _); omega)))) | ((fail_if_success (with_reducible apply @Exists.intro (Nat → _))); (with_reducible apply Exists.intro))))
local macro_rules
  | `(tactic| wide_line with al $lv:ident $l:ident $nl:ident $H:ident $lv1:ident $s1:ident) => `(tactic| (intro $l:ident $nl:ident; generalize he : upd _ _ _ = $H:ident; have $lv1:ident := Lv.alE $lv $nl he; have $s1:ident := sameE $nl he; clear he; (try simp only [List.set_cons_zero, List.set_cons_succ] at $lv1:ident)))
  | `(tactic| wide_line with alx $lv:ident $nl:ident $H:ident $lv1:ident $s1:ident) => `(tactic| (generalize he : upd _ _ _ = $H:ident; have $lv1:ident := Lv.alE $lv $nl he; have $s1:ident := sameE $nl he; clear he; (try simp only [List.set_cons_zero, List.set_cons_succ] at $lv1:ident)))
  | `(tactic| wide_line with sts $lv:ident $i:num $H:ident $lv1:ident $s0:ident $np:ident $s1:ident) => `(tactic| (generalize he : upd _ _ _ = $H:ident; have $lv1:ident := Lv.stE $lv $i rfl he; have $s1:ident := sameN $s0 $np he; clear he; (try simp only [List.set_cons_zero, List.set_cons_succ] at $lv1:ident)))
  | `(tactic| wide_line with stx $lv:ident $H:ident $lv1:ident $d1:ident) => `(tactic| (generalize he : upd _ _ _ = $H:ident; have $lv1:ident := Lv.stE $lv 0 rfl he; have $d1:ident := SameD.storeE (Lv.get $lv 0 rfl) he; clear he; (try simp only [List.set_cons_zero, List.set_cons_succ] at $lv1:ident)))
  | `(tactic| wide_line with st $lv:ident $i:num $H:ident $lv1:ident) => `(tactic| (generalize he : upd _ _ _ = $H:ident; have $lv1:ident := Lv.stE $lv $i rfl he; clear he; (try simp only [List.set_cons_zero, List.set_cons_succ] at $lv1:ident)))
  | `(tactic| wide_line with stk $lv:ident $i:num $H:ident $lv1:ident $k1:ident) => `(tactic| (generalize he : upd _ _ _ = $H:ident; have $lv1:ident := Lv.stE $lv $i rfl he; have $k1:ident := KeepT.st (Lv.get $lv $i rfl) he; clear he; (try simp only [List.set_cons_zero, List.set_cons_succ] at $lv1:ident)))
def firstBad (T : Str) : Int := match readT 1 [] [] (Txt.split T NL) with
  | .inl n => (n : Nat)
  | .inr _ => 0
/-- the number of the first line at fault -/
def spFirstBad : Sp := fun vs H Q _ => ∃ T : Str, vs = [.str T] ∧ T.length ≤ 16000000 ∧ sgn T ∧ ∀ H', Same H H' → Q (.int (firstBad T)) H'
theorem ws_cases {l : Str} {ps : List Str} {ts : List (Str × Str)} : (∃ w : Str, Txt.split l SP = [("place" : Str), w]) ∨ (∃ x y : Str, Txt.split l SP = [("tie" : Str), x, y]) ∨
    (stepT ps ts l = none ∧ ∃ (a : Str) (r : List Str), Txt.split l SP = a :: r ∧ (a = "place" → r.length ≠ 1) ∧ (a = "tie" → r.length ≠ 2)) := by
  have ne := split_ne l SP
  unfold stepT
  generalize Txt.split l SP = ws at ne ⊢
  match ws, ne with
  | [a], _ => exact .inr (.inr ⟨rfl, a, [], rfl, (fun _ => by simp), (fun _ => by simp)⟩)
  | [a, w], _ =>
    by_cases c : a = "place"
    · exact .inl ⟨w, by rw [c]⟩
    · exact .inr (.inr ⟨if_neg fun z => c z.1, a, [w], rfl, fun z => absurd z c, (fun _ => by simp)⟩)
  | [a, x, y], _ =>
    by_cases c : a = "tie"
    · exact .inr (.inl ⟨x, y, by rw [c]⟩)
    · exact .inr (.inr ⟨if_neg fun z => c z.1, a, [x, y], rfl, (fun _ => by simp), fun z => absurd z c⟩)
  | a :: b :: c :: d :: r, _ => exact .inr (.inr ⟨rfl, a, _, rfl, (fun _ => by simp), (fun _ => by simp)⟩)
theorem step_place {l w : Str} {ps : List Str} {ts : List (Str × Str)} (e : Txt.split l SP = [("place" : Str), w]) : stepT ps ts l = if ts = [] ∧ ps.length < 12 ∧ okName w = true ∧ w ∉ ps then some (ps ++ [w], ts) else none := by
  unfold stepT
  rw [e]
  show (if ("place" : Str) = "place" ∧ _ then _ else _) = _
  simp only [true_and]
theorem step_tie {l x y : Str} {ps : List Str} {ts : List (Str × Str)} (e : Txt.split l SP = [("tie" : Str), x, y]) : stepT ps ts l = if x ∈ ps ∧ y ∈ ps ∧ x ≠ y ∧ pairP (x, y) ∉ ts.map pairP then some (ps, ts ++ [(x, y)]) else none := by
  unfold stepT
  rw [e]
  show (if ("tie" : Str) = "tie" ∧ _ then _ else _) = _
  simp only [true_and]
section
variable {P : Program} {w : World} {K : PySem.W.Frag} {mg : Str → Option Value} {base : Heap} {C : Addr}
abbrev sLawFirstBad : Stmt := top ix_law_first_bad
theorem scLawFirstBad : FnScope ["text", "places", "ties", "at", "line", "words", "pair"] ["text"] (defScope sLawFirstBad) := ⟨rfl, rfl, rfl, by decide +kernel, rfl, by decide +kernel, by decide +kernel⟩
theorem has_law_first_bad (T : Bn mg) (D : DFE K mg "_law_first_bad" sLawFirstBad ["text"]) (h_law_is_name : Has P w K mg base CX0 1 "_law_is_name" ["word"] spIsNameS) : Has P w K mg base CX0 2 "_law_first_bad" ["text"] spFirstBad := by
  refine has_of D scLawFirstBad (fun vs H Q E h => ?_) (fun f cdv A outer s H vs Q E hr h => ?_)
  · obtain ⟨x, rfl, _⟩ := h; rfl
  · obtain ⟨Z, rfl, len, sT, k⟩ := h
    have nd := scLawFirstBad.nd
    refine ⟨_, (pss_cons (ps_par (i := 1) (j := 2) (by rfl) nd rfl rfl (by decide) rfl rfl (pa_cons (pe_lst pa_nil) (pa_cons (pe_lst pa_nil) pa_nil)) (by rfl))
    (pss_cons (ps_for PassesOwn.never rfl (pi_enum (by rfl) T.z_enumerate (pa_cons (pe_split (pv 0) pe_str) pa_nil)) (pg_tup (n := 2) rfl (pgs_cons (pg_name (i := 3) nd rfl (by first | exact Or.inl rfl | exact Or.inr rfl)) (pgs_cons (pg_name (i := 4) nd rfl (by first | exact Or.inl rfl | exact Or.inr rfl)) pgs_nil))) (pss_cons (ps_sv 5 nd (pe_split (pv 4) pe_str))
    (pss_one (ps_if (PW.pt (pw_and (pt_cmpR op_eq (pe_ix ix_list (pv 5) pe_int (fun _ _ => rfl)) pe_str (by first | exact nomark _ | rfl)) (pw_and1 (pt_cmpR op_eq (pe_callB call_len_seq (by rfl) T.z_len (by decide +kernel) (pa_cons (pv 5) pa_nil)) pe_int (by first | exact nomark _ | rfl))))) (pss_cons (ps_if (PW.pt (pw_or (pt_cmpR (op_neNil hr.units) (pv 2) (pe_lst pa_nil) (by first | exact nomark _ | rfl)) (pw_or (pt_cmpR op_gt (pe_callB call_len_seq (by rfl) T.z_len (by decide +kernel) (pa_cons (pv 1) pa_nil)) pe_int (by first | exact nomark _ | rfl)) (pw_or (pt_cmpR op_in_seq (pe_ix ix_list (pv 5) pe_int (fun _ _ => rfl)) (pv 1) (by first | exact nomark _ | rfl)) (pw_or1 (pt_not (pt_val (pe_h h_law_is_name hr (by decide) rfl (pa_cons (pe_ix ix_list (pv 5) pe_int (fun _ _ => rfl)) pa_nil))))))))) (pss_one (ps_ret (pe_op op_add (pv 3) pe_int))) pss_nil)
    (pss_one (ps_expr (pe_bm PySem.F.plainAttrs_list PySem.F.slot_list_append PySem.F.type_list_append mt_append (pv 1) (pa_cons (pe_ix ix_list (pv 5) pe_int (fun _ _ => rfl)) pa_nil))))) (pss_one (ps_if (PW.pt (pw_and (pt_cmpR op_eq (pe_ix ix_list (pv 5) pe_int (fun _ _ => rfl)) pe_str (by first | exact nomark _ | rfl)) (pw_and1 (pt_cmpR op_eq (pe_callB call_len_seq (by rfl) T.z_len (by decide +kernel) (pa_cons (pv 5) pa_nil)) pe_int (by first | exact nomark _ | rfl))))) (pss_cons (ps_sv 6 nd (pe_callB cr_sortedS (by rfl) T.z_sorted (by decide +kernel) (pa_cons (pe_slice sl_list (pv 5) (po_some pe_int) po_none) pa_nil)))
    (pss_cons (ps_if (PW.pt (pw_or (pt_cmpR (op_inDk (K := K) rfl (units65 hr)) (pv 6) (pv 2) (by first | exact nomark _ | rfl)) (pw_or (pt_cmpR op_eq (pe_ix ix_list (pv 6) pe_int (fun _ _ => rfl)) (pe_ix ix_list (pv 6) pe_int (fun _ _ => rfl)) (by first | exact nomark _ | rfl)) (pw_or (pt_cmpR op_notIn_seq (pe_ix ix_list (pv 6) pe_int (fun _ _ => rfl)) (pv 1) (by first | exact nomark _ | rfl)) (pw_or1 (pt_cmpR op_notIn_seq (pe_ix ix_list (pv 6) pe_int (fun _ _ => rfl)) (pv 1) (by first | exact nomark _ | rfl))))))) (pss_one (ps_ret (pe_op op_add (pv 3) pe_int))) pss_nil)
    (pss_one (ps_expr (pe_bm PySem.F.plainAttrs_list PySem.F.slot_list_append PySem.F.type_list_append mt_append (pv 2) (pa_cons (pv 6) pa_nil)))))) (pss_one (ps_ret (pe_op op_add (pv 3) pe_int)))))))))
    (pss_one (ps_ret pe_int)))), ?_⟩
    refine ⟨sz0, fun p np => ?_⟩
    have lv0 := Lv.zero H
    wide_line with alx lv0 np H1 lv1 s1
    refine ⟨sz0, fun t nt => ?_⟩
    wide_line with alx lv1 nt H2 lv2 s2
    refine ⟨_, _, rfl, ?_⟩
    refine ⟨_, rfl, ⟨_, rfl⟩, Z, NL, rfl, rfl, rfl, by rw [sizeLine_eq]; omega, fun L nL => ?_⟩
    wide_line with alx lv2 nL H3 lv3 s3
    refine ⟨L, _, rfl, SqL.of (lv3.get 0 rfl), ?_⟩
    have len_ls : ((Txt.split Z NL).map V.str).length = (Txt.split Z NL).length := List.length_map _
    have ret : ∀ {i : Nat} {H' : Hp}, Same H H' → readT 1 [] [] (Txt.split Z NL) = .inl (1 + i) → Q (.int ((i : Nat) + 1)) H' := fun {i H'} sm e => by
      have := k H' sm
      unfold firstBad at this
      rw [e] at this
      have e2 : ((1 + i : Nat) : Int) = (i : Nat) + 1 := by omega
      rw [← e2]
      exact this
    refine for_enum (xs := (Txt.split Z NL).map V.str) (fun i σ H' => Hold (∃ (ps : List Str) (ts : List (Str × Str)) (tx : List V) (s3 s4 s5 s6 : Option V), σ = [some (.str Z), some (.ref p), some (.ref t), s3, s4, s5, s6] ∧ Lv H [] H' [(L, .lst ((Txt.split Z NL).map V.str)), (t, .lst tx), (p, .lst (ps.map V.str))] ∧ RowP p t H' tx (ts.map pairP) ∧ ROk ps ts ∧ (∀ q ∈ ts.map pairP, sgn q.1 ∧ sgn q.2) ∧
      readT 1 [] [] (Txt.split Z NL) = readT (1 + i) ps ts ((Txt.split Z NL).drop i))) ?_ ?_ ?_ ?_
    · exact ⟨[], [], [], none, none, none, none, rfl, lv3, .nil, .nil, (fun _ z => nomatch z), rfl⟩
    · exact fun i σ H' _ ⟨_, _, _, _, _, _, _, _, lv, _⟩ => SqL.of (lv.get 0 rfl)
    · rintro i x σ H5 U ex2 ⟨ps, ts, tx, s3, s4, s5, s6, rfl, lv5, ht5, ro5, sg5, er⟩ nU
      obtain ⟨l, hl, rfl⟩ := str_at ex2
      wide_line with alx lv5 nU H6 lv6 s6'
      refine ⟨U, _, rfl, SqT.of (lv6.get 0 rfl), rfl, _, _, rfl, _, _, rfl, rfl, ?_⟩
      have ll : l.length ≤ 16000000 := Nat.le_trans (split_len (List.mem_of_getElem? hl)) len
      have sl : sgn l := split_sgn sT (List.mem_of_getElem? hl)
      refine ⟨_, rfl, ⟨_, rfl⟩, l, SP, rfl, rfl, rfl, by rw [sizeLine_eq]; omega, fun W nW => ?_⟩
      wide_line with alx lv6 nW H7 lv7 s7'
      have ht7 : RowP p t H7 tx (ts.map pairP) := RowP.f2 (F2.same (s6'.trans s7')) ht5
      have lenW : ∀ x ∈ Txt.split l SP, x.length ≤ 16000000 := fun x hx => Nat.le_trans (split_len hx) ll
      have sgW : ∀ x ∈ Txt.split l SP, sgn x := fun x hx => split_sgn sl hx
      have rn := readT_next (n := 1 + i) (ps := ps) (ts := ts) hl
      rw [rn] at er
      have tlen : tx.length = ts.length := by have := paired_len ht5; rwa [List.length_map] at this
      have few := few_tiesR ro5
      rcases ws_cases (l := l) (ps := ps) (ts := ts) with ⟨w1, ew⟩ | ⟨x1, y1, ew⟩ | ⟨es, a, r, ew, na, nb⟩
      · -- a place
        have es := step_place (ps := ps) (ts := ts) ew
        rw [ew] at lv7 lenW sgW
        refine ⟨_, rfl, W, _, 0, .str "place", rfl, rfl, SqL.of (lv7.get 0 rfl), rfl, rfl, ?_⟩
        rw [decide_eq_true (rfl : (V.str ("place" : Str)) = V.str "place")]
        refine ⟨_, rfl, iteT ?_⟩
        refine ⟨_, rfl, W, _, rfl, .inl (SqL.of (lv7.get 0 rfl)), rfl, ?_⟩
        rw [dec_int, show decide ((((([("place" : Str), w1] : List Str).map V.str).length : Nat) : Int) = 2) = true from rfl]
        refine ⟨_, rfl, iteT ?_⟩
        refine ifs_to (fun b H' => b = !decide (ts = [] ∧ ps.length < 12 ∧ okName w1 = true ∧ w1 ∉ ps) ∧ Same H7 H') (fun Q0 hQ => ?_) (fun H8 h8 => ?_) (fun H8 h8 => ?_)
        · have yes : ∀ {H' : Hp}, ¬ (ts = [] ∧ ps.length < 12 ∧ okName w1 = true ∧ w1 ∉ ps) → Same H7 H' → Q0 true H' := fun nc s => hQ _ _ ⟨by rw [decide_eq_false nc]; rfl, s⟩
          refine ⟨_, rfl, sz0, fun l0 nl0 => ?_⟩
          wide_line with alx lv7 nl0 H8 lv8 s8
          refine ⟨t, l0, _, rfl, rfl, SqL.of (lv8.get 4 rfl), SqL.of (lv8.get 0 rfl), _, rfl, ?_⟩
          rw [if_pos rfl]
          cases ts with
          | cons t0 tr =>
            obtain ⟨x0, xr, rfl⟩ : ∃ x0 xr, tx = x0 :: xr := by
              cases tx with
              | nil => cases tlen
              | cons a b => exact ⟨a, b, rfl⟩
            exact iteT (yes (fun z => nomatch z.1) s8)
          | nil =>
          have e0 : tx = [] := List.eq_nil_of_length_eq_zero tlen
          subst e0
          refine iteF ⟨_, rfl, p, _, rfl, .inl (SqL.of (lv8.get 5 rfl)), _, _, rfl, rfl, _, rfl, ?_⟩
          rw [List.length_map]
          refine ite2 (fun c1 => ?_) (fun c1 => ?_)
          · have c1 := of_decide_eq_true c1
            exact yes (fun z => by have := z.2.1; omega) s8
          have c1 : ¬ _ := fun z => c1 (decide_eq_true z)
          refine ⟨_, rfl, W, _, 1, .str w1, rfl, rfl, SqL.of (lv8.get 1 rfl), rfl, _, rfl, p, _, rfl, .inl (SqL.of (lv8.get 5 rfl)), rfl, flat_strs _, ?_⟩
          rw [if_neg (by decide), in_strs]
          refine ⟨_, rfl, ?_⟩
          by_cases c2 : w1 ∈ ps
          · rw [decide_eq_true c2]
            exact iteT (yes (fun z => z.2.2.2 c2) s8)
          rw [decide_eq_false c2]
          refine iteF ⟨_, rfl, W, _, 1, .str w1, rfl, rfl, SqL.of (lv8.get 1 rfl), rfl, w1, rfl, by rw [sizeLine_eq]; exact Nat.le_trans (lenW w1 (by simp)) (by decide), fun H9 s9 => ⟨_, rfl, ?_⟩⟩
          refine hQ _ _ ⟨?_, s8.trans s9⟩
          rw [show decide (([] : List (Str × Str)) = [] ∧ ps.length < 12 ∧ okName w1 = true ∧ w1 ∉ ps) = okName w1 from by
            rw [Bool.eq_iff_iff, decide_eq_true_eq]
            exact ⟨fun z => z.2.2.1, fun z => ⟨rfl, by have := ro5.len; omega, z, c2⟩⟩]
        · obtain ⟨eb, s8⟩ := h8
          have nc : ¬ (ts = [] ∧ ps.length < 12 ∧ okName w1 = true ∧ w1 ∉ ps) := fun z => by rw [decide_eq_true z] at eb; cases eb
          rw [es, if_neg nc] at er
          exact ⟨_, rfl, _, _, rfl, rfl, ret (lv7.sm.trans s8) er⟩
        · obtain ⟨eb, s8⟩ := h8
          have c : ts = [] ∧ ps.length < 12 ∧ okName w1 = true ∧ w1 ∉ ps := Decidable.byContradiction fun z => by rw [decide_eq_false z] at eb; cases eb
          rw [if_pos c] at es
          rw [es] at er
          have lv8 := lv7.same s8
          refine ⟨_, rfl, .inl ⟨rfl, _, SqL.of (lv8.get 4 rfl)⟩, _, rfl, W, _, 1, .str w1, rfl, rfl, SqL.of (lv8.get 0 rfl), rfl, p, _, _, rfl, rfl, lv8.get 4 rfl, by have := ro5.len; rw [List.length_map, sizeLine_eq]; omega, ?_⟩
          have ht8 := RowP.f2 (F2.same s8) ht7
          generalize he : upd _ _ _ = H9
          have lv9 := Lv.stE lv8 4 rfl he
          have f9 : F2 p t H8 H9 := fun b o n1 _ e => by rw [← he, upd_ne n1]; exact e
          clear he
          try dsimp only at lv9
          have lvA : Lv H [] H9 [(L, .lst ((Txt.split Z NL).map V.str)), (t, .lst tx), (p, .lst ((ps ++ [w1]).map V.str))] := by
            rw [List.map_append]
            exact lv9.picks [2, 3, 4] rfl (by decide) (fun _ z => nomatch z)
          exact ⟨ps ++ [w1], ts, tx, _, _, _, _, rfl, lvA, RowP.f2 f9 ht8, ro5.step es, sg5, er⟩
      · -- a tie
        have es := step_tie (ps := ps) (ts := ts) ew
        rw [ew] at lv7 lenW sgW
        obtain ⟨u, v, euv, huv⟩ : ∃ u v, pairS x1 y1 = (u, v) ∧ ((u = x1 ∧ v = y1) ∨ (u = y1 ∧ v = x1)) := by
          rcases pairS_or x1 y1 with e | e
          · exact ⟨_, _, e, .inl ⟨rfl, rfl⟩⟩
          · exact ⟨_, _, e, .inr ⟨rfl, rfl⟩⟩
        have ep : pairP (x1, y1) = (u, v) := euv
        have cc : (x1 ∈ ps ∧ y1 ∈ ps ∧ x1 ≠ y1 ∧ pairP (x1, y1) ∉ ts.map pairP) ↔ ((u, v) ∉ ts.map pairP ∧ u ≠ v ∧ u ∈ ps ∧ v ∈ ps) := by
          rw [ep]
          rcases huv with ⟨rfl, rfl⟩ | ⟨rfl, rfl⟩
          · exact ⟨fun z => ⟨z.2.2.2, z.2.2.1, z.1, z.2.1⟩, fun z => ⟨z.2.2.1, z.2.2.2, z.2.1, z.1⟩⟩
          · exact ⟨fun z => ⟨z.2.2.2, fun q => z.2.2.1 q.symm, z.2.1, z.1⟩, fun z => ⟨z.2.2.2, z.2.2.1, fun q => z.2.1 q.symm, z.1⟩⟩
        have sgu : sgn u ∧ sgn v := by
          rcases huv with ⟨rfl, rfl⟩ | ⟨rfl, rfl⟩
          · exact ⟨sgW _ (by simp), sgW _ (by simp)⟩
          · exact ⟨sgW _ (by simp), sgW _ (by simp)⟩
        refine ⟨_, rfl, W, _, 0, .str "tie", rfl, rfl, SqL.of (lv7.get 0 rfl), rfl, rfl, ?_⟩
        rw [str_dec, decide_eq_false (show ("tie" : Str) ≠ "place" by decide)]
        refine ⟨_, rfl, iteF ?_⟩
        refine iteF ?_
        refine ⟨_, rfl, W, _, 0, .str "tie", rfl, rfl, SqL.of (lv7.get 0 rfl), rfl, rfl, ?_⟩
        rw [decide_eq_true (rfl : (V.str ("tie" : Str)) = V.str "tie")]
        refine ⟨_, rfl, iteT ?_⟩
        refine ⟨_, rfl, W, _, rfl, .inl (SqL.of (lv7.get 0 rfl)), rfl, ?_⟩
        rw [dec_int, show decide ((((([("tie" : Str), x1, y1] : List Str).map V.str).length : Nat) : Int) = 3) = true from rfl]
        refine ⟨_, rfl, iteT ?_⟩
        refine ⟨_, rfl, _, rfl, W, _, rfl, SqL.of (lv7.get 0 rfl), fun c8 nc8 => ?_⟩
        wide_line with alx lv7 nc8 H8 lv8 s8
        refine ⟨c8, [x1, y1], rfl, SqL.of (lv8.get 0 rfl), by simp, fun zs q pz sz nq => ?_⟩
        have ezs := sorted_two pz sz
        rw [euv] at ezs
        subst ezs
        wide_line with alx lv8 nq H9 lv9 s9
        have ht9 := RowP.f2 (F2.same (s8.trans s9)) ht7
        try dsimp only [gName]
        refine ifs_to (fun b H' => b = !decide ((u, v) ∉ ts.map pairP ∧ u ≠ v ∧ u ∈ ps ∧ v ∈ ps) ∧ Same H9 H') (fun Q0 hQ => ?_) (fun HA hA => ?_) (fun HA hA => ?_)
        · have yes : ∀ {H' : Hp}, ¬ ((u, v) ∉ ts.map pairP ∧ u ≠ v ∧ u ∈ ps ∧ v ∈ ps) → Same H9 H' → Q0 true H' := fun nc s => hQ _ _ ⟨by rw [decide_eq_false nc]; rfl, s⟩
          have dq9 : Dp K H9 (.ref q) (pairL (u, v)) := .lst (SqL.of (lv9.get 0 rfl)) (.cons (.str _) (.cons (.str _) .nil))
          refine ⟨_, rfl, _, rfl, pairL (u, v), (ts.map pairP).map pairL, dq9, .lst (SqL.of (lv9.get 5 rfl)) (RowP.dp ht9), shaped_pairL sgu.1 sgu.2, shaped_pairsL sg5, ?_⟩
          rw [any_pairL]
          refine ⟨_, rfl, ?_⟩
          by_cases c1 : (u, v) ∈ ts.map pairP
          · rw [decide_eq_true c1]
            exact iteT (yes (fun z => z.1 c1) (.refl _))
          rw [decide_eq_false c1]
          refine iteF ⟨_, rfl, q, _, 0, .str u, rfl, rfl, SqL.of (lv9.get 0 rfl), rfl, _, rfl, q, _, 1, .str v, rfl, rfl, SqL.of (lv9.get 0 rfl), rfl, rfl, ?_⟩
          rw [str_dec]
          refine ⟨_, rfl, ?_⟩
          by_cases c2 : u = v
          · rw [decide_eq_true c2]
            exact iteT (yes (fun z => z.2.1 c2) (.refl _))
          rw [decide_eq_false c2]
          refine iteF ⟨_, rfl, q, _, 0, .str u, rfl, rfl, SqL.of (lv9.get 0 rfl), rfl, _, rfl, p, _, rfl, .inl (SqL.of (lv9.get 6 rfl)), rfl, flat_strs _, ?_⟩
          rw [if_pos rfl, in_strs]
          refine ⟨_, rfl, ?_⟩
          by_cases c3 : u ∈ ps
          case neg =>
            rw [decide_eq_false c3]
            exact iteT (yes (fun z => c3 z.2.2.1) (.refl _))
          rw [decide_eq_true c3]
          refine iteF ⟨_, rfl, q, _, 1, .str v, rfl, rfl, SqL.of (lv9.get 0 rfl), rfl, _, rfl, p, _, rfl, .inl (SqL.of (lv9.get 6 rfl)), rfl, flat_strs _, ?_⟩
          rw [if_pos rfl, in_strs]
          refine ⟨_, rfl, hQ _ _ ⟨?_, .refl _⟩⟩
          congr 1
          exact decide_eq_decide.mpr ⟨fun z => ⟨c1, c2, c3, z⟩, fun z => z.2.2.2⟩
        · obtain ⟨eb, sA⟩ := hA
          have nc : ¬ ((u, v) ∉ ts.map pairP ∧ u ≠ v ∧ u ∈ ps ∧ v ∈ ps) := fun z => by rw [decide_eq_true z] at eb; cases eb
          rw [es, if_neg (fun z => nc (cc.mp z))] at er
          exact ⟨_, rfl, _, _, rfl, rfl, ret (lv9.sm.trans sA) er⟩
        · obtain ⟨eb, sA⟩ := hA
          have c : (u, v) ∉ ts.map pairP ∧ u ≠ v ∧ u ∈ ps ∧ v ∈ ps := Decidable.byContradiction fun z => by rw [decide_eq_false z] at eb; cases eb
          rw [if_pos (cc.mpr c)] at es
          rw [es] at er
          have lvA := lv9.same sA
          have htA := RowP.f2 (F2.same sA) ht9
          refine ⟨_, rfl, .inl ⟨rfl, _, SqL.of (lvA.get 5 rfl)⟩, _, rfl, t, _, _, rfl, rfl, lvA.get 5 rfl, by rw [tlen, sizeLine_eq]; omega, ?_⟩
          have nqp : q ≠ p := lvA.ne 0 6 (by decide) rfl rfl
          have nqt : q ≠ t := lvA.ne 0 5 (by decide) rfl rfl
          have hq := lvA.get 0 rfl
          generalize he : upd _ _ _ = HB
          have lvB := Lv.stE lvA 5 rfl he
          have fB : F2 p t HA HB := fun b o _ n2 e => by rw [← he, upd_ne n2]; exact e
          clear he
          try dsimp only at lvB
          refine ⟨ps, ts ++ [(x1, y1)], tx ++ [.ref q], _, _, _, _, rfl, lvB.picks [4, 5, 6] rfl (by decide) (fun _ z => nomatch z), ?_, ro5.step es, ?_, er⟩
          · rw [List.map_append]
            exact paired_app (RowP.f2 fB htA) (.cons ⟨q, rfl, nqp, nqt, by rw [ep]; exact fB _ _ nqp nqt hq⟩ .nil)
          · intro z hz
            rw [List.map_append] at hz
            rcases List.mem_append.mp hz with hz | hz
            · exact sg5 z hz
            · rw [List.mem_singleton.mp hz, ep]
              exact sgu
      · -- neither
        rw [es] at er
        rw [ew] at lv7
        have r1 : Q (.int ((i : Nat) + 1)) H7 := ret lv7.sm er
        refine ⟨_, rfl, W, _, 0, .str a, rfl, rfl, SqL.of (lv7.get 0 rfl), atI_nat (j := 0) rfl, rfl, ?_⟩
        rw [str_dec]
        refine ⟨_, rfl, ?_⟩
        have ll2 : ((((a :: r).map V.str).length : Nat) : Int) = (r.length : Nat) + 1 := by rw [List.length_map, List.length_cons]; omega
        by_cases c1 : a = "place"
        · rw [decide_eq_true c1]
          refine iteT ⟨_, rfl, W, _, rfl, .inl (SqL.of (lv7.get 0 rfl)), rfl, ?_⟩
          rw [dec_int, decide_eq_false (by rw [ll2]; have := na c1; omega)]
          refine ⟨_, rfl, iteF ?_⟩
          refine ⟨_, rfl, W, _, 0, .str a, rfl, rfl, SqL.of (lv7.get 0 rfl), atI_nat (j := 0) rfl, rfl, ?_⟩
          rw [str_dec, decide_eq_false (by rw [c1]; decide)]
          exact ⟨_, rfl, iteF (iteF ⟨_, rfl, _, _, rfl, rfl, r1⟩)⟩
        · rw [decide_eq_false c1]
          refine iteF (iteF ?_)
          refine ⟨_, rfl, W, _, 0, .str a, rfl, rfl, SqL.of (lv7.get 0 rfl), atI_nat (j := 0) rfl, rfl, ?_⟩
          rw [str_dec]
          refine ⟨_, rfl, ?_⟩
          by_cases c2 : a = "tie"
          · rw [decide_eq_true c2]
            refine iteT ⟨_, rfl, W, _, rfl, .inl (SqL.of (lv7.get 0 rfl)), rfl, ?_⟩
            rw [dec_int, decide_eq_false (by rw [ll2]; have := nb c2; omega)]
            exact ⟨_, rfl, iteF ⟨_, rfl, _, _, rfl, rfl, r1⟩⟩
          · rw [decide_eq_false c2]
            exact iteF (iteF ⟨_, rfl, _, _, rfl, rfl, r1⟩)
    · rintro σ H5 ⟨ps, ts, tx, s3, s4, s5, s6, rfl, lv5, ht5, ro5, sg5, er⟩
      rw [len_ls, List.drop_length] at er
      have := k H5 lv5.sm
      unfold firstBad at this
      rw [er] at this
      exact this
end
end Pw

set_option Elab.async false
set_option linter.all false
set_option maxRecDepth 100000
set_option maxHeartbeats 4000000
namespace Pw
open PySem PySem.Spec PyProof.Rows L2 Ct
local macro_rules | `(tactic| wide_line) => `(tactic| repeat ((fail_if_success (with_reducible refine at_while ?_)); (fail_if_success (with_reducible refine at_while1 ?_)); (conv => whnf); first | ((with_reducible refine And.intro ?_ ?_); focus (first | (first | ((with_reducible show (_ : Nat) ≤ _); first | exact sz0 | exact sz1 | exact sz2 | exact sz3 | exact sz4 | exact sz5 | exact sz6 | exact sz7 | exact sz8 | exact sz10 | exact sz11 | exact sz12 | exact sz14 | omega | decide | (simp only [List.length_cons, List.length_nil]; omega)) | ((with_reducible show (_ : Int) ≤ _); first | omega | decide) | ((with_reducible show (_ : Int) < _); first | omega | decide) | ((with_reducible show (_ : Nat) < _); omega)) | ((fail_if_success (with_reducible show (_ : Nat) ≤ _)); (fail_if_success (with_reducible show (_ : Int) ≤ _)); (fail_if_success (with_reducible show (_ : Int) < _)); (fail_if_success (with_reducible show (_ : Nat) < _)); first | exact kv_str _ | exact kv_int _ | rfl | assumption | exact flat_strs _ | exact Lv.get (by assumption) 0 rfl | exact Lv.get (by assumption) 1 rfl | exact Lv.get (by assumption) 2 rfl | exact Lv.get (by assumption) 3 rfl | exact Lv.get (by assumption) 4 rfl | exact Lv.get (by assumption) 5 rfl | exact Lv.get (by assumption) 6 rfl | exact SqL.of (Lv.get (by assumption) 0 rfl) | exact SqL.of (Lv.get (by assumption) 1 rfl) | exact SqL.of (Lv.get (by assumption) 2 rfl) | exact SqL.of (Lv.get (by assumption) 3 rfl) | exact SqL.of (Lv.get (by assumption) 4 rfl) | exact SqL.of (Lv.get (by assumption) 5 rfl) | exact Or.inl (SqL.of (Lv.get (by assumption) 0 rfl)) | exact Or.inl (SqL.of (Lv.get (by assumption) 1 rfl)) | exact Or.inl (SqL.of (Lv.get (by assumption) 2 rfl)) | exact Or.inl (SqL.of (Lv.get (by assumption) 3 rfl)) | exact Or.inl (SqL.of (Lv.get (by assumption) 4 rfl)) | exact Or.inl (SqL.of (Lv.get (by assumption) 5 rfl)) | exact ⟨_, SqL.of (Lv.get (by assumption) 0 rfl)⟩ | exact ⟨_, SqL.of (Lv.get (by assumption) 1 rfl)⟩ | exact ⟨_, SqL.of (Lv.get (by assumption) 2 rfl)⟩ | exact ⟨_, SqL.of (Lv.get (by assumption) 3 rfl)⟩ | exact ⟨_, SqL.of (Lv.get (by assumption) 4 rfl)⟩ | exact ⟨_, SqL.of (Lv.get (by assumption) 5 rfl)⟩ | exact Or.inl ⟨_, SqL.of (Lv.get (by assumption) 0 rfl), rfl⟩ | exact Or.inl ⟨_, SqL.of (Lv.get (by assumption) 1 rfl), rfl⟩ | exact Or.inl ⟨_, SqL.of (Lv.get (by assumption) 2 rfl), rfl⟩ | exact Or.inl ⟨_, SqL.of (Lv.get (by assumption) 3 rfl), rfl⟩ | exact Or.inl ⟨_, SqL.of (Lv.get (by assumption) 4 rfl), rfl⟩ | exact Or.inl ⟨_, SqL.of (Lv.get (by assumption) 5 rfl), rfl⟩ | exact Or.inl ⟨rfl, _, SqL.of (Lv.get (by assumption) 0 rfl)⟩ | exact Or.inl ⟨rfl, _, SqL.of (Lv.get (by assumption) 1 rfl)⟩ | exact Or.inl ⟨rfl, _, SqL.of (Lv.get (by assumption) 2 rfl)⟩ | exact Or.inl ⟨rfl, _, SqL.of (Lv.get (by assumption) 3 rfl)⟩ | exact Or.inl ⟨rfl, _, SqL.of (Lv.get (by assumption) 4 rfl)⟩ | exact Or.inl ⟨rfl, _, SqL.of (Lv.get (by assumption) 5 rfl)⟩ | exact Or.inr (SqT.of (Lv.get (by assumption) 0 rfl)) | exact Or.inr (SqT.of (Lv.get (by assumption) 1 rfl)) | exact Or.inr (SqT.of (Lv.get (by assumption) 2 rfl)) | exact Or.inr (SqT.of (Lv.get (by assumption) 3 rfl)) | exact SqT.of (Lv.get (by assumption) 0 rfl) | exact SqT.of (Lv.get (by assumption) 1 rfl) | exact SqT.of (Lv.get (by assumption) 2 rfl) | exact dgetN (Lv.get (by assumption) 0 rfl) (by assumption) | exact dgetN (Lv.get (by assumption) 1 rfl) (by assumption) | exact dgetN (Lv.get (by assumption) 2 rfl) (by assumption) | exact dgetN (Lv.get (by assumption) 3 rfl) (by assumption) | exact dgetN (Lv.get (by assumption) 4 rfl) (by assumption) | exact Or.inl (by assumption) | exact Or.inr (by assumption) | decide | ((with_reducible show _ ∧ _); omega)))) | ((fail_if_success (with_reducible apply @Exists.intro (Nat → _))); (with_reducible apply Exists.intro))))
local macro_rules
  | `(tactic| wide_line with al $lv:ident $l:ident $nl:ident $H:ident $lv1:ident $s1:ident) => `(tactic| (intro $l:ident $nl:ident; generalize he : upd _ _ _ = $H:ident; have $lv1:ident := Lv.alE $lv $nl he; have $s1:ident := sameE $nl he; clear he; (try simp only [List.set_cons_zero, List.set_cons_succ] at $lv1:ident)))
  | `(tactic| wide_line with alx $lv:ident $nl:ident $H:ident $lv1:ident $s1:ident) => `(tactic| (generalize he : upd _ _ _ = $H:ident; have $lv1:ident := Lv.alE $lv $nl he; have $s1:ident := sameE $nl he; clear he; (try simp only [List.set_cons_zero, List.set_cons_succ] at $lv1:ident)))
  | `(tactic| wide_line with sts $lv:ident $i:num $H:ident $lv1:ident $s0:ident $np:ident $s1:ident) => `(tactic| (generalize he : upd _ _ _ = $H:ident; have $lv1:ident := Lv.stE $lv $i rfl he; have $s1:ident := sameN $s0 $np he; clear he; (try simp only [List.set_cons_zero, List.set_cons_succ] at $lv1:ident)))
  | `(tactic| wide_line with stx $lv:ident $H:ident $lv1:ident $d1:ident) => `(tactic| (generalize he : upd _ _ _ = $H:ident; have $lv1:ident := Lv.stE $lv 0 rfl he; have $d1:ident := SameD.storeE (Lv.get $lv 0 rfl) he; clear he; (try simp only [List.set_cons_zero, List.set_cons_succ] at $lv1:ident)))
  | `(tactic| wide_line with st $lv:ident $i:num $H:ident $lv1:ident) => `(tactic| (generalize he : upd _ _ _ = $H:ident; have $lv1:ident := Lv.stE $lv $i rfl he; clear he; (try simp only [List.set_cons_zero, List.set_cons_succ] at $lv1:ident)))
  | `(tactic| wide_line with stk $lv:ident $i:num $H:ident $lv1:ident $k1:ident) => `(tactic| (generalize he : upd _ _ _ = $H:ident; have $lv1:ident := Lv.stE $lv $i rfl he; have $k1:ident := KeepT.st (Lv.get $lv $i rfl) he; clear he; (try simp only [List.set_cons_zero, List.set_cons_succ] at $lv1:ident)))
/-- the error's class as the clause sees it -/
structure ToldB (K : PySem.W.Frag) (mg : Str → Option Value) (CB : Addr) : Prop where
  g : mg "BadText" = some (.ref CB)
  x : ExcC K CB
  n : PySem.W.findIn K (.ref CB) "line" = some none
  m : PySem.W.exmOne K (.ref CB) (.ref CB) = some true
def toldOf : PyData → Int
  | .str T => firstBad T
  | _ => 1
def spLawTold (K : PySem.W.Frag) : Sp := fun vs H Q _ => ∃ (v : V) (d : PyData), vs = [v] ∧ Dq K H v d ∧ (∀ T, d = .str T → T.length ≤ 16000000) ∧ ∀ H', Same H H' → Q (.int (toldOf d)) H'
section
variable {P : Program} {w : World} {K : PySem.W.Frag} {mg : Str → Option Value} {base : Heap} {C CB : Addr}
abbrev sLawTold : Stmt := top ix_law_told
theorem scLawTold : FnScope ["value", "told", "error"] ["value"] (defScope sLawTold) := ⟨rfl, rfl, rfl, by decide +kernel, rfl, by decide +kernel, by decide +kernel⟩
theorem has_law_told (L : ToldB K mg CB) (D : DFE K mg "_law_told" sLawTold ["value"]) (h_read_web : HasR P w K mg base 6 "read_web" ["text"] (spReadWeb K C CB)) (h_web_text : Has P w K mg base CX0 3 "web_text" ["web"] (spWebText K C)) : Has P w K mg base CX0 7 "_law_told" ["value"] (spLawTold K) := by
  refine has_of D scLawTold (fun vs H Q E h => ?_) (fun f cdv A outer s H vs Q E hr h => ?_)
  · obtain ⟨v, d, rfl, _⟩ := h; rfl
  · obtain ⟨v, d, rfl, hd, len, k⟩ := h
    have nd := scLawTold.nd
    refine ⟨_, (pss_cons (ps_try_named (Wout := fun _ _ _ _ => False) rfl rfl nd takes_none5
      (.cons (i := 2) ⟨rfl, by decide, .inl L.g⟩ rfl rfl (fun a o k d pn hz hf => pss_one (ps_ret (pe_caught (K := K) rfl hz hf (pv 2)))) .nil)
      (fun W pn xe tk _ => pss_one (ps_sv 1 nd (pe_hR h_read_web tk hr (by decide) rfl (pa_cons (pv 0) pa_nil)))))
    (pss_one (ps_ret (pe_ifExp (pt_cmpR op_eq (pe_h h_web_text hr (by decide) rfl (pa_cons (pv 1) pa_nil)) (pv 0) (by first | exact nomark _ | rfl)) pe_int pe_non)))), ?_⟩
    refine ⟨_, rfl, v, d, rfl, hd, fun no => ?_, fun T e => ⟨len T e, fun n er => ?_, fun ps ts er x H1 s1 nx wx => ?_⟩⟩
    · intro dd H3 s3 ndd hdd
      refine ⟨true, L.m, fun _ a na => ⟨_, rfl, rfl, CB, dd, _, .int 1, rfl, rfl, hdd, L.x, L.n, rfl, ?_⟩, (fun z => nomatch z)⟩
      have e : toldOf d = 1 := by cases d <;> first | rfl | exact absurd rfl (no _)
      exact e ▸ k H3 s3
    · intro dd H3 s3 ndd hdd
      refine ⟨true, L.m, fun _ a na => ⟨_, rfl, rfl, CB, dd, _, .int (n : Nat), rfl, rfl, hdd, L.x, L.n, rfl, ?_⟩, (fun z => nomatch z)⟩
      subst e
      have : Q (.int (firstBad T)) H3 := k H3 s3
      unfold firstBad at this
      rw [er] at this
      exact this
    · subst e
      cases hd
      have r := readT_ok er (by decide) List.nodup_nil (fun _ z => nomatch z) (fun _ z => nomatch z) List.nodup_nil
      have ro : ROk ps ts := ⟨r.1, r.2.1, r.2.2.1, r.2.2.2.1, r.2.2.2.2.1⟩
      have few := few_tiesR ro
      have pk : PlanOk 12 ps ts := ⟨read_one (split_ne T NL) er, ro.len, ro.nd, ro.nm, ro.tie, ro.dif, by omega⟩
      refine ⟨_, rfl, x, 12, ps, ts, rfl, WebAt.same noLst_sub wx, pk, Nat.le_refl _, fun H2 s2 => ?_⟩
      refine ⟨_, rfl, rfl, ?_⟩
      rw [readT_text er, decide_eq_true rfl]
      refine ⟨_, rfl, iteT ?_⟩
      have : Q (.int (firstBad T)) H2 := k H2 (s1.trans s2)
      unfold firstBad at this
      rw [er] at this
      exact this
end
end Pw

set_option Elab.async false
set_option linter.all false
set_option maxRecDepth 100000
set_option maxHeartbeats 4000000
namespace Pw
open PySem PySem.Spec PyProof.Rows L2 Ct
local macro_rules | `(tactic| wide_line) => `(tactic| repeat ((fail_if_success (with_reducible refine at_while ?_)); (fail_if_success (with_reducible refine at_while1 ?_)); (conv => whnf); first | ((with_reducible refine And.intro ?_ ?_); focus (first | (first | ((with_reducible show (_ : Nat) ≤ _); first | exact sz0 | exact sz1 | exact sz2 | exact sz3 | exact sz4 | exact sz5 | exact sz6 | exact sz7 | exact sz8 | exact sz10 | exact sz11 | exact sz12 | exact sz14 | omega | decide | (simp only [List.length_cons, List.length_nil]; omega)) | ((with_reducible show (_ : Int) ≤ _); first | omega | decide) | ((with_reducible show (_ : Int) < _); first | omega | decide) | ((with_reducible show (_ : Nat) < _); omega)) | ((fail_if_success (with_reducible show (_ : Nat) ≤ _)); (fail_if_success (with_reducible show (_ : Int) ≤ _)); (fail_if_success (with_reducible show (_ : Int) < _)); (fail_if_success (with_reducible show (_ : Nat) < _)); first | exact kv_str _ | exact kv_int _ | rfl | assumption | exact flat_strs _ | exact Lv.get (by assumption) 0 rfl | exact Lv.get (by assumption) 1 rfl | exact Lv.get (by assumption) 2 rfl | exact Lv.get (by assumption) 3 rfl | exact Lv.get (by assumption) 4 rfl | exact Lv.get (by assumption) 5 rfl | exact Lv.get (by assumption) 6 rfl | exact SqL.of (Lv.get (by assumption) 0 rfl) | exact SqL.of (Lv.get (by assumption) 1 rfl) | exact SqL.of (Lv.get (by assumption) 2 rfl) | exact SqL.of (Lv.get (by assumption) 3 rfl) | exact SqL.of (Lv.get (by assumption) 4 rfl) | exact SqL.of (Lv.get (by assumption) 5 rfl) | exact Or.inl (SqL.of (Lv.get (by assumption) 0 rfl)) | exact Or.inl (SqL.of (Lv.get (by assumption) 1 rfl)) | exact Or.inl (SqL.of (Lv.get (by assumption) 2 rfl)) | exact Or.inl (SqL.of (Lv.get (by assumption) 3 rfl)) | exact Or.inl (SqL.of (Lv.get (by assumption) 4 rfl)) | exact Or.inl (SqL.of (Lv.get (by assumption) 5 rfl)) | exact ⟨_, SqL.of (Lv.get (by assumption) 0 rfl)⟩ | exact ⟨_, SqL.of (Lv.get (by assumption) 1 rfl)⟩ | exact ⟨_, SqL.of (Lv.get (by assumption) 2 rfl)⟩ | exact ⟨_, SqL.of (Lv.get (by assumption) 3 rfl)⟩ | exact ⟨_, SqL.of (Lv.get (by assumption) 4 rfl)⟩ | exact ⟨_, SqL.of (Lv.get (by assumption) 5 rfl)⟩ | exact Or.inl ⟨_, SqL.of (Lv.get (by assumption) 0 rfl), rfl⟩ | exact Or.inl ⟨_, SqL.of (Lv.get (by assumption) 1 rfl), rfl⟩ | exact Or.inl ⟨_, SqL.of (Lv.get (by assumption) 2 rfl), rfl⟩ | exact Or.inl ⟨_, SqL.of (Lv.get (by assumption) 3 rfl), rfl⟩ | exact Or.inl ⟨_, SqL.of (Lv.get (by assumption) 4 rfl), rfl⟩ | exact Or.inl ⟨_, SqL.of (Lv.get (by assumption) 5 rfl), rfl⟩ | exact Or.inl ⟨rfl, _, SqL.of (Lv.get (by assumption) 0 rfl)⟩ | exact Or.inl ⟨rfl, _, SqL.of (Lv.get (by assumption) 1 rfl)⟩ | exact Or.inl ⟨rfl, _, SqL.of (Lv.get (by assumption) 2 rfl)⟩ | exact Or.inl ⟨rfl, _, SqL.of (Lv.get (by assumption) 3 rfl)⟩ | exact Or.inl ⟨rfl, _, SqL.of (Lv.get (by assumption) 4 rfl)⟩ | exact Or.inl ⟨rfl, _, SqL.of (Lv.get (by assumption) 5 rfl)⟩ | exact Or.inr (SqT.of (Lv.get (by assumption) 0 rfl)) | exact Or.inr (SqT.of (Lv.get (by assumption) 1 rfl)) | exact Or.inr (SqT.of (Lv.get (by assumption) 2 rfl)) | exact Or.inr (SqT.of (Lv.get (by assumption) 3 rfl)) | exact SqT.of (Lv.get (by assumption) 0 rfl) | exact SqT.of (Lv.get (by assumption) 1 rfl) | exact SqT.of (Lv.get (by assumption) 2 rfl) | exact dgetN (Lv.get (by assumption) 0 rfl) (by assumption) | exact dgetN (Lv.get (by assumption) 1 rfl) (by assumption) | exact dgetN (Lv.get (by assumption) 2 rfl) (by assumption) | exact dgetN (Lv.get (by assumption) 3 rfl) (by assumption) | exact dgetN (Lv.get (by assumption) 4 rfl) (by assumption) | exact Or.inl (by assumption) | exact Or.inr (by assumption) | decide | ((with_reducible show _ ∧ _); omega)))) | ((fail_if_success (with_reducible apply @Exists.intro (Nat → _))); (with_reducible apply Exists.intro))))
local macro_rules
  | `(tactic| wide_line with al $lv:ident $l:ident $nl:ident $H:ident $lv1:ident $s1:ident) => `(tactic| (intro $l:ident $nl:ident; generalize he : upd _ _ _ = $H:ident; have $lv1:ident := Lv.alE $lv $nl he; have $s1:ident := sameE $nl he; clear he; (try simp only [List.set_cons_zero, List.set_cons_succ] at $lv1:ident)))
  | `(tactic| wide_line with alx $lv:ident $nl:ident $H:ident $lv1:ident $s1:ident) => `(tactic| (generalize he : upd _ _ _ = $H:ident; have $lv1:ident := Lv.alE $lv $nl he; have $s1:ident := sameE $nl he; clear he; (try simp only [List.set_cons_zero, List.set_cons_succ] at $lv1:ident)))
  | `(tactic| wide_line with sts $lv:ident $i:num $H:ident $lv1:ident $s0:ident $np:ident $s1:ident) => `(tactic| (generalize he : upd _ _ _ = $H:ident; have $lv1:ident := Lv.stE $lv $i rfl he; have $s1:ident := sameN $s0 $np he; clear he; (try simp only [List.set_cons_zero, List.set_cons_succ] at $lv1:ident)))
  | `(tactic| wide_line with stx $lv:ident $H:ident $lv1:ident $d1:ident) => `(tactic| (generalize he : upd _ _ _ = $H:ident; have $lv1:ident := Lv.stE $lv 0 rfl he; have $d1:ident := SameD.storeE (Lv.get $lv 0 rfl) he; clear he; (try simp only [List.set_cons_zero, List.set_cons_succ] at $lv1:ident)))
  | `(tactic| wide_line with st $lv:ident $i:num $H:ident $lv1:ident) => `(tactic| (generalize he : upd _ _ _ = $H:ident; have $lv1:ident := Lv.stE $lv $i rfl he; clear he; (try simp only [List.set_cons_zero, List.set_cons_succ] at $lv1:ident)))
  | `(tactic| wide_line with stk $lv:ident $i:num $H:ident $lv1:ident $k1:ident) => `(tactic| (generalize he : upd _ _ _ = $H:ident; have $lv1:ident := Lv.stE $lv $i rfl he; have $k1:ident := KeepT.st (Lv.get $lv $i rfl) he; clear he; (try simp only [List.set_cons_zero, List.set_cons_succ] at $lv1:ident)))
/-- lines of bounded length, of signs that can stand in data -/
def LinesOk (B : Nat) (ls : List Str) : Prop := ∀ z ∈ ls, z.length ≤ B ∧ sgn z
theorem LinesOk.mono {B B' : Nat} {ls : List Str} (h : LinesOk B ls) (l : B ≤ B') : LinesOk B' ls := fun z hz => ⟨Nat.le_trans (h z hz).1 l, (h z hz).2⟩
theorem LinesOk.app {B : Nat} {ls ms : List Str} (h : LinesOk B ls) (k : LinesOk B ms) : LinesOk B (ls ++ ms) := fun z hz => (List.mem_append.mp hz).elim (h z) (k z)
theorem LinesOk.one {B : Nat} {x : Str} (h : x.length ≤ B) (s : sgn x) : LinesOk B [x] := fun z hz => by rw [List.mem_singleton.mp hz]; exact ⟨h, s⟩
/-- a part of a row of texts -/
def cutL (ls : List Str) (lo hi : Option Int) : List Str := (ls.drop (HT.sIx ls.length 0 lo)).take (HT.sIx ls.length ls.length hi - HT.sIx ls.length 0 lo)
theorem cut_map (ls : List Str) (lo hi : Option Int) : cutV (ls.map V.str) lo hi = (cutL ls lo hi).map V.str := by
  unfold cutV cutL
  rw [List.length_map, List.map_take, List.map_drop]
theorem cutL_mem {ls : List Str} {lo hi : Option Int} {z : Str} (h : z ∈ cutL ls lo hi) : z ∈ ls := List.mem_of_mem_drop (List.mem_of_mem_take h)
theorem cutL_len (ls : List Str) (lo hi : Option Int) : (cutL ls lo hi).length ≤ ls.length := by
  unfold cutL
  rw [List.length_take, List.length_drop]
  omega
theorem LinesOk.cut {B : Nat} {ls : List Str} (h : LinesOk B ls) (lo hi : Option Int) : LinesOk B (cutL ls lo hi) := fun z hz => h z (cutL_mem hz)
theorem cutS_len (x : Str) (lo hi : Option Int) : (cutS x lo hi).length ≤ x.length := by
  unfold cutS
  show (List.toArray _).size ≤ x.cps.size
  rw [List.size_toArray, List.length_take, List.length_drop, ← Array.length_toList]
  omega
theorem cutS_sgn {x : Str} (h : sgn x) (lo hi : Option Int) : sgn (cutS x lo hi) := by
  rw [sgn_iff] at h ⊢
  exact fun c hc => h c (List.mem_of_mem_drop (List.mem_of_mem_take hc))
theorem join_le2 {s : Str} {m : Nat} : ∀ {l : List Str}, (∀ z ∈ l, z.length ≤ m) → (Str.join s l).length ≤ l.length * (m + s.length)
  | [], _ => Nat.zero_le _
  | [a], h => by
    have := h a List.mem_cons_self
    show a.length ≤ 1 * _
    omega
  | a :: b :: l, h => by
    have ih := join_le2 (s := s) fun z hz => h z (List.mem_cons_of_mem _ hz)
    have := h a List.mem_cons_self
    have e : (Str.join s (a :: b :: l)).length = a.length + s.length + (Str.join s (b :: l)).length := by
      show ((a ++ s) ++ Str.join s (b :: l)).length = _
      rw [strLen_append, strLen_append]
    rw [e, List.length_cons, Nat.succ_mul]
    omega
theorem split_count {T : Str} : (Txt.split T SP).length ≤ T.length + 1 := by
  have e := PySem.StrLaws.join_split T SP
  have h : ∀ l : List Str, l.length ≤ (Str.join SP l).length + 1 := by
    intro l
    induction l with
    | nil => exact Nat.zero_le _
    | cons a l ih =>
      cases l with
      | nil => show 1 ≤ a.length + 1; omega
      | cons b l =>
        have e : (Str.join SP (a :: b :: l)).length = a.length + SP.length + (Str.join SP (b :: l)).length := by
          show ((a ++ SP) ++ Str.join SP (b :: l)).length = _
          rw [strLen_append, strLen_append]
        have e1 : SP.length = 1 := rfl
        rw [e, e1, List.length_cons]
        omega
  have := h (Txt.split T SP)
  rwa [e] at this
theorem cut_drop (xs : List V) (n : Nat) : cutV xs (some (n : Int)) none = xs.drop n := by
  unfold cutV
  rw [HT.sIx_none, HT.sIx_nat]
  by_cases h : n ≤ xs.length
  · rw [Nat.min_eq_left h]
    exact List.take_of_length_le (by rw [List.length_drop]; exact Nat.le_refl _)
  · rw [Nat.min_eq_right (by omega), Nat.sub_self, List.take_zero, List.drop_of_length_le (by omega : xs.length ≤ n)]
theorem join_sum {s : Str} : ∀ {l : List Str}, l ≠ [] → (Str.join s l).length + s.length = (l.map fun z => z.length + s.length).sum
  | [a], _ => by show a.length + s.length = (a.length + s.length) + 0; omega
  | a :: b :: l, _ => by
    have ih := join_sum (s := s) (l := b :: l) (List.cons_ne_nil _ _)
    have e : (Str.join s (a :: b :: l)).length = a.length + s.length + (Str.join s (b :: l)).length := by
      show ((a ++ s) ++ Str.join s (b :: l)).length = _
      rw [strLen_append, strLen_append]
    rw [List.map_cons, List.sum_cons, ← ih, e]
    omega
theorem join_perm {s : Str} {l m : List Str} (p : l.Perm m) : (Str.join s l).length = (Str.join s m).length := by
  by_cases c : l = []
  · subst c
    rw [List.nil_perm.mp p]
  · have c2 : m ≠ [] := fun z => by subst z; exact c (List.perm_nil.mp p)
    have h1 := join_sum (s := s) c
    have h2 := join_sum (s := s) c2
    have h3 := (p.map fun z => z.length + s.length).sum_nat
    omega
theorem sum_len {s : Str} {l : List Str} : (l.map (·.length)).sum + l.length * s.length = (l.map fun z => z.length + s.length).sum := by
  induction l with
  | nil => show 0 + 0 * s.length = 0; omega
  | cons a l ih =>
    rw [List.map_cons, List.map_cons, List.sum_cons, List.sum_cons, List.length_cons, Nat.succ_mul, ← ih]
    omega
def opts (nm : Str) : List Str := [("place " : Str) ++ nm, ((("tie " : Str) ++ nm) ++ (" " : Str)) ++ nm, ("tie " : Str) ++ nm, "place", "tie a b", "tie b a", "place q r", "", "Place q", "TIE a b", "place  q", " place q", "place q ", "place abcdefghi", "place zzzz", "place tie"]
theorem opts_ok {B : Nat} {nm : Str} (hB : 8 ≤ B) (h : nm.length ≤ B) (s : sgn nm) : LinesOk (2 * B + 20) (opts nm) := by
  intro z hz
  have e6 : (("place " : String) : Str).length = 6 := rfl
  have e4 : (("tie " : String) : Str).length = 4 := rfl
  have e1 : ((" " : String) : Str).length = 1 := rfl
  have s6 : sgn ("place " : Str) := by show PyData.strOk _ = true; decide +kernel
  have s4 : sgn ("tie " : Str) := by show PyData.strOk _ = true; decide +kernel
  have s1 : sgn (" " : Str) := by show PyData.strOk _ = true; decide +kernel
  have lit : ∀ z : Str, (decide (z.length ≤ 16) && PyData.strOk z) = true → z.length ≤ 2 * B + 20 ∧ sgn z := fun z h => by
    rw [Bool.and_eq_true, decide_eq_true_eq] at h
    exact ⟨by omega, h.2⟩
  simp only [opts, List.mem_cons, List.not_mem_nil, or_false] at hz
  rcases hz with rfl | rfl | rfl | rfl | rfl | rfl | rfl | rfl | rfl | rfl | rfl | rfl | rfl | rfl | rfl | rfl
  · exact ⟨by rw [strLen_append, e6]; omega, sgn_app.mpr ⟨s6, s⟩⟩
  · exact ⟨by rw [strLen_append, strLen_append, strLen_append, e4, e1]; omega, sgn_app.mpr ⟨sgn_app.mpr ⟨sgn_app.mpr ⟨s4, s⟩, s1⟩, s⟩⟩
  · exact ⟨by rw [strLen_append, e4]; omega, sgn_app.mpr ⟨s4, s⟩⟩
  all_goals exact lit _ (by decide +kernel)
theorem sgn_one {x : Str} (h : sgn x) {c : Nat} (hc : c ∈ x.cps.toList) : sgn ⟨#[c]⟩ := by
  rw [sgn_iff] at h ⊢
  intro d hd
  rw [List.mem_singleton.mp hd]
  exact h c hc
/-- bent(source, lines) -/
def spBent : Sp := fun vs H Q _ => ∃ (p l : Addr) (r m : Int) (ls : List Str) (B : Nat), vs = [.ref p, .ref l] ∧ H p = some (.lst [.int r, .int m]) ∧ SrcOk r m ∧ H l = some (.lst (ls.map V.str)) ∧ l ≠ p ∧ ls ≠ [] ∧ ls.length ≤ 1000 ∧ 8 ≤ B ∧ B ≤ 100000 ∧ LinesOk B ls ∧
  ∀ (r' m' : Int) (l' : Addr) (ls' : List Str) (H' : Hp), SrcOk r' m' → (∀ b o, b ≠ p → H b = some o → H' b = some o) → H' p = some (.lst [.int r', .int m']) → H l' = none → H' l' = some (.lst (ls'.map V.str)) → ls'.length ≤ 4 * ls.length + 1 → LinesOk (2 * B + 20) ls' → Q (.ref l') H'
section
variable {P : Program} {w : World} {K : PySem.W.Frag} {mg : Str → Option Value} {base : Heap} {C CB : Addr}
abbrev sLawBent : Stmt := top ix_law_bent
theorem scLawBent : FnScope ["source", "lines", "at", "to", "kind", "line", "rest", "words", "name", "spot", "sign", "some"] ["source", "lines"] (defScope sLawBent) := ⟨rfl, rfl, rfl, by decide +kernel, rfl, by decide +kernel, by decide +kernel⟩
theorem has_law_bent (T : Bn mg) (D : DFE K mg "_law_bent" sLawBent ["source", "lines"]) (h_law_draw : Has P w K mg base CX0 1 "_law_draw" ["source", "span"] spDraw) (h_law_pick : Has P w K mg base CX0 2 "_law_pick" ["source", "things"] (spPick2 K)) : Has P w K mg base CX0 3 "_law_bent" ["source", "lines"] spBent := by
  refine has_of D scLawBent (fun vs H Q E h => ?_) (fun f cdv A outer s H vs Q E hr h => ?_)
  · obtain ⟨p, l, r, m, ls, B, rfl, _⟩ := h; rfl
  · obtain ⟨p, l, r, m, ls, B, rfl, hp, ok, hl, lp, ne, few, b8, bB, lk, k⟩ := h
    have nd := scLawBent.nd
    refine ⟨_, (pss_cons (ps_par3 (i := 2) (j := 3) (l := 4) (by rfl) nd rfl rfl rfl (by decide) (by decide) (by decide) rfl rfl rfl (pa_cons (pe_h h_law_draw hr (by decide) rfl (pa_cons (pv 0) (pa_cons (pe_callB call_len (by rfl) T.z_len (by decide +kernel) (pa_cons (pv 1) pa_nil)) pa_nil))) (pa_cons (pe_h h_law_draw hr (by decide) rfl (pa_cons (pv 0) (pa_cons (pe_callB call_len (by rfl) T.z_len (by decide +kernel) (pa_cons (pv 1) pa_nil)) pa_nil))) (pa_cons (pe_h h_law_draw hr (by decide) rfl (pa_cons (pv 0) (pa_cons pe_int pa_nil))) pa_nil))) (by rfl))
    (pss_cons (ps_par (i := 5) (j := 6) (by rfl) nd rfl rfl (by decide) rfl rfl (pa_cons (pe_ix ix_list (pv 1) (pv 2) (fun _ _ => rfl)) (pa_cons (pe_op op_cat (pe_slice sl_list (pv 1) po_none (po_some (pv 2))) (pe_slice sl_list (pv 1) (po_some (pe_op op_add (pv 2) pe_int)) po_none)) pa_nil)) (by rfl))
    (pss_cons (ps_sv 7 nd (pe_split (pv 5) pe_str))
    (pss_cons (ps_if (pt_cmpR op_eq (pv 4) pe_int (by first | exact nomark _ | rfl)) (pss_one (ps_ret (pv 6))) pss_nil)
    (pss_cons (ps_if (pt_cmpR op_eq (pv 4) pe_int (by first | exact nomark _ | rfl)) (pss_one (ps_ret (pe_op op_cat (pe_op op_cat (pe_slice sl_list (pv 1) po_none (po_some (pv 2))) (pe_lst (pa_cons (pv 5) pa_nil))) (pe_slice sl_list (pv 1) (po_some (pv 2)) po_none)))) pss_nil)
    (pss_cons (ps_if (pt_cmpR op_eq (pv 4) pe_int (by first | exact nomark _ | rfl)) (pss_one (ps_ret (pe_op op_cat (pe_op op_cat (pe_slice sl_list (pv 1) po_none (po_some (pv 2))) (pe_lst (pa_cons (pe_slice sl_str (pv 5) po_none (po_some (pe_h h_law_draw hr (by decide) rfl (pa_cons (pv 0) (pa_cons (pe_op op_add (pe_callB call_len_str (by rfl) T.z_len (by decide +kernel) (pa_cons (pv 5) pa_nil)) pe_int) pa_nil))))) pa_nil))) (pe_slice sl_list (pv 1) (po_some (pe_op op_add (pv 2) pe_int)) po_none)))) pss_nil)
    (pss_cons (ps_if (pt_cmpR op_eq (pv 4) pe_int (by first | exact nomark _ | rfl)) (pss_one (ps_ret (pe_op op_cat (pe_op op_cat (pe_slice sl_list (pv 6) po_none (po_some (pv 3))) (pe_lst (pa_cons (pv 5) pa_nil))) (pe_slice sl_list (pv 6) (po_some (pv 3)) po_none)))) pss_nil)
    (pss_cons (ps_if (pt_cmpR op_eq (pv 4) pe_int (by first | exact nomark _ | rfl)) (pss_one (ps_ret (pe_op op_cat (pe_op op_cat (pe_slice sl_list (pv 1) po_none (po_some (pv 2))) (pe_lst (pa_cons (pe_join pe_str (pe_op op_cat (pe_slice sl_list (pv 7) po_none (po_some pe_int)) (pe_revL (pe_slice sl_list (pv 7) (po_some pe_int) po_none)))) pa_nil))) (pe_slice sl_list (pv 1) (po_some (pe_op op_add (pv 2) pe_int)) po_none)))) pss_nil)
    (pss_cons (ps_sv 8 nd (pe_ix ix_list (pv 7) (pe_un un_neg pe_int) (fun _ _ => rfl)))
    (pss_cons (ps_if (pt_cmpR op_eq (pv 4) pe_int (by first | exact nomark _ | rfl)) (pss_cons (ps_sv 9 nd (pe_h h_law_draw hr (by decide) rfl (pa_cons (pv 0) (pa_cons (pe_op op_add (pe_callB call_len_str (by rfl) T.z_len (by decide +kernel) (pa_cons (pv 5) pa_nil)) pe_int) pa_nil))))
    (pss_cons (ps_sv 10 nd (pe_h h_law_pick hr (by decide) rfl (pa_cons (pv 0) (pa_cons pe_str pa_nil))))
    (pss_cons (ps_sv 5 nd (pe_op op_add_str (pe_op op_add_str (pe_slice sl_str (pv 5) po_none (po_some (pv 9))) (pv 10)) (pe_slice sl_str (pv 5) (po_some (pv 9)) po_none)))
    (pss_one (ps_ret (pe_op op_cat (pe_op op_cat (pe_slice sl_list (pv 1) po_none (po_some (pv 2))) (pe_lst (pa_cons (pv 5) pa_nil))) (pe_slice sl_list (pv 1) (po_some (pe_op op_add (pv 2) pe_int)) po_none))))))) pss_nil)
    (pss_cons (ps_sv 11 nd (pe_lst (pa_cons (pe_op op_add_str pe_str (pv 8)) (pa_cons (pe_op op_add_str (pe_op op_add_str (pe_op op_add_str pe_str (pv 8)) pe_str) (pv 8)) (pa_cons (pe_op op_add_str pe_str (pv 8)) (pa_cons pe_str (pa_cons pe_str (pa_cons pe_str (pa_cons pe_str (pa_cons pe_str pa_nil))))))))))
    (pss_cons (ps_sv 11 nd (pe_op op_cat (pv 11) (pe_lst (pa_cons pe_str (pa_cons pe_str (pa_cons pe_str (pa_cons pe_str (pa_cons pe_str (pa_cons pe_str (pa_cons pe_str pa_nil))))))))))
    (pss_cons (ps_expr (pe_bm PySem.F.plainAttrs_list PySem.F.slot_list_append PySem.F.type_list_append mt_append (pv 11) (pa_cons pe_str pa_nil)))
    (pss_one (ps_ret (pe_op op_cat (pe_op op_cat (pe_slice sl_list (pv 1) po_none (po_some (pv 2))) (pe_lst (pa_cons (pe_h h_law_pick hr (by decide) rfl (pa_cons (pv 0) (pa_cons (pv 11) pa_nil))) pa_nil))) (pe_slice sl_list (pv 1) (po_some (pe_op op_add (pv 2) (pe_h h_law_draw hr (by decide) rfl (pa_cons (pv 0) (pa_cons pe_int pa_nil))))) po_none))))))))))))))))), ?_⟩
    have lv0 := Lv.two hp hl lp.symm
    have n1 : (1 : Int) ≤ (ls.length : Nat) := by
      have : ls.length ≠ 0 := fun z => ne (List.eq_nil_of_length_eq_zero z)
      omega
    have lm : (ls.map V.str).length = ls.length := List.length_map _
    -- the end
    have fin : ∀ {r' m' : Int} {l' : Addr} {ls' : List Str} {H' : Hp} {L : List (Addr × HO)}, Lv H [p, l] H' ((l', .lst (ls'.map V.str)) :: L) → SrcOk r' m' → H' p = some (.lst [.int r', .int m']) → H' l = some (.lst (ls.map V.str)) → l' ≠ p → l' ≠ l → ls'.length ≤ 4 * ls.length + 1 → LinesOk (2 * B + 20) ls' → Q (.ref l') H' := by
      intro r' m' l' ls' H' L lv ok' h1 h2 np nl le lo
      refine k r' m' l' ls' H' ok' (fun b o nb e => ?_) h1 ?_ (lv.get 0 rfl) le lo
      · by_cases c : b = l
        · subst c
          rw [hl] at e
          cases e
          exact h2
        · exact lv.fr b o (by simp [nb, c]) e
      · exact lv.fresh 0 rfl (by simp [np, nl])
    refine ⟨_, rfl, _, rfl, .ref l, _, rfl, .inl ⟨_, SqL.of hl, rfl⟩, p, r, m, _, rfl, hp, ok, by rw [lm]; exact n1, by rw [lm]; omega, fun r1 m1 at_ ok1 a0 a1 => ?_⟩
    wide_line with st lv0 0 H1 lv1
    refine ⟨_, rfl, _, rfl, .ref l, _, rfl, .inl ⟨_, SqL.of (lv1.get 1 rfl), rfl⟩, p, r1, m1, _, rfl, lv1.get 0 rfl, ok1, by rw [lm]; exact n1, by rw [lm]; omega, fun r2 m2 to ok2 t0 t1 => ?_⟩
    wide_line with st lv1 0 H2 lv2
    refine ⟨_, rfl, p, r2, m2, _, rfl, lv2.get 0 rfl, ok2, by omega, by omega, fun r3 m3 kd ok3 _ _ => ?_⟩
    wide_line with st lv2 0 H3 lv3
    obtain ⟨x, hx, ex⟩ := at_in (xs := ls.map V.str) a0 a1
    obtain ⟨line, hline, rfl⟩ := List.mem_map.mp hx
    obtain ⟨ll, sl⟩ := lk line hline
    refine ⟨_, _, _, rfl, ?_⟩
    refine ⟨_, rfl, _, rfl, l, _, at_, .str line, rfl, rfl, SqL.of (lv3.get 1 rfl), ex, ?_⟩
    wide_line
    wide_line with al lv3 c4 nc4 H4 lv4 s4
    rw [cut_map] at lv4
    wide_line
    wide_line with al lv4 c5 nc5 H5 lv5 s5
    rw [cut_map] at lv5
    have ca : ∀ {lo hi lo' hi' : Option Int}, ((cutL ls lo hi).map V.str).length + ((cutL ls lo' hi').map V.str).length ≤ sizeLine := fun {lo hi lo' hi'} => by
      have := cutL_len ls lo hi
      have := cutL_len ls lo' hi'
      rw [List.length_map, List.length_map, sizeLine_eq]
      omega
    refine ⟨c4, c5, _, _, rfl, rfl, lv5.get 1 rfl, lv5.get 0 rfl, ca, fun rs nrs => ?_⟩
    wide_line with alx lv5 nrs H6 lv6 s6
    rw [← List.map_append] at lv6
    refine ⟨_, _, rfl, ?_⟩
    refine ⟨_, rfl, ⟨_, rfl⟩, line, SP, rfl, rfl, rfl, by rw [sizeLine_eq]; omega, fun W nW => ?_⟩
    wide_line with alx lv6 nW H7 lv7 s7
    have lvB : Lv H [p, l] H7 [(W, .lst ((Txt.split line SP).map V.str)), (rs, .lst ((cutL ls none (some at_) ++ cutL ls (some (at_ + 1)) none).map V.str)), (p, .lst [.int r3, .int m3]), (l, .lst (ls.map V.str))] := lv7.picks [0, 1, 4, 5] rfl (by decide) (by simp)
    clear lv7 lv6 lv5 lv4
    have restok : LinesOk B (cutL ls none (some at_) ++ cutL ls (some (at_ + 1)) none) := (lk.cut _ _).app (lk.cut _ _)
    have restle : (cutL ls none (some at_) ++ cutL ls (some (at_ + 1)) none).length ≤ 2 * ls.length := by
      have := cutL_len ls none (some at_)
      have := cutL_len ls (some (at_ + 1)) none
      rw [List.length_append]
      omega
    generalize cutL ls none (some at_) ++ cutL ls (some (at_ + 1)) none = rest at lvB restok restle
    have lenW : ∀ x ∈ Txt.split line SP, x.length ≤ B := fun x hx => Nat.le_trans (split_len hx) ll
    have sgW : ∀ x ∈ Txt.split line SP, sgn x := fun x hx => split_sgn sl hx
    have neW := split_ne line SP
    have jw := PySem.StrLaws.join_split line SP
    generalize Txt.split line SP = ws at lvB lenW sgW neW jw
    clear s4 s5 s6 s7
    -- three rows put together
    have cl : ∀ {ms : List Str} {i j : Option Int}, ms.length ≤ 2 * ls.length → (cutL ms i j).length ≤ 2 * ls.length := fun {ms i j} h => Nat.le_trans (cutL_len ms i j) h
    have okl : ∀ {ms : List Str} {i j : Option Int} {i' j' : Option Int} {x : Str}, ms.length ≤ 2 * ls.length → LinesOk B ms → x.length ≤ 2 * B + 20 → sgn x → LinesOk (2 * B + 20) (cutL ms i j ++ [x] ++ cutL ms i' j') ∧ (cutL ms i j ++ [x] ++ cutL ms i' j').length ≤ 4 * ls.length + 1 := fun {ms i j i' j' x} hm lk h1 h2 => by
      refine ⟨(((lk.cut i j).mono (by omega)).app (LinesOk.one h1 h2)).app ((lk.cut i' j').mono (by omega)), ?_⟩
      have := cl (i := i) (j := j) hm
      have := cl (i := i') (j := j') hm
      simp only [List.length_append, List.length_singleton]
      omega
    have ls2 : ls.length ≤ 2 * ls.length := by omega
    have ca1 : ∀ {ms : List Str} {i j : Option Int} {x : V}, ms.length ≤ 2 * ls.length → ((cutL ms i j).map V.str).length + [x].length ≤ sizeLine := fun {ms i j x} h => by
      have := cl (i := i) (j := j) h
      rw [List.length_map, sizeLine_eq]
      show _ + 1 ≤ _
      omega
    have ca2 : ∀ {ms : List Str} {i j i' j' : Option Int} {x : Str}, ms.length ≤ 2 * ls.length → ((cutL ms i j).map V.str ++ [V.str x]).length + ((cutL ms i' j').map V.str).length ≤ sizeLine := fun {ms i j i' j' x} h => by
      have := cl (i := i) (j := j) h
      have := cl (i := i') (j := j') h
      rw [List.length_append, List.length_map, List.length_map, sizeLine_eq, List.length_singleton]
      omega
    have mapE : ∀ {ms : List Str} {i j i' j' : Option Int} {x : Str}, (cutL ms i j).map V.str ++ [V.str x] ++ (cutL ms i' j').map V.str = (cutL ms i j ++ [x] ++ cutL ms i' j').map V.str := fun {ms i j i' j' x} => by
      rw [List.map_append, List.map_append]
      rfl
    have c0 : ∀ (n : Int), decide (V.int kd = V.int n) = decide (kd = n) := fun n => dec_int
    refine ⟨_, rfl, rfl, ?_⟩
    rw [c0]
    refine ⟨_, rfl, ite2 (fun _ => ?_) (fun _ => ?_)⟩
    · refine ⟨_, rfl, ?_⟩
      have lvF := lvB.picks [1, 0, 2, 3] rfl (by decide) (by simp)
      exact fin lvF ok3 (lvF.get 2 rfl) (lvF.get 3 rfl) (lvF.ne 0 2 (by decide) rfl rfl) (lvF.ne 0 3 (by decide) rfl rfl) (by omega) (restok.mono (by omega))
    -- 1: the line twice
    wide_line
    refine ite2 (fun _ => ?_) (fun _ => ?_)
    · wide_line
      wide_line with al lvB c1 nc1 J1 lw1 t1
      rw [cut_map] at lw1
      refine ⟨_, rfl, sz1, fun c2 nc2 => ?_⟩
      wide_line with alx lw1 nc2 J2 lw2 t2
      refine ⟨c1, c2, _, _, rfl, rfl, lw2.get 1 rfl, lw2.get 0 rfl, ca1 ls2, fun c3 nc3 => ?_⟩
      wide_line with alx lw2 nc3 J3 lw3 t3
      refine ⟨_, rfl, _, rfl, _, rfl, l, _, rfl, SqL.of (lw3.get 6 rfl), fun c4 nc4 => ?_⟩
      wide_line with alx lw3 nc4 J4 lw4 t4
      rw [cut_map] at lw4
      refine ⟨c3, c4, _, _, rfl, rfl, lw4.get 1 rfl, lw4.get 0 rfl, ca2 ls2, fun c5 nc5 => ?_⟩
      wide_line with alx lw4 nc5 J5 lw5 t5
      rw [mapE] at lw5
      obtain ⟨o1, o2⟩ := okl (i := none) (j := some at_) (i' := some at_) (j' := none) ls2 lk (show line.length ≤ _ by omega) sl
      exact fin lw5 ok3 (lw5.get 7 rfl) (lw5.get 8 rfl) (lw5.ne 0 7 (by decide) rfl rfl) (lw5.ne 0 8 (by decide) rfl rfl) o2 o1
    -- 2: the line cut off
    wide_line
    refine ite2 (fun _ => ?_) (fun _ => ?_)
    · wide_line
      wide_line with al lvB c1 nc1 J1 lw1 t1
      rw [cut_map] at lw1
      refine ⟨_, rfl, _, rfl, _, rfl, line, rfl, by rw [sizeLine_eq]; omega, _, _, rfl, rfl, p, r3, m3, _, rfl, lw1.get 3 rfl, ok3, by omega, by omega, fun r4 m4 cu ok4 cu0 cu1 => ?_⟩
      wide_line with st lw1 3 J2 lw2
      refine ⟨_, rfl, line, rfl, by rw [sizeLine_eq]; omega, sz1, fun c2 nc2 => ?_⟩
      wide_line with alx lw2 nc2 J3 lw3 t3
      refine ⟨c1, c2, _, _, rfl, rfl, lw3.get 1 rfl, lw3.get 0 rfl, ca1 ls2, fun c3 nc3 => ?_⟩
      wide_line with alx lw3 nc3 J4 lw4 t4
      refine ⟨_, rfl, _, rfl, _, _, rfl, rfl, _, rfl, l, _, rfl, SqL.of (lw4.get 6 rfl), fun c4 nc4 => ?_⟩
      wide_line with alx lw4 nc4 J5 lw5 t5
      rw [cut_map] at lw5
      refine ⟨c3, c4, _, _, rfl, rfl, lw5.get 1 rfl, lw5.get 0 rfl, ca2 ls2, fun c5 nc5 => ?_⟩
      wide_line with alx lw5 nc5 J6 lw6 t6
      rw [mapE] at lw6
      have cs := cutS_len line none (some cu)
      obtain ⟨o1, o2⟩ := okl (i := none) (j := some at_) (i' := some (at_ + 1)) (j' := none) ls2 lk (show (cutS line none (some cu)).length ≤ _ by omega) (cutS_sgn sl _ _)
      exact fin lw6 ok4 (lw6.get 7 rfl) (lw6.get 8 rfl) (lw6.ne 0 7 (by decide) rfl rfl) (lw6.ne 0 8 (by decide) rfl rfl) o2 o1
    -- 3: the line at another place
    wide_line
    refine ite2 (fun _ => ?_) (fun _ => ?_)
    · wide_line
      wide_line with al lvB c1 nc1 J1 lw1 t1
      rw [cut_map] at lw1
      refine ⟨_, rfl, sz1, fun c2 nc2 => ?_⟩
      wide_line with alx lw1 nc2 J2 lw2 t2
      refine ⟨c1, c2, _, _, rfl, rfl, lw2.get 1 rfl, lw2.get 0 rfl, ca1 restle, fun c3 nc3 => ?_⟩
      wide_line with alx lw2 nc3 J3 lw3 t3
      refine ⟨_, rfl, _, rfl, _, rfl, rs, _, rfl, SqL.of (lw3.get 4 rfl), fun c4 nc4 => ?_⟩
      wide_line with alx lw3 nc4 J4 lw4 t4
      rw [cut_map] at lw4
      refine ⟨c3, c4, _, _, rfl, rfl, lw4.get 1 rfl, lw4.get 0 rfl, ca2 restle, fun c5 nc5 => ?_⟩
      wide_line with alx lw4 nc5 J5 lw5 t5
      rw [mapE] at lw5
      obtain ⟨o1, o2⟩ := okl (i := none) (j := some to) (i' := some to) (j' := none) restle restok (show line.length ≤ _ by omega) sl
      exact fin lw5 ok3 (lw5.get 7 rfl) (lw5.get 8 rfl) (lw5.ne 0 7 (by decide) rfl rfl) (lw5.ne 0 8 (by decide) rfl rfl) o2 o1
    -- 4: the words turned round
    wide_line
    refine ite2 (fun _ => ?_) (fun _ => ?_)
    · wide_line
      wide_line with al lvB c1 nc1 J1 lw1 t1
      rw [cut_map] at lw1
      refine ⟨⟨_, rfl⟩, _, rfl, _, rfl, W, _, rfl, SqL.of (lw1.get 1 rfl), fun c2 nc2 => ?_⟩
      wide_line with alx lw1 nc2 J2 lw2 t2
      rw [show cutV (ws.map V.str) none (some 1) = (ws.take 1).map V.str from by rw [List.map_take]; exact cut_take _ 1] at lw2
      refine ⟨_, rfl, _, rfl, W, _, rfl, SqL.of (lw2.get 2 rfl), fun c3 nc3 => ?_⟩
      wide_line with alx lw2 nc3 J3 lw3 t3
      rw [show cutV (ws.map V.str) (some 1) none = (ws.drop 1).map V.str from by rw [List.map_drop]; exact cut_drop _ 1] at lw3
      refine ⟨c3, _, rfl, SqL.of (lw3.get 0 rfl), fun c4 nc4 => ?_⟩
      wide_line with alx lw3 nc4 J4 lw4 t4
      rw [← List.map_reverse] at lw4
      have jp : (ws.take 1 ++ (ws.drop 1).reverse).Perm ws := (List.Perm.append_left _ (List.reverse_perm _)).trans (by rw [List.take_append_drop])
      have jl : (Str.join SP (ws.take 1 ++ (ws.drop 1).reverse)).length = line.length := by rw [join_perm jp, jw]
      have wl : ws.length ≤ B + 1 := by
        have h1 := join_sum (s := SP) neW
        have h2 : ws.length ≤ (ws.map fun z => z.length + SP.length).sum := by
          clear jw jp jl lw1 lw2 lw3 lw4 lvB lenW sgW neW h1
          induction ws with
          | nil => exact Nat.zero_le _
          | cons a l ih =>
            have e1 : SP.length = 1 := rfl
            rw [List.map_cons, List.sum_cons, List.length_cons, e1]
            rw [e1] at ih
            omega
        have e1 : SP.length = 1 := rfl
        rw [jw, ← h1] at *
        omega
      refine ⟨c2, c4, _, _, rfl, rfl, lw4.get 2 rfl, lw4.get 0 rfl, by rw [List.length_map, List.length_map, List.length_take, List.length_reverse, List.length_drop, sizeLine_eq]; omega, fun c5 nc5 => ?_⟩
      wide_line with alx lw4 nc5 J5 lw5 t5
      rw [← List.map_append] at lw5
      have jne : ws.take 1 ++ (ws.drop 1).reverse ≠ [] := fun z => neW (List.nil_perm.mp (z ▸ jp))
      refine ⟨SP, c5, ws.take 1 ++ (ws.drop 1).reverse, rfl, rfl, .inl (SqL.of (lw5.get 0 rfl)), by rw [sum_len, ← join_sum jne, jl, show SP.length = 1 from rfl]; omega, sz1, fun c6 nc6 => ?_⟩
      wide_line with alx lw5 nc6 J6 lw6 t6
      rw [txt_join] at lw6
      refine ⟨c1, c6, _, _, rfl, rfl, lw6.get 5 rfl, lw6.get 0 rfl, ca1 ls2, fun c7 nc7 => ?_⟩
      wide_line with alx lw6 nc7 J7 lw7 t7
      refine ⟨_, rfl, _, rfl, _, _, rfl, rfl, _, rfl, l, _, rfl, SqL.of (lw7.get 10 rfl), fun c8 nc8 => ?_⟩
      wide_line with alx lw7 nc8 J8 lw8 t8
      rw [cut_map] at lw8
      refine ⟨c7, c8, _, _, rfl, rfl, lw8.get 1 rfl, lw8.get 0 rfl, ca2 ls2, fun c9 nc9 => ?_⟩
      wide_line with alx lw8 nc9 J9 lw9 t9
      rw [mapE] at lw9
      obtain ⟨o1, o2⟩ := okl (i := none) (j := some at_) (i' := some (at_ + 1)) (j' := none) ls2 lk (show (Str.join SP (ws.take 1 ++ (ws.drop 1).reverse)).length ≤ _ by omega) (join_sgn (by show PyData.strOk _ = true; decide +kernel) fun z hz => sgW z (jp.mem_iff.mp hz))
      exact fin lw9 ok3 (lw9.get 11 rfl) (lw9.get 12 rfl) (lw9.ne 0 11 (by decide) rfl rfl) (lw9.ne 0 12 (by decide) rfl rfl) o2 o1
    -- the last word
    have atE : atI (ws.map V.str) (-1) = some (.str (ws.getLast neW)) := by
      conv => lhs; rw [← List.dropLast_concat_getLast neW]
      rw [List.map_append]
      exact atI_last _ _
    have nml := lenW _ (List.getLast_mem neW)
    have nms := sgW _ (List.getLast_mem neW)
    generalize ws.getLast neW = nm at atE nml nms
    refine ⟨_, rfl, _, rfl, W, _, -1, .str nm, rfl, rfl, SqL.of (lvB.get 0 rfl), atE, ?_⟩
    refine ⟨_, rfl, rfl, ?_⟩
    rw [c0]
    refine ⟨_, rfl, ite2 (fun _ => ?_) (fun _ => ?_)⟩
    · refine ⟨_, rfl, _, rfl, line, rfl, by rw [sizeLine_eq]; omega, _, _, rfl, rfl, p, r3, m3, _, rfl, lvB.get 2 rfl, ok3, by omega, by omega, fun r4 m4 sp ok4 _ _ => ?_⟩
      wide_line with st lvB 2 J1 lw1
      refine ⟨_, rfl, .inr ⟨p, r4, m4, _, rfl, lw1.get 2 rfl, ok4, by decide +kernel, by decide +kernel, fun r5 m5 c ok5 hc => ?_⟩⟩
      wide_line with st lw1 2 J2 lw2
      have cs1 := cutS_len line none (some sp)
      have cs2 := cutS_len line (some sp) none
      have c1l : (⟨#[c]⟩ : Str).length = 1 := rfl
      have sc : sgn ⟨#[c]⟩ := sgn_one (by show PyData.strOk _ = true; decide +kernel) hc
      refine ⟨_, rfl, _, rfl, _, rfl, line, rfl, by rw [sizeLine_eq]; omega, _, rfl, _, _, rfl, rfl, by rw [c1l, sizeLine_eq]; omega, _, rfl, _, rfl, _, rfl, line, rfl, by rw [sizeLine_eq]; omega, _, _, rfl, rfl, by rw [strLen_append, c1l, sizeLine_eq]; omega, ?_⟩
      have xl : (cutS line none (some sp) ++ (⟨#[c]⟩ : Str) ++ cutS line (some sp) none).length ≤ 2 * B + 20 := by rw [strLen_append, strLen_append, c1l]; omega
      have xs : sgn (cutS line none (some sp) ++ (⟨#[c]⟩ : Str) ++ cutS line (some sp) none) := sgn_app.mpr ⟨sgn_app.mpr ⟨cutS_sgn sl _ _, sc⟩, cutS_sgn sl _ _⟩
      generalize cutS line none (some sp) ++ (⟨#[c]⟩ : Str) ++ cutS line (some sp) none = x5 at xl xs ⊢
      refine ⟨_, rfl, _, rfl, _, rfl, l, _, rfl, SqL.of (lw2.get 3 rfl), fun d1 nd1 => ?_⟩
      wide_line with alx lw2 nd1 J3 lw3 t3
      rw [cut_map] at lw3
      refine ⟨_, rfl, sz1, fun d2 nd2 => ?_⟩
      wide_line with alx lw3 nd2 J4 lw4 t4
      refine ⟨d1, d2, _, _, rfl, rfl, lw4.get 1 rfl, lw4.get 0 rfl, ca1 ls2, fun d3 nd3 => ?_⟩
      wide_line with alx lw4 nd3 J5 lw5 t5
      refine ⟨_, rfl, _, rfl, _, _, rfl, rfl, _, rfl, l, _, rfl, SqL.of (lw5.get 6 rfl), fun d4 nd4 => ?_⟩
      wide_line with alx lw5 nd4 J6 lw6 t6
      rw [cut_map] at lw6
      refine ⟨d3, d4, _, _, rfl, rfl, lw6.get 1 rfl, lw6.get 0 rfl, ca2 ls2, fun d5 nd5 => ?_⟩
      wide_line with alx lw6 nd5 J7 lw7 t7
      rw [mapE] at lw7
      obtain ⟨o1, o2⟩ := okl (i := none) (j := some at_) (i' := some (at_ + 1)) (j' := none) ls2 lk xl xs
      exact fin lw7 ok5 (lw7.get 7 rfl) (lw7.get 8 rfl) (lw7.ne 0 7 (by decide) rfl rfl) (lw7.ne 0 8 (by decide) rfl rfl) o2 o1
    -- another line
    have e6 : (("place " : String) : Str).length = 6 := rfl
    have e4 : (("tie " : String) : Str).length = 4 := rfl
    have e1 : ((" " : String) : Str).length = 1 := rfl
    refine ⟨_, rfl, _, _, rfl, rfl, by rw [e6, sizeLine_eq]; omega, _, rfl, _, _, rfl, rfl, by rw [e4, sizeLine_eq]; omega, _, _, rfl, rfl, by rw [strLen_append, e4, e1, sizeLine_eq]; omega, _, rfl, _, _, rfl, rfl, by rw [strLen_append, strLen_append, e4, e1, sizeLine_eq]; omega, _, rfl, _, _, rfl, rfl, by rw [e4, sizeLine_eq]; omega, sz8, fun q1 nq1 => ?_⟩
    wide_line with alx lvB nq1 J1 lw1 t1
    refine ⟨_, rfl, sz7, fun q2 nq2 => ?_⟩
    wide_line with alx lw1 nq2 J2 lw2 t2
    refine ⟨q1, q2, _, _, rfl, rfl, lw2.get 1 rfl, lw2.get 0 rfl, by rw [sizeLine_eq]; show 8 + 7 ≤ 16777216; decide, fun q3 nq3 => ?_⟩
    wide_line with alx lw2 nq3 J3 lw3 t3
    refine ⟨_, rfl, .inl ⟨rfl, _, SqL.of (lw3.get 0 rfl)⟩, q3, _, _, rfl, rfl, lw3.get 0 rfl, by rw [sizeLine_eq]; show 15 < 16777216; decide, ?_⟩
    wide_line with st lw3 0 J4 lw4
    have lwO : Lv H [p, l] J4 [(q3, .lst ((opts nm).map V.str)), (p, .lst [.int r3, .int m3]), (l, .lst (ls.map V.str))] := lw4.picks [0, 5, 6] rfl (by decide) (by simp)
    have ook := opts_ok b8 nml nms
    generalize eo : opts nm = os at lwO ook
    have one : os ≠ [] := by rw [← eo]; exact List.cons_ne_nil _ _
    have oln : os.length ≤ 100 := by rw [← eo]; show 16 ≤ 100; decide
    refine ⟨_, rfl, _, rfl, _, rfl, l, _, rfl, SqL.of (lwO.get 2 rfl), fun d1 nd1 => ?_⟩
    wide_line with alx lwO nd1 J5 lw5 t5
    rw [cut_map] at lw5
    refine ⟨_, rfl, _, rfl, .inl ⟨p, q3, r3, m3, _, rfl, lw5.ne 1 2 (by decide) rfl rfl, lw5.get 2 rfl, ok3, .inl (SqL.of (lw5.get 1 rfl)), fun z => one (List.map_eq_nil_iff.mp z), by rw [List.length_map]; omega, fun r4 m4 x ok4 hx => ?_⟩⟩
    obtain ⟨x6, hx6, rfl⟩ := List.mem_map.mp hx
    obtain ⟨xl, xs⟩ := ook x6 hx6
    wide_line with st lw5 2 J6 lw6
    refine ⟨sz1, fun d2 nd2 => ?_⟩
    wide_line with alx lw6 nd2 J7 lw7 t7
    refine ⟨d1, d2, _, _, rfl, rfl, lw7.get 1 rfl, lw7.get 0 rfl, ca1 ls2, fun d3 nd3 => ?_⟩
    wide_line with alx lw7 nd3 J8 lw8 t8
    refine ⟨_, rfl, _, rfl, _, rfl, p, r4, m4, 2, rfl, lw8.get 4 rfl, ok4, by decide, by decide, fun r5 m5 k2 ok5 _ _ => ?_⟩
    wide_line with st lw8 4 J9 lw9
    refine ⟨_, _, rfl, rfl, _, rfl, l, _, rfl, SqL.of (lw9.get 5 rfl), fun d4 nd4 => ?_⟩
    wide_line with alx lw9 nd4 JA lwA tA
    rw [cut_map] at lwA
    refine ⟨d3, d4, _, _, rfl, rfl, lwA.get 1 rfl, lwA.get 0 rfl, ca2 ls2, fun d5 nd5 => ?_⟩
    wide_line with alx lwA nd5 JB lwB tB
    rw [mapE] at lwB
    obtain ⟨o1, o2⟩ := okl (i := none) (j := some at_) (i' := some (at_ + k2)) (j' := none) ls2 lk xl xs
    exact fin lwB ok5 (lwB.get 6 rfl) (lwB.get 7 rfl) (lwB.ne 0 6 (by decide) rfl rfl) (lwB.ne 0 7 (by decide) rfl rfl) o2 o1
end
end Pw

set_option Elab.async false
set_option linter.all false
set_option maxRecDepth 100000
set_option maxHeartbeats 4000000
namespace Pw
open PySem PySem.Spec PyProof.Rows L2 Ct
local macro_rules | `(tactic| wide_line) => `(tactic| repeat ((fail_if_success (with_reducible refine at_while ?_)); (fail_if_success (with_reducible refine at_while1 ?_)); (conv => whnf); first | ((with_reducible refine And.intro ?_ ?_); focus (first | (first | ((with_reducible show (_ : Nat) ≤ _); first | exact sz0 | exact sz1 | exact sz2 | exact sz3 | exact sz4 | exact sz5 | exact sz6 | exact sz7 | exact sz8 | exact sz10 | exact sz11 | exact sz12 | exact sz14 | omega | decide | (simp only [List.length_cons, List.length_nil]; omega)) | ((with_reducible show (_ : Int) ≤ _); first | omega | decide) | ((with_reducible show (_ : Int) < _); first | omega | decide) | ((with_reducible show (_ : Nat) < _); omega)) | ((fail_if_success (with_reducible show (_ : Nat) ≤ _)); (fail_if_success (with_reducible show (_ : Int) ≤ _)); (fail_if_success (with_reducible show (_ : Int) < _)); (fail_if_success (with_reducible show (_ : Nat) < _)); first | exact kv_str _ | exact kv_int _ | rfl | assumption | exact flat_strs _ | exact Lv.get (by assumption) 0 rfl | exact Lv.get (by assumption) 1 rfl | exact Lv.get (by assumption) 2 rfl | exact Lv.get (by assumption) 3 rfl | exact Lv.get (by assumption) 4 rfl | exact Lv.get (by assumption) 5 rfl | exact Lv.get (by assumption) 6 rfl | exact SqL.of (Lv.get (by assumption) 0 rfl) | exact SqL.of (Lv.get (by assumption) 1 rfl) | exact SqL.of (Lv.get (by assumption) 2 rfl) | exact SqL.of (Lv.get (by assumption) 3 rfl) | exact SqL.of (Lv.get (by assumption) 4 rfl) | exact SqL.of (Lv.get (by assumption) 5 rfl) | exact Or.inl (SqL.of (Lv.get (by assumption) 0 rfl)) | exact Or.inl (SqL.of (Lv.get (by assumption) 1 rfl)) | exact Or.inl (SqL.of (Lv.get (by assumption) 2 rfl)) | exact Or.inl (SqL.of (Lv.get (by assumption) 3 rfl)) | exact Or.inl (SqL.of (Lv.get (by assumption) 4 rfl)) | exact Or.inl (SqL.of (Lv.get (by assumption) 5 rfl)) | exact ⟨_, SqL.of (Lv.get (by assumption) 0 rfl)⟩ | exact ⟨_, SqL.of (Lv.get (by assumption) 1 rfl)⟩ | exact ⟨_, SqL.of (Lv.get (by assumption) 2 rfl)⟩ | exact ⟨_, SqL.of (Lv.get (by assumption) 3 rfl)⟩ | exact ⟨_, SqL.of (Lv.get (by assumption) 4 rfl)⟩ | exact ⟨_, SqL.of (Lv.get (by assumption) 5 rfl)⟩ | exact Or.inl ⟨_, SqL.of (Lv.get (by assumption) 0 rfl), rfl⟩ | exact Or.inl ⟨_, SqL.of (Lv.get (by assumption) 1 rfl), rfl⟩ | exact Or.inl ⟨_, SqL.of (Lv.get (by assumption) 2 rfl), rfl⟩ | exact Or.inl ⟨_, SqL.of (Lv.get (by assumption) 3 rfl), rfl⟩ | exact Or.inl ⟨_, SqL.of (Lv.get (by assumption) 4 rfl), rfl⟩ | exact Or.inl ⟨_, SqL.of (Lv.get (by assumption) 5 rfl), rfl⟩ | exact Or.inl ⟨rfl, _, SqL.of (Lv.get (by assumption) 0 rfl)⟩ | exact Or.inl ⟨rfl, _, SqL.of (Lv.get (by assumption) 1 rfl)⟩ | exact Or.inl ⟨rfl, _, SqL.of (Lv.get (by assumption) 2 rfl)⟩ | exact Or.inl ⟨rfl, _, SqL.of (Lv.get (by assumption) 3 rfl)⟩ | exact Or.inl ⟨rfl, _, SqL.of (Lv.get (by assumption) 4 rfl)⟩ | exact Or.inl ⟨rfl, _, SqL.of (Lv.get (by assumption) 5 rfl)⟩ | exact Or.inr (SqT.of (Lv.get (by assumption) 0 rfl)) | exact Or.inr (SqT.of (Lv.get (by assumption) 1 rfl)) | exact Or.inr (SqT.of (Lv.get (by assumption) 2 rfl)) | exact Or.inr (SqT.of (Lv.get (by assumption) 3 rfl)) | exact SqT.of (Lv.get (by assumption) 0 rfl) | exact SqT.of (Lv.get (by assumption) 1 rfl) | exact SqT.of (Lv.get (by assumption) 2 rfl) | exact dgetN (Lv.get (by assumption) 0 rfl) (by assumption) | exact dgetN (Lv.get (by assumption) 1 rfl) (by assumption) | exact dgetN (Lv.get (by assumption) 2 rfl) (by assumption) | exact dgetN (Lv.get (by assumption) 3 rfl) (by assumption) | exact dgetN (Lv.get (by assumption) 4 rfl) (by assumption) | exact Or.inl (by assumption) | exact Or.inr (by assumption) | decide | ((with_reducible show _ ∧ _); omega)))) | ((fail_if_success (with_reducible apply @Exists.intro (Nat → _))); (with_reducible apply Exists.intro))))
local macro_rules
  | `(tactic| wide_line with al $lv:ident $l:ident $nl:ident $H:ident $lv1:ident $s1:ident) => `(tactic| (intro $l:ident $nl:ident; generalize he : upd _ _ _ = $H:ident; have $lv1:ident := Lv.alE $lv $nl he; have $s1:ident := sameE $nl he; clear he; (try simp only [List.set_cons_zero, List.set_cons_succ] at $lv1:ident)))
  | `(tactic| wide_line with alx $lv:ident $nl:ident $H:ident $lv1:ident $s1:ident) => `(tactic| (generalize he : upd _ _ _ = $H:ident; have $lv1:ident := Lv.alE $lv $nl he; have $s1:ident := sameE $nl he; clear he; (try simp only [List.set_cons_zero, List.set_cons_succ] at $lv1:ident)))
  | `(tactic| wide_line with sts $lv:ident $i:num $H:ident $lv1:ident $s0:ident $np:ident $s1:ident) => `(tactic| (generalize he : upd _ _ _ = $H:ident; have $lv1:ident := Lv.stE $lv $i rfl he; have $s1:ident := sameN $s0 $np he; clear he; (try simp only [List.set_cons_zero, List.set_cons_succ] at $lv1:ident)))
  | `(tactic| wide_line with stx $lv:ident $H:ident $lv1:ident $d1:ident) => `(tactic| (generalize he : upd _ _ _ = $H:ident; have $lv1:ident := Lv.stE $lv 0 rfl he; have $d1:ident := SameD.storeE (Lv.get $lv 0 rfl) he; clear he; (try simp only [List.set_cons_zero, List.set_cons_succ] at $lv1:ident)))
  | `(tactic| wide_line with st $lv:ident $i:num $H:ident $lv1:ident) => `(tactic| (generalize he : upd _ _ _ = $H:ident; have $lv1:ident := Lv.stE $lv $i rfl he; clear he; (try simp only [List.set_cons_zero, List.set_cons_succ] at $lv1:ident)))
  | `(tactic| wide_line with stk $lv:ident $i:num $H:ident $lv1:ident $k1:ident) => `(tactic| (generalize he : upd _ _ _ = $H:ident; have $lv1:ident := Lv.stE $lv $i rfl he; have $k1:ident := KeepT.st (Lv.get $lv $i rfl) he; clear he; (try simp only [List.set_cons_zero, List.set_cons_succ] at $lv1:ident)))
/-- a plan: a tuple of the places and of the ties -/
def PlanAt (K : PySem.W.Frag) (H : Hp) (t : Addr) (ns : List Str) (ts : List (Str × Str)) : Prop := ∃ tn tt xs, SqT K H t [.ref tn, .ref tt] ∧ SqT K H tn (ns.map V.str) ∧ SqT K H tt xs ∧ TiesAt K H xs ts
def spWebOf (K : PySem.W.Frag) (C : Addr) : Sp := fun vs H Q _ => ∃ (t : Addr) (n : Nat) (ns : List Str) (ts : List (Str × Str)), vs = [.ref t] ∧ PlanAt K H t ns ts ∧ PlanOk n ns ts ∧ n ≤ 12 ∧ ∀ x H', Same H H' → H x = none → WebAt K C (noLst H H') x ns ts → Q (.ref x) H'
/-- the words of a written text -/
def plc (c : Nat) : Str := ("place " : Str) ++ ⟨#[c]⟩
theorem pl_ok {x : Str} {more : List Str} (hx : x.cps.toList.length ≤ 15) (sx : sgn x) (hm : more.length ≤ 2) (mo : LinesOk 10 more) :
    ((x.cps.toList.map plc ++ more).map (·.length)).sum + (x.cps.toList.map plc ++ more).length * NL.length ≤ 16777216 ∧ (Str.join NL (x.cps.toList.map plc ++ more)).length ≤ 1000 ∧ sgn (Str.join NL (x.cps.toList.map plc ++ more)) := by
  have e6 : (("place " : String) : Str).length = 6 := rfl
  have s6 : sgn ("place " : Str) := by show PyData.strOk _ = true; decide +kernel
  have ok : LinesOk 10 (x.cps.toList.map plc ++ more) := LinesOk.app (fun z hz => by
    obtain ⟨c, hc, rfl⟩ := List.mem_map.mp hz
    exact ⟨by unfold plc; rw [strLen_append, e6]; show 6 + 1 ≤ 10; decide, sgn_app.mpr ⟨s6, sgn_one sx hc⟩⟩) mo
  have ln : (x.cps.toList.map plc ++ more).length ≤ 17 := by rw [List.length_append, List.length_map]; omega
  have e1 : NL.length = 1 := rfl
  have h1 := sum_le fun z hz => (ok z hz).1
  have h2 := join_le2 (s := NL) fun z hz => (ok z hz).1
  rw [e1] at h2 ⊢
  refine ⟨by omega, by omega, join_sgn (by show PyData.strOk _ = true; decide +kernel) fun z hz => (ok z hz).2⟩
def typed0 : List Str := ["", "place", "place ", "place a", "place a\n", "place a\nplace a", "tie a b", "place a\nplace b\ntie a b", "place a\nplace b\ntie b a\ntie a b", "place a\nplace b\ntie a b\nplace c", "place A", "place a b"]
theorem typed0_ok : LinesOk 1000 typed0 := fun z hz => by
  have h : typed0.all (fun z => decide (z.length ≤ 1000) && PyData.strOk z) = true := by decide +kernel
  have := List.all_eq_true.mp h z hz
  rw [Bool.and_eq_true, decide_eq_true_eq] at this
  exact this
/-- how often a sign stands in a text -/
def cntc (c : Nat) (x : Str) : Nat := x.cps.toList.count c
theorem cnt_join {c : Nat} : ∀ {l : List Str}, (∀ z ∈ l, c ∉ z.cps.toList) → l ≠ [] → cntc c (Str.join ⟨#[c]⟩ l) + 1 = l.length
  | [a], h, _ => by
    have : cntc c a = 0 := List.count_eq_zero.mpr (h a List.mem_cons_self)
    show cntc c a + 1 = 1
    omega
  | a :: b :: l, h, _ => by
    have ih := cnt_join (c := c) (l := b :: l) (fun z hz => h z (List.mem_cons_of_mem _ hz)) (List.cons_ne_nil _ _)
    have h0 : a.cps.toList.count c = 0 := List.count_eq_zero.mpr (h a List.mem_cons_self)
    have e : cntc c (Str.join ⟨#[c]⟩ (a :: b :: l)) = a.cps.toList.count c + 1 + cntc c (Str.join ⟨#[c]⟩ (b :: l)) := by
      show (((a ++ (⟨#[c]⟩ : Str)) ++ Str.join ⟨#[c]⟩ (b :: l)) : Str).cps.toList.count c = _
      rw [app_cps, app_cps, List.count_append, List.count_append]
      show _ + [c].count c + _ = _
      rw [List.count_singleton_self]
      rfl
    rw [e, h0, List.length_cons]
    omega
theorem split_lines {c : Nat} {l : List Str} (h : ∀ z ∈ l, c ∉ z.cps.toList) (ne : l ≠ []) : (Txt.split (Str.join ⟨#[c]⟩ l) ⟨#[c]⟩).length = l.length := by
  have h1 := cnt_join h ne
  have h2 := cnt_join (c := c) (l := Txt.split (Str.join ⟨#[c]⟩ l) ⟨#[c]⟩) (PySem.StrLaws.split_free _ c) (split_ne _ _)
  rw [PySem.StrLaws.join_split] at h2
  omega
theorem lt_nl : LT.cps.toList.all (fun c => decide (c ≠ 10)) = true := by decide +kernel
theorem name_nl {x : Str} (h : okName x = true) : 10 ∉ x.cps.toList := fun z => by
  unfold okName okSigns at h
  rw [Bool.and_eq_true] at h
  have := of_decide_eq_true (List.all_eq_true.mp h.2 10 z)
  exact of_decide_eq_true (List.all_eq_true.mp lt_nl 10 this) rfl
theorem name_sgn {x : Str} (h : okName x = true) : sgn x := strOk_of h
theorem text_ok {n : Nat} {ns : List Str} {ts : List (Str × Str)} (pk : PlanOk n ns ts) (hn : n ≤ 12) : (textOf ns ts).length ≤ 2700 ∧ (Txt.split (textOf ns ts) NL).length ≤ 87 ∧ sgn (textOf ns ts) := by
  have nlen : ∀ q ∈ ns, q.length ≤ 8 := fun q hq => name_len8 (pk.nm q hq)
  have e6 : (("place " : String) : Str).length = 6 := rfl
  have e4 : (("tie " : String) : Str).length = 4 := rfl
  have e1 : ((" " : String) : Str).length = 1 := rfl
  have e0 : Str.empty.length = 0 := rfl
  have s6 : sgn ("place " : Str) := by show PyData.strOk _ = true; decide +kernel
  have s4 : sgn ("tie " : Str) := by show PyData.strOk _ = true; decide +kernel
  have s1 : sgn (" " : Str) := by show PyData.strOk _ = true; decide +kernel
  have s0 : sgn Str.empty := by show PyData.strOk _ = true; decide +kernel
  have n6 : 10 ∉ (("place " : String) : Str).cps.toList := by decide +kernel
  have n4 : 10 ∉ (("tie " : String) : Str).cps.toList := by decide +kernel
  have n1 : 10 ∉ ((" " : String) : Str).cps.toList := by decide +kernel
  have n0 : 10 ∉ Str.empty.cps.toList := by decide +kernel
  have bd : ∀ z ∈ ns.map lineP ++ ts.map lineT, z.length ≤ 30 ∧ sgn z ∧ 10 ∉ z.cps.toList := fun z hz => by
    rcases List.mem_append.mp hz with hz | hz
    · obtain ⟨q, hq, rfl⟩ := List.mem_map.mp hz
      have := nlen q hq
      have sq := name_sgn (pk.nm q hq)
      have nq := name_nl (pk.nm q hq)
      rw [← lineP_eq]
      refine ⟨by rw [strLen_append, strLen_append, e6, e0]; omega, sgn_app.mpr ⟨sgn_app.mpr ⟨s0, s6⟩, sq⟩, ?_⟩
      rw [app_cps, app_cps]
      simp only [List.mem_append, not_or]
      exact ⟨⟨n0, n6⟩, nq⟩
    · obtain ⟨u, hu, rfl⟩ := List.mem_map.mp hz
      obtain ⟨m1, m2, _⟩ := pk.tie u hu
      have l1 := nlen _ m1
      have l2 := nlen _ m2
      rw [show lineT u = lineT (u.1, u.2) from rfl, ← lineT_eq]
      refine ⟨by rw [strLen_append, strLen_append, strLen_append, strLen_append, e4, e1, e0]; omega, sgn_app.mpr ⟨sgn_app.mpr ⟨sgn_app.mpr ⟨sgn_app.mpr ⟨s0, s4⟩, name_sgn (pk.nm _ m1)⟩, s1⟩, name_sgn (pk.nm _ m2)⟩, ?_⟩
      rw [app_cps, app_cps, app_cps, app_cps]
      simp only [List.mem_append, not_or]
      exact ⟨⟨⟨⟨n0, n4⟩, name_nl (pk.nm _ m1)⟩, n1⟩, name_nl (pk.nm _ m2)⟩
  have le : (ns.map lineP ++ ts.map lineT).length ≤ 87 := by
    have := pk.most
    have := pk.few
    rw [List.length_append, List.length_map, List.length_map]
    omega
  have ne : ns.map lineP ++ ts.map lineT ≠ [] := fun z => by
    have := congrArg List.length z
    have := pk.one
    rw [List.length_append, List.length_map, List.length_nil] at *
    omega
  have jl := join_le2 (s := NL) fun z hz => (bd z hz).1
  have eN : NL.length = 1 := rfl
  rw [eN] at jl
  refine ⟨by unfold textOf; omega, ?_, join_sgn (by show PyData.strOk _ = true; decide +kernel) fun z hz => (bd z hz).2.1⟩
  have := split_lines (c := 10) (fun z hz => (bd z hz).2.2) ne
  unfold textOf
  exact Nat.le_trans (Nat.le_of_eq this) le
theorem joined_ok {B n : Nat} {ls : List Str} (lo : LinesOk B ls) (ln : ls.length ≤ n) (h : n * (B + 1) ≤ 16000000) : (ls.map (·.length)).sum + ls.length * NL.length ≤ 16777216 ∧ (Str.join NL ls).length ≤ 16000000 ∧ sgn (Str.join NL ls) := by
  have h1 := join_le2 (s := NL) fun z hz => (lo z hz).1
  have h2 : ls.length * (B + 1) ≤ n * (B + 1) := Nat.mul_le_mul_right _ ln
  have eN : NL.length = 1 := rfl
  rw [eN] at h1 ⊢
  have h3 := sum_le fun z hz => (lo z hz).1
  have h4 : ls.length * (B + 1) = ls.length * B + ls.length := Nat.mul_succ _ _
  exact ⟨by omega, by omega, join_sgn (by show PyData.strOk _ = true; decide +kernel) fun z hz => (lo z hz).2⟩
def spLaw (K : PySem.W.Frag) : Sp := fun vs H Q _ => ∃ (a : Addr) (ns : List Int), vs = [.ref a] ∧ Only H ∧ SqL K H a (ns.map V.int) ∧ ns.length ≤ 63 ∧ (∀ z ∈ ns, Builtin.Int.intBits z ≤ 1048576) ∧ ∀ H', Q (.bl true) H'
section
variable {P : Program} {w : World} {K : PySem.W.Frag} {mg : Str → Option Value} {base : Heap} {C CP CS CT CB : Addr}
abbrev sLawWeb : Stmt := top ix_law_web
theorem scLawWeb : FnScope ["plan"] ["plan"] (defScope sLawWeb) := ⟨rfl, rfl, rfl, by decide +kernel, rfl, by decide +kernel, by decide +kernel⟩
theorem has_law_web (T : Bn mg) (D : DFE K mg "_law_web" sLawWeb ["plan"]) (hW : HasW P w K mg base 4 C CP CS CT) : Has P w K mg base CX0 6 "_law_web" ["plan"] (spWebOf K C) := by
  refine has_of D scLawWeb (fun vs H Q E h => ?_) (fun f cdv A outer s H vs Q E hr h => ?_)
  · obtain ⟨t, n, ns, ts, rfl, _⟩ := h; rfl
  · obtain ⟨t, n, ns, ts, rfl, ⟨tn, tt, xs, h1, h2, h3, h4⟩, pk, hn, k⟩ := h
    have nd := scLawWeb.nd
    refine ⟨_, (pss_one (ps_ret (pe_web hW hr (by decide) rfl (pa_cons (pe_ix ix_tup (pv 0) pe_int (fun _ _ => rfl)) (pa_cons (pe_ix ix_tup (pv 0) pe_int (fun _ _ => rfl)) pa_nil))))), ?_⟩
    exact ⟨_, rfl, t, _, 0, _, rfl, rfl, h1, rfl, _, rfl, t, _, 1, _, rfl, rfl, h1, rfl, tn, tt, n, ns, xs, ts, rfl, .inr h2, .inr h3, h4, pk, hn, fun x H' s nx hw => k x H' s nx hw⟩
abbrev sLaw : Stmt := top ix_law
theorem scLaw : FnScope ["script", "typed", "sign", "start", "source", "some", "turn", "lines", "bent", "text", "value"] ["script"] (defScope sLaw) := ⟨rfl, rfl, rfl, by decide +kernel, rfl, by decide +kernel, by decide +kernel⟩
theorem has_law (T : Bn mg) {f : Addr} {fd : FuncData} (D : Fun K "law" "law" sLaw f fd) (h_law_source : Has P w K mg base CX0 1 "_law_source" ["script", "start"] (spSource K)) (h_law_plan : Has P w K mg base CX0 5 "_law_plan" ["source", "most"] spPlan) (h_law_web : Has P w K mg base CX0 6 "_law_web" ["plan"] (spWebOf K C)) (h_web_text : Has P w K mg base CX0 3 "web_text" ["web"] (spWebText K C))
    (h_law_bent : Has P w K mg base CX0 3 "_law_bent" ["source", "lines"] spBent) (h_law_told : Has P w K mg base CX0 7 "_law_told" ["value"] (spLawTold K)) (h_law_first_bad : Has P w K mg base CX0 2 "_law_first_bad" ["text"] spFirstBad) : GFn P w K mg base CX0 8 f fd ["script"] (spLaw K) := by
  refine law_of D scLaw (fun vs H Q E h => ?_) (fun cdv A outer s H vs Q E gd hr h => ?_)
  · obtain ⟨a, ns, rfl, _⟩ := h; rfl
  · obtain ⟨a, zs0, rfl, on, hS, hlen, hbits, k⟩ := h
    have nd := scLaw.nd
    refine ⟨_, (pss_cons (ps_sv 1 nd (pe_lst (pa_cons pe_str (pa_cons pe_str (pa_cons pe_str (pa_cons pe_str (pa_cons pe_str (pa_cons pe_str (pa_cons pe_str (pa_cons pe_str pa_nil))))))))))
    (pss_cons (ps_sv 1 nd (pe_op op_cat (pv 1) (pe_lst (pa_cons pe_str (pa_cons pe_str (pa_cons pe_str (pa_cons pe_str pa_nil)))))))
    (pss_cons (ps_expr (pe_bm PySem.F.plainAttrs_list PySem.F.slot_list_append PySem.F.type_list_append mt_append (pv 1) (pa_cons (pe_join pe_str (pe_lc (own := [("sign", 2)]) (g := gName 2) (tt := tYes) rfl nd (pi_str pe_str) (blkOk_by (own := [("sign", 2)]) (N := ["script", "typed", "sign", "start", "source", "some", "turn", "lines", "bent", "text", "value"]) (sc := defScope sLaw) (by decide +kernel)) (fun _ _ _ _ _ => (pg_name (i := 2) nd rfl (by first | exact Or.inl rfl | exact Or.inr rfl))) (fun _ _ _ _ _ => pts_nil) (fun _ _ _ _ _ => (pe_op op_add_str pe_str (pv 2))))) pa_nil)))
    (pss_cons (ps_expr (pe_bm PySem.F.plainAttrs_list PySem.F.slot_list_append PySem.F.type_list_append mt_append (pv 1) (pa_cons (pe_join pe_str (pe_lc (own := [("sign", 2)]) (g := gName 2) (tt := tYes) rfl nd (pi_str pe_str) (blkOk_by (own := [("sign", 2)]) (N := ["script", "typed", "sign", "start", "source", "some", "turn", "lines", "bent", "text", "value"]) (sc := defScope sLaw) (by decide +kernel)) (fun _ _ _ _ _ => (pg_name (i := 2) nd rfl (by first | exact Or.inl rfl | exact Or.inr rfl))) (fun _ _ _ _ _ => pts_nil) (fun _ _ _ _ _ => (pe_op op_add_str pe_str (pv 2))))) pa_nil)))
    (pss_cons (ps_expr (pe_bm PySem.F.plainAttrs_list PySem.F.slot_list_append PySem.F.type_list_append mt_append (pv 1) (pa_cons (pe_join pe_str (pe_lc (own := [("sign", 2)]) (g := gName 2) (tt := tYes) rfl nd (pi_str pe_str) (blkOk_by (own := [("sign", 2)]) (N := ["script", "typed", "sign", "start", "source", "some", "turn", "lines", "bent", "text", "value"]) (sc := defScope sLaw) (by decide +kernel)) (fun _ _ _ _ _ => (pg_name (i := 2) nd rfl (by first | exact Or.inl rfl | exact Or.inr rfl))) (fun _ _ _ _ _ => pts_nil) (fun _ _ _ _ _ => (pe_op op_add_str pe_str (pv 2))))) pa_nil)))
    (pss_cons (ps_expr (pe_bm PySem.F.plainAttrs_list PySem.F.slot_list_append PySem.F.type_list_append mt_append (pv 1) (pa_cons (pe_join pe_str (pe_op op_cat (pe_lc (own := [("sign", 2)]) (g := gName 2) (tt := tYes) rfl nd (pi_str pe_str) (blkOk_by (own := [("sign", 2)]) (N := ["script", "typed", "sign", "start", "source", "some", "turn", "lines", "bent", "text", "value"]) (sc := defScope sLaw) (by decide +kernel)) (fun _ _ _ _ _ => (pg_name (i := 2) nd rfl (by first | exact Or.inl rfl | exact Or.inr rfl))) (fun _ _ _ _ _ => pts_nil) (fun _ _ _ _ _ => (pe_op op_add_str pe_str (pv 2)))) (pe_lst (pa_cons pe_str (pa_cons pe_str pa_nil))))) pa_nil)))
    (pss_cons (ps_expr (pe_bm PySem.F.plainAttrs_list PySem.F.slot_list_append PySem.F.type_list_append mt_append (pv 1) (pa_cons (pe_join pe_str (pe_op op_cat (pe_lc (own := [("sign", 2)]) (g := gName 2) (tt := tYes) rfl nd (pi_str pe_str) (blkOk_by (own := [("sign", 2)]) (N := ["script", "typed", "sign", "start", "source", "some", "turn", "lines", "bent", "text", "value"]) (sc := defScope sLaw) (by decide +kernel)) (fun _ _ _ _ _ => (pg_name (i := 2) nd rfl (by first | exact Or.inl rfl | exact Or.inr rfl))) (fun _ _ _ _ _ => pts_nil) (fun _ _ _ _ _ => (pe_op op_add_str pe_str (pv 2)))) (pe_lst (pa_cons pe_str (pa_cons pe_str pa_nil))))) pa_nil)))
    (pss_cons (ps_for PassesOwn.never rfl (pi_range1 rfl T.z_range (pa_cons (pe_callB (call_max2 rfl) (by rfl) T.z_max (by decide +kernel) (pa_cons pe_int (pa_cons (pe_callB (call_min2 rfl) (by rfl) T.z_min (by decide +kernel) (pa_cons pe_int (pa_cons (pe_callB (call_len) (by rfl) T.z_len (by decide +kernel) (pa_cons (pv 0) pa_nil)) pa_nil))) pa_nil))) pa_nil)) (pg_name (i := 3) nd rfl (by first | exact Or.inl rfl | exact Or.inr rfl)) (pss_cons (ps_sv 4 nd (pe_h h_law_source hr (by decide) rfl (pa_cons (pv 0) (pa_cons (pv 3) pa_nil))))
    (pss_cons (ps_sv 5 nd (pe_callTy call_list_of (by rfl) T.z_list (by decide +kernel) (pa_cons (pv 1) pa_nil)))
    (pss_cons (ps_for PassesOwn.never rfl (pi_range1 rfl T.z_range (pa_cons pe_int pa_nil)) (pg_name (i := 6) nd rfl (by first | exact Or.inl rfl | exact Or.inr rfl)) (pss_cons (ps_sv 7 nd (pe_split (pe_h h_web_text hr (by decide) rfl (pa_cons (pe_h h_law_web hr (by decide) rfl (pa_cons (pe_h h_law_plan hr (by decide) rfl (pa_cons (pv 4) (pa_cons pe_int pa_nil))) pa_nil)) pa_nil)) pe_str))
    (pss_cons (ps_sv 8 nd (pe_h h_law_bent hr (by decide) rfl (pa_cons (pv 4) (pa_cons (pv 7) pa_nil))))
    (pss_one (ps_sv 5 nd (pe_op op_cat (pv 5) (pe_lst (pa_cons (pe_join pe_str (pv 8)) (pa_cons (pe_join pe_str (pe_mono (pe_ifExp (pt_cmpR (op_neNil hr.units) (pv 8) (pe_lst pa_nil) (by first | exact nomark _ | rfl)) (pe_h h_law_bent hr (by decide) rfl (pa_cons (pv 4) (pa_cons (pv 8) pa_nil))) (pv 7)))) pa_nil)))))))))
    (pss_cons (ps_for PassesOwn.never rfl (pi_list (pv 5)) (pg_name (i := 9) nd rfl (by first | exact Or.inl rfl | exact Or.inr rfl)) (pss_one (ps_if (pt_cmpR op_ne (pe_h h_law_told hr (by decide) rfl (pa_cons (pv 9) pa_nil)) (pe_h h_law_first_bad hr (by decide) rfl (pa_cons (pv 9) pa_nil)) (by first | exact nomark _ | rfl)) (pss_one (ps_ret pe_bl)) pss_nil)))
    (pss_one (ps_for PassesOwn.never rfl (pi_list (pe_lst (pa_cons pe_non (pa_cons pe_int (pa_cons pe_bl (pa_cons (pe_lst pa_nil) (pa_cons (pe_lst (pa_cons pe_str pa_nil)) (pa_cons (pe_tup (pa_cons pe_str pa_nil)) (pa_cons pe_dnewK pa_nil))))))))) (pg_name (i := 10) nd rfl (by first | exact Or.inl rfl | exact Or.inr rfl)) (pss_one (ps_if (pt_cmpR op_ne (pe_h h_law_told hr (by decide) rfl (pa_cons (pv 10) pa_nil)) pe_int (by first | exact nomark _ | rfl)) (pss_one (ps_ret pe_bl)) pss_nil)))))))))
    (pss_one (ps_ret pe_bl)))))))))), ?_⟩
    have lv0 := Lv.zero H
    refine ⟨sz8, fun q0 nq0 => ?_⟩
    wide_line with alx lv0 nq0 H1 lv1 s1
    refine ⟨_, rfl, sz4, fun q1 nq1 => ?_⟩
    wide_line with alx lv1 nq1 H2 lv2 s2
    refine ⟨q0, q1, _, _, rfl, rfl, lv2.get 1 rfl, lv2.get 0 rfl, by rw [sizeLine_eq]; show 8 + 4 ≤ 16777216; decide, fun ty nty => ?_⟩
    wide_line with alx lv2 nty H3 lv3 s3
    have lvT0 : Lv H [] H3 [(ty, .lst (typed0.map V.str))] := lv3.picks [0] rfl (by decide) (fun _ z => nomatch z)
    have lo0 := typed0_ok
    have ln0 : typed0.length = 12 := rfl
    generalize typed0 = T0 at lvT0 lo0 ln0
    obtain ⟨p01, p02, p03⟩ := pl_ok (x := "abcdefghijklm") (more := []) (by decide +kernel) (by show PyData.strOk _ = true; decide +kernel) (by decide) (fun z hz => nomatch hz)
    refine ⟨_, rfl, .inl ⟨rfl, _, SqL.of (lvT0.get 0 rfl)⟩, ⟨_, rfl⟩, "abcdefghijklm", rfl, fun L nL => ?_⟩
    refine lc_it walk_str (fun i H' => Lv H [] H' [(L, .lst (((("abcdefghijklm" : Str).cps.toList.take i).map plc).map V.str)), (ty, .lst (T0.map V.str))]) (lvT0.al nL) (fun _ _ _ _ => True.intro) ?_ ?_
    · rintro i z J1 J2 hi lv ⟨rfl, c, hc, rfl⟩
      have ht : ("abcdefghijklm" : Str).cps.toList[i]? = some c := by rw [Array.getElem?_toList]; exact hc
      have tk := take_next2 ht
      have i15 : i < 15 := Nat.lt_of_lt_of_le hi (by decide +kernel)
      refine ⟨rfl, _, rfl, _, _, rfl, rfl, by rw [sizeLine_eq]; show 6 + 1 ≤ 16777216; decide, _, lv.get 0 rfl, by rw [List.length_map, List.length_map, List.length_take, sizeLine_eq]; omega, ?_⟩
      rw [tk, List.map_append, List.map_append]
      exact lv.stE 0 rfl rfl
    rintro J0 lvJ0
    rw [show ("abcdefghijklm" : Str).cps.size = ("abcdefghijklm" : Str).cps.toList.length from rfl, List.take_length] at lvJ0
    rw [List.append_nil] at p01 p02 p03
    refine ⟨NL, L, _, rfl, rfl, .inl (SqL.of (lvJ0.get 0 rfl)), p01, ty, _, _, rfl, rfl, lvJ0.get 1 rfl, by rw [List.length_map, ln0, sizeLine_eq]; decide, ?_⟩
    wide_line with st lvJ0 1 I0 lvK0
    obtain ⟨T1, eT1, lo1, ln1⟩ : ∃ T : List Str, T0.map V.str ++ [V.str (Str.join NL (("abcdefghijklm" : Str).cps.toList.map plc))] = T.map V.str ∧ LinesOk 1000 T ∧ T.length = 13 := ⟨T0 ++ [_], by rw [List.map_append]; rfl, lo0.app (LinesOk.one p02 p03), by rw [List.length_append, ln0]; rfl⟩
    have lvT1 := lvK0.picks [1] rfl (by decide) (fun _ z => nomatch z)
    rw [txt_join, eT1] at lvT1
    clear lvK0
    obtain ⟨p11, p12, p13⟩ := pl_ok (x := "abcdefghijkl") (more := []) (by decide +kernel) (by show PyData.strOk _ = true; decide +kernel) (by decide) (fun z hz => nomatch hz)
    refine ⟨_, rfl, .inl ⟨rfl, _, SqL.of (lvT1.get 0 rfl)⟩, ⟨_, rfl⟩, "abcdefghijkl", rfl, fun L nL => ?_⟩
    refine lc_it walk_str (fun i H' => Lv H [] H' [(L, .lst (((("abcdefghijkl" : Str).cps.toList.take i).map plc).map V.str)), (ty, .lst (T1.map V.str))]) (lvT1.al nL) (fun _ _ _ _ => True.intro) ?_ ?_
    · rintro i z J1 J2 hi lv ⟨rfl, c, hc, rfl⟩
      have ht : ("abcdefghijkl" : Str).cps.toList[i]? = some c := by rw [Array.getElem?_toList]; exact hc
      have tk := take_next2 ht
      have i15 : i < 15 := Nat.lt_of_lt_of_le hi (by decide +kernel)
      refine ⟨rfl, _, rfl, _, _, rfl, rfl, by rw [sizeLine_eq]; show 6 + 1 ≤ 16777216; decide, _, lv.get 0 rfl, by rw [List.length_map, List.length_map, List.length_take, sizeLine_eq]; omega, ?_⟩
      rw [tk, List.map_append, List.map_append]
      exact lv.stE 0 rfl rfl
    rintro J1 lvJ1
    rw [show ("abcdefghijkl" : Str).cps.size = ("abcdefghijkl" : Str).cps.toList.length from rfl, List.take_length] at lvJ1
    rw [List.append_nil] at p11 p12 p13
    refine ⟨NL, L, _, rfl, rfl, .inl (SqL.of (lvJ1.get 0 rfl)), p11, ty, _, _, rfl, rfl, lvJ1.get 1 rfl, by rw [List.length_map, ln1, sizeLine_eq]; decide, ?_⟩
    wide_line with st lvJ1 1 I1 lvK1
    obtain ⟨T2, eT2, lo2, ln2⟩ : ∃ T : List Str, T1.map V.str ++ [V.str (Str.join NL (("abcdefghijkl" : Str).cps.toList.map plc))] = T.map V.str ∧ LinesOk 1000 T ∧ T.length = 14 := ⟨T1 ++ [_], by rw [List.map_append]; rfl, lo1.app (LinesOk.one p12 p13), by rw [List.length_append, ln1]; rfl⟩
    have lvT2 := lvK1.picks [1] rfl (by decide) (fun _ z => nomatch z)
    rw [txt_join, eT2] at lvT2
    clear lvK1
    obtain ⟨p21, p22, p23⟩ := pl_ok (x := "abcdefghijklmno") (more := []) (by decide +kernel) (by show PyData.strOk _ = true; decide +kernel) (by decide) (fun z hz => nomatch hz)
    refine ⟨_, rfl, .inl ⟨rfl, _, SqL.of (lvT2.get 0 rfl)⟩, ⟨_, rfl⟩, "abcdefghijklmno", rfl, fun L nL => ?_⟩
    refine lc_it walk_str (fun i H' => Lv H [] H' [(L, .lst (((("abcdefghijklmno" : Str).cps.toList.take i).map plc).map V.str)), (ty, .lst (T2.map V.str))]) (lvT2.al nL) (fun _ _ _ _ => True.intro) ?_ ?_
    · rintro i z J1 J2 hi lv ⟨rfl, c, hc, rfl⟩
      have ht : ("abcdefghijklmno" : Str).cps.toList[i]? = some c := by rw [Array.getElem?_toList]; exact hc
      have tk := take_next2 ht
      have i15 : i < 15 := Nat.lt_of_lt_of_le hi (by decide +kernel)
      refine ⟨rfl, _, rfl, _, _, rfl, rfl, by rw [sizeLine_eq]; show 6 + 1 ≤ 16777216; decide, _, lv.get 0 rfl, by rw [List.length_map, List.length_map, List.length_take, sizeLine_eq]; omega, ?_⟩
      rw [tk, List.map_append, List.map_append]
      exact lv.stE 0 rfl rfl
    rintro J2 lvJ2
    rw [show ("abcdefghijklmno" : Str).cps.size = ("abcdefghijklmno" : Str).cps.toList.length from rfl, List.take_length] at lvJ2
    rw [List.append_nil] at p21 p22 p23
    refine ⟨NL, L, _, rfl, rfl, .inl (SqL.of (lvJ2.get 0 rfl)), p21, ty, _, _, rfl, rfl, lvJ2.get 1 rfl, by rw [List.length_map, ln2, sizeLine_eq]; decide, ?_⟩
    wide_line with st lvJ2 1 I2 lvK2
    obtain ⟨T3, eT3, lo3, ln3⟩ : ∃ T : List Str, T2.map V.str ++ [V.str (Str.join NL (("abcdefghijklmno" : Str).cps.toList.map plc))] = T.map V.str ∧ LinesOk 1000 T ∧ T.length = 15 := ⟨T2 ++ [_], by rw [List.map_append]; rfl, lo2.app (LinesOk.one p22 p23), by rw [List.length_append, ln2]; rfl⟩
    have lvT3 := lvK2.picks [1] rfl (by decide) (fun _ z => nomatch z)
    rw [txt_join, eT3] at lvT3
    clear lvK2
    obtain ⟨p31, p32, p33⟩ := pl_ok (x := "abcdefghijklm") (more := ["tie a b", "tie b c"]) (by decide +kernel) (by show PyData.strOk _ = true; decide +kernel) (by decide) (fun z hz => by simp only [List.mem_cons, List.not_mem_nil, or_false] at hz; rcases hz with rfl | rfl <;> exact ⟨by decide +kernel, by show PyData.strOk _ = true; decide +kernel⟩)
    refine ⟨_, rfl, .inl ⟨rfl, _, SqL.of (lvT3.get 0 rfl)⟩, ⟨_, rfl⟩, "abcdefghijklm", rfl, fun L nL => ?_⟩
    refine lc_it walk_str (fun i H' => Lv H [] H' [(L, .lst (((("abcdefghijklm" : Str).cps.toList.take i).map plc).map V.str)), (ty, .lst (T3.map V.str))]) (lvT3.al nL) (fun _ _ _ _ => True.intro) ?_ ?_
    · rintro i z J1 J2 hi lv ⟨rfl, c, hc, rfl⟩
      have ht : ("abcdefghijklm" : Str).cps.toList[i]? = some c := by rw [Array.getElem?_toList]; exact hc
      have tk := take_next2 ht
      have i15 : i < 15 := Nat.lt_of_lt_of_le hi (by decide +kernel)
      refine ⟨rfl, _, rfl, _, _, rfl, rfl, by rw [sizeLine_eq]; show 6 + 1 ≤ 16777216; decide, _, lv.get 0 rfl, by rw [List.length_map, List.length_map, List.length_take, sizeLine_eq]; omega, ?_⟩
      rw [tk, List.map_append, List.map_append]
      exact lv.stE 0 rfl rfl
    rintro J3 lvJ3
    rw [show ("abcdefghijklm" : Str).cps.size = ("abcdefghijklm" : Str).cps.toList.length from rfl, List.take_length] at lvJ3
    refine ⟨sz2, fun l2 nl2 => ?_⟩
    wide_line with alx lvJ3 nl2 G3 lvG3 sG3
    refine ⟨L, l2, _, _, rfl, rfl, lvG3.get 1 rfl, lvG3.get 0 rfl, by rw [sizeLine_eq, List.length_map, List.length_map]; exact Nat.le_trans (Nat.add_le_add_right (show ("abcdefghijklm" : Str).cps.toList.length ≤ 15 by decide +kernel) _) (by show 15 + 2 ≤ 16777216; decide), fun l3 nl3 => ?_⟩
    wide_line with alx lvG3 nl3 F3 lvF3 sF3
    rw [show (("abcdefghijklm" : Str).cps.toList.map plc).map V.str ++ [V.str "tie a b", V.str "tie b c"] = (("abcdefghijklm" : Str).cps.toList.map plc ++ (["tie a b", "tie b c"] : List Str)).map V.str from by rw [List.map_append]; rfl] at lvF3
    refine ⟨NL, l3, _, rfl, rfl, .inl (SqL.of (lvF3.get 0 rfl)), p31, ty, _, _, rfl, rfl, lvF3.get 3 rfl, by rw [List.length_map, ln3, sizeLine_eq]; decide, ?_⟩
    wide_line with st lvF3 3 I3 lvK3
    obtain ⟨T4, eT4, lo4, ln4⟩ : ∃ T : List Str, T3.map V.str ++ [V.str (Str.join NL (("abcdefghijklm" : Str).cps.toList.map plc ++ (["tie a b", "tie b c"] : List Str)))] = T.map V.str ∧ LinesOk 1000 T ∧ T.length = 16 := ⟨T3 ++ [_], by rw [List.map_append]; rfl, lo3.app (LinesOk.one p32 p33), by rw [List.length_append, ln3]; rfl⟩
    have lvT4 := lvK3.picks [3] rfl (by decide) (fun _ z => nomatch z)
    rw [txt_join, eT4] at lvT4
    clear lvK3
    obtain ⟨p41, p42, p43⟩ := pl_ok (x := "abcdefghijkl") (more := ["tie a b", "place m"]) (by decide +kernel) (by show PyData.strOk _ = true; decide +kernel) (by decide) (fun z hz => by simp only [List.mem_cons, List.not_mem_nil, or_false] at hz; rcases hz with rfl | rfl <;> exact ⟨by decide +kernel, by show PyData.strOk _ = true; decide +kernel⟩)
    refine ⟨_, rfl, .inl ⟨rfl, _, SqL.of (lvT4.get 0 rfl)⟩, ⟨_, rfl⟩, "abcdefghijkl", rfl, fun L nL => ?_⟩
    refine lc_it walk_str (fun i H' => Lv H [] H' [(L, .lst (((("abcdefghijkl" : Str).cps.toList.take i).map plc).map V.str)), (ty, .lst (T4.map V.str))]) (lvT4.al nL) (fun _ _ _ _ => True.intro) ?_ ?_
    · rintro i z J1 J2 hi lv ⟨rfl, c, hc, rfl⟩
      have ht : ("abcdefghijkl" : Str).cps.toList[i]? = some c := by rw [Array.getElem?_toList]; exact hc
      have tk := take_next2 ht
      have i15 : i < 15 := Nat.lt_of_lt_of_le hi (by decide +kernel)
      refine ⟨rfl, _, rfl, _, _, rfl, rfl, by rw [sizeLine_eq]; show 6 + 1 ≤ 16777216; decide, _, lv.get 0 rfl, by rw [List.length_map, List.length_map, List.length_take, sizeLine_eq]; omega, ?_⟩
      rw [tk, List.map_append, List.map_append]
      exact lv.stE 0 rfl rfl
    rintro J4 lvJ4
    rw [show ("abcdefghijkl" : Str).cps.size = ("abcdefghijkl" : Str).cps.toList.length from rfl, List.take_length] at lvJ4
    refine ⟨sz2, fun l2 nl2 => ?_⟩
    wide_line with alx lvJ4 nl2 G4 lvG4 sG4
    refine ⟨L, l2, _, _, rfl, rfl, lvG4.get 1 rfl, lvG4.get 0 rfl, by rw [sizeLine_eq, List.length_map, List.length_map]; exact Nat.le_trans (Nat.add_le_add_right (show ("abcdefghijkl" : Str).cps.toList.length ≤ 15 by decide +kernel) _) (by show 15 + 2 ≤ 16777216; decide), fun l3 nl3 => ?_⟩
    wide_line with alx lvG4 nl3 F4 lvF4 sF4
    rw [show (("abcdefghijkl" : Str).cps.toList.map plc).map V.str ++ [V.str "tie a b", V.str "place m"] = (("abcdefghijkl" : Str).cps.toList.map plc ++ (["tie a b", "place m"] : List Str)).map V.str from by rw [List.map_append]; rfl] at lvF4
    refine ⟨NL, l3, _, rfl, rfl, .inl (SqL.of (lvF4.get 0 rfl)), p41, ty, _, _, rfl, rfl, lvF4.get 3 rfl, by rw [List.length_map, ln4, sizeLine_eq]; decide, ?_⟩
    wide_line with st lvF4 3 I4 lvK4
    obtain ⟨T5, eT5, lo5, ln5⟩ : ∃ T : List Str, T4.map V.str ++ [V.str (Str.join NL (("abcdefghijkl" : Str).cps.toList.map plc ++ (["tie a b", "place m"] : List Str)))] = T.map V.str ∧ LinesOk 1000 T ∧ T.length = 17 := ⟨T4 ++ [_], by rw [List.map_append]; rfl, lo4.app (LinesOk.one p42 p43), by rw [List.length_append, ln4]; rfl⟩
    have lvT5 := lvK4.picks [3] rfl (by decide) (fun _ z => nomatch z)
    rw [txt_join, eT5] at lvT5
    clear lvK4
    refine ⟨_, rfl, _, _, rfl, .inl ⟨_, lvT5.sm.seq hS, rfl⟩, _, _, rfl, _, _, rfl, _, rfl, ?_, ?_, ?_⟩
    · split <;> (try split) <;> omega
    · split <;> (try split) <;> omega
    have hj : (if (if (((zs0.map V.int).length : Nat) : Int) < 3 then (((zs0.map V.int).length : Nat) : Int) else 3) > 1 then (if (((zs0.map V.int).length : Nat) : Int) < 3 then (((zs0.map V.int).length : Nat) : Int) else 3) else 1) ≤ 3 := by split <;> (try split) <;> omega
    generalize (if (if (((zs0.map V.int).length : Nat) : Int) < 3 then (((zs0.map V.int).length : Nat) : Int) else 3) > 1 then (if (((zs0.map V.int).length : Nat) : Int) < 3 then (((zs0.map V.int).length : Nat) : Int) else 3) else 1) = jj at hj ⊢
    refine for_range (lo := 0) (n := jj.toNat) (fun i σ H' => Hold (∃ s2 s3 s4 s5 s6 s7 s8 s9 s10 : Option V, σ = [some (.ref a), some (.ref ty), s2, s3, s4, s5, s6, s7, s8, s9, s10] ∧ Lv H [] H' [(ty, .lst (T5.map V.str))])) ⟨_, _, _, _, _, _, _, _, _, rfl, lvT5⟩ ?_ ?_
    · rintro i σ H1 hi ⟨s2, s3, s4, s5, s6, s7, s8, s9, s10, rfl, lv1⟩
      refine ⟨_, rfl, _, rfl, a, zs0, _, rfl, by omega, by omega, lv1.sm.seq hS, hlen, hbits, fun ps r m nps ok => ?_⟩
      wide_line with alx lv1 nps H2 lv2 s2'
      refine ⟨_, rfl, ty, _, rfl, .inl (SqL.of (lv2.get 1 rfl)), fun so nso => ?_⟩
      wide_line with alx lv2 nso H3 lv3 s3'
      wide_line
      refine for_range (lo := 0) (n := 12) (fun j σ H' => Hold (∃ (r m : Int) (so : Addr) (Us : List Str) (t6 t7 t8 t9 t10 : Option V), σ = [some (.ref a), some (.ref ty), s2, some (.int (0 + (i : Nat))), some (.ref ps), some (.ref so), t6, t7, t8, t9, t10] ∧ Lv H [] H' [(so, .lst (Us.map V.str)), (ps, .lst [.int r, .int m]), (ty, .lst (T5.map V.str))] ∧ SrcOk r m ∧ Us.length ≤ 17 + 2 * j ∧ LinesOk 16000000 Us)) ⟨r, m, so, T5, _, _, _, _, _, rfl, lv3, ok, by omega, lo5.mono (by decide)⟩ ?_ ?_
      · rintro j σ H5 hj2 ⟨r5, m5, so5, Us, t6, t7, t8, t9, t10, rfl, lv5, ok5, len5, lo5'⟩
        refine ⟨_, rfl, ps, r5, m5, 7, rfl, lv5.get 1 rfl, ok5, by decide, by decide, fun r6 m6 ms ts t tn tt txs H6 ok6 pk f6 src6 nt6 ht6 htn6 htt6 htu6 => ?_⟩
        have lv6 := lv5.st' 1 rfl src6 f6
        simp only [List.set_cons_zero, List.set_cons_succ] at lv6
        refine ⟨t, 7, ms, ts, rfl, ⟨tn, tt, txs, SqT.of ht6, SqT.of htn6, SqT.of htt6, tiesAt_of htu6⟩, pk, by decide, fun x H7 s7 nx wx => ?_⟩
        refine ⟨x, 7, ms, ts, rfl, WebAt.same noLst_sub wx, pk, by decide, fun H8 s8 => ?_⟩
        have lv8 := lv6.same (s7.trans s8)
        obtain ⟨tx1, tx2, tx3⟩ := text_ok pk (by decide)
        generalize textOf ms ts = TX at tx1 tx2 tx3 ⊢
        refine ⟨⟨_, rfl⟩, TX, NL, rfl, rfl, rfl, by rw [sizeLine_eq]; omega, fun L nL => ?_⟩
        wide_line with alx lv8 nL H9 lv9 s9'
        have lk9 : LinesOk 2700 (Txt.split TX NL) := fun z hz => ⟨Nat.le_trans (split_len hz) tx1, split_sgn tx3 hz⟩
        have ne9 := split_ne TX NL
        generalize Txt.split TX NL = Ls at lv9 lk9 ne9 tx2
        refine ⟨_, rfl, _, rfl, ps, L, r6, m6, Ls, 2700, rfl, lv9.get 2 rfl, ok6, lv9.get 0 rfl, lv9.ne 0 2 (by decide) rfl rfl, ne9, by omega, by decide, by decide, lk9, fun r7 m7 l7 ls7 HA ok7 f7 src7 nl7 hl7 len7 lk7 => ?_⟩
        have lvA := lv9.stn 2 rfl src7 f7 nl7 hl7
        simp only [List.set_cons_zero, List.set_cons_succ] at lvA
        have ln7 : ls7.length ≤ 349 := by omega
        obtain ⟨j1, j2, j3⟩ := joined_ok lk7 ln7 (by decide)
        refine ⟨_, rfl, ⟨_, rfl⟩, _, rfl, NL, l7, ls7, rfl, rfl, .inl (SqL.of (lvA.get 0 rfl)), j1, ⟨_, rfl⟩, ?_⟩
        refine ⟨fun v H' => ∃ (r m : Int) (l8 : Addr) (ls8 : List Str), v = .ref l8 ∧ SrcOk r m ∧ H' l8 = some (.lst (ls8.map V.str)) ∧ Lv H [] H' [(so5, .lst (Us.map V.str)), (ps, .lst [.int r, .int m]), (ty, .lst (T5.map V.str))] ∧ LinesOk 10860 ls8 ∧ ls8.length ≤ 1397, ?_, ?_⟩
        · refine ⟨_, rfl, sz0, fun z nz => ?_⟩
          wide_line with alx lvA nz HB lvB sB
          refine ⟨l7, z, _, rfl, rfl, SqL.of (lvB.get 1 rfl), SqL.of (lvB.get 0 rfl), _, rfl, ?_⟩
          rw [if_pos rfl]
          cases ls7 with
          | nil =>
            refine iteF ⟨_, rfl, r7, m7, L, Ls, rfl, ok7, lvB.get 2 rfl, lvB.picks [3, 4, 5] rfl (by decide) (fun _ z => nomatch z), lk9.mono (by decide), by omega⟩
          | cons b1 br =>
            refine iteT ⟨_, rfl, _, rfl, ps, l7, r7, m7, b1 :: br, 5420, rfl, lvB.get 4 rfl, ok7, lvB.get 1 rfl, lvB.ne 1 4 (by decide) rfl rfl, List.cons_ne_nil _ _, by omega, by decide, by decide, lk7, fun r8 m8 l8 ls8 HC ok8 f8 src8 nl8 hl8 len8 lk8 => ?_⟩
            have lvC := lvB.st' 4 rfl src8 f8
            simp only [List.set_cons_zero, List.set_cons_succ] at lvC
            exact ⟨r8, m8, l8, ls8, rfl, ok8, hl8, lvC.picks [3, 4, 5] rfl (by decide) (fun _ z => nomatch z), lk8, by omega⟩
        · rintro v HD ⟨r8, m8, l8, ls8, rfl, ok8, h8, lvD, lk8, ln8⟩
          obtain ⟨i1, i2, i3⟩ := joined_ok lk8 ln8 (by decide)
          refine ⟨NL, l8, ls8, rfl, rfl, .inl (SqL.of h8), i1, sz2, fun l2 nl2 => ?_⟩
          wide_line with alx lvD nl2 HE lvE sE
          refine ⟨so5, l2, _, _, rfl, rfl, lvE.get 1 rfl, lvE.get 0 rfl, by rw [List.length_map, sizeLine_eq]; show _ + 2 ≤ _; omega, fun so6 nso6 => ?_⟩
          wide_line with alx lvE nso6 HF lvF sF
          rw [txt_join, txt_join, show Us.map V.str ++ [V.str (Str.join NL ls7), V.str (Str.join NL ls8)] = (Us ++ [Str.join NL ls7, Str.join NL ls8]).map V.str from by rw [List.map_append]; rfl] at lvF
          refine ⟨r8, m8, so6, Us ++ [Str.join NL ls7, Str.join NL ls8], _, _, _, _, _, rfl, lvF.picks [0, 3, 4] rfl (by decide) (fun _ z => nomatch z), ok8, by rw [List.length_append]; show _ + 2 ≤ _; omega, lo5'.app fun z hz => ?_⟩
          simp only [List.mem_cons, List.not_mem_nil, or_false] at hz
          rcases hz with rfl | rfl
          · exact ⟨j2, j3⟩
          · exact ⟨i2, i3⟩
      · rintro σ H5 ⟨r5, m5, so5, Us, t6, t7, t8, t9, t10, rfl, lv5, ok5, len5, lo5'⟩
        refine ⟨_, rfl, so5, rfl, ⟨_, SqL.of (lv5.get 0 rfl)⟩, ?_⟩
        refine for_list (K := K) (a := so5) (xs := Us.map V.str) (fun n σ H' => Hold (∃ t9 : Option V, σ = [some (.ref a), some (.ref ty), s2, some (.int (0 + (i : Nat))), some (.ref ps), some (.ref so5), t6, t7, t8, t9, t10] ∧ Lv H [] H' [(so5, .lst (Us.map V.str)), (ps, .lst [.int r5, .int m5]), (ty, .lst (T5.map V.str))])) ⟨_, rfl, lv5⟩ (fun n σ H' _ ⟨_, _, z⟩ => SqL.of (z.get 0 rfl)) ?_ ?_
        · rintro n v σ H6 hv ⟨t9', rfl, lv6⟩
          obtain ⟨X, hX, rfl⟩ := str_at hv
          obtain ⟨xl, xs⟩ := lo5' X (List.mem_of_getElem? hX)
          refine ⟨_, rfl, .str X, .str X, rfl, .str _, fun T' e => by cases e; exact xl, fun H7 s7 => ?_⟩
          refine ⟨_, rfl, X, rfl, xl, xs, fun H8 s8 => ?_⟩
          refine ⟨rfl, _, rfl, ?_⟩
          rw [show toldOf (.str X) = firstBad X from rfl, decide_eq_true rfl]
          exact iteF ⟨_, rfl, lv6.same (s7.trans s8)⟩
        · rintro σ H6 ⟨t9', rfl, lv6⟩
          refine ⟨sz0, fun e1 ne1 => ?_⟩
          wide_line with alx lv6 ne1 H7 lv7 s7
          refine ⟨sz1, fun e2 ne2 => ?_⟩
          wide_line with alx lv7 ne2 H8 lv8 s8
          refine ⟨sz1, fun e3 ne3 => ?_⟩
          wide_line with alx lv8 ne3 H9 lv9 s9
          refine fun D0 nD0 => ?_
          wide_line with alx lv9 nD0 HA lvA sA
          refine ⟨sz7, fun lt nlt => ?_⟩
          wide_line with alx lvA nlt HB lvB sB
          have th : ∀ v ∈ [V.non, .int 5, .bl true, .ref e1, .ref e2, .ref e3, .ref D0], ∃ d, Dq K HB v d ∧ (∀ T, d ≠ .str T) := fun v hv => by
            simp only [List.mem_cons, List.not_mem_nil, or_false] at hv
            rcases hv with rfl | rfl | rfl | rfl | rfl | rfl | rfl
            · exact ⟨.none, .non, fun _ z => nomatch z⟩
            · exact ⟨.int 5, .int _, fun _ z => nomatch z⟩
            · exact ⟨.bool true, .bl _, fun _ z => nomatch z⟩
            · exact ⟨.list [], .lst (SqL.of (lvB.get 4 rfl)) .nil, fun _ z => nomatch z⟩
            · exact ⟨.list [.str "place a"], .lst (SqL.of (lvB.get 3 rfl)) (.cons (.str _) .nil), fun _ z => nomatch z⟩
            · exact ⟨.tuple [.str "place a"], .tup (SqT.of (lvB.get 2 rfl)) (.cons (.str _) .nil), fun _ z => nomatch z⟩
            · exact ⟨.dict [], .dic (ps := []) (.inl (lvB.get 1 rfl)) rfl rfl .nil, fun _ z => nomatch z⟩
          have eB := lvB.get 0 rfl
          have lvT := lvB.picks [7] rfl (by decide) (fun _ z => nomatch z)
          refine ⟨lt, rfl, ⟨_, SqL.of eB⟩, ?_⟩
          refine for_list (K := K) (a := lt) (xs := [V.non, .int 5, .bl true, .ref e1, .ref e2, .ref e3, .ref D0]) (fun n σ H' => Hold (∃ t10 : Option V, σ = [some (.ref a), some (.ref ty), s2, some (.int (0 + (i : Nat))), some (.ref ps), some (.ref so5), t6, t7, t8, t9', t10] ∧ Same HB H')) ⟨_, rfl, .refl _⟩ (fun n σ H' _ ⟨_, _, z⟩ => SqL.of (z _ _ eB)) ?_ ?_
          · rintro n v σ HC hv ⟨t10', rfl, sC⟩
            obtain ⟨d, hd, nd⟩ := th v (List.mem_of_getElem? hv)
            refine ⟨_, rfl, v, d, rfl, hd.same sC, (fun T' e => absurd e (nd T')), fun HD sD => ?_⟩
            have e1 : toldOf d = 1 := by cases d <;> first | rfl | exact absurd rfl (nd _)
            refine ⟨rfl, _, rfl, ?_⟩
            rw [e1, decide_eq_true rfl]
            exact iteF ⟨_, rfl, sC.trans sD⟩
          · rintro σ HC ⟨t10', rfl, sC⟩
            exact ⟨s2, _, _, _, _, _, _, _, _, rfl, lvT.same sC⟩
    · rintro σ H1 ⟨s2, s3, s4, s5, s6, s7, s8, s9, s10, rfl, lv1⟩
      exact k H1
end
end Pw

set_option Elab.async false
set_option linter.all false
set_option maxRecDepth 100000
set_option maxHeartbeats 4000000
namespace Pw
open PySem PySem.Spec PyProof.Rows L2 Ct
/-! all of it put together -/
section
variable {P : Program} {w : World} {K : PySem.W.Frag} {mg : Str → Option Value} {base : Heap} {C CB CP CS CT : Addr}
theorem law_all (T : Bn mg) (M : Mc mg) (X : WC K C) (gW : mg "Web" = some (.ref C)) (SB : SysB base) (hE_BadPlaces : HasE P w K mg base 1 "BadPlaces" CP "value") (hE_BadTies : HasE P w K mg base 1 "BadTies" CS "value") (hE_BadTie : HasE P w K mg base 1 "BadTie" CT "position") (hE_BadText : HasE P w K mg base 1 "BadText" CB "line") (hP_places : HasP P w K mg base 1 C "places" (getSp C "_places")) (hP_ties : HasP P w K mg base 1 C "ties" (getSp C "_ties")) (L : ToldB K mg CB) (D_is_name : DFE K mg "is_name" sIsName ["value"]) (D_all_differ : DFE K mg "_all_differ" sAllDiffer ["names"]) (D_is_tie : DFE K mg "_is_tie" sIsTie ["places", "value"]) (D_pair : DFE K mg "_pair" sPair ["tie"]) (D_check_places : DFE K mg "_check_places" sCheckPlaces ["places"]) (D_check_ties : DFE K mg "_check_ties" sCheckTies ["places", "known", "ties"]) (D_bits_of : DFE K mg "bits_of" sBitsOf ["number"]) {f_named : Addr} {d_named : FuncData} (F_named : Fun K "named" "Web.named" sNamed f_named d_named) (B_named : Binds K d_named ["self", "number"] []) (M_named : Meth K C "named" f_named) (D_sights : DFE K mg "_sights" sSights ["places", "ties"]) {f_init T0 : Addr} {d_init : FuncData} {o0 : Obj} {n0 : Nat} {dv : List Value} (F_init : FunD K "__init__" "Web.__init__" (defArgs sInit) (defBody sInit) (defScope sInit) [.ref T0] [] f_init d_init) (B1 : Binds K d_init ["self", "places", "ties"] []) (B0 : Binds K d_init ["self", "places", "ties"] dv) (V0 : Vals [.ref T0] dv) (l0 : K.lookup T0 = some o0) (c0 : o0.cls = .type "tuple") (s0 : o0.data = .seq #[] n0) (MK : Mk K C f_init) (D_web_text : DFE K mg "web_text" sWebText ["web"]) (D_is_next_place : DFE K mg "_is_next_place" sIsNextPlace ["places", "words"]) (D_is_next_tie : DFE K mg "_is_next_tie" sIsNextTie ["places", "tied", "words"]) (D_read_web : DFE K mg "read_web" sReadWeb ["text"]) (D_law_source : DFE K mg "_law_source" sSource ["script", "start"]) (D_law_draw : DFE K mg "_law_draw" sDraw ["source", "span"]) (D_law_mixed : DFE K mg "_law_mixed" sLawMixed ["source", "things"]) (D_law_pick : DFE K mg "_law_pick" sPick ["source", "things"]) (D_law_word : DFE K mg "_law_word" sLawWord ["source"]) (D_law_names : DFE K mg "_law_names" sLawNames ["source", "many"]) (D_law_pairs : DFE K mg "_law_pairs" sLawPairs ["source", "many", "kind"]) (D_law_plan : DFE K mg "_law_plan" sLawPlan ["source", "most"]) (D_law_web : DFE K mg "_law_web" sLawWeb ["plan"]) (D_law_is_name : DFE K mg "_law_is_name" sLawIsName ["word"]) (D_law_first_bad : DFE K mg "_law_first_bad" sLawFirstBad ["text"]) (D_law_told : DFE K mg "_law_told" sLawTold ["value"]) (D_law_bent : DFE K mg "_law_bent" sLawBent ["source", "lines"]) {fl : Addr} {dl : FuncData} (FL : Fun K "law" "law" sLaw fl dl) : GFn P w K mg base CX0 8 fl dl ["script"] (spLaw K) := by
  have h_is_name := has_is_name (P := P) (w := w) (base := base) T M D_is_name
  have h_all_differ := has_all_differ (P := P) (w := w) (base := base) T D_all_differ
  have h_is_tie := has_is_tie (P := P) (w := w) (base := base) T D_is_tie
  have h_pair := has_pair (P := P) (w := w) (base := base) D_pair
  have h_check_places := has_check_places T M D_check_places h_is_name h_all_differ hE_BadPlaces
  have h_check_ties := has_check_ties T D_check_ties h_is_tie h_pair hE_BadTies hE_BadTie
  have h_bits_of := has_bits_of (P := P) (w := w) (base := base) T D_bits_of
  have hM_named : HasM P w K mg base CX0 2 C "named" ["self", "number"] (spNamed K C) := ⟨_, _, M_named, B_named, ok_named X.cls X.n1 F_named h_bits_of⟩
  have h_sights := has_sights (P := P) (w := w) (base := base) T D_sights
  have hW : HasW P w K mg base 4 C CP CS CT := ⟨gW, f_init, T0, d_init, dv, o0, n0, MK, ok_init T X F_init h_check_places h_check_ties h_sights h_pair hM_named, B1, B0, V0, l0, c0, s0⟩
  have h_web_text := has_web_text T X D_web_text hP_places hP_ties
  have h_inp := has_is_next_place T M D_is_next_place h_is_name
  have h_int := has_is_next_tie (P := P) (w := w) (base := base) T D_is_next_tie
  have h_read_web := has_read_web T D_read_web h_inp h_int hE_BadText hW
  have h_source := has_source (P := P) (w := w) (base := base) T D_law_source
  have h_draw := has_draw (P := P) (w := w) (base := base) T D_law_draw
  have h_mixed := has_mixed T D_law_mixed h_draw
  have h_pick := has_pick T D_law_pick h_draw
  have h_word := has_word T D_law_word h_draw h_pick
  have h_names := has_names D_law_names h_draw h_mixed h_word
  have h_pairs := has_pairs T D_law_pairs h_draw
  have h_plan := has_plan T D_law_plan h_draw h_mixed h_names h_pairs
  have h_web := has_law_web T D_law_web hW
  have h_lin := has_law_is_name (P := P) (w := w) (base := base) T D_law_is_name
  have h_fb := has_law_first_bad T D_law_first_bad h_lin
  have h_told := has_law_told L D_law_told h_read_web h_web_text
  have h_bent := has_law_bent T D_law_bent h_draw h_pick
  exact has_law T FL h_source h_plan h_web h_web_text h_bent h_told h_fb
end
end Pw

set_option Elab.async false
set_option linter.all false
set_option maxRecDepth 100000
set_option maxHeartbeats 4000000
namespace Pw
open PySem PySem.Spec PyProof.Rows L2 Ct
section
variable {P : Program} {w : World} {K : PySem.W.Frag} {mg : Str → Option Value} {base : Heap}
abbrev sE_BadPlaces : Stmt := inClass (top ix_BadPlaces) mx_BadPlaces_init
theorem scE_BadPlaces : FnScope ["self", "value"] ["self", "value"] (defScope sE_BadPlaces) := ⟨rfl, rfl, rfl, by decide +kernel, rfl, by decide +kernel, by decide +kernel⟩
theorem hE_BadPlaces {C fI : Addr} {fd : FuncData} (g : mg "BadPlaces" = some (.ref C)) (F : Fun K "__init__" "BadPlaces.__init__" sE_BadPlaces fI fd) (T : XCls K C fI) (no : PySem.W.findIn K (.ref C) "value" = some none) : HasE P w K mg base 1 "BadPlaces" C "value" := by
  refine ⟨g, fI, fd, T, F.ok scE_BadPlaces (fun vs H Q E h => ?_) (fun cdv A outer s H vs Q E hr h => ?_), F.binds fun _ _ _ _ _ _ us hl => match us, hl with | [_, _], _ => rfl⟩
  · obtain ⟨a, v, rfl, _⟩ := h; rfl
  · obtain ⟨a, v, rfl, ha, k⟩ := h
    exact ⟨_, pss_one (ps_ost (pv 0) (pv 1)), _, rfl, _, rfl, a, C, rfl, T.ox, no, .inl ⟨ha, fun dx n ne => k dx n ne⟩⟩
abbrev sE_BadTies : Stmt := inClass (top ix_BadTies) mx_BadTies_init
theorem scE_BadTies : FnScope ["self", "value"] ["self", "value"] (defScope sE_BadTies) := ⟨rfl, rfl, rfl, by decide +kernel, rfl, by decide +kernel, by decide +kernel⟩
theorem hE_BadTies {C fI : Addr} {fd : FuncData} (g : mg "BadTies" = some (.ref C)) (F : Fun K "__init__" "BadTies.__init__" sE_BadTies fI fd) (T : XCls K C fI) (no : PySem.W.findIn K (.ref C) "value" = some none) : HasE P w K mg base 1 "BadTies" C "value" := by
  refine ⟨g, fI, fd, T, F.ok scE_BadTies (fun vs H Q E h => ?_) (fun cdv A outer s H vs Q E hr h => ?_), F.binds fun _ _ _ _ _ _ us hl => match us, hl with | [_, _], _ => rfl⟩
  · obtain ⟨a, v, rfl, _⟩ := h; rfl
  · obtain ⟨a, v, rfl, ha, k⟩ := h
    exact ⟨_, pss_one (ps_ost (pv 0) (pv 1)), _, rfl, _, rfl, a, C, rfl, T.ox, no, .inl ⟨ha, fun dx n ne => k dx n ne⟩⟩
abbrev sE_BadTie : Stmt := inClass (top ix_BadTie) mx_BadTie_init
theorem scE_BadTie : FnScope ["self", "position"] ["self", "position"] (defScope sE_BadTie) := ⟨rfl, rfl, rfl, by decide +kernel, rfl, by decide +kernel, by decide +kernel⟩
theorem hE_BadTie {C fI : Addr} {fd : FuncData} (g : mg "BadTie" = some (.ref C)) (F : Fun K "__init__" "BadTie.__init__" sE_BadTie fI fd) (T : XCls K C fI) (no : PySem.W.findIn K (.ref C) "position" = some none) : HasE P w K mg base 1 "BadTie" C "position" := by
  refine ⟨g, fI, fd, T, F.ok scE_BadTie (fun vs H Q E h => ?_) (fun cdv A outer s H vs Q E hr h => ?_), F.binds fun _ _ _ _ _ _ us hl => match us, hl with | [_, _], _ => rfl⟩
  · obtain ⟨a, v, rfl, _⟩ := h; rfl
  · obtain ⟨a, v, rfl, ha, k⟩ := h
    exact ⟨_, pss_one (ps_ost (pv 0) (pv 1)), _, rfl, _, rfl, a, C, rfl, T.ox, no, .inl ⟨ha, fun dx n ne => k dx n ne⟩⟩
abbrev sE_BadText : Stmt := inClass (top ix_BadText) mx_BadText_init
theorem scE_BadText : FnScope ["self", "line"] ["self", "line"] (defScope sE_BadText) := ⟨rfl, rfl, rfl, by decide +kernel, rfl, by decide +kernel, by decide +kernel⟩
theorem hE_BadText {C fI : Addr} {fd : FuncData} (g : mg "BadText" = some (.ref C)) (F : Fun K "__init__" "BadText.__init__" sE_BadText fI fd) (T : XCls K C fI) (no : PySem.W.findIn K (.ref C) "line" = some none) : HasE P w K mg base 1 "BadText" C "line" := by
  refine ⟨g, fI, fd, T, F.ok scE_BadText (fun vs H Q E h => ?_) (fun cdv A outer s H vs Q E hr h => ?_), F.binds fun _ _ _ _ _ _ us hl => match us, hl with | [_, _], _ => rfl⟩
  · obtain ⟨a, v, rfl, _⟩ := h; rfl
  · obtain ⟨a, v, rfl, ha, k⟩ := h
    exact ⟨_, pss_one (ps_ost (pv 0) (pv 1)), _, rfl, _, rfl, a, C, rfl, T.ox, no, .inl ⟨ha, fun dx n ne => k dx n ne⟩⟩
abbrev sG_places : Stmt := inClass (top ix_Web) mx_Web_places
theorem scG_places : FnScope ["self"] ["self"] (defScope sG_places) := ⟨rfl, rfl, rfl, by decide +kernel, rfl, by decide +kernel, by decide +kernel⟩
theorem hP_places {C p g : Addr} {fd : FuncData} (hp : PropOf K C "places" p g) (F : FunD K "places" "Web.places" (defArgs sG_places) (defBody sG_places) (defScope sG_places) [] [] g fd) (c : Cls K C) (n : NoAttr K C "_places") : HasP P w K mg base 1 C "places" (getSp C "_places") := by
  have b : Binds K fd ["self"] [] := FunD.bindsN (ps := ["self"]) F fun _ _ _ _ _ _ us hl => match us, hl with | [_], _ => rfl
  obtain ⟨oc, od, dV, kV, doc, pm, an, cdv, ct, osl, e, lk, hcd, _, _⟩ := id F.ex
  subst e
  exact ⟨p, g, _, hp, fn_getter lk hcd scG_places rfl rfl c n, b⟩
abbrev sG_ties : Stmt := inClass (top ix_Web) mx_Web_ties
theorem scG_ties : FnScope ["self"] ["self"] (defScope sG_ties) := ⟨rfl, rfl, rfl, by decide +kernel, rfl, by decide +kernel, by decide +kernel⟩
theorem hP_ties {C p g : Addr} {fd : FuncData} (hp : PropOf K C "ties" p g) (F : FunD K "ties" "Web.ties" (defArgs sG_ties) (defBody sG_ties) (defScope sG_ties) [] [] g fd) (c : Cls K C) (n : NoAttr K C "_ties") : HasP P w K mg base 1 C "ties" (getSp C "_ties") := by
  have b : Binds K fd ["self"] [] := FunD.bindsN (ps := ["self"]) F fun _ _ _ _ _ _ us hl => match us, hl with | [_], _ => rfl
  obtain ⟨oc, od, dV, kV, doc, pm, an, cdv, ct, osl, e, lk, hcd, _, _⟩ := id F.ex
  subst e
  exact ⟨p, g, _, hp, fn_getter lk hcd scG_ties rfl rfl c n, b⟩
end
/-! ### the head: facts by names, the run -/
def tFn_0 : List He.DefD := [dM "law" sLaw, dC "BadPlaces" "__init__" "BadPlaces.__init__" sE_BadPlaces, dC "BadTies" "__init__" "BadTies.__init__" sE_BadTies, dC "BadTie" "__init__" "BadTie.__init__" sE_BadTie, dC "BadText" "__init__" "BadText.__init__" sE_BadText, dC "Web" "named" "Web.named" sNamed, ⟨("Web", some "__init__"), "__init__", "Web.__init__", defArgs sInit, defBody sInit, defScope sInit, [.adr (He.dflAt ("Web", some "__init__") 0)], []⟩, dM "is_name" sIsName, dM "_all_differ" sAllDiffer, dM "_is_tie" sIsTie, dM "_pair" sPair, dM "_check_places" sCheckPlaces, dM "_check_ties" sCheckTies, dM "bits_of" sBitsOf, dM "_sights" sSights, dM "web_text" sWebText, dM "_is_next_place" sIsNextPlace, dM "_is_next_tie" sIsNextTie, dM "read_web" sReadWeb, dM "_law_source" sSource, dM "_law_draw" sDraw, dM "_law_mixed" sLawMixed, dM "_law_pick" sPick, dM "_law_word" sLawWord, dM "_law_names" sLawNames, dM "_law_pairs" sLawPairs, dM "_law_plan" sLawPlan, dM "_law_web" sLawWeb, dM "_law_is_name" sLawIsName, dM "_law_first_bad" sLawFirstBad]
def tFn_1 : List He.DefD := [dM "_law_told" sLawTold, dM "_law_bent" sLawBent]
def tFn : List He.DefD := tFn_0 ++ tFn_1
def tFa_0 : List He.Fa := [.glo "law", .free "int", .free "str", .free "bool", .free "len", .free "range", .free "max", .free "min", .free "isinstance", .free "list", .free "tuple", .free "set", .free "dict", .free "repr", .free "all", .free "any", .free "sorted", .free "enumerate", .free "zip", .free "sum", .free "reversed", .int "MOST_PLACES" 12, .int "MOST_LETTERS" 8, .str "LETTERS" "abcdefghijklmnopqrstuvwxyz", .glo "BadPlaces", .glo "BadTies", .glo "BadTie", .glo "BadText", .cls "Web", .noat "Web" "_places"]
def tFa_1 : List He.Fa := [.noat "Web" "_ties", .noat "Web" "_sights", .noat "Web" "_seen", .noat "Web" "_kept", .noat "Web" "_sorted_places", .noat "Web" "_sorted_pairs", .meth "Web" "named", .mkr "Web", .glo "Web", .glo "is_name", .glo "_all_differ", .glo "_is_tie", .glo "_pair", .glo "_check_places", .glo "_check_ties", .glo "bits_of", .glo "_sights", .glo "web_text", .glo "_is_next_place", .glo "_is_next_tie", .glo "read_web", .glo "_law_source", .glo "_law_draw", .glo "_law_mixed", .glo "_law_pick", .glo "_law_word", .glo "_law_names", .glo "_law_pairs", .glo "_law_plan", .glo "_law_web"]
def tFa_2 : List He.Fa := [.glo "_law_is_name", .glo "_law_first_bad", .glo "_law_told", .glo "_law_bent"]
def tFa : List He.Fa := tFa_0 ++ tFa_1 ++ tFa_2
def hex : List (PySem.W.Frag → Bool) := [fun K => Ct.genB K, fun K => Ct.xclB K "BadPlaces" "value", fun K => Ct.xclB K "BadTies" "value", fun K => Ct.xclB K "BadTie" "position", fun K => Ct.xclB K "BadText" "line", fun K => Ct.prB K "Web" "places", fun K => Ct.prB K "Web" "ties", fun K => Ct.emptyB K (He.dflAt ("Web", some "__init__") 0 K), fun K => Ct.exmB K "BadText" "BadText" true]
def tGs : List Ct.GetD := [Ct.dG "Web" "places" "Web.places" sG_places, Ct.dG "Web" "ties" "Web.ties" sG_ties]
def hexA (K : PySem.W.Frag) : Bool := hex.all fun f => f K
theorem exs_at {K : PySem.W.Frag} (c : hexA K = true) (i : Nat) {f : PySem.W.Frag → Bool} (h : hex[i]? = some f) : f K = true := List.all_eq_true.mp c f (List.mem_of_getElem? h)
def hnames_0 : List Str := ["_wall", "WebError", "BadPlaces", "BadTies", "BadTie", "NoPlace", "BadText", "bits_of", "MOST_PLACES", "MOST_LETTERS", "LETTERS", "is_name", "is_place", "check_place", "_all_differ", "_check_places", "_is_tie", "_pair", "_check_ties", "_sights", "Web", "web_text", "read_web", "_is_next_place", "_is_next_tie", "_law_source", "_law_draw", "_law_pick", "_law_mixed", "_law_word"]
def hnames_1 : List Str := ["_law_names", "_law_pairs", "_law_plan", "_law_web", "_law_is_name", "_law_first_bad", "_law_told", "_law_bent"]
def hnames : List Str := hnames_0 ++ hnames_1
abbrev HR : PySem.W.OpenRow := PySem.W.OpenLaw.row PySem.Challenge.rw_cornerturn_k56_texts_refused
abbrev hk : PySem.W.Hook := Ct.hookG 6 tFa tFn tGs hexA
def hob (s : PySem.W.SharedT) : Ct.AlG := Ct.obsGtG 6 tFa tFn tGs hexA (HandSHeadRun.getT s)
theorem hob_eq (s : PySem.W.SharedT) : hob s = hk.obs s.abs := Ct.obsGtG_eq (HandSHeadRun.getT_eq s)
theorem hrun (w : World) : HandSHeadRun.RunEq HR (PySem.W.view HR.prog [43]) hk hob 12000 hnames w := by
  intro os
  kernel_rfl
open He in
theorem facts {P : Program} {w : World} {K : PySem.W.Frag} {h : Heap} {mg : Str → Option Value} {f : Addr} (X : K.In h) (G : h.Ns mainGlobals mg) (zfa : mg ("law" : Str) = some (.ref f)) (c : He.SaysD tFa tFn K) (cg : Ct.SaysG tGs K) (ce : hexA K = true) :
    ∃ fd : FuncData, (∀ (s : Shared) (v : Value), BindsTo s fd ⟨[v], []⟩ [("script", v)]) ∧ ∀ base : Heap, K.In base → base.Ns mainGlobals mg → (∃ mm, base.Ns sysModules mm) → GFn P w K mg base CX0 8 f fd ["script"] (spLaw K) := by
  obtain ⟨fd, FL0⟩ := c.def_ 0 (d := dM "law" sLaw) rfl
  have e := zfa.symm.trans (glo_ok X G (c.fact 0 (f := .glo "law") rfl))
  cases e
  have b := FunD.bindsA (ps := ["script"]) FL0 fun _ _ _ _ _ _ us hl => match us, hl with | [_], _ => rfl
  have FL : Fun K "law" "law" sLaw (ga K "law") fd := fun_of FL0
  refine ⟨fd, fun s v => b s [v] rfl, fun base KB _ SB => ?_⟩
  have T : Bn mg := ⟨(free_ok X G (c.fact 1 (f := .free "int") rfl)), (free_ok X G (c.fact 2 (f := .free "str") rfl)), (free_ok X G (c.fact 3 (f := .free "bool") rfl)), (free_ok X G (c.fact 4 (f := .free "len") rfl)), (free_ok X G (c.fact 5 (f := .free "range") rfl)), (free_ok X G (c.fact 6 (f := .free "max") rfl)), (free_ok X G (c.fact 7 (f := .free "min") rfl)), (free_ok X G (c.fact 8 (f := .free "isinstance") rfl)), (free_ok X G (c.fact 9 (f := .free "list") rfl)), (free_ok X G (c.fact 10 (f := .free "tuple") rfl)), (free_ok X G (c.fact 11 (f := .free "set") rfl)), (free_ok X G (c.fact 12 (f := .free "dict") rfl)), (free_ok X G (c.fact 13 (f := .free "repr") rfl)), (free_ok X G (c.fact 14 (f := .free "all") rfl)), (free_ok X G (c.fact 15 (f := .free "any") rfl)), (free_ok X G (c.fact 16 (f := .free "sorted") rfl)), (free_ok X G (c.fact 17 (f := .free "enumerate") rfl)), (free_ok X G (c.fact 18 (f := .free "zip") rfl)), (free_ok X G (c.fact 19 (f := .free "sum") rfl)), (free_ok X G (c.fact 20 (f := .free "reversed") rfl))⟩
  have M : Mc mg := ⟨(int_ok X G (c.fact 21 (f := .int "MOST_PLACES" 12) rfl)), (int_ok X G (c.fact 22 (f := .int "MOST_LETTERS" 8) rfl)), (str_ok X G (c.fact 23 (f := .str "LETTERS" "abcdefghijklmnopqrstuvwxyz") rfl))⟩
  obtain ⟨X_BadPlaces, n_BadPlaces⟩ := xclB_ok (x := "BadPlaces") (f := "value") (show (fun K => Ct.genB K) K = true from exs_at ce 0 rfl) (show (fun K => Ct.xclB K "BadPlaces" "value") K = true from exs_at ce 1 rfl)
  obtain ⟨fd_BadPlaces, F_BadPlaces⟩ := fun_at c 1 (C := "BadPlaces") (m := "__init__") (q := "BadPlaces.__init__") (st := sE_BadPlaces) rfl
  have E_BadPlaces : HasE P w K mg base 1 "BadPlaces" (ga K "BadPlaces") "value" := hE_BadPlaces (glo_ok X G (c.fact 24 (f := .glo "BadPlaces") rfl)) F_BadPlaces X_BadPlaces n_BadPlaces
  obtain ⟨X_BadTies, n_BadTies⟩ := xclB_ok (x := "BadTies") (f := "value") (show (fun K => Ct.genB K) K = true from exs_at ce 0 rfl) (show (fun K => Ct.xclB K "BadTies" "value") K = true from exs_at ce 2 rfl)
  obtain ⟨fd_BadTies, F_BadTies⟩ := fun_at c 2 (C := "BadTies") (m := "__init__") (q := "BadTies.__init__") (st := sE_BadTies) rfl
  have E_BadTies : HasE P w K mg base 1 "BadTies" (ga K "BadTies") "value" := hE_BadTies (glo_ok X G (c.fact 25 (f := .glo "BadTies") rfl)) F_BadTies X_BadTies n_BadTies
  obtain ⟨X_BadTie, n_BadTie⟩ := xclB_ok (x := "BadTie") (f := "position") (show (fun K => Ct.genB K) K = true from exs_at ce 0 rfl) (show (fun K => Ct.xclB K "BadTie" "position") K = true from exs_at ce 3 rfl)
  obtain ⟨fd_BadTie, F_BadTie⟩ := fun_at c 3 (C := "BadTie") (m := "__init__") (q := "BadTie.__init__") (st := sE_BadTie) rfl
  have E_BadTie : HasE P w K mg base 1 "BadTie" (ga K "BadTie") "position" := hE_BadTie (glo_ok X G (c.fact 26 (f := .glo "BadTie") rfl)) F_BadTie X_BadTie n_BadTie
  obtain ⟨X_BadText, n_BadText⟩ := xclB_ok (x := "BadText") (f := "line") (show (fun K => Ct.genB K) K = true from exs_at ce 0 rfl) (show (fun K => Ct.xclB K "BadText" "line") K = true from exs_at ce 4 rfl)
  obtain ⟨fd_BadText, F_BadText⟩ := fun_at c 4 (C := "BadText") (m := "__init__") (q := "BadText.__init__") (st := sE_BadText) rfl
  have E_BadText : HasE P w K mg base 1 "BadText" (ga K "BadText") "line" := hE_BadText (glo_ok X G (c.fact 27 (f := .glo "BadText") rfl)) F_BadText X_BadText n_BadText
  have c1 : Cls K (ga K "Web") := (cls_ok (c.fact 28 (f := .cls "Web") rfl))
  have WX : WC K (ga K "Web") := ⟨c1, (noat_ok (c.fact 29 (f := .noat "Web" "_places") rfl)), (noat_ok (c.fact 30 (f := .noat "Web" "_ties") rfl)), (noat_ok (c.fact 31 (f := .noat "Web" "_sights") rfl)), (noat_ok (c.fact 32 (f := .noat "Web" "_seen") rfl)), (noat_ok (c.fact 33 (f := .noat "Web" "_kept") rfl)), (noat_ok (c.fact 34 (f := .noat "Web" "_sorted_places") rfl)), (noat_ok (c.fact 35 (f := .noat "Web" "_sorted_pairs") rfl))⟩
  obtain ⟨fd_places, FG_places⟩ := cg.at 0 (d := Ct.dG "Web" "places" "Web.places" sG_places) rfl
  have P_places : HasP P w K mg base 1 (ga K "Web") "places" (getSp (ga K "Web") "_places") := hP_places (prB_ok (show (fun K => Ct.prB K "Web" "places") K = true from exs_at ce 5 rfl)) FG_places c1 WX.n1
  obtain ⟨fd_ties, FG_ties⟩ := cg.at 1 (d := Ct.dG "Web" "ties" "Web.ties" sG_ties) rfl
  have P_ties : HasP P w K mg base 1 (ga K "Web") "ties" (getSp (ga K "Web") "_ties") := hP_ties (prB_ok (show (fun K => Ct.prB K "Web" "ties") K = true from exs_at ce 6 rfl)) FG_ties c1 WX.n2
  obtain ⟨d_named, F_named⟩ := fun_at c 5 (C := "Web") (m := "named") (q := "Web.named") (st := sNamed) rfl
  have B_named : Binds K d_named ["self", "number"] [] := F_named.binds fun _ _ _ _ _ _ us hl => match us, hl with | [_, _], _ => rfl
  have M_named := (meth_ok (c.fact 36 (f := .meth "Web" "named") rfl))
  obtain ⟨d_init, F_init0⟩ := c.def_ 6 (d := ⟨("Web", some "__init__"), "__init__", "Web.__init__", defArgs sInit, defBody sInit, defScope sInit, [.adr (He.dflAt ("Web", some "__init__") 0)], []⟩) rfl
  have F_init : FunD K "__init__" "Web.__init__" (defArgs sInit) (defBody sInit) (defScope sInit) [.ref (He.dflAt ("Web", some "__init__") 0 K)] [] (ma K (ga K "Web") "__init__") d_init := F_init0
  obtain ⟨ds1, V1, B1⟩ := FunD.binds1 (ps := ["self", "places", "ties"]) F_init 3 1 (by simp) rfl (fun _ _ _ _ _ _ _ us its hl h2 => match us, hl, its, h2 with | [_, _, _], _, [_], _ => ⟨fun _ => _, rfl, rfl⟩)
  obtain ⟨dv, V0, B0⟩ := FunD.binds1 (ps := ["self", "places", "ties"]) F_init 2 0 (by simp) rfl (fun _ _ _ _ _ _ _ us its hl h2 => match us, hl, its, h2 with | [_, _], _, [_], _ => ⟨_, rfl, rfl⟩)
  cases V1
  obtain ⟨o0, n0, l0, c0, s0⟩ := emptyB_ok (show (fun K => Ct.emptyB K (He.dflAt ("Web", some "__init__") 0 K)) K = true from exs_at ce 7 rfl)
  have MK := (mkr_ok (c.fact 37 (f := .mkr "Web") rfl))
  have L : ToldB K mg (ga K "BadText") := ⟨(glo_ok X G (c.fact 27 (f := .glo "BadText") rfl)), X_BadText.xe, n_BadText, of_decide_eq_true (show (fun K => Ct.exmB K "BadText" "BadText" true) K = true from exs_at ce 8 rfl)⟩
  exact law_all T
    M
    WX
    (glo_ok X G (c.fact 38 (f := .glo "Web") rfl))
    SB
    E_BadPlaces
    E_BadTies
    E_BadTie
    E_BadText
    P_places
    P_ties
    L
    (dfe_of (nm := "is_name") (st := sIsName) (ps := ["value"]) X G c 7 39 rfl rfl fun _ _ _ _ _ _ us hl => match us, hl with | [_], _ => rfl)
    (dfe_of (nm := "_all_differ") (st := sAllDiffer) (ps := ["names"]) X G c 8 40 rfl rfl fun _ _ _ _ _ _ us hl => match us, hl with | [_], _ => rfl)
    (dfe_of (nm := "_is_tie") (st := sIsTie) (ps := ["places", "value"]) X G c 9 41 rfl rfl fun _ _ _ _ _ _ us hl => match us, hl with | [_, _], _ => rfl)
    (dfe_of (nm := "_pair") (st := sPair) (ps := ["tie"]) X G c 10 42 rfl rfl fun _ _ _ _ _ _ us hl => match us, hl with | [_], _ => rfl)
    (dfe_of (nm := "_check_places") (st := sCheckPlaces) (ps := ["places"]) X G c 11 43 rfl rfl fun _ _ _ _ _ _ us hl => match us, hl with | [_], _ => rfl)
    (dfe_of (nm := "_check_ties") (st := sCheckTies) (ps := ["places", "known", "ties"]) X G c 12 44 rfl rfl fun _ _ _ _ _ _ us hl => match us, hl with | [_, _, _], _ => rfl)
    (dfe_of (nm := "bits_of") (st := sBitsOf) (ps := ["number"]) X G c 13 45 rfl rfl fun _ _ _ _ _ _ us hl => match us, hl with | [_], _ => rfl)
    F_named
    B_named
    M_named
    (dfe_of (nm := "_sights") (st := sSights) (ps := ["places", "ties"]) X G c 14 46 rfl rfl fun _ _ _ _ _ _ us hl => match us, hl with | [_, _], _ => rfl)
    F_init
    B1
    B0
    V0
    l0
    c0
    s0
    MK
    (dfe_of (nm := "web_text") (st := sWebText) (ps := ["web"]) X G c 15 47 rfl rfl fun _ _ _ _ _ _ us hl => match us, hl with | [_], _ => rfl)
    (dfe_of (nm := "_is_next_place") (st := sIsNextPlace) (ps := ["places", "words"]) X G c 16 48 rfl rfl fun _ _ _ _ _ _ us hl => match us, hl with | [_, _], _ => rfl)
    (dfe_of (nm := "_is_next_tie") (st := sIsNextTie) (ps := ["places", "tied", "words"]) X G c 17 49 rfl rfl fun _ _ _ _ _ _ us hl => match us, hl with | [_, _, _], _ => rfl)
    (dfe_of (nm := "read_web") (st := sReadWeb) (ps := ["text"]) X G c 18 50 rfl rfl fun _ _ _ _ _ _ us hl => match us, hl with | [_], _ => rfl)
    (dfe_of (nm := "_law_source") (st := sSource) (ps := ["script", "start"]) X G c 19 51 rfl rfl fun _ _ _ _ _ _ us hl => match us, hl with | [_, _], _ => rfl)
    (dfe_of (nm := "_law_draw") (st := sDraw) (ps := ["source", "span"]) X G c 20 52 rfl rfl fun _ _ _ _ _ _ us hl => match us, hl with | [_, _], _ => rfl)
    (dfe_of (nm := "_law_mixed") (st := sLawMixed) (ps := ["source", "things"]) X G c 21 53 rfl rfl fun _ _ _ _ _ _ us hl => match us, hl with | [_, _], _ => rfl)
    (dfe_of (nm := "_law_pick") (st := sPick) (ps := ["source", "things"]) X G c 22 54 rfl rfl fun _ _ _ _ _ _ us hl => match us, hl with | [_, _], _ => rfl)
    (dfe_of (nm := "_law_word") (st := sLawWord) (ps := ["source"]) X G c 23 55 rfl rfl fun _ _ _ _ _ _ us hl => match us, hl with | [_], _ => rfl)
    (dfe_of (nm := "_law_names") (st := sLawNames) (ps := ["source", "many"]) X G c 24 56 rfl rfl fun _ _ _ _ _ _ us hl => match us, hl with | [_, _], _ => rfl)
    (dfe_of (nm := "_law_pairs") (st := sLawPairs) (ps := ["source", "many", "kind"]) X G c 25 57 rfl rfl fun _ _ _ _ _ _ us hl => match us, hl with | [_, _, _], _ => rfl)
    (dfe_of (nm := "_law_plan") (st := sLawPlan) (ps := ["source", "most"]) X G c 26 58 rfl rfl fun _ _ _ _ _ _ us hl => match us, hl with | [_, _], _ => rfl)
    (dfe_of (nm := "_law_web") (st := sLawWeb) (ps := ["plan"]) X G c 27 59 rfl rfl fun _ _ _ _ _ _ us hl => match us, hl with | [_], _ => rfl)
    (dfe_of (nm := "_law_is_name") (st := sLawIsName) (ps := ["word"]) X G c 28 60 rfl rfl fun _ _ _ _ _ _ us hl => match us, hl with | [_], _ => rfl)
    (dfe_of (nm := "_law_first_bad") (st := sLawFirstBad) (ps := ["text"]) X G c 29 61 rfl rfl fun _ _ _ _ _ _ us hl => match us, hl with | [_], _ => rfl)
    (dfe_of (nm := "_law_told") (st := sLawTold) (ps := ["value"]) X G c 30 62 rfl rfl fun _ _ _ _ _ _ us hl => match us, hl with | [_], _ => rfl)
    (dfe_of (nm := "_law_bent") (st := sLawBent) (ps := ["source", "lines"]) X G c 31 63 rfl rfl fun _ _ _ _ _ _ us hl => match us, hl with | [_, _], _ => rfl)
    FL
end Pw
open PySem PySem.W PySem.Calls PyProof.Rows
set_option maxRecDepth 100000 in
set_option maxHeartbeats 0 in
theorem PySem.Challenge.cw_cornerturn_k56_texts_refused_holds : PySem.Challenge.rw_cornerturn_k56_texts_refused.Holds := by
  w_on; o_law
  refine HandSHeadRun.head_any (r := OpenLaw.row PySem.Challenge.rw_cornerturn_k56_texts_refused) (q := view (OpenLaw.row PySem.Challenge.rw_cornerturn_k56_texts_refused).prog [43]) (H := Pw.hk) (ob := Pw.hob) (M := 12000) (loose := Pw.hnames) (d := HandSHeadRun.topDef (OpenLaw.row PySem.Challenge.rw_cornerturn_k56_texts_refused).prog 43) (kwd := []) Pw.hob_eq
    (by kernel_rfl) (fun s => by kernel_rfl) Pw.hrun (by kernel_rfl) (by kernel_rfl) (by kernel_rfl) (by rfl) (by first | assumption | decide +kernel) (by decide +kernel) ⟨rfl, rfl, rfl, rfl, rfl, by decide +kernel⟩ ?hw ?hc
  case hw => w_witness2
  case hc =>
    refine Ct.walk_gE (l := PySem.Challenge.rw_cornerturn_k56_texts_refused) (n := 63) (k := 8) (x := "script") (CX := L2.CX0) rfl (by decide +kernel) (by decide) (by kernel_rfl) ⟨rfl, by decide, by decide⟩ ?F (fun _ _ _ _ z => z)
    intro w mg fa h Y G hmg0
    obtain ⟨K, KX, c, cg, ce⟩ := Y
    have hmg : mg ("law" : PySem.Str) = some (.ref fa) := by
      have e : (HandSHeadRun.topDef (OpenLaw.row PySem.Challenge.rw_cornerturn_k56_texts_refused).prog 43).name = ("law" : PySem.Str) := by kernel_rfl
      rw [← e]
      exact hmg0
    obtain ⟨fd, hb, hF⟩ := Pw.facts (P := (PySem.Challenge.rw_cornerturn_k56_texts_refused).prog) (w := w) KX G hmg c cg ce
    exact ⟨K, fd, Pw.spLaw K, KX, hb, fun H a ns hl hz on hS => ⟨a, ns, rfl, on, hS, hl, hz, fun _ => rfl⟩, hF⟩
#print axioms PySem.Challenge.cw_cornerturn_k56_texts_refused_holds
