import PyProof.Rows.All
import Wide.All
import OpenK.AllK
import Wide.FinOn
import PyProof.ReprRoads
import HandS.ForExc
import HandS.ForMost
import HandS.EndBits
import HandS.Wide
import HandS.ExcInit
import HandS.IsInst
import HandS.ExcIs
import KE.KExcIs
import HandS.Defaults
import HandS.Comp
import HandS.TupSets
import HandS.SetKeys
import HandS.SetBool
import HandS.Strs
import KE.GoesMore
import KE.SortData
import HandS.Walk
import HandS.Property
import HandS.DictComp
import HandS.Head0
import HandS.Head1
import HandS.Head2
import HandS.HeadEnd
import HandS.HeadHook1
import HandS.HeadHook2
import HandS.Call
import HandS.OwnEq
import PyProof.InstNe
import HandS.WideBits
import HandS.More
import HandS.Deep
import HandS.Zip
import HandS.TupAny
import PyProof.NeKinds
import KE.DataMinMax
import HandS.SortKw
import PyProof.EqKinds
import PyProof.FactsAll.dict_1
import PyProof.StrLawsChain
import HandS.FStr
import HandS.Text
import PyProof.Rows.StrFin3
import PyProof.StrLaws
import HandS.Exc
import HandS.TryMany
import KE.KDictDisplayH
import PyProof.StrLawsRepr
import HandS.Style
import PyProof.Rows.ReprShort
import HandS.NoneIn
import KE.GoesEnumKw
import HandS.Small
import HandS.Flow
import HandS.WordsDict
import PySem.Challenge.RW_cornerturn_k55_texts_of_webs
set_option Elab.async false
set_option linter.all false
set_option maxRecDepth 100000
set_option maxHeartbeats 2000000
/-! Own kit A: defs whose promise leans on there being no guard on the stack (repr); the end of a law with such a def. -/
namespace Ct
open PySem PySem.Spec PyProof.Rows L2
/-- a def's promise where no guard stands on the stack -/
structure GFn (P : Program) (w : World) (K : PySem.W.Frag) (mg : Str → Option Value) (base : Heap) (CX : CXT) (k : Nat) (f : Addr) (fd : FuncData) (ps : List Str) (sp : Sp) : Prop where
  len : ∀ vs H Q E, sp vs H Q E → vs.length = ps.length
  run : ∀ (A : Around) (o : List Env) (s : Shared) (H : Hp) (ar : Args) (us : List Value) (vs : List V) (Q : VK) (E : XK), A.guards = some [] → Room k A → Env0 P w K mg base A o s H →
    BindsTo s fd ar (ps.zip us) → Vals vs us → sp vs H Q E → codeAny (model P w) A (.call (.ref f) ar) (CR CX o P w H s Q E) s
theorem GFn.of {P : Program} {w : World} {K : PySem.W.Frag} {mg : Str → Option Value} {base : Heap} {CX : CXT} {k : Nat} {f : Addr} {fd : FuncData} {ps : List Str} {sp : Sp}
    (F : FnOk P w K mg base CX k f fd ps sp) : GFn P w K mg base CX k f fd ps sp := ⟨F.len, fun A o s H ar us vs Q E _ => F.run A o s H ar us vs Q E⟩
theorem GFn.mono {P : Program} {w : World} {K : PySem.W.Frag} {mg : Str → Option Value} {base : Heap} {CX : CXT} {j k : Nat} {f : Addr} {fd : FuncData} {ps : List Str} {sp : Sp}
    (F : GFn P w K mg base CX j f fd ps sp) (h : j ≤ k) : GFn P w K mg base CX k f fd ps sp := ⟨F.len, fun A o s H ar us vs Q E g r => F.run A o s H ar us vs Q E g (r.mono h)⟩
section
variable {P : Program} {w : World} {K : PySem.W.Frag} {mg : Str → Option Value} {base : Heap} {CX : CXT}
/-- the rule for such a def -/
theorem gfn_of {x qual : Str} {st : Stmt} {f : Addr} {fd : FuncData} {N ps : List Str} {k : Nat} {sp : Sp} (F : Fun K x qual st f fd) (S : FnScope N ps (defScope st)) (len : ∀ vs H Q E, sp vs H Q E → vs.length = ps.length)
    (body : ∀ (cdv : Value) (A : Around) (o : List Env) (s : Shared) (H : Hp) (vs : List V) (Q : VK) (E : XK), A.guards = some [] → Room k (A.deeper (envOfC qual (defScope st) s.heap.objs.size f cdv)) → sp vs H Q E →
      ∃ t, PSs (cxOf CX P w K mg base N qual (defScope st) f cdv A o s H E) (defBody st) t ∧ t { nx := fun _ H' => Q .non H', rt := Q } (start N vs) H) : GFn P w K mg base CX (k + 1) f fd ps sp := by
  obtain ⟨oc, od, kV, doc, pm, an, cdv, ct, osl, rfl, lk, hcd⟩ := F.ex
  refine ⟨len, ?_⟩
  intro A o s H ar us vs Q E g hr e0 hb rel hsp
  have kb : ∀ b u, base.get? b = some u → s.heap.get? b = some u := fun b u e => (e0.bs b u e).1
  have KX := e0.mod.kin.keeps kb
  have lim := e0.mod.nolimit.keeps kb
  refine codeAny_call_function hr.depth (KX _ _ lk) rfl S.co S.gen rfl (PySem.W.codeRec_of KX hcd) (hb _ _ _ _ ?_)
  refine wpAny_newFunctionEnv_cells S.kind (fun ⟨n, v⟩ hy => ?_) fun env he s1 ic => ?_
  · cases S.par n (List.of_mem_zip hy).1 with
    | inl q => exact Or.inl q
    | inr q => exact Or.inr ⟨q, PySem.W.cellsFrom_some _ _ _ (Or.inl q)⟩
  cases he
  refine ⟨lim.keeps ic.toInCall.keep, codeAny_func ?_⟩
  obtain ⟨t, ht, hq⟩ := body cdv A o s H vs Q E g (hr.deeper _) hsp
  have I := inv_start (CX := CX) (P := P) (w := w) (K := K) (mg := mg) (base := base) (E := E) S hr.hd e0 (len _ _ _ _ hsp) rel ic
  refine wpAny_mono (ht.run [] s1 (start N vs) H _ I hq) ?_ (fun e s' z => z)
  intro fl s' z
  cases fl with
  | ret u => obtain ⟨v, σ', H', J, rv, q⟩ := z; exact ⟨v, H', J.os, J.bare, J.base, J.hok, rv, q⟩
  | next => obtain ⟨σ', H', J, q⟩ := z; exact ⟨.non, H', J.os, J.bare, J.base, J.hok, rfl, q⟩
  | brk => obtain ⟨_, _, _, q⟩ := z; exact q.elim
  | cont => obtain ⟨_, _, _, q⟩ := z; exact q.elim
end
section
variable {X : Cx} {CX : CXT} {k : Nat} {f : Addr} {fd : FuncData} {ps : List Str} {sp : Sp} {dvs : List V} {ds : List Value} {E : XK} {x : Str} {p pos : Pos} {e : Expr} {es : List Expr} {t : TA}
theorem run_g {pins : List (Addr × Obj)} {σ : L2.St} {H : Hp} {s : Shared} {Q : VK} {us : List Value} {vs : List V} (F : GFn X.prog X.w X.K X.mg X.base CX k f fd ps sp) (g : X.A.guards = some []) (hr : Room k X.A) (hb : Binds X.K fd ps ds) (hd : Vals dvs ds)
    (hx : Passes CX X E) (I : Inv X pins σ H s) (r : Vals vs us) (h : sp (vs ++ dvs) H Q E) : wpAny (model X.prog X.w) X.A (call (.ref f) us) (EP X pins σ Q) X.xe s := by
  have r2 := r.append hd
  refine wpAny_call (codeAny_mono (F.run X.A X.stack s H ⟨us, []⟩ (us ++ ds) (vs ++ dvs) Q E g hr I.env0 (hb s us I.kIn (by rw [← r2.length]; exact F.len _ _ _ _ h)) r2 h) ?_)
  intro r s' z
  match r, z with
  | .error e, z => exact hx pins σ H s e s' I z
  | .ok (.ret u), z => exact I.after z
  | .ok .next, z => exact False.elim z
  | .ok .brk, z => exact False.elim z
  | .ok .cont, z => exact False.elim z
/-- a call of such a def -/
theorem pe_callG (F : GFn X.prog X.w X.K X.mg X.base CX k f fd ps sp) (g : X.A.guards = some []) (hr : Room k X.A) (hg : Gl X x) (hm : X.mg x = some (.ref f)) (hk : PySem.W.keepIn X.K (.ref f) = true) (hb : Binds X.K fd ps ds) (hd : Vals dvs ds) (hx : Passes CX X E)
    (ha : PA X (e :: es) t) (hdb : (x == ("__debug__" : Str)) = false := by decide) (he : starEach (e :: es) X.env = (false, eval e X.env) :: starEach es X.env := by rfl) (hpl : (backTo pos (starEach es X.env)).any (·.1) = false := by rfl) :
    PE X (.Call (.Name x p) (e :: es) [] pos) (tCall sp dvs E t) := by
  constructor
  intro pins s σ H Q I h
  refine wpAny_Call_Name_kw (ld_glob I hg hm ?_ hdb)
  refine PySem.W.callWith_K (h₀ := X.base) I.ok.mod.kin hk (thn (ha.run pos pins s σ H _ I h) ?_) he hpl
  rintro us s1 ⟨vs, H1, I1, r, q⟩
  exact ⟨I1.kIn, run_g F g hr hb hd hx I1 r q⟩
end
/-! the law's own end -/
/-- the abstract heap that tracks the script alone -/
def hpS (a : Addr) (vs : List Value) (ns : List Int) : Hp := fun b => if b = a then some (.frz { cls := .type "list", data := .seq vs.toArray } (.lst (ns.map V.int))) else none
theorem end_g {P : Program} {w : World} {K : PySem.W.Frag} {mg mb : Str → Option Value} {CX : CXT} {k : Nat} {fa a : Addr} {fd : FuncData} {x : Str} {sp : Sp} {s1 : Shared} {vs : List Value} {ns : List Int}
    (KX : K.In s1.heap) (hns : s1.heap.Ns mainGlobals mg) (hb : s1.heap.Ns builtinsNs mb) (hbb : ∀ x : Str, x ≠ "__name__" → mb x = bootBuiltins x) (hlim : s1.heap.NoLimit) (hg : s1.gens = #[])
    (ha : s1.heap.get? a = some { cls := .type "list", data := .seq vs.toArray }) (hi : IntsAre vs ns) (hl : ns.length ≤ sizeLine) (hr : Room k callerA)
    (hmods : ∃ mm, s1.heap.Ns sysModules mm) (F : ∀ base : Heap, K.In base → base.Ns mainGlobals mg → (∃ mm, base.Ns sysModules mm) → GFn P w K mg base CX k fa fd [x] sp) (hbind : ∀ (s : Shared) (u : Value), BindsTo s fd ⟨[u], []⟩ [(x, u)])
    (hsp : ∀ H : Hp, Only H → SqL K H a (ns.map V.int) → sp [.ref a] H (fun v _ => v = .bl true) fun _ _ _ => False)
    (hCX : ∀ H e s', CX [] H s1 (fun _ _ _ => False) e s' → False) :
    codeAny (model P w) callerA (.call (.ref fa) ⟨[.ref a], []⟩) (fun r s' => r = .ok (.ret (.bool true)) ∧ OldK s1.heap s'.heap ∧ s'.os = s1.os ∧ AllBare s'.gens) s1 := by
  have rv := vals_ints hi
  have main : ∀ H : Hp, Only H → SqL K H a (ns.map V.int) → HOk P w H s1.heap → (∀ b, b ≠ a → H b = none) → (∀ o, K.lookup a = some o → H a = none) →
      codeAny (model P w) callerA (.call (.ref fa) ⟨[.ref a], []⟩) (fun r s' => r = .ok (.ret (.bool true)) ∧ OldK s1.heap s'.heap ∧ s'.os = s1.os ∧ AllBare s'.gens) s1 := by
    intro H only seq hok off hK
    -- what is no list of the script's stands in the base
    have inB : ∀ {b : Addr} {o : Obj} {es : Array DictEntry} {ep : Nat}, s1.heap.get? b = some o → o.data = .dict es ep → H b = none := by
      intro b o es ep e d
      by_cases hba : b = a
      · rw [hba, ha] at e
        cases e
        cases d
      · exact off b hba
    have nsB : ∀ {b : Addr} {m : Str → Option Value}, s1.heap.Ns b m → (hidT s1.heap H).Ns b m := by
      rintro b m ⟨o, es, ep, e, d, r⟩
      exact ⟨o, es, ep, hidT_get e (inB e d), d, r⟩
    have KB : K.In (hidT s1.heap H) := by
      intro b o e
      refine hidT_get (KX b o e) ?_
      by_cases hba : b = a
      · rw [hba] at e ⊢
        exact hK o e
      · exact off b hba
    have lim : (hidT s1.heap H).NoLimit := by
      obtain ⟨mc, h1, h2⟩ := hlim
      exact ⟨mc, nsB h1, h2⟩
    have e0 : Env0 P w K mg (hidT s1.heap H) callerA [] s1 H :=
      { frames := rfl, mod := ⟨KB, nsB hns, ⟨mb, nsB hb, hbb⟩, lim⟩, bs := fun b o e => of_hidT e, bsz := Nat.le_of_eq (hidT_size _ _), funs := trivial, frf := (fun b z => nomatch z), hok := hok, bare := .of_eq hg }
    refine codeAny_mono ((F _ KB (nsB hns) (hmods.imp fun _ z => nsB z)).run callerA [] s1 H ⟨[.ref a], []⟩ [.ref a] [.ref a] _ _ rfl hr e0 (hbind s1 (.ref a)) (.cons rfl .nil) (hsp H only seq)) ?_
    intro r s' z
    match r, z with
    | .error e, z => exact (hCX H e s' z).elim
    | .ok .next, z => exact False.elim z
    | .ok .brk, z => exact False.elim z
    | .ok .cont, z => exact False.elim z
    | .ok (.ret u), z =>
      obtain ⟨v, H', os, bare, un, hok', ru, qv⟩ := z
      cases (show v = V.bl true from qv)
      cases (show u = Value.bool true from ru)
      refine ⟨rfl, OldK.of_keep ?_, os, bare⟩
      intro b o e
      cases q : H b with
      | none => exact un.keep b o e q (fun z => (nomatch z)) (fun z => (nomatch z))
      | some u =>
        cases only b with
        | inl z => rw [q] at z; cases z
        | inr z =>
          obtain ⟨ob, xs, z⟩ := z
          have h1 := (hok b _ z).1
          have h2 := (hok' b _ (un.frzs b ob _ z)).1
          rw [e] at h1
          cases h1
          exact h2
  cases hk : K.lookup a with
  | some o =>
    have e := KX a o hk
    rw [ha] at e
    cases e
    exact main (fun _ => none) (fun _ => Or.inl rfl) (Or.inr ⟨_, vs.toArray, _, hk, rfl, rfl, rfl, by rw [List.size_toArray, hi.length]; exact hl, by simpa using rv⟩) (fun b u z => nomatch z) (fun b _ => rfl) (fun _ _ => rfl)
  | none =>
    have at_a : hpS a vs ns a = some (.frz { cls := .type "list", data := .seq vs.toArray } (.lst (ns.map V.int))) := if_pos rfl
    have off_a : ∀ b, b ≠ a → hpS a vs ns b = none := fun b z => if_neg z
    refine main (hpS a vs ns) (fun b => ?_) (Or.inl (Or.inr ⟨_, at_a⟩)) (fun b u z => ?_) off_a (fun o z => ?_)
    · by_cases hba : b = a
      · exact Or.inr ⟨_, _, by rw [hba]; exact at_a⟩
      · exact Or.inl (off_a b hba)
    · by_cases hba : b = a
      · rw [hba] at z ⊢
        rw [at_a] at z
        cases z
        exact ⟨ha, by rw [List.length_map]; exact hl, vs, _, rv, ha⟩
      · rw [off_a b hba] at z
        cases z
    · rw [hk] at z
      cases z
/-- the goal that k_head leaves, from the promise of a law's def that leans on no guard; the script's bits are told -/
theorem walk_g {l : PySem.W.OpenLaw} {n k : Nat} {q : Program} {loose : List Str} {XP : (Str → Option Value) → Heap → Prop} {YP : World → Heap → Prop} {d : DefRec} {K : Params → PySem.W.Frag} {CX : World → CXT} {sp : World → Sp} {x : Str}
    (hn : l.most = some n) (hq : importsNone q = true) (hn2 : n ≤ sizeLine) (hdf : d.params.defaults = []) (hr : Room k callerA) (hY : ∀ (w : World) (h : Heap), YP w h → (K w.params).In h)
    (F : ∀ (w : World) (mg : Str → Option Value) (fa : Addr) (h : Heap), (K w.params).In h → h.Ns mainGlobals mg → mg d.name = some (.ref fa) →
      ∃ fd : FuncData, (∀ (s : Shared) (u : Value), BindsTo s fd ⟨[u], []⟩ [(x, u)]) ∧ ∀ base : Heap, (K w.params).In base → base.Ns mainGlobals mg → (∃ mm, base.Ns sysModules mm) → GFn l.prog w (K w.params) mg base (CX w) k fa fd [x] (sp w))
    (hsp : ∀ (w : World) (H : Hp) (a : Addr) (ns : List Int), ns.length ≤ n → (∀ z ∈ ns, Builtin.Int.intBits z ≤ 1048576) → Only H → SqL (K w.params) H a (ns.map V.int) → sp w [.ref a] H (fun v _ => v = .bl true) fun _ _ _ => False)
    (hCX : ∀ (w : World) (H : Hp) (s : Shared) (e : Value) (s' : Shared), CX w [] H s (fun _ _ _ => False) e s' → False) :
    PySem.W.WalkO q loose XP YP l.row.toRowW d [] (fun f vs => PySem.call f vs) := by
  refine Att.attach_callB hn hdf ?_
  intro w s0 s1 mg mb fa o pm cd doc a vs ns G Y _ _ _ hmg hobj hints hlen hbits hg
  obtain ⟨fd, hb, hF⟩ := F w mg fa _ (hY w _ Y) G.T.g hmg
  exact end_g (hY w _ Y) G.T.g G.T.b G.T.builtins G.T.nolimit hg hobj hints (Nat.le_trans hlen hn2) hr ((G.T.seer hq).mods.imp fun _ z => z.1) hF hb (fun H h1 h2 => hsp w H a ns hlen hbits h1 h2) (fun H e s' => hCX w H s1 e s')
/-- the same where the promise hangs on the written part alone -/
theorem walk_gK {l : PySem.W.OpenLaw} {n k : Nat} {q : Program} {loose : List Str} {XP : (Str → Option Value) → Heap → Prop} {YP : World → Heap → Prop} {d : DefRec} {K : Params → PySem.W.Frag} {CX : CXT} {sp : PySem.W.Frag → Sp} {x : Str}
    (hn : l.most = some n) (hq : importsNone q = true) (hn2 : n ≤ sizeLine) (hdf : d.params.defaults = []) (hr : Room k callerA) (hY : ∀ (w : World) (h : Heap), YP w h → (K w.params).In h)
    (F : ∀ (w : World) (mg : Str → Option Value) (fa : Addr) (h : Heap), (K w.params).In h → h.Ns mainGlobals mg → mg d.name = some (.ref fa) →
      ∃ fd : FuncData, (∀ (s : Shared) (u : Value), BindsTo s fd ⟨[u], []⟩ [(x, u)]) ∧ ∀ base : Heap, (K w.params).In base → base.Ns mainGlobals mg → (∃ mm, base.Ns sysModules mm) → GFn l.prog w (K w.params) mg base CX k fa fd [x] (sp (K w.params)))
    (hsp : ∀ (K : PySem.W.Frag) (H : Hp) (a : Addr) (ns : List Int), ns.length ≤ n → (∀ z ∈ ns, Builtin.Int.intBits z ≤ 1048576) → Only H → SqL K H a (ns.map V.int) → sp K [.ref a] H (fun v _ => v = .bl true) fun _ _ _ => False)
    (hCX : ∀ (H : Hp) (s : Shared) (e : Value) (s' : Shared), CX [] H s (fun _ _ _ => False) e s' → False) :
    PySem.W.WalkO q loose XP YP l.row.toRowW d [] (fun f vs => PySem.call f vs) :=
  walk_g (K := K) (CX := fun _ => CX) (sp := fun w => sp (K w.params)) hn hq hn2 hdf hr hY F (fun w H a ns h1 h2 h3 h4 => hsp (K w.params) H a ns h1 h2 h3 h4) fun _ H s e s' => hCX H s e s'
end Ct

set_option Elab.async false
set_option linter.all false
set_option maxRecDepth 100000
set_option maxHeartbeats 2000000
/-! Own kit B: data of any depth with dicts, read off the abstract heap; repr; great powers. -/
namespace Ct
open PySem PySem.Spec L2
def keyD : Key → PyData
  | .inl i => .int i
  | .inr x => .str x
mutual
/-- the value v is the datum d (lists, tuples, dicts with ints and texts or tuples of such as keys) -/
inductive Dq (K : PySem.W.Frag) (H : Hp) : V → PyData → Prop
  | non : Dq K H .non .none
  | bl (b : Bool) : Dq K H (.bl b) (.bool b)
  | int (i : Int) : Dq K H (.int i) (.int i)
  | str (x : Str) : Dq K H (.str x) (.str x)
  | lst {a : Addr} {xs : List V} {ds : List PyData} : SqL K H a xs → DqAll K H xs ds → Dq K H (.ref a) (.list ds)
  | tup {a : Addr} {xs : List V} {ds : List PyData} : SqT K H a xs → DqAll K H xs ds → Dq K H (.ref a) (.tuple ds)
  | dic {a : Addr} {kvs : List (Key × V)} {vs : List PyData} {ps : List (PyData × PyData)} : Rd H a (.dK kvs) → ps.map (·.1) = kvs.map (fun p => keyD p.1) → vs = ps.map (·.2) → DqAll K H (kvs.map (·.2)) vs → Dq K H (.ref a) (.dict ps)
  | dicT {a : Addr} {kvs : List (List Key × V)} {vs : List PyData} {ps : List (PyData × PyData)} : Rd H a (.dT kvs) → ps.map (·.1) = kvs.map (fun p => .tuple (p.1.map keyD)) → vs = ps.map (·.2) → DqAll K H (kvs.map (·.2)) vs → Dq K H (.ref a) (.dict ps)
inductive DqAll (K : PySem.W.Frag) (H : Hp) : List V → List PyData → Prop
  | nil : DqAll K H [] []
  | cons {v : V} {vs : List V} {d : PyData} {ds : List PyData} : Dq K H v d → DqAll K H vs ds → DqAll K H (v :: vs) (d :: ds)
end
section
variable {X : Cx} {pins : List (Addr × Obj)} {σ : L2.St} {H : Hp} {s : Shared}
theorem reads_key {h : Heap} : ∀ {k : Key} {u : Value}, RelV (kV k) u → Reads h u (keyD k) []
  | .inl i, u, r => by obtain ⟨t, rfl⟩ := r; exact .int i t
  | .inr x, u, r => by obtain ⟨t, rfl⟩ := r; exact .str x t
theorem reads_keys {h : Heap} : ∀ {ks : List Key} {us : List Value}, Vals (ks.map kV) us → ReadsAll h us (ks.map keyD) []
  | [], _, .nil => .nil
  | _ :: _, _, .cons r t => .cons (reads_key r) (reads_keys t)
theorem readsAll_cons0 {h : Heap} {v : Value} {vs : List Value} {d : PyData} {ds : List PyData} (a : Reads h v d []) (b : ReadsAll h vs ds []) : ReadsAll h (v :: vs) (d :: ds) [] := .cons a b
/-- the keys of a dict whose keys are ints and texts; its values -/
theorem kv_keys {prog : Program} {w : World} {h : Heap} : ∀ {kvs : List (Key × V)} {vs : List (Key × Value)} {es : List DictEntry}, KV kvs vs → Pairs (mixKind prog w) es vs →
    ReadsAll h (es.map (·.key)) (kvs.map fun p => keyD p.1) [] ∧ Vals (kvs.map (·.2)) (es.map (·.val))
  | [], _, _, .nil, .nil => ⟨.nil, .nil⟩
  | _ :: _, _, _, .cons r t, .cons e3 e4 u => by
    obtain ⟨h1, h2⟩ := kv_keys (h := h) t u
    obtain ⟨e1, e2⟩ := r
    have e3 := (mixKind_is prog w _ _).symm.trans e3
    refine ⟨readsAll_cons0 ?_ h1, .cons ?_ h2⟩
    · rcases keyIs_shape e3 with ⟨i, tk, z1, z2⟩ | ⟨x, tk, z1, z2⟩
      · dsimp only; rw [z2, e1, z1]; exact .int i tk
      · dsimp only; rw [z2, e1, z1]; exact .str x tk
    · dsimp only; rw [e4]; exact e2
/-- the start-up's table of modules stands in the base -/
def SysB (base : Heap) : Prop := ∃ mm, base.Ns sysModules mm
theorem sys_free (I : Inv X pins σ H s) (S : SysB X.base) {a : Addr} {o : HO} (e : H a = some o) : a ≠ sysModules := by
  obtain ⟨mm, ob, es, ep, h1, _⟩ := S
  intro z
  rw [z, (I.bs _ _ h1).2] at e
  cases e
theorem sys_seq (I : Inv X pins σ H s) (S : SysB X.base) {a : Addr} {o : Obj} {its : Array Value} {n : Nat} (e : s.heap.get? a = some o) (d : o.data = .seq its n) : a ≠ sysModules := by
  obtain ⟨mm, ob, es, ep, h1, h2, _⟩ := S
  intro z
  rw [z, I.bk _ _ h1] at e
  cases e
  rw [h2] at d
  cases d
theorem keysT {Hh : Hp} (hok : HOk X.prog X.w H s.heap) : ∀ {kvs : List (List Key × V)} {xs : List (List Key × Addr × Value)},
    Paired (fun (p : List Key × V) (q : List Key × Addr × Value) => p.1 = q.1 ∧ H q.2.1 = some (.tup (p.1.map kV)) ∧ RelV p.2 q.2.2) kvs xs →
    ReadsAll s.heap ((xs.map (entryOfKey (tupleKind (mixKind X.prog X.w)))).map (·.key)) (kvs.map fun p => .tuple (p.1.map keyD)) [] ∧ Vals (kvs.map (·.2)) ((xs.map (entryOfKey (tupleKind (mixKind X.prog X.w)))).map (·.val))
  | [], _, .nil => ⟨.nil, .nil⟩
  | _ :: _, _, .cons r t => by
    obtain ⟨h1, h2⟩ := keysT (Hh := Hh) hok t
    obtain ⟨e1, e2, e3⟩ := r
    obtain ⟨_, its, rv, o, ho, hc, n, hd⟩ := hok _ _ e2
    exact ⟨readsAll_cons0 (.tuple ho hc hd (by simpa using reads_keys rv)) h1, .cons e3 h2⟩
mutual
theorem Dq.reads (I : Inv X pins σ H s) (S : SysB X.base) : ∀ {v : V} {d : PyData} {u : Value}, Dq X.K H v d → RelV v u → ∃ as, Reads s.heap u d as ∧ sysModules ∉ as
  | _, _, _, .non, r => by cases r; exact ⟨_, .none, by simp⟩
  | _, _, _, .bl b, r => by cases r; exact ⟨_, .bool b, by simp⟩
  | _, _, _, .int i, r => by obtain ⟨t, rfl⟩ := r; exact ⟨_, .int i t, by simp⟩
  | _, _, _, .str x, r => by obtain ⟨t, rfl⟩ := r; exact ⟨_, .str x t, by simp⟩
  | _, _, _, .lst hs ha, r => by
    cases r
    obtain ⟨its, rv, ⟨o, n, ho, hc, _, hd⟩, _⟩ := I.list hs
    obtain ⟨as, hr, hn⟩ := DqAll.reads I S ha rv
    exact ⟨_, .list ho hc hd hr, fun z => (List.mem_cons.mp z).elim (fun e => sys_seq I S ho hd e.symm) hn⟩
  | _, _, _, .tup hs ha, r => by
    cases r
    obtain ⟨its, rv, ⟨o, ho, hc, n, hd⟩, _⟩ := I.tuple hs
    obtain ⟨as, hr, hn⟩ := DqAll.reads I S ha rv
    exact ⟨_, .tuple ho hc hd hr, hn⟩
  | _, _, _, .dic hs hk hv ha, r => by
    cases r
    obtain ⟨_, hy, vs, rkv, o, es, ep, ho, hx, hd, _, hp, _⟩ := hs.ok I.hok
    obtain ⟨h1, h2⟩ := kv_keys (h := s.heap) rkv hp
    obtain ⟨as, hr, hn⟩ := DqAll.reads I S ha h2
    subst hv
    refine ⟨_, .dict ho hx.1 hd (by rw [hk]; exact h1) hr, fun z => ?_⟩
    rcases List.mem_cons.mp z with e | z
    · exact (beq_eq_false_iff_ne.mp hy) e.symm
    · exact hn (by simpa using z)
  | _, _, _, .dicT hs hk hv ha, r => by
    cases r
    obtain ⟨_, hy, xs, rp, o, es, ep, ho, hx, hd, he, _⟩ := hs.ok I.hok
    obtain ⟨h1, h2⟩ := keysT (Hh := H) I.hok rp
    rw [← he] at h1 h2
    obtain ⟨as, hr, hn⟩ := DqAll.reads I S ha h2
    subst hv
    refine ⟨_, .dict ho hx.1 hd (by rw [hk]; exact h1) hr, fun z => ?_⟩
    rcases List.mem_cons.mp z with e | z
    · exact (beq_eq_false_iff_ne.mp hy) e.symm
    · exact hn (by simpa using z)
theorem DqAll.reads (I : Inv X pins σ H s) (S : SysB X.base) : ∀ {vs : List V} {ds : List PyData} {us : List Value}, DqAll X.K H vs ds → Vals vs us → ∃ as, ReadsAll s.heap us ds as ∧ sysModules ∉ as
  | _, _, _, .nil, .nil => ⟨_, .nil, by simp⟩
  | _, _, _, .cons h1 h2, .cons r1 r2 => by
    obtain ⟨as, q1, n1⟩ := Dq.reads I S h1 r1
    obtain ⟨bs, q2, n2⟩ := DqAll.reads I S h2 r2
    exact ⟨_, .cons q1 q2, fun z => (List.mem_append.mp z).elim n1 n2⟩
end
end
/-- repr of a datum that stands at an address -/
def rRep (K : PySem.W.Frag) : List V → Hp → VK → Prop := fun xs H Q => ∃ (a : Addr) (d : PyData), xs = [.ref a] ∧ Dq K H (.ref a) d ∧ d.showable = true ∧ d.depth ≤ 60 ∧ d.shown.length ≤ sizeLine ∧ Q (.str d.shown) H
theorem call_rep {X : Cx} (g : X.A.guards = some []) (S : SysB X.base) (hu : X.A.units + 64 < cLine) : CallR X (.builtin "repr") (rRep X.K) := by
  intro pins s σ H xs us Q I r h
  obtain ⟨a, d, rfl, hd, hs, hp, hz, q⟩ := h
  obtain ⟨u, rfl, ru⟩ := vals1 r
  cases (show u = Value.ref a from ru)
  obtain ⟨as, hr, hn⟩ := Dq.reads I S hd rfl
  refine repr_of_reads' hr hs (fun _ => hn) g (by omega) (fun _ _ e => e) (fun h' u tk k => ?_) hz
  exact ⟨.str d.shown, H, I.kept k, ⟨_, rfl⟩, q⟩
/-- a power of a great int, the exponent written -/
def CPowW (i j : Int) : Prop := 0 ≤ j ∧ (Builtin.Int.intBits i : Int) * j ≤ 2 ^ 27
theorem op_powW {X : Cx} : OpR X (binaryOp .Pow) (rI CPowW fun i j => .int (i ^ j.toNat)) := opI fun _ _ _ _ _ _ _ hc q => PyProof.Rows.pow_int hc.1 hc.2 q
end Ct

set_option Elab.async false
set_option linter.all false
set_option maxRecDepth 100000
set_option maxHeartbeats 4000000
/-! Own kit C: exceptions of own classes (an __init__ of their own) as values: made by place and by name, their fields read, isinstance. -/
namespace PySem
namespace CtX
open PySem.W PySem.Calls PyProof.Rows PySem.HandSPX
section
variable {M : Model} {A : Around} {E : Value → Shared → Prop} {h : Heap} {g : Array GenState} {d : Drawn} {t : Nat} {os : OsState}
variable {nm q : Str} {C N : Addr} {bs bm bmB : List Value} {hdct : Bool} {sn : List Str} {sub : List Value} {ab : Bool} {col : Option Bool} {dd : Option Addr} {k0 k1 k2 k3 k5 : Option Value} {B newId initId : String} {kw : List (Str × Value)}
theorem kw_new_check (F : ExcBaseFacts B newId initId bmB) (hT : ∀ X : String, bm.contains (.type X) = bmB.contains (.type X)) {Q : Unit → Shared → Prop}
    (hC : h.get? C = some (excClassObj nm q C N bs bm hdct sn sub ab col dd k0 k1 k2 k3 k5 newId)) (hq : Q () ⟨h, g, d, t, os⟩) :
    wpAny M A (checkBuiltinCall newId ⟨[.ref C], kw⟩) Q E ⟨h, g, d, t, os⟩ := by
  have hc : (Value.ref C :: bm).contains (.type B) = true := by rw [List.contains_cons, hT, F.hasB, Bool.or_true]
  have hst := F.noStar
  simp only [checkBuiltinCall, F.newKind, F.newSplit, F.newRow]
  repeat (first
    | refine wpAny_loadPart_at hC ?_
    | (refine wpAny_isSubtype_exc hC ?_; rw [hc])
    | refine wpAny_staticBase_exc hC ?_
    | refine wpAny_madeBy_exc hC ?_
    | simp only [bne_self_eq_false, Bool.false_eq_true, if_false]
    | wp_step)
  exact hq
end
section
variable {prog : Program} {w : World} {A : Around} {E : Value → Shared → Prop} {R : Result → Shared → Prop} {h : Heap} {g : Array GenState} {d : Drawn} {t : Nat} {os : OsState}
variable {nm q : Str} {C N : Addr} {bs bm bmB : List Value} {hdct : Bool} {sn : List Str} {sub : List Value} {ab : Bool} {col : Option Bool} {dd : Option Addr} {k0 k1 k2 k3 k5 : Option Value} {B newId initId : String} {kw : List (Str × Value)}
theorem kw_new (F : ExcBaseFacts B newId initId bmB) (hT : ∀ X : String, bm.contains (.type X) = bmB.contains (.type X)) (hC : h.get? C = some (excClassObj nm q C N bs bm hdct sn sub ab col dd k0 k1 k2 k3 k5 newId))
    (hq : R (.ok (.ret (.ref (h.objs.size + 1)))) ⟨(h.push (W.kdv_tup [])).push (excO C h.objs.size), g, d, t, os⟩) :
    codeAny (model prog w) A (.builtin newId ⟨[.ref C], kw⟩) R ⟨h, g, d, t, os⟩ := by
  have he := F.ends
  have c1 : (Value.ref C :: bm).contains (.type B) = true := by rw [List.contains_cons, hT, F.hasB, Bool.or_true]
  have c2 : (Value.ref C :: bm).contains (.type "AttributeError") = false := by rw [List.contains_cons, hT, F.noAttr]; rfl
  have c3 : (Value.ref C :: bm).contains (.type "NameError") = false := by rw [List.contains_cons, hT, F.noName]; rfl
  refine codeAny_builtinAt F.entry ?_
  unfold Builtin.«BaseException.__new__»
  refine wpAt_bind ?_
  show wpAt _ _ _ (stack >>= _) _ _ _
  refine wpAt_bind (wpAt_stack fun p below => wpAt_of_wpAny ?_)
  wp_walk
  refine wpAt_of_wpAny ?_
  rw [F.owner]
  repeat (first
    | with_reducible refine wpAny_madeHere_exc F.canon hC ?_
    | with_reducible refine wpAny_loadPart_at hC ?_
    | (with_reducible refine wpAny_isSubtype_exc hC ?_; first | rw [c1] | rw [c2] | rw [c3])
    | wp_step)
  show R _ _
  rw [Heap.size_push]
  exact hq
theorem kw_type_call (F : ExcBaseFacts B newId initId bmB) (hT : ∀ X : String, bm.contains (.type X) = bmB.contains (.type X)) {fI : Addr} {Q : Fin → Shared → Prop}
    (hC : h.get? C = some (excClassObj nm q C N bs bm hdct sn sub ab col dd k0 k1 k2 k3 k5 newId))
    (hi : W.Looks (model prog w) h (typeLookup (.ref C) "__init__") (some (.ref fI))) (hb : ∀ self, W.Looks (model prog w) h (bindSpecial (.ref fI) self) (.ref fI, [self]))
    (hq : codeAny (model prog w) A (.call (.ref fI) ⟨[.ref (h.objs.size + 1)], kw⟩)
      (fun r s' => match r with | .ok (.ret v) => v = .none ∧ Q (.done (.ret (.ref (h.objs.size + 1)))) s' | .ok _ => False | .error e => E e s')
      ⟨(h.push (W.kdv_tup [])).push (excO C h.objs.size), g, d, t, os⟩) :
    wpAny (model prog w) A (Builtin.«type.__call__» ⟨[.ref C], kw⟩) Q E ⟨h, g, d, t, os⟩ := by
  repeat (first | with_reducible refine wpAny_loadPart_at hC ?_ | with_reducible refine wpAny_madeBy_exc hC ?_ | wp_step)
  refine codeAny_call_builtin_code (Code.quiet_builtin _ F.quiet) (kw_new_check F hT hC ?_)
  refine kw_new F hT hC ?_
  show wpAny _ _ _ _ _ _
  have k : ∀ b o, h.get? b = some o → ((h.push (W.kdv_tup [])).push (excO C h.objs.size)).get? b = some o := fun b o e => Heap.get?_push_of_some _ (Heap.get?_push_of_some _ e)
  have hC1 := k _ _ hC
  have hnew : ((h.push (W.kdv_tup [])).push (excO C h.objs.size)).get? (h.objs.size + 1) = some (excO C h.objs.size) := by heap_get
  have hself : (Value.ref C :: bm).contains (.ref C) = true := by simp
  have i1 := hi.keeps k
  have b1 := (hb (.ref (h.objs.size + 1))).keeps k
  unfold isInstance
  repeat (first | with_reducible refine wpAny_loadPart_at hnew ?_ | (with_reducible refine wpAny_isSubtype_exc hC1 ?_; rw [hself]) | wp_step)
  show wpAny _ _ (typeLookup (.ref C) _) _ _ _
  refine i1.at (wpAny_holding (wpAny_bind (b1.at (wpAny_bind (wpAny_call (codeAny_mono hq ?_))))))
  intro r s' z
  rcases r with e | (v | _ | _ | _)
  · exact z
  all_goals first | exact z.elim | skip
  obtain ⟨rfl, z⟩ := z
  first
    | exact wpAny_pure (wpAny_pure z)
    | (wp_walk; exact z)
theorem kw_call (F : ExcBaseFacts B newId initId bmB) (hT : ∀ X : String, bm.contains (.type X) = bmB.contains (.type X)) {fI : Addr}
    (hC : h.get? C = some (excClassObj nm q C N bs bm hdct sn sub ab col dd k0 k1 k2 k3 k5 newId))
    (hi : W.Looks (model prog w) h (typeLookup (.ref C) "__init__") (some (.ref fI))) (hb : ∀ self, W.Looks (model prog w) h (bindSpecial (.ref fI) self) (.ref fI, [self]))
    (hq : codeAny (model prog w) (A.under (.builtin "type.__call__" ⟨[.ref C], kw⟩)) (.call (.ref fI) ⟨[.ref (h.objs.size + 1)], kw⟩) (W.InitBack (h.objs.size + 1) R)
      ⟨(h.push (W.kdv_tup [])).push (excO C h.objs.size), g, d, t, os⟩) :
    codeAny (model prog w) A (.call (.ref C) ⟨[], kw⟩) R ⟨h, g, d, t, os⟩ := by
  have f1 := tc_lookup
  have f2 := tc_bind (.ref C)
  have ty : (⟨h, g, d, t, os⟩ : Shared).TypeIs (.ref C) "type" := ⟨_, hC, rfl⟩
  refine codeAny_of_tree ?_
  show wpAny _ _ (callAny (.ref C) _) _ _ _
  repeat (any_goals (first | assumption | with_reducible refine wpAny_loadPart_at hC ?_ | wp_step))
  refine ⟨rfl, ?_⟩
  refine codeAny_call_builtin_at (Code.quiet_builtin _ (by decide +kernel)) entry_typeCall (wpAny_check_type_call_sub hC (kw_type_call F hT hC hi hb ?_))
  refine codeAny_mono hq fun r s' z => ?_
  rcases r with e | (v | _ | _ | _) <;> exact z
end
end CtX
end PySem
namespace Ct
open PySem PySem.Spec L2
/-- what the walk asks of an exception class of one's own at C, its __init__ at fI -/
structure XCls (K : PySem.W.Frag) (C fI : Addr) : Prop where
  ox : OexC K C
  xe : ExcC K C
  iC : PySem.W.findIn K (.ref C) "__init__" = some (some (.ref fI))
  tI : PySem.W.typeIn K (.ref fI) = some (.type "function")
/-- the heap behind C(v): the exception at a, its dict at d with the one field -/
def mkH (H : Hp) (a d C : Addr) (f : Str) (v : V) : Hp := upd (upd H d (exd d [(f, v)])) a (exo a C (some d))
/-- what __init__(self, f): self.f = f promises -/
def spXI (C : Addr) (f : Str) : Sp := fun vs H Q _ => ∃ (a : Addr) (v : V), vs = [.ref a, v] ∧ H a = some (exo a C none) ∧ ∀ d, H d = none → d ≠ a → Q .non (mkH H a d C f v)
theorem mkH_new {H : Hp} {a d C : Addr} {f : Str} {v : V} {o : HO} : mkH (upd H a o) a d C f v = mkH H a d C f v := by
  funext b
  unfold mkH
  by_cases hb : b = a
  · rw [hb, upd_same, upd_same]
  · rw [upd_ne hb, upd_ne hb]
    by_cases hd : b = d
    · rw [hd, upd_same, upd_same]
    · rw [upd_ne hd, upd_ne hd, upd_ne hb]
/-- C(e), C(f=e): a new exception -/
def tMkX (C : Addr) (f : Str) (te : TE) : TE := fun σ H Q => te σ H fun v H1 => ∀ a d, H1 a = none → H1 d = none → d ≠ a → Q (.ref a) (mkH H1 a d C f v)
section
variable {X : Cx} {k : Nat} {C fI : Addr} {fd : FuncData} {x f pn : Str} {p pos kp : Pos} {e : Expr} {te : TE}
theorem run_mkX {pins : List (Addr × Obj)} {σ : L2.St} {H : Hp} {s : Shared} {Q : VK} {u : Value} {v : V} {pos kwn : Bool} (T : XCls X.K C fI) (F : FnOk X.prog X.w X.K X.mg X.base CX0 k fI fd ["self", pn] (spXI C f)) (hr : Room (k + 1) X.A)
    (hb : ∀ (s : Shared) (a w : Value), BindsTo s fd ⟨[a, w], []⟩ [("self", a), (pn, w)]) (I : Inv X pins σ H s) (r : RelV v u) (h : ∀ a d, H a = none → H d = none → d ≠ a → Q (.ref a) (mkH H a d C f v)) :
    wpAny (model X.prog X.w) X.A (call (.ref C) [u]) (EP X pins σ Q) X.xe s := by
  obtain ⟨nm, q, N, bs, bm, sn, sub, ab, col, dd, k0, k1, k2, k3, k5, hC, hbm⟩ := T.ox.cls
  obtain ⟨hp, g, dr, tk, os⟩ := s
  have kk : ∀ b o, hp.get? b = some o → ((hp.push (PySem.W.kdv_tup [u])).push (PySem.HandSPX.excO C hp.objs.size)).get? b = some o := fun b o e => Heap.get?_push_of_some _ (Heap.get?_push_of_some _ e)
  have hget : ((hp.push (PySem.W.kdv_tup [u])).push (PySem.HandSPX.excO C hp.objs.size)).get? (hp.objs.size + 1) = some (PySem.HandSPX.excO C hp.objs.size) := by heap_get
  have I2 : Inv X pins σ (upd H (hp.objs.size + 1) (exo (hp.objs.size + 1) C none)) ⟨(hp.push (PySem.W.kdv_tup [u])).push (PySem.HandSPX.excO C hp.objs.size), g, dr, tk, os⟩ :=
    I.laid (t' := tk) kk (Nat.le_succ _) (exo_ok hget)
  have hn : H (hp.objs.size + 1) = none := I.hok.fresh (Nat.le_succ _)
  have hq : spXI C f [.ref (hp.objs.size + 1), v] (upd H (hp.objs.size + 1) (exo (hp.objs.size + 1) C none)) (fun z H2 => z = .non ∧ Q (.ref (hp.objs.size + 1)) H2) E0 := by
    refine ⟨_, v, rfl, upd_same, fun d hd hne => ⟨rfl, ?_⟩⟩
    rw [mkH_new]
    rw [upd_ne hne] at hd
    exact h _ d hn hd hne
  have rr : Vals [V.ref (hp.objs.size + 1), v] [Value.ref (hp.objs.size + 1), u] := .cons rfl (.cons r .nil)
  refine wpAny_call (PySem.HandSPX.call_own PySem.F.excBase_ValueError (fun Y => PySem.HandSPX.refsVE_contains Y bm hbm) (I.kIn _ _ hC) (PySem.W.looks_findIn I.kIn T.iC) (fun self => PySem.W.bind_fn I.kIn self T.tI) (by show 1 ≤ sizeLine; decide)
    (codeAny_mono (F.run _ X.stack _ _ ⟨[.ref (hp.objs.size + 1), u], []⟩ [.ref (hp.objs.size + 1), u] _ _ _ (hr.make C [u] []) (I2.env0.make C [u] []) (hb _ _ _) rr hq) ?_))
  intro r s' z
  match r, z with
  | .error er, z => exact False.elim z
  | .ok .next, z => exact False.elim z
  | .ok .brk, z => exact False.elim z
  | .ok .cont, z => exact False.elim z
  | .ok (.ret u), z =>
    obtain ⟨v', H', I3, rv, ev, q3⟩ := I2.after z
    subst ev
    exact ⟨rv, .ref (hp.objs.size + 1), H', I3, rfl, q3⟩
theorem run_mkXk {pins : List (Addr × Obj)} {σ : L2.St} {H : Hp} {s : Shared} {Q : VK} {u : Value} {v : V} {kn : Str} (T : XCls X.K C fI) (F : FnOk X.prog X.w X.K X.mg X.base CX0 k fI fd ["self", pn] (spXI C f)) (hr : Room (k + 1) X.A)
    (hb : ∀ (s : Shared) (a w : Value), BindsTo s fd ⟨[a], [(kn, w)]⟩ [("self", a), (pn, w)]) (I : Inv X pins σ H s) (r : RelV v u) (h : ∀ a d, H a = none → H d = none → d ≠ a → Q (.ref a) (mkH H a d C f v)) :
    wpAny (model X.prog X.w) X.A (call (.ref C) [] [(kn, u)]) (EP X pins σ Q) X.xe s := by
  obtain ⟨nm, q, N, bs, bm, sn, sub, ab, col, dd, k0, k1, k2, k3, k5, hC, hbm⟩ := T.ox.cls
  obtain ⟨hp, g, dr, tk, os⟩ := s
  have kk : ∀ b o, hp.get? b = some o → ((hp.push (PySem.W.kdv_tup [])).push (PySem.HandSPX.excO C hp.objs.size)).get? b = some o := fun b o e => Heap.get?_push_of_some _ (Heap.get?_push_of_some _ e)
  have hget : ((hp.push (PySem.W.kdv_tup [])).push (PySem.HandSPX.excO C hp.objs.size)).get? (hp.objs.size + 1) = some (PySem.HandSPX.excO C hp.objs.size) := by heap_get
  have I2 : Inv X pins σ (upd H (hp.objs.size + 1) (exo (hp.objs.size + 1) C none)) ⟨(hp.push (PySem.W.kdv_tup [])).push (PySem.HandSPX.excO C hp.objs.size), g, dr, tk, os⟩ :=
    I.laid (t' := tk) kk (Nat.le_succ _) (exo_ok hget)
  have hn : H (hp.objs.size + 1) = none := I.hok.fresh (Nat.le_succ _)
  have hq : spXI C f [.ref (hp.objs.size + 1), v] (upd H (hp.objs.size + 1) (exo (hp.objs.size + 1) C none)) (fun z H2 => z = .non ∧ Q (.ref (hp.objs.size + 1)) H2) E0 := by
    refine ⟨_, v, rfl, upd_same, fun d hd hne => ⟨rfl, ?_⟩⟩
    rw [mkH_new]
    rw [upd_ne hne] at hd
    exact h _ d hn hd hne
  have rr : Vals [V.ref (hp.objs.size + 1), v] [Value.ref (hp.objs.size + 1), u] := .cons rfl (.cons r .nil)
  refine wpAny_call (PySem.CtX.kw_call PySem.F.excBase_ValueError (fun Y => PySem.HandSPX.refsVE_contains Y bm hbm) (I.kIn _ _ hC) (PySem.W.looks_findIn I.kIn T.iC) (fun self => PySem.W.bind_fn I.kIn self T.tI)
    (codeAny_mono (F.run _ X.stack _ _ ⟨[.ref (hp.objs.size + 1)], [(kn, u)]⟩ [.ref (hp.objs.size + 1), u] _ _ _ (hr.make C [] [(kn, u)]) (I2.env0.make C [] [(kn, u)]) (hb _ _ _) rr hq) ?_))
  intro r s' z
  match r, z with
  | .error er, z => exact False.elim z
  | .ok .next, z => exact False.elim z
  | .ok .brk, z => exact False.elim z
  | .ok .cont, z => exact False.elim z
  | .ok (.ret u), z =>
    obtain ⟨v', H', I3, rv, ev, q3⟩ := I2.after z
    subst ev
    exact ⟨rv, .ref (hp.objs.size + 1), H', I3, rfl, q3⟩
theorem pe_mkX (T : XCls X.K C fI) (F : FnOk X.prog X.w X.K X.mg X.base CX0 k fI fd ["self", pn] (spXI C f)) (hr : Room (k + 1) X.A) (hb : ∀ (s : Shared) (a w : Value), BindsTo s fd ⟨[a, w], []⟩ [("self", a), (pn, w)])
    (hg : Gl X x) (hm : X.mg x = some (.ref C)) (he : PE X e te) (hdb : (x == ("__debug__" : Str)) = false := by decide) (hs : starEach [e] X.env = (false, eval e X.env) :: starEach [] X.env := by rfl) :
    PE X (.Call (.Name x p) [e] [] pos) (tMkX C f te) := by
  constructor
  intro pins s σ H Q I h
  refine wpAny_Call_Name_kw (ld_glob I hg hm ?_ hdb)
  refine PySem.W.callWith_K (h₀ := X.base) I.ok.mod.kin T.ox.kC ?_ hs (by rfl)
  rw [hs]
  show wpAny _ _ (spliced ((false, eval e X.env) :: backTo pos (starEach [] X.env))) _ _ s
  refine Calls.spliced_cons (thn (he.run pins s σ H _ I h) ?_)
  rintro u s1 ⟨v, H1, I1, r1, q1⟩
  exact Calls.spliced_nil ⟨I1.kIn, run_mkX (pos := true) (kwn := true) T F hr hb I1 r1 q1⟩
/-- C(f=e) -/
theorem pe_mkXk {kn : Str} (T : XCls X.K C fI) (F : FnOk X.prog X.w X.K X.mg X.base CX0 k fI fd ["self", pn] (spXI C f)) (hr : Room (k + 1) X.A) (hb : ∀ (s : Shared) (a w : Value), BindsTo s fd ⟨[a], [(kn, w)]⟩ [("self", a), (pn, w)])
    (hg : Gl X x) (hm : X.mg x = some (.ref C)) (he : PE X e te) (hdb : (x == ("__debug__" : Str)) = false := by decide) :
    PE X (.Call (.Name x p) [] [⟨some kn, e, kp⟩] pos) (tMkX C f te) := by
  constructor
  intro pins s σ H Q I h
  refine wpAny_Call_Name_kw (ld_glob I hg hm ?_ hdb)
  refine PySem.W.callWith_KW0 (h₀ := X.base) I.ok.mod.kin T.ox.kC (by rfl) ?_ (by rfl)
  have pk : PK X [⟨some kn, e, kp⟩] (tCons te tNil) := pk_cons he pk_nil
  refine thn (pk.run pos pins s σ H (fun vs H1 => ∃ v, vs = [v] ∧ ∀ a d, H1 a = none → H1 d = none → d ≠ a → Q (.ref a) (mkH H1 a d C f v)) I ?_) ?_
  · show te σ H _
    have mono : (fun v H1 => ∀ a d, H1 a = none → H1 d = none → d ≠ a → Q (.ref a) (mkH H1 a d C f v)) = fun (v : V) (H1 : Hp) => ∃ w, [v] = [w] ∧ ∀ a d, H1 a = none → H1 d = none → d ≠ a → Q (.ref a) (mkH H1 a d C f w) := by
      funext v H1
      refine propext ⟨fun z => ⟨v, rfl, z⟩, fun ⟨w, e, z⟩ => ?_⟩
      cases e
      exact z
    have h' := h
    unfold tMkX at h'
    rw [mono] at h'
    exact h'
  · rintro us s1 ⟨vs, H1, I1, r1, v, rfl, q1⟩
    obtain ⟨u, rfl, ru⟩ := vals1 r1
    exact ⟨I1.kIn, run_mkXk T F hr hb I1 ru q1⟩
/-- e.n of an exception -/
def tXF (K : PySem.W.Frag) (n : Str) (te : TE) : TE := fun σ H Q => te σ H fun x H1 => ∃ (a C d : Addr) (fs : List (Str × V)) (v : V), x = .ref a ∧ H1 a = some (exo a C (some d)) ∧ H1 d = some (exd d fs) ∧ ExcC K C ∧ PySem.W.findIn K (.ref C) n = some none ∧ fs.lookup n = some v ∧ Q v H1
theorem exo_inst {pins : List (Addr × Obj)} {σ : L2.St} {H : Hp} {s : Shared} {a d : Addr} {fs : List (Str × V)} (I : Inv X pins σ H s) (ea : H a = some (exo a C (some d))) (ed : H d = some (exd d fs)) :
    ∃ (ox od : Obj) (mA : Str → Option Value), PySem.W.InstAt s.heap a ox C (some od) ∧ (∀ name, PySem.W.lookIn name od = some (mA name)) ∧ ∀ f, RelO (fs.lookup f) (mA f) := by
  obtain ⟨t1, ho⟩ := exo_at I.hok ea
  obtain ⟨mA, hns, hr⟩ := exd_at I.hok ed
  obtain ⟨od, hod, hl⟩ := lookIn_ns hns
  exact ⟨_, od, mA, ⟨ho, rfl, rfl, hod⟩, hl, hr⟩
theorem pe_xF {n : Str} (he : PE X e te) (hb : attributeBase e n X.env (eval e X.env) = eval e X.env := by rfl) : PE X (.Attribute e n pos) (tXF X.K n te) := by
  constructor
  intro pins s σ H Q I h
  refine attr_of hb (thn (he.run pins s σ H _ I h) ?_)
  rintro u s1 ⟨x, H1, I1, rx, a, C, d, fs, v, ex, ea, ed, T, hno, l, q⟩
  subst ex
  cases (show u = Value.ref a from rx)
  obtain ⟨ox, od, mA, J, hl, hr⟩ := exo_inst I1 ea ed
  obtain ⟨u, hu, ru⟩ := RelO.some_of (v := v) (o := mA n) (by rw [← l]; exact hr n)
  exact PySem.HandSPX.exc_get I1.kIn J T.hg T.hk T.hs (PySem.W.findObj_own T.hd hno rfl (by rw [hl, hu])) (handed_of ru) ⟨v, H1, I1.tok _, ru, q⟩
/-- isinstance(x, c) of an exception: one class -/
def rIsX (K : PySem.W.Frag) : List V → Hp → VK → Prop := fun xs H Q => ∃ (a C d : Addr) (fs : List (Str × V)) (c : V) (cu : Value) (b : Bool), xs = [.ref a, c] ∧ H a = some (exo a C (some d)) ∧ H d = some (exd d fs) ∧ ExcC K C ∧ ClsV c cu ∧
  PySem.W.kitOne K (.ref C) cu = some b ∧ Q (.bl b) H
theorem call_isX : CallR X (.builtin "isinstance") (rIsX X.K) := by
  intro pins s σ H xs us Q I r h
  obtain ⟨a, C, d, fs, c, cu, b, rfl, ea, ed, T, kc, e, q⟩ := h
  obtain ⟨u1, u2, rfl, r1, r2⟩ := vals2 r
  cases (show u1 = Value.ref a from r1)
  have e2 := kc.eq r2
  subst e2
  obtain ⟨ox, od, mA, J, hl, hr⟩ := exo_inst I ea ed
  obtain ⟨cd, hcd, _⟩ := PySem.W.any_some T.hd
  exact PySem.W.kia_one (PySem.W.kitx_exc (by rw [hcd]; rfl) T.hg T.hk T.hs T.ha T.hn T.ht T.hm) I.kIn J e (fun z => (nomatch z)) fun tk => ⟨.bl b, H, I.tok tk, rfl, q⟩
end
end Ct

set_option Elab.async false
set_option linter.all false
set_option maxRecDepth 100000
set_option maxHeartbeats 2000000
/-! Own kit D: bundles (a def as the top has left it; a def that keeps its promise), calls by bundle. -/
namespace Ct
open PySem PySem.Spec PyProof.Rows L2
/-- a def of the text, as it stands behind the top -/
def DFE (K : PySem.W.Frag) (mg : Str → Option Value) (nm : Str) (st : Stmt) (ps : List Str) : Prop := ∃ f fd, Fun K nm nm st f fd ∧ mg nm = some (.ref f) ∧ Binds K fd ps []
/-- a def that keeps a promise -/
def Has (P : Program) (w : World) (K : PySem.W.Frag) (mg : Str → Option Value) (base : Heap) (CX : CXT) (k : Nat) (nm : Str) (ps : List Str) (sp : Sp) : Prop :=
  ∃ f fd, mg nm = some (.ref f) ∧ PySem.W.keepIn K (.ref f) = true ∧ Binds K fd ps [] ∧ FnOk P w K mg base CX k f fd ps sp
def HasG (P : Program) (w : World) (K : PySem.W.Frag) (mg : Str → Option Value) (base : Heap) (CX : CXT) (k : Nat) (nm : Str) (ps : List Str) (sp : Sp) : Prop :=
  ∃ f fd, mg nm = some (.ref f) ∧ PySem.W.keepIn K (.ref f) = true ∧ Binds K fd ps [] ∧ GFn P w K mg base CX k f fd ps sp
section
variable {P : Program} {w : World} {K : PySem.W.Frag} {mg : Str → Option Value} {base : Heap} {CX : CXT} {k : Nat} {nm : Str} {ps : List Str} {sp : Sp} {st : Stmt}
theorem dfe_mk {h : Heap} {f : Addr} {oc : Value} {od an : Option Addr} {osl : Array (Option Value)} {kV doc pm cdv ct : Value} (X : K.In h) (G : h.Ns mainGlobals mg) (a : PySem.W.nsIn K mainGlobals nm = some (some (.ref f)))
    (l : K.lookup f = some ⟨oc, od, .func (PySem.W.fnOf nm nm (defArgs st) (defBody st) (defScope st) .none kV doc pm an cdv ct), osl⟩) (c : PySem.W.codeIn K cdv nm = true) (kp : PySem.W.keepIn K (.ref f) = true)
    (b : ∀ (kV doc pm : Value) (an : Option Addr) (cdv ct : Value) (us : List Value), us.length = ps.length → bindArgs (PySem.W.fnOf nm nm (defArgs st) (defBody st) (defScope st) .none kV doc pm an cdv ct) ⟨us, []⟩ = pure (ps.zip us)) : DFE K mg nm st ps :=
  have F := fun_mk (st := st) l c kp
  ⟨f, _, F, PySem.W.mg_of X G a, F.binds b⟩
/-- THE RULE for a def by its bundle -/
theorem has_of {N : List Str} (D : DFE K mg nm st ps) (S : FnScope N ps (defScope st)) (len : ∀ vs H Q E, sp vs H Q E → vs.length = ps.length)
    (body : ∀ (f : Addr) (cdv : Value) (A : Around) (outer : List Env) (s : Shared) (H : Hp) (vs : List V) (Q : VK) (E : XK), Room k (A.deeper (envOfC nm (defScope st) s.heap.objs.size f cdv)) → sp vs H Q E →
      ∃ t, PSs (cxOf CX0 P w K mg base N nm (defScope st) f cdv A outer s H E).nox (defBody st) t ∧ t { nx := fun _ H' => Q .non H', rt := Q } (start N vs) H) : Has P w K mg base CX0 (k + 1) nm ps sp := by
  obtain ⟨f, fd, F, g, b⟩ := D
  exact ⟨f, fd, g, F.kp, b, F.ok S len (body f)⟩
theorem hasG_of {N : List Str} (D : DFE K mg nm st ps) (S : FnScope N ps (defScope st)) (len : ∀ vs H Q E, sp vs H Q E → vs.length = ps.length)
    (body : ∀ (f : Addr) (cdv : Value) (A : Around) (outer : List Env) (s : Shared) (H : Hp) (vs : List V) (Q : VK) (E : XK), A.guards = some [] → Room k (A.deeper (envOfC nm (defScope st) s.heap.objs.size f cdv)) → sp vs H Q E →
      ∃ t, PSs (cxOf CX0 P w K mg base N nm (defScope st) f cdv A outer s H E).nox (defBody st) t ∧ t { nx := fun _ H' => Q .non H', rt := Q } (start N vs) H) : HasG P w K mg base CX0 (k + 1) nm ps sp := by
  obtain ⟨f, fd, F, g, b⟩ := D
  refine ⟨f, fd, g, F.kp, b, gfn_of F S len (fun cdv A o s H vs Q E ga hr h => ?_)⟩
  obtain ⟨t, h1, h2⟩ := body f cdv A o s H vs Q E ga hr h
  exact ⟨t, h1.nox, h2⟩
/-- .. at its place: a law's own def -/
theorem law_of {N : List Str} {f : Addr} {fd : FuncData} (F : Fun K nm nm st f fd) (S : FnScope N ps (defScope st)) (len : ∀ vs H Q E, sp vs H Q E → vs.length = ps.length)
    (body : ∀ (cdv : Value) (A : Around) (outer : List Env) (s : Shared) (H : Hp) (vs : List V) (Q : VK) (E : XK), A.guards = some [] → Room k (A.deeper (envOfC nm (defScope st) s.heap.objs.size f cdv)) → sp vs H Q E →
      ∃ t, PSs (cxOf CX0 P w K mg base N nm (defScope st) f cdv A outer s H E).nox (defBody st) t ∧ t { nx := fun _ H' => Q .non H', rt := Q } (start N vs) H) : GFn P w K mg base CX0 (k + 1) f fd ps sp :=
  gfn_of F S len fun cdv A o s H vs Q E ga hr h => by
    obtain ⟨t, h1, h2⟩ := body cdv A o s H vs Q E ga hr h
    exact ⟨t, h1.nox, h2⟩
theorem Has.mono {j : Nat} (h : Has P w K mg base CX j nm ps sp) (l : j ≤ k) : Has P w K mg base CX k nm ps sp := by
  obtain ⟨f, fd, g, kp, b, F⟩ := h
  exact ⟨f, fd, g, kp, b, F.mono l⟩
theorem Has.g (h : Has P w K mg base CX k nm ps sp) : HasG P w K mg base CX k nm ps sp := by
  obtain ⟨f, fd, g, kp, b, F⟩ := h
  exact ⟨f, fd, g, kp, b, .of F⟩
end
section
variable {X : Cx} {k j : Nat} {nm : Str} {ps : List Str} {sp : Sp} {e : Expr} {es : List Expr} {t : TA} {p pos : Pos}
/-- f(e, ..) by its bundle, nothing raised -/
theorem pe_h (h : Has X.prog X.w X.K X.mg X.base CX0 j nm ps sp) (hr : Room k X.A) (l : j ≤ k) (hg : Gl X nm) (ha : PA X (e :: es) t) (hdb : (nm == ("__debug__" : Str)) = false := by decide)
    (he : starEach (e :: es) X.env = (false, eval e X.env) :: starEach es X.env := by rfl) (hpl : (backTo pos (starEach es X.env)).any (·.1) = false := by rfl) : PE X (.Call (.Name nm p) (e :: es) [] pos) (tCall sp [] E0 t) := by
  obtain ⟨f, fd, g, kp, b, F⟩ := h
  exact pe_call F (hr.mono l) hg g kp b .nil pass0 ha hdb he hpl
theorem pe_h0 (h : Has X.prog X.w X.K X.mg X.base CX0 j nm ps sp) (hr : Room k X.A) (l : j ≤ k) (hg : Gl X nm) (hdb : (nm == ("__debug__" : Str)) = false := by decide) : PE X (.Call (.Name nm p) [] [] pos) (tCall sp [] E0 tNil) := by
  obtain ⟨f, fd, g, kp, b, F⟩ := h
  exact pe_call0 F (hr.mono l) hg g kp b .nil pass0 hdb
theorem pe_hG (h : HasG X.prog X.w X.K X.mg X.base CX0 j nm ps sp) (gd : X.A.guards = some []) (hr : Room k X.A) (l : j ≤ k) (hg : Gl X nm) (ha : PA X (e :: es) t) (hdb : (nm == ("__debug__" : Str)) = false := by decide)
    (he : starEach (e :: es) X.env = (false, eval e X.env) :: starEach es X.env := by rfl) (hpl : (backTo pos (starEach es X.env)).any (·.1) = false := by rfl) : PE X (.Call (.Name nm p) (e :: es) [] pos) (tCall sp [] E0 t) := by
  obtain ⟨f, fd, g, kp, b, F⟩ := h
  exact pe_callG F gd (hr.mono l) hg g kp b .nil pass0 ha hdb he hpl
/-- a class or a def of the module as a value -/
theorem pe_ref {x : Str} {a : Addr} {pos : Pos} (hg : Gl X x) (hm : X.mg x = some (.ref a)) (hd : (x == ("__debug__" : Str)) = false := by decide) : PE X (.Name x pos) (tC (.ref a)) := pe_glob hg hm rfl hd
/-- a field of an exception, the written part named (within a comprehension) -/
theorem pe_xFk {K : PySem.W.Frag} {n : Str} {te : TE} (hK : X.K = K) (he : PE X e te) (hb : attributeBase e n X.env (eval e X.env) = eval e X.env := by rfl) : PE X (.Attribute e n pos) (tXF K n te) := by
  subst hK
  exact pe_xF he hb
/-- slots, short -/
theorem ps_sv (i : Nat) {x : Str} {e : Expr} {te : TE} {pos' : Pos} (hN : X.N.Nodup) (he : PE X e te) (hi : X.N[i]? = some x := by rfl) (hx : Loc X.env.scope x := by first | exact Or.inl rfl | exact Or.inr rfl) (hs : swapsWith e (some (.Name x pos')) pos.line X.env = pure false := by rfl)
    (hf : X.fn x = true ∨ X.env.scope.names.lookup x = some .local := by first | exact .inl rfl | exact .inr rfl | assumption) : PS X (.Assign [.Name x pos'] e pos) (tAsg te (gName i)) := ps_set hN hi hx he hs hf
end
end Ct

set_option Elab.async false
set_option linter.all false
set_option maxRecDepth 100000
set_option maxHeartbeats 2000000
/-! Own kit E: what a law's source of draws promises: source, draw, pick. -/
namespace Ct
open PySem PySem.Spec PyProof.Rows L2
def SrcOk (r m : Int) : Prop := 0 ≤ r ∧ 0 ≤ m ∧ m ≤ 2147483647
/-- source(script, start): a new list of two ints -/
def spSource (K : PySem.W.Frag) : Sp := fun vs H Q _ => ∃ (a : Addr) (ns : List Int) (st : Int), vs = [.ref a, .int st] ∧ 0 ≤ st ∧ st ≤ 100 ∧ SqL K H a (ns.map V.int) ∧ ns.length ≤ 63 ∧ (∀ z ∈ ns, Builtin.Int.intBits z ≤ 1048576) ∧
  ∀ p r m, H p = none → SrcOk r m → Q (.ref p) (upd H p (.lst [.int r, .int m]))
/-- draw(source, span): a number below span; the source turns -/
def spDraw : Sp := fun vs H Q _ => ∃ (p : Addr) (r m n : Int), vs = [.ref p, .int n] ∧ H p = some (.lst [.int r, .int m]) ∧ SrcOk r m ∧ 1 ≤ n ∧ n ≤ 1000000000 ∧
  ∀ r' m' k, SrcOk r' m' → 0 ≤ k → k < n → Q (.int k) (upd H p (.lst [.int r', .int m']))
/-- pick(source, things): one of the things -/
def spPick (K : PySem.W.Frag) : Sp := fun vs H Q _ => ∃ (p q : Addr) (r m : Int) (xs : List V), vs = [.ref p, .ref q] ∧ q ≠ p ∧ H p = some (.lst [.int r, .int m]) ∧ SrcOk r m ∧ (SqL K H q xs ∨ SqT K H q xs) ∧ xs ≠ [] ∧ xs.length ≤ 1000000 ∧
  ∀ r' m' x, SrcOk r' m' → x ∈ xs → Q x (upd H p (.lst [.int r', .int m']))
theorem sqL_upd {K : PySem.W.Frag} {H : Hp} {p q : Addr} {o : HO} {xs : List V} (h : SqL K H q xs) (n : q ≠ p) : SqL K (upd H p o) q xs := by
  rcases h with (h | ⟨u, h⟩) | h
  · exact .inl (.inl (by rw [upd_ne n]; exact h))
  · exact .inl (.inr ⟨u, by rw [upd_ne n]; exact h⟩)
  · exact .inr h
theorem sqT_upd {K : PySem.W.Frag} {H : Hp} {p q : Addr} {o : HO} {xs : List V} (h : SqT K H q xs) (n : q ≠ p) : SqT K (upd H p o) q xs := by
  rcases h with (h | ⟨u, h⟩) | h
  · exact .inl (.inl (by rw [upd_ne n]; exact h))
  · exact .inl (.inr ⟨u, by rw [upd_ne n]; exact h⟩)
  · exact .inr h
theorem at_in {xs : List V} {k : Int} (h0 : 0 ≤ k) (h1 : k < (xs.length : Nat)) : ∃ x, x ∈ xs ∧ atI xs k = some x := by
  obtain ⟨j, rfl⟩ := Int.eq_ofNat_of_zero_le h0
  have hj : j < xs.length := by omega
  exact ⟨xs[j], List.getElem_mem hj, atI_nat (List.getElem?_eq_getElem hj)⟩
theorem ints_at {ns : List Int} {i : Nat} {y : V} (h : (ns.map V.int)[i]? = some y) : ∃ z, ns[i]? = some z ∧ z ∈ ns ∧ y = .int z := by
  rw [List.getElem?_map] at h
  cases e : ns[i]? with
  | none => rw [e] at h; cases h
  | some z => rw [e] at h; exact ⟨z, rfl, List.mem_of_getElem? e, (Option.some.inj h).symm⟩
theorem pow_ok {x : Int} {n : Nat} {j : Int} (h : Builtin.Int.intBits x ≤ n) (h0 : 0 ≤ j) (hz : (n : Int) * j ≤ 2 ^ 27) : CPowW x j := by
  refine ⟨h0, Int.le_trans (Int.mul_le_mul_of_nonneg_right ?_ h0) hz⟩
  omega
theorem bits_small {x : Int} {n : Nat} (h0 : 0 ≤ x) (h : x < 2 ^ n) : Builtin.Int.intBits x ≤ n := by
  refine intBits_le_iff.mpr ?_
  have e : ((x.natAbs : Nat) : Int) = x := by omega
  have z : ((x.natAbs : Nat) : Int) < ((2 ^ n : Nat) : Int) := by rw [e, Int.natCast_pow]; exact h
  omega
end Ct

set_option Elab.async false
set_option linter.all false
set_option maxRecDepth 100000
set_option maxHeartbeats 2000000
/-! Own kit F: for over enumerate; heaps that only grow. -/
namespace Ct
open PySem PySem.Spec PyProof.Rows L2
theorem for_enum {K : PySem.W.Frag} {a : Addr} {xs : List V} {g : TG} {tb : TS} {D : Ends} {σ : L2.St} {H : Hp} (Pv : Nat → L2.St → Hp → Prop) (h0 : Pv 0 σ H) (hl : ∀ i σ H, i ≤ xs.length → Pv i σ H → SqL K H a xs)
    (hs : ∀ i x σ H T, xs[i]? = some x → Pv i σ H → H T = none → g (.ref T) σ (upd H T (.tup [.int (i : Nat), x])) fun σ2 H2 => tb { D with nx := Pv (i + 1), ct := Pv (i + 1), bk := D.nx } σ2 H2)
    (hd : ∀ σ H, Pv xs.length σ H → D.nx σ H) :
    ∃ W : Nat → Nat → L2.St → Hp → Prop, (∃ m, W 0 m σ H) ∧ ∀ i m σ H, W i m σ H →
      ((Ite K a).stop i H ∧ D.nx σ H) ∨ ((Ite K a).go i H ∧ ∃ N : L2.St → Hp → Prop, (∀ σ' H', N σ' H' → ∃ m', m' < m ∧ W (i + 1) m' σ' H') ∧ ∀ x H', (Ite K a).yld i H x H' → g x σ H' fun σ2 H2 => tb { D with nx := N, ct := N, bk := D.nx } σ2 H2) := by
  refine ⟨fun i m σ H => m = xs.length - i ∧ i ≤ xs.length ∧ Pv i σ H, ⟨xs.length, rfl, Nat.zero_le _, h0⟩, ?_⟩
  rintro i m σ H ⟨rfl, hi, p⟩
  have q := hl i σ H hi p
  rcases Nat.lt_or_ge i xs.length with lt | ge
  · right
    refine ⟨⟨xs, xs[i], q, List.getElem?_eq_getElem lt⟩, Pv (i + 1), fun σ' H' p' => ⟨_, by omega, rfl, lt, p'⟩, ?_⟩
    rintro _ _ ⟨T, x, rfl, hT, rfl, hx⟩
    exact hs i x σ H T (hx xs q) p hT
  · left
    have e : i = xs.length := Nat.le_antisymm hi ge
    subst e
    exact ⟨⟨xs, q, Nat.le_refl _⟩, hd σ H p⟩
theorem same_upd {H H' : Hp} {p : Addr} {o : HO} (s : Same H H') (h : H p = none) : Same H (upd H' p o) := fun b u e => by
  rw [upd_ne (ne_of_none e h)]
  exact s b u e
theorem same_new {H : Hp} {p : Addr} {o : HO} (h : H p = none) : Same H (upd H p o) := same_upd (Same.refl H) h
/-- only locked things are tracked: a store leaves them -/
theorem only_upd {H H' : Hp} {p : Addr} {o u : HO} (on : Only H) (s : Same H H') (h : H' p = some u) (n : ∀ ob x, u ≠ .frz ob x) : Same H (upd H' p o) := fun b v e => by
  rcases on b with z | ⟨ob, xs, z⟩
  · rw [z] at e; cases e
  · rw [z] at e; cases e
    have q := s b _ z
    rw [upd_ne (ne_of q h (Ne.symm (n _ _)))]
    exact q
/-- a store at p leaves what is of other content -/
theorem upd_other {H : Hp} {p b : Addr} {o u v : HO} (h : H p = some u) (e : H b = some v) (n : v ≠ u) : upd H p o b = some v := by
  rw [upd_ne (ne_of e h n)]
  exact e
theorem same_t {K : PySem.W.Frag} {H H' : Hp} {a : Addr} {xs : List V} (s : Same H H') (h : SqT K H a xs) : SqT K H' a xs := by
  rcases h with (h | ⟨o, h⟩) | h
  · exact .inl (.inl (s _ _ h))
  · exact .inl (.inr ⟨o, s _ _ h⟩)
  · exact .inr h
theorem same_rd {H H' : Hp} {a : Addr} {u : HO} (s : Same H H') (h : Rd H a u) : Rd H' a u := by
  rcases h with h | ⟨o, h⟩
  · exact .inl (s _ _ h)
  · exact .inr ⟨o, s _ _ h⟩
mutual
theorem Dq.same {K : PySem.W.Frag} {H H' : Hp} (s : Same H H') : ∀ {v : V} {d : PyData}, Dq K H v d → Dq K H' v d
  | _, _, .non => .non
  | _, _, .bl b => .bl b
  | _, _, .int i => .int i
  | _, _, .str x => .str x
  | _, _, .lst h a => .lst (s.seq h) (DqAll.same s a)
  | _, _, .tup h a => .tup (same_t s h) (DqAll.same s a)
  | _, _, .dic h k e a => .dic (same_rd s h) k e (DqAll.same s a)
  | _, _, .dicT h k e a => .dicT (same_rd s h) k e (DqAll.same s a)
theorem DqAll.same {K : PySem.W.Frag} {H H' : Hp} (s : Same H H') : ∀ {vs : List V} {ds : List PyData}, DqAll K H vs ds → DqAll K H' vs ds
  | _, _, .nil => .nil
  | _, _, .cons a b => .cons (Dq.same s a) (DqAll.same s b)
end
end Ct

set_option Elab.async false
set_option linter.all false
set_option maxRecDepth 100000
set_option maxHeartbeats 2000000
/-! Own kit G: sets of tuples of keys (texts, ints), up to 76 members: what is looked for, what is put in. -/
namespace Ct
open PySem PySem.Spec PyProof.Rows L2
abbrev TupAt (P : Program) (w : World) (h : Heap) (k : List Key) (a : Addr) : Prop := IsTupleKey (mixKind P w) h k a
abbrev kh (P : Program) (w : World) (k : List Key) : Int := tupleKeyHash (mixKind P w) k
abbrev Mem := Addr × List Key
def rowK (P : Program) (w : World) (p : Mem) : Int × Value := (kh P w p.2, Value.ref p.1)
theorem key_scan' {P : Program} {w : World} {k : Key} {v : Value} (h : (mixKind P w).is k v = true) : v.scannable = true := by
  rcases keyIs_shape ((mixKind_is P w k v).symm.trans h) with ⟨i, t, rfl, rfl⟩ | ⟨x, t, rfl, rfl⟩ <;> rfl
theorem items_scan {P : Program} {w : World} {ks : List Key} {vs : List Value} (h : ItemsAre (mixKind P w) ks vs) : ∀ v ∈ vs, v.scannable = true := by
  induction h with
  | nil => intro v hv; cases hv
  | cons h1 _ ih =>
    intro v hv
    rcases List.mem_cons.mp hv with rfl | hv
    · exact key_scan' h1
    · exact ih v hv
theorem noClass0 {n : Nat} {v : Value} (h : v.scannable = true) : ofAClassStatement n v = pure false := by
  cases v <;> first | (cases n <;> rfl) | exact absurd h Bool.false_ne_true
section
variable {P : Program} {w : World} {A : Around} {E : Value → Shared → Prop} {s : Shared}
theorem noClass {k : List Key} {b : Addr} {Q : Bool → Shared → Prop} (hk : TupAt P w s.heap k b) (h : Q false s) : wpAny (model P w) A (ofAClassStatement 8 (.ref b)) Q E s := by
  have hT := hk.typeIs
  obtain ⟨o, its, n, ho, _, hd, hi⟩ := hk
  unfold ofAClassStatement
  refine wpAny_bind (wpAny_typeOf hT ?_)
  dsimp only
  simp only [show (("tuple" : String) == "tuple") = true by decide, if_true, pure_bind, Bool.not_true, Bool.false_eq_true, if_false]
  refine wpAny_bind (wpAny_seqItems ho hd ?_)
  dsimp only
  refine wpAny_bind ?_
  rw [← Array.forIn_toList]
  refine wpAny_forIn_list _ (fun l r s' => r.1 = none ∧ s' = s ∧ ∀ v ∈ l, v.scannable = true) _ ?_ ?_ _ _ ⟨rfl, rfl, items_scan hi⟩
  · rintro v l r s' ⟨_, rfl, al⟩
    rw [noClass0 (al v List.mem_cons_self), pure_bind]
    exact wpAny_pure ⟨rfl, rfl, fun u hu => al u (List.mem_cons_of_mem _ hu)⟩
  · rintro ⟨r1, r2⟩ s' ⟨hr, rfl, _⟩
    cases (show r1 = none from hr)
    exact wpAny_pure h
theorem hashBy {k : List Key} {b : Addr} {Q : Bool → Shared → Prop} (hk : TupAt P w s.heap k b) (h : ∀ r, Q r s) : wpAny (model P w) A (hashByValue 8 (.ref b)) Q E s := by
  have hT := hk.typeIs
  obtain ⟨o, its, n, ho, _, hd, hi⟩ := hk
  unfold hashByValue
  refine wpAny_bind (wpAny_specialOf hT F.slot_tuple_hash.lookup ?_)
  show wpAny _ _ (seqItems? (.ref b) >>= _) _ _ s
  refine wpAny_bind (wpAny_seqItems ho hd ?_)
  refine wpAny_bind ?_
  show wpAny _ _ (forIn its _ _) _ _ s
  rw [← Array.forIn_toList]
  refine wpAny_forIn_list _ (fun l r s' => r.1 = none ∧ s' = s ∧ ∀ v ∈ l, v.scannable = true) _ ?_ ?_ _ _ ⟨rfl, rfl, items_scan hi⟩
  · rintro v l r s' ⟨_, rfl, al⟩
    rw [hashByValue_scannable _ (al v List.mem_cons_self), pure_bind]
    cases plainKind v
    · exact wpAny_pure (wpAny_pure (h false))
    · exact wpAny_pure ⟨rfl, rfl, fun u hu => al u (List.mem_cons_of_mem _ hu)⟩
  · rintro ⟨r1, r2⟩ s' ⟨hr, rfl, _⟩
    cases (show r1 = none from hr)
    exact wpAny_pure (h true)
theorem unseen {k : List Key} {b : Addr} {Q : Bool → Shared → Prop} (hk : TupAt P w s.heap k b) {ys : List Value} (hy : ∀ y ∈ ys, ∃ k' c, y = Value.ref c ∧ TupAt P w s.heap k' c) (h : Q false s) :
    wpAny (model P w) A (searchCouldBeSeen (.ref b) ys) Q E s := by
  unfold searchCouldBeSeen
  refine wpAny_bind ?_
  refine wpAny_forIn_list _ (fun l r s' => r.1 = none ∧ s' = s ∧ ∀ y ∈ l, ∃ k' c, y = Value.ref c ∧ TupAt P w s.heap k' c) _ ?_ ?_ _ _ ⟨rfl, rfl, hy⟩
  · rintro v l r s' ⟨_, rfl, al⟩
    obtain ⟨k', c, rfl, hc⟩ := al v List.mem_cons_self
    have al' : ∀ y ∈ l, ∃ k' c, y = Value.ref c ∧ TupAt P w s'.heap k' c := fun u hu => al u (List.mem_cons_of_mem _ hu)
    dsimp only
    by_cases hv : (b == c || (carriedByValue (.ref b) && carriedByValue (.ref c))) = true
    · exact wp_if_pos hv (wpAny_pure ⟨rfl, rfl, al'⟩)
    · refine wp_if_neg hv ?_
      refine wpAny_bind (wpAny_eqIsQuiet_tuple hk ?_)
      simp only [Bool.not_true, Bool.false_eq_true, if_false]
      refine wpAny_bind (wpAny_eqIsQuiet_tuple hc ?_)
      simp only [Bool.not_true, Bool.false_eq_true, if_false]
      refine wpAny_bind (noClass hk ?_)
      simp only [Bool.false_eq_true, if_false]
      refine wpAny_bind (noClass hc ?_)
      simp only [Bool.false_eq_true, if_false]
      exact wpAny_pure ⟨rfl, rfl, al'⟩
  · rintro ⟨r1, r2⟩ s' ⟨hr, rfl, _⟩
    cases (show r1 = none from hr)
    exact wpAny_pure h
/-- the set at a, its table told -/
structure KSet (P : Program) (w : World) (h : Heap) (a : Addr) (L : List Mem) (es : Array (Int × Value)) (ep : Nat) (t : SetTable) : Prop where
  ob : ∃ o, h.get? a = some o ∧ o.ExactSet ∧ o.data = .set es ep t
  rows : es.toList = L.map (rowK P w)
  tab : TabOk t (L.map fun p => kh P w p.2)
  nd : (L.map (·.2)).Nodup
  led : w.params.followText "set-order" = true ∨ t.led = true
  room : L.length * 5 < t.mask * 3
  few : L.length < 77
variable {a : Addr} {L : List Mem} {es : Array (Int × Value)} {ep : Nat} {t : SetTable}
theorem rows_size (h : es.toList = L.map (rowK P w)) : es.size = L.length := by
  have z := congrArg List.length h
  rwa [Array.length_toList, List.length_map] at z
theorem rows_at (h : es.toList = L.map (rowK P w)) (i : Nat) : es[i]? = (L[i]?).map (rowK P w) := by
  rw [← Array.getElem?_toList, h, List.getElem?_map]
theorem KSet.fits (R : KSet P w s.heap a L es ep t) : t.fits es.size = true := by
  have h1 := R.tab.sz
  have h2 := rows_size R.rows
  have h3 := R.room
  rw [List.length_map] at h1
  unfold SetTable.fits SetTable.fill
  rw [R.tab.dm, Bool.and_eq_true, beq_iff_eq, decide_eq_true_eq]
  show t.place.size = es.size ∧ t.place.size + 0 ≤ t.mask
  omega
theorem nth_dummy (m : Nat) : ∀ (n : Nat) (p : SetTable.Probe), p.dummy = none → (nth m p n).dummy = none
  | 0, _, h => h
  | n + 1, p, h => nth_dummy m n (adv m p) (by unfold adv; split <;> exact h)
/-- the way's c-th stand -/
abbrev std (m : Nat) (h : Int) (c : Nat) : SetTable.Probe := nth m (runAt m (SetTable.bits h % (m + 1)) (SetTable.bits h)) c
/-- THE SEARCH -/
theorem seek (R : KSet P w s.heap a L es ep t) (tup : ∀ p ∈ L, TupAt P w s.heap p.2 p.1) {x : Addr} {k : List Key} (hx : TupAt P w s.heap k x) (hu : A.units < cLine) {ad : Bool} {K : Nat} (hK10 : K < 10 * SetTable.turns t.mask)
    (hK : way t.mask (kh P w k) K ∉ t.place.toList) (hb : ∀ c, c < K → way t.mask (kh P w k) c ∈ t.place.toList) {Q : SetFound → Shared → Prop}
    (yes : ∀ r : Option Nat, (ad = true → r = none) → (ad = false → r.isSome = true) → k ∈ L.map (·.2) → Q (.there r) s) (no : k ∉ L.map (·.2) → Q (.free (way t.mask (kh P w k) K) false) s) :
    ∀ (f c : Nat) (st : Option SetTable.Probe), st.getD (t.probeStart (kh P w k)) = std t.mask (kh P w k) c → c ≤ K → K - c < f →
      (∀ (i : Nat) (p : Mem), L[i]? = some p → p.2 = k → ∃ c', c ≤ c' ∧ c' < K ∧ t.place.toList[i]? = some (way t.mask (kh P w k) c')) →
      wpAny (model P w) A (setSearchFrom a (.ref x) (kh P w k) ad f st) Q E s
  | 0, _, _, _, _, z, _ => absurd z (Nat.not_lt_zero _)
  | f + 1, c, st, hst, hc, hf, ahead => by
    obtain ⟨o, ho, hex, hd⟩ := R.ob
    rw [setSearchFrom_succ]
    refine wpAny_bind (wpAny_setState_of ho hd R.fits ?_)
    dsimp only
    refine wp_if_neg (by unfold SetTable.gaveWay; rw [mask_odd R.tab.mok]; decide) ?_
    have sh : ∀ q, nth t.mask (std t.mask (kh P w k) c) q = std t.mask (kh P w k) (c + q) := fun q => (nth_add t.mask c _ q).symm
    have shj : ∀ q, (nth t.mask (std t.mask (kh P w k) c) q).j = way t.mask (kh P w k) (c + q) := fun q => congrArg SetTable.Probe.j (sh q)
    have kk : c + (K - c) = K := by omega
    have hAt : ∀ (i : Nat) (p : Mem), L[i]? = some p → (fun i => (es[i]?.map (·.1)).getD 0) i = kh P w p.2 := fun i p hp => by
      show (es[i]?.map (·.1)).getD 0 = _
      rw [rows_at R.rows, hp] <;> rfl
    have G := go_spec t R.tab.ris R.tab.dm (fun i => (es[i]?.map (·.1)).getD 0) (kh P w k) (10 * SetTable.turns t.mask) (K - c) (std t.mask (kh P w k) c) (nth_dummy _ _ _ rfl) (by omega)
      (fun q hq => by rw [shj]; exact hb _ (by omega)) (by rw [shj, kk]; exact hK)
    rcases G with ⟨q, i, hq, hi, hh, hno, hpr⟩ | ⟨hno, hpr⟩
    · have pr : t.probe (fun i => (es[i]?.map (·.1)).getD 0) (kh P w k) (st.getD (t.probeStart (kh P w k))) = some (.candidate (way t.mask (kh P w k) (c + q)) i (std t.mask (kh P w k) (c + (q + 1)))) := by
        rw [hst, ← shj, ← sh]
        exact hpr
      rw [pr]
      dsimp only
      rw [shj] at hi
      have hil : i < L.length := by
        have h1 : i < t.place.toList.length := (List.getElem?_eq_some_iff.mp hi).1
        have h2 := R.tab.sz
        rw [List.length_map] at h2
        rw [Array.length_toList] at h1
        omega
      obtain ⟨p, hp⟩ : ∃ p, L[i]? = some p := ⟨L[i], List.getElem?_eq_getElem hil⟩
      have hm : p ∈ L := List.mem_of_getElem? hp
      have sl : t.slot (way t.mask (kh P w k) (c + q)) = .live i := slot_live R.tab.ris hi
      have ent : es[i]? = some (rowK P w p) := by rw [rows_at R.rows, hp]; rfl
      have go : wpAny (model P w) A (searchRest a (.ref x) (kh P w k) ad f es t (way t.mask (kh P w k) (c + q)) i (std t.mask (kh P w k) (c + (q + 1)))) Q E s := by
        unfold searchRest
        rw [ent]
        dsimp only [rowK]
        refine wpAny_bind (wpAny_holding (wpAny_eqBool_tuple hu (tup p hm) hx ?_))
        refine wpAny_bind (wpAny_setState_of ho hd R.fits ?_)
        dsimp only
        by_cases e : p.2 = k
        · have mem : k ∈ L.map (·.2) := List.mem_map.mpr ⟨p, hm, e⟩
          cases ad with
          | true => exact wp_if_pos (by simp [e]) (wpAny_pure (yes none (fun _ => rfl) (fun z => Bool.noConfusion z) mem))
          | false =>
            refine wp_if_neg (by simp) ?_
            rw [sameMem]
            simp only [if_true, sl, ent]
            refine wpAny_bind (wpAny_isSame_ref_self (wpAny_bind (wpAny_pure ?_)))
            simp only [if_true]
            exact wp_if_pos (by simp [e]) (wpAny_pure (yes (some i) (fun z => Bool.noConfusion z) (fun _ => rfl) mem))
        · refine wp_if_neg (by simp [e]) ?_
          rw [sameMem]
          simp only [if_true, sl, ent]
          refine wpAny_bind (wpAny_isSame_ref_self (wpAny_bind (wpAny_pure ?_)))
          simp only [if_true]
          refine wp_if_neg (by simp [e]) ?_
          refine seek R tup hx hu hK10 hK hb yes no f (c + (q + 1)) _ rfl (by omega) (by omega) fun i0 p0 h0 e0 => ?_
          obtain ⟨c', a1, a2, a3⟩ := ahead i0 p0 h0 e0
          refine ⟨c', ?_, a2, a3⟩
          have n1 : ¬ c' < c + q := fun z => hno (c' - c) i0 (by omega) (by rw [shj, show c + (c' - c) = c' by omega]; exact a3) ((hAt i0 p0 h0).trans (congrArg (kh P w) e0))
          have n2 : c' ≠ c + q := fun z => by
            rw [z] at a3
            have s0 := slot_live R.tab.ris a3
            rw [sl] at s0
            injection s0 with s0
            rw [← s0, hp] at h0
            exact e ((congrArg Prod.snd (Option.some.inj h0)).trans e0)
          omega
      cases hl : t.led with
      | true => exact wp_if_neg (by decide) go
      | false =>
        refine wp_if_pos (by decide) ?_
        refine wpAny_bind (unseen hx (fun y hy => ?_) (wp_if_neg (by decide) go))
        obtain ⟨e, he, rfl⟩ := List.mem_map.mp hy
        have he2 : e ∈ es.toList := by
          have z : e ∈ es ∧ e.1 = kh P w k := by simpa using he
          simpa using z.1
        rw [R.rows] at he2
        obtain ⟨p2, hp2, rfl⟩ := List.mem_map.mp he2
        exact ⟨p2.2, p2.1, rfl, tup p2 hp2⟩
    · have pr : t.probe (fun i => (es[i]?.map (·.1)).getD 0) (kh P w k) (st.getD (t.probeStart (kh P w k))) = some (.empty (way t.mask (kh P w k) K) none) := by
        have e2 : way t.mask (kh P w k) K = (nth t.mask (std t.mask (kh P w k) c) (K - c)).j := by rw [shj, kk]
        rw [hst, e2]
        exact hpr
      rw [pr]
      dsimp only
      refine wpAny_pure (no fun hm => ?_)
      obtain ⟨p0, h0, e0⟩ := List.mem_map.mp hm
      obtain ⟨i0, hi0⟩ := List.mem_iff_getElem?.mp h0
      obtain ⟨c', a1, a2, a3⟩ := ahead i0 p0 hi0 e0
      exact hno (c' - c) i0 (by omega) (by rw [shj, show c + (c' - c) = c' by omega]; exact a3) ((hAt i0 p0 hi0).trans (congrArg (kh P w) e0))
/-- the search from the way's start -/
theorem seek0 (R : KSet P w s.heap a L es ep t) (tup : ∀ p ∈ L, TupAt P w s.heap p.2 p.1) {x : Addr} {k : List Key} (hx : TupAt P w s.heap k x) (hu : A.units < cLine) {ad : Bool} {Q : SetFound → Shared → Prop}
    (yes : ∀ r : Option Nat, (ad = true → r = none) → (ad = false → r.isSome = true) → k ∈ L.map (·.2) → Q (.there r) s)
    (no : ∀ K, k ∉ L.map (·.2) → way t.mask (kh P w k) K ∉ t.place.toList → (∀ c, c < K → way t.mask (kh P w k) c ∈ t.place.toList) → Q (.free (way t.mask (kh P w k) K) false) s) :
    wpAny (model P w) A (setSearch a (.ref x) (kh P w k) ad) Q E s := by
  have hroom := R.room
  obtain ⟨K, hK10, hK, hb⟩ := R.tab.first (by rw [List.length_map]; omega) (kh P w k)
  have big : K < 100000 := by
    have : 10 * SetTable.turns t.mask ≤ 1420 := by
      unfold SetTable.turns
      rcases R.tab.mok with e | e | e <;> omega
    omega
  unfold setSearch
  refine seek R tup hx hu hK10 hK hb yes (fun n => no K n hK hb) 100000 0 none rfl (Nat.zero_le _) (by omega) fun i p hp e => ?_
  have hil : i < t.place.toList.length := by
    have h1 : i < L.length := (List.getElem?_eq_some_iff.mp hp).1
    have h2 := R.tab.sz
    rw [List.length_map] at h2
    rw [Array.length_toList]
    omega
  have hj := List.getElem?_eq_getElem hil
  obtain ⟨c, hc, e2⟩ := R.tab.before hK (h := kh P w k) (by rw [List.getElem?_map, hp, ← e] <;> rfl) hj
  exact ⟨c, Nat.zero_le _, hc, by rw [hj, e2]⟩
end
end Ct

set_option Elab.async false
set_option linter.all false
set_option maxRecDepth 100000
set_option maxHeartbeats 2000000
/-! Own kit H: the same sets: add, in; over the layer. -/
namespace Ct
open PySem PySem.Spec PyProof.Rows L2
section
variable {P : Program} {w : World} {A : Around} {E : Value → Shared → Prop} {s : Shared} {a : Addr} {L : List Mem} {es : Array (Int × Value)} {ep : Nat} {t : SetTable}
theorem tup_same {h h' : Heap} {k : List Key} {b : Addr} {o : Obj} (hb : TupAt P w h k b) (ho : h.get? a = some o) (hd : o.data = .set es ep t) (sb : Heap.SameBut a h h') : TupAt P w h' k b := by
  obtain ⟨o', its, n, ho', hc, hd', hi⟩ := hb
  refine ⟨o', its, n, (sb.2 b ?_).trans ho', hc, hd', hi⟩
  rintro rfl
  rw [ho] at ho'
  cases ho'
  rw [hd] at hd'
  cases hd'
theorem getD_range (L : List Mem) : (List.range L.length).map (fun i => L.getD i (0, [])) = L := by
  refine List.ext_getElem (by simp) fun i h1 h2 => ?_
  simp [List.getD_eq_getElem?_getD, List.getElem?_eq_getElem h2]
/-- the rows in another order -/
theorem reorder (h : es.toList = L.map (rowK P w)) {order : Array Nat} (pm : order.toList.Perm (List.range L.length)) :
    ∃ L2 : List Mem, (order.filterMap (es[·]?)).toList = L2.map (rowK P w) ∧ L2.Perm L ∧ (L2.map fun p => kh P w p.2) = order.toList.map fun i => (es.map (·.1)).getD i 0 := by
  have bd : ∀ i ∈ order.toList, i < L.length := fun i hi => List.mem_range.mp (pm.mem_iff.mp hi)
  refine ⟨order.toList.map fun i => L.getD i (0, []), ?_, ?_, ?_⟩
  · have key : ∀ l : List Nat, (∀ i ∈ l, i < L.length) → l.filterMap (fun i => es[i]?) = (l.map fun i => L.getD i (0, [])).map (rowK P w) := by
      intro l
      induction l with
      | nil => intro _; rfl
      | cons i l ih =>
        intro hl
        have hi := hl i List.mem_cons_self
        have e : es[i]? = some (rowK P w (L.getD i (0, []))) := by
          rw [rows_at h, List.getElem?_eq_getElem hi]
          simp [List.getD_eq_getElem?_getD, List.getElem?_eq_getElem hi]
        rw [List.filterMap_cons_some e, ih fun j hj => hl j (List.mem_cons_of_mem _ hj)]
        rfl
    rw [Array.toList_filterMap]
    exact key _ bd
  · have z := pm.map fun i => L.getD i (0, [])
    rwa [getD_range] at z
  · rw [List.map_map]
    refine List.map_congr_left fun i hi => ?_
    have e1 := rows_at h i
    rw [List.getElem?_eq_getElem (bd i hi)] at e1
    have e2 : (es.map (·.1))[i]? = some (kh P w (L[i]'(bd i hi)).2) := by rw [Array.getElem?_map, e1]; rfl
    simp [Array.getD_eq_getD_getElem?, e2, List.getD_eq_getElem?_getD, List.getElem?_eq_getElem (bd i hi)]
/-- the table laid anew -/
theorem relay {o : Obj} (ho : s.heap.get? a = some o) (hex : o.ExactSet) (hd : o.data = .set es ep t) (hr : es.toList = L.map (rowK P w)) (hsz : t.place.size = es.size) (hdm : t.dummies = #[]) (hfl : es.size ≤ t.mask)
    (nd : (L.map (·.2)).Nodup) (ld : w.params.followText "set-order" = true ∨ t.led = true) (few : L.length < 77) {wanted M : Nat}
    (hw : SetTable.sizeAbove wanted - 1 = M) (hM : MaskOk M) (hw2 : SetTable.sizeAbove wanted ≤ 128) (hn : L.length * 5 < M * 3) {Q : Unit → Shared → Prop}
    (hQ : ∀ h' L' es' ep' t', Heap.SameBut a s.heap h' → KSet P w h' a L' es' ep' t' → L'.Perm L → Q () { s with heap := h' }) : wpAny (model P w) A (setRelay a wanted) Q E s := by
  have hsl := rows_size hr
  have fits : t.fits es.size = true := by
    unfold SetTable.fits SetTable.fill
    rw [hdm, Bool.and_eq_true, beq_iff_eq, decide_eq_true_eq]
    show t.place.size = es.size ∧ t.place.size + 0 ≤ t.mask
    omega
  obtain ⟨t', order, e, hp, T, em, el, _, _⟩ := relaid_ok t (hs := es.map (·.1)) (wanted := wanted) hw hM (by rw [Array.size_map, hsl]; omega)
  rw [Array.size_map, hsl] at hp
  obtain ⟨L2, r1, r2, r3⟩ := reorder hr hp
  rw [← r3] at T
  have hs2 : (order.filterMap (es[·]?)).size = es.size := by rw [rows_size r1, r2.length_eq, hsl]
  rw [setRelay_eq]
  refine wpAny_bind (wpAny_setState_of ho hd fits ?_)
  dsimp only
  refine wp_if_neg (by rw [sizeLine_eq]; omega) ?_
  rw [e]
  dsimp only
  refine wpAny_bind ?_
  refine wp_if_neg (by rw [hs2]; simp) ?_
  refine wpAny_pure ?_
  dsimp only
  refine wpAny_storeSet_of ho hd ?_ (by rw [hs2, hsl, sizeLine_eq]; omega)
  refine hQ _ L2 _ (ep + 1) t' (Heap.SameBut.update ..) ⟨⟨_, store_at ho hd, ⟨hex.1, hex.2.1, hex.2.2⟩, rfl⟩, r1, T, (r2.map (·.2)).nodup_iff.mpr nd, by rw [el]; exact ld, ?_, by rw [r2.length_eq]; exact few⟩ r2
  rw [r2.length_eq, em]
  exact hn
theorem size_relay {n m : Nat} (h : (m = 7 ∧ n = 4) ∨ (m = 31 ∧ n = 18)) : MaskOk (SetTable.sizeAbove (SetTable.grown (n + 1)) - 1) ∧ SetTable.sizeAbove (SetTable.grown (n + 1)) ≤ 128 ∧ (n + 1) * 5 < (SetTable.sizeAbove (SetTable.grown (n + 1)) - 1) * 3 := by
  rcases h with ⟨_, rfl⟩ | ⟨_, rfl⟩
  · rw [size_20]; exact ⟨.inr (.inl rfl), by decide, by decide⟩
  · rw [size_76]; exact ⟨.inr (.inr rfl), by decide, by decide⟩
/-- ADDING -/
theorem putIn (R : KSet P w s.heap a L es ep t) (tup : ∀ p ∈ L, TupAt P w s.heap p.2 p.1) {x : Addr} {k : List Key} (hx : TupAt P w s.heap k x) (hu : A.units < cLine) (few : L.length + 1 < 77) {Q : Bool → Shared → Prop}
    (old : k ∈ L.map (·.2) → ∀ b, Q b s) (new : k ∉ L.map (·.2) → ∀ b h' L' es' ep' t', Heap.SameBut a s.heap h' → KSet P w h' a L' es' ep' t' → L'.Perm ((x, k) :: L) → Q b { s with heap := h' }) :
    wpAny (model P w) A (setAddHashed a (.ref x) (kh P w k)) Q E s := by
  obtain ⟨o, ho, hex, hd⟩ := R.ob
  have hsl := rows_size R.rows
  have hroom := R.room
  unfold setAddHashed
  refine wpAny_holding ?_
  rw [show (100000 : Nat) = 99999 + 1 from rfl, setAddHashedIn_succ]
  refine wpAny_bind (wpAny_setState_of ho hd R.fits ?_)
  dsimp only
  refine wp_if_neg (by simp [byScan, Value.scannable]) ?_
  refine wpAny_bind (seek0 R tup hx hu (ad := true) (fun r _ _ hm => wpAny_pure (old hm false)) fun K hm hK hb => ?_)
  dsimp only
  refine wpAny_bind (wpAny_setState_of ho hd R.fits ?_)
  dsimp only
  obtain ⟨q1, q2, q3, q4, q5, q6, q7, q8, q9⟩ := R.tab.put hK hb
  generalize hpt : t.put (way t.mask (kh P w k) K) = pt at q1 q3 q4 q5 q6 q7 q8 q9 ⊢
  obtain ⟨t1, p⟩ := pt
  dsimp only at q1 q3 q4 q5 q6 q7 q8 q9 ⊢
  subst q1
  generalize SetTable.below t.place (way t.mask (kh P w k) K) = p at q2 q3 ⊢
  have pm : (L.take p ++ (x, k) :: L.drop p).Perm ((x, k) :: L) := by
    have z : (L.take p ++ (x, k) :: L.drop p).Perm ((x, k) :: (L.take p ++ L.drop p)) := List.perm_middle
    rwa [List.take_append_drop] at z
  have rows1 : (SetTable.insertAt es p (kh P w k, Value.ref x)).toList = (L.take p ++ (x, k) :: L.drop p).map (rowK P w) := by
    rw [SetTable.toList_insertAt, R.rows, List.map_append, List.map_cons, List.map_take, List.map_drop]; rfl
  have hs1 : (L.take p ++ (x, k) :: L.drop p).map (fun p => kh P w p.2) = (L.map fun p => kh P w p.2).take p ++ kh P w k :: (L.map fun p => kh P w p.2).drop p := by
    rw [List.map_append, List.map_cons, List.map_take, List.map_drop]
  rw [← hs1] at q3
  have nd1 : ((L.take p ++ (x, k) :: L.drop p).map (·.2)).Nodup := (pm.map (·.2)).nodup_iff.mpr (List.nodup_cons.mpr ⟨hm, R.nd⟩)
  have len1 : (L.take p ++ (x, k) :: L.drop p).length = L.length + 1 := pm.length_eq
  generalize L.take p ++ (x, k) :: L.drop p = L1 at pm rows1 q3 nd1 len1
  generalize SetTable.insertAt es p (kh P w k, Value.ref x) = es1 at rows1 ⊢
  have sz1 := rows_size rows1
  -- behind the hash: a table that differs in its mark alone
  have fin : ∀ t2 : SetTable, t2.place = t1.place → t2.dummies = t1.dummies → t2.mask = t1.mask → t2.led = t1.led → wpAny (model P w) A (do
      storeSet a es1 t2
      if !false && t2.tooFull then setRelay a (SetTable.grown (es.size + 1))
      return true) Q E s := by
    intro t2 e1 e2 e3 e4
    have T2 : TabOk t2 (L1.map fun p => kh P w p.2) := by
      refine ⟨by rw [e1]; exact q3.ris, by rw [e2]; exact q3.dm, by rw [e1]; exact q3.sz, by rw [e3]; exact q3.mok, by rw [e1, e3]; exact q3.bd, ?_⟩
      rw [e1, e3]
      exact q3.reach
    have ld2 : w.params.followText "set-order" = true ∨ t2.led = true := by rw [e4, q5]; exact R.led
    have fl2 : t2.fill = L.length + 1 := by
      unfold SetTable.fill at q9 ⊢
      rw [e1, e2, q9, List.length_map]
    have mk2 : t2.mask = t.mask := e3.trans q4
    refine wpAny_bind (wpAny_storeSet_of ho hd ?_ (by rw [sz1, len1, sizeLine_eq]; omega))
    have sb : Heap.SameBut a s.heap (s.heap.update a (Obj.putSet es1 t2)) := Heap.SameBut.update ..
    have ho1 := store_at (es' := es1) (t' := t2) ho hd
    generalize s.heap.update a (Obj.putSet es1 t2) = h1 at sb ho1 ⊢
    by_cases hf : t2.tooFull = true
    · have full : (L.length + 1) * 5 ≥ t.mask * 3 := by
        have h := hf
        unfold SetTable.tooFull at h
        rw [decide_eq_true_eq, fl2, mk2] at h
        exact h
      have two : (t.mask = 7 ∧ L.length = 4) ∨ (t.mask = 31 ∧ L.length = 18) := by
        rcases R.tab.mok with e | e | e
        · rw [e] at full hroom; exact .inl ⟨e, by omega⟩
        · rw [e] at full hroom; exact .inr ⟨e, by omega⟩
        · exfalso; rw [e] at full; omega
      obtain ⟨m1, m2, m3⟩ := size_relay two
      simp only [hf, Bool.not_false, Bool.and_self, if_true]
      rw [hsl]
      refine wpAny_bind (relay (s := { s with heap := h1 }) ho1 ⟨hex.1, hex.2.1, hex.2.2⟩ rfl rows1 (by rw [T2.sz, List.length_map, sz1]) T2.dm (by rw [sz1, len1, mk2]; rcases two with ⟨e, e'⟩ | ⟨e, e'⟩ <;> omega) nd1 ld2 (by rw [len1]; exact few) rfl m1 m2 (by rw [len1]; exact m3) ?_)
      intro h2 L2 es2 ep2 t3 sb2 R2 pm2
      exact wpAny_pure (new hm true h2 L2 es2 ep2 t3 (sb.trans sb2) R2 (pm2.trans pm))
    · simp only [hf, Bool.not_false, Bool.and_false, Bool.false_eq_true, if_false]
      refine wpAny_pure (new hm true h1 L1 es1 (ep + 1) t2 sb ⟨⟨_, ho1, ⟨hex.1, hex.2.1, hex.2.2⟩, rfl⟩, rows1, T2, nd1, ld2, ?_, by rw [len1]; exact few⟩ pm)
      unfold SetTable.tooFull at hf
      rw [decide_eq_true_eq, fl2] at hf
      rw [len1]
      omega
  have fin2 : ∀ b : Bool, wpAny (model P w) A (do
      storeSet a es1 (if b then t1 else { t1 with plain := false })
      if !false && (if b then t1 else { t1 with plain := false }).tooFull then setRelay a (SetTable.grown (es.size + 1))
      return true) Q E s := fun b => by
    cases b
    · exact fin _ rfl rfl rfl rfl
    · exact fin _ rfl rfl rfl rfl
  by_cases hp1 : t1.plain = true
  · simp only [hp1, if_true]
    first
      | exact wpAny_bind (hashBy hx fun r => fin2 r)
      | exact wpAny_bind (hashBy hx fun r => wpAny_bind (wpAny_pure (fin2 r)))
  · simp only [hp1, Bool.false_eq_true, if_false]
    first
      | exact fin2 true
      | exact wpAny_bind (wpAny_pure (fin2 true))
/-- FINDING -/
theorem findIt (R : KSet P w s.heap a L es ep t) (tup : ∀ p ∈ L, TupAt P w s.heap p.2 p.1) {x : Addr} {k : List Key} (hx : TupAt P w s.heap k x) (hu : A.units < cLine) {Q : Option Nat → Shared → Prop}
    (yes : k ∈ L.map (·.2) → ∀ r : Option Nat, r.isSome = true → Q r s) (no : k ∉ L.map (·.2) → Q none s) : wpAny (model P w) A (setFind a (.ref x) (kh P w k)) Q E s := by
  obtain ⟨o, ho, hex, hd⟩ := R.ob
  unfold setFind setFindIn
  refine wpAny_bind (wpAny_setState_of ho hd R.fits ?_)
  dsimp only
  refine wp_if_neg (by simp [byScan, Value.scannable]) ?_
  refine wpAny_bind (seek0 R tup hx hu (ad := false) (fun r _ hr hm => ?_) fun K hm _ _ => ?_)
  · exact wpAny_pure (yes hm r (hr rfl))
  · exact wpAny_pure (no hm)
end
end Ct

set_option Elab.async false
set_option linter.all false
set_option maxRecDepth 100000
set_option maxHeartbeats 2000000
/-! Own kit I: sets of tuples of keys over the layer: add, in, comprehensions. -/
namespace Ct
open PySem PySem.Spec PyProof.Rows L2
/-- the set at a; that its members stand as they do is told apart -/
def KSetO (P : Program) (w : World) (a : Addr) (L : List Mem) : HO := .ext fun h => ∃ es ep t, KSet P w h a L es ep t
theorem kset_new {P : Program} {w : World} {H : Hp} {h : Heap} {a : Addr} {L : List Mem} {es : Array (Int × Value)} {ep : Nat} {t : SetTable} (R : KSet P w h a L es ep t) : ObjOk P w H h a (KSetO P w a L) := by
  obtain ⟨o, ho, r⟩ := R.ob
  refine ⟨⟨es, ep, t, R⟩, ⟨o, ho⟩, fun h1 h2 ⟨es, ep, t, R⟩ k => ?_⟩
  obtain ⟨o, ho, r⟩ := R.ob
  exact ⟨es, ep, t, ⟨o, k o ho, r⟩, R.rows, R.tab, R.nd, R.led, R.room, R.few⟩
theorem kset_fresh {P : Program} {w : World} {h : Heap} {a : Addr} (ho : h.get? a = some { cls := .type "set", dict := none, data := .set #[] 0 (.fresh 0 0 (!w.params.followText "set-order")) }) :
    KSet P w h a [] #[] 0 (.fresh 0 0 (!w.params.followText "set-order")) := by
  refine ⟨⟨_, ho, ⟨rfl, rfl, rfl⟩, rfl⟩, rfl, ⟨List.Pairwise.nil, rfl, rfl, .inl rfl, fun x hx => (by cases hx), fun i h j hi => (by simp at hi)⟩, List.nodup_nil, ?_, by show 0 * 5 < 7 * 3; decide, by show 0 < 77; decide⟩
  show _ ∨ (!w.params.followText "set-order") = true
  cases w.params.followText "set-order"
  · exact .inr rfl
  · exact .inl rfl
section
variable {X : Cx} {pins : List (Addr × Obj)} {σ : L2.St} {H : Hp} {s : Shared}
theorem vals_items {P : Program} {w : World} : ∀ {k : List Key} {us : List Value}, Vals (k.map kV) us → ItemsAre (mixKind P w) k us
  | [], _, .nil => .nil
  | _ :: _, _, .cons r t => .cons (kV_is r) (vals_items t)
theorem tup_of (I : Inv X pins σ H s) {b : Addr} {k : List Key} (h : SqT X.K H b (k.map kV)) : TupAt X.prog X.w s.heap k b := by
  obtain ⟨its, r, ⟨o, ho, hc, n, hd⟩, _⟩ := I.tuple h
  exact ⟨o, its.toArray, n, ho, hc, hd, by simpa using vals_items r⟩
/-- the members stand -/
def Mems (K : PySem.W.Frag) (H : Hp) (L : List Mem) : Prop := ∀ p ∈ L, SqT K H p.1 (p.2.map kV)
theorem mems_at (I : Inv X pins σ H s) {L : List Mem} (h : Mems X.K H L) : ∀ p ∈ L, TupAt X.prog X.w s.heap p.2 p.1 := fun p hp => tup_of I (h p hp)
/-- what add promises: k, a tuple at b, put into the set at a -/
def rKAdd (K : PySem.W.Frag) (P : Program) (w : World) (a b : Addr) (H : Hp) (Q : Hp → Prop) : Prop := ∃ (L : List Mem) (k : List Key), H a = some (KSetO P w a L) ∧ Mems K H L ∧ SqT K H b (k.map kV) ∧ L.length + 1 < 77 ∧
  (k ∈ L.map (·.2) → Q H) ∧ (k ∉ L.map (·.2) → ∀ L', L'.Perm ((b, k) :: L) → Q (upd H a (KSetO P w a L')))
theorem kadd {E : Value → Shared → Prop} {a b : Addr} {Qh : Hp → Prop} {Q : Value → Shared → Prop} (hu : X.A.units + 64 < cLine) (I : Inv X pins σ H s) (h : rKAdd X.K X.prog X.w a b H Qh)
    (q : ∀ H' s', Inv X pins σ H' s' → Qh H' → Q .none s') : wpAny (model X.prog X.w) X.A (call (.builtin "set.add") [.ref a, .ref b]) Q E s := by
  obtain ⟨L, k, ha, hm, hb, few, q1, q2⟩ := h
  obtain ⟨⟨es, ep, t, R⟩, _⟩ := I.hok _ _ ha
  have R : KSet X.prog X.w s.heap a L es ep t := R
  have tup := mems_at I hm
  have hx := tup_of I hb
  obtain ⟨o, ho, hex, hd⟩ := R.ob
  have ty : s.TypeIs (.ref a) "set" := ⟨o, ho, hex.1⟩
  have hu1 : X.A.in1.units < cLine := by show X.A.units + 1 < _; omega
  refine wpAny_call_entry F.slot_set_add ty F.entry_set_add ?_ (F.args_set_add_2 _ _)
  unfold Builtin.«set.add» Builtin.Frozenset.oneOther
  simp only [List.isEmpty_nil, bind_assoc]
  unfold Builtin.Frozenset.addrOf setAdd
  refine wpAny_bind (wpAny_pure ?_)
  try dsimp only
  refine wpAny_bind (wpAny_pure ?_)
  try dsimp only
  refine wpAny_bind ?_
  refine wpAny_holding ?_
  refine wpAny_bind (wpAny_pyHash_tuple hu1 hx ?_)
  have I1 : Inv X pins σ H { s with toks := s.toks + (k.length + 1) } := I.tok _
  refine putIn (s := { s with toks := s.toks + (k.length + 1) }) R tup hx hu1 few (fun hm b => ?_) fun hm b h' L' es' ep' t' sb R' pm => ?_
  · show wpAny _ _ (ret Value.none) _ _ _
    exact wpAny_pure ⟨_, rfl, q H _ I1 (q1 hm)⟩
  · show wpAny _ _ (ret Value.none) _ _ _
    obtain ⟨o', ho', _⟩ := R'.ob
    have he : ∃ u, h'.get? a = some u := ⟨o', ho'⟩
    exact wpAny_pure ⟨_, rfl, q _ _ (I.write (e := a) (t' := s.toks + (k.length + 1)) (by rw [ha]; trivial) (.inl rfl) (fun b u hb hu => (sb.2 b hb).trans hu) he (kset_new R')) (q2 hm L' pm)⟩
/-- k in s -/
def rKIn (K : PySem.W.Frag) (P : Program) (w : World) : V → V → Hp → VK → Prop := fun x y H Q => ∃ (a b : Addr) (L : List Mem) (k : List Key), x = .ref b ∧ y = .ref a ∧ H a = some (KSetO P w a L) ∧ Mems K H L ∧ SqT K H b (k.map kV) ∧
  (k ∈ L.map (·.2) → Q (.bl true) H) ∧ (k ∉ L.map (·.2) → Q (.bl false) H)
theorem or_kin (hu : X.A.units + 64 < cLine) : OpR X (compareOp .In) (rKIn X.K X.prog X.w) := by
  intro pins s σ H x y v u Q I rx ry h
  obtain ⟨a, b, L, k, rfl, rfl, ha, hm, hb, q1, q2⟩ := h
  cases rx
  cases ry
  obtain ⟨⟨es, ep, t, R⟩, _⟩ := I.hok _ _ ha
  have R : KSet X.prog X.w s.heap a L es ep t := R
  have tup := mems_at I hm
  have hx := tup_of I hb
  obtain ⟨o, ho, hex, hd⟩ := R.ob
  have ty : s.TypeIs (.ref a) "set" := ⟨o, ho, hex.1⟩
  have hu1 : X.A.in1.units < cLine := by show X.A.units + 1 < _; omega
  show wpAny _ _ (do return Value.bool (← contains (.ref a) (.ref b))) _ _ s
  refine wpAny_bind ?_
  unfold contains
  refine wpAny_holding ?_
  refine wpAny_bind (wpAny_specialOf ty F.slot_set_contains.lookup ?_)
  show wpAny _ _ (if (some (Value.builtin "set.__contains__") == some Value.none) = true then _ else _) _ _ s
  rw [if_neg (by rw [beq_builtin_none]; exact Bool.false_ne_true)]
  refine wpAny_bind (wpAny_callSpecialUnlessNone?_slot (name := Str.ofString "__contains__") ty F.slot_set_contains
    (wpAny_call_entry F.slot_set_contains ty entry_set_contains ?_ (F.args_set_contains_2 _ _)))
  unfold Builtin.«frozenset.__contains__» Builtin.Frozenset.oneOther
  simp only [List.isEmpty_nil, bind_assoc]
  unfold Builtin.Frozenset.addrOf Builtin.Frozenset.withSetAsKey setContains
  refine wpAny_bind (wpAny_pure ?_)
  try dsimp only
  refine wpAny_bind (wpAny_pure ?_)
  try dsimp only
  refine wpAny_bind (wpAny_tryCatch ?_)
  refine wpAny_holding ?_
  refine wpAny_bind (wpAny_pyHash_tuple hu1 hx ?_)
  have I1 : Inv X pins σ H { s with toks := s.toks + (k.length + 1) } := I.tok _
  refine wpAny_bind (findIt (s := { s with toks := s.toks + (k.length + 1) }) R tup hx hu1 (fun hk r hr => ?_) fun hk => ?_)
  · refine wpAny_pure ?_
    show wpAny _ _ (ret (Value.bool r.isSome)) _ _ _
    rw [hr]
    exact wpAny_pure ⟨_, rfl, wpAny_truthy_bool (wpAny_pure ⟨.bl true, H, I1, rfl, q1 hk⟩)⟩
  · refine wpAny_pure ?_
    show wpAny _ _ (ret (Value.bool false)) _ _ _
    exact wpAny_pure ⟨_, rfl, wpAny_truthy_bool (wpAny_pure ⟨.bl false, H, I1, rfl, q2 hk⟩)⟩
/-- s.add(t) -/
def tKAdd (K : PySem.W.Frag) (P : Program) (w : World) (to te : TE) : TE := fun σ H Q => to σ H fun x H1 => (∃ a L, x = V.ref a ∧ H1 a = some (KSetO P w a L)) ∧ te σ H1 fun y H2 => ∃ a b, x = .ref a ∧ y = .ref b ∧ rKAdd K P w a b H2 fun H3 => Q .non H3
theorem pe_kadd {o e : Expr} {to te : TE} {apos cpos : Pos} (hu : X.A.units + 64 < cLine) (ho : PE X o to) (he : PE X e te)
    (hbase : attributeBase o "add" X.env (eval o X.env) = eval o X.env := by rfl)
    (hfew : ((backTo cpos (starEach [e] X.env)).all (fun x => !x.1) && (backToKw cpos (keywordEach [] X.env)).all (fun x => x.1.isSome)
      && decide ([e].length + ([] : List Keyword).length + (if ([] : List Keyword).isEmpty then 0 else 1) < 30)) = true := by rfl)
    (hline : (apos.endLine == cpos.line) = true := by rfl) (hs : starEach [e] X.env = (false, eval e X.env) :: starEach [] X.env := by rfl) :
    PE X (.Call (.Attribute o "add" apos) [e] [] cpos) (tKAdd X.K X.prog X.w to te) := by
  refine ⟨fun pins s σ H Q I h => ?_⟩
  refine wpAny_Call_method_late hbase hfew hline rfl (thn (ho.run pins s σ H _ I h) fun v s1 ⟨x, H1, I1, r1, ty, q1⟩ => ?_)
  obtain ⟨a, L, rfl, ha⟩ := ty
  obtain ⟨⟨es, ep, t, R⟩, _⟩ := I1.hok _ _ ha
  have R : KSet X.prog X.w s1.heap a L es ep t := R
  obtain ⟨ob, hob, hex, _⟩ := R.ob
  cases r1
  refine ⟨"set", "set.add", F.plainAttrs_set, F.slot_set_add, F.type_set_add, ⟨ob, hob, hex.1⟩, (fun b e => by cases e; exact ⟨ob, hob, hex.2.1⟩), ?_⟩
  rw [hs]
  refine Calls.callWith_builtin rfl (Calls.evalArgs_plain (Calls.spliced_cons (thn (he.run pins s1 σ H1 _ I1 q1) fun iv s2 ⟨y, H2, I2, ry, a', b, ea, eb, q2⟩ => Calls.spliced_nil ?_)))
  cases ea
  subst eb
  cases ry
  exact kadd hu I2 q2 fun H' s' I' q' => ⟨.non, H', I', rfl, q'⟩
end
end Ct

set_option Elab.async false
set_option linter.all false
set_option maxRecDepth 100000
set_option maxHeartbeats 2000000
/-! Own kit J: {e for x in xs}, e a tuple of keys. -/
namespace Ct
open PySem PySem.Spec PyProof.Rows L2 PpSet
section
variable {X : Cx}
/-- the turns of {e for x in it}, D the new set -/
def tKSc (K : PySem.W.Frag) (P : Program) (w : World) (wi : TI) (g : TG) (te : TE) (vs : List Nat) : TE := fun σ H Q => wi σ H fun J H1 => ∀ D, H1 D = none → ∃ W : Nat → Nat → Hp → Prop, (∃ m, W 0 m (upd H1 D (KSetO P w D []))) ∧ ∀ i m H, W i m H →
  (J.stop i H ∧ Q (.ref D) H) ∨ (J.go i H ∧ ∃ Nx : Hp → Prop, (∀ H', Nx H' → ∃ m', m' < m ∧ W (i + 1) m' H') ∧ ∀ x H', J.yld i H x H' → g x (wipe σ vs) H' fun σ2 H2 => wipe σ2 vs = wipe σ vs ∧
    te σ2 H2 fun y H4 => ∃ b, y = .ref b ∧ rKAdd K P w D b H4 Nx)
theorem ksc_core {pins : List (Addr × Obj)} {s : Shared} {σ : L2.St} {H : Hp} {Q : VK} {elt tg iter : Expr} {scope : Scope} {own : List (PySem.Str × Nat)} {pos pos' : Pos} {wi : TI} {g : TG} {te : TE} {use : Option (Value → Sem Unit)} {Qf : Value → Shared → Prop}
    (hu : X.A.units + 64 < cLine) (hc : X.calm = true) (hN : X.N.Nodup) (I : Inv X pins σ H s) (hi : PI X tg iter wi) (ok : BlkOk X.N X.env.scope scope own)
    (hg : ∀ (s : Shared) (H : Hp) (C : Addr) (cl : List (PySem.Str × Addr)) (fp : List Addr), PG (X.blk s H scope (compEnvC scope cl C X.env) fp) tg g)
    (he : ∀ (s : Shared) (H : Hp) (C : Addr) (cl : List (PySem.Str × Addr)) (fp : List Addr), PE (X.blk s H scope (compEnvC scope cl C X.env) fp) elt te) (hs : ∀ x, foldedSetIterable iter X.env x = pure x)
    (h : tKSc X.K X.prog X.w wi g te (own.map (·.2)) σ H Q)
    (hRR : ∀ D C s' m H', Inv X pins σ H' s' → Q (.ref D) H' → s'.heap.Ns C m → FpOk X pins H' C → compPost (model X.prog X.w) X.A X.xe use Qf (.ref D) C (.ok .next) s') :
    wpAny (model X.prog X.w) X.A (comprehension (.SetComp elt [⟨tg, iter, [], 0⟩] scope pos) scope X.env pos' (newSet (.type "set")) false (eval iter X.env) use) Qf X.xe s := by
  have free : ∀ y ∈ scope.names, y.2 = .free → ∃ c, X.env.cells.lookup y.1 = some c := fun y hy e => (ok.free y hy e).elim (fun k => I.ok.has _ (.inl k)) (fun k => I.ok.has _ (.inr k))
  refine wpAny_comprehension_free (use := use) rfl hs (closure_ok free) ok.kind (fun y hy e => by rw [ok.uniq y hy, e])
    (thn (hi.run pins s σ H _ I h) fun xv s1 hx => thn hx fun itv s2 h2 => ?_)
  obtain ⟨it, fp, tn, J, H2, rfl, I2, T, st2, f2, q⟩ := h2
  refine newSet_ok (newEnv_comp ?_)
  generalize hD : s2.heap.objs.size = D
  obtain ⟨W, ⟨m0, w0⟩, turn⟩ := q D (I2.hok.fresh (Nat.le_of_eq hD))
  generalize hs3 : ({ s2 with heap := s2.heap.push { cls := .type "set", dict := none, data := .set #[] 0 (.fresh 0 0 (!X.w.params.followText "set-order")) } } : Shared) = s3
  have h3 : s3.heap = s2.heap.push { cls := .type "set", dict := none, data := .set #[] 0 (.fresh 0 0 (!X.w.params.followText "set-order")) } := by rw [← hs3]
  have I3 : Inv X pins σ (upd H2 D (KSetO X.prog X.w D [])) s3 := by
    rw [← hs3, ← hD]
    exact I2.laid (t' := s2.toks) (fun b o e => Heap.get?_push_of_some _ e) (Nat.le_refl _) (kset_new (kset_fresh (Heap.get?_push_size _ rfl)))
  have kp3 : ∀ b ∈ fp, ∀ o, s2.heap.get? b = some o → s3.heap.get? b = some o := fun b _ o e => by rw [h3]; exact Heap.get?_push_of_some _ e
  have st3 : tn 0 s3.heap := T.keep _ _ _ st2 kp3
  have f3 : ∀ b ∈ fp, FpOk X pins (upd H2 D (KSetO X.prog X.w D [])) b ∧ b < s3.heap.objs.size := fun b hb => by
    obtain ⟨o, e, _⟩ := T.obj _ _ st2 b hb
    have lt : b < s2.heap.objs.size := Heap.lt_size e
    exact ⟨⟨by rw [upd_ne (by rw [← hD]; exact Nat.ne_of_lt lt)]; exact (f2 b hb).1, (f2 b hb).2⟩, by rw [h3, Heap.size_push]; exact Nat.lt_succ_of_lt lt⟩
  have I4 := block_start I3 ok hN f3
  have pg := hg s3 (upd H2 D (KSetO X.prog X.w D [])) s3.heap.objs.size (cellsFrom (s3.heap.objs.size + 1) scope.names (cloFrom X.env.cells scope.names [])) fp
  have pe := he s3 (upd H2 D (KSetO X.prog X.w D [])) s3.heap.objs.size (cellsFrom (s3.heap.objs.size + 1) scope.names (cloFrom X.env.cells scope.names [])) fp
  show codeAny _ _ (.compStart (.SetComp elt [⟨tg, iter, [], 0⟩] scope pos) 0 (.ref it) (.ref D) (compEnvC scope (cellsFrom (s3.heap.objs.size + 1) scope.names (cloFrom X.env.cells scope.names [])) s3.heap.objs.size X.env)) (compPost (model X.prog X.w) X.A X.xe use Qf (.ref D) s3.heap.objs.size) { s3 with heap := pushCells (s3.heap.push { cls := .type "dict", data := .dict #[] }) scope.names }
  generalize hce : compEnvC scope (cellsFrom (s3.heap.objs.size + 1) scope.names (cloFrom X.env.cells scope.names [])) s3.heap.objs.size X.env = ce at I4 pg pe ⊢
  have cL : ce.locals = s3.heap.objs.size := by subst hce; rfl
  have nfp : ∀ b ∈ fp, (upd H2 D (KSetO X.prog X.w D [])) b = none := fun b hb => (f3 b hb).1.1
  generalize upd H2 D (KSetO X.prog X.w D []) = H3 at I3 I4 pg pe w0 nfp f3
  generalize hs4 : ({ s3 with heap := pushCells (s3.heap.push { cls := .type "dict", data := .dict #[] }) scope.names } : Shared) = s4 at I4 ⊢
  have st4 : tn 0 s4.heap := T.keep _ _ _ st3 fun b _ o e => by rw [← hs4]; exact pushCells_keeps _ _ _ _ (Heap.get?_push_of_some _ e)
  have foot : ∀ {σ' : L2.St} {H' : Hp} {s' : Shared}, Inv (X.blk s3 H3 scope ce fp) [] σ' H' s' → (∀ b ∈ fp, H' b = none) → ∀ b ∈ fp, FpOk (X.blk s3 H3 scope ce fp) [] H' b := fun {σ' H' s'} I' hn b hb =>
    ⟨hn b hb, (I'.ok.exf b hb).1, I'.ok.exfs b hb, .inl hb, fun x c e => (I'.ok.exf b hb).2 x c e, fun p hp => absurd (show p ∈ ([] : List (Addr × Obj)) ++ [] from hp) (by simp)⟩
  have loop : codeAny (model X.prog X.w) X.A (.compLoop (.SetComp elt [⟨tg, iter, [], 0⟩] scope pos) 0 (.ref it) (.ref D) ce) (compPost (model X.prog X.w) X.A X.xe use Qf (.ref D) s3.heap.objs.size) s4 := by
    refine compLoopS_any (fun n s' => ∃ i H', Inv (X.blk s3 H3 scope ce fp) [] (wipe σ (own.map (·.2))) H' s' ∧ tn i s'.heap ∧ (∀ b ∈ fp, H' b = none) ∧ W i n H') ?_ m0 ⟨0, H3, I4, st4, nfp, w0⟩
    rintro n s5 ⟨i, H5, I5, st5, n5, w5⟩
    rcases turn i n H5 w5 with ⟨stop, qq⟩ | ⟨go, Nx, hNx, step⟩
    · refine thnF (T.done (X.blk s3 H3 scope ce fp) rfl rfl rfl hc i [] s5 _ H5 (fun _ _ => False) I5 (foot I5 n5) st5 stop) fun r s6 ⟨hr, I6⟩ => ?_
      subst hr
      have I7 : Inv X pins σ H5 s6 := I3.call' (ch := fp) I6.os I6.base I6.hok I6.bare fun b hb => ⟨(f3 b hb).1.2.2.2.1, (f3 b hb).1.2.1, (f3 b hb).1.2.2.2.2.1, (f3 b hb).1.2.2.2.2.2⟩
      have nC : H5 s3.heap.objs.size = none := cL ▸ (I6.free : H5 ce.locals = none)
      obtain ⟨m, hn, _⟩ := I6.loc
      exact hRR D s3.heap.objs.size s6 m H5 I7 qq (cL ▸ (hn : s6.heap.Ns ce.locals m)) (I3.fpOk (Nat.le_refl _) nC)
    · refine thnF (T.item (X.blk s3 H3 scope ce fp) rfl rfl rfl hc i [] s5 _ H5 (fun _ _ => False) I5 (foot I5 n5) st5 go) fun r s6 ⟨u, hr, h6⟩ => ?_
      subst hr
      refine thnF h6 fun _ s7 ⟨x, H7, I7, r7, y7, st7, n7⟩ => ?_
      refine thnF (pg.run _ s7 _ H7 x u _ (I7.pinned (foot I7 n7) (T.obj _ _ st7)) r7 (step x H7 y7)) fun _ s8 ⟨σ8, H8, I8, hw8, q8⟩ => ?_
      have fin : ∀ {s' : Shared} {H' : Hp}, Inv (X.blk s3 H3 scope ce fp) ([] ++ pinsAt fp s7.heap) σ8 H' s' → Nx H' → ∃ m, m < n ∧ ∃ i H', Inv (X.blk s3 H3 scope ce fp) [] (wipe σ (own.map (·.2))) H' s' ∧ tn i s'.heap ∧ (∀ b ∈ fp, H' b = none) ∧ W i m H' := fun {s' H'} I' nx => by
        obtain ⟨m', hm, w'⟩ := hNx H' nx
        have pin' : ∀ b ∈ fp, ∀ o, s7.heap.get? b = some o → s'.heap.get? b = some o ∧ H' b = none := fun b hb o e =>
          let z := I'.pin (b, o) (List.mem_append_right _ (List.mem_append_right _ (mem_pinsAt hb e)))
          ⟨z.1, z.2.1⟩
        refine ⟨m', hm, i + 1, H', (I'.unpinned (pins := [])).weak (by rw [← hw8, wipe_length]) (fun j v e => ?_), T.keep _ _ _ st7 fun b hb o e => (pin' b hb o e).1, fun b hb => ?_, w'⟩
        · rw [← hw8] at e
          exact (wipe_some e).1
        · obtain ⟨o, e, _⟩ := T.obj _ _ st7 b hb
          exact (pin' b hb o e).2
      show wpAny _ _ (pure true) _ _ s8
      refine wpAny_pure ?_
      simp only [if_true]
      refine thnF (pe.run _ s8 σ8 H8 _ I8 q8) fun z s10 ⟨yv, H10, I10, r10, b, ey, ad⟩ => ?_
      subst ey
      cases (show z = Value.ref b from r10)
      exact kadd (X := X.blk s3 H3 scope ce fp) hu I10 ad fun H' s' I' nx => fin I' nx
  exact codeAny_compStart_set loop (T.self X.A 0 _ _ _ st4 loop)
/-- as a value -/
theorem pe_ksc {elt tg iter : Expr} {scope : Scope} {own : List (PySem.Str × Nat)} {pos : Pos} {wi : TI} {g : TG} {te : TE} (hu : X.A.units + 64 < cLine) (hc : X.calm = true) (hN : X.N.Nodup) (hi : PI X tg iter wi) (ok : BlkOk X.N X.env.scope scope own)
    (hg : ∀ (s : Shared) (H : Hp) (C : Addr) (cl : List (PySem.Str × Addr)) (fp : List Addr), PG (X.blk s H scope (compEnvC scope cl C X.env) fp) tg g)
    (he : ∀ (s : Shared) (H : Hp) (C : Addr) (cl : List (PySem.Str × Addr)) (fp : List Addr), PE (X.blk s H scope (compEnvC scope cl C X.env) fp) elt te) (hs : ∀ x, foldedSetIterable iter X.env x = pure x := by intro _; rfl) :
    PE X (.SetComp elt [⟨tg, iter, [], 0⟩] scope pos) (tKSc X.K X.prog X.w wi g te (own.map (·.2))) := by
  refine ⟨fun pins s σ H Q I h => ?_⟩
  rw [eval_SetComp]
  refine ksc_core hu hc hN I hi ok hg he hs h fun D C s' m H' I' q hn f => ⟨m, hn, fun h'' sb => ?_⟩
  obtain ⟨f0, f1, f2, f3, f4, f5⟩ := f
  exact ⟨.ref D, H', I'.turned (t' := s'.toks) (fun b o hb e => (sb.2 b hb).trans e) f0 f1 f3 f4 f5, rfl, q⟩
/-- y = {e for x in xs} -/
theorem ps_setKsc {i : Nat} {y : PySem.Str} {py : Pos} {elt tg iter : Expr} {scope : Scope} {own : List (PySem.Str × Nat)} {pos spos : Pos} {wi : TI} {g : TG} {te : TE} (hu : X.A.units + 64 < cLine) (hc : X.calm = true) (hN : X.N.Nodup) (hy : X.N[i]? = some y) (hyl : X.env.scope.names.lookup y = some .local)
    (hsw : swapsWith (.SetComp elt [⟨tg, iter, [], 0⟩] scope pos) (some (.Name y py)) spos.line X.env = pure true) (hi : PI X tg iter wi) (ok : BlkOk X.N X.env.scope scope own)
    (hg : ∀ (s : Shared) (H : Hp) (C : Addr) (cl : List (PySem.Str × Addr)) (fp : List Addr), PG (X.blk s H scope (compEnvC scope cl C X.env) fp) tg g)
    (he : ∀ (s : Shared) (H : Hp) (C : Addr) (cl : List (PySem.Str × Addr)) (fp : List Addr), PE (X.blk s H scope (compEnvC scope cl C X.env) fp) elt te) (hs : ∀ x, foldedSetIterable iter X.env x = pure x := by intro _; rfl) :
    PS X (.Assign [.Name y py] (.SetComp elt [⟨tg, iter, [], 0⟩] scope pos) spos) (tAsg (tKSc X.K X.prog X.w wi g te (own.map (·.2))) (gName i)) := by
  refine ⟨fun pins s σ H D I h => ?_⟩
  rw [exec_Assign_Name_used _ _ _ _ hsw]
  refine wpAny_bind (wpAny_standAt (wpAny_bind ?_))
  show wpAny _ X.A (do let _ ← comprehension (.SetComp elt [⟨tg, iter, [], 0⟩] scope pos) scope X.env (firstIterPos [⟨tg, iter, [], 0⟩] pos) (newSet (.type "set")) false (eval iter X.env) (some (assign (.Name y py) X.env))) _ _ s
  have q : tKSc X.K X.prog X.w wi g te (own.map (·.2)) σ H (fun x H1 => gName i x σ H1 D.nx) := h
  refine wpAny_bind (thn (ksc_core (Qf := fun _ s' => SP X pins D .next s') hu hc hN I hi ok hg he hs q fun L C s' m H' I' q hn f => ?_) fun _ s' hq => wpAny_pure (wpAny_pure hq))
  show wpAny _ _ (assign (.Name y py) X.env (.ref L)) _ _ _
  refine wpAny_assign_Name (store_ok2 (v := V.ref L) I' hN hy (.inl hyl) rfl (fun s2 I2 ⟨a, sb, ha⟩ => ?_) (.inr hyl))
  obtain ⟨f0, f1, f2, f3, f4, f5⟩ := f
  have ne : C ≠ a := ha.elim (fun z => z ▸ f1) (fun z e => f4 y a z e.symm)
  exact ⟨m, hn.sameBut sb ne, fun h3 sb3 => ⟨_, H', I2.turned (t' := s2.toks) (fun b o hb e => (sb3.2 b hb).trans e) f0 f1 f3 f4 f5, q⟩⟩
theorem sw_setc {elt : Expr} {gs : List Comprehension} {scope : Scope} {pos py : Pos} {y : PySem.Str} {l : Nat} {env : Env} (hk : env.scope.kind = .function) (hy : env.scope.names.lookup y = some .local) (hl : (py.line == pos.line) = true)
    (ha : (scope.names.any fun (n, k) => n == y && (k == .local || k == .cell)) = false) : swapsWith (.SetComp elt gs scope pos) (some (.Name y py)) l env = pure true := by
  have ky : env.kindOf y = some .local := hy
  have hb : env.blockKind = .function := by unfold Env.blockKind; rw [hk]; rfl
  unfold swapsWith
  simp only [hb, ky, ha, Expr.pos, hl]
  rfl
end
end Ct

set_option Elab.async false
set_option linter.all false
set_option maxRecDepth 100000
set_option maxHeartbeats 4000000
/-! Own kit K: set(xs) of any number of texts and ints, its len. -/
namespace Ct
open PySem PySem.Spec PyProof.Rows L2
/-- how many of the first i are new -/
def cnt (ks : List Key) : Nat → Nat
  | 0 => 0
  | i + 1 => cnt ks i + (if (ks.take i).any (fun j => decide (j = ks.getD i (.inl 0))) = true then 0 else 1)
theorem cnt_le (ks : List Key) : ∀ i, cnt ks i ≤ i
  | 0 => Nat.le_refl _
  | i + 1 => by
    have := cnt_le ks i
    unfold cnt
    split <;> omega
theorem any_mem {ks : List Key} {k : Key} : ks.any (fun j => decide (j = k)) = true ↔ k ∈ ks := by
  rw [List.any_eq_true]
  exact ⟨fun ⟨j, hj, e⟩ => (of_decide_eq_true e) ▸ hj, fun h => ⟨k, h, decide_eq_true rfl⟩⟩
theorem take_next' {ks : List Key} {i : Nat} (h : i < ks.length) : ks.take (i + 1) = ks.take i ++ [ks.getD i (.inl 0)] := by
  rw [List.take_succ, List.getElem?_eq_getElem h, List.getD_eq_getElem?_getD, List.getElem?_eq_getElem h]; rfl
theorem cnt_eq (ks : List Key) : ∀ i, i ≤ ks.length → (cnt ks i = i ↔ (ks.take i).Nodup)
  | 0, _ => by simp [cnt]
  | i + 1, hi => by
    have ih := cnt_eq ks i (Nat.le_of_lt hi)
    have le := cnt_le ks i
    rw [take_next' hi, List.nodup_append]
    unfold cnt
    by_cases c : ks.getD i (.inl 0) ∈ ks.take i
    · rw [if_pos (any_mem.mpr c)]
      exact ⟨fun z => by omega, fun z => absurd rfl (z.2.2 _ c _ (List.mem_singleton.mpr rfl))⟩
    · rw [if_neg (fun z => c (any_mem.mp z))]
      constructor
      · intro z
        refine ⟨ih.mp (by omega), List.nodup_cons.mpr ⟨by simp, List.nodup_nil⟩, fun a ha b hb e => ?_⟩
        rw [List.mem_singleton.mp hb] at e
        exact c (e ▸ ha)
      · intro z
        have := ih.mpr z.1
        omega
section
variable {prog : Program} {w : World} {A : Around} {R : Result → Shared → Prop} {I : Addr} {fp wr : List Addr} {G : Array GenState → Array GenState → Prop} {n : Nat} {P : Nat → Value → Prop} {St : Nat → Shared → Prop}
theorem set_turns (W : WalksS prog w A.in1 I fp wr G n P St) (S : Addr) (hS : S ∉ fp) (ks : List Key) (hn : ks.length = n) (hb : n < scanBound) (hv : ∀ i v, P i v → (mixKind prog w).is (ks.getD i (.inl 0)) v = true) :
    ∀ (j i : Nat) (s : Shared), n - i = j → i ≤ n → St i s → s.heap.SetOf (mixKind prog w) S (fun k => (ks.take i).any (fun j => decide (j = k))) (cnt ks i) →
      (∀ s', Moved (S :: wr) G s s' → s'.heap.SetOf (mixKind prog w) S (fun k => (ks.take n).any (fun j => decide (j = k))) (cnt ks n) → R (.ok (.ret .none)) s') →
      codeAny (model prog w) A (.builtin "set.update.loop" ⟨[.ref S, .ref I], []⟩) R s := by
  have hSw : S ∉ wr := fun h => hS (W.sub _ h)
  have sub : ∀ b ∈ wr, b ∈ S :: wr := fun b h => List.mem_cons_of_mem _ h
  intro j
  induction j with
  | zero =>
    intro i s hj hi st h0 q
    obtain rfl : i = n := by omega
    refine codeAny_builtin F.entry_set_update_loop ?_
    rw [Around.under_plainId F.plain_set_update_loop _]
    show wpAny _ A.in1 (pyNext (.ref I) >>= _) _ _ s
    refine wpAny_bind (W.done s _ _ st fun s' hm => ?_)
    show wpAny _ A.in1 (ret Value.none) _ _ s'
    exact wpAny_pure (q s' (hm.mono sub) (setOf_at h0 fun o e => hm.heap S o hSw e))
  | succ j ih =>
    intro i s hj hi st h0 q
    have lt : i < n := by omega
    refine codeAny_builtin F.entry_set_update_loop ?_
    rw [Around.under_plainId F.plain_set_update_loop _]
    show wpAny _ A.in1 (pyNext (.ref I) >>= _) _ _ s
    refine wpAny_bind (W.item i s _ _ lt st fun v s' hP st' hm => ?_)
    have kv := hv i v hP
    have sc : v.scannable = true := key_scan' kv
    have h1 := setOf_at h0 fun o e => hm.heap S o hSw e
    show wpAny _ A.in1 (holding [v] (setAdd S v) >>= _) _ _ s'
    refine wpAny_bind (wpAny_holding ?_)
    unfold setAdd
    refine wpAny_holding ?_
    refine wpAny_bind ((mixKind prog w).pyHash kv ?_)
    have room : cnt ks i + 1 < scanBound := by have := cnt_le ks i; omega
    refine wpAny_setAddHashed_of (knd := mixKind prog w) (s := { s' with toks := s'.toks + 1 }) kv sc h1 room fun h' sb h2 => ?_
    have h3 : h'.SetOf (mixKind prog w) S (fun k => (ks.take (i + 1)).any (fun j => decide (j = k))) (cnt ks (i + 1)) := by
      have e1 : (fun k => (ks.take (i + 1)).any (fun j => decide (j = k))) = fun k => (ks.take i).any (fun j => decide (j = k)) || decide (k = ks.getD i (.inl 0)) := by
        funext k
        rw [take_next' (by omega), List.any_append]
        congr 1
        simp only [List.any_cons, List.any_nil, Bool.or_false]
        exact decide_eq_decide.mpr eq_comm
      have e2 : cnt ks (i + 1) = if (ks.take i).any (fun j => decide (j = ks.getD i (.inl 0))) = true then cnt ks i else cnt ks i + 1 := by
        show cnt ks i + _ = _
        split <;> rfl
      rw [e1, e2]
      exact h2
    refine wpAny_pure ⟨plainId_quiet F.plain_set_update_loop _, ih (i + 1) _ (by omega) lt (W.frame _ s' _ _ st' (Nat.le_succ _) fun b hb o e => ?_) h3 fun s'' hm2 h4 => ?_⟩
    · rw [sb.2 b (fun h : b = S => hS (h ▸ hb))]; exact e
    · refine q s'' (Moved.trans W.gtrans ((hm.mono sub).then_heap (Nat.le_succ _) fun b o hb e => ?_) hm2) h4
      rw [sb.2 b (fun h : b = S => hb (h ▸ List.mem_cons_self))]; exact e
end
/-- what is asked of the walked thing: its type, what its iterator is -/
structure Walked (prog : Program) (w : World) (A : Around) (T : String) (IT : String) (ob : Obj) (l : Addr) (items : Array Value) : Prop where
  cls : ob.cls = .type T
  s1 : isSubtype (.type T) (.type "set") = pure false
  s2 : isSubtype (.type T) (.type "frozenset") = pure false
  nd : (Value.type T == Value.type "dict") = false
  iter : ∀ (A : Around) (E : Value → Shared → Prop) (s : Shared) (Q : Value → Shared → Prop), s.heap.get? l = some ob → Q (.ref s.heap.objs.size) { s with heap := s.heap.push { cls := .type IT, data := .fields #[.ref l, .int 0 0] } } → wpAny (model prog w) A (pyIter (.ref l)) Q E s
  walk : ∀ (A : Around), A.handled = none → ∀ it, l ≠ it → ∃ St : Nat → Heap → Prop, Walks prog w A it [it, l] [it] items.size (fun i v => items[i]? = some v) St ∧ ∀ h, h.get? l = some ob → h.get? it = some { cls := .type IT, data := .fields #[.ref l, .int 0 0] } → St 0 h
section
variable {prog : Program} {w : World} {A : Around} {E : Value → Shared → Prop} {s : Shared}
theorem set_call {T IT : String} {ob : Obj} {l : Addr} {items : Array Value} {ks : List Key} {Q : Value → Shared → Prop} (hh : A.handled = none) (Wk : Walked prog w A T IT ob l items) (hl : s.heap.get? l = some ob) (hn : ks.length = items.size) (hb : items.size < scanBound)
    (hv : ∀ i v, items[i]? = some v → (mixKind prog w).is (ks.getD i (.inl 0)) v = true)
    (h : ∀ (h' : Heap) (tk : Nat), h'.SetOf (mixKind prog w) s.heap.objs.size (fun k => ks.any (fun j => decide (j = k))) (cnt ks ks.length) →
      (∀ b o, b < s.heap.objs.size → s.heap.get? b = some o → h'.get? b = some o) → Q (.ref s.heap.objs.size) { s with heap := h', toks := tk }) :
    wpAny (model prog w) A (call (.type "set") [.ref l]) Q E s := by
  obtain ⟨c, tl, hmro⟩ := PySem.F.called_set.mro
  have hmade := PySem.F.called_set.made
  have hsub := PySem.F.called_set.sub
  refine wpAny_call (codeAny_of_tree ?_)
  show wpAny _ _ (callAny (.type "set") _) _ _ _
  refine wpAny_pure ⟨Code.quiet_builtin _ (by decide +kernel), codeAny_builtin PySem.F.entry_type_call ?_⟩
  rw [Around.under_plain (weight_type_call_type "set" [.ref l] []) rfl]
  have h1 := PySem.F.called_set.notType
  have h2 := PySem.F.called_set.canCreate
  have hct := PySem.F.typeCall_set_1 (.ref l)
  repeat (any_goals (first | assumption | wp_step))
  refine codeAny_mono (code_set_new_1 (.ref l) (E := E) (Q₁ := fun obj s₁ => ∃ led : Bool, obj = .ref s.heap.objs.size ∧ s₁ = { s with heap := s.heap.push { cls := .type "set", dict := none, data := .set #[] 0 (.fresh 0 0 led) } }) fun led => ⟨led, rfl, rfl⟩) fun r s₁ hr => ?_
  match r, hr with
  | .error e, hr => exact hr
  | .ok .next, hr => exact hr.elim
  | .ok .brk, hr => exact hr.elim
  | .ok .cont, hr => exact hr.elim
  | .ok (.ret obj), hr =>
    obtain ⟨led, rfl, rfl⟩ := hr
    have hS : (s.heap.push { cls := .type "set", dict := none, data := .set #[] 0 (.fresh 0 0 led) }).get? s.heap.objs.size = some { cls := .type "set", dict := none, data := .set #[] 0 (.fresh 0 0 led) } := Heap.get?_push_size _ rfl
    have hT : Shared.TypeIs { s with heap := s.heap.push { cls := .type "set", dict := none, data := .set #[] 0 (.fresh 0 0 led) } } (.ref s.heap.objs.size) "set" := ⟨_, hS, rfl⟩
    have hli := PySem.F.called_set.init.lookup
    have hbi := PySem.F.called_set.init.bind (.ref s.heap.objs.size)
    repeat (any_goals (first | assumption | wp_step))
    refine codeAny_mono (codeAny_call_builtin (R := wants (fun r s₂ => r = .none ∧ ∃ h' tk, s₂ = { s with heap := h', toks := tk } ∧
        h'.SetOf (mixKind prog w) s.heap.objs.size (fun k => ks.any (fun j => decide (j = k))) (cnt ks ks.length) ∧
        (∀ b o, b < s.heap.objs.size → s.heap.get? b = some o → h'.get? b = some o)) E) PySem.F.called_set.init.plain PySem.F.entry_set_init (check_set_init_1 hT ?_)) fun r₂ s₂ hr₂ => ?_
    · have hl1 : (s.heap.push { cls := .type "set", dict := none, data := .set #[] 0 (.fresh 0 0 led) }).get? l = some ob := Heap.get?_push_of_some _ hl
      have it := Wk.iter
      have wk := Wk.walk
      obtain ⟨ocls, odict, odata, oslots⟩ := ob
      have hcl := Wk.cls
      dsimp only at hcl
      subst hcl
      have hsls := Wk.s1
      have hslf := Wk.s2
      have hne := Wk.nd
      unfold Builtin.«set.__init__» noKeywords Builtin.Frozenset.updateFrom
      generalize hPI : pyIter = PI
      wp_walk
      subst hPI
      refine it _ _ _ _ hl1 ?_
      refine wpAny_bind (wpAny_runValue ?_)
      have hlS : l < s.heap.objs.size := Heap.lt_size hl
      have hneI : l ≠ (s.heap.push { cls := .type "set", dict := none, data := .set #[] 0 (.fresh 0 0 led) }).objs.size := by
        rw [Heap.size_push]; exact Nat.ne_of_lt (Nat.lt_succ_of_lt hlS)
      have hSf : s.heap.objs.size ∉ [(s.heap.push { cls := .type "set", dict := none, data := .set #[] 0 (.fresh 0 0 led) }).objs.size, l] := by
        rw [Heap.size_push]; simp only [List.mem_cons, List.not_mem_nil, or_false, not_or]
        exact ⟨Nat.ne_of_lt (Nat.lt_succ_self _), Nat.ne_of_gt hlS⟩
      obtain ⟨St, W, st0⟩ := wk A.in1.in1.in1 (by simp [hh]) _ hneI
      refine set_turns W.toS s.heap.objs.size hSf ks hn hb hv (items.size - 0) 0 _ rfl (Nat.zero_le _) (st0 _ (Heap.get?_push_of_some _ hl1) (Heap.get?_push_size _ rfl)) ?_ ?_
      · exact ⟨_, #[], 0, _, Heap.get?_push_of_some _ hS, ⟨rfl, rfl, rfl⟩, rfl, (fun e he => by simp at he), (fun k => by simp), (by decide), (by rfl), rfl⟩
      · intro s' hm hS'
        obtain ⟨h', g', d', tk', os'⟩ := s'
        have eg : g' = s.gens := hm.gens
        have ed : d' = s.drawn := hm.drawn
        have eo : os' = s.os := hm.os
        subst eg; subst ed; subst eo
        show wpAny _ _ _ _ _ _
        refine wpAny_pure ?_
        show wpAny _ _ (ret Value.none) _ _ _
        rw [← hn, List.take_length] at hS'
        refine wpAny_pure ⟨rfl, h', tk', rfl, hS', fun b o hb e => ?_⟩
        refine hm.heap b o ?_ (Heap.get?_push_of_some _ (Heap.get?_push_of_some _ e))
        simp only [List.mem_cons, List.not_mem_nil, or_false, not_or, Heap.size_push]
        exact ⟨Nat.ne_of_lt hb, Nat.ne_of_lt (Nat.lt_succ_of_lt hb)⟩
    · match r₂, hr₂ with
      | .error e, hr₂ => exact hr₂
      | .ok .next, hr₂ => exact hr₂.elim
      | .ok .brk, hr₂ => exact hr₂.elim
      | .ok .cont, hr₂ => exact hr₂.elim
      | .ok (.ret r), hr₂ =>
        obtain ⟨rfl, h', tk, rfl, hS', hk'⟩ := hr₂
        repeat (any_goals (first | assumption | wp_step))
        exact h _ _ hS' hk'
theorem walked_list {ob : Obj} {l : Addr} {items : Array Value} {n : Nat} (hc : ob.cls = .type "list") (hd : ob.data = .seq items n) : Walked prog w A "list" "list_iterator" ob l items where
  cls := hc
  s1 := PySem.F.sub_list_set
  s2 := PySem.F.sub_list_frozenset
  nd := by decide
  iter := fun A E s Q ho q => wpAny_pyIter_list ⟨ob, ho, hc, n, hd⟩ q
  walk := fun A hh it ne => ⟨_, Walks.list hh it l ne items, fun h h1 h2 => ⟨⟨_, h2, rfl, rfl⟩, ⟨ob, h1, hc, n, hd⟩⟩⟩
theorem walked_tup {ob : Obj} {l : Addr} {items : Array Value} {n : Nat} (hc : ob.cls = .type "tuple") (hd : ob.data = .seq items n) : Walked prog w A "tuple" "tuple_iterator" ob l items where
  cls := hc
  s1 := PySem.F.sub_tuple_set
  s2 := PySem.F.sub_tuple_frozenset
  nd := by decide
  iter := fun A E s Q ho q => wpAny_pyIter_tuple ⟨ob, ho, hc, n, hd⟩ q
  walk := fun A hh it ne => ⟨_, Walks.tuple hh it l ne items, fun h h1 h2 => ⟨⟨_, h2, rfl, rfl⟩, ⟨ob, h1, hc, n, hd⟩⟩⟩
end
section
variable {X : Cx}
/-- set(xs), xs a list or tuple of ints and texts -/
def rSetOf (K : PySem.W.Frag) (P : Program) (w : World) : List V → Hp → VK → Prop := fun xs H Q => ∃ (a : Addr) (ks : List Key), xs = [.ref a] ∧ (SqL K H a (ks.map kV) ∨ SqT K H a (ks.map kV)) ∧ ks.length < scanBound ∧
  ∀ p, H p = none → Q (.ref p) (upd H p (SetK P w p (fun k => ks.any (fun j => decide (j = k))) (cnt ks ks.length)))
theorem keys_at {P : Program} {w : World} {ks : List Key} {its : List Value} (r : Vals (ks.map kV) its) : ∀ (i : Nat) (v : Value), its.toArray[i]? = some v → (mixKind P w).is (ks.getD i (.inl 0)) v = true := fun i v e => by
  have e : its[i]? = some v := by simpa using e
  have hi : i < ks.length := by
    have h1 := (List.getElem?_eq_some_iff.mp e).1
    have h2 := r.length
    rw [List.length_map] at h2
    omega
  obtain ⟨u, e2, rv⟩ := r.get (i := i) (x := kV ks[i]) (by rw [List.getElem?_map, List.getElem?_eq_getElem hi]; rfl)
  rw [e] at e2
  cases e2
  rw [List.getD_eq_getElem?_getD, List.getElem?_eq_getElem hi]
  exact kV_is rv
theorem call_setOf (hc : X.calm = true) : CallR X (.type "set") (rSetOf X.K X.prog X.w) := by
  intro pins s σ H xs us Q I r h
  obtain ⟨a, ks, rfl, ha, hb, q⟩ := h
  obtain ⟨u, rfl, ru⟩ := vals1 r
  cases (show u = Value.ref a from ru)
  have hh := I.ok.hd hc
  have fin : ∀ (h' : Heap) (tk : Nat), h'.SetOf (mixKind X.prog X.w) s.heap.objs.size (fun k => ks.any (fun j => decide (j = k))) (cnt ks ks.length) →
      (∀ b o, b < s.heap.objs.size → s.heap.get? b = some o → h'.get? b = some o) → EP X pins σ Q (.ref s.heap.objs.size) { s with heap := h', toks := tk } := fun h' tk hS kp =>
    ⟨.ref _, _, I.laid (t' := tk) (fun b o e => kp b o (Heap.lt_size e) e) (Nat.le_refl _) (setK_new hS), rfl, q _ (I.hok.fresh (Nat.le_refl _))⟩
  rcases ha with ha | ha
  · obtain ⟨its, rv, pl, hz⟩ := I.list ha
    obtain ⟨ob, ho, hcl, n, hd⟩ := pl.isList
    have hl := rv.length
    rw [List.length_map] at hl
    exact set_call hh (walked_list hcl hd) ho (by rw [List.size_toArray]; exact hl) (by rw [List.size_toArray, ← hl]; exact hb) (keys_at rv) fin
  · obtain ⟨its, rv, ⟨ob, ho, hcl, n, hd⟩, hz⟩ := I.tuple ha
    have hl := rv.length
    rw [List.length_map] at hl
    exact set_call hh (walked_tup hcl hd) ho (by rw [List.size_toArray]; exact hl) (by rw [List.size_toArray, ← hl]; exact hb) (keys_at rv) fin
/-- len(s) -/
def rLenK (P : Program) (w : World) : List V → Hp → VK → Prop := fun xs H Q => ∃ (a : Addr) (S : Key → Bool) (n : Nat), xs = [.ref a] ∧ H a = some (SetK P w a S n) ∧ Q (.int n) H
theorem call_lenK : CallR X (.builtin "len") (rLenK X.prog X.w) := by
  intro pins s σ H xs us Q I r h
  obtain ⟨a, S, n, rfl, ha, q⟩ := h
  obtain ⟨u, rfl, ru⟩ := vals1 r
  cases (show u = Value.ref a from ru)
  obtain ⟨o, es, ep, t, ho, hex, hd, _, _, hb, hf, hn⟩ := setK_get I ha
  refine call_len_set ho hex hd hf (by unfold scanBound at hb; omega) ⟨.int n, H, I.tok _, ⟨_, by rw [hn]⟩, q⟩
end
end Ct

set_option Elab.async false
set_option linter.all false
set_option maxRecDepth 100000
set_option maxHeartbeats 4000000
/-! Own kit L: sorted of lists and tuples of texts, and of pairs of texts, any length. -/
namespace Ct
open PySem PySem.Spec PySem.Calls PyProof.Rows L2
section
variable {prog : Program} {w : World} {A : Around} {E : Value → Shared → Prop} {s : Shared}
theorem collect_tuple {l : Addr} {vs : List Value} {Q : List Value → Shared → Prop} (hl : s.heap.IsTuple l vs.toArray) (hz : vs.length ≤ sizeLine)
    (h : Q vs { s with heap := (s.heap.push (seqObj "list" #[] 0)).update s.heap.objs.size (Obj.mapSeq (· ++ vs.toArray)) }) : wpAny (model prog w) A (collect (.ref l)) Q E s := by
  obtain ⟨o, ho, hc, n, hd⟩ := id hl
  unfold collect
  refine wpAny_bind (wpAny_runValue (codeAny_builtin entry_proto_collect' ?_))
  show wpAny _ _ (do again (.builtin "list.__iadd__" ⟨[← newList [], .ref l], []⟩)) _ _ s
  refine wpAny_bind (wpAny_newList (wpAny_pure ⟨Code.quiet_builtin _ (by decide +kernel), codeAny_builtin entry_list_iadd' ?_⟩))
  show wpAny _ _ (Builtin.List.listExtendWith (.ref s.heap.objs.size) (.ref l) (.ref s.heap.objs.size)) _ _ { s with heap := s.heap.push (seqObj "list" #[] 0) }
  unfold Builtin.List.listExtendWith
  have ho' : (s.heap.push (seqObj "list" #[] 0)).get? l = some o := Heap.get?_push_of_some _ ho
  have hn := Heap.get?_push_size (h := s.heap) (o := seqObj "list" #[] 0) rfl
  refine wpAny_bind (wpAny_typeOf (T := "tuple") ⟨o, ho', hc⟩ ?_)
  rw [if_pos (by rw [show (Value.type "tuple" == Value.type "tuple") = true from rfl, Bool.or_true])]
  refine wpAny_bind (listItems_at ho' hd ?_)
  refine wpAny_bind (listItems_at (xs := #[]) (n := 0) hn rfl ?_)
  rw [if_neg (by simp)]
  refine wpAny_bind (listUpdate_at (xs := #[]) (n := 0) hn rfl ?_ (Nat.zero_le _) (by show (#[] ++ vs.toArray).size ≤ sizeLine + 1; simp only [Array.size_append, List.size_toArray, List.length_nil]; omega))
  refine wpAny_pure ?_
  show wpAny (model prog w) A (do
      let o ← load s.heap.objs.size
      match o.data with
      | .seq xs _ => pure xs.toList
      | _ => unsupported "internal:collect") Q E { s with heap := (s.heap.push (seqObj "list" #[] 0)).update s.heap.objs.size (Obj.mapSeq (· ++ vs.toArray)) }
  refine wpAny_bind (wpAny_load (get?_update_seq hn _) ?_)
  show wpAny _ _ (pure ((#[] : Array Value) ++ vs.toArray).toList) Q E _
  rw [show ((#[] : Array Value) ++ vs.toArray).toList = vs by simp]
  exact wpAny_pure h
variable {β : Type} {vs : List Value} {bs : List β} {enc : β → PyData} {R : Value → β → Prop}
/-- sorted(t), t a tuple -/
theorem sorted_tup {l : Addr} {Q : Value → Shared → Prop} (hl : s.heap.IsTuple l vs.toArray) (e : W.EachIs R vs bs) (er : W.EachIs (fun v b => ∃ as, Reads s.heap v (enc b) as) vs bs) (hal : W.AllAlike (bs.map enc)) (hk : W.Sortable (bs.map enc)) (hL : bs.length ≤ sizeLine)
    (hu : ∀ b, b ∈ bs → A.units + 2 + (enc b).depth < cLine) (h : ∀ out, out.length = bs.length → W.EachIs R out (bs.mergeSort (W.dataLe false enc)) → Q (.ref (s.heap.objs.size + 1)) { s with heap := sortedAll s.heap vs (List.toArray out) }) :
    wpAny (model prog w) A (call (.builtin "sorted") [.ref l]) Q E s := by
  have er' : W.EachIs (fun v b => ∃ as, Reads (W.sortingHeap (W.copyHeap s.heap vs) (s.heap.objs.size + 1) vs) v (enc b) as) vs bs := er.mono fun _ _ ⟨as, r⟩ => ⟨as, PyProof.Rows.Reads.keeps (fun _ _ => W.sorting_copy_old) r⟩
  have hL' : vs.length ≤ sizeLine := by rw [e.length]; exact hL
  refine call_function_entry_kw kind_sorted plain_sorted entry_sorted (args_sorted1 _) ?_
  unfold Builtin.«sorted»
  refine wpAny_bind (m := checkCount "sorted" 1 1 _) (wpAny_pure ?_)
  refine wpAny_bind (collect_tuple hl hL' ?_)
  refine wpAny_bind (wpAny_newList ?_ hL')
  have hsz : ((s.heap.push (seqObj "list" #[] 0)).update s.heap.objs.size (Obj.mapSeq (· ++ vs.toArray))).objs.size = s.heap.objs.size + 1 := by
    rw [Heap.size_update, size_push']
  show wpAny _ _ _ _ _ { s with heap := W.copyHeap s.heap vs }
  rw [hsz]
  refine wpAny_bind (wpAny_holding (wpAny_call_entry_kw slot_list_sort ⟨_, W.copyHeap_at s.heap vs, rfl⟩ entry_list_sort ?_ (args_list_sort _)))
  refine wpAny_mono (W.list_sort_vals (s := { s with heap := W.copyHeap s.heap vs }) (W.copyHeap_at s.heap vs) (W.SortsAt.data (s := { s with heap := W.sortingHeap (W.copyHeap s.heap vs) (s.heap.objs.size + 1) vs }) (W.each_map (R := fun v d => ∃ as, Reads (W.sortingHeap (W.copyHeap s.heap vs) (s.heap.objs.size + 1) vs) v d as) enc er') hal hk (W.bound_map hu)) hL'
    (P := fun f s' => f = .done (.ret .none) ∧ Q (.ref (s.heap.objs.size + 1)) s') ⟨rfl, h _ (by rw [W.sortVals_length false rfl]; exact e.length) (W.sortVals_data false e er' hal)⟩) (fun f s' hf => ?_) fun _ _ e => e
  obtain ⟨rfl, hq⟩ := hf
  exact ⟨_, rfl, wpAny_pure ⟨_, rfl, hq⟩⟩
end
section
variable {X : Cx}
/-- an item: the value, what it is as a datum -/
abbrev It2 := V × PyData
theorem each_vals {h : Heap} {K : PySem.W.Frag} : ∀ {bs : List It2} {us : List Value}, Vals (bs.map (·.1)) us → W.EachIs (fun v b => RelV b.1 v) us bs
  | [], _, .nil => .nil
  | _ :: _, _, .cons r t => .cons r (each_vals (h := h) (K := K) t)
theorem vals_each : ∀ {bs : List It2} {us : List Value}, W.EachIs (fun v b => RelV b.1 v) us bs → Vals (bs.map (·.1)) us
  | _, _, .nil => .nil
  | _, _, .cons r t => .cons r (vals_each t)
theorem each_reads {pins : List (Addr × Obj)} {σ : L2.St} {H : Hp} {s : Shared} (I : Inv X pins σ H s) : ∀ {bs : List It2} {us : List Value}, Vals (bs.map (·.1)) us → (∀ b ∈ bs, Dp X.K H b.1 b.2) → W.EachIs (fun v (b : It2) => ∃ as, Reads s.heap v b.2 as) us bs
  | [], _, .nil, _ => .nil
  | b :: _, _, .cons r t, h => .cons (Dp.reads I b.2 b.1 _ (h b List.mem_cons_self) r) (each_reads I t fun c hc => h c (List.mem_cons_of_mem _ hc))
/-- sorted(xs) -/
def rSortD (K : PySem.W.Frag) : List V → Hp → VK → Prop := fun xs H Q => ∃ (a : Addr) (bs : List It2), xs = [.ref a] ∧ (SqL K H a (bs.map (·.1)) ∨ SqT K H a (bs.map (·.1))) ∧ (∀ b ∈ bs, Dp K H b.1 b.2) ∧ W.AllAlike (bs.map (·.2)) ∧ W.Sortable (bs.map (·.2)) ∧ (∀ b ∈ bs, b.2.depth ≤ 50) ∧
  ∀ p, H p = none → Q (.ref p) (upd H p (.lst ((bs.mergeSort (W.dataLe false (·.2))).map (·.1))))
theorem call_sortD (hu : X.A.units + 64 < cLine) : CallR X (.builtin "sorted") (rSortD X.K) := by
  intro pins s σ H xs us Q I r h
  obtain ⟨a, bs, rfl, ha, hb, al, so, dp, q⟩ := h
  obtain ⟨u, rfl, ru⟩ := vals1 r
  cases (show u = Value.ref a from ru)
  have hu2 : ∀ b, b ∈ bs → X.A.units + 2 + b.2.depth < cLine := fun b m => by have := dp b m; omega
  have fin : ∀ (its : List Value), its.length ≤ sizeLine → ∀ out : List Value, out.length = bs.length → W.EachIs (fun v (b : It2) => RelV b.1 v) out (bs.mergeSort (W.dataLe false (·.2))) → bs.length ≤ sizeLine →
      EP X pins σ Q (.ref (s.heap.objs.size + 1)) { s with heap := sortedAll s.heap its (List.toArray out) } := fun its hz out hl eo hbl => by
    obtain ⟨ep, he⟩ := sortedAll_at s.heap its out.toArray
    refine ⟨.ref _, upd H (s.heap.objs.size + 1) (.lst ((bs.mergeSort (W.dataLe false (·.2))).map (·.1))), I.laid (t' := s.toks) (fun _ _ => sortedAll_old) (Nat.le_succ _) ⟨?_, out, ep, vals_each eo, he⟩, rfl, q _ (I.hok.fresh (Nat.le_succ _))⟩
    rw [List.length_map, List.length_mergeSort]
    exact hbl
  rcases ha with ha | ha
  · obtain ⟨its, rv, pl, hz⟩ := I.list ha
    have hl := rv.length
    rw [List.length_map] at hl hz
    exact W.sorted_data pl.isList (each_vals (h := s.heap) (K := X.K) rv) (each_reads I rv hb) al so hz hu2 fun out h1 h2 => fin its (by omega) out h1 h2 hz
  · obtain ⟨its, rv, pl, hz⟩ := I.tuple ha
    have hl := rv.length
    rw [List.length_map] at hl hz
    exact sorted_tup (show s.heap.IsTuple a its.toArray from pl) (each_vals (h := s.heap) (K := X.K) rv) (each_reads I rv hb) al so hz hu2 fun out h1 h2 => fin its (by omega) out h1 h2 hz
end
/-- texts -/
def txs (xs : List Str) : List It2 := xs.map fun x => (.str x, .str x)
theorem txs_fst (xs : List Str) : (txs xs).map (·.1) = xs.map V.str := by unfold txs; rw [List.map_map]; rfl
theorem txs_snd (xs : List Str) : (txs xs).map (·.2) = xs.map PyData.str := by unfold txs; rw [List.map_map]; rfl
theorem txs_ok (xs : List Str) : W.AllAlike ((txs xs).map (·.2)) ∧ W.Sortable ((txs xs).map (·.2)) := by
  rw [txs_snd]
  exact ⟨W.AllAlike.of fun _ _ => by simp [W.alike], W.Sortable.others fun b => ⟨by simp, by simp⟩⟩
/-- pairs of texts, each at its place -/
def prs (ps : List (Addr × Str × Str)) : List It2 := ps.map fun p => (.ref p.1, .tuple [.str p.2.1, .str p.2.2])
theorem prs_fst (ps : List (Addr × Str × Str)) : (prs ps).map (·.1) = ps.map fun p => V.ref p.1 := by unfold prs; rw [List.map_map]; rfl
theorem prs_ok (ps : List (Addr × Str × Str)) : W.AllAlike ((prs ps).map (·.2)) ∧ W.Sortable ((prs ps).map (·.2)) := by
  unfold prs
  rw [List.map_map]
  exact ⟨W.AllAlike.of (enc := fun p : Addr × Str × Str => PyData.tuple [.str p.2.1, .str p.2.2]) fun _ _ => by simp [W.alike, W.alikeAll], W.Sortable.tuples (enc := fun p : Addr × Str × Str => PyData.tuple [.str p.2.1, .str p.2.2]) fun b => ⟨_, _, rfl⟩⟩
end Ct

set_option Elab.async false
set_option linter.all false
set_option maxRecDepth 100000
set_option maxHeartbeats 4000000
/-! Own kit M: enumerate over a tuple; walks over a list or a tuple; a datum among texts; types of data. -/
namespace Ct
open PySem PySem.Spec PyProof.Rows L2
theorem meets_enumT (l : Addr) (items : Array Value) (n : Nat) (dct : Option Addr) (sl : Array (Option Value)) :
    Meets (Builtin.«enumerate.__new__» ⟨[.type "enumerate", .ref l], []⟩) (fun _ R s => s.heap.get? l = some { cls := .type "tuple", dict := dct, data := .seq items n, slots := sl } ∧
      R (.ok (.ret (.ref (s.heap.push { cls := .type "tuple_iterator", data := .fields #[.ref l, .int 0 0] }).objs.size)))
        { s with heap := (s.heap.push { cls := .type "tuple_iterator", data := .fields #[.ref l, .int 0 0] }).push { cls := .type "enumerate", data := .fields #[.none, .bool false, .ref s.heap.objs.size, rawInt 0, .none, .none] } }) :=
  .of_wp fun prog w A R s h => by
    obtain ⟨hp, g, d, tk, os⟩ := s; obtain ⟨hl, h⟩ := h
    have hsub := sub_enumerate
    have hL : Heap.IsTuple (Shared.heap ⟨hp, g, d, tk, os⟩) l items := ⟨_, hl, rfl, n, rfl⟩
    wp_walk using AutoSeq1.wpAny_loadPart' hl
    refine wpAny_stack_any fun st => wpAny_pure ?_
    split
    · rename_i c _ _ _ _ _
      cases (c == Value.type "enumerate")
      · wp_walk using AutoSeq1.wpAny_loadPart' hl, wpAny_pyIter_tuple hL
        exact ⟨_, rfl, h⟩
      · wp_walk using AutoSeq1.wpAny_loadPart' hl, wpAny_pyIter_tuple hL
        exact ⟨_, rfl, h⟩
    · wp_walk using AutoSeq1.wpAny_loadPart' hl, wpAny_pyIter_tuple hL
      exact ⟨_, rfl, h⟩
section
variable {prog : Program} {w : World} {A : Around} {E : Value → Shared → Prop} {s : Shared}
theorem call_enumT {l : Addr} {items : Array Value} {Q : Value → Shared → Prop} (hL : s.heap.IsTuple l items)
    (h : ∀ h', IsEnum h' (s.heap.objs.size + 1) s.heap.objs.size 0 .none → h'.IsTupleIter s.heap.objs.size l 0 →
      (∀ b o, s.heap.get? b = some o → h'.get? b = some o) → Q (.ref (s.heap.objs.size + 1)) { s with heap := h' }) :
    wpAny (model prog w) A (call (.type "enumerate") [.ref l]) Q E s := by
  obtain ⟨⟨c, dct, dt, sl⟩, hl, hc, n, hd⟩ := hL
  replace hc : c = .type "tuple" := hc
  replace hd : dt = .seq items n := hd
  subst hc hd
  refine callType_new F.called_enumerate (by decide) (F.typeCall_enumerate_1 _) (F.newCall_enumerate_1 _) (fun obj => F.args_object_init_2 obj _) F.entry_enumerate_new
    (meets_enumT l items n dct sl) ⟨hl, ?_⟩
  have hz : (s.heap.push { cls := .type "tuple_iterator", data := .fields #[.ref l, .int 0 0] }).objs.size = s.heap.objs.size + 1 := Heap.size_push ..
  show _ ∧ _
  rw [hz]
  have he : IsEnum ((s.heap.push { cls := .type "tuple_iterator", data := .fields #[.ref l, .int 0 0] }).push
      { cls := .type "enumerate", data := .fields #[.none, .bool false, .ref s.heap.objs.size, rawInt 0, .none, .none] }) (s.heap.objs.size + 1) s.heap.objs.size 0 .none := by
    have := Heap.get?_push_size (s.heap.push { cls := .type "tuple_iterator", data := .fields #[.ref l, .int 0 0] })
      (o := { cls := .type "enumerate", data := .fields #[.none, .bool false, .ref s.heap.objs.size, rawInt 0, .none, .none] }) rfl
    rw [hz] at this; exact this
  exact ⟨⟨_, he, rfl⟩, h _ he ⟨_, Heap.get?_push_of_some _ (Heap.get?_push_size _ rfl), rfl, rfl⟩ fun b o x => Heap.get?_push_of_some _ (Heap.get?_push_of_some _ x)⟩
end
/-- the tuple at a, each item in a new pair with its number -/
def Iet (K : PySem.W.Frag) (a : Addr) : It :=
  ⟨fun i H => ∃ (xs : List V) (x : V), SqT K H a xs ∧ xs[i]? = some x, fun i H v H' => ∃ T x, v = .ref T ∧ H T = none ∧ H' = upd H T (.tup [.int (i : Nat), x]) ∧ ∀ xs, SqT K H a xs → xs[i]? = some x, fun i H => ∃ xs : List V, SqT K H a xs ∧ xs.length ≤ i⟩
theorem turn_enumT {P : Program} {w : World} {K : PySem.W.Frag} {elts : List Expr} {kk : Nat} {tpos : Pos} (a e it : Addr) :
    Turn P w K (.Tuple elts kk tpos) (Iet K a) [e, it] e (fun i h => (∃ old, IsEnum h e it ((i : Nat) : Int) old) ∧ h.IsTupleIter it a i ∧ e ≠ it) where
  mem := by simp
  obj := fun i h st b hb => by
    obtain ⟨⟨old, he⟩, ⟨o, ho, hc, hd⟩, _⟩ := st
    rcases (show b = e ∨ b = it by simpa using hb) with rfl | rfl
    · exact ⟨_, he, fun v q => nomatch q⟩
    · exact ⟨o, ho, fun v q => by rw [hd] at q; cases q⟩
  keep := fun i h h' st k => let ⟨⟨old, he⟩, hi, hne⟩ := st; ⟨⟨old, k e (by simp) _ he⟩, hi.at fun o q => k it (by simp) o q, hne⟩
  item := by
    intro X hP hw hK hc i pins s σ H E I hf st hg
    subst hP hw hK
    obtain ⟨⟨old, he⟩, hit, hne⟩ := st
    obtain ⟨xs, x, hq, hx⟩ := hg
    obtain ⟨its, rv, p, hz⟩ := I.tuple hq
    obtain ⟨u, hu, ru⟩ := rv.get hx
    have p : s.heap.IsTuple a its.toArray := p
    have hel : e < s.heap.objs.size := Heap.lt_size he
    have hil : it < s.heap.objs.size := by obtain ⟨_, q, _⟩ := hit; exact Heap.lt_size q
    have ait : a ≠ it := by
      rintro rfl
      obtain ⟨o1, h1, h2, _⟩ := p
      obtain ⟨o2, h3, h4, _⟩ := hit
      rw [h1] at h3
      cases h3
      rw [h2] at h4
      exact absurd h4 (by decide)
    have ae : e ≠ a := by
      rintro rfl
      obtain ⟨o1, h1, h2, _⟩ := p
      have he' := he
      unfold IsEnum at he'
      rw [h1] at he'
      cases he'
      exact absurd (show Value.type "enumerate" = Value.type "tuple" from h2) (by decide)
    have hlt : i < its.toArray.size := by
      have := (List.getElem?_eq_some_iff.mp hu).1
      simpa using this
    refine wpAny_pyNext_enum_itemD (PySem.Draws.tuple (by simpa using I.ok.hd hc) it a ait its.toArray) he ⟨hit, p⟩ hlt hne (by simp [hne, ae]) fun x2 h' tk hx2 ho hst' hT hsz hk => ?_
    have ex2 : x2 = u := by
      have z : its[i]? = some x2 := by simpa using hx2
      rw [hu] at z
      exact (Option.some.inj z).symm
    subst ex2
    refine ⟨_, rfl, wpAny_letOwnedTupleGo_enum (s := { s with heap := h', toks := tk + 1 }) ho fun h'' he' sb => ?_⟩
    have hT2 : h''.get? s.heap.objs.size = some { cls := .type "tuple", data := .seq #[.int i tk, x2] } := (sb.2 _ (Nat.ne_of_gt hel)).trans hT
    have new : ObjOk X.prog X.w (upd H s.heap.objs.size (.tup [.int (i : Nat), x])) h'' s.heap.objs.size (.tup [.int (i : Nat), x]) :=
      ⟨by show 2 ≤ sizeLine; decide, [.int i tk, x2], .cons ⟨_, rfl⟩ (.cons ru .nil), ⟨_, hT2, rfl, _, rfl⟩⟩
    have I1 : Inv X pins σ (upd H s.heap.objs.size (.tup [.int (i : Nat), x])) { s with heap := h'', toks := tk + 1 } :=
      I.turnedNew (ch := [e, it]) (fun b ob hb q => (sb.2 b (fun z => hb (by simp [z]))).trans (hk b ob (fun z => hb (by simp [z])) (fun z => hb (by simp [z])) q)) hf (Nat.le_refl _) new
    refine ⟨.ref s.heap.objs.size, _, I1, rfl, ⟨_, x, rfl, I.hok.fresh (Nat.le_refl _), rfl, fun ys hy => by rw [I.tuple_inj hy hq]; exact hx⟩, ⟨⟨x2, ?_⟩, hst'.1.at fun o q => (sb.2 it (Ne.symm hne)).trans q, hne⟩, fun b hb => ?_⟩
    · have e1 : ((i + 1 : Nat) : Int) = (i : Int) + 1 := by omega
      rw [e1]; exact he'
    · have hb' : b < s.heap.objs.size := by
        rcases (show b = e ∨ b = it by simpa using hb) with z | z
        · rw [z]; exact hel
        · rw [z]; exact hil
      rw [upd_ne (Nat.ne_of_lt hb')]
      exact (hf b hb).1
  done := by
    intro X hP hw hK hc i pins s σ H E I hf st hg
    subst hP hw hK
    obtain ⟨⟨old, he⟩, hit, hne⟩ := st
    obtain ⟨xs, hq, hx⟩ := hg
    obtain ⟨its, rv, p, hz⟩ := I.tuple hq
    have p : s.heap.IsTuple a its.toArray := p
    obtain ⟨f0, f1, f2, f3, f4, f5⟩ := hf it (by simp)
    have hl := rv.length
    have hnone : its.toArray[i]? = none := by simp; omega
    unfold pyNext
    refine wpAny_bind (wpAny_attempt (wpAny_callSpecial?_slot (name := Str.ofString "__next__") ⟨_, he, rfl⟩ F.slot_enumerate_next
      (wpAny_call_entry F.slot_enumerate_next ⟨_, he, rfl⟩ F.entry_enumerate_next ?_ (F.args_enumerate_next_1 _))))
    show wpAny _ _ (field (.ref e) 2 >>= _) _ _ _
    refine wpAny_bind (wpAny_field he rfl (x := .ref it) rfl ?_)
    refine wpAny_bind (PySem.wpAny_nextOf_tuple_end (by simpa using I.ok.hd hc) hit p hnone fun h' x he' hx' => ?_)
    obtain ⟨o, ho, hcc⟩ := hx'
    refine wpAny_bind (wpAny_isInstance (T := "StopIteration") (b := true) ⟨o, ho, hcc⟩ isSubtype_stop ?_)
    exact wpAny_pure ⟨rfl, I.turned (t' := s.toks) (fun b o hb q => he' b o hb q) f0 f1 f3 f4 f5⟩
  self := fun A i s Q E st h => let ⟨⟨_, he⟩, _⟩ := st; wpAny_pyIter_enum he h
section
variable {X : Cx}
/-- enumerate of a list or of a tuple -/
def iEnumS (K : PySem.W.Frag) (ta : TA) : TI := fun σ H R => ta σ H fun vs H1 => ∃ a xs, vs = [.ref a] ∧ ((SqL K H1 a xs ∧ R (Ite K a) H1) ∨ (SqT K H1 a xs ∧ R (Iet K a) H1))
theorem pi_enumS {e : Expr} {ta : TA} {p pos tpos : Pos} {elts : List Expr} {kk : Nat} (hg : Gl X "enumerate") (hm : X.mg "enumerate" = none) (ha : PA X [e] ta) (hs : starEach [e] X.env = [(false, eval e X.env)] := by rfl) :
    PI X (.Tuple elts kk tpos) (.Call (.Name "enumerate" p) [e] [] pos) (iEnumS X.K ta) := by
  refine ⟨fun pins s σ H R I h => ?_⟩
  refine Call_ (ld_blt I hg hm boot_enumerate (PyProof.Rows.callWith_type1 (thn (ha.run pos pins s σ H _ I h) fun us s1 ⟨vs, H1, I1, r1, q1⟩ => ?_) hs rfl))
  obtain ⟨a, xs, ex, hq⟩ := q1
  subst ex
  obtain ⟨u, rfl, ru⟩ := vals1 r1
  cases (show u = Value.ref a from ru)
  have feet : ∀ b ∈ [s1.heap.objs.size + 1, s1.heap.objs.size], FpOk X pins H1 b := fun b hb => by
    have hle : s1.heap.objs.size ≤ b := by
      rcases (show b = s1.heap.objs.size + 1 ∨ b = s1.heap.objs.size by simpa using hb) with z | z
      · rw [z]; exact Nat.le_add_right _ _
      · rw [z]; exact Nat.le_refl _
    exact I1.fpOk hle (I1.hok.fresh hle)
  rcases hq with ⟨hq, q⟩ | ⟨hq, q⟩
  · obtain ⟨its, rv, p', hz⟩ := I1.list hq
    refine call_enumerate_list p'.isList fun h' he hit hsz hk => wpAny_pyIter_enum he ?_
    exact ⟨s1.heap.objs.size + 1, [s1.heap.objs.size + 1, s1.heap.objs.size], _, _, H1, rfl, I1.kept (t' := s1.toks) hk, turn_enum a (s1.heap.objs.size + 1) s1.heap.objs.size, ⟨⟨.none, he⟩, hit, Nat.succ_ne_self _⟩, feet, q⟩
  · obtain ⟨its, rv, p', hz⟩ := I1.tuple hq
    refine call_enumT (show s1.heap.IsTuple a its.toArray from p') fun h' he hit hk => wpAny_pyIter_enum he ?_
    exact ⟨s1.heap.objs.size + 1, [s1.heap.objs.size + 1, s1.heap.objs.size], _, _, H1, rfl, I1.kept (t' := s1.toks) hk, turn_enumT a (s1.heap.objs.size + 1) s1.heap.objs.size, ⟨⟨.none, he⟩, hit, Nat.succ_ne_self _⟩, feet, q⟩
/-- a walk over a list or a tuple -/
def iSeq (K : PySem.W.Frag) (tl : TE) : TI := fun σ H R => iList K tl σ H R ∨ iTup K tl σ H R
theorem pi_seq {tg l : Expr} {tl : TE} (hl : PE X l tl) : PI X tg l (iSeq X.K tl) :=
  ⟨fun pins s σ H R I h => h.elim ((pi_list hl).run pins s σ H R I) ((pi_tup hl).run pins s σ H R I)⟩
end
open L2 in
theorem walk_enumT {K : PySem.W.Frag} {a : Addr} {xs : List V} : Walk (Iet K a) xs.length (fun H => SqT K H a xs) (YPair (fun i => some (.int (i : Nat))) (fun i => xs[i]?)) :=
  ⟨fun i _ hi q => ⟨xs, xs[i], q, by simp [hi]⟩, fun _ q => ⟨xs, q, Nat.le_refl _⟩, fun i H v H' hi q y => by
    obtain ⟨T, x, rfl, hT, rfl, hx⟩ := y
    exact ⟨T, _, x, rfl, hT, rfl, rfl, hx xs q⟩⟩
end Ct

set_option Elab.async false
set_option linter.all false
set_option maxRecDepth 100000
set_option maxHeartbeats 4000000
/-! Own kit N: a datum among texts; isinstance of data; lists or tuples alike. -/
namespace Ct
open PySem PySem.Spec PyProof.Rows L2
/-- a list or a tuple -/
def SqS (K : PySem.W.Frag) (H : Hp) (a : Addr) (xs : List V) : Prop := SqL K H a xs ∨ SqT K H a xs
theorem SqS.same {K : PySem.W.Frag} {H H' : Hp} {a : Addr} {xs : List V} (s : Same H H') : SqS K H a xs → SqS K H' a xs
  | .inl h => .inl (s.seq h)
  | .inr h => .inr (same_t s h)
theorem units65 {k : Nat} {A : Around} (r : Room k A) : A.units + 65 < cLine := by have := r.un; omega
/-- the datum is one of the texts -/
def amid (d : PyData) (ns : List Str) : Bool := match d with
  | .str x => ns.any fun y => y == x
  | _ => false
theorem amid_str {x : Str} {ns : List Str} : amid (.str x) ns = true ↔ x ∈ ns := by
  unfold amid
  rw [List.any_eq_true]
  exact ⟨fun ⟨y, hy, e⟩ => (eq_of_beq e) ▸ hy, fun h => ⟨x, h, beq_self_eq_true x⟩⟩
section
variable {X : Cx} {pins : List (Addr × Obj)} {σ : L2.St} {H : Hp} {s : Shared}
/-- the items' answers -/
def amU (d : PyData) (u : Value) : Bool := match d, u with
  | .str x, .str y _ => y == x
  | _, _ => false
theorem amU_any (d : PyData) : ∀ {ns : List Str} {us : List Value}, Vals (ns.map V.str) us → us.any (amU d) = amid d ns
  | [], _, .nil => by cases d <;> rfl
  | n :: ns, u :: us, .cons r t => by
    obtain ⟨k, rfl⟩ := r
    rw [List.any_cons, amU_any d t]
    cases d <;> rfl
theorem amU_eq {A : Around} {K : PySem.W.Frag} (I : Inv X pins σ H s) (hu : A.units < cLine) {x : V} {v : Value} {d : PyData} (r : RelV x v) (h : Dp X.K H x d) : ∀ {ns : List Str} {us : List Value}, Vals (ns.map V.str) us → ∀ u ∈ us, SeqAt.EqAt A s u v (amU d u)
  | [], _, .nil => fun u hu => by cases hu
  | n :: ns, w :: us, .cons r0 t => fun u m => by
    rcases List.mem_cons.mp m with rfl | m
    · obtain ⟨k, rfl⟩ := r0
      cases h with
      | non => cases r; exact SeqAt.EqAt.str_none n k
      | bl b => cases r; exact SeqAt.EqAt.str_bool n k b
      | int i => obtain ⟨t2, rfl⟩ := r; exact SeqAt.EqAt.str_int n k i t2
      | str y => obtain ⟨t2, rfl⟩ := r; exact SeqAt.EqAt.str_str n k y t2
      | lst hs _ =>
        cases r
        obtain ⟨its, rv, pl, _⟩ := I.list hs
        exact SeqAt.EqAt.str_list n k pl.isList hu
      | tup hs _ =>
        cases r
        obtain ⟨its, rv, pl, _⟩ := I.tuple hs
        exact SeqAt.EqAt.str_tuple n k (show s.heap.IsTuple _ its.toArray from pl) hu
    · exact amU_eq (K := K) I hu r h t u m
/-- x in names, x a datum -/
def rAmid (K : PySem.W.Frag) (neg : Bool) : R2 := fun x y H Q => ∃ (d : PyData) (a : Addr) (ns : List Str), y = .ref a ∧ SqS K H a (ns.map V.str) ∧ Dp K H x d ∧ Q (.bl (if neg then !amid d ns else amid d ns)) H
theorem or_amid (hu : X.A.units + 64 < cLine) : OpR X (compareOp .In) (rAmid X.K false) := by
  intro pins s σ H x y v u Q I rx ry h
  obtain ⟨d, a, ns, rfl, ha, hd, q⟩ := h
  cases (show u = Value.ref a from ry)
  have hu1 : X.A.in1.units < cLine := by show X.A.units + 1 < _; omega
  rw [if_neg (by decide)] at q
  rcases ha with ha | ha
  · obtain ⟨its, rv, pl, hz⟩ := I.list ha
    refine SeqAt.in_listAt (amU d) pl.isList (fun w hw => amU_eq (K := X.K) I hu1 rx hd rv w (by simpa using hw)) ⟨.bl _, H, I, rfl, ?_⟩
    rw [show its.toArray.any (amU d) = its.any (amU d) by simp, amU_any d rv]
    exact q
  · obtain ⟨its, rv, pl, hz⟩ := I.tuple ha
    refine SeqAt.in_tupleAt (amU d) pl (fun w hw => amU_eq (K := X.K) I hu1 rx hd rv w (by simpa using hw)) ⟨.bl _, H, I, rfl, ?_⟩
    rw [show its.toArray.any (amU d) = its.any (amU d) by simp, amU_any d rv]
    exact q
theorem or_namid (hu : X.A.units + 64 < cLine) : OpR X (compareOp .NotIn) (rAmid X.K true) := by
  intro pins s σ H x y v u Q I rx ry h
  obtain ⟨d, a, ns, rfl, ha, hd, q⟩ := h
  cases (show u = Value.ref a from ry)
  have hu1 : X.A.in1.units < cLine := by show X.A.units + 1 < _; omega
  rw [if_pos rfl] at q
  rcases ha with ha | ha
  · obtain ⟨its, rv, pl, hz⟩ := I.list ha
    refine SeqAt.notIn_listAt (amU d) pl.isList (fun w hw => amU_eq (K := X.K) I hu1 rx hd rv w (by simpa using hw)) ⟨.bl _, H, I, rfl, ?_⟩
    rw [show its.toArray.any (amU d) = its.any (amU d) by simp, amU_any d rv]
    exact q
  · obtain ⟨its, rv, pl, hz⟩ := I.tuple ha
    refine SeqAt.notIn_tupleAt (amU d) pl (fun w hw => amU_eq (K := X.K) I hu1 rx hd rv w (by simpa using hw)) ⟨.bl _, H, I, rfl, ?_⟩
    rw [show its.toArray.any (amU d) = its.any (amU d) by simp, amU_any d rv]
    exact q
/-- the name of a datum's type -/
def dty : PyData → String
  | .none => "NoneType"
  | .bool _ => "bool"
  | .int _ => "int"
  | .str _ => "str"
  | .list _ => "list"
  | .tuple _ => "tuple"
  | .dict _ => "dict"
theorem kit_dq (I : Inv X pins σ H s) {v : V} {u : Value} {d : PyData} (r : RelV v u) (h : Dq X.K H v d) : ∃ P : Heap → Prop, PySem.W.KitX X.K u (.type (dty d)) P ∧ P s.heap ∧ u ≠ .builtin "__main__.__loader__#opaque" := by
  cases h with
  | non => cases r; exact ⟨_, PySem.W.kitx_none, True.intro, fun z => nomatch z⟩
  | bl b => cases r; exact ⟨_, PySem.W.kitx_bool, True.intro, fun z => nomatch z⟩
  | int i => obtain ⟨t, rfl⟩ := r; exact ⟨_, PySem.W.kitx_int, True.intro, fun z => nomatch z⟩
  | str x => obtain ⟨t, rfl⟩ := r; exact ⟨_, PySem.W.kitx_str, True.intro, fun z => nomatch z⟩
  | lst hs ha =>
    cases r
    obtain ⟨its, rv, pl, _⟩ := I.list hs
    obtain ⟨o, ho, hc, _⟩ := pl.isList
    exact ⟨_, PySem.W.kitx_list, ⟨o, ho, hc⟩, fun z => nomatch z⟩
  | tup hs ha =>
    cases r
    obtain ⟨its, rv, ⟨o, ho, hc, _⟩, _⟩ := I.tuple hs
    exact ⟨_, PySem.W.kitx_tuple, ⟨o, ho, hc⟩, fun z => nomatch z⟩
  | dic hs hk hv ha =>
    cases r
    obtain ⟨_, hy, vs, rkv, o, es, ep, ho, hx, hd, _⟩ := hs.ok I.hok
    exact ⟨_, PySem.W.kitx_dict, ⟨o, ho, hx.1⟩, fun z => nomatch z⟩
  | dicT hs hk hv ha =>
    cases r
    obtain ⟨_, hy, xs, rp, o, es, ep, ho, hx, hd, he, _⟩ := hs.ok I.hok
    exact ⟨_, PySem.W.kitx_dict, ⟨o, ho, hx.1⟩, fun z => nomatch z⟩
/-- isinstance(x, T), x a datum -/
def rIsD (K : PySem.W.Frag) : List V → Hp → VK → Prop := fun xs H Q => ∃ (x : V) (d : PyData) (T : String) (b : Bool), xs = [x, .ty T] ∧ Dq K H x d ∧ kitB (dty d) T = some b ∧ Q (.bl b) H
theorem call_isD : CallR X (.builtin "isinstance") (rIsD X.K) := by
  intro pins s σ H xs us Q I r h
  obtain ⟨x, d, T, b, rfl, hd, e, q⟩ := h
  obtain ⟨u1, u2, rfl, r1, r2⟩ := vals2 r
  cases (show u2 = Value.type T from r2)
  obtain ⟨P, Z, p, hx⟩ := kit_dq I r1 hd
  exact PySem.W.kia_one Z I.kIn p (kit_ty e) hx fun tk => ⟨.bl b, H, I.tok tk, rfl, q⟩
/-- isinstance(x, (list, tuple)), x a datum, the tuple just laid -/
def rIsDT (K : PySem.W.Frag) : List V → Hp → VK → Prop := fun xs H Q => ∃ (x : V) (tp : Addr) (d : PyData) (T1 T2 : String) (b1 b2 : Bool), xs = [x, .ref tp] ∧ H tp = some (.tup [.ty T1, .ty T2]) ∧ Dq K H x d ∧ kitB (dty d) T1 = some b1 ∧ kitB (dty d) T2 = some b2 ∧ Q (.bl (b1 || b2)) H
theorem call_isDT : CallR X (.builtin "isinstance") (rIsDT X.K) := by
  intro pins s σ H xs us Q I r h
  obtain ⟨x, tp, d, T1, T2, b1, b2, rfl, hT, hd, e1, e2, q⟩ := h
  obtain ⟨u1, u2, rfl, r1, r2⟩ := vals2 r
  cases (show u2 = Value.ref tp from r2)
  obtain ⟨P, Z, p, hx⟩ := kit_dq I r1 hd
  obtain ⟨_, its, rv, o, h1, h2, n, h3⟩ := (show ObjOk X.prog X.w H s.heap tp (.tup [.ty T1, .ty T2]) from I.hok tp _ hT)
  have e3 := ClsV.all (.cons (.ty T1) (.cons (.ty T2) .nil)) rv
  subst e3
  obtain ⟨oc, od, dt, sl⟩ := o
  simp only at h2 h3
  subst h2 h3
  refine PySem.W.kia_tup Z I.kIn p h1 (b := b1 || b2) ?_ hx fun tk => ⟨.bl (b1 || b2), H, I.tok tk, rfl, q⟩
  exact kitAny_cons (kit_ty e1) (fun z => by
    subst z
    exact kitAny_cons (kit_ty e2) (fun z => by subst z; exact kitAny_nil) (fun z => by rw [z]; rfl)) (fun z => by rw [z]; rfl)
end
theorem kit_str (d : PyData) : kitB (dty d) "str" = some (match d with | .str _ => true | _ => false) := by cases d <;> (show kitB _ "str" = _; dsimp only [dty]; decide +kernel)
theorem kit_list (d : PyData) : kitB (dty d) "list" = some (match d with | .list _ => true | _ => false) := by cases d <;> (show kitB _ "list" = _; dsimp only [dty]; decide +kernel)
theorem kit_tuple (d : PyData) : kitB (dty d) "tuple" = some (match d with | .tuple _ => true | _ => false) := by cases d <;> (show kitB _ "tuple" = _; dsimp only [dty]; decide +kernel)
end Ct

set_option Elab.async false
set_option linter.all false
set_option maxRecDepth 100000
set_option maxHeartbeats 4000000
/-! Own kit O: defs that raise, by bundle; own errors raised; objects made where something may be raised. -/
namespace Ct
open PySem PySem.Spec PyProof.Rows L2
/-- a def that may raise and keeps a promise -/
def HasR (P : Program) (w : World) (K : PySem.W.Frag) (mg : Str → Option Value) (base : Heap) (k : Nat) (nm : Str) (ps : List Str) (sp : Sp) : Prop :=
  ∃ f fd, mg nm = some (.ref f) ∧ PySem.W.keepIn K (.ref f) = true ∧ Binds K fd ps [] ∧ FnOk P w K mg base (L2.CX P w) k f fd ps sp
section
variable {P : Program} {w : World} {K : PySem.W.Frag} {mg : Str → Option Value} {base : Heap} {k : Nat} {nm : Str} {ps : List Str} {sp : Sp} {st : Stmt}
theorem hasR_of {N : List Str} (D : DFE K mg nm st ps) (S : FnScope N ps (defScope st)) (len : ∀ vs H Q E, sp vs H Q E → vs.length = ps.length)
    (body : ∀ (f : Addr) (cdv : Value) (A : Around) (outer : List Env) (s : Shared) (H : Hp) (vs : List V) (Q : VK) (E : XK), Room k (A.deeper (envOfC nm (defScope st) s.heap.objs.size f cdv)) → sp vs H Q E →
      ∃ t, PSs (cxOf (L2.CX P w) P w K mg base N nm (defScope st) f cdv A outer s H E) (defBody st) t ∧ t { nx := fun _ H' => Q .non H', rt := Q } (start N vs) H) : HasR P w K mg base (k + 1) nm ps sp := by
  obtain ⟨f, fd, F, g, b⟩ := D
  exact ⟨f, fd, g, F.kp, b, F.okX S len (body f)⟩
theorem HasR.mono {j : Nat} (h : HasR P w K mg base j nm ps sp) (l : j ≤ k) : HasR P w K mg base k nm ps sp := by
  obtain ⟨f, fd, g, kp, b, F⟩ := h
  exact ⟨f, fd, g, kp, b, F.mono l⟩
end
section
variable {X : Cx} {k j : Nat} {nm : Str} {ps : List Str} {sp : Sp} {e : Expr} {es : List Expr} {t : TA} {p pos : Pos} {W : WX}
/-- f(e, ..), what it raises is taken by W -/
theorem pe_hR (h : HasR X.prog X.w X.K X.mg X.base j nm ps sp) (tk : Takes X W) (hr : Room k X.A) (l : j ≤ k) (hg : Gl X nm) (ha : PA X (e :: es) t) (hdb : (nm == ("__debug__" : Str)) = false := by decide)
    (he : starEach (e :: es) X.env = (false, eval e X.env) :: starEach es X.env := by rfl) (hpl : (backTo pos (starEach es X.env)).any (·.1) = false := by rfl) : PE X (.Call (.Name nm p) (e :: es) [] pos) (tCallS sp (WE W) t) := by
  obtain ⟨f, fd, g, kp, b, F⟩ := h
  exact pe_callS F (hr.mono l) hg g kp b (fun σ => passAt tk σ) ha hdb he hpl
/-- f(e, ..), nothing raised -/
theorem pe_hR0 (h : HasR X.prog X.w X.K X.mg X.base j nm ps sp) (hr : Room k X.A) (l : j ≤ k) (hg : Gl X nm) (ha : PA X (e :: es) t) (hdb : (nm == ("__debug__" : Str)) = false := by decide)
    (he : starEach (e :: es) X.env = (false, eval e X.env) :: starEach es X.env := by rfl) (hpl : (backTo pos (starEach es X.env)).any (·.1) = false := by rfl) : PE X (.Call (.Name nm p) (e :: es) [] pos) (tCall sp [] E0 t) := by
  obtain ⟨f, fd, g, kp, b, F⟩ := h
  exact pe_call F (hr.mono l) hg g kp b .nil passL ha hdb he hpl
end
/-- an own error's class: what its __init__ promises, how it binds -/
def HasE (P : Program) (w : World) (K : PySem.W.Frag) (mg : Str → Option Value) (base : Heap) (k : Nat) (x : Str) (C : Addr) (f : Str) : Prop :=
  mg x = some (.ref C) ∧ ∃ fI fd, XCls K C fI ∧ FnOk P w K mg base CX0 k fI fd ["self", f] (spXI C f) ∧ Binds K fd ["self", f] []
/-- C(e) to be raised -/
def tRx (C : Addr) (f : Str) (te : TE) : L2.St → Hp → XK → Prop := fun σ H Q => te σ H fun v H1 => ∀ d, H1 d = none → Q (.ref C) (some d) (upd H1 d (.xd [(f, v)]))
section
variable {X : Cx} {k j : Nat} {x f : Str} {C : Addr} {p pos : Pos} {e : Expr} {te : TE}
theorem del_mkH {H : Hp} {a d : Addr} {v : V} (ha : H a = none) : upd (del (mkH H a d C f v) a) d (.xd [(f, v)]) = upd H d (.xd [(f, v)]) := by
  funext b
  by_cases hb : b = d
  · rw [hb, upd_same, upd_same]
  · rw [upd_ne hb, upd_ne hb]
    by_cases hba : b = a
    · rw [hba, del_same, ha]
    · rw [del_ne hba]
      unfold mkH
      rw [upd_ne hba, upd_ne hb]
/-- a reading with what follows made weaker -/
def tMono (te : TE) : TE := fun σ H Q => ∃ Q0 : VK, te σ H Q0 ∧ ∀ v H1, Q0 v H1 → Q v H1
theorem pe_mono (he : PE X e te) : PE X e (tMono te) := ⟨fun pins s σ H Q I ⟨Q0, h, m⟩ => thn (he.run pins s σ H Q0 I h) fun u s1 ⟨v, H1, I1, r, q⟩ => ⟨v, H1, I1, r, m v H1 q⟩⟩
theorem pmk_x (h : HasE X.prog X.w X.K X.mg X.base j x C f) (hr : Room k X.A) (l : j + 1 ≤ k) (hg : Gl X x) (he : PE X e te) (hdb : (x == ("__debug__" : Str)) = false := by decide)
    (hs : starEach [e] X.env = (false, eval e X.env) :: starEach [] X.env := by rfl) (hpl : (backTo pos (starEach [] X.env)).any (·.1) = false := by rfl)
    (hs2 : starEach [e] X.env = [(false, eval e X.env)] := by rfl) : PMk X (.Call (.Name x p) [e] [] pos) (tRx C f te) := by
  obtain ⟨hm, fI, fd, T, F, b⟩ := h
  intro pins s σ H Q I q
  refine pmk_oex T.ox T.iC T.tI F (hr.mono l) b .nil (fun _ _ _ _ _ _ _ z => z.elim) hg hm (pa_cons (pe_mono he) pa_nil hs) hdb hs hpl pins s σ H Q I ?_
  refine ⟨_, q, fun v H1 z => ⟨by show 1 ≤ 1000; decide, fun a ha => ⟨a, v, rfl, upd_same, fun d hd hne => ⟨rfl, d, [(f, v)], ?_, ?_, ?_, ?_⟩⟩⟩⟩
  · rw [mkH_new]; exact upd_same
  · rw [mkH_new]; unfold mkH; rw [upd_ne hne]; exact upd_same
  · rw [upd_ne hne] at hd; exact hd
  · rw [mkH_new, del_mkH ha]
    rw [upd_ne hne] at hd
    exact z d hd
end
/-- C(..) where what is raised is told at the slots -/
def tMakeS (C : Addr) (sp : Sp) (dvs : List V) (E : L2.St → XK) (t : TA) : TE := fun σ H Q => t σ H fun vs H1 => ∀ x dx, H1 x = none → H1 dx = none → dx ≠ x →
  sp (.ref x :: (vs ++ dvs)) (upd (upd H1 dx (.own x)) x (.ins C dx [])) (fun v H2 => v = .non ∧ Q (.ref x) H2) (E σ)
section
variable {X : Cx} {CX : CXT} {k : Nat} {f C : Addr} {fd : FuncData} {ps : List Str} {sp : Sp} {dvs : List V} {ds : List Value} {E : L2.St → XK} {x : Str} {p pos : Pos} {e : Expr} {es : List Expr} {t : TA}
theorem pe_makeS (M : Mk X.K C f) (F : FnOk X.prog X.w X.K X.mg X.base CX k f fd ps sp) (hr : Room (k + 1) X.A) (hg : Gl X x) (hm : X.mg x = some (.ref C)) (hb : Binds X.K fd ps ds) (hd : Vals dvs ds)
    (hx : ∀ (pins : List (Addr × Obj)) (σ : L2.St) (H : Hp) (s : Shared) (e : Value) (s' : Shared), Inv X pins σ H s → CX X.stack H s (E σ) e s' → X.xe e s')
    (ha : PA X (e :: es) t) (hdb : (x == ("__debug__" : Str)) = false := by decide) (he : starEach (e :: es) X.env = (false, eval e X.env) :: starEach es X.env := by rfl) (hpl : (backTo pos (starEach es X.env)).any (·.1) = false := by rfl) :
    PE X (.Call (.Name x p) (e :: es) [] pos) (tMakeS C sp dvs E t) := by
  refine ⟨fun pins s σ H Q I h => ?_⟩
  refine wpAny_Call_Name_kw (ld_glob I hg hm ?_ hdb)
  refine PySem.W.callWith_K (h₀ := X.base) I.ok.mod.kin M.kp (thn (ha.run pos pins s σ H _ I h) fun us s1 ⟨vs, H1, I1, r, q⟩ => ⟨I1.kIn, ?_⟩) he hpl
  have hq := q (s1.heap.objs.size + 1) s1.heap.objs.size (I1.hok.fresh (Nat.le_succ _)) (I1.hok.fresh (Nat.le_refl _)) (Nat.ne_of_lt (Nat.lt_succ_self _))
  have I2 := Inv.made (C := C) I1
  have r2 : Vals (V.ref (s1.heap.objs.size + 1) :: (vs ++ dvs)) (Value.ref (s1.heap.objs.size + 1) :: (us ++ ds)) := .cons rfl (r.append hd)
  have hl : (Value.ref (s1.heap.objs.size + 1) :: us ++ ds).length = ps.length := by
    have e := r2.length
    rw [F.len _ _ _ _ hq] at e
    exact e.symm
  refine wpAny_call (make_map (f := f) I1.kIn M.makes M.init (beq_iff_eq.mp M.fn) (codeAny_mono (F.run _ X.stack _ _ ⟨Value.ref (s1.heap.objs.size + 1) :: us, []⟩ (Value.ref (s1.heap.objs.size + 1) :: (us ++ ds)) _ _ (E σ) (hr.make C us [])
    (I2.env0.make C us []) (hb _ (Value.ref (s1.heap.objs.size + 1) :: us) I2.kIn hl) r2 hq) fun r s' hq' => ?_))
  match r, hq' with
  | .error e, hq' => exact hx pins σ _ _ e s' I2 hq'
  | .ok .next, hq' => exact False.elim hq'
  | .ok .brk, hq' => exact False.elim hq'
  | .ok .cont, hq' => exact False.elim hq'
  | .ok (.ret u), hq' =>
    obtain ⟨v, H', I3, rv, ev, q3⟩ := I2.after hq'
    subst ev
    exact ⟨rv, ⟨V.ref (s1.heap.objs.size + 1), H', I3, rfl, q3⟩⟩
end
end Ct

set_option Elab.async false
set_option linter.all false
set_option maxRecDepth 100000
set_option maxHeartbeats 4000000
/-! Own kit P: one reading for a walk over a list or a tuple. -/
namespace Ct
open PySem PySem.Spec PyProof.Rows L2
/-- the list or the tuple at a stands on -/
def SqKeep (K : PySem.W.Frag) (a : Addr) (xs : List V) (H H' : Hp) : Prop := (SqL K H a xs → SqL K H' a xs) ∧ (SqT K H a xs → SqT K H' a xs)
theorem SqKeep.same {K : PySem.W.Frag} {a : Addr} {xs : List V} {H H' : Hp} (s : Same H H') : SqKeep K a xs H H' := ⟨fun h => s.seq h, fun h => same_t s h⟩
theorem SqKeep.sqs {K : PySem.W.Frag} {a : Addr} {xs : List V} {H H' : Hp} (k : SqKeep K a xs H H') : SqS K H a xs → SqS K H' a xs
  | .inl h => .inl (k.1 h)
  | .inr h => .inr (k.2 h)
theorem SqKeep.of {K : PySem.W.Frag} {a : Addr} {xs : List V} {H H1 H' : Hp} (h : SqS K H a xs) (s1 : Same H H1) (s2 : Same H H') (ex : SqL K H1 a xs → SqT K H1 a xs → False) : SqKeep K a xs H1 H' := by
  rcases h with h | h
  · exact ⟨fun _ => s2.seq h, fun z => (ex (s1.seq h) z).elim⟩
  · exact ⟨fun z => (ex z (same_t s1 h)).elim, fun _ => same_t s2 h⟩
theorem seq_excl {X : Cx} {pins : List (Addr × Obj)} {σ : L2.St} {H : Hp} {s : Shared} {a : Addr} {xs : List V} (I : Inv X pins σ H s) (h1 : SqL X.K H a xs) (h2 : SqT X.K H a xs) : False := by
  obtain ⟨its, rv, p, _⟩ := I.list h1
  obtain ⟨o, ho, hc, _⟩ := p.isList
  obtain ⟨its2, rv2, ⟨o2, ho2, hc2, _⟩, _⟩ := I.tuple h2
  rw [ho] at ho2
  cases ho2
  rw [hc] at hc2
  exact absurd hc2 (by decide)
def iSq (K : PySem.W.Frag) (tl : TE) : TI := fun σ H R => tl σ H fun v H1 => ∃ a xs, v = .ref a ∧ SqS K H1 a xs ∧ ∀ (J : It) (G : Hp → Prop), (SqL K H1 a xs → SqT K H1 a xs → False) → (∀ H', SqKeep K a xs H1 H' → G H') → Walk J xs.length G (YAt xs) → R J H1
section
variable {X : Cx}
theorem pi_sq {tg l : Expr} {tl : TE} (hl : PE X l tl) : PI X tg l (iSq X.K tl) := by
  refine ⟨fun pins s σ H R I h => ?_⟩
  refine thn (hl.run pins s σ H _ I h) fun v s1 ⟨x, H1, I1, r1, a, xs, e, hq, q⟩ => ?_
  subst e
  cases r1
  have foot : ∀ b ∈ [s1.heap.objs.size], FpOk X pins H1 b := fun b hb => by
    have e : b = s1.heap.objs.size := by simpa using hb
    subst e
    exact I1.fpOk (Nat.le_refl _) (I1.hok.fresh (Nat.le_refl _))
  rcases hq with hq | hq
  · obtain ⟨its, rv, p, hz⟩ := I1.list hq
    refine wpAny_pyIter_list p.isList ?_
    exact ⟨s1.heap.objs.size, [s1.heap.objs.size], _, _, H1, rfl, I1.kept (t' := s1.toks) fun b o e => Heap.get?_push_of_some _ e, turn_list a _, ⟨_, Heap.get?_push_size _ rfl, rfl, rfl⟩, foot, q _ _ (seq_excl I1) (fun H' k => k.1 hq) walk_list⟩
  · obtain ⟨its, rv, p, hz⟩ := I1.tuple hq
    refine wpAny_pyIter_tuple (show s1.heap.IsTuple a its.toArray from p) ?_
    exact ⟨s1.heap.objs.size, [s1.heap.objs.size], _, _, H1, rfl, I1.kept (t' := s1.toks) fun b o e => Heap.get?_push_of_some _ e, turn_tuple a _, ⟨_, Heap.get?_push_size _ rfl, rfl, rfl⟩, foot, q _ _ (seq_excl I1) (fun H' k => k.2 hq) walk_tup⟩
/-- enumerate, one reading for a list and a tuple -/
def iEnumQ (K : PySem.W.Frag) (ta : TA) : TI := fun σ H R => ta σ H fun vs H1 => ∃ a xs, vs = [.ref a] ∧ SqS K H1 a xs ∧ ∀ (J : It) (G : Hp → Prop), (SqL K H1 a xs → SqT K H1 a xs → False) → (∀ H', SqKeep K a xs H1 H' → G H') → Walk J xs.length G (YPair (fun i => some (.int (i : Nat))) (fun i => xs[i]?)) → R J H1
theorem pi_enumQ {e : Expr} {ta : TA} {p pos tpos : Pos} {elts : List Expr} {kk : Nat} (hg : Gl X "enumerate") (hm : X.mg "enumerate" = none) (ha : PA X [e] ta) (hs : starEach [e] X.env = [(false, eval e X.env)] := by rfl) :
    PI X (.Tuple elts kk tpos) (.Call (.Name "enumerate" p) [e] [] pos) (iEnumQ X.K ta) := by
  refine ⟨fun pins s σ H R I h => ?_⟩
  refine Call_ (ld_blt I hg hm boot_enumerate (PyProof.Rows.callWith_type1 (thn (ha.run pos pins s σ H _ I h) fun us s1 ⟨vs, H1, I1, r1, a, xs, e, hq, q⟩ => ?_) hs rfl))
  subst e
  obtain ⟨u, rfl, ru⟩ := vals1 r1
  cases (show u = Value.ref a from ru)
  have feet : ∀ b ∈ [s1.heap.objs.size + 1, s1.heap.objs.size], FpOk X pins H1 b := fun b hb => by
    have hle : s1.heap.objs.size ≤ b := by
      rcases (show b = s1.heap.objs.size + 1 ∨ b = s1.heap.objs.size by simpa using hb) with z | z
      · rw [z]; exact Nat.le_add_right _ _
      · rw [z]; exact Nat.le_refl _
    exact I1.fpOk hle (I1.hok.fresh hle)
  rcases hq with hq | hq
  · obtain ⟨its, rv, p', hz⟩ := I1.list hq
    refine call_enumerate_list p'.isList fun h' he hit hsz hk => wpAny_pyIter_enum he ?_
    exact ⟨s1.heap.objs.size + 1, [s1.heap.objs.size + 1, s1.heap.objs.size], _, _, H1, rfl, I1.kept (t' := s1.toks) hk, turn_enum a (s1.heap.objs.size + 1) s1.heap.objs.size, ⟨⟨.none, he⟩, hit, Nat.succ_ne_self _⟩, feet, q _ _ (seq_excl I1) (fun H' k => k.1 hq) walk_enum⟩
  · obtain ⟨its, rv, p', hz⟩ := I1.tuple hq
    refine call_enumT (show s1.heap.IsTuple a its.toArray from p') fun h' he hit hk => wpAny_pyIter_enum he ?_
    exact ⟨s1.heap.objs.size + 1, [s1.heap.objs.size + 1, s1.heap.objs.size], _, _, H1, rfl, I1.kept (t' := s1.toks) hk, turn_enumT a (s1.heap.objs.size + 1) s1.heap.objs.size, ⟨⟨.none, he⟩, hit, Nat.succ_ne_self _⟩, feet, q _ _ (seq_excl I1) (fun H' k => k.2 hq) walk_enumT⟩
end
end Ct

set_option Elab.async false
set_option linter.all false
set_option maxRecDepth 100000
set_option maxHeartbeats 4000000
/-! Own kit Q: set comprehensions by a walk. -/
namespace Ct
open PySem PySem.Spec PyProof.Rows L2 PpSet
theorem ksc_it {K : PySem.W.Frag} {P : Program} {w : World} {J : It} {n : Nat} {G : Hp → Prop} {Y : Nat → Hp → V → Hp → Prop} (wk : Walk J n G Y) {g : TG} {te : TE} {vs : List Nat} {σ : L2.St} {H1 : Hp} {D : Addr} {Qd : Hp → Prop} (Pv : Nat → Hp → Prop)
    (h0 : Pv 0 (upd H1 D (KSetO P w D []))) (hG : ∀ i H, i ≤ n → Pv i H → G H)
    (hs : ∀ i x H H', i < n → Pv i H → Y i H x H' → g x (wipe σ vs) H' fun σ2 H2 => wipe σ2 vs = wipe σ vs ∧ te σ2 H2 fun y H4 => ∃ b, y = .ref b ∧ rKAdd K P w D b H4 (Pv (i + 1))) (hd : ∀ H, Pv n H → Qd H) :
    ∃ W : Nat → Nat → Hp → Prop, (∃ m, W 0 m (upd H1 D (KSetO P w D []))) ∧ ∀ i m H, W i m H →
      (J.stop i H ∧ Qd H) ∨ (J.go i H ∧ ∃ Nx : Hp → Prop, (∀ H', Nx H' → ∃ m', m' < m ∧ W (i + 1) m' H') ∧ ∀ x H', J.yld i H x H' → g x (wipe σ vs) H' fun σ2 H2 => wipe σ2 vs = wipe σ vs ∧
        te σ2 H2 fun y H4 => ∃ b, y = .ref b ∧ rKAdd K P w D b H4 Nx) := by
  refine ⟨fun i m H => m = n - i ∧ i ≤ n ∧ Pv i H, ⟨n, by simp, Nat.zero_le _, h0⟩, ?_⟩
  rintro i m H ⟨rfl, hi, p⟩
  have q := hG i H hi p
  rcases Nat.lt_or_ge i n with lt | ge
  · exact .inr ⟨wk.goes i H lt q, Pv (i + 1), fun H' p' => ⟨n - (i + 1), by omega, rfl, lt, p'⟩, fun x H' y => hs i x H H' lt p (wk.yields i H x H' lt q y)⟩
  · obtain rfl : i = n := Nat.le_antisymm hi ge
    exact .inl ⟨wk.stops H q, hd H p⟩
/-- a set that has got one key more -/
theorem kadd_in {K : PySem.W.Frag} {P : Program} {w : World} {D b : Addr} {H : Hp} {L : List Mem} {k : List Key} {Q : Hp → Prop} (hD : H D = some (KSetO P w D L)) (hm : Mems K H L) (hb : SqT K H b (k.map kV)) (hl : L.length + 1 < 77)
    (q : ∀ L' H', H' D = some (KSetO P w D L') → (∀ c, c ≠ D → H' c = H c) → (∀ j, j ∈ L'.map (·.2) ↔ j = k ∨ j ∈ L.map (·.2)) → (∀ p ∈ L', p = (b, k) ∨ p ∈ L) → L'.length ≤ L.length + 1 → Q H') : rKAdd K P w D b H Q := by
  refine ⟨L, k, hD, hm, hb, hl, fun z => ?_, fun z L' pm => ?_⟩
  · exact q L H hD (fun _ _ => rfl) (fun j => ⟨.inr, fun h => h.elim (fun e => e ▸ z) id⟩) (fun p hp => .inr hp) (Nat.le_succ _)
  · refine q L' _ upd_same (fun c hc => upd_ne hc) (fun j => ?_) (fun p hp => ?_) (Nat.le_of_eq pm.length_eq)
    · have := (pm.map (·.2)).mem_iff (a := j)
      rw [this, List.map_cons, List.mem_cons]
    · have := pm.mem_iff.mp hp
      rcases List.mem_cons.mp this with e | e
      · exact .inl e
      · exact .inr e
end Ct

set_option Elab.async false
set_option linter.all false
set_option maxRecDepth 100000
set_option maxHeartbeats 4000000
/-! Own kit R: dict comprehensions stored, and by a walk. -/
namespace Ct
open PySem PySem.Spec PyProof.Rows L2
section
variable {X : Cx}
/-- y = {k: v for x in xs} -/
theorem ps_setDc {i : Nat} {y : PySem.Str} {py : Pos} {kx vx tg iter : Expr} {ifs : List Expr} {scope : Scope} {own : List (PySem.Str × Nat)} {pos spos : Pos} {wi : TI} {g : TG} {tt : TT} {tk tv : TE} (hc : X.calm = true) (hN : X.N.Nodup) (hy : X.N[i]? = some y) (hyl : X.env.scope.names.lookup y = some .local)
    (hsw : swapsWith (.DictComp kx vx [⟨tg, iter, ifs, 0⟩] scope pos) (some (.Name y py)) spos.line X.env = pure true) (hi : PI X tg iter wi) (ok : BlkOk X.N X.env.scope scope own)
    (hg : ∀ (s : Shared) (H : Hp) (C : Addr) (cl : List (PySem.Str × Addr)) (fp : List Addr), PG (X.blk s H scope (compEnvC scope cl C X.env) fp) tg g) (ht : ∀ (s : Shared) (H : Hp) (C : Addr) (cl : List (PySem.Str × Addr)) (fp : List Addr), PTs (X.blk s H scope (compEnvC scope cl C X.env) fp) ifs tt)
    (hk : ∀ (s : Shared) (H : Hp) (C : Addr) (cl : List (PySem.Str × Addr)) (fp : List Addr), PE (X.blk s H scope (compEnvC scope cl C X.env) fp) kx tk)
    (he : ∀ (s : Shared) (H : Hp) (C : Addr) (cl : List (PySem.Str × Addr)) (fp : List Addr), PE (X.blk s H scope (compEnvC scope cl C X.env) fp) vx tv) (hs : ∀ x, foldedSetIterable iter X.env x = pure x := by intro _; rfl) :
    PS X (.Assign [.Name y py] (.DictComp kx vx [⟨tg, iter, ifs, 0⟩] scope pos) spos) (tAsg (tDc wi g tt tk tv (own.map (·.2))) (gName i)) := by
  refine ⟨fun pins s σ H D I h => ?_⟩
  rw [exec_Assign_Name_used _ _ _ _ hsw]
  refine wpAny_bind (wpAny_standAt (wpAny_bind ?_))
  show wpAny _ X.A (do let _ ← comprehension (.DictComp kx vx [⟨tg, iter, ifs, 0⟩] scope pos) scope X.env (firstIterPos [⟨tg, iter, ifs, 0⟩] pos) newDict false (eval iter X.env) (some (assign (.Name y py) X.env))) _ _ s
  have q : tDc wi g tt tk tv (own.map (·.2)) σ H (fun x H1 => gName i x σ H1 D.nx) := h
  refine wpAny_bind (thn (dc_core (Qf := fun _ s' => SP X pins D .next s') hc hN I hi ok hg ht hk he hs q fun L C s' m H' I' q hn f => ?_) fun _ s' hq => wpAny_pure (wpAny_pure hq))
  show wpAny _ _ (assign (.Name y py) X.env (.ref L)) _ _ _
  refine wpAny_assign_Name (store_ok2 (v := V.ref L) I' hN hy (.inl hyl) rfl (fun s2 I2 ⟨a, sb, ha⟩ => ?_) (.inr hyl))
  obtain ⟨f0, f1, f2, f3, f4, f5⟩ := f
  have ne : C ≠ a := ha.elim (fun z => z ▸ f1) (fun z e => f4 y a z e.symm)
  exact ⟨m, hn.sameBut sb ne, fun h3 sb3 => ⟨_, H', I2.turned (t' := s2.toks) (fun b o hb e => (sb3.2 b hb).trans e) f0 f1 f3 f4 f5, q⟩⟩
theorem sw_setd {kx vx : Expr} {gs : List Comprehension} {scope : Scope} {pos py : Pos} {y : PySem.Str} {l : Nat} {env : Env} (hk : env.scope.kind = .function) (hy : env.scope.names.lookup y = some .local) (hl : (py.line == pos.line) = true)
    (ha : (scope.names.any fun (n, k) => n == y && (k == .local || k == .cell)) = false) : swapsWith (.DictComp kx vx gs scope pos) (some (.Name y py)) l env = pure true := by
  have ky : env.kindOf y = some .local := hy
  have hb : env.blockKind = .function := by unfold Env.blockKind; rw [hk]; rfl
  unfold swapsWith
  simp only [hb, ky, ha, Expr.pos, hl]
  rfl
end
theorem dc_it {J : It} {n : Nat} {G : Hp → Prop} {Y : Nat → Hp → V → Hp → Prop} (wk : Walk J n G Y) {g : TG} {tt : TT} {tk tv : TE} {vs : List Nat} {σ : L2.St} {H1 : Hp} {D : Addr} {Qd : Hp → Prop} (Pv : Nat → Hp → Prop) (h0 : Pv 0 (upd H1 D (.dK []))) (hG : ∀ i H, i ≤ n → Pv i H → G H)
    (hs : ∀ i x H H', i < n → Pv i H → Y i H x H' → g x (wipe σ vs) H' fun σ2 H2 => wipe σ2 vs = wipe σ vs ∧ tt σ2 H2 fun b H3 =>
      if b = true then tk σ2 H3 fun y H4 => tv σ2 H4 fun z H5 => ∃ kvs k, y = kV k ∧ H5 D = some (.dK kvs) ∧ kvs.length < sizeLine ∧ Pv (i + 1) (upd H5 D (.dK (putK kvs k z))) else Pv (i + 1) H3) (hd : ∀ H, Pv n H → Qd H) :
    ∃ W : Nat → Nat → Hp → Prop, (∃ m, W 0 m (upd H1 D (.dK []))) ∧ ∀ i m H, W i m H →
      (J.stop i H ∧ Qd H) ∨ (J.go i H ∧ ∃ Nx : Hp → Prop, (∀ H', Nx H' → ∃ m', m' < m ∧ W (i + 1) m' H') ∧ ∀ x H', J.yld i H x H' → g x (wipe σ vs) H' fun σ2 H2 => wipe σ2 vs = wipe σ vs ∧ tt σ2 H2 fun b H3 =>
        if b = true then tk σ2 H3 fun y H4 => tv σ2 H4 fun z H5 => ∃ kvs k, y = kV k ∧ H5 D = some (.dK kvs) ∧ kvs.length < sizeLine ∧ Nx (upd H5 D (.dK (putK kvs k z))) else Nx H3) := by
  refine ⟨fun i m H => m = n - i ∧ i ≤ n ∧ Pv i H, ⟨n, by simp, Nat.zero_le _, h0⟩, ?_⟩
  rintro i m H ⟨rfl, hi, p⟩
  have q := hG i H hi p
  rcases Nat.lt_or_ge i n with lt | ge
  · exact .inr ⟨wk.goes i H lt q, Pv (i + 1), fun H' p' => ⟨n - (i + 1), by omega, rfl, lt, p'⟩, fun x H' y => hs i x H H' lt p (wk.yields i H x H' lt q y)⟩
  · obtain rfl : i = n := Nat.le_antisymm hi ge
    exact .inl ⟨wk.stops H q, hd H p⟩
/-! the written part named: for what stands within a comprehension -/
section
variable {X : Cx} {K : PySem.W.Frag}
theorem pi_sqk (hK : X.K = K) {tg l : Expr} {tl : TE} (hl : PE X l tl) : PI X tg l (iSq K tl) := by
  subst hK
  exact pi_sq hl
theorem op_in_seqk (hK : X.K = K) : OpR X (compareOp .In) (rIn K false) := by
  subst hK
  exact op_in_seq
theorem op_notIn_seqk (hK : X.K = K) : OpR X (compareOp .NotIn) (rIn K true) := by
  subst hK
  exact op_notIn_seq
theorem or_amidk (hK : X.K = K) (hu : X.A.units + 64 < cLine) : OpR X (compareOp .In) (rAmid K false) := by
  subst hK
  exact or_amid hu
theorem or_namidk (hK : X.K = K) (hu : X.A.units + 64 < cLine) : OpR X (compareOp .NotIn) (rAmid K true) := by
  subst hK
  exact or_namid hu
theorem call_isDk (hK : X.K = K) : CallR X (.builtin "isinstance") (rIsD K) := by
  subst hK
  exact call_isD
end
end Ct

set_option Elab.async false
set_option linter.all false
set_option maxRecDepth 100000
set_option maxHeartbeats 2000000
/-! Own kit S: what stands, as one list (Lv); a tactic that answers a reading as far as it is plain. -/
namespace Ct
open PySem PySem.Spec PyProof.Rows L2
theorem at_while {c : TT} {b u : TS} {D : Ends} {σ : L2.St} {H : Hp} (h : tSeq (tWhile c b) u D σ H) : tSeq (tWhile c b) u D σ H := h
theorem at_while1 {c : TT} {b : TS} {D : Ends} {σ : L2.St} {H : Hp} (h : tWhile c b D σ H) : tWhile c b D σ H := h
theorem erase_perm {α : Type} : ∀ {xs : List α} {i : Nat} (h : i < xs.length), (xs[i] :: xs.eraseIdx i).Perm xs
  | x :: xs, 0, _ => .refl _
  | x :: xs, i + 1, h => (List.Perm.swap _ _ _).trans (List.Perm.cons x (erase_perm (Nat.lt_of_succ_lt_succ h)))
theorem map_same {α : Type} {f : α → α} : ∀ {l : List α}, (∀ y ∈ l, f y = y) → l.map f = l
  | [], _ => rfl
  | y :: l, h => by rw [List.map_cons, h y List.mem_cons_self, map_same fun z hz => h z (List.mem_cons_of_mem _ hz)]
/-- a row of the same things in another sequence -/
theorem perm_inv {α β : Type} {f : α → β} (g : β → α) (hg : ∀ x, g (f x) = x) {ys : List β} {xs : List α} (h : ys.Perm (xs.map f)) : ∃ zs : List α, zs.Perm xs ∧ ys = zs.map f := by
  refine ⟨ys.map g, ?_, ?_⟩
  · have := h.map g
    rwa [List.map_map, show g ∘ f = id from funext hg, List.map_id] at this
  · rw [List.map_map]
    refine (map_same fun y hy => ?_).symm
    obtain ⟨x, _, rfl⟩ := List.mem_map.mp (h.mem_iff.mp hy)
    exact congrArg f (hg x)
def strOf : V → Str
  | .str x => x
  | _ => Str.empty
theorem strs_perm {ys : List V} {xs : List Str} (h : ys.Perm (xs.map V.str)) : ∃ zs : List Str, zs.Perm xs ∧ ys = zs.map V.str := perm_inv strOf (fun _ => rfl) h
theorem paired_perm {α β : Type} {R : α → β → Prop} {ys xs : List α} (h : ys.Perm xs) : ∀ {ts : List β}, Paired R xs ts → ∃ us, us.Perm ts ∧ Paired R ys us := by
  induction h with
  | nil => intro ts p; exact ⟨ts, .refl _, p⟩
  | cons x _ ih =>
    intro ts p
    cases p with
    | cons a b =>
      obtain ⟨us, h1, h2⟩ := ih b
      exact ⟨_ :: us, h1.cons _, .cons a h2⟩
  | swap x y l =>
    intro ts p
    cases p with
    | cons a b =>
      cases b with
      | cons b c => exact ⟨_, .swap _ _ _, .cons b (.cons a c)⟩
  | trans _ _ ih1 ih2 =>
    intro ts p
    obtain ⟨us, h1, h2⟩ := ih2 p
    obtain ⟨vs, h3, h4⟩ := ih1 h2
    exact ⟨vs, h3.trans h1, h4⟩
theorem nodup_set {α : Type} : ∀ {l : List α} {i : Nat} {x : α}, l.Nodup → x ∉ l → (l.set i x).Nodup
  | [], _, _, _, _ => List.nodup_nil
  | y :: l, 0, x, h, n => by
    rw [List.set_cons_zero]
    exact List.nodup_cons.mpr ⟨fun z => n (List.mem_cons_of_mem _ z), (List.nodup_cons.mp h).2⟩
  | y :: l, i + 1, x, h, n => by
    rw [List.set_cons_succ]
    refine List.nodup_cons.mpr ⟨fun z => ?_, nodup_set (List.nodup_cons.mp h).2 fun z => n (List.mem_cons_of_mem _ z)⟩
    rcases List.mem_or_eq_of_mem_set z with z | z
    · exact (List.nodup_cons.mp h).1 z
    · exact n (z ▸ List.mem_cons_self)
theorem in_strs (l : List Str) (q : Str) : inV (.str q) (l.map V.str) = decide (q ∈ l) := by
  rw [Bool.eq_iff_iff, decide_eq_true_eq]
  unfold inV
  rw [List.any_map, List.any_eq_true]
  exact ⟨fun ⟨y, hy, e⟩ => (eq_of_beq (show (y == q) = true from e)) ▸ hy, fun h => ⟨q, h, beq_self_eq_true q⟩⟩
/-- a row cut behind the first n -/
theorem cut_take (xs : List V) (n : Nat) : cutV xs none (some (n : Int)) = xs.take n := by
  unfold cutV
  rw [HT.sIx_none, HT.sIx_nat, List.drop_zero, Nat.sub_zero]
  exact (List.take_eq_take_min).symm
/-- a shield: what is within is not looked at -/
structure Hold (p : Prop) : Prop where
  out : p
/-- a test that changes nothing: both ways apart, whatever it leans on -/
theorem ifs_any {c : TT} {a b : TS} {D : Ends} {σ : L2.St} {H : Hp} (R : Bool → Prop) (hc : ∀ Q : Bool → Hp → Prop, (∀ x, R x → Q x H) → c σ H Q) (h1 : R true → a D σ H) (h2 : R false → b D σ H) : tIfS c a b D σ H := by
  refine hc _ fun x hx => ?_
  cases x with
  | true => exact iteT (h1 hx)
  | false => exact iteF (h2 hx)
theorem sz0 : ([] : List V).length ≤ sizeLine := by rw [sizeLine_eq]; simp only [List.length_cons, List.length_nil]; decide
theorem sz1 {a0 : V} : ([a0] : List V).length ≤ sizeLine := by rw [sizeLine_eq]; simp only [List.length_cons, List.length_nil]; decide
theorem sz2 {a0 a1 : V} : ([a0, a1] : List V).length ≤ sizeLine := by rw [sizeLine_eq]; simp only [List.length_cons, List.length_nil]; decide
theorem sz3 {a0 a1 a2 : V} : ([a0, a1, a2] : List V).length ≤ sizeLine := by rw [sizeLine_eq]; simp only [List.length_cons, List.length_nil]; decide
theorem sz4 {a0 a1 a2 a3 : V} : ([a0, a1, a2, a3] : List V).length ≤ sizeLine := by rw [sizeLine_eq]; simp only [List.length_cons, List.length_nil]; decide
theorem sz5 {a0 a1 a2 a3 a4 : V} : ([a0, a1, a2, a3, a4] : List V).length ≤ sizeLine := by rw [sizeLine_eq]; simp only [List.length_cons, List.length_nil]; decide
theorem sz6 {a0 a1 a2 a3 a4 a5 : V} : ([a0, a1, a2, a3, a4, a5] : List V).length ≤ sizeLine := by rw [sizeLine_eq]; simp only [List.length_cons, List.length_nil]; decide
theorem sz7 {a0 a1 a2 a3 a4 a5 a6 : V} : ([a0, a1, a2, a3, a4, a5, a6] : List V).length ≤ sizeLine := by rw [sizeLine_eq]; simp only [List.length_cons, List.length_nil]; decide
theorem sz8 {a0 a1 a2 a3 a4 a5 a6 a7 : V} : ([a0, a1, a2, a3, a4, a5, a6, a7] : List V).length ≤ sizeLine := by rw [sizeLine_eq]; simp only [List.length_cons, List.length_nil]; decide
theorem sz10 {a0 a1 a2 a3 a4 a5 a6 a7 a8 a9 : V} : ([a0, a1, a2, a3, a4, a5, a6, a7, a8, a9] : List V).length ≤ sizeLine := by rw [sizeLine_eq]; simp only [List.length_cons, List.length_nil]; decide
theorem sz11 {a0 a1 a2 a3 a4 a5 a6 a7 a8 a9 a10 : V} : ([a0, a1, a2, a3, a4, a5, a6, a7, a8, a9, a10] : List V).length ≤ sizeLine := by rw [sizeLine_eq]; simp only [List.length_cons, List.length_nil]; decide
theorem sz12 {a0 a1 a2 a3 a4 a5 a6 a7 a8 a9 a10 a11 : V} : ([a0, a1, a2, a3, a4, a5, a6, a7, a8, a9, a10, a11] : List V).length ≤ sizeLine := by rw [sizeLine_eq]; simp only [List.length_cons, List.length_nil]; decide
theorem sz14 {a0 a1 a2 a3 a4 a5 a6 a7 a8 a9 a10 a11 a12 a13 : V} : ([a0, a1, a2, a3, a4, a5, a6, a7, a8, a9, a10, a11, a12, a13] : List V).length ≤ sizeLine := by rw [sizeLine_eq]; simp only [List.length_cons, List.length_nil]; decide
theorem nodup_inj {α β : Type} {f : α → β} (inj : ∀ x y, f x = f y → x = y) {l : List α} (h : l.Nodup) : (l.map f).Nodup := List.pairwise_map.mpr (h.imp fun n e => n (inj _ _ e))
theorem nodup_len {α : Type} [DecidableEq α] : ∀ {r ns : List α}, r.Nodup → (∀ q ∈ r, q ∈ ns) → r.length ≤ ns.length
  | [], _, _, _ => Nat.zero_le _
  | x :: r, ns, h, s => by
    obtain ⟨n, h⟩ := List.nodup_cons.mp h
    have h1 := nodup_len (ns := ns.erase x) h fun q hq => (List.mem_erase_of_ne (fun z => n (by rw [← z]; exact hq))).mpr (s q (List.mem_cons_of_mem _ hq))
    have h2 := List.length_erase_of_mem (s x List.mem_cons_self)
    have h3 := List.length_pos_of_mem (s x List.mem_cons_self)
    rw [List.length_cons]
    omega
theorem idx_inj {ns : List Str} (nd : ns.Nodup) {i j : Nat} {x : Str} (h1 : ns[i]? = some x) (h2 : ns[j]? = some x) : i = j :=
  (List.getElem?_inj (List.getElem?_eq_some_iff.mp h1).1 nd).mp (h1.trans h2.symm)
/-- a test, both ways apart, told by what holds behind it -/
theorem ifs_to {c : TT} {a b : TS} {D : Ends} {σ : L2.St} {H : Hp} (R : Bool → Hp → Prop) (hc : ∀ Q : Bool → Hp → Prop, (∀ x H', R x H' → Q x H') → c σ H Q) (h1 : ∀ H', R true H' → a D σ H') (h2 : ∀ H', R false H' → b D σ H') : tIfS c a b D σ H := by
  refine hc _ fun x H' hx => ?_
  cases x with
  | true => exact iteT (h1 H' hx)
  | false => exact iteF (h2 H' hx)
def updX (H : Hp) (a : Addr) (o : HO) : Hp := upd H a o
theorem upd_mark {H : Hp} {a : Addr} {o : HO} : upd H a o = updX H a o := rfl
/-- a while by an invariant and a measure -/
theorem while_n {c : TT} {tb : TS} {D : Ends} {σ : L2.St} {H : Hp} (Pv : L2.St → Hp → Prop) (μ : L2.St → Hp → Nat) (h0 : Pv σ H)
    (hs : ∀ σ H, Pv σ H → c σ H fun b H1 => if b = true then ∃ N : L2.St → Hp → Prop, (∀ σ' H', N σ' H' → ∃ m', m' < μ σ H ∧ (m' = μ σ' H' ∧ Pv σ' H')) ∧ tb { D with nx := N, ct := N, bk := D.nx } σ H1 else D.nx σ H1) : tWhile c tb D σ H := by
  refine ⟨fun m σ H => m = μ σ H ∧ Pv σ H, ⟨_, rfl, h0⟩, ?_⟩
  rintro m σ H ⟨rfl, p⟩
  exact hs σ H p
theorem while_nx {Pv : L2.St → Hp → Prop} {μ : L2.St → Hp → Nat} {m : Nat} : ∀ σ' H', (Pv σ' H' ∧ μ σ' H' < m) → ∃ m', m' < m ∧ (m' = μ σ' H' ∧ Pv σ' H') := fun _ _ h => ⟨_, h.2, rfl, h.1⟩
/-- a list's length -/
def lenH (H : Hp) (a : Addr) : Nat := match H a with
  | some (.lst xs) => xs.length
  | _ => 0
theorem lenH_eq {H : Hp} {a : Addr} {xs : List V} (h : H a = some (.lst xs)) : lenH H a = xs.length := by unfold lenH; rw [h]
/-- what stands now at different addresses; of what stood in H0 all stands but what is at S -/
structure Lv (H0 : Hp) (S : List Addr) (H : Hp) (l : List (Addr × HO)) : Prop where
  nd : (l.map (·.1)).Nodup
  all : ∀ p ∈ l, H p.1 = some p.2
  fr : ∀ b o, b ∉ S → H0 b = some o → H b = some o
  nw : ∀ p ∈ l, p.1 ∈ S ∨ H0 p.1 = none
  sl : ∀ b ∈ S, b ∈ l.map (·.1)
section
variable {H0 H H' : Hp} {S : List Addr} {l : List (Addr × HO)} {p q : Addr} {o u : HO}
theorem Lv.get (h : Lv H0 S H l) (i : Nat) (e : l[i]? = some (p, o)) : H p = some o := h.all (p, o) (List.mem_of_getElem? e)
/-- nothing is changed -/
theorem Lv.zero (H : Hp) : Lv H [] H [] := ⟨List.nodup_nil, fun _ h => (nomatch h), fun _ _ _ h => h, fun _ h => (nomatch h), fun _ h => (nomatch h)⟩
theorem Lv.add (h : Lv H S H l) (hp : H p = some o) (n : p ∉ l.map (·.1)) : Lv H (p :: S) H ((p, o) :: l) where
  nd := List.nodup_cons.mpr ⟨n, h.nd⟩
  all := fun q hq => by
    cases hq with
    | head => exact hp
    | tail _ hq => exact h.all q hq
  fr := fun b o n hb => hb
  nw := fun q hq => by
    cases hq with
    | head => exact .inl List.mem_cons_self
    | tail _ hq => exact (h.nw q hq).imp (List.mem_cons_of_mem _) id
  sl := fun b hb => by
    cases hb with
    | head => exact List.mem_cons_self
    | tail _ hb => exact List.mem_cons_of_mem _ (h.sl b hb)
/-- one thing may be changed -/
theorem Lv.one (hp : H p = some o) : Lv H [p] H [(p, o)] := (Lv.zero H).add hp (fun z => nomatch z)
theorem Lv.two (hp : H p = some o) (hq : H q = some u) (n : p ≠ q) : Lv H [p, q] H [(p, o), (q, u)] := (Lv.one hq).add hp (fun z => n (List.mem_singleton.mp z))
theorem Lv.new (h : Lv H0 S H l) (np : H p = none) : p ∉ l.map (·.1) := fun z => by
  obtain ⟨q, hq, rfl⟩ := List.mem_map.mp z
  rw [h.all q hq] at np
  cases np
theorem Lv.free (h : Lv H0 S H l) (np : H p = none) : H0 p = none := by
  cases q : H0 p with
  | none => rfl
  | some o =>
    by_cases c : p ∈ S
    · exact absurd (h.sl p c) (h.new np)
    · rw [h.fr p o c q] at np; cases np
theorem Lv.same (h : Lv H0 S H l) (s : Same H H') : Lv H0 S H' l := ⟨h.nd, fun q hq => s _ _ (h.all q hq), fun b o n hb => s _ _ (h.fr b o n hb), h.nw, h.sl⟩
theorem Lv.cons (h : Lv H0 S H l) (hp : H p = some o) (n : p ∉ l.map (·.1)) (n0 : H0 p = none) : Lv H0 S H ((p, o) :: l) where
  nd := List.nodup_cons.mpr ⟨n, h.nd⟩
  all := fun q hq => by
    cases hq with
    | head => exact hp
    | tail _ hq => exact h.all q hq
  fr := h.fr
  nw := fun q hq => by
    cases hq with
    | head => exact .inr n0
    | tail _ hq => exact h.nw q hq
  sl := fun b hb => List.mem_cons_of_mem _ (h.sl b hb)
theorem Lv.al (h : Lv H0 S H l) (np : H p = none) : Lv H0 S (upd H p o) ((p, o) :: l) := (h.same (same_new np)).cons upd_same (h.new np) (h.free np)
/-- a new thing told by what holds behind it -/
theorem Lv.al' (h : Lv H0 S H l) (s : Same H H') (np : H p = none) (hp : H' p = some o) : Lv H0 S H' ((p, o) :: l) := (h.same s).cons hp (h.new np) (h.free np)
theorem Lv.ne (h : Lv H0 S H l) (i j : Nat) (ne : i ≠ j) (e : l[i]? = some (p, o)) (f : l[j]? = some (q, u)) : p ≠ q := fun z => by
  have hi := (List.getElem?_eq_some_iff.mp e).1
  have hj := (List.getElem?_eq_some_iff.mp f).1
  have a : (l.map (·.1))[i]? = some p := by rw [List.getElem?_map, e]; rfl
  have b : (l.map (·.1))[j]? = some p := by rw [List.getElem?_map, f, z]; rfl
  exact ne ((List.getElem?_inj (by rw [List.length_map]; exact hi) h.nd).mp (a.trans b.symm))
theorem set_fst {l : List (Addr × HO)} {i : Nat} (e : l[i]? = some (p, o)) : (l.set i (p, u)).map (·.1) = l.map (·.1) := by
  have hi := (List.getElem?_eq_some_iff.mp e).1
  rw [List.map_set]
  refine List.ext_getElem? fun j => ?_
  rw [List.getElem?_set]
  by_cases c : i = j
  · subst c
    rw [if_pos rfl, if_pos (by rw [List.length_map]; exact hi), List.getElem?_map, e]
    rfl
  · rw [if_neg c]
/-- what is at the i-th address is changed, told by what holds behind it -/
theorem Lv.st' (h : Lv H0 S H l) (i : Nat) (e : l[i]? = some (p, o)) (hp : H' p = some u) (off : ∀ b w, b ≠ p → H b = some w → H' b = some w) : Lv H0 S H' (l.set i (p, u)) := by
  have hi := (List.getElem?_eq_some_iff.mp e).1
  have em := set_fst (u := u) e
  have mem : ∀ q ∈ l.set i (p, u), q = (p, u) ∨ (q ∈ l ∧ q.1 ≠ p) := fun q hq => by
    obtain ⟨j, hj⟩ := List.mem_iff_getElem?.mp hq
    rw [List.getElem?_set] at hj
    by_cases c : i = j
    · rw [if_pos c, if_pos hi] at hj
      cases hj
      exact .inl rfl
    · rw [if_neg c] at hj
      exact .inr ⟨List.mem_of_getElem? hj, fun z => (h.ne i j c e (q := q.1) (u := q.2) hj) z.symm⟩
  refine ⟨by rw [em]; exact h.nd, fun q hq => ?_, fun b w n hb => ?_, fun q hq => ?_, fun b hb => by rw [em]; exact h.sl b hb⟩
  · rcases mem q hq with rfl | ⟨hq, n⟩
    · exact hp
    · exact off _ _ n (h.all q hq)
  · refine off b w (fun z => ?_) (h.fr b w n hb)
    subst z
    rcases h.nw _ (List.mem_of_getElem? e) with z | z
    · exact n z
    · rw [hb] at z; cases z
  · rcases mem q hq with rfl | ⟨hq, _⟩
    · exact h.nw (p, o) (List.mem_of_getElem? e)
    · exact h.nw q hq
/-- what is at the i-th address is changed, and something is new -/
theorem Lv.stn {v : HO} {r : Addr} (h : Lv H0 S H l) (i : Nat) (e : l[i]? = some (p, o)) (hp : H' p = some u) (off : ∀ b w, b ≠ p → H b = some w → H' b = some w) (np : H r = none) (hr : H' r = some v) : Lv H0 S H' ((r, v) :: l.set i (p, u)) :=
  (h.st' i e hp off).cons hr (by rw [set_fst e]; exact h.new np) (h.free np)
theorem Lv.pick (h : Lv H0 S H l) {l' : List (Addr × HO)} (nd : (l'.map (·.1)).Nodup) (sub : ∀ q ∈ l', q ∈ l) (sl : ∀ b ∈ S, b ∈ l'.map (·.1)) : Lv H0 S H l' :=
  ⟨nd, fun q hq => h.all q (sub q hq), h.fr, fun q hq => h.nw q (sub q hq), sl⟩
theorem Lv.pick1 (h : Lv H0 [p] H l) (j : Nat) (ej : l[j]? = some (p, o)) : Lv H0 [p] H [(p, o)] :=
  h.pick (by simp) (fun q hq => by rw [List.mem_singleton.mp hq]; exact List.mem_of_getElem? ej) fun b hb => by rw [List.mem_singleton.mp hb]; simp
theorem Lv.pick2 (h : Lv H0 [p] H l) (i j : Nat) (ne : i ≠ j) (ei : l[i]? = some (q, u)) (ej : l[j]? = some (p, o)) : Lv H0 [p] H [(q, u), (p, o)] :=
  h.pick (by simpa using h.ne i j ne ei ej) (fun q hq => by
    cases hq with
    | head => exact List.mem_of_getElem? ei
    | tail _ hq => rw [List.mem_singleton.mp hq]; exact List.mem_of_getElem? ej) fun b hb => by rw [List.mem_singleton.mp hb]; simp
theorem Lv.pick3 {r : Addr} {v : HO} (h : Lv H0 [p] H l) (i k j : Nat) (n1 : i ≠ k) (n2 : i ≠ j) (n3 : k ≠ j) (ei : l[i]? = some (q, u)) (ek : l[k]? = some (r, v)) (ej : l[j]? = some (p, o)) : Lv H0 [p] H [(q, u), (r, v), (p, o)] :=
  h.pick (by simpa using ⟨⟨h.ne i k n1 ei ek, h.ne i j n2 ei ej⟩, h.ne k j n3 ek ej⟩) (fun q hq => by
    cases hq with
    | head => exact List.mem_of_getElem? ei
    | tail _ hq =>
      cases hq with
      | head => exact List.mem_of_getElem? ek
      | tail _ hq => rw [List.mem_singleton.mp hq]; exact List.mem_of_getElem? ej) fun b hb => by rw [List.mem_singleton.mp hb]; simp
def getAll {α : Type} (l : List α) : List Nat → Option (List α)
  | [] => some []
  | i :: is => match l[i]?, getAll l is with
    | some x, some xs => some (x :: xs)
    | _, _ => none
theorem getAll_mem {α : Type} {l : List α} : ∀ {is : List Nat} {l' : List α}, getAll l is = some l' → ∀ x ∈ l', ∃ i ∈ is, l[i]? = some x
  | [], l', e, x, hx => by cases e; cases hx
  | i :: is, l', e, x, hx => by
    unfold getAll at e
    cases e1 : l[i]? with
    | none => rw [e1] at e; cases e
    | some y =>
      cases e2 : getAll l is with
      | none => rw [e1, e2] at e; cases e
      | some ys =>
        rw [e1, e2] at e
        cases e
        cases hx with
        | head => exact ⟨i, List.mem_cons_self, e1⟩
        | tail _ hx =>
          obtain ⟨j, hj, h⟩ := getAll_mem e2 x hx
          exact ⟨j, List.mem_cons_of_mem _ hj, h⟩
/-- some of what stands -/
theorem Lv.picks (h : Lv H0 S H l) (is : List Nat) {l' : List (Addr × HO)} (e : getAll l is = some l') (nd : is.Nodup) (sl : ∀ b ∈ S, b ∈ l'.map (·.1)) : Lv H0 S H l' := by
  refine h.pick ?_ (fun q hq => ?_) sl
  · clear sl
    induction is generalizing l' with
    | nil => cases e; exact List.nodup_nil
    | cons i is ih =>
      unfold getAll at e
      cases e1 : l[i]? with
      | none => rw [e1] at e; cases e
      | some y =>
        cases e2 : getAll l is with
        | none => rw [e1, e2] at e; cases e
        | some ys =>
          rw [e1, e2] at e
          cases e
          refine List.nodup_cons.mpr ⟨fun z => ?_, ih e2 (List.nodup_cons.mp nd).2⟩
          obtain ⟨q, hq, eq⟩ := List.mem_map.mp z
          obtain ⟨j, hj, ej⟩ := getAll_mem e2 q hq
          exact h.ne i j (fun z => (List.nodup_cons.mp nd).1 (z ▸ hj)) (p := y.1) (o := y.2) (q := q.1) (u := q.2) e1 ej eq.symm
  · obtain ⟨i, _, ei⟩ := getAll_mem e q hq
    exact List.mem_of_getElem? ei
theorem Lv.fresh (h : Lv H0 S H l) (i : Nat) (e : l[i]? = some (p, o)) (n : p ∉ S) : H0 p = none := (h.nw _ (List.mem_of_getElem? e)).resolve_left n
theorem Lv.alE (h : Lv H0 S H l) (np : H p = none) (e : upd H p o = H') : Lv H0 S H' ((p, o) :: l) := e ▸ h.al np
theorem Lv.stE (h : Lv H0 S H l) (i : Nat) (e : l[i]? = some (p, o)) (f : upd H p u = H') : Lv H0 S H' (l.set i (p, u)) := by
  subst f
  exact h.st' i e upd_same fun b w n hb => by rw [upd_ne n]; exact hb
theorem sameE (np : H p = none) (e : upd H p o = H') : Same H H' := e ▸ same_new np
theorem sameN {H1 : Hp} (s : Same H1 H) (np : H1 p = none) (e : upd H p o = H') : Same H1 H' := e ▸ same_upd s np
theorem kv_str (p : Str) : V.str p = kV (.inr p) := rfl
theorem kv_int (i : Int) : V.int i = kV (.inl i) := rfl
/-- all but p -/
theorem Lv.off (h : Lv H0 [p] H l) : ∀ b o, b ≠ p → H0 b = some o → H b = some o := fun b o n hb => h.fr b o (fun z => n (List.mem_singleton.mp z)) hb
theorem Lv.sm (h : Lv H0 [] H l) : Same H0 H := fun b o hb => h.fr b o (fun z => nomatch z) hb
theorem Lv.tl (h : Lv H0 S H ((p, o) :: l)) (n : p ∉ S) : Lv H0 S H l :=
  ⟨(List.nodup_cons.mp h.nd).2, fun q hq => h.all q (List.mem_cons_of_mem _ hq), h.fr, fun q hq => h.nw q (List.mem_cons_of_mem _ hq), fun b hb => by
    have := h.sl b hb
    rw [List.map_cons] at this
    cases this with
    | head => exact absurd hb n
    | tail _ z => exact z⟩
/-- what is told in another way -/
theorem Lv.re {l' : List (Addr × HO)} (h : Lv H0 S H l) (e : l = l') : Lv H0 S H l' := e ▸ h
/-- what stands apart from S -/
theorem Lv.sqL {K : PySem.W.Frag} {xs : List V} (h : Lv H0 S H l) (n : p ∉ S) : SqL K H0 p xs → SqL K H p xs := fun x => x.imp (fun r => r.imp (h.fr _ _ n) fun ⟨o, r⟩ => ⟨o, h.fr _ _ n r⟩) id
theorem Lv.sqT {K : PySem.W.Frag} {xs : List V} (h : Lv H0 S H l) (n : p ∉ S) : SqT K H0 p xs → SqT K H p xs := fun x => x.imp (fun r => r.imp (h.fr _ _ n) fun ⟨o, r⟩ => ⟨o, h.fr _ _ n r⟩) id
theorem Lv.sqS {K : PySem.W.Frag} {xs : List V} (h : Lv H0 S H l) (n : p ∉ S) : SqS K H0 p xs → SqS K H p xs := fun x => x.imp (h.sqL n) (h.sqT n)
/-- a frame within a frame -/
theorem Lv.sub {H1 : Hp} {T : List Addr} {m : List (Addr × HO)} (h : Lv H0 S H l) (k : Lv H T H1 m) (ts : ∀ b ∈ T, b ∈ S ∨ H0 b = none) (hs : ∀ b ∈ S, b ∈ m.map (·.1)) (hm : ∀ p ∈ m, p.1 ∈ S ∨ H0 p.1 = none) : Lv H0 S H1 m :=
  ⟨k.nd, k.all, fun b o n hb => k.fr b o (fun z => by
    rcases ts b z with z | z
    · exact n z
    · rw [hb] at z; cases z) (h.fr b o n hb), hm, hs⟩
end
/-- tuples never change -/
def KeepT (H H' : Hp) : Prop := ∀ b xs, H b = some (.tup xs) → H' b = some (.tup xs)
theorem KeepT.refl (H : Hp) : KeepT H H := fun _ _ h => h
theorem KeepT.trans {H H1 H2 : Hp} (a : KeepT H H1) (b : KeepT H1 H2) : KeepT H H2 := fun c xs h => b c xs (a c xs h)
theorem KeepT.same {H H' : Hp} (s : Same H H') : KeepT H H' := fun b xs h => s b _ h
theorem KeepT.off {H H' : Hp} {p : Addr} {o : HO} (h : H p = some o) (n : ∀ xs, o ≠ .tup xs) (s : ∀ b o, b ≠ p → H b = some o → H' b = some o) : KeepT H H' := fun b xs hb => by
  refine s b _ (fun z => ?_) hb
  rw [z, h] at hb
  exact n xs (Option.some.inj hb)
theorem KeepT.st {H H' : Hp} {p : Addr} {xs : List V} {o : HO} (h : H p = some (.lst xs)) (e : upd H p o = H') : KeepT H H' := e ▸ KeepT.off h (fun _ z => nomatch z) fun b o n hb => by rw [upd_ne n]; exact hb
/-- rows of couples of ints, each a tuple -/
abbrev PairsT (H : Hp) : List V → List (Nat × Nat) → Prop := Paired fun x p => ∃ a, x = .ref a ∧ H a = some (.tup [.int (p.1 : Nat), .int (p.2 : Nat)])
theorem PairsT.keep {H H' : Hp} (k : KeepT H H') : ∀ {xs : List V} {ps : List (Nat × Nat)}, PairsT H xs ps → PairsT H' xs ps
  | _, _, .nil => .nil
  | _, _, .cons ⟨a, e, h⟩ t => .cons ⟨a, e, k _ _ h⟩ (PairsT.keep k t)
/-- rows of couples of texts, each a tuple -/
abbrev TiesT (H : Hp) : List V → List (Str × Str) → Prop := Paired fun x p => ∃ a, x = .ref a ∧ H a = some (.tup [.str p.1, .str p.2])
theorem TiesT.keep {H H' : Hp} (k : KeepT H H') : ∀ {xs : List V} {ps : List (Str × Str)}, TiesT H xs ps → TiesT H' xs ps
  | _, _, .nil => .nil
  | _, _, .cons ⟨a, e, h⟩ t => .cons ⟨a, e, k _ _ h⟩ (TiesT.keep k t)
theorem paired_app {α β : Type} {R : α → β → Prop} : ∀ {xs ys : List α} {ps qs : List β}, Paired R xs ps → Paired R ys qs → Paired R (xs ++ ys) (ps ++ qs)
  | _, _, _, _, .nil, h => h
  | _, _, _, _, .cons a t, h => .cons a (paired_app t h)
theorem paired_at {α β : Type} {R : α → β → Prop} : ∀ {xs : List α} {ps : List β}, Paired R xs ps → ∀ {i : Nat} {x : α}, xs[i]? = some x → ∃ p, ps[i]? = some p ∧ R x p
  | _, _, .cons a _, 0, x, e => by cases e; exact ⟨_, rfl, a⟩
  | _, _, .cons _ t, i + 1, x, e => paired_at t (i := i) e
theorem paired_mem {α β : Type} {R : α → β → Prop} : ∀ {xs : List α} {ps : List β}, Paired R xs ps → ∀ p ∈ ps, ∃ x ∈ xs, R x p
  | _, _, .cons a t, p, h => by
    cases h with
    | head => exact ⟨_, List.mem_cons_self, a⟩
    | tail _ h =>
      obtain ⟨x, hx, r⟩ := paired_mem t p h
      exact ⟨x, List.mem_cons_of_mem _ hx, r⟩
theorem paired_len {α β : Type} {R : α → β → Prop} : ∀ {xs : List α} {ps : List β}, Paired R xs ps → xs.length = ps.length
  | _, _, .nil => rfl
  | _, _, .cons _ t => congrArg (· + 1) (paired_len t)
def pairI (p : Nat × Nat) : PyData := .tuple [.int (p.1 : Nat), .int (p.2 : Nat)]
theorem PairsT.dp {K : PySem.W.Frag} {H : Hp} : ∀ {xs : List V} {ps : List (Nat × Nat)}, PairsT H xs ps → DpAll K H xs (ps.map pairI)
  | _, _, .nil => .nil
  | _, _, .cons ⟨a, e, h⟩ t => .cons (by subst e; exact .tup (SqT.of h) (.cons (.int _) (.cons (.int _) .nil))) (PairsT.dp t)
theorem eqv_pairI (p q : Nat × Nat) : PyData.eqv (pairI p) (pairI q) = decide (p = q) := by
  obtain ⟨a, b⟩ := p
  obtain ⟨c, d⟩ := q
  show PyData.eqvAll [.int (a : Nat), .int (b : Nat)] [.int (c : Nat), .int (d : Nat)] = _
  simp only [PyData.eqvAll, PyData.eqv, Bool.and_true]
  rw [Bool.eq_iff_iff, decide_eq_true_eq, Bool.and_eq_true, beq_iff_eq, beq_iff_eq]
  constructor
  · rintro ⟨h1, h2⟩
    rw [Int.ofNat_inj.mp h1, Int.ofNat_inj.mp h2]
  · intro h
    cases h
    exact ⟨rfl, rfl⟩
theorem any_pairI (ps : List (Nat × Nat)) (q : Nat × Nat) : ((ps.map pairI).any fun z => PyData.eqv z (pairI q)) = decide (q ∈ ps) := by
  rw [Bool.eq_iff_iff, decide_eq_true_eq, List.any_map, List.any_eq_true]
  constructor
  · rintro ⟨y, hy, e⟩
    have e : decide (y = q) = true := (eqv_pairI y q) ▸ e
    exact (of_decide_eq_true e) ▸ hy
  · exact fun h => ⟨q, h, by show PyData.eqv (pairI q) (pairI q) = true; rw [eqv_pairI]; exact decide_eq_true rfl⟩
theorem shaped_pairs (ps : List (Nat × Nat)) : SeqAt.shaped (.list (ps.map pairI)) = true := by
  have h1 : PyData.canLayAll0 (ps.map pairI) = true := by
    induction ps with
    | nil => rfl
    | cons p ps ih => rw [List.map_cons, PyData.canLayAll0, ih]; rfl
  have h2 : PyData.depthAll (ps.map pairI) ≤ 5 := by
    induction ps with
    | nil => simp [PyData.depthAll]
    | cons p ps ih => rw [List.map_cons, PyData.depthAll]; exact Nat.max_le.mpr ⟨by simp [pairI, PyData.depth, PyData.depthAll], ih (by rw [List.map_cons, PyData.canLayAll0] at h1; exact (Bool.and_eq_true_iff.mp h1).2)⟩
  unfold SeqAt.shaped
  rw [PyData.canLay0, h1, Bool.true_and]
  refine decide_eq_true ?_
  rw [PyData.depth]
  omega
theorem shaped_pair (q : Nat × Nat) : SeqAt.shaped (pairI q) = true := by simp [pairI, SeqAt.shaped, PyData.canLay0, PyData.canLayAll0, PyData.depth, PyData.depthAll]
/-- all but instances stands on -/
def SameD (H H' : Hp) : Prop := ∀ b o, H b = some o → (∀ C dx fs, o ≠ .ins C dx fs) → H' b = some o
theorem SameD.of {H H' : Hp} (s : Same H H') : SameD H H' := fun b o e _ => s b o e
theorem SameD.trans {H H1 H2 : Hp} (s : SameD H H1) (t : SameD H1 H2) : SameD H H2 := fun b o e n => t b o (s b o e n) n
theorem SameD.store {H : Hp} {x C dx : Addr} {fs : List (Str × V)} {o : HO} (h : H x = some (.ins C dx fs)) : SameD H (upd H x o) := fun b u e n => by
  rw [upd_ne (fun z => by rw [z, h] at e; cases e; exact n _ _ _ rfl)]
  exact e
theorem SameD.storeE {H H' : Hp} {x C dx : Addr} {fs : List (Str × V)} {o : HO} (h : H x = some (.ins C dx fs)) (e : upd H x o = H') : SameD H H' := e ▸ .store h
theorem free_of {H H' : Hp} {p : Addr} (s : Same H H') (np : H' p = none) : H p = none := by
  cases q : H p with
  | none => rfl
  | some o => rw [s p o q] at np; cases np
end Ct

set_option linter.all false
/-! Where each def of this row stands. -/
namespace Pw
open PySem
def top (i : Nat) : Stmt := PySem.Challenge.pw_cornerturn_k55_texts_of_webs.main.body.getD i (.Pass ⟨0, 0, 0, 0⟩)
abbrev ix_wall : Nat := 0
abbrev ix_WebError : Nat := 2
abbrev ix_BadPlaces : Nat := 3
abbrev mx_BadPlaces_init : Nat := 0
abbrev ix_BadTies : Nat := 4
abbrev mx_BadTies_init : Nat := 0
abbrev ix_BadTie : Nat := 5
abbrev mx_BadTie_init : Nat := 0
abbrev ix_NoPlace : Nat := 6
abbrev mx_NoPlace_init : Nat := 0
abbrev ix_BadText : Nat := 7
abbrev mx_BadText_init : Nat := 0
abbrev ix_bits_of : Nat := 9
abbrev ix_united : Nat := 10
abbrev ix_is_name : Nat := 15
abbrev ix_is_place : Nat := 16
abbrev ix_check_place : Nat := 17
abbrev ix_all_differ : Nat := 18
abbrev ix_are_places : Nat := 19
abbrev ix_check_places : Nat := 20
abbrev ix_is_tie : Nat := 21
abbrev ix_pair : Nat := 22
abbrev ix_check_ties : Nat := 23
abbrev ix_sights : Nat := 24
abbrev ix_Web : Nat := 25
abbrev mx_Web_init : Nat := 0
abbrev mx_Web_eq : Nat := 1
abbrev mx_Web_places : Nat := 2
abbrev mx_Web_ties : Nat := 3
abbrev mx_Web_sees : Nat := 4
abbrev mx_Web_whole : Nat := 5
abbrev mx_Web_named : Nat := 6
abbrev mx_Web_sights : Nat := 7
abbrev mx_Web_kept : Nat := 8
abbrev mx_Web_keep : Nat := 9
abbrev mx_Web_parts : Nat := 10
abbrev mx_Web_part_of : Nat := 11
abbrev mx_Web_without : Nat := 12
abbrev mx_Web_tied : Nat := 13
abbrev ix_web_text : Nat := 27
abbrev ix_read_web : Nat := 28
abbrev ix_is_next_place : Nat := 29
abbrev ix_is_next_tie : Nat := 30
abbrev ix_lost_runners : Nat := 32
abbrev ix_rank_rounds : Nat := 33
abbrev ix_rank_rows : Nat := 34
abbrev ix_greatest_rank : Nat := 35
abbrev ix_least_rank : Nat := 36
abbrev ix_Game : Nat := 38
abbrev mx_Game_init : Nat := 0
abbrev mx_Game_rounds : Nat := 1
abbrev mx_Game_rows : Nat := 2
abbrev mx_Game_rank : Nat := 3
abbrev mx_Game_ranks : Nat := 4
abbrev mx_Game_least : Nat := 5
abbrev mx_Game_starts : Nat := 6
abbrev mx_Game_catches : Nat := 7
abbrev mx_Game_turns_by : Nat := 8
abbrev mx_Game_standings : Nat := 9
abbrev ix_one_guard : Nat := 39
abbrev ix_single_bits : Nat := 40
abbrev ix_turns_needed : Nat := 42
abbrev ix_law_source : Nat := 44
abbrev ix_law_draw : Nat := 45
abbrev ix_law_pick : Nat := 46
abbrev ix_law_mixed : Nat := 47
abbrev ix_law_word : Nat := 48
abbrev ix_law_names : Nat := 49
abbrev ix_law_pairs : Nat := 50
abbrev ix_law_plan : Nat := 51
abbrev ix_law_web : Nat := 52
abbrev ix_law_near : Nat := 53
abbrev ix_law_kept : Nat := 54
abbrev ix_law : Nat := 55
end Pw

set_option Elab.async false
set_option linter.all false
set_option maxRecDepth 100000
set_option maxHeartbeats 2000000
/-! Own kit X: the head by facts: one more Bool, own errors, defs as bundles; the end for defs that lean on no guard. -/
namespace Ct
open PySem PySem.Spec PyProof.Rows L2 He
/-! ### the Hook -/
abbrev AlB : Type := AlD × Bool
def obsB (fa : List Fa) (fn : List DefD) (ex : PySem.W.Frag → Bool) (K : PySem.W.Frag) : AlB := (obsD fa fn K, ex K)
def obsBG (n : Nat) (fa : List Fa) (fn : List DefD) (ex : PySem.W.Frag → Bool) (g : Addr → Option Obj) : AlB := obsB fa fn ex (frG g (asD g n))
def hookB (n : Nat) (fa : List Fa) (fn : List DefD) (ex : PySem.W.Frag → Bool) : PySem.W.Hook where
  α := AlB
  obs := fun s => obsBG n fa fn ex s.heap.get?
  val := fun _ => (valD fn, true)
  says := fun _ h => ∃ K : PySem.W.Frag, K.In h ∧ SaysD fa fn K ∧ ex K = true
  of := fun _ _ e => ⟨_, frG_in, congrArg (fun z : AlB => z.1) e, congrArg (fun z : AlB => z.2) e⟩
  keeps := fun _ _ _ ⟨K, hK, c⟩ k => ⟨K, PySem.W.Frag.In.keeps hK k, c⟩
theorem obsBG_eq {n : Nat} {fa : List Fa} {fn : List DefD} {ex : PySem.W.Frag → Bool} {g : Addr → Option Obj} {s : Shared} (h : ∀ a, g a = s.heap.get? a) : obsBG n fa fn ex g = (hookB n fa fn ex).obs s := by
  have e : g = s.heap.get? := funext h
  rw [e] <;> rfl
/-! ### defs -/
section
variable {K : PySem.W.Frag} {mg : Str → Option Value} {h : Heap} {x q nm : Str} {st : Stmt} {f : Addr} {fd : FuncData} {ps : List Str} {fa : List Fa} {fn : List DefD}
theorem fun_of (F : FunD K x q (defArgs st) (defBody st) (defScope st) [] [] f fd) : Fun K x q st f fd := by
  obtain ⟨oc, od, dV, kV, doc, pm, an, cdv, ct, osl, e, lk, hcd, hD, _⟩ := F.ex
  rcases hD with ⟨_, rfl⟩ | ⟨n, _⟩
  · exact ⟨⟨oc, od, kV, doc, pm, an, cdv, ct, osl, e, lk, hcd⟩, F.kp⟩
  · exact absurd rfl n
/-- a module's def -/
abbrev dM (nm : Str) (st : Stmt) : DefD := ⟨(nm, none), nm, nm, defArgs st, defBody st, defScope st, [], []⟩
/-- a class's def -/
abbrev dC (C m q : Str) (st : Stmt) : DefD := ⟨(C, some m), m, q, defArgs st, defBody st, defScope st, [], []⟩
theorem dfe_of (X : K.In h) (G : h.Ns mainGlobals mg) (c : SaysD fa fn K) (i j : Nat) (hi : fn[i]? = some (dM nm st)) (hj : fa[j]? = some (.glo nm))
    (b : ∀ (kV doc pm : Value) (an : Option Addr) (cdv ct : Value) (us : List Value), us.length = ps.length → bindArgs (PySem.W.fnOf nm nm (defArgs st) (defBody st) (defScope st) .none kV doc pm an cdv ct) ⟨us, []⟩ = pure (ps.zip us)) : DFE K mg nm st ps := by
  obtain ⟨fd, F⟩ := c.def_ i hi
  exact ⟨_, fd, fun_of F, glo_ok X G (c.fact j hj), FunD.bindsN (ps := ps) F b⟩
theorem fun_at {C m q : Str} (c : SaysD fa fn K) (i : Nat) (hi : fn[i]? = some (dC C m q st)) : ∃ fd, Fun K m q st (ma K (ga K C) m) fd := by
  obtain ⟨fd, F⟩ := c.def_ i hi
  exact ⟨fd, fun_of F⟩
end
/-! ### own errors -/
section
variable {K : PySem.W.Frag} {C : Addr} {x f : Str}
def oexB (K : PySem.W.Frag) (C : Addr) : Bool := match K.lookup C with
  | some ⟨.type "type", _, .cls cd, sl⟩ => (match cd.mro, sl.toList with
    | .ref C' :: bm, [_, _, _, _, some (.builtin n), _] => C' == C && n == "ValueError.__new__" && !cd.hasDel && cd.hasDict && PySem.HandSPX.refsVE bm
    | _, _ => false)
  | _ => false
theorem oexB_ok (q : oexB K C = true) : ∃ nm qn N bs bm sn sub ab col dd k0 k1 k2 k3 k5, K.lookup C = some (excClassObj nm qn C N bs bm true sn sub ab col dd k0 k1 k2 k3 k5 "ValueError.__new__") ∧ PySem.HandSPX.refsVE bm = true := by
  unfold oexB at q
  split at q
  · rename_i dd cd sl ho
    split at q
    · rename_i C' bm k0 k1 k2 k3 n k5 hm hs
      simp only [Bool.and_eq_true, beq_iff_eq, Bool.not_eq_true'] at q
      obtain ⟨⟨⟨⟨rfl, rfl⟩, hdel⟩, hdct⟩, ht⟩ := q
      obtain ⟨nm, bs, mro, ns, qn, hd, sn, sub, ab, col, del⟩ := cd
      dsimp only at hm hdel hdct
      subst hm hdel hdct
      have hsl : sl = #[k0, k1, k2, k3, some (.builtin "ValueError.__new__"), k5] := by
        obtain ⟨l⟩ := sl
        simp only at hs
        rw [hs]
      subst hsl
      exact ⟨nm, qn, ns, bs, bm, sn, sub, ab, col, dd, k0, k1, k2, k3, k5, ho, ht⟩
    · cases q
  · cases q
def genB (K : PySem.W.Frag) : Bool := eqO (PySem.W.specialIn K (.builtin "object.__class__") "__get__") (some (some (.builtin "getset_descriptor.__get__"))) && decide (PySem.W.takesIn K (.builtin "object.__class__") = some true)
def xclB (K : PySem.W.Frag) (x f : Str) : Bool := oexB K (ga K x) && (eqO (PySem.W.findIn K (.ref (ga K x)) "__setattr__") (some (some (.builtin "object.__setattr__"))) && (decide (PySem.W.subIn K (.ref (ga K x)) (.type "BaseException") = some true) &&
  (decide (PySem.W.typeIn K (.ref (ga K x)) = some (.type "type")) && (PySem.W.keepIn K (.ref (ga K x)) && (eqO (PySem.W.findIn K (.ref (ga K x)) "__getattribute__") (some (some (.builtin "BaseException.__getattribute__"))) &&
  (eqO (PySem.W.findIn K (.ref (ga K x)) "__getattr__") (some none) && (PySem.W.hasDictIn K (ga K x) && (eqO (PySem.W.findIn K (.ref (ga K x)) "__class__") (some (some (.builtin "object.__class__"))) && (decide (PySem.W.mroIn K (ga K x) (.type "object") = some true) &&
  (eqO (PySem.W.findIn K (.ref (ga K x)) "__init__") (some (some (.ref (ma K (ga K x) "__init__")))) && (decide (PySem.W.typeIn K (.ref (ma K (ga K x) "__init__")) = some (.type "function")) && eqO (PySem.W.findIn K (.ref (ga K x)) f) (some none))))))))))))
theorem xclB_ok (g : genB K = true) (c : xclB K x f = true) : XCls K (ga K x) (ma K (ga K x) "__init__") ∧ PySem.W.findIn K (.ref (ga K x)) f = some none := by
  obtain ⟨g1, g2⟩ := ba g
  have hn := eqO_ok g1
  have ht := of_decide_eq_true g2
  obtain ⟨c1, c⟩ := ba c
  obtain ⟨c2, c⟩ := ba c
  obtain ⟨c3, c⟩ := ba c
  obtain ⟨c4, c⟩ := ba c
  obtain ⟨c5, c⟩ := ba c
  obtain ⟨c6, c⟩ := ba c
  obtain ⟨c7, c⟩ := ba c
  obtain ⟨c8, c⟩ := ba c
  obtain ⟨c9, c⟩ := ba c
  obtain ⟨c10, c⟩ := ba c
  obtain ⟨c11, c⟩ := ba c
  obtain ⟨c12, c13⟩ := ba c
  have hs := of_decide_eq_true c3
  exact ⟨⟨⟨oexB_ok c1, eqO_ok c2, hs, of_decide_eq_true c4, c5⟩, ⟨eqO_ok c6, eqO_ok c7, hs, c8, eqO_ok c9, hn, ht, of_decide_eq_true c10⟩, eqO_ok c11, of_decide_eq_true c12⟩, eqO_ok c13⟩
/-- the kit's word on isinstance -/
def isB (K : PySem.W.Frag) (x : Str) (c : Value) (b : Bool) : Bool := decide (PySem.W.kitOne K (.ref (ga K x)) c = some b)
def exmB (K : PySem.W.Frag) (x y : Str) (b : Bool) : Bool := decide (PySem.W.exmOne K (.ref (ga K x)) (.ref (ga K y)) = some b)
end
/-! ### the end -/
theorem walk_gE {l : PySem.W.OpenLaw} {n k : Nat} {q : Program} {loose : List Str} {XP : (Str → Option Value) → Heap → Prop} {YP : World → Heap → Prop} {d : DefRec} {CX : CXT} {x : Str}
    (hn : l.most = some n) (hq : importsNone q = true) (hn2 : n ≤ sizeLine) (hdf : d.params.defaults = []) (hr : Room k callerA)
    (F : ∀ (w : World) (mg : Str → Option Value) (fa : Addr) (h : Heap), YP w h → h.Ns mainGlobals mg → mg d.name = some (.ref fa) →
      ∃ (K : PySem.W.Frag) (fd : FuncData) (sp : Sp), K.In h ∧ (∀ (s : Shared) (u : Value), BindsTo s fd ⟨[u], []⟩ [(x, u)]) ∧
        (∀ (H : Hp) (a : Addr) (ns : List Int), ns.length ≤ n → (∀ z ∈ ns, Builtin.Int.intBits z ≤ 1048576) → Only H → SqL K H a (ns.map V.int) → sp [.ref a] H (fun v _ => v = .bl true) fun _ _ _ => False) ∧
        ∀ base : Heap, K.In base → base.Ns mainGlobals mg → (∃ mm, base.Ns sysModules mm) → GFn l.prog w K mg base CX k fa fd [x] sp)
    (hCX : ∀ (H : Hp) (s : Shared) (e : Value) (s' : Shared), CX [] H s (fun _ _ _ => False) e s' → False) :
    PySem.W.WalkO q loose XP YP l.row.toRowW d [] (fun f vs => PySem.call f vs) := by
  refine Att.attach_callB hn hdf ?_
  intro w s0 s1 mg mb fa o pm cd doc a vs ns G Y _ _ _ hmg hobj hints hlen hbits hg
  obtain ⟨K, fd, sp, KX, hb, hsp, hF⟩ := F w mg fa _ Y G.T.g hmg
  exact end_g KX G.T.g G.T.b G.T.builtins G.T.nolimit hg hobj hints (Nat.le_trans hlen hn2) hr ((G.T.seer hq).mods.imp fun _ z => z.1) hF hb (fun H h1 h2 => hsp H a ns hlen hbits h1 h2) (fun H e s' => hCX H s1 e s')
end Ct

set_option Elab.async false
set_option linter.all false
set_option maxRecDepth 100000
set_option maxHeartbeats 2000000
/-! Own kit Y: the head by facts, properties' getters too. -/
namespace Ct
open PySem PySem.Spec PyProof.Rows L2 He
/-! ### functions by a path of one's own -/
structure GetD where
  at_ : PySem.W.Frag → Addr
  name : Str
  qual : Str
  params : Arguments
  body : List Stmt
  scope : Scope
def fnWA (K : PySem.W.Frag) (a : Addr) : FnW := match K.lookup a with
  | some ⟨_, _, .func fd, _⟩ => some (fd.name, fd.qualname, fd.params, fd.body, fd.scope, fd.globals, fd.closure, fd.builtins)
  | _ => none
def GetD.val (d : GetD) : FnW := some (d.name, d.qual, d.params, .stmts d.body, d.scope, mainGlobals, [], builtinsNs)
def GetD.ok (K : PySem.W.Frag) (d : GetD) : Bool := PySem.W.keepIn K (.ref (d.at_ K)) && (match K.lookup (d.at_ K) with
  | some ⟨_, _, .func fd, _⟩ => PySem.W.codeIn K fd.code d.qual && (dflB K fd.defaults [] && kwdB K fd.kwdefaults [])
  | _ => false)
theorem GetD.funD {K : PySem.W.Frag} {d : GetD} (e : fnWA K (d.at_ K) = d.val) (c : d.ok K = true) : ∃ fd, FunD K d.name d.qual d.params d.body d.scope [] [] (d.at_ K) fd := by
  obtain ⟨kp, c2⟩ := ba c
  unfold fnWA at e
  cases q : K.lookup (d.at_ K) with
  | none =>
    rw [q] at c2
    cases c2
  | some o =>
    obtain ⟨oc, od, dt, osl⟩ := o
    rw [q] at c2 e
    cases dt with
    | func fd =>
      obtain ⟨n1, n2, n3, n4, n5, n6, n7, n8, n9, n10, n11, n12, n13, n14, n15⟩ := fd
      have e2 : (some (n1, n2, n3, n4, n5, n6, n7, n15) : FnW) = some (d.name, d.qual, d.params, .stmts d.body, d.scope, mainGlobals, [], builtinsNs) := e
      simp only [Option.some.injEq, Prod.mk.injEq] at e2
      obtain ⟨h1, h2, h3, h4, h5, h6, h7, h8⟩ := e2
      subst h1 h2 h3 h4 h5 h6 h7 h8
      have c3 : (PySem.W.codeIn K n13 d.qual && (dflB K n8 [] && kwdB K n9 [])) = true := c2
      obtain ⟨k1, k2⟩ := ba c3
      obtain ⟨k3, k4⟩ := ba k2
      exact ⟨_, ⟨oc, od, n8, n9, n10, n11, n12, n13, n14, osl, rfl, q, k1, dflB_ok k3, kwdB_ok k4⟩, kp⟩
    | _ => cases c2
/-! ### the Hook -/
abbrev AlG : Type := AlD × List FnW × Bool
def obsGt (fa : List Fa) (fn : List DefD) (gs : List GetD) (ex : PySem.W.Frag → Bool) (K : PySem.W.Frag) : AlG := (obsD fa fn K, gs.map (fun d => fnWA K (d.at_ K)), (gs.all fun d => d.ok K) && ex K)
def obsGtG (n : Nat) (fa : List Fa) (fn : List DefD) (gs : List GetD) (ex : PySem.W.Frag → Bool) (g : Addr → Option Obj) : AlG := obsGt fa fn gs ex (frG g (asD g n))
def SaysG (gs : List GetD) (K : PySem.W.Frag) : Prop := (gs.map (fun d => fnWA K (d.at_ K))) = gs.map GetD.val ∧ (gs.all fun d => d.ok K) = true
def hookG (n : Nat) (fa : List Fa) (fn : List DefD) (gs : List GetD) (ex : PySem.W.Frag → Bool) : PySem.W.Hook where
  α := AlG
  obs := fun s => obsGtG n fa fn gs ex s.heap.get?
  val := fun _ => (valD fn, gs.map GetD.val, true)
  says := fun _ h => ∃ K : PySem.W.Frag, K.In h ∧ SaysD fa fn K ∧ SaysG gs K ∧ ex K = true
  of := fun _ _ e => ⟨_, frG_in, congrArg (fun z : AlG => z.1) e, ⟨congrArg (fun z : AlG => z.2.1) e, (ba (congrArg (fun z : AlG => z.2.2) e)).1⟩, (ba (congrArg (fun z : AlG => z.2.2) e)).2⟩
  keeps := fun _ _ _ ⟨K, hK, c⟩ k => ⟨K, PySem.W.Frag.In.keeps hK k, c⟩
theorem obsGtG_eq {n : Nat} {fa : List Fa} {fn : List DefD} {gs : List GetD} {ex : PySem.W.Frag → Bool} {g : Addr → Option Obj} {s : Shared} (h : ∀ a, g a = s.heap.get? a) : obsGtG n fa fn gs ex g = (hookG n fa fn gs ex).obs s := by
  have e : g = s.heap.get? := funext h
  rw [e] <;> rfl
theorem SaysG.at {gs : List GetD} {K : PySem.W.Frag} (c : SaysG gs K) (i : Nat) {d : GetD} (h : gs[i]? = some d := by rfl) : ∃ fd, FunD K d.name d.qual d.params d.body d.scope [] [] (d.at_ K) fd := by
  have e2 : (gs.map fun d => fnWA K (d.at_ K))[i]? = (gs.map GetD.val)[i]? := by rw [c.1]
  rw [List.getElem?_map, List.getElem?_map, h] at e2
  exact GetD.funD (Option.some.inj e2) (List.all_eq_true.mp c.2 d (List.mem_of_getElem? h))
/-! ### properties -/
/-- the getter of the property f of the class x -/
def prA (x f : Str) (K : PySem.W.Frag) : Addr := match PySem.W.recIn K (ma K (ga K x) f) "property" with
  | some (.ref g :: _) => g
  | _ => 0
def prB (K : PySem.W.Frag) (x f : Str) : Bool := eqO (PySem.W.findIn K (.ref (ga K x)) f) (some (some (.ref (ma K (ga K x) f)))) && (eqO (PySem.W.specialIn K (.ref (ma K (ga K x) f)) "__get__") (some (some (.builtin "property.__get__"))) &&
  (decide (PySem.W.takesIn K (.ref (ma K (ga K x) f)) = some true) && (match PySem.W.recIn K (ma K (ga K x) f) "property" with
    | some (.ref _ :: _) => true
    | _ => false)))
section
variable {K : PySem.W.Frag} {x f : Str}
theorem prB_ok (c : prB K x f = true) : PropOf K (ga K x) f (ma K (ga K x) f) (prA x f K) := by
  obtain ⟨c1, c⟩ := ba c
  obtain ⟨c2, c⟩ := ba c
  obtain ⟨c3, c4⟩ := ba c
  refine ⟨eqO_ok c1, eqO_ok c2, of_decide_eq_true c3, ?_⟩
  have c4 : (match PySem.W.recIn K (ma K (ga K x) f) "property" with
    | some (.ref _ :: _) => true
    | _ => false) = true := c4
  unfold prA
  split at c4
  · rename_i g rest h
    exact ⟨rest, by rw [h]⟩
  · cases c4
/-- the getter as it stands -/
abbrev dG (x f q : Str) (st : Stmt) : GetD := ⟨prA x f, f, q, defArgs st, defBody st, defScope st⟩
/-- a tuple of nothing: a default -/
def emptyB (K : PySem.W.Frag) (a : Addr) : Bool := match K.lookup a with
  | some ⟨.type c, _, .seq its _, _⟩ => c == "tuple" && its.size == 0
  | _ => false
theorem emptyB_ok {a : Addr} (c : emptyB K a = true) : ∃ o n, K.lookup a = some o ∧ o.cls = .type "tuple" ∧ o.data = .seq #[] n := by
  unfold emptyB at c
  split at c
  · rename_i t d its n sl h
    rw [Bool.and_eq_true, beq_iff_eq, beq_iff_eq] at c
    obtain ⟨rfl, c2⟩ := c
    exact ⟨_, n, h, rfl, by rw [Array.eq_empty_of_size_eq_zero c2]⟩
  · cases c
/-- the common facts of classes' instances -/
def clsB (K : PySem.W.Frag) (x : Str) : Bool := eqO (PySem.W.findIn K (.ref (ga K x)) "__class__") (some (some (.builtin "object.__class__"))) && decide (PySem.W.mroIn K (ga K x) (.type "object") = some true)
end
end Ct

set_option Elab.async false
set_option linter.all false
set_option maxRecDepth 100000
set_option maxHeartbeats 2000000
/-! Own kit Z: == and != of a class with its own ==, whatever it answers; == with a datum. -/
namespace Ct
open PySem PySem.Spec PyProof.Rows L2
/-- a class over object with its own ==, without != -/
structure EqC (K : PySem.W.Frag) (C f : Addr) : Prop where
  ex : ∃ nm q N bs hdct sn sub ab col dd k0 k1 k2 k3 k5 newId, K.lookup C = some (excClassObj nm q C N bs [.type "object"] hdct sn sub ab col dd k0 k1 k2 k3 k5 newId) ∧ PySem.W.nsOkIn K N = true ∧ PySem.W.nsIn K N "__eq__" = some (some (.ref f)) ∧ PySem.W.nsIn K N "__ne__" = some none
  at_ : PySem.W.findIn K (.ref C) "__eq__" = some (some (.ref f))
  fn : PySem.W.isFn K (.ref f) = true
  lo : ∀ T ∈ ["NoneType", "bool", "int", "str", "list", "tuple", "dict"], PySem.W.notFirst K C (.type T) = true
section
open He
def eqcB (K : PySem.W.Frag) (x : Str) : Bool := (match K.lookup (ga K x) with
    | some ⟨.type "type", _, .cls cd, sl⟩ => (match cd.mro, sl.toList with
      | [.ref C', .type "object"], [_, _, _, _, some (.builtin _), _] => C' == ga K x && !cd.hasDel && PySem.W.nsOkIn K cd.ns && eqO (PySem.W.nsIn K cd.ns "__eq__") (some (some (.ref (ma K (ga K x) "__eq__")))) && eqO (PySem.W.nsIn K cd.ns "__ne__") (some none)
      | _, _ => false)
    | _ => false) && (eqO (PySem.W.findIn K (.ref (ga K x)) "__eq__") (some (some (.ref (ma K (ga K x) "__eq__")))) && (PySem.W.isFn K (.ref (ma K (ga K x) "__eq__")) && ["NoneType", "bool", "int", "str", "list", "tuple", "dict"].all fun T => PySem.W.notFirst K (ga K x) (.type T)))
theorem eqcB_ok {K : PySem.W.Frag} {x : Str} (c : eqcB K x = true) : EqC K (ga K x) (ma K (ga K x) "__eq__") := by
  obtain ⟨c1, c⟩ := ba c
  obtain ⟨c2, c⟩ := ba c
  obtain ⟨c3, c4⟩ := ba c
  refine ⟨?_, eqO_ok c2, c3, fun T hT => List.all_eq_true.mp c4 T hT⟩
  split at c1
  · rename_i dd cd sl ho
    split at c1
    · rename_i C' k0 k1 k2 k3 n k5 hm hs
      simp only [Bool.and_eq_true, beq_iff_eq, Bool.not_eq_true'] at c1
      obtain ⟨⟨⟨⟨rfl, hdel⟩, h1⟩, h2⟩, h3⟩ := c1
      obtain ⟨nm, bs, mro, ns, qn, hd, sn, sub, ab, col, del⟩ := cd
      dsimp only at hm hdel h1 h2 h3
      subst hm hdel
      have hsl : sl = #[k0, k1, k2, k3, some (.builtin n), k5] := by
        obtain ⟨l⟩ := sl
        simp only at hs
        rw [hs]
      subst hsl
      exact ⟨nm, qn, ns, bs, hd, sn, sub, ab, col, dd, k0, k1, k2, k3, k5, n, ho, h1, eqO_ok h2, eqO_ok h3⟩
    · cases c1
  · cases c1
end
theorem ns_at {K : PySem.W.Frag} {h : Heap} {N : Addr} {n : Str} {v : Value} {mg : Str → Option Value} (X : K.In h) (G : h.Ns N mg) (e : PySem.W.nsIn K N n = some (some v)) : mg n = some v := by
  obtain ⟨o, es, ep, ho, hd, _, hf⟩ := G
  unfold PySem.W.nsIn at e
  split at e
  · rename_i c d es' n' sl q
    have := X _ _ q
    rw [ho] at this
    cases this
    cases hd
    split at e
    · rename_i en he
      cases e
      rw [← hf]
      unfold nsFind findBy
      rw [← Array.find?_toList, he]
      rfl
    · split at e <;> cases e
  · cases e
theorem EqC.own {K : PySem.W.Frag} {h : Heap} {C f x dx : Addr} {o : Obj} (Z : EqC K C f) (X : K.In h) (hx : h.get? x = some o) (hc : o.cls = .ref C) : h.OwnEqNoNe x C f "object" [.type "object"] := by
  obtain ⟨nm, q, N, bs, hdct, sn, sub, ab, col, dd, k0, k1, k2, k3, k5, newId, hC, h1, h2, h3⟩ := Z.ex
  have G := Heap.Ns.of_isNs (PySem.W.isNs_of_in X h1)
  have hf : PySem.W.typeIn K (.ref f) = some (.type "function") := beq_iff_eq.mp Z.fn
  obtain ⟨of, l, cl⟩ := Option.map_eq_some_iff.mp (show (K.lookup f).map (·.cls) = some (.type "function") from hf)
  exact ⟨o, of, nm, q, N, bs, hdct, sn, sub, ab, col, dd, k0, k1, k2, k3, k5, newId, h.nsMap N, _, hx, hc, X _ _ hC, G, ns_at X G h2, X _ _ l, cl, PySem.F.mro_object, (show typeLookup (.type "object") ("__eq__" : Str) = pure (some (.builtin "object.__eq__")) by kernel_rfl), PySem.W.nsMap_none_of_in X h1 h3⟩
/-! ### the readings -/
/-- x == y by the own ==, x an instance of C: what it promises to answer -/
def rOwn (C : Addr) (sp : Sp) (E : XK) (neg : Bool) : R2 := fun x y H Q => ∃ (a dx : Addr) (fs : List (Str × V)), x = .ref a ∧ H a = some (.ins C dx fs) ∧ sp [x, y] H (fun v H' => ∃ b : Bool, v = .bl b ∧ Q (.bl (if neg then !b else b)) H') E
section
variable {X : Cx} {CX : CXT} {n : Nat} {C f : Addr} {fd : FuncData} {ps : List Str} {sp : Sp} {E : XK}
theorem run_own {A : Around} {pins : List (Addr × Obj)} {σ : L2.St} {H : Hp} {s : Shared} {x y : V} {u v : Value} {Q : VK} (F : FnOk X.prog X.w X.K X.mg X.base CX n f fd ps sp) (hb : Binds X.K fd ps []) (hx : Passes CX X E) (hr : Room n A) (hfr : A.frames = X.A.frames) (I : Inv X pins σ H s)
    (rx : RelV x u) (ry : RelV y v) (h : sp [x, y] H Q E) : wpAny (model X.prog X.w) A (call (.ref f) [u, v]) (EP X pins σ Q) X.xe s := by
  have e0 : Env0 X.prog X.w X.K X.mg X.base A X.stack s H := by
    have e := I.env0
    exact ⟨by rw [hfr]; exact e.frames, e.mod, e.bs, e.bsz, e.funs, e.frf, e.hok, e.bare⟩
  have hl := F.len _ _ _ _ h
  have r2 : Vals [x, y] [u, v] := .cons rx (.cons ry .nil)
  refine wpAny_call (codeAny_mono (F.run A X.stack s H ⟨[u, v], []⟩ [u, v] [x, y] Q E hr e0 (by
    have := hb s [u, v] I.kIn (by simpa using hl)
    simpa using this) r2 h) fun r s' hq => ?_)
  cases r with
  | error e => exact hx pins σ H s e s' I hq
  | ok fl =>
    cases fl with
    | ret w => exact I.after hq
    | next => exact False.elim hq
    | brk => exact False.elim hq
    | cont => exact False.elim hq
/-- web == thing: y of a type that T tells -/
theorem op_eqO (Z : EqC X.K C f) (F : FnOk X.prog X.w X.K X.mg X.base CX n f fd ps sp) (hb : Binds X.K fd ps []) (hx : Passes CX X E) (hr : Room n X.A) :
    OpR X (compareOp .Eq) (fun x y H Q => (∃ t, TyX X.K H y t ∧ PySem.W.notFirst X.K C t = true) ∧ rOwn C sp E false x y H Q) := by
  intro pins s σ H x y v u Q I rx ry h
  obtain ⟨⟨t, ty, nf⟩, a, dx, fs, rfl, ha, hsp⟩ := h
  cases (show v = Value.ref a from rx)
  obtain ⟨mA, J, _⟩ := ins_get I.hok ha
  obtain ⟨od, J, _⟩ := J.look
  obtain ⟨m, hF⟩ := I.fr
  obtain ⟨Pp, Zk, p, _⟩ := kit_of I ry ty
  show wpAny (model X.prog X.w) X.A (richCompare .Eq (.ref a) u) (EP X pins σ Q) X.xe s
  refine PySem.W.cmp_K (op := .Eq) (tb := t) hr.units0 hF I.ok.mod.kin J (Zk.ty _ _ I.kIn p) nf Z.at_ Z.fn ?_
  refine wpAny_mono (run_own F hb hx hr rfl I rx ry hsp) (fun r s' z => ?_) fun _ _ x => x
  obtain ⟨w, H', I', rw', b, rfl, q⟩ := z
  cases (show r = Value.bool b from rw')
  exact ⟨.bl b, H', I', rfl, q⟩
/-- web != web -/
theorem op_neO (Z : EqC X.K C f) (F : FnOk X.prog X.w X.K X.mg X.base CX n f fd ps sp) (hb : Binds X.K fd ps []) (hx : Passes CX X E) (hr : Room (n + 1) X.A) :
    OpR X (compareOp .NotEq) (fun x y H Q => (∃ (b dy : Addr) (gs : List (Str × V)), y = .ref b ∧ H b = some (.ins C dy gs)) ∧ rOwn C sp E true x y H Q) := by
  intro pins s σ H x y v u Q I rx ry h
  obtain ⟨⟨b, dy, gs, rfl, hb'⟩, a, dx, fs, rfl, ha, hsp⟩ := h
  cases (show v = Value.ref a from rx)
  cases (show u = Value.ref b from ry)
  obtain ⟨mA, O, _⟩ := ins_get I.hok ha
  obtain ⟨od, J, _⟩ := O.look
  obtain ⟨mB, O2, _⟩ := ins_get I.hok hb'
  obtain ⟨od2, J2, _⟩ := O2.look
  have hu : X.A.units + 1 < cLine := by have := hr.un; omega
  obtain ⟨hh, g, d, t, os⟩ := s
  refine compareOp_ne_ownEq PySem.F.cmp_object (Z.own (dx := dx) I.kIn J.at_ J.cls) J2.at_ J2.cls hu ?_
  refine wpAny_mono (run_own (A := X.A.in1) F hb hx hr.in1 rfl I rx ry hsp) (fun r s' z => ?_) fun _ _ x => x
  obtain ⟨w, H', I', rw', b, rfl, q⟩ := z
  cases (show r = Value.bool b from rw')
  exact ⟨b, rfl, .bl (!b), H', I', rfl, q⟩
end
end Ct

set_option Elab.async false
set_option linter.all false
set_option maxRecDepth 100000
set_option maxHeartbeats 4000000
namespace Pw
open PySem PySem.Spec PyProof.Rows L2 Ct
/-! ### the head: facts by names, the run -/
def tFn_0 : List He.DefD := [dM "law" (top ix_law), dC "BadPlaces" "__init__" "BadPlaces.__init__" (inClass (top ix_BadPlaces) mx_BadPlaces_init), dC "BadTies" "__init__" "BadTies.__init__" (inClass (top ix_BadTies) mx_BadTies_init), dC "BadTie" "__init__" "BadTie.__init__" (inClass (top ix_BadTie) mx_BadTie_init), dC "NoPlace" "__init__" "NoPlace.__init__" (inClass (top ix_NoPlace) mx_NoPlace_init), dC "BadText" "__init__" "BadText.__init__" (inClass (top ix_BadText) mx_BadText_init), dC "Web" "named" "Web.named" (inClass (top ix_Web) mx_Web_named), dC "Web" "sees" "Web.sees" (inClass (top ix_Web) mx_Web_sees), dC "Web" "_part_of" "Web._part_of" (inClass (top ix_Web) mx_Web_part_of), dC "Web" "parts" "Web.parts" (inClass (top ix_Web) mx_Web_parts), dC "Web" "without" "Web.without" (inClass (top ix_Web) mx_Web_without), dC "Web" "kept" "Web.kept" (inClass (top ix_Web) mx_Web_kept), dC "Web" "keep" "Web.keep" (inClass (top ix_Web) mx_Web_keep), dC "Web" "sights" "Web.sights" (inClass (top ix_Web) mx_Web_sights), dC "Game" "__init__" "Game.__init__" (inClass (top ix_Game) mx_Game_init), dC "Game" "rounds" "Game.rounds" (inClass (top ix_Game) mx_Game_rounds), dC "Game" "rows" "Game.rows" (inClass (top ix_Game) mx_Game_rows), dC "Game" "least" "Game.least" (inClass (top ix_Game) mx_Game_least), ⟨("Web", some "__init__"), "__init__", "Web.__init__", defArgs (inClass (top ix_Web) mx_Web_init), defBody (inClass (top ix_Web) mx_Web_init), defScope (inClass (top ix_Web) mx_Web_init), [.adr (He.dflAt ("Web", some "__init__") 0)], []⟩, dC "Web" "__eq__" "Web.__eq__" (inClass (top ix_Web) mx_Web_eq), dM "is_name" (top ix_is_name), dM "_all_differ" (top ix_all_differ), dM "_is_tie" (top ix_is_tie), dM "_pair" (top ix_pair), dM "_check_places" (top ix_check_places), dM "_check_ties" (top ix_check_ties), dM "bits_of" (top ix_bits_of), dM "_sights" (top ix_sights), dM "is_place" (top ix_is_place), dM "check_place" (top ix_check_place)]
def tFn_1 : List He.DefD := [dM "are_places" (top ix_are_places), dM "web_text" (top ix_web_text), dM "_is_next_place" (top ix_is_next_place), dM "_is_next_tie" (top ix_is_next_tie), dM "read_web" (top ix_read_web), dM "united" (top ix_united), dM "lost_runners" (top ix_lost_runners), dM "_single_bits" (top ix_single_bits), dM "greatest_rank" (top ix_greatest_rank), dM "least_rank" (top ix_least_rank), dM "rank_rounds" (top ix_rank_rounds), dM "rank_rows" (top ix_rank_rows), dM "one_guard" (top ix_one_guard), dM "turns_needed" (top ix_turns_needed), dM "_law_source" (top ix_law_source), dM "_law_draw" (top ix_law_draw), dM "_law_mixed" (top ix_law_mixed), dM "_law_pick" (top ix_law_pick), dM "_law_word" (top ix_law_word), dM "_law_names" (top ix_law_names), dM "_law_pairs" (top ix_law_pairs), dM "_law_plan" (top ix_law_plan), dM "_law_web" (top ix_law_web), dM "_law_near" (top ix_law_near), dM "_law_kept" (top ix_law_kept)]
def tFn : List He.DefD := tFn_0 ++ tFn_1
def tFa_0 : List He.Fa := [.glo "law", .free "int", .free "str", .free "bool", .free "len", .free "range", .free "max", .free "min", .free "isinstance", .free "list", .free "tuple", .free "set", .free "dict", .free "repr", .free "all", .free "any", .free "sorted", .free "enumerate", .free "zip", .free "sum", .free "reversed", .int "MOST_PLACES" 12, .int "MOST_LETTERS" 8, .str "LETTERS" "abcdefghijklmnopqrstuvwxyz", .glo "BadPlaces", .glo "BadTies", .glo "BadTie", .glo "NoPlace", .glo "BadText", .cls "Web"]
def tFa_1 : List He.Fa := [.noat "Web" "_places", .noat "Web" "_ties", .noat "Web" "_sights", .noat "Web" "_seen", .noat "Web" "_kept", .noat "Web" "_sorted_places", .noat "Web" "_sorted_pairs", .meth "Web" "named", .meth "Web" "sees", .meth "Web" "_part_of", .meth "Web" "parts", .meth "Web" "without", .meth "Web" "kept", .meth "Web" "keep", .meth "Web" "sights", .cls "Game", .noat "Game" "names", .noat "Game" "stands", .noat "Game" "ways", .noat "Game" "held", .noat "Game" "steps", .noat "Game" "_rounds", .noat "Game" "_rows", .noat "Game" "_standings", .mkr "Game", .meth "Game" "rounds", .meth "Game" "rows", .meth "Game" "least", .mkr "Web", .glo "Web"]
def tFa_2 : List He.Fa := [.glo "is_name", .glo "_all_differ", .glo "_is_tie", .glo "_pair", .glo "_check_places", .glo "_check_ties", .glo "bits_of", .glo "_sights", .glo "is_place", .glo "check_place", .glo "are_places", .glo "web_text", .glo "_is_next_place", .glo "_is_next_tie", .glo "read_web", .glo "united", .glo "lost_runners", .glo "_single_bits", .glo "greatest_rank", .glo "least_rank", .glo "rank_rounds", .glo "rank_rows", .glo "Game", .glo "one_guard", .glo "turns_needed", .glo "_law_source", .glo "_law_draw", .glo "_law_mixed", .glo "_law_pick", .glo "_law_word"]
def tFa_3 : List He.Fa := [.glo "_law_names", .glo "_law_pairs", .glo "_law_plan", .glo "_law_web", .glo "_law_near", .glo "_law_kept"]
def tFa : List He.Fa := tFa_0 ++ tFa_1 ++ tFa_2 ++ tFa_3
def hex : List (PySem.W.Frag → Bool) := [fun K => Ct.genB K, fun K => Ct.xclB K "BadPlaces" "value", fun K => Ct.xclB K "BadTies" "value", fun K => Ct.xclB K "BadTie" "position", fun K => Ct.xclB K "NoPlace" "value", fun K => Ct.xclB K "BadText" "line", fun K => Ct.prB K "Web" "places", fun K => Ct.prB K "Web" "ties", fun K => Ct.emptyB K (He.dflAt ("Web", some "__init__") 0 K), fun K => Ct.clsB K "Web", fun K => Ct.isB K "Web" (.ref (He.ga K "Web")) true, fun K => PySem.W.notFirst K (He.ga K "Web") (.ref (He.ga K "Web")), fun K => Ct.eqcB K "Web"]
def tGs : List Ct.GetD := [Ct.dG "Web" "places" "Web.places" (inClass (top ix_Web) mx_Web_places), Ct.dG "Web" "ties" "Web.ties" (inClass (top ix_Web) mx_Web_ties)]
def hexA (K : PySem.W.Frag) : Bool := hex.all fun f => f K
theorem exs_at {K : PySem.W.Frag} (c : hexA K = true) (i : Nat) {f : PySem.W.Frag → Bool} (h : hex[i]? = some f) : f K = true := List.all_eq_true.mp c f (List.mem_of_getElem? h)
def hnames_0 : List Str := ["_wall", "WebError", "BadPlaces", "BadTies", "BadTie", "NoPlace", "BadText", "bits_of", "united", "MOST_PLACES", "MOST_LETTERS", "LETTERS", "is_name", "is_place", "check_place", "_all_differ", "are_places", "_check_places", "_is_tie", "_pair", "_check_ties", "_sights", "Web", "web_text", "read_web", "_is_next_place", "_is_next_tie", "lost_runners", "rank_rounds", "rank_rows"]
def hnames_1 : List Str := ["greatest_rank", "least_rank", "Game", "one_guard", "_single_bits", "turns_needed", "_law_source", "_law_draw", "_law_pick", "_law_mixed", "_law_word", "_law_names", "_law_pairs", "_law_plan", "_law_web", "_law_near", "_law_kept"]
def hnames : List Str := hnames_0 ++ hnames_1
abbrev HR : PySem.W.OpenRow := PySem.W.OpenLaw.row PySem.Challenge.rw_cornerturn_k55_texts_of_webs
abbrev hk : PySem.W.Hook := Ct.hookG 6 tFa tFn tGs hexA
def hob (s : PySem.W.SharedT) : Ct.AlG := Ct.obsGtG 6 tFa tFn tGs hexA (HandSHeadRun.getT s)
theorem hob_eq (s : PySem.W.SharedT) : hob s = hk.obs s.abs := Ct.obsGtG_eq (HandSHeadRun.getT_eq s)
theorem hrun (w : World) : HandSHeadRun.RunEq HR (PySem.W.view HR.prog [55]) hk hob 12000 hnames w := by
  intro os
  kernel_rfl

end Pw

set_option Elab.async false
set_option linter.all false
set_option maxRecDepth 100000
set_option maxHeartbeats 2000000
/-! Own kit T: a list against [], places as bits of a number. -/
namespace Ct
open PySem PySem.Spec PyProof.Rows L2
section
variable {X : Cx}
/-- xs == [], the list on the right just laid (or any empty list) -/
def rEqNil (K : PySem.W.Frag) (neg : Bool) : R2 := fun x y H Q => ∃ (a b : Addr) (xs : List V), x = .ref a ∧ y = .ref b ∧ SqL K H a xs ∧ SqL K H b [] ∧ Q (.bl (if neg then !xs.isEmpty else xs.isEmpty)) H
theorem op_eqNil (hu : X.A.units + 64 < cLine) : OpR X (compareOp .Eq) (rEqNil X.K false) := by
  intro pins s σ H x y v u Q I rx ry h
  obtain ⟨a, b, xs, rfl, rfl, hx, hy, q⟩ := h
  cases rx; cases ry
  obtain ⟨its, r, ht, hz⟩ := I.list hx
  obtain ⟨its2, r2, ht2, hz2⟩ := I.list hy
  cases r2
  have hl := r.length
  have room : X.A.units < cLine := by omega
  cases xs with
  | nil =>
    cases r
    exact SeqAt.RcAt.lists (e := fun _ => true) ht.isList ht2.isList rfl room (fun j j1 _ => absurd j1 (Nat.not_lt_zero _)) X.prog X.w X.xe _ ⟨.bl true, H, I, rfl, q⟩
  | cons z xs =>
    refine SeqAt.RcAt.lists_lengths ht.isList ht2.isList ?_ room X.prog X.w X.xe _ ⟨.bl false, H, I, rfl, q⟩
    rw [List.size_toArray, ← hl]
    rfl
theorem op_neNil (hu : X.A.units + 64 < cLine) : OpR X (compareOp .NotEq) (rEqNil X.K true) := by
  intro pins s σ H x y v u Q I rx ry h
  obtain ⟨a, b, xs, rfl, rfl, hx, hy, q⟩ := h
  cases rx; cases ry
  obtain ⟨its, r, ht, hz⟩ := I.list hx
  obtain ⟨its2, r2, ht2, hz2⟩ := I.list hy
  cases r2
  have hl := r.length
  have room : X.A.units < cLine := by omega
  cases xs with
  | nil =>
    cases r
    exact SeqAt.RcNeAt.lists (e := fun _ => true) ht.isList ht2.isList rfl room (fun j j1 _ => absurd j1 (Nat.not_lt_zero _)) X.prog X.w X.xe _ ⟨.bl false, H, I, rfl, q⟩
  | cons z xs =>
    refine SeqAt.RcNeAt.lists_lengths ht.isList ht2.isList ?_ room X.prog X.w X.xe _ ⟨.bl true, H, I, rfl, q⟩
    rw [List.size_toArray, ← hl]
    rfl
end
end Ct
namespace Ct
open PySem PySem.Spec PyProof.Rows L2
theorem op_inDk {X : Cx} {K : PySem.W.Frag} (hK : X.K = K) (hu : X.A.units + 65 < cLine) : OpR X (compareOp .In) (rInD K) := hK ▸ op_inD hu
theorem op_notInDk {X : Cx} {K : PySem.W.Frag} (hK : X.K = K) (hu : X.A.units + 65 < cLine) : OpR X (compareOp .NotIn) (rNotInD K) := hK ▸ op_notInD hu
end Ct
namespace Ct
open PySem PySem.Spec PyProof.Rows L2
theorem bitOr_nat (a b : Nat) : Builtin.bitOr (a : Int) (b : Int) = ((a ||| b : Nat) : Int) := by
  have n1 : ∀ a : Nat, ¬ (0 : Int) ≤ -(a : Int) - 1 := fun a => by omega
  have n2 : ∀ a : Nat, (-(-(a : Int) - 1) - 1).toNat = a := fun a => by omega
  unfold Builtin.bitOr Builtin.bitAnd Builtin.bitNot
  rw [decide_eq_false (n1 a), decide_eq_false (n1 b)]
  dsimp only
  rw [n2, n2]
  omega
theorem bitAnd_nat (a b : Nat) : Builtin.bitAnd (a : Int) (b : Int) = ((a &&& b : Nat) : Int) := by
  unfold Builtin.bitAnd
  rw [decide_eq_true (Int.natCast_nonneg a), decide_eq_true (Int.natCast_nonneg b)]
  rfl
section
variable {X : Cx}
def rNat (g : Nat → Nat → V) : R2 := fun x y H Q => ∃ a b : Nat, x = .int (a : Nat) ∧ y = .int (b : Nat) ∧ Q (g a b) H
/-- n >> k, n & m, n | m, n |= m, 1 << k for numbers from 0 on -/
theorem op_shrB : OpR X (binaryOp .RShift) (rNat fun a b => .int ((a / 2 ^ b : Nat))) := by
  intro pins s σ H x y v u Q I rx ry h
  obtain ⟨a, b, rfl, rfl, q⟩ := h
  refine op_shrN pins s σ H _ _ v u Q I rx ry ⟨a, b, rfl, rfl, ?_⟩
  rw [show (a : Int) / 2 ^ b = ((a / 2 ^ b : Nat) : Int) by rw [Int.natCast_ediv, Int.natCast_pow]; rfl]
  exact q
theorem op_andB : OpR X (binaryOp .BitAnd) (rNat fun a b => .int ((a &&& b : Nat))) := by
  intro pins s σ H x y v u Q I rx ry h
  obtain ⟨a, b, rfl, rfl, q⟩ := h
  exact op_and pins s σ H _ _ v u Q I rx ry ⟨a, b, rfl, rfl, by dsimp only; rw [bitAnd_nat]; exact q⟩
theorem op_orB : OpR X (binaryOp .BitOr) (rNat fun a b => .int ((a ||| b : Nat))) := by
  intro pins s σ H x y v u Q I rx ry h
  obtain ⟨a, b, rfl, rfl, q⟩ := h
  exact op_or pins s σ H _ _ v u Q I rx ry ⟨a, b, rfl, rfl, by dsimp only; rw [bitOr_nat]; exact q⟩
theorem iop_orB : OpR X (inplaceOp .BitOr) (rNat fun a b => .int ((a ||| b : Nat))) := by
  intro pins s σ H x y v u Q I rx ry h
  obtain ⟨a, b, rfl, rfl, q⟩ := h
  exact iop_or pins s σ H _ _ v u Q I rx ry ⟨a, b, rfl, rfl, by dsimp only; rw [bitOr_nat]; exact q⟩
theorem op_shlB : OpR X (binaryOp .LShift) (fun x y H Q => ∃ b : Nat, x = .int 1 ∧ y = .int (b : Nat) ∧ b ≤ 1000 ∧ Q (.int ((2 ^ b : Nat))) H) := by
  intro pins s σ H x y v u Q I rx ry h
  obtain ⟨b, rfl, rfl, hb, q⟩ := h
  refine op_oneShl pins s σ H _ _ v u Q I rx ry ⟨b, rfl, rfl, by omega, ?_⟩
  rw [show (2 : Int) ^ b = ((2 ^ b : Nat) : Int) by rw [Int.natCast_pow]; rfl]
  exact q
end
/-- the positions of a number's bits -/
def bitsL (N : Nat) : List Nat := (List.range (Builtin.Int.intBits (N : Int))).filter N.testBit
theorem bitsL_of {N n : Nat} (h : N < 2 ^ n) : bitsL N = (List.range n).filter N.testBit := by
  have h1 : Builtin.Int.intBits (N : Int) ≤ n := intBits_le_iff.mpr (by simpa using h)
  have h2 : N < 2 ^ Builtin.Int.intBits (N : Int) := by
    have := intBits_le_iff (m := Builtin.Int.intBits (N : Int)) (x := (N : Int))
    simpa using this.mp (Nat.le_refl _)
  unfold bitsL
  obtain ⟨d, rfl⟩ := Nat.le.dest h1
  rw [List.range_add, List.filter_append]
  have e : (List.map (fun x => Builtin.Int.intBits (N : Int) + x) (List.range d)).filter N.testBit = [] := by
    refine List.filter_eq_nil_iff.mpr fun i hi => ?_
    obtain ⟨j, _, rfl⟩ := List.mem_map.mp hi
    rw [Nat.testBit_lt_two_pow (Nat.lt_of_lt_of_le h2 (Nat.pow_le_pow_right (by decide) (Nat.le_add_right _ _)))]
    decide
  rw [e, List.append_nil]
theorem odd_test (N k : Nat) : ((N / 2 ^ k) % 2 = 1) ↔ N.testBit k = true := by
  rw [Nat.testBit_eq_decide_div_mod_eq, decide_eq_true_eq]
end Ct
namespace Ct
open PySem PySem.Spec PyProof.Rows L2
theorem ix_tupk {X : Cx} {K : PySem.W.Frag} (hK : X.K = K) : IxR X (rIxT K) := hK ▸ ix_tup
theorem ix_listk {X : Cx} {K : PySem.W.Frag} (hK : X.K = K) : IxR X (rIxL K) := hK ▸ ix_list
/-- numbers as values -/
abbrev natV (n : Nat) : V := .int (n : Nat)
end Ct
namespace Ct
open PySem PySem.Spec PyProof.Rows L2
def tTru (K : PySem.W.Frag) (ta : TE) : TT := fun σ H Q => ta σ H fun x H' => ∃ k, TruV K x H' k ∧ Q k H'
/-- a value's truth, the written part named -/
theorem pt_truthk {X : Cx} {K : PySem.W.Frag} {a : Expr} {ta : TE} (hK : X.K = K) (ha : PE X a ta) (he : ∀ whole, isTrue a X.env whole = (do let v ← whole; standAt a.pos; holding [v] (truthy v))) :
    PT X a (tTru K ta) := hK ▸ pt_truth ha he
end Ct
namespace Ct
open PySem PySem.Spec PyProof.Rows L2
section
variable {X : Cx} {K : PySem.W.Frag}
theorem pe_fldk {e : Expr} {f : Str} {pos : Pos} {ta : TE} (hK : X.K = K) (he : PE X e ta) (hb : attributeBase e f X.env (eval e X.env) = eval e X.env) : PE X (.Attribute e f pos) (tFld K ta f) := hK ▸ pe_fld he hb
theorem op_eqNilk (hK : X.K = K) (hu : X.A.units + 64 < cLine) : OpR X (compareOp .Eq) (rEqNil K false) := hK ▸ op_eqNil hu
theorem op_neNilk (hK : X.K = K) (hu : X.A.units + 64 < cLine) : OpR X (compareOp .NotEq) (rEqNil K true) := hK ▸ op_neNil hu
def rLen (K : PySem.W.Frag) : List V → Hp → VK → Prop := fun xs H Q => ∃ x n, xs = [x] ∧ LenV K x H n ∧ Q (.int n) H
theorem call_lenk (hK : X.K = K) : CallR X (.builtin "len") (rLen K) := hK ▸ call_len
theorem sl_listk (hK : X.K = K) : SlR X (rSlL K) := hK ▸ sl_list
end
end Ct
namespace Ct
open PySem PySem.Spec PyProof.Rows L2
/-- the number with just the bits below n that pass -/
def maskOf (f : Nat → Bool) : Nat → Nat
  | 0 => 0
  | n + 1 => maskOf f n ||| (if f n then 2 ^ n else 0)
theorem test_mask (f : Nat → Bool) (i : Nat) : ∀ n, (maskOf f n).testBit i = (decide (i < n) && f i)
  | 0 => by simp [maskOf]
  | n + 1 => by
    rw [maskOf, Nat.testBit_or, test_mask f i n]
    by_cases e : i = n
    · subst e
      cases h : f i <;> simp [h, Nat.testBit_two_pow]
    · have : (if f n = true then 2 ^ n else 0).testBit i = false := by
        split
        · rw [Nat.testBit_two_pow]
          exact decide_eq_false fun z => e z.symm
        · simp
      rw [this, Bool.or_false]
      congr 1
      rw [Bool.eq_iff_iff, decide_eq_true_eq, decide_eq_true_eq]
      omega
theorem mask_lt (f : Nat → Bool) (n : Nat) : maskOf f n < 2 ^ n := Nat.lt_pow_two_of_testBit _ fun i hi => by
  rw [test_mask, decide_eq_false (by omega), Bool.false_and]
theorem mask_congr {f g : Nat → Bool} {n : Nat} (h : ∀ i, i < n → f i = g i) : maskOf f n = maskOf g n := Nat.eq_of_testBit_eq fun i => by
  rw [test_mask, test_mask]
  by_cases c : i < n
  · rw [h i c]
  · rw [decide_eq_false c]; rfl
/-- a dict from names to numbers -/
def DN (kvs : List (Key × V)) (ns : List Str) (f : Str → Nat) (B : Nat) : Prop := kvs.length ≤ B ∧ ∀ p ∈ ns, valV kvs (.inr p) = some (natV (f p))
theorem DN.snoc {kvs : List (Key × V)} {ns : List Str} {f : Str → Nat} {B : Nat} {p : Str} {v : Nat} (h : DN kvs ns f B) (e : f p = v) : DN (putK kvs (.inr p) (natV v)) (ns ++ [p]) f (B + 1) := by
  refine ⟨Nat.le_trans (length_putK kvs _ _) (Nat.succ_le_succ h.1), fun q hq => ?_⟩
  rw [valV_put]
  by_cases c : q = p
  · rw [if_pos (by rw [c]), c, e]
  · rw [if_neg (fun z => c (Sum.inr.inj z))]
    rcases List.mem_append.mp hq with z | z
    · exact h.2 q z
    · exact absurd (List.mem_singleton.mp z) c
theorem DN.upd {kvs : List (Key × V)} {ns : List Str} {f g : Str → Nat} {B v : Nat} {p : Str} (h : DN kvs ns f B) (ev : g p = v) (e : ∀ q ∈ ns, q ≠ p → g q = f q) : DN (putK kvs (.inr p) (natV v)) ns g (B + 1) := by
  subst ev
  refine ⟨Nat.le_trans (length_putK kvs _ _) (Nat.succ_le_succ h.1), fun q hq => ?_⟩
  rw [valV_put]
  by_cases c : q = p
  · rw [if_pos (by rw [c]), c]
  · rw [if_neg (fun z => c (Sum.inr.inj z)), h.2 q hq, e q hq c]
theorem dgetN {H : Hp} {a : Addr} {kvs : List (Key × V)} {p : Str} {v : V} (h : H a = some (.dK kvs)) (e : valV kvs (.inr p) = some v) : DGet H a (.str p) (some v) := e ▸ DGet.k (k := Sum.inr p) h
theorem dputN {H : Hp} {a : Addr} {kvs : List (Key × V)} {p : Str} {v : V} (h : H a = some (.dK kvs)) (l : kvs.length < sizeLine) : DPut H a (.str p) v (upd H a (.dK (putK kvs (.inr p) v))) := DPut.k (k := Sum.inr p) h l
end Ct
namespace Ct
open PySem PySem.Spec PyProof.Rows L2
theorem in_orB {X : Cx} : InOp X .BitOr (rNat fun a b => .int ((a ||| b : Nat))) := fun pins s σ H x y u v Q I rx ry h => iop_orB pins s σ H x y u v Q I rx ry h
theorem pg_tupk {X : Cx} {K : PySem.W.Frag} {pos : Pos} {es : List Expr} {k : Nat} {t : TGs} {n : Nat} (hK : X.K = K) (hc : X.calm = true) (h : PGs X es t) (hn : (assignEach es X.env).length = n := by rfl) (hst : (assignEach es X.env).findIdx? (·.1) = none := by rfl) : PG X (.Tuple es k pos) (gTup K n t) := hK ▸ pg_tup hc h hn hst
end Ct
namespace Ct
open PySem PySem.Spec PyProof.Rows L2
theorem str_at {ns : List Str} {i : Nat} {x : V} (h : (ns.map V.str)[i]? = some x) : ∃ p, ns[i]? = some p ∧ x = .str p := by
  rw [List.getElem?_map] at h
  cases e : ns[i]? with
  | none => rw [e] at h; cases h
  | some p => rw [e] at h; exact ⟨p, rfl, (Option.some.inj h).symm⟩
theorem take_next2 {α : Type} {l : List α} {i : Nat} {x : α} (h : l[i]? = some x) : l.take (i + 1) = l.take i ++ [x] := by rw [List.take_succ, h]; rfl
end Ct
namespace Ct
open PySem PySem.Spec PyProof.Rows L2
theorem walk_zipT {K : PySem.W.Frag} {a b : Addr} {xs ys : List V} {n : Nat} (hn : n = min xs.length ys.length) : Walk (RZ.ItzT K a b) n (fun H => SqT K H a xs ∧ SqT K H b ys) (YPair (fun i => xs[i]?) (fun i => ys[i]?)) := by
  subst hn
  refine ⟨fun i _ hi q => ?_, fun _ q => ⟨xs, ys, q.1, q.2, by omega⟩, fun i H v H' _ q y => ?_⟩
  · have h1 : i < xs.length := by omega
    have h2 : i < ys.length := by omega
    exact ⟨xs, ys, xs[i], ys[i], q.1, q.2, by simp [h1], by simp [h2]⟩
  · obtain ⟨T, x, z, h1, h2, h3, h4, h5⟩ := y
    exact ⟨T, x, z, h1, h2, h3, h4 xs q.1, h5 ys q.2⟩
end Ct
namespace Ct
open PySem
theorem filter_one (f : Str → Bool) (q : Str) : [q].filter f = if f q = true then [q] else [] := by
  cases e : f q <;> simp [List.filter, e]
end Ct
namespace Ct
open PySem PySem.Spec PyProof.Rows L2
section
variable {X : Cx} {CX : CXT} {k : Nat} {f C : Addr} {fd : FuncData} {ps : List Str} {sp : Sp} {dvs : List V} {ds : List Value} {E : L2.St → XK} {x : Str} {p pos : Pos} {e : Expr} {es : List Expr} {t : TA}
/-- C(..), its reading in other words -/
theorem pe_makeG {G : List V → Hp → VK → Prop} (M : Mk X.K C f) (F : FnOk X.prog X.w X.K X.mg X.base CX k f fd ps sp) (hr : Room (k + 1) X.A) (hg : Gl X x) (hm : X.mg x = some (.ref C)) (hb : Binds X.K fd ps ds) (hd : Vals dvs ds)
    (hG : ∀ (vs : List V) (H1 : Hp) (Q : VK) (σ : L2.St) (x dx : Addr), G vs H1 Q → H1 x = none → H1 dx = none → dx ≠ x → sp (.ref x :: (vs ++ dvs)) (upd (upd H1 dx (.own x)) x (.ins C dx [])) (fun v H2 => v = .non ∧ Q (.ref x) H2) (E σ))
    (hx : ∀ (pins : List (Addr × Obj)) (σ : L2.St) (H : Hp) (s : Shared) (e : Value) (s' : Shared), Inv X pins σ H s → CX X.stack H s (E σ) e s' → X.xe e s')
    (ha : PA X (e :: es) t) (hdb : (x == ("__debug__" : Str)) = false := by decide) (he : starEach (e :: es) X.env = (false, eval e X.env) :: starEach es X.env := by rfl) (hpl : (backTo pos (starEach es X.env)).any (·.1) = false := by rfl) :
    PE X (.Call (.Name x p) (e :: es) [] pos) (fun σ H Q => t σ H fun vs H1 => G vs H1 Q) := by
  refine ⟨fun pins s σ H Q I h => ?_⟩
  refine wpAny_Call_Name_kw (ld_glob I hg hm ?_ hdb)
  refine PySem.W.callWith_K (h₀ := X.base) I.ok.mod.kin M.kp (thn (ha.run pos pins s σ H _ I h) fun us s1 ⟨vs, H1, I1, r, q⟩ => ⟨I1.kIn, ?_⟩) he hpl
  have hq := hG vs H1 _ σ (s1.heap.objs.size + 1) s1.heap.objs.size q (I1.hok.fresh (Nat.le_succ _)) (I1.hok.fresh (Nat.le_refl _)) (Nat.ne_of_lt (Nat.lt_succ_self _))
  have I2 := Inv.made (C := C) I1
  have r2 : Vals (V.ref (s1.heap.objs.size + 1) :: (vs ++ dvs)) (Value.ref (s1.heap.objs.size + 1) :: (us ++ ds)) := .cons rfl (r.append hd)
  have hl : (Value.ref (s1.heap.objs.size + 1) :: us ++ ds).length = ps.length := by
    have e := r2.length
    rw [F.len _ _ _ _ hq] at e
    exact e.symm
  refine wpAny_call (make_map (f := f) I1.kIn M.makes M.init (beq_iff_eq.mp M.fn) (codeAny_mono (F.run _ X.stack _ _ ⟨Value.ref (s1.heap.objs.size + 1) :: us, []⟩ (Value.ref (s1.heap.objs.size + 1) :: (us ++ ds)) _ _ (E σ) (hr.make C us [])
    (I2.env0.make C us []) (hb _ (Value.ref (s1.heap.objs.size + 1) :: us) I2.kIn hl) r2 hq) fun r s' hq' => ?_))
  match r, hq' with
  | .error e, hq' => exact hx pins σ _ _ e s' I2 hq'
  | .ok .next, hq' => exact False.elim hq'
  | .ok .brk, hq' => exact False.elim hq'
  | .ok .cont, hq' => exact False.elim hq'
  | .ok (.ret u), hq' =>
    obtain ⟨v, H', I3, rv, ev, q3⟩ := I2.after hq'
    subst ev
    exact ⟨rv, ⟨V.ref (s1.heap.objs.size + 1), H', I3, rfl, q3⟩⟩
end
end Ct
namespace Ct
open PySem PySem.Spec PyProof.Rows L2
/-- t + u, told by what it is -/
def rCatT2 (K : PySem.W.Frag) : R2 := fun x y H Q => ∃ a b xs ys, x = .ref a ∧ y = .ref b ∧ SqT K H a xs ∧ SqT K H b ys ∧ xs.length + ys.length ≤ sizeLine ∧ ∀ t H', Same H H' → SqT K H' t (xs ++ ys) → Q (.ref t) H'
theorem op_catT2 {X : Cx} : OpR X (binaryOp .Add) (rCatT2 X.K) := by
  intro pins s σ H x y v u Q I rx ry h
  obtain ⟨a, b, xs, ys, rfl, rfl, ha, hb, hz, q⟩ := h
  refine op_catA pins s σ H _ _ v u Q I rx ry ⟨a, b, xs, ys, rfl, rfl, ha, hb, hz, fun e => ?_, fun _ e => ?_, fun _ _ p hp => ?_⟩
  · subst e
    exact q b H (Same.refl H) hb
  · subst e
    exact q a H (Same.refl H) (by rw [List.append_nil]; exact ha)
  · exact q p _ (same_new hp) (SqT.of upd_same)
end Ct

set_option Elab.async false
set_option linter.all false
set_option maxRecDepth 100000
set_option maxHeartbeats 4000000
namespace Pw
open PySem PySem.Spec PyProof.Rows L2 Ct
/-- the built-ins that the text leaves as they are -/
structure Bn (mg : Str → Option Value) : Prop where
  z_int : mg "int" = none
  z_str : mg "str" = none
  z_bool : mg "bool" = none
  z_len : mg "len" = none
  z_range : mg "range" = none
  z_max : mg "max" = none
  z_min : mg "min" = none
  z_isinstance : mg "isinstance" = none
  z_list : mg "list" = none
  z_tuple : mg "tuple" = none
  z_set : mg "set" = none
  z_dict : mg "dict" = none
  z_repr : mg "repr" = none
  z_all : mg "all" = none
  z_any : mg "any" = none
  z_sorted : mg "sorted" = none
  z_enumerate : mg "enumerate" = none
  z_zip : mg "zip" = none
  z_sum : mg "sum" = none
  z_reversed : mg "reversed" = none
/-- the constants of webs -/
structure Mc (mg : Str → Option Value) : Prop where
  g_MOST_PLACES : ∃ t, mg "MOST_PLACES" = some (.int 12 t)
  g_MOST_LETTERS : ∃ t, mg "MOST_LETTERS" = some (.int 8 t)
  g_LETTERS : ∃ t, mg "LETTERS" = some (.str "abcdefghijklmnopqrstuvwxyz" t)
section
variable {X : Cx} {x : Str} {pos : Pos}
theorem pe_gi {i : Int} (hg : Gl X x) (h : ∃ t, X.mg x = some (.int i t)) (hd : (x == ("__debug__" : Str)) = false := by decide) : PE X (.Name x pos) (tC (.int i)) := by
  obtain ⟨t, h⟩ := h
  exact pe_glob hg h ⟨t, rfl⟩ hd
theorem pe_gs {z : Str} (hg : Gl X x) (h : ∃ t, X.mg x = some (.str z t)) (hd : (x == ("__debug__" : Str)) = false := by decide) : PE X (.Name x pos) (tC (.str z)) := by
  obtain ⟨t, h⟩ := h
  exact pe_glob hg h ⟨t, rfl⟩ hd
end
/-- the signs of names -/
abbrev LT : Str := "abcdefghijklmnopqrstuvwxyz"
def okSigns (x : Str) : Bool := x.cps.toList.all fun c => decide (c ∈ LT.cps.toList)
def okName (x : Str) : Bool := decide (1 ≤ x.length) && decide (x.length ≤ 8) && okSigns x
/-- is_name of any datum -/
def nameD : PyData → Bool
  | .str x => okName x
  | _ => false
def spIsName (K : PySem.W.Frag) : Sp := fun vs H Q _ => ∃ (v : V) (d : PyData), vs = [v] ∧ Dq K H v d ∧ (∀ x, d = .str x → x.length ≤ sizeLine) ∧ ∀ H', Same H H' → Q (.bl (nameD d)) H'
section
variable {P : Program} {w : World} {K : PySem.W.Frag} {mg : Str → Option Value} {base : Heap}
abbrev sIsName : Stmt := top ix_is_name
theorem scIsName : FnScope ["value", "sign"] ["value"] (defScope sIsName) := ⟨rfl, rfl, rfl, by decide +kernel, rfl, by decide +kernel, by decide +kernel⟩
theorem has_is_name (T : Bn mg) (M : Mc mg) (D : DFE K mg "is_name" sIsName ["value"]) : Has P w K mg base CX0 1 "is_name" ["value"] (spIsName K) := by
  refine has_of D scIsName (fun vs H Q E h => ?_) (fun f cdv A outer s H vs Q E hr h => ?_)
  · obtain ⟨v, d, rfl, _⟩ := h; rfl
  · obtain ⟨v, d, rfl, hd, hl, k⟩ := h
    have nd := scIsName.nd
    refine ⟨_, (pss_cons (ps_if (pt_not (pt_val (pe_callB call_isD (by rfl) T.z_isinstance (by decide +kernel) (pa_cons (pv 0) (pa_cons (pe_bltn (v := .ty "str") rfl T.z_str (by decide +kernel) rfl) pa_nil))))) (pss_one (ps_ret pe_bl)) pss_nil)
    (pss_one (ps_ret (pe_and (pe_chain op_le op_le pe_int (pe_callB call_len_str (by rfl) T.z_len (by decide +kernel) (pa_cons (pv 0) pa_nil)) (pe_gi rfl M.g_MOST_LETTERS)) (pe_one (pe_callB (cr_all rfl) (by rfl) T.z_all (by decide +kernel) (pa_cons (pe_lc (own := [("sign", 1)]) (g := gName 1) (tt := tYes) rfl nd (pi_str (pv 0)) (blkOk_by (own := [("sign", 1)]) (N := ["value", "sign"]) (sc := defScope sIsName) (by decide +kernel)) (fun _ _ _ _ _ => (pg_name (i := 1) nd rfl (by first | exact Or.inl rfl | exact Or.inr rfl))) (fun _ _ _ _ _ => pts_nil) (fun _ _ _ _ _ => (pe_cmpR op_in_sign (pv 1) (pe_gs rfl M.g_LETTERS) (by first | exact nomark _ | rfl)))) pa_nil))))))), ?_⟩
    refine ⟨_, rfl, _, d, "str", _, rfl, hd, kit_str d, _, rfl, ?_⟩
    cases d with
    | str x =>
      cases hd
      refine ⟨_, rfl, x, rfl, hl x rfl, ?_⟩
      refine ⟨_, _, rfl, rfl, _, rfl, ?_⟩
      have fin : ∀ (b : Bool), b = okName x → Q (.bl b) H := fun b e => by subst e; exact k H (Same.refl H)
      have len : ((x.length : Nat) : Int) = (x.cps.size : Nat) := rfl
      refine ite2 (fun c1 => ?_) (fun c1 => ?_)
      · have c1 := of_decide_eq_true c1
        refine ⟨_, _, rfl, rfl, _, rfl, ?_⟩
        refine ite2 (fun c2 => ?_) (fun c2 => ?_)
        · have c2 := of_decide_eq_true c2
          refine ⟨_, rfl, x, rfl, fun L nL => ?_⟩
          refine lc_it walk_str (fun i H' => Same H H' ∧ ∃ bs : List Bool, H' L = some (.lst (bs.map V.bl)) ∧ bs = (x.cps.toList.take i).map fun c => decide (c ∈ LT.cps.toList)) ⟨same_new nL, [], upd_same, rfl⟩ (fun _ _ _ _ => True.intro) ?_ ?_
          · rintro i z H1 H2 hi ⟨sm, bs, hL, hb⟩ ⟨rfl, c, hc, rfl⟩
            refine ⟨rfl, ⟨_, rfl, c, _, rfl, rfl, bs.map V.bl, hL, ?_, ?_⟩⟩
            · rw [List.length_map, hb, List.length_map]
              exact Nat.lt_of_le_of_lt (List.length_take_le _ _) (Nat.lt_of_lt_of_le hi (Nat.le_trans (show x.cps.size ≤ 8 by have : x.length = x.cps.size := rfl; omega) (by decide)))
            · refine ⟨same_upd sm nL, bs ++ [decide (c ∈ LT.cps.toList)], ?_, ?_⟩
              · rw [upd_same, List.map_append]; rfl
              · have ht : x.cps.toList[i]? = some c := by rw [Array.getElem?_toList]; exact hc
                rw [hb, List.take_succ, ht]
                simp
          · rintro H1 ⟨sm, bs, hL, hb⟩
            refine ⟨L, bs, rfl, SqL.of hL, ?_⟩
            rw [hb, show x.cps.size = x.cps.toList.length from rfl, List.take_length, List.all_map]
            have e : okName x = okSigns x := by
              unfold okName
              rw [decide_eq_true (show 1 ≤ x.length by omega), decide_eq_true (show x.length ≤ 8 by omega)]
              rfl
            have z := k _ sm
            show Q (.bl (okSigns x)) H1
            rw [← e]
            exact z
        · refine fin false ?_
          unfold okName
          rw [show decide (x.length ≤ 8) = false from decide_eq_false (fun z => c2 (decide_eq_true (by omega)))]
          simp
      · refine ⟨_, rfl, iteF (fin false ?_)⟩
        unfold okName
        rw [show decide (1 ≤ x.length) = false from decide_eq_false (fun z => c1 (decide_eq_true (by omega)))]
        simp
    | _ => exact k H (Same.refl H)
end
end Pw

set_option Elab.async false
set_option linter.all false
set_option maxRecDepth 100000
set_option maxHeartbeats 4000000
namespace Pw
open PySem PySem.Spec PyProof.Rows L2 Ct
theorem iteNN {c A B : Prop} [Decidable c] (hc : ¬ c) (h : A) : if (!decide c) = true then A else B := by
  rw [decide_eq_false hc]
  exact iteT h
/-- names: a list or tuple of texts -/
abbrev Nms (K : PySem.W.Frag) (H : Hp) (a : Addr) (ns : List Str) : Prop := SqS K H a (ns.map V.str)
theorem map_kv (ns : List Str) : (ns.map Sum.inr : List Key).map kV = ns.map V.str := by rw [List.map_map]; rfl
theorem nodup_inr {ns : List Str} : (ns.map (Sum.inr : Str → Key)).Nodup ↔ ns.Nodup := by
  constructor
  · exact fun h => List.Pairwise.of_map _ (fun _ _ hne e => hne (congrArg _ e)) h
  · exact fun h => List.Pairwise.map _ (fun _ _ hne e => hne (Sum.inr.inj e)) h
def spAllDiffer (K : PySem.W.Frag) : Sp := fun vs H Q _ => ∃ (a : Addr) (ns : List Str), vs = [.ref a] ∧ Nms K H a ns ∧ ns.length < 4096 ∧ ∀ H', Same H H' → (ns.Nodup → Q (.bl true) H') ∧ (¬ ns.Nodup → Q (.bl false) H')
/-- a tuple of two data -/
def tieD : PyData → Option (PyData × PyData)
  | .tuple [x, y] => some (x, y)
  | _ => none
/-- the datum is a tie among the names -/
def tieOf (ns : List Str) : PyData → Option (Str × Str)
  | .tuple [x, y] => match x, y with
    | .str a, .str b => if a ∈ ns ∧ b ∈ ns ∧ a ≠ b then some (a, b) else none
    | _, _ => none
  | _ => none
theorem tie_no1 {ns : List Str} {x y : PyData} (h : amid x ns = false) : tieOf ns (.tuple [x, y]) = none := by
  cases x with
  | str a =>
    cases y with
    | str b => exact if_neg fun z => Bool.noConfusion (h.symm.trans (amid_str.mpr z.1))
    | _ => rfl
  | _ => rfl
theorem tie_no2 {ns : List Str} {x y : PyData} (h : amid y ns = false) : tieOf ns (.tuple [x, y]) = none := by
  cases x with
  | str a =>
    cases y with
    | str b => exact if_neg fun z => Bool.noConfusion (h.symm.trans (amid_str.mpr z.2.1))
    | _ => rfl
  | _ => rfl
theorem tie_yes {ns : List Str} {x y : Str} (h1 : amid (.str x) ns = true) (h2 : amid (.str y) ns = true) : (tieOf ns (.tuple [.str x, .str y])).isSome = !decide (V.str x = V.str y) := by
  show (if x ∈ ns ∧ y ∈ ns ∧ x ≠ y then some (x, y) else none).isSome = _
  by_cases e : x = y
  · rw [if_neg (fun z => z.2.2 e), e]; simp
  · rw [if_pos ⟨amid_str.mp h1, amid_str.mp h2, e⟩, decide_eq_false (fun z => e (V.str.inj z))]; rfl
/-- no dict within -/
def flatD : PyData → Bool
  | .dict _ => false
  | _ => true
mutual
def noDict : PyData → Bool
  | .dict _ => false
  | .list xs => noDicts xs
  | .tuple xs => noDicts xs
  | _ => true
def noDicts : List PyData → Bool
  | [] => true
  | x :: xs => noDict x && noDicts xs
end
mutual
theorem Dq.dp {K : PySem.W.Frag} {H : Hp} : ∀ {v : V} {d : PyData}, Dq K H v d → noDict d = true → Dp K H v d
  | _, _, .non, _ => .non
  | _, _, .bl b, _ => .bl b
  | _, _, .int i, _ => .int i
  | _, _, .str x, _ => .str x
  | _, _, .lst h a, n => .lst h (DqAll.dp a (by simpa [noDict] using n))
  | _, _, .tup h a, n => .tup h (DqAll.dp a (by simpa [noDict] using n))
  | _, _, .dic _ _ _ _, n => absurd n (by simp [noDict])
  | _, _, .dicT _ _ _ _, n => absurd n (by simp [noDict])
theorem DqAll.dp {K : PySem.W.Frag} {H : Hp} : ∀ {vs : List V} {ds : List PyData}, DqAll K H vs ds → noDicts ds = true → DpAll K H vs ds
  | _, _, .nil, _ => .nil
  | _, _, .cons h a, n => by
    rw [noDicts, Bool.and_eq_true] at n
    exact .cons (Dq.dp h n.1) (DqAll.dp a n.2)
end
/-- the entries are of a kind that can be compared -/
def plainTie : PyData → Prop
  | .tuple [x, y] => noDict x = true ∧ noDict y = true
  | _ => True
def spIsTie (K : PySem.W.Frag) : Sp := fun vs H Q _ => ∃ (a : Addr) (ns : List Str) (v : V) (d : PyData), vs = [.ref a, v] ∧ Nms K H a ns ∧ Dq K H v d ∧ plainTie d ∧ Q (.bl (tieOf ns d).isSome) H
/-- a tie's pair: the lesser text first -/
def ltS (x y : Str) : Bool := decide (x.cps.toList < y.cps.toList)
def pairS (x y : Str) : Str × Str := if ltS x y = true then (x, y) else (y, x)
def TupS (K : PySem.W.Frag) (H : Hp) (a : Addr) (p : Str × Str) : Prop := SqT K H a [.str p.1, .str p.2]
def spPair (K : PySem.W.Frag) : Sp := fun vs H Q _ => ∃ (a : Addr) (x y : Str), vs = [.ref a] ∧ TupS K H a (x, y) ∧ ∀ p, H p = none → Q (.ref p) (upd H p (.tup [.str (pairS x y).1, .str (pairS x y).2]))
section
variable {P : Program} {w : World} {K : PySem.W.Frag} {mg : Str → Option Value} {base : Heap}
abbrev sAllDiffer : Stmt := top ix_all_differ
theorem scAllDiffer : FnScope ["names"] ["names"] (defScope sAllDiffer) := ⟨rfl, rfl, rfl, by decide +kernel, rfl, by decide +kernel, by decide +kernel⟩
theorem has_all_differ (T : Bn mg) (D : DFE K mg "_all_differ" sAllDiffer ["names"]) : Has P w K mg base CX0 1 "_all_differ" ["names"] (spAllDiffer K) := by
  refine has_of D scAllDiffer (fun vs H Q E h => ?_) (fun f cdv A outer s H vs Q E hr h => ?_)
  · obtain ⟨a, ns, rfl, _⟩ := h; rfl
  · obtain ⟨a, ns, rfl, ha, hl, k⟩ := h
    have nd := scAllDiffer.nd
    refine ⟨_, (pss_one (ps_ret (pe_cmpR op_eq (pe_callB call_lenK (by rfl) T.z_len (by decide +kernel) (pa_cons (pe_callTy (call_setOf rfl) (by rfl) T.z_set (by decide +kernel) (pa_cons (pv 0) pa_nil)) pa_nil)) (pe_callB call_len_seq (by rfl) T.z_len (by decide +kernel) (pa_cons (pv 0) pa_nil)) (by first | exact nomark _ | rfl)))), ?_⟩
    refine ⟨_, rfl, a, ns.map Sum.inr, rfl, by rw [map_kv]; exact ha, by rw [List.length_map]; exact hl, fun p hp => ?_⟩
    have u := same_new (o := SetK P w p (fun k => (ns.map Sum.inr : List Key).any (fun j => decide (j = k))) (cnt (ns.map Sum.inr) (ns.map (Sum.inr : Str → Key)).length)) hp
    obtain ⟨H', hH'⟩ : ∃ H', H' = upd H p (SetK P w p (fun k => (ns.map Sum.inr : List Key).any (fun j => decide (j = k))) (cnt (ns.map Sum.inr) (ns.map (Sum.inr : Str → Key)).length)) := ⟨_, rfl⟩
    obtain ⟨k1, k2⟩ := k _ u
    rw [← hH'] at k1 k2
    refine ⟨p, _, _, rfl, upd_same, _, rfl, a, ns.map V.str, rfl, SqS.same u ha, rfl, ?_⟩
    have e : decide ((cnt (ns.map (Sum.inr : Str → Key)) (ns.map (Sum.inr : Str → Key)).length : Int) = ((ns.map V.str).length : Nat)) = decide ns.Nodup := by
      have z := cnt_eq (ns.map (Sum.inr : Str → Key)) _ (Nat.le_refl _)
      rw [List.take_length, nodup_inr] at z
      refine decide_eq_decide.mpr (Iff.trans ?_ z)
      rw [List.length_map, List.length_map]
      omega
    have ev : decide (V.int (cnt (ns.map (Sum.inr : Str → Key)) (ns.map (Sum.inr : Str → Key)).length : Nat) = V.int ((ns.map V.str).length : Nat)) = decide ns.Nodup := by
      rw [← e]
      exact decide_eq_decide.mpr ⟨fun z => V.int.inj z, fun z => congrArg V.int z⟩
    have fin : Q (.bl (decide ns.Nodup)) H' := by
      by_cases c : ns.Nodup
      · rw [decide_eq_true c]; exact k1 c
      · rw [decide_eq_false c]; exact k2 c
    rw [← ev, hH'] at fin
    exact fin
abbrev sIsTie : Stmt := top ix_is_tie
theorem scIsTie : FnScope ["places", "value", "one", "other"] ["places", "value"] (defScope sIsTie) := ⟨rfl, rfl, rfl, by decide +kernel, rfl, by decide +kernel, by decide +kernel⟩
theorem has_is_tie (T : Bn mg) (D : DFE K mg "_is_tie" sIsTie ["places", "value"]) : Has P w K mg base CX0 1 "_is_tie" ["places", "value"] (spIsTie K) := by
  refine has_of D scIsTie (fun vs H Q E h => ?_) (fun f cdv A outer s H vs Q E hr h => ?_)
  · obtain ⟨a, ns, v, d, rfl, _⟩ := h; rfl
  · obtain ⟨a, ns, v, d, rfl, ha, hd, pl, k⟩ := h
    have nd := scIsTie.nd
    refine ⟨_, (pss_cons (ps_if (PW.pt (pw_or (pt_not (pt_val (pe_callB call_isD (by rfl) T.z_isinstance (by decide +kernel) (pa_cons (pv 1) (pa_cons (pe_bltn (v := .ty "tuple") rfl T.z_tuple (by decide +kernel) rfl) pa_nil))))) (pw_or1 (pt_cmpR op_ne (pe_callB call_len_seq (by rfl) T.z_len (by decide +kernel) (pa_cons (pv 1) pa_nil)) pe_int (by first | exact nomark _ | rfl))))) (pss_one (ps_ret pe_bl)) pss_nil)
    (pss_cons (ps_asg (pv 1) (pg_tup rfl (pgs_cons (pg_name (i := 2) nd rfl (by first | exact Or.inl rfl | exact Or.inr rfl)) (pgs_cons (pg_name (i := 3) nd rfl (by first | exact Or.inl rfl | exact Or.inr rfl)) pgs_nil))))
    (pss_one (ps_ret (pe_and (pe_cmpR (or_amid hr.units) (pv 2) (pv 0) (by first | exact nomark _ | rfl)) (pe_and (pe_cmpR (or_amid hr.units) (pv 3) (pv 0) (by first | exact nomark _ | rfl)) (pe_one (pe_cmpR op_ne (pv 2) (pv 3) (by first | exact nomark _ | rfl))))))))), ?_⟩
    have no : tieOf ns d = none → Q (.bl false) H := fun e => by rw [e] at k; exact k
    refine ⟨_, rfl, _, d, "tuple", _, rfl, hd, kit_tuple d, _, rfl, ?_⟩
    cases hd with
    | @tup t xs ds ht hx =>
      refine iteF ⟨_, rfl, _, _, rfl, .inr ht, rfl, _, rfl, ?_⟩
      cases hx with
      | nil => exact iteT (no rfl)
      | @cons v1 vs1 d1 ds1 h1 hx =>
        cases hx with
        | nil => exact iteT (no rfl)
        | @cons v2 vs2 d2 ds2 h2 hx =>
          cases hx with
          | @cons v3 vs3 d3 ds3 h3 hx =>
            refine iteNN (fun z => ?_) (no rfl)
            have := V.int.inj z
            simp only [List.length_cons] at this
            omega
          | nil =>
            refine iteNS rfl ?_
            obtain ⟨p1, p2⟩ := pl
            refine ⟨_, rfl, t, _, rfl, ht, rfl, ?_⟩
            refine ⟨_, _, rfl, _, _, rfl, rfl, ?_⟩
            refine ⟨_, rfl, _, rfl, d1, a, ns, rfl, ha, Dq.dp h1 p1, ?_⟩
            rw [if_neg (by decide)]
            refine ⟨_, rfl, ?_⟩
            have two : ∀ b : Bool, b = (tieOf ns (.tuple [d1, d2])).isSome → Q (.bl b) H := fun b e => by subst e; exact k
            cases c1 : amid d1 ns with
            | false => exact iteF (two false (by rw [tie_no1 c1]; rfl))
            | true =>
              refine iteT ⟨_, rfl, _, rfl, d2, a, ns, rfl, ha, Dq.dp h2 p2, ?_⟩
              rw [if_neg (by decide)]
              refine ⟨_, rfl, ?_⟩
              cases c2 : amid d2 ns with
              | false => exact iteF (two false (by rw [tie_no2 c2]; rfl))
              | true =>
                refine iteT ?_
                cases d1 with
                | str x =>
                  cases d2 with
                  | str y =>
                    cases h1
                    cases h2
                    exact ⟨_, rfl, _, rfl, rfl, two _ (tie_yes c1 c2).symm⟩
                  | _ => exact absurd c2 Bool.false_ne_true
                | _ => exact absurd c1 Bool.false_ne_true
    | _ => exact no rfl
abbrev sPair : Stmt := top ix_pair
theorem scPair : FnScope ["tie", "one", "other"] ["tie"] (defScope sPair) := ⟨rfl, rfl, rfl, by decide +kernel, rfl, by decide +kernel, by decide +kernel⟩
theorem has_pair (D : DFE K mg "_pair" sPair ["tie"]) : Has P w K mg base CX0 1 "_pair" ["tie"] (spPair K) := by
  refine has_of D scPair (fun vs H Q E h => ?_) (fun f cdv A outer s H vs Q E hr h => ?_)
  · obtain ⟨a, x, y, rfl, _⟩ := h; rfl
  · obtain ⟨a, x, y, rfl, ha, k⟩ := h
    have nd := scPair.nd
    refine ⟨_, (pss_cons (ps_asg (pv 0) (pg_tup rfl (pgs_cons (pg_name (i := 1) nd rfl (by first | exact Or.inl rfl | exact Or.inr rfl)) (pgs_cons (pg_name (i := 2) nd rfl (by first | exact Or.inl rfl | exact Or.inr rfl)) pgs_nil))))
    (pss_one (ps_ret (pe_ifExp (pt_cmpR op_lt_str (pv 1) (pv 2) (by first | exact nomark _ | rfl)) (pe_tup (pa_cons (pv 1) (pa_cons (pv 2) pa_nil))) (pe_tup (pa_cons (pv 2) (pa_cons (pv 1) pa_nil))))))), ?_⟩
    refine ⟨_, rfl, a, _, rfl, ha, rfl, _, _, rfl, _, _, rfl, rfl, ?_⟩
    refine ⟨_, rfl, _, rfl, _, _, rfl, rfl, _, rfl, ?_⟩
    have kk : ∀ p, H p = none → Q (.ref p) (upd H p (.tup [.str (pairS x y).1, .str (pairS x y).2])) := k
    unfold pairS ltS at kk
    refine ite2 (fun c => ?_) (fun c => ?_)
    · rw [if_pos c] at kk
      exact ⟨_, rfl, _, rfl, by show 2 ≤ sizeLine; decide, kk⟩
    · rw [if_neg c] at kk
      exact ⟨_, rfl, _, rfl, by show 2 ≤ sizeLine; decide, kk⟩
end
end Pw

set_option Elab.async false
set_option linter.all false
set_option maxRecDepth 100000
set_option maxHeartbeats 4000000
namespace Pw
open PySem PySem.Spec PyProof.Rows L2 Ct
/-- the items of a list or a tuple -/
def seqD : PyData → Option (List PyData)
  | .list ds => some ds
  | .tuple ds => some ds
  | _ => none
/-- the texts among data -/
def strsD : List PyData → List Str
  | [] => []
  | .str x :: ds => x :: strsD ds
  | _ :: ds => strsD ds
/-- the places that a datum is -/
def placesOf (d : PyData) : Option (List Str) := match seqD d with
  | some ds => if (1 ≤ ds.length ∧ ds.length ≤ 12) ∧ ds.all nameD = true ∧ (strsD ds).Nodup then some (strsD ds) else none
  | none => none
/-- the texts within are of a length that can be walked -/
def txtOk (d : PyData) : Prop := ∀ ds, seqD d = some ds → ds.length ≤ 4000 ∧ ∀ x, PyData.str x ∈ ds → x.length ≤ sizeLine
theorem strs_of {K : PySem.W.Frag} {H : Hp} : ∀ {xs : List V} {ds : List PyData}, DqAll K H xs ds → ds.all nameD = true → xs = (strsD ds).map V.str ∧ (strsD ds).length = ds.length
  | _, _, .nil, _ => ⟨rfl, rfl⟩
  | _, _, .cons (d := d) h t, n => by
    rw [List.all_cons, Bool.and_eq_true] at n
    obtain ⟨e1, e2⟩ := strs_of t n.2
    cases d with
    | str x =>
      cases h
      exact ⟨by rw [e1]; rfl, by show (strsD _).length + 1 = _ + 1; rw [e2]⟩
    | _ => exact absurd n.1 Bool.false_ne_true
/-- a list or a tuple, its items -/
theorem seq_of {K : PySem.W.Frag} {H : Hp} {v : V} {d : PyData} (h : Dq K H v d) {ds : List PyData} (e : seqD d = some ds) : ∃ a xs, v = .ref a ∧ SqS K H a xs ∧ DqAll K H xs ds ∧ xs.length = ds.length := by
  have len : ∀ {xs : List V} {ds : List PyData}, DqAll K H xs ds → xs.length = ds.length := by
    intro xs
    induction xs with
    | nil => intro ds h; cases h; rfl
    | cons x xs ih => intro ds h; cases h with | cons h t => rw [List.length_cons, List.length_cons, ih t]
  cases h with
  | @lst a xs ds' hs ha => cases e; exact ⟨a, xs, rfl, .inl hs, ha, len ha⟩
  | @tup a xs ds' hs ha => cases e; exact ⟨a, xs, rfl, .inr hs, ha, len ha⟩
  | _ => cases e
theorem kit_seq (d : PyData) : ∃ b1 b2, kitB (dty d) "list" = some b1 ∧ kitB (dty d) "tuple" = some b2 ∧ (b1 || b2) = (seqD d).isSome := by
  cases d <;> exact ⟨_, _, kit_list _, kit_tuple _, rfl⟩
theorem dqAll_at {K : PySem.W.Frag} {H : Hp} : ∀ {xs : List V} {ds : List PyData}, DqAll K H xs ds → ∀ {i : Nat} {x : V}, xs[i]? = some x → ∃ d, ds[i]? = some d ∧ Dq K H x d
  | _, _, .nil, _, _, e => by simp at e
  | _, _, .cons h t, 0, _, e => by simp at e; subst e; exact ⟨_, rfl, h⟩
  | _, _, .cons h t, i + 1, _, e => by
    obtain ⟨d, e1, e2⟩ := dqAll_at t (i := i) (by simpa using e)
    exact ⟨d, by simpa using e1, e2⟩
/-- what is raised: the class, its own dict with the one field -/
def Raised (C : Addr) (f : Str) (H : Hp) (v : V) (E : XK) : Prop := ∀ d H', Same H H' → H d = none → H' d = some (.xd [(f, v)]) → E (.ref C) (some d) H'
def spCheckPlaces (K : PySem.W.Frag) (C : Addr) : Sp := fun vs H Q E => ∃ (v : V) (d : PyData), vs = [v] ∧ Dq K H v d ∧ txtOk d ∧ ((placesOf d).isSome = true → ∀ H', Same H H' → Q .non H') ∧ (placesOf d = none → Raised C "value" H v E)
section
variable {P : Program} {w : World} {K : PySem.W.Frag} {mg : Str → Option Value} {base : Heap} {C : Addr}
abbrev sCheckPlaces : Stmt := top ix_check_places
theorem scCheckPlaces : FnScope ["places", "place"] ["places"] (defScope sCheckPlaces) := ⟨rfl, rfl, rfl, by decide +kernel, rfl, by decide +kernel, by decide +kernel⟩
theorem has_check_places (T : Bn mg) (M : Mc mg) (D : DFE K mg "_check_places" sCheckPlaces ["places"]) (h_is_name : Has P w K mg base CX0 1 "is_name" ["value"] (spIsName K)) (h_all_differ : Has P w K mg base CX0 1 "_all_differ" ["names"] (spAllDiffer K))
    (hE_BadPlaces : HasE P w K mg base 1 "BadPlaces" C "value") : HasR P w K mg base 3 "_check_places" ["places"] (spCheckPlaces K C) := by
  refine hasR_of D scCheckPlaces (fun vs H Q E h => ?_) (fun f cdv A outer s H vs Q E hr h => ?_)
  · obtain ⟨v, d, rfl, _⟩ := h; rfl
  · obtain ⟨v, d, rfl, hd, hx, ky, kn⟩ := h
    have nd := scCheckPlaces.nd
    refine ⟨_, (pss_cons (ps_if (PW.pt (pw_or (pt_not (pt_val (pe_callB call_isDT (by rfl) T.z_isinstance (by decide +kernel) (pa_cons (pv 0) (pa_cons (pe_tup (pa_cons (pe_bltn (v := .ty "list") rfl T.z_list (by decide +kernel) rfl) (pa_cons (pe_bltn (v := .ty "tuple") rfl T.z_tuple (by decide +kernel) rfl) pa_nil))) pa_nil))))) (pw_or1 (pt_not (pt_chain op_le op_le pe_int (pe_callB call_len_seq (by rfl) T.z_len (by decide +kernel) (pa_cons (pv 0) pa_nil)) (pe_gi rfl M.g_MOST_PLACES)))))) (pss_one (ps_raise rfl (takes_of rfl rfl rfl rfl) (pmk_x hE_BadPlaces hr (by decide) rfl (pv 0)))) pss_nil)
    (pss_one (ps_if (PW.pt (pw_or (pt_not (pt_val (pe_callB (cr_all rfl) (by rfl) T.z_all (by decide +kernel) (pa_cons (pe_lc (own := [("place", 1)]) (g := gName 1) (tt := tYes) rfl nd (pi_sq (pv 0)) (blkOk_by (own := [("place", 1)]) (N := ["places", "place"]) (sc := defScope sCheckPlaces) (by decide +kernel)) (fun _ _ _ _ _ => (pg_name (i := 1) nd rfl (by first | exact Or.inl rfl | exact Or.inr rfl))) (fun _ _ _ _ _ => pts_nil) (fun _ _ _ _ _ => (pe_h h_is_name hr (by decide) rfl (pa_cons (pv 1) pa_nil)))) pa_nil)))) (pw_or1 (pt_not (pt_val (pe_h h_all_differ hr (by decide) rfl (pa_cons (pv 0) pa_nil))))))) (pss_one (ps_raise rfl (takes_of rfl rfl rfl rfl) (pmk_x hE_BadPlaces hr (by decide) rfl (pv 0)))) pss_nil))), ?_⟩
    -- what is raised
    have bad : placesOf d = none → ∀ H1, Same H H1 → ∀ e, H1 e = none → E (.ref C) (some e) (upd H1 e (.xd [("value", v)])) := fun z H1 s1 e he =>
      kn z e _ (same_upd s1 (by cases q : H e with | none => rfl | some o => rw [s1 e o q] at he; cases he)) (by cases q : H e with | none => rfl | some o => rw [s1 e o q] at he; cases he) upd_same
    obtain ⟨b1, b2, k1, k2, kb⟩ := kit_seq d
    refine ⟨_, rfl, by show 2 ≤ sizeLine; decide, fun tp ntp => ?_⟩
    have u := same_new (o := .tup [.ty "list", .ty "tuple"]) ntp
    refine ⟨_, tp, d, "list", "tuple", b1, b2, rfl, upd_same, Dq.same u hd, k1, k2, _, rfl, ?_⟩
    generalize upd H tp _ = H1 at u ⊢
    rw [kb]
    cases e : seqD d with
    | none =>
      have z : placesOf d = none := by unfold placesOf; rw [e]
      refine iteT (iteT ⟨_, rfl, fun x hx => bad z _ u x hx⟩)
    | some ds =>
      obtain ⟨a, xs, rfl, hs, ha, hl⟩ := seq_of hd e
      obtain ⟨lx, tx⟩ := hx ds e
      have out : ¬ (1 ≤ ds.length ∧ ds.length ≤ 12) → placesOf d = none := fun z => by
        unfold placesOf
        rw [e]
        exact if_neg fun y => z y.1
      refine iteF ?_
      refine ⟨_, rfl, a, xs, rfl, hs.same u, _, _, rfl, rfl, _, rfl, ?_⟩
      refine ite2 (fun c1 => ?_) (fun c1 => ?_)
      · have c1 := of_decide_eq_true c1
        refine ⟨_, _, rfl, rfl, _, rfl, ?_⟩
        by_cases c2 : xs.length ≤ 12
        · rw [decide_eq_true (show ((xs.length : Nat) : Int) ≤ 12 by omega)]
          refine iteF ?_
          -- all names are names, then they differ
          refine ⟨_, rfl, a, xs, rfl, hs.same u, fun J G ex hG wk L nL => ?_⟩
          refine lc_it wk (fun i H2 => Same H1 H2 ∧ ∃ bs : List Bool, H2 L = some (.lst (bs.map V.bl)) ∧ bs = (ds.take i).map nameD) ⟨same_new nL, [], upd_same, rfl⟩ (fun i H2 _ p => hG H2 (.same p.1)) ?_ ?_
          · rintro i x H2 H3 hi ⟨sm, bs, hL, hb⟩ ⟨rfl, hxi⟩
            obtain ⟨dx, hdx, hqx⟩ := dqAll_at ha hxi
            have s2 := u.trans sm
            refine ⟨rfl, ⟨_, rfl, x, dx, rfl, Dq.same s2 hqx, fun z hz => tx z (hz ▸ List.mem_of_getElem? hdx), fun H4 s4 => ?_⟩⟩
            refine ⟨bs.map V.bl, s4 L _ hL, ?_, same_upd (sm.trans s4) nL, bs ++ [nameD dx], by rw [upd_same, List.map_append]; rfl, by rw [hb, List.take_succ, hdx]; simp⟩
            rw [List.length_map, hb, List.length_map, sizeLine_eq]
            have := List.length_take_le i ds
            have := (List.getElem?_eq_some_iff.mp hdx).1
            omega
          · rintro H2 ⟨sm, bs, hL, hb⟩
            refine ⟨L, bs, rfl, SqL.of hL, _, rfl, ?_⟩
            rw [hl, List.take_length] at hb
            rw [hb, List.all_map]
            have s2 := u.trans sm
            cases al : ds.all nameD with
            | false =>
              rw [show ds.all (id ∘ nameD) = ds.all nameD from rfl, al]
              refine iteT (iteT ⟨_, rfl, fun x hx => bad ?_ _ s2 x hx⟩)
              unfold placesOf
              rw [e]
              exact if_neg fun z => Bool.noConfusion (al.symm.trans z.2.1)
            | true =>
              rw [show ds.all (id ∘ nameD) = ds.all nameD from rfl, al]
              obtain ⟨ex, en⟩ := strs_of ha al
              refine iteF ?_
              subst ex
              refine ⟨_, rfl, a, strsD ds, rfl, hs.same s2, by omega, fun H3 s3 => ⟨fun c => ?_, fun c => ?_⟩⟩
              · refine ⟨_, rfl, iteF (ky ?_ _ (s2.trans s3))⟩
                unfold placesOf
                rw [e]
                show (if _ then _ else _ : Option (List Str)).isSome = true
                rw [if_pos ⟨⟨by omega, by omega⟩, al, c⟩]
                rfl
              · refine ⟨_, rfl, iteT ⟨_, rfl, fun x hx => bad ?_ _ (s2.trans s3) x hx⟩⟩
                unfold placesOf
                rw [e]
                exact if_neg fun z => c z.2.2
        · rw [decide_eq_false (show ¬ ((xs.length : Nat) : Int) ≤ 12 by omega)]
          exact iteT ⟨_, rfl, fun x hx => bad (out (by omega)) _ u x hx⟩
      · have c1 : ¬ (1 : Int) ≤ ((xs.length : Nat) : Int) := fun z => c1 (decide_eq_true z)
        refine ⟨_, rfl, iteT ⟨_, rfl, fun x hx => bad (out (by omega)) _ u x hx⟩⟩
end
end Pw

set_option Elab.async false
set_option linter.all false
set_option maxRecDepth 100000
set_option maxHeartbeats 4000000
namespace Pw
open PySem PySem.Spec PyProof.Rows L2 Ct
/-- ties that stand: tuples of two texts -/
abbrev TiesAt (K : PySem.W.Frag) (H : Hp) : List V → List (Str × Str) → Prop := Paired fun x p => ∃ a, x = .ref a ∧ TupS K H a p
theorem TiesAt.same {K : PySem.W.Frag} {H H' : Hp} (s : Same H H') : ∀ {xs : List V} {ps : List (Str × Str)}, TiesAt K H xs ps → TiesAt K H' xs ps
  | _, _, .nil => .nil
  | _, _, .cons ⟨a, e, h⟩ t => .cons ⟨a, e, same_t s h⟩ (TiesAt.same s t)
theorem ties_at {K : PySem.W.Frag} {H : Hp} : ∀ {xs : List V} {ps : List (Str × Str)}, TiesAt K H xs ps → ∀ {i : Nat} {x : V}, xs[i]? = some x → ∃ p a, ps[i]? = some p ∧ x = .ref a ∧ TupS K H a p
  | _, _, .nil, _, _, e => by simp at e
  | _, _, .cons ⟨a, e2, h⟩ t, 0, _, e => by simp at e; subst e; exact ⟨_, a, rfl, e2, h⟩
  | _, _, .cons _ t, i + 1, _, e => by
    obtain ⟨p, a, e1, e2⟩ := ties_at t (i := i) (by simpa using e)
    exact ⟨p, a, by simpa using e1, e2⟩
/-- a pair as a set's key -/
def keyQ (q : Str × Str) : List Key := [.inr q.1, .inr q.2]
theorem keyQ_inj {q r : Str × Str} (h : keyQ q = keyQ r) : q = r := by
  obtain ⟨a, b⟩ := q
  obtain ⟨c, d⟩ := r
  injection h with h1 h2
  injection h2 with h2 _
  have e1 : a = c := Sum.inr.inj h1
  have e2 : b = d := Sum.inr.inj h2
  rw [e1, e2]
def pairP (p : Str × Str) : Str × Str := pairS p.1 p.2
/-- the place of the first datum that is no further tie -/
def tieBad (ns : List Str) : List (Str × Str) → Nat → List PyData → Option Nat
  | _, _, [] => none
  | ps, i, d :: ds => match tieOf ns d with
    | none => some i
    | some p => if pairP p ∈ ps then some i else tieBad ns (pairP p :: ps) (i + 1) ds
/-- only the list's members count -/
theorem tieBad_mem (ns : List Str) : ∀ (ds : List PyData) (ps qs : List (Str × Str)) (i : Nat), (∀ k, k ∈ ps ↔ k ∈ qs) → tieBad ns ps i ds = tieBad ns qs i ds
  | [], _, _, _, _ => rfl
  | d :: ds, ps, qs, i, h => by
    unfold tieBad
    cases tieOf ns d with
    | none => rfl
    | some p =>
      by_cases c : pairP p ∈ ps
      · simp only [if_pos c, if_pos ((h _).mp c)]
      · simp only [if_neg c, if_neg (fun z => c ((h _).mpr z))]
        exact tieBad_mem ns ds _ _ _ fun k => by rw [List.mem_cons, List.mem_cons, h k]
/-- the set at D holds the pairs -/
def SetAt (P : Program) (w : World) (K : PySem.W.Frag) (H : Hp) (D : Addr) (ps : List (Str × Str)) (n : Nat) : Prop := ∃ L : List Mem, H D = some (KSetO P w D L) ∧ Mems K H L ∧ L.length ≤ n ∧ ∀ q, keyQ q ∈ L.map (·.2) ↔ q ∈ ps
theorem sqT_off {K : PySem.W.Frag} {H H' : Hp} {D c : Addr} {xs : List V} {φ : Heap → Prop} (h : SqT K H c xs) (hD : H D = some (.ext φ)) (o : ∀ c, c ≠ D → H' c = H c) : SqT K H' c xs := by
  rcases h with (h | ⟨ob, h⟩) | h
  · exact .inl (.inl (by rw [o c (ne_of h hD (by intro z; cases z))]; exact h))
  · exact .inl (.inr ⟨ob, by rw [o c (ne_of h hD (by intro z; cases z))]; exact h⟩)
  · exact .inr h
theorem set_add {P : Program} {w : World} {K : PySem.W.Frag} {H : Hp} {D b : Addr} {ps : List (Str × Str)} {n : Nat} {q : Str × Str} {Q : Hp → Prop} (S : SetAt P w K H D ps n) (hb : TupS K H b q) (hn : n + 1 < 77)
    (k : ∀ H', (∀ c, c ≠ D → H' c = H c) → SetAt P w K H' D (q :: ps) (n + 1) → Q H') : rKAdd K P w D b H Q := by
  obtain ⟨L, hD, hm, hl, hq⟩ := S
  refine kadd_in (k := keyQ q) hD hm hb (by omega) fun L' H' hD' o hj hp hl' => k H' o ⟨L', hD', fun p hpm => ?_, by omega, fun r => ?_⟩
  · rcases hp p hpm with rfl | hp
    · exact sqT_off hb hD o
    · exact sqT_off (hm p hp) hD o
  · rw [hj, List.mem_cons, hq]
    exact ⟨fun z => z.elim (fun e => .inl (keyQ_inj e)) .inr, fun z => z.elim (fun e => .inl (congrArg keyQ e)) .inr⟩
theorem set_in {P : Program} {w : World} {K : PySem.W.Frag} {H : Hp} {D b : Addr} {ps : List (Str × Str)} {n : Nat} {q : Str × Str} {Q : VK} (S : SetAt P w K H D ps n) (hb : TupS K H b q) (h1 : q ∈ ps → Q (.bl true) H) (h2 : q ∉ ps → Q (.bl false) H) : rKIn K P w (.ref b) (.ref D) H Q := by
  obtain ⟨L, hD, hm, hl, hq⟩ := S
  exact ⟨D, b, L, keyQ q, rfl, rfl, hD, hm, hb, fun z => h1 ((hq q).mp z), fun z => h2 fun y => z ((hq q).mpr y)⟩
theorem tie_tup {K : PySem.W.Frag} {H : Hp} {ns : List Str} {v : V} {d : PyData} {p : Str × Str} (h : Dq K H v d) (e : tieOf ns d = some p) : ∃ b, v = .ref b ∧ TupS K H b p := by
  cases h with
  | @tup b xs ds hs ha =>
    cases ha with
    | nil => cases e
    | @cons x1 xs1 d1 ds1 h1 ha =>
      cases ha with
      | nil => cases e
      | @cons x2 xs2 d2 ds2 h2 ha =>
        cases ha with
        | cons h3 ha => cases e
        | nil =>
          cases d1 with
          | str x =>
            cases d2 with
            | str y =>
              cases h1
              cases h2
              have e : (if x ∈ ns ∧ y ∈ ns ∧ x ≠ y then some (x, y) else none) = some p := e
              by_cases c : x ∈ ns ∧ y ∈ ns ∧ x ≠ y
              · rw [if_pos c] at e
                cases e
                exact ⟨b, rfl, hs⟩
              · rw [if_neg c] at e
                cases e
            | _ => cases e
          | _ => cases e
  | _ => cases e
theorem SetAt.mem {P : Program} {w : World} {K : PySem.W.Frag} {H : Hp} {D : Addr} {ps qs : List (Str × Str)} {n : Nat} (h : ∀ q, q ∈ ps ↔ q ∈ qs) : SetAt P w K H D ps n → SetAt P w K H D qs n
  | ⟨L, hD, hm, hl, hq⟩ => ⟨L, hD, hm, hl, fun q => (hq q).trans (h q)⟩
theorem SetAt.same {P : Program} {w : World} {K : PySem.W.Frag} {H H' : Hp} {D : Addr} {ps : List (Str × Str)} {n : Nat} (s : Same H H') : SetAt P w K H D ps n → SetAt P w K H' D ps n
  | ⟨L, hD, hm, hl, hq⟩ => ⟨L, s _ _ hD, fun p hp => same_t s (hm p hp), hl, hq⟩
def spCheckTies (K : PySem.W.Frag) (CS CT : Addr) : Sp := fun vs H Q E => ∃ (a kt : Addr) (ns : List Str) (xs : List V) (ks : List (Str × Str)) (v : V) (d : PyData), vs = [.ref a, .ref kt, v] ∧ Nms K H a ns ∧ SqS K H kt xs ∧ TiesAt K H xs ks ∧ Dq K H v d ∧
  (seqD d = none → Raised CS "value" H v E) ∧ ∀ ds, seqD d = some ds → (∀ e ∈ ds, plainTie e) ∧ ks.length + ds.length ≤ 75 ∧ (tieBad ns (ks.map pairP) 0 ds = none → ∀ H', Same H H' → Q .non H') ∧ (∀ i, tieBad ns (ks.map pairP) 0 ds = some i → Raised CT "position" H (.int i) E)
section
variable {P : Program} {w : World} {K : PySem.W.Frag} {mg : Str → Option Value} {base : Heap} {CS CT : Addr}
abbrev sCheckTies : Stmt := top ix_check_ties
theorem scCheckTies : FnScope ["places", "known", "ties", "pairs", "tie", "position", "entry"] ["places", "known", "ties"] (defScope sCheckTies) := ⟨rfl, rfl, rfl, by decide +kernel, rfl, by decide +kernel, by decide +kernel⟩
theorem has_check_ties (T : Bn mg) (D : DFE K mg "_check_ties" sCheckTies ["places", "known", "ties"]) (h_is_tie : Has P w K mg base CX0 1 "_is_tie" ["places", "value"] (spIsTie K)) (h_pair : Has P w K mg base CX0 1 "_pair" ["tie"] (spPair K))
    (hE_BadTies : HasE P w K mg base 1 "BadTies" CS "value") (hE_BadTie : HasE P w K mg base 1 "BadTie" CT "position") : HasR P w K mg base 3 "_check_ties" ["places", "known", "ties"] (spCheckTies K CS CT) := by
  refine hasR_of D scCheckTies (fun vs H Q E h => ?_) (fun f cdv A outer s H vs Q E hr h => ?_)
  · obtain ⟨a, kt, ns, xs, ks, v, d, rfl, _⟩ := h; rfl
  · obtain ⟨a, kt, ns, xs, ks, v, d, rfl, ha, hk, hks, hd, kn, ky⟩ := h
    have nd := scCheckTies.nd
    refine ⟨_, (pss_cons (ps_if (pt_not (pt_val (pe_callB call_isDT (by rfl) T.z_isinstance (by decide +kernel) (pa_cons (pv 2) (pa_cons (pe_tup (pa_cons (pe_bltn (v := .ty "list") rfl T.z_list (by decide +kernel) rfl) (pa_cons (pe_bltn (v := .ty "tuple") rfl T.z_tuple (by decide +kernel) rfl) pa_nil))) pa_nil))))) (pss_one (ps_raise rfl (takes_of rfl rfl rfl rfl) (pmk_x hE_BadTies hr (by decide) rfl (pv 2)))) pss_nil)
    (pss_cons (ps_setKsc (i := 3) (own := [("tie", 4)]) (g := gName 4) hr.units rfl nd rfl rfl (sw_setc rfl rfl rfl (by decide +kernel)) (pi_sq (pv 1)) (blkOk_by (own := [("tie", 4)]) (N := ["places", "known", "ties", "pairs", "tie", "position", "entry"]) (sc := defScope sCheckTies) (by decide +kernel)) (fun _ _ _ _ _ => (pg_name (i := 4) nd rfl (by first | exact Or.inl rfl | exact Or.inr rfl))) (fun _ _ _ _ _ => (pe_h h_pair hr (by decide) rfl (pa_cons (pv 4) pa_nil))))
    (pss_one (ps_for (passes_of rfl) rfl (pi_enumQ rfl T.z_enumerate (pa_cons (pv 2) pa_nil)) (pg_tup rfl (pgs_cons (pg_name (i := 5) nd rfl (by first | exact Or.inl rfl | exact Or.inr rfl)) (pgs_cons (pg_name (i := 6) nd rfl (by first | exact Or.inl rfl | exact Or.inr rfl)) pgs_nil))) (pss_cons (ps_if (PW.pt (pw_or (pt_not (pt_val (pe_h h_is_tie hr (by decide) rfl (pa_cons (pv 0) (pa_cons (pv 6) pa_nil))))) (pw_or1 (pt_cmpR (or_kin hr.units) (pe_h h_pair hr (by decide) rfl (pa_cons (pv 6) pa_nil)) (pv 3) (by first | exact nomark _ | rfl))))) (pss_one (ps_raise rfl (takes_of rfl rfl rfl rfl) (pmk_x hE_BadTie hr (by decide) rfl (pv 5)))) pss_nil)
    (pss_one (ps_expr (pe_kadd hr.units (pv 3) (pe_h h_pair hr (by decide) rfl (pa_cons (pv 6) pa_nil)))))))))), ?_⟩
    obtain ⟨b1, b2, k1, k2, kb⟩ := kit_seq d
    refine ⟨_, rfl, by show 2 ≤ sizeLine; decide, fun tp ntp => ?_⟩
    have u := same_new (o := .tup [.ty "list", .ty "tuple"]) ntp
    refine ⟨_, tp, d, "list", "tuple", b1, b2, rfl, upd_same, Dq.same u hd, k1, k2, _, rfl, ?_⟩
    generalize upd H tp _ = H1 at u ⊢
    have nn : ∀ {H2 : Hp}, Same H H2 → ∀ {e : Addr}, H2 e = none → H e = none := fun {H2} s2 {e} he => by
      cases q : H e with
      | none => rfl
      | some o => rw [s2 e o q] at he; cases he
    rw [kb]
    cases e : seqD d with
    | none => exact iteT ⟨_, rfl, fun x hx => kn e x _ (same_upd u (nn u hx)) (nn u hx) upd_same⟩
    | some ds =>
      obtain ⟨pl, few, ky1, ky2⟩ := ky ds e
      obtain ⟨va, vx, rfl, hv, hda, hlv⟩ := seq_of hd e
      refine iteF ?_
      -- the known pairs
      refine ⟨_, rfl, kt, xs, rfl, hk.same u, fun J G ex hG wk D nD => ?_⟩
      have xl : xs.length = ks.length := Paired.length hks
      refine ksc_it wk (fun i H2 => Same H1 H2 ∧ SetAt P w K H2 D ((ks.take i).map pairP) i) ⟨same_new nD, [], upd_same, (fun p hp => by cases hp), Nat.zero_le _, fun q => by simp⟩ (fun i H2 _ p => hG H2 (.same p.1)) ?_ ?_
      · rintro i x H2 H3 hi ⟨sm, S⟩ ⟨rfl, hxi⟩
        obtain ⟨p, b, hp, rfl, hb⟩ := ties_at (hks.same (u.trans sm)) hxi
        refine ⟨rfl, _, rfl, b, p.1, p.2, rfl, hb, fun c hc => ⟨c, rfl, ?_⟩⟩
        have s3 := same_new (o := .tup [.str (pairS p.1 p.2).1, .str (pairS p.1 p.2).2]) hc
        refine set_add (q := pairP p) (S.same s3) (SqT.of upd_same) (by omega) fun H4 o S4 => ⟨?_, ?_⟩
        · exact fun y o2 ey => by
            rw [o y (ne_of_none ey nD)]
            exact s3 _ _ (sm _ _ ey)
        · refine S4.mem fun q => ?_
          rw [List.take_succ, hp, List.map_append, List.mem_append, List.mem_cons]
          simp [or_comm]
      · rintro H2 ⟨sm, S⟩
        rw [xl, List.take_length] at S
        have s2 := u.trans sm
        refine ⟨_, rfl, va, vx, rfl, hv.same s2, fun J2 G2 ex2 hG2 wk2 => ?_⟩
        refine for_it wk2 (fun i σ H3 => Same H H3 ∧ (∃ p q, σ = [some (.ref a), some (.ref kt), some (.ref va), some (.ref D), none, p, q]) ∧ ∃ ps, SetAt P w K H3 D ps (ks.length + i) ∧ tieBad ns (ks.map pairP) 0 ds = tieBad ns ps i (ds.drop i)) ?_ ?_ ?_ ?_
        · exact ⟨s2, ⟨_, _, rfl⟩, _, S, rfl⟩
        · exact fun i σ3 H3 _ p => hG2 H3 (.of hv s2 p.1 ex2)
        · rintro i x σ3 H3 H4 hi ⟨s3, ⟨p, q, rfl⟩, ps, S3, eb⟩ ⟨T, x1, x2, rfl, hT, rfl, ex1, ex2⟩
          cases ex1
          obtain ⟨dx, hdx, hqx⟩ := dqAll_at hda ex2
          have ed : ds.drop i = dx :: ds.drop (i + 1) := by
            obtain ⟨hi', e'⟩ := List.getElem?_eq_some_iff.mp hdx
            rw [← e']
            exact List.drop_eq_getElem_cons hi'
          have s4 := same_upd (o := .tup [.int (i : Nat), x2]) s3 (nn s3 hT)
          have S4 := S3.same (same_new (o := .tup [.int (i : Nat), x2]) hT)
          have hup : upd H3 T (.tup [.int (i : Nat), x2]) T = some (.tup [.int (i : Nat), x2]) := upd_same
          generalize upd H3 T (.tup [.int (i : Nat), x2]) = H4 at s4 S4 hup ⊢
          refine ⟨T, _, rfl, SqT.of hup, rfl, _, _, rfl, _, _, rfl, rfl, ?_⟩
          refine ⟨_, rfl, _, rfl, a, ns, x2, dx, rfl, ha.same s4, Dq.same s4 hqx, pl dx (List.mem_of_getElem? hdx), _, rfl, ?_⟩
          have bad : tieBad ns (ks.map pairP) 0 ds = some i → ∀ H5, Same H H5 → ∀ e, H5 e = none → E (.ref CT) (some e) (upd H5 e (.xd [("position", .int i)])) := fun z H5 s5 e he => ky2 i z e _ (same_upd s5 (nn s5 he)) (nn s5 he) upd_same
          cases et : tieOf ns dx with
          | none =>
            refine iteT (iteT ⟨_, rfl, fun x hx => bad ?_ _ s4 x hx⟩)
            rw [eb, ed, tieBad, et]
          | some pp =>
            obtain ⟨b, rfl, hb⟩ := tie_tup (Dq.same s4 hqx) et
            refine iteF ?_
            refine ⟨_, rfl, b, pp.1, pp.2, rfl, hb, fun c hc => ?_⟩
            have s5 := same_new (o := .tup [.str (pairS pp.1 pp.2).1, .str (pairS pp.1 pp.2).2]) hc
            have hcu : TupS K (upd H4 c (.tup [.str (pairS pp.1 pp.2).1, .str (pairS pp.1 pp.2).2])) c (pairP pp) := SqT.of upd_same
            generalize upd H4 c (.tup [.str (pairS pp.1 pp.2).1, .str (pairS pp.1 pp.2).2]) = H5 at s5 hcu ⊢
            refine ⟨_, rfl, set_in (S4.same s5) hcu (fun c1 => ?_) (fun c1 => ?_)⟩
            · refine ⟨_, rfl, iteT ⟨_, rfl, fun x hx => bad ?_ _ (s4.trans s5) x hx⟩⟩
              rw [eb, ed, tieBad, et]
              exact if_pos c1
            · refine ⟨_, rfl, iteF ?_⟩
              have S5 := S4.same s5
              obtain ⟨L5, hD5, _⟩ := id S5
              refine ⟨_, rfl, ⟨D, L5, rfl, hD5⟩, _, rfl, b, pp.1, pp.2, rfl, same_t s5 hb, fun c2 hc2 => ⟨D, c2, rfl, rfl, ?_⟩⟩
              have s6 := same_new (o := .tup [.str (pairS pp.1 pp.2).1, .str (pairS pp.1 pp.2).2]) hc2
              refine set_add (q := pairP pp) (S5.same s6) (SqT.of upd_same) (by omega) fun H6 o S6 => ⟨?_, ⟨_, _, rfl⟩, _, S6, ?_⟩
              · intro y o2 ey
                have nD' : H D = none := nn u nD
                rw [o y (ne_of_none ey nD')]
                exact s6 _ _ (s5 _ _ (s4 _ _ ey))
              · rw [eb, ed, tieBad, et]
                exact if_neg c1
        · rintro σ3 H3 ⟨s3, _, ps, S3, eb⟩
          rw [hlv, List.drop_length] at eb
          exact ky1 eb H3 s3
end
end Pw

set_option Elab.async false
set_option linter.all false
set_option maxRecDepth 100000
set_option maxHeartbeats 4000000
namespace Pw
open PySem PySem.Spec PyProof.Rows L2 Ct
local macro_rules | `(tactic| wide_line) => `(tactic| repeat ((fail_if_success (with_reducible refine at_while ?_)); (fail_if_success (with_reducible refine at_while1 ?_)); (conv => whnf); first | ((with_reducible refine And.intro ?_ ?_); focus (first | (first | ((with_reducible show (_ : Nat) ≤ _); first | exact sz0 | exact sz1 | exact sz2 | exact sz3 | exact sz4 | exact sz5 | exact sz6 | exact sz7 | exact sz8 | exact sz10 | exact sz11 | exact sz12 | exact sz14 | omega | decide | (simp only [List.length_cons, List.length_nil]; omega)) | ((with_reducible show (_ : Int) ≤ _); first | omega | decide) | ((with_reducible show (_ : Int) < _); first | omega | decide) | ((with_reducible show (_ : Nat) < _); omega)) | ((fail_if_success (with_reducible show (_ : Nat) ≤ _)); (fail_if_success (with_reducible show (_ : Int) ≤ _)); (fail_if_success (with_reducible show (_ : Int) < _)); (fail_if_success (with_reducible show (_ : Nat) < _)); first | exact kv_str _ | exact kv_int _ | rfl | assumption | exact flat_strs _ | exact Lv.get (by assumption) 0 rfl | exact Lv.get (by assumption) 1 rfl | exact Lv.get (by assumption) 2 rfl | exact Lv.get (by assumption) 3 rfl | exact Lv.get (by assumption) 4 rfl | exact Lv.get (by assumption) 5 rfl | exact Lv.get (by assumption) 6 rfl | exact SqL.of (Lv.get (by assumption) 0 rfl) | exact SqL.of (Lv.get (by assumption) 1 rfl) | exact SqL.of (Lv.get (by assumption) 2 rfl) | exact SqL.of (Lv.get (by assumption) 3 rfl) | exact SqL.of (Lv.get (by assumption) 4 rfl) | exact SqL.of (Lv.get (by assumption) 5 rfl) | exact Or.inl (SqL.of (Lv.get (by assumption) 0 rfl)) | exact Or.inl (SqL.of (Lv.get (by assumption) 1 rfl)) | exact Or.inl (SqL.of (Lv.get (by assumption) 2 rfl)) | exact Or.inl (SqL.of (Lv.get (by assumption) 3 rfl)) | exact Or.inl (SqL.of (Lv.get (by assumption) 4 rfl)) | exact Or.inl (SqL.of (Lv.get (by assumption) 5 rfl)) | exact ⟨_, SqL.of (Lv.get (by assumption) 0 rfl)⟩ | exact ⟨_, SqL.of (Lv.get (by assumption) 1 rfl)⟩ | exact ⟨_, SqL.of (Lv.get (by assumption) 2 rfl)⟩ | exact ⟨_, SqL.of (Lv.get (by assumption) 3 rfl)⟩ | exact ⟨_, SqL.of (Lv.get (by assumption) 4 rfl)⟩ | exact ⟨_, SqL.of (Lv.get (by assumption) 5 rfl)⟩ | exact Or.inl ⟨_, SqL.of (Lv.get (by assumption) 0 rfl), rfl⟩ | exact Or.inl ⟨_, SqL.of (Lv.get (by assumption) 1 rfl), rfl⟩ | exact Or.inl ⟨_, SqL.of (Lv.get (by assumption) 2 rfl), rfl⟩ | exact Or.inl ⟨_, SqL.of (Lv.get (by assumption) 3 rfl), rfl⟩ | exact Or.inl ⟨_, SqL.of (Lv.get (by assumption) 4 rfl), rfl⟩ | exact Or.inl ⟨_, SqL.of (Lv.get (by assumption) 5 rfl), rfl⟩ | exact Or.inl ⟨rfl, _, SqL.of (Lv.get (by assumption) 0 rfl)⟩ | exact Or.inl ⟨rfl, _, SqL.of (Lv.get (by assumption) 1 rfl)⟩ | exact Or.inl ⟨rfl, _, SqL.of (Lv.get (by assumption) 2 rfl)⟩ | exact Or.inl ⟨rfl, _, SqL.of (Lv.get (by assumption) 3 rfl)⟩ | exact Or.inl ⟨rfl, _, SqL.of (Lv.get (by assumption) 4 rfl)⟩ | exact Or.inl ⟨rfl, _, SqL.of (Lv.get (by assumption) 5 rfl)⟩ | exact Or.inr (SqT.of (Lv.get (by assumption) 0 rfl)) | exact Or.inr (SqT.of (Lv.get (by assumption) 1 rfl)) | exact Or.inr (SqT.of (Lv.get (by assumption) 2 rfl)) | exact Or.inr (SqT.of (Lv.get (by assumption) 3 rfl)) | exact SqT.of (Lv.get (by assumption) 0 rfl) | exact SqT.of (Lv.get (by assumption) 1 rfl) | exact SqT.of (Lv.get (by assumption) 2 rfl) | exact dgetN (Lv.get (by assumption) 0 rfl) (by assumption) | exact dgetN (Lv.get (by assumption) 1 rfl) (by assumption) | exact dgetN (Lv.get (by assumption) 2 rfl) (by assumption) | exact dgetN (Lv.get (by assumption) 3 rfl) (by assumption) | exact dgetN (Lv.get (by assumption) 4 rfl) (by assumption) | decide | ((with_reducible show _ ∧ _); omega)))) | ((fail_if_success (with_reducible apply @Exists.intro (Nat → _))); (with_reducible apply Exists.intro))))
local macro_rules
  | `(tactic| wide_line with al $lv:ident $l:ident $nl:ident $H:ident $lv1:ident $s1:ident) => `(tactic| (intro $l:ident $nl:ident; generalize he : upd _ _ _ = $H:ident; have $lv1:ident := Lv.alE $lv $nl he; have $s1:ident := sameE $nl he; clear he; (try dsimp only at $lv1:ident)))
  | `(tactic| wide_line with alx $lv:ident $nl:ident $H:ident $lv1:ident $s1:ident) => `(tactic| (generalize he : upd _ _ _ = $H:ident; have $lv1:ident := Lv.alE $lv $nl he; have $s1:ident := sameE $nl he; clear he; (try dsimp only at $lv1:ident)))
  | `(tactic| wide_line with sts $lv:ident $i:num $H:ident $lv1:ident $s0:ident $np:ident $s1:ident) => `(tactic| (generalize he : upd _ _ _ = $H:ident; have $lv1:ident := Lv.stE $lv $i rfl he; have $s1:ident := sameN $s0 $np he; clear he; (try dsimp only at $lv1:ident)))
  | `(tactic| wide_line with st $lv:ident $i:num $H:ident $lv1:ident) => `(tactic| (generalize he : upd _ _ _ = $H:ident; have $lv1:ident := Lv.stE $lv $i rfl he; clear he; (try dsimp only at $lv1:ident)))
  | `(tactic| wide_line with stk $lv:ident $i:num $H:ident $lv1:ident $k1:ident) => `(tactic| (generalize he : upd _ _ _ = $H:ident; have $lv1:ident := Lv.stE $lv $i rfl he; have $k1:ident := KeepT.st (Lv.get $lv $i rfl) he; clear he; (try dsimp only at $lv1:ident)))
/-- bits_of(n): a new list of the positions -/
def spBitsOf : Sp := fun vs H Q _ => ∃ N : Nat, vs = [.int (N : Nat)] ∧ N < 2 ^ 200 ∧ ∀ l H', Same H H' → H l = none → H' l = some (.lst ((bitsL N).map natV)) → Q (.ref l) H'
/-- the names at the bits of a number -/
def pickN (ns : List Str) (N : Nat) : List Str := (bitsL N).filterMap fun i => ns[i]?
/-- web.named(n): a new list of the names at the bits; the web may be half made -/
def spNamed (K : PySem.W.Frag) (C : Addr) : Sp := fun vs H Q _ => ∃ (x dx tp : Addr) (N : Nat) (fs : List (Str × V)) (ns : List Str), vs = [.ref x, .int (N : Nat)] ∧ H x = some (.ins C dx fs) ∧ fs.lookup ("_places" : Str) = some (V.ref tp) ∧ SqT K H tp (ns.map V.str) ∧ N < 2 ^ ns.length ∧ ns.length ≤ 100 ∧
  ∀ l H', Same H H' → H l = none → H' l = some (.lst ((pickN ns N).map V.str)) → Q (.ref l) H'
section
variable {P : Program} {w : World} {K : PySem.W.Frag} {mg : Str → Option Value} {base : Heap} {C fa : Addr} {fd : FuncData}
abbrev sBitsOf : Stmt := top ix_bits_of
theorem scBitsOf : FnScope ["number", "at"] ["number"] (defScope sBitsOf) := ⟨rfl, rfl, rfl, by decide +kernel, rfl, by decide +kernel, by decide +kernel⟩
theorem has_bits_of (T : Bn mg) (D : DFE K mg "bits_of" sBitsOf ["number"]) : Has P w K mg base CX0 1 "bits_of" ["number"] spBitsOf := by
  refine has_of D scBitsOf (fun vs H Q E h => ?_) (fun f cdv A outer s H vs Q E hr h => ?_)
  · obtain ⟨N, rfl, _⟩ := h; rfl
  · obtain ⟨N, rfl, hN, k⟩ := h
    have nd := scBitsOf.nd
    refine ⟨_, (pss_one (ps_ret (pe_lc (own := [("at", 1)]) (g := gName 1) rfl nd (pi_range1 rfl T.z_range (pa_cons (pe_bits (pv 0)) pa_nil)) (blkOk_by (own := [("at", 1)]) (N := ["number", "at"]) (sc := defScope sBitsOf) (by decide +kernel)) (fun _ _ _ _ _ => (pg_name (i := 1) nd rfl (by first | exact Or.inl rfl | exact Or.inr rfl))) (fun _ _ _ _ _ => (pts_one (pt_truthk (K := K) rfl (pe_op op_andB (pe_op op_shrB (pv 0) (pv 1)) pe_int) (by intro _; rfl)))) (fun _ _ _ _ _ => (pv 1))))), ?_⟩
    have lv := Lv.zero H
    have hb : Builtin.Int.intBits (N : Int) ≤ 200 := intBits_le_iff.mpr (by simpa using hN)
    wide_line
    intro D nD
    refine lc_range (fun j H' => Hold (Lv H [] H' [(D, .lst (((List.range j).filter N.testBit).map natV))])) ⟨lv.al nD⟩ ?_ ?_
    · rintro j H1 hj ⟨lv1⟩
      rw [Int.zero_add]
      wide_line
      have e : ((((N / 2 ^ j &&& 1 : Nat) : Int)) != 0) = N.testBit j := by
        rw [Nat.and_one_is_mod, Bool.eq_iff_iff, ← odd_test, bne_iff_ne]
        omega
      rw [e]
      have st : (List.range (j + 1)).filter N.testBit = (List.range j).filter N.testBit ++ (if N.testBit j = true then [j] else []) := by
        rw [List.range_succ, List.filter_append]
        congr 1
        cases e2 : N.testBit j <;> simp [List.filter, e2]
      refine ite2 (fun c => ?_) (fun c => ?_)
      · wide_line
        refine ⟨?_, ?_⟩
        · have := List.length_filter_le N.testBit (List.range j)
          rw [List.length_map, sizeLine_eq]
          rw [List.length_range] at this
          rw [Int.toNat_natCast] at hj
          omega
        · wide_line with st lv1 0 H2 lv2
          refine ⟨lv2.re ?_⟩
          rw [st, if_pos c, List.map_append]
          rfl
      · refine ⟨lv1.re ?_⟩
        rw [st, if_neg c, List.append_nil]
    · rintro H1 ⟨lv1⟩
      wide_line
      rw [Int.toNat_natCast] at lv1
      exact k D H1 lv1.sm nD (lv1.get 0 rfl)
abbrev sNamed : Stmt := inClass (top ix_Web) mx_Web_named
theorem scNamed : FnScope ["self", "number", "at"] ["self", "number"] (defScope sNamed) := ⟨rfl, rfl, rfl, by decide +kernel, rfl, by decide +kernel, by decide +kernel⟩
theorem ok_named (W : Cls K C) (n1 : NoAttr K C "_places") (F : Fun K "named" "Web.named" sNamed fa fd) (h_bits_of : Has P w K mg base CX0 1 "bits_of" ["number"] spBitsOf) : FnOk P w K mg base CX0 2 fa fd ["self", "number"] (spNamed K C) := by
  refine F.ok scNamed (fun vs H Q E h => ?_) (fun cdv A outer s H vs Q E hr h => ?_)
  · obtain ⟨x, dx, tp, N, fs, ns, rfl, _⟩ := h; rfl
  · obtain ⟨x, dx, tp, N, fs, ns, rfl, hx, hp, htp, hN, hl, k⟩ := h
    have nd := scNamed.nd
    refine ⟨_, (pss_one (ps_ret (pe_lc (own := [("at", 2)]) (g := gName 2) (tt := tYes) rfl nd (pi_list (pe_h h_bits_of hr (by decide) rfl (pa_cons (pv 1) pa_nil))) (blkOk_by (own := [("at", 2)]) (N := ["self", "number", "at"]) (sc := defScope sNamed) (by decide +kernel)) (fun _ _ _ _ _ => (pg_name (i := 2) nd rfl (by first | exact Or.inl rfl | exact Or.inr rfl))) (fun _ _ _ _ _ => pts_nil) (fun _ _ _ _ _ => (pe_ix (ix_tupk (K := K) rfl) (pe_fldk (K := K) rfl (pv 0) rfl) (pv 2) (fun _ _ => rfl)))))), ?_⟩
    have lv := Lv.zero H
    wide_line
    refine ⟨Nat.lt_of_lt_of_le hN (Nat.pow_le_pow_right (by decide) (by omega)), fun l H1 s1 nl hl1 => ?_⟩
    have lv1 := lv.al' s1 nl hl1
    wide_line
    intro D nD
    have lvD := lv1.al (o := .lst []) nD
    have bl : bitsL N = (List.range ns.length).filter N.testBit := bitsL_of hN
    refine lc_list (K := K) (a := l) (xs := (bitsL N).map natV) (fun j H' => Hold (Lv H [] H' [(D, .lst ((((bitsL N).take j).filterMap fun i => ns[i]?).map V.str)), (l, .lst ((bitsL N).map natV))])) ⟨lvD⟩ (fun j H' _ z => SqL.of (z.out.get 1 rfl)) ?_ ?_
    · rintro j y H2 hy ⟨lv2⟩
      obtain ⟨i, hi, rfl⟩ : ∃ i, (bitsL N)[j]? = some i ∧ y = natV i := by
        rw [List.getElem?_map] at hy
        cases e : (bitsL N)[j]? with
        | none => rw [e] at hy; cases hy
        | some i => rw [e] at hy; exact ⟨i, rfl, (Option.some.inj hy).symm⟩
      have il : i < ns.length := by
        have := List.mem_of_getElem? hi
        rw [bl] at this
        exact List.mem_range.mp (List.mem_filter.mp this).1
      have i1 : ns[i]? = some ns[i] := List.getElem?_eq_getElem il
      have hx2 := lv2.sm _ _ hx
      have htp2 : SqT K H2 tp (ns.map V.str) := same_t lv2.sm htp
      have a1 : atI (ns.map V.str) ((i : Nat) : Int) = some (V.str ns[i]) := atI_nat (by rw [List.getElem?_map, i1]; rfl)
      have tk : (bitsL N).take (j + 1) = (bitsL N).take j ++ [i] := by rw [List.take_succ, hi]; rfl
      wide_line
      refine ⟨?_, ?_⟩
      · have h1 := List.length_filterMap_le (fun i => ns[i]?) ((bitsL N).take j)
        have h2 := List.length_take_le j (bitsL N)
        have h3 := (List.getElem?_eq_some_iff.mp hi).1
        have h4 := List.length_filter_le N.testBit (List.range ns.length)
        rw [← bl, List.length_range] at h4
        rw [List.length_map, sizeLine_eq]
        omega
      · wide_line with st lv2 0 H3 lv3
        refine ⟨lv3.re ?_⟩
        rw [tk, List.filterMap_append, List.map_append]
        simp [i1]
    · rintro H2 ⟨lv2⟩
      wide_line
      rw [List.length_map, List.take_length] at lv2
      exact k D H2 lv2.sm (lv1.free nD) (lv2.get 0 rfl)
/-- whose bits are those of a test are the names that pass it -/
theorem pickN_filter {ns : List Str} {N : Nat} {g : Str → Bool} (hN : N < 2 ^ ns.length) (h : ∀ i x, ns[i]? = some x → N.testBit i = g x) : pickN ns N = ns.filter g := by
  have key : ∀ (k : Nat), k ≤ ns.length → ((List.range k).filter N.testBit).filterMap (fun i => ns[i]?) = (ns.take k).filter g := by
    intro k
    induction k with
    | zero => intro _; rfl
    | succ k ih =>
      intro hk
      have i1 : ns[k]? = some ns[k] := List.getElem?_eq_getElem hk
      rw [List.range_succ, List.filter_append, List.filterMap_append, ih (Nat.le_of_lt hk), List.take_succ, i1, List.filter_append]
      congr 1
      have := h k _ i1
      cases e : N.testBit k <;> rw [e] at this <;> simp [List.filter, e, ← this, i1]
  unfold pickN
  rw [bitsL_of hN, key ns.length (Nat.le_refl _), List.take_length]
end
end Pw

set_option Elab.async false
set_option linter.all false
set_option maxRecDepth 100000
set_option maxHeartbeats 4000000
namespace Pw
open PySem PySem.Spec PyProof.Rows L2 Ct
local macro_rules | `(tactic| wide_line) => `(tactic| repeat ((fail_if_success (with_reducible refine at_while ?_)); (fail_if_success (with_reducible refine at_while1 ?_)); (conv => whnf); first | ((with_reducible refine And.intro ?_ ?_); focus (first | (first | ((with_reducible show (_ : Nat) ≤ _); first | exact sz0 | exact sz1 | exact sz2 | exact sz3 | exact sz4 | exact sz5 | exact sz6 | exact sz7 | exact sz8 | exact sz10 | exact sz11 | exact sz12 | exact sz14 | omega | decide | (simp only [List.length_cons, List.length_nil]; omega)) | ((with_reducible show (_ : Int) ≤ _); first | omega | decide) | ((with_reducible show (_ : Int) < _); first | omega | decide) | ((with_reducible show (_ : Nat) < _); omega)) | ((fail_if_success (with_reducible show (_ : Nat) ≤ _)); (fail_if_success (with_reducible show (_ : Int) ≤ _)); (fail_if_success (with_reducible show (_ : Int) < _)); (fail_if_success (with_reducible show (_ : Nat) < _)); first | exact kv_str _ | exact kv_int _ | rfl | assumption | exact flat_strs _ | exact Lv.get (by assumption) 0 rfl | exact Lv.get (by assumption) 1 rfl | exact Lv.get (by assumption) 2 rfl | exact Lv.get (by assumption) 3 rfl | exact Lv.get (by assumption) 4 rfl | exact Lv.get (by assumption) 5 rfl | exact Lv.get (by assumption) 6 rfl | exact SqL.of (Lv.get (by assumption) 0 rfl) | exact SqL.of (Lv.get (by assumption) 1 rfl) | exact SqL.of (Lv.get (by assumption) 2 rfl) | exact SqL.of (Lv.get (by assumption) 3 rfl) | exact SqL.of (Lv.get (by assumption) 4 rfl) | exact SqL.of (Lv.get (by assumption) 5 rfl) | exact Or.inl (SqL.of (Lv.get (by assumption) 0 rfl)) | exact Or.inl (SqL.of (Lv.get (by assumption) 1 rfl)) | exact Or.inl (SqL.of (Lv.get (by assumption) 2 rfl)) | exact Or.inl (SqL.of (Lv.get (by assumption) 3 rfl)) | exact Or.inl (SqL.of (Lv.get (by assumption) 4 rfl)) | exact Or.inl (SqL.of (Lv.get (by assumption) 5 rfl)) | exact ⟨_, SqL.of (Lv.get (by assumption) 0 rfl)⟩ | exact ⟨_, SqL.of (Lv.get (by assumption) 1 rfl)⟩ | exact ⟨_, SqL.of (Lv.get (by assumption) 2 rfl)⟩ | exact ⟨_, SqL.of (Lv.get (by assumption) 3 rfl)⟩ | exact ⟨_, SqL.of (Lv.get (by assumption) 4 rfl)⟩ | exact ⟨_, SqL.of (Lv.get (by assumption) 5 rfl)⟩ | exact Or.inl ⟨_, SqL.of (Lv.get (by assumption) 0 rfl), rfl⟩ | exact Or.inl ⟨_, SqL.of (Lv.get (by assumption) 1 rfl), rfl⟩ | exact Or.inl ⟨_, SqL.of (Lv.get (by assumption) 2 rfl), rfl⟩ | exact Or.inl ⟨_, SqL.of (Lv.get (by assumption) 3 rfl), rfl⟩ | exact Or.inl ⟨_, SqL.of (Lv.get (by assumption) 4 rfl), rfl⟩ | exact Or.inl ⟨_, SqL.of (Lv.get (by assumption) 5 rfl), rfl⟩ | exact Or.inl ⟨rfl, _, SqL.of (Lv.get (by assumption) 0 rfl)⟩ | exact Or.inl ⟨rfl, _, SqL.of (Lv.get (by assumption) 1 rfl)⟩ | exact Or.inl ⟨rfl, _, SqL.of (Lv.get (by assumption) 2 rfl)⟩ | exact Or.inl ⟨rfl, _, SqL.of (Lv.get (by assumption) 3 rfl)⟩ | exact Or.inl ⟨rfl, _, SqL.of (Lv.get (by assumption) 4 rfl)⟩ | exact Or.inl ⟨rfl, _, SqL.of (Lv.get (by assumption) 5 rfl)⟩ | exact Or.inr (SqT.of (Lv.get (by assumption) 0 rfl)) | exact Or.inr (SqT.of (Lv.get (by assumption) 1 rfl)) | exact Or.inr (SqT.of (Lv.get (by assumption) 2 rfl)) | exact Or.inr (SqT.of (Lv.get (by assumption) 3 rfl)) | exact SqT.of (Lv.get (by assumption) 0 rfl) | exact SqT.of (Lv.get (by assumption) 1 rfl) | exact SqT.of (Lv.get (by assumption) 2 rfl) | exact dgetN (Lv.get (by assumption) 0 rfl) (by assumption) | exact dgetN (Lv.get (by assumption) 1 rfl) (by assumption) | exact dgetN (Lv.get (by assumption) 2 rfl) (by assumption) | exact dgetN (Lv.get (by assumption) 3 rfl) (by assumption) | exact dgetN (Lv.get (by assumption) 4 rfl) (by assumption) | decide | ((with_reducible show _ ∧ _); omega)))) | ((fail_if_success (with_reducible apply @Exists.intro (Nat → _))); (with_reducible apply Exists.intro))))
local macro_rules
  | `(tactic| wide_line with al $lv:ident $l:ident $nl:ident $H:ident $lv1:ident $s1:ident) => `(tactic| (intro $l:ident $nl:ident; generalize he : upd _ _ _ = $H:ident; have $lv1:ident := Lv.alE $lv $nl he; have $s1:ident := sameE $nl he; clear he; (try dsimp only at $lv1:ident)))
  | `(tactic| wide_line with alx $lv:ident $nl:ident $H:ident $lv1:ident $s1:ident) => `(tactic| (generalize he : upd _ _ _ = $H:ident; have $lv1:ident := Lv.alE $lv $nl he; have $s1:ident := sameE $nl he; clear he; (try dsimp only at $lv1:ident)))
  | `(tactic| wide_line with sts $lv:ident $i:num $H:ident $lv1:ident $s0:ident $np:ident $s1:ident) => `(tactic| (generalize he : upd _ _ _ = $H:ident; have $lv1:ident := Lv.stE $lv $i rfl he; have $s1:ident := sameN $s0 $np he; clear he; (try dsimp only at $lv1:ident)))
  | `(tactic| wide_line with st $lv:ident $i:num $H:ident $lv1:ident) => `(tactic| (generalize he : upd _ _ _ = $H:ident; have $lv1:ident := Lv.stE $lv $i rfl he; clear he; (try dsimp only at $lv1:ident)))
  | `(tactic| wide_line with stk $lv:ident $i:num $H:ident $lv1:ident $k1:ident) => `(tactic| (generalize he : upd _ _ _ = $H:ident; have $lv1:ident := Lv.stE $lv $i rfl he; have $k1:ident := KeepT.st (Lv.get $lv $i rfl) he; clear he; (try dsimp only at $lv1:ident)))
/-- p and q are tied -/
def tiedB (ts : List (Str × Str)) (p q : Str) : Bool := ts.any fun t => (t.1 == p && t.2 == q) || (t.2 == p && t.1 == q)
/-- p sees q -/
def seesB (ts : List (Str × Str)) (p q : Str) : Bool := q == p || tiedB ts p q
/-- what p sees, in the names' sequence -/
def seenOf (ns : List Str) (ts : List (Str × Str)) (p : Str) : List Str := ns.filter (seesB ts p)
/-- what p sees, as bits -/
def sightN (ns : List Str) (ts : List (Str × Str)) (p : Str) : Nat := maskOf (fun i => match ns[i]? with | some q => seesB ts p q | none => false) ns.length
theorem sight_bit {ns : List Str} {ts : List (Str × Str)} {p q : Str} {i : Nat} (h : ns[i]? = some q) : (sightN ns ts p).testBit i = seesB ts p q := by
  unfold sightN
  rw [test_mask, decide_eq_true (List.getElem?_eq_some_iff.mp h).1, h, Bool.true_and]
theorem sight_lt (ns : List Str) (ts : List (Str × Str)) (p : Str) : sightN ns ts p < 2 ^ ns.length := mask_lt _ _
theorem pick_sight (ns : List Str) (ts : List (Str × Str)) (p : Str) : pickN ns (sightN ns ts p) = seenOf ns ts p := pickN_filter (sight_lt ns ts p) fun _ _ h => sight_bit h
theorem idx_of {ns : List Str} (nd : ns.Nodup) {i : Nat} {p : Str} (h : ns[i]? = some p) : ns.idxOf p = i := by
  have hm := List.mem_of_getElem? h
  have h2 : ns[ns.idxOf p]? = some p := by
    rw [List.getElem?_eq_getElem (List.idxOf_lt_length_of_mem hm)]
    exact congrArg some (List.getElem_idxOf _)
  exact (List.getElem?_inj (List.idxOf_lt_length_of_mem hm) nd).mp (h2.trans h.symm)
/-- one tie more -/
theorem sight_snoc {ns : List Str} (nd : ns.Nodup) {ts : List (Str × Str)} {t : Str × Str} (h1 : t.1 ∈ ns) (h2 : t.2 ∈ ns) (p : Str) :
    sightN ns (ts ++ [t]) p = (sightN ns ts p ||| (if p = t.1 then 2 ^ ns.idxOf t.2 else 0)) ||| (if p = t.2 then 2 ^ ns.idxOf t.1 else 0) := by
  refine Nat.eq_of_testBit_eq fun i => ?_
  rw [Nat.testBit_or, Nat.testBit_or]
  have bit : ∀ (c : Prop) [Decidable c] (k : Nat), (if c then 2 ^ k else 0).testBit i = (decide c && decide (k = i)) := by
    intro c _ k
    by_cases h : c
    · rw [if_pos h, Nat.testBit_two_pow, decide_eq_true h, Bool.true_and]
    · rw [if_neg h, decide_eq_false h, Nat.zero_testBit]; rfl
  rw [bit, bit]
  cases e : ns[i]? with
  | none =>
    have hl := List.getElem?_eq_none_iff.mp e
    have big : ∀ us, (sightN ns us p).testBit i = false := fun us => by
      unfold sightN
      rw [test_mask, decide_eq_false (by omega)]; rfl
    have no : ∀ x ∈ ns, ns.idxOf x ≠ i := fun x hx z => by
      have := List.idxOf_lt_length_of_mem hx
      omega
    rw [big, big, decide_eq_false (no _ h2), decide_eq_false (no _ h1)]
    simp
  | some q =>
    rw [sight_bit e, sight_bit e]
    have ix : ∀ x ∈ ns, (ns.idxOf x = i ↔ x = q) := fun x hx => by
      constructor
      · intro z
        have h2 : ns[ns.idxOf x]? = some x := by
          rw [List.getElem?_eq_getElem (List.idxOf_lt_length_of_mem hx)]
          exact congrArg some (List.getElem_idxOf _)
        rw [z, e] at h2
        exact (Option.some.inj h2).symm
      · intro z
        subst z
        exact idx_of nd e
    unfold seesB tiedB
    rw [List.any_append, Bool.eq_iff_iff]
    simp only [Bool.or_eq_true, Bool.and_eq_true, decide_eq_true_eq, List.any_cons, List.any_nil, Bool.or_false, beq_iff_eq]
    rw [ix _ h1, ix _ h2]
    constructor
    · rintro (h | h | h | h)
      · exact .inl (.inl (.inl h))
      · exact .inl (.inl (.inr h))
      · exact .inl (.inr ⟨h.1.symm, h.2⟩)
      · exact .inr ⟨h.1.symm, h.2⟩
    · rintro (((h | h) | h) | h)
      · exact .inl h
      · exact .inr (.inl h)
      · exact .inr (.inr (.inl ⟨h.1.symm, h.2⟩))
      · exact .inr (.inr (.inr ⟨h.1.symm, h.2⟩))
theorem sight_nil {ns : List Str} (nd : ns.Nodup) {p : Str} (hp : p ∈ ns) : sightN ns [] p = 2 ^ ns.idxOf p := by
  refine Nat.eq_of_testBit_eq fun i => ?_
  rw [Nat.testBit_two_pow]
  cases e : ns[i]? with
  | none =>
    have hl := List.getElem?_eq_none_iff.mp e
    have := List.idxOf_lt_length_of_mem hp
    unfold sightN
    rw [test_mask, decide_eq_false (by omega), decide_eq_false (by omega)]; rfl
  | some q =>
    rw [sight_bit e, Bool.eq_iff_iff, decide_eq_true_eq]
    unfold seesB tiedB
    simp only [List.any_nil, Bool.or_false, beq_iff_eq]
    constructor
    · intro z; subst z; exact idx_of nd e
    · intro z
      have h2 : ns[ns.idxOf p]? = some p := by
        rw [List.getElem?_eq_getElem (List.idxOf_lt_length_of_mem hp)]
        exact congrArg some (List.getElem_idxOf _)
      rw [z, e] at h2
      exact Option.some.inj h2
/-- sights(places, ties): a new tuple of numbers -/
def spSights (K : PySem.W.Frag) : Sp := fun vs H Q _ => ∃ (a kt : Addr) (ns : List Str) (xs : List V) (ts : List (Str × Str)), vs = [.ref a, .ref kt] ∧ Nms K H a ns ∧ ns.Nodup ∧ ns.length ≤ 100 ∧ SqS K H kt xs ∧ TiesAt K H xs ts ∧ (∀ t ∈ ts, t.1 ∈ ns ∧ t.2 ∈ ns) ∧ ts.length ≤ 1000 ∧
  ∀ t H', Same H H' → H t = none → H' t = some (.tup (ns.map fun p => natV (sightN ns ts p))) → Q (.ref t) H'
section
variable {P : Program} {w : World} {K : PySem.W.Frag} {mg : Str → Option Value} {base : Heap}
abbrev sSights : Stmt := top ix_sights
theorem scSights : FnScope ["places", "ties", "bits", "at", "place", "sights", "one", "other"] ["places", "ties"] (defScope sSights) := ⟨rfl, rfl, rfl, by decide +kernel, rfl, by decide +kernel, by decide +kernel⟩
theorem has_sights (T : Bn mg) (D : DFE K mg "_sights" sSights ["places", "ties"]) : Has P w K mg base CX0 1 "_sights" ["places", "ties"] (spSights K) := by
  refine has_of D scSights (fun vs H Q E h => ?_) (fun f cdv A outer s H vs Q E hr h => ?_)
  · obtain ⟨a, kt, ns, xs, ts, rfl, _⟩ := h; rfl
  · obtain ⟨a, kt, ns, xs, ts, rfl, ha, nn, ln, hk, hks, hin, lt, k⟩ := h
    have nd := scSights.nd
    refine ⟨_, (pss_cons (ps_sv 2 nd (pe_dc (own := [("at", 3), ("place", 4)]) (g := _) (tt := tYes) rfl nd (pi_enumQ rfl T.z_enumerate (pa_cons (pv 0) pa_nil)) (blkOk_by (own := [("at", 3), ("place", 4)]) (N := ["places", "ties", "bits", "at", "place", "sights", "one", "other"]) (sc := defScope sSights) (by decide +kernel)) (fun _ _ _ _ _ => (pg_tupk (K := K) (n := 2) rfl rfl (pgs_cons (pg_name (i := 3) nd rfl (by first | exact Or.inl rfl | exact Or.inr rfl)) (pgs_cons (pg_name (i := 4) nd rfl (by first | exact Or.inl rfl | exact Or.inr rfl)) pgs_nil)))) (fun _ _ _ _ _ => pts_nil) (fun _ _ _ _ _ => (pv 4)) (fun _ _ _ _ _ => (pe_op op_shlB pe_int (pv 3)))))
    (pss_cons (ps_sv 5 nd (pe_dc (own := [("place", 4)]) (g := gName 4) (tt := tYes) rfl nd (pi_sq (pv 0)) (blkOk_by (own := [("place", 4)]) (N := ["places", "ties", "bits", "at", "place", "sights", "one", "other"]) (sc := defScope sSights) (by decide +kernel)) (fun _ _ _ _ _ => (pg_name (i := 4) nd rfl (by first | exact Or.inl rfl | exact Or.inr rfl))) (fun _ _ _ _ _ => pts_nil) (fun _ _ _ _ _ => (pv 4)) (fun _ _ _ _ _ => (pe_dget (hu_of hr) (pv 2) (pv 4) (fun _ _ => rfl)))))
    (pss_cons (ps_for PassesOwn.never rfl (pi_sq (pv 1)) (pg_tup (n := 2) rfl (pgs_cons (pg_name (i := 6) nd rfl (by first | exact Or.inl rfl | exact Or.inr rfl)) (pgs_cons (pg_name (i := 7) nd rfl (by first | exact Or.inl rfl | exact Or.inr rfl)) pgs_nil))) (pss_cons (ps_daug (hu_of hr) (pv 5) (pv 6) (pe_dget (hu_of hr) (pv 2) (pv 7) (fun _ _ => rfl)) in_orB (by intros; rfl))
    (pss_one (ps_daug (hu_of hr) (pv 5) (pv 7) (pe_dget (hu_of hr) (pv 2) (pv 6) (fun _ _ => rfl)) in_orB (by intros; rfl)))))
    (pss_one (ps_ret (pe_callTy call_tuple_of (by rfl) T.z_tuple (by decide +kernel) (pa_cons (pe_lc (own := [("place", 4)]) (g := gName 4) (tt := tYes) rfl nd (pi_sq (pv 0)) (blkOk_by (own := [("place", 4)]) (N := ["places", "ties", "bits", "at", "place", "sights", "one", "other"]) (sc := defScope sSights) (by decide +kernel)) (fun _ _ _ _ _ => (pg_name (i := 4) nd rfl (by first | exact Or.inl rfl | exact Or.inr rfl))) (fun _ _ _ _ _ => pts_nil) (fun _ _ _ _ _ => (pe_dget (hu_of hr) (pv 5) (pv 4) (fun _ _ => rfl)))) pa_nil))))))), ?_⟩
    have lv := Lv.zero H
    wide_line
    intro J G ex hG wk D nD
    have lvD := lv.al (o := .dK []) nD
    refine dc_it wk (fun i H' => Hold (∃ kvs, Lv H [] H' [(D, .dK kvs)] ∧ DN kvs (ns.take i) (fun p => 2 ^ ns.idxOf p) i)) ⟨[], lvD, Nat.le_refl _, fun p hp => by simp at hp⟩ (fun i H' _ ⟨_, z, _⟩ => hG H' (.same z.sm)) ?_ ?_
    · rintro i x H1 H2 hi ⟨kvs, lv1, dn1⟩ ⟨T, x1, x2, rfl, hT, rfl, ex1, ex2⟩
      cases ex1
      obtain ⟨p, hp, rfl⟩ := str_at ex2
      have hi' : i < ns.length := by simpa using hi
      wide_line with alx lv1 hT H3 lv3 s3
      wide_line
      refine ⟨by have := dn1.1; rw [sizeLine_eq]; omega, ?_⟩
      wide_line with st lv3 1 H4 lv4
      refine ⟨_, lv4.tl (fun z => nomatch z), ?_⟩
      rw [take_next2 hp]
      exact dn1.snoc (by show 2 ^ ns.idxOf p = 2 ^ i; rw [idx_of nn hp])
    · rintro H1 ⟨kv1, lv1, dn1⟩
      rw [List.length_map, List.take_length] at dn1
      wide_line
      refine ⟨ha.same lv1.sm, ?_⟩
      intro J2 G2 ex2 hG2 wk2 D2 nD2
      have lvD2 := lv1.al (o := .dK []) nD2
      refine dc_it wk2 (fun i H' => Hold (∃ kvs, Lv H [] H' [(D2, .dK kvs), (D, .dK kv1)] ∧ Same H1 H' ∧ DN kvs (ns.take i) (fun p => 2 ^ ns.idxOf p) i)) ⟨[], lvD2, same_new nD2, Nat.le_refl _, fun p hp => by simp at hp⟩ (fun i H' _ ⟨_, _, z, _⟩ => hG2 H' (.same z)) ?_ ?_
      · rintro i x H2 H3 hi ⟨kvs, lv2, s2, dn2⟩ ⟨rfl, ex2⟩
        obtain ⟨p, hp, rfl⟩ := str_at ex2
        have hi' : i < ns.length := by simpa using hi
        have hv := dn1.2 p (List.mem_of_getElem? hp)
        wide_line
        refine ⟨by have := dn2.1; rw [sizeLine_eq]; omega, ?_⟩
        wide_line with sts lv2 0 H4 lv4 s2 nD2 s4
        refine ⟨_, lv4, s4, ?_⟩
        rw [take_next2 hp]
        exact dn2.snoc rfl
      · rintro H2 ⟨kv2, lv2, s2, dn2⟩
        rw [List.length_map, List.take_length] at dn2
        wide_line
        refine ⟨hk.same lv2.sm, ?_⟩
        intro J3 G3 ex3 hG3 wk3
        have xl : xs.length = ts.length := paired_len hks
        refine for_it wk3 (fun i σ H' => Hold (∃ (kvs : List (Key × V)) (u3 u4 u6 u7 : Option V), σ = [some (.ref a), some (.ref kt), some (.ref D), u3, u4, some (.ref D2), u6, u7] ∧ Lv H [] H' [(D2, .dK kvs), (D, .dK kv1)] ∧ Same H1 H' ∧ DN kvs ns (sightN ns (ts.take i)) (ns.length + 2 * i)))
          ⟨kv2, _, _, _, _, rfl, lv2, s2, dn2.1, fun p hp => by rw [dn2.2 p hp, List.take_zero, sight_nil nn hp]⟩ (fun i σ H' _ ⟨_, _, _, _, _, _, z, _⟩ => hG3 H' (SqKeep.of hk lv2.sm z.sm ex3)) ?_ ?_
        · rintro i x σ H3 H4 hi ⟨kvs, u3, u4, u6, u7, rfl, lv3, s3, dn3⟩ ⟨rfl, ex4⟩
          obtain ⟨t, b, ht, rfl, hb⟩ := ties_at (hks.same lv3.sm) ex4
          have hb : SqT K H4 b [.str t.1, .str t.2] := hb
          obtain ⟨in1, in2⟩ := hin t (List.mem_of_getElem? ht)
          have v1 := dn3.2 _ in1
          have b1 := dn1.2 _ in1
          have b2 := dn1.2 _ in2
          have i7 : i < 1000 := by omega
          wide_line
          refine ⟨_, dputN (lv3.get 0 rfl) (by have := dn3.1; rw [sizeLine_eq]; omega), ?_⟩
          wide_line with sts lv3 0 H5 lv4 s3 nD2 s4
          have dn4 : DN (putK kvs (.inr t.1) (natV (sightN ns (ts.take i) t.1 ||| 2 ^ ns.idxOf t.2))) ns (fun p => sightN ns (ts.take i) p ||| (if p = t.1 then 2 ^ ns.idxOf t.2 else 0)) (ns.length + 2 * i + 1) := dn3.upd (by simp) fun q _ hq => by simp [hq]
          generalize putK kvs (.inr t.1) (natV (sightN ns (ts.take i) t.1 ||| 2 ^ ns.idxOf t.2)) = kvs4 at lv4 dn4
          have v2 := dn4.2 _ in2
          wide_line
          refine ⟨_, dputN (lv4.get 0 rfl) (by have := dn4.1; rw [sizeLine_eq]; omega), ?_⟩
          wide_line with sts lv4 0 H6 lv5 s4 nD2 s5
          refine ⟨_, _, _, _, _, rfl, lv5, s5, ?_⟩
          have e : sightN ns (ts.take (i + 1)) = fun p => (sightN ns (ts.take i) p ||| (if p = t.1 then 2 ^ ns.idxOf t.2 else 0)) ||| (if p = t.2 then 2 ^ ns.idxOf t.1 else 0) := by
            funext p
            rw [take_next2 ht, sight_snoc nn in1 in2]
          rw [e]
          exact dn4.upd (by simp) fun q _ hq => by simp [hq]
        · rintro σ H3 ⟨kvs, u3, u4, u6, u7, rfl, lv3, s3, dn3⟩
          rw [xl, List.take_length] at dn3
          wide_line
          refine ⟨ha.same lv3.sm, ?_⟩
          intro J4 G4 ex4 hG4 wk4 L nL
          have lvL := lv3.al (o := .lst []) nL
          refine lc_it wk4 (fun i H' => Hold (Lv H [] H' [(L, .lst ((ns.take i).map fun p => natV (sightN ns ts p))), (D2, .dK kvs)] ∧ Same H3 H')) ⟨lvL.picks [0, 1] rfl (by decide) (by simp), same_new nL⟩ (fun i H' _ ⟨_, z⟩ => hG4 H' (.same z)) ?_ ?_
          · rintro i x H4 H5 hi ⟨lv4, s4⟩ ⟨rfl, ex5⟩
            obtain ⟨p, hp, rfl⟩ := str_at ex5
            have hi' : i < ns.length := by simpa using hi
            have hv := dn3.2 p (List.mem_of_getElem? hp)
            wide_line
            refine ⟨by rw [List.length_map, sizeLine_eq]; have := List.length_take_le i ns; omega, ?_⟩
            wide_line with sts lv4 0 H5 lv5 s4 nL s5
            rw [take_next2 hp, List.map_append]
            exact ⟨lv5, s5⟩
          · rintro H4 ⟨lv4, s4⟩
            rw [List.length_map, List.take_length] at lv4
            wide_line
            refine .inl ⟨SqL.of (lv4.get 0 rfl), ?_⟩
            wide_line with al lv4 t0 nt0 H5 lv5 s5
            exact k t0 H5 lv5.sm (lv4.free nt0) (lv5.get 0 rfl)
end
end Pw

set_option Elab.async false
set_option linter.all false
set_option maxRecDepth 100000
set_option maxHeartbeats 4000000
/-! Own kit Zh: a & ~b of numbers from 0 on; max of numbers; min(.., default=None). -/
namespace Ct
open PySem PySem.Spec PyProof.Rows L2
/-- the bits of a that b has not -/
def andN (a b : Nat) : Nat := a ^^^ (a &&& b)
theorem test_andN (a b i : Nat) : (andN a b).testBit i = (a.testBit i && !b.testBit i) := by
  unfold andN
  rw [Nat.testBit_xor, Nat.testBit_and]
  cases a.testBit i <;> cases b.testBit i <;> rfl
theorem and_add : ∀ (n a b : Nat), a < 2 ^ n → (a &&& b) + (a ^^^ (a &&& b)) = a
  | 0, a, b, h => by
    have : a = 0 := by
      rw [Nat.pow_zero] at h
      omega
    subst this
    simp
  | n + 1, a, b, h => by
    have ih := and_add n (a / 2) (b / 2) (by rw [Nat.pow_succ] at h; omega)
    have e1 : (a &&& b) / 2 = a / 2 &&& b / 2 := Nat.and_div_two
    have e2 : (a ^^^ (a &&& b)) / 2 = a / 2 ^^^ (a / 2 &&& b / 2) := by rw [Nat.xor_div_two, e1]
    have m1 : (a &&& b) % 2 + (a ^^^ (a &&& b)) % 2 = a % 2 := by
      have t1 : ∀ x : Nat, x % 2 = (x.testBit 0).toNat := fun x => by rw [Nat.testBit_zero]; rcases Nat.mod_two_eq_zero_or_one x with z | z <;> rw [z] <;> rfl
      rw [t1, t1, t1, Nat.testBit_xor, Nat.testBit_and]
      cases a.testBit 0 <;> cases b.testBit 0 <;> rfl
    have d1 := Nat.div_add_mod (a &&& b) 2
    have d2 := Nat.div_add_mod (a ^^^ (a &&& b)) 2
    have d3 := Nat.div_add_mod a 2
    rw [e1] at d1
    rw [e2] at d2
    omega
theorem lt_two_pow_self' (a : Nat) : a < 2 ^ a := Nat.lt_two_pow_self
theorem sub_and (a b : Nat) : a - (a &&& b) = andN a b := by
  have := and_add a a b (lt_two_pow_self' a)
  unfold andN
  omega
theorem bitAnd_not (a b : Nat) : Builtin.bitAnd (a : Int) (Builtin.bitNot (b : Int)) = ((andN a b : Nat) : Int) := by
  have h1 : ¬ (0 : Int) ≤ Builtin.bitNot (b : Int) := by unfold Builtin.bitNot; omega
  have h2 : (Builtin.bitNot (Builtin.bitNot (b : Int))).toNat = b := by unfold Builtin.bitNot; omega
  unfold Builtin.bitAnd
  rw [decide_eq_true (Int.natCast_nonneg a), decide_eq_false h1]
  dsimp only
  rw [h2, Int.toNat_natCast, ← sub_and]
  have : a &&& b ≤ a := Nat.and_le_left
  omega
section
variable {X : Cx}
theorem op_andNB : OpR X (binaryOp .BitAnd) (fun x y H Q => ∃ a b : Nat, x = .int (a : Nat) ∧ y = .int (Builtin.bitNot (b : Nat)) ∧ Q (.int (andN a b : Nat)) H) := by
  intro pins s σ H x y v u Q I rx ry h
  obtain ⟨a, b, rfl, rfl, q⟩ := h
  exact op_and pins s σ H _ _ v u Q I rx ry ⟨_, _, rfl, rfl, by dsimp only; rw [bitAnd_not]; exact q⟩
/-- the greatest of numbers -/
def maxN (ns : List Nat) : Nat := ns.foldl max 0
theorem foldl_max_nat : ∀ (ns : List Nat) (a : Nat), (ns.map fun n => ((n : Nat) : Int)).foldl max ((a : Nat) : Int) = ((ns.foldl max a : Nat) : Int)
  | [], _ => rfl
  | n :: ns, a => by
    rw [List.map_cons, List.foldl_cons, List.foldl_cons, ← foldl_max_nat ns (max a n)]
    congr 1
    omega
/-- the least of numbers -/
def minN : List Nat → Option Nat
  | [] => none
  | n :: ns => some (ns.foldl min n)
theorem foldl_min_nat : ∀ (ns : List Nat) (a : Nat), (ns.map fun n => ((n : Nat) : Int)).foldl min ((a : Nat) : Int) = ((ns.foldl min a : Nat) : Int)
  | [], _ => rfl
  | n :: ns, a => by
    rw [List.map_cons, List.foldl_cons, List.foldl_cons, ← foldl_min_nat ns (min a n)]
    congr 1
    omega
def optV : Option Nat → V
  | none => .non
  | some k => .int (k : Nat)
theorem reads_nats {h : Heap} : ∀ {ns : List Nat} {us : List Value}, Vals (ns.map natV) us → ∃ as, ReadsAll h us ((ns.map fun n => ((n : Nat) : Int)).map PyData.int) as
  | [], _, .nil => ⟨_, .nil⟩
  | n :: ns, _, .cons r rs => by
    obtain ⟨t, rfl⟩ := r
    obtain ⟨as, z⟩ := reads_nats rs
    exact ⟨_, .cons (.int _ _) z⟩
theorem alike_ints (ns : List Int) : W.AlikeAll (ns.map PyData.int) := by
  refine ⟨fun x hx y hy => ?_, fun x hx => ?_⟩
  · obtain ⟨a, _, rfl⟩ := List.mem_map.mp hx
    obtain ⟨b, _, rfl⟩ := List.mem_map.mp hy
    rfl
  · obtain ⟨a, _, rfl⟩ := List.mem_map.mp hx
    exact fun z => nomatch z
theorem depth_ints : ∀ ns : List Int, PyData.depthAll (ns.map PyData.int) ≤ 1
  | [] => by show 0 ≤ 1; decide
  | n :: ns => by
    have := depth_ints ns
    show max (PyData.depth (.int n)) (PyData.depthAll (ns.map PyData.int)) ≤ 1
    have e : PyData.depth (.int n) ≤ 1 := by simp [PyData.depth]
    omega
/-- max of a list or a tuple of numbers -/
def rMaxN (K : PySem.W.Frag) : List V → Hp → VK → Prop := fun vs H Q => ∃ (a : Addr) (ns : List Nat), vs = [.ref a] ∧ SqS K H a (ns.map natV) ∧ ns ≠ [] ∧ Q (.int (maxN ns : Nat)) H
theorem cr_maxN (hc : X.calm = true) (hu : X.A.units + 64 < cLine) : CallR X (.builtin "max") (rMaxN X.K) := by
  intro pins s σ H vs us Q I r h
  obtain ⟨a, ns, rfl, hs, ne, q⟩ := h
  rw [Vals.ref1 r]
  obtain ⟨n, ms, rfl⟩ : ∃ n ms, ns = n :: ms := by
    cases ns with
    | nil => exact absurd rfl ne
    | cons a b => exact ⟨a, b, rfl⟩
  have al := alike_ints (((n : Nat) : Int) :: ms.map fun n => ((n : Nat) : Int))
  have dp := depth_ints (((n : Nat) : Int) :: ms.map fun n => ((n : Nat) : Int))
  rw [List.map_cons] at dp al
  have fin : ∀ v h' tk bs, Reads h' v (W.maxD (.int ((n : Nat) : Int)) ((ms.map fun n => ((n : Nat) : Int)).map PyData.int)) bs → (∀ b o, s.heap.get? b = some o → h'.get? b = some o) → EP X pins σ Q v { s with heap := h', toks := tk } := by
    intro v h' tk bs rd hk
    rw [W.maxD_ints, foldl_max_nat] at rd
    cases rd with
    | int i t =>
      refine ⟨.int _, H, I.kept hk, ⟨_, rfl⟩, ?_⟩
      have e : maxN (n :: ms) = ms.foldl max n := by
        unfold maxN
        rw [List.foldl_cons, Nat.zero_max]
      rw [← e]
      exact q
  rcases hs with hs | hs
  · obtain ⟨its, rv, hl, _⟩ := I.list hs
    obtain ⟨as, rd⟩ := reads_nats (h := s.heap) rv
    refine W.max_list_data (I.ok.hd hc) (show s.heap.IsList a its.toArray from hl.isList) (by rw [List.toList_toArray]; exact rd) al (by omega) fun i v h' tk bs _ rd hk => fin v h' tk bs rd hk
  · obtain ⟨its, rv, hl, _⟩ := I.tuple hs
    obtain ⟨as, rd⟩ := reads_nats (h := s.heap) rv
    refine W.max_tuple_data (I.ok.hd hc) (show s.heap.IsTuple a its.toArray from hl) (by rw [List.toList_toArray]; exact rd) al (by omega) fun i v h' tk bs _ rd hk => fin v h' tk bs rd hk
/-- min(xs, default=None) of a list of numbers -/
def rMinD (K : PySem.W.Frag) : List V → List V → Hp → VK → Prop := fun vs zs H Q => ∃ (a : Addr) (ns : List Nat), vs = [.ref a] ∧ zs = [.non] ∧ SqL K H a (ns.map natV) ∧ Q (optV (minN ns)) H
theorem cr_minD (hc : X.calm = true) (hu : X.A.units + 64 < cLine) : CallRK X (.builtin "min") [Str.ofString "default"] (rMinD X.K) := by
  intro pins s σ H vs zs us ws Q I r rz h
  obtain ⟨a, ns, rfl, rfl, hs, q⟩ := h
  obtain rfl := Vals.ref1 r
  obtain ⟨w1, rfl, e1⟩ := vals1 rz
  obtain rfl : w1 = Value.none := e1
  obtain ⟨its, rv, hl, _⟩ := I.list hs
  obtain ⟨as, rd⟩ := reads_nats (h := s.heap) rv
  have dp := depth_ints (ns.map fun n => ((n : Nat) : Int))
  show wpAny _ _ (call (.builtin "min") [.ref a] [(Str.ofString "default", Value.none)]) _ _ _
  refine W.min_list_default (I.ok.hd hc) (show s.heap.IsList a its.toArray from hl.isList) (xs := (ns.map fun n => ((n : Nat) : Int)).map PyData.int) (by rw [List.toList_toArray]; exact rd) (alike_ints _) (by omega) (fun e h' tk hk => ?_) (fun y ys i v h' tk bs e _ rd hk => ?_)
  · have : ns = [] := by
      cases ns with
      | nil => rfl
      | cons a b => cases e
    subst this
    exact ⟨.non, H, I.kept hk, rfl, q⟩
  · cases ns with
    | nil => cases e
    | cons n ms =>
      rw [List.map_cons, List.map_cons] at e
      injection e with e1 e2
      subst e1 e2
      rw [W.minD_ints, foldl_min_nat] at rd
      cases rd with
      | int i t => exact ⟨.int _, H, I.kept hk, ⟨_, rfl⟩, q⟩
end
end Ct

set_option Elab.async false
set_option linter.all false
set_option maxRecDepth 100000
set_option maxHeartbeats 4000000
namespace Pw
open PySem PySem.Spec PyProof.Rows L2 Ct
/-! games: what the rounds and the ranks are (the definitions alone) -/
def rkV : Option Nat → V
  | none => .non
  | some k => .int (k : Nat)
structure Wx where
  ways : List (List Nat)
  held : List Nat
  steps : List (List Nat)
/-- the places from which each move of the runner leads to one of won -/
def lostN (steps : List Nat) (won : Nat) : Nat := maskOf (fun p => match steps[p]? with | some st => decide (st &&& won = st) | none => false) steps.length
def unitedN (nums chosen : List Nat) : Nat := chosen.foldl (fun w i => w ||| nums.getD i 0) 0
def lostsW (W : Wx) (won : List Nat) : List Nat := (List.range W.ways.length).map fun s => lostN (W.steps.getD s []) (won.getD s 0) ||| W.held.getD s 0
def stepW (W : Wx) (won : List Nat) : List Nat := W.ways.map (unitedN (lostsW W won))
def itW (W : Wx) : Nat → List Nat
  | 0 => W.held
  | k + 1 => stepW W (itW W k)
/-- the last round -/
def FinW (W : Wx) (m : Nat) : Prop := itW W (m + 1) = itW W m ∧ ∀ k, k < m → itW W (k + 1) ≠ itW W k
def roundsM (W : Wx) (m : Nat) : List (List Nat) := (List.range (m + 1)).map (itW W)
/-- the first round in which a place is among a stand's -/
def rankM (W : Wx) (m s p : Nat) : Option Nat := (List.range (m + 1)).find? fun k => ((itW W k).getD s 0).testBit p
def rowsM (W : Wx) (m n : Nat) : List (List (Option Nat)) := (List.range W.ways.length).map fun s => (List.range n).map fun p => rankM W m s p
structure WOk (W : Wx) (n : Nat) : Prop where
  lh : W.held.length = W.ways.length
  ls : W.steps.length = W.ways.length
  wr : ∀ (s : Nat) (l : List Nat), W.ways[s]? = some l → s ∈ l ∧ ∀ t ∈ l, t < W.ways.length
  hb : ∀ h ∈ W.held, h < 2 ^ n
  sn : ∀ l ∈ W.steps, l.length = n
  few : W.ways.length ≤ 100
  one : 1 ≤ W.ways.length
  nn : n ≤ 12
abbrev RowsL (H : Hp) : List V → List (List Nat) → Prop := Paired fun x l => ∃ a, x = .ref a ∧ H a = some (.lst (l.map natV))
abbrev RowsT (K : PySem.W.Frag) (H : Hp) : List V → List (List Nat) → Prop := Paired fun x l => ∃ a, x = .ref a ∧ SqT K H a (l.map natV)
abbrev RanksT (K : PySem.W.Frag) (H : Hp) : List V → List (List (Option Nat)) → Prop := Paired fun x l => ∃ a, x = .ref a ∧ SqT K H a (l.map rkV)
/-- what the guards hold: a place, or two -/
inductive Std where
  | one (p : Str)
  | two (p q : Str)
def StdAt (K : PySem.W.Frag) (H : Hp) (v : V) : Std → Prop
  | .one p => v = .str p
  | .two p q => ∃ a, v = .ref a ∧ SqT K H a [.str p, .str q]
structure Gm where
  names : List Str
  stands : List Std
  W : Wx
abbrev cGame (K : PySem.W.Frag) : Addr := He.ga K "Game"
/-- a game at g -/
structure GameAt (K : PySem.W.Frag) (H : Hp) (g : Addr) (G : Gm) : Prop where
  ex : ∃ (dx tn td lw lh ls : Addr) (rv wv sv : V) (ds xw xs : List V), H g = some (.ins (cGame K) dx [("names", .ref tn), ("stands", .ref td), ("ways", .ref lw), ("held", .ref lh), ("steps", .ref ls), ("_rounds", rv), ("_rows", wv), ("_standings", sv)]) ∧
    SqT K H tn (G.names.map V.str) ∧ SqT K H td ds ∧ Paired (StdAt K H) ds G.stands ∧ H lw = some (.lst xw) ∧ RowsL H xw G.W.ways ∧ H lh = some (.lst (G.W.held.map natV)) ∧ H ls = some (.lst xs) ∧ RowsT K H xs G.W.steps ∧
    (rv = .non ∨ ∃ r m xr, rv = .ref r ∧ FinW G.W m ∧ H r = some (.lst xr) ∧ RowsL H xr (roundsM G.W m)) ∧
    (wv = .non ∨ ∃ t m xt, wv = .ref t ∧ FinW G.W m ∧ SqT K H t xt ∧ RanksT K H xt (rowsM G.W m G.names.length)) ∧ sv = .non
theorem RowsL.same {H H' : Hp} (s : Same H H') : ∀ {xs : List V} {ls : List (List Nat)}, RowsL H xs ls → RowsL H' xs ls
  | _, _, .nil => .nil
  | _, _, .cons ⟨a, e, h⟩ r => .cons ⟨a, e, s _ _ h⟩ (RowsL.same s r)
theorem RowsT.same {K : PySem.W.Frag} {H H' : Hp} (s : Same H H') : ∀ {xs : List V} {ls : List (List Nat)}, RowsT K H xs ls → RowsT K H' xs ls
  | _, _, .nil => .nil
  | _, _, .cons ⟨a, e, h⟩ r => .cons ⟨a, e, same_t s h⟩ (RowsT.same s r)
theorem RanksT.same {K : PySem.W.Frag} {H H' : Hp} (s : Same H H') : ∀ {xs : List V} {ls : List (List (Option Nat))}, RanksT K H xs ls → RanksT K H' xs ls
  | _, _, .nil => .nil
  | _, _, .cons ⟨a, e, h⟩ r => .cons ⟨a, e, same_t s h⟩ (RanksT.same s r)
theorem StdAt.same {K : PySem.W.Frag} {H H' : Hp} (s : Same H H') {v : V} : ∀ {t : Std}, StdAt K H v t → StdAt K H' v t
  | .one _, h => h
  | .two _ _, ⟨a, e, h⟩ => ⟨a, e, same_t s h⟩
theorem StdAts.same {K : PySem.W.Frag} {H H' : Hp} (s : Same H H') : ∀ {xs : List V} {ls : List Std}, Paired (StdAt K H) xs ls → Paired (StdAt K H') xs ls
  | _, _, .nil => .nil
  | _, _, .cons h r => .cons (h.same s) (StdAts.same s r)
theorem GameAt.same {K : PySem.W.Frag} {H H' : Hp} {g : Addr} {G : Gm} (s : Same H H') : GameAt K H g G → GameAt K H' g G
  | ⟨dx, tn, td, lw, lh, ls, rv, wv, sv, ds, xw, xs, h1, h2, h3, h4, h5, h6, h7, h8, h9, h10, h11, h12⟩ =>
    ⟨dx, tn, td, lw, lh, ls, rv, wv, sv, ds, xw, xs, s _ _ h1, same_t s h2, same_t s h3, StdAts.same s h4, s _ _ h5, RowsL.same s h6, s _ _ h7, s _ _ h8, RowsT.same s h9,
      h10.imp id (fun ⟨r, m, xr, a, b, c, d⟩ => ⟨r, m, xr, a, b, s _ _ c, RowsL.same s d⟩), h11.imp id (fun ⟨t, m, xt, a, b, c, d⟩ => ⟨t, m, xt, a, b, same_t s c, RanksT.same s d⟩), h12⟩
/-- the game of one guard in a web -/
def oneW (ns : List Str) (ts : List (Str × Str)) : Wx := ⟨ns.map fun p => bitsL (sightN ns ts p), (List.range ns.length).map fun i => 2 ^ i, List.replicate ns.length (ns.map (sightN ns ts))⟩
def oneG (ns : List Str) (ts : List (Str × Str)) : Gm := ⟨ns, ns.map Std.one, oneW ns ts⟩
/-- what is kept of a web: nothing, or the game of one guard -/
def RkOk (K : PySem.W.Frag) (H : Hp) (ns : List Str) (ts : List (Str × Str)) (sn : Addr) (rk : V) : Prop := ∃ kd : Addr, rk = .ref kd ∧ kd ≠ sn ∧ (H kd = some (.dK []) ∨ ∃ g : Addr, H kd = some (.dK [(.inr "guard", .ref g)]) ∧ GameAt K H g (oneG ns ts))
theorem RkOk.same {K : PySem.W.Frag} {H H' : Hp} (s : Same H H') {ns : List Str} {ts : List (Str × Str)} {sn : Addr} {rk : V} : RkOk K H ns ts sn rk → RkOk K H' ns ts sn rk
  | ⟨kd, a, b, c⟩ => ⟨kd, a, b, c.imp (fun e => s _ _ e) fun ⟨g, e, h⟩ => ⟨g, s _ _ e, h.same s⟩⟩
end Pw

set_option Elab.async false
set_option linter.all false
set_option maxRecDepth 100000
set_option maxHeartbeats 4000000
namespace Pw
open PySem PySem.Spec PyProof.Rows L2 Ct
/-- a property and its getter's promise -/
def HasP (P : Program) (w : World) (K : PySem.W.Frag) (mg : Str → Option Value) (base : Heap) (k : Nat) (C : Addr) (f : Str) (sp : Sp) : Prop := ∃ p g fd, PropOf K C f p g ∧ FnOk P w K mg base CX0 k g fd ["self"] sp ∧ Binds K fd ["self"] []
theorem pe_hP {X : Cx} {k j : Nat} {C : Addr} {f : Str} {sp : Sp} {e : Expr} {pos : Pos} {ta : TE} (h : HasP X.prog X.w X.K X.mg X.base j C f sp) (c : Cls X.K C) (hr : Room k X.A) (l : j + 1 ≤ k) (he : PE X e ta) (hab : attributeBase e f X.env (eval e X.env) = eval e X.env := by rfl) : PE X (.Attribute e f pos) (tProp C sp [] E0 ta) := by
  obtain ⟨p, g, fd, hp, F, b⟩ := h
  exact pe_prop he c hp F (hr.mono l) b .nil pass0 hab
/-- a method and its promise -/
def HasM (P : Program) (w : World) (K : PySem.W.Frag) (mg : Str → Option Value) (base : Heap) (CX : CXT) (k : Nat) (C : Addr) (m : Str) (ps : List Str) (sp : Sp) : Prop := ∃ f fd, Meth K C m f ∧ Binds K fd ps [] ∧ FnOk P w K mg base CX k f fd ps sp
theorem pe_hM {X : Cx} {k j : Nat} {C : Addr} {m : Str} {ps : List Str} {sp : Sp} {o e : Expr} {es : List Expr} {apos pos : Pos} {ta : TE} {t : TA} {pl : Sem Bool} (h : HasM X.prog X.w X.K X.mg X.base CX0 j C m ps sp) (c : Cls X.K C) (hr : Room k X.A) (l : j ≤ k) (ho : PE X o ta) (ha : PA X (e :: es) t)
    (hst : starEach (e :: es) X.env = (false, eval e X.env) :: starEach es X.env := by rfl) (hpl : (backTo pos (starEach es X.env)).any (·.1) = false := by rfl)
    (ht : eval (.Call (.Attribute o m apos) (e :: es) [] pos) X.env = (do
      let ov ← eval o X.env
      standAt apos.atName
      let (f, first) ← holding [ov] (getMethod ov m pl)
      callWith pos f first (backTo pos (starEach (e :: es) X.env)) (backToKw pos (keywordEach [] X.env))) := by rfl) : PE X (.Call (.Attribute o m apos) (e :: es) [] pos) (tMeth C m sp [] E0 ta t) := by
  obtain ⟨f, fd, hm, b, F⟩ := h
  exact pe_meth ho c hm F (hr.mono l) b .nil pass0 ha hst hpl ht
end Pw

set_option Elab.async false
set_option linter.all false
set_option maxRecDepth 100000
set_option maxHeartbeats 4000000
namespace Pw
open PySem PySem.Spec PyProof.Rows L2 Ct
/-- a dict from the names to lists of texts, each list at a place of its own -/
def MapAt (H : Hp) (D : Addr) (ns : List Str) (f : Str → List Str) : Prop := ∃ (kvs : List (Key × V)) (l : Str → Addr), H D = some (.dK kvs) ∧ kvs.length ≤ ns.length ∧ (∀ p ∈ ns, valV kvs (.inr p) = some (.ref (l p)) ∧ H (l p) = some (.lst ((f p).map V.str))) ∧ ∀ p ∈ ns, ∀ q ∈ ns, l p = l q → p = q
/-- the same, the lists new behind H0 -/
def MapOn (H0 H : Hp) (D : Addr) (ns : List Str) (f : Str → List Str) : Prop := ∃ (kvs : List (Key × V)) (l : Str → Addr), H D = some (.dK kvs) ∧ kvs.length ≤ ns.length ∧ (∀ p ∈ ns, valV kvs (.inr p) = some (.ref (l p)) ∧ H (l p) = some (.lst ((f p).map V.str)) ∧ H0 (l p) = none) ∧ ∀ p ∈ ns, ∀ q ∈ ns, l p = l q → p = q
theorem MapOn.at {H0 H : Hp} {D : Addr} {ns : List Str} {f : Str → List Str} : MapOn H0 H D ns f → MapAt H D ns f
  | ⟨kvs, l, h1, h2, h3, h4⟩ => ⟨kvs, l, h1, h2, fun p hp => ⟨(h3 p hp).1, (h3 p hp).2.1⟩, h4⟩
theorem MapOn.same {H0 H H' : Hp} {D : Addr} {ns : List Str} {f : Str → List Str} (s : Same H H') : MapOn H0 H D ns f → MapOn H0 H' D ns f
  | ⟨kvs, l, h1, h2, h3, h4⟩ => ⟨kvs, l, s _ _ h1, h2, fun p hp => ⟨(h3 p hp).1, s _ _ (h3 p hp).2.1, (h3 p hp).2.2⟩, h4⟩
theorem MapOn.congr {H0 H : Hp} {D : Addr} {ns : List Str} {f g : Str → List Str} (e : ∀ p ∈ ns, f p = g p) : MapOn H0 H D ns f → MapOn H0 H D ns g
  | ⟨kvs, l, h1, h2, h3, h4⟩ => ⟨kvs, l, h1, h2, fun p hp => by rw [← e p hp]; exact h3 p hp, h4⟩
/-- one name more -/
theorem MapOn.snoc {H0 H H5 : Hp} {D L : Addr} {ns : List Str} {f : Str → List Str} {p : Str} (M : MapOn H0 H D ns f) (s : Same H H5) (hL : H L = none) (h5 : H5 L = some (.lst ((f p).map V.str))) (h0 : H0 L = none) (np : p ∉ ns) :
    ∃ kvs, H5 D = some (.dK kvs) ∧ kvs.length ≤ ns.length ∧ MapOn H0 (upd H5 D (.dK (putK kvs (.inr p) (.ref L)))) D (ns ++ [p]) f := by
  obtain ⟨kvs, l, h1, h2, h3, h4⟩ := M
  have h1' := s _ _ h1
  refine ⟨kvs, h1', h2, _, fun q => if q = p then L else l q, upd_same, ?_, fun q hq => ?_, fun q hq r hr e => ?_⟩
  · rw [List.length_append]
    have := length_putK kvs (Sum.inr p) (V.ref L)
    simp only [List.length_cons, List.length_nil]
    omega
  · rw [valV_put]
    dsimp only
    rcases List.mem_append.mp hq with hq | hq
    · have ne : q ≠ p := fun e => np (e ▸ hq)
      have a := h3 q hq
      rw [if_neg (fun z => ne (Sum.inr.inj z)), if_neg ne, upd_ne (ne_of (s _ _ a.2.1) h1' (by intro z; cases z))]
      exact ⟨a.1, s _ _ a.2.1, a.2.2⟩
    · rw [List.mem_singleton.mp hq, if_pos rfl, if_pos rfl, upd_ne (ne_of h5 h1' (by intro z; cases z))]
      exact ⟨rfl, h5, h0⟩
  · dsimp only at e
    have old : ∀ {x}, x ∈ ns → l x ≠ L := fun {x} hx z => by
      have a := (h3 x hx).2.1
      rw [z, hL] at a
      cases a
    rcases List.mem_append.mp hq with hq | hq
    · have ne : q ≠ p := fun e => np (e ▸ hq)
      rw [if_neg ne] at e
      rcases List.mem_append.mp hr with hr | hr
      · have ne2 : r ≠ p := fun e => np (e ▸ hr)
        rw [if_neg ne2] at e
        exact h4 q hq r hr e
      · rw [List.mem_singleton.mp hr, if_pos rfl] at e
        exact absurd e (old hq)
    · rw [List.mem_singleton.mp hq] at e ⊢
      rcases List.mem_append.mp hr with hr | hr
      · have ne2 : r ≠ p := fun e => np (e ▸ hr)
        rw [if_pos rfl, if_neg ne2] at e
        exact absurd e.symm (old hr)
      · exact (List.mem_singleton.mp hr).symm
/-- what the walk asks of the class Web -/
structure WC (K : PySem.W.Frag) (C : Addr) : Prop where
  cls : Cls K C
  n1 : NoAttr K C "_places"
  n2 : NoAttr K C "_ties"
  n3 : NoAttr K C "_sights"
  n4 : NoAttr K C "_seen"
  n5 : NoAttr K C "_kept"
  n6 : NoAttr K C "_sorted_places"
  n7 : NoAttr K C "_sorted_pairs"
/-- sorted -/
def srt (ds : List PyData) : List PyData := ds.mergeSort (W.dataLe false id)
def pairD (p : Str × Str) : PyData := .tuple [.str (pairP p).1, .str (pairP p).2]
/-- the ties that data are -/
def tiesD (ns : List Str) (ds : List PyData) : List (Str × Str) := ds.filterMap (tieOf ns)
/-- a web at x -/
structure WebAt (K : PySem.W.Frag) (C : Addr) (H : Hp) (x : Addr) (ns : List Str) (ts : List (Str × Str)) : Prop where
  ex : ∃ (dx tp tt sg sn sp sq : Addr) (rk : V) (xs : List V), H x = some (.ins C dx [("_places", .ref tp), ("_ties", .ref tt), ("_sights", .ref sg), ("_seen", .ref sn), ("_kept", rk), ("_sorted_places", .ref sp), ("_sorted_pairs", .ref sq)]) ∧
    SqT K H tp (ns.map V.str) ∧ SqT K H tt xs ∧ TiesAt K H xs ts ∧ SqT K H sg (ns.map fun p => natV (sightN ns ts p)) ∧ MapAt H sn ns (seenOf ns ts) ∧ RkOk K H ns ts sn rk ∧ Dp K H (.ref sp) (.list (srt (ns.map PyData.str))) ∧ Dp K H (.ref sq) (.list (srt (ts.map pairD)))
theorem places_at {K : PySem.W.Frag} {H : Hp} {v : V} {d : PyData} {ns : List Str} (h : Dq K H v d) (e : placesOf d = some ns) : ∃ a, v = .ref a ∧ Nms K H a ns ∧ ns.Nodup ∧ 1 ≤ ns.length ∧ ns.length ≤ 12 := by
  unfold placesOf at e
  cases es : seqD d with
  | none => rw [es] at e; cases e
  | some ds =>
    rw [es] at e
    dsimp only at e
    by_cases c : (1 ≤ ds.length ∧ ds.length ≤ 12) ∧ ds.all nameD = true ∧ (strsD ds).Nodup
    · rw [if_pos c] at e
      cases e
      obtain ⟨a, xs, rfl, hs, ha, _⟩ := seq_of h es
      obtain ⟨e1, e2⟩ := strs_of ha c.2.1
      rw [e1] at hs
      exact ⟨a, rfl, hs, c.2.2, by omega, by omega⟩
    · rw [if_neg c] at e
      cases e
theorem tie_mem {ns : List Str} {d : PyData} {p : Str × Str} (e : tieOf ns d = some p) : p.1 ∈ ns ∧ p.2 ∈ ns := by
  unfold tieOf at e
  split at e
  · split at e
    · split at e
      · rename_i c
        cases e
        exact ⟨c.1, c.2.1⟩
      · cases e
    · cases e
  · cases e
/-- where no datum is bad all are ties -/
theorem ties_ok {K : PySem.W.Frag} {H : Hp} {ns : List Str} : ∀ {xs : List V} {ds : List PyData} {ps : List (Str × Str)} {i : Nat}, DqAll K H xs ds → tieBad ns ps i ds = none → TiesAt K H xs (tiesD ns ds) ∧ ∀ t ∈ tiesD ns ds, t.1 ∈ ns ∧ t.2 ∈ ns
  | _, _, _, _, .nil, _ => ⟨.nil, fun t h => by cases h⟩
  | _, d :: ds, ps, i, .cons h t, e => by
    unfold tieBad at e
    cases et : tieOf ns d with
    | none => rw [et] at e; cases e
    | some p =>
      rw [et] at e
      dsimp only at e
      by_cases c : pairP p ∈ ps
      · rw [if_pos c] at e; cases e
      · rw [if_neg c] at e
        obtain ⟨h1, h2⟩ := ties_ok t e
        have et2 : tiesD ns (d :: ds) = p :: tiesD ns ds := by unfold tiesD; rw [List.filterMap_cons_some et]
        rw [et2]
        refine ⟨.cons (tie_tup h et) h1, fun t ht => ?_⟩
        rcases List.mem_cons.mp ht with rfl | ht
        · exact tie_mem et
        · exact h2 t ht
end Pw
namespace Ct
open PySem PySem.Spec PyProof.Rows L2 Pw
section
variable {K : PySem.W.Frag} {H H' : Hp}
theorem SameD.l (s : SameD H H') {a : Addr} {xs : List V} : SqL K H a xs → SqL K H' a xs
  | .inl (.inl h) => .inl (.inl (s _ _ h (by intro _ _ _ z; cases z)))
  | .inl (.inr ⟨o, h⟩) => .inl (.inr ⟨o, s _ _ h (by intro _ _ _ z; cases z)⟩)
  | .inr h => .inr h
theorem SameD.t (s : SameD H H') {a : Addr} {xs : List V} : SqT K H a xs → SqT K H' a xs
  | .inl (.inl h) => .inl (.inl (s _ _ h (by intro _ _ _ z; cases z)))
  | .inl (.inr ⟨o, h⟩) => .inl (.inr ⟨o, s _ _ h (by intro _ _ _ z; cases z)⟩)
  | .inr h => .inr h
theorem SameD.s (s : SameD H H') {a : Addr} {xs : List V} : SqS K H a xs → SqS K H' a xs
  | .inl h => .inl (s.l h)
  | .inr h => .inr (s.t h)
theorem SameD.ties (s : SameD H H') : ∀ {xs : List V} {ps : List (Str × Str)}, TiesAt K H xs ps → TiesAt K H' xs ps
  | _, _, .nil => .nil
  | _, _, .cons ⟨a, e, h⟩ t => .cons ⟨a, e, s.t h⟩ (SameD.ties s t)
theorem SameD.map (s : SameD H H') {D : Addr} {ns : List Str} {f : Str → List Str} : MapAt H D ns f → MapAt H' D ns f
  | ⟨kvs, l, h1, h2, h3, h4⟩ => ⟨kvs, l, s _ _ h1 (by intro _ _ _ z; cases z), h2, fun p hp => ⟨(h3 p hp).1, s _ _ (h3 p hp).2 (by intro _ _ _ z; cases z)⟩, h4⟩
mutual
theorem SameD.dp (s : SameD H H') : ∀ {v : V} {d : PyData}, Dp K H v d → Dp K H' v d
  | _, _, .non => .non
  | _, _, .bl b => .bl b
  | _, _, .int i => .int i
  | _, _, .str x => .str x
  | _, _, .lst h a => .lst (s.l h) (SameD.dps s a)
  | _, _, .tup h a => .tup (s.t h) (SameD.dps s a)
theorem SameD.dps (s : SameD H H') : ∀ {vs : List V} {ds : List PyData}, DpAll K H vs ds → DpAll K H' vs ds
  | _, _, .nil => .nil
  | _, _, .cons a b => .cons (SameD.dp s a) (SameD.dps s b)
end
end
end Ct
namespace Pw
open PySem PySem.Spec PyProof.Rows L2 Ct
section
variable {K : PySem.W.Frag} {H H' : Hp}
/-- tuple(xs) -/
theorem tuple_of {p : Addr} {ys : List V} {Q : VK} (h : SqS K H p ys) (k : ∀ t H', Same H H' → SqT K H' t ys → Q (.ref t) H') : (SqL K H p ys ∧ ∀ l, H l = none → Q (.ref l) (upd H l (.tup ys))) ∨ (SqT K H p ys ∧ Q (.ref p) H) := by
  rcases h with h | h
  · exact .inl ⟨h, fun l hl => k l _ (same_new hl) (SqT.of upd_same)⟩
  · exact .inr ⟨h, k p H (Same.refl H) h⟩
theorem dp_all {bs : List It2} (h : ∀ b ∈ bs, Dp K H b.1 b.2) : DpAll K H (bs.map (·.1)) (bs.map (·.2)) := by
  induction bs with
  | nil => exact .nil
  | cons b bs ih => exact .cons (h b List.mem_cons_self) (ih fun c hc => h c (List.mem_cons_of_mem _ hc))
theorem srt_map (bs : List It2) : (bs.mergeSort (W.dataLe false (·.2))).map (·.2) = srt (bs.map (·.2)) := by
  unfold srt
  exact List.map_mergeSort (fun a _ b _ => rfl)
theorem dp_srt {bs : List It2} (h : ∀ b ∈ bs, Dp K H b.1 b.2) : DpAll K H ((bs.mergeSort (W.dataLe false (·.2))).map (·.1)) (srt (bs.map (·.2))) := by
  rw [← srt_map]
  exact dp_all fun b hb => h b ((List.mergeSort_perm bs _).mem_iff.mp hb)
theorem sqT_lst {L a : Addr} {ys xs : List V} {o : HO} (h : H L = some (.lst ys)) (t : SqT K H a xs) : SqT K (upd H L o) a xs := by
  rcases t with (t | ⟨ob, t⟩) | t
  · exact .inl (.inl (by rw [upd_ne (ne_of t h (by intro z; cases z))]; exact t))
  · exact .inl (.inr ⟨ob, by rw [upd_ne (ne_of t h (by intro z; cases z))]; exact t⟩)
  · exact .inr t
def rTup (K : PySem.W.Frag) : List V → Hp → VK → Prop := fun xs H Q => ∃ (p : Addr) (ys : List V), xs = [.ref p] ∧ SqS K H p ys ∧ ∀ t H', Same H H' → SqT K H' t ys → Q (.ref t) H'
theorem call_tupS {X : Cx} : CallR X (.type "tuple") (rTup X.K) := by
  intro pins s σ H xs us Q I r h
  obtain ⟨p, ys, rfl, hs, k⟩ := h
  exact call_tuple_of pins s σ H _ us Q I r ⟨p, ys, rfl, tuple_of hs k⟩
/-- what stood before, x aside -/
def Off (x : Addr) (H H' : Hp) : Prop := ∀ b o, b ≠ x → H b = some o → H' b = some o
theorem Off.of {x : Addr} (s : Same H H') : Off x H H' := fun b o _ e => s b o e
theorem Off.trans {x : Addr} {H1 H2 : Hp} (s : Off x H H1) (t : Off x H1 H2) : Off x H H2 := fun b o n e => t b o n (s b o n e)
theorem Off.store {x : Addr} {o : HO} : Off x H (upd H x o) := fun b u n e => by rw [upd_ne n]; exact e
end
local macro_rules | `(tactic| wide_line) => `(tactic| repeat ((fail_if_success (with_reducible refine at_while ?_)); (fail_if_success (with_reducible refine at_while1 ?_)); (conv => whnf); first | ((with_reducible refine And.intro ?_ ?_); focus (first | (first | ((with_reducible show (_ : Nat) ≤ _); first | exact sz0 | exact sz1 | exact sz2 | exact sz3 | exact sz4 | exact sz5 | exact sz6 | exact sz7 | exact sz8 | exact sz10 | exact sz11 | exact sz12 | exact sz14 | omega | decide | (simp only [List.length_cons, List.length_nil]; omega)) | ((with_reducible show (_ : Int) ≤ _); first | omega | decide) | ((with_reducible show (_ : Int) < _); first | omega | decide) | ((with_reducible show (_ : Nat) < _); omega)) | ((fail_if_success (with_reducible show (_ : Nat) ≤ _)); (fail_if_success (with_reducible show (_ : Int) ≤ _)); (fail_if_success (with_reducible show (_ : Int) < _)); (fail_if_success (with_reducible show (_ : Nat) < _)); first | exact kv_str _ | exact kv_int _ | rfl | assumption | exact flat_strs _ | exact Lv.get (by assumption) 0 rfl | exact Lv.get (by assumption) 1 rfl | exact Lv.get (by assumption) 2 rfl | exact Lv.get (by assumption) 3 rfl | exact Lv.get (by assumption) 4 rfl | exact Lv.get (by assumption) 5 rfl | exact Lv.get (by assumption) 6 rfl | exact SqL.of (Lv.get (by assumption) 0 rfl) | exact SqL.of (Lv.get (by assumption) 1 rfl) | exact SqL.of (Lv.get (by assumption) 2 rfl) | exact SqL.of (Lv.get (by assumption) 3 rfl) | exact SqL.of (Lv.get (by assumption) 4 rfl) | exact SqL.of (Lv.get (by assumption) 5 rfl) | exact Or.inl (SqL.of (Lv.get (by assumption) 0 rfl)) | exact Or.inl (SqL.of (Lv.get (by assumption) 1 rfl)) | exact Or.inl (SqL.of (Lv.get (by assumption) 2 rfl)) | exact Or.inl (SqL.of (Lv.get (by assumption) 3 rfl)) | exact Or.inl (SqL.of (Lv.get (by assumption) 4 rfl)) | exact Or.inl (SqL.of (Lv.get (by assumption) 5 rfl)) | exact ⟨_, SqL.of (Lv.get (by assumption) 0 rfl)⟩ | exact ⟨_, SqL.of (Lv.get (by assumption) 1 rfl)⟩ | exact ⟨_, SqL.of (Lv.get (by assumption) 2 rfl)⟩ | exact ⟨_, SqL.of (Lv.get (by assumption) 3 rfl)⟩ | exact ⟨_, SqL.of (Lv.get (by assumption) 4 rfl)⟩ | exact ⟨_, SqL.of (Lv.get (by assumption) 5 rfl)⟩ | exact Or.inl ⟨_, SqL.of (Lv.get (by assumption) 0 rfl), rfl⟩ | exact Or.inl ⟨_, SqL.of (Lv.get (by assumption) 1 rfl), rfl⟩ | exact Or.inl ⟨_, SqL.of (Lv.get (by assumption) 2 rfl), rfl⟩ | exact Or.inl ⟨_, SqL.of (Lv.get (by assumption) 3 rfl), rfl⟩ | exact Or.inl ⟨_, SqL.of (Lv.get (by assumption) 4 rfl), rfl⟩ | exact Or.inl ⟨_, SqL.of (Lv.get (by assumption) 5 rfl), rfl⟩ | exact Or.inl ⟨rfl, _, SqL.of (Lv.get (by assumption) 0 rfl)⟩ | exact Or.inl ⟨rfl, _, SqL.of (Lv.get (by assumption) 1 rfl)⟩ | exact Or.inl ⟨rfl, _, SqL.of (Lv.get (by assumption) 2 rfl)⟩ | exact Or.inl ⟨rfl, _, SqL.of (Lv.get (by assumption) 3 rfl)⟩ | exact Or.inl ⟨rfl, _, SqL.of (Lv.get (by assumption) 4 rfl)⟩ | exact Or.inl ⟨rfl, _, SqL.of (Lv.get (by assumption) 5 rfl)⟩ | exact Or.inr (SqT.of (Lv.get (by assumption) 0 rfl)) | exact Or.inr (SqT.of (Lv.get (by assumption) 1 rfl)) | exact Or.inr (SqT.of (Lv.get (by assumption) 2 rfl)) | exact Or.inr (SqT.of (Lv.get (by assumption) 3 rfl)) | exact SqT.of (Lv.get (by assumption) 0 rfl) | exact SqT.of (Lv.get (by assumption) 1 rfl) | exact SqT.of (Lv.get (by assumption) 2 rfl) | exact dgetN (Lv.get (by assumption) 0 rfl) (by assumption) | exact dgetN (Lv.get (by assumption) 1 rfl) (by assumption) | exact dgetN (Lv.get (by assumption) 2 rfl) (by assumption) | exact dgetN (Lv.get (by assumption) 3 rfl) (by assumption) | exact dgetN (Lv.get (by assumption) 4 rfl) (by assumption) | decide | ((with_reducible show _ ∧ _); omega)))) | ((fail_if_success (with_reducible apply @Exists.intro (Nat → _))); (with_reducible apply Exists.intro))))
local macro_rules
  | `(tactic| wide_line with al $lv:ident $l:ident $nl:ident $H:ident $lv1:ident $s1:ident) => `(tactic| (intro $l:ident $nl:ident; generalize he : upd _ _ _ = $H:ident; have $lv1:ident := Lv.alE $lv $nl he; have $s1:ident := sameE $nl he; clear he; (try dsimp only at $lv1:ident)))
  | `(tactic| wide_line with alx $lv:ident $nl:ident $H:ident $lv1:ident $s1:ident) => `(tactic| (generalize he : upd _ _ _ = $H:ident; have $lv1:ident := Lv.alE $lv $nl he; have $s1:ident := sameE $nl he; clear he; (try dsimp only at $lv1:ident)))
  | `(tactic| wide_line with sts $lv:ident $i:num $H:ident $lv1:ident $s0:ident $np:ident $s1:ident) => `(tactic| (generalize he : upd _ _ _ = $H:ident; have $lv1:ident := Lv.stE $lv $i rfl he; have $s1:ident := sameN $s0 $np he; clear he; (try dsimp only at $lv1:ident)))
  | `(tactic| wide_line with stx $lv:ident $H:ident $lv1:ident $d1:ident) => `(tactic| (generalize he : upd _ _ _ = $H:ident; have $lv1:ident := Lv.stE $lv 0 rfl he; have $d1:ident := SameD.storeE (Lv.get $lv 0 rfl) he; clear he; (try dsimp only at $lv1:ident)))
  | `(tactic| wide_line with st $lv:ident $i:num $H:ident $lv1:ident) => `(tactic| (generalize he : upd _ _ _ = $H:ident; have $lv1:ident := Lv.stE $lv $i rfl he; clear he; (try dsimp only at $lv1:ident)))
  | `(tactic| wide_line with stk $lv:ident $i:num $H:ident $lv1:ident $k1:ident) => `(tactic| (generalize he : upd _ _ _ = $H:ident; have $lv1:ident := Lv.stE $lv $i rfl he; have $k1:ident := KeepT.st (Lv.get $lv $i rfl) he; clear he; (try dsimp only at $lv1:ident)))
/-- a heap without the lists that stood in another -/
def noLst (Z H : Hp) : Hp := fun b => match Z b with
  | some (.lst _) => none
  | _ => H b
theorem noLst_sub {Z H : Hp} : Same (noLst Z H) H := fun b o e => by
  unfold noLst at e
  split at e
  · cases e
  · exact e
theorem noLst_at {Z H : Hp} {b : Addr} {o : HO} (n : ∀ xs, Z b ≠ some (.lst xs)) (e : H b = some o) : noLst Z H b = some o := by
  unfold noLst
  split
  · rename_i xs h
    exact absurd h (n xs)
  · exact e
theorem noLst_new {Z H : Hp} {b : Addr} {o : HO} (n : Z b = none) (e : H b = some o) : noLst Z H b = some o := noLst_at (fun xs z => by rw [n] at z; cases z) e
theorem noLst_keep {Z H : Hp} {b : Addr} {o : HO} (nl : ∀ b xs, Z b = some (.lst xs) → H b = some (.lst xs)) (e : H b = some o) (no : ∀ xs, o ≠ .lst xs) : noLst Z H b = some o := noLst_at (fun xs z => no xs (by have := nl b xs z; rw [e] at this; exact Option.some.inj this)) e
theorem noLst_t {K : PySem.W.Frag} {Z H : Hp} {b : Addr} {xs : List V} (nl : ∀ b xs, Z b = some (.lst xs) → H b = some (.lst xs)) (h : SqT K H b xs) : SqT K (noLst Z H) b xs := by
  rcases h with (h | ⟨o, h⟩) | h
  · exact .inl (.inl (noLst_keep nl h fun _ z => nomatch z))
  · exact .inl (.inr ⟨o, noLst_keep nl h fun _ z => nomatch z⟩)
  · exact .inr h
theorem noLst_ties {K : PySem.W.Frag} {Z H : Hp} (nl : ∀ b xs, Z b = some (.lst xs) → H b = some (.lst xs)) : ∀ {xs : List V} {ts : List (Str × Str)}, TiesAt K H xs ts → TiesAt K (noLst Z H) xs ts
  | _, _, .nil => .nil
  | _, _, .cons ⟨a, e, h⟩ t => .cons ⟨a, e, noLst_t nl h⟩ (noLst_ties nl t)
theorem MapOn.new {Z H0 H : Hp} {D : Addr} {ns : List Str} {f : Str → List Str} (g : ∀ b, H0 b = none → Z b = none) : MapOn H0 H D ns f → MapOn Z H D ns f
  | ⟨kvs, l, h1, h2, h3, h4⟩ => ⟨kvs, l, h1, h2, fun p hp => ⟨(h3 p hp).1, (h3 p hp).2.1, g _ (h3 p hp).2.2⟩, h4⟩
theorem MapOn.keepD {Z H H' : Hp} {D : Addr} {ns : List Str} {f : Str → List Str} (s : SameD H H') : MapOn Z H D ns f → MapOn Z H' D ns f
  | ⟨kvs, l, h1, h2, h3, h4⟩ => ⟨kvs, l, s _ _ h1 (fun _ _ _ z => nomatch z), h2, fun p hp => ⟨(h3 p hp).1, s _ _ (h3 p hp).2.1 (fun _ _ _ z => nomatch z), (h3 p hp).2.2⟩, h4⟩
theorem MapOn.apart {Z H : Hp} {D : Addr} {ns : List Str} {f : Str → List Str} (nl : ∀ b xs, Z b = some (.lst xs) → H b = some (.lst xs)) : MapOn Z H D ns f → MapAt (noLst Z H) D ns f
  | ⟨kvs, l, h1, h2, h3, h4⟩ => ⟨kvs, l, noLst_keep nl h1 (fun _ z => nomatch z), h2, fun p hp => ⟨(h3 p hp).1, noLst_new (h3 p hp).2.2 (h3 p hp).2.1⟩, h4⟩
/-- a text, or a tuple of two -/
def flatE (d : PyData) : Prop := (∃ x, d = .str x) ∨ ∃ x y, d = .tuple [.str x, .str y]
theorem noLst_dps {K : PySem.W.Frag} {Z H : Hp} (nl : ∀ b xs, Z b = some (.lst xs) → H b = some (.lst xs)) : ∀ {xs : List V} {ds : List PyData}, DpAll K H xs ds → (∀ d ∈ ds, flatE d) → DpAll K (noLst Z H) xs ds
  | _, _, .nil, _ => .nil
  | _, _, .cons h t, f => .cons (by
      rcases f _ List.mem_cons_self with ⟨x, rfl⟩ | ⟨x, y, rfl⟩
      · cases h; exact .str x
      · cases h with
        | tup ht ha =>
          cases ha with
          | cons h1 ha =>
            cases ha with
            | cons h2 ha =>
              cases ha
              cases h1
              cases h2
              exact .tup (noLst_t nl ht) (.cons (.str x) (.cons (.str y) .nil))) (noLst_dps nl t fun d hd => f d (List.mem_cons_of_mem _ hd))
theorem noLst_dp {K : PySem.W.Frag} {Z H : Hp} {a : Addr} {ds : List PyData} (nl : ∀ b xs, Z b = some (.lst xs) → H b = some (.lst xs)) (na : Z a = none) (h : Dp K H (.ref a) (.list ds)) (f : ∀ d ∈ ds, flatE d) : Dp K (noLst Z H) (.ref a) (.list ds) := by
  cases h with
  | lst hs ha =>
    refine .lst ?_ (noLst_dps nl ha f)
    rcases hs with (h | ⟨o, h⟩) | h
    · exact .inl (.inl (noLst_new na h))
    · exact .inl (.inr ⟨o, noLst_new na h⟩)
    · exact .inr h
/-- what a web's memory takes -/
def gameRef : V → Option Addr
  | .ref g => some g
  | _ => none
def areaKd (H : Hp) (kd : Addr) : List Addr := match H kd with
  | some (.dK kvs) => kd :: kvs.filterMap fun p => gameRef p.2
  | _ => [kd]
def areaW (H : Hp) (x : Addr) : List Addr := match H x with
  | some (.ins _ _ fs) => (match fs.lookup ("_kept" : Str) with
    | some (.ref kd) => areaKd H kd
    | _ => [])
  | _ => []
theorem areaW_at {H : Hp} {x C dx kd : Addr} {fs : List (Str × V)} {kvs : List (Key × V)} (h : H x = some (.ins C dx fs)) (e : fs.lookup ("_kept" : Str) = some (.ref kd)) (h2 : H kd = some (.dK kvs)) : areaW H x = kd :: kvs.filterMap fun p => gameRef p.2 := by
  unfold areaW areaKd
  rw [h]
  dsimp only
  rw [e]
  dsimp only
  rw [h2]
theorem WebAt.area {K : PySem.W.Frag} {C : Addr} {H : Hp} {x : Addr} {ns : List Str} {ts : List (Str × Str)} (h : WebAt K C H x ns ts) : ∃ (dx : Addr) (fs : List (Str × V)) (kd : Addr) (kvs : List (Key × V)), H x = some (.ins C dx fs) ∧ fs.lookup ("_kept" : Str) = some (.ref kd) ∧ H kd = some (.dK kvs) ∧ kd ≠ x ∧
    areaW H x = kd :: kvs.filterMap (fun p => gameRef p.2) ∧ (kvs = [] ∨ ∃ g, kvs = [(.inr "guard", .ref g)] ∧ GameAt K H g (oneG ns ts)) := by
  obtain ⟨dx, tp, tt, sg, sn, sp, sq, rk, xs, h1, h2, h3, h4, h5, h6, ⟨kd, rfl, hk, hc⟩, h8, h9⟩ := h.ex
  rcases hc with e | ⟨g, e, z⟩
  · exact ⟨dx, _, kd, [], h1, rfl, e, (fun z => by rw [z, h1] at e; cases e), areaW_at h1 rfl e, .inl rfl⟩
  · exact ⟨dx, _, kd, _, h1, rfl, e, (fun z => by rw [z, h1] at e; cases e), areaW_at h1 rfl e, .inr ⟨g, rfl, z⟩⟩
theorem areaW_same {K : PySem.W.Frag} {C : Addr} {H H' : Hp} {x : Addr} {ns : List Str} {ts : List (Str × Str)} (s : Same H H') (h : WebAt K C H x ns ts) : areaW H' x = areaW H x := by
  obtain ⟨dx, fs, kd, kvs, h1, h2, h3, _, h4, _⟩ := h.area
  rw [h4, areaW_at (s _ _ h1) h2 (s _ _ h3)]
theorem areaW_in {K : PySem.W.Frag} {C : Addr} {H : Hp} {x b : Addr} {ns : List Str} {ts : List (Str × Str)} (h : WebAt K C H x ns ts) (hb : b ∈ areaW H x) : H b ≠ none := by
  obtain ⟨dx, fs, kd, kvs, h1, h2, h3, _, h4, h5⟩ := h.area
  rw [h4] at hb
  rcases List.mem_cons.mp hb with rfl | hb
  · rw [h3]; exact fun z => nomatch z
  · rcases h5 with rfl | ⟨g, rfl, hg⟩
    · cases hb
    · obtain rfl : b = g := List.mem_singleton.mp hb
      obtain ⟨_, _, _, _, _, _, _, _, _, _, _, _, h, _⟩ := hg.ex
      rw [h]; exact fun z => nomatch z
/-- a web made behind Z: it shares no list of Z, and its memory is its own -/
structure FreshW (K : PySem.W.Frag) (C : Addr) (Z H : Hp) (x : Addr) (ns : List Str) (ts : List (Str × Str)) : Prop where
  web : WebAt K C (noLst Z H) x ns ts
  own : ∀ b ∈ areaW (noLst Z H) x, Z b = none
/-- what a new web promises -/
def spInit (K : PySem.W.Frag) (C CP CS CT : Addr) : Sp := fun vs H Q E => ∃ (x dx : Addr) (v tv : V) (d td : PyData), vs = [.ref x, v, tv] ∧ H x = some (.ins C dx []) ∧ Dq K H v d ∧ txtOk d ∧ Dq K H tv td ∧
  (placesOf d = none → Raised CP "value" H v E) ∧ ∀ ns, placesOf d = some ns → (seqD td = none → Raised CS "value" H tv E) ∧ ∀ tds, seqD td = some tds → (∀ e ∈ tds, plainTie e) ∧ tds.length ≤ 75 ∧
    (∀ i, tieBad ns [] 0 tds = some i → Raised CT "position" H (.int i) E) ∧ (tieBad ns [] 0 tds = none → ∀ H', (∀ b o, b ≠ x → H b = some o → H' b = some o) → FreshW K C H H' x ns (tiesD ns tds) → Q .non H')
section
variable {P : Program} {w : World} {K : PySem.W.Frag} {mg : Str → Option Value} {base : Heap} {C CP CS CT T0 fa : Addr} {fd : FuncData}
abbrev sInit : Stmt := inClass (top ix_Web) mx_Web_init
theorem scInit : FnScope ["self", "places", "ties", "place", "sight", "tie"] ["self", "places", "ties"] (defScope sInit) := ⟨rfl, rfl, rfl, by decide +kernel, rfl, by decide +kernel, by decide +kernel⟩
theorem ok_init (T : Bn mg) (X : WC K C) (F : FunD K "__init__" "Web.__init__" (defArgs sInit) (defBody sInit) (defScope sInit) [.ref T0] [] fa fd) (h_check_places : HasR P w K mg base 3 "_check_places" ["places"] (spCheckPlaces K CP)) (h_check_ties : HasR P w K mg base 3 "_check_ties" ["places", "known", "ties"] (spCheckTies K CS CT))
    (h_sights : Has P w K mg base CX0 1 "_sights" ["places", "ties"] (spSights K)) (h_pair : Has P w K mg base CX0 1 "_pair" ["tie"] (spPair K)) (hM_named : HasM P w K mg base CX0 2 C "named" ["self", "number"] (spNamed K C)) : FnOk P w K mg base (L2.CX P w) 4 fa fd ["self", "places", "ties"] (spInit K C CP CS CT) := by
  refine F.ok scInit (fun vs H Q E h => ?_) (fun cdv A outer s H vs Q E hr h => ?_)
  · obtain ⟨x, dx, v, tv, d, td, rfl, _⟩ := h; rfl
  · obtain ⟨x, dx, v, tv, d, td, rfl, hx, hd, ok, htd, kp, kt⟩ := h
    have nd := scInit.nd
    refine ⟨_, (pss_cons (ps_expr (pe_hR h_check_places (takes_of rfl rfl rfl rfl) hr (by decide) rfl (pa_cons (pv 1) pa_nil)))
    (pss_cons (ps_expr (pe_hR h_check_ties (takes_of rfl rfl rfl rfl) hr (by decide) rfl (pa_cons (pv 1) (pa_cons (pe_tup pa_nil) (pa_cons (pv 2) pa_nil)))))
    (pss_cons (ps_fld (pv 0) (pe_callTy call_tupS (by rfl) T.z_tuple (by decide +kernel) (pa_cons (pv 1) pa_nil)) rfl)
    (pss_cons (ps_fld (pv 0) (pe_callTy call_tupS (by rfl) T.z_tuple (by decide +kernel) (pa_cons (pv 2) pa_nil)) rfl)
    (pss_cons (ps_fld (pv 0) (pe_h h_sights hr (by decide) rfl (pa_cons (pe_fld (pv 0) rfl) (pa_cons (pe_fld (pv 0) rfl) pa_nil))) rfl)
    (pss_cons (ps_fld (pv 0) (pe_dc (own := [("place", 3), ("sight", 4)]) (g := _) (tt := tYes) rfl nd (RZ.pi_zipA rfl T.z_zip (pa_cons (pe_fld (pv 0) rfl) (pa_cons (pe_fld (pv 0) rfl) pa_nil))) (blkOk_by (own := [("place", 3), ("sight", 4)]) (N := ["self", "places", "ties", "place", "sight", "tie"]) (sc := defScope sInit) (by decide +kernel)) (fun _ _ _ _ _ => (pg_tupk (K := K) (n := 2) rfl rfl (pgs_cons (pg_name (i := 3) nd rfl (by first | exact Or.inl rfl | exact Or.inr rfl)) (pgs_cons (pg_name (i := 4) nd rfl (by first | exact Or.inl rfl | exact Or.inr rfl)) pgs_nil)))) (fun _ _ _ _ _ => pts_nil) (fun _ _ _ _ _ => (pv 3)) (fun _ _ _ _ _ => (pe_hM hM_named X.cls hr (by decide) (pv 0) (pa_cons (pv 4) pa_nil)))) rfl)
    (pss_cons (ps_fld (pv 0) pe_dnewK rfl)
    (pss_cons (ps_fld (pv 0) (pe_callB (call_sortD hr.units) (by rfl) T.z_sorted (by decide +kernel) (pa_cons (pe_fld (pv 0) rfl) pa_nil)) rfl)
    (pss_one (ps_fld (pv 0) (pe_callB (call_sortD hr.units) (by rfl) T.z_sorted (by decide +kernel) (pa_cons (pe_lc (own := [("tie", 5)]) (g := gName 5) (tt := tYes) rfl nd (pi_sq (pe_fld (pv 0) rfl)) (blkOk_by (own := [("tie", 5)]) (N := ["self", "places", "ties", "place", "sight", "tie"]) (sc := defScope sInit) (by decide +kernel)) (fun _ _ _ _ _ => (pg_name (i := 5) nd rfl (by first | exact Or.inl rfl | exact Or.inr rfl))) (fun _ _ _ _ _ => pts_nil) (fun _ _ _ _ _ => (pe_h h_pair hr (by decide) rfl (pa_cons (pv 5) pa_nil)))) pa_nil)) rfl)))))))))), ?_⟩
    have lv := Lv.one hx
    -- the places
    refine ⟨_, rfl, v, d, rfl, hd, ok, fun hp H1 s1 => ?_, fun z => kp z⟩
    obtain ⟨ns, ep⟩ := Option.isSome_iff_exists.mp hp
    obtain ⟨kt1, kt2⟩ := kt ns ep
    obtain ⟨a, rfl, ha, nd1, l1, l12⟩ := places_at hd ep
    have lv1 := lv.same s1
    -- the ties
    wide_line
    wide_line with al lv1 kt nkt H2 lv2 s2
    have s02 := s1.trans s2
    have hkt : SqS K H2 kt [] := .inr (SqT.of (lv2.get 0 rfl))
    have lift : ∀ {C' : Addr} {f : Str} {z : V}, Raised C' f H z E → Raised C' f H2 z E := fun r e H' s he hH => r e H' (s02.trans s) (free_of s02 he) hH
    refine ⟨_, rfl, a, kt, ns, [], [], tv, td, rfl, ha.same s02, hkt, .nil, Dq.same s02 htd, fun z => lift (kt1 z), fun tds es => ?_⟩
    obtain ⟨pl, few, kb, kg⟩ := kt2 tds es
    refine ⟨pl, by simpa using few, fun gd H3 s3 => ?_, fun i z => lift (kb i z)⟩
    have s4 := s02.trans s3
    have gd : tieBad ns [] 0 tds = none := gd
    obtain ⟨tva, txs, rfl, hts, hta, htl⟩ := seq_of htd es
    obtain ⟨tat, tin⟩ := ties_ok hta gd
    have tlen : (tiesD ns tds).length ≤ tds.length := List.length_filterMap_le _ _
    generalize tiesD ns tds = tsx at *
    have lv3 := (lv2.same s3).picks [1] rfl (by decide) (by simp)
    -- the fields
    refine ⟨_, rfl, a, _, rfl, ha.same s4, fun tp H4 s5 htp => ?_⟩
    have c1 := X.cls
    obtain ⟨_, n1, n2, n3, n4, n5, n6, n7⟩ := id X
    have lv4 := lv3.same s5
    wide_line
    refine ⟨(by show 0 < 1000; decide), ?_⟩
    wide_line with stx lv4 H5 lv5 d5
    have lv5 := lv5.re (l' := [(x, .ins C dx [("_places", .ref tp)])]) rfl
    have D05 : SameD H H5 := (SameD.of (s4.trans s5)).trans d5
    have htp5 := d5.t htp
    wide_line
    refine ⟨D05.s hts, fun tt H6 s6 htt => ?_⟩
    have lv6 := lv5.same s6
    wide_line
    refine ⟨(by show 1 < 1000; decide), ?_⟩
    wide_line with stx lv6 H7 lv7 d7
    have lv7 := lv7.re (l' := [(x, .ins C dx [("_places", .ref tp), ("_ties", .ref tt)])]) rfl
    have D57 : SameD H5 H7 := (SameD.of s6).trans d7
    have htt7 := d7.t htt
    have htp7 := D57.t htp5
    have tat7 := (D05.trans D57).ties tat
    wide_line
    refine ⟨.inr htp7, nd1, by omega, .inr htt7, tat7, tin, by omega, fun sg H8 s8 nsg hsg => ?_⟩
    have lv8 := lv7.same s8
    wide_line
    refine ⟨(by show 2 < 1000; decide), ?_⟩
    wide_line with stx lv8 H9 lv9 d9
    have lv9 := lv9.re (l' := [(x, .ins C dx [("_places", .ref tp), ("_ties", .ref tt), ("_sights", .ref sg)])]) rfl
    have D79 : SameD H7 H9 := (SameD.of s8).trans d9
    have hsg9 : SqT K H9 sg (ns.map fun p => natV (sightN ns tsx p)) := d9.t (SqT.of hsg)
    have htp9 := D79.t htp7
    wide_line
    refine .inr ⟨htp9, hsg9, ?_⟩
    intro D nD
    have lvD := lv9.al (o := .dK []) nD
    have hN : ns.length = ns.length := rfl
    refine dc_it (walk_zipT rfl) (fun i H' => Hold (∃ kvs, Lv H [x] H' [(D, .dK kvs), (x, .ins C dx [("_places", .ref tp), ("_ties", .ref tt), ("_sights", .ref sg)])] ∧ Same H9 H' ∧ MapOn H9 H' D (ns.take i) (seenOf ns tsx)))
      ⟨[], lvD, same_new nD, [], fun _ => 0, upd_same, Nat.le_refl _, (fun p hp => by simp at hp), (fun p hp => by simp at hp)⟩ (fun i H' _ ⟨_, _, z, _⟩ => ⟨same_t z htp9, same_t z hsg9⟩) ?_ ?_
    · rintro i y H10 H11 hi ⟨kvs, lv10, s10, m10⟩ ⟨T, x1, x2, rfl, hT, rfl, ex1, ex2⟩
      obtain ⟨p, hp, rfl⟩ := str_at ex1
      obtain rfl : x2 = natV (sightN ns tsx p) := by
        have ex2 : (ns.map fun p => natV (sightN ns tsx p))[i]? = some x2 := ex2
        rw [List.getElem?_map, hp] at ex2
        exact (Option.some.inj ex2).symm
      have hi' : i < ns.length := by
        have := (List.getElem?_eq_some_iff.mp hp).1
        exact this
      wide_line with alx lv10 hT H12 lv12 s12
      wide_line
      refine ⟨same_t (s10.trans s12) htp9, sight_lt ns tsx p, by omega, fun l H13 s13 nl hl => ?_⟩
      have lv13 := lv12.same s13
      rw [pick_sight] at hl
      obtain ⟨kvs', e1, e2, m13⟩ := m10.snoc (p := p) (s12.trans s13) (free_of s12 nl) hl (free_of (s10.trans s12) nl) (fun z => by
        obtain ⟨j, hj⟩ := List.mem_iff_getElem?.mp z
        have jl : j < i := by
          have := (List.getElem?_eq_some_iff.mp hj).1
          rw [List.length_take] at this
          omega
        rw [List.getElem?_take_of_lt jl] at hj
        exact absurd (idx_inj nd1 hj hp) (by omega))
      wide_line
      obtain rfl : kvs' = kvs := by
        have := lv13.get 1 rfl
        rw [e1] at this
        cases this
        rfl
      refine ⟨by have := List.length_take_le i ns; rw [sizeLine_eq]; omega, ?_⟩
      have sE : Same H9 (upd H13 D (.dK (putK kvs' (.inr p) (.ref l)))) := same_upd (s10.trans (s12.trans s13)) nD
      generalize he : upd H13 D (.dK (putK kvs' (.inr p) (.ref l))) = H14 at sE m13
      have lv14 := lv13.stE 1 rfl he
      refine ⟨_, lv14.picks [1, 2] rfl (by decide) (by simp), sE, ?_⟩
      rw [take_next2 hp]
      exact m13
    · rintro H10 ⟨kvs, lv10, s10, m10⟩
      rw [show min (ns.map V.str).length (ns.map fun p => natV (sightN ns tsx p)).length = ns.length by simp, List.take_length] at m10
      have D910 := SameD.of s10
      have lv10 := lv10.picks [1, 0] rfl (by decide) (by simp)
      wide_line
      refine ⟨(by show 3 < 1000; decide), ?_⟩
      wide_line with stx lv10 H11 lv11 d11
      have D911 := D910.trans d11
      wide_line
      wide_line with al lv11 kd nkd Hk lvk sk
      have D9k := D911.trans (.of sk)
      have lvk := lvk.picks [1, 2, 0] rfl (by decide) (by simp)
      wide_line
      refine ⟨(by show 4 < 1000; decide), ?_⟩
      wide_line with stx lvk H12 lv12 d12
      have D912 := D9k.trans d12
      have lv12 := lv12.re (l' := [(x, .ins C dx [("_places", .ref tp), ("_ties", .ref tt), ("_sights", .ref sg), ("_seen", .ref D), ("_kept", .ref kd)]), (D, .dK kvs), (kd, .dK [])]) rfl
      have htx : ∀ {G : Hp}, ∀ b ∈ Ct.txs ns, Dp K G b.1 b.2 := fun {G} b hb => by
        obtain ⟨n, _, rfl⟩ := List.mem_map.mp hb
        exact .str n
      wide_line
      refine ⟨.inr (by rw [txs_fst]; exact D912.t htp9), htx, (txs_ok ns).1, (txs_ok ns).2, ?_, ?_⟩
      · intro b hb
        obtain ⟨n, _, rfl⟩ := List.mem_map.mp hb
        simp [PyData.depth]
      wide_line with al lv12 sp nsp H13 lv13 s13
      have hsp : Dp K H13 (.ref sp) (.list (srt (ns.map PyData.str))) := by
        rw [← txs_snd]
        exact .lst (SqL.of (lv13.get 0 rfl)) (dp_srt htx)
      have lv13 := lv13.picks [1, 2, 3] rfl (by decide) (by simp)
      wide_line
      refine ⟨(by show 5 < 1000; decide), ?_⟩
      wide_line with stx lv13 H14 lv14 d14
      have lv14 := lv14.re (l' := [(x, .ins C dx [("_places", .ref tp), ("_ties", .ref tt), ("_sights", .ref sg), ("_seen", .ref D), ("_kept", .ref kd), ("_sorted_places", .ref sp)]), (D, .dK kvs), (kd, .dK [])]) rfl
      have D914 := (D912.trans (.of s13)).trans d14
      have hsp14 := d14.dp hsp
      have D714 := D79.trans D914
      have htt14 := D714.t htt7
      have tat14 := D714.ties tat7
      have xl : txs.length = tsx.length := paired_len tat14
      -- the sorted pairs
      wide_line
      refine ⟨.inr htt14, fun J G ex hG wk L nL => ?_⟩
      refine lc_it wk (fun i H' => Hold (Same H14 H' ∧ ∃ ps : List (Addr × Str × Str), H' L = some (.lst (ps.map fun p => V.ref p.1)) ∧ ps.map (·.2) = (tsx.take i).map pairP ∧ ∀ p ∈ ps, TupS K H' p.1 p.2)) ⟨same_new nL, [], upd_same, rfl, fun p hp => by cases hp⟩ (fun i H' _ p => hG H' (.same p.out.1)) ?_ ?_
      · rintro i y H15 H16 hi ⟨s15, ps, hL, hps, hpt⟩ ⟨rfl, hyi⟩
        obtain ⟨p, b, hp, rfl, hb⟩ := ties_at (tat14.same s15) hyi
        refine ⟨rfl, _, rfl, b, p.1, p.2, rfl, hb, fun c hc => ?_⟩
        have s16 := same_new (o := .tup [.str (pairS p.1 p.2).1, .str (pairS p.1 p.2).2]) hc
        refine ⟨_, s16 _ _ hL, ?_, same_upd (s15.trans s16) nL, ps ++ [(c, pairP p)], by rw [upd_same, List.map_append]; rfl, by rw [List.map_append, hps, List.take_succ, hp]; simp, fun r hr => ?_⟩
        · have e := congrArg List.length hps
          rw [List.length_map, List.length_map] at e
          have := List.length_take_le i tsx
          rw [List.length_map, sizeLine_eq]
          omega
        · have hL16 := s16 _ _ hL
          rcases List.mem_append.mp hr with hr | hr
          · exact sqT_lst hL16 (same_t s16 (hpt r hr))
          · rw [List.mem_singleton.mp hr]
            exact sqT_lst hL16 (SqT.of upd_same)
      · rintro H15 ⟨s15, ps, hL, hps, hpt⟩
        rw [xl, List.take_length] at hps
        have lv15 := lv14.same s15
        have hpd : ∀ b ∈ Ct.prs ps, Dp K H15 b.1 b.2 := fun b hb => by
          obtain ⟨r, hr, rfl⟩ := List.mem_map.mp hb
          exact .tup (hpt r hr) (.cons (.str _) (.cons (.str _) .nil))
        have ed : (Ct.prs ps).map (·.2) = tsx.map pairD := by
          have e1 : (Ct.prs ps).map (·.2) = (ps.map (·.2)).map fun q => PyData.tuple [.str q.1, .str q.2] := by
            unfold Ct.prs
            rw [List.map_map, List.map_map]
            rfl
          rw [e1, hps, List.map_map]
          rfl
        wide_line
        refine ⟨.inl (by rw [prs_fst]; exact SqL.of hL), hpd, (prs_ok ps).1, (prs_ok ps).2, ?_, ?_⟩
        · intro b hb
          obtain ⟨r, _, rfl⟩ := List.mem_map.mp hb
          simp [PyData.depth, PyData.depthAll]
        wide_line with al lv15 sq nsq H16 lv16 s16
        have hsq : Dp K H16 (.ref sq) (.list (srt (tsx.map pairD))) := by
          rw [← ed]
          exact .lst (SqL.of (lv16.get 0 rfl)) (SameD.dps (.of s16) (dp_srt hpd))
        have lv16 := lv16.picks [1, 2, 3] rfl (by decide) (by simp)
        wide_line
        refine ⟨(by show 6 < 1000; decide), ?_⟩
        wide_line with stx lv16 H17 lv17 d17
        have D1417 := (SameD.of (s15.trans s16)).trans d17
        have D917 := D914.trans D1417
        have nl : ∀ b xs, H b = some (.lst xs) → H17 b = some (.lst xs) := fun b xs z => lv17.off b _ (fun q => by subst q; rw [hx] at z; cases z) z
        have mem : ∀ {ds : List PyData} {d : PyData}, d ∈ srt ds → d ∈ ds := fun {ds d} hd => (List.mergeSort_perm ds _).mem_iff.mp hd
        have ea : areaW (noLst H H17) x = kd :: (List.filterMap (fun p : Key × V => gameRef p.2) []) := areaW_at (noLst_at (fun _ z => by rw [hx] at z; cases z) (lv17.get 0 rfl)) rfl (noLst_keep nl (lv17.get 2 rfl) (fun _ z => nomatch z))
        refine kg gd _ lv17.off ⟨⟨⟨dx, tp, tt, sg, D, sp, sq, .ref kd, txs, noLst_at (fun _ z => by rw [hx] at z; cases z) (lv17.get 0 rfl), noLst_t nl (D917.t htp9), noLst_t nl (D1417.t htt14), noLst_ties nl (D1417.ties tat14), noLst_t nl (D917.t hsg9), ?_, ⟨kd, rfl, lv17.ne 2 1 (by decide) rfl rfl, .inl (noLst_keep nl (lv17.get 2 rfl) (fun _ z => nomatch z))⟩, noLst_dp nl (lv12.free nsp) (D1417.dp hsp14) (fun d hd => ?_), noLst_dp nl (lv15.free nsq) (d17.dp hsq) (fun d hd => ?_)⟩⟩, fun b hb => (by
          rw [ea] at hb
          obtain rfl : b = kd := List.mem_singleton.mp hb
          exact lv11.free nkd)⟩
        · exact (MapOn.keepD (((SameD.of (s13)).trans d14).trans D1417) (MapOn.keepD ((SameD.of sk).trans d12) (MapOn.keepD d11 (m10.new fun b z => lv9.free z)))).apart nl
        · obtain ⟨x, _, rfl⟩ := List.mem_map.mp (mem hd)
          exact .inl ⟨x, rfl⟩
        · obtain ⟨t, _, rfl⟩ := List.mem_map.mp (mem hd)
          exact .inr ⟨_, _, rfl⟩
end
end Pw

set_option Elab.async false
set_option linter.all false
set_option maxRecDepth 100000
set_option maxHeartbeats 2000000
/-! Own kit Zb: x in a tuple of data. -/
namespace Ct
open PySem PySem.Spec PyProof.Rows L2
def rInTD (K : PySem.W.Frag) (neg : Bool) : R2 := fun x y H Q => ∃ d ds, Dp K H x d ∧ Dp K H y (.tuple ds) ∧ SeqAt.shaped d = true ∧ SeqAt.shaped (.list ds) = true ∧ Q (.bl (if neg then !ds.any fun z => PyData.eqv z d else ds.any fun z => PyData.eqv z d)) H
section
variable {X : Cx} {K : PySem.W.Frag}
theorem op_inTD (hK : X.K = K) (hu : X.A.units + 65 < cLine) : OpR X (compareOp .In) (rInTD K false) := by
  subst hK
  intro pins s σ H x y v u Q I rx ry h
  obtain ⟨d, ds, hd, he, sd, se, q⟩ := h
  obtain ⟨as, r1⟩ := Dp.reads I d x v hd rx
  obtain ⟨bs, r2⟩ := Dp.reads I (.tuple ds) y u he ry
  exact SeqAt.in_tuple_reads r2 r1 (SeqAt.canLay_of_shaped se) (SeqAt.canLay_of_shaped sd) (room_in_shaped sd hu) ⟨.bl _, H, I, rfl, q⟩
theorem op_notInTD (hK : X.K = K) (hu : X.A.units + 65 < cLine) : OpR X (compareOp .NotIn) (rInTD K true) := by
  subst hK
  intro pins s σ H x y v u Q I rx ry h
  obtain ⟨d, ds, hd, he, sd, se, q⟩ := h
  obtain ⟨as, r1⟩ := Dp.reads I d x v hd rx
  obtain ⟨bs, r2⟩ := Dp.reads I (.tuple ds) y u he ry
  exact SeqAt.notIn_tuple_reads r2 r1 (SeqAt.canLay_of_shaped se) (SeqAt.canLay_of_shaped sd) (room_in_shaped sd hu) ⟨.bl _, H, I, rfl, q⟩
end
end Ct

set_option Elab.async false
set_option linter.all false
set_option maxRecDepth 100000
set_option maxHeartbeats 2000000
/-! Own kit Zc: a text against a dict. -/
namespace PySem.SeqAt
open PySem PySem.Spec PySem.Calls Builtin
theorem sub_dict_str : isSubtype (.type "dict") (.type "str") = pure false := by kernel_rfl
theorem sub_str_dict : isSubtype (.type "str") (.type "dict") = pure false := by kernel_rfl
theorem dict_eq_declines_str (l : Addr) (es : Array DictEntry) (n : Nat) (dd : Option Addr) (sl : Array (Option Value)) (b : Str) (u : Tok) :
    Meets (Builtin.«dict.__eq__» ⟨[.ref l, .str b u], []⟩) (fun _ R s => s.heap.get? l = some { cls := .type "dict", dict := dd, data := .dict es n, slots := sl } ∧ R (.ok (.ret .notImplemented)) s) :=
  .of_wp fun prog w A R s h => by obtain ⟨hp, g, d, tk, os⟩ := s; obtain ⟨hl, h⟩ := h; have f1 := sub_str_dict; wp_walk using wpAny_loadPart' hl; exact ⟨_, rfl, h⟩
theorem str_eq_declines_dict (b : Str) (u : Tok) (l : Addr) (es : Array DictEntry) (n : Nat) (dd : Option Addr) (sl : Array (Option Value)) :
    Meets (Builtin.«str.__eq__» ⟨[.str b u, .ref l], []⟩) (fun _ R s => s.heap.get? l = some { cls := .type "dict", dict := dd, data := .dict es n, slots := sl } ∧ R (.ok (.ret .notImplemented)) s) :=
  .of_wp fun prog w A R s h => by obtain ⟨hp, g, d, tk, os⟩ := s; obtain ⟨hl, h⟩ := h; wp_walk using wpAny_loadPart' hl, wpAny_load hl; exact ⟨_, rfl, h⟩
section
variable {A : Around} {s : Shared}
/-- a dict at l -/
def IsDictAt (h : Heap) (l : Addr) : Prop := ∃ (es : Array DictEntry) (n : Nat) (dd : Option Addr) (sl : Array (Option Value)), h.get? l = some { cls := .type "dict", dict := dd, data := .dict es n, slots := sl }
theorem RcAt.str_dict {l : Addr} (b : Str) (u : Tok) (hl : IsDictAt s.heap l) (hu : A.units < cLine) : RcAt A s (.str b u) (.ref l) false := fun prog w E Q h => by
  obtain ⟨es, n, dd, sl, ho⟩ := hl
  exact rc_eq_decline_or (k := false) (typeIs_str s b u) ⟨_, ho, rfl⟩ (by decide) sub_dict_str F.slot_str_eq F.slot_dict_eq_refl
    (fun _ hq => call_meets F.slot_str_eq (typeIs_str s b u) F.entry_str_eq (F.args_str_eq_2 _ _) (str_eq_declines_dict b u l es n dd sl) ⟨ho, hq⟩)
    (fun _ hq => call_meets F.slot_dict_eq_refl ⟨_, ho, rfl⟩ F.entry_dict_eq (F.args_dict_eq_2 _ _) (dict_eq_declines_str l es n dd sl b u) ⟨ho, hq⟩)
    (fun _ hq => wpAny_of_eq (rfl : isSame (.str b u) (.ref l) = pure false) hq) (.inr hu) h
theorem EqAt.str_dict {l : Addr} (b : Str) (u : Tok) (hl : IsDictAt s.heap l) (hu : A.units < cLine) : EqAt A s (.str b u) (.ref l) false := fun prog w E Q h => by
  unfold eqBool
  refine wpAny_holding ?_
  refine wpAny_ite_split (fun hab => absurd (eq_of_beq hab) nofun) (fun _ => ?_)
  exact wpAny_bind (RcAt.str_dict b u hl hu prog w E _ (wpAny_truthy_bool h))
end
end PySem.SeqAt
namespace Ct
open PySem PySem.Spec PyProof.Rows L2
section
variable {X : Cx} {pins : List (Addr × Obj)} {σ : L2.St} {H : Hp} {s : Shared} {K : PySem.W.Frag}
/-- a datum, or a dict of data, against texts -/
theorem amU_eqQ {A : Around} (I : Inv X pins σ H s) (hu : A.units < cLine) {x : V} {v : Value} {d : PyData} (r : RelV x v) (h : Dq X.K H x d) : ∀ {ns : List Str} {us : List Value}, Vals (ns.map V.str) us → ∀ u ∈ us, SeqAt.EqAt A s u v (amU d u)
  | [], _, .nil => fun u hu => by cases hu
  | n :: ns, w :: us, .cons r0 t => fun u m => by
    rcases List.mem_cons.mp m with rfl | m
    · obtain ⟨k, rfl⟩ := r0
      cases h with
      | non => cases r; exact SeqAt.EqAt.str_none n k
      | bl b => cases r; exact SeqAt.EqAt.str_bool n k b
      | int i => obtain ⟨t2, rfl⟩ := r; exact SeqAt.EqAt.str_int n k i t2
      | str y => obtain ⟨t2, rfl⟩ := r; exact SeqAt.EqAt.str_str n k y t2
      | lst hs _ =>
        cases r
        obtain ⟨its, rv, pl, _⟩ := I.list hs
        exact SeqAt.EqAt.str_list n k pl.isList hu
      | tup hs _ =>
        cases r
        obtain ⟨its, rv, pl, _⟩ := I.tuple hs
        exact SeqAt.EqAt.str_tuple n k (show s.heap.IsTuple _ its.toArray from pl) hu
      | dic hs hk hv ha =>
        cases r
        obtain ⟨_, hy, vs, rkv, o, es, ep, ho, hx, hd, _⟩ := hs.ok I.hok
        obtain ⟨oc, od, dt, sl⟩ := o
        simp only at hd
        subst hd
        have hc : oc = .type "dict" := hx.1
        subst hc
        exact SeqAt.EqAt.str_dict n k ⟨es, _, od, sl, ho⟩ hu
      | dicT hs hk hv ha =>
        cases r
        obtain ⟨_, hy, xs, rp, o, es, ep, ho, hx, hd, he, _⟩ := hs.ok I.hok
        obtain ⟨oc, od, dt, sl⟩ := o
        simp only at hd
        subst hd
        have hc : oc = .type "dict" := hx.1
        subst hc
        exact SeqAt.EqAt.str_dict n k ⟨es, _, od, sl, ho⟩ hu
    · exact amU_eqQ I hu r h t u m
/-- x in names, x any datum -/
def rAmidQ (K : PySem.W.Frag) (neg : Bool) : R2 := fun x y H Q => ∃ (d : PyData) (a : Addr) (ns : List Str), y = .ref a ∧ SqS K H a (ns.map V.str) ∧ Dq K H x d ∧ Q (.bl (if neg then !amid d ns else amid d ns)) H
theorem or_amidQ (hK : X.K = K) (hu : X.A.units + 64 < cLine) : OpR X (compareOp .In) (rAmidQ K false) := by
  subst hK
  intro pins s σ H x y v u Q I rx ry h
  obtain ⟨d, a, ns, rfl, ha, hd, q⟩ := h
  cases (show u = Value.ref a from ry)
  have hu1 : X.A.in1.units < cLine := by show X.A.units + 1 < _; omega
  rw [if_neg (by decide)] at q
  rcases ha with ha | ha
  · obtain ⟨its, rv, pl, hz⟩ := I.list ha
    refine SeqAt.in_listAt (amU d) pl.isList (fun w hw => amU_eqQ I hu1 rx hd rv w (by simpa using hw)) ⟨.bl _, H, I, rfl, ?_⟩
    rw [show its.toArray.any (amU d) = its.any (amU d) by simp, amU_any d rv]
    exact q
  · obtain ⟨its, rv, pl, hz⟩ := I.tuple ha
    refine SeqAt.in_tupleAt (amU d) pl (fun w hw => amU_eqQ I hu1 rx hd rv w (by simpa using hw)) ⟨.bl _, H, I, rfl, ?_⟩
    rw [show its.toArray.any (amU d) = its.any (amU d) by simp, amU_any d rv]
    exact q
theorem or_namidQ (hK : X.K = K) (hu : X.A.units + 64 < cLine) : OpR X (compareOp .NotIn) (rAmidQ K true) := by
  subst hK
  intro pins s σ H x y v u Q I rx ry h
  obtain ⟨d, a, ns, rfl, ha, hd, q⟩ := h
  cases (show u = Value.ref a from ry)
  have hu1 : X.A.in1.units < cLine := by show X.A.units + 1 < _; omega
  rw [if_pos rfl] at q
  rcases ha with ha | ha
  · obtain ⟨its, rv, pl, hz⟩ := I.list ha
    refine SeqAt.notIn_listAt (amU d) pl.isList (fun w hw => amU_eqQ I hu1 rx hd rv w (by simpa using hw)) ⟨.bl _, H, I, rfl, ?_⟩
    rw [show its.toArray.any (amU d) = its.any (amU d) by simp, amU_any d rv]
    exact q
  · obtain ⟨its, rv, pl, hz⟩ := I.tuple ha
    refine SeqAt.notIn_tupleAt (amU d) pl (fun w hw => amU_eqQ I hu1 rx hd rv w (by simpa using hw)) ⟨.bl _, H, I, rfl, ?_⟩
    rw [show its.toArray.any (amU d) = its.any (amU d) by simp, amU_any d rv]
    exact q
end
end Ct

set_option Elab.async false
set_option linter.all false
set_option maxRecDepth 100000
set_option maxHeartbeats 4000000
namespace Pw
open PySem PySem.Spec PyProof.Rows L2 Ct
def spIsPlace (K : PySem.W.Frag) (C : Addr) : Sp := fun vs H Q _ => ∃ (x : Addr) (v : V) (ns : List Str) (ts : List (Str × Str)) (d : PyData), vs = [.ref x, v] ∧ WebAt K C H x ns ts ∧ Dq K H v d ∧ Q (.bl (amid d ns)) H
def spCheckPlace (K : PySem.W.Frag) (C CN : Addr) : Sp := fun vs H Q E => ∃ (x : Addr) (v : V) (ns : List Str) (ts : List (Str × Str)) (d : PyData), vs = [.ref x, v] ∧ WebAt K C H x ns ts ∧ Dq K H v d ∧ (amid d ns = true → Q .non H) ∧ (amid d ns = false → Raised CN "value" H v E)
def spSees (K : PySem.W.Frag) (C CN : Addr) : Sp := fun vs H Q E => ∃ (x : Addr) (v : V) (ns : List Str) (ts : List (Str × Str)) (d : PyData), vs = [.ref x, v] ∧ WebAt K C H x ns ts ∧ Dq K H v d ∧ (∀ p, d = .str p → p ∈ ns → ∀ l H', Same H H' → H l = none → H' l = some (.lst ((seenOf ns ts p).map V.str)) → Q (.ref l) H') ∧ (amid d ns = false → Raised CN "value" H v E)
section
variable {P : Program} {w : World} {K : PySem.W.Frag} {mg : Str → Option Value} {base : Heap} {C CN fa : Addr} {fd : FuncData}
abbrev sIsPlace : Stmt := top ix_is_place
theorem scIsPlace : FnScope ["web", "value"] ["web", "value"] (defScope sIsPlace) := ⟨rfl, rfl, rfl, by decide +kernel, rfl, by decide +kernel, by decide +kernel⟩
theorem has_is_place (X : WC K C) (D : DFE K mg "is_place" sIsPlace ["web", "value"]) (hP_places : HasP P w K mg base 1 C "places" (getSp C "_places")) : Has P w K mg base CX0 3 "is_place" ["web", "value"] (spIsPlace K C) := by
  refine has_of D scIsPlace (fun vs H Q E h => ?_) (fun f cdv A outer s H vs Q E hr h => ?_)
  · obtain ⟨x, v, ns, ts, d, rfl, _⟩ := h; rfl
  · obtain ⟨x, v, ns, ts, d, rfl, hw, hd, k⟩ := h
    have nd := scIsPlace.nd
    refine ⟨_, (pss_one (ps_ret (pe_cmpR (or_amidQ rfl hr.units) (pv 1) (pe_hP hP_places X.cls hr (by decide) (pv 0)) (by first | exact nomark _ | rfl)))), ?_⟩
    obtain ⟨⟨dx, tp, tt, sg, sn, sp, sq, rk, xs, hx, htp, _⟩⟩ := hw
    refine ⟨_, rfl, _, rfl, x, dx, _, rfl, hx, x, dx, _, _, rfl, hx, rfl, d, tp, ns, rfl, .inr htp, hd, ?_⟩
    rw [if_neg (by decide)]
    exact k
abbrev sCheckPlace : Stmt := top ix_check_place
theorem scCheckPlace : FnScope ["web", "value"] ["web", "value"] (defScope sCheckPlace) := ⟨rfl, rfl, rfl, by decide +kernel, rfl, by decide +kernel, by decide +kernel⟩
theorem has_check_place (D : DFE K mg "check_place" sCheckPlace ["web", "value"]) (h_is_place : Has P w K mg base CX0 3 "is_place" ["web", "value"] (spIsPlace K C)) (hE_NoPlace : HasE P w K mg base 1 "NoPlace" CN "value") : HasR P w K mg base 4 "check_place" ["web", "value"] (spCheckPlace K C CN) := by
  refine hasR_of D scCheckPlace (fun vs H Q E h => ?_) (fun f cdv A outer s H vs Q E hr h => ?_)
  · obtain ⟨x, v, ns, ts, d, rfl, _⟩ := h; rfl
  · obtain ⟨x, v, ns, ts, d, rfl, hw, hd, k1, k2⟩ := h
    have nd := scCheckPlace.nd
    refine ⟨_, (pss_one (ps_if (pt_not (pt_val (pe_h h_is_place hr (by decide) rfl (pa_cons (pv 0) (pa_cons (pv 1) pa_nil))))) (pss_one (ps_raise rfl (takes_of rfl rfl rfl rfl) (pmk_x hE_NoPlace hr (by decide) rfl (pv 1)))) pss_nil)), ?_⟩
    refine ⟨_, rfl, _, rfl, x, v, ns, ts, d, rfl, hw, hd, _, rfl, ?_⟩
    cases c : amid d ns with
    | true => exact iteF (k1 c)
    | false => exact iteT ⟨_, rfl, fun e he => k2 c e _ (same_new he) he upd_same⟩
abbrev sSees : Stmt := inClass (top ix_Web) mx_Web_sees
theorem scSees : FnScope ["self", "place"] ["self", "place"] (defScope sSees) := ⟨rfl, rfl, rfl, by decide +kernel, rfl, by decide +kernel, by decide +kernel⟩
theorem ok_sees (T : Bn mg) (X : WC K C) (F : Fun K "sees" "Web.sees" sSees fa fd) (h_check_place : HasR P w K mg base 4 "check_place" ["web", "value"] (spCheckPlace K C CN)) : FnOk P w K mg base (L2.CX P w) 5 fa fd ["self", "place"] (spSees K C CN) := by
  refine F.okX scSees (fun vs H Q E h => ?_) (fun cdv A outer s H vs Q E hr h => ?_)
  · obtain ⟨x, v, ns, ts, d, rfl, _⟩ := h; rfl
  · obtain ⟨x, v, ns, ts, d, rfl, hw, hd, k1, k2⟩ := h
    have nd := scSees.nd
    refine ⟨_, (pss_cons (ps_expr (pe_hR h_check_place (takes_of rfl rfl rfl rfl) hr (by decide) rfl (pa_cons (pv 0) (pa_cons (pv 1) pa_nil))))
    (pss_one (ps_ret (pe_callTy call_list_of (by rfl) T.z_list (by decide +kernel) (pa_cons (pe_dget (hu_of hr) (pe_fld (pv 0) rfl) (pv 1) (fun _ _ => rfl)) pa_nil))))), ?_⟩
    refine ⟨_, rfl, _, rfl, x, v, ns, ts, d, rfl, hw, hd, fun c => ?_, k2⟩
    obtain ⟨⟨dx, tp, tt, sg, sn, sp, sq, rk, xs, hx, htp, htt, hts, hsg, ⟨kvs, l, m1, m2, m3, m4⟩, _⟩⟩ := hw
    cases d with
    | str p =>
      cases hd
      have hp := amid_str.mp c
      obtain ⟨v1, v2⟩ := m3 p hp
      refine ⟨_, rfl, x, C, dx, _, _, rfl, hx, X.cls, X.n4, rfl, _, rfl, sn, .ref (l p), rfl, (by rw [← v1]; exact DGet.k (k := Sum.inr p) m1), l p, _, rfl, .inl (SqL.of v2), fun L nL => ?_⟩
      exact k1 p rfl hp L _ (same_new nL) nL upd_same
    | _ => exact absurd c Bool.false_ne_true
end
end Pw

set_option Elab.async false
set_option linter.all false
set_option maxRecDepth 100000
set_option maxHeartbeats 4000000
namespace Pw
open PySem PySem.Spec PyProof.Rows L2 Ct
local macro_rules | `(tactic| wide_line) => `(tactic| repeat ((fail_if_success (with_reducible refine at_while ?_)); (fail_if_success (with_reducible refine at_while1 ?_)); (conv => whnf); first | ((with_reducible refine And.intro ?_ ?_); focus (first | (first | ((with_reducible show (_ : Nat) ≤ _); first | exact sz0 | exact sz1 | exact sz2 | exact sz3 | exact sz4 | exact sz5 | exact sz6 | exact sz7 | exact sz8 | exact sz10 | exact sz11 | exact sz12 | exact sz14 | omega | decide | (simp only [List.length_cons, List.length_nil]; omega)) | ((with_reducible show (_ : Int) ≤ _); first | omega | decide) | ((with_reducible show (_ : Int) < _); first | omega | decide) | ((with_reducible show (_ : Nat) < _); omega)) | ((fail_if_success (with_reducible show (_ : Nat) ≤ _)); (fail_if_success (with_reducible show (_ : Int) ≤ _)); (fail_if_success (with_reducible show (_ : Int) < _)); (fail_if_success (with_reducible show (_ : Nat) < _)); first | exact kv_str _ | exact kv_int _ | rfl | assumption | exact flat_strs _ | exact Lv.get (by assumption) 0 rfl | exact Lv.get (by assumption) 1 rfl | exact Lv.get (by assumption) 2 rfl | exact Lv.get (by assumption) 3 rfl | exact Lv.get (by assumption) 4 rfl | exact Lv.get (by assumption) 5 rfl | exact Lv.get (by assumption) 6 rfl | exact SqL.of (Lv.get (by assumption) 0 rfl) | exact SqL.of (Lv.get (by assumption) 1 rfl) | exact SqL.of (Lv.get (by assumption) 2 rfl) | exact SqL.of (Lv.get (by assumption) 3 rfl) | exact SqL.of (Lv.get (by assumption) 4 rfl) | exact SqL.of (Lv.get (by assumption) 5 rfl) | exact Or.inl (SqL.of (Lv.get (by assumption) 0 rfl)) | exact Or.inl (SqL.of (Lv.get (by assumption) 1 rfl)) | exact Or.inl (SqL.of (Lv.get (by assumption) 2 rfl)) | exact Or.inl (SqL.of (Lv.get (by assumption) 3 rfl)) | exact Or.inl (SqL.of (Lv.get (by assumption) 4 rfl)) | exact Or.inl (SqL.of (Lv.get (by assumption) 5 rfl)) | exact ⟨_, SqL.of (Lv.get (by assumption) 0 rfl)⟩ | exact ⟨_, SqL.of (Lv.get (by assumption) 1 rfl)⟩ | exact ⟨_, SqL.of (Lv.get (by assumption) 2 rfl)⟩ | exact ⟨_, SqL.of (Lv.get (by assumption) 3 rfl)⟩ | exact ⟨_, SqL.of (Lv.get (by assumption) 4 rfl)⟩ | exact ⟨_, SqL.of (Lv.get (by assumption) 5 rfl)⟩ | exact Or.inl ⟨_, SqL.of (Lv.get (by assumption) 0 rfl), rfl⟩ | exact Or.inl ⟨_, SqL.of (Lv.get (by assumption) 1 rfl), rfl⟩ | exact Or.inl ⟨_, SqL.of (Lv.get (by assumption) 2 rfl), rfl⟩ | exact Or.inl ⟨_, SqL.of (Lv.get (by assumption) 3 rfl), rfl⟩ | exact Or.inl ⟨_, SqL.of (Lv.get (by assumption) 4 rfl), rfl⟩ | exact Or.inl ⟨_, SqL.of (Lv.get (by assumption) 5 rfl), rfl⟩ | exact Or.inl ⟨rfl, _, SqL.of (Lv.get (by assumption) 0 rfl)⟩ | exact Or.inl ⟨rfl, _, SqL.of (Lv.get (by assumption) 1 rfl)⟩ | exact Or.inl ⟨rfl, _, SqL.of (Lv.get (by assumption) 2 rfl)⟩ | exact Or.inl ⟨rfl, _, SqL.of (Lv.get (by assumption) 3 rfl)⟩ | exact Or.inl ⟨rfl, _, SqL.of (Lv.get (by assumption) 4 rfl)⟩ | exact Or.inl ⟨rfl, _, SqL.of (Lv.get (by assumption) 5 rfl)⟩ | exact Or.inr (SqT.of (Lv.get (by assumption) 0 rfl)) | exact Or.inr (SqT.of (Lv.get (by assumption) 1 rfl)) | exact Or.inr (SqT.of (Lv.get (by assumption) 2 rfl)) | exact Or.inr (SqT.of (Lv.get (by assumption) 3 rfl)) | exact SqT.of (Lv.get (by assumption) 0 rfl) | exact SqT.of (Lv.get (by assumption) 1 rfl) | exact SqT.of (Lv.get (by assumption) 2 rfl) | exact dgetN (Lv.get (by assumption) 0 rfl) (by assumption) | exact dgetN (Lv.get (by assumption) 1 rfl) (by assumption) | exact dgetN (Lv.get (by assumption) 2 rfl) (by assumption) | exact dgetN (Lv.get (by assumption) 3 rfl) (by assumption) | exact dgetN (Lv.get (by assumption) 4 rfl) (by assumption) | exact Or.inl (by assumption) | exact Or.inr (by assumption) | decide | ((with_reducible show _ ∧ _); omega)))) | ((fail_if_success (with_reducible apply @Exists.intro (Nat → _))); (with_reducible apply Exists.intro))))
local macro_rules
  | `(tactic| wide_line with al $lv:ident $l:ident $nl:ident $H:ident $lv1:ident $s1:ident) => `(tactic| (intro $l:ident $nl:ident; generalize he : upd _ _ _ = $H:ident; have $lv1:ident := Lv.alE $lv $nl he; have $s1:ident := sameE $nl he; clear he; (try simp only [List.set_cons_zero, List.set_cons_succ] at $lv1:ident)))
  | `(tactic| wide_line with alx $lv:ident $nl:ident $H:ident $lv1:ident $s1:ident) => `(tactic| (generalize he : upd _ _ _ = $H:ident; have $lv1:ident := Lv.alE $lv $nl he; have $s1:ident := sameE $nl he; clear he; (try simp only [List.set_cons_zero, List.set_cons_succ] at $lv1:ident)))
  | `(tactic| wide_line with sts $lv:ident $i:num $H:ident $lv1:ident $s0:ident $np:ident $s1:ident) => `(tactic| (generalize he : upd _ _ _ = $H:ident; have $lv1:ident := Lv.stE $lv $i rfl he; have $s1:ident := sameN $s0 $np he; clear he; (try simp only [List.set_cons_zero, List.set_cons_succ] at $lv1:ident)))
  | `(tactic| wide_line with stx $lv:ident $H:ident $lv1:ident $d1:ident) => `(tactic| (generalize he : upd _ _ _ = $H:ident; have $lv1:ident := Lv.stE $lv 0 rfl he; have $d1:ident := SameD.storeE (Lv.get $lv 0 rfl) he; clear he; (try simp only [List.set_cons_zero, List.set_cons_succ] at $lv1:ident)))
  | `(tactic| wide_line with st $lv:ident $i:num $H:ident $lv1:ident) => `(tactic| (generalize he : upd _ _ _ = $H:ident; have $lv1:ident := Lv.stE $lv $i rfl he; clear he; (try simp only [List.set_cons_zero, List.set_cons_succ] at $lv1:ident)))
  | `(tactic| wide_line with stk $lv:ident $i:num $H:ident $lv1:ident $k1:ident) => `(tactic| (generalize he : upd _ _ _ = $H:ident; have $lv1:ident := Lv.stE $lv $i rfl he; have $k1:ident := KeepT.st (Lv.get $lv $i rfl) he; clear he; (try simp only [List.set_cons_zero, List.set_cons_succ] at $lv1:ident)))
/-! reading texts of webs: what is said of lines, without the program -/
abbrev NL : Str := "\n"
abbrev SP : Str := " "
/-- one line behind places and ties -/
def stepT (ps : List Str) (ts : List (Str × Str)) (line : Str) : Option (List Str × List (Str × Str)) :=
  match Txt.split line SP with
  | [a, w] => if a = "place" ∧ ts = [] ∧ ps.length < 12 ∧ okName w = true ∧ w ∉ ps then some (ps ++ [w], ts) else none
  | [a, x, y] => if a = "tie" ∧ x ∈ ps ∧ y ∈ ps ∧ x ≠ y ∧ pairP (x, y) ∉ ts.map pairP then some (ps, ts ++ [(x, y)]) else none
  | _ => none
/-- the number of the first line at fault, or the places and ties -/
def readT : Nat → List Str → List (Str × Str) → List Str → Nat ⊕ (List Str × List (Str × Str))
  | _, ps, ts, [] => .inr (ps, ts)
  | n, ps, ts, l :: ls => match stepT ps ts l with
    | none => .inl n
    | some (ps', ts') => readT (n + 1) ps' ts' ls
def lineP (p : Str) : Str := Str.join SP ["place", p]
def lineT (t : Str × Str) : Str := Str.join SP ["tie", t.1, t.2]
theorem stepT_line {ps ps' : List Str} {ts ts' : List (Str × Str)} {l : Str} (h : stepT ps ts l = some (ps', ts')) : (ts = [] ∧ ts' = [] ∧ ∃ w, ps' = ps ++ [w] ∧ l = lineP w ∧ ps.length < 12 ∧ okName w = true ∧ w ∉ ps) ∨ (ps' = ps ∧ ∃ t, ts' = ts ++ [t] ∧ l = lineT t ∧ t.1 ∈ ps ∧ t.2 ∈ ps ∧ t.1 ≠ t.2 ∧ pairP t ∉ ts.map pairP) := by
  unfold stepT at h
  have js := PySem.StrLaws.join_split l SP
  split at h
  · rename_i a w e
    rw [e] at js
    split at h
    · rename_i c
      obtain ⟨rfl, rfl, c3, c4, c5⟩ := c
      cases h
      exact .inl ⟨rfl, rfl, w, rfl, js.symm, c3, c4, c5⟩
    · cases h
  · rename_i a x y e
    rw [e] at js
    split at h
    · rename_i c
      obtain ⟨rfl, c2, c3, c4, c5⟩ := c
      cases h
      exact .inr ⟨rfl, (x, y), rfl, js.symm, c2, c3, c4, c5⟩
    · cases h
  · cases h
/-- what is read through stands in the lines -/
theorem readT_lines : ∀ {ls : List Str} {n : Nat} {ps ps' : List Str} {ts ts' : List (Str × Str)}, readT n ps ts ls = .inr (ps', ts') → ps.map lineP ++ ts.map lineT ++ ls = ps'.map lineP ++ ts'.map lineT
  | [], _, _, _, _, _, h => by
    unfold readT at h
    cases h
    rw [List.append_nil]
  | l :: ls, n, ps, ps', ts, ts', h => by
    unfold readT at h
    split at h
    · cases h
    · rename_i p1 t1 e
      have ih := readT_lines h
      rcases stepT_line e with ⟨rfl, rfl, w, rfl, rfl, _⟩ | ⟨rfl, t, rfl, rfl, _⟩
      · rw [← ih, List.map_append]
        simp
      · rw [← ih, List.map_append]
        simp
/-- .. and is a plan -/
theorem readT_ok : ∀ {ls : List Str} {n : Nat} {ps ps' : List Str} {ts ts' : List (Str × Str)}, readT n ps ts ls = .inr (ps', ts') → ps.length ≤ 12 → ps.Nodup → (∀ x ∈ ps, okName x = true) → (∀ t ∈ ts, t.1 ∈ ps ∧ t.2 ∈ ps ∧ t.1 ≠ t.2) → (ts.map pairP).Nodup →
    ps'.length ≤ 12 ∧ ps'.Nodup ∧ (∀ x ∈ ps', okName x = true) ∧ (∀ t ∈ ts', t.1 ∈ ps' ∧ t.2 ∈ ps' ∧ t.1 ≠ t.2) ∧ (ts'.map pairP).Nodup ∧ ps.length ≤ ps'.length
  | [], _, _, _, _, _, h, a, b, c, d, e => by
    unfold readT at h
    cases h
    exact ⟨a, b, c, d, e, Nat.le_refl _⟩
  | l :: ls, n, ps, ps', ts, ts', h, a, b, c, d, e => by
    unfold readT at h
    split at h
    · cases h
    · rename_i p1 t1 es
      rcases stepT_line es with ⟨rfl, rfl, w, rfl, _, k1, k2, k3⟩ | ⟨rfl, t, rfl, _, k1, k2, k3, k4⟩
      · have ih := readT_ok h (by rw [List.length_append, List.length_singleton]; omega) (List.nodup_append.mpr ⟨b, (by simp), fun x hx y hy z => k3 (by rw [List.mem_singleton.mp hy] at z; exact z ▸ hx)⟩) (fun x hx => (List.mem_append.mp hx).elim (c x) fun z => by rw [List.mem_singleton.mp z]; exact k2) (fun _ z => nomatch z) List.nodup_nil
        refine ⟨ih.1, ih.2.1, ih.2.2.1, ih.2.2.2.1, ih.2.2.2.2.1, ?_⟩
        have := ih.2.2.2.2.2
        rw [List.length_append] at this
        omega
      · exact readT_ok h a b c (fun u hu => (List.mem_append.mp hu).elim (d u) fun z => by rw [List.mem_singleton.mp z]; exact ⟨k1, k2, k3⟩) (by
          rw [List.map_append]
          refine List.nodup_append.mpr ⟨e, (by simp), fun x hx y hy z => ?_⟩
          rw [List.map_singleton, List.mem_singleton] at hy
          exact k4 (hy ▸ z ▸ hx))
/-- the text of a web, and that what is read has it -/
def textOf (ps : List Str) (ts : List (Str × Str)) : Str := Str.join NL (ps.map lineP ++ ts.map lineT)
theorem readT_text {T : Str} {ps : List Str} {ts : List (Str × Str)} (h : readT 1 [] [] (Txt.split T NL) = .inr (ps, ts)) : textOf ps ts = T := by
  have := readT_lines h
  unfold textOf
  rw [← this]
  exact PySem.StrLaws.join_split T NL
end Pw

set_option Elab.async false
set_option linter.all false
set_option maxRecDepth 100000
set_option maxHeartbeats 4000000
namespace Pw
open PySem PySem.Spec PyProof.Rows L2 Ct
/-- the names of a row that are new are reached, and wait (the last one first) -/
def visit (r w : List Str) : List Str → List Str × List Str
  | [] => (r, w)
  | p :: ps => if p ∈ r then visit r w ps else visit (r ++ [p]) (p :: w) ps
/-- what is reached at last -/
inductive Runs (S : Str → List Str) : List Str → List Str → List Str → Prop
  | done {r : List Str} : Runs S r [] r
  | step {r w e : List Str} {h : Str} : Runs S (visit r w (S h)).1 (visit r w (S h)).2 e → Runs S r (h :: w) e
theorem Runs.det {S : Str → List Str} {r w e : List Str} (a : Runs S r w e) : ∀ {e' : List Str}, Runs S r w e' → e = e' := by
  induction a with
  | done => intro e' b; cases b; rfl
  | step _ ih => intro e' b; cases b with | step c => exact ih c
theorem visit_take {r w : List Str} (ps : List Str) (q : Str) : visit r w (ps ++ [q]) = if q ∈ (visit r w ps).1 then visit r w ps else ((visit r w ps).1 ++ [q], q :: (visit r w ps).2) := by
  induction ps generalizing r w with
  | nil => rfl
  | cons p ps ih =>
    rw [List.cons_append]
    unfold visit
    by_cases c : p ∈ r
    · rw [if_pos c, if_pos c]; exact ih
    · rw [if_neg c, if_neg c]; exact ih
theorem visit_ok {ns : List Str} : ∀ (ps r w : List Str), r.Nodup → (∀ q ∈ r, q ∈ ns) → (∀ q ∈ w, q ∈ ns) → (∀ q ∈ ps, q ∈ ns) →
    (visit r w ps).1.Nodup ∧ (∀ q ∈ (visit r w ps).1, q ∈ ns) ∧ (∀ q ∈ (visit r w ps).2, q ∈ ns) ∧ (visit r w ps).1.length + w.length = (visit r w ps).2.length + r.length ∧ r.length ≤ (visit r w ps).1.length
  | [], r, w, h1, h2, h3, _ => ⟨h1, h2, h3, Nat.add_comm _ _, Nat.le_refl _⟩
  | p :: ps, r, w, h1, h2, h3, h4 => by
    have h4' : ∀ q ∈ ps, q ∈ ns := fun q hq => h4 q (List.mem_cons_of_mem _ hq)
    unfold visit
    by_cases c : p ∈ r
    · rw [if_pos c]
      exact visit_ok ps r w h1 h2 h3 h4'
    · rw [if_neg c]
      have a := visit_ok (ns := ns) ps (r ++ [p]) (p :: w) (List.nodup_append.mpr ⟨h1, by simp, fun x hx y hy e => by rw [List.mem_singleton.mp hy] at e; exact c (e ▸ hx)⟩)
        (fun q hq => (List.mem_append.mp hq).elim (h2 q) (fun z => by rw [List.mem_singleton.mp z]; exact h4 p List.mem_cons_self))
        (fun q hq => (List.mem_cons.mp hq).elim (fun z => by rw [z]; exact h4 p List.mem_cons_self) (h3 q)) h4'
      obtain ⟨a1, a2, a3, a4, a5⟩ := a
      rw [List.length_append, List.length_cons] at a4
      rw [List.length_append] at a5
      simp only [List.length_cons, List.length_nil] at a4 a5
      exact ⟨a1, a2, a3, by omega, by omega⟩
theorem nodup_le {r ns : List Str} (h : r.Nodup) (s : ∀ q ∈ r, q ∈ ns) : r.length ≤ ns.length := by
  induction r generalizing ns with
  | nil => exact Nat.zero_le _
  | cons p r ih =>
    obtain ⟨h1, h2⟩ := List.nodup_cons.mp h
    have hp := s p List.mem_cons_self
    have := ih (ns := ns.erase p) h2 fun q hq => (List.mem_erase_of_ne (fun (e : q = p) => h1 (by rw [← e]; exact hq))).2 (s q (List.mem_cons_of_mem _ hq))
    have e := List.length_erase_of_mem hp
    have := List.length_pos_of_mem hp
    rw [List.length_cons]
    omega
/-- the dict that marks the names -/
def marks (r : List Str) : List (Key × V) := r.map fun q => (.inr q, .bl true)
theorem marks_at (r : List Str) (q : Str) : valV (marks r) (.inr q) = if q ∈ r then some (.bl true) else none := by
  unfold marks
  induction r with
  | nil => rfl
  | cons p r ih =>
    rw [List.map_cons]
    by_cases e : p = q
    · rw [valV_pos (p := (Sum.inr p, V.bl true)) (show (Sum.inr p : Key) = Sum.inr q from congrArg _ e), if_pos (by rw [e]; exact List.mem_cons_self)]
    · rw [valV_neg (p := (Sum.inr p, V.bl true)) (fun z => e (Sum.inr.inj z)), ih]
      by_cases c : q ∈ r
      · rw [if_pos c, if_pos (List.mem_cons_of_mem _ c)]
      · rw [if_neg c, if_neg (fun z => (List.mem_cons.mp z).elim (fun z => e z.symm) c)]
theorem marks_put {r : List Str} {q : Str} (c : q ∉ r) : putK (marks r) (.inr q) (.bl true) = marks (r ++ [q]) := by
  rw [putK_new _ (by rw [marks_at, if_neg c])]
  unfold marks
  rw [List.map_append]
  rfl
def lenD : Option HO → Nat
  | some (.dK kvs) => kvs.length
  | some (.lst l) => l.length
  | _ => 0
def spPartOf (K : PySem.W.Frag) (C : Addr) : Sp := fun vs H Q _ => ∃ (x : Addr) (p : Str) (ns : List Str) (ts : List (Str × Str)), vs = [.ref x, .str p] ∧ WebAt K C H x ns ts ∧ p ∈ ns ∧ ns.length ≤ 100 ∧
  ∀ e, Runs (seenOf ns ts) [p] [p] e → ∀ l H', Same H H' → H l = none → H' l = some (.lst ((ns.filter fun q => decide (q ∈ e)).map V.str)) → Q (.ref l) H'
section
variable {P : Program} {w : World} {K : PySem.W.Frag} {mg : Str → Option Value} {base : Heap} {C fa : Addr} {fd : FuncData}
abbrev sPartOf : Stmt := inClass (top ix_Web) mx_Web_part_of
theorem scPartOf : FnScope ["self", "start", "reached", "waiting", "here", "place"] ["self", "start"] (defScope sPartOf) := ⟨rfl, rfl, rfl, by decide +kernel, rfl, by decide +kernel, by decide +kernel⟩
theorem ok_part_of (T : Bn mg) (X : WC K C) (F : Fun K "_part_of" "Web._part_of" sPartOf fa fd) : FnOk P w K mg base CX0 1 fa fd ["self", "start"] (spPartOf K C) := by
  refine F.ok scPartOf (fun vs H Q E h => ?_) (fun cdv A outer s H vs Q E hr h => ?_)
  · obtain ⟨x, p, ns, ts, rfl, _⟩ := h; rfl
  · obtain ⟨x, p, ns, ts, rfl, hw, hp, hl, k⟩ := h
    have nd := scPartOf.nd
    refine ⟨_, (pss_cons (ps_sv 2 nd (pe_disp (pps_cons (pv 1) pe_bl pps_nil) (by rfl) (by rfl) (fun z => by cases z) (by decide)))
    (pss_cons (ps_sv 3 nd (pe_lst (pa_cons (pv 1) pa_nil)))
    (pss_cons (ps_while PassesOwn.never (pt_truth (pv 3) (by intro _; rfl)) (pss_cons (ps_sv 4 nd (pe_bm0 PySem.F.plainAttrs_list PySem.F.slot_list_pop PySem.F.type_list_pop mt_pop (pv 3)))
    (pss_one (ps_for PassesOwn.never rfl (pi_list (pe_dget (hu_of hr) (pe_fld (pv 0) rfl) (pv 4) (fun _ _ => rfl))) (pg_name (i := 5) nd rfl (by first | exact Or.inl rfl | exact Or.inr rfl)) (pss_one (ps_if (pt_cmp (pc_dnotin (hu_of hr) (pv 5) (pv 2))) (pss_cons (ps_dput (hu_of hr) (pv 2) (pv 5) pe_bl rfl)
    (pss_one (ps_expr (pe_bm PySem.F.plainAttrs_list PySem.F.slot_list_append PySem.F.type_list_append mt_append (pv 3) (pa_cons (pv 5) pa_nil))))) pss_nil))))))
    (pss_one (ps_ret (pe_lc (own := [("place", 5)]) (g := gName 5) rfl nd (pi_tup (pe_fld (pv 0) rfl)) (blkOk_by (own := [("place", 5)]) (N := ["self", "start", "reached", "waiting", "here", "place"]) (sc := defScope sPartOf) (by decide +kernel)) (fun _ _ _ _ _ => (pg_name (i := 5) nd rfl (by first | exact Or.inl rfl | exact Or.inr rfl))) (fun _ _ _ _ _ => (pts_one (pt_cmp (pc_din (hu_of hr) (pv 5) (pv 2))))) (fun _ _ _ _ _ => (pv 5)))))))), ?_⟩
    obtain ⟨⟨dx, tp, tt, sg, sn, sp, sq, rk, xs, hx, htp, htt, hts, hsg, hmap, _⟩⟩ := hw
    -- reached, waiting
    intro D nD
    refine ⟨_, rfl, upd_same, [(.inr p, .bl true)], rfl, by show 1 ≤ 15; decide, ?_⟩
    have s1 : Same H (upd (upd H D (.dK [])) D (.dK (marks [p]))) := same_upd (same_new nD) nD
    have hD : upd (upd H D (.dK [])) D (.dK (marks [p])) D = some (.dK (marks [p])) := upd_same
    show gName 2 _ _ (upd (upd H D (.dK [])) D (.dK (marks [p]))) _
    generalize upd (upd H D (.dK [])) D (.dK (marks [p])) = H1 at s1 hD ⊢
    refine ⟨_, rfl, by show 1 ≤ sizeLine; decide, fun W nW => ?_⟩
    have fresh : ∀ {H2 : Hp}, Same H H2 → ∀ {e : Addr}, H2 e = none → H e = none := fun {H2} s2 {e} he => by
      cases q : H e with
      | none => rfl
      | some o => rw [s2 e o q] at he; cases he
    have nW0 := fresh s1 nW
    have s2 := s1.trans (same_new (o := .lst [V.str p]) nW)
    have hD2 := same_new (o := .lst [V.str p]) nW _ _ hD
    have hW2 : upd H1 W (.lst [V.str p]) W = some (.lst [V.str p]) := upd_same
    generalize upd H1 W (.lst [V.str p]) = H2 at s2 hD2 hW2 ⊢
    have DW : D ≠ W := ne_of hD2 hW2 (by intro z; cases z)
    dsimp only [gName, tSeq]
    refine while_by (fun σ H' => Same H H' ∧ ∃ r wq u v, σ = [some (.ref x), some (.str p), some (.ref D), some (.ref W), u, v] ∧ H' D = some (.dK (marks r)) ∧ H' W = some (.lst (wq.reverse.map V.str)) ∧ r.Nodup ∧ (∀ q ∈ r, q ∈ ns) ∧ (∀ q ∈ wq, q ∈ ns) ∧ wq.length ≤ r.length ∧ ∀ e, Runs (seenOf ns ts) r wq e → Runs (seenOf ns ts) [p] [p] e)
      (fun σ H' => 2 * (ns.length - lenD (H' D)) + lenD (H' W)) ?_ ?_ ?_
    · exact ⟨s2, [p], [p], _, _, rfl, hD2, hW2, by simp, by simpa using hp, by simpa using hp, Nat.le_refl _, fun e z => z⟩
    · rintro σ H3 ⟨s3, r, wq, u, v, rfl, hD3, hW3, nr, rn, wn, wl, run⟩
      cases wq with
      | nil =>
        refine ⟨_, rfl, false, .inl ⟨_, SqL.of hW3, rfl⟩, iteF ?_⟩
        have hr := run r .done
        refine ⟨_, rfl, x, C, dx, _, _, rfl, s3 _ _ hx, X.cls, X.n1, rfl, tp, rfl, ⟨_, same_t s3 htp⟩, fun L nL => ?_⟩
        refine lc_it walk_tup (fun i H' => Same H3 H' ∧ H' L = some (.lst (((ns.take i).filter fun q => decide (q ∈ r)).map V.str))) ⟨same_new nL, upd_same⟩ (fun i H' _ p => same_t p.1 (same_t s3 htp)) ?_ ?_
        · rintro i y H4 H5 hi ⟨s4, hL⟩ ⟨rfl, hyi⟩
          obtain ⟨q, hq, rfl⟩ : ∃ q, ns[i]? = some q ∧ y = .str q := by
            rw [List.getElem?_map] at hyi
            cases e : ns[i]? with
            | none => rw [e] at hyi; cases hyi
            | some q => rw [e] at hyi; exact ⟨q, rfl, (Option.some.inj hyi).symm⟩
          refine ⟨rfl, _, rfl, _, rfl, D, _, rfl, DGet.k (k := Sum.inr q) (s4 _ _ hD3), _, rfl, ?_⟩
          have step : (ns.take (i + 1)).filter (fun q => decide (q ∈ r)) = (ns.take i).filter (fun q => decide (q ∈ r)) ++ (if decide (q ∈ r) = true then [q] else []) := by
            rw [List.take_succ, hq, List.filter_append]
            exact congrArg _ (filter_one _ q)
          rw [marks_at]
          by_cases c : q ∈ r
          · rw [if_pos c]
            refine iteT ⟨_, rfl, _, hL, ?_, same_upd s4 nL, ?_⟩
            · rw [List.length_map, sizeLine_eq]
              have := List.length_filter_le (fun q => decide (q ∈ r)) (ns.take i)
              have := List.length_take_le i ns
              have : i < ns.length := (List.getElem?_eq_some_iff.mp hq).1
              omega
            · rw [upd_same, step, if_pos (decide_eq_true c), List.map_append]
              rfl
          · rw [if_neg c]
            refine iteF ⟨s4, ?_⟩
            rw [step, if_neg (by rw [decide_eq_false c]; decide), List.append_nil]
            exact hL
        · rintro H4 ⟨s4, hL⟩
          rw [List.length_map, List.take_length] at hL
          exact k r hr L H4 (s3.trans s4) (fresh s3 nL) hL
      | cons hh wq =>
        have hhn := wn hh List.mem_cons_self
        have rev : ((hh :: wq).reverse.map V.str) = wq.reverse.map V.str ++ [V.str hh] := by
          rw [List.reverse_cons, List.map_append]; rfl
        rw [rev] at hW3
        refine ⟨_, rfl, true, .inl ⟨_, SqL.of hW3, by simp⟩, iteT ?_⟩
        refine ⟨_, rfl, .inl ⟨rfl, _, SqL.of hW3⟩, W, _, .str hh, rfl, rfl, hW3, by simp, ?_⟩
        rw [List.dropLast_concat]
        have s4 : Same H (upd H3 W (.lst (wq.reverse.map V.str))) := same_upd s3 nW0
        have hD4 : upd H3 W (.lst (wq.reverse.map V.str)) D = some (.dK (marks r)) := by rw [upd_ne DW]; exact hD3
        have hW4 : upd H3 W (.lst (wq.reverse.map V.str)) W = some (.lst (wq.reverse.map V.str)) := upd_same
        have muE : 2 * (ns.length - lenD (H3 D)) + lenD (H3 W) = 2 * (ns.length - r.length) + wq.length + 1 := by
          rw [hD3, hW3]
          show 2 * (ns.length - (marks r).length) + (wq.reverse.map V.str ++ [V.str hh]).length = _
          unfold marks
          rw [List.length_map, List.length_append, List.length_map, List.length_reverse]
          rfl
        generalize upd H3 W (.lst (wq.reverse.map V.str)) = H4 at s4 hD4 hW4 ⊢
        obtain ⟨kvs, l, m1, m2, m3, m4⟩ := (SameD.of s4).map hmap
        obtain ⟨v1, v2⟩ := m3 hh hhn
        refine ⟨_, rfl, x, C, dx, _, _, rfl, s4 _ _ hx, X.cls, X.n4, rfl, _, rfl, sn, .ref (l hh), rfl, (by rw [← v1]; exact DGet.k (k := Sum.inr hh) m1), l hh, rfl, ⟨_, SqL.of v2⟩, ?_⟩
        have lnew : H (l hh) = none → False := fun z => by
          obtain ⟨kv0, l0, q1, q2, q3, q4⟩ := hmap
          obtain ⟨w1, w2⟩ := q3 hh hhn
          have e1 := s4 _ _ q1
          rw [m1] at e1
          cases e1
          rw [v1] at w1
          have e2 : l hh = l0 hh := V.ref.inj (Option.some.inj w1)
          rw [e2] at z
          rw [w2] at z
          cases z
        have lD : l hh ≠ D := fun z => lnew (by rw [z]; exact nD)
        have lW : l hh ≠ W := fun z => lnew (by rw [z]; exact nW0)
        have seenIn : ∀ q ∈ seenOf ns ts hh, q ∈ ns := fun q hq => (List.mem_filter.mp hq).1
        refine for_it walk_list (fun j σ' H' => Same H H' ∧ H' (l hh) = some (.lst ((seenOf ns ts hh).map V.str)) ∧ (∃ v, σ' = [some (.ref x), some (.str p), some (.ref D), some (.ref W), some (.str hh), v]) ∧ H' D = some (.dK (marks (visit r wq ((seenOf ns ts hh).take j)).1)) ∧ H' W = some (.lst ((visit r wq ((seenOf ns ts hh).take j)).2.reverse.map V.str))) ⟨s4, v2, ⟨_, rfl⟩, hD4, hW4⟩ (fun j σ' H' _ p => SqL.of p.2.1) ?_ ?_
        · rintro j y σ5 H5 H6 hj ⟨s5, hl5, ⟨v5, rfl⟩, hD5, hW5⟩ ⟨rfl, hyj⟩
          obtain ⟨q, hq, rfl⟩ : ∃ q, (seenOf ns ts hh)[j]? = some q ∧ y = .str q := by
            rw [List.getElem?_map] at hyj
            cases e : (seenOf ns ts hh)[j]? with
            | none => rw [e] at hyj; cases hyj
            | some q => rw [e] at hyj; exact ⟨q, rfl, (Option.some.inj hyj).symm⟩
          obtain ⟨o1, o2, o3, o4, o5⟩ := visit_ok (ns := ns) ((seenOf ns ts hh).take j) r wq nr rn (fun z hz => wn z (List.mem_cons_of_mem _ hz)) (fun z hz => seenIn z (List.mem_of_mem_take hz))
          have o6 := nodup_le o1 o2
          have o7 := nodup_le nr rn
          have vt : visit r wq ((seenOf ns ts hh).take (j + 1)) = if q ∈ (visit r wq ((seenOf ns ts hh).take j)).1 then visit r wq ((seenOf ns ts hh).take j) else ((visit r wq ((seenOf ns ts hh).take j)).1 ++ [q], q :: (visit r wq ((seenOf ns ts hh).take j)).2) := by
            rw [List.take_succ, hq]
            exact visit_take _ q
          rw [vt]
          refine ⟨_, rfl, _, rfl, D, _, rfl, DGet.k (k := Sum.inr q) hD5, _, rfl, ?_⟩
          rw [marks_at]
          generalize visit r wq ((seenOf ns ts hh).take j) = vv at hD5 hW5 o1 o2 o3 o4 o5 o6 ⊢
          by_cases c : q ∈ vv.1
          · rw [if_pos c, if_pos c]
            exact iteF ⟨s5, hl5, ⟨_, rfl⟩, hD5, hW5⟩
          · rw [if_neg c, if_neg c]
            refine iteT ⟨_, rfl, _, rfl, D, _, rfl, DPut.k (k := Sum.inr q) hD5 (by unfold marks; rw [List.length_map, sizeLine_eq]; omega), ?_⟩
            rw [marks_put c]
            have s6 : Same H (upd H6 D (.dK (marks (vv.1 ++ [q])))) := same_upd s5 nD
            have hD6 : upd H6 D (.dK (marks (vv.1 ++ [q]))) D = some (.dK (marks (vv.1 ++ [q]))) := upd_same
            have hW6 : upd H6 D (.dK (marks (vv.1 ++ [q]))) W = some (.lst (vv.2.reverse.map V.str)) := by rw [upd_ne (Ne.symm DW)]; exact hW5
            have hl6 : upd H6 D (.dK (marks (vv.1 ++ [q]))) (l hh) = some (.lst ((seenOf ns ts hh).map V.str)) := by rw [upd_ne lD]; exact hl5
            generalize upd H6 D (.dK (marks (vv.1 ++ [q]))) = H7 at s6 hD6 hW6 hl6 ⊢
            refine ⟨_, rfl, .inl ⟨rfl, _, SqL.of hW6⟩, _, rfl, W, _, _, rfl, rfl, hW6, ?_, ?_⟩
            · rw [List.length_map, List.length_reverse, sizeLine_eq]
              rw [List.length_cons] at wl
              omega
            · refine ⟨same_upd s6 nW0, by rw [upd_ne lW]; exact hl6, ⟨_, rfl⟩, by rw [upd_ne DW]; exact hD6, ?_⟩
              rw [upd_same]
              simp
        · rintro σ5 H5 ⟨s5, hl5, ⟨v5, rfl⟩, hD5, hW5⟩
          rw [List.length_map, List.take_length] at hD5 hW5
          obtain ⟨o1, o2, o3, o4, o5⟩ := visit_ok (ns := ns) (seenOf ns ts hh) r wq nr rn (fun z hz => wn z (List.mem_cons_of_mem _ hz)) seenIn
          have o6 := nodup_le o1 o2
          refine ⟨⟨s5, _, _, _, _, rfl, hD5, hW5, o1, o2, o3, by rw [List.length_cons] at wl; omega, fun e z => run e (.step z)⟩, ?_⟩
          show 2 * (ns.length - lenD (H5 D)) + lenD (H5 W) < 2 * (ns.length - lenD (H3 D)) + lenD (H3 W)
          rw [muE, hD5, hW5]
          show 2 * (ns.length - (marks _).length) + (List.map V.str _).length < _
          unfold marks
          rw [List.length_map, List.length_map, List.length_reverse]
          omega
    · rintro σ H' Q Q' m ⟨v, e, b, t, q⟩
      exact ⟨v, e, b, t, m _ _ q⟩
end
end Pw

set_option Elab.async false
set_option linter.all false
set_option maxRecDepth 100000
set_option maxHeartbeats 4000000
namespace Pw
open PySem PySem.Spec PyProof.Rows L2 Ct
theorem lays_of : ∀ {ds : List PyData}, (∀ d ∈ ds, d.canLay0 = true) → PyData.canLayAll0 ds = true
  | [], _ => by simp [PyData.canLayAll0]
  | d :: ds, h => by rw [PyData.canLayAll0, h d List.mem_cons_self, lays_of fun e he => h e (List.mem_cons_of_mem _ he)]; rfl
theorem depths_of {m : Nat} : ∀ {ds : List PyData}, (∀ d ∈ ds, d.depth ≤ m) → PyData.depthAll ds ≤ m
  | [], _ => by simp [PyData.depthAll]
  | d :: ds, h => by rw [PyData.depthAll]; exact Nat.max_le.mpr ⟨h d List.mem_cons_self, depths_of fun e he => h e (List.mem_cons_of_mem _ he)⟩
theorem shaped_srt {ds : List PyData} (h : ∀ d ∈ ds, d.canLay0 = true ∧ d.depth ≤ 50) : SeqAt.shaped (.list (srt ds)) = true := by
  have m : ∀ d ∈ srt ds, d ∈ ds := fun d hd => (List.mergeSort_perm ds _).mem_iff.mp hd
  unfold SeqAt.shaped
  rw [Bool.and_eq_true, decide_eq_true_eq]
  refine ⟨?_, ?_⟩
  · rw [PyData.canLay0]
    exact lays_of fun d hd => (h d (m d hd)).1
  · have := depths_of (m := 50) fun d hd => (h d (m d hd)).2
    simp only [PyData.depth]
    omega
theorem lt_small : LT.cps.toList.all (fun c => decide (c < 0x110000)) = true := by decide +kernel
theorem strOk_of {x : Str} (h : okName x = true) : PyData.strOk x = true := by
  unfold okName at h
  rw [Bool.and_eq_true] at h
  have h2 := h.2
  unfold okSigns at h2
  unfold PyData.strOk
  rw [← Array.all_toList, List.all_eq_true]
  intro c hc
  exact List.all_eq_true.mp lt_small c (of_decide_eq_true (List.all_eq_true.mp h2 c hc))
/-- names and ties of which all are well formed -/
def Good (ns : List Str) (ts : List (Str × Str)) : Prop := (∀ n ∈ ns, okName n = true) ∧ ∀ t ∈ ts, okName t.1 = true ∧ okName t.2 = true
theorem good_names {ns : List Str} {ts : List (Str × Str)} (g : Good ns ts) : ∀ d ∈ ns.map PyData.str, d.canLay0 = true ∧ d.depth ≤ 50 := fun d hd => by
  obtain ⟨n, hn, rfl⟩ := List.mem_map.mp hd
  exact ⟨by rw [PyData.canLay0]; exact strOk_of (g.1 n hn), by simp [PyData.depth]⟩
theorem good_pairs {ns : List Str} {ts : List (Str × Str)} (g : Good ns ts) : ∀ d ∈ ts.map pairD, d.canLay0 = true ∧ d.depth ≤ 50 := fun d hd => by
  obtain ⟨t, ht, rfl⟩ := List.mem_map.mp hd
  obtain ⟨h1, h2⟩ := g.2 t ht
  have e : PyData.strOk (pairP t).1 = true ∧ PyData.strOk (pairP t).2 = true := by
    unfold pairP pairS
    split
    · exact ⟨strOk_of h1, strOk_of h2⟩
    · exact ⟨strOk_of h2, strOk_of h1⟩
  refine ⟨?_, by simp [pairD, PyData.depth, PyData.depthAll]⟩
  unfold pairD
  rw [PyData.canLay0, PyData.canLayAll0, PyData.canLayAll0, PyData.canLayAll0, PyData.canLay0, PyData.canLay0, e.1, e.2]
  rfl
/-- what isinstance asks of the class -/
structure WI (K : PySem.W.Frag) (C : Addr) : Prop where
  ha : PySem.W.findIn K (.ref C) "__class__" = some (some (.builtin "object.__class__"))
  hn : PySem.W.specialIn K (.builtin "object.__class__") "__get__" = some (some (.builtin "getset_descriptor.__get__"))
  ht : PySem.W.takesIn K (.builtin "object.__class__") = some true
  hm : PySem.W.mroIn K C (.type "object") = some true
  kit : PySem.W.kitOne K (.ref C) (.ref C) = some true
/-- webs are alike in all that == looks at -/
def eqW (ns ms : List Str) (ts us : List (Str × Str)) : Bool := PyData.eqv (.list (srt (ns.map PyData.str))) (.list (srt (ms.map PyData.str))) && PyData.eqv (.list (srt (ts.map pairD))) (.list (srt (us.map pairD)))
def spEqW (K : PySem.W.Frag) (C : Addr) : Sp := fun vs H Q _ => ∃ (x y : Addr) (ns ms : List Str) (ts us : List (Str × Str)), vs = [.ref x, .ref y] ∧ WebAt K C H x ns ts ∧ WebAt K C H y ms us ∧ Good ns ts ∧ Good ms us ∧ Q (.bl (eqW ns ms ts us)) H
theorem eqW_self {ns : List Str} {ts : List (Str × Str)} (g : Good ns ts) : eqW ns ns ts ts = true := by
  unfold eqW
  rw [SeqAt.eqv_refl _ (SeqAt.canLay_of_shaped (shaped_srt (good_names g))), SeqAt.eqv_refl _ (SeqAt.canLay_of_shaped (shaped_srt (good_pairs g)))]
  rfl
section
variable {P : Program} {w : World} {K : PySem.W.Frag} {mg : Str → Option Value} {base : Heap} {C fa : Addr} {fd : FuncData}
abbrev sEqW : Stmt := inClass (top ix_Web) mx_Web_eq
theorem scEqW : FnScope ["self", "other"] ["self", "other"] (defScope sEqW) := ⟨rfl, rfl, rfl, by decide +kernel, rfl, by decide +kernel, by decide +kernel⟩
theorem ok_eq (T : Bn mg) (X : WC K C) (I : WI K C) (gW : mg "Web" = some (.ref C)) (F : Fun K "__eq__" "Web.__eq__" sEqW fa fd) : FnOk P w K mg base CX0 1 fa fd ["self", "other"] (spEqW K C) := by
  refine F.ok scEqW (fun vs H Q E h => ?_) (fun cdv A outer s H vs Q E hr h => ?_)
  · obtain ⟨x, y, ns, ms, ts, us, rfl, _⟩ := h; rfl
  · obtain ⟨x, y, ns, ms, ts, us, rfl, hw, hv, g1, g2, k⟩ := h
    have nd := scEqW.nd
    refine ⟨_, (pss_one (ps_ret (pe_and (pe_callB call_isi (by rfl) T.z_isinstance (by decide +kernel) (pa_cons (pv 1) (pa_cons (pe_ref rfl gW) pa_nil))) (pe_and (pe_cmpR (op_eqD hr.units) (pe_fld (pv 0) rfl) (pe_fld (pv 1) rfl) (by first | exact nomark _ | rfl)) (pe_one (pe_cmpR (op_eqD hr.units) (pe_fld (pv 0) rfl) (pe_fld (pv 1) rfl) (by first | exact nomark _ | rfl))))))), ?_⟩
    obtain ⟨⟨dx, tp, tt, sg, sn, sp, sq, rk, xs, hx, _, _, _, _, _, _, hsp, hsq⟩⟩ := hw
    obtain ⟨⟨dx2, tp2, tt2, sg2, sn2, sp2, sq2, rk2, xs2, hx2, _, _, _, _, _, _, hsp2, hsq2⟩⟩ := hv
    refine ⟨_, rfl, .ref y, .ref C, _, _, true, rfl, .own C, .base (.ins hx2 X.cls I.ha I.hn I.ht I.hm), I.kit, _, rfl, iteT ?_⟩
    refine ⟨_, rfl, x, C, dx, _, _, rfl, hx, X.cls, X.n6, rfl, _, rfl, y, C, dx2, _, _, rfl, hx2, X.cls, X.n6, rfl, _, _, hsp, hsp2, shaped_srt (good_names g1), shaped_srt (good_names g2), _, rfl, ?_⟩
    unfold eqW at k
    cases e : PyData.eqv (.list (srt (ns.map PyData.str))) (.list (srt (ms.map PyData.str))) with
    | false => rw [e] at k; exact iteF k
    | true =>
      rw [e, Bool.true_and] at k
      refine iteT ⟨_, rfl, x, C, dx, _, _, rfl, hx, X.cls, X.n7, rfl, _, rfl, y, C, dx2, _, _, rfl, hx2, X.cls, X.n7, rfl, _, _, hsq, hsq2, shaped_srt (good_pairs g1), shaped_srt (good_pairs g2), k⟩
end
end Pw

set_option Elab.async false
set_option linter.all false
set_option maxRecDepth 100000
set_option maxHeartbeats 4000000
namespace Pw
open PySem PySem.Spec PyProof.Rows L2 Ct
theorem Runs.sub {S : Str → List Str} {r w e : List Str} (h : Runs S r w e) : ∀ q ∈ r, q ∈ e := by
  induction h with
  | done => exact fun q z => z
  | @step r w e hh _ ih =>
    have grow : ∀ (ps r w : List Str), ∀ q ∈ r, q ∈ (visit r w ps).1 := by
      intro ps
      induction ps with
      | nil => exact fun r w q z => z
      | cons p ps ih2 =>
        intro r w q z
        unfold visit
        by_cases c : p ∈ r
        · rw [if_pos c]; exact ih2 r w q z
        · rw [if_neg c]; exact ih2 _ _ q (List.mem_append_left _ z)
    exact fun q z => ih q (grow _ _ _ q z)
/-- the parts, from what is left -/
inductive PartsR (S : Str → List Str) (ns : List Str) : List Str → List (List Str) → Prop
  | nil : PartsR S ns [] []
  | cons {p : Str} {left e : List Str} {rest : List (List Str)} : Runs S [p] [p] e → PartsR S ns ((p :: left).filter fun q => !decide (q ∈ ns.filter fun q => decide (q ∈ e))) rest → PartsR S ns (p :: left) ((ns.filter fun q => decide (q ∈ e)) :: rest)
theorem PartsR.det {S : Str → List Str} {ns left : List Str} {a : List (List Str)} (h : PartsR S ns left a) : ∀ {b : List (List Str)}, PartsR S ns left b → a = b := by
  induction h with
  | nil => intro b h; cases h; rfl
  | cons r _ ih =>
    intro b h
    cases h with
    | cons r2 h2 =>
      obtain rfl := r.det r2
      rw [ih h2]
/-- a row of lists of texts, each at its place -/
abbrev RowAt (H : Hp) : List V → List (List Str) → Prop := Paired fun x l => ∃ a, x = .ref a ∧ H a = some (.lst (l.map V.str))
theorem RowAt.same {H H' : Hp} (s : Same H H') : ∀ {xs : List V} {ls : List (List Str)}, RowAt H xs ls → RowAt H' xs ls
  | _, _, .nil => .nil
  | _, _, .cons ⟨a, e, h⟩ t => .cons ⟨a, e, s _ _ h⟩ (RowAt.same s t)
/-- the same, none of them at F -/
abbrev RowO (F : Addr) (H : Hp) : List V → List (List Str) → Prop := Paired fun x l => ∃ a, x = .ref a ∧ a ≠ F ∧ H a = some (.lst (l.map V.str))
theorem RowO.row {F : Addr} {H : Hp} : ∀ {xs : List V} {ls : List (List Str)}, RowO F H xs ls → RowAt H xs ls
  | _, _, .nil => .nil
  | _, _, .cons ⟨a, e, _, h⟩ t => .cons ⟨a, e, h⟩ (RowO.row t)
theorem RowO.off {F : Addr} {H H' : Hp} (s : ∀ b o, b ≠ F → H b = some o → H' b = some o) : ∀ {xs : List V} {ls : List (List Str)}, RowO F H xs ls → RowO F H' xs ls
  | _, _, .nil => .nil
  | _, _, .cons ⟨a, e, n, h⟩ t => .cons ⟨a, e, n, s _ _ n h⟩ (RowO.off s t)
theorem RowO.snoc {F : Addr} {H : Hp} {a : Addr} {l : List Str} (n : a ≠ F) (h : H a = some (.lst (l.map V.str))) : ∀ {xs : List V} {ls : List (List Str)}, RowO F H xs ls → RowO F H (xs ++ [.ref a]) (ls ++ [l])
  | _, _, .nil => .cons ⟨a, rfl, n, h⟩ .nil
  | _, _, .cons x t => .cons x (RowO.snoc n h t)
theorem WebAt.same {K : PySem.W.Frag} {C : Addr} {H H' : Hp} {x : Addr} {ns : List Str} {ts : List (Str × Str)} (s : Same H H') : WebAt K C H x ns ts → WebAt K C H' x ns ts
  | ⟨⟨dx, tp, tt, sg, sn, sp, sq, rk, xs, h1, h2, h3, h4, h5, h6, h7, h8, h9⟩⟩ => ⟨⟨dx, tp, tt, sg, sn, sp, sq, rk, xs, s _ _ h1, same_t s h2, same_t s h3, h4.same s, same_t s h5, (SameD.of s).map h6, h7.same s, (SameD.of s).dp h8, (SameD.of s).dp h9⟩⟩
def muL (σ : List (Option V)) (H : Hp) : Nat := match σ[2]? with
  | some (some (V.ref a)) => lenD (H a)
  | _ => 0
def spParts (C : Addr) (K : PySem.W.Frag) : Sp := fun vs H Q _ => ∃ (x : Addr) (ns : List Str) (ts : List (Str × Str)), vs = [.ref x] ∧ WebAt K C H x ns ts ∧ ns.length ≤ 100 ∧
  ∀ ls, PartsR (seenOf ns ts) ns ns ls → ∀ l xs H', Same H H' → H l = none → H' l = some (.lst xs) → RowAt H' xs ls → (∀ v ∈ xs, ∃ a, v = .ref a ∧ H a = none) → Q (.ref l) H'
section
variable {P : Program} {w : World} {K : PySem.W.Frag} {mg : Str → Option Value} {base : Heap} {C fa : Addr} {fd : FuncData}
abbrev sParts : Stmt := inClass (top ix_Web) mx_Web_parts
theorem scParts : FnScope ["self", "found", "left", "part", "place"] ["self"] (defScope sParts) := ⟨rfl, rfl, rfl, by decide +kernel, rfl, by decide +kernel, by decide +kernel⟩
theorem ok_parts (T : Bn mg) (X : WC K C) (F : Fun K "parts" "Web.parts" sParts fa fd) (h_part_of : HasM P w K mg base CX0 1 C "_part_of" ["self", "start"] (spPartOf K C)) : FnOk P w K mg base CX0 2 fa fd ["self"] (spParts C K) := by
  refine F.ok scParts (fun vs H Q E h => ?_) (fun cdv A outer s H vs Q E hr h => ?_)
  · obtain ⟨x, ns, ts, rfl, _⟩ := h; rfl
  · obtain ⟨x, ns, ts, rfl, hw, hl, k⟩ := h
    have nd := scParts.nd
    refine ⟨_, (pss_cons (ps_sv 1 nd (pe_lst pa_nil))
    (pss_cons (ps_sv 2 nd (pe_callTy call_list_of (by rfl) T.z_list (by decide +kernel) (pa_cons (pe_fld (pv 0) rfl) pa_nil)))
    (pss_cons (ps_while PassesOwn.never (pt_truth (pv 2) (by intro _; rfl)) (pss_cons (ps_sv 3 nd (pe_hM h_part_of X.cls hr (by decide) (pv 0) (pa_cons (pe_ix ix_list (pv 2) pe_int (fun _ _ => rfl)) pa_nil)))
    (pss_cons (ps_expr (pe_bm PySem.F.plainAttrs_list PySem.F.slot_list_append PySem.F.type_list_append mt_append (pv 1) (pa_cons (pv 3) pa_nil)))
    (pss_one (ps_setLc (i := 2) (own := [("place", 4)]) (g := gName 4) rfl nd rfl rfl (sw_true rfl rfl rfl (by decide +kernel)) (pi_list (pv 2)) (blkOk_by (own := [("place", 4)]) (N := ["self", "found", "left", "part", "place"]) (sc := defScope sParts) (by decide +kernel)) (fun _ _ _ _ _ => (pg_name (i := 4) nd rfl (by first | exact Or.inl rfl | exact Or.inr rfl))) (fun _ _ _ _ _ => (pts_one (pt_cmpR (op_notIn_seqk (K := K) rfl) (pv 4) (pv 3) (by first | exact nomark _ | rfl)))) (fun _ _ _ _ _ => (pv 4)))))))
    (pss_one (ps_ret (pv 1)))))), ?_⟩
    obtain ⟨⟨dx, tp, tt, sg, sn, sp, sq, rk, xs, hx, htp, hrest⟩⟩ := id hw
    have fresh : ∀ {H2 : Hp}, Same H H2 → ∀ {e : Addr}, H2 e = none → H e = none := fun {H2} s2 {e} he => by
      cases q : H e with
      | none => rfl
      | some o => rw [s2 e o q] at he; cases he
    refine ⟨Nat.zero_le _, fun Fd nF => ?_⟩
    have s1 := same_new (o := .lst []) nF
    have hF1 : upd H Fd (.lst []) Fd = some (.lst []) := upd_same
    generalize upd H Fd (.lst []) = H1 at s1 hF1 ⊢
    refine ⟨_, rfl, x, C, dx, _, _, rfl, s1 _ _ hx, X.cls, X.n1, rfl, tp, _, rfl, .inr (same_t s1 htp), fun L0 nL0 => ?_⟩
    have s2 := s1.trans (same_new (o := .lst (ns.map V.str)) nL0)
    have hF2 := same_new (o := .lst (ns.map V.str)) nL0 _ _ hF1
    have hL2 : upd H1 L0 (.lst (ns.map V.str)) L0 = some (.lst (ns.map V.str)) := upd_same
    have nLF : L0 ≠ Fd := fun z => by rw [z, hF1] at nL0; cases nL0
    generalize upd H1 L0 (.lst (ns.map V.str)) = H2 at s2 hF2 hL2 ⊢
    dsimp only [gName, tSeq]
    refine while_by (fun σ H' => Same H H' ∧ ∃ (L : Addr) (left : List Str) (xs : List V) (done : List (List Str)) (u v : Option V), σ = [some (.ref x), some (.ref Fd), some (.ref L), u, v] ∧ L ≠ Fd ∧ H' Fd = some (.lst xs) ∧ RowO Fd H' xs done ∧ (∀ v ∈ xs, ∃ a, v = .ref a ∧ H a = none) ∧ H' L = some (.lst (left.map V.str)) ∧ (∀ q ∈ left, q ∈ ns) ∧ xs.length + left.length ≤ 100 ∧ ∀ rest, PartsR (seenOf ns ts) ns left rest → PartsR (seenOf ns ts) ns ns (done ++ rest)) muL ?_ ?_ ?_
    · exact ⟨s2, L0, ns, [], [], _, _, rfl, nLF, hF2, .nil, (fun _ z => nomatch z), hL2, fun q z => z, by simpa using hl, fun r z => z⟩
    · rintro σ H3 ⟨s3, L, left, xs, done, u, v, rfl, LF, hF3, hR3, fr3, hL3, ln, few, run⟩
      cases left with
      | nil =>
        refine ⟨_, rfl, false, .inl ⟨_, SqL.of hL3, rfl⟩, iteF ?_⟩
        have hr := run [] .nil
        rw [List.append_nil] at hr
        exact ⟨_, rfl, k done hr Fd xs H3 s3 nF hF3 hR3.row fr3⟩
      | cons p left =>
        have hpn := ln p List.mem_cons_self
        have mu3 : muL [some (.ref x), some (.ref Fd), some (.ref L), u, v] H3 = left.length + 1 := by
          show lenD (H3 L) = _
          rw [hL3]
          show ((p :: left).map V.str).length = _
          simp
        refine ⟨_, rfl, true, .inl ⟨_, SqL.of hL3, rfl⟩, iteT ?_⟩
        refine ⟨_, rfl, x, dx, _, rfl, s3 _ _ hx, rfl, _, rfl, L, _, 0, .str p, rfl, rfl, SqL.of hL3, (show atI _ ((0 : Nat) : Int) = some (V.str p) from atI_nat rfl), x, p, ns, ts, rfl, hw.same s3, hpn, hl, fun e re l H4 s4 nl hl4 => ?_⟩
        have lF : l ≠ Fd := fun z => by rw [z, hF3] at nl; cases nl
        have hF4 := s4 _ _ hF3
        have hL4 := s4 _ _ hL3
        have hR4 : RowO Fd H4 xs done := hR3.off fun b o _ h => s4 b o h
        have s5 := s3.trans s4
        rw [List.length_cons] at few
        refine ⟨_, rfl, .inl ⟨rfl, _, SqL.of hF4⟩, _, rfl, Fd, _, _, rfl, rfl, hF4, by rw [sizeLine_eq]; omega, ?_⟩
        have s6 : Same H (upd H4 Fd (.lst (xs ++ [.ref l]))) := same_upd s5 nF
        have hF6 : upd H4 Fd (.lst (xs ++ [.ref l])) Fd = some (.lst (xs ++ [.ref l])) := upd_same
        have hR6 : RowO Fd (upd H4 Fd (.lst (xs ++ [.ref l]))) (xs ++ [.ref l]) (done ++ [ns.filter fun q => decide (q ∈ e)]) := RowO.snoc lF (by rw [upd_ne lF]; exact hl4) (hR4.off fun b o n h => by rw [upd_ne n]; exact h)
        have hL6 : upd H4 Fd (.lst (xs ++ [.ref l])) L = some (.lst ((p :: left).map V.str)) := by rw [upd_ne LF]; exact hL4
        have hl6 : upd H4 Fd (.lst (xs ++ [.ref l])) l = some (.lst ((ns.filter fun q => decide (q ∈ e)).map V.str)) := by rw [upd_ne lF]; exact hl4
        generalize upd H4 Fd (.lst (xs ++ [.ref l])) = H6 at s6 hF6 hR6 hL6 hl6 ⊢
        refine ⟨_, rfl, L, rfl, ⟨_, SqL.of hL6⟩, fun N nN => ?_⟩
        refine lc_it walk_list (fun i H' => Same H6 H' ∧ H' N = some (.lst ((((p :: left).take i).filter fun q => !decide (q ∈ ns.filter fun q => decide (q ∈ e))).map V.str))) ⟨same_new nN, upd_same⟩ (fun i H' _ q => q.1.seq (SqL.of hL6)) ?_ ?_
        · rintro i y H7 H8 hi ⟨s7, hN⟩ ⟨rfl, hyi⟩
          obtain ⟨q, hq, rfl⟩ : ∃ q, (p :: left)[i]? = some q ∧ y = .str q := by
            rw [List.getElem?_map] at hyi
            cases e : (p :: left)[i]? with
            | none => rw [e] at hyi; cases hyi
            | some q => rw [e] at hyi; exact ⟨q, rfl, (Option.some.inj hyi).symm⟩
          refine ⟨rfl, _, rfl, _, rfl, l, _, rfl, .inl (SqL.of (s7 _ _ hl6)), rfl, flat_strs _, ?_⟩
          rw [if_pos rfl, in_strs]
          have step : ((p :: left).take (i + 1)).filter (fun q => !decide (q ∈ ns.filter fun q => decide (q ∈ e))) = ((p :: left).take i).filter (fun q => !decide (q ∈ ns.filter fun q => decide (q ∈ e))) ++ (if (!decide (q ∈ ns.filter fun q => decide (q ∈ e))) = true then [q] else []) := by
            rw [List.take_succ, hq, List.filter_append]
            exact congrArg _ (filter_one _ q)
          refine ⟨_, rfl, ite2 (fun c => ?_) (fun c => ?_)⟩
          · refine ⟨_, rfl, _, hN, ?_, same_upd s7 nN, ?_⟩
            · rw [List.length_map, sizeLine_eq]
              have := List.length_filter_le (fun q => !decide (q ∈ ns.filter fun q => decide (q ∈ e))) ((p :: left).take i)
              have := List.length_take_le i (p :: left)
              have : i < (p :: left).length := (List.getElem?_eq_some_iff.mp hq).1
              rw [List.length_cons] at this
              omega
            · rw [upd_same, step, if_pos c, List.map_append]
              rfl
          · refine ⟨s7, ?_⟩
            rw [step, if_neg c, List.append_nil]
            exact hN
        · rintro H7 ⟨s7, hN⟩
          rw [List.length_map, List.take_length] at hN
          have pin : p ∈ ns.filter fun q => decide (q ∈ e) := List.mem_filter.mpr ⟨hpn, decide_eq_true (re.sub p (List.mem_singleton.mpr rfl))⟩
          have less : ((p :: left).filter fun q => !decide (q ∈ ns.filter fun q => decide (q ∈ e))).length ≤ left.length := by
            rw [List.filter_cons_of_neg (by rw [decide_eq_true pin]; decide)]
            exact List.length_filter_le _ _
          have NF : N ≠ Fd := fun z => by rw [z, hF6] at nN; cases nN
          refine ⟨⟨s6.trans s7, N, _, _, _, _, _, rfl, NF, s7 _ _ hF6, hR6.off (fun b o _ h => s7 b o h), (fun v hv => (List.mem_append.mp hv).elim (fr3 v) fun z => ⟨l, List.mem_singleton.mp z, fresh s3 nl⟩), hN, fun q z => ln q (List.mem_filter.mp z).1, ?_, fun rest z => ?_⟩, ?_⟩
          · rw [List.length_append]
            simp only [List.length_cons, List.length_nil]
            omega
          · rw [List.append_assoc]
            exact run _ (.cons re z)
          · rw [mu3]
            show lenD (H7 N) < _
            rw [hN]
            show (List.map V.str _).length < _
            rw [List.length_map]
            omega
    · rintro σ H' Q Q' m ⟨v, e, b, t, q⟩
      exact ⟨v, e, b, t, m _ _ q⟩
end
end Pw

set_option Elab.async false
set_option linter.all false
set_option maxRecDepth 100000
set_option maxHeartbeats 4000000
namespace Pw
open PySem PySem.Spec PyProof.Rows L2 Ct
local macro_rules | `(tactic| wide_line) => `(tactic| repeat ((fail_if_success (with_reducible refine at_while ?_)); (fail_if_success (with_reducible refine at_while1 ?_)); (conv => whnf); first | ((with_reducible refine And.intro ?_ ?_); focus (first | (first | ((with_reducible show (_ : Nat) ≤ _); first | exact sz0 | exact sz1 | exact sz2 | exact sz3 | exact sz4 | exact sz5 | exact sz6 | exact sz7 | exact sz8 | exact sz10 | exact sz11 | exact sz12 | exact sz14 | omega | decide | (simp only [List.length_cons, List.length_nil]; omega)) | ((with_reducible show (_ : Int) ≤ _); first | omega | decide) | ((with_reducible show (_ : Int) < _); first | omega | decide) | ((with_reducible show (_ : Nat) < _); omega)) | ((fail_if_success (with_reducible show (_ : Nat) ≤ _)); (fail_if_success (with_reducible show (_ : Int) ≤ _)); (fail_if_success (with_reducible show (_ : Int) < _)); (fail_if_success (with_reducible show (_ : Nat) < _)); first | exact kv_str _ | exact kv_int _ | rfl | assumption | exact flat_strs _ | exact Lv.get (by assumption) 0 rfl | exact Lv.get (by assumption) 1 rfl | exact Lv.get (by assumption) 2 rfl | exact Lv.get (by assumption) 3 rfl | exact Lv.get (by assumption) 4 rfl | exact Lv.get (by assumption) 5 rfl | exact Lv.get (by assumption) 6 rfl | exact SqL.of (Lv.get (by assumption) 0 rfl) | exact SqL.of (Lv.get (by assumption) 1 rfl) | exact SqL.of (Lv.get (by assumption) 2 rfl) | exact SqL.of (Lv.get (by assumption) 3 rfl) | exact SqL.of (Lv.get (by assumption) 4 rfl) | exact SqL.of (Lv.get (by assumption) 5 rfl) | exact Or.inl (SqL.of (Lv.get (by assumption) 0 rfl)) | exact Or.inl (SqL.of (Lv.get (by assumption) 1 rfl)) | exact Or.inl (SqL.of (Lv.get (by assumption) 2 rfl)) | exact Or.inl (SqL.of (Lv.get (by assumption) 3 rfl)) | exact Or.inl (SqL.of (Lv.get (by assumption) 4 rfl)) | exact Or.inl (SqL.of (Lv.get (by assumption) 5 rfl)) | exact ⟨_, SqL.of (Lv.get (by assumption) 0 rfl)⟩ | exact ⟨_, SqL.of (Lv.get (by assumption) 1 rfl)⟩ | exact ⟨_, SqL.of (Lv.get (by assumption) 2 rfl)⟩ | exact ⟨_, SqL.of (Lv.get (by assumption) 3 rfl)⟩ | exact ⟨_, SqL.of (Lv.get (by assumption) 4 rfl)⟩ | exact ⟨_, SqL.of (Lv.get (by assumption) 5 rfl)⟩ | exact Or.inl ⟨_, SqL.of (Lv.get (by assumption) 0 rfl), rfl⟩ | exact Or.inl ⟨_, SqL.of (Lv.get (by assumption) 1 rfl), rfl⟩ | exact Or.inl ⟨_, SqL.of (Lv.get (by assumption) 2 rfl), rfl⟩ | exact Or.inl ⟨_, SqL.of (Lv.get (by assumption) 3 rfl), rfl⟩ | exact Or.inl ⟨_, SqL.of (Lv.get (by assumption) 4 rfl), rfl⟩ | exact Or.inl ⟨_, SqL.of (Lv.get (by assumption) 5 rfl), rfl⟩ | exact Or.inl ⟨rfl, _, SqL.of (Lv.get (by assumption) 0 rfl)⟩ | exact Or.inl ⟨rfl, _, SqL.of (Lv.get (by assumption) 1 rfl)⟩ | exact Or.inl ⟨rfl, _, SqL.of (Lv.get (by assumption) 2 rfl)⟩ | exact Or.inl ⟨rfl, _, SqL.of (Lv.get (by assumption) 3 rfl)⟩ | exact Or.inl ⟨rfl, _, SqL.of (Lv.get (by assumption) 4 rfl)⟩ | exact Or.inl ⟨rfl, _, SqL.of (Lv.get (by assumption) 5 rfl)⟩ | exact Or.inr (SqT.of (Lv.get (by assumption) 0 rfl)) | exact Or.inr (SqT.of (Lv.get (by assumption) 1 rfl)) | exact Or.inr (SqT.of (Lv.get (by assumption) 2 rfl)) | exact Or.inr (SqT.of (Lv.get (by assumption) 3 rfl)) | exact SqT.of (Lv.get (by assumption) 0 rfl) | exact SqT.of (Lv.get (by assumption) 1 rfl) | exact SqT.of (Lv.get (by assumption) 2 rfl) | exact dgetN (Lv.get (by assumption) 0 rfl) (by assumption) | exact dgetN (Lv.get (by assumption) 1 rfl) (by assumption) | exact dgetN (Lv.get (by assumption) 2 rfl) (by assumption) | exact dgetN (Lv.get (by assumption) 3 rfl) (by assumption) | exact dgetN (Lv.get (by assumption) 4 rfl) (by assumption) | decide | ((with_reducible show _ ∧ _); omega)))) | ((fail_if_success (with_reducible apply @Exists.intro (Nat → _))); (with_reducible apply Exists.intro))))
local macro_rules
  | `(tactic| wide_line with al $lv:ident $l:ident $nl:ident $H:ident $lv1:ident $s1:ident) => `(tactic| (intro $l:ident $nl:ident; generalize he : upd _ _ _ = $H:ident; have $lv1:ident := Lv.alE $lv $nl he; have $s1:ident := sameE $nl he; clear he; (try dsimp only at $lv1:ident)))
  | `(tactic| wide_line with alx $lv:ident $nl:ident $H:ident $lv1:ident $s1:ident) => `(tactic| (generalize he : upd _ _ _ = $H:ident; have $lv1:ident := Lv.alE $lv $nl he; have $s1:ident := sameE $nl he; clear he; (try dsimp only at $lv1:ident)))
  | `(tactic| wide_line with sts $lv:ident $i:num $H:ident $lv1:ident $s0:ident $np:ident $s1:ident) => `(tactic| (generalize he : upd _ _ _ = $H:ident; have $lv1:ident := Lv.stE $lv $i rfl he; have $s1:ident := sameN $s0 $np he; clear he; (try dsimp only at $lv1:ident)))
  | `(tactic| wide_line with stx $lv:ident $H:ident $lv1:ident $d1:ident) => `(tactic| (generalize he : upd _ _ _ = $H:ident; have $lv1:ident := Lv.stE $lv 0 rfl he; have $d1:ident := SameD.storeE (Lv.get $lv 0 rfl) he; clear he; (try dsimp only at $lv1:ident)))
  | `(tactic| wide_line with st $lv:ident $i:num $H:ident $lv1:ident) => `(tactic| (generalize he : upd _ _ _ = $H:ident; have $lv1:ident := Lv.stE $lv $i rfl he; clear he; (try dsimp only at $lv1:ident)))
  | `(tactic| wide_line with stk $lv:ident $i:num $H:ident $lv1:ident $k1:ident) => `(tactic| (generalize he : upd _ _ _ = $H:ident; have $lv1:ident := Lv.stE $lv $i rfl he; have $k1:ident := KeepT.st (Lv.get $lv $i rfl) he; clear he; (try dsimp only at $lv1:ident)))
/-- the datum is a list of different names -/
def placesIn (ns : List Str) : PyData → Bool
  | .list ds => ds.all (fun d => amid d ns) && decide (strsD ds).Nodup
  | _ => false
theorem amids_of {K : PySem.W.Frag} {H : Hp} {ns : List Str} : ∀ {xs : List V} {ds : List PyData}, DqAll K H xs ds → ds.all (fun d => amid d ns) = true → xs = (strsD ds).map V.str ∧ (strsD ds).length = ds.length ∧ ∀ q ∈ strsD ds, q ∈ ns
  | _, _, .nil, _ => ⟨rfl, rfl, fun q h => by cases h⟩
  | _, _, .cons (d := d) h t, n => by
    rw [List.all_cons, Bool.and_eq_true] at n
    obtain ⟨e1, e2, e3⟩ := amids_of t n.2
    cases d with
    | str x =>
      cases h
      refine ⟨by rw [e1]; rfl, by show (strsD _).length + 1 = _ + 1; rw [e2], fun q hq => ?_⟩
      rcases List.mem_cons.mp (show q ∈ x :: strsD _ from hq) with z | z
      · rw [z]; exact amid_str.mp n.1
      · exact e3 q z
    | _ => exact absurd n.1 Bool.false_ne_true
theorem noDicts_at : ∀ {ds : List PyData}, noDicts ds = true → ∀ d ∈ ds, noDict d = true
  | [], _, _, h => by cases h
  | e :: ds, n, d, h => by
    rw [noDicts, Bool.and_eq_true] at n
    rcases List.mem_cons.mp h with rfl | h
    · exact n.1
    · exact noDicts_at n.2 d h
theorem dqAll_len {K : PySem.W.Frag} {H : Hp} : ∀ {xs : List V} {ds : List PyData}, DqAll K H xs ds → xs.length = ds.length
  | _, _, .nil => rfl
  | _, _, .cons _ t => congrArg (· + 1) (dqAll_len t)
/-- are_places(web, value) -/
def spArePlaces (K : PySem.W.Frag) (C : Addr) : Sp := fun vs H Q _ => ∃ (x : Addr) (v : V) (ns : List Str) (ts : List (Str × Str)) (d : PyData), vs = [.ref x, v] ∧ WebAt K C H x ns ts ∧ Dq K H v d ∧ (∀ ds, d = .list ds → ds.length ≤ 4000) ∧ ∀ H', Same H H' → Q (.bl (placesIn ns d)) H'
section
variable {P : Program} {w : World} {K : PySem.W.Frag} {mg : Str → Option Value} {base : Heap} {C fa : Addr} {fd : FuncData}
abbrev sArePlaces : Stmt := top ix_are_places
theorem scArePlaces : FnScope ["web", "value", "place"] ["web", "value"] (defScope sArePlaces) := ⟨rfl, rfl, rfl, by decide +kernel, rfl, by decide +kernel, by decide +kernel⟩
theorem has_are_places (T : Bn mg) (D : DFE K mg "are_places" sArePlaces ["web", "value"]) (h_is_place : Has P w K mg base CX0 3 "is_place" ["web", "value"] (spIsPlace K C)) (h_all_differ : Has P w K mg base CX0 1 "_all_differ" ["names"] (spAllDiffer K)) : Has P w K mg base CX0 4 "are_places" ["web", "value"] (spArePlaces K C) := by
  refine has_of D scArePlaces (fun vs H Q E h => ?_) (fun f cdv A outer s H vs Q E hr h => ?_)
  · obtain ⟨x, v, ns, ts, d, rfl, _⟩ := h; rfl
  · obtain ⟨x, v, ns, ts, d, rfl, hw, hd, hn, k⟩ := h
    have nd := scArePlaces.nd
    refine ⟨_, (pss_cons (ps_if (PW.pt (pw_or (pt_not (pt_val (pe_callB call_isD (by rfl) T.z_isinstance (by decide +kernel) (pa_cons (pv 1) (pa_cons (pe_bltn (v := .ty "list") rfl T.z_list (by decide +kernel) rfl) pa_nil))))) (pw_or1 (pt_not (pt_val (pe_callB (cr_all rfl) (by rfl) T.z_all (by decide +kernel) (pa_cons (pe_lc (own := [("place", 2)]) (g := gName 2) (tt := tYes) rfl nd (pi_sq (pv 1)) (blkOk_by (own := [("place", 2)]) (N := ["web", "value", "place"]) (sc := defScope sArePlaces) (by decide +kernel)) (fun _ _ _ _ _ => (pg_name (i := 2) nd rfl (by first | exact Or.inl rfl | exact Or.inr rfl))) (fun _ _ _ _ _ => pts_nil) (fun _ _ _ _ _ => (pe_h h_is_place hr (by decide) rfl (pa_cons (pv 0) (pa_cons (pv 2) pa_nil))))) pa_nil))))))) (pss_one (ps_ret pe_bl)) pss_nil)
    (pss_one (ps_ret (pe_h h_all_differ hr (by decide) rfl (pa_cons (pv 1) pa_nil))))), ?_⟩
    refine ⟨_, rfl, _, d, "list", _, rfl, hd, kit_list d, _, rfl, ?_⟩
    cases hd with
    | @lst a xs ds hs ha =>
      have n2 := hn ds rfl
      refine iteF ⟨_, rfl, a, xs, rfl, .inl hs, fun J G ex hG wk L nL => ?_⟩
      refine lc_it wk (fun i H2 => Same H H2 ∧ ∃ bs : List Bool, H2 L = some (.lst (bs.map V.bl)) ∧ bs = (ds.take i).map fun d => amid d ns) ⟨same_new nL, [], upd_same, rfl⟩ (fun i H2 _ p => hG H2 (.same p.1)) ?_ ?_
      · rintro i y H2 H3 hi ⟨sm, bs, hL, hb⟩ ⟨rfl, hyi⟩
        obtain ⟨dx, hdx, hqx⟩ := dqAll_at ha hyi
        refine ⟨rfl, _, rfl, _, rfl, x, y, ns, ts, dx, rfl, hw.same sm, Dq.same sm hqx, ?_⟩
        refine ⟨bs.map V.bl, hL, ?_, same_upd sm nL, bs ++ [amid dx ns], by rw [upd_same, List.map_append]; rfl, by rw [hb, List.take_succ, hdx]; simp⟩
        rw [List.length_map, hb, List.length_map, sizeLine_eq]
        have := List.length_take_le i ds
        have := (List.getElem?_eq_some_iff.mp hdx).1
        omega
      · rintro H2 ⟨sm, bs, hL, hb⟩
        refine ⟨L, bs, rfl, SqL.of hL, _, rfl, ?_⟩
        rw [dqAll_len ha, List.take_length] at hb
        have eb : bs.all id = ds.all fun d => amid d ns := by rw [hb, List.all_map]; rfl
        rw [eb]
        have kk : ∀ H', Same H H' → Q (.bl (ds.all (fun d => amid d ns) && decide (strsD ds).Nodup)) H' := k
        have k2 := kk H2 sm
        cases al : ds.all (fun d => amid d ns) with
        | false => rw [al] at k2; exact iteT k2
        | true =>
          obtain ⟨e1, e2, _⟩ := amids_of ha al
          refine iteF ?_
          subst e1
          refine ⟨_, rfl, a, strsD ds, rfl, .inl (sm.seq hs), by omega, fun H3 s3 => ⟨fun c => ?_, fun c => ?_⟩⟩
          · have k3 := kk H3 (sm.trans s3)
            rw [al, Bool.true_and, decide_eq_true c] at k3
            exact k3
          · have k3 := kk H3 (sm.trans s3)
            rw [al, Bool.true_and, decide_eq_false c] at k3
            exact k3
    | _ => exact iteT (iteT (k H (Same.refl H)))
end
end Pw

set_option Elab.async false
set_option linter.all false
set_option maxRecDepth 100000
set_option maxHeartbeats 4000000
namespace Pw
open PySem PySem.Spec PyProof.Rows L2 Ct
section
variable {P : Program} {w : World} {K : PySem.W.Frag} {mg : Str → Option Value} {base : Heap}
abbrev sSource : Stmt := top ix_law_source
theorem scSource : FnScope ["script", "start", "mixed", "cell", "rest"] ["script", "start"] (defScope sSource) := ⟨rfl, rfl, rfl, by decide +kernel, rfl, by decide +kernel, by decide +kernel⟩
theorem has_source (T : Bn mg) (D : DFE K mg "_law_source" sSource ["script", "start"]) : Has P w K mg base CX0 1 "_law_source" ["script", "start"] (spSource K) := by
  refine has_of D scSource (fun vs H Q E h => ?_) (fun f cdv A outer s H vs Q E hr h => ?_)
  · obtain ⟨a, ns, st, rfl, _⟩ := h; rfl
  · obtain ⟨a, ns, st, rfl, st0, st1, hS, hlen, hbits, k⟩ := h
    have nd := scSource.nd
    refine ⟨_, (pss_cons (ps_sv 2 nd (pe_op op_add pe_int (pv 1)))
      (pss_cons (ps_for PassesOwn.never rfl (pi_list (pv 0)) (pg_name (i := 3) nd rfl (by first | exact Or.inl rfl | exact Or.inr rfl)) (pss_one (ps_sv 2 nd (pe_op op_add (pe_op op_mod (pe_callTy call_int1 (by rfl) T.z_int (by decide +kernel) (pa_cons (pe_op op_powW (pe_callTy call_int1 (by rfl) T.z_int (by decide +kernel) (pa_cons (pe_op op_add (pe_op op_mul (pv 2) pe_int) (pe_callTy call_int1 (by rfl) T.z_int (by decide +kernel) (pa_cons (pv 3) pa_nil))) pa_nil)) pe_int) pa_nil)) pe_int) pe_int))))
      (pss_cons (ps_sv 4 nd pe_int)
      (pss_cons (ps_if (PW.pt (pw_and (pt_cmpR op_lt (pv 1) (pe_callB call_len (by rfl) T.z_len (by decide +kernel) (pa_cons (pv 0) pa_nil)) (by first | exact nomark _ | rfl)) (pw_and1 (pt_cmpR op_ge (pe_ix ix_list (pv 0) (pv 1) (fun _ _ => rfl)) (pe_op op_powW pe_int pe_int) (by first | exact nomark _ | rfl))))) (pss_one (ps_sv 4 nd (pe_op op_sub (pe_ix ix_list (pv 0) (pv 1) (fun _ _ => rfl)) (pe_op op_powW pe_int pe_int)))) pss_nil)
      (pss_one (ps_ret (pe_lst (pa_cons (pv 4) (pa_cons (pv 2) pa_nil))))))))), ?_⟩
    -- mixed = 83 + start; the loop
    refine ⟨_, rfl, _, _, rfl, rfl, _, rfl, a, rfl, ⟨_, hS⟩, for_list (K := K) (a := a) (xs := ns.map V.int) (fun i σ H' => H' = H ∧ ∃ (m : Int) (c : Option V), σ = [some (.ref a), some (.int st), some (.int m), c, none] ∧ 0 ≤ m ∧ m ≤ 2147483647)
      ⟨rfl, _, none, rfl, by omega, by omega⟩ (fun i σ H' _ ⟨e, _⟩ => by rw [e]; exact hS) ?_ ?_⟩
    · rintro i y σ H' hi ⟨rfl, m, c, rfl, m0, m1⟩
      obtain ⟨z, _, hz, rfl⟩ := ints_at hi
      have b1 : Builtin.Int.intBits (m * 50021 + z) ≤ 1048577 := intBits_add_le (m := 1048576) (n := 1048576) (Nat.le_trans (bits_small (n := 64) (by omega) (by omega)) (by decide)) (hbits z hz)
      refine ⟨_, rfl, _, _, rfl, rfl, .inl ⟨by omega, by omega⟩, _, rfl, .inl ⟨_, rfl, _, _, rfl, rfl, .inl ⟨_, rfl, _, _, rfl, rfl, pow_ok b1 (by decide) (by decide), .inl ⟨_, rfl, _, _, rfl, rfl, by show (0 : Int) < 2147483563; decide, _, _, rfl, rfl, ?_⟩⟩⟩⟩
      have q0 := Int.emod_nonneg ((m * 50021 + z) ^ (3 : Int).toNat) (show (2147483563 : Int) ≠ 0 by decide)
      have q1 := Int.emod_lt_of_pos ((m * 50021 + z) ^ (3 : Int).toNat) (show (0 : Int) < 2147483563 by decide)
      exact ⟨rfl, _, _, rfl, by omega, by omega⟩
    · rintro σ H' ⟨rfl, m, c, rfl, m0, m1⟩
      have p18 : CPowW 10 18 := pow_ok (n := 4) (by decide +kernel) (by decide) (by decide)
      -- start < len(script) and script[start] >= 10 ** 18
      refine ⟨_, rfl, _, rfl, _, _, rfl, .inl ⟨_, hS, rfl⟩, _, _, rfl, rfl, _, rfl, ?_⟩
      refine ite2 (fun c1 => ?_) (fun _ => iteF ?_)
      · have c1 := of_decide_eq_true c1
        obtain ⟨y, hy, ey⟩ := at_in st0 c1
        obtain ⟨z, hz, rfl⟩ := List.mem_map.mp hy
        refine ⟨_, rfl, _, rfl, a, _, st, _, rfl, rfl, hS, ey, _, _, rfl, rfl, p18, _, _, rfl, rfl, _, rfl, ?_⟩
        refine ite2 (fun c2 => ?_) (fun _ => ?_)
        · have c2 : (10 : Int) ^ (18 : Int).toNat ≤ z := of_decide_eq_true c2
          refine ⟨_, rfl, _, rfl, a, _, st, _, rfl, rfl, hS, ey, _, _, rfl, rfl, p18, _, _, rfl, rfl, _, rfl, _, rfl, (by show 2 ≤ sizeLine; decide), fun p hp => ?_⟩
          exact k p _ _ hp ⟨by omega, m0, m1⟩
        · refine ⟨_, rfl, _, rfl, (by show 2 ≤ sizeLine; decide), fun p hp => ?_⟩
          exact k p _ _ hp ⟨by decide, m0, m1⟩
      · refine ⟨_, rfl, _, rfl, (by show 2 ≤ sizeLine; decide), fun p hp => ?_⟩
        exact k p _ _ hp ⟨by decide, m0, m1⟩
abbrev sDraw : Stmt := top ix_law_draw
theorem scDraw : FnScope ["source", "span", "found"] ["source", "span"] (defScope sDraw) := ⟨rfl, rfl, rfl, by decide +kernel, rfl, by decide +kernel, by decide +kernel⟩
theorem has_draw (T : Bn mg) (D : DFE K mg "_law_draw" sDraw ["source", "span"]) : Has P w K mg base CX0 1 "_law_draw" ["source", "span"] spDraw := by
  refine has_of D scDraw (fun vs H Q E h => ?_) (fun f cdv A outer s H vs Q E hr h => ?_)
  · obtain ⟨p, r, m, n, rfl, _⟩ := h; rfl
  · obtain ⟨p, r, m, n, rfl, hp, ⟨r0, m0, m1⟩, n1, n2, k⟩ := h
    have nd := scDraw.nd
    refine ⟨_, (pss_cons (ps_if (pt_cmpR op_ge (pe_ix ix_list (pv 0) pe_int (fun _ _ => rfl)) (pv 1) (by first | exact nomark _ | rfl)) (pss_cons (ps_sv 2 nd (pe_op op_mod (pe_callTy call_int1 (by rfl) T.z_int (by decide +kernel) (pa_cons (pe_ix ix_list (pv 0) pe_int (fun _ _ => rfl)) pa_nil)) (pv 1)))
      (pss_cons (ps_asg (pe_op op_fdivW (pe_ix ix_list (pv 0) pe_int (fun _ _ => rfl)) (pv 1)) (pg_sub (pv 0) pe_int set_list))
      (pss_one (ps_ret (pv 2))))) pss_nil)
      (pss_cons (ps_asg (pe_op op_mod (pe_callTy call_int1 (by rfl) T.z_int (by decide +kernel) (pa_cons (pe_op op_add (pe_op op_mul (pe_ix ix_list (pv 0) pe_int (fun _ _ => rfl)) pe_int) pe_int) pa_nil)) pe_int) (pg_sub (pv 0) pe_int set_list))
      (pss_one (ps_ret (pe_op op_mod (pe_callTy call_int1 (by rfl) T.z_int (by decide +kernel) (pa_cons (pe_op op_fdivW (pe_op op_mod (pe_callTy call_int1 (by rfl) T.z_int (by decide +kernel) (pa_cons (pe_op op_powW (pe_callTy call_int1 (by rfl) T.z_int (by decide +kernel) (pa_cons (pe_ix ix_list (pv 0) pe_int (fun _ _ => rfl)) pa_nil)) pe_int) pa_nil)) pe_int) pe_int) pa_nil)) (pv 1)))))), ?_⟩
    -- source[0] >= span
    refine ⟨_, rfl, p, _, 0, _, rfl, rfl, SqL.of hp, rfl, _, rfl, _, _, rfl, rfl, _, rfl, ?_⟩
    refine ite2 (fun c1 => ?_) (fun _ => ?_)
    · refine ⟨_, rfl, p, _, 0, _, rfl, rfl, SqL.of hp, rfl, .inl ⟨_, rfl, _, rfl, _, _, rfl, rfl, (show 0 < n by omega), ?_⟩⟩
      refine ⟨_, rfl, p, _, 0, _, rfl, rfl, SqL.of hp, rfl, _, rfl, _, _, rfl, rfl, wide_div (b := 32) (by omega) (by omega) (by decide) (by decide), _, rfl, p, _, 0, 0, rfl, rfl, hp, rfl, ?_⟩
      refine ⟨_, rfl, ?_⟩
      exact k _ _ _ ⟨Int.ediv_nonneg r0 (by omega), m0, m1⟩ (Int.emod_nonneg _ (by omega)) (Int.emod_lt_of_pos _ (by omega))
    · have q0 := Int.emod_nonneg (m * 69621 + 4241) (show (2147483647 : Int) ≠ 0 by decide)
      have q1 := Int.emod_lt_of_pos (m * 69621 + 4241) (show (0 : Int) < 2147483647 by decide)
      refine ⟨_, rfl, p, _, 1, _, rfl, rfl, SqL.of hp, rfl, _, _, rfl, rfl, .inl ⟨by omega, by omega⟩, _, _, rfl, rfl, .inl ⟨_, rfl, _, _, rfl, rfl, (show (0 : Int) < 2147483647 by decide), ?_⟩⟩
      refine ⟨_, rfl, p, _, 1, 1, rfl, rfl, hp, rfl, ?_⟩
      refine ⟨_, rfl, p, _, 1, _, rfl, rfl, SqL.of upd_same, rfl, .inl ⟨_, rfl, ?_⟩⟩
      refine ⟨_, _, rfl, rfl, pow_ok (n := 32) (bits_small q0 (by omega)) (by decide) (by decide), .inl ⟨_, rfl, ?_⟩⟩
      refine ⟨_, _, rfl, rfl, (show (0 : Int) < 1000000007 by decide), _, _, rfl, rfl, wide_div (b := 8) (by decide) (by decide) (by decide) (by decide), .inl ⟨_, rfl, ?_⟩⟩
      refine ⟨_, rfl, _, _, rfl, rfl, (show 0 < n by omega), ?_⟩
      exact k _ _ _ ⟨r0, q0, by omega⟩ (Int.emod_nonneg _ (by omega)) (Int.emod_lt_of_pos _ (by omega))
end
end Pw

set_option Elab.async false
set_option linter.all false
set_option maxRecDepth 100000
set_option maxHeartbeats 4000000
namespace Pw
open PySem PySem.Spec PyProof.Rows L2 Ct
local macro_rules | `(tactic| wide_line) => `(tactic| repeat ((fail_if_success (with_reducible refine at_while ?_)); (fail_if_success (with_reducible refine at_while1 ?_)); (conv => whnf); first | ((with_reducible refine And.intro ?_ ?_); focus (first | (first | ((with_reducible show (_ : Nat) ≤ _); first | exact sz0 | exact sz1 | exact sz2 | exact sz3 | exact sz4 | exact sz5 | exact sz6 | exact sz7 | exact sz8 | exact sz10 | exact sz11 | exact sz12 | exact sz14 | omega | decide | (simp only [List.length_cons, List.length_nil]; omega)) | ((with_reducible show (_ : Int) ≤ _); first | omega | decide) | ((with_reducible show (_ : Int) < _); first | omega | decide) | ((with_reducible show (_ : Nat) < _); omega)) | ((fail_if_success (with_reducible show (_ : Nat) ≤ _)); (fail_if_success (with_reducible show (_ : Int) ≤ _)); (fail_if_success (with_reducible show (_ : Int) < _)); (fail_if_success (with_reducible show (_ : Nat) < _)); first | exact kv_str _ | exact kv_int _ | rfl | assumption | exact flat_strs _ | exact Lv.get (by assumption) 0 rfl | exact Lv.get (by assumption) 1 rfl | exact Lv.get (by assumption) 2 rfl | exact Lv.get (by assumption) 3 rfl | exact Lv.get (by assumption) 4 rfl | exact Lv.get (by assumption) 5 rfl | exact Lv.get (by assumption) 6 rfl | exact SqL.of (Lv.get (by assumption) 0 rfl) | exact SqL.of (Lv.get (by assumption) 1 rfl) | exact SqL.of (Lv.get (by assumption) 2 rfl) | exact SqL.of (Lv.get (by assumption) 3 rfl) | exact SqL.of (Lv.get (by assumption) 4 rfl) | exact SqL.of (Lv.get (by assumption) 5 rfl) | exact Or.inl (SqL.of (Lv.get (by assumption) 0 rfl)) | exact Or.inl (SqL.of (Lv.get (by assumption) 1 rfl)) | exact Or.inl (SqL.of (Lv.get (by assumption) 2 rfl)) | exact Or.inl (SqL.of (Lv.get (by assumption) 3 rfl)) | exact Or.inl (SqL.of (Lv.get (by assumption) 4 rfl)) | exact Or.inl (SqL.of (Lv.get (by assumption) 5 rfl)) | exact ⟨_, SqL.of (Lv.get (by assumption) 0 rfl)⟩ | exact ⟨_, SqL.of (Lv.get (by assumption) 1 rfl)⟩ | exact ⟨_, SqL.of (Lv.get (by assumption) 2 rfl)⟩ | exact ⟨_, SqL.of (Lv.get (by assumption) 3 rfl)⟩ | exact ⟨_, SqL.of (Lv.get (by assumption) 4 rfl)⟩ | exact ⟨_, SqL.of (Lv.get (by assumption) 5 rfl)⟩ | exact Or.inl ⟨_, SqL.of (Lv.get (by assumption) 0 rfl), rfl⟩ | exact Or.inl ⟨_, SqL.of (Lv.get (by assumption) 1 rfl), rfl⟩ | exact Or.inl ⟨_, SqL.of (Lv.get (by assumption) 2 rfl), rfl⟩ | exact Or.inl ⟨_, SqL.of (Lv.get (by assumption) 3 rfl), rfl⟩ | exact Or.inl ⟨_, SqL.of (Lv.get (by assumption) 4 rfl), rfl⟩ | exact Or.inl ⟨_, SqL.of (Lv.get (by assumption) 5 rfl), rfl⟩ | exact Or.inl ⟨rfl, _, SqL.of (Lv.get (by assumption) 0 rfl)⟩ | exact Or.inl ⟨rfl, _, SqL.of (Lv.get (by assumption) 1 rfl)⟩ | exact Or.inl ⟨rfl, _, SqL.of (Lv.get (by assumption) 2 rfl)⟩ | exact Or.inl ⟨rfl, _, SqL.of (Lv.get (by assumption) 3 rfl)⟩ | exact Or.inl ⟨rfl, _, SqL.of (Lv.get (by assumption) 4 rfl)⟩ | exact Or.inl ⟨rfl, _, SqL.of (Lv.get (by assumption) 5 rfl)⟩ | exact Or.inr (SqT.of (Lv.get (by assumption) 0 rfl)) | exact Or.inr (SqT.of (Lv.get (by assumption) 1 rfl)) | exact Or.inr (SqT.of (Lv.get (by assumption) 2 rfl)) | exact Or.inr (SqT.of (Lv.get (by assumption) 3 rfl)) | exact SqT.of (Lv.get (by assumption) 0 rfl) | exact SqT.of (Lv.get (by assumption) 1 rfl) | exact SqT.of (Lv.get (by assumption) 2 rfl) | exact dgetN (Lv.get (by assumption) 0 rfl) (by assumption) | exact dgetN (Lv.get (by assumption) 1 rfl) (by assumption) | exact dgetN (Lv.get (by assumption) 2 rfl) (by assumption) | exact dgetN (Lv.get (by assumption) 3 rfl) (by assumption) | exact dgetN (Lv.get (by assumption) 4 rfl) (by assumption) | decide | ((with_reducible show _ ∧ _); omega)))) | ((fail_if_success (with_reducible apply @Exists.intro (Nat → _))); (with_reducible apply Exists.intro))))
local macro_rules
  | `(tactic| wide_line with al $lv:ident $l:ident $nl:ident $H:ident $lv1:ident $s1:ident) => `(tactic| (intro $l:ident $nl:ident; generalize he : upd _ _ _ = $H:ident; have $lv1:ident := Lv.alE $lv $nl he; have $s1:ident := sameE $nl he; clear he; (try dsimp only at $lv1:ident)))
  | `(tactic| wide_line with alx $lv:ident $nl:ident $H:ident $lv1:ident $s1:ident) => `(tactic| (generalize he : upd _ _ _ = $H:ident; have $lv1:ident := Lv.alE $lv $nl he; have $s1:ident := sameE $nl he; clear he; (try dsimp only at $lv1:ident)))
  | `(tactic| wide_line with sts $lv:ident $i:num $H:ident $lv1:ident $s0:ident $np:ident $s1:ident) => `(tactic| (generalize he : upd _ _ _ = $H:ident; have $lv1:ident := Lv.stE $lv $i rfl he; have $s1:ident := sameN $s0 $np he; clear he; (try dsimp only at $lv1:ident)))
  | `(tactic| wide_line with st $lv:ident $i:num $H:ident $lv1:ident) => `(tactic| (generalize he : upd _ _ _ = $H:ident; have $lv1:ident := Lv.stE $lv $i rfl he; clear he; (try dsimp only at $lv1:ident)))
  | `(tactic| wide_line with stk $lv:ident $i:num $H:ident $lv1:ident $k1:ident) => `(tactic| (generalize he : upd _ _ _ = $H:ident; have $lv1:ident := Lv.stE $lv $i rfl he; have $k1:ident := KeepT.st (Lv.get $lv $i rfl) he; clear he; (try dsimp only at $lv1:ident)))
/-- mixed(source, things): a new list of them in some sequence -/
def spMixed (K : PySem.W.Frag) : Sp := fun vs H Q _ => ∃ (p q : Addr) (r m : Int) (xs : List V), vs = [.ref p, .ref q] ∧ H p = some (.lst [.int r, .int m]) ∧ SrcOk r m ∧ SqS K H q xs ∧ xs.length ≤ 100000 ∧
  ∀ r' m' ys l H', SrcOk r' m' → ys.Perm xs → (∀ b o, b ≠ p → H b = some o → H' b = some o) → H' p = some (.lst [.int r', .int m']) → H l = none → H' l = some (.lst ys) → Q (.ref l) H'
section
variable {P : Program} {w : World} {K : PySem.W.Frag} {mg : Str → Option Value} {base : Heap}
abbrev sLawMixed : Stmt := top ix_law_mixed
theorem scLawMixed : FnScope ["source", "things", "lot", "found"] ["source", "things"] (defScope sLawMixed) := ⟨rfl, rfl, rfl, by decide +kernel, rfl, by decide +kernel, by decide +kernel⟩
theorem has_mixed (T : Bn mg) (D : DFE K mg "_law_mixed" sLawMixed ["source", "things"]) (h_law_draw : Has P w K mg base CX0 1 "_law_draw" ["source", "span"] spDraw) : Has P w K mg base CX0 2 "_law_mixed" ["source", "things"] (spMixed K) := by
  refine has_of D scLawMixed (fun vs H Q E h => ?_) (fun f cdv A outer s H vs Q E hr h => ?_)
  · obtain ⟨p, q, r, m, xs, rfl, _⟩ := h; rfl
  · obtain ⟨p, q, r, m, xs, rfl, hp, ok, hx, hl, k⟩ := h
    have nd := scLawMixed.nd
    refine ⟨_, (pss_cons (ps_par (i := 2) (j := 3) (by rfl) nd rfl rfl (by decide) rfl rfl (pa_cons (pe_callTy call_list_of (by rfl) T.z_list (by decide +kernel) (pa_cons (pv 1) pa_nil)) (pa_cons (pe_lst pa_nil) pa_nil)) (by rfl))
    (pss_cons (ps_while PassesOwn.never (pt_cmpR (op_neNil hr.units) (pv 2) (pe_lst pa_nil) (by first | exact nomark _ | rfl)) (pss_one (ps_expr (pe_bm PySem.F.plainAttrs_list PySem.F.slot_list_append PySem.F.type_list_append mt_append (pv 3) (pa_cons (pe_bm PySem.F.plainAttrs_list PySem.F.slot_list_pop PySem.F.type_list_pop mt_popAt (pv 2) (pa_cons (pe_h h_law_draw hr (by decide) rfl (pa_cons (pv 0) (pa_cons (pe_callB call_len (by rfl) T.z_len (by decide +kernel) (pa_cons (pv 2) pa_nil)) pa_nil))) pa_nil)) pa_nil)))))
    (pss_one (ps_ret (pv 3))))), ?_⟩
    have lv := Lv.one hp
    wide_line
    wide_line with al lv l nl H1 lv1 s1
    wide_line
    wide_line with al lv1 fd nf H2 lv2 s2
    wide_line
    have s02 := s1.trans s2
    refine while_n (fun σ H' => Hold (∃ (r m : Int) (ys zs : List V), σ = [some (.ref p), some (.ref q), some (.ref l), some (.ref fd)] ∧ Lv H [p] H' [(fd, .lst zs), (l, .lst ys), (p, .lst [.int r, .int m])] ∧ SrcOk r m ∧ (zs ++ ys).Perm xs))
      (fun _ H' => lenH H' l) ⟨r, m, xs, [], rfl, lv2, ok, .refl _⟩ ?_
    rintro σ H3 ⟨r3, m3, ys, zs, rfl, lv3, ok3, pm⟩
    wide_line
    wide_line with al lv3 e0 ne H4 lv4 s4
    wide_line
    cases ys with
    | nil =>
      refine iteF ?_
      wide_line
      exact k r3 m3 zs fd H4 ok3 (by simpa using pm) lv4.off (Lv.get lv4 3 rfl) (lv1.free nf) (Lv.get lv4 1 rfl)
    | cons y0 ys =>
      refine iteT ⟨_, while_nx, ?_⟩
      wide_line
      have few : zs.length + (ys.length + 1) ≤ 100000 := by
        have := pm.length_eq
        rw [List.length_append, List.length_cons] at this
        omega
      refine ⟨(show (1 : Int) ≤ ((y0 :: ys).length : Nat) by simp only [List.length_cons]; omega), (show (((y0 :: ys).length : Nat) : Int) ≤ 1000000000 by simp only [List.length_cons]; omega), fun r4 m4 j ok4 j0 j1 => ?_⟩
      wide_line with st lv4 3 H5 lv5
      have jl : j < 100001 := by
        have z := j1
        simp only [List.length_cons] at z
        omega
      have jn : j.toNat < (y0 :: ys).length := by omega
      wide_line
      have hk := PyProof.Rows.seqIndex_at j0 j1
      have hy : (y0 :: ys)[j.toNat]? = some ((y0 :: ys)[j.toNat]) := List.getElem?_eq_getElem jn
      refine ⟨hk, hy, ?_⟩
      wide_line with st lv5 2 H6 lv6
      wide_line
      refine ⟨(show zs.length < sizeLine by rw [sizeLine_eq]; omega), ?_⟩
      wide_line with st lv6 1 H7 lv7
      refine ⟨⟨r4, m4, (y0 :: ys).eraseIdx j.toNat, zs ++ [(y0 :: ys)[j.toNat]], rfl, lv7.tl (fun z => lv4.ne 0 3 (by decide) rfl rfl (List.mem_singleton.mp z)), ok4, ?_⟩, ?_⟩
      · refine List.Perm.trans ?_ pm
        rw [List.append_assoc]
        exact List.Perm.append_left zs (erase_perm jn)
      · rw [lenH_eq (lv7.get 2 rfl), lenH_eq (lv3.get 1 rfl), List.length_eraseIdx_of_lt jn]
        simp only [List.length_cons]
        omega
end
end Pw

set_option Elab.async false
set_option linter.all false
set_option maxRecDepth 100000
set_option maxHeartbeats 4000000
namespace Pw
open PySem PySem.Spec PyProof.Rows L2 Ct
local macro_rules | `(tactic| wide_line) => `(tactic| repeat ((fail_if_success (with_reducible refine at_while ?_)); (fail_if_success (with_reducible refine at_while1 ?_)); (conv => whnf); first | ((with_reducible refine And.intro ?_ ?_); focus (first | (first | ((with_reducible show (_ : Nat) ≤ _); first | exact sz0 | exact sz1 | exact sz2 | exact sz3 | exact sz4 | exact sz5 | exact sz6 | exact sz7 | exact sz8 | exact sz10 | exact sz11 | exact sz12 | exact sz14 | omega | decide | (simp only [List.length_cons, List.length_nil]; omega)) | ((with_reducible show (_ : Int) ≤ _); first | omega | decide) | ((with_reducible show (_ : Int) < _); first | omega | decide) | ((with_reducible show (_ : Nat) < _); omega)) | ((fail_if_success (with_reducible show (_ : Nat) ≤ _)); (fail_if_success (with_reducible show (_ : Int) ≤ _)); (fail_if_success (with_reducible show (_ : Int) < _)); (fail_if_success (with_reducible show (_ : Nat) < _)); first | exact kv_str _ | exact kv_int _ | rfl | assumption | exact flat_strs _ | exact Lv.get (by assumption) 0 rfl | exact Lv.get (by assumption) 1 rfl | exact Lv.get (by assumption) 2 rfl | exact Lv.get (by assumption) 3 rfl | exact Lv.get (by assumption) 4 rfl | exact Lv.get (by assumption) 5 rfl | exact Lv.get (by assumption) 6 rfl | exact SqL.of (Lv.get (by assumption) 0 rfl) | exact SqL.of (Lv.get (by assumption) 1 rfl) | exact SqL.of (Lv.get (by assumption) 2 rfl) | exact SqL.of (Lv.get (by assumption) 3 rfl) | exact SqL.of (Lv.get (by assumption) 4 rfl) | exact SqL.of (Lv.get (by assumption) 5 rfl) | exact Or.inl (SqL.of (Lv.get (by assumption) 0 rfl)) | exact Or.inl (SqL.of (Lv.get (by assumption) 1 rfl)) | exact Or.inl (SqL.of (Lv.get (by assumption) 2 rfl)) | exact Or.inl (SqL.of (Lv.get (by assumption) 3 rfl)) | exact Or.inl (SqL.of (Lv.get (by assumption) 4 rfl)) | exact Or.inl (SqL.of (Lv.get (by assumption) 5 rfl)) | exact ⟨_, SqL.of (Lv.get (by assumption) 0 rfl)⟩ | exact ⟨_, SqL.of (Lv.get (by assumption) 1 rfl)⟩ | exact ⟨_, SqL.of (Lv.get (by assumption) 2 rfl)⟩ | exact ⟨_, SqL.of (Lv.get (by assumption) 3 rfl)⟩ | exact ⟨_, SqL.of (Lv.get (by assumption) 4 rfl)⟩ | exact ⟨_, SqL.of (Lv.get (by assumption) 5 rfl)⟩ | exact Or.inl ⟨_, SqL.of (Lv.get (by assumption) 0 rfl), rfl⟩ | exact Or.inl ⟨_, SqL.of (Lv.get (by assumption) 1 rfl), rfl⟩ | exact Or.inl ⟨_, SqL.of (Lv.get (by assumption) 2 rfl), rfl⟩ | exact Or.inl ⟨_, SqL.of (Lv.get (by assumption) 3 rfl), rfl⟩ | exact Or.inl ⟨_, SqL.of (Lv.get (by assumption) 4 rfl), rfl⟩ | exact Or.inl ⟨_, SqL.of (Lv.get (by assumption) 5 rfl), rfl⟩ | exact Or.inl ⟨rfl, _, SqL.of (Lv.get (by assumption) 0 rfl)⟩ | exact Or.inl ⟨rfl, _, SqL.of (Lv.get (by assumption) 1 rfl)⟩ | exact Or.inl ⟨rfl, _, SqL.of (Lv.get (by assumption) 2 rfl)⟩ | exact Or.inl ⟨rfl, _, SqL.of (Lv.get (by assumption) 3 rfl)⟩ | exact Or.inl ⟨rfl, _, SqL.of (Lv.get (by assumption) 4 rfl)⟩ | exact Or.inl ⟨rfl, _, SqL.of (Lv.get (by assumption) 5 rfl)⟩ | exact Or.inr (SqT.of (Lv.get (by assumption) 0 rfl)) | exact Or.inr (SqT.of (Lv.get (by assumption) 1 rfl)) | exact Or.inr (SqT.of (Lv.get (by assumption) 2 rfl)) | exact Or.inr (SqT.of (Lv.get (by assumption) 3 rfl)) | exact SqT.of (Lv.get (by assumption) 0 rfl) | exact SqT.of (Lv.get (by assumption) 1 rfl) | exact SqT.of (Lv.get (by assumption) 2 rfl) | exact dgetN (Lv.get (by assumption) 0 rfl) (by assumption) | exact dgetN (Lv.get (by assumption) 1 rfl) (by assumption) | exact dgetN (Lv.get (by assumption) 2 rfl) (by assumption) | exact dgetN (Lv.get (by assumption) 3 rfl) (by assumption) | exact dgetN (Lv.get (by assumption) 4 rfl) (by assumption) | decide | ((with_reducible show _ ∧ _); omega)))) | ((fail_if_success (with_reducible apply @Exists.intro (Nat → _))); (with_reducible apply Exists.intro))))
local macro_rules
  | `(tactic| wide_line with al $lv:ident $l:ident $nl:ident $H:ident $lv1:ident $s1:ident) => `(tactic| (intro $l:ident $nl:ident; generalize he : upd _ _ _ = $H:ident; have $lv1:ident := Lv.alE $lv $nl he; have $s1:ident := sameE $nl he; clear he; (try dsimp only at $lv1:ident)))
  | `(tactic| wide_line with alx $lv:ident $nl:ident $H:ident $lv1:ident $s1:ident) => `(tactic| (generalize he : upd _ _ _ = $H:ident; have $lv1:ident := Lv.alE $lv $nl he; have $s1:ident := sameE $nl he; clear he; (try dsimp only at $lv1:ident)))
  | `(tactic| wide_line with sts $lv:ident $i:num $H:ident $lv1:ident $s0:ident $np:ident $s1:ident) => `(tactic| (generalize he : upd _ _ _ = $H:ident; have $lv1:ident := Lv.stE $lv $i rfl he; have $s1:ident := sameN $s0 $np he; clear he; (try dsimp only at $lv1:ident)))
  | `(tactic| wide_line with st $lv:ident $i:num $H:ident $lv1:ident) => `(tactic| (generalize he : upd _ _ _ = $H:ident; have $lv1:ident := Lv.stE $lv $i rfl he; clear he; (try dsimp only at $lv1:ident)))
  | `(tactic| wide_line with stk $lv:ident $i:num $H:ident $lv1:ident $k1:ident) => `(tactic| (generalize he : upd _ _ _ = $H:ident; have $lv1:ident := Lv.stE $lv $i rfl he; have $k1:ident := KeepT.st (Lv.get $lv $i rfl) he; clear he; (try dsimp only at $lv1:ident)))
/-- pick(source, text): a sign of it -/
def spPickS : Sp := fun vs H Q _ => ∃ (p : Addr) (r m : Int) (x : Str), vs = [.ref p, .str x] ∧ H p = some (.lst [.int r, .int m]) ∧ SrcOk r m ∧ 1 ≤ x.length ∧ x.length ≤ 1000 ∧
  ∀ r' m' c, SrcOk r' m' → c ∈ x.cps.toList → Q (.str ⟨#[c]⟩) (upd H p (.lst [.int r', .int m']))
def spPick2 (K : PySem.W.Frag) : Sp := fun vs H Q E => spPick K vs H Q E ∨ spPickS vs H Q E
section
variable {P : Program} {w : World} {K : PySem.W.Frag} {mg : Str → Option Value} {base : Heap}
abbrev sPick : Stmt := top ix_law_pick
theorem scPick : FnScope ["source", "things"] ["source", "things"] (defScope sPick) := ⟨rfl, rfl, rfl, by decide +kernel, rfl, by decide +kernel, by decide +kernel⟩
theorem has_pick (T : Bn mg) (D : DFE K mg "_law_pick" sPick ["source", "things"]) (h_law_draw : Has P w K mg base CX0 1 "_law_draw" ["source", "span"] spDraw) : Has P w K mg base CX0 2 "_law_pick" ["source", "things"] (spPick2 K) := by
  refine has_of D scPick (fun vs H Q E h => ?_) (fun f cdv A outer s H vs Q E hr h => ?_)
  · rcases h with ⟨p, q, r, m, xs, rfl, _⟩ | ⟨p, r, m, x, rfl, _⟩ <;> rfl
  · have nd := scPick.nd
    refine ⟨_, (pss_one (ps_ret (pe_ix ix_seq (pv 1) (pe_h h_law_draw hr (by decide) rfl (pa_cons (pv 0) (pa_cons (pe_callB call_len (by rfl) T.z_len (by decide +kernel) (pa_cons (pv 1) pa_nil)) pa_nil))) (fun _ _ => rfl)))), ?_⟩
    rcases h with ⟨p, q, r, m, xs, rfl, ne, hp, ok, hx, hne, hl, k⟩ | ⟨p, r, m, x, rfl, hp, ok, l1, l2, k⟩
    · have n1 : 1 ≤ xs.length := by
        cases xs with
        | nil => exact absurd rfl hne
        | cons _ _ => simp
      refine ⟨_, rfl, _, rfl, _, rfl, _, xs.length, rfl, ?_, p, r, m, _, rfl, hp, ok, by omega, by omega, fun r' m' j ok' j0 j1 => ?_⟩
      · rcases hx with hx | hx
        · exact .inl ⟨_, hx, rfl⟩
        · exact .inr ⟨_, hx, rfl⟩
      · obtain ⟨x, hm, ex⟩ := at_in j0 j1
        rcases hx with hx | hx
        · exact .inl ⟨q, xs, _, x, rfl, rfl, sqL_upd hx ne, ex, k _ _ _ ok' hm⟩
        · exact .inr (.inl ⟨q, xs, _, x, rfl, rfl, sqT_upd hx ne, ex, k _ _ _ ok' hm⟩)
    · have lz : x.length ≤ sizeLine := by rw [sizeLine_eq]; omega
      refine ⟨_, rfl, _, rfl, _, rfl, _, x.length, rfl, ⟨lz, rfl⟩, p, r, m, _, rfl, hp, ok, by omega, by omega, fun r' m' j ok' j0 j1 => ?_⟩
      have jn : j.toNat < x.cps.toList.length := by
        have : x.length = x.cps.toList.length := by simp [Str.length]
        omega
      have ex : atI x.cps.toList j = some (x.cps.toList[j.toNat]) := by
        unfold atI ixN
        rw [if_pos j0, if_pos (by omega)]
        exact List.getElem?_eq_getElem jn
      exact .inr (.inr ⟨x, j, _, rfl, rfl, lz, ex, k _ _ _ ok' (List.getElem_mem jn)⟩)
/-- word(source): a name -/
def spWord : Sp := fun vs H Q _ => ∃ (p : Addr) (r m : Int), vs = [.ref p] ∧ H p = some (.lst [.int r, .int m]) ∧ SrcOk r m ∧ ∀ r' m' x, SrcOk r' m' → okName x = true → Q (.str x) (upd H p (.lst [.int r', .int m']))
abbrev sLawWord : Stmt := top ix_law_word
theorem scLawWord : FnScope ["source", "word", "turn"] ["source"] (defScope sLawWord) := ⟨rfl, rfl, rfl, by decide +kernel, rfl, by decide +kernel, by decide +kernel⟩
theorem okSigns_snoc {x : Str} {c : Nat} (h : okSigns x = true) (hc : c ∈ LT.cps.toList) : okSigns (x ++ ⟨#[c]⟩) = true ∧ (x ++ ⟨#[c]⟩ : Str).length = x.length + 1 := by
  have e : (x ++ ⟨#[c]⟩ : Str).cps = x.cps ++ #[c] := rfl
  refine ⟨?_, ?_⟩
  · unfold okSigns at *
    rw [e, Array.toList_append, List.all_append, h]
    simp only [List.all_cons, List.all_nil, Bool.and_true, Bool.true_and]
    exact decide_eq_true hc
  · show (x ++ ⟨#[c]⟩ : Str).cps.size = _
    rw [e]
    simp [Str.length]
theorem has_word (T : Bn mg) (D : DFE K mg "_law_word" sLawWord ["source"]) (h_law_draw : Has P w K mg base CX0 1 "_law_draw" ["source", "span"] spDraw) (h_law_pick : Has P w K mg base CX0 2 "_law_pick" ["source", "things"] (spPick2 K)) : Has P w K mg base CX0 3 "_law_word" ["source"] spWord := by
  refine has_of D scLawWord (fun vs H Q E h => ?_) (fun f cdv A outer s H vs Q E hr h => ?_)
  · obtain ⟨p, r, m, rfl, _⟩ := h; rfl
  · obtain ⟨p, r, m, rfl, hp, ok, k⟩ := h
    have nd := scLawWord.nd
    refine ⟨_, (pss_cons (ps_sv 1 nd pe_str)
    (pss_cons (ps_for PassesOwn.never rfl (pi_range1 rfl T.z_range (pa_cons (pe_op op_add pe_int (pe_h h_law_draw hr (by decide) rfl (pa_cons (pv 0) (pa_cons pe_int pa_nil)))) pa_nil)) (pg_name (i := 2) nd rfl (by first | exact Or.inl rfl | exact Or.inr rfl)) (pss_one (ps_sv 1 nd (pe_op op_add_str (pv 1) (pe_h h_law_pick hr (by decide) rfl (pa_cons (pv 0) (pa_cons pe_str pa_nil)))))))
    (pss_one (ps_ret (pv 1))))), ?_⟩
    wide_line
    intro r1 m1 j ok1 j0 j1
    wide_line
    refine for_range (fun i σ H' => Hold (∃ (r m : Int) (x : Str) (u : Option V), σ = [some (.ref p), some (.str x), u] ∧ H' = upd H p (.lst [.int r, .int m]) ∧ SrcOk r m ∧ okSigns x = true ∧ x.length = i)) ⟨r1, m1, _, none, rfl, rfl, ok1, rfl, rfl⟩ ?_ ?_
    · rintro i σ H1 hi ⟨r2, m2, x, u, rfl, rfl, ok2, hs, hl⟩
      wide_line
      refine .inr ⟨p, r2, m2, LT, rfl, upd_same, ok2, by decide, by decide, fun r3 m3 c ok3 hc => ?_⟩
      rw [upd_upd]
      wide_line
      obtain ⟨h1, h2⟩ := okSigns_snoc hs hc
      refine ⟨(show x.length + (⟨#[c]⟩ : Str).length ≤ sizeLine by show x.length + 1 ≤ _; rw [sizeLine_eq]; omega), ?_⟩
      exact ⟨r3, m3, _, _, rfl, rfl, ok3, h1, by rw [h2, hl]⟩
    · rintro σ H1 ⟨r2, m2, x, u, rfl, rfl, ok2, hs, hl⟩
      wide_line
      refine k r2 m2 x ok2 ?_
      unfold okName
      rw [hs, decide_eq_true (show 1 ≤ x.length by omega), decide_eq_true (show x.length ≤ 8 by omega)]
      rfl
end
end Pw

set_option Elab.async false
set_option linter.all false
set_option maxRecDepth 100000
set_option maxHeartbeats 4000000
namespace Pw
open PySem PySem.Spec PyProof.Rows L2 Ct
local macro_rules | `(tactic| wide_line) => `(tactic| repeat ((fail_if_success (with_reducible refine at_while ?_)); (fail_if_success (with_reducible refine at_while1 ?_)); (conv => whnf); first | ((with_reducible refine And.intro ?_ ?_); focus (first | (first | ((with_reducible show (_ : Nat) ≤ _); first | exact sz0 | exact sz1 | exact sz2 | exact sz3 | exact sz4 | exact sz5 | exact sz6 | exact sz7 | exact sz8 | exact sz10 | exact sz11 | exact sz12 | exact sz14 | omega | decide | (simp only [List.length_cons, List.length_nil]; omega)) | ((with_reducible show (_ : Int) ≤ _); first | omega | decide) | ((with_reducible show (_ : Int) < _); first | omega | decide) | ((with_reducible show (_ : Nat) < _); omega)) | ((fail_if_success (with_reducible show (_ : Nat) ≤ _)); (fail_if_success (with_reducible show (_ : Int) ≤ _)); (fail_if_success (with_reducible show (_ : Int) < _)); (fail_if_success (with_reducible show (_ : Nat) < _)); first | exact kv_str _ | exact kv_int _ | rfl | assumption | exact flat_strs _ | exact Lv.get (by assumption) 0 rfl | exact Lv.get (by assumption) 1 rfl | exact Lv.get (by assumption) 2 rfl | exact Lv.get (by assumption) 3 rfl | exact Lv.get (by assumption) 4 rfl | exact Lv.get (by assumption) 5 rfl | exact Lv.get (by assumption) 6 rfl | exact SqL.of (Lv.get (by assumption) 0 rfl) | exact SqL.of (Lv.get (by assumption) 1 rfl) | exact SqL.of (Lv.get (by assumption) 2 rfl) | exact SqL.of (Lv.get (by assumption) 3 rfl) | exact SqL.of (Lv.get (by assumption) 4 rfl) | exact SqL.of (Lv.get (by assumption) 5 rfl) | exact Or.inl (SqL.of (Lv.get (by assumption) 0 rfl)) | exact Or.inl (SqL.of (Lv.get (by assumption) 1 rfl)) | exact Or.inl (SqL.of (Lv.get (by assumption) 2 rfl)) | exact Or.inl (SqL.of (Lv.get (by assumption) 3 rfl)) | exact Or.inl (SqL.of (Lv.get (by assumption) 4 rfl)) | exact Or.inl (SqL.of (Lv.get (by assumption) 5 rfl)) | exact ⟨_, SqL.of (Lv.get (by assumption) 0 rfl)⟩ | exact ⟨_, SqL.of (Lv.get (by assumption) 1 rfl)⟩ | exact ⟨_, SqL.of (Lv.get (by assumption) 2 rfl)⟩ | exact ⟨_, SqL.of (Lv.get (by assumption) 3 rfl)⟩ | exact ⟨_, SqL.of (Lv.get (by assumption) 4 rfl)⟩ | exact ⟨_, SqL.of (Lv.get (by assumption) 5 rfl)⟩ | exact Or.inl ⟨_, SqL.of (Lv.get (by assumption) 0 rfl), rfl⟩ | exact Or.inl ⟨_, SqL.of (Lv.get (by assumption) 1 rfl), rfl⟩ | exact Or.inl ⟨_, SqL.of (Lv.get (by assumption) 2 rfl), rfl⟩ | exact Or.inl ⟨_, SqL.of (Lv.get (by assumption) 3 rfl), rfl⟩ | exact Or.inl ⟨_, SqL.of (Lv.get (by assumption) 4 rfl), rfl⟩ | exact Or.inl ⟨_, SqL.of (Lv.get (by assumption) 5 rfl), rfl⟩ | exact Or.inl ⟨rfl, _, SqL.of (Lv.get (by assumption) 0 rfl)⟩ | exact Or.inl ⟨rfl, _, SqL.of (Lv.get (by assumption) 1 rfl)⟩ | exact Or.inl ⟨rfl, _, SqL.of (Lv.get (by assumption) 2 rfl)⟩ | exact Or.inl ⟨rfl, _, SqL.of (Lv.get (by assumption) 3 rfl)⟩ | exact Or.inl ⟨rfl, _, SqL.of (Lv.get (by assumption) 4 rfl)⟩ | exact Or.inl ⟨rfl, _, SqL.of (Lv.get (by assumption) 5 rfl)⟩ | exact Or.inr (SqT.of (Lv.get (by assumption) 0 rfl)) | exact Or.inr (SqT.of (Lv.get (by assumption) 1 rfl)) | exact Or.inr (SqT.of (Lv.get (by assumption) 2 rfl)) | exact Or.inr (SqT.of (Lv.get (by assumption) 3 rfl)) | exact SqT.of (Lv.get (by assumption) 0 rfl) | exact SqT.of (Lv.get (by assumption) 1 rfl) | exact SqT.of (Lv.get (by assumption) 2 rfl) | exact dgetN (Lv.get (by assumption) 0 rfl) (by assumption) | exact dgetN (Lv.get (by assumption) 1 rfl) (by assumption) | exact dgetN (Lv.get (by assumption) 2 rfl) (by assumption) | exact dgetN (Lv.get (by assumption) 3 rfl) (by assumption) | exact dgetN (Lv.get (by assumption) 4 rfl) (by assumption) | decide | ((with_reducible show _ ∧ _); omega)))) | ((fail_if_success (with_reducible apply @Exists.intro (Nat → _))); (with_reducible apply Exists.intro))))
local macro_rules
  | `(tactic| wide_line with al $lv:ident $l:ident $nl:ident $H:ident $lv1:ident $s1:ident) => `(tactic| (intro $l:ident $nl:ident; generalize he : upd _ _ _ = $H:ident; have $lv1:ident := Lv.alE $lv $nl he; have $s1:ident := sameE $nl he; clear he; (try dsimp only at $lv1:ident)))
  | `(tactic| wide_line with alx $lv:ident $nl:ident $H:ident $lv1:ident $s1:ident) => `(tactic| (generalize he : upd _ _ _ = $H:ident; have $lv1:ident := Lv.alE $lv $nl he; have $s1:ident := sameE $nl he; clear he; (try dsimp only at $lv1:ident)))
  | `(tactic| wide_line with sts $lv:ident $i:num $H:ident $lv1:ident $s0:ident $np:ident $s1:ident) => `(tactic| (generalize he : upd _ _ _ = $H:ident; have $lv1:ident := Lv.stE $lv $i rfl he; have $s1:ident := sameN $s0 $np he; clear he; (try dsimp only at $lv1:ident)))
  | `(tactic| wide_line with st $lv:ident $i:num $H:ident $lv1:ident) => `(tactic| (generalize he : upd _ _ _ = $H:ident; have $lv1:ident := Lv.stE $lv $i rfl he; clear he; (try dsimp only at $lv1:ident)))
  | `(tactic| wide_line with stk $lv:ident $i:num $H:ident $lv1:ident $k1:ident) => `(tactic| (generalize he : upd _ _ _ = $H:ident; have $lv1:ident := Lv.stE $lv $i rfl he; have $k1:ident := KeepT.st (Lv.get $lv $i rfl) he; clear he; (try dsimp only at $lv1:ident)))
/-- names(source, n): a new list of n names -/
def spNames : Sp := fun vs H Q _ => ∃ (p : Addr) (r m : Int) (n : Nat), vs = [.ref p, .int n] ∧ H p = some (.lst [.int r, .int m]) ∧ SrcOk r m ∧ 1 ≤ n ∧ n ≤ 14 ∧
  ∀ (r' m' : Int) (ns : List Str) (l : Addr) (H' : Hp), SrcOk r' m' → ns.length = n → ns.Nodup → (∀ x ∈ ns, okName x = true) → (∀ b o, b ≠ p → H b = some o → H' b = some o) → H' p = some (.lst [.int r', .int m']) → H l = none → H' l = some (.lst (ns.map V.str)) → Q (.ref l) H'
abbrev names14 : List Str := ["a", "b", "c", "d", "e", "f", "g", "h", "i", "place", "tie", "none", "guard", "abcdefgh"]
section
variable {P : Program} {w : World} {K : PySem.W.Frag} {mg : Str → Option Value} {base : Heap}
abbrev sLawNames : Stmt := top ix_law_names
theorem scLawNames : FnScope ["source", "many", "some", "word"] ["source", "many"] (defScope sLawNames) := ⟨rfl, rfl, rfl, by decide +kernel, rfl, by decide +kernel, by decide +kernel⟩
theorem has_names (D : DFE K mg "_law_names" sLawNames ["source", "many"]) (h_law_draw : Has P w K mg base CX0 1 "_law_draw" ["source", "span"] spDraw) (h_law_mixed : Has P w K mg base CX0 2 "_law_mixed" ["source", "things"] (spMixed K)) (h_law_word : Has P w K mg base CX0 3 "_law_word" ["source"] spWord) : Has P w K mg base CX0 4 "_law_names" ["source", "many"] spNames := by
  refine has_of D scLawNames (fun vs H Q E h => ?_) (fun f cdv A outer s H vs Q E hr h => ?_)
  · obtain ⟨p, r, m, n, rfl, _⟩ := h; rfl
  · obtain ⟨p, r, m, n, rfl, hp, ok, n1, n2, k⟩ := h
    have nd := scLawNames.nd
    refine ⟨_, (pss_cons (ps_sv 2 nd (pe_lst (pa_cons pe_str (pa_cons pe_str (pa_cons pe_str (pa_cons pe_str (pa_cons pe_str (pa_cons pe_str (pa_cons pe_str (pa_cons pe_str (pa_cons pe_str (pa_cons pe_str (pa_cons pe_str (pa_cons pe_str (pa_cons pe_str (pa_cons pe_str pa_nil))))))))))))))))
    (pss_cons (ps_sv 2 nd (pe_h h_law_mixed hr (by decide) rfl (pa_cons (pv 0) (pa_cons (pv 2) pa_nil))))
    (pss_cons (ps_sv 3 nd (pe_h h_law_word hr (by decide) rfl (pa_cons (pv 0) pa_nil)))
    (pss_cons (ps_if (pt_cmpR op_notIn_seq (pv 3) (pv 2) (by first | exact nomark _ | rfl)) (pss_one (ps_asg (pv 3) (pg_sub (pv 2) (pe_h h_law_draw hr (by decide) rfl (pa_cons (pv 0) (pa_cons (pv 1) pa_nil))) set_list))) pss_nil)
    (pss_one (ps_ret (pe_slice sl_list (pv 2) po_none (po_some (pv 1))))))))), ?_⟩
    have lv := Lv.one hp
    wide_line
    wide_line with al lv s0 n0 H1 lv1 s1
    wide_line
    intro r1 m1 ys l H2 ok1 pm off2 src2 nl hl
    have lv2 := lv1.stn 1 rfl src2 off2 nl hl
    obtain ⟨ns, pn, rfl⟩ := strs_perm (xs := names14) pm
    have nsl : ns.length = 14 := pn.length_eq
    have nsd : ns.Nodup := pn.nodup_iff.mpr (by decide +kernel)
    have nso : ∀ x ∈ ns, okName x = true := fun x hx => List.all_eq_true.mp (show names14.all okName = true by decide +kernel) x (pn.mem_iff.mp hx)
    wide_line
    intro r3 m3 x ok3 hx
    wide_line with st lv2 2 H3 lv3
    wide_line
    rw [if_pos rfl, in_strs]
    refine ite2 (fun c => ?_) (fun c => ?_)
    · wide_line
      intro r4 m4 j ok4 j0 j1
      wide_line with st lv3 2 H4 lv4
      have c : x ∉ ns := fun z => by rw [decide_eq_true z] at c; cases c
      wide_line
      refine ⟨(show ixN _ j = some j.toNat by unfold ixN; rw [if_pos j0, if_pos (by rw [List.length_map]; omega)]), ?_⟩
      wide_line with st lv4 0 H5 lv5
      wide_line
      rw [cut_take, ← List.map_set, ← List.map_take]
      wide_line with al lv5 l2 n2 H6 lv6 s6
      refine k r4 m4 ((ns.set j.toNat x).take n) l2 H6 ok4 ?_ ?_ ?_ lv6.off (lv6.get 3 rfl) (lv5.free n2) (lv6.get 0 rfl)
      · rw [List.length_take, List.length_set]; omega
      · exact (nodup_set nsd c).sublist (List.take_sublist _ _)
      · intro y hy
        rcases List.mem_or_eq_of_mem_set (List.mem_of_mem_take hy) with z | z
        · exact nso y z
        · exact z ▸ hx
    · wide_line
      rw [cut_take, ← List.map_take]
      wide_line with al lv3 l2 n2 H4 lv4 s4
      refine k r3 m3 (ns.take n) l2 H4 ok3 ?_ ?_ ?_ lv4.off (lv4.get 3 rfl) (lv3.free n2) (lv4.get 0 rfl)
      · rw [List.length_take]; omega
      · exact nsd.sublist (List.take_sublist _ _)
      · exact fun y hy => nso y (List.mem_of_mem_take hy)
end
end Pw

set_option Elab.async false
set_option linter.all false
set_option maxRecDepth 100000
set_option maxHeartbeats 4000000
namespace Pw
open PySem PySem.Spec PyProof.Rows L2 Ct
local macro_rules | `(tactic| wide_line) => `(tactic| repeat ((fail_if_success (with_reducible refine at_while ?_)); (fail_if_success (with_reducible refine at_while1 ?_)); (conv => whnf); first | ((with_reducible refine And.intro ?_ ?_); focus (first | (first | ((with_reducible show (_ : Nat) ≤ _); first | exact sz0 | exact sz1 | exact sz2 | exact sz3 | exact sz4 | exact sz5 | exact sz6 | exact sz7 | exact sz8 | exact sz10 | exact sz11 | exact sz12 | exact sz14 | omega | decide | (simp only [List.length_cons, List.length_nil]; omega)) | ((with_reducible show (_ : Int) ≤ _); first | omega | decide) | ((with_reducible show (_ : Int) < _); first | omega | decide) | ((with_reducible show (_ : Nat) < _); omega)) | ((fail_if_success (with_reducible show (_ : Nat) ≤ _)); (fail_if_success (with_reducible show (_ : Int) ≤ _)); (fail_if_success (with_reducible show (_ : Int) < _)); (fail_if_success (with_reducible show (_ : Nat) < _)); first | exact kv_str _ | exact kv_int _ | rfl | assumption | exact flat_strs _ | exact Lv.get (by assumption) 0 rfl | exact Lv.get (by assumption) 1 rfl | exact Lv.get (by assumption) 2 rfl | exact Lv.get (by assumption) 3 rfl | exact Lv.get (by assumption) 4 rfl | exact Lv.get (by assumption) 5 rfl | exact Lv.get (by assumption) 6 rfl | exact SqL.of (Lv.get (by assumption) 0 rfl) | exact SqL.of (Lv.get (by assumption) 1 rfl) | exact SqL.of (Lv.get (by assumption) 2 rfl) | exact SqL.of (Lv.get (by assumption) 3 rfl) | exact SqL.of (Lv.get (by assumption) 4 rfl) | exact SqL.of (Lv.get (by assumption) 5 rfl) | exact Or.inl (SqL.of (Lv.get (by assumption) 0 rfl)) | exact Or.inl (SqL.of (Lv.get (by assumption) 1 rfl)) | exact Or.inl (SqL.of (Lv.get (by assumption) 2 rfl)) | exact Or.inl (SqL.of (Lv.get (by assumption) 3 rfl)) | exact Or.inl (SqL.of (Lv.get (by assumption) 4 rfl)) | exact Or.inl (SqL.of (Lv.get (by assumption) 5 rfl)) | exact ⟨_, SqL.of (Lv.get (by assumption) 0 rfl)⟩ | exact ⟨_, SqL.of (Lv.get (by assumption) 1 rfl)⟩ | exact ⟨_, SqL.of (Lv.get (by assumption) 2 rfl)⟩ | exact ⟨_, SqL.of (Lv.get (by assumption) 3 rfl)⟩ | exact ⟨_, SqL.of (Lv.get (by assumption) 4 rfl)⟩ | exact ⟨_, SqL.of (Lv.get (by assumption) 5 rfl)⟩ | exact Or.inl ⟨_, SqL.of (Lv.get (by assumption) 0 rfl), rfl⟩ | exact Or.inl ⟨_, SqL.of (Lv.get (by assumption) 1 rfl), rfl⟩ | exact Or.inl ⟨_, SqL.of (Lv.get (by assumption) 2 rfl), rfl⟩ | exact Or.inl ⟨_, SqL.of (Lv.get (by assumption) 3 rfl), rfl⟩ | exact Or.inl ⟨_, SqL.of (Lv.get (by assumption) 4 rfl), rfl⟩ | exact Or.inl ⟨_, SqL.of (Lv.get (by assumption) 5 rfl), rfl⟩ | exact Or.inl ⟨rfl, _, SqL.of (Lv.get (by assumption) 0 rfl)⟩ | exact Or.inl ⟨rfl, _, SqL.of (Lv.get (by assumption) 1 rfl)⟩ | exact Or.inl ⟨rfl, _, SqL.of (Lv.get (by assumption) 2 rfl)⟩ | exact Or.inl ⟨rfl, _, SqL.of (Lv.get (by assumption) 3 rfl)⟩ | exact Or.inl ⟨rfl, _, SqL.of (Lv.get (by assumption) 4 rfl)⟩ | exact Or.inl ⟨rfl, _, SqL.of (Lv.get (by assumption) 5 rfl)⟩ | exact Or.inr (SqT.of (Lv.get (by assumption) 0 rfl)) | exact Or.inr (SqT.of (Lv.get (by assumption) 1 rfl)) | exact Or.inr (SqT.of (Lv.get (by assumption) 2 rfl)) | exact Or.inr (SqT.of (Lv.get (by assumption) 3 rfl)) | exact SqT.of (Lv.get (by assumption) 0 rfl) | exact SqT.of (Lv.get (by assumption) 1 rfl) | exact SqT.of (Lv.get (by assumption) 2 rfl) | exact dgetN (Lv.get (by assumption) 0 rfl) (by assumption) | exact dgetN (Lv.get (by assumption) 1 rfl) (by assumption) | exact dgetN (Lv.get (by assumption) 2 rfl) (by assumption) | exact dgetN (Lv.get (by assumption) 3 rfl) (by assumption) | exact dgetN (Lv.get (by assumption) 4 rfl) (by assumption) | decide | ((with_reducible show _ ∧ _); omega)))) | ((fail_if_success (with_reducible apply @Exists.intro (Nat → _))); (with_reducible apply Exists.intro))))
local macro_rules
  | `(tactic| wide_line with al $lv:ident $l:ident $nl:ident $H:ident $lv1:ident $s1:ident) => `(tactic| (intro $l:ident $nl:ident; generalize he : upd _ _ _ = $H:ident; have $lv1:ident := Lv.alE $lv $nl he; have $s1:ident := sameE $nl he; clear he; (try dsimp only at $lv1:ident)))
  | `(tactic| wide_line with alx $lv:ident $nl:ident $H:ident $lv1:ident $s1:ident) => `(tactic| (generalize he : upd _ _ _ = $H:ident; have $lv1:ident := Lv.alE $lv $nl he; have $s1:ident := sameE $nl he; clear he; (try dsimp only at $lv1:ident)))
  | `(tactic| wide_line with sts $lv:ident $i:num $H:ident $lv1:ident $s0:ident $np:ident $s1:ident) => `(tactic| (generalize he : upd _ _ _ = $H:ident; have $lv1:ident := Lv.stE $lv $i rfl he; have $s1:ident := sameN $s0 $np he; clear he; (try dsimp only at $lv1:ident)))
  | `(tactic| wide_line with st $lv:ident $i:num $H:ident $lv1:ident) => `(tactic| (generalize he : upd _ _ _ = $H:ident; have $lv1:ident := Lv.stE $lv $i rfl he; clear he; (try dsimp only at $lv1:ident)))
  | `(tactic| wide_line with stk $lv:ident $i:num $H:ident $lv1:ident $k1:ident) => `(tactic| (generalize he : upd _ _ _ = $H:ident; have $lv1:ident := Lv.stE $lv $i rfl he; have $k1:ident := KeepT.st (Lv.get $lv $i rfl) he; clear he; (try dsimp only at $lv1:ident)))
/-- different couples i < j < b -/
def PsOk (b : Nat) (ps : List (Nat × Nat)) : Prop := ps.Nodup ∧ ∀ q ∈ ps, q.1 < q.2 ∧ q.2 < b
theorem PsOk.add {b : Nat} {ps qs : List (Nat × Nat)} (h : PsOk b ps) (hq : qs.Nodup) (h2 : ∀ q ∈ qs, q.1 < q.2 ∧ q.2 = b) : PsOk (b + 1) (ps ++ qs) := by
  refine ⟨List.nodup_append.mpr ⟨h.1, hq, fun x hx y hy e => ?_⟩, fun q hq => ?_⟩
  · subst e
    have := (h.2 x hx).2
    have := (h2 x hy).2
    omega
  · rcases List.mem_append.mp hq with z | z
    · have := h.2 q z; exact ⟨this.1, by omega⟩
    · have := h2 q z; exact ⟨this.1, by omega⟩
/-- pairs(source, n, kind): a new list of different couples i < j < n -/
def spPairs : Sp := fun vs H Q _ => ∃ (p : Addr) (r m : Int) (n : Nat) (kd : Int), vs = [.ref p, .int n, .int kd] ∧ H p = some (.lst [.int r, .int m]) ∧ SrcOk r m ∧ 1 ≤ n ∧ n ≤ 14 ∧
  ∀ (r' m' : Int) (ps : List (Nat × Nat)) (xs : List V) (l : Addr) (H' : Hp), SrcOk r' m' → PsOk n ps → (∀ b o, b ≠ p → H b = some o → H' b = some o) → H' p = some (.lst [.int r', .int m']) → H l = none → H' l = some (.lst xs) → PairsT H' xs ps → Q (.ref l) H'
section
variable {P : Program} {w : World} {K : PySem.W.Frag} {mg : Str → Option Value} {base : Heap}
abbrev sLawPairs : Stmt := top ix_law_pairs
theorem scLawPairs : FnScope ["source", "many", "kind", "found", "at", "to", "seen", "one"] ["source", "many", "kind"] (defScope sLawPairs) := ⟨rfl, rfl, rfl, by decide +kernel, rfl, by decide +kernel, by decide +kernel⟩
theorem has_pairs (T : Bn mg) (D : DFE K mg "_law_pairs" sLawPairs ["source", "many", "kind"]) (h_law_draw : Has P w K mg base CX0 1 "_law_draw" ["source", "span"] spDraw) : Has P w K mg base CX0 2 "_law_pairs" ["source", "many", "kind"] spPairs := by
  refine has_of D scLawPairs (fun vs H Q E h => ?_) (fun f cdv A outer s H vs Q E hr h => ?_)
  · obtain ⟨p, r, m, n, kd, rfl, _⟩ := h; rfl
  · obtain ⟨p, r, m, n, kd, rfl, hp, ok, n1, n2, k⟩ := h
    have nd := scLawPairs.nd
    refine ⟨_, (pss_cons (ps_sv 3 nd (pe_lst pa_nil))
    (pss_cons (ps_for PassesOwn.never rfl (pi_range2 rfl T.z_range (pa_cons pe_int (pa_cons (pv 1) pa_nil))) (pg_name (i := 4) nd rfl (by first | exact Or.inl rfl | exact Or.inr rfl)) (pss_one (ps_if (pt_cmpR op_in_seq (pv 2) (pe_tup (pa_cons pe_int (pa_cons pe_int pa_nil))) (by first | exact nomark _ | rfl)) (pss_one (ps_sv 3 nd (pe_op op_cat (pv 3) (pe_lc (own := [("to", 5)]) (g := gName 5) rfl nd (pi_range1 rfl T.z_range (pa_cons (pv 4) pa_nil)) (blkOk_by (own := [("to", 5)]) (N := ["source", "many", "kind", "found", "at", "to", "seen", "one"]) (sc := defScope sLawPairs) (by decide +kernel)) (fun _ _ _ _ _ => (pg_name (i := 5) nd rfl (by first | exact Or.inl rfl | exact Or.inr rfl))) (fun _ _ _ _ _ => (pts_one (pt_cmpR op_gt (pe_h h_law_draw hr (by decide) rfl (pa_cons (pv 0) (pa_cons pe_int pa_nil))) (pv 2) (by first | exact nomark _ | rfl)))) (fun _ _ _ _ _ => (pe_tup (pa_cons (pv 5) (pa_cons (pv 4) pa_nil)))))))) (pss_one (ps_if (PW.pt (pw_or (pt_cmpR op_eq (pv 2) pe_int (by first | exact nomark _ | rfl)) (pw_or1 (PW.pt (pw_and (pt_cmpR op_eq (pv 2) pe_int (by first | exact nomark _ | rfl)) (pw_and1 (pt_cmpR op_lt (pv 4) pe_int (by first | exact nomark _ | rfl)))))))) (pss_cons (ps_expr (pe_bm PySem.F.plainAttrs_list PySem.F.slot_list_append PySem.F.type_list_append mt_append (pv 3) (pa_cons (pe_tup (pa_cons (pe_op op_sub (pv 4) pe_int) (pa_cons (pv 4) pa_nil))) pa_nil)))
    (pss_one (ps_if (PW.pt (pw_or (PW.pt (pw_and (pt_cmpR op_eq (pv 4) (pe_op op_sub (pv 1) pe_int) (by first | exact nomark _ | rfl)) (pw_and1 (pt_cmpR op_gt (pv 4) pe_int (by first | exact nomark _ | rfl))))) (pw_or1 (PW.pt (pw_and (pt_cmpR op_eq (pv 2) pe_int (by first | exact nomark _ | rfl)) (pw_and1 (pt_cmpR op_eq (pv 4) pe_int (by first | exact nomark _ | rfl)))))))) (pss_one (ps_expr (pe_bm PySem.F.plainAttrs_list PySem.F.slot_list_append PySem.F.type_list_append mt_append (pv 3) (pa_cons (pe_tup (pa_cons pe_int (pa_cons (pv 4) pa_nil))) pa_nil)))) pss_nil))) (pss_one (ps_if (pt_cmpR op_eq (pv 2) pe_int (by first | exact nomark _ | rfl)) (pss_one (ps_expr (pe_bm PySem.F.plainAttrs_list PySem.F.slot_list_append PySem.F.type_list_append mt_append (pv 3) (pa_cons (pe_tup (pa_cons (pe_h h_law_draw hr (by decide) rfl (pa_cons (pv 0) (pa_cons (pv 4) pa_nil))) (pa_cons (pv 4) pa_nil))) pa_nil)))) (pss_cons (ps_sv 5 nd (pe_h h_law_draw hr (by decide) rfl (pa_cons (pv 0) (pa_cons (pv 4) pa_nil))))
    (pss_cons (ps_setLc (i := 6) (own := [("one", 7)]) (g := gName 7) rfl nd rfl rfl (sw_true rfl rfl rfl (by decide +kernel)) (pi_range1 rfl T.z_range (pa_cons (pv 4) pa_nil)) (blkOk_by (own := [("one", 7)]) (N := ["source", "many", "kind", "found", "at", "to", "seen", "one"]) (sc := defScope sLawPairs) (by decide +kernel)) (fun _ _ _ _ _ => (pg_name (i := 7) nd rfl (by first | exact Or.inl rfl | exact Or.inr rfl))) (fun _ _ _ _ _ => (pts_one (pt_cmpR (op_inDk (K := K) rfl (units65 hr)) (pe_tup (pa_cons (pe_callB (call_min2 rfl) (by rfl) T.z_min (by decide +kernel) (pa_cons (pv 7) (pa_cons (pv 5) pa_nil))) (pa_cons (pe_callB (call_max2 rfl) (by rfl) T.z_max (by decide +kernel) (pa_cons (pv 7) (pa_cons (pv 5) pa_nil))) pa_nil))) (pv 3) (by first | exact nomark _ | rfl)))) (fun _ _ _ _ _ => (pv 7)))
    (pss_one (ps_sv 3 nd (pe_op op_cat (pe_op op_cat (pv 3) (pe_lst (pa_cons (pe_tup (pa_cons (pv 5) (pa_cons (pv 4) pa_nil))) pa_nil))) (pe_lc (own := [("one", 7)]) (g := gName 7) rfl nd (pi_list (pv 6)) (blkOk_by (own := [("one", 7)]) (N := ["source", "many", "kind", "found", "at", "to", "seen", "one"]) (sc := defScope sLawPairs) (by decide +kernel)) (fun _ _ _ _ _ => (pg_name (i := 7) nd rfl (by first | exact Or.inl rfl | exact Or.inr rfl))) (fun _ _ _ _ _ => (pts_one (pt_cmpR op_eq (pe_h h_law_draw hr (by decide) rfl (pa_cons (pv 0) (pa_cons pe_int pa_nil))) pe_int (by first | exact nomark _ | rfl)))) (fun _ _ _ _ _ => (pe_tup (pa_cons (pv 7) (pa_cons (pv 4) pa_nil)))))))))))))))))
    (pss_one (ps_ret (pv 3))))), ?_⟩
    have lv := Lv.one hp
    wide_line
    wide_line with al lv l0 nl0 H1 lv1 s1
    wide_line
    refine for_range (fun i σ H' => Hold (∃ (r m : Int) (l : Addr) (xs : List V) (ps : List (Nat × Nat)) (u4 u5 u6 u7 : Option V), σ = [some (.ref p), some (.int n), some (.int kd), some (.ref l), u4, u5, u6, u7] ∧
      Lv H [p] H' [(l, .lst xs), (p, .lst [.int r, .int m])] ∧ SrcOk r m ∧ PairsT H' xs ps ∧ PsOk (1 + i) ps ∧ ps.length ≤ 16 * i)) ⟨r, m, l0, [], [], none, none, none, none, rfl, lv1, ok, .nil, ⟨List.nodup_nil, fun _ z => nomatch z⟩, Nat.zero_le _⟩ ?_ ?_
    · rintro i σ H2 hi ⟨r2, m2, l, xs, ps, u4, u5, u6, u7, rfl, lv2, ok2, pt, po, pl⟩
      rw [show (1 : Int) + (i : Nat) = ((1 + i : Nat) : Int) by omega]
      wide_line
      wide_line with al lv2 t0 nt0 H3 lv3 s3
      wide_line
      have pt3 := pt.keep (KeepT.same s3)
      refine ite2 (fun c => ?_) (fun c => ?_)
      · wide_line
        intro D nD
        refine lc_range (fun j H' => Hold (∃ (r m : Int) (acc : List V) (qs : List (Nat × Nat)), Lv H [p] H' [(D, .lst acc), (t0, .tup [.int 0, .int 1]), (l, .lst xs), (p, .lst [.int r, .int m])] ∧ SrcOk r m ∧ PairsT H' acc qs ∧ qs.Nodup ∧ (∀ q ∈ qs, q.1 < j ∧ q.2 = 1 + i) ∧ qs.length ≤ j ∧ PairsT H' xs ps))
          ⟨r2, m2, [], [], lv3.al nD, ok2, .nil, List.nodup_nil, (fun _ z => nomatch z), Nat.zero_le _, pt3.keep (KeepT.same (same_new nD))⟩ ?_ ?_
        · rintro j H4 hj ⟨r4, m4, acc, qs, lv4, ok4, pa, qn, qo, ql, px⟩
          rw [Int.zero_add]
          wide_line
          intro r5 m5 k5 ok5 k50 k51
          wide_line with stk lv4 3 H5 lv5 kt5
          wide_line
          have pa5 := pa.keep kt5
          have px5 := px.keep kt5
          refine ite2 (fun c => ?_) (fun c => ?_)
          · wide_line
            wide_line with al lv5 t1 nt1 H6 lv6 s6
            wide_line
            have al := paired_len pa
            refine ⟨by rw [sizeLine_eq]; omega, ?_⟩
            wide_line with stk lv6 1 H7 lv7 kt7
            have kt := (KeepT.same s6).trans kt7
            refine ⟨r5, m5, _, qs ++ [(j, 1 + i)], ?_, ok5, paired_app (pa5.keep kt) (.cons ⟨t1, rfl, kt7 _ _ (lv6.get 0 rfl)⟩ .nil), ?_, ?_, by simp; omega, px5.keep kt⟩
            · exact lv7.tl (fun z => lv6.ne 0 4 (by decide) rfl rfl (List.mem_singleton.mp z))
            · refine List.nodup_append.mpr ⟨qn, (by simp), fun x hx y hy e => ?_⟩
              subst e
              have := (qo x hx).1
              rw [List.mem_singleton.mp hy] at this
              exact absurd this (Nat.lt_irrefl _)
            · intro q hq
              rcases List.mem_append.mp hq with z | z
              · have := qo q z; exact ⟨by omega, this.2⟩
              · rw [List.mem_singleton.mp z]; exact ⟨Nat.lt_succ_self j, rfl⟩
          · exact ⟨r5, m5, acc, qs, lv5, ok5, pa5, qn, (fun q hq => ⟨Nat.lt_succ_of_lt (qo q hq).1, (qo q hq).2⟩), Nat.le_succ_of_le ql, px5⟩
        · rintro H4 ⟨r4, m4, acc, qs, lv4, ok4, pa, qn, qo, ql, px⟩
          wide_line
          have al := paired_len pa
          have xl := paired_len px
          rw [Int.toNat_natCast] at ql qo
          refine ⟨by rw [sizeLine_eq]; omega, ?_⟩
          wide_line with al lv4 l5 nl5 H5 lv5 s5
          exact ⟨r4, m4, l5, _, ps ++ qs, _, _, _, _, rfl, lv5.pick2 0 4 (by decide) rfl rfl, ok4, paired_app (px.keep (.same s5)) (pa.keep (.same s5)), po.add qn (fun q hq => ⟨(by have := qo q hq; omega), (qo q hq).2⟩), by simp; omega⟩
      · have xl := paired_len pt3
        refine ifs_any (fun _ => True) (fun Q hQ => ?_) (fun _ => ?_) (fun _ => ?_)
        · wide_line
          refine ite2 (fun c => ?_) (fun c => ?_)
          · exact hQ _ True.intro
          · wide_line
            refine ite2 (fun c => ?_) (fun c => ?_)
            · wide_line
              exact hQ _ True.intro
            · exact hQ _ True.intro
        · wide_line
          wide_line with al lv3 t1 nt1 H4 lv4 s4
          rw [show ((1 + i : Nat) : Int) - 1 = (i : Nat) by omega] at lv4
          wide_line
          refine ⟨by rw [sizeLine_eq]; omega, ?_⟩
          wide_line with stk lv4 2 H5 lv5 kt5
          have pt5 : PairsT H5 (xs ++ [.ref t1]) (ps ++ [(i, 1 + i)]) := paired_app ((pt3.keep (.same s4)).keep kt5) (.cons ⟨t1, rfl, kt5 _ _ (lv4.get 0 rfl)⟩ (.nil : PairsT H5 [] []) : PairsT H5 [.ref t1] [(i, 1 + i)])
          dsimp only
          refine ifs_any (fun b => b = true → 1 ≤ i) (fun Q hQ => ?_) (fun c => ?_) (fun _ => ?_)
          · have second : tAnd (tTest (tOp rEq (tVar 2) (tC (V.int 3)))) (tTest (tOp rEq (tVar 4) (tC (V.int 3)))) ([some (.ref p), some (.int n), some (.int kd), some (.ref l), some (.int ((1 + i : Nat) : Int)), u5, u6, u7]) H5 Q := by
              wide_line
              refine ite2 (fun c => ?_) (fun c => ?_)
              · wide_line
                exact hQ _ (fun z => by have := of_decide_eq_true z; injection this with this; omega)
              · exact hQ _ (fun z => nomatch z)
            wide_line
            refine ite2 (fun c => ?_) (fun c => ?_)
            · wide_line
              refine ite2 (fun c => ?_) (fun c => ?_)
              · exact hQ _ (fun z => by have := of_decide_eq_true c; omega)
              · exact second
            · exact iteF second
          · have c := c rfl
            wide_line
            wide_line with al lv5 t2 nt2 H6 lv6 s6
            wide_line
            refine ⟨by rw [sizeLine_eq]; simp; omega, ?_⟩
            wide_line with stk lv6 3 H7 lv7 kt7
            refine ⟨r2, m2, l, _, _, _, _, _, _, rfl, lv7.pick2 3 4 (by decide) rfl rfl, ok2, paired_app ((pt5.keep (.same s6)).keep kt7) (.cons ⟨t2, rfl, kt7 _ _ (lv6.get 0 rfl)⟩ (.nil : PairsT H7 [] []) : PairsT H7 [.ref t2] [(0, 1 + i)]), ?_, by simp; omega⟩
            rw [List.append_assoc]
            refine po.add ?_ ?_
            · simp; omega
            · intro q hq
              simp at hq
              rcases hq with rfl | rfl
              · exact ⟨by show i < 1 + i; omega, rfl⟩
              · exact ⟨by show 0 < 1 + i; omega, rfl⟩
          · refine ⟨r2, m2, l, _, _, _, _, _, _, rfl, lv5.pick2 2 3 (by decide) rfl rfl, ok2, pt5, ?_, by simp; omega⟩
            refine po.add (by simp) ?_
            intro q hq
            rw [List.mem_singleton.mp hq]
            exact ⟨by show i < 1 + i; omega, rfl⟩
        · refine ifs_any (fun _ => True) (fun Q hQ => ?_) (fun _ => ?_) (fun _ => ?_)
          · wide_line
            exact hQ _ True.intro
          · wide_line
            intro r4 m4 j ok4 j0 j1
            obtain ⟨a, rfl⟩ := Int.eq_ofNat_of_zero_le j0
            wide_line with stk lv3 2 H4 lv4 kt4
            wide_line
            wide_line with al lv4 t1 nt1 H5 lv5 s5
            wide_line
            refine ⟨by rw [sizeLine_eq]; omega, ?_⟩
            wide_line with stk lv5 2 H6 lv6 kt6
            refine ⟨r4, m4, l, _, ps ++ [(a, 1 + i)], _, _, _, _, rfl, lv6.pick2 2 3 (by decide) rfl rfl, ok4, paired_app (((pt3.keep kt4).keep (.same s5)).keep kt6) (.cons ⟨t1, rfl, kt6 _ _ (lv5.get 0 rfl)⟩ (.nil : PairsT H6 [] []) : PairsT H6 [.ref t1] [(a, 1 + i)]), ?_, by simp; omega⟩
            refine po.add (by simp) ?_
            intro q hq
            rw [List.mem_singleton.mp hq]
            exact ⟨by show a < 1 + i; omega, rfl⟩
          · wide_line
            intro r4 m4 j ok4 j0 j1
            obtain ⟨a, rfl⟩ := Int.eq_ofNat_of_zero_le j0
            wide_line with stk lv3 2 H4 lv4 kt4
            wide_line
            have pt4 := pt3.keep kt4
            intro D nD
            refine lc_range (fun j H' => Hold (∃ ss : List Nat, Lv H [p] H' [(D, .lst (ss.map fun z => V.int (z : Nat))), (t0, .tup [.int 0, .int 1]), (l, .lst xs), (p, .lst [.int r4, .int m4])] ∧ ss.Nodup ∧ (∀ z ∈ ss, z < j ∧ z ≠ a) ∧ ss.length ≤ j ∧ PairsT H' xs ps))
              ⟨[], lv4.al nD, List.nodup_nil, (fun _ z => nomatch z), Nat.zero_le _, pt4.keep (.same (same_new nD))⟩ ?_ ?_
            · rintro j H5 hj ⟨ss, lv5, sn, so, sl, px⟩
              rw [Int.zero_add]
              wide_line
              wide_line with al lv5 t1 nt1 H6 lv6 s6
              have e1 : (if (a : Int) < (j : Nat) then (a : Int) else (j : Nat)) = ((if a < j then a else j : Nat) : Int) := by split <;> split <;> omega
              have e2 : (if (a : Int) > (j : Nat) then (a : Int) else (j : Nat)) = ((if a > j then a else j : Nat) : Int) := by split <;> split <;> omega
              rw [e1, e2] at lv6
              have px6 := px.keep (.same s6)
              wide_line
              refine ⟨(.tup (SqT.of (lv6.get 0 rfl)) (.cons (.int _) (.cons (.int _) .nil)) : Dp K H6 (.ref t1) (pairI (if a < j then a else j, if a > j then a else j))), .lst (SqL.of (lv6.get 3 rfl)) px6.dp, shaped_pair _, shaped_pairs _, ?_⟩
              rw [show ((ps.map pairI).any fun z => PyData.eqv z (.tuple [.int ((if a < j then a else j : Nat) : Int), .int ((if a > j then a else j : Nat) : Int)])) = decide (((if a < j then a else j), (if a > j then a else j)) ∈ ps) from any_pairI ps ((if a < j then a else j), (if a > j then a else j))]
              wide_line
              refine ite2 (fun c => ?_) (fun c => ?_)
              · wide_line
                refine ⟨by rw [List.length_map, sizeLine_eq]; omega, ?_⟩
                wide_line with stk lv6 1 H7 lv7 kt7
                refine ⟨ss ++ [j], ?_, ?_, ?_, by simp; omega, px6.keep kt7⟩
                · rw [List.map_append]
                  exact lv7.tl (fun z => lv6.ne 0 4 (by decide) rfl rfl (List.mem_singleton.mp z))
                · refine List.nodup_append.mpr ⟨sn, by simp, fun x hx y hy e => ?_⟩
                  subst e
                  have := (so x hx).1
                  rw [List.mem_singleton.mp hy] at this
                  exact absurd this (Nat.lt_irrefl _)
                · intro z hz
                  rcases List.mem_append.mp hz with z1 | z1
                  · have := so z z1; exact ⟨by omega, this.2⟩
                  · rw [List.mem_singleton.mp z1]
                    refine ⟨Nat.lt_succ_self j, fun e => ?_⟩
                    subst e
                    have := (po.2 _ (of_decide_eq_true c)).1
                    simp at this
              · exact ⟨ss, lv6.tl (fun z => lv6.ne 0 4 (by decide) rfl rfl (List.mem_singleton.mp z)), sn, (fun z hz => ⟨Nat.lt_succ_of_lt (so z hz).1, (so z hz).2⟩), Nat.le_succ_of_le sl, px6⟩
            · rintro H5 ⟨ss, lv5, sn, so, sl, px⟩
              rw [Int.toNat_natCast] at sl so
              have xl5 := paired_len px
              wide_line
              wide_line with al lv5 t1 nt1 H6 lv6 s6
              wide_line
              wide_line with al lv6 l1 nl1 H7 lv7 s7
              wide_line
              refine ⟨by rw [sizeLine_eq]; simp; omega, ?_⟩
              wide_line with al lv7 l2 nl2 H8 lv8 s8
              have s68 := s7.trans s8
              have px8 : PairsT H8 (xs ++ [.ref t1]) (ps ++ [(a, 1 + i)]) := paired_app (px.keep (.same (s6.trans s68))) (.cons ⟨t1, rfl, s68 _ _ (lv6.get 0 rfl)⟩ .nil)
              wide_line
              intro D2 nD2
              have lvD := lv8.al (o := .lst []) nD2
              refine lc_list (K := K) (a := D) (xs := ss.map fun z => V.int (z : Nat)) (fun k H' => Hold (∃ (r m : Int) (acc : List V) (sub : List Nat), Lv H [p] H' [(D2, .lst acc), (l2, .lst (xs ++ [.ref t1])), (D, .lst (ss.map fun z => V.int (z : Nat))), (p, .lst [.int r, .int m])] ∧ SrcOk r m ∧ PairsT H' acc (sub.map fun z => (z, 1 + i)) ∧ sub.Sublist (ss.take k) ∧ sub.length ≤ k ∧ PairsT H' (xs ++ [.ref t1]) (ps ++ [(a, 1 + i)])))
                ⟨r4, m4, [], [], lvD.picks [0, 1, 4, 7] rfl (by decide) (by simp), ok4, .nil, List.nil_sublist _, Nat.zero_le _, px8.keep (.same (same_new nD2))⟩ (fun k H' _ ⟨_, _, _, _, z, _⟩ => SqL.of (z.get 2 rfl)) ?_ ?_
              · rintro k y H9 hy ⟨r9, m9, acc, sub, lv9, ok9, pa, sb, sbl, px9⟩
                obtain ⟨z, hz, rfl⟩ : ∃ z, ss[k]? = some z ∧ y = .int (z : Nat) := by
                  rw [List.getElem?_map] at hy
                  cases e : ss[k]? with
                  | none => rw [e] at hy; cases hy
                  | some z => rw [e] at hy; exact ⟨z, rfl, (Option.some.inj hy).symm⟩
                have kl := (List.getElem?_eq_some_iff.mp hz).1
                wide_line
                intro r10 m10 j ok10 j0 j1
                wide_line with stk lv9 3 H10 lv10 kt10
                wide_line
                have pa10 := pa.keep kt10
                have px10 := px9.keep kt10
                have tk : ss.take (k + 1) = ss.take k ++ [z] := by rw [List.take_succ, hz]; rfl
                refine ite2 (fun c => ?_) (fun c => ?_)
                · wide_line
                  wide_line with al lv10 t2 nt2 H11 lv11 s11
                  wide_line
                  have al := paired_len pa
                  rw [List.length_map] at al
                  refine ⟨by rw [sizeLine_eq]; omega, ?_⟩
                  wide_line with stk lv11 1 H12 lv12 kt12
                  have kt := (KeepT.same s11).trans kt12
                  refine ⟨r10, m10, _, sub ++ [z], lv12.tl (fun z => lv11.ne 0 4 (by decide) rfl rfl (List.mem_singleton.mp z)), ok10, ?_, ?_, by simp; omega, px10.keep kt⟩
                  · rw [List.map_append]
                    exact paired_app (pa10.keep kt) (.cons ⟨t2, rfl, kt12 _ _ (lv11.get 0 rfl)⟩ .nil)
                  · rw [tk]
                    exact List.Sublist.append sb (List.Sublist.refl _)
                · exact ⟨r10, m10, acc, sub, lv10, ok10, pa10, by rw [tk]; exact sb.trans (List.sublist_append_left _ _), Nat.le_succ_of_le sbl, px10⟩
              · rintro H9 ⟨r9, m9, acc, sub, lv9, ok9, pa, sb, sbl, px9⟩
                rw [List.length_map] at sb sbl
                rw [List.take_length] at sb
                have al := paired_len pa
                rw [List.length_map] at al
                have xl9 := paired_len px9
                wide_line
                refine ⟨by rw [sizeLine_eq]; simp at xl9 ⊢; omega, ?_⟩
                wide_line with al lv9 l3 nl3 H10 lv10 s10
                refine ⟨r9, m9, l3, _, (ps ++ [(a, 1 + i)]) ++ sub.map fun z => (z, 1 + i), _, _, _, _, rfl, lv10.pick2 0 4 (by decide) rfl rfl, ok9, paired_app (px9.keep (.same s10)) (pa.keep (.same s10)), ?_, by simp; omega⟩
                rw [List.append_assoc]
                refine po.add ?_ ?_
                · refine List.nodup_append.mpr ⟨by simp, nodup_inj (fun x y e => (Prod.mk.inj e).1) (sn.sublist sb), fun x hx y hy e => ?_⟩
                  subst e
                  rw [List.mem_singleton.mp hx] at hy
                  obtain ⟨z, hz, e⟩ := List.mem_map.mp hy
                  exact (so z (sb.subset hz)).2 (Prod.mk.inj e).1
                · intro q hq
                  rcases List.mem_append.mp hq with z | z
                  · rw [List.mem_singleton.mp z]
                    exact ⟨by show a < 1 + i; omega, rfl⟩
                  · obtain ⟨y, hy, rfl⟩ := List.mem_map.mp z
                    exact ⟨(so y (sb.subset hy)).1, rfl⟩
    · rintro σ H2 ⟨r2, m2, l, xs, ps, u4, u5, u6, u7, rfl, lv2, ok2, pt, po, pl⟩
      wide_line
      have e : 1 + ((n : Int) - 1).toNat = n := by omega
      exact k r2 m2 ps xs l H2 ok2 (e ▸ po) lv2.off (lv2.get 1 rfl) (lv2.fresh 0 rfl (fun z => lv2.ne 0 1 (by decide) rfl rfl (List.mem_singleton.mp z))) (lv2.get 0 rfl) pt
end
end Pw

set_option Elab.async false
set_option linter.all false
set_option maxRecDepth 100000
set_option maxHeartbeats 4000000
namespace Pw
open PySem PySem.Spec PyProof.Rows L2 Ct
local macro_rules | `(tactic| wide_line) => `(tactic| repeat ((fail_if_success (with_reducible refine at_while ?_)); (fail_if_success (with_reducible refine at_while1 ?_)); (conv => whnf); first | ((with_reducible refine And.intro ?_ ?_); focus (first | (first | ((with_reducible show (_ : Nat) ≤ _); first | exact sz0 | exact sz1 | exact sz2 | exact sz3 | exact sz4 | exact sz5 | exact sz6 | exact sz7 | exact sz8 | exact sz10 | exact sz11 | exact sz12 | exact sz14 | omega | decide | (simp only [List.length_cons, List.length_nil]; omega)) | ((with_reducible show (_ : Int) ≤ _); first | omega | decide) | ((with_reducible show (_ : Int) < _); first | omega | decide) | ((with_reducible show (_ : Nat) < _); omega)) | ((fail_if_success (with_reducible show (_ : Nat) ≤ _)); (fail_if_success (with_reducible show (_ : Int) ≤ _)); (fail_if_success (with_reducible show (_ : Int) < _)); (fail_if_success (with_reducible show (_ : Nat) < _)); first | exact kv_str _ | exact kv_int _ | rfl | assumption | exact flat_strs _ | exact Lv.get (by assumption) 0 rfl | exact Lv.get (by assumption) 1 rfl | exact Lv.get (by assumption) 2 rfl | exact Lv.get (by assumption) 3 rfl | exact Lv.get (by assumption) 4 rfl | exact Lv.get (by assumption) 5 rfl | exact Lv.get (by assumption) 6 rfl | exact SqL.of (Lv.get (by assumption) 0 rfl) | exact SqL.of (Lv.get (by assumption) 1 rfl) | exact SqL.of (Lv.get (by assumption) 2 rfl) | exact SqL.of (Lv.get (by assumption) 3 rfl) | exact SqL.of (Lv.get (by assumption) 4 rfl) | exact SqL.of (Lv.get (by assumption) 5 rfl) | exact Or.inl (SqL.of (Lv.get (by assumption) 0 rfl)) | exact Or.inl (SqL.of (Lv.get (by assumption) 1 rfl)) | exact Or.inl (SqL.of (Lv.get (by assumption) 2 rfl)) | exact Or.inl (SqL.of (Lv.get (by assumption) 3 rfl)) | exact Or.inl (SqL.of (Lv.get (by assumption) 4 rfl)) | exact Or.inl (SqL.of (Lv.get (by assumption) 5 rfl)) | exact ⟨_, SqL.of (Lv.get (by assumption) 0 rfl)⟩ | exact ⟨_, SqL.of (Lv.get (by assumption) 1 rfl)⟩ | exact ⟨_, SqL.of (Lv.get (by assumption) 2 rfl)⟩ | exact ⟨_, SqL.of (Lv.get (by assumption) 3 rfl)⟩ | exact ⟨_, SqL.of (Lv.get (by assumption) 4 rfl)⟩ | exact ⟨_, SqL.of (Lv.get (by assumption) 5 rfl)⟩ | exact Or.inl ⟨_, SqL.of (Lv.get (by assumption) 0 rfl), rfl⟩ | exact Or.inl ⟨_, SqL.of (Lv.get (by assumption) 1 rfl), rfl⟩ | exact Or.inl ⟨_, SqL.of (Lv.get (by assumption) 2 rfl), rfl⟩ | exact Or.inl ⟨_, SqL.of (Lv.get (by assumption) 3 rfl), rfl⟩ | exact Or.inl ⟨_, SqL.of (Lv.get (by assumption) 4 rfl), rfl⟩ | exact Or.inl ⟨_, SqL.of (Lv.get (by assumption) 5 rfl), rfl⟩ | exact Or.inl ⟨rfl, _, SqL.of (Lv.get (by assumption) 0 rfl)⟩ | exact Or.inl ⟨rfl, _, SqL.of (Lv.get (by assumption) 1 rfl)⟩ | exact Or.inl ⟨rfl, _, SqL.of (Lv.get (by assumption) 2 rfl)⟩ | exact Or.inl ⟨rfl, _, SqL.of (Lv.get (by assumption) 3 rfl)⟩ | exact Or.inl ⟨rfl, _, SqL.of (Lv.get (by assumption) 4 rfl)⟩ | exact Or.inl ⟨rfl, _, SqL.of (Lv.get (by assumption) 5 rfl)⟩ | exact Or.inr (SqT.of (Lv.get (by assumption) 0 rfl)) | exact Or.inr (SqT.of (Lv.get (by assumption) 1 rfl)) | exact Or.inr (SqT.of (Lv.get (by assumption) 2 rfl)) | exact Or.inr (SqT.of (Lv.get (by assumption) 3 rfl)) | exact SqT.of (Lv.get (by assumption) 0 rfl) | exact SqT.of (Lv.get (by assumption) 1 rfl) | exact SqT.of (Lv.get (by assumption) 2 rfl) | exact dgetN (Lv.get (by assumption) 0 rfl) (by assumption) | exact dgetN (Lv.get (by assumption) 1 rfl) (by assumption) | exact dgetN (Lv.get (by assumption) 2 rfl) (by assumption) | exact dgetN (Lv.get (by assumption) 3 rfl) (by assumption) | exact dgetN (Lv.get (by assumption) 4 rfl) (by assumption) | decide | ((with_reducible show _ ∧ _); omega)))) | ((fail_if_success (with_reducible apply @Exists.intro (Nat → _))); (with_reducible apply Exists.intro))))
local macro_rules
  | `(tactic| wide_line with al $lv:ident $l:ident $nl:ident $H:ident $lv1:ident $s1:ident) => `(tactic| (intro $l:ident $nl:ident; generalize he : upd _ _ _ = $H:ident; have $lv1:ident := Lv.alE $lv $nl he; have $s1:ident := sameE $nl he; clear he; (try dsimp only at $lv1:ident)))
  | `(tactic| wide_line with alx $lv:ident $nl:ident $H:ident $lv1:ident $s1:ident) => `(tactic| (generalize he : upd _ _ _ = $H:ident; have $lv1:ident := Lv.alE $lv $nl he; have $s1:ident := sameE $nl he; clear he; (try dsimp only at $lv1:ident)))
  | `(tactic| wide_line with sts $lv:ident $i:num $H:ident $lv1:ident $s0:ident $np:ident $s1:ident) => `(tactic| (generalize he : upd _ _ _ = $H:ident; have $lv1:ident := Lv.stE $lv $i rfl he; have $s1:ident := sameN $s0 $np he; clear he; (try dsimp only at $lv1:ident)))
  | `(tactic| wide_line with st $lv:ident $i:num $H:ident $lv1:ident) => `(tactic| (generalize he : upd _ _ _ = $H:ident; have $lv1:ident := Lv.stE $lv $i rfl he; clear he; (try dsimp only at $lv1:ident)))
  | `(tactic| wide_line with stk $lv:ident $i:num $H:ident $lv1:ident $k1:ident) => `(tactic| (generalize he : upd _ _ _ = $H:ident; have $lv1:ident := Lv.stE $lv $i rfl he; have $k1:ident := KeepT.st (Lv.get $lv $i rfl) he; clear he; (try dsimp only at $lv1:ident)))
/-- the names and the ties of a drawn web -/
structure PlanOk (n : Nat) (ns : List Str) (ts : List (Str × Str)) : Prop where
  one : 1 ≤ ns.length
  most : ns.length ≤ n
  nd : ns.Nodup
  nm : ∀ x ∈ ns, okName x = true
  tie : ∀ t ∈ ts, t.1 ∈ ns ∧ t.2 ∈ ns ∧ t.1 ≠ t.2
  dif : (ts.map pairP).Nodup
  few : ts.length ≤ 75
theorem PlanOk.perm {n : Nat} {ns ms : List Str} {ts us : List (Str × Str)} (h : PlanOk n ns ts) (a : ms.Perm ns) (b : us.Perm ts) : PlanOk n ms us :=
  ⟨a.length_eq ▸ h.one, a.length_eq ▸ h.most, a.nodup_iff.mpr h.nd, fun x hx => h.nm x (a.mem_iff.mp hx), fun t ht => by
    obtain ⟨h1, h2, h3⟩ := h.tie t (b.mem_iff.mp ht)
    exact ⟨a.mem_iff.mpr h1, a.mem_iff.mpr h2, h3⟩, (b.map pairP).nodup_iff.mpr h.dif, b.length_eq ▸ h.few⟩
/-- ties out of couples of places -/
abbrev TieR (ns : List Str) : List (Nat × Nat) → List (Str × Str) → Prop := Paired fun q t => ∃ x y, ns[q.1]? = some x ∧ ns[q.2]? = some y ∧ (t = (x, y) ∨ t = (y, x))
abbrev pairs12 : List (Nat × Nat) := (List.range 14).flatMap fun j => (List.range j).map fun i => (i, j)
theorem mem_pairs12 {n : Nat} (hn : n ≤ 14) {q : Nat × Nat} (h : q.1 < q.2 ∧ q.2 < n) : q ∈ (List.range n).flatMap fun j => (List.range j).map fun i => (i, j) :=
  List.mem_flatMap.mpr ⟨q.2, List.mem_range.mpr h.2, List.mem_map.mpr ⟨q.1, List.mem_range.mpr h.1, rfl⟩⟩
theorem few_pairs {n : Nat} (hn : n ≤ 12) {ps : List (Nat × Nat)} (h : PsOk n ps) : ps.length ≤ 66 := by
  have h1 := nodup_len h.1 fun q hq => mem_pairs12 (n := 12) (by decide) ⟨(h.2 q hq).1, Nat.lt_of_lt_of_le (h.2 q hq).2 hn⟩
  exact Nat.le_trans h1 (by decide +kernel)
theorem pairS_or (x y : Str) : pairS x y = (x, y) ∨ pairS x y = (y, x) := by
  unfold pairS
  split
  · exact .inl rfl
  · exact .inr rfl
theorem tieR_inj {ns : List Str} (nd : ns.Nodup) {q r : Nat × Nat} {t u : Str × Str} (hq : q.1 < q.2) (hr : r.1 < r.2)
    (h1 : ∃ x y, ns[q.1]? = some x ∧ ns[q.2]? = some y ∧ (t = (x, y) ∨ t = (y, x))) (h2 : ∃ x y, ns[r.1]? = some x ∧ ns[r.2]? = some y ∧ (u = (x, y) ∨ u = (y, x))) (e : pairP t = pairP u) : q = r := by
  obtain ⟨x, y, hx, hy, ht⟩ := h1
  obtain ⟨x', y', hx', hy', hu⟩ := h2
  have key : (x = x' ∧ y = y') ∨ (x = y' ∧ y = x') := by
    unfold pairP at e
    rcases ht with rfl | rfl <;> rcases hu with rfl | rfl <;> simp only at e
    all_goals
      rcases pairS_or x y with z | z <;> rcases pairS_or y x with z' | z' <;> rcases pairS_or x' y' with w | w <;> rcases pairS_or y' x' with w' | w'
    all_goals
      simp only [z, z', w, w'] at e
      injection e with e1 e2
      subst e1 e2
      first
        | exact .inl ⟨rfl, rfl⟩
        | exact .inr ⟨rfl, rfl⟩
  rcases key with ⟨rfl, rfl⟩ | ⟨rfl, rfl⟩
  · have a := idx_inj nd hx hx'
    have b := idx_inj nd hy hy'
    exact Prod.ext a b
  · have a := idx_inj nd hx hy'
    have b := idx_inj nd hy hx'
    omega
theorem tieR_dif {ns : List Str} (nd : ns.Nodup) : ∀ {ps : List (Nat × Nat)} {ts : List (Str × Str)}, TieR ns ps ts → ps.Nodup → (∀ q ∈ ps, q.1 < q.2) → (ts.map pairP).Nodup
  | _, _, .nil, _, _ => List.nodup_nil
  | q :: ps, t :: ts, .cons a r, h, lt => by
    obtain ⟨n, h⟩ := List.nodup_cons.mp h
    refine List.nodup_cons.mpr ⟨fun z => ?_, tieR_dif nd r h fun q hq => lt q (List.mem_cons_of_mem _ hq)⟩
    obtain ⟨u, hu, e⟩ := List.mem_map.mp z
    obtain ⟨s, hs, b⟩ := paired_mem r u hu
    exact n (tieR_inj nd (lt q List.mem_cons_self) (lt s (List.mem_cons_of_mem _ hs)) a b e.symm ▸ hs)
theorem tieR_in {ns : List Str} (nd : ns.Nodup) {ps : List (Nat × Nat)} {ts : List (Str × Str)} (r : TieR ns ps ts) (lt : ∀ q ∈ ps, q.1 < q.2) : ∀ t ∈ ts, t.1 ∈ ns ∧ t.2 ∈ ns ∧ t.1 ≠ t.2 := fun t ht => by
  obtain ⟨q, hq, x, y, hx, hy, e⟩ := paired_mem r t ht
  have ne : x ≠ y := fun z => by
    subst z
    have := idx_inj nd hx hy
    have := lt q hq
    omega
  rcases e with rfl | rfl
  · exact ⟨List.mem_of_getElem? hx, List.mem_of_getElem? hy, ne⟩
  · exact ⟨List.mem_of_getElem? hy, List.mem_of_getElem? hx, ne.symm⟩
/-- plan(source, n): a new tuple of names and ties -/
def spPlan : Sp := fun vs H Q _ => ∃ (p : Addr) (r m : Int) (n : Nat), vs = [.ref p, .int n] ∧ H p = some (.lst [.int r, .int m]) ∧ SrcOk r m ∧ 1 ≤ n ∧ n ≤ 12 ∧
  ∀ (r' m' : Int) (ns : List Str) (ts : List (Str × Str)) (t tn tt : Addr) (xs : List V) (H' : Hp), SrcOk r' m' → PlanOk n ns ts → (∀ b o, b ≠ p → H b = some o → H' b = some o) → H' p = some (.lst [.int r', .int m']) → H t = none →
    H' t = some (.tup [.ref tn, .ref tt]) → H' tn = some (.tup (ns.map V.str)) → H' tt = some (.tup xs) → TiesT H' xs ts → Q (.ref t) H'
section
variable {P : Program} {w : World} {K : PySem.W.Frag} {mg : Str → Option Value} {base : Heap}
abbrev sLawPlan : Stmt := top ix_law_plan
theorem scLawPlan : FnScope ["source", "most", "many", "names", "ties", "at", "to"] ["source", "most"] (defScope sLawPlan) := ⟨rfl, rfl, rfl, by decide +kernel, rfl, by decide +kernel, by decide +kernel⟩
theorem has_plan (T : Bn mg) (D : DFE K mg "_law_plan" sLawPlan ["source", "most"]) (h_law_draw : Has P w K mg base CX0 1 "_law_draw" ["source", "span"] spDraw) (h_law_mixed : Has P w K mg base CX0 2 "_law_mixed" ["source", "things"] (spMixed K)) (h_law_names : Has P w K mg base CX0 4 "_law_names" ["source", "many"] spNames) (h_law_pairs : Has P w K mg base CX0 2 "_law_pairs" ["source", "many", "kind"] spPairs) : Has P w K mg base CX0 5 "_law_plan" ["source", "most"] spPlan := by
  refine has_of D scLawPlan (fun vs H Q E h => ?_) (fun f cdv A outer s H vs Q E hr h => ?_)
  · obtain ⟨p, r, m, n, rfl, _⟩ := h; rfl
  · obtain ⟨p, r, m, n, rfl, hp, ok, n1, n2, k⟩ := h
    have nd := scLawPlan.nd
    refine ⟨_, (pss_cons (ps_sv 2 nd (pe_op op_add pe_int (pe_h h_law_draw hr (by decide) rfl (pa_cons (pv 0) (pa_cons (pv 1) pa_nil)))))
    (pss_cons (ps_par (i := 3) (j := 4) (by rfl) nd rfl rfl (by decide) rfl rfl (pa_cons (pe_h h_law_names hr (by decide) rfl (pa_cons (pv 0) (pa_cons (pv 2) pa_nil))) (pa_cons (pe_lst pa_nil) pa_nil)) (by rfl))
    (pss_cons (ps_for PassesOwn.never rfl (pi_list (pe_h h_law_pairs hr (by decide) rfl (pa_cons (pv 0) (pa_cons (pv 2) (pa_cons (pe_h h_law_draw hr (by decide) rfl (pa_cons (pv 0) (pa_cons pe_int pa_nil))) pa_nil))))) (pg_tup rfl (pgs_cons (pg_name (i := 5) nd rfl (by first | exact Or.inl rfl | exact Or.inr rfl)) (pgs_cons (pg_name (i := 6) nd rfl (by first | exact Or.inl rfl | exact Or.inr rfl)) pgs_nil))) (pss_one (ps_expr (pe_bm PySem.F.plainAttrs_list PySem.F.slot_list_append PySem.F.type_list_append mt_append (pv 4) (pa_cons (pe_ifExp (pt_cmpR op_eq (pe_h h_law_draw hr (by decide) rfl (pa_cons (pv 0) (pa_cons pe_int pa_nil))) pe_int (by first | exact nomark _ | rfl)) (pe_tup (pa_cons (pe_ix ix_list (pv 3) (pv 5) (fun _ _ => rfl)) (pa_cons (pe_ix ix_list (pv 3) (pv 6) (fun _ _ => rfl)) pa_nil))) (pe_tup (pa_cons (pe_ix ix_list (pv 3) (pv 6) (fun _ _ => rfl)) (pa_cons (pe_ix ix_list (pv 3) (pv 5) (fun _ _ => rfl)) pa_nil)))) pa_nil)))))
    (pss_one (ps_ret (pe_tup (pa_cons (pe_callTy call_tuple_of (by rfl) T.z_tuple (by decide +kernel) (pa_cons (pe_h h_law_mixed hr (by decide) rfl (pa_cons (pv 0) (pa_cons (pv 3) pa_nil))) pa_nil)) (pa_cons (pe_callTy call_tuple_of (by rfl) T.z_tuple (by decide +kernel) (pa_cons (pe_h h_law_mixed hr (by decide) rfl (pa_cons (pv 0) (pa_cons (pv 4) pa_nil))) pa_nil)) pa_nil)))))))), ?_⟩
    have lv := Lv.one hp
    wide_line
    intro r1 m1 j ok1 j0 j1
    obtain ⟨a, rfl⟩ := Int.eq_ofNat_of_zero_le j0
    wide_line with st lv 0 H1 lv1
    wide_line
    intro r2 m2 ns ln H2 ok2 nl nn no off2 src2 fln hln
    have nl : ns.length = 1 + a := nl
    have al : 1 + a ≤ n := by omega
    have lv2 := lv1.stn 0 rfl src2 off2 fln hln
    wide_line
    wide_line with al lv2 lt flt H3 lv3 s3
    wide_line
    intro r3 m3 kd ok3 kd0 kd1
    wide_line with st lv3 2 H4 lv4
    wide_line
    intro r5 m5 ps xs lp H5 ok5 po off5 src5 flp hlp pt
    have lv5 := lv4.stn 2 rfl src5 off5 flp hlp
    wide_line
    refine for_list (K := K) (a := lp) (xs := xs) (fun k σ H' => Hold (∃ (r m : Int) (ys : List V) (ts : List (Str × Str)) (u5 u6 : Option V), σ = [some (.ref p), some (.int n), some (.int ((1 + a : Nat) : Int)), some (.ref ln), some (.ref lt), u5, u6] ∧
      Lv H [p] H' [(lp, .lst xs), (lt, .lst ys), (ln, .lst (ns.map V.str)), (p, .lst [.int r, .int m])] ∧ SrcOk r m ∧ PairsT H' xs ps ∧ TiesT H' ys ts ∧ TieR ns (ps.take k) ts))
      ⟨r5, m5, [], [], none, none, rfl, lv5, ok5, pt, .nil, .nil⟩ (fun k σ H' _ ⟨_, _, _, _, _, _, _, z, _⟩ => SqL.of (z.get 0 rfl)) ?_ ?_
    · rintro k0 y σ H6 hy ⟨r6, m6, ys, ts, u5, u6, rfl, lv6, ok6, pt6, tt6, tr6⟩
      obtain ⟨q, hq, b, rfl, hb⟩ := paired_at pt6 hy
      have pq := po.2 q (List.mem_of_getElem? hq)
      have hb2 : SqT K H6 b [.int (q.1 : Nat), .int (q.2 : Nat)] := SqT.of hb
      have i1 : ns[q.1]? = some (ns[q.1]'(by omega)) := List.getElem?_eq_getElem _
      have i2 : ns[q.2]? = some (ns[q.2]'(by omega)) := List.getElem?_eq_getElem _
      generalize ns[q.1]'(by omega) = x1 at i1
      generalize ns[q.2]'(by omega) = x2 at i2
      have a1 : atI (ns.map V.str) ((q.1 : Nat) : Int) = some (V.str x1) := atI_nat (by rw [List.getElem?_map, i1]; rfl)
      have a2 : atI (ns.map V.str) ((q.2 : Nat) : Int) = some (V.str x2) := atI_nat (by rw [List.getElem?_map, i2]; rfl)
      have tk : ps.take (k0 + 1) = ps.take k0 ++ [q] := by rw [List.take_succ, hq]; rfl
      have tl6 : ts.length ≤ 66 := by
        have h1 := paired_len tr6
        have h2 := few_pairs (Nat.le_trans (by omega : 1 + a ≤ 12) (Nat.le_refl _)) po
        rw [List.length_take] at h1
        omega
      have yl6 := paired_len tt6
      wide_line
      intro r7 m7 z ok7 z0 z1
      wide_line with stk lv6 3 H7 lv7 kt7
      wide_line
      have fin : ∀ (tq : Str × Str) (hq : tq = (x1, x2) ∨ tq = (x2, x1)) (b2 : Addr) (H8 : Hp), Lv H [p] H8 [(b2, .tup [.str tq.1, .str tq.2]), (lp, .lst xs), (lt, .lst ys), (ln, .lst (ns.map V.str)), (p, .lst [.int r7, .int m7])] → Same H7 H8 →
          ∀ H9, upd H8 lt (.lst (ys ++ [.ref b2])) = H9 → Hold (∃ (r m : Int) (ys : List V) (ts : List (Str × Str)) (u5 u6 : Option V), [some (.ref p), some (.int n), some (.int ((1 + a : Nat) : Int)), some (.ref ln), some (.ref lt), some (.int (q.1 : Nat)), some (.int (q.2 : Nat))] = [some (.ref p), some (.int n), some (.int ((1 + a : Nat) : Int)), some (.ref ln), some (.ref lt), u5, u6] ∧
      Lv H [p] H9 [(lp, .lst xs), (lt, .lst ys), (ln, .lst (ns.map V.str)), (p, .lst [.int r, .int m])] ∧ SrcOk r m ∧ PairsT H9 xs ps ∧ TiesT H9 ys ts ∧ TieR ns (ps.take (k0 + 1)) ts) := by
        intro tq hq b2 H8 lv8 s8 H9 e9
        have lv9 := Lv.stE lv8 2 rfl e9
        have kt9 := KeepT.st (lv8.get 2 rfl) e9
        have kt := kt7.trans ((KeepT.same s8).trans kt9)
        refine ⟨r7, m7, ys ++ [.ref b2], ts ++ [tq], _, _, rfl, lv9.picks [1, 2, 3, 4] rfl (by decide) (by simp), ok7, pt6.keep kt, paired_app (tt6.keep kt) (.cons ⟨b2, rfl, kt9 _ _ (lv8.get 0 rfl)⟩ .nil), ?_⟩
        rw [tk]
        exact paired_app tr6 (.cons ⟨x1, x2, i1, i2, hq⟩ .nil)
      refine ite2 (fun c => ?_) (fun c => ?_)
      · wide_line
        wide_line with al lv7 b2 fb2 H8 lv8 s8
        wide_line
        refine ⟨by rw [sizeLine_eq]; omega, ?_⟩
        exact fin (x1, x2) (.inl rfl) b2 H8 lv8 s8 _ rfl
      · wide_line
        wide_line with al lv7 b2 fb2 H8 lv8 s8
        wide_line
        refine ⟨by rw [sizeLine_eq]; omega, ?_⟩
        exact fin (x2, x1) (.inr rfl) b2 H8 lv8 s8 _ rfl
    · rintro σ H6 ⟨r6, m6, ys, ts, u5, u6, rfl, lv6, ok6, pt6, tt6, tr6⟩
      rw [paired_len pt6, List.take_length] at tr6
      have pk : PlanOk n ns ts := ⟨by omega, by omega, nn, no, tieR_in nn tr6 fun q hq => (po.2 q hq).1, tieR_dif nn tr6 po.1 fun q hq => (po.2 q hq).1, by
        rw [← paired_len tr6]
        exact Nat.le_trans (few_pairs (by omega : 1 + a ≤ 12) po) (by decide)⟩
      have l12 := pk.most
      have l66 := pk.few
      have yl6 := paired_len tt6
      wide_line
      refine ⟨by rw [List.length_map]; omega, ?_⟩
      intro r7 m7 zs l7 H7 ok7 pm7 off7 src7 fl7 hl7
      obtain ⟨ns', pn, rfl⟩ := strs_perm pm7
      have lv7 := lv6.stn 3 rfl src7 off7 fl7 hl7
      have tt7 := tt6.keep (.off (lv6.get 3 rfl) (fun _ z => nomatch z) off7)
      wide_line
      refine .inl ⟨SqL.of (lv7.get 0 rfl), ?_⟩
      wide_line with al lv7 tn ftn H8 lv8 s8
      wide_line
      intro r9 m9 zs9 l9 H9 ok9 pm9 off9 src9 fl9 hl9
      have tt9 := (tt7.keep (.same s8)).keep (.off (lv8.get 5 rfl) (fun _ z => nomatch z) off9)
      obtain ⟨ts', pt', tt'⟩ := paired_perm pm9 tt9
      have lv9 := lv8.stn 5 rfl src9 off9 fl9 hl9
      wide_line
      refine .inl ⟨SqL.of (lv9.get 0 rfl), ?_⟩
      wide_line with al lv9 tt0 ftt H10 lv10 s10
      wide_line
      wide_line with al lv10 t0 ft0 H11 lv11 s11
      exact k r9 m9 ns' ts' t0 tn tt0 zs9 H11 ok9 (pk.perm pn pt') lv11.off (lv11.get 8 rfl) (lv10.free ft0) (lv11.get 0 rfl) (lv11.get 3 rfl) (lv11.get 1 rfl) (TiesT.keep (.same (s10.trans s11)) tt')
end
end Pw

set_option Elab.async false
set_option linter.all false
set_option maxRecDepth 100000
set_option maxHeartbeats 4000000
namespace Pw
open PySem PySem.Spec PyProof.Rows L2 Ct
local macro_rules | `(tactic| wide_line) => `(tactic| repeat ((fail_if_success (with_reducible refine at_while ?_)); (fail_if_success (with_reducible refine at_while1 ?_)); (conv => whnf); first | ((with_reducible refine And.intro ?_ ?_); focus (first | (first | ((with_reducible show (_ : Nat) ≤ _); first | exact sz0 | exact sz1 | exact sz2 | exact sz3 | exact sz4 | exact sz5 | exact sz6 | exact sz7 | exact sz8 | exact sz10 | exact sz11 | exact sz12 | exact sz14 | omega | decide | (simp only [List.length_cons, List.length_nil]; omega)) | ((with_reducible show (_ : Int) ≤ _); first | omega | decide) | ((with_reducible show (_ : Int) < _); first | omega | decide) | ((with_reducible show (_ : Nat) < _); omega)) | ((fail_if_success (with_reducible show (_ : Nat) ≤ _)); (fail_if_success (with_reducible show (_ : Int) ≤ _)); (fail_if_success (with_reducible show (_ : Int) < _)); (fail_if_success (with_reducible show (_ : Nat) < _)); first | exact kv_str _ | exact kv_int _ | rfl | assumption | exact flat_strs _ | exact Lv.get (by assumption) 0 rfl | exact Lv.get (by assumption) 1 rfl | exact Lv.get (by assumption) 2 rfl | exact Lv.get (by assumption) 3 rfl | exact Lv.get (by assumption) 4 rfl | exact Lv.get (by assumption) 5 rfl | exact Lv.get (by assumption) 6 rfl | exact SqL.of (Lv.get (by assumption) 0 rfl) | exact SqL.of (Lv.get (by assumption) 1 rfl) | exact SqL.of (Lv.get (by assumption) 2 rfl) | exact SqL.of (Lv.get (by assumption) 3 rfl) | exact SqL.of (Lv.get (by assumption) 4 rfl) | exact SqL.of (Lv.get (by assumption) 5 rfl) | exact Or.inl (SqL.of (Lv.get (by assumption) 0 rfl)) | exact Or.inl (SqL.of (Lv.get (by assumption) 1 rfl)) | exact Or.inl (SqL.of (Lv.get (by assumption) 2 rfl)) | exact Or.inl (SqL.of (Lv.get (by assumption) 3 rfl)) | exact Or.inl (SqL.of (Lv.get (by assumption) 4 rfl)) | exact Or.inl (SqL.of (Lv.get (by assumption) 5 rfl)) | exact ⟨_, SqL.of (Lv.get (by assumption) 0 rfl)⟩ | exact ⟨_, SqL.of (Lv.get (by assumption) 1 rfl)⟩ | exact ⟨_, SqL.of (Lv.get (by assumption) 2 rfl)⟩ | exact ⟨_, SqL.of (Lv.get (by assumption) 3 rfl)⟩ | exact ⟨_, SqL.of (Lv.get (by assumption) 4 rfl)⟩ | exact ⟨_, SqL.of (Lv.get (by assumption) 5 rfl)⟩ | exact Or.inl ⟨_, SqL.of (Lv.get (by assumption) 0 rfl), rfl⟩ | exact Or.inl ⟨_, SqL.of (Lv.get (by assumption) 1 rfl), rfl⟩ | exact Or.inl ⟨_, SqL.of (Lv.get (by assumption) 2 rfl), rfl⟩ | exact Or.inl ⟨_, SqL.of (Lv.get (by assumption) 3 rfl), rfl⟩ | exact Or.inl ⟨_, SqL.of (Lv.get (by assumption) 4 rfl), rfl⟩ | exact Or.inl ⟨_, SqL.of (Lv.get (by assumption) 5 rfl), rfl⟩ | exact Or.inl ⟨rfl, _, SqL.of (Lv.get (by assumption) 0 rfl)⟩ | exact Or.inl ⟨rfl, _, SqL.of (Lv.get (by assumption) 1 rfl)⟩ | exact Or.inl ⟨rfl, _, SqL.of (Lv.get (by assumption) 2 rfl)⟩ | exact Or.inl ⟨rfl, _, SqL.of (Lv.get (by assumption) 3 rfl)⟩ | exact Or.inl ⟨rfl, _, SqL.of (Lv.get (by assumption) 4 rfl)⟩ | exact Or.inl ⟨rfl, _, SqL.of (Lv.get (by assumption) 5 rfl)⟩ | exact Or.inr (SqT.of (Lv.get (by assumption) 0 rfl)) | exact Or.inr (SqT.of (Lv.get (by assumption) 1 rfl)) | exact Or.inr (SqT.of (Lv.get (by assumption) 2 rfl)) | exact Or.inr (SqT.of (Lv.get (by assumption) 3 rfl)) | exact SqT.of (Lv.get (by assumption) 0 rfl) | exact SqT.of (Lv.get (by assumption) 1 rfl) | exact SqT.of (Lv.get (by assumption) 2 rfl) | exact dgetN (Lv.get (by assumption) 0 rfl) (by assumption) | exact dgetN (Lv.get (by assumption) 1 rfl) (by assumption) | exact dgetN (Lv.get (by assumption) 2 rfl) (by assumption) | exact dgetN (Lv.get (by assumption) 3 rfl) (by assumption) | exact dgetN (Lv.get (by assumption) 4 rfl) (by assumption) | decide | ((with_reducible show _ ∧ _); omega)))) | ((fail_if_success (with_reducible apply @Exists.intro (Nat → _))); (with_reducible apply Exists.intro))))
local macro_rules
  | `(tactic| wide_line with al $lv:ident $l:ident $nl:ident $H:ident $lv1:ident $s1:ident) => `(tactic| (intro $l:ident $nl:ident; generalize he : upd _ _ _ = $H:ident; have $lv1:ident := Lv.alE $lv $nl he; have $s1:ident := sameE $nl he; clear he; (try dsimp only at $lv1:ident)))
  | `(tactic| wide_line with alx $lv:ident $nl:ident $H:ident $lv1:ident $s1:ident) => `(tactic| (generalize he : upd _ _ _ = $H:ident; have $lv1:ident := Lv.alE $lv $nl he; have $s1:ident := sameE $nl he; clear he; (try dsimp only at $lv1:ident)))
  | `(tactic| wide_line with sts $lv:ident $i:num $H:ident $lv1:ident $s0:ident $np:ident $s1:ident) => `(tactic| (generalize he : upd _ _ _ = $H:ident; have $lv1:ident := Lv.stE $lv $i rfl he; have $s1:ident := sameN $s0 $np he; clear he; (try dsimp only at $lv1:ident)))
  | `(tactic| wide_line with stx $lv:ident $H:ident $lv1:ident $d1:ident) => `(tactic| (generalize he : upd _ _ _ = $H:ident; have $lv1:ident := Lv.stE $lv 0 rfl he; have $d1:ident := SameD.storeE (Lv.get $lv 0 rfl) he; clear he; (try dsimp only at $lv1:ident)))
  | `(tactic| wide_line with st $lv:ident $i:num $H:ident $lv1:ident) => `(tactic| (generalize he : upd _ _ _ = $H:ident; have $lv1:ident := Lv.stE $lv $i rfl he; clear he; (try dsimp only at $lv1:ident)))
  | `(tactic| wide_line with stk $lv:ident $i:num $H:ident $lv1:ident $k1:ident) => `(tactic| (generalize he : upd _ _ _ = $H:ident; have $lv1:ident := Lv.stE $lv $i rfl he; have $k1:ident := KeepT.st (Lv.get $lv $i rfl) he; clear he; (try dsimp only at $lv1:ident)))
/-! a web made of what is right -/
def tieDat (t : Str × Str) : PyData := .tuple [.str t.1, .str t.2]
theorem strsD_map : ∀ ns : List Str, strsD (ns.map PyData.str) = ns
  | [] => rfl
  | n :: ns => by rw [List.map_cons, strsD, strsD_map ns]
theorem places_good {d : PyData} {n : Nat} {ns : List Str} {ts : List (Str × Str)} (h : PlanOk n ns ts) (hn : n ≤ 12) (e : seqD d = some (ns.map PyData.str)) : placesOf d = some ns := by
  unfold placesOf
  rw [e]
  dsimp only
  rw [strsD_map, List.length_map, if_pos ⟨⟨h.one, Nat.le_trans h.most hn⟩, by rw [List.all_map, List.all_eq_true]; exact h.nm, h.nd⟩]
theorem tieOf_good {ns : List Str} {t : Str × Str} (h : t.1 ∈ ns ∧ t.2 ∈ ns ∧ t.1 ≠ t.2) : tieOf ns (tieDat t) = some t := by
  show (if t.1 ∈ ns ∧ t.2 ∈ ns ∧ t.1 ≠ t.2 then some (t.1, t.2) else none) = _
  rw [if_pos h]
theorem tieBad_good {ns : List Str} : ∀ {ts qs : List (Str × Str)} {i : Nat}, (∀ t ∈ ts, t.1 ∈ ns ∧ t.2 ∈ ns ∧ t.1 ≠ t.2) → (ts.map pairP).Nodup → (∀ t ∈ ts, pairP t ∉ qs) → tieBad ns qs i (ts.map tieDat) = none
  | [], _, _, _, _, _ => rfl
  | t :: ts, qs, i, h, d, o => by
    obtain ⟨n, d⟩ := List.nodup_cons.mp d
    rw [List.map_cons, tieBad, tieOf_good (h t List.mem_cons_self)]
    dsimp only
    rw [if_neg (o t List.mem_cons_self)]
    refine tieBad_good (fun u hu => h u (List.mem_cons_of_mem _ hu)) d fun u hu z => ?_
    rcases List.mem_cons.mp z with z | z
    · exact n (List.mem_map.mpr ⟨u, hu, z⟩)
    · exact o u (List.mem_cons_of_mem _ hu) z
theorem tiesD_good {ns : List Str} : ∀ {ts : List (Str × Str)}, (∀ t ∈ ts, t.1 ∈ ns ∧ t.2 ∈ ns ∧ t.1 ≠ t.2) → tiesD ns (ts.map tieDat) = ts
  | [], _ => rfl
  | t :: ts, h => by
    unfold tiesD
    rw [List.map_cons, List.filterMap_cons, tieOf_good (h t List.mem_cons_self)]
    exact congrArg _ (tiesD_good fun u hu => h u (List.mem_cons_of_mem _ hu))
section
variable {K : PySem.W.Frag} {H : Hp}
theorem dq_strs : ∀ ns : List Str, DqAll K H (ns.map V.str) (ns.map PyData.str)
  | [] => .nil
  | n :: ns => .cons (.str n) (dq_strs ns)
theorem dq_ties : ∀ {xs : List V} {ts : List (Str × Str)}, TiesAt K H xs ts → DqAll K H xs (ts.map tieDat)
  | _, _, .nil => .nil
  | _, _, .cons ⟨a, e, h⟩ t => .cons (by subst e; exact .tup h (.cons (.str _) (.cons (.str _) .nil))) (dq_ties t)
/-- a list or a tuple of what is known item by item -/
theorem dq_seq {a : Addr} {xs : List V} {ds : List PyData} (h : SqS K H a xs) (e : DqAll K H xs ds) : ∃ d, seqD d = some ds ∧ Dq K H (.ref a) d := by
  rcases h with h | h
  · exact ⟨.list ds, rfl, .lst h e⟩
  · exact ⟨.tuple ds, rfl, .tup h e⟩
end
/-- the class Web: what a new one promises -/
structure HasW (P : Program) (w : World) (K : PySem.W.Frag) (mg : Str → Option Value) (base : Heap) (k : Nat) (C CP CS CT : Addr) : Prop where
  g : mg "Web" = some (.ref C)
  ex : ∃ (f T0 : Addr) (fd : FuncData) (ds : List Value) (o : Obj) (n : Nat), Mk K C f ∧ FnOk P w K mg base (L2.CX P w) k f fd ["self", "places", "ties"] (spInit K C CP CS CT) ∧ Binds K fd ["self", "places", "ties"] [] ∧ Binds K fd ["self", "places", "ties"] ds ∧ Vals [.ref T0] ds ∧
    K.lookup T0 = some o ∧ o.cls = .type "tuple" ∧ o.data = .seq #[] n
/-- Web(p, t) of what is right -/
def tWeb (K : PySem.W.Frag) (C : Addr) (t : TA) : TE := fun σ H Q => t σ H fun vs H1 => ∃ (a b : Addr) (n : Nat) (ns : List Str) (xs : List V) (ts : List (Str × Str)), vs = [.ref a, .ref b] ∧ SqS K H1 a (ns.map V.str) ∧ SqS K H1 b xs ∧ TiesAt K H1 xs ts ∧ PlanOk n ns ts ∧ n ≤ 12 ∧
  ∀ x H', Same H1 H' → H1 x = none → FreshW K C H1 H' x ns ts → Q (.ref x) H'
theorem noLst_le {H1 H2 H' : Hp} (s : Same H1 H2) : Same (noLst H2 H') (noLst H1 H') := fun b o e => by
  refine noLst_at (fun xs z => ?_) (noLst_sub b o e)
  unfold noLst at e
  rw [s b _ z] at e
  cases e
theorem FreshW.le {K : PySem.W.Frag} {C : Addr} {H1 H2 H : Hp} {x : Addr} {ns : List Str} {ts : List (Str × Str)} (h : FreshW K C H2 H x ns ts) (s : Same H1 H2) : FreshW K C H1 H x ns ts :=
  ⟨h.web.same (noLst_le s), fun b hb => free_of s (h.own b (by rw [areaW_same (noLst_le s) h.web] at hb; exact hb))⟩
theorem init_good {K : PySem.W.Frag} {C CP CS CT a b x dx : Addr} {n : Nat} {H1 : Hp} {ns : List Str} {xs : List V} {ts : List (Str × Str)} {Q : VK} {E : XK} (ha : SqS K H1 a (ns.map V.str)) (hb : SqS K H1 b xs) (ht : TiesAt K H1 xs ts) (pk : PlanOk n ns ts) (hn : n ≤ 12) (nx : H1 x = none) (ndx : H1 dx = none) (ne : dx ≠ x)
    (k : ∀ H', Same H1 H' → H1 x = none → FreshW K C H1 H' x ns ts → Q .non H') : spInit K C CP CS CT [.ref x, .ref a, .ref b] (upd (upd H1 dx (.own x)) x (.ins C dx [])) Q E := by
  have s1 : Same H1 (upd (upd H1 dx (.own x)) x (.ins C dx [])) := (same_new ndx).trans (same_new (by rw [upd_ne (fun z => ne z.symm)]; exact nx))
  have hx : upd (upd H1 dx (.own x)) x (.ins C dx []) x = some (.ins C dx []) := upd_same
  generalize upd (upd H1 dx (.own x)) x (.ins C dx []) = H2 at s1 hx ⊢
  obtain ⟨d, ed, hd⟩ := dq_seq (ha.same s1) (dq_strs ns)
  obtain ⟨td, etd, htd⟩ := dq_seq (hb.same s1) (dq_ties (ht.same s1))
  have pg := places_good pk hn ed
  refine ⟨x, dx, .ref a, .ref b, d, td, rfl, hx, hd, fun ds e => ?_, htd, fun z => (by rw [pg] at z; cases z), fun ns' e => ?_⟩
  · rw [ed] at e
    cases e
    refine ⟨by rw [List.length_map]; have := pk.most; omega, fun y hy => ?_⟩
    obtain ⟨z, hz, e⟩ := List.mem_map.mp hy
    cases e
    have := pk.nm _ hz
    unfold okName at this
    simp only [Bool.and_eq_true, decide_eq_true_eq] at this
    rw [sizeLine_eq]
    omega
  · rw [pg] at e
    cases e
    refine ⟨fun z => (by rw [etd] at z; cases z), fun tds e => ?_⟩
    rw [etd] at e
    cases e
    have tb := tieBad_good (i := 0) (qs := []) pk.tie pk.dif (fun _ _ z => nomatch z)
    refine ⟨fun e he => ?_, by rw [List.length_map]; have := pk.few; omega, fun i z => (by rw [tb] at z; cases z), fun _ H' off hw => ?_⟩
    · obtain ⟨t, _, rfl⟩ := List.mem_map.mp he
      exact ⟨rfl, rfl⟩
    · rw [tiesD_good pk.tie] at hw
      exact k H' (fun c o ec => off c o (ne_of_none ec nx) (s1 c o ec)) nx (hw.le s1)
theorem pe_web {X : Cx} {C CP CS CT : Addr} {j k : Nat} {e : Expr} {es : List Expr} {t : TA} {p pos : Pos} (h : HasW X.prog X.w X.K X.mg X.base j C CP CS CT) (hr : Room k X.A) (l : j + 1 ≤ k) (hg : Gl X "Web") (ha : PA X (e :: es) t)
    (he : starEach (e :: es) X.env = (false, eval e X.env) :: starEach es X.env := by rfl) (hpl : (backTo pos (starEach es X.env)).any (·.1) = false := by rfl) : PE X (.Call (.Name "Web" p) (e :: es) [] pos) (tWeb X.K C t) := by
  obtain ⟨g, f, T0, fd, ds, o, n0, M, F, b, _⟩ := h
  refine pe_makeG (E := fun _ => E0) M F (hr.mono l) hg g b .nil (fun vs H1 Q σ x dx q nx ndx ne => ?_) (fun pins σ H s e s' I z => passL pins σ H s e s' I z) ha (by decide) he hpl
  obtain ⟨a, b, n, ns, xs, ts, rfl, ha, hb, ht, pk, hn, k⟩ := q
  exact init_good ha hb ht pk hn nx ndx ne fun H' s' nx' hw => ⟨rfl, k x H' s' nx' hw⟩
end Pw

set_option Elab.async false
set_option linter.all false
/-! Own kit Zf: an f-string under a name (for what stands within a comprehension). -/
namespace Ct
open PySem PySem.Spec PyProof.Rows L2
def tJd (ts : List TE) : TE := fun σ H Q => tJs ts Str.empty σ H fun out H1 => Q (.str out) H1
theorem pe_jd {X : Cx} {v1 v2 : Expr} {rest : List Expr} {ts : List TE} {pos : Pos} (h : PJ X (v1 :: v2 :: rest) ts) : PE X (.JoinedStr (v1 :: v2 :: rest) pos) (tJd ts) := pe_joined h
end Ct

set_option Elab.async false
set_option linter.all false
set_option maxRecDepth 100000
set_option maxHeartbeats 4000000
namespace Pw
open PySem PySem.Spec PyProof.Rows L2 Ct
local macro_rules | `(tactic| wide_line) => `(tactic| repeat ((fail_if_success (with_reducible refine at_while ?_)); (fail_if_success (with_reducible refine at_while1 ?_)); (conv => whnf); first | ((with_reducible refine And.intro ?_ ?_); focus (first | (first | ((with_reducible show (_ : Nat) ≤ _); first | exact sz0 | exact sz1 | exact sz2 | exact sz3 | exact sz4 | exact sz5 | exact sz6 | exact sz7 | exact sz8 | exact sz10 | exact sz11 | exact sz12 | exact sz14 | omega | decide | (simp only [List.length_cons, List.length_nil]; omega)) | ((with_reducible show (_ : Int) ≤ _); first | omega | decide) | ((with_reducible show (_ : Int) < _); first | omega | decide) | ((with_reducible show (_ : Nat) < _); omega)) | ((fail_if_success (with_reducible show (_ : Nat) ≤ _)); (fail_if_success (with_reducible show (_ : Int) ≤ _)); (fail_if_success (with_reducible show (_ : Int) < _)); (fail_if_success (with_reducible show (_ : Nat) < _)); first | exact kv_str _ | exact kv_int _ | rfl | assumption | exact flat_strs _ | exact Lv.get (by assumption) 0 rfl | exact Lv.get (by assumption) 1 rfl | exact Lv.get (by assumption) 2 rfl | exact Lv.get (by assumption) 3 rfl | exact Lv.get (by assumption) 4 rfl | exact Lv.get (by assumption) 5 rfl | exact Lv.get (by assumption) 6 rfl | exact SqL.of (Lv.get (by assumption) 0 rfl) | exact SqL.of (Lv.get (by assumption) 1 rfl) | exact SqL.of (Lv.get (by assumption) 2 rfl) | exact SqL.of (Lv.get (by assumption) 3 rfl) | exact SqL.of (Lv.get (by assumption) 4 rfl) | exact SqL.of (Lv.get (by assumption) 5 rfl) | exact Or.inl (SqL.of (Lv.get (by assumption) 0 rfl)) | exact Or.inl (SqL.of (Lv.get (by assumption) 1 rfl)) | exact Or.inl (SqL.of (Lv.get (by assumption) 2 rfl)) | exact Or.inl (SqL.of (Lv.get (by assumption) 3 rfl)) | exact Or.inl (SqL.of (Lv.get (by assumption) 4 rfl)) | exact Or.inl (SqL.of (Lv.get (by assumption) 5 rfl)) | exact ⟨_, SqL.of (Lv.get (by assumption) 0 rfl)⟩ | exact ⟨_, SqL.of (Lv.get (by assumption) 1 rfl)⟩ | exact ⟨_, SqL.of (Lv.get (by assumption) 2 rfl)⟩ | exact ⟨_, SqL.of (Lv.get (by assumption) 3 rfl)⟩ | exact ⟨_, SqL.of (Lv.get (by assumption) 4 rfl)⟩ | exact ⟨_, SqL.of (Lv.get (by assumption) 5 rfl)⟩ | exact Or.inl ⟨_, SqL.of (Lv.get (by assumption) 0 rfl), rfl⟩ | exact Or.inl ⟨_, SqL.of (Lv.get (by assumption) 1 rfl), rfl⟩ | exact Or.inl ⟨_, SqL.of (Lv.get (by assumption) 2 rfl), rfl⟩ | exact Or.inl ⟨_, SqL.of (Lv.get (by assumption) 3 rfl), rfl⟩ | exact Or.inl ⟨_, SqL.of (Lv.get (by assumption) 4 rfl), rfl⟩ | exact Or.inl ⟨_, SqL.of (Lv.get (by assumption) 5 rfl), rfl⟩ | exact Or.inl ⟨rfl, _, SqL.of (Lv.get (by assumption) 0 rfl)⟩ | exact Or.inl ⟨rfl, _, SqL.of (Lv.get (by assumption) 1 rfl)⟩ | exact Or.inl ⟨rfl, _, SqL.of (Lv.get (by assumption) 2 rfl)⟩ | exact Or.inl ⟨rfl, _, SqL.of (Lv.get (by assumption) 3 rfl)⟩ | exact Or.inl ⟨rfl, _, SqL.of (Lv.get (by assumption) 4 rfl)⟩ | exact Or.inl ⟨rfl, _, SqL.of (Lv.get (by assumption) 5 rfl)⟩ | exact Or.inr (SqT.of (Lv.get (by assumption) 0 rfl)) | exact Or.inr (SqT.of (Lv.get (by assumption) 1 rfl)) | exact Or.inr (SqT.of (Lv.get (by assumption) 2 rfl)) | exact Or.inr (SqT.of (Lv.get (by assumption) 3 rfl)) | exact SqT.of (Lv.get (by assumption) 0 rfl) | exact SqT.of (Lv.get (by assumption) 1 rfl) | exact SqT.of (Lv.get (by assumption) 2 rfl) | exact dgetN (Lv.get (by assumption) 0 rfl) (by assumption) | exact dgetN (Lv.get (by assumption) 1 rfl) (by assumption) | exact dgetN (Lv.get (by assumption) 2 rfl) (by assumption) | exact dgetN (Lv.get (by assumption) 3 rfl) (by assumption) | exact dgetN (Lv.get (by assumption) 4 rfl) (by assumption) | exact Or.inl (by assumption) | exact Or.inr (by assumption) | decide | ((with_reducible show _ ∧ _); omega)))) | ((fail_if_success (with_reducible apply @Exists.intro (Nat → _))); (with_reducible apply Exists.intro))))
local macro_rules
  | `(tactic| wide_line with al $lv:ident $l:ident $nl:ident $H:ident $lv1:ident $s1:ident) => `(tactic| (intro $l:ident $nl:ident; generalize he : upd _ _ _ = $H:ident; have $lv1:ident := Lv.alE $lv $nl he; have $s1:ident := sameE $nl he; clear he; (try simp only [List.set_cons_zero, List.set_cons_succ] at $lv1:ident)))
  | `(tactic| wide_line with alx $lv:ident $nl:ident $H:ident $lv1:ident $s1:ident) => `(tactic| (generalize he : upd _ _ _ = $H:ident; have $lv1:ident := Lv.alE $lv $nl he; have $s1:ident := sameE $nl he; clear he; (try simp only [List.set_cons_zero, List.set_cons_succ] at $lv1:ident)))
  | `(tactic| wide_line with sts $lv:ident $i:num $H:ident $lv1:ident $s0:ident $np:ident $s1:ident) => `(tactic| (generalize he : upd _ _ _ = $H:ident; have $lv1:ident := Lv.stE $lv $i rfl he; have $s1:ident := sameN $s0 $np he; clear he; (try simp only [List.set_cons_zero, List.set_cons_succ] at $lv1:ident)))
  | `(tactic| wide_line with stx $lv:ident $H:ident $lv1:ident $d1:ident) => `(tactic| (generalize he : upd _ _ _ = $H:ident; have $lv1:ident := Lv.stE $lv 0 rfl he; have $d1:ident := SameD.storeE (Lv.get $lv 0 rfl) he; clear he; (try simp only [List.set_cons_zero, List.set_cons_succ] at $lv1:ident)))
  | `(tactic| wide_line with st $lv:ident $i:num $H:ident $lv1:ident) => `(tactic| (generalize he : upd _ _ _ = $H:ident; have $lv1:ident := Lv.stE $lv $i rfl he; clear he; (try simp only [List.set_cons_zero, List.set_cons_succ] at $lv1:ident)))
  | `(tactic| wide_line with stk $lv:ident $i:num $H:ident $lv1:ident $k1:ident) => `(tactic| (generalize he : upd _ _ _ = $H:ident; have $lv1:ident := Lv.stE $lv $i rfl he; have $k1:ident := KeepT.st (Lv.get $lv $i rfl) he; clear he; (try simp only [List.set_cons_zero, List.set_cons_succ] at $lv1:ident)))
theorem str_ext' {x y : Str} (h : x.cps.toList = y.cps.toList) : x = y := by
  obtain ⟨⟨a⟩⟩ := x
  obtain ⟨⟨b⟩⟩ := y
  exact congrArg (fun l => (⟨⟨l⟩⟩ : Str)) h
theorem same_lines {K : PySem.W.Frag} {C : Addr} {H H' : Hp} {x : Addr} {ns : List Str} {ts : List (Str × Str)} (s : Same H H') (h : WebAt K C H x ns ts) : WebAt K C H' x ns ts := WebAt.same s h
theorem name_len8 {x : Str} (h : okName x = true) : x.length ≤ 8 := by
  unfold okName at h
  simp only [Bool.and_eq_true, decide_eq_true_eq] at h
  omega
theorem txt_join (a : Str) (l : List Str) : Txt.join a l = Str.join a l := eq_of_beq (join_plain_closes a l)
theorem lineP_eq (q : Str) : (Str.empty ++ ("place " : Str)) ++ q = lineP q := by
  unfold lineP
  show _ = (("place" : Str) ++ SP) ++ q
  rfl
theorem lineT_eq (a b : Str) : (((Str.empty ++ ("tie " : Str)) ++ a) ++ (" " : Str)) ++ b = lineT (a, b) := by
  unfold lineT
  show _ = (("tie" : Str) ++ SP) ++ ((a ++ SP) ++ b)
  rw [show Str.empty ++ ("tie " : Str) = ("tie" : Str) ++ SP from rfl, Str.append_assoc (("tie" : Str) ++ SP) a, Str.append_assoc (("tie" : Str) ++ SP)]
theorem sum_le {m : Nat} : ∀ {l : List Str}, (∀ z ∈ l, z.length ≤ m) → (l.map (·.length)).sum ≤ l.length * m
  | [], _ => Nat.zero_le _
  | x :: l, h => by
    have := sum_le fun z hz => h z (List.mem_cons_of_mem _ hz)
    have := h x List.mem_cons_self
    rw [List.map_cons, List.sum_cons, List.length_cons, Nat.succ_mul]
    omega
/-- web_text(web) -/
def spWebText (K : PySem.W.Frag) (C : Addr) : Sp := fun vs H Q _ => ∃ (x : Addr) (n : Nat) (ns : List Str) (ts : List (Str × Str)), vs = [.ref x] ∧ WebAt K C H x ns ts ∧ PlanOk n ns ts ∧ n ≤ 12 ∧ ∀ H', Same H H' → Q (.str (textOf ns ts)) H'
section
variable {P : Program} {w : World} {K : PySem.W.Frag} {mg : Str → Option Value} {base : Heap} {C : Addr}
abbrev sWebText : Stmt := top ix_web_text
theorem scWebText : FnScope ["web", "lines", "place", "one", "other"] ["web"] (defScope sWebText) := ⟨rfl, rfl, rfl, by decide +kernel, rfl, by decide +kernel, by decide +kernel⟩
theorem has_web_text (T : Bn mg) (X : WC K C) (D : DFE K mg "web_text" sWebText ["web"]) (hP_places : HasP P w K mg base 1 C "places" (getSp C "_places")) (hP_ties : HasP P w K mg base 1 C "ties" (getSp C "_ties")) : Has P w K mg base CX0 3 "web_text" ["web"] (spWebText K C) := by
  refine has_of D scWebText (fun vs H Q E h => ?_) (fun f cdv A outer s H vs Q E hr h => ?_)
  · obtain ⟨x, n, ns, ts, rfl, _⟩ := h; rfl
  · obtain ⟨x, n, ns, ts, rfl, hw, pk, hn, k⟩ := h
    have nd := scWebText.nd
    refine ⟨_, (pss_cons (ps_sv 1 nd (pe_op op_cat (pe_lc (own := [("place", 2)]) (g := gName 2) (tt := tYes) rfl nd (pi_sq (pe_hP hP_places X.cls hr (by decide) (pv 0))) (blkOk_by (own := [("place", 2)]) (N := ["web", "lines", "place", "one", "other"]) (sc := defScope sWebText) (by decide +kernel)) (fun _ _ _ _ _ => (pg_name (i := 2) nd rfl (by first | exact Or.inl rfl | exact Or.inr rfl))) (fun _ _ _ _ _ => pts_nil) (fun _ _ _ _ _ => (pe_jd (.cons pe_str (.cons (pe_fmt (pv 2)) .nil))))) (pe_lc (own := [("one", 3), ("other", 4)]) (g := _) (tt := tYes) rfl nd (pi_sq (pe_hP hP_ties X.cls hr (by decide) (pv 0))) (blkOk_by (own := [("one", 3), ("other", 4)]) (N := ["web", "lines", "place", "one", "other"]) (sc := defScope sWebText) (by decide +kernel)) (fun _ _ _ _ _ => (pg_tupk (K := K) (n := 2) rfl rfl (pgs_cons (pg_name (i := 3) nd rfl (by first | exact Or.inl rfl | exact Or.inr rfl)) (pgs_cons (pg_name (i := 4) nd rfl (by first | exact Or.inl rfl | exact Or.inr rfl)) pgs_nil)))) (fun _ _ _ _ _ => pts_nil) (fun _ _ _ _ _ => (pe_jd (.cons pe_str (.cons (pe_fmt (pv 3)) (.cons pe_str (.cons (pe_fmt (pv 4)) .nil)))))))))
    (pss_one (ps_ret (pe_join pe_str (pv 1))))), ?_⟩
    obtain ⟨⟨dx, tp, ttw, sg, sn, sp, sq, rk, txs, hx, htp, htt, hts, _⟩⟩ := id hw
    have nl : ns.length ≤ 12 := Nat.le_trans pk.most hn
    have tl : ts.length ≤ 75 := pk.few
    have nlen : ∀ q ∈ ns, q.length ≤ 8 := fun q hq => name_len8 (pk.nm q hq)
    refine ⟨_, rfl, x, dx, _, rfl, hx, x, dx, _, _, rfl, hx, rfl, tp, ns.map V.str, rfl, .inr htp, ?_⟩
    intro J G ex hG wk L nL
    refine lc_it wk (fun i H' => Hold (Lv H [] H' [(L, .lst (((ns.take i).map lineP).map V.str))])) ⟨(Lv.zero H).al nL⟩ (fun i H' _ ⟨z⟩ => hG H' (SqKeep.of (.inr htp) (.refl _) z.sm ex)) ?_ ?_
    · rintro i v H1 H2 hi ⟨lv⟩ ⟨rfl, hxi⟩
      obtain ⟨q, hq, rfl⟩ := str_at hxi
      have tk : ns.take (i + 1) = ns.take i ++ [q] := take_next2 hq
      have lq := nlen q (List.mem_of_getElem? hq)
      have i12 := (List.getElem?_eq_some_iff.mp hq).1
      have e6 : (("place " : String) : Str).length = 6 := rfl
      have e0 : Str.empty.length = 0 := rfl
      refine ⟨rfl, "place ", rfl, by rw [strLen_append, e6, e0, sizeLine_eq]; omega, _, rfl, .inl ⟨q, rfl, by rw [sizeLine_eq]; omega, q, rfl, by rw [strLen_append, strLen_append, e6, e0, sizeLine_eq]; omega, ?_⟩⟩
      rw [lineP_eq]
      refine ⟨_, lv.get 0 rfl, by rw [List.length_map, List.length_map, List.length_take, sizeLine_eq]; omega, ?_⟩
      rw [tk, List.map_append, List.map_append]
      exact ⟨lv.stE 0 rfl rfl⟩
    · rintro H1 ⟨lv⟩
      rw [List.length_map, List.take_length] at lv
      have hx1 := lv.sm _ _ hx
      have htt1 := same_t lv.sm htt
      have xl := paired_len hts
      refine ⟨_, rfl, x, dx, _, rfl, hx1, x, dx, _, _, rfl, hx1, rfl, ttw, txs, rfl, .inr htt1, ?_⟩
      intro J2 G2 ex2 hG2 wk2 L2 nL2
      refine lc_it wk2 (fun i H' => Hold (Lv H [] H' [(L2, .lst (((ts.take i).map lineT).map V.str)), (L, .lst ((ns.map lineP).map V.str))] ∧ Same H1 H')) ⟨lv.al nL2, same_new nL2⟩ (fun i H' _ ⟨z, z2⟩ => hG2 H' (SqKeep.of (.inr htt1) (.refl _) z2 ex2)) ?_ ?_
      · rintro i v H2 H3 hi ⟨lv2, s2⟩ ⟨rfl, hxi⟩
        obtain ⟨u, hu, b, rfl, hb⟩ := paired_at hts hxi
        have tk : ts.take (i + 1) = ts.take i ++ [u] := take_next2 hu
        obtain ⟨m1, m2, _⟩ := pk.tie u (List.mem_of_getElem? hu)
        have l1 := nlen _ m1
        have l2 := nlen _ m2
        have i75 := (List.getElem?_eq_some_iff.mp hu).1
        have hb3 := same_t lv2.sm hb
        have e4 : (("tie " : String) : Str).length = 4 := rfl
        have e1 : ((" " : String) : Str).length = 1 := rfl
        have e0 : Str.empty.length = 0 := rfl
        refine ⟨b, _, rfl, hb3, rfl, _, _, rfl, _, _, rfl, rfl, ?_⟩
        refine ⟨rfl, "tie ", rfl, by rw [strLen_append, e4, e0, sizeLine_eq]; omega, _, rfl, .inl ⟨u.1, rfl, by rw [sizeLine_eq]; omega, u.1, rfl, by rw [strLen_append, strLen_append, e4, e0, sizeLine_eq]; omega, " ", rfl, by rw [strLen_append, strLen_append, strLen_append, e4, e1, e0, sizeLine_eq]; omega, _, rfl, .inl ⟨u.2, rfl, by rw [sizeLine_eq]; omega, u.2, rfl, by rw [strLen_append, strLen_append, strLen_append, strLen_append, e4, e1, e0, sizeLine_eq]; omega, ?_⟩⟩⟩
        rw [lineT_eq]
        refine ⟨_, lv2.get 0 rfl, by rw [List.length_map, List.length_map, List.length_take, sizeLine_eq]; omega, ?_⟩
        rw [tk, List.map_append, List.map_append]
        exact ⟨lv2.stE 0 rfl rfl, same_upd s2 nL2⟩
      · rintro H2 ⟨lv2, s2⟩
        rw [xl, List.take_length] at lv2
        refine ⟨L, L2, _, _, rfl, rfl, lv2.get 1 rfl, lv2.get 0 rfl, by rw [List.length_map, List.length_map, List.length_map, List.length_map, sizeLine_eq]; omega, fun l3 n3 => ?_⟩
        wide_line with alx lv2 n3 H3 lv3 s3
        rw [← List.map_append] at lv3
        have bd : ∀ z ∈ ns.map lineP ++ ts.map lineT, z.length ≤ 30 := fun z hz => by
          rcases List.mem_append.mp hz with hz | hz
          · obtain ⟨q, hq, rfl⟩ := List.mem_map.mp hz
            have := nlen q hq
            have e6 : (("place " : String) : Str).length = 6 := rfl
            have e0 : Str.empty.length = 0 := rfl
            rw [← lineP_eq, strLen_append, strLen_append, e6, e0]
            omega
          · obtain ⟨u, hu, rfl⟩ := List.mem_map.mp hz
            obtain ⟨m1, m2, _⟩ := pk.tie u hu
            have l1 := nlen _ m1
            have l2 := nlen _ m2
            have e4 : (("tie " : String) : Str).length = 4 := rfl
            have e1 : ((" " : String) : Str).length = 1 := rfl
            have e0 : Str.empty.length = 0 := rfl
            rw [show lineT u = lineT (u.1, u.2) from rfl, ← lineT_eq, strLen_append, strLen_append, strLen_append, strLen_append, e4, e1, e0]
            omega
        have le : (ns.map lineP ++ ts.map lineT).length ≤ 87 := by rw [List.length_append, List.length_map, List.length_map]; omega
        have sm_ := sum_le bd
        refine ⟨⟨_, rfl⟩, _, rfl, "\n", l3, _, rfl, rfl, .inl (SqL.of (lv3.get 0 rfl)), ?_, ?_⟩
        · have e1 : (("\n" : String) : Str).length = 1 := rfl
          rw [e1]
          omega
        · rw [txt_join]
          exact k H3 lv3.sm
end
end Pw

set_option Elab.async false
set_option linter.all false
set_option maxRecDepth 100000
set_option maxHeartbeats 4000000
namespace Pw
open PySem PySem.Spec PyProof.Rows L2 Ct
local macro_rules | `(tactic| wide_line) => `(tactic| repeat ((fail_if_success (with_reducible refine at_while ?_)); (fail_if_success (with_reducible refine at_while1 ?_)); (conv => whnf); first | ((with_reducible refine And.intro ?_ ?_); focus (first | (first | ((with_reducible show (_ : Nat) ≤ _); first | exact sz0 | exact sz1 | exact sz2 | exact sz3 | exact sz4 | exact sz5 | exact sz6 | exact sz7 | exact sz8 | exact sz10 | exact sz11 | exact sz12 | exact sz14 | omega | decide | (simp only [List.length_cons, List.length_nil]; omega)) | ((with_reducible show (_ : Int) ≤ _); first | omega | decide) | ((with_reducible show (_ : Int) < _); first | omega | decide) | ((with_reducible show (_ : Nat) < _); omega)) | ((fail_if_success (with_reducible show (_ : Nat) ≤ _)); (fail_if_success (with_reducible show (_ : Int) ≤ _)); (fail_if_success (with_reducible show (_ : Int) < _)); (fail_if_success (with_reducible show (_ : Nat) < _)); first | exact kv_str _ | exact kv_int _ | rfl | assumption | exact flat_strs _ | exact Lv.get (by assumption) 0 rfl | exact Lv.get (by assumption) 1 rfl | exact Lv.get (by assumption) 2 rfl | exact Lv.get (by assumption) 3 rfl | exact Lv.get (by assumption) 4 rfl | exact Lv.get (by assumption) 5 rfl | exact Lv.get (by assumption) 6 rfl | exact SqL.of (Lv.get (by assumption) 0 rfl) | exact SqL.of (Lv.get (by assumption) 1 rfl) | exact SqL.of (Lv.get (by assumption) 2 rfl) | exact SqL.of (Lv.get (by assumption) 3 rfl) | exact SqL.of (Lv.get (by assumption) 4 rfl) | exact SqL.of (Lv.get (by assumption) 5 rfl) | exact Or.inl (SqL.of (Lv.get (by assumption) 0 rfl)) | exact Or.inl (SqL.of (Lv.get (by assumption) 1 rfl)) | exact Or.inl (SqL.of (Lv.get (by assumption) 2 rfl)) | exact Or.inl (SqL.of (Lv.get (by assumption) 3 rfl)) | exact Or.inl (SqL.of (Lv.get (by assumption) 4 rfl)) | exact Or.inl (SqL.of (Lv.get (by assumption) 5 rfl)) | exact ⟨_, SqL.of (Lv.get (by assumption) 0 rfl)⟩ | exact ⟨_, SqL.of (Lv.get (by assumption) 1 rfl)⟩ | exact ⟨_, SqL.of (Lv.get (by assumption) 2 rfl)⟩ | exact ⟨_, SqL.of (Lv.get (by assumption) 3 rfl)⟩ | exact ⟨_, SqL.of (Lv.get (by assumption) 4 rfl)⟩ | exact ⟨_, SqL.of (Lv.get (by assumption) 5 rfl)⟩ | exact Or.inl ⟨_, SqL.of (Lv.get (by assumption) 0 rfl), rfl⟩ | exact Or.inl ⟨_, SqL.of (Lv.get (by assumption) 1 rfl), rfl⟩ | exact Or.inl ⟨_, SqL.of (Lv.get (by assumption) 2 rfl), rfl⟩ | exact Or.inl ⟨_, SqL.of (Lv.get (by assumption) 3 rfl), rfl⟩ | exact Or.inl ⟨_, SqL.of (Lv.get (by assumption) 4 rfl), rfl⟩ | exact Or.inl ⟨_, SqL.of (Lv.get (by assumption) 5 rfl), rfl⟩ | exact Or.inl ⟨rfl, _, SqL.of (Lv.get (by assumption) 0 rfl)⟩ | exact Or.inl ⟨rfl, _, SqL.of (Lv.get (by assumption) 1 rfl)⟩ | exact Or.inl ⟨rfl, _, SqL.of (Lv.get (by assumption) 2 rfl)⟩ | exact Or.inl ⟨rfl, _, SqL.of (Lv.get (by assumption) 3 rfl)⟩ | exact Or.inl ⟨rfl, _, SqL.of (Lv.get (by assumption) 4 rfl)⟩ | exact Or.inl ⟨rfl, _, SqL.of (Lv.get (by assumption) 5 rfl)⟩ | exact Or.inr (SqT.of (Lv.get (by assumption) 0 rfl)) | exact Or.inr (SqT.of (Lv.get (by assumption) 1 rfl)) | exact Or.inr (SqT.of (Lv.get (by assumption) 2 rfl)) | exact Or.inr (SqT.of (Lv.get (by assumption) 3 rfl)) | exact SqT.of (Lv.get (by assumption) 0 rfl) | exact SqT.of (Lv.get (by assumption) 1 rfl) | exact SqT.of (Lv.get (by assumption) 2 rfl) | exact dgetN (Lv.get (by assumption) 0 rfl) (by assumption) | exact dgetN (Lv.get (by assumption) 1 rfl) (by assumption) | exact dgetN (Lv.get (by assumption) 2 rfl) (by assumption) | exact dgetN (Lv.get (by assumption) 3 rfl) (by assumption) | exact dgetN (Lv.get (by assumption) 4 rfl) (by assumption) | exact Or.inl (by assumption) | exact Or.inr (by assumption) | decide | ((with_reducible show _ ∧ _); omega)))) | ((fail_if_success (with_reducible apply @Exists.intro (Nat → _))); (with_reducible apply Exists.intro))))
local macro_rules
  | `(tactic| wide_line with al $lv:ident $l:ident $nl:ident $H:ident $lv1:ident $s1:ident) => `(tactic| (intro $l:ident $nl:ident; generalize he : upd _ _ _ = $H:ident; have $lv1:ident := Lv.alE $lv $nl he; have $s1:ident := sameE $nl he; clear he; (try dsimp only at $lv1:ident)))
  | `(tactic| wide_line with alx $lv:ident $nl:ident $H:ident $lv1:ident $s1:ident) => `(tactic| (generalize he : upd _ _ _ = $H:ident; have $lv1:ident := Lv.alE $lv $nl he; have $s1:ident := sameE $nl he; clear he; (try dsimp only at $lv1:ident)))
  | `(tactic| wide_line with sts $lv:ident $i:num $H:ident $lv1:ident $s0:ident $np:ident $s1:ident) => `(tactic| (generalize he : upd _ _ _ = $H:ident; have $lv1:ident := Lv.stE $lv $i rfl he; have $s1:ident := sameN $s0 $np he; clear he; (try dsimp only at $lv1:ident)))
  | `(tactic| wide_line with stx $lv:ident $H:ident $lv1:ident $d1:ident) => `(tactic| (generalize he : upd _ _ _ = $H:ident; have $lv1:ident := Lv.stE $lv 0 rfl he; have $d1:ident := SameD.storeE (Lv.get $lv 0 rfl) he; clear he; (try dsimp only at $lv1:ident)))
  | `(tactic| wide_line with st $lv:ident $i:num $H:ident $lv1:ident) => `(tactic| (generalize he : upd _ _ _ = $H:ident; have $lv1:ident := Lv.stE $lv $i rfl he; clear he; (try dsimp only at $lv1:ident)))
  | `(tactic| wide_line with stk $lv:ident $i:num $H:ident $lv1:ident $k1:ident) => `(tactic| (generalize he : upd _ _ _ = $H:ident; have $lv1:ident := Lv.stE $lv $i rfl he; have $k1:ident := KeepT.st (Lv.get $lv $i rfl) he; clear he; (try dsimp only at $lv1:ident)))
/-- o.m(e, ..), nothing raised -/
theorem pe_hML {X : Cx} {k j : Nat} {C : Addr} {m : Str} {ps : List Str} {sp : Sp} {o e : Expr} {es : List Expr} {apos pos : Pos} {ta : TE} {t : TA} {pl : Sem Bool} (h : HasM X.prog X.w X.K X.mg X.base (L2.CX X.prog X.w) j C m ps sp) (c : Cls X.K C) (hr : Room k X.A) (l : j ≤ k) (ho : PE X o ta) (ha : PA X (e :: es) t)
    (hst : starEach (e :: es) X.env = (false, eval e X.env) :: starEach es X.env := by rfl) (hpl : (backTo pos (starEach es X.env)).any (·.1) = false := by rfl)
    (ht : eval (.Call (.Attribute o m apos) (e :: es) [] pos) X.env = (do
      let ov ← eval o X.env
      standAt apos.atName
      let (f, first) ← holding [ov] (getMethod ov m pl)
      callWith pos f first (backTo pos (starEach (e :: es) X.env)) (backToKw pos (keywordEach [] X.env))) := by rfl) : PE X (.Call (.Attribute o m apos) (e :: es) [] pos) (tMeth C m sp [] E0 ta t) := by
  obtain ⟨f, fd, hm, b, F⟩ := h
  exact pe_meth ho c hm F (hr.mono l) b .nil passL ha hst hpl ht
theorem tiesAt_of {K : PySem.W.Frag} {H : Hp} : ∀ {xs : List V} {ts : List (Str × Str)}, TiesT H xs ts → TiesAt K H xs ts
  | _, _, .nil => .nil
  | _, _, .cons ⟨a, e, h⟩ t => .cons ⟨a, e, SqT.of h⟩ (tiesAt_of t)
/-- what is left without some names -/
def lessN (ns g : List Str) : List Str := ns.filter fun p => !decide (p ∈ g)
def lessT (ns : List Str) (ts : List (Str × Str)) (g : List Str) : List (Str × Str) := ts.filter fun t => decide (t.1 ∈ lessN ns g) && decide (t.2 ∈ lessN ns g)
/-- some, but not all names -/
def spareOf (ns : List Str) (d : PyData) : Bool := placesIn ns d && (match d with | .list ds => !decide (ds.length = ns.length) | _ => false)
theorem less_ok {n : Nat} {ns : List Str} {ts : List (Str × Str)} (h : PlanOk n ns ts) {g : List Str} (gn : g.Nodup) (gi : ∀ q ∈ g, q ∈ ns) (gl : g.length ≠ ns.length) : PlanOk n (lessN ns g) (lessT ns ts g) where
  one := by
    rcases Nat.eq_zero_or_pos (lessN ns g).length with z | z
    · exfalso
      have all : ∀ q ∈ ns, q ∈ g := fun q hq => by
        rcases Classical.em (q ∈ g) with y | y
        · exact y
        · have : q ∈ lessN ns g := List.mem_filter.mpr ⟨hq, by rw [decide_eq_false y]; rfl⟩
          rw [List.eq_nil_of_length_eq_zero z] at this
          cases this
      have a := nodup_len h.nd all
      have b := nodup_len gn gi
      omega
    · exact z
  most := Nat.le_trans (List.length_filter_le _ _) h.most
  nd := h.nd.sublist List.filter_sublist
  nm := fun x hx => h.nm x (List.mem_filter.mp hx).1
  tie := fun t ht => by
    obtain ⟨h1, h2⟩ := List.mem_filter.mp ht
    rw [Bool.and_eq_true, decide_eq_true_eq, decide_eq_true_eq] at h2
    exact ⟨h2.1, h2.2, (h.tie t h1).2.2⟩
  dif := h.dif.sublist (List.filter_sublist.map pairP)
  few := Nat.le_trans (List.length_filter_le _ _) h.few
/-- web.without(value) -/
def spWithout (K : PySem.W.Frag) (C CP : Addr) : Sp := fun vs H Q E => ∃ (x : Addr) (v : V) (n : Nat) (ns : List Str) (ts : List (Str × Str)) (d : PyData), vs = [.ref x, v] ∧ WebAt K C H x ns ts ∧ PlanOk n ns ts ∧ n ≤ 12 ∧ Dq K H v d ∧ (∀ ds, d = .list ds → ds.length ≤ 4000) ∧
  (spareOf ns d = false → Raised CP "value" H v E) ∧ ∀ ds, d = .list ds → spareOf ns d = true → ∀ y H', Same H H' → H y = none → FreshW K C H H' y (lessN ns (strsD ds)) (lessT ns ts (strsD ds)) → Q (.ref y) H'
section
variable {P : Program} {w : World} {K : PySem.W.Frag} {mg : Str → Option Value} {base : Heap} {C CP CS CT fa : Addr} {fd : FuncData}
abbrev sWithout : Stmt := inClass (top ix_Web) mx_Web_without
theorem scWithout : FnScope ["self", "places", "kept", "place", "one", "other"] ["self", "places"] (defScope sWithout) := ⟨rfl, rfl, rfl, by decide +kernel, rfl, by decide +kernel, by decide +kernel⟩
theorem ok_without (T : Bn mg) (X : WC K C) (F : Fun K "without" "Web.without" sWithout fa fd) (h_are_places : Has P w K mg base CX0 4 "are_places" ["web", "value"] (spArePlaces K C)) (hE_BadPlaces : HasE P w K mg base 1 "BadPlaces" CP "value") (hW : HasW P w K mg base 4 C CP CS CT) : FnOk P w K mg base (L2.CX P w) 6 fa fd ["self", "places"] (spWithout K C CP) := by
  refine F.okX scWithout (fun vs H Q E h => ?_) (fun cdv A outer s H vs Q E hr h => ?_)
  · obtain ⟨x, v, n, ns, ts, d, rfl, _⟩ := h; rfl
  · obtain ⟨x, v, n, ns, ts, d, rfl, hw, pk, hn, hd, nodic, kb, kg⟩ := h
    have nd := scWithout.nd
    refine ⟨_, (pss_cons (ps_if (PW.pt (pw_or (pt_not (pt_val (pe_h h_are_places hr (by decide) rfl (pa_cons (pv 0) (pa_cons (pv 1) pa_nil))))) (pw_or1 (pt_cmpR op_eq (pe_callB call_len (by rfl) T.z_len (by decide +kernel) (pa_cons (pv 1) pa_nil)) (pe_callB call_len (by rfl) T.z_len (by decide +kernel) (pa_cons (pe_fld (pv 0) rfl) pa_nil)) (by first | exact nomark _ | rfl))))) (pss_one (ps_raise rfl (takes_of rfl rfl rfl rfl) (pmk_x hE_BadPlaces hr (by decide) rfl (pv 1)))) pss_nil)
    (pss_cons (ps_sv 2 nd (pe_lc (own := [("place", 3)]) (g := gName 3) rfl nd (pi_sq (pe_fld (pv 0) rfl)) (blkOk_by (own := [("place", 3)]) (N := ["self", "places", "kept", "place", "one", "other"]) (sc := defScope sWithout) (by decide +kernel)) (fun _ _ _ _ _ => (pg_name (i := 3) nd rfl (by first | exact Or.inl rfl | exact Or.inr rfl))) (fun _ _ _ _ _ => (pts_one (pt_cmpR (op_notIn_seqk (K := K) rfl) (pv 3) (pv 1) (by first | exact nomark _ | rfl)))) (fun _ _ _ _ _ => (pv 3))))
    (pss_one (ps_ret (pe_web hW hr (by decide) rfl (pa_cons (pv 2) (pa_cons (pe_lc (own := [("one", 4), ("other", 5)]) (g := _) rfl nd (pi_sq (pe_fld (pv 0) rfl)) (blkOk_by (own := [("one", 4), ("other", 5)]) (N := ["self", "places", "kept", "place", "one", "other"]) (sc := defScope sWithout) (by decide +kernel)) (fun _ _ _ _ _ => (pg_tupk (K := K) (n := 2) rfl rfl (pgs_cons (pg_name (i := 4) nd rfl (by first | exact Or.inl rfl | exact Or.inr rfl)) (pgs_cons (pg_name (i := 5) nd rfl (by first | exact Or.inl rfl | exact Or.inr rfl)) pgs_nil)))) (fun _ _ _ _ _ => (pts_one (PW.pt (pw_and (pt_cmpR (op_in_seqk (K := K) rfl) (pv 4) (pv 2) (by first | exact nomark _ | rfl)) (pw_and1 (pt_cmpR (op_in_seqk (K := K) rfl) (pv 5) (pv 2) (by first | exact nomark _ | rfl))))))) (fun _ _ _ _ _ => (pe_tup (pa_cons (pv 4) (pa_cons (pv 5) pa_nil))))) pa_nil))))))), ?_⟩
    have bad : ∀ H1, Same H H1 → spareOf ns d = false → Raised CP "value" H1 v E := fun H1 s1 c e H' s he hH => kb c e H' (s1.trans s) (free_of s1 he) hH
    have c1 := X.cls
    obtain ⟨_, n1, n2, _⟩ := id X
    refine ifs_to (fun b H' => Same H H' ∧ b = !spareOf ns d) (fun Q hQ => ?_) (fun H1 h1 => ?_) (fun H1 h1 => ?_)
    · wide_line
      intro H1 s1
      wide_line
      cases c : placesIn ns d with
      | false => exact iteT (hQ _ _ ⟨s1, by unfold spareOf; rw [c]; rfl⟩)
      | true =>
        cases hd with
        | @lst a xs ds hs ha =>
          have c0 : (ds.all (fun d => amid d ns) && decide (strsD ds).Nodup) = true := c
          rw [Bool.and_eq_true] at c0
          obtain ⟨e1, e2, e3⟩ := amids_of ha c0.1
          subst e1
          obtain ⟨⟨dx, tp, tt, sg, sn, sp, sq, rk, txs, hx, htp, htt, hts, _⟩⟩ := hw.same s1
          have hs1 : SqL K H1 a ((strsD ds).map V.str) := s1.seq hs
          have la : LenV K (.ref a) H1 (strsD ds).length := .inl ⟨_, hs1, by rw [List.length_map]⟩
          have lb : LenV K (.ref tp) H1 ns.length := .inr ⟨_, htp, by rw [List.length_map]⟩
          refine iteF ?_
          wide_line
          refine hQ _ _ ⟨s1, ?_⟩
          unfold spareOf
          rw [c]
          show decide (V.int ((strsD ds).length : Nat) = V.int (ns.length : Nat)) = !(true && !decide (ds.length = ns.length))
          rw [Bool.true_and, Bool.not_not]
          refine decide_eq_decide.mpr ⟨fun z => ?_, fun z => by rw [e2, z]⟩
          injection z with z
          omega
        | _ => cases c
    · wide_line
      intro e he
      have h2 := h1.2
      exact bad H1 h1.1 (by revert h2; cases spareOf ns d <;> intro h2 <;> first | rfl | cases h2) e _ (same_new he) he upd_same
    · obtain ⟨s1, eb⟩ := h1
      have sp1 : spareOf ns d = true := by revert eb; cases spareOf ns d <;> intro eb <;> first | rfl | cases eb
      have c : placesIn ns d = true := by
        unfold spareOf at sp1
        exact (Bool.and_eq_true_iff.mp sp1).1
      cases hd with
      | @lst a xs ds hs ha =>
        have c0 : (ds.all (fun d => amid d ns) && decide (strsD ds).Nodup) = true := c
        rw [Bool.and_eq_true] at c0
        obtain ⟨e1, e2, e3⟩ := amids_of ha c0.1
        subst e1
        have gne : (strsD ds).length ≠ ns.length := fun z => by
          unfold spareOf at sp1
          rw [c] at sp1
          have : (true && !decide (ds.length = ns.length)) = true := sp1
          rw [decide_eq_true (by omega)] at this
          cases this
        have pk2 := less_ok pk (of_decide_eq_true c0.2) e3 gne
        obtain ⟨⟨dx, tp, tt, sg, sn, sp, sq, rk, txs, hx, htp, htt, hts, _⟩⟩ := hw.same s1
        have hs1 : SqL K H1 a ((strsD ds).map V.str) := s1.seq hs
        have kg2 := kg ds rfl sp1
        generalize strsD ds = g at *
        have lv := Lv.zero H1
        wide_line
        intro J G ex hG wk L nL
        refine lc_it wk (fun i H' => Hold (Lv H1 [] H' [(L, .lst ((lessN (ns.take i) g).map V.str))])) ⟨lv.al nL⟩ (fun i H' _ z => hG H' (.same z.out.sm)) ?_ ?_
        · rintro i y H2 H3 hi ⟨lv2⟩ ⟨rfl, ex2⟩
          obtain ⟨p, hp, rfl⟩ := str_at ex2
          have hs2 : SqL K H3 a (g.map V.str) := lv2.sm.seq hs1
          wide_line
          rw [if_pos rfl, in_strs]
          wide_line
          have tk : lessN (ns.take (i + 1)) g = lessN (ns.take i) g ++ (if (!decide (p ∈ g)) = true then [p] else []) := by
            unfold lessN
            rw [take_next2 hp, List.filter_append, filter_one]
          refine ite2 (fun c3 => ?_) (fun c3 => ?_)
          · wide_line
            have l1 := List.length_filter_le (fun p => !decide (p ∈ g)) (ns.take i)
            have l2 := List.length_take_le i ns
            have l3 := (List.getElem?_eq_some_iff.mp hp).1
            have l4 := pk.most
            refine ⟨by rw [List.length_map, sizeLine_eq]; unfold lessN; omega, ?_⟩
            wide_line with st lv2 0 H4 lv4
            refine ⟨lv4.re ?_⟩
            rw [tk, if_pos c3, List.map_append]
            rfl
          · refine ⟨lv2.re ?_⟩
            rw [tk, if_neg c3, List.append_nil]
        · rintro H2 ⟨lv2⟩
          rw [List.length_map, List.take_length] at lv2
          have hx2 := lv2.sm _ _ hx
          have htt2 := same_t lv2.sm htt
          wide_line
          intro J2 G2 ex2 hG2 wk2 L2 nL2
          have xl : txs.length = ts.length := paired_len hts
          have hL2 := lv2.get 0 rfl
          have lvL := (Lv.zero H2).al (o := .lst []) nL2
          refine lc_it wk2 (fun i H' => Hold (∃ ys, Lv H2 [] H' [(L2, .lst ys)] ∧ TiesT H' ys (lessT ns (ts.take i) g))) ⟨[], lvL, .nil⟩ (fun i H' _ ⟨_, z, _⟩ => hG2 H' (.same z.sm)) ?_ ?_
          · rintro i y H3 H4 hi ⟨ys, lv3, tt3⟩ ⟨rfl, ex4⟩
            obtain ⟨t, b, ht, rfl, hb⟩ := ties_at ((hts.same lv2.sm).same lv3.sm) ex4
            have hLs : SqL K H4 L ((lessN ns g).map V.str) := SqL.of (lv3.sm _ _ hL2)
            have hb : SqT K H4 b [.str t.1, .str t.2] := hb
            have i7 : i < txs.length := hi
            have yl := paired_len tt3
            have l4 := pk.few
            have l5 := List.length_filter_le (fun t => decide (t.1 ∈ lessN ns g) && decide (t.2 ∈ lessN ns g)) (ts.take i)
            have l6 := List.length_take_le i ts
            have tk : lessT ns (ts.take (i + 1)) g = lessT ns (ts.take i) g ++ (if (decide (t.1 ∈ lessN ns g) && decide (t.2 ∈ lessN ns g)) = true then [t] else []) := by
              unfold lessT
              rw [take_next2 ht, List.filter_append]
              congr 1
              cases e : (decide (t.1 ∈ lessN ns g) && decide (t.2 ∈ lessN ns g)) <;> simp [List.filter, e]
            have skip : (decide (t.1 ∈ lessN ns g) && decide (t.2 ∈ lessN ns g)) = false → Hold (∃ ys, Lv H2 [] H4 [(L2, .lst ys)] ∧ TiesT H4 ys (lessT ns (ts.take (i + 1)) g)) := fun c => by
              rw [tk, if_neg (by rw [c]; decide), List.append_nil]
              exact ⟨ys, lv3, tt3⟩
            wide_line
            rw [if_neg (by decide), in_strs]
            wide_line
            refine ite2 (fun c3 => ?_) (fun c3 => ?_)
            · wide_line
              rw [if_neg (by decide), in_strs]
              wide_line
              refine ite2 (fun c4 => ?_) (fun c4 => ?_)
              · wide_line
                wide_line with al lv3 t1 nt1 H5 lv5 s5
                wide_line
                refine ⟨by rw [sizeLine_eq]; unfold lessT at yl; omega, ?_⟩
                wide_line with stk lv5 1 H6 lv6 kt6
                rw [tk, c3, c4]
                exact ⟨_, lv6.tl (fun z => nomatch z), paired_app ((tt3.keep (.same s5)).keep kt6) (.cons ⟨t1, rfl, kt6 _ _ (lv5.get 0 rfl)⟩ .nil)⟩
              · exact skip (by rw [c3]; cases z : decide (t.2 ∈ lessN ns g) with
                  | true => exact absurd z c4
                  | false => rfl)
            · exact skip (by cases z : decide (t.1 ∈ lessN ns g) with
                | true => exact absurd z c3
                | false => rfl)
          · rintro H3 ⟨ys, lv3, tt3⟩
            rw [xl, List.take_length] at tt3
            have sq1 : SqS K H3 L ((lessN ns g).map V.str) := .inl (SqL.of (lv3.sm _ _ hL2))
            have sq2 : SqS K H3 L2 ys := .inl (SqL.of (lv3.get 0 rfl))
            have tt3 : TiesAt K H3 ys (lessT ns ts g) := tiesAt_of tt3
            wide_line
            intro y H4 s4 ny hy
            exact kg2 y H4 (s1.trans (lv2.sm.trans (lv3.sm.trans s4))) (free_of (s1.trans lv2.sm) (lv3.free ny)) (hy.le (s1.trans (lv2.sm.trans lv3.sm)))
      | _ => cases c
end
end Pw

set_option Elab.async false
set_option linter.all false
set_option maxRecDepth 100000
set_option maxHeartbeats 4000000
namespace Pw
open PySem PySem.Spec PyProof.Rows L2 Ct
local macro_rules | `(tactic| wide_line) => `(tactic| repeat ((fail_if_success (with_reducible refine at_while ?_)); (fail_if_success (with_reducible refine at_while1 ?_)); (conv => whnf); first | ((with_reducible refine And.intro ?_ ?_); focus (first | (first | ((with_reducible show (_ : Nat) ≤ _); first | exact sz0 | exact sz1 | exact sz2 | exact sz3 | exact sz4 | exact sz5 | exact sz6 | exact sz7 | exact sz8 | exact sz10 | exact sz11 | exact sz12 | exact sz14 | omega | decide | (simp only [List.length_cons, List.length_nil]; omega)) | ((with_reducible show (_ : Int) ≤ _); first | omega | decide) | ((with_reducible show (_ : Int) < _); first | omega | decide) | ((with_reducible show (_ : Nat) < _); omega)) | ((fail_if_success (with_reducible show (_ : Nat) ≤ _)); (fail_if_success (with_reducible show (_ : Int) ≤ _)); (fail_if_success (with_reducible show (_ : Int) < _)); (fail_if_success (with_reducible show (_ : Nat) < _)); first | exact kv_str _ | exact kv_int _ | rfl | assumption | exact flat_strs _ | exact Lv.get (by assumption) 0 rfl | exact Lv.get (by assumption) 1 rfl | exact Lv.get (by assumption) 2 rfl | exact Lv.get (by assumption) 3 rfl | exact Lv.get (by assumption) 4 rfl | exact Lv.get (by assumption) 5 rfl | exact Lv.get (by assumption) 6 rfl | exact SqL.of (Lv.get (by assumption) 0 rfl) | exact SqL.of (Lv.get (by assumption) 1 rfl) | exact SqL.of (Lv.get (by assumption) 2 rfl) | exact SqL.of (Lv.get (by assumption) 3 rfl) | exact SqL.of (Lv.get (by assumption) 4 rfl) | exact SqL.of (Lv.get (by assumption) 5 rfl) | exact Or.inl (SqL.of (Lv.get (by assumption) 0 rfl)) | exact Or.inl (SqL.of (Lv.get (by assumption) 1 rfl)) | exact Or.inl (SqL.of (Lv.get (by assumption) 2 rfl)) | exact Or.inl (SqL.of (Lv.get (by assumption) 3 rfl)) | exact Or.inl (SqL.of (Lv.get (by assumption) 4 rfl)) | exact Or.inl (SqL.of (Lv.get (by assumption) 5 rfl)) | exact ⟨_, SqL.of (Lv.get (by assumption) 0 rfl)⟩ | exact ⟨_, SqL.of (Lv.get (by assumption) 1 rfl)⟩ | exact ⟨_, SqL.of (Lv.get (by assumption) 2 rfl)⟩ | exact ⟨_, SqL.of (Lv.get (by assumption) 3 rfl)⟩ | exact ⟨_, SqL.of (Lv.get (by assumption) 4 rfl)⟩ | exact ⟨_, SqL.of (Lv.get (by assumption) 5 rfl)⟩ | exact Or.inl ⟨_, SqL.of (Lv.get (by assumption) 0 rfl), rfl⟩ | exact Or.inl ⟨_, SqL.of (Lv.get (by assumption) 1 rfl), rfl⟩ | exact Or.inl ⟨_, SqL.of (Lv.get (by assumption) 2 rfl), rfl⟩ | exact Or.inl ⟨_, SqL.of (Lv.get (by assumption) 3 rfl), rfl⟩ | exact Or.inl ⟨_, SqL.of (Lv.get (by assumption) 4 rfl), rfl⟩ | exact Or.inl ⟨_, SqL.of (Lv.get (by assumption) 5 rfl), rfl⟩ | exact Or.inl ⟨rfl, _, SqL.of (Lv.get (by assumption) 0 rfl)⟩ | exact Or.inl ⟨rfl, _, SqL.of (Lv.get (by assumption) 1 rfl)⟩ | exact Or.inl ⟨rfl, _, SqL.of (Lv.get (by assumption) 2 rfl)⟩ | exact Or.inl ⟨rfl, _, SqL.of (Lv.get (by assumption) 3 rfl)⟩ | exact Or.inl ⟨rfl, _, SqL.of (Lv.get (by assumption) 4 rfl)⟩ | exact Or.inl ⟨rfl, _, SqL.of (Lv.get (by assumption) 5 rfl)⟩ | exact Or.inr (SqT.of (Lv.get (by assumption) 0 rfl)) | exact Or.inr (SqT.of (Lv.get (by assumption) 1 rfl)) | exact Or.inr (SqT.of (Lv.get (by assumption) 2 rfl)) | exact Or.inr (SqT.of (Lv.get (by assumption) 3 rfl)) | exact SqT.of (Lv.get (by assumption) 0 rfl) | exact SqT.of (Lv.get (by assumption) 1 rfl) | exact SqT.of (Lv.get (by assumption) 2 rfl) | exact dgetN (Lv.get (by assumption) 0 rfl) (by assumption) | exact dgetN (Lv.get (by assumption) 1 rfl) (by assumption) | exact dgetN (Lv.get (by assumption) 2 rfl) (by assumption) | exact dgetN (Lv.get (by assumption) 3 rfl) (by assumption) | exact dgetN (Lv.get (by assumption) 4 rfl) (by assumption) | exact Or.inl (by assumption) | exact Or.inr (by assumption) | decide | ((with_reducible show _ ∧ _); omega)))) | ((fail_if_success (with_reducible apply @Exists.intro (Nat → _))); (with_reducible apply Exists.intro))))
local macro_rules
  | `(tactic| wide_line with al $lv:ident $l:ident $nl:ident $H:ident $lv1:ident $s1:ident) => `(tactic| (intro $l:ident $nl:ident; generalize he : upd _ _ _ = $H:ident; have $lv1:ident := Lv.alE $lv $nl he; have $s1:ident := sameE $nl he; clear he; (try dsimp only at $lv1:ident)))
  | `(tactic| wide_line with alx $lv:ident $nl:ident $H:ident $lv1:ident $s1:ident) => `(tactic| (generalize he : upd _ _ _ = $H:ident; have $lv1:ident := Lv.alE $lv $nl he; have $s1:ident := sameE $nl he; clear he; (try dsimp only at $lv1:ident)))
  | `(tactic| wide_line with sts $lv:ident $i:num $H:ident $lv1:ident $s0:ident $np:ident $s1:ident) => `(tactic| (generalize he : upd _ _ _ = $H:ident; have $lv1:ident := Lv.stE $lv $i rfl he; have $s1:ident := sameN $s0 $np he; clear he; (try dsimp only at $lv1:ident)))
  | `(tactic| wide_line with stx $lv:ident $H:ident $lv1:ident $d1:ident) => `(tactic| (generalize he : upd _ _ _ = $H:ident; have $lv1:ident := Lv.stE $lv 0 rfl he; have $d1:ident := SameD.storeE (Lv.get $lv 0 rfl) he; clear he; (try dsimp only at $lv1:ident)))
  | `(tactic| wide_line with st $lv:ident $i:num $H:ident $lv1:ident) => `(tactic| (generalize he : upd _ _ _ = $H:ident; have $lv1:ident := Lv.stE $lv $i rfl he; clear he; (try dsimp only at $lv1:ident)))
  | `(tactic| wide_line with stk $lv:ident $i:num $H:ident $lv1:ident $k1:ident) => `(tactic| (generalize he : upd _ _ _ = $H:ident; have $lv1:ident := Lv.stE $lv $i rfl he; have $k1:ident := KeepT.st (Lv.get $lv $i rfl) he; clear he; (try dsimp only at $lv1:ident)))
/-- where no datum is bad they are further ties -/
theorem tieBad_none {ns : List Str} : ∀ {ds : List PyData} {qs : List (Str × Str)} {i : Nat}, tieBad ns qs i ds = none → (∀ t ∈ tiesD ns ds, t.1 ∈ ns ∧ t.2 ∈ ns ∧ t.1 ≠ t.2) ∧ ((tiesD ns ds).map pairP).Nodup ∧ ∀ t ∈ tiesD ns ds, pairP t ∉ qs
  | [], _, _, _ => ⟨fun t h => (nomatch h), List.nodup_nil, fun t h => (nomatch h)⟩
  | d :: ds, qs, i, h => by
    unfold tieBad at h
    cases e : tieOf ns d with
    | none => rw [e] at h; cases h
    | some p =>
      rw [e] at h
      dsimp only at h
      by_cases c : pairP p ∈ qs
      · rw [if_pos c] at h; cases h
      · rw [if_neg c] at h
        obtain ⟨h1, h2, h3⟩ := tieBad_none h
        have ed : tiesD ns (d :: ds) = p :: tiesD ns ds := by unfold tiesD; rw [List.filterMap_cons, e]
        have pn : p.1 ∈ ns ∧ p.2 ∈ ns ∧ p.1 ≠ p.2 := by
          unfold tieOf at e
          split at e
          · split at e
            · split at e
              · rename_i c2
                cases e
                exact c2
              · cases e
            · cases e
          · cases e
        rw [ed]
        refine ⟨fun t ht => ?_, ?_, fun t ht => ?_⟩
        · rcases List.mem_cons.mp ht with rfl | ht
          · exact pn
          · exact h1 t ht
        · rw [List.map_cons]
          refine List.nodup_cons.mpr ⟨fun z => ?_, h2⟩
          obtain ⟨u, hu, eu⟩ := List.mem_map.mp z
          exact h3 u hu (eu ▸ List.mem_cons_self)
        · rcases List.mem_cons.mp ht with rfl | ht
          · exact c
          · exact fun z => h3 t ht (List.mem_cons_of_mem _ z)
theorem PlanOk.more {n : Nat} {ns : List Str} {ts : List (Str × Str)} (h : PlanOk n ns ts) {ds : List PyData} {i : Nat} (tb : tieBad ns (ts.map pairP) i ds = none) (few : ts.length + ds.length ≤ 75) : PlanOk n ns (ts ++ tiesD ns ds) := by
  obtain ⟨h1, h2, h3⟩ := tieBad_none tb
  refine ⟨h.one, h.most, h.nd, h.nm, fun t ht => ?_, ?_, ?_⟩
  · rcases List.mem_append.mp ht with z | z
    · exact h.tie t z
    · exact h1 t z
  · rw [List.map_append]
    refine List.nodup_append.mpr ⟨h.dif, h2, fun x hx y hy e => ?_⟩
    subst e
    obtain ⟨t, ht, rfl⟩ := List.mem_map.mp hy
    exact h3 t ht hx
  · rw [List.length_append]
    have : (tiesD ns ds).length ≤ ds.length := List.length_filterMap_le _ _
    omega
theorem TiesAt.app {K : PySem.W.Frag} {H : Hp} {xs ys : List V} {ts us : List (Str × Str)} (a : TiesAt K H xs ts) (b : TiesAt K H ys us) : TiesAt K H (xs ++ ys) (ts ++ us) := paired_app a b
/-- web.tied(value) -/
def spTied (K : PySem.W.Frag) (C CS CT : Addr) : Sp := fun vs H Q E => ∃ (x : Addr) (v : V) (n : Nat) (ns : List Str) (ts : List (Str × Str)) (d : PyData), vs = [.ref x, v] ∧ WebAt K C H x ns ts ∧ PlanOk n ns ts ∧ n ≤ 12 ∧ Dq K H v d ∧
  (seqD d = none → Raised CS "value" H v E) ∧ ∀ ds, seqD d = some ds → (∀ e ∈ ds, plainTie e) ∧ ts.length + ds.length ≤ 75 ∧ (∀ i, tieBad ns (ts.map pairP) 0 ds = some i → Raised CT "position" H (.int i) E) ∧
    (tieBad ns (ts.map pairP) 0 ds = none → ∀ y H', Same H H' → H y = none → FreshW K C H H' y ns (ts ++ tiesD ns ds) → Q (.ref y) H')
section
variable {P : Program} {w : World} {K : PySem.W.Frag} {mg : Str → Option Value} {base : Heap} {C CP CS CT fa : Addr} {fd : FuncData}
abbrev sTied : Stmt := inClass (top ix_Web) mx_Web_tied
theorem scTied : FnScope ["self", "ties"] ["self", "ties"] (defScope sTied) := ⟨rfl, rfl, rfl, by decide +kernel, rfl, by decide +kernel, by decide +kernel⟩
theorem ok_tied (T : Bn mg) (X : WC K C) (F : Fun K "tied" "Web.tied" sTied fa fd) (h_check_ties : HasR P w K mg base 3 "_check_ties" ["places", "known", "ties"] (spCheckTies K CS CT)) (hW : HasW P w K mg base 4 C CP CS CT) : FnOk P w K mg base (L2.CX P w) 6 fa fd ["self", "ties"] (spTied K C CS CT) := by
  refine F.okX scTied (fun vs H Q E h => ?_) (fun cdv A outer s H vs Q E hr h => ?_)
  · obtain ⟨x, v, n, ns, ts, d, rfl, _⟩ := h; rfl
  · obtain ⟨x, v, n, ns, ts, d, rfl, hw, pk, hn, hd, kb, kg⟩ := h
    have nd := scTied.nd
    refine ⟨_, (pss_cons (ps_expr (pe_hR h_check_ties (takes_of rfl rfl rfl rfl) hr (by decide) rfl (pa_cons (pe_fld (pv 0) rfl) (pa_cons (pe_fld (pv 0) rfl) (pa_cons (pv 1) pa_nil)))))
    (pss_one (ps_ret (pe_web hW hr (by decide) rfl (pa_cons (pe_fld (pv 0) rfl) (pa_cons (pe_op op_catT2 (pe_fld (pv 0) rfl) (pe_callTy call_tupS (by rfl) T.z_tuple (by decide +kernel) (pa_cons (pv 1) pa_nil))) pa_nil)))))), ?_⟩
    have c1 := X.cls
    obtain ⟨_, n1, n2, _⟩ := id X
    obtain ⟨⟨dx, tp, tt, sg, sn, sp, sq, rk, txs, hx, htp, htt, hts, _⟩⟩ := id hw
    have sq1 : SqS K H tp (ns.map V.str) := .inr htp
    have sq2 : SqS K H tt txs := .inr htt
    wide_line
    intro ds e
    obtain ⟨pl, few, bad, good⟩ := kg ds e
    refine ⟨pl, few, fun gd H1 s1 => ?_, bad⟩
    obtain ⟨va, vxs, rfl, hv, hda, hvl⟩ := seq_of hd e
    obtain ⟨tat, tin⟩ := ties_ok hda gd
    have hx1 := s1 _ _ hx
    have htp1 := same_t s1 htp
    have htt1 := same_t s1 htt
    have hv1 := hv.same s1
    wide_line
    intro t2 H2 s2 ht2
    have l1 := paired_len hts
    have l2 := pk.few
    refine ⟨tt, t2, txs, vxs, rfl, rfl, same_t s2 htt1, ht2, by rw [sizeLine_eq]; omega, fun t3 H3 s3 ht3 => ?_⟩
    have s13 := s2.trans s3
    have sa : SqS K H3 tp (ns.map V.str) := .inr (same_t s13 htp1)
    have sb : SqS K H3 t3 (txs ++ vxs) := .inr ht3
    have st : TiesAt K H3 (txs ++ vxs) (ts ++ tiesD ns ds) := TiesAt.app (hts.same (s1.trans s13)) (tat.same (s1.trans s13))
    refine ⟨tp, t3, n, ns, _, ts ++ tiesD ns ds, rfl, sa, sb, st, pk.more gd few, hn, fun y H4 s4 ny hy => ?_⟩
    exact good gd y H4 (s1.trans (s13.trans s4)) (free_of (s1.trans s13) ny) (hy.le (s1.trans s13))
end
end Pw

set_option Elab.async false
set_option linter.all false
set_option maxRecDepth 100000
set_option maxHeartbeats 4000000
/-! t[::-1] of a pair. -/
namespace Ct
open PySem PySem.Spec PyProof.Rows L2
section
variable {prog : Program} {w : World} {A : Around} {E : Value → Shared → Prop} {s : Shared}
theorem backApplied {q : Addr} {tk : Value} {G : Int × Int × Nat → Shared → Prop} (hq : s.heap.IsSliceOf q .none .none tk) (p1 : IsPart tk (some (-1))) (g : G (1, -1, 2) s) :
    wpAny (model prog w) A (Builtin.Slice.sliceApplied (.ref q) (pure ((2 : Nat) : Int))) G E s := by
  obtain ⟨ob, hob, _, hd⟩ := id hq
  unfold Builtin.Slice.sliceApplied Builtin.Slice.sliceFields
  refine wpAny_bind (wpAny_bind (wpAny_field hob hd (x := .none) rfl (wpAny_bind (wpAny_field hob hd (x := .none) rfl (wpAny_bind (wpAny_field hob hd (x := tk) rfl (wpAny_pure ?_)))))))
  refine wpAny_bind (HT.slicePart_ p1 ?_)
  show wpAny _ _ (if ((-1 : Int) == 0) = true then _ else _) _ _ s
  rw [if_neg (by decide)]
  refine wpAny_bind (slicePart_none (wpAny_bind (slicePart_none (wpAny_bind (wpAny_pure ?_)))))
  exact wpAny_pure g
theorem getBack {t q : Addr} {x y tk : Value} {G : Value → Shared → Prop} (ht : IsTup s.heap t #[x, y]) (hq : s.heap.IsSliceOf q .none .none tk) (p1 : IsPart tk (some (-1)))
    (g : G (.ref s.heap.objs.size) { s with heap := s.heap.push { cls := .type "tuple", data := .seq #[y, x] } }) : wpAny (model prog w) A (getItem (.ref t) (.ref q)) G E s := by
  have fits : sizeOk (.seq #[y, x]) := by show 2 ≤ sizeLine; decide
  obtain ⟨ob, hob, hcl, hd⟩ := id hq
  have isS : s.TypeIs (.ref q) "slice" := ⟨ob, hob, hcl⟩
  unfold getItem
  try with_reducible refine wpAny_holding ?_
  first | refine wpAny_bind (wpAny_pure ?_) | skip
  refine wpAny_bind (wpAny_sequenceKey ht.typeIs (by decide) ?_)
  refine wpAny_bind (wpAny_callSpecial?_slot (name := Str.ofString "__getitem__") ht.typeIs PyProof.Rows.slot_tuple_getitem (wpAny_call_entry PyProof.Rows.slot_tuple_getitem ht.typeIs entry_tuple_getitem ?_ (args_tuple_getitem _ _)))
  show wpAny _ _ (Builtin.Tuple.tupleItemsOf (.ref t) >>= _) _ _ s
  refine wpAny_bind (tupleItemsOf_ ht (wpAny_bind (wpAny_typeOf isS ?_)))
  rw [if_pos (by decide)]
  refine wpAny_bind (backApplied hq p1 ?_)
  show wpAny _ _ (if ((1 : Int) == 0 && (-1 : Int) == 1 && (2 : Nat) == #[x, y].size) = true then _ else _) _ _ s
  rw [if_neg (fun z => by cases z)]
  first
    | exact wpAny_bind (m := Builtin.Tuple.tupleExact _) (wpAny_newObj_type (wpAny_pure ⟨_, rfl, wpAny_pure g⟩) fits)
    | exact wpAny_bind (m := Builtin.Tuple.tupleExact _) (wpAny_newObj_type (wpAny_bind (wpAny_pure (wpAny_pure ⟨_, rfl, wpAny_pure g⟩))) fits)
    | exact wpAny_bind (wpAny_bind (m := Builtin.Tuple.tupleExact _) (wpAny_newObj_type (wpAny_pure (wpAny_pure ⟨_, rfl, wpAny_pure g⟩)) fits))
    | exact wpAny_bind (wpAny_bind (m := Builtin.Tuple.tupleExact _) (wpAny_newObj_type (wpAny_pure ⟨_, rfl, wpAny_pure g⟩) fits))
end
section
variable {X : Cx}
def tBack (K : PySem.W.Frag) (te : TE) : TE := fun σ H Q => te σ H fun v H1 => ∃ a x y, v = .ref a ∧ SqT K H1 a [x, y] ∧ ∀ p, H1 p = none → Q (.ref p) (upd H1 p (.tup [y, x]))
theorem pe_back {e : Expr} {te : TE} {k : Nat} {p1 p2 p3 pos : Pos} (he : PE X e te) : PE X (.Subscript e (.Slice none none (some (.UnaryOp .USub (.Constant (.int 1) k p1) p2)) p3) pos) (tBack X.K te) := by
  refine ⟨fun pins s0 σ H G I h => Subscript_ (thn (he.run pins s0 σ H _ I h) fun v s1 ⟨z, H1, I1, r1, q1⟩ => ?_)⟩
  obtain ⟨a, x, y, ez, hx, g⟩ := q1
  subst ez
  cases r1
  have part : PO X (some (.UnaryOp .USub (.Constant (.int 1) k p1) p2)) (tPart (tUn (rU fun i => .int (-i)) (tC (.int 1)))) := po_some (pe_un un_neg pe_int)
  refine wpAny_Slice (thn (po_none.run pins s1 σ H1 (fun o J => o = none ∧ J = H1) I1 ⟨rfl, rfl⟩) fun vl s2 ⟨l, H2, I2, pl, el, e2⟩ => ?_)
  subst el e2
  refine thn (po_none.run pins s2 σ H2 (fun o J => o = none ∧ J = H2) I2 ⟨rfl, rfl⟩) fun vh s3 ⟨u, H3, I3, pu, eu, e3⟩ => ?_
  subst eu e3
  refine thn (part.run pins s3 σ H3 (fun o J => o = some (-1) ∧ J = H3) I3 ⟨1, rfl, -1, rfl, rfl, rfl⟩) fun vs s4 ⟨o, H4, I4, ps, eo, e4⟩ => ?_
  subst eo e4
  cases pl
  cases pu
  have I5 : Inv X pins σ H4 { s4 with heap := s4.heap.push { cls := .type "slice", data := .fields #[.none, .none, vs] } } := I4.kept (t' := s4.toks) fun b ob z => Heap.get?_push_of_some _ z
  obtain ⟨its, r, ht, hz⟩ := I5.tuple hx
  cases r with
  | cons ra r =>
    cases r with
    | cons rb r =>
      cases r
      rename_i ua ub
      refine tail_any (ops := [.ref a, .ref s4.heap.objs.size]) ht.typeIs (PyProof.Rows.slot_tuple_getitem.lookup) ?_ (by with_unfolding_all rfl)
      refine getBack (x := ua) (y := ub) ht (Heap.IsSliceOf.new _ .none .none vs) ps ?_
      refine ⟨.ref _, _, I5.laid (t' := s4.toks) (o := .tup [y, x]) (fun b ob z => Heap.get?_push_of_some _ z) (Nat.le_refl _) ?_, rfl, g _ (I5.hok.fresh (Nat.le_refl _))⟩
      exact ⟨by show 2 ≤ sizeLine; decide, [ub, ua], .cons rb (.cons ra .nil), IsTup.new _ _⟩
end
end Ct

set_option Elab.async false
set_option linter.all false
set_option maxRecDepth 100000
set_option maxHeartbeats 4000000
/-! try with several clauses that give the exception a name. -/
namespace Ct
open PySem PySem.Spec PyProof.Rows L2
/-- what a suite's end is behind the name's removal -/
def endsGone (i : Nat) (D : Ends) : Ends := { nx := fun τ G => D.nx (τ.set i none) G, rt := D.rt, bk := fun τ G => D.bk (τ.set i none) G, ct := fun τ G => D.ct (τ.set i none) G }
abbrev Clause := Value × Nat × (Addr → Value → Option Addr → TS)
/-- what the clauses wish, one after the other -/
def wNamed (K : PySem.W.Frag) (Wout : WX) (D : Ends) : List Clause → WX
  | [] => Wout
  | q :: r => fun k d τ G => ∃ yes, PySem.W.exmOne K k q.1 = some yes ∧ (yes = true → ∀ a, G a = none → q.2.2 a k d (endsGone q.2.1 D) (τ.set q.2.1 (some (.ref a))) G) ∧ (yes = false → wNamed K Wout D r k d τ G)
inductive Clauses (X : Cx) : List ExceptHandler → List Clause → Prop
  | nil : Clauses X [] []
  | cons {n x : Str} {c : Value} {i : Nat} {t : Addr → Value → Option Addr → TS} {b : Stmt} {bs : List Stmt} {p1 p2 : Pos} {hds : List ExceptHandler} {l : List Clause} (nm : Names X x c) (at_ : X.N[i]? = some n) (lo : X.env.kindOf n = some .local)
      (su : ∀ (a : Addr) (o : Obj) (k : Value) (d : Option Addr) (pn : List (Addr × Obj)), Zc k d o → (∃ vs, o.data = .fields vs) → PSs (X.suite a ((a, o) :: pn)) (b :: bs) (t a k d)) (r : Clauses X hds l) :
      Clauses X (.ExceptHandler (some (.Name x p1)) (some n) (b :: bs) p2 :: hds) ((c, i, t) :: l)
/-- an exception that has been noted and looked at -/
structure Air (X : Cx) (pins : List (Addr × Obj)) (B : Heap) (s0 s1 : Shared) (τ : L2.St) (G : Hp) (k : Value) (d : Option Addr) (a : Addr) (h : Heap) : Prop where
  inv : Inv X pins τ G s0
  keep : ∀ b o, s0.heap.get? b = some o → b ∉ frs X.stack → B.get? b = some o
  fly : HandSPX.FlyingZ B (X.env :: X.outer) a (Zc k d) h
  up : s0.heap.UpToSlots h
  os : s1.os = s0.os
  bare : AllBare s1.gens
  free : G a = none
  notL : a ≠ X.env.locals
  notF : a ∉ X.fs
section
variable {X : Cx} {pins : List (Addr × Obj)} {B : Heap} {s0 s1 : Shared} {τ : L2.St} {G : Hp} {k : Value} {d : Option Addr} {a : Addr} {h : Heap}
theorem Air.now (A : Air X pins B s0 s1 τ G k d a h) : Inv X pins τ G { s1 with heap := h } := A.inv.landed (s' := { s1 with heap := h }) A.keep A.fly.1 A.up A.os A.bare
theorem Air.within (A : Air X pins B s0 s1 τ G k d a h) : ∃ o, h.get? a = some o ∧ Zc k d o ∧ (∃ vs, o.data = .fields vs) ∧ Inv (X.suite a ((a, o) :: (X.pn ++ pins))) [] τ G { s1 with heap := h } := by
  obtain ⟨o, vs, e1, e2, e3⟩ := A.fly.there
  exact ⟨o, e1, e2, ⟨vs, e3⟩, A.now.suite e1 e3 A.free A.notL A.notF⟩
theorem Air.move (A : Air X pins B s0 s1 τ G k d a h) {h' : Heap} (f : HandSPX.FlyingZ B (X.env :: X.outer) a (Zc k d) h') (u : h.UpToSlots h') : Air X pins B s0 s1 τ G k d a h' :=
  ⟨A.inv, A.keep, f, A.up.trans u, A.os, A.bare, A.free, A.notL, A.notF⟩
/-- the clause's question -/
theorem Air.asks (A : Air X pins B s0 s1 τ G k d a h) {x : Str} {c : Value} {p : Pos} {yes : Bool} (nm : Names X x c) (e : PySem.W.exmOne X.K k c = some yes) {R : Bool → Shared → Prop} {E : Value → Shared → Prop} (r : R yes { s1 with heap := h }) :
    wpAny (model X.prog X.w) (X.A.mark (some (.ref a))) (eval (.Name x p) X.env) (fun v s => wpAny (model X.prog X.w) (X.A.mark (some (.ref a))) (excMatches (.ref a) v) R E s) E { s1 with heap := h } := by
  obtain ⟨o, e1, e2, _, S⟩ := A.within
  have L : PySem.W.Looks (model X.prog X.w) h (typeOf (.ref a)) k := fun _ _ _ _ z g => wpAny_typeOf_ref (z _ _ e1) (by rw [e2.1]; exact g)
  have M := PySem.W.exm_one (M := model X.prog X.w) A.now.kIn L e
  obtain ⟨g1, g2, g3 | ⟨g3, g4, g5⟩⟩ := nm
  · exact ld_glob (X := X.suite a ((a, o) :: (X.pn ++ pins))) S g1 g3 (M.here r) g2
  · exact ld_blt (X := X.suite a ((a, o) :: (X.pn ++ pins))) S g1 g3 g4 (M.here r) g5 g2
/-- no clause is left: it goes on -/
theorem Air.goesOn (A : Air X pins B s0 s1 τ G k d a h) (hs : X.stack = X.env :: X.outer) (hf : X.env.frame = some X.env.locals) {W : WX} (tk : Takes X W) {D : Ends} (w : W k d τ G) :
    wpAny (model X.prog X.w) X.A (handleBy (.ref a) X.env []) (SP X pins D) X.xe { s1 with heap := h } := by
  refine wpAny_handleBy_nil ?_
  obtain ⟨_, _, _, o, vs, tb, _, _, e1, _, e3, e4, _⟩ := id A.fly
  have last : wpAny (model X.prog X.w) X.A (setFlight (.ref a) X.env.frame) (fun _ s => wpAny (model X.prog X.w) X.A (throw (.ref a) : Sem Flow) (SP X pins D) X.xe s) X.xe { s1 with heap := h } := by
    rw [hf]
    exact HandSPX.setFlight_upZ A.fly fun h4 f4 u4 => wpAny_throw (tk _ _ ⟨a, B, s0, pins, τ, G, k, d, rfl, A.inv, A.keep, A.up.trans u4, .inr (.inr (by rw [hs]; exact f4)), A.free, A.os, A.bare, w⟩)
  unfold PySem.passOn
  refine wpAny_bind (wpAny_field e1 e3 e4 ?_)
  rw [if_neg (fun z => nomatch (eq_of_beq z : Value.ref tb = Value.none))]
  first
    | exact wpAny_bind (wpAny_pure (wpAny_bind last))
    | exact wpAny_bind last
theorem Air.handled (hs : X.stack = X.env :: X.outer) (hf : X.env.frame = some X.env.locals) (nd : X.N.Nodup) {W : WX} (tk : Takes X W) {D : Ends} : ∀ {hds : List ExceptHandler} {l : List Clause}, Clauses X hds l → Air X pins B s0 s1 τ G k d a h → wNamed X.K W D l k d τ G →
    wpAny (model X.prog X.w) X.A (handleBy (.ref a) X.env hds) (SP X pins D) X.xe { s1 with heap := h } := by
  intro hds l cl A
  induction cl with
  | nil => exact fun w => A.goesOn hs hf tk w
  | @cons n x c i t b bs p1 p2 hds l nm at_ lo su r ih =>
    rintro ⟨yes, e, wy, wn⟩
    refine wpAny_handleBy_cons (codeAny_handlers_test (A.asks nm e ?_)) (fun z => nomatch z)
    cases yes with
    | false => exact ih (wn rfl)
    | true =>
      refine codeAny_handlers_suite_as (HandSPX.lands_againZ A.fly fun h4 f4 u4 => ?_)
      have A4 := A.move f4 u4
      obtain ⟨o, e1, e2, e3, S⟩ := A4.within
      refine store_ok (X := X.suite a ((a, o) :: (X.pn ++ pins))) (v := .ref a) S nd at_ (.inl lo) rfl (fun s5 S5 => ?_) (.inr lo)
      refine wpAny_mono ((su a o k d (X.pn ++ pins) e2 e3).run [] s5 _ G _ S5 (wy rfl a A.free)) (fun f s6 z => ?_) (fun _ _ z => z.elim)
      have gone : ∀ {τ6 : L2.St} {G6 : Hp} {R : Shared → Prop}, Inv (X.suite a ((a, o) :: (X.pn ++ pins))) [] τ6 G6 s6 → (∀ s7, Inv X pins (τ6.set i none) G6 s7 → R s7) → wpAny (model X.prog X.w) X.A (do bindName X.env n .none; unbindBehindTheSuite X.env n p2) (fun _ s7 => R s7) X.xe s6 :=
        fun {τ6 G6 R} I6 z => gone_ok (I6.unsuite A.inv.ok) nd at_ lo z
      cases f with
      | ret u => obtain ⟨v6, τ6, G6, I6, r6, z6⟩ := z; exact gone I6 fun s7 J7 => ⟨_, _, _, J7, r6, z6⟩
      | next => obtain ⟨τ6, G6, I6, z6⟩ := z; exact gone I6 fun s7 J7 => ⟨_, _, J7, z6⟩
      | brk => obtain ⟨τ6, G6, I6, z6⟩ := z; exact gone I6 fun s7 J7 => ⟨_, _, J7, z6⟩
      | cont => obtain ⟨τ6, G6, I6, z6⟩ := z; exact gone I6 fun s7 J7 => ⟨_, _, J7, z6⟩
end
section
variable {X : Cx} {body : List Stmt} {hd : ExceptHandler} {hds : List ExceptHandler} {l : List Clause} {pos : Pos} {tb : WX → TS} {Wout : WX}
/-- try: body / except A as n: .. / except B as n: .. -/
theorem ps_try_named (hs : X.stack = X.env :: X.outer) (hf : X.env.frame = some X.env.locals) (nd : X.N.Nodup) (tk : Takes X Wout) (cl : Clauses X (hd :: hds) l)
    (hb : ∀ (W : WX) (pn : List (Addr × Obj)) (xe : Value → Shared → Prop), Takes (X.tr pn xe) W → PassesOwn (model X.prog X.w) X.A X.env xe → PSs (X.tr pn xe) body (tb W)) : PS X (.Try body (hd :: hds) [] [] pos) (fun D σ H => tb (wNamed X.K Wout D l) D σ H) := by
  refine ⟨fun pins s σ H D I q => wpAny_Try_except ?_⟩
  have ok := I.ok
  refine wpAny_mono ((hb (wNamed X.K Wout D l) (X.pn ++ pins) (fun u z => wpAny (model X.prog X.w) X.A (noteFrame u X.env) (fun _ z => wpAny (model X.prog X.w) X.A (setFlight u none) (fun _ z =>
    wpAny (model X.prog X.w) X.A (handleBy u X.env (hd :: hds)) (SP X pins D) X.xe z) X.xe z) X.xe z) (fun u s2 xx => ?_) PassesOwn.looking).run [] s σ H D (I.toTry _) q) (fun f s2 z => ?_) (fun _ _ z => z)
  · obtain ⟨a, B, s0, _, τ, G, k, d, rfl, J, keep, up, sky, free, os, bare, w⟩ := xx
    have frames : X.A.frames = some (X.env :: X.outer) := by rw [ok.frames, hs]
    refine Sky.land (env := X.env) (outer := X.outer) Zc.steady frames hf (hs ▸ sky) fun h3 f3 u3 => ?_
    obtain ⟨o, vs, e1, _, e3⟩ := f3.there
    have nf : a ∉ frs (X.env :: X.outer) := fun m => by
      obtain ⟨_, o', e', n'⟩ := f3.2.2.1.mem m
      cases e1.symm.trans e'
      exact n' _ e3
    refine Air.handled hs hf nd tk cl ⟨J.ofTry ok, keep, f3, up.trans u3, os, bare, free, fun z => ?_, fun m => ?_⟩ w
    · exact nf (List.mem_filterMap.mpr ⟨X.env, List.mem_cons_self, by rw [hf, z]⟩)
    · obtain ⟨e, m1, m2⟩ := List.mem_filterMap.mp m
      exact nf (List.mem_filterMap.mpr ⟨e, List.mem_cons_of_mem _ m1, m2⟩)
  · cases f with
    | ret u => obtain ⟨v, τ, G, J, r, z⟩ := z; exact ⟨v, τ, G, J.ofTry ok, r, z⟩
    | next => obtain ⟨τ, G, J, z⟩ := z; exact wpAny_execs_nil ⟨τ, G, J.ofTry ok, z⟩
    | brk => obtain ⟨τ, G, J, z⟩ := z; exact ⟨τ, G, J.ofTry ok, z⟩
    | cont => obtain ⟨τ, G, J, z⟩ := z; exact ⟨τ, G, J.ofTry ok, z⟩
end
end Ct
namespace Ct
open PySem PySem.Spec PyProof.Rows L2
section
variable {X : Cx}
/-- error.n of the exception that the clause has named -/
def tCaught (K : PySem.W.Frag) (a : Addr) (k : Value) (d : Option Addr) (n : Str) (te : TE) : TE := fun σ H Q => te σ H fun x G => x = .ref a ∧ ∃ (C dd : Addr) (fs : List (Str × V)) (v : V), k = .ref C ∧ d = some dd ∧ G dd = some (.xd fs) ∧ ExcC K C ∧ PySem.W.findIn K (.ref C) n = some none ∧ fs.lookup n = some v ∧ Q v G
theorem pe_caught {a : Addr} {o : Obj} {k : Value} {d : Option Addr} {pn : List (Addr × Obj)} {e : Expr} {te : TE} {n : Str} {pos : Pos} {K : PySem.W.Frag} (hK : X.K = K) (hz : Zc k d o) (hf : ∃ vs, o.data = .fields vs) (he : PE (X.suite a ((a, o) :: pn)) e te)
    (hb : attributeBase e n X.env (eval e X.env) = eval e X.env := by rfl) : PE (X.suite a ((a, o) :: pn)) (.Attribute e n pos) (tCaught K a k d n te) := by
  subst hK
  refine ⟨fun pins s σ H Q I h => attr_of hb (thn (he.run pins s σ H _ I h) fun u s1 hh => ?_)⟩
  obtain ⟨x, G, J, rx, ex, C, dd, fs, v, ec, ed, ea, T, no, l, q⟩ := hh
  subst ex ec ed
  cases (show u = Value.ref a from rx)
  obtain ⟨here, _⟩ := J.pin (a, o) (List.mem_append_left _ List.mem_cons_self)
  obtain ⟨vs, dat⟩ := hf
  obtain ⟨mA, ns, rl⟩ : ObjOk X.prog X.w G s1.heap dd (.xd fs) := J.hok dd _ ea
  obtain ⟨od, hod, lk⟩ := lookIn_ns ns
  obtain ⟨u, hu, ru⟩ := RelO.some_of (v := v) (o := mA n) (by rw [← l]; exact rl n)
  have inst : PySem.W.InstAt s1.heap a o C (some od) := ⟨here, hz.1, by unfold PySem.W.notCls; rw [dat] <;> rfl, by rw [hz.2]; exact hod⟩
  exact PySem.HandSPX.exc_get J.kIn inst T.hg T.hk T.hs (PySem.W.findObj_own T.hd no rfl (by rw [lk, hu])) (handed_of ru) ⟨v, G, J.tok _, ru, q⟩
end
end Ct

set_option Elab.async false
set_option linter.all false
set_option maxRecDepth 100000
set_option maxHeartbeats 4000000
/-! One promise behind a statement; a dict display of one pair with a tuple for its key; what is shown of data. -/
namespace Ct
open PySem PySem.Spec PyProof.Rows L2
/-- a statement's end told once, for all its ways -/
def tJoin (t : TS) : TS := fun D σ H => ∃ J : L2.St → Hp → Prop, t { D with nx := J } σ H ∧ ∀ τ G, J τ G → D.nx τ G
section
variable {X : Cx}
theorem ps_join {st : Stmt} {t : TS} (h : PS X st t) : PS X st (tJoin t) := by
  refine ⟨fun pins s σ H D I ⟨J, h1, h2⟩ => ?_⟩
  refine wpAny_mono (h.run pins s σ H { D with nx := J } (I.wish _) h1) (fun f s1 q => ?_) (fun _ _ z => z)
  have q' : SP X pins { D with nx := J } f s1 := q
  cases f with
  | next => obtain ⟨τ, G, I2, q2⟩ := q'; exact ⟨τ, G, I2, h2 _ _ q2⟩
  | ret v => exact q'
  | brk => exact q'
  | cont => exact q'
def tDispT (tk tv : TE) : TE := fun σ H Q => ∀ p, H p = none → tk σ (upd H p (.dT [])) fun x H1 => tv σ H1 fun y H2 => ∃ (b : Addr) (k : List Key), x = .ref b ∧ H2 b = some (.tup (k.map kV)) ∧ H2 p = some (.dT []) ∧ Q (.ref p) (upd H2 p (.dT [(k, y)]))
theorem pe_dispT {k v : Expr} {tk tv : TE} {pos : Pos} (hu : X.A.units + 1 < cLine) (hk : PE X k tk) (hv : PE X v tv) : PE X (.Dict [some k] [v] pos) (tDispT tk tv) := by
  have hh : PPs X pos [some k] [v] [(tk, tv)] := pps_cons hk hv pps_nil
  refine ⟨fun pins s σ H Q I q => ?_⟩
  have hn := I.hok.fresh (Nat.le_refl s.heap.objs.size)
  have I1 := I.laid (a := s.heap.objs.size) (o := .dT []) (h' := s.heap.push { cls := .type "dict", data := .dict #[] }) (t' := s.toks) (fun _ _ z => Heap.get?_push_of_some _ z) (Nat.le_refl _) (dt_empty s.heap I.big)
  have mono : ∀ {τ : L2.St} {G : Hp}, tk τ G (fun x H1 => tv τ H1 fun y H2 => ∃ (b : Addr) (k : List Key), x = .ref b ∧ H2 b = some (.tup (k.map kV)) ∧ H2 s.heap.objs.size = some (.dT []) ∧ Q (.ref s.heap.objs.size) (upd H2 s.heap.objs.size (.dT [(k, y)]))) →
      tPairs [(tk, tv)] τ G (fun ps H2 => ∃ (b : Addr) (k : List Key) (y : V), ps = [(.ref b, y)] ∧ H2 b = some (.tup (k.map kV)) ∧ H2 s.heap.objs.size = some (.dT []) ∧ Q (.ref s.heap.objs.size) (upd H2 s.heap.objs.size (.dT [(k, y)]))) := by
    intro τ G z
    show tk τ G fun x H1 => tv τ H1 fun y H2 => ∃ (b : Addr) (k : List Key) (y' : V), [(x, y)] = [(.ref b, y')] ∧ _
    have e : (fun (x : V) (H1 : Hp) => tv τ H1 fun y H2 => ∃ (b : Addr) (k : List Key), x = .ref b ∧ H2 b = some (.tup (k.map kV)) ∧ H2 s.heap.objs.size = some (.dT []) ∧ Q (.ref s.heap.objs.size) (upd H2 s.heap.objs.size (.dT [(k, y)]))) =
        fun (x : V) (H1 : Hp) => tv τ H1 fun y H2 => ∃ (b : Addr) (k : List Key) (y' : V), [(x, y)] = [(V.ref b, y')] ∧ H2 b = some (.tup (k.map kV)) ∧ H2 s.heap.objs.size = some (.dT []) ∧ Q (.ref s.heap.objs.size) (upd H2 s.heap.objs.size (.dT [(k, y')])) := by
      funext x H1
      refine congrArg _ ?_
      funext y H2
      refine propext ⟨fun ⟨b, k, e, r⟩ => ⟨b, k, y, by rw [e], r⟩, fun ⟨b, k, y', e, r⟩ => ?_⟩
      cases e
      exact ⟨b, k, rfl, r⟩
    rw [← e]
    exact z
  rw [arm_eval_Dict, zip_pairTrees [some k] [v] X.env pos (by rfl) (by rfl), dictDisplay_pairs _ (fun z => ?_) (by have := pairTrees_length [some k] [v] X.env pos (by rfl) (by rfl); rw [this]; show 1 < 17; decide)]
  · refine wpAny_bind (wpAny_standAt (wpAny_bind (wpAny_subDictH (knd := tupleKind (mixKind X.prog X.w)) (Q := fun d s' => wpAny (model X.prog X.w) X.A (pure (Value.ref d)) (EP X pins σ Q) X.xe s') (show X.A.units < cLine by omega) (by rw [pairTrees_length [some k] [v] X.env pos (by rfl) (by rfl)]; show 1 ≤ 15; decide) ?_)))
    refine thn (hh.run pins _ σ _ _ I1 (mono (q _ hn))) fun ws s2 ⟨ps, H2, I2, rel, b, ks, y, ep, hb, hd, q2⟩ => ?_
    subst ep
    cases rel with
    | @cons p1 w1 _ _ r1 t1 =>
      cases t1
      obtain ⟨wk, wv⟩ := w1
      obtain ⟨r1, r2⟩ := r1
      cases (show wk = Value.ref b from r1)
      obtain ⟨_, h2, xs, rel0, dd⟩ := dt_of I2.hok hd
      cases rel0
      refine ⟨[(ks, b, wv)], ⟨rfl, rfl, key_of I2.hok hb, trivial⟩, dd, fun h' tk' dd' hs => wpAny_pure ⟨.ref s.heap.objs.size, _, ?_, rfl, q2⟩⟩
      obtain ⟨o, es, ep, hq, g2, g3, g4, _, g5⟩ := dd'
      refine d_write I2 (by rw [hd]; exact True.intro) hs ⟨o, hq⟩ ⟨by show 1 ≤ sizeLine; decide, h2, _, .cons ⟨rfl, ?_, r2⟩ .nil, o, es, ep, hq, g2, g3, g4, g5⟩
      rw [upd_ne (ne_of hb hd (fun z => nomatch z))]
      exact hb
  · have := pairTrees_length [some k] [v] X.env pos (by rfl) (by rfl)
    rw [z] at this
    exact absurd (show 0 = 1 from this) (by decide)
end
end Ct

set_option Elab.async false
set_option linter.all false
set_option maxRecDepth 100000
set_option maxHeartbeats 4000000
namespace Pw
open PySem PySem.Spec PyProof.Rows L2 Ct
local macro_rules | `(tactic| wide_line) => `(tactic| repeat ((fail_if_success (with_reducible refine at_while ?_)); (fail_if_success (with_reducible refine at_while1 ?_)); (conv => whnf); first | ((with_reducible refine And.intro ?_ ?_); focus (first | (first | ((with_reducible show (_ : Nat) ≤ _); first | exact sz0 | exact sz1 | exact sz2 | exact sz3 | exact sz4 | exact sz5 | exact sz6 | exact sz7 | exact sz8 | exact sz10 | exact sz11 | exact sz12 | exact sz14 | omega | decide | (simp only [List.length_cons, List.length_nil]; omega)) | ((with_reducible show (_ : Int) ≤ _); first | omega | decide) | ((with_reducible show (_ : Int) < _); first | omega | decide) | ((with_reducible show (_ : Nat) < _); omega)) | ((fail_if_success (with_reducible show (_ : Nat) ≤ _)); (fail_if_success (with_reducible show (_ : Int) ≤ _)); (fail_if_success (with_reducible show (_ : Int) < _)); (fail_if_success (with_reducible show (_ : Nat) < _)); first | exact kv_str _ | exact kv_int _ | rfl | assumption | exact flat_strs _ | exact Lv.get (by assumption) 0 rfl | exact Lv.get (by assumption) 1 rfl | exact Lv.get (by assumption) 2 rfl | exact Lv.get (by assumption) 3 rfl | exact Lv.get (by assumption) 4 rfl | exact Lv.get (by assumption) 5 rfl | exact Lv.get (by assumption) 6 rfl | exact SqL.of (Lv.get (by assumption) 0 rfl) | exact SqL.of (Lv.get (by assumption) 1 rfl) | exact SqL.of (Lv.get (by assumption) 2 rfl) | exact SqL.of (Lv.get (by assumption) 3 rfl) | exact SqL.of (Lv.get (by assumption) 4 rfl) | exact SqL.of (Lv.get (by assumption) 5 rfl) | exact Or.inl (SqL.of (Lv.get (by assumption) 0 rfl)) | exact Or.inl (SqL.of (Lv.get (by assumption) 1 rfl)) | exact Or.inl (SqL.of (Lv.get (by assumption) 2 rfl)) | exact Or.inl (SqL.of (Lv.get (by assumption) 3 rfl)) | exact Or.inl (SqL.of (Lv.get (by assumption) 4 rfl)) | exact Or.inl (SqL.of (Lv.get (by assumption) 5 rfl)) | exact ⟨_, SqL.of (Lv.get (by assumption) 0 rfl)⟩ | exact ⟨_, SqL.of (Lv.get (by assumption) 1 rfl)⟩ | exact ⟨_, SqL.of (Lv.get (by assumption) 2 rfl)⟩ | exact ⟨_, SqL.of (Lv.get (by assumption) 3 rfl)⟩ | exact ⟨_, SqL.of (Lv.get (by assumption) 4 rfl)⟩ | exact ⟨_, SqL.of (Lv.get (by assumption) 5 rfl)⟩ | exact Or.inl ⟨_, SqL.of (Lv.get (by assumption) 0 rfl), rfl⟩ | exact Or.inl ⟨_, SqL.of (Lv.get (by assumption) 1 rfl), rfl⟩ | exact Or.inl ⟨_, SqL.of (Lv.get (by assumption) 2 rfl), rfl⟩ | exact Or.inl ⟨_, SqL.of (Lv.get (by assumption) 3 rfl), rfl⟩ | exact Or.inl ⟨_, SqL.of (Lv.get (by assumption) 4 rfl), rfl⟩ | exact Or.inl ⟨_, SqL.of (Lv.get (by assumption) 5 rfl), rfl⟩ | exact Or.inl ⟨rfl, _, SqL.of (Lv.get (by assumption) 0 rfl)⟩ | exact Or.inl ⟨rfl, _, SqL.of (Lv.get (by assumption) 1 rfl)⟩ | exact Or.inl ⟨rfl, _, SqL.of (Lv.get (by assumption) 2 rfl)⟩ | exact Or.inl ⟨rfl, _, SqL.of (Lv.get (by assumption) 3 rfl)⟩ | exact Or.inl ⟨rfl, _, SqL.of (Lv.get (by assumption) 4 rfl)⟩ | exact Or.inl ⟨rfl, _, SqL.of (Lv.get (by assumption) 5 rfl)⟩ | exact Or.inr (SqT.of (Lv.get (by assumption) 0 rfl)) | exact Or.inr (SqT.of (Lv.get (by assumption) 1 rfl)) | exact Or.inr (SqT.of (Lv.get (by assumption) 2 rfl)) | exact Or.inr (SqT.of (Lv.get (by assumption) 3 rfl)) | exact SqT.of (Lv.get (by assumption) 0 rfl) | exact SqT.of (Lv.get (by assumption) 1 rfl) | exact SqT.of (Lv.get (by assumption) 2 rfl) | exact dgetN (Lv.get (by assumption) 0 rfl) (by assumption) | exact dgetN (Lv.get (by assumption) 1 rfl) (by assumption) | exact dgetN (Lv.get (by assumption) 2 rfl) (by assumption) | exact dgetN (Lv.get (by assumption) 3 rfl) (by assumption) | exact dgetN (Lv.get (by assumption) 4 rfl) (by assumption) | exact Or.inl (by assumption) | exact Or.inr (by assumption) | decide | ((with_reducible show _ ∧ _); omega)))) | ((fail_if_success (with_reducible apply @Exists.intro (Nat → _))); (with_reducible apply Exists.intro))))
local macro_rules
  | `(tactic| wide_line with al $lv:ident $l:ident $nl:ident $H:ident $lv1:ident $s1:ident) => `(tactic| (intro $l:ident $nl:ident; generalize he : upd _ _ _ = $H:ident; have $lv1:ident := Lv.alE $lv $nl he; have $s1:ident := sameE $nl he; clear he; (try dsimp only at $lv1:ident)))
  | `(tactic| wide_line with alx $lv:ident $nl:ident $H:ident $lv1:ident $s1:ident) => `(tactic| (generalize he : upd _ _ _ = $H:ident; have $lv1:ident := Lv.alE $lv $nl he; have $s1:ident := sameE $nl he; clear he; (try dsimp only at $lv1:ident)))
  | `(tactic| wide_line with sts $lv:ident $i:num $H:ident $lv1:ident $s0:ident $np:ident $s1:ident) => `(tactic| (generalize he : upd _ _ _ = $H:ident; have $lv1:ident := Lv.stE $lv $i rfl he; have $s1:ident := sameN $s0 $np he; clear he; (try dsimp only at $lv1:ident)))
  | `(tactic| wide_line with stx $lv:ident $H:ident $lv1:ident $d1:ident) => `(tactic| (generalize he : upd _ _ _ = $H:ident; have $lv1:ident := Lv.stE $lv 0 rfl he; have $d1:ident := SameD.storeE (Lv.get $lv 0 rfl) he; clear he; (try dsimp only at $lv1:ident)))
  | `(tactic| wide_line with st $lv:ident $i:num $H:ident $lv1:ident) => `(tactic| (generalize he : upd _ _ _ = $H:ident; have $lv1:ident := Lv.stE $lv $i rfl he; clear he; (try dsimp only at $lv1:ident)))
  | `(tactic| wide_line with stk $lv:ident $i:num $H:ident $lv1:ident $k1:ident) => `(tactic| (generalize he : upd _ _ _ = $H:ident; have $lv1:ident := Lv.stE $lv $i rfl he; have $k1:ident := KeepT.st (Lv.get $lv $i rfl) he; clear he; (try dsimp only at $lv1:ident)))
theorem same_l {K : PySem.W.Frag} {H H' : Hp} {a : Addr} {xs : List V} (s : Same H H') (h : SqL K H a xs) : SqL K H' a xs := by
  rcases h with (h | ⟨o, h⟩) | h
  · exact .inl (.inl (s _ _ h))
  · exact .inl (.inr ⟨o, s _ _ h⟩)
  · exact .inr h
theorem str_ext {x y : Str} (h : x.cps.toList = y.cps.toList) : x = y := by
  obtain ⟨⟨a⟩⟩ := x
  obtain ⟨⟨b⟩⟩ := y
  exact congrArg (fun l => (⟨⟨l⟩⟩ : Str)) h
theorem pairS_sw (x y : Str) : pairS x y = pairS y x := by
  unfold pairS ltS
  by_cases h1 : x.cps.toList < y.cps.toList
  · rw [decide_eq_true h1, if_pos rfl, decide_eq_false (List.lt_asymm h1), if_neg Bool.false_ne_true]
  · rw [decide_eq_false h1, if_neg Bool.false_ne_true]
    by_cases h2 : y.cps.toList < x.cps.toList
    · rw [decide_eq_true h2, if_pos rfl]
    · rw [decide_eq_false h2, if_neg Bool.false_ne_true]
      have : x = y := str_ext (List.le_antisymm h2 h1)
      rw [this]
theorem eqv_str (x y : Str) : PyData.eqv (.str x) (.str y) = decide (x = y) := by
  rw [PyData.eqv, Bool.eq_iff_iff, decide_eq_true_eq, beq_iff_eq]
theorem eqv_tie (p q : Str × Str) : PyData.eqv (tieDat p) (tieDat q) = decide (p = q) := by
  obtain ⟨a, b⟩ := p
  obtain ⟨c, d⟩ := q
  show PyData.eqvAll [.str a, .str b] [.str c, .str d] = _
  rw [PyData.eqvAll, PyData.eqvAll, PyData.eqvAll, eqv_str, eqv_str, Bool.and_true, Bool.eq_iff_iff, decide_eq_true_eq, Bool.and_eq_true, decide_eq_true_eq, decide_eq_true_eq]
  exact ⟨fun ⟨h1, h2⟩ => by rw [h1, h2], fun h => by cases h; exact ⟨rfl, rfl⟩⟩
theorem any_tie (ps : List (Str × Str)) (q : Str × Str) : ((ps.map tieDat).any fun z => PyData.eqv z (tieDat q)) = decide (q ∈ ps) := by
  rw [Bool.eq_iff_iff, decide_eq_true_eq, List.any_map, List.any_eq_true]
  constructor
  · rintro ⟨y, hy, e⟩
    have e : decide (y = q) = true := (eqv_tie y q) ▸ e
    exact (of_decide_eq_true e) ▸ hy
  · exact fun h => ⟨q, h, by show PyData.eqv (tieDat q) (tieDat q) = true; rw [eqv_tie]; exact decide_eq_true rfl⟩
def okTie (t : Str × Str) : Prop := okName t.1 = true ∧ okName t.2 = true
theorem lay_tie {q : Str × Str} (h : okTie q) : (tieDat q).canLay0 = true ∧ (tieDat q).depth ≤ 50 := by
  refine ⟨?_, by simp [tieDat, PyData.depth, PyData.depthAll]⟩
  unfold tieDat
  rw [PyData.canLay0, PyData.canLayAll0, PyData.canLayAll0, PyData.canLayAll0, PyData.canLay0, PyData.canLay0, strOk_of h.1, strOk_of h.2]
  rfl
theorem shaped_tie {q : Str × Str} (h : okTie q) : SeqAt.shaped (tieDat q) = true := by
  obtain ⟨h1, h2⟩ := lay_tie h
  unfold SeqAt.shaped
  rw [h1, Bool.true_and]
  exact decide_eq_true (by omega)
theorem shaped_list {ds : List PyData} (h : ∀ d ∈ ds, d.canLay0 = true ∧ d.depth ≤ 50) : SeqAt.shaped (.list ds) = true := by
  unfold SeqAt.shaped
  rw [Bool.and_eq_true, decide_eq_true_eq]
  refine ⟨?_, ?_⟩
  · rw [PyData.canLay0]
    exact lays_of fun d hd => (h d hd).1
  · have := depths_of (m := 50) fun d hd => (h d hd).2
    simp only [PyData.depth]
    omega
theorem shaped_ties {ps : List (Str × Str)} (h : ∀ t ∈ ps, okTie t) : SeqAt.shaped (.list (ps.map tieDat)) = true := shaped_list fun d hd => by
  obtain ⟨t, ht, rfl⟩ := List.mem_map.mp hd
  exact lay_tie (h t ht)
theorem dp_ties {K : PySem.W.Frag} {H : Hp} : ∀ {xs : List V} {ts : List (Str × Str)}, TiesAt K H xs ts → DpAll K H xs (ts.map tieDat)
  | _, _, .nil => .nil
  | _, _, .cons ⟨a, e, h⟩ t => .cons (by subst e; exact .tup h (.cons (.str _) (.cons (.str _) .nil))) (dp_ties t)
theorem pairP_eq {t u : Str × Str} : pairP t = pairP u ↔ t = u ∨ (t.2, t.1) = u := by
  obtain ⟨x, y⟩ := t
  obtain ⟨a, b⟩ := u
  unfold pairP
  constructor
  · intro e
    dsimp only at e
    rcases pairS_or x y with z | z <;> rcases pairS_or a b with z' | z' <;> rw [z, z'] at e <;> cases e
    · exact .inl rfl
    · exact .inr rfl
    · exact .inr rfl
    · exact .inl rfl
  · rintro (h | h)
    · cases h; rfl
    · cases h
      exact pairS_sw x y
/-- a tie that is not known yet -/
def newTie (ns : List Str) (qs : List (Str × Str)) (d : PyData) : Bool := match tieOf ns d with
  | some t => !decide (t ∈ qs) && !decide ((t.2, t.1) ∈ qs)
  | none => false
theorem newTie_eq {ns : List Str} {qs : List (Str × Str)} {d : PyData} {t : Str × Str} (h : tieOf ns d = some t) : newTie ns qs d = !decide (pairP t ∈ qs.map pairP) := by
  unfold newTie
  rw [h]
  dsimp only
  rw [← Bool.not_or, ← Bool.decide_or]
  refine congrArg _ (decide_eq_decide.mpr ⟨fun z => ?_, fun z => ?_⟩)
  · rcases z with z | z
    · exact List.mem_map.mpr ⟨_, z, rfl⟩
    · exact List.mem_map.mpr ⟨_, z, (pairP_eq.mpr (.inr rfl)).symm⟩
  · obtain ⟨u, hu, e⟩ := List.mem_map.mp z
    rcases pairP_eq.mp e.symm with z | z
    · exact .inl (z ▸ hu)
    · exact .inr (z ▸ hu)
theorem tieBad_new {ns : List Str} {qs ps : List (Str × Str)} {i : Nat} {d : PyData} {ds : List PyData} (h : ∀ k, k ∈ ps ↔ k ∈ qs.map pairP) :
    tieBad ns ps i (d :: ds) = if newTie ns qs d = true then tieBad ns ((qs ++ tiesD ns [d]).map pairP) (i + 1) ds else some i := by
  rw [tieBad]
  cases e : tieOf ns d with
  | none =>
    have : newTie ns qs d = false := by unfold newTie; rw [e]
    rw [this, if_neg Bool.false_ne_true]
  | some t =>
    dsimp only
    rw [newTie_eq e]
    by_cases c : pairP t ∈ qs.map pairP
    · rw [if_pos ((h _).mpr c), decide_eq_true c]; rfl
    · rw [if_neg (fun z => c ((h _).mp z)), decide_eq_false c]
      show _ = if true = true then _ else _
      rw [if_pos rfl]
      refine tieBad_mem _ _ _ _ _ fun k => ?_
      rw [List.map_append, List.mem_append, List.mem_cons, h k]
      have : tiesD ns [d] = [t] := by unfold tiesD; rw [List.filterMap_cons, e]; rfl
      rw [this, List.map_singleton, List.mem_singleton]
      exact Or.comm
theorem tieOf_in {ns : List Str} {d : PyData} {t : Str × Str} (h : tieOf ns d = some t) : t.1 ∈ ns ∧ t.2 ∈ ns := by
  unfold tieOf at h
  split at h
  · split at h
    · split at h
      · rename_i c
        cases h
        exact ⟨c.1, c.2.1⟩
      · cases h
    · cases h
  · cases h
theorem upd_at {H H' : Hp} {p : Addr} {o : HO} (e : upd H p o = H') : H' p = some o := e ▸ upd_same
theorem names_of : ∀ {ds : List PyData}, ds.all nameD = true → ∀ n ∈ strsD ds, okName n = true
  | [], _, _, z => nomatch z
  | d :: ds, h, n, z => by
    rw [List.all_cons, Bool.and_eq_true] at h
    cases d with
    | str x =>
      rcases List.mem_cons.mp z with z | z
      · subst z; exact h.1
      · exact names_of h.2 n z
    | _ => exact names_of h.2 n z
theorem textFrom_le {m : Nat} : ∀ (ts : List Str) (k : Nat) (acc : Str), (∀ t ∈ ts, t.length ≤ m) → (textFrom k acc ts).length ≤ acc.length + ts.length * (m + 2)
  | [], _, _, _ => by show _ ≤ _ + 0 * _; rw [Nat.zero_mul]; exact Nat.le_refl _
  | t :: ts, k, acc, h => by
    have ih := textFrom_le ts (k + 1) (acc ++ (if k > 0 then ", " else "" : String) ++ t) fun x hx => h x (List.mem_cons_of_mem _ hx)
    have e : (acc ++ (if k > 0 then ", " else "" : String) ++ t).length = acc.length + (if k > 0 then 2 else 0) + t.length := by
      rw [strLen_append, strLen_append]
      split <;> rfl
    have ht := h t List.mem_cons_self
    show (textFrom (k + 1) _ ts).length ≤ _
    rw [List.length_cons, Nat.succ_mul]
    rw [e] at ih
    have : (if k > 0 then 2 else 0) ≤ 2 := by split <;> omega
    omega
theorem listText_le {m : Nat} {ts : List Str} (h : ∀ t ∈ ts, t.length ≤ m) : (listText ts).length ≤ ts.length * (m + 2) + 4 := by
  unfold listText
  rw [strLen_append]
  have h1 := textFrom_le ts 0 "[" h
  have e1 : (("[" : String) : Str).length = 1 := rfl
  have e2 : (("]" : String) : Str).length = 1 := rfl
  omega
theorem piled_le {m : Nat} : ∀ {ts : List Str}, (∀ t ∈ ts, t.length ≤ m) → piled ts ≤ ts.length * (m + 2)
  | [], _ => Nat.zero_le _
  | t :: ts, h => by
    rw [piled_cons, List.length_cons, Nat.succ_mul]
    have := piled_le (m := m) (ts := ts) fun x hx => h x (List.mem_cons_of_mem _ hx)
    have := h t List.mem_cons_self
    omega
theorem join_le {m : Nat} {ts : List Str} (h : ∀ t ∈ ts, t.length ≤ m) : (Str.join ", " ts).length ≤ ts.length * (m + 2) := by
  by_cases e : ts = []
  · subst e; exact Nat.zero_le _
  · have := join_length_add ts e
    have := piled_le h
    omega
theorem tupleText_le {m : Nat} {ts : List Str} (h : ∀ t ∈ ts, t.length ≤ m) : (tupleText ts).length ≤ ts.length * (m + 2) + 4 := by
  unfold tupleText
  rw [strLen_append, strLen_append]
  have h1 := join_le h
  have e1 : (("(" : String) : Str).length = 1 := rfl
  have e2 : ((if ts.length == 1 then ",)" else ")" : String) : Str).length ≤ 2 := by split <;> decide
  omega
theorem shownAll_map : ∀ ds : List PyData, PyData.shownAll ds = ds.map PyData.shown
  | [] => by rw [PyData.shownAll]; rfl
  | d :: ds => by rw [PyData.shownAll, shownAll_map ds]; rfl
/-- of depth k and m signs at most -/
def Sm (k m : Nat) (d : PyData) : Prop := d.showable = true ∧ d.depth ≤ k ∧ d.shown.length ≤ m
theorem Sm.mono {k m k' m' : Nat} {d : PyData} (h : Sm k m d) (a : k ≤ k') (b : m ≤ m') : Sm k' m' d := ⟨h.1, Nat.le_trans h.2.1 a, Nat.le_trans h.2.2 b⟩
theorem showables {k m : Nat} : ∀ {ds : List PyData}, (∀ d ∈ ds, Sm k m d) → PyData.showableAll ds = true
  | [], _ => by rw [PyData.showableAll]
  | d :: ds, h => by rw [PyData.showableAll, (h d List.mem_cons_self).1, showables fun e he => h e (List.mem_cons_of_mem _ he)]; rfl
theorem Sm.list {k m n : Nat} {ds : List PyData} (h : ∀ d ∈ ds, Sm k m d) (hn : ds.length ≤ n) : Sm (k + 1) (n * (m + 2) + 4) (.list ds) := by
  refine ⟨by rw [PyData.showable]; exact showables h, by rw [PyData.depth]; have := depths_of (m := k) fun d hd => (h d hd).2.1; omega, ?_⟩
  rw [PyData.shown, shownAll_map]
  refine Nat.le_trans (listText_le (m := m) fun t ht => ?_) ?_
  · obtain ⟨d, hd, rfl⟩ := List.mem_map.mp ht
    exact (h d hd).2.2
  · rw [List.length_map]
    exact Nat.add_le_add_right (Nat.mul_le_mul_right _ hn) _
theorem Sm.tuple {k m n : Nat} {ds : List PyData} (h : ∀ d ∈ ds, Sm k m d) (hn : ds.length ≤ n) : Sm (k + 1) (n * (m + 2) + 4) (.tuple ds) := by
  refine ⟨by rw [PyData.showable]; exact showables h, by rw [PyData.depth]; have := depths_of (m := k) fun d hd => (h d hd).2.1; omega, ?_⟩
  rw [PyData.shown, shownAll_map]
  refine Nat.le_trans (tupleText_le (m := m) fun t ht => ?_) ?_
  · obtain ⟨d, hd, rfl⟩ := List.mem_map.mp ht
    exact (h d hd).2.2
  · rw [List.length_map]
    exact Nat.add_le_add_right (Nat.mul_le_mul_right _ hn) _
def small (x : Str) : Prop := ∀ c ∈ x.cps.toList, c < 16 ^ 8
theorem Sm.str {x : Str} {n : Nat} (h : small x) (l : x.length ≤ n) : Sm 0 (10 * n + 2) (.str x) := by
  refine ⟨by rw [PyData.showable], by rw [PyData.depth]; exact Nat.le_refl _, ?_⟩
  rw [PyData.shown]
  have := PySem.StrLaws.reprText_len x h
  omega
theorem small_name {x : Str} (h : okName x = true) : small x := by
  unfold okName at h
  rw [Bool.and_eq_true] at h
  have h2 := h.2
  unfold okSigns at h2
  intro c hc
  have := List.all_eq_true.mp lt_small c (of_decide_eq_true (List.all_eq_true.mp h2 c hc))
  exact Nat.lt_trans (of_decide_eq_true this) (by decide)
theorem name_len {x : Str} (h : okName x = true) : x.length ≤ 8 := by
  unfold okName at h
  rw [Bool.and_eq_true, Bool.and_eq_true] at h
  exact of_decide_eq_true h.1.2
/-- a thing that may stand among the places or the ties -/
def Fit (d : PyData) : Prop := Sm 3 400 d ∧ plainTie d ∧ ∀ x, d = .str x → x.length ≤ 100
theorem Fit.str {x : Str} (h : small x) (l : x.length ≤ 20) : Fit (.str x) := ⟨(Sm.str h l).mono (by decide) (by decide), trivial, fun y e => by cases e; omega⟩
theorem Fit.name {x : Str} (h : okName x = true) : Fit (.str x) := .str (small_name h) (Nat.le_trans (name_len h) (by decide))
/-- what the new of a heap adds to R -/
def grown (R H H' : Hp) : Hp := fun b => match H b with
  | none => H' b
  | some _ => R b
theorem grown_new {R H H' : Hp} {b : Addr} (h : H b = none) : grown R H H' b = H' b := by unfold grown; rw [h]
theorem grown_old {R H H' : Hp} {b : Addr} {o : HO} (h : H b = some o) : grown R H H' b = R b := by unfold grown; rw [h]
theorem grown_at {R H H' : Hp} {b : Addr} {o : HO} (h : H b = none) (e : H' b = some o) : grown R H H' b = some o := (grown_new h).trans e
abbrev R0 : Hp := fun _ => none
theorem grown_mono {R H H' : Hp} : Same (grown R0 H H') (grown R H H') := fun b o e => by
  cases h : H b with
  | none => rw [grown_new h] at e ⊢; exact e
  | some u => rw [grown_old h] at e; cases e
theorem grown_up {R H H' : Hp} (s : Same R H) : Same R (grown R H H') := fun b o e => by rw [grown_old (s b o e)]; exact e
theorem grown_sub {R H H' : Hp} {p : Addr} (s : Same R H) (np : R p = none) (f : ∀ b o, b ≠ p → H b = some o → H' b = some o) : Same (grown R H H') H' := fun b o e => by
  cases h : H b with
  | none => rw [grown_new h] at e; exact e
  | some u =>
    rw [grown_old h] at e
    have ne : b ≠ p := fun z => by rw [z, np] at e; cases e
    rw [f b u ne h, ← h]
    exact s b o e
theorem cut_drop (xs : List V) (n : Nat) : cutV xs (some (n : Int)) none = xs.drop n := by
  unfold cutV
  rw [HT.sIx_none, HT.sIx_nat]
  by_cases h : n ≤ xs.length
  · rw [Nat.min_eq_left h]
    exact List.take_of_length_le (by rw [List.length_drop]; exact Nat.le_refl _)
  · rw [Nat.min_eq_right (by omega), Nat.sub_self, List.take_zero, List.drop_of_length_le (by omega : xs.length ≤ n)]
theorem small_app {x y : Str} (hx : small x) (hy : small y) : small (x ++ y) := fun c hc => by
  have e : (x ++ y).cps.toList = x.cps.toList ++ y.cps.toList := Array.toList_append
  rw [e] at hc
  rcases List.mem_append.mp hc with z | z
  · exact hx c z
  · exact hy c z
theorem small_cut {x : Str} {lo hi : Option Int} (hx : small x) : small (cutS x lo hi) := fun c hc => hx c (List.mem_of_mem_drop (List.mem_of_mem_take hc))
def consts : List PyData := [.none, .int 5, .bool true, .list [.str "a"], .tuple [.str "a"], .dict [], .str "ab", .tuple [], .list [], .dict [(.str "a", .int 1)], .tuple [.str "ab", .str "ba"], .str "", .str "a", .list [.str "a", .str "a"]]
theorem sm_consts0 : consts.all (fun d => d.showable && decide (d.depth ≤ 3) && decide (d.shown.length ≤ 400)) = true := by decide +kernel
theorem sm_consts (d : PyData) (h : d ∈ consts) : Sm 3 400 d := by
  have z := List.all_eq_true.mp sm_consts0 d h
  rw [Bool.and_eq_true, Bool.and_eq_true] at z
  exact ⟨z.1.1, of_decide_eq_true z.1.2, of_decide_eq_true z.2⟩
theorem small_lit : small "abcdefghi" := by
  have z : ("abcdefghi" : Str).cps.toList.all (fun c => decide (c < 16 ^ 8)) = true := by decide +kernel
  exact fun c hc => of_decide_eq_true (List.all_eq_true.mp z c hc)
theorem pe_hM0 {X : Cx} {k j : Nat} {C : Addr} {m : Str} {ps : List Str} {sp : Sp} {o : Expr} {apos pos : Pos} {ta : TE} {pl : Sem Bool} (h : HasM X.prog X.w X.K X.mg X.base CX0 j C m ps sp) (c : Cls X.K C) (hr : Room k X.A) (l : j ≤ k) (ho : PE X o ta)
    (ht : eval (.Call (.Attribute o m apos) [] [] pos) X.env = (do
      let ov ← eval o X.env
      standAt apos.atName
      let (f, first) ← holding [ov] (getMethod ov m pl)
      callWith pos f first (backTo pos (starEach [] X.env)) (backToKw pos (keywordEach [] X.env))) := by rfl) : PE X (.Call (.Attribute o m apos) [] [] pos) (tMeth C m sp [] E0 ta tNil) := by
  obtain ⟨f, fd, hm, b, F⟩ := h
  exact pe_meth0 ho c hm F (hr.mono l) b .nil pass0 ht
/-- the own == of Web -/
def HasEq (P : Program) (w : World) (K : PySem.W.Frag) (mg : Str → Option Value) (base : Heap) (C : Addr) : Prop := ∃ f fd, FnOk P w K mg base CX0 1 f fd ["self", "other"] (spEqW K C) ∧ PySem.W.findIn K (.ref C) "__eq__" = some (some (.ref f)) ∧ PySem.W.isFn K (.ref f) = true ∧ Binds K fd ["self", "other"] []
def AlikeW (K : PySem.W.Frag) (C a b : Addr) (H : Hp) : Prop := ∃ ns ms ts us, WebAt K C H a ns ts ∧ WebAt K C H b ms us ∧ Good ns ts ∧ Good ms us ∧ eqW ns ms ts us = true
theorem op_eqW {X : Cx} {k : Nat} {C : Addr} (h : HasEq X.prog X.w X.K X.mg X.base C) (hr : Room k X.A) (l : 1 ≤ k) : OpR X (compareOp .Eq) (rEqG (DIns C (AlikeW X.K C))) := by
  obtain ⟨f, fd, F, h1, h2, b⟩ := h
  refine op_eqG (rcG_ins (F.imp fun vs H Q E q => ?_) h1 h2 b pass0) (hr.mono l)
  obtain ⟨x, y, rfl, ⟨ns, ms, ts, us, hx, hy, g1, g2, e⟩, q⟩ := q
  exact ⟨x, y, ns, ms, ts, us, rfl, hx, hy, g1, g2, by rw [e]; exact q H Ext.rfl'⟩
theorem op_neDk {X : Cx} {K : PySem.W.Frag} (hK : X.K = K) (hu : X.A.units + 64 < cLine) : OpR X (compareOp .NotEq) (rNeD K) := hK ▸ op_neD hu
theorem webIns {K : PySem.W.Frag} {C : Addr} {H : Hp} {x : Addr} {ns : List Str} {ts : List (Str × Str)} : WebAt K C H x ns ts → ∃ dx fs, H x = some (.ins C dx fs)
  | ⟨⟨dx, tp, tt, sg, sn, sp, sq, rk, xs, h1, _⟩⟩ => ⟨dx, _, h1⟩
theorem webNo {K : PySem.W.Frag} {C : Addr} {H : Hp} {x : Addr} {ns : List Str} {ts : List (Str × Str)} : WebAt K C H x ns ts → ∃ dx fs, H x = some (.ins C dx fs) ∧ fs.lookup ("sees" : Str) = none ∧ fs.lookup ("parts" : Str) = none ∧ fs.lookup ("tied" : Str) = none ∧ fs.lookup ("without" : Str) = none
  | ⟨⟨dx, tp, tt, sg, sn, sp, sq, rk, xs, h1, _⟩⟩ => ⟨dx, _, h1, rfl, rfl, rfl, rfl⟩
theorem PlanOk.good {n : Nat} {ns : List Str} {ts : List (Str × Str)} (h : PlanOk n ns ts) : Good ns ts := ⟨h.nm, fun t ht => ⟨h.nm _ (h.tie t ht).1, h.nm _ (h.tie t ht).2.1⟩⟩
theorem alike {K : PySem.W.Frag} {C : Addr} {H : Hp} {x y : Addr} {ns : List Str} {ts : List (Str × Str)} (hx : WebAt K C H x ns ts) (hy : WebAt K C H y ns ts) (g : Good ns ts) : DIns C (AlikeW K C) (.ref x) (.ref y) H := by
  obtain ⟨dx, fs, h1⟩ := webIns hx
  obtain ⟨dy, gs, h2⟩ := webIns hy
  exact ⟨x, y, dx, dy, fs, gs, rfl, rfl, h1, h2, ns, ns, ts, ts, hx, hy, g, g, eqW_self g⟩
theorem few_ties12 {n : Nat} {ns : List Str} {ts : List (Str × Str)} (pk : PlanOk n ns ts) (_ : n ≤ 12) : ts.length ≤ 75 := pk.few
theorem PartsR.mem {S : Str → List Str} {ns left : List Str} {ls : List (List Str)} (h : PartsR S ns left ls) : ∀ l ∈ ls, ∀ q ∈ l, q ∈ ns := by
  induction h with
  | nil => exact fun l z => nomatch z
  | cons _ _ ih =>
    intro l hl q hq
    rcases List.mem_cons.mp hl with z | z
    · rw [z] at hq; exact (List.mem_filter.mp hq).1
    · exact ih l z q hq
def rowD (l : List Str) : PyData := .list (l.map PyData.str)
theorem dp_strs {K : PySem.W.Frag} {H : Hp} : ∀ l : List Str, DpAll K H (l.map V.str) (l.map PyData.str)
  | [] => .nil
  | x :: l => .cons (.str x) (dp_strs l)
theorem RowAt.dp {K : PySem.W.Frag} {H : Hp} : ∀ {xs : List V} {ls : List (List Str)}, RowAt H xs ls → DpAll K H xs (ls.map rowD)
  | _, _, .nil => .nil
  | _, _, .cons ⟨a, e, h⟩ t => .cons (by subst e; exact .lst (SqL.of h) (dp_strs _)) (RowAt.dp t)
theorem lay_row {l : List Str} (h : ∀ q ∈ l, okName q = true) : (rowD l).canLay0 = true ∧ (rowD l).depth ≤ 5 := by
  have g : ∀ d ∈ l.map PyData.str, d.canLay0 = true ∧ d.depth ≤ 0 := fun d hd => by
    obtain ⟨n, hn, rfl⟩ := List.mem_map.mp hd
    exact ⟨by rw [PyData.canLay0]; exact strOk_of (h n hn), by simp [PyData.depth]⟩
  refine ⟨by unfold rowD; rw [PyData.canLay0]; exact lays_of fun d hd => (g d hd).1, ?_⟩
  unfold rowD
  rw [PyData.depth]
  have := depths_of (m := 0) fun d hd => (g d hd).2
  omega
theorem shaped_row {l : List Str} (h : ∀ q ∈ l, okName q = true) : SeqAt.shaped (rowD l) = true := by
  obtain ⟨h1, h2⟩ := lay_row h
  unfold SeqAt.shaped
  rw [h1, Bool.true_and]
  exact decide_eq_true (by omega)
theorem shaped_rows {ls : List (List Str)} (h : ∀ l ∈ ls, ∀ q ∈ l, okName q = true) : SeqAt.shaped (.list (ls.map rowD)) = true := shaped_list fun d hd => by
  obtain ⟨l, hl, rfl⟩ := List.mem_map.mp hd
  obtain ⟨h1, h2⟩ := lay_row (h l hl)
  exact ⟨h1, Nat.le_trans h2 (by decide)⟩
theorem lessN_nil (ns : List Str) : lessN ns [] = ns := List.filter_eq_self.mpr fun a _ => rfl
theorem lessT_nil {ns : List Str} {ts : List (Str × Str)} (h : ∀ t ∈ ts, t.1 ∈ ns ∧ t.2 ∈ ns ∧ t.1 ≠ t.2) : lessT ns ts [] = ts := List.filter_eq_self.mpr fun t ht => by
  rw [lessN_nil, decide_eq_true (h t ht).1, decide_eq_true (h t ht).2.1]; rfl
end Pw

set_option Elab.async false
set_option linter.all false
set_option maxRecDepth 100000
set_option maxHeartbeats 4000000
namespace Pw
open PySem PySem.Spec PyProof.Rows L2 Ct
local macro_rules | `(tactic| wide_line) => `(tactic| repeat ((fail_if_success (with_reducible refine at_while ?_)); (fail_if_success (with_reducible refine at_while1 ?_)); (conv => whnf); first | ((with_reducible refine And.intro ?_ ?_); focus (first | (first | ((with_reducible show (_ : Nat) ≤ _); first | exact sz0 | exact sz1 | exact sz2 | exact sz3 | exact sz4 | exact sz5 | exact sz6 | exact sz7 | exact sz8 | exact sz10 | exact sz11 | exact sz12 | exact sz14 | omega | decide | (simp only [List.length_cons, List.length_nil]; omega)) | ((with_reducible show (_ : Int) ≤ _); first | omega | decide) | ((with_reducible show (_ : Int) < _); first | omega | decide) | ((with_reducible show (_ : Nat) < _); omega)) | ((fail_if_success (with_reducible show (_ : Nat) ≤ _)); (fail_if_success (with_reducible show (_ : Int) ≤ _)); (fail_if_success (with_reducible show (_ : Int) < _)); (fail_if_success (with_reducible show (_ : Nat) < _)); first | exact kv_str _ | exact kv_int _ | rfl | assumption | exact flat_strs _ | exact Lv.get (by assumption) 0 rfl | exact Lv.get (by assumption) 1 rfl | exact Lv.get (by assumption) 2 rfl | exact Lv.get (by assumption) 3 rfl | exact Lv.get (by assumption) 4 rfl | exact Lv.get (by assumption) 5 rfl | exact Lv.get (by assumption) 6 rfl | exact SqL.of (Lv.get (by assumption) 0 rfl) | exact SqL.of (Lv.get (by assumption) 1 rfl) | exact SqL.of (Lv.get (by assumption) 2 rfl) | exact SqL.of (Lv.get (by assumption) 3 rfl) | exact SqL.of (Lv.get (by assumption) 4 rfl) | exact SqL.of (Lv.get (by assumption) 5 rfl) | exact Or.inl (SqL.of (Lv.get (by assumption) 0 rfl)) | exact Or.inl (SqL.of (Lv.get (by assumption) 1 rfl)) | exact Or.inl (SqL.of (Lv.get (by assumption) 2 rfl)) | exact Or.inl (SqL.of (Lv.get (by assumption) 3 rfl)) | exact Or.inl (SqL.of (Lv.get (by assumption) 4 rfl)) | exact Or.inl (SqL.of (Lv.get (by assumption) 5 rfl)) | exact ⟨_, SqL.of (Lv.get (by assumption) 0 rfl)⟩ | exact ⟨_, SqL.of (Lv.get (by assumption) 1 rfl)⟩ | exact ⟨_, SqL.of (Lv.get (by assumption) 2 rfl)⟩ | exact ⟨_, SqL.of (Lv.get (by assumption) 3 rfl)⟩ | exact ⟨_, SqL.of (Lv.get (by assumption) 4 rfl)⟩ | exact ⟨_, SqL.of (Lv.get (by assumption) 5 rfl)⟩ | exact Or.inl ⟨_, SqL.of (Lv.get (by assumption) 0 rfl), rfl⟩ | exact Or.inl ⟨_, SqL.of (Lv.get (by assumption) 1 rfl), rfl⟩ | exact Or.inl ⟨_, SqL.of (Lv.get (by assumption) 2 rfl), rfl⟩ | exact Or.inl ⟨_, SqL.of (Lv.get (by assumption) 3 rfl), rfl⟩ | exact Or.inl ⟨_, SqL.of (Lv.get (by assumption) 4 rfl), rfl⟩ | exact Or.inl ⟨_, SqL.of (Lv.get (by assumption) 5 rfl), rfl⟩ | exact Or.inl ⟨rfl, _, SqL.of (Lv.get (by assumption) 0 rfl)⟩ | exact Or.inl ⟨rfl, _, SqL.of (Lv.get (by assumption) 1 rfl)⟩ | exact Or.inl ⟨rfl, _, SqL.of (Lv.get (by assumption) 2 rfl)⟩ | exact Or.inl ⟨rfl, _, SqL.of (Lv.get (by assumption) 3 rfl)⟩ | exact Or.inl ⟨rfl, _, SqL.of (Lv.get (by assumption) 4 rfl)⟩ | exact Or.inl ⟨rfl, _, SqL.of (Lv.get (by assumption) 5 rfl)⟩ | exact Or.inr (SqT.of (Lv.get (by assumption) 0 rfl)) | exact Or.inr (SqT.of (Lv.get (by assumption) 1 rfl)) | exact Or.inr (SqT.of (Lv.get (by assumption) 2 rfl)) | exact Or.inr (SqT.of (Lv.get (by assumption) 3 rfl)) | exact SqT.of (Lv.get (by assumption) 0 rfl) | exact SqT.of (Lv.get (by assumption) 1 rfl) | exact SqT.of (Lv.get (by assumption) 2 rfl) | exact dgetN (Lv.get (by assumption) 0 rfl) (by assumption) | exact dgetN (Lv.get (by assumption) 1 rfl) (by assumption) | exact dgetN (Lv.get (by assumption) 2 rfl) (by assumption) | exact dgetN (Lv.get (by assumption) 3 rfl) (by assumption) | exact dgetN (Lv.get (by assumption) 4 rfl) (by assumption) | exact Or.inl (by assumption) | exact Or.inr (by assumption) | decide | ((with_reducible show _ ∧ _); omega)))) | ((fail_if_success (with_reducible apply @Exists.intro (Nat → _))); (with_reducible apply Exists.intro))))
local macro_rules
  | `(tactic| wide_line with al $lv:ident $l:ident $nl:ident $H:ident $lv1:ident $s1:ident) => `(tactic| (intro $l:ident $nl:ident; generalize he : upd _ _ _ = $H:ident; have $lv1:ident := Lv.alE $lv $nl he; have $s1:ident := sameE $nl he; clear he; (try simp only [List.set_cons_zero, List.set_cons_succ] at $lv1:ident)))
  | `(tactic| wide_line with alx $lv:ident $nl:ident $H:ident $lv1:ident $s1:ident) => `(tactic| (generalize he : upd _ _ _ = $H:ident; have $lv1:ident := Lv.alE $lv $nl he; have $s1:ident := sameE $nl he; clear he; (try simp only [List.set_cons_zero, List.set_cons_succ] at $lv1:ident)))
  | `(tactic| wide_line with sts $lv:ident $i:num $H:ident $lv1:ident $s0:ident $np:ident $s1:ident) => `(tactic| (generalize he : upd _ _ _ = $H:ident; have $lv1:ident := Lv.stE $lv $i rfl he; have $s1:ident := sameN $s0 $np he; clear he; (try simp only [List.set_cons_zero, List.set_cons_succ] at $lv1:ident)))
  | `(tactic| wide_line with stx $lv:ident $H:ident $lv1:ident $d1:ident) => `(tactic| (generalize he : upd _ _ _ = $H:ident; have $lv1:ident := Lv.stE $lv 0 rfl he; have $d1:ident := SameD.storeE (Lv.get $lv 0 rfl) he; clear he; (try simp only [List.set_cons_zero, List.set_cons_succ] at $lv1:ident)))
  | `(tactic| wide_line with st $lv:ident $i:num $H:ident $lv1:ident) => `(tactic| (generalize he : upd _ _ _ = $H:ident; have $lv1:ident := Lv.stE $lv $i rfl he; clear he; (try simp only [List.set_cons_zero, List.set_cons_succ] at $lv1:ident)))
  | `(tactic| wide_line with stk $lv:ident $i:num $H:ident $lv1:ident $k1:ident) => `(tactic| (generalize he : upd _ _ _ = $H:ident; have $lv1:ident := Lv.stE $lv $i rfl he; have $k1:ident := KeepT.st (Lv.get $lv $i rfl) he; clear he; (try simp only [List.set_cons_zero, List.set_cons_succ] at $lv1:ident)))
/-- a plan: a tuple of the places and of the ties -/
def PlanAt (K : PySem.W.Frag) (H : Hp) (t : Addr) (ns : List Str) (ts : List (Str × Str)) : Prop := ∃ tn tt xs, SqT K H t [.ref tn, .ref tt] ∧ SqT K H tn (ns.map V.str) ∧ SqT K H tt xs ∧ TiesAt K H xs ts
theorem PlanAt.same {K : PySem.W.Frag} {H H' : Hp} {t : Addr} {ns : List Str} {ts : List (Str × Str)} (s : Same H H') : PlanAt K H t ns ts → PlanAt K H' t ns ts
  | ⟨tn, tt, xs, h1, h2, h3, h4⟩ => ⟨tn, tt, xs, same_t s h1, same_t s h2, same_t s h3, h4.same s⟩
def spWebOf (K : PySem.W.Frag) (C : Addr) : Sp := fun vs H Q _ => ∃ (t : Addr) (n : Nat) (ns : List Str) (ts : List (Str × Str)), vs = [.ref t] ∧ PlanAt K H t ns ts ∧ PlanOk n ns ts ∧ n ≤ 12 ∧ ∀ x H', Same H H' → H x = none → FreshW K C H H' x ns ts → Q (.ref x) H'
/-- a dict from each place to the new list of those that it sees -/
def NearAt (H0 H : Hp) (D : Addr) (ns : List Str) (ts : List (Str × Str)) : Prop := ∃ l : Str → Addr, H D = some (.dK (ns.map fun p => ((.inr p : Key), V.ref (l p)))) ∧ ∀ p ∈ ns, H (l p) = some (.lst ((seenOf ns ts p).map V.str)) ∧ H0 (l p) = none
theorem NearAt.same {H0 H H' : Hp} {D : Addr} {ns : List Str} {ts : List (Str × Str)} (s : Same H H') : NearAt H0 H D ns ts → NearAt H0 H' D ns ts
  | ⟨l, h1, h2⟩ => ⟨l, s _ _ h1, fun p hp => ⟨s _ _ (h2 p hp).1, (h2 p hp).2⟩⟩
def spNear (K : PySem.W.Frag) : Sp := fun vs H Q _ => ∃ (t : Addr) (n : Nat) (ns : List Str) (ts : List (Str × Str)), vs = [.ref t] ∧ PlanAt K H t ns ts ∧ PlanOk n ns ts ∧ n ≤ 12 ∧ ∀ D H', Same H H' → H D = none → NearAt H H' D ns ts → Q (.ref D) H'
theorem sees_alt {ns : List Str} {ts : List (Str × Str)} (p q : Str) : seesB ts p q = (decide ((p, q) ∈ ts) || (decide ((q, p) ∈ ts) || decide (q = p))) := by
  unfold seesB tiedB
  rw [Bool.eq_iff_iff]
  simp only [Bool.or_eq_true, List.any_eq_true, Bool.and_eq_true, beq_iff_eq, decide_eq_true_eq]
  constructor
  · rintro (h | ⟨t, ht, ⟨h1, h2⟩ | ⟨h1, h2⟩⟩)
    · exact .inr (.inr h)
    · left; subst h1; subst h2; exact ht
    · right; left; subst h1; subst h2; exact ht
  · rintro (h | h | h)
    · exact .inr ⟨_, h, .inl ⟨rfl, rfl⟩⟩
    · exact .inr ⟨_, h, .inr ⟨rfl, rfl⟩⟩
    · exact .inl h
theorem str_dec (x y : Str) : decide (V.str x = V.str y) = decide (x = y) := decide_eq_decide.mpr ⟨fun z => V.str.inj z, fun z => congrArg V.str z⟩
theorem putK_new {kvs : List (Key × V)} {k : Key} {v : V} (h : ∀ q ∈ kvs, q.1 ≠ k) : putK kvs k v = kvs ++ [(k, v)] := by
  unfold putK
  rw [if_neg fun z => ?_]
  obtain ⟨q, hq, e⟩ := List.any_eq_true.mp z
  exact h q hq (of_decide_eq_true e)
section
variable {P : Program} {w : World} {K : PySem.W.Frag} {mg : Str → Option Value} {base : Heap} {C CP CS CT : Addr}
abbrev sLawWeb : Stmt := top ix_law_web
theorem scLawWeb : FnScope ["plan"] ["plan"] (defScope sLawWeb) := ⟨rfl, rfl, rfl, by decide +kernel, rfl, by decide +kernel, by decide +kernel⟩
theorem has_law_web (T : Bn mg) (D : DFE K mg "_law_web" sLawWeb ["plan"]) (hW : HasW P w K mg base 4 C CP CS CT) : Has P w K mg base CX0 6 "_law_web" ["plan"] (spWebOf K C) := by
  refine has_of D scLawWeb (fun vs H Q E h => ?_) (fun f cdv A outer s H vs Q E hr h => ?_)
  · obtain ⟨t, n, ns, ts, rfl, _⟩ := h; rfl
  · obtain ⟨t, n, ns, ts, rfl, ⟨tn, tt, xs, h1, h2, h3, h4⟩, pk, hn, k⟩ := h
    have nd := scLawWeb.nd
    refine ⟨_, (pss_one (ps_ret (pe_web hW hr (by decide) rfl (pa_cons (pe_ix ix_tup (pv 0) pe_int (fun _ _ => rfl)) (pa_cons (pe_ix ix_tup (pv 0) pe_int (fun _ _ => rfl)) pa_nil))))), ?_⟩
    exact ⟨_, rfl, t, _, 0, _, rfl, rfl, h1, rfl, _, rfl, t, _, 1, _, rfl, rfl, h1, rfl, tn, tt, n, ns, xs, ts, rfl, .inr h2, .inr h3, h4, pk, hn, fun x H' s nx hw => k x H' s nx hw⟩
abbrev sLawNear : Stmt := top ix_law_near
theorem scLawNear : FnScope ["plan", "found", "place", "seen", "one"] ["plan"] (defScope sLawNear) := ⟨rfl, rfl, rfl, by decide +kernel, rfl, by decide +kernel, by decide +kernel⟩
theorem has_law_near (T : Bn mg) (D : DFE K mg "_law_near" sLawNear ["plan"]) : Has P w K mg base CX0 1 "_law_near" ["plan"] (spNear K) := by
  refine has_of D scLawNear (fun vs H Q E h => ?_) (fun f cdv A outer s H vs Q E hr h => ?_)
  · obtain ⟨t, n, ns, ts, rfl, _⟩ := h; rfl
  · obtain ⟨t, n, ns, ts, rfl, ⟨tn, tt, xs, h1, h2, h3, h4⟩, pk, hn, k⟩ := h
    have nd := scLawNear.nd
    refine ⟨_, (pss_cons (ps_sv 1 nd pe_dnewK)
    (pss_cons (ps_for PassesOwn.never rfl (pi_sq (pe_ix ix_tup (pv 0) pe_int (fun _ _ => rfl))) (pg_name (i := 2) nd rfl (by first | exact Or.inl rfl | exact Or.inr rfl)) (pss_cons (ps_setLc (i := 3) (own := [("one", 4)]) (g := gName 4) rfl nd rfl rfl (sw_true rfl rfl rfl (by decide +kernel)) (pi_sq (pe_ix ix_tup (pv 0) pe_int (fun _ _ => rfl))) (blkOk_by (own := [("one", 4)]) (N := ["plan", "found", "place", "seen", "one"]) (sc := defScope sLawNear) (by decide +kernel)) (fun _ _ _ _ _ => (pg_name (i := 4) nd rfl (by first | exact Or.inl rfl | exact Or.inr rfl))) (fun _ _ _ _ _ => (pts_one (PW.pt (pw_or (pt_cmpR (op_inTD (K := K) rfl (units65 hr)) (pe_tup (pa_cons (pv 2) (pa_cons (pv 4) pa_nil))) (pe_ix (ix_tupk (K := K) rfl) (pv 0) pe_int (fun _ _ => rfl)) (by first | exact nomark _ | rfl)) (pw_or (pt_cmpR (op_inTD (K := K) rfl (units65 hr)) (pe_tup (pa_cons (pv 4) (pa_cons (pv 2) pa_nil))) (pe_ix (ix_tupk (K := K) rfl) (pv 0) pe_int (fun _ _ => rfl)) (by first | exact nomark _ | rfl)) (pw_or1 (pt_cmpR op_eq (pv 4) (pv 2) (by first | exact nomark _ | rfl)))))))) (fun _ _ _ _ _ => (pv 4)))
    (pss_one (ps_dput (hu_of hr) (pv 1) (pv 2) (pv 3) rfl))))
    (pss_one (ps_ret (pv 1))))), ?_⟩
    have lv := Lv.zero H
    have nl : ns.length ≤ 12 := Nat.le_trans pk.most hn
    wide_line
    intro D0 nD0
    have lvD := lv.al (o := .dK []) nD0
    have s0 := lvD.sm
    refine ⟨_, rfl, t, _, 0, .ref tn, rfl, rfl, same_t s0 h1, rfl, tn, ns.map V.str, rfl, .inr (same_t s0 h2), ?_⟩
    intro J G ex hG wk
    have okt : ∀ u ∈ ts, okTie u := fun u hu => ⟨pk.nm _ (pk.tie u hu).1, pk.nm _ (pk.tie u hu).2.1⟩
    refine for_it wk (fun i σ H' => Hold (∃ (l : Str → Addr) (u2 u3 u4 : Option V), σ = [some (.ref t), some (.ref D0), u2, u3, u4] ∧ Lv H [] H' [(D0, .dK ((ns.take i).map fun p => ((.inr p : Key), V.ref (l p))))] ∧ ∀ p ∈ ns.take i, H' (l p) = some (.lst ((seenOf ns ts p).map V.str)) ∧ H (l p) = none))
      ⟨fun _ => 0, _, _, _, rfl, lvD, fun p hp => by simp at hp⟩ (fun i σ H' _ ⟨_, _, _, _, _, z, _⟩ => hG H' (SqKeep.of (.inr h2) s0 z.sm ex)) ?_ ?_
    · rintro i x σ H1 H2 hi ⟨l, u2, u3, u4, rfl, lv1, hl⟩ ⟨rfl, ex1⟩
      obtain ⟨p, hp, rfl⟩ := str_at ex1
      have hi' : i < ns.length := by simpa using hi
      have s1 := lv1.sm
      refine ⟨_, rfl, t, _, 0, .ref tn, rfl, rfl, same_t s1 h1, rfl, tn, ns.map V.str, rfl, .inr (same_t s1 h2), ?_⟩
      intro J2 G2 ex2 hG2 wk2 L nL
      have lvL := lv1.al (o := .lst []) nL
      refine lc_it wk2 (fun j H' => Hold (Lv H [] H' [(L, .lst (((ns.take j).filter (seesB ts p)).map V.str)), (D0, .dK ((ns.take i).map fun p => ((.inr p : Key), V.ref (l p))))] ∧ Same H2 H')) ⟨lvL, same_new nL⟩ (fun j H' _ ⟨z, z2⟩ => hG2 H' (SqKeep.of (.inr (same_t s1 h2)) (.refl _) z2 ex2)) ?_ ?_
      · rintro j y H3 H4 hj ⟨lv3, s3⟩ ⟨rfl, ex3⟩
        obtain ⟨q, hq, rfl⟩ := str_at ex3
        have tkj : (ns.take (j + 1)) = ns.take j ++ [q] := take_next2 hq
        have hj' : j < ns.length := by simpa using hj
        refine ⟨rfl, _, rfl, _, rfl, sz2, fun T1 n1 => ?_⟩
        wide_line with alx lv3 n1 H5 lv5 s5
        have tup1 := lv5.get 0 rfl
        have okp : okTie (p, q) := ⟨pk.nm _ (List.mem_of_getElem? hp), pk.nm _ (List.mem_of_getElem? hq)⟩
        have okq : okTie (q, p) := ⟨pk.nm _ (List.mem_of_getElem? hq), pk.nm _ (List.mem_of_getElem? hp)⟩
        have d5 : Dp K H5 (.ref tt) (.tuple (ts.map tieDat)) := .tup (same_t lv5.sm h3) (dp_ties (h4.same lv5.sm))
        refine ⟨_, rfl, t, _, 1, .ref tt, rfl, rfl, same_t lv5.sm h1, rfl, tieDat (p, q), ts.map tieDat, .tup (SqT.of tup1) (.cons (.str _) (.cons (.str _) .nil)), d5, shaped_tie okp, shaped_ties okt, ?_⟩
        rw [any_tie]
        have fin : ∀ H6, Lv H [] H6 [(L, .lst (((ns.take j).filter (seesB ts p)).map V.str)), (D0, .dK ((ns.take i).map fun p => ((.inr p : Key), V.ref (l p))))] → Same H2 H6 → seesB ts p q = true → ∃ acc, H6 L = some (.lst acc) ∧ acc.length < sizeLine ∧
            Hold (Lv H [] (upd H6 L (.lst (acc ++ [V.str q]))) [(L, .lst (((ns.take (j + 1)).filter (seesB ts p)).map V.str)), (D0, .dK ((ns.take i).map fun p => ((.inr p : Key), V.ref (l p))))] ∧ Same H2 (upd H6 L (.lst (acc ++ [V.str q])))) := fun H6 lv6 s6 e => by
          refine ⟨_, lv6.get 0 rfl, ?_, ?_, same_upd s6 nL⟩
          · have h1 := List.length_filter_le (seesB ts p) (ns.take j)
            have h2 := List.length_take_le j ns
            rw [List.length_map, sizeLine_eq]
            omega
          · rw [tkj, List.filter_append, List.map_append, show [q].filter (seesB ts p) = [q] by simp [e]]
            exact lv6.stE 0 rfl rfl
        have nay : ∀ H6, Lv H [] H6 [(L, .lst (((ns.take j).filter (seesB ts p)).map V.str)), (D0, .dK ((ns.take i).map fun p => ((.inr p : Key), V.ref (l p))))] → Same H2 H6 → seesB ts p q = false →
            Hold (Lv H [] H6 [(L, .lst (((ns.take (j + 1)).filter (seesB ts p)).map V.str)), (D0, .dK ((ns.take i).map fun p => ((.inr p : Key), V.ref (l p))))] ∧ Same H2 H6) := fun H6 lv6 s6 e => by
          rw [tkj, List.filter_append, show [q].filter (seesB ts p) = [] by simp [e], List.append_nil]
          exact ⟨lv6, s6⟩
        have alt := sees_alt (ns := ns) (ts := ts) p q
        refine ⟨_, rfl, ?_⟩
        refine ite2 (fun c1 => ?_) (fun c1 => ?_)
        · have c1 : decide ((p, q) ∈ ts) = true := c1
          rw [c1, Bool.true_or] at alt
          exact iteT ⟨_, rfl, fin H5 (lv5.picks [1, 2] rfl (by decide) (by simp)) (s3.trans s5) alt⟩
        · have c1 : decide ((p, q) ∈ ts) = false := by simpa using c1
          rw [c1, Bool.false_or] at alt
          refine ⟨_, rfl, _, rfl, sz2, fun T2 n2 => ?_⟩
          wide_line with alx lv5 n2 H6 lv6 s6
          have d6 : Dp K H6 (.ref tt) (.tuple (ts.map tieDat)) := .tup (same_t lv6.sm h3) (dp_ties (h4.same lv6.sm))
          refine ⟨_, rfl, t, _, 1, .ref tt, rfl, rfl, same_t lv6.sm h1, rfl, tieDat (q, p), ts.map tieDat, .tup (SqT.of (lv6.get 0 rfl)) (.cons (.str _) (.cons (.str _) .nil)), d6, shaped_tie okq, shaped_ties okt, ?_⟩
          rw [any_tie]
          have lv6' := lv6.picks [2, 3] rfl (by decide) (by simp)
          have s36 := s3.trans (s5.trans s6)
          refine ⟨_, rfl, ?_⟩
          refine ite2 (fun c2 => ?_) (fun c2 => ?_)
          · have c2 : decide ((q, p) ∈ ts) = true := c2
            rw [c2, Bool.true_or] at alt
            exact iteT ⟨_, rfl, fin H6 lv6' s36 alt⟩
          · have c2 : decide ((q, p) ∈ ts) = false := by simpa using c2
            rw [c2, Bool.false_or] at alt
            refine ⟨_, rfl, _, rfl, rfl, _, rfl, ?_⟩
            rw [str_dec]
            refine ite2 (fun c3 => ?_) (fun c3 => ?_)
            · exact ⟨_, rfl, fin H6 lv6' s36 (by rw [alt]; exact c3)⟩
            · exact nay H6 lv6' s36 (by rw [alt]; simpa using c3)
      · rintro H3 ⟨lv3, s3⟩
        rw [List.length_map, List.take_length] at lv3
        have nlp := free_of (s1) nL
        have tki : ns.take (i + 1) = ns.take i ++ [p] := take_next2 hp
        have np : p ∉ ns.take i := fun z => by
          obtain ⟨j, hj⟩ := List.mem_iff_getElem?.mp z
          have jl : j < i := by
            have := (List.getElem?_eq_some_iff.mp hj).1
            rw [List.length_take] at this
            omega
          rw [List.getElem?_take_of_lt jl] at hj
          exact absurd (idx_inj pk.nd hj hp) (by omega)
        refine ⟨_, rfl, _, rfl, _, rfl, D0, _, rfl, DPut.k (k := Sum.inr p) (lv3.get 1 rfl) ?_, ?_⟩
        · rw [List.length_map, sizeLine_eq]
          have := List.length_take_le i ns
          omega
        have ep : putK ((ns.take i).map fun q => ((Sum.inr q : Key), V.ref (l q))) (Sum.inr p) (V.ref L) = (ns.take (i + 1)).map fun q => ((Sum.inr q : Key), V.ref (if q = p then L else l q)) := by
          rw [putK_new, tki, List.map_append]
          · refine congr (congrArg _ (List.map_congr_left fun q hq => ?_)) ?_
            · rw [if_neg (show ¬ q = p from fun z => np (z ▸ hq))]
            · simp
          · rintro q hq e
            obtain ⟨r, hr, rfl⟩ := List.mem_map.mp hq
            exact np (Sum.inr.inj e ▸ hr)
        rw [ep]
        generalize he : upd H3 D0 _ = H4
        have lv4 := lv3.stE 1 rfl he
        have kp : ∀ b ys, H3 b = some (.lst ys) → H4 b = some (.lst ys) := fun b ys z => by
          rw [← he, upd_ne (fun q => by rw [q, lv3.get 1 rfl] at z; cases z)]
          exact z
        refine ⟨_, _, _, _, rfl, lv4.picks [1] rfl (by decide) (by simp), fun q hq => ?_⟩
        rw [tki] at hq
        rcases List.mem_append.mp hq with hq | hq
        · rw [if_neg (show ¬ q = p from fun z => np (z ▸ hq))]
          exact ⟨kp _ _ (s3 _ _ (hl q hq).1), (hl q hq).2⟩
        · rw [List.mem_singleton.mp hq, if_pos rfl]
          exact ⟨kp _ _ (lv3.get 0 rfl), nlp⟩
    · rintro σ H1 ⟨l, u2, u3, u4, rfl, lv1, hl⟩
      rw [List.length_map, List.take_length] at lv1 hl
      exact ⟨_, rfl, k D0 H1 lv1.sm nD0 ⟨l, lv1.get 0 rfl, hl⟩⟩
end
end Pw

set_option Elab.async false
set_option linter.all false
set_option maxRecDepth 100000
set_option maxHeartbeats 4000000
namespace Pw
open PySem PySem.Spec PyProof.Rows L2 Ct
local macro_rules | `(tactic| wide_line) => `(tactic| repeat ((fail_if_success (with_reducible refine at_while ?_)); (fail_if_success (with_reducible refine at_while1 ?_)); (conv => whnf); first | ((with_reducible refine And.intro ?_ ?_); focus (first | (first | ((with_reducible show (_ : Nat) ≤ _); first | exact sz0 | exact sz1 | exact sz2 | exact sz3 | exact sz4 | exact sz5 | exact sz6 | exact sz7 | exact sz8 | exact sz10 | exact sz11 | exact sz12 | exact sz14 | omega | decide | (simp only [List.length_cons, List.length_nil]; omega)) | ((with_reducible show (_ : Int) ≤ _); first | omega | decide) | ((with_reducible show (_ : Int) < _); first | omega | decide) | ((with_reducible show (_ : Nat) < _); omega)) | ((fail_if_success (with_reducible show (_ : Nat) ≤ _)); (fail_if_success (with_reducible show (_ : Int) ≤ _)); (fail_if_success (with_reducible show (_ : Int) < _)); (fail_if_success (with_reducible show (_ : Nat) < _)); first | exact kv_str _ | exact kv_int _ | rfl | assumption | exact flat_strs _ | exact Lv.get (by assumption) 0 rfl | exact Lv.get (by assumption) 1 rfl | exact Lv.get (by assumption) 2 rfl | exact Lv.get (by assumption) 3 rfl | exact Lv.get (by assumption) 4 rfl | exact Lv.get (by assumption) 5 rfl | exact Lv.get (by assumption) 6 rfl | exact SqL.of (Lv.get (by assumption) 0 rfl) | exact SqL.of (Lv.get (by assumption) 1 rfl) | exact SqL.of (Lv.get (by assumption) 2 rfl) | exact SqL.of (Lv.get (by assumption) 3 rfl) | exact SqL.of (Lv.get (by assumption) 4 rfl) | exact SqL.of (Lv.get (by assumption) 5 rfl) | exact Or.inl (SqL.of (Lv.get (by assumption) 0 rfl)) | exact Or.inl (SqL.of (Lv.get (by assumption) 1 rfl)) | exact Or.inl (SqL.of (Lv.get (by assumption) 2 rfl)) | exact Or.inl (SqL.of (Lv.get (by assumption) 3 rfl)) | exact Or.inl (SqL.of (Lv.get (by assumption) 4 rfl)) | exact Or.inl (SqL.of (Lv.get (by assumption) 5 rfl)) | exact ⟨_, SqL.of (Lv.get (by assumption) 0 rfl)⟩ | exact ⟨_, SqL.of (Lv.get (by assumption) 1 rfl)⟩ | exact ⟨_, SqL.of (Lv.get (by assumption) 2 rfl)⟩ | exact ⟨_, SqL.of (Lv.get (by assumption) 3 rfl)⟩ | exact ⟨_, SqL.of (Lv.get (by assumption) 4 rfl)⟩ | exact ⟨_, SqL.of (Lv.get (by assumption) 5 rfl)⟩ | exact Or.inl ⟨_, SqL.of (Lv.get (by assumption) 0 rfl), rfl⟩ | exact Or.inl ⟨_, SqL.of (Lv.get (by assumption) 1 rfl), rfl⟩ | exact Or.inl ⟨_, SqL.of (Lv.get (by assumption) 2 rfl), rfl⟩ | exact Or.inl ⟨_, SqL.of (Lv.get (by assumption) 3 rfl), rfl⟩ | exact Or.inl ⟨_, SqL.of (Lv.get (by assumption) 4 rfl), rfl⟩ | exact Or.inl ⟨_, SqL.of (Lv.get (by assumption) 5 rfl), rfl⟩ | exact Or.inl ⟨rfl, _, SqL.of (Lv.get (by assumption) 0 rfl)⟩ | exact Or.inl ⟨rfl, _, SqL.of (Lv.get (by assumption) 1 rfl)⟩ | exact Or.inl ⟨rfl, _, SqL.of (Lv.get (by assumption) 2 rfl)⟩ | exact Or.inl ⟨rfl, _, SqL.of (Lv.get (by assumption) 3 rfl)⟩ | exact Or.inl ⟨rfl, _, SqL.of (Lv.get (by assumption) 4 rfl)⟩ | exact Or.inl ⟨rfl, _, SqL.of (Lv.get (by assumption) 5 rfl)⟩ | exact Or.inr (SqT.of (Lv.get (by assumption) 0 rfl)) | exact Or.inr (SqT.of (Lv.get (by assumption) 1 rfl)) | exact Or.inr (SqT.of (Lv.get (by assumption) 2 rfl)) | exact Or.inr (SqT.of (Lv.get (by assumption) 3 rfl)) | exact SqT.of (Lv.get (by assumption) 0 rfl) | exact SqT.of (Lv.get (by assumption) 1 rfl) | exact SqT.of (Lv.get (by assumption) 2 rfl) | exact dgetN (Lv.get (by assumption) 0 rfl) (by assumption) | exact dgetN (Lv.get (by assumption) 1 rfl) (by assumption) | exact dgetN (Lv.get (by assumption) 2 rfl) (by assumption) | exact dgetN (Lv.get (by assumption) 3 rfl) (by assumption) | exact dgetN (Lv.get (by assumption) 4 rfl) (by assumption) | exact Or.inl (by assumption) | exact Or.inr (by assumption) | decide | ((with_reducible show _ ∧ _); omega)))) | ((fail_if_success (with_reducible apply @Exists.intro (Nat → _))); (with_reducible apply Exists.intro))))
local macro_rules
  | `(tactic| wide_line with al $lv:ident $l:ident $nl:ident $H:ident $lv1:ident $s1:ident) => `(tactic| (intro $l:ident $nl:ident; generalize he : upd _ _ _ = $H:ident; have $lv1:ident := Lv.alE $lv $nl he; have $s1:ident := sameE $nl he; clear he; (try simp only [List.set_cons_zero, List.set_cons_succ] at $lv1:ident)))
  | `(tactic| wide_line with alx $lv:ident $nl:ident $H:ident $lv1:ident $s1:ident) => `(tactic| (generalize he : upd _ _ _ = $H:ident; have $lv1:ident := Lv.alE $lv $nl he; have $s1:ident := sameE $nl he; clear he; (try simp only [List.set_cons_zero, List.set_cons_succ] at $lv1:ident)))
  | `(tactic| wide_line with sts $lv:ident $i:num $H:ident $lv1:ident $s0:ident $np:ident $s1:ident) => `(tactic| (generalize he : upd _ _ _ = $H:ident; have $lv1:ident := Lv.stE $lv $i rfl he; have $s1:ident := sameN $s0 $np he; clear he; (try simp only [List.set_cons_zero, List.set_cons_succ] at $lv1:ident)))
  | `(tactic| wide_line with stx $lv:ident $H:ident $lv1:ident $d1:ident) => `(tactic| (generalize he : upd _ _ _ = $H:ident; have $lv1:ident := Lv.stE $lv 0 rfl he; have $d1:ident := SameD.storeE (Lv.get $lv 0 rfl) he; clear he; (try simp only [List.set_cons_zero, List.set_cons_succ] at $lv1:ident)))
  | `(tactic| wide_line with st $lv:ident $i:num $H:ident $lv1:ident) => `(tactic| (generalize he : upd _ _ _ = $H:ident; have $lv1:ident := Lv.stE $lv $i rfl he; clear he; (try simp only [List.set_cons_zero, List.set_cons_succ] at $lv1:ident)))
  | `(tactic| wide_line with stk $lv:ident $i:num $H:ident $lv1:ident $k1:ident) => `(tactic| (generalize he : upd _ _ _ = $H:ident; have $lv1:ident := Lv.stE $lv $i rfl he; have $k1:ident := KeepT.st (Lv.get $lv $i rfl) he; clear he; (try simp only [List.set_cons_zero, List.set_cons_succ] at $lv1:ident)))
theorem dec_int {a b : Int} : decide (V.int a = V.int b) = decide (a = b) := decide_eq_decide.mpr ⟨fun z => V.int.inj z, fun z => congrArg V.int z⟩
/-- may a line's words stand as the next place -/
def nextP (ps ws : List Str) : Bool := match ws with
  | [a, w] => decide (a = "place") && (!decide (ps.length = 12) && (okName w && !decide (w ∈ ps)))
  | _ => false
def spNextP (K : PySem.W.Frag) : Sp := fun vs H Q _ => ∃ (p w : Addr) (ps ws : List Str), vs = [.ref p, .ref w] ∧ SqL K H p (ps.map V.str) ∧ SqL K H w (ws.map V.str) ∧ (∀ x ∈ ws, x.length ≤ 16000000) ∧ ∀ H', Same H H' → Q (.bl (nextP ps ws)) H'
section
variable {P : Program} {w : World} {K : PySem.W.Frag} {mg : Str → Option Value} {base : Heap} {C : Addr}
abbrev sIsNextPlace : Stmt := top ix_is_next_place
theorem scIsNextPlace : FnScope ["places", "words"] ["places", "words"] (defScope sIsNextPlace) := ⟨rfl, rfl, rfl, by decide +kernel, rfl, by decide +kernel, by decide +kernel⟩
theorem has_is_next_place (T : Bn mg) (M : Mc mg) (D : DFE K mg "_is_next_place" sIsNextPlace ["places", "words"]) (his_name : Has P w K mg base CX0 1 "is_name" ["value"] (spIsName K)) : Has P w K mg base CX0 2 "_is_next_place" ["places", "words"] (spNextP K) := by
  refine has_of D scIsNextPlace (fun vs H Q E h => ?_) (fun f cdv A outer s H vs Q E hr h => ?_)
  · obtain ⟨p, w, ps, ws, rfl, _⟩ := h; rfl
  · obtain ⟨p, w, ps, ws, rfl, hp, hw, sz, k⟩ := h
    have nd := scIsNextPlace.nd
    refine ⟨_, (pss_cons (ps_if (PW.pt (pw_or (pt_cmpR op_ne (pe_callB call_len (by rfl) T.z_len (by decide +kernel) (pa_cons (pv 1) pa_nil)) pe_int (by first | exact nomark _ | rfl)) (pw_or (pt_cmpR op_ne (pe_ix ix_list (pv 1) pe_int (fun _ _ => rfl)) pe_str (by first | exact nomark _ | rfl)) (pw_or1 (pt_cmpR op_eq (pe_callB call_len_seq (by rfl) T.z_len (by decide +kernel) (pa_cons (pv 0) pa_nil)) (pe_gi rfl M.g_MOST_PLACES) (by first | exact nomark _ | rfl)))))) (pss_one (ps_ret pe_bl)) pss_nil)
    (pss_one (ps_ret (pe_and (pe_h his_name hr (by decide) rfl (pa_cons (pe_ix ix_list (pv 1) pe_int (fun _ _ => rfl)) pa_nil)) (pe_one (pe_cmpR op_notIn_seq (pe_ix ix_list (pv 1) pe_int (fun _ _ => rfl)) (pv 0) (by first | exact nomark _ | rfl))))))), ?_⟩
    refine ⟨_, rfl, .ref w, _, rfl, .inl ⟨_, hw, rfl⟩, rfl, ?_⟩
    rw [dec_int]
    refine ⟨_, rfl, ?_⟩
    have no : nextP ps ws = false → Q (.bl false) H := fun e => e ▸ k H (.refl _)
    have two : (∃ a b, ws = [a, b]) ∨ ((((ws.map V.str).length : Nat) : Int) ≠ 2 ∧ nextP ps ws = false) := by
      match ws with
      | [] => exact .inr ⟨by decide, rfl⟩
      | [_] => exact .inr ⟨by simp only [List.length_map, List.length_cons, List.length_nil]; omega, rfl⟩
      | [a, b] => exact .inl ⟨a, b, rfl⟩
      | _ :: _ :: _ :: l => exact .inr ⟨by simp only [List.length_map, List.length_cons]; omega, rfl⟩
    rcases two with ⟨a, b, rfl⟩ | ⟨ne, e⟩
    case inr =>
      rw [decide_eq_false ne]
      exact iteT (iteT (no e))
    rw [show decide ((((([a, b] : List Str).map V.str).length : Nat) : Int) = 2) = true from rfl]
    refine iteF ⟨_, rfl, w, _, 0, .str a, rfl, rfl, hw, atI_nat (j := 0) rfl, rfl, ?_⟩
    rw [str_dec]
    refine ⟨_, rfl, ?_⟩
    by_cases ca : a = "place"
    case neg =>
      rw [decide_eq_false ca]
      exact iteT (iteT (no (by show (decide (a = "place") && _) = false; rw [decide_eq_false ca]; rfl)))
    rw [decide_eq_true ca]
    refine iteF ?_
    obtain ⟨_, gM⟩ := M.g_MOST_PLACES
    refine ⟨_, rfl, p, _, rfl, .inl hp, ?_⟩
    have fin : ∀ c : Bool, c = decide (ps.length = 12) → True := fun _ _ => trivial
    refine ⟨rfl, ?_⟩
    rw [dec_int]
    refine ⟨_, rfl, ?_⟩
    have el : decide ((((ps.map V.str).length : Nat) : Int) = 12) = decide (ps.length = 12) := decide_eq_decide.mpr (by rw [List.length_map]; omega)
    rw [el]
    by_cases cl : ps.length = 12
    case pos =>
      rw [decide_eq_true cl]
      exact iteT (no (by show (decide (a = "place") && (!decide (ps.length = 12) && _)) = false; rw [decide_eq_true cl, Bool.not_true, Bool.false_and, Bool.and_false]))
    rw [decide_eq_false cl]
    refine iteF ?_
    refine ⟨_, rfl, w, _, 1, .str b, rfl, rfl, hw, atI_nat (j := 1) rfl, .str b, .str b, rfl, .str b, fun z e => by cases e; rw [sizeLine_eq]; exact Nat.le_trans (sz b (by simp)) (by decide), fun H1 s1 => ?_⟩
    have res : nextP ps [a, b] = (okName b && !decide (b ∈ ps)) := by
      show (decide (a = "place") && (!decide (ps.length = 12) && (okName b && !decide (b ∈ ps)))) = _
      rw [decide_eq_true ca, decide_eq_false cl]
      rfl
    rw [res] at k
    refine ⟨_, rfl, ?_⟩
    have e0 : nameD (.str b) = okName b := rfl
    rw [e0]
    cases hn : okName b with
    | false =>
      rw [hn] at k
      exact iteF (k H1 s1)
    | true =>
      rw [hn] at k
      refine iteT ⟨_, rfl, w, _, 1, .str b, rfl, rfl, s1.seq hw, atI_nat (j := 1) rfl, _, rfl, p, _, rfl, .inl (s1.seq hp), rfl, flat_strs _, ?_⟩
      rw [if_pos rfl, in_strs]
      exact k H1 s1
end
end Pw

set_option Elab.async false
set_option linter.all false
set_option maxRecDepth 100000
set_option maxHeartbeats 4000000
namespace Pw
open PySem PySem.Spec PyProof.Rows L2 Ct
local macro_rules | `(tactic| wide_line) => `(tactic| repeat ((fail_if_success (with_reducible refine at_while ?_)); (fail_if_success (with_reducible refine at_while1 ?_)); (conv => whnf); first | ((with_reducible refine And.intro ?_ ?_); focus (first | (first | ((with_reducible show (_ : Nat) ≤ _); first | exact sz0 | exact sz1 | exact sz2 | exact sz3 | exact sz4 | exact sz5 | exact sz6 | exact sz7 | exact sz8 | exact sz10 | exact sz11 | exact sz12 | exact sz14 | omega | decide | (simp only [List.length_cons, List.length_nil]; omega)) | ((with_reducible show (_ : Int) ≤ _); first | omega | decide) | ((with_reducible show (_ : Int) < _); first | omega | decide) | ((with_reducible show (_ : Nat) < _); omega)) | ((fail_if_success (with_reducible show (_ : Nat) ≤ _)); (fail_if_success (with_reducible show (_ : Int) ≤ _)); (fail_if_success (with_reducible show (_ : Int) < _)); (fail_if_success (with_reducible show (_ : Nat) < _)); first | exact kv_str _ | exact kv_int _ | rfl | assumption | exact flat_strs _ | exact Lv.get (by assumption) 0 rfl | exact Lv.get (by assumption) 1 rfl | exact Lv.get (by assumption) 2 rfl | exact Lv.get (by assumption) 3 rfl | exact Lv.get (by assumption) 4 rfl | exact Lv.get (by assumption) 5 rfl | exact Lv.get (by assumption) 6 rfl | exact SqL.of (Lv.get (by assumption) 0 rfl) | exact SqL.of (Lv.get (by assumption) 1 rfl) | exact SqL.of (Lv.get (by assumption) 2 rfl) | exact SqL.of (Lv.get (by assumption) 3 rfl) | exact SqL.of (Lv.get (by assumption) 4 rfl) | exact SqL.of (Lv.get (by assumption) 5 rfl) | exact Or.inl (SqL.of (Lv.get (by assumption) 0 rfl)) | exact Or.inl (SqL.of (Lv.get (by assumption) 1 rfl)) | exact Or.inl (SqL.of (Lv.get (by assumption) 2 rfl)) | exact Or.inl (SqL.of (Lv.get (by assumption) 3 rfl)) | exact Or.inl (SqL.of (Lv.get (by assumption) 4 rfl)) | exact Or.inl (SqL.of (Lv.get (by assumption) 5 rfl)) | exact ⟨_, SqL.of (Lv.get (by assumption) 0 rfl)⟩ | exact ⟨_, SqL.of (Lv.get (by assumption) 1 rfl)⟩ | exact ⟨_, SqL.of (Lv.get (by assumption) 2 rfl)⟩ | exact ⟨_, SqL.of (Lv.get (by assumption) 3 rfl)⟩ | exact ⟨_, SqL.of (Lv.get (by assumption) 4 rfl)⟩ | exact ⟨_, SqL.of (Lv.get (by assumption) 5 rfl)⟩ | exact Or.inl ⟨_, SqL.of (Lv.get (by assumption) 0 rfl), rfl⟩ | exact Or.inl ⟨_, SqL.of (Lv.get (by assumption) 1 rfl), rfl⟩ | exact Or.inl ⟨_, SqL.of (Lv.get (by assumption) 2 rfl), rfl⟩ | exact Or.inl ⟨_, SqL.of (Lv.get (by assumption) 3 rfl), rfl⟩ | exact Or.inl ⟨_, SqL.of (Lv.get (by assumption) 4 rfl), rfl⟩ | exact Or.inl ⟨_, SqL.of (Lv.get (by assumption) 5 rfl), rfl⟩ | exact Or.inl ⟨rfl, _, SqL.of (Lv.get (by assumption) 0 rfl)⟩ | exact Or.inl ⟨rfl, _, SqL.of (Lv.get (by assumption) 1 rfl)⟩ | exact Or.inl ⟨rfl, _, SqL.of (Lv.get (by assumption) 2 rfl)⟩ | exact Or.inl ⟨rfl, _, SqL.of (Lv.get (by assumption) 3 rfl)⟩ | exact Or.inl ⟨rfl, _, SqL.of (Lv.get (by assumption) 4 rfl)⟩ | exact Or.inl ⟨rfl, _, SqL.of (Lv.get (by assumption) 5 rfl)⟩ | exact Or.inr (SqT.of (Lv.get (by assumption) 0 rfl)) | exact Or.inr (SqT.of (Lv.get (by assumption) 1 rfl)) | exact Or.inr (SqT.of (Lv.get (by assumption) 2 rfl)) | exact Or.inr (SqT.of (Lv.get (by assumption) 3 rfl)) | exact SqT.of (Lv.get (by assumption) 0 rfl) | exact SqT.of (Lv.get (by assumption) 1 rfl) | exact SqT.of (Lv.get (by assumption) 2 rfl) | exact dgetN (Lv.get (by assumption) 0 rfl) (by assumption) | exact dgetN (Lv.get (by assumption) 1 rfl) (by assumption) | exact dgetN (Lv.get (by assumption) 2 rfl) (by assumption) | exact dgetN (Lv.get (by assumption) 3 rfl) (by assumption) | exact dgetN (Lv.get (by assumption) 4 rfl) (by assumption) | exact Or.inl (by assumption) | exact Or.inr (by assumption) | decide | ((with_reducible show _ ∧ _); omega)))) | ((fail_if_success (with_reducible apply @Exists.intro (Nat → _))); (with_reducible apply Exists.intro))))
local macro_rules
  | `(tactic| wide_line with al $lv:ident $l:ident $nl:ident $H:ident $lv1:ident $s1:ident) => `(tactic| (intro $l:ident $nl:ident; generalize he : upd _ _ _ = $H:ident; have $lv1:ident := Lv.alE $lv $nl he; have $s1:ident := sameE $nl he; clear he; (try simp only [List.set_cons_zero, List.set_cons_succ] at $lv1:ident)))
  | `(tactic| wide_line with alx $lv:ident $nl:ident $H:ident $lv1:ident $s1:ident) => `(tactic| (generalize he : upd _ _ _ = $H:ident; have $lv1:ident := Lv.alE $lv $nl he; have $s1:ident := sameE $nl he; clear he; (try simp only [List.set_cons_zero, List.set_cons_succ] at $lv1:ident)))
  | `(tactic| wide_line with sts $lv:ident $i:num $H:ident $lv1:ident $s0:ident $np:ident $s1:ident) => `(tactic| (generalize he : upd _ _ _ = $H:ident; have $lv1:ident := Lv.stE $lv $i rfl he; have $s1:ident := sameN $s0 $np he; clear he; (try simp only [List.set_cons_zero, List.set_cons_succ] at $lv1:ident)))
  | `(tactic| wide_line with stx $lv:ident $H:ident $lv1:ident $d1:ident) => `(tactic| (generalize he : upd _ _ _ = $H:ident; have $lv1:ident := Lv.stE $lv 0 rfl he; have $d1:ident := SameD.storeE (Lv.get $lv 0 rfl) he; clear he; (try simp only [List.set_cons_zero, List.set_cons_succ] at $lv1:ident)))
  | `(tactic| wide_line with st $lv:ident $i:num $H:ident $lv1:ident) => `(tactic| (generalize he : upd _ _ _ = $H:ident; have $lv1:ident := Lv.stE $lv $i rfl he; clear he; (try simp only [List.set_cons_zero, List.set_cons_succ] at $lv1:ident)))
  | `(tactic| wide_line with stk $lv:ident $i:num $H:ident $lv1:ident $k1:ident) => `(tactic| (generalize he : upd _ _ _ = $H:ident; have $lv1:ident := Lv.stE $lv $i rfl he; have $k1:ident := KeepT.st (Lv.get $lv $i rfl) he; clear he; (try simp only [List.set_cons_zero, List.set_cons_succ] at $lv1:ident)))
/-- the ties that are known, either way round, as a dict of couples -/
def TiedAt (H : Hp) (D : Addr) (ts : List (Str × Str)) : Prop := ∃ kvs : List (List Key × V), H D = some (.dT kvs) ∧ ∀ a b : Str, (valV kvs [.inr a, .inr b]).isSome = decide (pairP (a, b) ∈ ts.map pairP)
/-- may a line's words stand as the next tie -/
def nextT (ps : List Str) (ts : List (Str × Str)) (ws : List Str) : Bool := match ws with
  | [a, x, y] => decide (a = "tie") && (decide (x ∈ ps) && (decide (y ∈ ps) && (!decide (x = y) && !decide (pairP (x, y) ∈ ts.map pairP))))
  | _ => false
def spNextT (K : PySem.W.Frag) : Sp := fun vs H Q _ => ∃ (p D w : Addr) (ps ws : List Str) (ts : List (Str × Str)), vs = [.ref p, .ref D, .ref w] ∧ SqL K H p (ps.map V.str) ∧ TiedAt H D ts ∧ SqL K H w (ws.map V.str) ∧ ∀ H', Same H H' → Q (.bl (nextT ps ts ws)) H'
section
variable {P : Program} {w : World} {K : PySem.W.Frag} {mg : Str → Option Value} {base : Heap} {C : Addr}
abbrev sIsNextTie : Stmt := top ix_is_next_tie
theorem scIsNextTie : FnScope ["places", "tied", "words", "_", "one", "other"] ["places", "tied", "words"] (defScope sIsNextTie) := ⟨rfl, rfl, rfl, by decide +kernel, rfl, by decide +kernel, by decide +kernel⟩
theorem has_is_next_tie (T : Bn mg) (D : DFE K mg "_is_next_tie" sIsNextTie ["places", "tied", "words"]) : Has P w K mg base CX0 1 "_is_next_tie" ["places", "tied", "words"] (spNextT K) := by
  refine has_of D scIsNextTie (fun vs H Q E h => ?_) (fun f cdv A outer s H vs Q E hr h => ?_)
  · obtain ⟨p, D, w, ps, ws, ts, rfl, _⟩ := h; rfl
  · obtain ⟨p, Dt, w, ps, ws, ts, rfl, hp, ⟨kvs, hD, ht⟩, hw, k⟩ := h
    have nd := scIsNextTie.nd
    refine ⟨_, (pss_cons (ps_if (PW.pt (pw_or (pt_cmpR op_ne (pe_callB call_len (by rfl) T.z_len (by decide +kernel) (pa_cons (pv 2) pa_nil)) pe_int (by first | exact nomark _ | rfl)) (pw_or1 (pt_cmpR op_ne (pe_ix ix_list (pv 2) pe_int (fun _ _ => rfl)) pe_str (by first | exact nomark _ | rfl))))) (pss_one (ps_ret pe_bl)) pss_nil)
    (pss_cons (ps_asg (pv 2) (pg_unl (n := 3) rfl (pgs_cons (pg_name (i := 3) nd rfl (by first | exact Or.inl rfl | exact Or.inr rfl)) (pgs_cons (pg_name (i := 4) nd rfl (by first | exact Or.inl rfl | exact Or.inr rfl)) (pgs_cons (pg_name (i := 5) nd rfl (by first | exact Or.inl rfl | exact Or.inr rfl)) pgs_nil)))))
    (pss_one (ps_ret (pe_and (pe_cmpR op_in_seq (pv 4) (pv 0) (by first | exact nomark _ | rfl)) (pe_and (pe_cmpR op_in_seq (pv 5) (pv 0) (by first | exact nomark _ | rfl)) (pe_and (pe_cmpR op_ne (pv 4) (pv 5) (by first | exact nomark _ | rfl)) (pe_one (pe_cmp (pc_dnotin (hu_of hr) (pe_tup (pa_cons (pv 4) (pa_cons (pv 5) pa_nil))) (pv 1))))))))))), ?_⟩
    refine ⟨_, rfl, .ref w, _, rfl, .inl ⟨_, hw, rfl⟩, rfl, ?_⟩
    rw [dec_int]
    refine ⟨_, rfl, ?_⟩
    have no : nextT ps ts ws = false → ∀ {H' : Hp}, Same H H' → Q (.bl false) H' := fun e {H'} s => e ▸ k H' s
    have three : (∃ a b c, ws = [a, b, c]) ∨ ((((ws.map V.str).length : Nat) : Int) ≠ 3 ∧ nextT ps ts ws = false) := by
      match ws with
      | [] => exact .inr ⟨by decide, rfl⟩
      | [_] => exact .inr ⟨by simp only [List.length_map, List.length_cons, List.length_nil]; omega, rfl⟩
      | [_, _] => exact .inr ⟨by simp only [List.length_map, List.length_cons, List.length_nil]; omega, rfl⟩
      | [a, b, c] => exact .inl ⟨a, b, c, rfl⟩
      | _ :: _ :: _ :: _ :: l => exact .inr ⟨by simp only [List.length_map, List.length_cons]; omega, rfl⟩
    rcases three with ⟨a, b, c, rfl⟩ | ⟨ne, e⟩
    case inr =>
      rw [decide_eq_false ne]
      exact iteT (iteT (no e (.refl _)))
    rw [show decide ((((([a, b, c] : List Str).map V.str).length : Nat) : Int) = 3) = true from rfl]
    refine iteF ⟨_, rfl, w, _, 0, .str a, rfl, rfl, hw, atI_nat (j := 0) rfl, rfl, ?_⟩
    rw [str_dec]
    refine ⟨_, rfl, ?_⟩
    by_cases ca : a = "tie"
    case neg =>
      rw [decide_eq_false ca]
      exact iteT (no (by show (decide (a = "tie") && _) = false; rw [decide_eq_false ca]; rfl) (.refl _))
    rw [decide_eq_true ca]
    refine iteF ?_
    refine ⟨_, rfl, w, _, rfl, hw, rfl, ?_⟩
    have res : nextT ps ts [a, b, c] = (decide (b ∈ ps) && (decide (c ∈ ps) && (!decide (b = c) && !decide (pairP (b, c) ∈ ts.map pairP)))) := by
      show (decide (a = "tie") && _) = _
      rw [decide_eq_true ca]
      rfl
    rw [res] at k
    refine ⟨_, _, rfl, _, _, rfl, _, _, rfl, rfl, ?_⟩
    refine ⟨_, rfl, _, rfl, p, _, rfl, .inl hp, rfl, flat_strs _, ?_⟩
    rw [if_neg (by decide), in_strs]
    refine ⟨_, rfl, ?_⟩
    cases h1 : decide (b ∈ ps) with
    | false =>
      rw [h1] at k
      exact iteF (k H (.refl _))
    | true =>
      rw [h1] at k
      refine iteT ⟨_, rfl, _, rfl, p, _, rfl, .inl hp, rfl, flat_strs _, ?_⟩
      rw [if_neg (by decide), in_strs]
      refine ⟨_, rfl, ?_⟩
      cases h2 : decide (c ∈ ps) with
      | false =>
        rw [h2] at k
        exact iteF (k H (.refl _))
      | true =>
        rw [h2] at k
        refine iteT ⟨_, rfl, _, rfl, rfl, ?_⟩
        rw [str_dec]
        refine ⟨_, rfl, ?_⟩
        cases h3 : decide (b = c) with
        | true =>
          rw [h3] at k
          exact iteF (k H (.refl _))
        | false =>
          rw [h3] at k
          refine iteT ⟨_, rfl, _, rfl, sz2, fun q nq => ?_⟩
          generalize he : upd H q _ = H1
          have s1 : Same H H1 := sameE nq he
          have e1 := upd_at he
          clear he
          refine ⟨_, rfl, Dt, _, rfl, DGet.t (k := [.inr b, .inr c]) (s1 _ _ hD) e1, ?_⟩
          rw [ht]
          exact k H1 s1
end
end Pw

set_option Elab.async false
set_option linter.all false
set_option maxRecDepth 100000
set_option maxHeartbeats 4000000
/-! Own kit Zg: enumerate(xs, start=k), the start written. -/
namespace Ct
open PySem PySem.Spec PyProof.Rows L2
section
variable {M : Model} {A : Around} {E : Value → Shared → Prop} {s : Shared} {env : Env}
theorem callWith_typeKw {pos : Pos} {T : String} {e : Expr} {rest : List Expr} {kws : List Keyword} {Q : Value → Shared → Prop}
    (hall : (backToKw pos (keywordEach kws env)).all (·.1.isSome) = true)
    (h : wpAny M A (spliced (backTo pos (starEach (e :: rest) env))) (fun vs s₁ => wpAny M A (evalAll ((backToKw pos (keywordEach kws env)).map (·.2)))
      (fun kvs s₂ => wpAny M A (call (.type T) vs (((backToKw pos (keywordEach kws env)).filterMap (·.1)).zip kvs)) Q E s₂) E s₁) E s)
    (he : starEach (e :: rest) env = (false, eval e env) :: starEach rest env := by rfl)
    (hplain : (backTo pos (starEach (e :: rest) env)).any (·.1) = false := by rfl)
    (hkw : (backToKw pos (keywordEach kws env)).any (·.1.isNone) = false := by rfl) :
    wpAny M A (callWith pos (.type T) [] (backTo pos (starEach (e :: rest) env)) (backToKw pos (keywordEach kws env))) Q E s := by
  unfold callWith
  refine wpAny_bind (wpAny_holding (wpAny_mono (evalArgs_kw2 (f := .type T) (Q := fun a s₁ => wpAny M A (call (.type T) a.pos a.kw) Q E s₁) hall h he) (fun a s₁ h₁ => wpAny_bind (wpAny_standAt ?_)) fun _ _ x => x))
  simp only [hplain, hkw, Bool.or_false]
  refine wpAny_bind (wpAny_pure ?_)
  exact wpAny_bind (wpAny_mono h₁ (fun r s₂ hr => wpAny_bind (wpAny_holding (wpAny_point (wpAny_pure hr)))) fun _ _ x => x)
end
/-- the list at a, each item in a new pair with its number, counted from k -/
def Itk (K : PySem.W.Frag) (a : Addr) (k : Nat) : It :=
  ⟨fun i H => ∃ (xs : List V) (x : V), SqL K H a xs ∧ xs[i]? = some x, fun i H v H' => ∃ T x, v = .ref T ∧ H T = none ∧ H' = upd H T (.tup [.int ((k + i : Nat) : Int), x]) ∧ ∀ xs, SqL K H a xs → xs[i]? = some x, fun i H => ∃ xs : List V, SqL K H a xs ∧ xs.length ≤ i⟩
theorem turn_enumK {P : Program} {w : World} {K : PySem.W.Frag} {elts : List Expr} {kk : Nat} {tpos : Pos} (k a e it : Addr) :
    Turn P w K (.Tuple elts kk tpos) (Itk K a k) [e, it] e (fun i h => (∃ old, IsEnum h e it ((k + i : Nat) : Int) old) ∧ h.IsListIter it a i ∧ e ≠ it) where
  mem := by simp
  obj := fun i h st b hb => by
    obtain ⟨⟨old, he⟩, ⟨o, ho, hc, hd⟩, _⟩ := st
    have e' : b = e ∨ b = it := by simpa using hb
    rcases e' with z | z
    · rw [z]; exact ⟨_, he, fun v q => nomatch q⟩
    · rw [z]; exact ⟨o, ho, fun v q => by rw [hd] at q; cases q⟩
  keep := fun i h h' st k => let ⟨⟨old, he⟩, hi, hne⟩ := st; ⟨⟨old, k e (by simp) _ he⟩, hi.at fun o q => k it (by simp) o q, hne⟩
  item := by
    intro X hP hw hK hc i pins s σ H E I hf st hg
    subst hP hw hK
    obtain ⟨⟨old, he⟩, hit, hne⟩ := st
    obtain ⟨xs, x, hq, hx⟩ := hg
    obtain ⟨its, rv, p, hz⟩ := I.list hq
    obtain ⟨u, hu, ru⟩ := rv.get hx
    have p : s.heap.IsList a its.toArray := p.isList
    have hel : e < s.heap.objs.size := Heap.lt_size he
    have hil : it < s.heap.objs.size := by obtain ⟨_, q, _⟩ := hit; exact Heap.lt_size q
    have ait : a ≠ it := by
      rintro rfl
      obtain ⟨o1, h1, h2, _⟩ := p
      obtain ⟨o2, h3, h4, _⟩ := hit
      rw [h1] at h3
      cases h3
      rw [h2] at h4
      exact absurd h4 (by decide)
    have ae : e ≠ a := by
      rintro rfl
      obtain ⟨o1, h1, h2, _⟩ := p
      have he' := he
      unfold IsEnum at he'
      rw [h1] at he'
      cases he'
      exact absurd (show Value.type "enumerate" = Value.type "list" from h2) (by decide)
    have hlt : i < its.toArray.size := by
      have := (List.getElem?_eq_some_iff.mp hu).1
      simpa using this
    refine wpAny_pyNext_enum_itemC (PySem.Draws.list (by simpa using I.ok.hd hc) it a ait its.toArray) he ⟨hit, p⟩ hlt hne (by simp [hne, ae]) fun x2 h' tk hx2 ho hst' hT hsz hk => ?_
    have ex2 : x2 = u := by
      have z : its[i]? = some x2 := by simpa using hx2
      rw [hu] at z
      exact (Option.some.inj z).symm
    subst ex2
    refine ⟨_, rfl, wpAny_letOwnedTupleGo_enum (s := { s with heap := h', toks := tk + 1 }) ho fun h'' he' sb => ?_⟩
    have hT2 : h''.get? s.heap.objs.size = some { cls := .type "tuple", data := .seq #[.int ((k + i : Nat) : Int) tk, x2] } := (sb.2 _ (Nat.ne_of_gt hel)).trans hT
    have new : ObjOk X.prog X.w (upd H s.heap.objs.size (.tup [.int ((k + i : Nat) : Int), x])) h'' s.heap.objs.size (.tup [.int ((k + i : Nat) : Int), x]) :=
      ⟨by show 2 ≤ sizeLine; decide, [.int ((k + i : Nat) : Int) tk, x2], .cons ⟨_, rfl⟩ (.cons ru .nil), ⟨_, hT2, rfl, _, rfl⟩⟩
    have I1 : Inv X pins σ (upd H s.heap.objs.size (.tup [.int ((k + i : Nat) : Int), x])) { s with heap := h'', toks := tk + 1 } :=
      I.turnedNew (ch := [e, it]) (fun b ob hb q => (sb.2 b (fun z => hb (by simp [z]))).trans (hk b ob (fun z => hb (by simp [z])) (fun z => hb (by simp [z])) q)) hf (Nat.le_refl _) new
    refine ⟨.ref s.heap.objs.size, _, I1, rfl, ⟨_, x, rfl, I.hok.fresh (Nat.le_refl _), rfl, fun ys hy => by rw [I.list_inj hy hq]; exact hx⟩, ⟨⟨x2, ?_⟩, hst'.1.at fun o q => (sb.2 it (Ne.symm hne)).trans q, hne⟩, fun b hb => ?_⟩
    · have e1 : ((k + (i + 1) : Nat) : Int) = ((k + i : Nat) : Int) + 1 := by omega
      rw [e1]; exact he'
    · have hb' : b < s.heap.objs.size := by
        rcases (show b = e ∨ b = it by simpa using hb) with z | z
        · rw [z]; exact hel
        · rw [z]; exact hil
      rw [upd_ne (Nat.ne_of_lt hb')]
      exact (hf b hb).1
  done := by
    intro X hP hw hK hc i pins s σ H E I hf st hg
    subst hP hw hK
    obtain ⟨⟨old, he⟩, hit, hne⟩ := st
    obtain ⟨xs, hq, hx⟩ := hg
    obtain ⟨its, rv, p, hz⟩ := I.list hq
    obtain ⟨f0, f1, f2, f3, f4, f5⟩ := hf it (by simp)
    have hl := rv.length
    have hnone : its.toArray[i]? = none := by simp; omega
    unfold pyNext
    refine wpAny_bind (wpAny_attempt (wpAny_callSpecial?_slot (name := Str.ofString "__next__") ⟨_, he, rfl⟩ F.slot_enumerate_next
      (wpAny_call_entry F.slot_enumerate_next ⟨_, he, rfl⟩ F.entry_enumerate_next ?_ (F.args_enumerate_next_1 _))))
    show wpAny _ _ (field (.ref e) 2 >>= _) _ _ _
    refine wpAny_bind (wpAny_field he rfl (x := .ref it) rfl ?_)
    refine wpAny_bind (wpAny_nextOf_list_end (by simpa using I.ok.hd hc) hit p.isList hnone fun h' x he' hx' => ?_)
    obtain ⟨o, ho, hcc⟩ := hx'
    refine wpAny_bind (wpAny_isInstance (T := "StopIteration") (b := true) ⟨o, ho, hcc⟩ isSubtype_stop ?_)
    exact wpAny_pure ⟨rfl, I.turned (t' := s.toks) (fun b o hb q => he' b o hb q) f0 f1 f3 f4 f5⟩
  self := fun A i s Q E st h => let ⟨⟨_, he⟩, _⟩ := st; wpAny_pyIter_enum he h
theorem walk_enumK {K : PySem.W.Frag} {a : Addr} {k : Nat} {xs : List V} : Walk (Itk K a k) xs.length (fun H => SqL K H a xs) (YPair (fun i => some (.int ((k + i : Nat) : Int))) (fun i => xs[i]?)) :=
  ⟨fun i _ hi q => ⟨xs, xs[i], q, by simp [hi]⟩, fun _ q => ⟨xs, q, Nat.le_refl _⟩, fun i H v H' hi q y => by
    obtain ⟨T, x, rfl, hT, rfl, hx⟩ := y
    exact ⟨T, _, x, rfl, hT, rfl, rfl, hx xs q⟩⟩
/-- enumerate(xs, start=k) of a list -/
def iEnumK (K : PySem.W.Frag) (k : Nat) (ta : TA) : TI := fun σ H R => ta σ H fun vs H1 => ∃ a xs, vs = [.ref a] ∧ SqL K H1 a xs ∧ ∀ (J : It), Walk J xs.length (fun H' => SqL K H' a xs) (YPair (fun i => some (.int ((k + i : Nat) : Int))) (fun i => xs[i]?)) → R J H1
theorem pi_enumK {X : Cx} {e : Expr} {ta : TA} {p pos tpos kp cp : Pos} {elts : List Expr} {kk k z : Nat} {i : Int} (hi : i = (k : Nat)) (hg : Gl X "enumerate") (hm : X.mg "enumerate" = none) (hz : k < 2 ^ 60) (ha : PA X [e] ta) (hs : starEach [e] X.env = (false, eval e X.env) :: starEach [] X.env := by rfl)
    (hpl : (backTo pos (starEach [e] X.env)).any (·.1) = false := by rfl) :
    PI X (.Tuple elts kk tpos) (.Call (.Name "enumerate" p) [e] [⟨some "start", .Constant (.int i) z cp, kp⟩] pos) (iEnumK X.K k ta) := by
  subst hi
  refine ⟨fun pins s σ H R I h => ?_⟩
  refine wpAny_Call_Name_kw (ld_blt I hg hm boot_enumerate ?_)
  refine callWith_typeKw rfl (thn (ha.run pos pins s σ H _ I h) fun us s1 ⟨vs, H1, I1, r1, a, xs, ex, hq, q⟩ => ?_) hs hpl
  subst ex
  obtain ⟨u, rfl, ru⟩ := vals1 r1
  cases (show u = Value.ref a from ru)
  refine thn ((pk_cons pe_int pk_nil).run pos pins s1 σ H1 (fun ws H2 => ws = [.int (k : Nat)] ∧ H2 = H1) I1 ⟨rfl, rfl⟩) fun ws s2 ⟨zs, H2, I2, rz, ez, eH⟩ => ?_
  subst ez eH
  obtain ⟨u2, rfl, ru2⟩ := vals1 rz
  obtain ⟨tk, rfl⟩ := ru2
  obtain ⟨its, rv, p', hzz⟩ := I2.list hq
  have feet : ∀ b ∈ [s2.heap.objs.size + 1, s2.heap.objs.size], FpOk X pins H2 b := fun b hb => by
    have hle : s2.heap.objs.size ≤ b := by
      rcases (show b = s2.heap.objs.size + 1 ∨ b = s2.heap.objs.size by simpa using hb) with z | z
      · rw [z]; exact Nat.le_add_right _ _
      · rw [z]; exact Nat.le_refl _
    exact I2.fpOk hle (I2.hok.fresh hle)
  refine enum_begins_start (begins_list a its.toArray) p'.isList (by omega) (by omega) fun h' he hit hsz hk => wpAny_pyIter_enum he ?_
  exact ⟨s2.heap.objs.size + 1, [s2.heap.objs.size + 1, s2.heap.objs.size], _, _, H2, rfl, I2.kept (t' := s2.toks) hk, turn_enumK k a (s2.heap.objs.size + 1) s2.heap.objs.size, ⟨⟨.none, he⟩, ⟨_, hit, rfl, rfl⟩, Nat.succ_ne_self _⟩, feet, q _ walk_enumK⟩
end Ct

set_option Elab.async false
set_option linter.all false
set_option maxRecDepth 100000
set_option maxHeartbeats 4000000
namespace Pw
open PySem PySem.Spec PyProof.Rows L2 Ct
/-! the parts of a web: what is reached, and closing up step by step -/
theorem visit_sub {ps : List Str} : ∀ {r w : List Str}, (∀ q ∈ r, q ∈ (visit r w ps).1) ∧ (∀ q ∈ w, q ∈ (visit r w ps).2) ∧ (∀ q ∈ ps, q ∈ (visit r w ps).1) ∧ (∀ q ∈ (visit r w ps).1, q ∈ r ∨ q ∈ (visit r w ps).2) ∧ (∀ q ∈ (visit r w ps).1, q ∈ r ∨ q ∈ ps) ∧ (∀ q ∈ (visit r w ps).2, q ∈ w ∨ q ∈ ps) := by
  induction ps with
  | nil => intro r w; exact ⟨fun _ h => h, fun _ h => h, fun _ h => (nomatch h), fun _ h => .inl h, fun _ h => .inl h, fun _ h => .inl h⟩
  | cons p ps ih =>
    intro r w
    unfold visit
    by_cases c : p ∈ r
    · rw [if_pos c]
      obtain ⟨h1, h2, h3, h4, h5, h6⟩ := @ih r w
      refine ⟨h1, h2, fun q hq => ?_, h4, fun q hq => (h5 q hq).imp id (List.mem_cons_of_mem _), fun q hq => (h6 q hq).imp id (List.mem_cons_of_mem _)⟩
      rcases List.mem_cons.mp hq with rfl | hq
      · exact h1 _ c
      · exact h3 _ hq
    · rw [if_neg c]
      obtain ⟨h1, h2, h3, h4, h5, h6⟩ := @ih (r ++ [p]) (p :: w)
      refine ⟨fun q hq => h1 q (List.mem_append_left _ hq), fun q hq => h2 q (List.mem_cons_of_mem _ hq), fun q hq => ?_, fun q hq => ?_, fun q hq => ?_, fun q hq => ?_⟩
      · rcases List.mem_cons.mp hq with rfl | hq
        · exact h1 _ (List.mem_append_right _ (List.mem_singleton.mpr rfl))
        · exact h3 _ hq
      · rcases h4 q hq with z | z
        · rcases List.mem_append.mp z with z | z
          · exact .inl z
          · rw [List.mem_singleton.mp z]; exact .inr (h2 _ List.mem_cons_self)
        · exact .inr z
      · rcases h5 q hq with z | z
        · rcases List.mem_append.mp z with z | z
          · exact .inl z
          · rw [List.mem_singleton.mp z]; exact .inr List.mem_cons_self
        · exact .inr (List.mem_cons_of_mem _ z)
      · rcases h6 q hq with z | z
        · rcases List.mem_cons.mp z with rfl | z
          · exact .inr List.mem_cons_self
          · exact .inl z
        · exact .inr (List.mem_cons_of_mem _ z)
/-- what is reached is closed -/
theorem Runs.closed {S : Str → List Str} {r w e : List Str} (h : Runs S r w e) : (∀ q ∈ r, q ∈ w ∨ ∀ o ∈ S q, o ∈ r) → ∀ q ∈ e, ∀ o ∈ S q, o ∈ e := by
  induction h with
  | done => exact fun i q hq => (i q hq).resolve_left (fun z => nomatch z)
  | @step r w e h _ ih =>
    intro i
    obtain ⟨h1, h2, h3, h4, _, _⟩ := @visit_sub (S h) r w
    refine ih fun q hq => ?_
    rcases h4 q hq with z | z
    · rcases i q z with y | y
      · rcases List.mem_cons.mp y with rfl | y
        · exact .inr h3
        · exact .inl (h2 _ y)
      · exact .inr fun o ho => h1 _ (y o ho)
    · exact .inl z
/-- and no more than what is closed -/
theorem Runs.least {S : Str → List Str} {Z : Str → Prop} (cl : ∀ q, Z q → ∀ o ∈ S q, Z o) {r w e : List Str} (h : Runs S r w e) : (∀ q ∈ r, Z q) → (∀ q ∈ w, Z q) → ∀ q ∈ e, Z q := by
  induction h with
  | done => exact fun i _ => i
  | @step r w e h _ ih =>
    intro i j
    obtain ⟨_, _, _, _, h5, h6⟩ := @visit_sub (S h) r w
    have zh := cl h (j h List.mem_cons_self)
    refine ih (fun q hq => ?_) (fun q hq => ?_)
    · rcases h5 q hq with z | z
      · exact i q z
      · exact zh q z
    · rcases h6 q hq with z | z
      · exact j q (List.mem_cons_of_mem _ z)
      · exact zh q z
theorem sees_alt0 {ts : List (Str × Str)} (p q : Str) : seesB ts p q = (decide ((p, q) ∈ ts) || (decide ((q, p) ∈ ts) || decide (q = p))) := by
  unfold seesB tiedB
  rw [Bool.eq_iff_iff]
  simp only [Bool.or_eq_true, List.any_eq_true, Bool.and_eq_true, beq_iff_eq, decide_eq_true_eq]
  constructor
  · rintro (h | ⟨t, ht, ⟨h1, h2⟩ | ⟨h1, h2⟩⟩)
    · exact .inr (.inr h)
    · left; subst h1; subst h2; exact ht
    · right; left; subst h1; subst h2; exact ht
  · rintro (h | h | h)
    · exact .inr ⟨_, h, .inl ⟨rfl, rfl⟩⟩
    · exact .inr ⟨_, h, .inr ⟨rfl, rfl⟩⟩
    · exact .inl h
theorem sees_sym {ts : List (Str × Str)} {p q : Str} (h : seesB ts p q = true) : seesB ts q p = true := by
  rw [sees_alt0] at h ⊢
  simp only [Bool.or_eq_true, decide_eq_true_eq] at h ⊢
  rcases h with h | h | h
  · exact .inr (.inl h)
  · exact .inl h
  · exact .inr (.inr h.symm)
theorem sees_self {ts : List (Str × Str)} {p : Str} : seesB ts p p = true := by
  rw [sees_alt0]
  simp
/-- those that see one of some -/
def closeT (ns : List Str) (ts : List (Str × Str)) (part : List Str) : List Str := ns.filter fun q => (seenOf ns ts q).any fun o => decide (o ∈ part)
theorem mem_closeT {ns : List Str} {ts : List (Str × Str)} {part : List Str} {q : Str} : q ∈ closeT ns ts part ↔ q ∈ ns ∧ ∃ o, o ∈ ns ∧ seesB ts q o = true ∧ o ∈ part := by
  unfold closeT seenOf
  rw [List.mem_filter, List.any_eq_true]
  constructor
  · rintro ⟨h, o, h1, h2⟩
    obtain ⟨h3, h4⟩ := List.mem_filter.mp h1
    exact ⟨h, o, h3, h4, of_decide_eq_true h2⟩
  · rintro ⟨h, o, h1, h2, h3⟩
    exact ⟨h, o, List.mem_filter.mpr ⟨h1, h2⟩, decide_eq_true h3⟩
theorem closeT_sub {ns : List Str} {ts : List (Str × Str)} {part : List Str} (h : ∀ q ∈ part, q ∈ ns) : ∀ q ∈ part, q ∈ closeT ns ts part := fun q hq => mem_closeT.mpr ⟨h q hq, q, h q hq, sees_self, hq⟩
theorem closeT_nd {ns : List Str} {ts : List (Str × Str)} {part : List Str} (nd : ns.Nodup) : (closeT ns ts part).Nodup := nd.filter _
theorem closeT_in {ns : List Str} {ts : List (Str × Str)} {part : List Str} : ∀ q ∈ closeT ns ts part, q ∈ ns := fun q hq => (mem_closeT.mp hq).1
/-- what is within a closed set stays within -/
theorem closeT_e {ns : List Str} {ts : List (Str × Str)} {part e : List Str} (cl : ∀ q ∈ e, ∀ o ∈ seenOf ns ts q, o ∈ e) (h : ∀ q ∈ part, q ∈ e) : ∀ q ∈ closeT ns ts part, q ∈ e := fun q hq => by
  obtain ⟨h1, o, h2, h3, h4⟩ := mem_closeT.mp hq
  exact cl o (h o h4) q (List.mem_filter.mpr ⟨h1, sees_sym h3⟩)
/-- as many as before: the whole part -/
theorem closeT_done {ns : List Str} {ts : List (Str × Str)} {prev e : List Str} {p : Str} (nd : ns.Nodup) (r : Runs (seenOf ns ts) [p] [p] e) (n1 : prev.Nodup) (n2 : ∀ q ∈ prev, q ∈ ns) (hp : p ∈ prev) (pe : ∀ q ∈ prev, q ∈ e) (l : (closeT ns ts prev).length ≤ prev.length) :
    closeT ns ts prev = ns.filter fun q => decide (q ∈ e) := by
  have cl := r.closed fun q hq => .inl hq
  have back : ∀ q ∈ closeT ns ts prev, q ∈ prev := fun q hq => by
    by_cases c : q ∈ prev
    · exact c
    · exfalso
      have := nodup_len (r := q :: prev) (ns := closeT ns ts prev) (List.nodup_cons.mpr ⟨c, n1⟩) fun z hz => by
        rcases List.mem_cons.mp hz with rfl | hz
        · exact hq
        · exact closeT_sub n2 z hz
      rw [List.length_cons] at this
      omega
  refine List.filter_congr fun q hq => ?_
  rw [Bool.eq_iff_iff, decide_eq_true_eq]
  have iff1 : ((seenOf ns ts q).any fun o => decide (o ∈ prev)) = true ↔ q ∈ closeT ns ts prev := by
    unfold closeT
    rw [List.mem_filter]
    exact ⟨fun z => ⟨hq, z⟩, fun z => z.2⟩
  rw [iff1]
  constructor
  · exact closeT_e cl pe q
  · intro h
    refine r.least (Z := fun q => q ∈ closeT ns ts prev) (fun q hq o ho => ?_) (fun q hq => ?_) (fun q hq => ?_) q h
    · obtain ⟨h1, h2⟩ := List.mem_filter.mp ho
      exact mem_closeT.mpr ⟨h1, q, closeT_in q hq, sees_sym h2, back q hq⟩
    · rw [List.mem_singleton.mp hq]; exact closeT_sub n2 p hp
    · rw [List.mem_singleton.mp hq]; exact closeT_sub n2 p hp
/-- in none of the parts -/
def offAll (fs : List (List Str)) (q : Str) : Bool := !(fs.any fun l => decide (q ∈ l))
theorem parts_skip {S : Str → List Str} {ns left : List Str} {p : Str} {fs ls : List (List Str)} (h : PartsR S ns ((p :: left).filter (offAll fs)) ls) (c : offAll fs p = false) : PartsR S ns (left.filter (offAll fs)) ls := by
  rw [List.filter_cons, if_neg (by rw [c]; decide)] at h
  exact h
theorem parts_next {S : Str → List Str} {ns left : List Str} {p : Str} {fs ls : List (List Str)} (hp : p ∈ ns) (h : PartsR S ns ((p :: left).filter (offAll fs)) ls) (c : offAll fs p = true) :
    ∃ e rest, Runs S [p] [p] e ∧ ls = (ns.filter fun q => decide (q ∈ e)) :: rest ∧ PartsR S ns (left.filter (offAll (fs ++ [ns.filter fun q => decide (q ∈ e)]))) rest := by
  rw [List.filter_cons, if_pos c] at h
  cases h with
  | @cons _ _ e rest r h =>
    refine ⟨e, rest, r, rfl, ?_⟩
    have pe : p ∈ e := r.sub p (List.mem_singleton.mpr rfl)
    have e1 : ((p :: left.filter (offAll fs)).filter fun q => !decide (q ∈ ns.filter fun q => decide (q ∈ e))) = left.filter (offAll (fs ++ [ns.filter fun q => decide (q ∈ e)])) := by
      rw [List.filter_cons, if_neg (by
        rw [decide_eq_true (List.mem_filter.mpr ⟨hp, decide_eq_true pe⟩)]
        decide), List.filter_filter]
      refine List.filter_congr fun q _ => ?_
      unfold offAll
      rw [List.any_append]
      simp only [List.any_cons, List.any_nil, Bool.or_false, Bool.not_or]
      rw [Bool.and_comm]
    rw [e1] at h
    exact h
end Pw

set_option Elab.async false
set_option linter.all false
set_option maxRecDepth 100000
set_option maxHeartbeats 4000000
namespace Pw
open PySem PySem.Spec PyProof.Rows L2 Ct
/-! == and != of webs, with both answers; == with something else -/
/-- two webs, or a web and something else -/
def spEqA (K : PySem.W.Frag) (C : Addr) : Sp := fun vs H Q E => spEqW K C vs H Q E ∨ ∃ (x : Addr) (v : V) (ns : List Str) (ts : List (Str × Str)) (t : Value), vs = [.ref x, v] ∧ WebAt K C H x ns ts ∧ TyX K H v t ∧ PySem.W.kitOne K t (.ref C) = some false ∧ Q (.bl false) H
structure HasEq2 (P : Program) (w : World) (K : PySem.W.Frag) (mg : Str → Option Value) (base : Heap) (C : Addr) : Prop where
  ex : ∃ f fd, FnOk P w K mg base CX0 1 f fd ["self", "other"] (spEqA K C) ∧ EqC K C f ∧ Binds K fd ["self", "other"] []
section
variable {P : Program} {w : World} {K : PySem.W.Frag} {mg : Str → Option Value} {base : Heap} {C fa : Addr} {fd : FuncData}
theorem ok_eqA (T : Bn mg) (X : WC K C) (I : WI K C) (gW : mg "Web" = some (.ref C)) (F : Fun K "__eq__" "Web.__eq__" sEqW fa fd) : FnOk P w K mg base CX0 1 fa fd ["self", "other"] (spEqA K C) := by
  refine F.ok scEqW (fun vs H Q E h => ?_) (fun cdv A outer s H vs Q E hr h => ?_)
  · rcases h with ⟨x, y, ns, ms, ts, us, rfl, _⟩ | ⟨x, v, ns, ts, t, rfl, _⟩ <;> rfl
  · have nd := scEqW.nd
    refine ⟨_, (pss_one (ps_ret (pe_and (pe_callB call_isi (by rfl) T.z_isinstance (by decide +kernel) (pa_cons (pv 1) (pa_cons (pe_ref rfl gW) pa_nil))) (pe_and (pe_cmpR (op_eqD hr.units) (pe_fld (pv 0) rfl) (pe_fld (pv 1) rfl) (by first | exact nomark _ | rfl)) (pe_one (pe_cmpR (op_eqD hr.units) (pe_fld (pv 0) rfl) (pe_fld (pv 1) rfl) (by first | exact nomark _ | rfl))))))), ?_⟩
    rcases h with ⟨x, y, ns, ms, ts, us, rfl, hw, hv, g1, g2, k⟩ | ⟨x, v, ns, ts, t, rfl, hw, ty, kt, k⟩
    · obtain ⟨⟨dx, tp, tt, sg, sn, sp, sq, rk, xs, hx, _, _, _, _, _, _, hsp, hsq⟩⟩ := hw
      obtain ⟨⟨dx2, tp2, tt2, sg2, sn2, sp2, sq2, rk2, xs2, hx2, _, _, _, _, _, _, hsp2, hsq2⟩⟩ := hv
      refine ⟨_, rfl, .ref y, .ref C, _, _, true, rfl, .own C, .base (.ins hx2 X.cls I.ha I.hn I.ht I.hm), I.kit, _, rfl, iteT ?_⟩
      refine ⟨_, rfl, x, C, dx, _, _, rfl, hx, X.cls, X.n6, rfl, _, rfl, y, C, dx2, _, _, rfl, hx2, X.cls, X.n6, rfl, _, _, hsp, hsp2, shaped_srt (good_names g1), shaped_srt (good_names g2), _, rfl, ?_⟩
      unfold eqW at k
      cases e : PyData.eqv (.list (srt (ns.map PyData.str))) (.list (srt (ms.map PyData.str))) with
      | false => rw [e] at k; exact iteF k
      | true =>
        rw [e, Bool.true_and] at k
        refine iteT ⟨_, rfl, x, C, dx, _, _, rfl, hx, X.cls, X.n7, rfl, _, rfl, y, C, dx2, _, _, rfl, hx2, X.cls, X.n7, rfl, _, _, hsq, hsq2, shaped_srt (good_pairs g1), shaped_srt (good_pairs g2), k⟩
    · exact ⟨_, rfl, v, .ref C, t, _, false, rfl, .own C, ty, kt, _, rfl, iteF k⟩
end
/-- web == web, web != web -/
def rEqWW (K : PySem.W.Frag) (C : Addr) (neg : Bool) : R2 := fun x y H Q => ∃ (a b : Addr) (ns ms : List Str) (ts us : List (Str × Str)), x = .ref a ∧ y = .ref b ∧ WebAt K C H a ns ts ∧ WebAt K C H b ms us ∧ Good ns ts ∧ Good ms us ∧ Q (.bl (if neg then !eqW ns ms ts us else eqW ns ms ts us)) H
/-- web == something else -/
def rEqWD (K : PySem.W.Frag) (C : Addr) : R2 := fun x y H Q => ∃ (a : Addr) (ns : List Str) (ts : List (Str × Str)) (t : Value), x = .ref a ∧ WebAt K C H a ns ts ∧ TyX K H y t ∧ PySem.W.notFirst K C t = true ∧ PySem.W.kitOne K t (.ref C) = some false ∧ Q (.bl false) H
section
variable {X : Cx} {k : Nat} {C : Addr} {K : PySem.W.Frag}
theorem op_eqWW (hK : X.K = K) (h : HasEq2 X.prog X.w X.K X.mg X.base C) (X0 : WC X.K C) (I0 : WI X.K C) (hr : Room k X.A) (l : 1 ≤ k) (nf : PySem.W.notFirst X.K C (.ref C) = true) : OpR X (compareOp .Eq) (rEqWW K C false) := by
  subst hK
  obtain ⟨f, fd, F, Z, b⟩ := h.ex
  intro pins s σ H x y v u Q I rx ry q
  obtain ⟨a, c, ns, ms, ts, us, rfl, rfl, hx, hy, g1, g2, q⟩ := q
  obtain ⟨dx, fs, h1⟩ := webIns hx
  obtain ⟨dy, gs, h2⟩ := webIns hy
  exact op_eqO Z F b pass0 (hr.mono l) pins s σ H _ _ v u Q I rx ry ⟨⟨_, .base (.ins h2 X0.cls I0.ha I0.hn I0.ht I0.hm), nf⟩, a, dx, fs, rfl, h1, .inl ⟨a, c, ns, ms, ts, us, rfl, hx, hy, g1, g2, _, rfl, q⟩⟩
theorem op_neWW (hK : X.K = K) (h : HasEq2 X.prog X.w X.K X.mg X.base C) (hr : Room k X.A) (l : 2 ≤ k) : OpR X (compareOp .NotEq) (rEqWW K C true) := by
  subst hK
  obtain ⟨f, fd, F, Z, b⟩ := h.ex
  intro pins s σ H x y v u Q I rx ry q
  obtain ⟨a, c, ns, ms, ts, us, rfl, rfl, hx, hy, g1, g2, q⟩ := q
  obtain ⟨dx, fs, h1⟩ := webIns hx
  obtain ⟨dy, gs, h2⟩ := webIns hy
  exact op_neO Z F b pass0 (hr.mono l) pins s σ H _ _ v u Q I rx ry ⟨⟨c, dy, gs, rfl, h2⟩, a, dx, fs, rfl, h1, .inl ⟨a, c, ns, ms, ts, us, rfl, hx, hy, g1, g2, _, rfl, q⟩⟩
theorem op_eqWD (hK : X.K = K) (h : HasEq2 X.prog X.w X.K X.mg X.base C) (hr : Room k X.A) (l : 1 ≤ k) : OpR X (compareOp .Eq) (rEqWD K C) := by
  subst hK
  obtain ⟨f, fd, F, Z, b⟩ := h.ex
  intro pins s σ H x y v u Q I rx ry q
  obtain ⟨a, ns, ts, t, rfl, hx, ty, nf, kt, q⟩ := q
  obtain ⟨dx, fs, h1⟩ := webIns hx
  exact op_eqO Z F b pass0 (hr.mono l) pins s σ H _ _ v u Q I rx ry ⟨⟨t, ty, nf⟩, a, dx, fs, rfl, h1, .inr ⟨a, y, ns, ts, t, rfl, hx, ty, kt, _, rfl, q⟩⟩
end
end Pw

set_option Elab.async false
set_option linter.all false
set_option maxRecDepth 100000
set_option maxHeartbeats 4000000
namespace Pw
open PySem PySem.Spec PyProof.Rows L2 Ct
local macro_rules | `(tactic| wide_line) => `(tactic| repeat ((fail_if_success (with_reducible refine at_while ?_)); (fail_if_success (with_reducible refine at_while1 ?_)); (conv => whnf); first | ((with_reducible refine And.intro ?_ ?_); focus (first | (first | ((with_reducible show (_ : Nat) ≤ _); first | exact sz0 | exact sz1 | exact sz2 | exact sz3 | exact sz4 | exact sz5 | exact sz6 | exact sz7 | exact sz8 | exact sz10 | exact sz11 | exact sz12 | exact sz14 | omega | decide | (simp only [List.length_cons, List.length_nil]; omega)) | ((with_reducible show (_ : Int) ≤ _); first | omega | decide) | ((with_reducible show (_ : Int) < _); first | omega | decide) | ((with_reducible show (_ : Nat) < _); omega)) | ((fail_if_success (with_reducible show (_ : Nat) ≤ _)); (fail_if_success (with_reducible show (_ : Int) ≤ _)); (fail_if_success (with_reducible show (_ : Int) < _)); (fail_if_success (with_reducible show (_ : Nat) < _)); first | exact kv_str _ | exact kv_int _ | rfl | assumption | exact flat_strs _ | exact Lv.get (by assumption) 0 rfl | exact Lv.get (by assumption) 1 rfl | exact Lv.get (by assumption) 2 rfl | exact Lv.get (by assumption) 3 rfl | exact Lv.get (by assumption) 4 rfl | exact Lv.get (by assumption) 5 rfl | exact Lv.get (by assumption) 6 rfl | exact SqL.of (Lv.get (by assumption) 0 rfl) | exact SqL.of (Lv.get (by assumption) 1 rfl) | exact SqL.of (Lv.get (by assumption) 2 rfl) | exact SqL.of (Lv.get (by assumption) 3 rfl) | exact SqL.of (Lv.get (by assumption) 4 rfl) | exact SqL.of (Lv.get (by assumption) 5 rfl) | exact Or.inl (SqL.of (Lv.get (by assumption) 0 rfl)) | exact Or.inl (SqL.of (Lv.get (by assumption) 1 rfl)) | exact Or.inl (SqL.of (Lv.get (by assumption) 2 rfl)) | exact Or.inl (SqL.of (Lv.get (by assumption) 3 rfl)) | exact Or.inl (SqL.of (Lv.get (by assumption) 4 rfl)) | exact Or.inl (SqL.of (Lv.get (by assumption) 5 rfl)) | exact ⟨_, SqL.of (Lv.get (by assumption) 0 rfl)⟩ | exact ⟨_, SqL.of (Lv.get (by assumption) 1 rfl)⟩ | exact ⟨_, SqL.of (Lv.get (by assumption) 2 rfl)⟩ | exact ⟨_, SqL.of (Lv.get (by assumption) 3 rfl)⟩ | exact ⟨_, SqL.of (Lv.get (by assumption) 4 rfl)⟩ | exact ⟨_, SqL.of (Lv.get (by assumption) 5 rfl)⟩ | exact Or.inl ⟨_, SqL.of (Lv.get (by assumption) 0 rfl), rfl⟩ | exact Or.inl ⟨_, SqL.of (Lv.get (by assumption) 1 rfl), rfl⟩ | exact Or.inl ⟨_, SqL.of (Lv.get (by assumption) 2 rfl), rfl⟩ | exact Or.inl ⟨_, SqL.of (Lv.get (by assumption) 3 rfl), rfl⟩ | exact Or.inl ⟨_, SqL.of (Lv.get (by assumption) 4 rfl), rfl⟩ | exact Or.inl ⟨_, SqL.of (Lv.get (by assumption) 5 rfl), rfl⟩ | exact Or.inl ⟨rfl, _, SqL.of (Lv.get (by assumption) 0 rfl)⟩ | exact Or.inl ⟨rfl, _, SqL.of (Lv.get (by assumption) 1 rfl)⟩ | exact Or.inl ⟨rfl, _, SqL.of (Lv.get (by assumption) 2 rfl)⟩ | exact Or.inl ⟨rfl, _, SqL.of (Lv.get (by assumption) 3 rfl)⟩ | exact Or.inl ⟨rfl, _, SqL.of (Lv.get (by assumption) 4 rfl)⟩ | exact Or.inl ⟨rfl, _, SqL.of (Lv.get (by assumption) 5 rfl)⟩ | exact Or.inr (SqT.of (Lv.get (by assumption) 0 rfl)) | exact Or.inr (SqT.of (Lv.get (by assumption) 1 rfl)) | exact Or.inr (SqT.of (Lv.get (by assumption) 2 rfl)) | exact Or.inr (SqT.of (Lv.get (by assumption) 3 rfl)) | exact SqT.of (Lv.get (by assumption) 0 rfl) | exact SqT.of (Lv.get (by assumption) 1 rfl) | exact SqT.of (Lv.get (by assumption) 2 rfl) | exact dgetN (Lv.get (by assumption) 0 rfl) (by assumption) | exact dgetN (Lv.get (by assumption) 1 rfl) (by assumption) | exact dgetN (Lv.get (by assumption) 2 rfl) (by assumption) | exact dgetN (Lv.get (by assumption) 3 rfl) (by assumption) | exact dgetN (Lv.get (by assumption) 4 rfl) (by assumption) | exact Or.inl (by assumption) | exact Or.inr (by assumption) | decide | ((with_reducible show _ ∧ _); omega)))) | ((fail_if_success (with_reducible apply @Exists.intro (Nat → _))); (with_reducible apply Exists.intro))))
local macro_rules
  | `(tactic| wide_line with al $lv:ident $l:ident $nl:ident $H:ident $lv1:ident $s1:ident) => `(tactic| (intro $l:ident $nl:ident; generalize he : upd _ _ _ = $H:ident; have $lv1:ident := Lv.alE $lv $nl he; have $s1:ident := sameE $nl he; clear he; (try simp only [List.set_cons_zero, List.set_cons_succ] at $lv1:ident)))
  | `(tactic| wide_line with alx $lv:ident $nl:ident $H:ident $lv1:ident $s1:ident) => `(tactic| (generalize he : upd _ _ _ = $H:ident; have $lv1:ident := Lv.alE $lv $nl he; have $s1:ident := sameE $nl he; clear he; (try simp only [List.set_cons_zero, List.set_cons_succ] at $lv1:ident)))
  | `(tactic| wide_line with sts $lv:ident $i:num $H:ident $lv1:ident $s0:ident $np:ident $s1:ident) => `(tactic| (generalize he : upd _ _ _ = $H:ident; have $lv1:ident := Lv.stE $lv $i rfl he; have $s1:ident := sameN $s0 $np he; clear he; (try simp only [List.set_cons_zero, List.set_cons_succ] at $lv1:ident)))
  | `(tactic| wide_line with stx $lv:ident $H:ident $lv1:ident $d1:ident) => `(tactic| (generalize he : upd _ _ _ = $H:ident; have $lv1:ident := Lv.stE $lv 0 rfl he; have $d1:ident := SameD.storeE (Lv.get $lv 0 rfl) he; clear he; (try simp only [List.set_cons_zero, List.set_cons_succ] at $lv1:ident)))
  | `(tactic| wide_line with st $lv:ident $i:num $H:ident $lv1:ident) => `(tactic| (generalize he : upd _ _ _ = $H:ident; have $lv1:ident := Lv.stE $lv $i rfl he; clear he; (try simp only [List.set_cons_zero, List.set_cons_succ] at $lv1:ident)))
  | `(tactic| wide_line with stk $lv:ident $i:num $H:ident $lv1:ident $k1:ident) => `(tactic| (generalize he : upd _ _ _ = $H:ident; have $lv1:ident := Lv.stE $lv $i rfl he; have $k1:ident := KeepT.st (Lv.get $lv $i rfl) he; clear he; (try simp only [List.set_cons_zero, List.set_cons_succ] at $lv1:ident)))
/-- what has been read so far is right -/
structure ROk (ps : List Str) (ts : List (Str × Str)) : Prop where
  len : ps.length ≤ 12
  nd : ps.Nodup
  nm : ∀ x ∈ ps, okName x = true
  tie : ∀ t ∈ ts, t.1 ∈ ps ∧ t.2 ∈ ps ∧ t.1 ≠ t.2
  dif : (ts.map pairP).Nodup
theorem ROk.nil : ROk [] [] := ⟨by decide, List.nodup_nil, (fun _ z => nomatch z), (fun _ z => nomatch z), List.nodup_nil⟩
theorem ROk.step {ps ps' : List Str} {ts ts' : List (Str × Str)} {l : Str} (h : ROk ps ts) (e : stepT ps ts l = some (ps', ts')) : ROk ps' ts' := by
  have z : readT 0 ps ts [l] = .inr (ps', ts') := by
    unfold readT
    rw [e]
    rfl
  have r := readT_ok z h.len h.nd h.nm h.tie h.dif
  exact ⟨r.1, r.2.1, r.2.2.1, r.2.2.2.1, r.2.2.2.2.1⟩
theorem readT_next {ls : List Str} {i n : Nat} {l : Str} {ps : List Str} {ts : List (Str × Str)} (hl : ls[i]? = some l) : readT n ps ts (ls.drop i) = match stepT ps ts l with
    | none => .inl n
    | some q => readT (n + 1) q.1 q.2 (ls.drop (i + 1)) := by
  obtain ⟨hi, e⟩ := List.getElem?_eq_some_iff.mp hl
  rw [List.drop_eq_getElem_cons hi, e]
  show readT n ps ts (l :: ls.drop (i + 1)) = _
  rw [readT]
  cases stepT ps ts l with
  | none => rfl
  | some q => rfl
theorem step_of {ps : List Str} {ts : List (Str × Str)} (l : Str) (h : ROk ps ts) :
    (ts = [] ∧ nextP ps (Txt.split l SP) = true ∧ ∃ w : Str, Txt.split l SP = [("place" : Str), w] ∧ stepT ps ts l = some (ps ++ [w], ts)) ∨
    ((ts = [] → nextP ps (Txt.split l SP) = false) ∧ nextT ps ts (Txt.split l SP) = true ∧ ∃ x y : Str, Txt.split l SP = [("tie" : Str), x, y] ∧ stepT ps ts l = some (ps, ts ++ [(x, y)])) ∨
    ((ts = [] → nextP ps (Txt.split l SP) = false) ∧ nextT ps ts (Txt.split l SP) = false ∧ stepT ps ts l = none) := by
  unfold stepT
  generalize Txt.split l SP = ws
  match ws with
  | [] => exact .inr (.inr ⟨fun _ => rfl, rfl, rfl⟩)
  | [_] => exact .inr (.inr ⟨fun _ => rfl, rfl, rfl⟩)
  | [a, w] =>
    have len := h.len
    have en : nextP ps [a, w] = (decide (a = "place") && (!decide (ps.length = 12) && (okName w && !decide (w ∈ ps)))) := rfl
    rw [en]
    by_cases c : a = "place" ∧ ts = [] ∧ ps.length < 12 ∧ okName w = true ∧ w ∉ ps
    · obtain ⟨rfl, rfl, c3, c4, c5⟩ := c
      refine .inl ⟨rfl, ?_, w, rfl, if_pos ⟨rfl, rfl, c3, c4, c5⟩⟩
      rw [decide_eq_true rfl, decide_eq_false (by omega), c4, decide_eq_false c5]
      rfl
    · refine .inr (.inr ⟨fun et => ?_, rfl, if_neg c⟩)
      by_cases c1 : a = "place"
      · by_cases c3 : ps.length = 12
        · rw [decide_eq_true c3, Bool.not_true, Bool.false_and, Bool.and_false]
        · cases c4 : okName w with
          | false => rw [Bool.false_and, Bool.and_false, Bool.and_false]
          | true =>
            by_cases c5 : w ∈ ps
            · rw [decide_eq_true c5, Bool.not_true, Bool.and_false, Bool.and_false, Bool.and_false]
            · exact absurd ⟨c1, et, by omega, c4, c5⟩ c
      · rw [decide_eq_false c1, Bool.false_and]
  | [a, x, y] =>
    have en : nextT ps ts [a, x, y] = (decide (a = "tie") && (decide (x ∈ ps) && (decide (y ∈ ps) && (!decide (x = y) && !decide (pairP (x, y) ∈ ts.map pairP))))) := rfl
    rw [en]
    by_cases c : a = "tie" ∧ x ∈ ps ∧ y ∈ ps ∧ x ≠ y ∧ pairP (x, y) ∉ ts.map pairP
    · refine .inr (.inl ⟨fun _ => rfl, ?_, x, y, ?_, if_pos c⟩)
      · obtain ⟨c1, c2, c3, c4, c5⟩ := c
        rw [decide_eq_true c1, decide_eq_true c2, decide_eq_true c3, decide_eq_false c4, decide_eq_false c5]
        rfl
      · rw [c.1]
    · refine .inr (.inr ⟨fun _ => rfl, ?_, if_neg c⟩)
      by_cases c1 : a = "tie"
      · by_cases c2 : x ∈ ps
        · by_cases c3 : y ∈ ps
          · by_cases c4 : x = y
            · rw [decide_eq_true c4, Bool.not_true, Bool.false_and, Bool.and_false, Bool.and_false, Bool.and_false]
            · by_cases c5 : pairP (x, y) ∈ ts.map pairP
              · rw [decide_eq_true c5, Bool.not_true, Bool.and_false, Bool.and_false, Bool.and_false, Bool.and_false]
              · exact absurd ⟨c1, c2, c3, c4, c5⟩ c
          · rw [decide_eq_false c3, Bool.false_and, Bool.and_false, Bool.and_false]
        · rw [decide_eq_false c2, Bool.false_and, Bool.and_false]
      · rw [decide_eq_false c1, Bool.false_and]
  | _ :: _ :: _ :: _ :: _ => exact .inr (.inr ⟨fun _ => rfl, rfl, rfl⟩)
theorem few_tiesR {ns : List Str} {ts : List (Str × Str)} (h : ROk ns ts) : ts.length ≤ 66 := by
  have h2 := nodup_len (ns := ((List.range 12).flatMap fun j => (List.range j).map fun i => (i, j)).map fun q => pairS (ns.getD q.1 "") (ns.getD q.2 "")) h.dif fun x hx => ?_
  · rw [List.length_map, List.length_map] at h2
    exact Nat.le_trans h2 (by decide +kernel)
  · obtain ⟨t, ht, rfl⟩ := List.mem_map.mp hx
    obtain ⟨m1, m2, ne⟩ := h.tie t ht
    obtain ⟨i, hi⟩ := List.getElem?_of_mem m1
    obtain ⟨j, hj⟩ := List.getElem?_of_mem m2
    have li := (List.getElem?_eq_some_iff.mp hi).1
    have lj := (List.getElem?_eq_some_iff.mp hj).1
    have mo := h.len
    have ei : ns.getD i "" = t.1 := by rw [List.getD_eq_getElem?_getD, hi]; rfl
    have ej : ns.getD j "" = t.2 := by rw [List.getD_eq_getElem?_getD, hj]; rfl
    have nij : i ≠ j := fun z => by subst z; rw [hi] at hj; exact ne (Option.some.inj hj)
    by_cases c : i < j
    · exact List.mem_map.mpr ⟨(i, j), mem_pairs12 (by decide) ⟨c, by show j < 12; omega⟩, by dsimp only; rw [ei, ej]; rfl⟩
    · exact List.mem_map.mpr ⟨(j, i), mem_pairs12 (by decide) ⟨by show j < i; omega, by show i < 12; omega⟩, by dsimp only; rw [ei, ej, pairS_sw]; rfl⟩
/-- the dict of the ties that are known -/
def TK (kvs : List (List Key × V)) (ts : List (Str × Str)) : Prop := kvs.length ≤ 2 * ts.length ∧ ∀ a b : Str, (valV kvs [.inr a, .inr b]).isSome = decide (pairP (a, b) ∈ ts.map pairP)
theorem TK.step {kvs : List (List Key × V)} {ts : List (Str × Str)} {x y : Str} {v u : V} (h : TK kvs ts) : TK (putK (putK kvs [.inr x, .inr y] v) [.inr y, .inr x] u) (ts ++ [(x, y)]) := by
  refine ⟨?_, fun a b => ?_⟩
  · have h1 := length_putK kvs [.inr x, .inr y] v
    have h2 := length_putK (putK kvs [.inr x, .inr y] v) [.inr y, .inr x] u
    have h3 := h.1
    rw [List.length_append, List.length_singleton]
    omega
  · rw [valV_put, valV_put, List.map_append]
    have ee : ∀ {c d e f : Str}, ([.inr c, .inr d] : List Key) = [.inr e, .inr f] ↔ c = e ∧ d = f := fun {c d e f} => ⟨fun z => by injection z with z1 z2; injection z1 with z1; injection z2 with z2 z3; injection z2 with z2; exact ⟨z1, z2⟩, fun z => by rw [z.1, z.2]⟩
    have pe : pairP (a, b) = pairP (x, y) ↔ (a, b) = (x, y) ∨ (b, a) = (x, y) := pairP_eq
    by_cases c1 : a = y ∧ b = x
    · rw [if_pos (ee.mpr c1), Option.isSome_some]
      refine (decide_eq_true (List.mem_append.mpr (.inr (List.mem_singleton.mpr (pe.mpr (.inr ?_)))))).symm
      rw [c1.1, c1.2]
    · rw [if_neg (fun z => c1 (ee.mp z))]
      by_cases c2 : a = x ∧ b = y
      · rw [if_pos (ee.mpr c2), Option.isSome_some]
        refine (decide_eq_true (List.mem_append.mpr (.inr (List.mem_singleton.mpr (pe.mpr (.inl ?_)))))).symm
        rw [c2.1, c2.2]
      · rw [if_neg (fun z => c2 (ee.mp z)), h.2]
        refine decide_eq_decide.mpr ⟨fun z => List.mem_append.mpr (.inl z), fun z => ?_⟩
        rcases List.mem_append.mp z with z | z
        · exact z
        · rcases pe.mp (List.mem_singleton.mp z) with z | z
          · exact absurd ⟨congrArg Prod.fst z, congrArg Prod.snd z⟩ c2
          · exact absurd ⟨congrArg Prod.snd z, congrArg Prod.fst z⟩ c1
theorem TK.nil : TK [] [] := ⟨Nat.le_refl _, fun _ _ => rfl⟩
/-- a text's parts are no longer than it -/
theorem join_len {s : Str} : ∀ {l : List Str}, ∀ z ∈ l, z.length ≤ (Str.join s l).length
  | [a], z, h => by rw [List.mem_singleton.mp h]; exact Nat.le_refl _
  | a :: b :: l, z, h => by
    have e : (Str.join s (a :: b :: l)).length = a.length + s.length + (Str.join s (b :: l)).length := by
      show ((a ++ s) ++ Str.join s (b :: l)).length = _
      rw [strLen_append, strLen_append]
    rw [e]
    rcases List.mem_cons.mp h with rfl | h
    · omega
    · have := join_len (s := s) z h
      omega
theorem split_len {T s z : Str} (h : z ∈ Txt.split T s) : z.length ≤ T.length := by
  have := join_len (s := s) z h
  rwa [PySem.StrLaws.join_split] at this
theorem read_one {ls : List Str} {ps : List Str} {ts : List (Str × Str)} (ne : ls ≠ []) (h : readT 1 [] [] ls = .inr (ps, ts)) : 1 ≤ ps.length := by
  cases ls with
  | nil => exact absurd rfl ne
  | cons l ls =>
    rw [readT] at h
    split at h
    · cases h
    · rename_i p1 t1 es
      have es' := es
      rcases stepT_line es' with ⟨_, rfl, w, rfl, _⟩ | ⟨_, t, _, _, k1, _⟩
      · have r := ROk.nil.step es
        exact (readT_ok h r.len r.nd r.nm r.tie r.dif).2.2.2.2.2
      · cases k1
theorem split_ne (T s : Str) : Txt.split T s ≠ [] := by
  unfold Txt.split
  split
  · exact List.cons_ne_nil _ _
  · split
    · exact List.cons_ne_nil _ _
    · rw [PySem.StrLaws.partsBetween_eq]
      obtain ⟨p, q, e⟩ := PySem.StrLaws.partsFrom_ne T s.length 0 (Builtin.Str.occurrences T s 0 T.length (T.length + 1))
      rw [e]
      exact List.cons_ne_nil _ _
def strB : PyData → Bool
  | .str _ => true
  | _ => false
theorem kit_strB (d : PyData) : kitB (dty d) "str" = some (strB d) := by cases d <;> rfl
/-- read_web(value) -/
def spReadWeb (K : PySem.W.Frag) (C CB : Addr) : Sp := fun vs H Q E => ∃ (v : V) (d : PyData), vs = [v] ∧ Dq K H v d ∧ ((∀ T, d ≠ .str T) → Raised CB "line" H (.int 1) E) ∧
  ∀ T, d = .str T → T.length ≤ 16000000 ∧ (∀ n : Nat, readT 1 [] [] (Txt.split T NL) = .inl n → Raised CB "line" H (.int (n : Nat)) E) ∧ (∀ ps ts, readT 1 [] [] (Txt.split T NL) = .inr (ps, ts) → ∀ x H', Same H H' → H x = none → FreshW K C H H' x ps ts → Q (.ref x) H')
section
variable {P : Program} {w : World} {K : PySem.W.Frag} {mg : Str → Option Value} {base : Heap} {C CP CS CT CB : Addr}
abbrev sReadWeb : Stmt := top ix_read_web
theorem scReadWeb : FnScope ["text", "places", "ties", "tied", "number", "line", "words", "_", "one", "other"] ["text"] (defScope sReadWeb) := ⟨rfl, rfl, rfl, by decide +kernel, rfl, by decide +kernel, by decide +kernel⟩
theorem has_read_web (T : Bn mg) (D : DFE K mg "read_web" sReadWeb ["text"]) (h_is_next_place : Has P w K mg base CX0 2 "_is_next_place" ["places", "words"] (spNextP K)) (h_is_next_tie : Has P w K mg base CX0 1 "_is_next_tie" ["places", "tied", "words"] (spNextT K)) (hE_BadText : HasE P w K mg base 1 "BadText" CB "line") (hW : HasW P w K mg base 4 C CP CS CT) : HasR P w K mg base 6 "read_web" ["text"] (spReadWeb K C CB) := by
  refine hasR_of D scReadWeb (fun vs H Q E h => ?_) (fun f cdv A outer s H vs Q E hr h => ?_)
  · obtain ⟨v, d, rfl, _⟩ := h; rfl
  · obtain ⟨v, d, rfl, hd, kn, ky⟩ := h
    have nd := scReadWeb.nd
    refine ⟨_, (pss_cons (ps_if (pt_not (pt_val (pe_callB call_isD (by rfl) T.z_isinstance (by decide +kernel) (pa_cons (pv 0) (pa_cons (pe_bltn (v := .ty "str") rfl T.z_str (by decide +kernel) rfl) pa_nil))))) (pss_one (ps_raise rfl (takes_of rfl rfl rfl rfl) (pmk_x hE_BadText hr (by decide) rfl pe_int))) pss_nil)
    (pss_cons (ps_sv 1 nd (pe_lst pa_nil))
    (pss_cons (ps_sv 2 nd (pe_lst pa_nil))
    (pss_cons (ps_sv 3 nd pe_dnewT)
    (pss_cons (ps_for (passes_of rfl) rfl (pi_enumK (k := 1) rfl rfl T.z_enumerate (by decide) (pa_cons (pe_split (pv 0) pe_str) pa_nil)) (pg_tup (n := 2) rfl (pgs_cons (pg_name (i := 4) nd rfl (by first | exact Or.inl rfl | exact Or.inr rfl)) (pgs_cons (pg_name (i := 5) nd rfl (by first | exact Or.inl rfl | exact Or.inr rfl)) pgs_nil))) (pss_cons (ps_sv 6 nd (pe_split (pv 5) pe_str))
    (pss_one (ps_if (PW.pt (pw_and (pt_not (pt_truth (pv 2) (by intro _; rfl))) (pw_and1 (pt_val (pe_h h_is_next_place hr (by decide) rfl (pa_cons (pv 1) (pa_cons (pv 6) pa_nil))))))) (pss_one (ps_expr (pe_bm PySem.F.plainAttrs_list PySem.F.slot_list_append PySem.F.type_list_append mt_append (pv 1) (pa_cons (pe_ix ix_list (pv 6) pe_int (fun _ _ => rfl)) pa_nil)))) (pss_one (ps_if (pt_val (pe_h h_is_next_tie hr (by decide) rfl (pa_cons (pv 1) (pa_cons (pv 3) (pa_cons (pv 6) pa_nil))))) (pss_cons (ps_asg (pv 6) (pg_unl (n := 3) rfl (pgs_cons (pg_name (i := 7) nd rfl (by first | exact Or.inl rfl | exact Or.inr rfl)) (pgs_cons (pg_name (i := 8) nd rfl (by first | exact Or.inl rfl | exact Or.inr rfl)) (pgs_cons (pg_name (i := 9) nd rfl (by first | exact Or.inl rfl | exact Or.inr rfl)) pgs_nil)))))
    (pss_cons (ps_expr (pe_bm PySem.F.plainAttrs_list PySem.F.slot_list_append PySem.F.type_list_append mt_append (pv 2) (pa_cons (pe_tup (pa_cons (pv 8) (pa_cons (pv 9) pa_nil))) pa_nil)))
    (pss_one (ps_asg2 pe_bl (pg_sub (pv 3) (pe_tup (pa_cons (pv 8) (pa_cons (pv 9) pa_nil))) (set_dict (hu_of hr))) (pg_sub (pv 3) (pe_tup (pa_cons (pv 9) (pa_cons (pv 8) pa_nil))) (set_dict (hu_of hr))))))) (pss_one (ps_raise rfl (takes_of rfl rfl rfl rfl) (pmk_x hE_BadText hr (by decide) rfl (pv 4))))))))))
    (pss_one (ps_ret (pe_web hW hr (by decide) rfl (pa_cons (pv 1) (pa_cons (pv 2) pa_nil)))))))))), ?_⟩
    refine ⟨_, rfl, _, d, "str", _, rfl, hd, kit_strB d, _, rfl, ?_⟩
    have st : (∃ T, d = .str T) ∨ ((∀ T, d ≠ .str T) ∧ strB d = false) := by
      cases d <;> first | exact .inl ⟨_, rfl⟩ | exact .inr ⟨(fun _ z => nomatch z), rfl⟩
    rcases st with ⟨T, rfl⟩ | ⟨no, e⟩
    case inr =>
      rw [e]
      exact iteT fun x hx => kn no x _ (same_new hx) hx upd_same
    obtain ⟨len, kb, kg⟩ := ky T rfl
    cases hd
    refine iteF ?_
    refine ⟨sz0, fun p np => ?_⟩
    have lv0 := Lv.zero H
    wide_line with alx lv0 np H1 lv1 s1
    refine ⟨sz0, fun t nt => ?_⟩
    wide_line with alx lv1 nt H2 lv2 s2
    refine fun D nD => ?_
    wide_line with alx lv2 nD H3 lv3 s3
    refine ⟨_, rfl, ⟨_, rfl⟩, T, NL, rfl, rfl, rfl, by rw [sizeLine_eq]; omega, fun L nL => ?_⟩
    wide_line with alx lv3 nL H4 lv4 s4
    refine ⟨L, _, rfl, SqL.of (lv4.get 0 rfl), fun J wk => ?_⟩
    have len_ls : ((Txt.split T NL).map V.str).length = (Txt.split T NL).length := List.length_map _
    refine for_it wk (fun i σ H' => Hold (∃ (ps : List Str) (ts : List (Str × Str)) (tx : List V) (kvs : List (List Key × V)) (s4 s5 s6 s7 s8 s9 : Option V), σ = [some (.str T), some (.ref p), some (.ref t), some (.ref D), s4, s5, s6, s7, s8, s9] ∧ Lv H [] H' [(L, .lst ((Txt.split T NL).map V.str)), (D, .dT kvs), (t, .lst tx), (p, .lst (ps.map V.str))] ∧ TiesT H' tx ts ∧ TK kvs ts ∧ ROk ps ts ∧
      readT 1 [] [] (Txt.split T NL) = readT (1 + i) ps ts ((Txt.split T NL).drop i))) ?_ ?_ ?_ ?_
    · exact ⟨[], [], [], [], none, none, none, none, none, none, rfl, lv4, .nil, .nil, .nil, rfl⟩
    · exact fun i σ H' _ ⟨_, _, _, _, _, _, _, _, _, _, _, lv, _⟩ => SqL.of (lv.get 0 rfl)
    · rintro i x σ H5 H6 hi ⟨ps, ts, tx, kvs, s4, s5, s6, s7, s8, s9, rfl, lv5, ht5, tk5, ro5, er⟩ ⟨U, x1, x2, rfl, nU, rfl, ex1, ex2⟩
      cases ex1
      obtain ⟨l, hl, rfl⟩ := str_at ex2
      wide_line with alx lv5 nU H6 lv6 s6'
      refine ⟨U, _, rfl, SqT.of (lv6.get 0 rfl), rfl, _, _, rfl, _, _, rfl, rfl, ?_⟩
      have ll : l.length ≤ 16000000 := Nat.le_trans (split_len (List.mem_of_getElem? hl)) len
      refine ⟨_, rfl, ⟨_, rfl⟩, l, SP, rfl, rfl, rfl, by rw [sizeLine_eq]; omega, fun W nW => ?_⟩
      wide_line with alx lv6 nW H7 lv7 s7'
      have ht7 : TiesT H7 tx ts := TiesT.keep (KeepT.same (s6'.trans s7')) ht5
      have lenW : ∀ x ∈ Txt.split l SP, x.length ≤ 16000000 := fun x hx => Nat.le_trans (split_len hx) ll
      have rn := readT_next (n := 1 + i) (ps := ps) (ts := ts) hl
      rw [rn] at er
      have tlen : tx.length = ts.length := paired_len ht5
      have few := few_tiesR ro5
      rcases step_of l ro5 with ⟨rfl, n1, w1, ew, es⟩ | ⟨n1, n2, x1, y1, ew, es⟩ | ⟨n1, n2, es⟩
      · -- a place
        have e0 : tx = [] := List.eq_nil_of_length_eq_zero tlen
        subst e0
        rw [ew] at n1 lv7 lenW
        rw [es] at er
        refine ⟨_, rfl, false, .inl ⟨_, SqL.of (lv7.get 4 rfl), rfl⟩, ?_⟩
        refine iteT ⟨_, rfl, _, rfl, p, W, ps, _, rfl, SqL.of (lv7.get 5 rfl), SqL.of (lv7.get 0 rfl), lenW, fun H8 s8 => ?_⟩
        rw [n1]
        refine ⟨_, rfl, iteT ?_⟩
        have lv8 := lv7.same s8
        refine ⟨_, rfl, .inl ⟨rfl, _, SqL.of (lv8.get 5 rfl)⟩, _, rfl, W, _, 1, .str w1, rfl, rfl, SqL.of (lv8.get 0 rfl), atI_nat (j := 1) rfl, p, _, _, rfl, rfl, lv8.get 5 rfl, by have := ro5.len; rw [List.length_map, sizeLine_eq]; omega, ?_⟩
        wide_line with st lv8 5 H9 lv9
        have lvA : Lv H [] H9 [(L, .lst ((Txt.split T NL).map V.str)), (D, .dT kvs), (t, .lst []), (p, .lst ((ps ++ [w1]).map V.str))] := by
          rw [List.map_append]
          exact lv9.picks [2, 3, 4, 5] rfl (by decide) (fun _ z => nomatch z)
        exact ⟨_, [], [], kvs, _, _, _, _, _, _, rfl, lvA, .nil, tk5, ro5.step es, er⟩
      · -- a tie
        rw [es] at er
        have lens := lenW
        rw [ew] at n2 lv7 lenW
        try dsimp only [gName]
        refine ifs_to (fun b H' => b = false ∧ Same H7 H') (fun Q0 hQ => ?_) (fun H' h => by cases h.1) (fun H8 ⟨_, s8⟩ => ?_)
        · cases ts with
          | nil =>
            have e0 : tx = [] := List.eq_nil_of_length_eq_zero tlen
            subst e0
            refine ⟨_, rfl, false, .inl ⟨_, SqL.of (lv7.get 4 rfl), rfl⟩, ?_⟩
            refine iteT ⟨_, rfl, _, rfl, p, W, ps, _, rfl, SqL.of (lv7.get 5 rfl), SqL.of (lv7.get 0 rfl), lenW, fun H8 s8 => ?_⟩
            have n1' := n1 rfl
            rw [ew] at n1'
            rw [n1']
            exact ⟨_, rfl, hQ _ _ ⟨rfl, s8⟩⟩
          | cons t0 tr =>
            obtain ⟨x0, xr, rfl⟩ : ∃ x0 xr, tx = x0 :: xr := by
              cases tx with
              | nil => cases tlen
              | cons a b => exact ⟨a, b, rfl⟩
            exact ⟨_, rfl, true, .inl ⟨_, SqL.of (lv7.get 4 rfl), rfl⟩, iteF (hQ _ _ ⟨rfl, .refl _⟩)⟩
        have lv8 := lv7.same s8
        refine ⟨_, rfl, _, rfl, _, rfl, p, D, W, ps, _, ts, rfl, SqL.of (lv8.get 5 rfl), ⟨kvs, lv8.get 3 rfl, tk5.2⟩, SqL.of (lv8.get 0 rfl), fun H9 s9 => ?_⟩
        rw [n2]
        refine ⟨_, rfl, iteT ?_⟩
        have lv9 := lv8.same s9
        have ht9 : TiesT H9 tx ts := TiesT.keep (KeepT.same (s8.trans s9)) ht7
        refine ⟨_, rfl, W, _, rfl, SqL.of (lv9.get 0 rfl), rfl, ?_⟩
        refine ⟨_, _, rfl, _, _, rfl, _, _, rfl, rfl, ?_⟩
        refine ⟨_, rfl, .inl ⟨rfl, _, SqL.of (lv9.get 4 rfl)⟩, _, rfl, _, rfl, sz2, fun q nq => ?_⟩
        wide_line with alx lv9 nq H10 lv10 s10
        refine ⟨t, _, _, rfl, rfl, lv10.get 5 rfl, by rw [tlen, sizeLine_eq]; omega, ?_⟩
        wide_line with stk lv10 5 H11 lv11 k11
        refine ⟨_, rfl, _, rfl, _, rfl, sz2, fun q1 nq1 => ?_⟩
        wide_line with alx lv11 nq1 H12 lv12 s12
        refine ⟨D, _, rfl, DPut.t (k := [.inr x1, .inr y1]) (lv12.get 5 rfl) (lv12.get 0 rfl) (by have := tk5.1; rw [sizeLine_eq]; omega), ?_⟩
        generalize he : upd _ _ _ = H13
        have lv13 := Lv.stE lv12 5 rfl he
        have k13 : KeepT H12 H13 := KeepT.off (lv12.get 5 rfl) (fun _ z => nomatch z) (fun b o nb e => by rw [← he, upd_ne nb]; exact e)
        clear he
        try dsimp only at lv13
        refine ⟨_, rfl, _, rfl, _, rfl, sz2, fun q2 nq2 => ?_⟩
        wide_line with alx lv13 nq2 H14 lv14 s14
        refine ⟨D, _, rfl, DPut.t (k := [.inr y1, .inr x1]) (lv14.get 6 rfl) (lv14.get 0 rfl) (by have := tk5.1; have := length_putK kvs [.inr x1, .inr y1] (.bl true); rw [sizeLine_eq]; omega), ?_⟩
        generalize he : upd _ _ _ = H15
        have lv15 := Lv.stE lv14 6 rfl he
        have k15 : KeepT H14 H15 := KeepT.off (lv14.get 6 rfl) (fun _ z => nomatch z) (fun b o nb e => by rw [← he, upd_ne nb]; exact e)
        clear he
        try dsimp only at lv15
        have ht15 : TiesT H15 tx ts := TiesT.keep ((KeepT.same s10).trans (k11.trans ((KeepT.same s12).trans (k13.trans ((KeepT.same s14).trans k15))))) ht9
        exact ⟨ps, ts ++ [(x1, y1)], tx ++ [.ref q], _, _, _, _, _, _, _, rfl, lv15.picks [5, 6, 7, 8] rfl (by decide) (fun _ z => nomatch z), paired_app ht15 (.cons ⟨q, rfl, lv15.get 2 rfl⟩ .nil), tk5.step, ro5.step es, er⟩
      · -- neither
        rw [es] at er
        try dsimp only [gName]
        refine ifs_to (fun b H' => b = false ∧ Same H7 H') (fun Q0 hQ => ?_) (fun H' h => by cases h.1) (fun H8 ⟨_, s8⟩ => ?_)
        · cases ts with
          | nil =>
            have e0 : tx = [] := List.eq_nil_of_length_eq_zero tlen
            subst e0
            refine ⟨_, rfl, false, .inl ⟨_, SqL.of (lv7.get 4 rfl), rfl⟩, ?_⟩
            refine iteT ⟨_, rfl, _, rfl, p, W, ps, _, rfl, SqL.of (lv7.get 5 rfl), SqL.of (lv7.get 0 rfl), lenW, fun H8 s8 => ?_⟩
            rw [n1 rfl]
            exact ⟨_, rfl, hQ _ _ ⟨rfl, s8⟩⟩
          | cons t0 tr =>
            obtain ⟨x0, xr, rfl⟩ : ∃ x0 xr, tx = x0 :: xr := by
              cases tx with
              | nil => cases tlen
              | cons a b => exact ⟨a, b, rfl⟩
            exact ⟨_, rfl, true, .inl ⟨_, SqL.of (lv7.get 4 rfl), rfl⟩, iteF (hQ _ _ ⟨rfl, .refl _⟩)⟩
        have lv8 := lv7.same s8
        refine ⟨_, rfl, _, rfl, _, rfl, p, D, W, ps, _, ts, rfl, SqL.of (lv8.get 5 rfl), ⟨kvs, lv8.get 3 rfl, tk5.2⟩, SqL.of (lv8.get 0 rfl), fun H9 s9 => ?_⟩
        rw [n2]
        refine ⟨_, rfl, iteF ⟨_, rfl, fun x hx => ?_⟩⟩
        have lv9 := lv8.same s9
        exact kb (1 + i) er x _ (same_upd lv9.sm (lv9.free hx)) (lv9.free hx) upd_same
    · rintro σ H5 ⟨ps, ts, tx, kvs, s4, s5, s6, s7, s8, s9, rfl, lv5, ht5, tk5, ro5, er⟩
      rw [len_ls, List.drop_length] at er
      have few := few_tiesR ro5
      have pk : PlanOk 12 ps ts := ⟨read_one (split_ne T NL) er, ro5.len, ro5.nd, ro5.nm, ro5.tie, ro5.dif, by omega⟩
      refine ⟨_, rfl, _, rfl, p, t, 12, ps, tx, ts, rfl, .inl (SqL.of (lv5.get 3 rfl)), .inl (SqL.of (lv5.get 2 rfl)), tiesAt_of ht5, pk, Nat.le_refl _, fun x H6 s6 nx wx => ?_⟩
      exact kg ps ts er x H6 (lv5.sm.trans s6) (lv5.free nx) (wx.le lv5.sm)
end
end Pw

set_option Elab.async false
set_option linter.all false
set_option maxRecDepth 100000
set_option maxHeartbeats 4000000
namespace Pw
open PySem PySem.Spec PyProof.Rows L2 Ct
/-! rounds of a game grow, and end -/
def SubB (a b : Nat) : Prop := ∀ i, a.testBit i = true → b.testBit i = true
theorem SubB.refl (a : Nat) : SubB a a := fun _ h => h
theorem SubB.trans {a b c : Nat} (h : SubB a b) (k : SubB b c) : SubB a c := fun i z => k i (h i z)
theorem SubB.le {a b : Nat} (h : SubB a b) : a ≤ b := by
  have e : a &&& b = a := Nat.eq_of_testBit_eq fun i => by
    rw [Nat.testBit_and]
    have := h i
    cases c : a.testBit i with
    | false => rfl
    | true => rw [this c]; rfl
  rw [← e]
  exact Nat.and_le_right
def SubL (as bs : List Nat) : Prop := as.length = bs.length ∧ ∀ s, SubB (as.getD s 0) (bs.getD s 0)
theorem SubL.refl (a : List Nat) : SubL a a := ⟨rfl, fun _ => .refl _⟩
theorem SubL.trans {a b c : List Nat} (h : SubL a b) (k : SubL b c) : SubL a c := ⟨h.1.trans k.1, fun s => (h.2 s).trans (k.2 s)⟩
theorem test_united (nums : List Nat) (i : Nat) : ∀ (chosen : List Nat) (w : Nat), (chosen.foldl (fun w c => w ||| nums.getD c 0) w).testBit i = (w.testBit i || chosen.any fun c => (nums.getD c 0).testBit i)
  | [], w => by simp
  | c :: cs, w => by
    rw [List.foldl_cons, test_united nums i cs, Nat.testBit_or, List.any_cons, Bool.or_assoc]
theorem united_bit (nums chosen : List Nat) (i : Nat) : (unitedN nums chosen).testBit i = chosen.any fun c => (nums.getD c 0).testBit i := by
  unfold unitedN
  rw [test_united, Nat.zero_testBit, Bool.false_or]
theorem lost_bit (steps : List Nat) (won i : Nat) : (lostN steps won).testBit i = (decide (i < steps.length) && match steps[i]? with | some st => decide (st &&& won = st) | none => false) := test_mask _ _ _
theorem lost_lt (steps : List Nat) (won : Nat) : lostN steps won < 2 ^ steps.length := mask_lt _ _
theorem lost_mono {steps : List Nat} {a b : Nat} (h : SubB a b) : SubB (lostN steps a) (lostN steps b) := fun i z => by
  rw [lost_bit] at z ⊢
  rw [Bool.and_eq_true] at z ⊢
  refine ⟨z.1, ?_⟩
  have z2 := z.2
  cases e : steps[i]? with
  | none => rw [e] at z2; cases z2
  | some st =>
    rw [e] at z2
    have z2 := of_decide_eq_true z2
    refine decide_eq_true (Nat.eq_of_testBit_eq fun j => ?_)
    rw [Nat.testBit_and]
    have t : (st &&& a).testBit j = st.testBit j := congrArg (fun x => x.testBit j) z2
    rw [Nat.testBit_and] at t
    have := h j
    revert t this
    cases st.testBit j <;> cases a.testBit j <;> cases b.testBit j <;> simp
theorem getD_map {α : Type} (f : α → Nat) (l : List α) (s : Nat) : (l.map f).getD s 0 = match l[s]? with | some x => f x | none => 0 := by
  rw [List.getD_eq_getElem?_getD, List.getElem?_map]
  cases l[s]? <;> rfl
theorem losts_at (W : Wx) (won : List Nat) (s : Nat) : (lostsW W won).getD s 0 = if s < W.ways.length then lostN (W.steps.getD s []) (won.getD s 0) ||| W.held.getD s 0 else 0 := by
  unfold lostsW
  rw [getD_map]
  by_cases h : s < W.ways.length
  · rw [if_pos h, List.getElem?_range h]
  · rw [if_neg h, List.getElem?_eq_none (by rw [List.length_range]; omega)]
theorem step_at (W : Wx) (won : List Nat) (s : Nat) : (stepW W won).getD s 0 = match W.ways[s]? with | some l => unitedN (lostsW W won) l | none => 0 := by
  unfold stepW
  rw [getD_map]
  cases W.ways[s]? <;> rfl
theorem len_step (W : Wx) (won : List Nat) : (stepW W won).length = W.ways.length := by
  unfold stepW
  rw [List.length_map]
theorem len_it {W : Wx} {n : Nat} (h : WOk W n) : ∀ k, (itW W k).length = W.ways.length
  | 0 => h.lh
  | _ + 1 => len_step _ _
theorem losts_mono {W : Wx} {a b : List Nat} (h : SubL a b) (s : Nat) : SubB ((lostsW W a).getD s 0) ((lostsW W b).getD s 0) := by
  rw [losts_at, losts_at]
  by_cases c : s < W.ways.length
  · rw [if_pos c, if_pos c]
    intro i z
    rw [Nat.testBit_or, Bool.or_eq_true] at z ⊢
    exact z.imp (lost_mono (h.2 s) i) id
  · rw [if_neg c, if_neg c]
    exact .refl _
theorem step_mono {W : Wx} {a b : List Nat} (h : SubL a b) : SubL (stepW W a) (stepW W b) := by
  refine ⟨by rw [len_step, len_step], fun s => ?_⟩
  rw [step_at, step_at]
  cases W.ways[s]? with
  | none => exact .refl _
  | some l =>
    intro i z
    dsimp only at z ⊢
    rw [united_bit, List.any_eq_true] at z ⊢
    obtain ⟨c, hc, hz⟩ := z
    exact ⟨c, hc, losts_mono h c i hz⟩
theorem held_step {W : Wx} {n : Nat} (h : WOk W n) : SubL W.held (stepW W W.held) := by
  refine ⟨by rw [len_step]; exact h.lh, fun s => ?_⟩
  rw [step_at]
  cases e : W.ways[s]? with
  | none =>
    have : W.held[s]? = none := List.getElem?_eq_none (by rw [h.lh]; exact List.getElem?_eq_none_iff.mp e)
    rw [List.getD_eq_getElem?_getD, this]
    exact .refl _
  | some l =>
    intro i z
    dsimp only
    rw [united_bit, List.any_eq_true]
    refine ⟨s, (h.wr s l e).1, ?_⟩
    rw [losts_at, if_pos (List.getElem?_eq_some_iff.mp e).1, Nat.testBit_or, z, Bool.or_true]
theorem it_mono {W : Wx} {n : Nat} (h : WOk W n) : ∀ k, SubL (itW W k) (itW W (k + 1))
  | 0 => held_step h
  | k + 1 => step_mono (it_mono h k)
theorem it_le {W : Wx} {n : Nat} (h : WOk W n) {j k : Nat} (l : j ≤ k) : SubL (itW W j) (itW W k) := by
  induction l with
  | refl => exact .refl _
  | step _ ih => exact ih.trans (it_mono h _)
theorem getD_lt {l : List Nat} {B : Nat} (hB : 0 < B) (h : ∀ x ∈ l, x < B) (s : Nat) : l.getD s 0 < B := by
  rw [List.getD_eq_getElem?_getD]
  cases e : l[s]? with
  | none => exact hB
  | some x => exact h x (List.mem_of_getElem? e)
theorem losts_lt {W : Wx} {n : Nat} (h : WOk W n) (won : List Nat) (s : Nat) : (lostsW W won).getD s 0 < 2 ^ n := by
  rw [losts_at]
  by_cases c : s < W.ways.length
  · rw [if_pos c]
    refine Nat.or_lt_two_pow ?_ (getD_lt (Nat.two_pow_pos n) h.hb s)
    have l := lost_lt (W.steps.getD s []) (won.getD s 0)
    have e : (W.steps.getD s []).length = n := by
      rw [List.getD_eq_getElem?_getD]
      have : s < W.steps.length := by rw [h.ls]; exact c
      rw [List.getElem?_eq_getElem this]
      exact h.sn _ (List.getElem_mem this)
    rwa [e] at l
  · rw [if_neg c]
    exact Nat.two_pow_pos n
theorem lt_of_bits {a n : Nat} (h : ∀ i, a.testBit i = true → i < n) : a < 2 ^ n := Nat.lt_pow_two_of_testBit a fun i hi => by
  cases c : a.testBit i with
  | false => rfl
  | true => exact absurd (h i c) (by omega)
theorem bit_lt {a n i : Nat} (h : a < 2 ^ n) (t : a.testBit i = true) : i < n := by
  rcases Nat.lt_or_ge i n with z | z
  · exact z
  · rw [Nat.testBit_lt_two_pow (Nat.lt_of_lt_of_le h (Nat.pow_le_pow_right (by decide) z))] at t
    cases t
theorem it_lt {W : Wx} {n : Nat} (h : WOk W n) : ∀ k, ∀ x ∈ itW W k, x < 2 ^ n
  | 0, x, hx => h.hb x hx
  | k + 1, x, hx => by
    obtain ⟨l, hl, rfl⟩ := List.mem_map.mp (show x ∈ W.ways.map (unitedN (lostsW W (itW W k))) from hx)
    refine lt_of_bits fun i z => ?_
    rw [united_bit, List.any_eq_true] at z
    obtain ⟨c, _, hz⟩ := z
    exact bit_lt (losts_lt h _ c) hz
theorem sum_sub : ∀ {a b : List Nat}, SubL a b → a.sum ≤ b.sum ∧ (a ≠ b → a.sum < b.sum)
  | [], [], _ => ⟨Nat.le_refl _, fun z => absurd rfl z⟩
  | [], _ :: _, h => by cases h.1
  | _ :: _, [], h => by cases h.1
  | x :: as, y :: bs, h => by
    have h0 : x ≤ y := (h.2 0).le
    have ih := sum_sub (a := as) (b := bs) ⟨Nat.succ.inj h.1, fun s => h.2 (s + 1)⟩
    rw [List.sum_cons, List.sum_cons]
    refine ⟨by omega, fun ne => ?_⟩
    by_cases c : x = y
    · have := ih.2 fun z => ne (by rw [c, z])
      omega
    · omega
theorem sum_bound {B : Nat} : ∀ {l : List Nat}, (∀ x ∈ l, x < B) → l.sum ≤ l.length * B
  | [], _ => Nat.zero_le _
  | x :: l, h => by
    have := sum_bound fun y hy => h y (List.mem_cons_of_mem _ hy)
    have := h x List.mem_cons_self
    rw [List.sum_cons, List.length_cons, Nat.succ_mul]
    omega
/-- as many rounds as that at most -/
theorem few_rounds {W : Wx} {n : Nat} (h : WOk W n) {j : Nat} (d : ∀ k, k < j → itW W (k + 1) ≠ itW W k) : j ≤ W.ways.length * 2 ^ n := by
  have g : ∀ i, i ≤ j → i ≤ (itW W i).sum := by
    intro i
    induction i with
    | zero => intro _; exact Nat.zero_le _
    | succ i ih =>
      intro hi
      have := ih (by omega)
      have := (sum_sub (it_mono h i)).2 fun z => d i (by omega) z.symm
      omega
  have := g j (Nat.le_refl _)
  have := sum_bound (it_lt h j)
  rw [len_it h] at this
  omega
theorem fin_unique {W : Wx} {m k : Nat} (a : FinW W m) (b : FinW W k) : m = k := by
  rcases Nat.lt_trichotomy m k with z | z | z
  · exact absurd a.1 (b.2 m z)
  · exact z
  · exact absurd b.1 (a.2 k z)
/-- a place's bit in a round -/
def bitM (W : Wx) (s p k : Nat) : Bool := ((itW W k).getD s 0).testBit p
theorem bit_mono {W : Wx} {n : Nat} (h : WOk W n) {s p j k : Nat} (l : j ≤ k) : bitM W s p j = true → bitM W s p k = true := (it_le h l).2 s p
def prevB (W : Wx) (s p : Nat) : Nat → Bool
  | 0 => false
  | j + 1 => bitM W s p j
def rankU (W : Wx) (k s p : Nat) : Option Nat := (List.range k).find? (bitM W s p)
theorem rankU_succ {W : Wx} {n : Nat} (h : WOk W n) (k s p : Nat) : rankU W (k + 1) s p = if (bitM W s p k && !prevB W s p k) = true then some k else rankU W k s p := by
  unfold rankU
  rw [List.range_succ, List.find?_append]
  cases e : (List.range k).find? (bitM W s p) with
  | some j =>
    have hj := List.find?_some e
    have lj := List.mem_range.mp (List.mem_of_find?_eq_some e)
    obtain ⟨i, rfl⟩ : ∃ i, k = i + 1 := ⟨k - 1, by omega⟩
    have : bitM W s p i = true := bit_mono h (by omega) hj
    rw [show prevB W s p (i + 1) = true from this, Bool.not_true, Bool.and_false, if_neg Bool.false_ne_true]
    rfl
  | none =>
    have no := List.find?_eq_none.mp e
    have e0 : prevB W s p k = false := by
      cases k with
      | zero => rfl
      | succ i =>
        have := no i (List.mem_range.mpr (Nat.lt_succ_self i))
        show bitM W s p i = false
        simpa using this
    rw [e0, Bool.not_false, Bool.and_true, Option.none_or]
    cases c : bitM W s p k with
    | true => rw [List.find?_cons_of_pos c, if_pos rfl]
    | false => rw [List.find?_cons_of_neg (by rw [c]; exact Bool.false_ne_true), if_neg Bool.false_ne_true]; rfl
theorem rankU_fin (W : Wx) (m s p : Nat) : rankU W (m + 1) s p = rankM W m s p := rfl
theorem rankU_zero (W : Wx) (s p : Nat) : rankU W 0 s p = none := rfl
end Pw

set_option Elab.async false
set_option linter.all false
set_option maxRecDepth 100000
set_option maxHeartbeats 4000000
namespace Pw
open PySem PySem.Spec PyProof.Rows L2 Ct
local macro_rules | `(tactic| wide_line) => `(tactic| repeat ((fail_if_success (with_reducible refine at_while ?_)); (fail_if_success (with_reducible refine at_while1 ?_)); (conv => whnf); first | ((with_reducible refine And.intro ?_ ?_); focus (first | (first | ((with_reducible show (_ : Nat) ≤ _); first | exact sz0 | exact sz1 | exact sz2 | exact sz3 | exact sz4 | exact sz5 | exact sz6 | exact sz7 | exact sz8 | exact sz10 | exact sz11 | exact sz12 | exact sz14 | omega | decide | (simp only [List.length_cons, List.length_nil]; omega)) | ((with_reducible show (_ : Int) ≤ _); first | omega | decide) | ((with_reducible show (_ : Int) < _); first | omega | decide) | ((with_reducible show (_ : Nat) < _); omega)) | ((fail_if_success (with_reducible show (_ : Nat) ≤ _)); (fail_if_success (with_reducible show (_ : Int) ≤ _)); (fail_if_success (with_reducible show (_ : Int) < _)); (fail_if_success (with_reducible show (_ : Nat) < _)); first | exact kv_str _ | exact kv_int _ | rfl | assumption | exact flat_strs _ | exact Lv.get (by assumption) 0 rfl | exact Lv.get (by assumption) 1 rfl | exact Lv.get (by assumption) 2 rfl | exact Lv.get (by assumption) 3 rfl | exact Lv.get (by assumption) 4 rfl | exact Lv.get (by assumption) 5 rfl | exact Lv.get (by assumption) 6 rfl | exact SqL.of (Lv.get (by assumption) 0 rfl) | exact SqL.of (Lv.get (by assumption) 1 rfl) | exact SqL.of (Lv.get (by assumption) 2 rfl) | exact SqL.of (Lv.get (by assumption) 3 rfl) | exact SqL.of (Lv.get (by assumption) 4 rfl) | exact SqL.of (Lv.get (by assumption) 5 rfl) | exact Or.inl (SqL.of (Lv.get (by assumption) 0 rfl)) | exact Or.inl (SqL.of (Lv.get (by assumption) 1 rfl)) | exact Or.inl (SqL.of (Lv.get (by assumption) 2 rfl)) | exact Or.inl (SqL.of (Lv.get (by assumption) 3 rfl)) | exact Or.inl (SqL.of (Lv.get (by assumption) 4 rfl)) | exact Or.inl (SqL.of (Lv.get (by assumption) 5 rfl)) | exact ⟨_, SqL.of (Lv.get (by assumption) 0 rfl)⟩ | exact ⟨_, SqL.of (Lv.get (by assumption) 1 rfl)⟩ | exact ⟨_, SqL.of (Lv.get (by assumption) 2 rfl)⟩ | exact ⟨_, SqL.of (Lv.get (by assumption) 3 rfl)⟩ | exact ⟨_, SqL.of (Lv.get (by assumption) 4 rfl)⟩ | exact ⟨_, SqL.of (Lv.get (by assumption) 5 rfl)⟩ | exact Or.inl ⟨_, SqL.of (Lv.get (by assumption) 0 rfl), rfl⟩ | exact Or.inl ⟨_, SqL.of (Lv.get (by assumption) 1 rfl), rfl⟩ | exact Or.inl ⟨_, SqL.of (Lv.get (by assumption) 2 rfl), rfl⟩ | exact Or.inl ⟨_, SqL.of (Lv.get (by assumption) 3 rfl), rfl⟩ | exact Or.inl ⟨_, SqL.of (Lv.get (by assumption) 4 rfl), rfl⟩ | exact Or.inl ⟨_, SqL.of (Lv.get (by assumption) 5 rfl), rfl⟩ | exact Or.inl ⟨rfl, _, SqL.of (Lv.get (by assumption) 0 rfl)⟩ | exact Or.inl ⟨rfl, _, SqL.of (Lv.get (by assumption) 1 rfl)⟩ | exact Or.inl ⟨rfl, _, SqL.of (Lv.get (by assumption) 2 rfl)⟩ | exact Or.inl ⟨rfl, _, SqL.of (Lv.get (by assumption) 3 rfl)⟩ | exact Or.inl ⟨rfl, _, SqL.of (Lv.get (by assumption) 4 rfl)⟩ | exact Or.inl ⟨rfl, _, SqL.of (Lv.get (by assumption) 5 rfl)⟩ | exact Or.inr (SqT.of (Lv.get (by assumption) 0 rfl)) | exact Or.inr (SqT.of (Lv.get (by assumption) 1 rfl)) | exact Or.inr (SqT.of (Lv.get (by assumption) 2 rfl)) | exact Or.inr (SqT.of (Lv.get (by assumption) 3 rfl)) | exact SqT.of (Lv.get (by assumption) 0 rfl) | exact SqT.of (Lv.get (by assumption) 1 rfl) | exact SqT.of (Lv.get (by assumption) 2 rfl) | exact dgetN (Lv.get (by assumption) 0 rfl) (by assumption) | exact dgetN (Lv.get (by assumption) 1 rfl) (by assumption) | exact dgetN (Lv.get (by assumption) 2 rfl) (by assumption) | exact dgetN (Lv.get (by assumption) 3 rfl) (by assumption) | exact dgetN (Lv.get (by assumption) 4 rfl) (by assumption) | exact Or.inl (by assumption) | exact Or.inr (by assumption) | decide | ((with_reducible show _ ∧ _); omega)))) | ((fail_if_success (with_reducible apply @Exists.intro (Nat → _))); (with_reducible apply Exists.intro))))
local macro_rules
  | `(tactic| wide_line with al $lv:ident $l:ident $nl:ident $H:ident $lv1:ident $s1:ident) => `(tactic| (intro $l:ident $nl:ident; generalize he : upd _ _ _ = $H:ident; have $lv1:ident := Lv.alE $lv $nl he; have $s1:ident := sameE $nl he; clear he; (try simp only [List.set_cons_zero, List.set_cons_succ] at $lv1:ident)))
  | `(tactic| wide_line with alx $lv:ident $nl:ident $H:ident $lv1:ident $s1:ident) => `(tactic| (generalize he : upd _ _ _ = $H:ident; have $lv1:ident := Lv.alE $lv $nl he; have $s1:ident := sameE $nl he; clear he; (try simp only [List.set_cons_zero, List.set_cons_succ] at $lv1:ident)))
  | `(tactic| wide_line with sts $lv:ident $i:num $H:ident $lv1:ident $s0:ident $np:ident $s1:ident) => `(tactic| (generalize he : upd _ _ _ = $H:ident; have $lv1:ident := Lv.stE $lv $i rfl he; have $s1:ident := sameN $s0 $np he; clear he; (try simp only [List.set_cons_zero, List.set_cons_succ] at $lv1:ident)))
  | `(tactic| wide_line with stx $lv:ident $H:ident $lv1:ident $d1:ident) => `(tactic| (generalize he : upd _ _ _ = $H:ident; have $lv1:ident := Lv.stE $lv 0 rfl he; have $d1:ident := SameD.storeE (Lv.get $lv 0 rfl) he; clear he; (try simp only [List.set_cons_zero, List.set_cons_succ] at $lv1:ident)))
  | `(tactic| wide_line with st $lv:ident $i:num $H:ident $lv1:ident) => `(tactic| (generalize he : upd _ _ _ = $H:ident; have $lv1:ident := Lv.stE $lv $i rfl he; clear he; (try simp only [List.set_cons_zero, List.set_cons_succ] at $lv1:ident)))
  | `(tactic| wide_line with stk $lv:ident $i:num $H:ident $lv1:ident $k1:ident) => `(tactic| (generalize he : upd _ _ _ = $H:ident; have $lv1:ident := Lv.stE $lv $i rfl he; have $k1:ident := KeepT.st (Lv.get $lv $i rfl) he; clear he; (try simp only [List.set_cons_zero, List.set_cons_succ] at $lv1:ident)))
theorem ip_orB {X : Cx} : PIp X .BitOr (fun x y H Q => ∃ a b : Nat, x = .int (a : Nat) ∧ y = .int (b : Nat) ∧ Q (.int ((a ||| b : Nat))) H) := fun pins s σ H x y v u Q I rx ry h => iop_orB pins s σ H x y v u Q I rx ry h
def greatR (rs : List (Option Nat)) : Option Nat := if none ∈ rs then none else some (maxN (rs.filterMap id))
def leastR (rs : List (Option Nat)) : Option Nat := minN (rs.filterMap id)
theorem nat_at {ns : List Nat} {i : Nat} {x : V} (h : (ns.map natV)[i]? = some x) : ∃ k, ns[i]? = some k ∧ x = natV k := by
  rw [List.getElem?_map] at h
  cases e : ns[i]? with
  | none => rw [e] at h; cases h
  | some k => rw [e] at h; exact ⟨k, rfl, (Option.some.inj h).symm⟩
theorem rk_at {rs : List (Option Nat)} {i : Nat} {x : V} (h : (rs.map rkV)[i]? = some x) : ∃ k, rs[i]? = some k ∧ x = rkV k := by
  rw [List.getElem?_map] at h
  cases e : rs[i]? with
  | none => rw [e] at h; cases h
  | some k => rw [e] at h; exact ⟨k, rfl, (Option.some.inj h).symm⟩
theorem rkV_inj : ∀ {a b : Option Nat}, rkV a = rkV b → a = b
  | none, none, _ => rfl
  | some a, some b, h => by
    have h : V.int (a : Nat) = V.int (b : Nat) := h
    injection h with h
    congr 1
    omega
theorem rkV_non {a : Option Nat} : rkV a = .non ↔ a = none := ⟨fun h => rkV_inj (b := none) h, fun h => by rw [h]; rfl⟩
theorem rkV_opt : ∀ a : Option Nat, optV a = rkV a
  | none => rfl
  | some _ => rfl
theorem flat_rks (rs : List (Option Nat)) : (rs.map rkV).all flatV = true := by
  rw [List.all_eq_true]
  intro x hx
  obtain ⟨r, _, rfl⟩ := List.mem_map.mp hx
  cases r <;> rfl
theorem in_rks (rs : List (Option Nat)) : inV .non (rs.map rkV) = decide (none ∈ rs) := by
  unfold inV
  rw [Bool.eq_iff_iff, List.any_eq_true, decide_eq_true_eq]
  constructor
  · rintro ⟨x, hx, e⟩
    obtain ⟨r, hr, rfl⟩ := List.mem_map.mp hx
    cases r with
    | none => exact hr
    | some k => cases e
  · exact fun h => ⟨.non, List.mem_map.mpr ⟨none, h, rfl⟩, rfl⟩
theorem some_all : ∀ {rs : List (Option Nat)}, none ∉ rs → rs.map rkV = (rs.filterMap id).map natV
  | [], _ => rfl
  | none :: _, h => absurd List.mem_cons_self h
  | some k :: rs, h => by
    rw [List.map_cons, some_all fun z => h (List.mem_cons_of_mem _ z)]
    rfl
def spUnited (K : PySem.W.Frag) : Sp := fun vs H Q _ => ∃ (a c : Addr) (nums chosen : List Nat), vs = [.ref a, .ref c] ∧ SqS K H a (nums.map natV) ∧ SqS K H c (chosen.map natV) ∧ (∀ x ∈ chosen, x < nums.length) ∧ Q (.int (unitedN nums chosen : Nat)) H
def spLost (K : PySem.W.Frag) : Sp := fun vs H Q _ => ∃ (a : Addr) (steps : List Nat) (won : Nat), vs = [.ref a, .int (won : Nat)] ∧ SqS K H a (steps.map natV) ∧ steps.length ≤ 1000 ∧ ∀ H', Same H H' → Q (.int (lostN steps won : Nat)) H'
def spSingle (K : PySem.W.Frag) : Sp := fun vs H Q _ => ∃ (a : Addr) (xs : List V), vs = [.ref a] ∧ SqS K H a xs ∧ xs.length ≤ 1000 ∧ ∀ l H', Same H H' → H l = none → H' l = some (.lst (((List.range xs.length).map fun i => 2 ^ i).map natV)) → Q (.ref l) H'
def spGreatest (K : PySem.W.Frag) : Sp := fun vs H Q _ => ∃ (a : Addr) (rs : List (Option Nat)), vs = [.ref a] ∧ SqS K H a (rs.map rkV) ∧ rs ≠ [] ∧ Q (rkV (greatR rs)) H
def spLeast (K : PySem.W.Frag) : Sp := fun vs H Q _ => ∃ (a : Addr) (rs : List (Option Nat)), vs = [.ref a] ∧ SqS K H a (rs.map rkV) ∧ rs.length ≤ 1000 ∧ ∀ H', Same H H' → Q (rkV (leastR rs)) H'
section
variable {P : Program} {w : World} {K : PySem.W.Frag} {mg : Str → Option Value} {base : Heap}
abbrev sUnited : Stmt := top ix_united
theorem scUnited : FnScope ["numbers", "chosen", "whole", "at"] ["numbers", "chosen"] (defScope sUnited) := ⟨rfl, rfl, rfl, by decide +kernel, rfl, by decide +kernel, by decide +kernel⟩
theorem has_united (T : Bn mg) (D : DFE K mg "united" sUnited ["numbers", "chosen"]) : Has P w K mg base CX0 1 "united" ["numbers", "chosen"] (spUnited K) := by
  refine has_of D scUnited (fun vs H Q E h => ?_) (fun f cdv A outer s H vs Q E hr h => ?_)
  · obtain ⟨a, c, nums, chosen, rfl, _⟩ := h; rfl
  · obtain ⟨a, c, nums, chosen, rfl, ha, hc, lt, k⟩ := h
    have nd := scUnited.nd
    refine ⟨_, (pss_cons (ps_sv 2 nd pe_int)
    (pss_cons (ps_for PassesOwn.never rfl (pi_sq (pv 1)) (pg_name (i := 3) nd rfl (by first | exact Or.inl rfl | exact Or.inr rfl)) (pss_one (ps_aug (i := 2) nd rfl (.inl rfl) (pe_ix ix_seq (pv 0) (pv 3) (fun _ _ => rfl)) iop_orB)))
    (pss_one (ps_ret (pv 2))))), ?_⟩
    refine ⟨_, rfl, c, _, rfl, hc, fun J G ex hG wk => ?_⟩
    rw [List.length_map] at wk
    refine for_it wk (fun i σ H' => H' = H ∧ ∃ s3 : Option V, σ = [some (.ref a), some (.ref c), some (.int (unitedN nums (chosen.take i) : Nat)), s3]) ⟨rfl, _, rfl⟩ (fun i σ H' _ ⟨e, _⟩ => hG H' (by rw [e]; exact .same (.refl _))) ?_ ?_
    · rintro i x σ H1 H2 hi ⟨rfl, s3, rfl⟩ ⟨rfl, hx⟩
      obtain ⟨j, hj, rfl⟩ := nat_at hx
      have jl := lt j (List.mem_of_getElem? hj)
      have at_ : atI (nums.map natV) ((j : Nat) : Int) = some (natV (nums.getD j 0)) := atI_nat (by rw [List.getElem?_map, List.getElem?_eq_getElem jl, List.getD_eq_getElem?_getD, List.getElem?_eq_getElem jl]; rfl)
      refine ⟨_, rfl, _, rfl, _, rfl, ?_⟩
      have fin : ∃ s3 : Option V, [some (V.ref a), some (V.ref c), some (V.int ((unitedN nums (chosen.take i) ||| nums.getD j 0 : Nat))), some (natV j)] = [some (V.ref a), some (V.ref c), some (V.int (unitedN nums (chosen.take (i + 1)) : Nat)), s3] := by
        refine ⟨some (natV j), ?_⟩
        rw [take_next2 hj]
        unfold unitedN
        rw [List.foldl_append]
        rfl
      rcases ha with ha | ha
      · exact .inl ⟨a, _, _, _, rfl, rfl, ha, at_, _, _, rfl, rfl, rfl, fin⟩
      · exact .inr (.inl ⟨a, _, _, _, rfl, rfl, ha, at_, _, _, rfl, rfl, rfl, fin⟩)
    · rintro σ H1 ⟨rfl, s3, rfl⟩
      refine ⟨_, rfl, ?_⟩
      rw [List.take_length]
      exact k
abbrev sLostRunners : Stmt := top ix_lost_runners
theorem scLostRunners : FnScope ["steps", "won", "lost", "place", "step"] ["steps", "won"] (defScope sLostRunners) := ⟨rfl, rfl, rfl, by decide +kernel, rfl, by decide +kernel, by decide +kernel⟩
theorem has_lost_runners (T : Bn mg) (D : DFE K mg "lost_runners" sLostRunners ["steps", "won"]) : Has P w K mg base CX0 1 "lost_runners" ["steps", "won"] (spLost K) := by
  refine has_of D scLostRunners (fun vs H Q E h => ?_) (fun f cdv A outer s H vs Q E hr h => ?_)
  · obtain ⟨a, steps, won, rfl, _⟩ := h; rfl
  · obtain ⟨a, steps, won, rfl, ha, few, k⟩ := h
    have nd := scLostRunners.nd
    refine ⟨_, (pss_cons (ps_sv 2 nd pe_int)
    (pss_cons (ps_for PassesOwn.never rfl (pi_enumQ rfl T.z_enumerate (pa_cons (pv 0) pa_nil)) (pg_tup (n := 2) rfl (pgs_cons (pg_name (i := 3) nd rfl (by first | exact Or.inl rfl | exact Or.inr rfl)) (pgs_cons (pg_name (i := 4) nd rfl (by first | exact Or.inl rfl | exact Or.inr rfl)) pgs_nil))) (pss_one (ps_if (pt_cmpR op_eq (pe_op op_andB (pv 4) (pv 1)) (pv 4) (by first | exact nomark _ | rfl)) (pss_one (ps_aug (i := 2) nd rfl (.inl rfl) (pe_op op_shlB pe_int (pv 3)) iop_orB)) pss_nil)))
    (pss_one (ps_ret (pv 2))))), ?_⟩
    refine ⟨_, rfl, a, _, rfl, ha, fun J G ex hG wk => ?_⟩
    rw [List.length_map] at wk
    refine for_it wk (fun i σ H' => Same H H' ∧ ∃ s3 s4 : Option V, σ = [some (.ref a), some (.int (won : Nat)), some (.int (maskOf (fun p => match steps[p]? with | some st => decide (st &&& won = st) | none => false) i : Nat)), s3, s4]) ⟨.refl _, _, _, rfl⟩ (fun i σ H' _ ⟨s, _⟩ => hG H' (.same s)) ?_ ?_
    · rintro i x σ H1 H2 hi ⟨sm, s3, s4, rfl⟩ ⟨U, x1, x2, rfl, nU, rfl, ex1, ex2⟩
      cases ex1
      obtain ⟨st, hst, rfl⟩ := nat_at ex2
      have u := same_new (o := .tup [.int (i : Nat), natV st]) nU
      have hU : upd H1 U (.tup [.int (i : Nat), natV st]) U = some (.tup [.int (i : Nat), natV st]) := upd_same
      generalize upd H1 U (.tup [.int (i : Nat), natV st]) = H2 at u hU ⊢
      refine ⟨U, _, rfl, SqT.of hU, rfl, _, _, rfl, _, _, rfl, rfl, ?_⟩
      refine ⟨_, rfl, _, rfl, _, _, rfl, rfl, _, rfl, rfl, ?_⟩
      rw [show decide (V.int ((st &&& won : Nat)) = V.int (st : Nat)) = decide (st &&& won = st) from decide_eq_decide.mpr ⟨fun z => by injection z with z; omega, fun z => by rw [z]⟩]
      refine ⟨_, rfl, ?_⟩
      have mk : maskOf (fun p => match steps[p]? with | some st => decide (st &&& won = st) | none => false) (i + 1) = maskOf (fun p => match steps[p]? with | some st => decide (st &&& won = st) | none => false) i ||| (if decide (st &&& won = st) = true then 2 ^ i else 0) := by
        rw [maskOf, hst]
      by_cases c : st &&& won = st
      · rw [decide_eq_true c] at mk ⊢
        rw [if_pos rfl] at mk
        refine iteT ⟨_, rfl, _, rfl, i, rfl, rfl, by omega, _, _, rfl, rfl, sm.trans u, some (.int (i : Nat)), some (natV st), ?_⟩
        rw [mk]
        rfl
      · rw [decide_eq_false c] at mk ⊢
        rw [if_neg Bool.false_ne_true, Nat.or_zero] at mk
        refine iteF ⟨sm.trans u, some (.int (i : Nat)), some (natV st), ?_⟩
        rw [mk]
        rfl
    · rintro σ H1 ⟨sm, s3, s4, rfl⟩
      exact ⟨_, rfl, k H1 sm⟩
abbrev sSingleBits : Stmt := top ix_single_bits
theorem scSingleBits : FnScope ["sights", "place"] ["sights"] (defScope sSingleBits) := ⟨rfl, rfl, rfl, by decide +kernel, rfl, by decide +kernel, by decide +kernel⟩
theorem has_single_bits (T : Bn mg) (D : DFE K mg "_single_bits" sSingleBits ["sights"]) : Has P w K mg base CX0 1 "_single_bits" ["sights"] (spSingle K) := by
  refine has_of D scSingleBits (fun vs H Q E h => ?_) (fun f cdv A outer s H vs Q E hr h => ?_)
  · obtain ⟨a, xs, rfl, _⟩ := h; rfl
  · obtain ⟨a, xs, rfl, ha, few, k⟩ := h
    have nd := scSingleBits.nd
    refine ⟨_, (pss_one (ps_ret (pe_lc (own := [("place", 1)]) (g := gName 1) (tt := tYes) rfl nd (pi_range1 rfl T.z_range (pa_cons (pe_callB call_len (by rfl) T.z_len (by decide +kernel) (pa_cons (pv 0) pa_nil)) pa_nil)) (blkOk_by (own := [("place", 1)]) (N := ["sights", "place"]) (sc := defScope sSingleBits) (by decide +kernel)) (fun _ _ _ _ _ => (pg_name (i := 1) nd rfl (by first | exact Or.inl rfl | exact Or.inr rfl))) (fun _ _ _ _ _ => pts_nil) (fun _ _ _ _ _ => (pe_op op_shlB pe_int (pv 1)))))), ?_⟩
    refine ⟨_, rfl, .ref a, _, rfl, ha.imp (fun h => ⟨_, h, rfl⟩) (fun h => ⟨_, h, rfl⟩), _, rfl, by omega, by omega, fun L nL => ?_⟩
    have lv0 := Lv.zero H
    refine lc_it (walk_range (lo := 0) (n := ((xs.length : Nat) : Int).toNat)) (fun i H' => Hold (Lv H [] H' [(L, .lst (((List.range i).map fun i => 2 ^ i).map natV))])) ⟨lv0.al nL⟩ (fun _ _ _ _ => True.intro) ?_ ?_
    · rintro i x H1 H2 hi ⟨lv⟩ ⟨rfl, rfl⟩
      refine ⟨rfl, _, rfl, i, rfl, (by show V.int (0 + (i : Nat)) = V.int (i : Nat); rw [Int.zero_add]), by omega, _, lv.get 0 rfl, by rw [List.length_map, List.length_map, List.length_range, sizeLine_eq]; omega, ⟨?_⟩⟩
      rw [List.range_succ, List.map_append, List.map_append]
      exact lv.stE 0 rfl rfl
    · rintro H1 ⟨lv⟩
      rw [Int.toNat_natCast] at lv
      exact k L H1 lv.sm nL (lv.get 0 rfl)
abbrev sGreatestRank : Stmt := top ix_greatest_rank
theorem scGreatestRank : FnScope ["ranks"] ["ranks"] (defScope sGreatestRank) := ⟨rfl, rfl, rfl, by decide +kernel, rfl, by decide +kernel, by decide +kernel⟩
theorem has_greatest_rank (T : Bn mg) (D : DFE K mg "greatest_rank" sGreatestRank ["ranks"]) : Has P w K mg base CX0 1 "greatest_rank" ["ranks"] (spGreatest K) := by
  refine has_of D scGreatestRank (fun vs H Q E h => ?_) (fun f cdv A outer s H vs Q E hr h => ?_)
  · obtain ⟨a, rs, rfl, _⟩ := h; rfl
  · obtain ⟨a, rs, rfl, ha, ne, k⟩ := h
    have nd := scGreatestRank.nd
    refine ⟨_, (pss_one (ps_ret (pe_ifExp (pt_cmpR op_in_seq pe_non (pv 0) (by first | exact nomark _ | rfl)) pe_non (pe_callB (cr_maxN rfl hr.units) (by rfl) T.z_max (by decide +kernel) (pa_cons (pv 0) pa_nil))))), ?_⟩
    refine ⟨_, rfl, a, _, rfl, ha, rfl, flat_rks rs, ?_⟩
    rw [if_neg (by decide), in_rks]
    refine ⟨_, rfl, ?_⟩
    unfold greatR at k
    by_cases c : none ∈ rs
    · rw [if_pos c] at k
      rw [decide_eq_true c]
      exact iteT k
    · rw [if_neg c] at k
      rw [decide_eq_false c]
      rw [some_all c] at ha
      refine iteF ⟨_, rfl, a, _, rfl, ha, fun z => ne ?_, k⟩
      have := congrArg List.length (some_all c)
      rw [List.length_map, List.length_map, z] at this
      exact List.eq_nil_of_length_eq_zero this
abbrev sLeastRank : Stmt := top ix_least_rank
theorem scLeastRank : FnScope ["ranks", "rank"] ["ranks"] (defScope sLeastRank) := ⟨rfl, rfl, rfl, by decide +kernel, rfl, by decide +kernel, by decide +kernel⟩
theorem has_least_rank (T : Bn mg) (D : DFE K mg "least_rank" sLeastRank ["ranks"]) : Has P w K mg base CX0 1 "least_rank" ["ranks"] (spLeast K) := by
  refine has_of D scLeastRank (fun vs H Q E h => ?_) (fun f cdv A outer s H vs Q E hr h => ?_)
  · obtain ⟨a, rs, rfl, _⟩ := h; rfl
  · obtain ⟨a, rs, rfl, ha, few, k⟩ := h
    have nd := scLeastRank.nd
    refine ⟨_, (pss_one (ps_ret (pe_callBK (cr_minD rfl hr.units) (by rfl) T.z_min (by decide +kernel) (pa_cons (pe_lc (own := [("rank", 1)]) (g := gName 1) rfl nd (pi_sq (pv 0)) (blkOk_by (own := [("rank", 1)]) (N := ["ranks", "rank"]) (sc := defScope sLeastRank) (by decide +kernel)) (fun _ _ _ _ _ => (pg_name (i := 1) nd rfl (by first | exact Or.inl rfl | exact Or.inr rfl))) (fun _ _ _ _ _ => (pts_one (pt_cmpR op_notN (pv 1) pe_non (by first | exact nomark _ | rfl)))) (fun _ _ _ _ _ => (pv 1))) pa_nil) (pk_cons pe_non pk_nil)))), ?_⟩
    refine ⟨_, rfl, a, _, rfl, ha, fun J G ex hG wk L nL => ?_⟩
    rw [List.length_map] at wk
    refine lc_it wk (fun i H' => Hold (Lv H [] H' [(L, .lst (((rs.take i).filterMap id).map natV))])) ⟨(Lv.zero H).al nL⟩ (fun i H' _ ⟨z⟩ => hG H' (.same z.sm)) ?_ ?_
    · rintro i x H1 H2 hi ⟨lv⟩ ⟨rfl, hx⟩
      obtain ⟨r, hr0, rfl⟩ := rk_at hx
      have tk := take_next2 hr0
      have fl : ((rs.take i).filterMap id).length ≤ rs.length := Nat.le_trans (List.length_filterMap_le _ _) (List.length_take_le' _ _)
      refine ⟨rfl, _, rfl, rfl, ?_⟩
      cases r with
      | none =>
        refine ⟨_, rfl, iteF ⟨?_⟩⟩
        rw [tk, List.filterMap_append]
        show Lv H [] H2 [(L, .lst (((rs.take i).filterMap id ++ []).map natV))]
        rw [List.append_nil]
        exact lv
      | some j =>
        refine ⟨_, rfl, iteT ⟨_, rfl, _, lv.get 0 rfl, by rw [List.length_map, sizeLine_eq]; omega, ⟨?_⟩⟩⟩
        rw [tk, List.filterMap_append, List.map_append]
        exact lv.stE 0 rfl rfl
    · rintro H1 ⟨lv⟩
      rw [List.take_length] at lv
      refine ⟨L, _, rfl, rfl, SqL.of (lv.get 0 rfl), ?_⟩
      rw [rkV_opt]
      exact k H1 lv.sm
end
end Pw

set_option Elab.async false
set_option linter.all false
set_option maxRecDepth 100000
set_option maxHeartbeats 4000000
namespace Pw
open PySem PySem.Spec PyProof.Rows L2 Ct
local macro_rules | `(tactic| wide_line) => `(tactic| repeat ((fail_if_success (with_reducible refine at_while ?_)); (fail_if_success (with_reducible refine at_while1 ?_)); (conv => whnf); first | ((with_reducible refine And.intro ?_ ?_); focus (first | (first | ((with_reducible show (_ : Nat) ≤ _); first | exact sz0 | exact sz1 | exact sz2 | exact sz3 | exact sz4 | exact sz5 | exact sz6 | exact sz7 | exact sz8 | exact sz10 | exact sz11 | exact sz12 | exact sz14 | omega | decide | (simp only [List.length_cons, List.length_nil]; omega)) | ((with_reducible show (_ : Int) ≤ _); first | omega | decide) | ((with_reducible show (_ : Int) < _); first | omega | decide) | ((with_reducible show (_ : Nat) < _); omega)) | ((fail_if_success (with_reducible show (_ : Nat) ≤ _)); (fail_if_success (with_reducible show (_ : Int) ≤ _)); (fail_if_success (with_reducible show (_ : Int) < _)); (fail_if_success (with_reducible show (_ : Nat) < _)); first | exact kv_str _ | exact kv_int _ | rfl | assumption | exact flat_strs _ | exact Lv.get (by assumption) 0 rfl | exact Lv.get (by assumption) 1 rfl | exact Lv.get (by assumption) 2 rfl | exact Lv.get (by assumption) 3 rfl | exact Lv.get (by assumption) 4 rfl | exact Lv.get (by assumption) 5 rfl | exact Lv.get (by assumption) 6 rfl | exact SqL.of (Lv.get (by assumption) 0 rfl) | exact SqL.of (Lv.get (by assumption) 1 rfl) | exact SqL.of (Lv.get (by assumption) 2 rfl) | exact SqL.of (Lv.get (by assumption) 3 rfl) | exact SqL.of (Lv.get (by assumption) 4 rfl) | exact SqL.of (Lv.get (by assumption) 5 rfl) | exact Or.inl (SqL.of (Lv.get (by assumption) 0 rfl)) | exact Or.inl (SqL.of (Lv.get (by assumption) 1 rfl)) | exact Or.inl (SqL.of (Lv.get (by assumption) 2 rfl)) | exact Or.inl (SqL.of (Lv.get (by assumption) 3 rfl)) | exact Or.inl (SqL.of (Lv.get (by assumption) 4 rfl)) | exact Or.inl (SqL.of (Lv.get (by assumption) 5 rfl)) | exact ⟨_, SqL.of (Lv.get (by assumption) 0 rfl)⟩ | exact ⟨_, SqL.of (Lv.get (by assumption) 1 rfl)⟩ | exact ⟨_, SqL.of (Lv.get (by assumption) 2 rfl)⟩ | exact ⟨_, SqL.of (Lv.get (by assumption) 3 rfl)⟩ | exact ⟨_, SqL.of (Lv.get (by assumption) 4 rfl)⟩ | exact ⟨_, SqL.of (Lv.get (by assumption) 5 rfl)⟩ | exact Or.inl ⟨_, SqL.of (Lv.get (by assumption) 0 rfl), rfl⟩ | exact Or.inl ⟨_, SqL.of (Lv.get (by assumption) 1 rfl), rfl⟩ | exact Or.inl ⟨_, SqL.of (Lv.get (by assumption) 2 rfl), rfl⟩ | exact Or.inl ⟨_, SqL.of (Lv.get (by assumption) 3 rfl), rfl⟩ | exact Or.inl ⟨_, SqL.of (Lv.get (by assumption) 4 rfl), rfl⟩ | exact Or.inl ⟨_, SqL.of (Lv.get (by assumption) 5 rfl), rfl⟩ | exact Or.inl ⟨rfl, _, SqL.of (Lv.get (by assumption) 0 rfl)⟩ | exact Or.inl ⟨rfl, _, SqL.of (Lv.get (by assumption) 1 rfl)⟩ | exact Or.inl ⟨rfl, _, SqL.of (Lv.get (by assumption) 2 rfl)⟩ | exact Or.inl ⟨rfl, _, SqL.of (Lv.get (by assumption) 3 rfl)⟩ | exact Or.inl ⟨rfl, _, SqL.of (Lv.get (by assumption) 4 rfl)⟩ | exact Or.inl ⟨rfl, _, SqL.of (Lv.get (by assumption) 5 rfl)⟩ | exact Or.inr (SqT.of (Lv.get (by assumption) 0 rfl)) | exact Or.inr (SqT.of (Lv.get (by assumption) 1 rfl)) | exact Or.inr (SqT.of (Lv.get (by assumption) 2 rfl)) | exact Or.inr (SqT.of (Lv.get (by assumption) 3 rfl)) | exact SqT.of (Lv.get (by assumption) 0 rfl) | exact SqT.of (Lv.get (by assumption) 1 rfl) | exact SqT.of (Lv.get (by assumption) 2 rfl) | exact dgetN (Lv.get (by assumption) 0 rfl) (by assumption) | exact dgetN (Lv.get (by assumption) 1 rfl) (by assumption) | exact dgetN (Lv.get (by assumption) 2 rfl) (by assumption) | exact dgetN (Lv.get (by assumption) 3 rfl) (by assumption) | exact dgetN (Lv.get (by assumption) 4 rfl) (by assumption) | exact Or.inl (by assumption) | exact Or.inr (by assumption) | decide | ((with_reducible show _ ∧ _); omega)))) | ((fail_if_success (with_reducible apply @Exists.intro (Nat → _))); (with_reducible apply Exists.intro))))
local macro_rules
  | `(tactic| wide_line with al $lv:ident $l:ident $nl:ident $H:ident $lv1:ident $s1:ident) => `(tactic| (intro $l:ident $nl:ident; generalize he : upd _ _ _ = $H:ident; have $lv1:ident := Lv.alE $lv $nl he; have $s1:ident := sameE $nl he; clear he; (try simp only [List.set_cons_zero, List.set_cons_succ] at $lv1:ident)))
  | `(tactic| wide_line with alx $lv:ident $nl:ident $H:ident $lv1:ident $s1:ident) => `(tactic| (generalize he : upd _ _ _ = $H:ident; have $lv1:ident := Lv.alE $lv $nl he; have $s1:ident := sameE $nl he; clear he; (try simp only [List.set_cons_zero, List.set_cons_succ] at $lv1:ident)))
  | `(tactic| wide_line with sts $lv:ident $i:num $H:ident $lv1:ident $s0:ident $np:ident $s1:ident) => `(tactic| (generalize he : upd _ _ _ = $H:ident; have $lv1:ident := Lv.stE $lv $i rfl he; have $s1:ident := sameN $s0 $np he; clear he; (try simp only [List.set_cons_zero, List.set_cons_succ] at $lv1:ident)))
  | `(tactic| wide_line with stx $lv:ident $H:ident $lv1:ident $d1:ident) => `(tactic| (generalize he : upd _ _ _ = $H:ident; have $lv1:ident := Lv.stE $lv 0 rfl he; have $d1:ident := SameD.storeE (Lv.get $lv 0 rfl) he; clear he; (try simp only [List.set_cons_zero, List.set_cons_succ] at $lv1:ident)))
  | `(tactic| wide_line with st $lv:ident $i:num $H:ident $lv1:ident) => `(tactic| (generalize he : upd _ _ _ = $H:ident; have $lv1:ident := Lv.stE $lv $i rfl he; clear he; (try simp only [List.set_cons_zero, List.set_cons_succ] at $lv1:ident)))
  | `(tactic| wide_line with stk $lv:ident $i:num $H:ident $lv1:ident $k1:ident) => `(tactic| (generalize he : upd _ _ _ = $H:ident; have $lv1:ident := Lv.stE $lv $i rfl he; have $k1:ident := KeepT.st (Lv.get $lv $i rfl) he; clear he; (try simp only [List.set_cons_zero, List.set_cons_succ] at $lv1:ident)))
theorem atI_back {α : Type} {xs : List α} {k : Nat} (h1 : 1 ≤ k) (h2 : k ≤ xs.length) : atI xs (-(k : Int)) = xs[xs.length - k]? := by
  unfold atI ixN
  rw [if_neg (by omega), if_pos (by omega)]
  show xs[(-(k : Int) + (xs.length : Nat)).toNat]? = _
  congr 1
  omega
theorem cond_to {c : TT} {σ : L2.St} {H : Hp} {Q : Bool → Hp → Prop} (R : Bool → Hp → Prop) (hc : ∀ Q' : Bool → Hp → Prop, (∀ x H', R x H' → Q' x H') → c σ H Q') (h : ∀ x H', R x H' → Q x H') : c σ H Q := hc Q h
theorem cut_last {xs : List V} {x : V} : cutV (xs ++ [x]) none (some (-1)) = xs := by
  unfold cutV
  have e : HT.sIx (xs ++ [x]).length (xs ++ [x]).length (some (-1)) = xs.length := by
    show ((-1 : Int) + ((xs ++ [x]).length : Nat)).toNat = _
    rw [List.length_append, List.length_singleton]
    omega
  rw [e, HT.sIx_none, List.drop_zero, Nat.sub_zero, List.take_append_of_le_length (Nat.le_refl _), List.take_length]
def natsD (l : List Nat) : PyData := .list (l.map fun n => .int (n : Nat))
theorem dps_nats {K : PySem.W.Frag} {H : Hp} : ∀ l : List Nat, DpAll K H (l.map natV) (l.map fun n => .int (n : Nat))
  | [] => .nil
  | _ :: l => .cons (.int _) (dps_nats l)
theorem dp_nats {K : PySem.W.Frag} {H : Hp} {a : Addr} {l : List Nat} (h : SqL K H a (l.map natV)) : Dp K H (.ref a) (natsD l) := .lst h (dps_nats l)
theorem eqv_nats : ∀ l m : List Nat, PyData.eqv (natsD l) (natsD m) = decide (l = m)
  | [], [] => rfl
  | [], _ :: _ => rfl
  | _ :: _, [] => rfl
  | a :: l, b :: m => by
    have ih := eqv_nats l m
    unfold natsD at ih ⊢
    rw [PyData.eqv] at ih ⊢
    rw [List.map_cons, List.map_cons, PyData.eqvAll, ih]
    rw [Bool.eq_iff_iff, Bool.and_eq_true, decide_eq_true_eq, decide_eq_true_eq, List.cons.injEq, PyData.eqv, beq_iff_eq]
    constructor
    · exact fun z => ⟨by have := z.1; omega, z.2⟩
    · exact fun z => ⟨by rw [z.1], z.2⟩
theorem shaped_nats (l : List Nat) : SeqAt.shaped (natsD l) = true := by
  have c : PyData.canLayAll0 (l.map fun n => PyData.int (n : Nat)) = true := lays_of fun d hd => by
    obtain ⟨n, _, rfl⟩ := List.mem_map.mp hd
    rfl
  have d : PyData.depthAll (l.map fun n => PyData.int (n : Nat)) ≤ 1 := depths_of fun d hd => by
    obtain ⟨n, _, rfl⟩ := List.mem_map.mp hd
    simp [PyData.depth]
  unfold SeqAt.shaped natsD
  rw [show PyData.canLay0 (.list (l.map fun n => PyData.int (n : Nat))) = true from c, decide_eq_true (by rw [PyData.depth]; omega)]
  rfl
/-- rows of rounds: the k-th at its place, all but the first new -/
def RoundsN (H H' : Hp) (lh : Addr) (W : Wx) (as : List Addr) : Prop := as[0]? = some lh ∧ ∀ k a, as[k]? = some a → H' a = some (.lst ((itW W k).map natV)) ∧ (k = 0 ∨ H a = none)
def spRounds (K : PySem.W.Frag) : Sp := fun vs H Q _ => ∃ (lw lh ls : Addr) (xw xs : List V) (W : Wx) (n : Nat), vs = [.ref lw, .ref lh, .ref ls] ∧ WOk W n ∧ H lw = some (.lst xw) ∧ RowsL H xw W.ways ∧ H lh = some (.lst (W.held.map natV)) ∧ H ls = some (.lst xs) ∧ RowsT K H xs W.steps ∧
  ∀ (m : Nat) (r : Addr) (as : List Addr) (H' : Hp), FinW W m → Same H H' → H r = none → H' r = some (.lst (as.map V.ref)) → as.length = m + 1 → RoundsN H H' lh W as → Q (.ref r) H'
theorem rowsT_at {K : PySem.W.Frag} {H : Hp} {xs : List V} {ls : List (List Nat)} (h : RowsT K H xs ls) {i : Nat} {l : List Nat} (e : ls[i]? = some l) : ∃ a, xs[i]? = some (.ref a) ∧ SqT K H a (l.map natV) := by
  have hl := paired_len h
  have hi : i < xs.length := by rw [hl]; exact (List.getElem?_eq_some_iff.mp e).1
  obtain ⟨p, hp, a, ea, ha⟩ := paired_at h (List.getElem?_eq_getElem hi)
  rw [e] at hp
  cases hp
  exact ⟨a, by rw [List.getElem?_eq_getElem hi, ea], ha⟩
theorem natAt {ns : List Nat} {i : Nat} (h : i < ns.length) : atI (ns.map natV) ((i : Nat) : Int) = some (natV (ns.getD i 0)) := atI_nat (by rw [List.getElem?_map, List.getElem?_eq_getElem h, List.getD_eq_getElem?_getD, List.getElem?_eq_getElem h]; rfl)
section
variable {P : Program} {w : World} {K : PySem.W.Frag} {mg : Str → Option Value} {base : Heap}
abbrev sRankRounds : Stmt := top ix_rank_rounds
theorem scRankRounds : FnScope ["ways", "held", "steps", "rounds", "won", "lost", "stand", "seen"] ["ways", "held", "steps"] (defScope sRankRounds) := ⟨rfl, rfl, rfl, by decide +kernel, rfl, by decide +kernel, by decide +kernel⟩
theorem has_rank_rounds (T : Bn mg) (D : DFE K mg "rank_rounds" sRankRounds ["ways", "held", "steps"]) (hunited : Has P w K mg base CX0 1 "united" ["numbers", "chosen"] (spUnited K)) (hlost_runners : Has P w K mg base CX0 1 "lost_runners" ["steps", "won"] (spLost K)) : Has P w K mg base CX0 2 "rank_rounds" ["ways", "held", "steps"] (spRounds K) := by
  refine has_of D scRankRounds (fun vs H Q E h => ?_) (fun f cdv A outer s H vs Q E hr h => ?_)
  · obtain ⟨lw, lh, ls, xw, xs, W, n, rfl, _⟩ := h; rfl
  · obtain ⟨lw, lh, ls, xw, xs, W, n, rfl, ok, hw, rw_, hh, hs, rs, k⟩ := h
    have nd := scRankRounds.nd
    refine ⟨_, (pss_cons (ps_sv 3 nd (pe_lst (pa_cons (pv 1) pa_nil)))
    (pss_cons (ps_while PassesOwn.never (PW.pt (pw_or (pt_cmpR op_eq (pe_callB call_len (by rfl) T.z_len (by decide +kernel) (pa_cons (pv 3) pa_nil)) pe_int (by first | exact nomark _ | rfl)) (pw_or1 (pt_cmpR (op_neDk (K := K) rfl hr.units) (pe_ix ix_list (pv 3) (pe_un un_neg pe_int) (fun _ _ => rfl)) (pe_ix ix_list (pv 3) (pe_un un_neg pe_int) (fun _ _ => rfl)) (by first | exact nomark _ | rfl))))) (pss_cons (ps_sv 4 nd (pe_ix ix_list (pv 3) (pe_un un_neg pe_int) (fun _ _ => rfl)))
    (pss_cons (ps_sv 5 nd (pe_lc (own := [("stand", 6)]) (g := gName 6) (tt := tYes) rfl nd (pi_range1 rfl T.z_range (pa_cons (pe_callB call_len (by rfl) T.z_len (by decide +kernel) (pa_cons (pv 0) pa_nil)) pa_nil)) (blkOk_by (own := [("stand", 6)]) (N := ["ways", "held", "steps", "rounds", "won", "lost", "stand", "seen"]) (sc := defScope sRankRounds) (by decide +kernel)) (fun _ _ _ _ _ => (pg_name (i := 6) nd rfl (by first | exact Or.inl rfl | exact Or.inr rfl))) (fun _ _ _ _ _ => pts_nil) (fun _ _ _ _ _ => (pe_op op_orB (pe_h hlost_runners hr (by decide) rfl (pa_cons (pe_ix (ix_listk (K := K) rfl) (pv 2) (pv 6) (fun _ _ => rfl)) (pa_cons (pe_ix (ix_listk (K := K) rfl) (pv 4) (pv 6) (fun _ _ => rfl)) pa_nil))) (pe_ix (ix_listk (K := K) rfl) (pv 1) (pv 6) (fun _ _ => rfl))))))
    (pss_one (ps_expr (pe_bm PySem.F.plainAttrs_list PySem.F.slot_list_append PySem.F.type_list_append mt_append (pv 3) (pa_cons (pe_lc (own := [("seen", 7)]) (g := gName 7) (tt := tYes) rfl nd (pi_sq (pv 0)) (blkOk_by (own := [("seen", 7)]) (N := ["ways", "held", "steps", "rounds", "won", "lost", "stand", "seen"]) (sc := defScope sRankRounds) (by decide +kernel)) (fun _ _ _ _ _ => (pg_name (i := 7) nd rfl (by first | exact Or.inl rfl | exact Or.inr rfl))) (fun _ _ _ _ _ => pts_nil) (fun _ _ _ _ _ => (pe_h hunited hr (by decide) rfl (pa_cons (pv 5) (pa_cons (pv 7) pa_nil))))) pa_nil)))))))
    (pss_one (ps_ret (pe_slice sl_list (pv 3) po_none (po_some (pe_un un_neg pe_int))))))), ?_⟩
    have lv0 := Lv.zero H
    have ln2 : 2 ^ n ≤ 2 ^ 12 := Nat.pow_le_pow_right (by decide) ok.nn
    have bnd : W.ways.length * 2 ^ n ≤ 409600 := by
      have h1 : W.ways.length * 2 ^ n ≤ 100 * 2 ^ n := Nat.mul_le_mul_right _ ok.few
      omega
    have wl : xw.length = W.ways.length := paired_len rw_
    refine ⟨_, rfl, sz1, fun R nR => ?_⟩
    wide_line with alx lv0 nR H1 lv1 s1
    dsimp only [gName, tSeq]
    refine while_n (fun σ H' => Hold (∃ (j : Nat) (as : List Addr) (s4 s5 s6 s7 : Option V), σ = [some (.ref lw), some (.ref lh), some (.ref ls), some (.ref R), s4, s5, s6, s7] ∧ Lv H [] H' [(R, .lst (as.map V.ref))] ∧ as.length = j + 1 ∧ RoundsN H H' lh W as ∧ ∀ k, k + 1 < j → itW W (k + 1) ≠ itW W k)) (fun _ H' => W.ways.length * 2 ^ n + 3 - lenH H' R) ?_ ?_
    · refine ⟨0, [lh], _, _, _, _, rfl, lv1, rfl, ⟨rfl, fun k a e => ?_⟩, fun k z => by omega⟩
      cases k with
      | zero =>
        cases e
        exact ⟨s1 _ _ hh, .inl rfl⟩
      | succ k => cases e
    · rintro σ H2 ⟨j, as, s4, s5, s6, s7, rfl, lv2, la, ra, ne⟩
      have hR2 := lv2.get 0 rfl
      have lR : lenH H2 R = j + 1 := by rw [lenH_eq hR2, List.length_map, la]
      have atk : ∀ {k : Nat}, k ≤ j → ∃ a, as[k]? = some a ∧ H2 a = some (.lst ((itW W k).map natV)) := fun {k} hk => by
        have : k < as.length := by omega
        exact ⟨as[k], List.getElem?_eq_getElem this, (ra.2 k _ (List.getElem?_eq_getElem this)).1⟩
      have more : (∀ k, k < j → itW W (k + 1) ≠ itW W k) → j ≤ W.ways.length * 2 ^ n := few_rounds ok
      refine cond_to (fun b H' => Same H2 H' ∧ (b = true → ∀ k, k < j → itW W (k + 1) ≠ itW W k) ∧ (b = false → 1 ≤ j ∧ itW W j = itW W (j - 1))) (fun Q0 hQ => ?_) (fun b H3 hb => ?_)
      · refine ⟨_, rfl, .ref R, _, rfl, .inl ⟨_, SqL.of hR2, rfl⟩, rfl, ?_⟩
        rw [List.length_map, la, show decide (V.int ((j + 1 : Nat) : Int) = V.int 1) = decide (j = 0) from decide_eq_decide.mpr ⟨fun z => by injection z with z; omega, fun z => by rw [z]; rfl⟩]
        refine ⟨_, rfl, ?_⟩
        by_cases j0 : j = 0
        · rw [decide_eq_true j0]
          exact iteT (hQ _ _ ⟨.refl _, fun _ k z => by omega, fun z => nomatch z⟩)
        rw [decide_eq_false j0]
        obtain ⟨a1, ea1, h1⟩ := atk (Nat.le_refl j)
        obtain ⟨a2, ea2, h2⟩ := atk (k := j - 1) (by omega)
        have b1 : atI (as.map V.ref) (-1) = some (.ref a1) := by
          rw [show (-1 : Int) = -((1 : Nat) : Int) from rfl, atI_back (by decide) (by rw [List.length_map]; omega), List.length_map, List.getElem?_map, la, show j + 1 - 1 = j from by omega, ea1]
          rfl
        have b2 : atI (as.map V.ref) (-2) = some (.ref a2) := by
          rw [show (-2 : Int) = -((2 : Nat) : Int) from rfl, atI_back (by decide) (by rw [List.length_map]; omega), List.length_map, List.getElem?_map, la, show j + 1 - 2 = j - 1 from by omega, ea2]
          rfl
        refine iteF ⟨_, rfl, _, rfl, R, _, _, _, rfl, rfl, SqL.of hR2, b1, _, rfl, _, rfl, R, _, _, _, rfl, rfl, SqL.of hR2, b2, natsD (itW W j), natsD (itW W (j - 1)), dp_nats (SqL.of h1), dp_nats (SqL.of h2), shaped_nats _, shaped_nats _, _, rfl, ?_⟩
        rw [eqv_nats]
        by_cases c : itW W j = itW W (j - 1)
        · rw [decide_eq_true c]
          exact hQ _ _ ⟨.refl _, (fun z => nomatch z), fun _ => ⟨by omega, c⟩⟩
        · rw [decide_eq_false c]
          refine hQ _ _ ⟨.refl _, fun _ k hk => ?_, (fun z => nomatch z)⟩
          by_cases c2 : k + 1 < j
          · exact ne k c2
          · obtain rfl : j = k + 1 := by omega
            exact c
      · obtain ⟨s3, ht, hf⟩ := hb
        have lv3 := lv2.same s3
        have ra3 : RoundsN H H3 lh W as := ⟨ra.1, fun k a e => ⟨s3 _ _ (ra.2 k a e).1, (ra.2 k a e).2⟩⟩
        cases b with
        | false =>
          rw [if_neg (by decide)]
          obtain ⟨j1, ej⟩ := hf rfl
          have el : as = as.dropLast ++ [as.getLast (by intro z; rw [z] at la; cases la)] := (List.dropLast_concat_getLast _).symm
          refine ⟨_, rfl, _, rfl, _, rfl, R, _, rfl, SqL.of (lv3.get 0 rfl), fun r nr => ?_⟩
          have cl : cutV (as.map V.ref) none (some (-1)) = as.dropLast.map V.ref := by
            conv => lhs; rw [el, List.map_append]
            exact cut_last
          wide_line with alx lv3 nr H4 lv4 s4'
          rw [cl] at lv4
          have fm : FinW W (j - 1) := ⟨by rw [show j - 1 + 1 = j from by omega]; exact ej, fun k hk => ne k (by omega)⟩
          refine k (j - 1) r as.dropLast H4 fm lv4.sm (lv3.free nr) (lv4.get 0 rfl) (by rw [List.length_dropLast, la]; omega) ⟨?_, fun k a e => ?_⟩
          · rw [List.getElem?_dropLast, if_pos (by omega)]
            exact ra3.1
          · rw [List.getElem?_dropLast] at e
            split at e
            · exact ⟨s4' _ _ (ra3.2 k a e).1, (ra3.2 k a e).2⟩
            · cases e
        | true =>
          rw [if_pos rfl]
          have nej := ht rfl
          have jb := more nej
          refine ⟨_, while_nx, ?_⟩
          obtain ⟨a1, ea1, h1⟩ := atk (Nat.le_refl j)
          have b1 : atI (as.map V.ref) (-1) = some (.ref a1) := by
            rw [show (-1 : Int) = -((1 : Nat) : Int) from rfl, atI_back (by decide) (by rw [List.length_map]; omega), List.length_map, List.getElem?_map, la, show j + 1 - 1 = j from by omega, ea1]
            rfl
          refine ⟨_, rfl, _, rfl, R, _, _, _, rfl, rfl, SqL.of (lv3.get 0 rfl), b1, ?_⟩
          -- who is lost
          have lit := len_it ok j
          have won_at : ∀ {i : Nat}, i < W.ways.length → atI ((itW W j).map natV) ((i : Nat) : Int) = some (natV ((itW W j).getD i 0)) := fun {i} hi => natAt (by rw [lit]; exact hi)
          refine ⟨_, rfl, .ref lw, _, rfl, .inl ⟨_, SqL.of (lv3.sm _ _ hw), rfl⟩, _, rfl, by have := ok.few; omega, by have := ok.few; omega, fun L nL => ?_⟩
          refine lc_it (walk_range (lo := 0) (n := ((xw.length : Nat) : Int).toNat)) (fun i H' => Hold (Lv H3 [] H' [(L, .lst (((lostsW W (itW W j)).take i).map natV))])) ⟨(Lv.zero H3).al nL⟩ (fun _ _ _ _ => True.intro) ?_ ?_
          · rintro i x H4 H5 hi ⟨lv⟩ ⟨rfl, hx⟩
            obtain rfl : x = V.int ((i : Nat) : Int) := by rw [hx]; show V.int (0 + (i : Nat)) = _; rw [Int.zero_add]
            rw [Int.toNat_natCast, wl] at hi
            have his : i < W.steps.length := by rw [ok.ls]; exact hi
            have sm4 := lv3.sm.trans lv.sm
            obtain ⟨ta, hta, hst⟩ := rowsT_at rs (List.getElem?_eq_getElem his)
            have few_i : (W.steps[i]).length ≤ 1000 := by rw [ok.sn _ (List.getElem_mem his)]; have := ok.nn; omega
            have gs : W.steps.getD i [] = W.steps[i] := by rw [List.getD_eq_getElem?_getD, List.getElem?_eq_getElem his]; rfl
            have el : (lostsW W (itW W j))[i]? = some (lostN (W.steps[i]) ((itW W j).getD i 0) ||| W.held.getD i 0) := by
              unfold lostsW
              rw [List.getElem?_map, List.getElem?_range hi, ← gs]
              rfl
            have tk := take_next2 el
            refine ⟨rfl, _, rfl, _, rfl, ls, _, _, _, rfl, rfl, SqL.of (sm4 _ _ hs), atI_nat hta, _, rfl, _, rfl, a1, _, _, _, rfl, rfl, SqL.of (lv.sm _ _ (s3 _ _ h1)), won_at hi, ta, W.steps[i], (itW W j).getD i 0, rfl, .inr (same_t sm4 hst), few_i, fun H6 s6 => ?_⟩
            refine ⟨_, rfl, _, rfl, lh, _, _, _, rfl, rfl, SqL.of (s6 _ _ (sm4 _ _ hh)), natAt (by rw [ok.lh]; exact hi), _, _, rfl, rfl, ?_⟩
            have lv6 := lv.same s6
            refine ⟨_, lv6.get 0 rfl, by rw [List.length_map, List.length_take, sizeLine_eq]; have := ok.few; omega, ⟨?_⟩⟩
            rw [tk, List.map_append]
            exact lv6.stE 0 rfl rfl
          rintro H4 ⟨lvL⟩
          have ell : (lostsW W (itW W j)).length = W.ways.length := by unfold lostsW; rw [List.length_map, List.length_range]
          rw [Int.toNat_natCast, wl, ← ell, List.take_length] at lvL
          have sm4 := lv3.sm.trans lvL.sm
          have hR4 := lvL.sm _ _ (lv3.get 0 rfl)
          refine ⟨_, rfl, .inl ⟨rfl, _, SqL.of hR4⟩, ?_⟩
          refine ⟨_, rfl, lw, _, rfl, .inl (SqL.of (sm4 _ _ hw)), fun J G ex hG wk L2 nL2 => ?_⟩
          refine lc_it wk (fun i H' => Hold (Lv H4 [] H' [(L2, .lst (((itW W (j + 1)).take i).map natV))])) ⟨(Lv.zero H4).al nL2⟩ (fun i H' _ ⟨z⟩ => hG H' (.same z.sm)) ?_ ?_
          · rintro i x H5 H6 hi ⟨lv⟩ ⟨rfl, hx⟩
            obtain ⟨l, hl, a, rfl, ha⟩ := paired_at rw_ hx
            have el : (itW W (j + 1))[i]? = some (unitedN (lostsW W (itW W j)) l) := by
              show (stepW W (itW W j))[i]? = _
              unfold stepW
              rw [List.getElem?_map, hl]
              rfl
            have tk := take_next2 el
            refine ⟨rfl, _, rfl, _, rfl, L, a, lostsW W (itW W j), l, rfl, .inl (SqL.of (lv.sm _ _ (lvL.get 0 rfl))), .inl (SqL.of (lv.sm _ _ (sm4 _ _ ha))), fun t ht => by rw [ell]; exact (ok.wr i l hl).2 t ht, ?_⟩
            refine ⟨_, lv.get 0 rfl, by rw [List.length_map, List.length_take, sizeLine_eq]; have := ok.few; have := len_it ok (j + 1); omega, ⟨?_⟩⟩
            rw [tk, List.map_append]
            exact lv.stE 0 rfl rfl
          rintro H5 ⟨lvM⟩
          rw [wl, ← len_it ok (j + 1), List.take_length] at lvM
          have lv5 := lv3.same (lvL.sm.trans lvM.sm)
          refine ⟨R, _, _, rfl, rfl, lv5.get 0 rfl, by rw [List.length_map, la, sizeLine_eq]; omega, ?_⟩
          have h2 := lvM.get 0 rfl
          have nLR : L2 ≠ R := fun z => by rw [z, hR4] at nL2; cases nL2
          have nH2 : H L2 = none := free_of sm4 nL2
          generalize he : upd _ _ _ = H6
          have lv6 := Lv.stE lv5 0 rfl he
          simp only [List.set_cons_zero] at lv6
          rw [show as.map V.ref ++ [V.ref L2] = (as ++ [L2]).map V.ref from by rw [List.map_append]; rfl] at lv6
          have off : ∀ b o, b ≠ R → H5 b = some o → H6 b = some o := fun b o nb e => by rw [← he, upd_ne nb]; exact e
          clear he
          refine ⟨⟨j + 1, as ++ [L2], _, _, _, _, rfl, lv6, by rw [List.length_append, la]; rfl, ⟨by rw [List.getElem?_append_left (by omega)]; exact ra3.1, fun k a e => ?_⟩, fun k hk => nej k (by omega)⟩, ?_⟩
          · by_cases c : k < as.length
            · rw [List.getElem?_append_left c] at e
              have nR' : a ≠ R := fun z => by
                have e1 := (ra3.2 k a e).1
                rw [z, lv3.get 0 rfl] at e1
                injection e1 with e1
                injection e1 with e1
                have e2 := congrArg List.head? e1
                rw [List.head?_map, List.head?_map, List.head?_eq_getElem?, ra3.1] at e2
                cases q : (itW W k).head? with
                | none => rw [q] at e2; cases e2
                | some y => rw [q] at e2; cases e2
              exact ⟨off _ _ nR' (lvM.sm _ _ (lvL.sm _ _ (ra3.2 k a e).1)), (ra3.2 k a e).2⟩
            · have ek : k = j + 1 := by
                have := (List.getElem?_eq_some_iff.mp e).1
                rw [List.length_append, List.length_singleton] at this
                omega
              subst ek
              rw [List.getElem?_append_right (by omega), la, Nat.sub_self] at e
              cases e
              exact ⟨off _ _ nLR h2, .inr nH2⟩
          · rw [lR, lenH_eq (lv6.get 0 rfl), List.length_map, List.length_append, la, List.length_singleton]
            omega
end
end Pw

set_option Elab.async false
set_option linter.all false
set_option maxRecDepth 100000
set_option maxHeartbeats 4000000
namespace Pw
open PySem PySem.Spec PyProof.Rows L2 Ct
local macro_rules | `(tactic| wide_line) => `(tactic| repeat ((fail_if_success (with_reducible refine at_while ?_)); (fail_if_success (with_reducible refine at_while1 ?_)); (conv => whnf); first | ((with_reducible refine And.intro ?_ ?_); focus (first | (first | ((with_reducible show (_ : Nat) ≤ _); first | exact sz0 | exact sz1 | exact sz2 | exact sz3 | exact sz4 | exact sz5 | exact sz6 | exact sz7 | exact sz8 | exact sz10 | exact sz11 | exact sz12 | exact sz14 | omega | decide | (simp only [List.length_cons, List.length_nil]; omega)) | ((with_reducible show (_ : Int) ≤ _); first | omega | decide) | ((with_reducible show (_ : Int) < _); first | omega | decide) | ((with_reducible show (_ : Nat) < _); omega)) | ((fail_if_success (with_reducible show (_ : Nat) ≤ _)); (fail_if_success (with_reducible show (_ : Int) ≤ _)); (fail_if_success (with_reducible show (_ : Int) < _)); (fail_if_success (with_reducible show (_ : Nat) < _)); first | exact kv_str _ | exact kv_int _ | rfl | assumption | exact flat_strs _ | exact Lv.get (by assumption) 0 rfl | exact Lv.get (by assumption) 1 rfl | exact Lv.get (by assumption) 2 rfl | exact Lv.get (by assumption) 3 rfl | exact Lv.get (by assumption) 4 rfl | exact Lv.get (by assumption) 5 rfl | exact Lv.get (by assumption) 6 rfl | exact SqL.of (Lv.get (by assumption) 0 rfl) | exact SqL.of (Lv.get (by assumption) 1 rfl) | exact SqL.of (Lv.get (by assumption) 2 rfl) | exact SqL.of (Lv.get (by assumption) 3 rfl) | exact SqL.of (Lv.get (by assumption) 4 rfl) | exact SqL.of (Lv.get (by assumption) 5 rfl) | exact Or.inl (SqL.of (Lv.get (by assumption) 0 rfl)) | exact Or.inl (SqL.of (Lv.get (by assumption) 1 rfl)) | exact Or.inl (SqL.of (Lv.get (by assumption) 2 rfl)) | exact Or.inl (SqL.of (Lv.get (by assumption) 3 rfl)) | exact Or.inl (SqL.of (Lv.get (by assumption) 4 rfl)) | exact Or.inl (SqL.of (Lv.get (by assumption) 5 rfl)) | exact ⟨_, SqL.of (Lv.get (by assumption) 0 rfl)⟩ | exact ⟨_, SqL.of (Lv.get (by assumption) 1 rfl)⟩ | exact ⟨_, SqL.of (Lv.get (by assumption) 2 rfl)⟩ | exact ⟨_, SqL.of (Lv.get (by assumption) 3 rfl)⟩ | exact ⟨_, SqL.of (Lv.get (by assumption) 4 rfl)⟩ | exact ⟨_, SqL.of (Lv.get (by assumption) 5 rfl)⟩ | exact Or.inl ⟨_, SqL.of (Lv.get (by assumption) 0 rfl), rfl⟩ | exact Or.inl ⟨_, SqL.of (Lv.get (by assumption) 1 rfl), rfl⟩ | exact Or.inl ⟨_, SqL.of (Lv.get (by assumption) 2 rfl), rfl⟩ | exact Or.inl ⟨_, SqL.of (Lv.get (by assumption) 3 rfl), rfl⟩ | exact Or.inl ⟨_, SqL.of (Lv.get (by assumption) 4 rfl), rfl⟩ | exact Or.inl ⟨_, SqL.of (Lv.get (by assumption) 5 rfl), rfl⟩ | exact Or.inl ⟨rfl, _, SqL.of (Lv.get (by assumption) 0 rfl)⟩ | exact Or.inl ⟨rfl, _, SqL.of (Lv.get (by assumption) 1 rfl)⟩ | exact Or.inl ⟨rfl, _, SqL.of (Lv.get (by assumption) 2 rfl)⟩ | exact Or.inl ⟨rfl, _, SqL.of (Lv.get (by assumption) 3 rfl)⟩ | exact Or.inl ⟨rfl, _, SqL.of (Lv.get (by assumption) 4 rfl)⟩ | exact Or.inl ⟨rfl, _, SqL.of (Lv.get (by assumption) 5 rfl)⟩ | exact Or.inr (SqT.of (Lv.get (by assumption) 0 rfl)) | exact Or.inr (SqT.of (Lv.get (by assumption) 1 rfl)) | exact Or.inr (SqT.of (Lv.get (by assumption) 2 rfl)) | exact Or.inr (SqT.of (Lv.get (by assumption) 3 rfl)) | exact SqT.of (Lv.get (by assumption) 0 rfl) | exact SqT.of (Lv.get (by assumption) 1 rfl) | exact SqT.of (Lv.get (by assumption) 2 rfl) | exact dgetN (Lv.get (by assumption) 0 rfl) (by assumption) | exact dgetN (Lv.get (by assumption) 1 rfl) (by assumption) | exact dgetN (Lv.get (by assumption) 2 rfl) (by assumption) | exact dgetN (Lv.get (by assumption) 3 rfl) (by assumption) | exact dgetN (Lv.get (by assumption) 4 rfl) (by assumption) | exact Or.inl (by assumption) | exact Or.inr (by assumption) | decide | ((with_reducible show _ ∧ _); omega)))) | ((fail_if_success (with_reducible apply @Exists.intro (Nat → _))); (with_reducible apply Exists.intro))))
local macro_rules
  | `(tactic| wide_line with al $lv:ident $l:ident $nl:ident $H:ident $lv1:ident $s1:ident) => `(tactic| (intro $l:ident $nl:ident; generalize he : upd _ _ _ = $H:ident; have $lv1:ident := Lv.alE $lv $nl he; have $s1:ident := sameE $nl he; clear he; (try simp only [List.set_cons_zero, List.set_cons_succ] at $lv1:ident)))
  | `(tactic| wide_line with alx $lv:ident $nl:ident $H:ident $lv1:ident $s1:ident) => `(tactic| (generalize he : upd _ _ _ = $H:ident; have $lv1:ident := Lv.alE $lv $nl he; have $s1:ident := sameE $nl he; clear he; (try simp only [List.set_cons_zero, List.set_cons_succ] at $lv1:ident)))
  | `(tactic| wide_line with sts $lv:ident $i:num $H:ident $lv1:ident $s0:ident $np:ident $s1:ident) => `(tactic| (generalize he : upd _ _ _ = $H:ident; have $lv1:ident := Lv.stE $lv $i rfl he; have $s1:ident := sameN $s0 $np he; clear he; (try simp only [List.set_cons_zero, List.set_cons_succ] at $lv1:ident)))
  | `(tactic| wide_line with stx $lv:ident $H:ident $lv1:ident $d1:ident) => `(tactic| (generalize he : upd _ _ _ = $H:ident; have $lv1:ident := Lv.stE $lv 0 rfl he; have $d1:ident := SameD.storeE (Lv.get $lv 0 rfl) he; clear he; (try simp only [List.set_cons_zero, List.set_cons_succ] at $lv1:ident)))
  | `(tactic| wide_line with st $lv:ident $i:num $H:ident $lv1:ident) => `(tactic| (generalize he : upd _ _ _ = $H:ident; have $lv1:ident := Lv.stE $lv $i rfl he; clear he; (try simp only [List.set_cons_zero, List.set_cons_succ] at $lv1:ident)))
  | `(tactic| wide_line with stk $lv:ident $i:num $H:ident $lv1:ident $k1:ident) => `(tactic| (generalize he : upd _ _ _ = $H:ident; have $lv1:ident := Lv.stE $lv $i rfl he; have $k1:ident := KeepT.st (Lv.get $lv $i rfl) he; clear he; (try simp only [List.set_cons_zero, List.set_cons_succ] at $lv1:ident)))
theorem call_tuplek {X : Cx} {K : PySem.W.Frag} (hK : X.K = K) : CallR X (.type "tuple") (fun xs H Q => ∃ p ys, xs = [.ref p] ∧ ((SqL K H p ys ∧ ∀ l, H l = none → Q (.ref l) (upd H l (.tup ys))) ∨ (SqT K H p ys ∧ Q (.ref p) H))) := hK ▸ call_tuple_of
theorem flat_one {α : Type} (x : α) : ∀ n, (List.replicate n [x]).flatten = List.replicate n x
  | 0 => rfl
  | n + 1 => by rw [List.replicate_succ, List.flatten_cons, flat_one x n]; rfl
/-- the rows while they are filled -/
structure RS (H H' : Hp) (RW B0 : Addr) (bs : List Addr) (n : Nat) (f : Nat → Nat → Option Nat) : Prop where
  sm : Same H H'
  rw_ : H' RW = some (.lst (bs.map V.ref))
  b0 : H' B0 = some (.lst ((List.replicate bs.length 0).map natV))
  nn : H B0 = none
  nd : bs.Nodup
  row : ∀ s b, bs[s]? = some b → b ≠ RW ∧ b ≠ B0 ∧ H b = none ∧ H' b = some (.lst ((List.range n).map fun p => rkV (f s p)))
theorem RS.same {H H' H2 : Hp} {RW B0 : Addr} {bs : List Addr} {n : Nat} {f : Nat → Nat → Option Nat} (h : RS H H' RW B0 bs n f) (s : Same H' H2) : RS H H2 RW B0 bs n f :=
  ⟨h.sm.trans s, s _ _ h.rw_, s _ _ h.b0, h.nn, h.nd, fun i b e => let ⟨a, c, d, g⟩ := h.row i b e; ⟨a, c, d, s _ _ g⟩⟩
theorem RS.congr {H H' : Hp} {RW B0 : Addr} {bs : List Addr} {n : Nat} {f g : Nat → Nat → Option Nat} (h : RS H H' RW B0 bs n f) (e : ∀ s p, s < bs.length → p < n → f s p = g s p) : RS H H' RW B0 bs n g :=
  ⟨h.sm, h.rw_, h.b0, h.nn, h.nd, fun i b z => let ⟨a, c, d, k⟩ := h.row i b z; ⟨a, c, d, k.trans (by
    congr 2
    exact List.map_congr_left fun p hp => by rw [e i p (List.getElem?_eq_some_iff.mp z).1 (List.mem_range.mp hp)])⟩⟩
theorem set_range {F : Nat → V} {n p : Nat} {v : V} (_ : p < n) : ((List.range n).map F).set p v = (List.range n).map fun q => if q = p then v else F q := by
  apply List.ext_getElem?
  intro i
  rw [List.getElem?_set, List.getElem?_map, List.getElem?_map, List.length_map, List.length_range]
  by_cases c : i < n
  · rw [List.getElem?_range c]
    by_cases d : p = i
    · subst d
      rw [if_pos rfl, if_pos c]
      show _ = some (if p = p then v else F p)
      rw [if_pos rfl]
    · rw [if_neg d]
      show some (F i) = some (if i = p then v else F i)
      rw [if_neg (fun z => d z.symm)]
  · rw [List.getElem?_eq_none (by rw [List.length_range]; omega)]
    by_cases d : p = i
    · rw [if_pos d, if_neg (by omega)]; rfl
    · rw [if_neg d]; rfl
theorem ixN_nat {n p : Nat} (h : p < n) : ixN n ((p : Nat) : Int) = some p := by
  unfold ixN
  rw [if_pos (Int.natCast_nonneg p), if_pos (by omega), Int.toNat_natCast]
theorem mem_bits {N n p : Nat} (h : N < 2 ^ n) : p ∈ bitsL N ↔ p < n ∧ N.testBit p = true := by
  rw [bitsL_of h, List.mem_filter, List.mem_range]
theorem RS.put {H H' H2 : Hp} {RW B0 : Addr} {bs : List Addr} {n : Nat} {f : Nat → Nat → Option Nat} (h : RS H H' RW B0 bs n f) {s p : Nat} {b : Addr} (e : bs[s]? = some b) (hp : p < n) (r : Option Nat) (he : upd H' b (.lst (((List.range n).map fun p => rkV (f s p)).set p (rkV r))) = H2) :
    RS H H2 RW B0 bs n (fun s' q => if s' = s ∧ q = p then r else f s' q) := by
  obtain ⟨n1, n2, n3, _⟩ := h.row s b e
  subst he
  refine ⟨fun c o z => ?_, by rw [upd_ne (fun z => n1 z.symm)]; exact h.rw_, by rw [upd_ne (fun z => n2 z.symm)]; exact h.b0, h.nn, h.nd, fun i c z => ?_⟩
  · rw [upd_ne (fun q => by subst q; rw [n3] at z; cases z)]
    exact h.sm _ _ z
  · obtain ⟨a1, a2, a3, a4⟩ := h.row i c z
    refine ⟨a1, a2, a3, ?_⟩
    by_cases q : c = b
    · subst q
      have ei : i = s := by
        have hi := (List.getElem?_eq_some_iff.mp z)
        have hs := (List.getElem?_eq_some_iff.mp e)
        exact (List.getElem_inj h.nd).mp (hi.2.trans hs.2.symm)
      subst ei
      rw [upd_same, set_range hp]
      congr 2
      refine List.map_congr_left fun q _ => ?_
      by_cases d : q = p
      · rw [if_pos d, if_pos ⟨rfl, d⟩]
      · rw [if_neg d, if_neg (fun z => d z.2)]
    · rw [upd_ne q, a4]
      congr 2
      refine List.map_congr_left fun q2 _ => ?_
      have : i ≠ s := fun w => by subst w; rw [e] at z; exact q (Option.some.inj z).symm
      rw [if_neg (fun w => this w.1)]
def spRows (K : PySem.W.Frag) : Sp := fun vs H Q _ => ∃ (r : Addr) (as : List Addr) (W : Wx) (m n : Nat), vs = [.ref r, .int (n : Nat)] ∧ WOk W n ∧ H r = some (.lst (as.map V.ref)) ∧ as.length = m + 1 ∧ m ≤ 1000000 ∧ (∀ k a, as[k]? = some a → H a = some (.lst ((itW W k).map natV))) ∧
  ∀ (t : Addr) (xt : List V) (H' : Hp), Same H H' → H t = none → H' t = some (.tup xt) → Paired (fun x l => ∃ a, x = .ref a ∧ H a = none ∧ H' a = some (.tup (l.map rkV))) xt (rowsM W m n) → Q (.ref t) H'
section
variable {P : Program} {w : World} {K : PySem.W.Frag} {mg : Str → Option Value} {base : Heap}
abbrev sRankRows : Stmt := top ix_rank_rows
theorem scRankRows : FnScope ["rounds", "places", "before", "rows", "_", "rank", "won", "stand", "row", "place"] ["rounds", "places"] (defScope sRankRows) := ⟨rfl, rfl, rfl, by decide +kernel, rfl, by decide +kernel, by decide +kernel⟩
theorem has_rank_rows (T : Bn mg) (D : DFE K mg "rank_rows" sRankRows ["rounds", "places"]) (h_bits_of : Has P w K mg base CX0 1 "bits_of" ["number"] spBitsOf) : Has P w K mg base CX0 2 "rank_rows" ["rounds", "places"] (spRows K) := by
  refine has_of D scRankRows (fun vs H Q E h => ?_) (fun f cdv A outer s H vs Q E hr h => ?_)
  · obtain ⟨r, as, W, m, n, rfl, _⟩ := h; rfl
  · obtain ⟨r, as, W, m, n, rfl, ok, hr0, la, mB, ha, k⟩ := h
    have nd := scRankRows.nd
    refine ⟨_, (pss_cons (ps_sv 2 nd (pe_op op_rep (pe_lst (pa_cons pe_int pa_nil)) (pe_callB call_len (by rfl) T.z_len (by decide +kernel) (pa_cons (pe_ix ix_list (pv 0) pe_int (fun _ _ => rfl)) pa_nil))))
    (pss_cons (ps_setLc (i := 3) (own := [("_", 4)]) (g := gName 4) (tt := tYes) rfl nd rfl rfl (sw_true rfl rfl rfl (by decide +kernel)) (pi_sq (pv 2)) (blkOk_by (own := [("_", 4)]) (N := ["rounds", "places", "before", "rows", "_", "rank", "won", "stand", "row", "place"]) (sc := defScope sRankRows) (by decide +kernel)) (fun _ _ _ _ _ => (pg_name (i := 4) nd rfl (by first | exact Or.inl rfl | exact Or.inr rfl))) (fun _ _ _ _ _ => pts_nil) (fun _ _ _ _ _ => (pe_op op_rep (pe_lst (pa_cons pe_non pa_nil)) (pv 1))))
    (pss_cons (ps_for PassesOwn.never rfl (pi_enumQ rfl T.z_enumerate (pa_cons (pv 0) pa_nil)) (pg_tup (n := 2) rfl (pgs_cons (pg_name (i := 5) nd rfl (by first | exact Or.inl rfl | exact Or.inr rfl)) (pgs_cons (pg_name (i := 6) nd rfl (by first | exact Or.inl rfl | exact Or.inr rfl)) pgs_nil))) (pss_cons (ps_for PassesOwn.never rfl (pi_enumQ rfl T.z_enumerate (pa_cons (pv 3) pa_nil)) (pg_tup (n := 2) rfl (pgs_cons (pg_name (i := 7) nd rfl (by first | exact Or.inl rfl | exact Or.inr rfl)) (pgs_cons (pg_name (i := 8) nd rfl (by first | exact Or.inl rfl | exact Or.inr rfl)) pgs_nil))) (pss_one (ps_for PassesOwn.never rfl (pi_list (pe_h h_bits_of hr (by decide) rfl (pa_cons (pe_op op_andNB (pe_ix ix_list (pv 6) (pv 7) (fun _ _ => rfl)) (pe_un un_inv (pe_ix ix_list (pv 2) (pv 7) (fun _ _ => rfl)))) pa_nil))) (pg_name (i := 9) nd rfl (by first | exact Or.inl rfl | exact Or.inr rfl)) (pss_one (ps_asg (pv 5) (pg_sub (pv 8) (pv 9) set_list))))))
    (pss_one (ps_sv 2 nd (pv 6)))))
    (pss_one (ps_ret (pe_callTy call_tuple_of (by rfl) T.z_tuple (by decide +kernel) (pa_cons (pe_lc (own := [("row", 8)]) (g := gName 8) (tt := tYes) rfl nd (pi_sq (pv 3)) (blkOk_by (own := [("row", 8)]) (N := ["rounds", "places", "before", "rows", "_", "rank", "won", "stand", "row", "place"]) (sc := defScope sRankRows) (by decide +kernel)) (fun _ _ _ _ _ => (pg_name (i := 8) nd rfl (by first | exact Or.inl rfl | exact Or.inr rfl))) (fun _ _ _ _ _ => pts_nil) (fun _ _ _ _ _ => (pe_callTy (call_tuplek (K := K) rfl) (by rfl) T.z_tuple (by decide +kernel) (pa_cons (pv 8) pa_nil)))) pa_nil))))))), ?_⟩
    have few := ok.few
    have nn := ok.nn
    obtain ⟨a0, e0⟩ : ∃ a, as[0]? = some a := ⟨as[0]'(by omega), List.getElem?_eq_getElem _⟩
    have h0 := ha 0 a0 e0
    have l0 := len_it ok 0
    have at0 : atI (as.map V.ref) 0 = some (.ref a0) := atI_nat (j := 0) (by rw [List.getElem?_map, e0]; rfl)
    -- before
    refine ⟨sz1, fun z0 nz0 => ?_⟩
    have lv0 := Lv.zero H
    wide_line with alx lv0 nz0 H1 lv1 s1
    refine ⟨_, rfl, r, _, 0, .ref a0, rfl, rfl, SqL.of (s1 _ _ hr0), at0, _, _, rfl, .inl ⟨_, SqL.of (s1 _ _ h0), rfl⟩, z0, _, _, rfl, rfl, lv1.get 0 rfl, by omega, by rw [List.length_map, l0]; omega, by rw [List.length_map, l0, Int.toNat_natCast, sizeLine_eq]; show 1 * _ ≤ _; omega, fun B0 nB0 => ?_⟩
    wide_line with alx lv1 nB0 H2 lv2 s2
    rw [Int.toNat_natCast, List.length_map, l0, flat_one] at lv2
    have eB0 : List.replicate W.ways.length (V.int 0) = (List.replicate W.ways.length 0).map natV := by rw [List.map_replicate]; rfl
    rw [eB0] at lv2
    -- rows
    refine ⟨_, rfl, B0, _, rfl, .inl (SqL.of (lv2.get 0 rfl)), fun J G ex hG wk RW nRW => ?_⟩
    rw [List.length_map, List.length_replicate] at wk
    refine lc_it wk (fun i H' => Hold (∃ bs : List Addr, bs.length = i ∧ Same H2 H' ∧ H' RW = some (.lst (bs.map V.ref)) ∧ bs.Nodup ∧ ∀ b ∈ bs, b ≠ RW ∧ H2 b = none ∧ H' b = some (.lst (List.replicate n .non)))) ⟨[], rfl, same_new nRW, upd_same, List.nodup_nil, (fun _ z => nomatch z)⟩ (fun i H' _ ⟨_, _, sm, _⟩ => hG H' (.same sm)) ?_ ?_
    · rintro i x H3 H4 hi ⟨bs, lb, sm, hRW, nd2, hbs⟩ ⟨rfl, hx⟩
      refine ⟨rfl, sz1, fun y ny => ?_⟩
      have u1 := same_new (o := .lst [.non]) ny
      have hy : upd H4 y (.lst [.non]) y = some (.lst [.non]) := upd_same
      generalize upd H4 y (.lst [.non]) = H5 at u1 hy ⊢
      refine ⟨_, rfl, y, _, _, rfl, rfl, hy, by omega, by omega, by rw [Int.toNat_natCast, sizeLine_eq]; show 1 * _ ≤ _; omega, fun b nb => ?_⟩
      rw [Int.toNat_natCast, flat_one]
      generalize he : upd H5 b _ = H6
      have u2 : Same H5 H6 := sameE nb he
      have hb := upd_at he
      clear he
      have sm6 := (sm.trans u1).trans u2
      have nb4 : H4 b = none := free_of u1 nb
      refine ⟨_, u2 _ _ (u1 _ _ hRW), by rw [List.length_map, lb, sizeLine_eq]; omega, ?_⟩
      generalize he : upd H6 RW _ = H7
      have off : ∀ c o, c ≠ RW → H6 c = some o → H7 c = some o := fun c o nc e => by rw [← he, upd_ne nc]; exact e
      have hRW7 := upd_at he
      clear he
      have bRW : b ≠ RW := fun z => by rw [z, hRW] at nb4; cases nb4
      have nRW2 : H2 RW = none := nRW
      refine ⟨bs ++ [b], by rw [List.length_append, lb]; rfl, fun c o e => off c o (fun z => by rw [z, nRW2] at e; cases e) (sm6 c o e), by rw [hRW7, List.map_append]; rfl, ?_, fun c hc => ?_⟩
      · refine List.nodup_append.mpr ⟨nd2, (by simp), fun c hc d hd z => ?_⟩
        rw [List.mem_singleton.mp hd] at z
        subst z
        rw [(hbs c hc).2.2] at nb4
        cases nb4
      · rcases List.mem_append.mp hc with hc | hc
        · obtain ⟨c1, c2, c3⟩ := hbs c hc
          exact ⟨c1, c2, off _ _ c1 (u2 _ _ (u1 _ _ c3))⟩
        · rw [List.mem_singleton.mp hc]
          exact ⟨bRW, free_of sm nb4, off _ _ bRW hb⟩
    rintro H3 ⟨bs, lb, sm3, hRW, nd2, hbs⟩
    have nB0' : H B0 = none := lv1.free nB0
    have rs0 : RS H H3 RW B0 bs n (fun s p => rankU W 0 s p) := by
      refine ⟨lv2.sm.trans sm3, hRW, by rw [lb]; exact sm3 _ _ (lv2.get 0 rfl), nB0', nd2, fun s b e => ?_⟩
      obtain ⟨c1, c2, c3⟩ := hbs b (List.mem_of_getElem? e)
      refine ⟨c1, (fun z => by rw [z, lv2.get 0 rfl] at c2; cases c2), lv2.free c2, c3.trans ?_⟩
      congr 2
      rw [show (fun p => rkV (rankU W 0 s p)) = fun _ => V.non from rfl, List.map_const', List.length_range]
    clear hbs sm3 hRW nd2
    -- the rounds
    refine ⟨_, rfl, r, _, rfl, .inl (SqL.of (rs0.sm _ _ hr0)), fun J2 G2 ex2 hG2 wk2 => ?_⟩
    rw [List.length_map, la] at wk2
    refine for_it wk2 (fun k σ H' => Hold (∃ (bf : Addr) (s4 s5 s6 s7 s8 s9 : Option V), σ = [some (.ref r), some (.int (n : Nat)), some (.ref bf), some (.ref RW), s4, s5, s6, s7, s8, s9] ∧ RS H H' RW B0 bs n (fun s p => rankU W k s p) ∧ ((bf = B0 ∧ k = 0) ∨ ∃ j, k = j + 1 ∧ as[j]? = some bf))) ⟨B0, _, _, _, _, _, _, rfl, rs0, .inl ⟨rfl, rfl⟩⟩ (fun k σ H' _ ⟨_, _, _, _, _, _, _, _, rs, _⟩ => hG2 H' ⟨fun _ => SqL.of (rs.sm _ _ hr0), fun t => (ex2 (SqL.of (rs0.sm _ _ hr0)) t).elim⟩) ?_ ?_
    · rintro kr x σ H4 H5 hkr ⟨bf, s4, s5, s6, s7, s8, s9, rfl, rs4, hbf⟩ ⟨U, x1, x2, rfl, nU, rfl, ex1, ex2'⟩
      cases ex1
      obtain ⟨ak, hak, rfl⟩ : ∃ ak, as[kr]? = some ak ∧ x2 = .ref ak := by
        have ex2' : (as.map V.ref)[kr]? = some x2 := ex2'
        rw [List.getElem?_map] at ex2'
        cases e : as[kr]? with
        | none => rw [e] at ex2'; cases ex2'
        | some a => rw [e] at ex2'; exact ⟨a, rfl, (Option.some.inj ex2').symm⟩
      generalize he : upd H4 U _ = H5
      have u5 : Same H4 H5 := sameE nU he
      have hU := upd_at he
      clear he
      have rs5 := rs4.same u5
      refine ⟨U, _, rfl, SqT.of hU, rfl, _, _, rfl, _, _, rfl, rfl, ?_⟩
      -- before this round
      obtain ⟨pl, hpl, pb, plt⟩ : ∃ pl : List Nat, (∀ {H' : Hp} {f : Nat → Nat → Option Nat}, RS H H' RW B0 bs n f → H' bf = some (.lst (pl.map natV))) ∧ pl.length = W.ways.length ∧ ∀ s p, (pl.getD s 0).testBit p = prevB W s p kr := by
        rcases hbf with ⟨rfl, rfl⟩ | ⟨j, rfl, hj⟩
        · refine ⟨List.replicate bs.length 0, fun h => h.b0, by rw [List.length_replicate, lb], fun s p => ?_⟩
          rw [List.getD_eq_getElem?_getD, List.getElem?_replicate]
          show (Option.getD (if s < bs.length then some 0 else none) 0).testBit p = false
          split <;> exact Nat.zero_testBit p
        · exact ⟨itW W j, fun h => h.sm _ _ (ha j bf hj), len_it ok j, fun s p => rfl⟩
      have hwon : ∀ {H' : Hp} {f : Nat → Nat → Option Nat}, RS H H' RW B0 bs n f → H' ak = some (.lst ((itW W kr).map natV)) := fun h => h.sm _ _ (ha kr ak hak)
      refine ⟨_, rfl, RW, _, rfl, .inl (SqL.of rs5.rw_), fun J3 G3 ex3 hG3 wk3 => ?_⟩
      rw [List.length_map, lb] at wk3
      refine for_it wk3 (fun s σ H' => Hold (∃ s7 s8 s9 : Option V, σ = [some (.ref r), some (.int (n : Nat)), some (.ref bf), some (.ref RW), s4, some (.int (kr : Nat)), some (.ref ak), s7, s8, s9] ∧ RS H H' RW B0 bs n (fun s' p => if s' < s then rankU W (kr + 1) s' p else rankU W kr s' p))) ⟨_, _, _, rfl, rs5.congr (fun s p _ _ => (if_neg (by omega)).symm)⟩ (fun s σ H' _ ⟨_, _, _, _, rs⟩ => hG3 H' ⟨fun _ => SqL.of rs.rw_, fun t => (ex3 (SqL.of rs5.rw_) t).elim⟩) ?_ ?_
      · rintro st y σ H6 H7 hst ⟨t7, t8, t9, rfl, rs6⟩ ⟨U2, y1, y2, rfl, nU2, rfl, ey1, ey2⟩
        cases ey1
        obtain ⟨b, hb, rfl⟩ : ∃ b, bs[st]? = some b ∧ y2 = .ref b := by
          have ey2 : (bs.map V.ref)[st]? = some y2 := ey2
          rw [List.getElem?_map] at ey2
          cases e : bs[st]? with
          | none => rw [e] at ey2; cases ey2
          | some a => rw [e] at ey2; exact ⟨a, rfl, (Option.some.inj ey2).symm⟩
        generalize he : upd H6 U2 _ = H7
        have u7 : Same H6 H7 := sameE nU2 he
        have hU2 := upd_at he
        clear he
        have rs7 := rs6.same u7
        refine ⟨U2, _, rfl, SqT.of hU2, rfl, _, _, rfl, _, _, rfl, rfl, ?_⟩
        have lk := len_it ok kr
        have Nlt : andN ((itW W kr).getD st 0) (pl.getD st 0) < 2 ^ n := lt_of_bits fun i z => by
          rw [test_andN, Bool.and_eq_true] at z
          exact bit_lt (getD_lt (Nat.two_pow_pos n) (it_lt ok kr) st) z.1
        refine ⟨_, rfl, _, rfl, ak, _, _, _, rfl, rfl, SqL.of (hwon rs7), natAt (by rw [lk]; exact hst), _, rfl, _, rfl, bf, _, _, _, rfl, rfl, SqL.of (hpl rs7), natAt (by rw [pb]; exact hst), _, rfl, _, _, rfl, rfl, andN ((itW W kr).getD st 0) (pl.getD st 0), rfl, Nat.lt_of_lt_of_le Nlt (Nat.pow_le_pow_right (by decide) (by omega)), fun l H8 s8 nl hl => ?_⟩
        have rs8 := rs7.same s8
        have lb' : l ≠ b := fun z => by
          subst z
          rw [(rs7.row st l hb).2.2.2] at nl
          cases nl
        refine ⟨l, rfl, ⟨_, SqL.of hl⟩, ?_⟩
        have hbit : ∀ p, (p ∈ bitsL (andN ((itW W kr).getD st 0) (pl.getD st 0))) ↔ p < n ∧ (bitM W st p kr && !prevB W st p kr) = true := fun p => by
          rw [mem_bits Nlt, test_andN, plt]
          rfl
        generalize bitsL (andN ((itW W kr).getD st 0) (pl.getD st 0)) = bl at hl hbit ⊢
        refine for_list (K := K) (a := l) (xs := bl.map natV) (fun i σ H' => Hold (∃ s9 : Option V, σ = [some (.ref r), some (.int (n : Nat)), some (.ref bf), some (.ref RW), s4, some (.int (kr : Nat)), some (.ref ak), some (.int (st : Nat)), some (.ref b), s9] ∧ H' l = some (.lst (bl.map natV)) ∧ RS H H' RW B0 bs n (fun s' p => if s' = st ∧ p ∈ bl.take i then some kr else if s' < st then rankU W (kr + 1) s' p else rankU W kr s' p))) ⟨_, rfl, hl, rs8.congr (fun s p _ _ => by simp)⟩ (fun i σ H' _ ⟨_, _, z, _⟩ => SqL.of z) ?_ ?_
        · rintro i z σ H9 hz ⟨t9', rfl, hl9, rs9⟩
          obtain ⟨p, hp, rfl⟩ := nat_at hz
          have pn : p < n := ((hbit p).mp (List.mem_of_getElem? hp)).1
          have hb9 := (rs9.row st b hb).2.2.2
          refine ⟨_, rfl, _, rfl, _, rfl, b, _, _, p, rfl, rfl, hb9, by rw [List.length_map, List.length_range]; exact ixN_nat pn, ?_⟩
          generalize he : upd H9 b _ = HA
          have hlA : HA l = some (.lst (bl.map natV)) := by rw [← he, upd_ne lb']; exact hl9
          have rsA := rs9.put hb pn (some kr) he
          clear he
          refine ⟨_, rfl, hlA, rsA.congr fun s q _ _ => ?_⟩
          rw [take_next2 hp]
          by_cases c1 : s = st
          · subst c1
            simp only [true_and, List.mem_append, List.mem_singleton]
            by_cases c2 : q = p
            · rw [if_pos c2, if_pos (.inr c2)]
            · rw [if_neg c2]
              by_cases c3 : q ∈ bl.take i
              · rw [if_pos c3, if_pos (.inl c3)]
              · rw [if_neg c3, if_neg (show ¬ (q ∈ bl.take i ∨ q = p) from fun z => z.elim c3 c2)]
          · simp only [c1, false_and, if_false]
        · rintro σ H9 ⟨t9', rfl, hl9, rs9⟩
          rw [List.length_map, List.take_length] at rs9
          refine ⟨_, _, _, rfl, rs9.congr fun s q hs hq => ?_⟩
          by_cases c1 : s = st
          · subst c1
            rw [if_pos (Nat.lt_succ_self s), rankU_succ ok, if_neg (Nat.lt_irrefl s)]
            by_cases c2 : q ∈ bl
            · rw [if_pos ⟨rfl, c2⟩, if_pos ((hbit q).mp c2).2]
            · rw [if_neg (fun z => c2 z.2), if_neg (fun z => c2 ((hbit q).mpr ⟨hq, z⟩))]
          · rw [if_neg (fun z => c1 z.1)]
            by_cases c2 : s < st
            · rw [if_pos c2, if_pos (by omega)]
            · rw [if_neg c2, if_neg (by omega)]
      · rintro σ H6 ⟨t7, t8, t9, rfl, rs6⟩
        refine ⟨_, rfl, ak, _, _, _, _, _, _, rfl, rs6.congr (fun s p hs _ => if_pos (by rw [← lb]; exact hs)), .inr ⟨kr, rfl, hak⟩⟩
    · rintro σ H4 ⟨bf, s4, s5, s6, s7, s8, s9, rfl, rs4, _⟩
      refine ⟨_, rfl, RW, _, rfl, .inl (SqL.of rs4.rw_), fun J3 G3 ex3 hG3 wk3 L nL => ?_⟩
      rw [List.length_map, lb] at wk3
      refine lc_it wk3 (fun i H' => Hold (∃ xt : List V, xt.length = i ∧ Same H4 H' ∧ H' L = some (.lst xt) ∧ Paired (fun x l => ∃ a, x = .ref a ∧ a ≠ L ∧ H a = none ∧ H' a = some (.tup (l.map rkV))) xt ((rowsM W m n).take i))) ⟨[], rfl, same_new nL, upd_same, .nil⟩ (fun i H' _ ⟨_, _, sm, _⟩ => hG3 H' (.same sm)) ?_ ?_
      · rintro i x H5 H6 hi ⟨xt, lx, sm, hL, pr⟩ ⟨rfl, hx⟩
        obtain ⟨b, hb, rfl⟩ : ∃ b, bs[i]? = some b ∧ x = .ref b := by
          rw [List.getElem?_map] at hx
          cases e : bs[i]? with
          | none => rw [e] at hx; cases hx
          | some a => rw [e] at hx; exact ⟨a, rfl, (Option.some.inj hx).symm⟩
        have hb4 := (rs4.row i b hb).2.2.2
        refine ⟨rfl, _, rfl, b, _, rfl, .inl ⟨SqL.of (sm _ _ hb4), fun t nt => ?_⟩⟩
        generalize he : upd H6 t _ = H7
        have u7 : Same H6 H7 := sameE nt he
        have ht := upd_at he
        clear he
        have tL : t ≠ L := fun z => by rw [z, hL] at nt; cases nt
        refine ⟨_, u7 _ _ hL, by rw [lx, sizeLine_eq]; omega, ?_⟩
        generalize he : upd H7 L _ = H8
        have off : ∀ c o, c ≠ L → H7 c = some o → H8 c = some o := fun c o nc e => by rw [← he, upd_ne nc]; exact e
        have hL8 := upd_at he
        clear he
        have el : (rowsM W m n)[i]? = some ((List.range n).map fun p => rankU W (m + 1) i p) := by
          unfold rowsM
          rw [List.getElem?_map, List.getElem?_range hi]
          rfl
        refine ⟨xt ++ [.ref t], by rw [List.length_append, lx]; rfl, fun c o e => off c o (fun z => by rw [z, nL] at e; cases e) (u7 _ _ (sm _ _ e)), hL8, ?_⟩
        rw [take_next2 el]
        refine paired_app ?_ (.cons ⟨t, rfl, tL, rs4.sm |> fun z => free_of (z.trans sm) nt, off _ _ tL (by rw [ht, List.map_map]; rfl)⟩ .nil)
        refine Paired.mono (fun x l ⟨a, e1, e2, e3, e4⟩ => ⟨a, e1, e2, e3, off _ _ e2 (u7 _ _ e4)⟩) pr
      · rintro H5 ⟨xt, lx, sm, hL, pr⟩
        refine ⟨L, _, rfl, .inl ⟨SqL.of hL, fun t nt => ?_⟩⟩
        generalize he : upd H5 t _ = H6
        have u6 : Same H5 H6 := sameE nt he
        have ht := upd_at he
        clear he
        have sm5 := rs4.sm.trans sm
        have e2 : (rowsM W m n).take W.ways.length = rowsM W m n := List.take_of_length_le (by unfold rowsM; rw [List.length_map, List.length_range]; exact Nat.le_refl _)
        rw [e2] at pr
        exact k t xt H6 (sm5.trans u6) (free_of sm5 nt) ht (Paired.mono (fun x l ⟨a, e1, _, e3, e4⟩ => ⟨a, e1, e3, u6 _ _ e4⟩) pr)
end
end Pw

set_option Elab.async false
set_option linter.all false
set_option maxRecDepth 100000
set_option maxHeartbeats 4000000
namespace Pw
open PySem PySem.Spec PyProof.Rows L2 Ct
local macro_rules | `(tactic| wide_line) => `(tactic| repeat ((fail_if_success (with_reducible refine at_while ?_)); (fail_if_success (with_reducible refine at_while1 ?_)); (conv => whnf); first | ((with_reducible refine And.intro ?_ ?_); focus (first | (first | ((with_reducible show (_ : Nat) ≤ _); first | exact sz0 | exact sz1 | exact sz2 | exact sz3 | exact sz4 | exact sz5 | exact sz6 | exact sz7 | exact sz8 | exact sz10 | exact sz11 | exact sz12 | exact sz14 | omega | decide | (simp only [List.length_cons, List.length_nil]; omega)) | ((with_reducible show (_ : Int) ≤ _); first | omega | decide) | ((with_reducible show (_ : Int) < _); first | omega | decide) | ((with_reducible show (_ : Nat) < _); omega)) | ((fail_if_success (with_reducible show (_ : Nat) ≤ _)); (fail_if_success (with_reducible show (_ : Int) ≤ _)); (fail_if_success (with_reducible show (_ : Int) < _)); (fail_if_success (with_reducible show (_ : Nat) < _)); first | exact kv_str _ | exact kv_int _ | rfl | assumption | exact flat_strs _ | exact Lv.get (by assumption) 0 rfl | exact Lv.get (by assumption) 1 rfl | exact Lv.get (by assumption) 2 rfl | exact Lv.get (by assumption) 3 rfl | exact Lv.get (by assumption) 4 rfl | exact Lv.get (by assumption) 5 rfl | exact Lv.get (by assumption) 6 rfl | exact SqL.of (Lv.get (by assumption) 0 rfl) | exact SqL.of (Lv.get (by assumption) 1 rfl) | exact SqL.of (Lv.get (by assumption) 2 rfl) | exact SqL.of (Lv.get (by assumption) 3 rfl) | exact SqL.of (Lv.get (by assumption) 4 rfl) | exact SqL.of (Lv.get (by assumption) 5 rfl) | exact Or.inl (SqL.of (Lv.get (by assumption) 0 rfl)) | exact Or.inl (SqL.of (Lv.get (by assumption) 1 rfl)) | exact Or.inl (SqL.of (Lv.get (by assumption) 2 rfl)) | exact Or.inl (SqL.of (Lv.get (by assumption) 3 rfl)) | exact Or.inl (SqL.of (Lv.get (by assumption) 4 rfl)) | exact Or.inl (SqL.of (Lv.get (by assumption) 5 rfl)) | exact ⟨_, SqL.of (Lv.get (by assumption) 0 rfl)⟩ | exact ⟨_, SqL.of (Lv.get (by assumption) 1 rfl)⟩ | exact ⟨_, SqL.of (Lv.get (by assumption) 2 rfl)⟩ | exact ⟨_, SqL.of (Lv.get (by assumption) 3 rfl)⟩ | exact ⟨_, SqL.of (Lv.get (by assumption) 4 rfl)⟩ | exact ⟨_, SqL.of (Lv.get (by assumption) 5 rfl)⟩ | exact Or.inl ⟨_, SqL.of (Lv.get (by assumption) 0 rfl), rfl⟩ | exact Or.inl ⟨_, SqL.of (Lv.get (by assumption) 1 rfl), rfl⟩ | exact Or.inl ⟨_, SqL.of (Lv.get (by assumption) 2 rfl), rfl⟩ | exact Or.inl ⟨_, SqL.of (Lv.get (by assumption) 3 rfl), rfl⟩ | exact Or.inl ⟨_, SqL.of (Lv.get (by assumption) 4 rfl), rfl⟩ | exact Or.inl ⟨_, SqL.of (Lv.get (by assumption) 5 rfl), rfl⟩ | exact Or.inl ⟨rfl, _, SqL.of (Lv.get (by assumption) 0 rfl)⟩ | exact Or.inl ⟨rfl, _, SqL.of (Lv.get (by assumption) 1 rfl)⟩ | exact Or.inl ⟨rfl, _, SqL.of (Lv.get (by assumption) 2 rfl)⟩ | exact Or.inl ⟨rfl, _, SqL.of (Lv.get (by assumption) 3 rfl)⟩ | exact Or.inl ⟨rfl, _, SqL.of (Lv.get (by assumption) 4 rfl)⟩ | exact Or.inl ⟨rfl, _, SqL.of (Lv.get (by assumption) 5 rfl)⟩ | exact Or.inr (SqT.of (Lv.get (by assumption) 0 rfl)) | exact Or.inr (SqT.of (Lv.get (by assumption) 1 rfl)) | exact Or.inr (SqT.of (Lv.get (by assumption) 2 rfl)) | exact Or.inr (SqT.of (Lv.get (by assumption) 3 rfl)) | exact SqT.of (Lv.get (by assumption) 0 rfl) | exact SqT.of (Lv.get (by assumption) 1 rfl) | exact SqT.of (Lv.get (by assumption) 2 rfl) | exact dgetN (Lv.get (by assumption) 0 rfl) (by assumption) | exact dgetN (Lv.get (by assumption) 1 rfl) (by assumption) | exact dgetN (Lv.get (by assumption) 2 rfl) (by assumption) | exact dgetN (Lv.get (by assumption) 3 rfl) (by assumption) | exact dgetN (Lv.get (by assumption) 4 rfl) (by assumption) | exact Or.inl (by assumption) | exact Or.inr (by assumption) | decide | ((with_reducible show _ ∧ _); omega)))) | ((fail_if_success (with_reducible apply @Exists.intro (Nat → _))); (with_reducible apply Exists.intro))))
local macro_rules
  | `(tactic| wide_line with al $lv:ident $l:ident $nl:ident $H:ident $lv1:ident $s1:ident) => `(tactic| (intro $l:ident $nl:ident; generalize he : upd _ _ _ = $H:ident; have $lv1:ident := Lv.alE $lv $nl he; have $s1:ident := sameE $nl he; clear he; (try simp only [List.set_cons_zero, List.set_cons_succ] at $lv1:ident)))
  | `(tactic| wide_line with alx $lv:ident $nl:ident $H:ident $lv1:ident $s1:ident) => `(tactic| (generalize he : upd _ _ _ = $H:ident; have $lv1:ident := Lv.alE $lv $nl he; have $s1:ident := sameE $nl he; clear he; (try simp only [List.set_cons_zero, List.set_cons_succ] at $lv1:ident)))
  | `(tactic| wide_line with sts $lv:ident $i:num $H:ident $lv1:ident $s0:ident $np:ident $s1:ident) => `(tactic| (generalize he : upd _ _ _ = $H:ident; have $lv1:ident := Lv.stE $lv $i rfl he; have $s1:ident := sameN $s0 $np he; clear he; (try simp only [List.set_cons_zero, List.set_cons_succ] at $lv1:ident)))
  | `(tactic| wide_line with stx $lv:ident $H:ident $lv1:ident $d1:ident) => `(tactic| (generalize he : upd _ _ _ = $H:ident; have $lv1:ident := Lv.stE $lv 0 rfl he; have $d1:ident := SameD.storeE (Lv.get $lv 0 rfl) he; clear he; (try simp only [List.set_cons_zero, List.set_cons_succ] at $lv1:ident)))
  | `(tactic| wide_line with st $lv:ident $i:num $H:ident $lv1:ident) => `(tactic| (generalize he : upd _ _ _ = $H:ident; have $lv1:ident := Lv.stE $lv $i rfl he; clear he; (try simp only [List.set_cons_zero, List.set_cons_succ] at $lv1:ident)))
  | `(tactic| wide_line with stk $lv:ident $i:num $H:ident $lv1:ident $k1:ident) => `(tactic| (generalize he : upd _ _ _ = $H:ident; have $lv1:ident := Lv.stE $lv $i rfl he; have $k1:ident := KeepT.st (Lv.get $lv $i rfl) he; clear he; (try simp only [List.set_cons_zero, List.set_cons_succ] at $lv1:ident)))
/-- what the walk asks of the class Game -/
structure GC (K : PySem.W.Frag) : Prop where
  cls : Cls K (cGame K)
  n1 : NoAttr K (cGame K) "names"
  n2 : NoAttr K (cGame K) "stands"
  n3 : NoAttr K (cGame K) "ways"
  n4 : NoAttr K (cGame K) "held"
  n5 : NoAttr K (cGame K) "steps"
  n6 : NoAttr K (cGame K) "_rounds"
  n7 : NoAttr K (cGame K) "_rows"
  n8 : NoAttr K (cGame K) "_standings"
/-- a step: of what stood all stands but what is at A; R is what is known of the thing, R' behind it -/
structure Stp (A : List Addr) (R H R' H' : Hp) : Prop where
  sub : Same R' H'
  old : ∀ b, R' b ≠ none → R b ≠ none ∨ H b = none
  fr : ∀ b o, b ∉ A → H b = some o → H' b = some o
  kp : ∀ b o, b ∉ A → R b = some o → R' b = some o
  dom : ∀ b ∈ A, R b ≠ none ∧ R' b ≠ none
theorem Stp.refl {A : List Addr} {R H : Hp} (s : Same R H) (d : ∀ b ∈ A, R b ≠ none) : Stp A R H R H := ⟨s, fun _ h => .inl h, fun _ _ _ e => e, fun _ _ _ e => e, fun b h => ⟨d b h, d b h⟩⟩
theorem Stp.trans {A : List Addr} {R H R1 H1 R2 H2 : Hp} (a : Stp A R H R1 H1) (b : Stp A R1 H1 R2 H2) : Stp A R H R2 H2 := by
  refine ⟨b.sub, fun c hc => ?_, fun c o n e => b.fr c o n (a.fr c o n e), fun c o n e => b.kp c o n (a.kp c o n e), fun c h => ⟨(a.dom c h).1, (b.dom c h).2⟩⟩
  rcases b.old c hc with z | z
  · exact a.old c z
  · by_cases ca : c ∈ A
    · exact .inl (a.dom c ca).1
    · right
      cases e : H c with
      | none => rfl
      | some o => rw [a.fr c o ca e] at z; cases z
/-- new things alone -/
theorem Stp.new {A : List Addr} {R H R1 H1 H2 : Hp} (a : Stp A R H R1 H1) (s : Same H1 H2) : Stp A R H (grown R1 H1 H2) H2 := by
  have sub : Same (grown R1 H1 H2) H2 := fun b o e => by
    unfold grown at e
    cases h : H1 b with
    | none => rw [h] at e; exact e
    | some u => rw [h] at e; exact s _ _ (a.sub _ _ e)
  have up : Same R1 (grown R1 H1 H2) := grown_up a.sub
  refine ⟨sub, fun b h => ?_, fun b o n e => s _ _ (a.fr b o n e), fun b o n e => up _ _ (a.kp b o n e), fun b h => ⟨(a.dom b h).1, ?_⟩⟩
  · by_cases c : R1 b = none
    · by_cases d : H1 b = none
      · by_cases ca : b ∈ A
        · exact .inl (a.dom b ca).1
        · right
          cases e : H b with
          | none => rfl
          | some o => rw [a.fr b o ca e] at d; cases d
      · exfalso
        cases q : H1 b with
        | none => exact d q
        | some u => rw [grown_old q] at h; exact h c
    · exact a.old b c
  · have := (a.dom b h).2
    cases q : R1 b with
    | none => exact absurd q this
    | some o => rw [up _ _ q]; exact fun z => nomatch z
/-- a store at one of A -/
theorem Stp.put {A : List Addr} {R H R1 H1 : Hp} (a : Stp A R H R1 H1) {g : Addr} {o : HO} (hg : g ∈ A) : Stp A R H (upd R1 g o) (upd H1 g o) := by
  refine ⟨fun b u e => ?_, fun b h => ?_, fun b u n e => ?_, fun b u n e => ?_, fun b h => ⟨(a.dom b h).1, ?_⟩⟩
  · by_cases c : b = g
    · subst c; rw [upd_same] at e ⊢; exact e
    · rw [upd_ne c] at e ⊢; exact a.sub _ _ e
  · by_cases c : b = g
    · subst c; exact .inl (a.dom b hg).1
    · rw [upd_ne c] at h; exact a.old b h
  · rw [upd_ne (fun (c : b = g) => n (by rw [c]; exact hg))]; exact a.fr b u n e
  · rw [upd_ne (fun (c : b = g) => n (by rw [c]; exact hg))]; exact a.kp b u n e
  · by_cases c : b = g
    · subst c; rw [upd_same]; exact fun z => nomatch z
    · rw [upd_ne c]; exact (a.dom b h).2
theorem sqT_kp {K : PySem.W.Frag} {R R' : Hp} {g a : Addr} {C dx : Addr} {fs : List (Str × V)} {xs : List V} (hg : R g = some (.ins C dx fs)) (k : ∀ b o, b ≠ g → R b = some o → R' b = some o) (h : SqT K R a xs) : SqT K R' a xs := by
  rcases h with h | h
  · left
    rcases h with h | ⟨o, h⟩
    · exact .inl (k _ _ (fun z => by rw [z, hg] at h; cases h) h)
    · exact .inr ⟨o, k _ _ (fun z => by rw [z, hg] at h; cases h) h⟩
  · exact .inr h
/-- the game with other things kept -/
theorem GameAt.re {K : PySem.W.Frag} {R R' : Hp} {g : Addr} {G : Gm} (h : GameAt K R g G) (k : ∀ b o, b ≠ g → R b = some o → R' b = some o) :
    ∃ (dx tn td lw lh ls : Addr) (rv wv sv : V) (xw xs : List V), R g = some (.ins (cGame K) dx [("names", .ref tn), ("stands", .ref td), ("ways", .ref lw), ("held", .ref lh), ("steps", .ref ls), ("_rounds", rv), ("_rows", wv), ("_standings", sv)]) ∧
      SqT K R tn (G.names.map V.str) ∧ R lw = some (.lst xw) ∧ RowsL R xw G.W.ways ∧ R lh = some (.lst (G.W.held.map natV)) ∧ R ls = some (.lst xs) ∧ RowsT K R xs G.W.steps ∧
      (rv = .non ∨ ∃ (r : Addr) (m : Nat) (as : List Addr), rv = .ref r ∧ FinW G.W m ∧ R r = some (.lst (as.map V.ref)) ∧ as.length = m + 1 ∧ ∀ k a, as[k]? = some a → R a = some (.lst ((itW G.W k).map natV))) ∧
      (wv = .non ∨ ∃ t m xt, wv = .ref t ∧ FinW G.W m ∧ SqT K R t xt ∧ RanksT K R xt (rowsM G.W m G.names.length)) ∧
      ∀ rv' wv' : V, R' g = some (.ins (cGame K) dx [("names", .ref tn), ("stands", .ref td), ("ways", .ref lw), ("held", .ref lh), ("steps", .ref ls), ("_rounds", rv'), ("_rows", wv'), ("_standings", sv)]) →
        (rv' = rv ∨ ∃ r m xr, rv' = .ref r ∧ FinW G.W m ∧ R' r = some (.lst xr) ∧ RowsL R' xr (roundsM G.W m)) → (wv' = wv ∨ ∃ t m xt, wv' = .ref t ∧ FinW G.W m ∧ SqT K R' t xt ∧ RanksT K R' xt (rowsM G.W m G.names.length)) → GameAt K R' g G := by
  obtain ⟨dx, tn, td, lw, lh, ls, rv, wv, sv, ds, xw, xs, h1, h2, h3, h4, h5, h6, h7, h8, h9, h10, h11, h12⟩ := h.ex
  have kl : ∀ {b : Addr} {ys : List V}, R b = some (.lst ys) → R' b = some (.lst ys) := fun {b ys} e => k _ _ (fun z => by rw [z, h1] at e; cases e) e
  have kt : ∀ {b : Addr} {ys : List V}, SqT K R b ys → SqT K R' b ys := fun e => sqT_kp h1 k e
  have krl : ∀ {xs : List V} {ls : List (List Nat)}, RowsL R xs ls → RowsL R' xs ls := fun h => Paired.mono (fun x l ⟨a, e, z⟩ => ⟨a, e, kl z⟩) h
  have krt : ∀ {xs : List V} {ls : List (List Nat)}, RowsT K R xs ls → RowsT K R' xs ls := fun h => Paired.mono (fun x l ⟨a, e, z⟩ => ⟨a, e, kt z⟩) h
  have krk : ∀ {xs : List V} {ls : List (List (Option Nat))}, RanksT K R xs ls → RanksT K R' xs ls := fun h => Paired.mono (fun x l ⟨a, e, z⟩ => ⟨a, e, kt z⟩) h
  have ksd : ∀ {xs : List V} {ls : List Std}, Paired (StdAt K R) xs ls → Paired (StdAt K R') xs ls := fun h => Paired.mono (fun x l z => by
    cases l with
    | one p => exact z
    | two p q => obtain ⟨a, e, z⟩ := z; exact ⟨a, e, kt z⟩) h
  have h10' : rv = .non ∨ ∃ (r : Addr) (m : Nat) (as : List Addr), rv = .ref r ∧ FinW G.W m ∧ R r = some (.lst (as.map V.ref)) ∧ as.length = m + 1 ∧ ∀ k a, as[k]? = some a → R a = some (.lst ((itW G.W k).map natV)) := by
    rcases h10 with e | ⟨r, m, xr, e1, e2, e3, e4⟩
    · exact .inl e
    right
    have el : ∃ as : List Addr, xr = as.map V.ref ∧ as.length = xr.length ∧ ∀ (k : Nat) (a : Addr), as[k]? = some a → ∃ l : List Nat, (roundsM G.W m)[k]? = some l ∧ R a = some (.lst (l.map natV)) := by
      clear e3
      generalize roundsM G.W m = rs at e4
      induction e4 with
      | nil => exact ⟨[], rfl, rfl, fun k a z => by cases z⟩
      | cons hd _ ih =>
        obtain ⟨a, rfl, ha⟩ := hd
        obtain ⟨as, rfl, hl, hk⟩ := ih
        refine ⟨a :: as, rfl, by rw [List.length_cons, List.length_cons, hl], fun k c z => ?_⟩
        cases k with
        | zero => cases z; exact ⟨_, rfl, ha⟩
        | succ k => exact hk k c z
    obtain ⟨as, rfl, hl, hk⟩ := el
    have ln := paired_len e4
    refine ⟨r, m, as, e1, e2, e3, ?_, fun k a z => ?_⟩
    · rw [hl, ln]; unfold roundsM; rw [List.length_map, List.length_range]
    · obtain ⟨l, hl2, ha⟩ := hk k a z
      unfold roundsM at hl2
      rw [List.getElem?_map] at hl2
      cases q : (List.range (m + 1))[k]? with
      | none => rw [q] at hl2; cases hl2
      | some i =>
        rw [q] at hl2
        have : i = k := by
          rw [List.getElem?_eq_some_iff] at q
          obtain ⟨_, q⟩ := q
          rw [List.getElem_range] at q
          exact q.symm
        subst this
        cases hl2
        exact ha
  refine ⟨dx, tn, td, lw, lh, ls, rv, wv, sv, xw, xs, h1, h2, h5, h6, h7, h8, h9, h10', h11, fun rv' wv' e1 e2 e3 => ⟨dx, tn, td, lw, lh, ls, rv', wv', sv, ds, xw, xs, e1, kt h2, kt h3, ksd h4, kl h5, krl h6, kl h7, kl h8, krt h9, ?_, ?_, h12⟩⟩
  · rcases e2 with rfl | e2
    · exact h10.imp id fun ⟨r, m, xr, a, b, c, d⟩ => ⟨r, m, xr, a, b, kl c, krl d⟩
    · exact .inr e2
  · rcases e3 with rfl | e3
    · exact h11.imp id fun ⟨t, m, xt, a, b, c, d⟩ => ⟨t, m, xt, a, b, kt c, krk d⟩
    · exact .inr e3
theorem rowsL_of {H : Hp} : ∀ {as : List Addr} {ls : List (List Nat)}, ls.length = as.length → (∀ (k : Nat) (a : Addr) (l : List Nat), as[k]? = some a → ls[k]? = some l → H a = some (.lst (l.map natV))) → RowsL H (as.map V.ref) ls
  | [], [], _, _ => .nil
  | a :: as, l :: ls, h, k => .cons ⟨a, rfl, k 0 a l rfl rfl⟩ (rowsL_of (Nat.succ.inj h) fun i b m e1 e2 => k (i + 1) b m (by rw [List.getElem?_cons_succ]; exact e1) (by rw [List.getElem?_cons_succ]; exact e2))
def spGInit (K : PySem.W.Frag) : Sp := fun vs H Q _ => ∃ (g dx : Addr) (a b c d e : V), vs = [.ref g, a, b, c, d, e] ∧ H g = some (.ins (cGame K) dx []) ∧ Q .non (upd H g (.ins (cGame K) dx [("names", a), ("stands", b), ("ways", c), ("held", d), ("steps", e), ("_rounds", .non), ("_rows", .non), ("_standings", .non)]))
def spGRounds (K : PySem.W.Frag) : Sp := fun vs H Q _ => ∃ (g : Addr) (G : Gm) (R : Hp) (n : Nat), vs = [.ref g] ∧ Same R H ∧ GameAt K R g G ∧ WOk G.W n ∧
  ∀ (r : Addr) (m : Nat) (as : List Addr) (R' H' : Hp), Stp [g] R H R' H' → GameAt K R' g G → FinW G.W m → R' r = some (.lst (as.map V.ref)) → as.length = m + 1 → (∀ k a, as[k]? = some a → R' a = some (.lst ((itW G.W k).map natV))) → Q (.ref r) H'
def spGRows (K : PySem.W.Frag) : Sp := fun vs H Q _ => ∃ (g : Addr) (G : Gm) (R : Hp), vs = [.ref g] ∧ Same R H ∧ GameAt K R g G ∧ WOk G.W G.names.length ∧
  ∀ (t : Addr) (m : Nat) (xt : List V) (R' H' : Hp), Stp [g] R H R' H' → GameAt K R' g G → FinW G.W m → SqT K R' t xt → RanksT K R' xt (rowsM G.W m G.names.length) → Q (.ref t) H'
def leastG (W : Wx) (m n : Nat) : Option Nat := leastR ((rowsM W m n).map greatR)
def spGLeast (K : PySem.W.Frag) : Sp := fun vs H Q _ => ∃ (g : Addr) (G : Gm) (R : Hp), vs = [.ref g] ∧ Same R H ∧ GameAt K R g G ∧ WOk G.W G.names.length ∧ 1 ≤ G.names.length ∧
  ∀ (m : Nat) (R' H' : Hp), Stp [g] R H R' H' → GameAt K R' g G → FinW G.W m → Q (rkV (leastG G.W m G.names.length)) H'
section
variable {P : Program} {w : World} {K : PySem.W.Frag} {mg : Str → Option Value} {base : Heap} {fa : Addr} {fd : FuncData}
abbrev sGInit : Stmt := inClass (top ix_Game) mx_Game_init
theorem scGInit : FnScope ["self", "names", "stands", "ways", "held", "steps"] ["self", "names", "stands", "ways", "held", "steps"] (defScope sGInit) := ⟨rfl, rfl, rfl, by decide +kernel, rfl, by decide +kernel, by decide +kernel⟩
theorem ok_ginit (X : GC K) (F : Fun K "__init__" "Game.__init__" sGInit fa fd) : FnOk P w K mg base CX0 1 fa fd ["self", "names", "stands", "ways", "held", "steps"] (spGInit K) := by
  refine F.ok scGInit (fun vs H Q E h => ?_) (fun cdv A outer s H vs Q E hr h => ?_)
  · obtain ⟨g, dx, a, b, c, d, e, rfl, _⟩ := h; rfl
  · obtain ⟨g, dx, a, b, c, d, e, rfl, hg, k⟩ := h
    have nd := scGInit.nd
    refine ⟨_, (pss_cons (ps_fld (pv 0) (pv 1) rfl)
    (pss_cons (ps_fld (pv 0) (pv 2) rfl)
    (pss_cons (ps_fld (pv 0) (pv 3) rfl)
    (pss_cons (ps_fld (pv 0) (pv 4) rfl)
    (pss_cons (ps_fld (pv 0) (pv 5) rfl)
    (pss_cons (ps_fld (pv 0) pe_non rfl)
    (pss_cons (ps_fld (pv 0) pe_non rfl)
    (pss_one (ps_fld (pv 0) pe_non rfl))))))))), ?_⟩
    have c1 := X.cls
    have uu : ∀ {H : Hp} {o o' : HO}, upd (upd H g o) g o' = upd H g o' := fun {H o o'} => by
      funext b
      by_cases z : b = g
      · rw [z, upd_same, upd_same]
      · rw [upd_ne z, upd_ne z, upd_ne z]
    refine ⟨_, rfl, _, rfl, g, _, dx, _, rfl, hg, c1, X.n1, (by show 0 < 1000; decide), ?_⟩
    refine ⟨_, rfl, _, rfl, g, _, dx, _, rfl, upd_same, c1, X.n2, (by show 1 < 1000; decide), ?_⟩
    rw [uu]
    refine ⟨_, rfl, _, rfl, g, _, dx, _, rfl, upd_same, c1, X.n3, (by show 2 < 1000; decide), ?_⟩
    rw [uu]
    refine ⟨_, rfl, _, rfl, g, _, dx, _, rfl, upd_same, c1, X.n4, (by show 3 < 1000; decide), ?_⟩
    rw [uu]
    refine ⟨_, rfl, _, rfl, g, _, dx, _, rfl, upd_same, c1, X.n5, (by show 4 < 1000; decide), ?_⟩
    rw [uu]
    refine ⟨_, rfl, g, _, dx, _, rfl, upd_same, c1, X.n6, (by show 5 < 1000; decide), ?_⟩
    rw [uu]
    refine ⟨_, rfl, g, _, dx, _, rfl, upd_same, c1, X.n7, (by show 6 < 1000; decide), ?_⟩
    rw [uu]
    refine ⟨_, rfl, g, _, dx, _, rfl, upd_same, c1, X.n8, (by show 7 < 1000; decide), ?_⟩
    rw [uu]
    exact k
abbrev sGRounds : Stmt := inClass (top ix_Game) mx_Game_rounds
theorem scGRounds : FnScope ["self"] ["self"] (defScope sGRounds) := ⟨rfl, rfl, rfl, by decide +kernel, rfl, by decide +kernel, by decide +kernel⟩
theorem ok_grounds (T : Bn mg) (X : GC K) (F : Fun K "rounds" "Game.rounds" sGRounds fa fd) (h_rank_rounds : Has P w K mg base CX0 2 "rank_rounds" ["ways", "held", "steps"] (spRounds K)) : FnOk P w K mg base CX0 3 fa fd ["self"] (spGRounds K) := by
  refine F.ok scGRounds (fun vs H Q E h => ?_) (fun cdv A outer s H vs Q E hr h => ?_)
  · obtain ⟨g, G, R, n, rfl, _⟩ := h; rfl
  · obtain ⟨g, G, R, n, rfl, sR, ga, ok, k⟩ := h
    have nd := scGRounds.nd
    refine ⟨_, (pss_cons (ps_if (pt_cmpR op_isN (pe_fld (pv 0) rfl) pe_non (by first | exact nomark _ | rfl)) (pss_one (ps_fld (pv 0) (pe_h h_rank_rounds hr (by decide) rfl (pa_cons (pe_fld (pv 0) rfl) (pa_cons (pe_fld (pv 0) rfl) (pa_cons (pe_fld (pv 0) rfl) pa_nil)))) rfl)) pss_nil)
    (pss_one (ps_ret (pe_fld (pv 0) rfl)))), ?_⟩
    have c1 := X.cls
    obtain ⟨dx, tn, td, lw, lh, ls, rv, wv, sv, xw, xs, h1, h2, h5, h6, h7, h8, h9, h10, h11, _⟩ := GameAt.re (R' := R) ga (fun _ _ _ e => e)
    have hg := sR _ _ h1
    have dom0 : ∀ b ∈ [g], R b ≠ none := fun b hb => by rw [List.mem_singleton.mp hb, h1]; exact fun z => nomatch z
    refine ⟨_, rfl, g, _, dx, _, _, rfl, hg, c1, X.n6, rfl, rfl, ?_⟩
    rcases h10 with rfl | ⟨r, m, as, rfl, fm, hr1, la, ha⟩
    · refine ⟨_, rfl, iteT ?_⟩
      refine ⟨_, rfl, g, _, dx, _, _, rfl, hg, c1, X.n3, rfl, _, rfl, g, _, dx, _, _, rfl, hg, c1, X.n4, rfl, _, rfl, g, _, dx, _, _, rfl, hg, c1, X.n5, rfl, ?_⟩
      refine ⟨lw, lh, ls, xw, xs, G.W, n, rfl, ok, sR _ _ h5, RowsL.same sR h6, sR _ _ h7, sR _ _ h8, RowsT.same sR h9, fun m r as H1 fm s1 nr hr1 la rn => ?_⟩
      refine ⟨_, rfl, g, _, dx, _, rfl, s1 _ _ hg, c1, X.n6, (by show 8 < 1000; decide), ?_⟩
      have st := ((Stp.refl sR dom0).new s1).put (o := .ins (cGame K) dx [("names", .ref tn), ("stands", .ref td), ("ways", .ref lw), ("held", .ref lh), ("steps", .ref ls), ("_rounds", .ref r), ("_rows", wv), ("_standings", sv)]) List.mem_cons_self
      refine ⟨_, rfl, g, _, dx, _, _, rfl, upd_same, c1, X.n6, rfl, ?_⟩
      have rg : r ≠ g := fun z => by rw [z, hg] at nr; cases nr
      have hr2 : upd (grown R H H1) g (.ins (cGame K) dx [("names", .ref tn), ("stands", .ref td), ("ways", .ref lw), ("held", .ref lh), ("steps", .ref ls), ("_rounds", .ref r), ("_rows", wv), ("_standings", sv)]) r = some (.lst (as.map V.ref)) := by
        rw [upd_ne rg]; exact grown_at nr hr1
      have ha2 : ∀ k a, as[k]? = some a → upd (grown R H H1) g (.ins (cGame K) dx [("names", .ref tn), ("stands", .ref td), ("ways", .ref lw), ("held", .ref lh), ("steps", .ref ls), ("_rounds", .ref r), ("_rows", wv), ("_standings", sv)]) a = some (.lst ((itW G.W k).map natV)) := fun k a e => by
        obtain ⟨e1, e2⟩ := rn.2 k a e
        rcases e2 with rfl | e2
        · have : a = lh := by rw [rn.1] at e; exact (Option.some.inj e).symm
          subst this
          rw [upd_ne (fun z => by rw [z, h1] at h7; cases h7)]
          exact grown_up sR _ _ h7
        · rw [upd_ne (fun z => by rw [z, hg] at e2; cases e2)]
          exact grown_at e2 e1
      have kp : ∀ b o, b ≠ g → R b = some o → upd (grown R H H1) g (.ins (cGame K) dx [("names", .ref tn), ("stands", .ref td), ("ways", .ref lw), ("held", .ref lh), ("steps", .ref ls), ("_rounds", .ref r), ("_rows", wv), ("_standings", sv)]) b = some o := fun b o nb e => st.kp b o (fun z => nb (List.mem_singleton.mp z)) e
      obtain ⟨dx', tn', td', lw', lh', ls', rv', wv', sv', xw', xs', h1', _, _, _, _, _, _, _, _, mk⟩ := GameAt.re ga kp
      rw [h1] at h1'
      cases h1'
      have rows : RowsL (upd (grown R H H1) g (.ins (cGame K) dx [("names", .ref tn), ("stands", .ref td), ("ways", .ref lw), ("held", .ref lh), ("steps", .ref ls), ("_rounds", .ref r), ("_rows", wv), ("_standings", sv)])) (as.map V.ref) (roundsM G.W m) := by
        have := rowsL_of (as := as) (ls := roundsM G.W m) (by unfold roundsM; rw [List.length_map, List.length_range, la]) (fun k a l e1 e2 => by
          have : l = itW G.W k := by
            unfold roundsM at e2
            rw [List.getElem?_map] at e2
            have hk : k < m + 1 := by rw [← la]; exact (List.getElem?_eq_some_iff.mp e1).1
            rw [List.getElem?_range hk] at e2
            exact (Option.some.inj e2).symm
          rw [this]
          exact ha2 k a e1)
        exact this
      exact k r m as _ _ st (mk (.ref r) wv upd_same (.inr ⟨r, m, _, rfl, fm, hr2, rows⟩) (.inl rfl)) fm hr2 la ha2
    · refine ⟨_, rfl, iteF ?_⟩
      refine ⟨_, rfl, g, _, dx, _, _, rfl, hg, c1, X.n6, rfl, ?_⟩
      exact k r m as R H (.refl sR dom0) ga fm hr1 la ha
end
end Pw

set_option Elab.async false
set_option linter.all false
set_option maxRecDepth 100000
set_option maxHeartbeats 4000000
namespace Pw
open PySem PySem.Spec PyProof.Rows L2 Ct
local macro_rules | `(tactic| wide_line) => `(tactic| repeat ((fail_if_success (with_reducible refine at_while ?_)); (fail_if_success (with_reducible refine at_while1 ?_)); (conv => whnf); first | ((with_reducible refine And.intro ?_ ?_); focus (first | (first | ((with_reducible show (_ : Nat) ≤ _); first | exact sz0 | exact sz1 | exact sz2 | exact sz3 | exact sz4 | exact sz5 | exact sz6 | exact sz7 | exact sz8 | exact sz10 | exact sz11 | exact sz12 | exact sz14 | omega | decide | (simp only [List.length_cons, List.length_nil]; omega)) | ((with_reducible show (_ : Int) ≤ _); first | omega | decide) | ((with_reducible show (_ : Int) < _); first | omega | decide) | ((with_reducible show (_ : Nat) < _); omega)) | ((fail_if_success (with_reducible show (_ : Nat) ≤ _)); (fail_if_success (with_reducible show (_ : Int) ≤ _)); (fail_if_success (with_reducible show (_ : Int) < _)); (fail_if_success (with_reducible show (_ : Nat) < _)); first | exact kv_str _ | exact kv_int _ | rfl | assumption | exact flat_strs _ | exact Lv.get (by assumption) 0 rfl | exact Lv.get (by assumption) 1 rfl | exact Lv.get (by assumption) 2 rfl | exact Lv.get (by assumption) 3 rfl | exact Lv.get (by assumption) 4 rfl | exact Lv.get (by assumption) 5 rfl | exact Lv.get (by assumption) 6 rfl | exact SqL.of (Lv.get (by assumption) 0 rfl) | exact SqL.of (Lv.get (by assumption) 1 rfl) | exact SqL.of (Lv.get (by assumption) 2 rfl) | exact SqL.of (Lv.get (by assumption) 3 rfl) | exact SqL.of (Lv.get (by assumption) 4 rfl) | exact SqL.of (Lv.get (by assumption) 5 rfl) | exact Or.inl (SqL.of (Lv.get (by assumption) 0 rfl)) | exact Or.inl (SqL.of (Lv.get (by assumption) 1 rfl)) | exact Or.inl (SqL.of (Lv.get (by assumption) 2 rfl)) | exact Or.inl (SqL.of (Lv.get (by assumption) 3 rfl)) | exact Or.inl (SqL.of (Lv.get (by assumption) 4 rfl)) | exact Or.inl (SqL.of (Lv.get (by assumption) 5 rfl)) | exact ⟨_, SqL.of (Lv.get (by assumption) 0 rfl)⟩ | exact ⟨_, SqL.of (Lv.get (by assumption) 1 rfl)⟩ | exact ⟨_, SqL.of (Lv.get (by assumption) 2 rfl)⟩ | exact ⟨_, SqL.of (Lv.get (by assumption) 3 rfl)⟩ | exact ⟨_, SqL.of (Lv.get (by assumption) 4 rfl)⟩ | exact ⟨_, SqL.of (Lv.get (by assumption) 5 rfl)⟩ | exact Or.inl ⟨_, SqL.of (Lv.get (by assumption) 0 rfl), rfl⟩ | exact Or.inl ⟨_, SqL.of (Lv.get (by assumption) 1 rfl), rfl⟩ | exact Or.inl ⟨_, SqL.of (Lv.get (by assumption) 2 rfl), rfl⟩ | exact Or.inl ⟨_, SqL.of (Lv.get (by assumption) 3 rfl), rfl⟩ | exact Or.inl ⟨_, SqL.of (Lv.get (by assumption) 4 rfl), rfl⟩ | exact Or.inl ⟨_, SqL.of (Lv.get (by assumption) 5 rfl), rfl⟩ | exact Or.inl ⟨rfl, _, SqL.of (Lv.get (by assumption) 0 rfl)⟩ | exact Or.inl ⟨rfl, _, SqL.of (Lv.get (by assumption) 1 rfl)⟩ | exact Or.inl ⟨rfl, _, SqL.of (Lv.get (by assumption) 2 rfl)⟩ | exact Or.inl ⟨rfl, _, SqL.of (Lv.get (by assumption) 3 rfl)⟩ | exact Or.inl ⟨rfl, _, SqL.of (Lv.get (by assumption) 4 rfl)⟩ | exact Or.inl ⟨rfl, _, SqL.of (Lv.get (by assumption) 5 rfl)⟩ | exact Or.inr (SqT.of (Lv.get (by assumption) 0 rfl)) | exact Or.inr (SqT.of (Lv.get (by assumption) 1 rfl)) | exact Or.inr (SqT.of (Lv.get (by assumption) 2 rfl)) | exact Or.inr (SqT.of (Lv.get (by assumption) 3 rfl)) | exact SqT.of (Lv.get (by assumption) 0 rfl) | exact SqT.of (Lv.get (by assumption) 1 rfl) | exact SqT.of (Lv.get (by assumption) 2 rfl) | exact dgetN (Lv.get (by assumption) 0 rfl) (by assumption) | exact dgetN (Lv.get (by assumption) 1 rfl) (by assumption) | exact dgetN (Lv.get (by assumption) 2 rfl) (by assumption) | exact dgetN (Lv.get (by assumption) 3 rfl) (by assumption) | exact dgetN (Lv.get (by assumption) 4 rfl) (by assumption) | exact Or.inl (by assumption) | exact Or.inr (by assumption) | decide | ((with_reducible show _ ∧ _); omega)))) | ((fail_if_success (with_reducible apply @Exists.intro (Nat → _))); (with_reducible apply Exists.intro))))
local macro_rules
  | `(tactic| wide_line with al $lv:ident $l:ident $nl:ident $H:ident $lv1:ident $s1:ident) => `(tactic| (intro $l:ident $nl:ident; generalize he : upd _ _ _ = $H:ident; have $lv1:ident := Lv.alE $lv $nl he; have $s1:ident := sameE $nl he; clear he; (try simp only [List.set_cons_zero, List.set_cons_succ] at $lv1:ident)))
  | `(tactic| wide_line with alx $lv:ident $nl:ident $H:ident $lv1:ident $s1:ident) => `(tactic| (generalize he : upd _ _ _ = $H:ident; have $lv1:ident := Lv.alE $lv $nl he; have $s1:ident := sameE $nl he; clear he; (try simp only [List.set_cons_zero, List.set_cons_succ] at $lv1:ident)))
  | `(tactic| wide_line with sts $lv:ident $i:num $H:ident $lv1:ident $s0:ident $np:ident $s1:ident) => `(tactic| (generalize he : upd _ _ _ = $H:ident; have $lv1:ident := Lv.stE $lv $i rfl he; have $s1:ident := sameN $s0 $np he; clear he; (try simp only [List.set_cons_zero, List.set_cons_succ] at $lv1:ident)))
  | `(tactic| wide_line with stx $lv:ident $H:ident $lv1:ident $d1:ident) => `(tactic| (generalize he : upd _ _ _ = $H:ident; have $lv1:ident := Lv.stE $lv 0 rfl he; have $d1:ident := SameD.storeE (Lv.get $lv 0 rfl) he; clear he; (try simp only [List.set_cons_zero, List.set_cons_succ] at $lv1:ident)))
  | `(tactic| wide_line with st $lv:ident $i:num $H:ident $lv1:ident) => `(tactic| (generalize he : upd _ _ _ = $H:ident; have $lv1:ident := Lv.stE $lv $i rfl he; clear he; (try simp only [List.set_cons_zero, List.set_cons_succ] at $lv1:ident)))
  | `(tactic| wide_line with stk $lv:ident $i:num $H:ident $lv1:ident $k1:ident) => `(tactic| (generalize he : upd _ _ _ = $H:ident; have $lv1:ident := Lv.stE $lv $i rfl he; have $k1:ident := KeepT.st (Lv.get $lv $i rfl) he; clear he; (try simp only [List.set_cons_zero, List.set_cons_succ] at $lv1:ident)))
theorem GameAt.ins {K : PySem.W.Frag} {H : Hp} {g : Addr} {G : Gm} (h : GameAt K H g G) : ∃ dx fs, H g = some (.ins (cGame K) dx fs) ∧ fs.lookup ("rounds" : Str) = none ∧ fs.lookup ("rows" : Str) = none ∧ fs.lookup ("least" : Str) = none ∧ fs.lookup ("starts" : Str) = none ∧ fs.lookup ("rank" : Str) = none ∧ fs.lookup ("ranks" : Str) = none := by
  obtain ⟨dx, tn, td, lw, lh, ls, rv, wv, sv, ds, xw, xs, h1, _⟩ := h.ex
  exact ⟨dx, _, h1, rfl, rfl, rfl, rfl, rfl, rfl⟩
theorem fin_few {W : Wx} {m n : Nat} (ok : WOk W n) (fm : FinW W m) : m ≤ 409600 := by
  have h := few_rounds ok fm.2
  have h1 : W.ways.length * 2 ^ n ≤ 100 * 2 ^ n := Nat.mul_le_mul_right _ ok.few
  have h2 : 2 ^ n ≤ 2 ^ 12 := Nat.pow_le_pow_right (by decide) ok.nn
  omega
section
variable {P : Program} {w : World} {K : PySem.W.Frag} {mg : Str → Option Value} {base : Heap} {fa : Addr} {fd : FuncData}
abbrev sGRows : Stmt := inClass (top ix_Game) mx_Game_rows
theorem scGRows : FnScope ["self"] ["self"] (defScope sGRows) := ⟨rfl, rfl, rfl, by decide +kernel, rfl, by decide +kernel, by decide +kernel⟩
theorem ok_grows (T : Bn mg) (X : GC K) (F : Fun K "rows" "Game.rows" sGRows fa fd) (h_rank_rows : Has P w K mg base CX0 2 "rank_rows" ["rounds", "places"] (spRows K)) (hM_rounds : HasM P w K mg base CX0 3 (cGame K) "rounds" ["self"] (spGRounds K)) : FnOk P w K mg base CX0 4 fa fd ["self"] (spGRows K) := by
  refine F.ok scGRows (fun vs H Q E h => ?_) (fun cdv A outer s H vs Q E hr h => ?_)
  · obtain ⟨g, G, R, rfl, _⟩ := h; rfl
  · obtain ⟨g, G, R, rfl, sR, ga, ok, k⟩ := h
    have nd := scGRows.nd
    refine ⟨_, (pss_cons (ps_if (pt_cmpR op_isN (pe_fld (pv 0) rfl) pe_non (by first | exact nomark _ | rfl)) (pss_one (ps_fld (pv 0) (pe_h h_rank_rows hr (by decide) rfl (pa_cons (pe_hM0 hM_rounds X.cls hr (by decide) (pv 0)) (pa_cons (pe_callB call_len (by rfl) T.z_len (by decide +kernel) (pa_cons (pe_fld (pv 0) rfl) pa_nil)) pa_nil))) rfl)) pss_nil)
    (pss_one (ps_ret (pe_fld (pv 0) rfl)))), ?_⟩
    have c1 := X.cls
    obtain ⟨dx, tn, td, lw, lh, ls, rv, wv, sv, xw, xs, h1, h2, h5, h6, h7, h8, h9, h10, h11, _⟩ := GameAt.re (R' := R) ga (fun _ _ _ e => e)
    have hg := sR _ _ h1
    have dom0 : ∀ b ∈ [g], R b ≠ none := fun b hb => by rw [List.mem_singleton.mp hb, h1]; exact fun z => nomatch z
    refine ⟨_, rfl, g, _, dx, _, _, rfl, hg, c1, X.n7, rfl, rfl, ?_⟩
    rcases h11 with rfl | ⟨t, m, xt, rfl, fm, ht, rk⟩
    · refine ⟨_, rfl, iteT ?_⟩
      refine ⟨_, rfl, g, dx, _, rfl, hg, rfl, g, G, R, _, rfl, sR, ga, ok, fun r m as R1 H1 st ga1 fm hr1 la ha => ?_⟩
      obtain ⟨dx1, tn1, td1, lw1, lh1, ls1, rv1, wv1, sv1, xw1, xs1, g1, g2, _⟩ := GameAt.re (R' := R1) ga1 (fun _ _ _ e => e)
      have hg1 := st.sub _ _ g1
      refine ⟨_, rfl, g, _, dx1, _, _, rfl, hg1, c1, X.n1, rfl, .ref tn1, _, rfl, .inr ⟨_, same_t st.sub g2, rfl⟩, ?_⟩
      rw [List.length_map]
      refine ⟨r, as, G.W, m, G.names.length, rfl, ok, st.sub _ _ hr1, la, Nat.le_trans (fin_few ok fm) (by decide), fun k a e => st.sub _ _ (ha k a e), fun t xt H2 s2 nt ht pr => ?_⟩
      refine ⟨_, rfl, g, _, dx1, _, rfl, s2 _ _ hg1, c1, X.n7, (by show 8 < 1000; decide), ?_⟩
      have tg : t ≠ g := fun z => by rw [z, hg1] at nt; cases nt
      have st2 := (st.new s2).put (o := .ins (cGame K) dx1 [("names", .ref tn1), ("stands", .ref td1), ("ways", .ref lw1), ("held", .ref lh1), ("steps", .ref ls1), ("_rounds", rv1), ("_rows", .ref t), ("_standings", sv1)]) List.mem_cons_self
      refine ⟨_, rfl, g, _, dx1, _, _, rfl, upd_same, c1, X.n7, rfl, ?_⟩
      have kp : ∀ b o, b ≠ g → R1 b = some o → upd (grown R1 H1 H2) g (.ins (cGame K) dx1 [("names", .ref tn1), ("stands", .ref td1), ("ways", .ref lw1), ("held", .ref lh1), ("steps", .ref ls1), ("_rounds", rv1), ("_rows", .ref t), ("_standings", sv1)]) b = some o := fun b o nb e => by rw [upd_ne nb]; exact grown_up st.sub _ _ e
      have ht2 : SqT K (upd (grown R1 H1 H2) g (.ins (cGame K) dx1 [("names", .ref tn1), ("stands", .ref td1), ("ways", .ref lw1), ("held", .ref lh1), ("steps", .ref ls1), ("_rounds", rv1), ("_rows", .ref t), ("_standings", sv1)])) t xt := SqT.of (by rw [upd_ne tg]; exact grown_at nt ht)
      have rk2 : RanksT K (upd (grown R1 H1 H2) g (.ins (cGame K) dx1 [("names", .ref tn1), ("stands", .ref td1), ("ways", .ref lw1), ("held", .ref lh1), ("steps", .ref ls1), ("_rounds", rv1), ("_rows", .ref t), ("_standings", sv1)])) xt (rowsM G.W m G.names.length) := Paired.mono (fun x l ⟨a, e, na, ha⟩ => ⟨a, e, SqT.of (by rw [upd_ne (fun z => by rw [z, hg1] at na; cases na)]; exact grown_at na ha)⟩) pr
      obtain ⟨dx', tn', td', lw', lh', ls', rv', wv', sv', xw', xs', h1', _, _, _, _, _, _, _, _, mk⟩ := GameAt.re ga1 kp
      rw [g1] at h1'
      cases h1'
      exact k t m xt _ _ st2 (mk rv1 (.ref t) upd_same (.inl rfl) (.inr ⟨t, m, xt, rfl, fm, ht2, rk2⟩)) fm ht2 rk2
    · refine ⟨_, rfl, iteF ?_⟩
      refine ⟨_, rfl, g, _, dx, _, _, rfl, hg, c1, X.n7, rfl, ?_⟩
      exact k t m xt R H (.refl sR dom0) ga fm ht rk
abbrev sGLeast : Stmt := inClass (top ix_Game) mx_Game_least
theorem scGLeast : FnScope ["self", "row"] ["self"] (defScope sGLeast) := ⟨rfl, rfl, rfl, by decide +kernel, rfl, by decide +kernel, by decide +kernel⟩
theorem ok_gleast (T : Bn mg) (X : GC K) (F : Fun K "least" "Game.least" sGLeast fa fd) (h_greatest_rank : Has P w K mg base CX0 1 "greatest_rank" ["ranks"] (spGreatest K)) (h_least_rank : Has P w K mg base CX0 1 "least_rank" ["ranks"] (spLeast K)) (hM_rows : HasM P w K mg base CX0 4 (cGame K) "rows" ["self"] (spGRows K)) : FnOk P w K mg base CX0 5 fa fd ["self"] (spGLeast K) := by
  refine F.ok scGLeast (fun vs H Q E h => ?_) (fun cdv A outer s H vs Q E hr h => ?_)
  · obtain ⟨g, G, R, rfl, _⟩ := h; rfl
  · obtain ⟨g, G, R, rfl, sR, ga, ok, one, k⟩ := h
    have nd := scGLeast.nd
    refine ⟨_, (pss_one (ps_ret (pe_h h_least_rank hr (by decide) rfl (pa_cons (pe_lc (own := [("row", 1)]) (g := gName 1) (tt := tYes) rfl nd (pi_sq (pe_hM0 hM_rows X.cls hr (by decide) (pv 0))) (blkOk_by (own := [("row", 1)]) (N := ["self", "row"]) (sc := defScope sGLeast) (by decide +kernel)) (fun _ _ _ _ _ => (pg_name (i := 1) nd rfl (by first | exact Or.inl rfl | exact Or.inr rfl))) (fun _ _ _ _ _ => pts_nil) (fun _ _ _ _ _ => (pe_h h_greatest_rank hr (by decide) rfl (pa_cons (pv 1) pa_nil)))) pa_nil)))), ?_⟩
    obtain ⟨dx, fs, h1, _, no, _⟩ := ga.ins
    refine ⟨_, rfl, g, dx, fs, rfl, sR _ _ h1, no, g, G, R, rfl, sR, ga, ok, fun t m xt R1 H1 st ga1 fm ht rk => ?_⟩
    refine ⟨t, xt, rfl, .inr (same_t st.sub ht), fun J Gx ex hG wk L nL => ?_⟩
    have xl : xt.length = (rowsM G.W m G.names.length).length := paired_len rk
    have rl : (rowsM G.W m G.names.length).length = G.W.ways.length := by unfold rowsM; rw [List.length_map, List.length_range]
    refine lc_it wk (fun i H' => Hold (Lv H1 [] H' [(L, .lst ((((rowsM G.W m G.names.length).map greatR).take i).map rkV))])) ⟨(Lv.zero H1).al nL⟩ (fun i H' _ ⟨z⟩ => hG H' (.same z.sm)) ?_ ?_
    · rintro i x H2 H3 hi ⟨lv⟩ ⟨rfl, hx⟩
      obtain ⟨l, hl, a, rfl, ha⟩ := paired_at rk hx
      have el : ((rowsM G.W m G.names.length).map greatR)[i]? = some (greatR l) := by rw [List.getElem?_map, hl]; rfl
      have ne : l ≠ [] := fun z => by
        have hm := List.mem_of_getElem? hl
        unfold rowsM at hm
        obtain ⟨s, _, e⟩ := List.mem_map.mp hm
        have := congrArg List.length e
        rw [List.length_map, List.length_range, z, List.length_nil] at this
        omega
      refine ⟨rfl, _, rfl, a, l, rfl, .inr (same_t lv.sm (same_t st.sub ha)), ne, _, lv.get 0 rfl, by rw [List.length_map, List.length_take, sizeLine_eq]; have := ok.few; omega, ⟨?_⟩⟩
      rw [take_next2 el, List.map_append]
      exact lv.stE 0 rfl rfl
    · rintro H2 ⟨lv⟩
      rw [xl, ← List.length_map (f := greatR), List.take_length] at lv
      refine ⟨L, _, rfl, .inl (SqL.of (lv.get 0 rfl)), by rw [List.length_map, rl]; have := ok.few; omega, fun H3 s3 => ?_⟩
      have sm := lv.sm.trans s3
      exact k m _ H3 (st.new sm) (ga1.same (grown_up st.sub)) fm
end
end Pw

set_option Elab.async false
set_option linter.all false
set_option maxRecDepth 100000
set_option maxHeartbeats 4000000
namespace Pw
open PySem PySem.Spec PyProof.Rows L2 Ct
local macro_rules | `(tactic| wide_line) => `(tactic| repeat ((fail_if_success (with_reducible refine at_while ?_)); (fail_if_success (with_reducible refine at_while1 ?_)); (conv => whnf); first | ((with_reducible refine And.intro ?_ ?_); focus (first | (first | ((with_reducible show (_ : Nat) ≤ _); first | exact sz0 | exact sz1 | exact sz2 | exact sz3 | exact sz4 | exact sz5 | exact sz6 | exact sz7 | exact sz8 | exact sz10 | exact sz11 | exact sz12 | exact sz14 | omega | decide | (simp only [List.length_cons, List.length_nil]; omega)) | ((with_reducible show (_ : Int) ≤ _); first | omega | decide) | ((with_reducible show (_ : Int) < _); first | omega | decide) | ((with_reducible show (_ : Nat) < _); omega)) | ((fail_if_success (with_reducible show (_ : Nat) ≤ _)); (fail_if_success (with_reducible show (_ : Int) ≤ _)); (fail_if_success (with_reducible show (_ : Int) < _)); (fail_if_success (with_reducible show (_ : Nat) < _)); first | exact kv_str _ | exact kv_int _ | rfl | assumption | exact flat_strs _ | exact Lv.get (by assumption) 0 rfl | exact Lv.get (by assumption) 1 rfl | exact Lv.get (by assumption) 2 rfl | exact Lv.get (by assumption) 3 rfl | exact Lv.get (by assumption) 4 rfl | exact Lv.get (by assumption) 5 rfl | exact Lv.get (by assumption) 6 rfl | exact SqL.of (Lv.get (by assumption) 0 rfl) | exact SqL.of (Lv.get (by assumption) 1 rfl) | exact SqL.of (Lv.get (by assumption) 2 rfl) | exact SqL.of (Lv.get (by assumption) 3 rfl) | exact SqL.of (Lv.get (by assumption) 4 rfl) | exact SqL.of (Lv.get (by assumption) 5 rfl) | exact Or.inl (SqL.of (Lv.get (by assumption) 0 rfl)) | exact Or.inl (SqL.of (Lv.get (by assumption) 1 rfl)) | exact Or.inl (SqL.of (Lv.get (by assumption) 2 rfl)) | exact Or.inl (SqL.of (Lv.get (by assumption) 3 rfl)) | exact Or.inl (SqL.of (Lv.get (by assumption) 4 rfl)) | exact Or.inl (SqL.of (Lv.get (by assumption) 5 rfl)) | exact ⟨_, SqL.of (Lv.get (by assumption) 0 rfl)⟩ | exact ⟨_, SqL.of (Lv.get (by assumption) 1 rfl)⟩ | exact ⟨_, SqL.of (Lv.get (by assumption) 2 rfl)⟩ | exact ⟨_, SqL.of (Lv.get (by assumption) 3 rfl)⟩ | exact ⟨_, SqL.of (Lv.get (by assumption) 4 rfl)⟩ | exact ⟨_, SqL.of (Lv.get (by assumption) 5 rfl)⟩ | exact Or.inl ⟨_, SqL.of (Lv.get (by assumption) 0 rfl), rfl⟩ | exact Or.inl ⟨_, SqL.of (Lv.get (by assumption) 1 rfl), rfl⟩ | exact Or.inl ⟨_, SqL.of (Lv.get (by assumption) 2 rfl), rfl⟩ | exact Or.inl ⟨_, SqL.of (Lv.get (by assumption) 3 rfl), rfl⟩ | exact Or.inl ⟨_, SqL.of (Lv.get (by assumption) 4 rfl), rfl⟩ | exact Or.inl ⟨_, SqL.of (Lv.get (by assumption) 5 rfl), rfl⟩ | exact Or.inl ⟨rfl, _, SqL.of (Lv.get (by assumption) 0 rfl)⟩ | exact Or.inl ⟨rfl, _, SqL.of (Lv.get (by assumption) 1 rfl)⟩ | exact Or.inl ⟨rfl, _, SqL.of (Lv.get (by assumption) 2 rfl)⟩ | exact Or.inl ⟨rfl, _, SqL.of (Lv.get (by assumption) 3 rfl)⟩ | exact Or.inl ⟨rfl, _, SqL.of (Lv.get (by assumption) 4 rfl)⟩ | exact Or.inl ⟨rfl, _, SqL.of (Lv.get (by assumption) 5 rfl)⟩ | exact Or.inr (SqT.of (Lv.get (by assumption) 0 rfl)) | exact Or.inr (SqT.of (Lv.get (by assumption) 1 rfl)) | exact Or.inr (SqT.of (Lv.get (by assumption) 2 rfl)) | exact Or.inr (SqT.of (Lv.get (by assumption) 3 rfl)) | exact SqT.of (Lv.get (by assumption) 0 rfl) | exact SqT.of (Lv.get (by assumption) 1 rfl) | exact SqT.of (Lv.get (by assumption) 2 rfl) | exact dgetN (Lv.get (by assumption) 0 rfl) (by assumption) | exact dgetN (Lv.get (by assumption) 1 rfl) (by assumption) | exact dgetN (Lv.get (by assumption) 2 rfl) (by assumption) | exact dgetN (Lv.get (by assumption) 3 rfl) (by assumption) | exact dgetN (Lv.get (by assumption) 4 rfl) (by assumption) | exact Or.inl (by assumption) | exact Or.inr (by assumption) | decide | ((with_reducible show _ ∧ _); omega)))) | ((fail_if_success (with_reducible apply @Exists.intro (Nat → _))); (with_reducible apply Exists.intro))))
local macro_rules
  | `(tactic| wide_line with al $lv:ident $l:ident $nl:ident $H:ident $lv1:ident $s1:ident) => `(tactic| (intro $l:ident $nl:ident; generalize he : upd _ _ _ = $H:ident; have $lv1:ident := Lv.alE $lv $nl he; have $s1:ident := sameE $nl he; clear he; (try simp only [List.set_cons_zero, List.set_cons_succ] at $lv1:ident)))
  | `(tactic| wide_line with alx $lv:ident $nl:ident $H:ident $lv1:ident $s1:ident) => `(tactic| (generalize he : upd _ _ _ = $H:ident; have $lv1:ident := Lv.alE $lv $nl he; have $s1:ident := sameE $nl he; clear he; (try simp only [List.set_cons_zero, List.set_cons_succ] at $lv1:ident)))
  | `(tactic| wide_line with sts $lv:ident $i:num $H:ident $lv1:ident $s0:ident $np:ident $s1:ident) => `(tactic| (generalize he : upd _ _ _ = $H:ident; have $lv1:ident := Lv.stE $lv $i rfl he; have $s1:ident := sameN $s0 $np he; clear he; (try simp only [List.set_cons_zero, List.set_cons_succ] at $lv1:ident)))
  | `(tactic| wide_line with stx $lv:ident $H:ident $lv1:ident $d1:ident) => `(tactic| (generalize he : upd _ _ _ = $H:ident; have $lv1:ident := Lv.stE $lv 0 rfl he; have $d1:ident := SameD.storeE (Lv.get $lv 0 rfl) he; clear he; (try simp only [List.set_cons_zero, List.set_cons_succ] at $lv1:ident)))
  | `(tactic| wide_line with st $lv:ident $i:num $H:ident $lv1:ident) => `(tactic| (generalize he : upd _ _ _ = $H:ident; have $lv1:ident := Lv.stE $lv $i rfl he; clear he; (try simp only [List.set_cons_zero, List.set_cons_succ] at $lv1:ident)))
  | `(tactic| wide_line with stk $lv:ident $i:num $H:ident $lv1:ident $k1:ident) => `(tactic| (generalize he : upd _ _ _ = $H:ident; have $lv1:ident := Lv.stE $lv $i rfl he; have $k1:ident := KeepT.st (Lv.get $lv $i rfl) he; clear he; (try simp only [List.set_cons_zero, List.set_cons_succ] at $lv1:ident)))
theorem Stp.more {A : List Addr} {g : Addr} {R H R1 H1 R2 H2 : Hp} (sR : Same R H) (a : Stp A R H R1 H1) (b : Stp [g] R1 H1 R2 H2) (c : g ∈ A ∨ H g = none) : Stp A R H R2 H2 := by
  refine ⟨b.sub, fun x hx => ?_, fun x o n e => ?_, fun x o n e => ?_, fun x h => ⟨(a.dom x h).1, ?_⟩⟩
  · rcases b.old x hx with z | z
    · exact a.old x z
    · by_cases ca : x ∈ A
      · exact .inl (a.dom x ca).1
      · right
        cases e : H x with
        | none => rfl
        | some o => rw [a.fr x o ca e] at z; cases z
  · have ng : x ∉ [g] := fun z => by
      have := List.mem_singleton.mp z
      subst this
      rcases c with c | c
      · exact n c
      · rw [c] at e; cases e
    exact b.fr x o ng (a.fr x o n e)
  · have ng : x ∉ [g] := fun z => by
      have := List.mem_singleton.mp z
      subst this
      rcases c with c | c
      · exact n c
      · have := sR _ _ e
        rw [c] at this; cases this
    exact b.kp x o ng (a.kp x o n e)
  · by_cases q : x = g
    · subst q; exact (b.dom x List.mem_cons_self).2
    · obtain ⟨o, e⟩ := Option.ne_none_iff_exists'.mp (a.dom x h).2
      rw [b.kp x o (fun z => q (List.mem_singleton.mp z)) e]
      exact fun z => nomatch z
/-- lists and tuples -/
def SameL (H H' : Hp) : Prop := ∀ b o, H b = some o → (∀ C dx fs, o ≠ .ins C dx fs) → (∀ kvs, o ≠ .dK kvs) → H' b = some o
section
variable {K : PySem.W.Frag} {H H' : Hp}
theorem SameL.l (s : SameL H H') {a : Addr} {xs : List V} : SqL K H a xs → SqL K H' a xs
  | .inl (.inl h) => .inl (.inl (s _ _ h (by intro _ _ _ z; cases z) (by intro _ z; cases z)))
  | .inl (.inr ⟨o, h⟩) => .inl (.inr ⟨o, s _ _ h (by intro _ _ _ z; cases z) (by intro _ z; cases z)⟩)
  | .inr h => .inr h
theorem SameL.t (s : SameL H H') {a : Addr} {xs : List V} : SqT K H a xs → SqT K H' a xs
  | .inl (.inl h) => .inl (.inl (s _ _ h (by intro _ _ _ z; cases z) (by intro _ z; cases z)))
  | .inl (.inr ⟨o, h⟩) => .inl (.inr ⟨o, s _ _ h (by intro _ _ _ z; cases z) (by intro _ z; cases z)⟩)
  | .inr h => .inr h
theorem SameL.ties (s : SameL H H') : ∀ {xs : List V} {ps : List (Str × Str)}, TiesAt K H xs ps → TiesAt K H' xs ps
  | _, _, .nil => .nil
  | _, _, .cons ⟨a, e, h⟩ t => .cons ⟨a, e, s.t h⟩ (SameL.ties s t)
mutual
theorem SameL.dp (s : SameL H H') : ∀ {v : V} {d : PyData}, Dp K H v d → Dp K H' v d
  | _, _, .non => .non
  | _, _, .bl b => .bl b
  | _, _, .int i => .int i
  | _, _, .str x => .str x
  | _, _, .lst h a => .lst (s.l h) (SameL.dps s a)
  | _, _, .tup h a => .tup (s.t h) (SameL.dps s a)
theorem SameL.dps (s : SameL H H') : ∀ {vs : List V} {ds : List PyData}, DpAll K H vs ds → DpAll K H' vs ds
  | _, _, .nil => .nil
  | _, _, .cons a b => .cons (SameL.dp s a) (SameL.dps s b)
end
end
theorem game_fs {K : PySem.W.Frag} {H : Hp} {g : Addr} {G : Gm} (h : GameAt K H g G) : ∃ dx v fs, H g = some (.ins (cGame K) dx (("names", v) :: fs)) := by
  obtain ⟨dx, tn, td, lw, lh, ls, rv, wv, sv, ds, xw, xs, h1, _⟩ := h.ex
  exact ⟨dx, _, _, h1⟩
/-- a web with another memory -/
theorem WebAt.re {K : PySem.W.Frag} {C : Addr} {R R' : Hp} {x : Addr} {ns : List Str} {ts : List (Str × Str)} (h : WebAt K C R x ns ts) :
    ∃ (dx tp sg kd : Addr) (fs : List (Str × V)), R x = some (.ins C dx fs) ∧ fs.lookup ("_places" : Str) = some (.ref tp) ∧ fs.lookup ("_sights" : Str) = some (.ref sg) ∧ fs.lookup ("_kept" : Str) = some (.ref kd) ∧
      fs.lookup ("kept" : Str) = none ∧ fs.lookup ("keep" : Str) = none ∧ fs.lookup ("sights" : Str) = none ∧ SqT K R tp (ns.map V.str) ∧ SqT K R sg (ns.map fun p => natV (sightN ns ts p)) ∧ x ≠ kd ∧
      ((R kd = some (.dK []) ∧ areaW R x = [kd]) ∨ ∃ g, R kd = some (.dK [(.inr "guard", .ref g)]) ∧ GameAt K R g (oneG ns ts) ∧ areaW R x = [kd, g]) ∧
      ∀ g, (∀ b o, b ≠ kd → (∀ v dx fs, o ≠ .ins (cGame K) dx (("names", v) :: fs)) → R b = some o → R' b = some o) → R' kd = some (.dK [(.inr "guard", .ref g)]) → GameAt K R' g (oneG ns ts) → WebAt K C R' x ns ts ∧ areaW R' x = [kd, g] := by
  obtain ⟨dx, tp, tt, sg, sn, sp, sq, rk, xs, h1, h2, h3, h4, h5, h6, ⟨kd, rfl, hk, hc⟩, h8, h9⟩ := h.ex
  have nx : x ≠ kd := fun z => by
    rw [← z, h1] at hc
    rcases hc with e | ⟨g, e, _⟩ <;> cases e
  refine ⟨dx, tp, sg, kd, _, h1, rfl, rfl, rfl, rfl, rfl, rfl, h2, h5, nx, ?_, fun g off e ga => ?_⟩
  · rcases hc with e | ⟨g, e, z⟩
    · exact .inl ⟨e, areaW_at h1 rfl e⟩
    · exact .inr ⟨g, e, z, areaW_at h1 rfl e⟩
  · have kdd : ∃ kvs, R kd = some (.dK kvs) := by
      rcases hc with e | ⟨g, e, z⟩
      · exact ⟨_, e⟩
      · exact ⟨_, e⟩
    obtain ⟨kvs, kdd⟩ := kdd
    have sl : SameL R R' := fun b o e n1 n2 => off b o (fun z => by rw [z, kdd] at e; exact n2 _ (Option.some.inj e).symm) (fun v dx fs => n1 _ _ _) e
    have hx' : R' x = _ := off x _ nx (fun v dx fs z => by
      injection z with _ _ z
      injection z with z _
      injection z with z _
      exact absurd z (by decide)) h1
    refine ⟨⟨dx, tp, tt, sg, sn, sp, sq, .ref kd, xs, hx', sl.t h2, sl.t h3, sl.ties h4, sl.t h5, ?_, ⟨kd, rfl, hk, .inr ⟨g, e, ga⟩⟩, sl.dp h8, sl.dp h9⟩, areaW_at hx' rfl e⟩
    obtain ⟨kvs, l, m1, m2, m3, m4⟩ := h6
    exact ⟨kvs, l, off _ _ (fun z => hk z.symm) (fun _ _ _ z => nomatch z) m1, m2, fun p hp => ⟨(m3 p hp).1, off _ _ (fun z => by have := (m3 p hp).2; rw [z, kdd] at this; cases this) (fun _ _ _ z => nomatch z) (m3 p hp).2⟩, m4⟩
/-- the class Game: what a new one promises -/
structure HasGm (P : Program) (w : World) (K : PySem.W.Frag) (mg : Str → Option Value) (base : Heap) : Prop where
  g : mg "Game" = some (.ref (cGame K))
  ex : ∃ (f : Addr) (fd : FuncData), Mk K (cGame K) f ∧ FnOk P w K mg base CX0 1 f fd ["self", "names", "stands", "ways", "held", "steps"] (spGInit K) ∧ Binds K fd ["self", "names", "stands", "ways", "held", "steps"] []
def spKept (K : PySem.W.Frag) (C : Addr) : Sp := fun vs H Q _ => ∃ (x dx kd : Addr) (fs : List (Str × V)) (kvs : List (Key × V)) (k : Str), vs = [.ref x, .str k] ∧ H x = some (.ins C dx fs) ∧ fs.lookup ("_kept" : Str) = some (.ref kd) ∧ H kd = some (.dK kvs) ∧ Q ((valV kvs (.inr k)).getD .non) H
def spKeep (K : PySem.W.Frag) (C : Addr) : Sp := fun vs H Q _ => ∃ (x dx kd : Addr) (fs : List (Str × V)) (kvs : List (Key × V)) (k : Str) (v : V), vs = [.ref x, .str k, v] ∧ H x = some (.ins C dx fs) ∧ fs.lookup ("_kept" : Str) = some (.ref kd) ∧ H kd = some (.dK kvs) ∧ kvs.length ≤ 100 ∧ Q .non (upd H kd (.dK (putK kvs (.inr k) v)))
def spSightsOf (C : Addr) : Sp := fun vs H Q _ => ∃ (x dx : Addr) (fs : List (Str × V)) (v : V), vs = [.ref x] ∧ H x = some (.ins C dx fs) ∧ fs.lookup ("_sights" : Str) = some v ∧ Q v H
theorem one_ok {ns : List Str} {ts : List (Str × Str)} (h1 : 1 ≤ ns.length) (h2 : ns.length ≤ 12) : WOk (oneW ns ts) ns.length where
  lh := by unfold oneW; simp
  ls := by unfold oneW; simp
  wr := fun s l e => by
    unfold oneW at e ⊢
    dsimp only at e ⊢
    rw [List.getElem?_map] at e
    cases q : ns[s]? with
    | none => rw [q] at e; cases e
    | some p =>
      rw [q] at e
      cases e
      refine ⟨(mem_bits (sight_lt ns ts p)).mpr ⟨(List.getElem?_eq_some_iff.mp q).1, ?_⟩, fun t ht => ?_⟩
      · rw [sight_bit q]; unfold seesB; rw [beq_self_eq_true, Bool.true_or]
      · rw [List.length_map]; exact ((mem_bits (sight_lt ns ts p)).mp ht).1
  hb := fun h hm => by
    unfold oneW at hm
    obtain ⟨i, hi, rfl⟩ := List.mem_map.mp hm
    exact Nat.pow_lt_pow_right (by decide) (List.mem_range.mp hi)
  sn := fun l hl => by
    unfold oneW at hl
    rw [(List.mem_replicate.mp hl).2, List.length_map]
  few := by unfold oneW; dsimp only; rw [List.length_map]; omega
  one := by unfold oneW; dsimp only; rw [List.length_map]; omega
  nn := h2
abbrev RowsNew (H0 H : Hp) : List V → List (List Nat) → Prop := Paired fun x l => ∃ a, x = .ref a ∧ H0 a = none ∧ H a = some (.lst (l.map natV))
theorem RowsNew.same {H0 H H' : Hp} (s : Same H H') {xs : List V} {ls : List (List Nat)} (h : RowsNew H0 H xs ls) : RowsNew H0 H' xs ls := Paired.mono (fun _ _ ⟨a, e, n, z⟩ => ⟨a, e, n, s _ _ z⟩) h
theorem std_ones {K : PySem.W.Frag} {H : Hp} : ∀ ns : List Str, Paired (StdAt K H) (ns.map V.str) (ns.map Std.one)
  | [] => .nil
  | n :: ns => .cons rfl (std_ones ns)
theorem rows_rep {K : PySem.W.Frag} {H : Hp} {a : Addr} {l : List Nat} (h : SqT K H a (l.map natV)) : ∀ {n : Nat}, RowsT K H (List.replicate n (.ref a)) (List.replicate n l)
  | 0 => .nil
  | n + 1 => .cons ⟨a, rfl, h⟩ (rows_rep h)
/-- the game of one guard in a web; behind it the web keeps it -/
def spOneGuard (K : PySem.W.Frag) (C : Addr) : Sp := fun vs H Q _ => ∃ (x : Addr) (ns : List Str) (ts : List (Str × Str)) (R : Hp), vs = [.ref x] ∧ Same R H ∧ WebAt K C R x ns ts ∧ 1 ≤ ns.length ∧ ns.length ≤ 12 ∧
  ∀ (g : Addr) (R' H' : Hp), Stp (areaW R x) R H R' H' → WebAt K C R' x ns ts → (∀ b ∈ areaW R' x, b ∈ areaW R x ∨ H b = none) → g ∈ areaW R' x → GameAt K R' g (oneG ns ts) → Q (.ref g) H'
def spTurns (K : PySem.W.Frag) (C : Addr) : Sp := fun vs H Q _ => ∃ (x : Addr) (ns : List Str) (ts : List (Str × Str)) (R : Hp), vs = [.ref x] ∧ Same R H ∧ WebAt K C R x ns ts ∧ 1 ≤ ns.length ∧ ns.length ≤ 12 ∧
  ∀ (m : Nat) (R' H' : Hp), Stp (areaW R x) R H R' H' → WebAt K C R' x ns ts → (∀ b ∈ areaW R' x, b ∈ areaW R x ∨ H b = none) → FinW (oneW ns ts) m → Q (rkV (leastG (oneW ns ts) m ns.length)) H'
section
variable {P : Program} {w : World} {K : PySem.W.Frag} {mg : Str → Option Value} {base : Heap} {C fa : Addr} {fd : FuncData}
abbrev sKept : Stmt := inClass (top ix_Web) mx_Web_kept
theorem scKept : FnScope ["self", "key"] ["self", "key"] (defScope sKept) := ⟨rfl, rfl, rfl, by decide +kernel, rfl, by decide +kernel, by decide +kernel⟩
theorem ok_kept (X : WC K C) (F : Fun K "kept" "Web.kept" sKept fa fd) : FnOk P w K mg base CX0 1 fa fd ["self", "key"] (spKept K C) := by
  refine F.ok scKept (fun vs H Q E h => ?_) (fun cdv A outer s H vs Q E hr h => ?_)
  · obtain ⟨x, dx, kd, fs, kvs, k, rfl, _⟩ := h; rfl
  · obtain ⟨x, dx, kd, fs, kvs, k, rfl, hx, lk, hk, z⟩ := h
    have nd := scKept.nd
    refine ⟨_, (pss_one (ps_ret (pe_dget1 (hu_of hr) (pe_fld (pv 0) rfl) (pv 1) ⟨rfl, rfl, rfl, rfl⟩))), ?_⟩
    exact ⟨_, rfl, x, _, dx, _, _, rfl, hx, X.cls, X.n5, lk, kd, rfl, .inl ⟨_, .inl hk⟩, _, rfl, _, DGet.k (k := Sum.inr k) hk, z⟩
abbrev sKeep : Stmt := inClass (top ix_Web) mx_Web_keep
theorem scKeep : FnScope ["self", "key", "value"] ["self", "key", "value"] (defScope sKeep) := ⟨rfl, rfl, rfl, by decide +kernel, rfl, by decide +kernel, by decide +kernel⟩
theorem ok_keep (X : WC K C) (F : Fun K "keep" "Web.keep" sKeep fa fd) : FnOk P w K mg base CX0 1 fa fd ["self", "key", "value"] (spKeep K C) := by
  refine F.ok scKeep (fun vs H Q E h => ?_) (fun cdv A outer s H vs Q E hr h => ?_)
  · obtain ⟨x, dx, kd, fs, kvs, k, v, rfl, _⟩ := h; rfl
  · obtain ⟨x, dx, kd, fs, kvs, k, v, rfl, hx, lk, hk, few, z⟩ := h
    have nd := scKeep.nd
    refine ⟨_, (pss_one (ps_dput (hu_of hr) (pe_fld (pv 0) rfl) (pv 1) (pv 2) rfl)), ?_⟩
    refine ⟨_, rfl, _, rfl, x, _, dx, _, _, rfl, hx, X.cls, X.n5, lk, _, rfl, kd, _, rfl, DPut.k (k := Sum.inr k) hk (by rw [sizeLine_eq]; omega), z⟩
abbrev sSightsOf : Stmt := inClass (top ix_Web) mx_Web_sights
theorem scSightsOf : FnScope ["self"] ["self"] (defScope sSightsOf) := ⟨rfl, rfl, rfl, by decide +kernel, rfl, by decide +kernel, by decide +kernel⟩
theorem ok_sights_of (X : WC K C) (F : Fun K "sights" "Web.sights" sSightsOf fa fd) : FnOk P w K mg base CX0 1 fa fd ["self"] (spSightsOf C) := by
  refine F.ok scSightsOf (fun vs H Q E h => ?_) (fun cdv A outer s H vs Q E hr h => ?_)
  · obtain ⟨x, dx, fs, v, rfl, _⟩ := h; rfl
  · obtain ⟨x, dx, fs, v, rfl, hx, lk, z⟩ := h
    have nd := scSightsOf.nd
    refine ⟨_, (pss_one (ps_ret (pe_fld (pv 0) rfl))), ?_⟩
    exact ⟨_, rfl, x, _, dx, _, _, rfl, hx, X.cls, X.n3, lk, z⟩
abbrev sOneGuard : Stmt := top ix_one_guard
theorem scOneGuard : FnScope ["web", "sights", "ways", "sight"] ["web"] (defScope sOneGuard) := ⟨rfl, rfl, rfl, by decide +kernel, rfl, by decide +kernel, by decide +kernel⟩
theorem has_one_guard (T : Bn mg) (X : WC K C) (D : DFE K mg "one_guard" sOneGuard ["web"]) (hG : HasGm P w K mg base) (hP_places : HasP P w K mg base 1 C "places" (getSp C "_places")) (hM_kept : HasM P w K mg base CX0 1 C "kept" ["self", "key"] (spKept K C)) (hM_keep : HasM P w K mg base CX0 1 C "keep" ["self", "key", "value"] (spKeep K C)) (hM_sights : HasM P w K mg base CX0 1 C "sights" ["self"] (spSightsOf C)) (hbits_of : Has P w K mg base CX0 1 "bits_of" ["number"] spBitsOf) (h_single_bits : Has P w K mg base CX0 1 "_single_bits" ["sights"] (spSingle K)) : Has P w K mg base CX0 3 "one_guard" ["web"] (spOneGuard K C) := by
  obtain ⟨gGame, fg, fdg, MG, FG, BG⟩ := hG
  refine has_of D scOneGuard (fun vs H Q E h => ?_) (fun f cdv A outer s H vs Q E hr h => ?_)
  · obtain ⟨x, ns, ts, R, rfl, _⟩ := h; rfl
  · obtain ⟨x, ns, ts, R, rfl, sR, hw, l1, l12, k⟩ := h
    have nd := scOneGuard.nd
    refine ⟨_, (pss_cons (ps_if (pt_cmpR op_isN (pe_hM hM_kept X.cls hr (by decide) (pv 0) (pa_cons pe_str pa_nil)) pe_non (by first | exact nomark _ | rfl)) (pss_cons (ps_sv 1 nd (pe_hM0 hM_sights X.cls hr (by decide) (pv 0)))
    (pss_cons (ps_setLc (i := 2) (own := [("sight", 3)]) (g := gName 3) (tt := tYes) rfl nd rfl rfl (sw_true rfl rfl rfl (by decide +kernel)) (pi_sq (pv 1)) (blkOk_by (own := [("sight", 3)]) (N := ["web", "sights", "ways", "sight"]) (sc := defScope sOneGuard) (by decide +kernel)) (fun _ _ _ _ _ => (pg_name (i := 3) nd rfl (by first | exact Or.inl rfl | exact Or.inr rfl))) (fun _ _ _ _ _ => pts_nil) (fun _ _ _ _ _ => (pe_h hbits_of hr (by decide) rfl (pa_cons (pv 3) pa_nil))))
    (pss_one (ps_expr (pe_hM hM_keep X.cls hr (by decide) (pv 0) (pa_cons pe_str (pa_cons (pe_make MG FG (hr.mono (by decide)) rfl gGame BG .nil pass0 (pa_cons (pe_hP hP_places X.cls hr (by decide) (pv 0)) (pa_cons (pe_hP hP_places X.cls hr (by decide) (pv 0)) (pa_cons (pv 2) (pa_cons (pe_h h_single_bits hr (by decide) rfl (pa_cons (pv 1) pa_nil)) (pa_cons (pe_op op_rep (pe_lst (pa_cons (pv 1) pa_nil)) (pe_callB call_len (by rfl) T.z_len (by decide +kernel) (pa_cons (pv 1) pa_nil))) pa_nil)))))) pa_nil))))))) pss_nil)
    (pss_one (ps_ret (pe_hM hM_kept X.cls hr (by decide) (pv 0) (pa_cons pe_str pa_nil))))), ?_⟩
    obtain ⟨dx, tp, sg, kd, fs, hx, lp, ls, lk, no1, no2, no3, htp, hsg, nxk, hc, _⟩ := WebAt.re (R' := R) hw
    have c1 := X.cls
    have hxH := sR _ _ hx
    rcases hc with ⟨hk, ea⟩ | ⟨g, hk, hg, ea⟩
    · have hkH := sR _ _ hk
      refine ⟨_, rfl, x, dx, fs, rfl, hxH, no1, ?_⟩
      refine ⟨x, dx, kd, fs, [], "guard", rfl, hxH, lk, hkH, ?_⟩
      refine ⟨rfl, _, rfl, iteT ?_⟩
      refine ⟨_, rfl, x, dx, fs, rfl, hxH, no3, x, dx, fs, .ref sg, rfl, hxH, ls, ?_⟩
      have hsgH := same_t sR hsg
      refine ⟨_, rfl, sg, _, rfl, .inr hsgH, fun J G ex hG wk L nL => ?_⟩
      refine lc_it wk (fun i H' => Hold (∃ xs : List V, Lv H [] H' [(L, .lst xs)] ∧ RowsNew (upd H L (.lst [])) H' xs ((oneW ns ts).ways.take i))) ⟨[], (Lv.zero H).al nL, .nil⟩ (fun i H' _ p => hG H' (.same p.out.choose_spec.1.sm)) ?_ ?_
      · rintro i y H2 H3 hi ⟨xs, lv, rn⟩ ⟨rfl, hy⟩
        rw [List.getElem?_map] at hy
        cases hp : ns[i]? with
        | none => rw [hp] at hy; cases hy
        | some p =>
        rw [hp] at hy
        cases hy
        have ew : (oneW ns ts).ways[i]? = some (bitsL (sightN ns ts p)) := by show (ns.map _)[i]? = _; rw [List.getElem?_map, hp]; rfl
        refine ⟨rfl, _, rfl, sightN ns ts p, rfl, Nat.lt_of_lt_of_le (sight_lt ns ts p) (Nat.pow_le_pow_right (by decide) (by omega)), fun l H4 s4 nl hl => ?_⟩
        have lv4 := lv.same s4
        have hL4 := lv4.get 0 rfl
        have neL : l ≠ L := fun z => by rw [z, lv.get 0 rfl] at nl; cases nl
        refine ⟨_, hL4, by have := paired_len rn; rw [this, List.length_take, sizeLine_eq]; have : (oneW ns ts).ways.length = ns.length := (List.length_map _); omega, ⟨_, lv4.stE 0 rfl rfl, ?_⟩⟩
        rw [take_next2 ew]
        refine paired_app (Paired.mono (fun v q ⟨c, e, n, z⟩ => ⟨c, e, n, ?_⟩) rn) (.cons ⟨l, rfl, by rw [upd_ne neL]; exact lv.free nl, by rw [upd_ne neL]; exact hl⟩ .nil)
        rw [upd_ne (fun z => by rw [z, upd_same] at n; cases n)]
        exact s4 _ _ z
      · rintro H2 ⟨xs, lv, rn⟩
        rw [List.length_map, show ns.length = (oneW ns ts).ways.length from (by show _ = (ns.map _).length; rw [List.length_map]), List.take_length] at rn
        have s2 := lv.sm
        have hL2 := lv.get 0 rfl
        have hx2 := s2 _ _ hxH
        refine ⟨_, rfl, x, dx, fs, rfl, hx2, no2, ?_⟩
        refine ⟨_, rfl, x, dx, _, rfl, hx2, x, dx, _, _, rfl, hx2, lp, _, rfl, x, dx, _, rfl, hx2, x, dx, _, _, rfl, hx2, lp, _, rfl, _, rfl, sg, _, rfl, .inr (same_t s2 hsgH), by rw [List.length_map]; omega, fun lh H3 s3 nlh hlh => ?_⟩
        rw [List.length_map] at hlh
        refine ⟨_, rfl, sz1, fun y ny => ?_⟩
        generalize he4 : upd H3 y _ = H4
        have s4 : Same H3 H4 := sameE ny he4
        have hy : H4 y = some (.lst [.ref sg]) := by rw [← he4]; exact upd_same
        have s24 := s2.trans (s3.trans s4)
        refine ⟨_, rfl, _, _, rfl, .inr ⟨_, same_t s24 hsgH, rfl⟩, y, _, _, rfl, rfl, hy, by omega, by rw [List.length_map]; omega, by rw [List.length_map, Int.toNat_natCast, sizeLine_eq]; show 1 * _ ≤ _; omega, fun b nb => ?_⟩
        rw [List.length_map, Int.toNat_natCast, flat_one]
        generalize he5 : upd H4 b _ = H5
        have s5 : Same H4 H5 := sameE nb he5
        have hb : H5 b = some (.lst (List.replicate ns.length (.ref sg))) := by rw [← he5]; exact upd_same
        refine fun g dg ng ndg neg => ⟨g, dg, _, _, _, _, _, rfl, upd_same, rfl, ?_⟩
        generalize he6 : upd (upd (upd H5 dg (.own g)) g (.ins (cGame K) dg [])) g _ = H6
        have s6 : Same H5 H6 := by rw [← he6]; exact same_upd (same_upd (same_new ndg) ng) ng
        have hg6 : H6 g = some (.ins (cGame K) dg [("names", .ref tp), ("stands", .ref tp), ("ways", .ref L), ("held", .ref lh), ("steps", .ref b), ("_rounds", .non), ("_rows", .non), ("_standings", .non)]) := by rw [← he6]; exact upd_same
        have s06 : Same H H6 := s24.trans (s5.trans s6)
        have hx6 := s06 _ _ hxH
        have hk6 := s06 _ _ hkH
        refine ⟨x, dx, kd, fs, [], "guard", .ref g, rfl, hx6, lk, hk6, by decide, ?_⟩
        have st := ((Stp.refl sR (fun b hb => areaW_in hw hb)).new s06).put (o := .dK (putK [] (.inr "guard") (.ref g))) (g := kd) (by rw [ea]; exact List.mem_cons_self)
        have nH : ∀ {b : Addr}, H b = none → b ≠ kd := fun {b} h z => by rw [z, hkH] at h; cases h
        have at7 : ∀ {b : Addr} {o : HO}, H b = none → H6 b = some o → upd (grown R H H6) kd (.dK (putK [] (.inr "guard") (.ref g))) b = some o := fun {b o} h e => by rw [upd_ne (nH h)]; exact grown_at h e
        have kp7 : ∀ b o, b ≠ kd → R b = some o → upd (grown R H H6) kd (.dK (putK [] (.inr "guard") (.ref g))) b = some o := fun b o n e => by rw [upd_ne n]; exact grown_up sR _ _ e
        have hk7 : upd (grown R H H6) kd (.dK (putK [] (.inr "guard") (.ref g))) kd = some (.dK [(.inr "guard", .ref g)]) := upd_same
        generalize upd (grown R H H6) kd (.dK (putK [] (.inr "guard") (.ref g))) = R7 at st at7 kp7 hk7
        have kt : ∀ {a : Addr} {ys : List V}, SqT K R a ys → SqT K R7 a ys := fun {a ys} h => by
          rcases h with (h | ⟨o, h⟩) | h
          · exact .inl (.inl (kp7 _ _ (fun z => by rw [z, hk] at h; cases h) h))
          · exact .inl (.inr ⟨o, kp7 _ _ (fun z => by rw [z, hk] at h; cases h) h⟩)
          · exact .inr h
        have ngH : H g = none := free_of (s24.trans s5) ng
        have ga : GameAt K R7 g (oneG ns ts) := by
          refine ⟨dg, tp, tp, L, lh, b, .non, .non, .non, ns.map V.str, xs, List.replicate ns.length (.ref sg), at7 ngH hg6, kt htp, kt htp, std_ones ns, at7 nL ((s3.trans (s4.trans (s5.trans s6))) _ _ hL2), ?_, at7 (free_of s2 nlh) ((s4.trans (s5.trans s6)) _ _ hlh), at7 (free_of s24 nb) (s6 _ _ hb), ?_, .inl rfl, .inl rfl, rfl⟩
          · refine Paired.mono (fun v q ⟨c, e, n, z⟩ => ⟨c, e, at7 ?_ ((s3.trans (s4.trans (s5.trans s6))) _ _ z)⟩) rn
            by_cases q : c = L
            · rw [q, upd_same] at n; cases n
            · rw [upd_ne q] at n; exact n
          · exact rows_rep (l := ns.map (sightN ns ts)) (by rw [List.map_map]; exact kt hsg)
        obtain ⟨_, _, _, kd', fs', hx', _, _, lk', _, _, _, _, _, _, _, mk⟩ := WebAt.re (R' := R7) hw
        rw [hx] at hx'
        cases hx'
        rw [lk] at lk'
        cases lk'
        obtain ⟨hw7, ea7⟩ := mk g (fun b o n _ e => kp7 b o n e) hk7 ga
        have hx7 := st.sub _ _ (kp7 _ _ nxk hx)
        refine ⟨_, rfl, x, dx, fs, rfl, hx7, no1, x, dx, kd, fs, _, "guard", rfl, hx7, lk, upd_same, ?_⟩
        refine k g _ _ st hw7 (fun c hc => ?_) (by rw [ea7]; simp) ga
        rw [ea7] at hc
        rcases List.mem_cons.mp hc with rfl | hc
        · exact .inl (by rw [ea]; exact List.mem_cons_self)
        · exact .inr (by rw [List.mem_singleton.mp hc]; exact ngH)
    · have hkH := sR _ _ hk
      refine ⟨_, rfl, x, dx, fs, rfl, hxH, no1, ?_⟩
      refine ⟨x, dx, kd, fs, _, "guard", rfl, hxH, lk, hkH, ?_⟩
      refine ⟨rfl, _, rfl, iteF ?_⟩
      refine ⟨_, rfl, x, dx, fs, rfl, hxH, no1, ?_⟩
      refine ⟨x, dx, kd, fs, _, "guard", rfl, hxH, lk, hkH, ?_⟩
      exact k g R H (.refl sR fun b hb => areaW_in hw hb) hw (fun b hb => .inl hb) (by rw [ea]; simp) hg
abbrev sTurnsNeeded : Stmt := top ix_turns_needed
theorem scTurnsNeeded : FnScope ["web"] ["web"] (defScope sTurnsNeeded) := ⟨rfl, rfl, rfl, by decide +kernel, rfl, by decide +kernel, by decide +kernel⟩
theorem has_turns_needed (T : Bn mg) (XG : GC K) (D : DFE K mg "turns_needed" sTurnsNeeded ["web"]) (hone_guard : Has P w K mg base CX0 3 "one_guard" ["web"] (spOneGuard K C)) (hM_least : HasM P w K mg base CX0 5 (cGame K) "least" ["self"] (spGLeast K)) : Has P w K mg base CX0 6 "turns_needed" ["web"] (spTurns K C) := by
  refine has_of D scTurnsNeeded (fun vs H Q E h => ?_) (fun f cdv A outer s H vs Q E hr h => ?_)
  · obtain ⟨x, ns, ts, R, rfl, _⟩ := h; rfl
  · obtain ⟨x, ns, ts, R, rfl, sR, hw, l1, l12, k⟩ := h
    have nd := scTurnsNeeded.nd
    refine ⟨_, (pss_one (ps_ret (pe_hM0 hM_least XG.cls hr (by decide) (pe_h hone_guard hr (by decide) rfl (pa_cons (pv 0) pa_nil))))), ?_⟩
    refine ⟨_, rfl, x, ns, ts, R, rfl, sR, hw, l1, l12, fun g R1 H1 st hw1 ar hg ga => ?_⟩
    obtain ⟨dg, fs, h1, _, _, no, _⟩ := ga.ins
    have ok := one_ok (ts := ts) l1 l12
    refine ⟨g, dg, fs, rfl, st.sub _ _ h1, no, g, oneG ns ts, R1, rfl, st.sub, ga, ok, l1, fun m R2 H2 st2 ga2 fm => ?_⟩
    obtain ⟨_, _, _, kd, fs', hx', _, _, lk', _, _, _, _, _, nxk, hc, mk⟩ := WebAt.re (R' := R2) hw1
    have hk1 : R1 kd = some (.dK [(.inr "guard", .ref g)]) ∧ areaW R1 x = [kd, g] := by
      rcases hc with ⟨e, ea⟩ | ⟨g', e, _, ea⟩
      · rw [ea] at hg
        have := List.mem_singleton.mp hg
        rw [this, e] at h1
        cases h1
      · rw [ea] at hg
        rcases List.mem_cons.mp hg with z | z
        · rw [z, e] at h1; cases h1
        · rw [List.mem_singleton.mp z]; exact ⟨e, ea⟩
    have nkg : kd ≠ g := fun z => by have := hk1.1; rw [z, h1] at this; cases this
    obtain ⟨hw2, ea2⟩ := mk g (fun b o _ n e => st2.kp b o (fun z => by
      obtain ⟨dx', v, fs'', h⟩ := game_fs ga
      rw [List.mem_singleton.mp z, h] at e
      exact n _ _ _ (Option.some.inj e).symm) e) (st2.kp _ _ (fun z => nkg (List.mem_singleton.mp z)) hk1.1) ga2
    refine k m R2 H2 (st.more sR st2 (ar g hg)) hw2 (fun b hb => ar b ?_) fm
    rw [hk1.2, ← ea2]; exact hb
end
end Pw

set_option Elab.async false
set_option linter.all false
set_option maxRecDepth 100000
set_option maxHeartbeats 4000000
namespace Pw
open PySem PySem.Spec PyProof.Rows L2 Ct
local macro_rules | `(tactic| wide_line) => `(tactic| repeat ((fail_if_success (with_reducible refine at_while ?_)); (fail_if_success (with_reducible refine at_while1 ?_)); (conv => whnf); first | ((with_reducible refine And.intro ?_ ?_); focus (first | (first | ((with_reducible show (_ : Nat) ≤ _); first | exact sz0 | exact sz1 | exact sz2 | exact sz3 | exact sz4 | exact sz5 | exact sz6 | exact sz7 | exact sz8 | exact sz10 | exact sz11 | exact sz12 | exact sz14 | omega | decide | (simp only [List.length_cons, List.length_nil]; omega)) | ((with_reducible show (_ : Int) ≤ _); first | omega | decide) | ((with_reducible show (_ : Int) < _); first | omega | decide) | ((with_reducible show (_ : Nat) < _); omega)) | ((fail_if_success (with_reducible show (_ : Nat) ≤ _)); (fail_if_success (with_reducible show (_ : Int) ≤ _)); (fail_if_success (with_reducible show (_ : Int) < _)); (fail_if_success (with_reducible show (_ : Nat) < _)); first | exact kv_str _ | exact kv_int _ | rfl | assumption | exact flat_strs _ | exact Lv.get (by assumption) 0 rfl | exact Lv.get (by assumption) 1 rfl | exact Lv.get (by assumption) 2 rfl | exact Lv.get (by assumption) 3 rfl | exact Lv.get (by assumption) 4 rfl | exact Lv.get (by assumption) 5 rfl | exact Lv.get (by assumption) 6 rfl | exact SqL.of (Lv.get (by assumption) 0 rfl) | exact SqL.of (Lv.get (by assumption) 1 rfl) | exact SqL.of (Lv.get (by assumption) 2 rfl) | exact SqL.of (Lv.get (by assumption) 3 rfl) | exact SqL.of (Lv.get (by assumption) 4 rfl) | exact SqL.of (Lv.get (by assumption) 5 rfl) | exact Or.inl (SqL.of (Lv.get (by assumption) 0 rfl)) | exact Or.inl (SqL.of (Lv.get (by assumption) 1 rfl)) | exact Or.inl (SqL.of (Lv.get (by assumption) 2 rfl)) | exact Or.inl (SqL.of (Lv.get (by assumption) 3 rfl)) | exact Or.inl (SqL.of (Lv.get (by assumption) 4 rfl)) | exact Or.inl (SqL.of (Lv.get (by assumption) 5 rfl)) | exact ⟨_, SqL.of (Lv.get (by assumption) 0 rfl)⟩ | exact ⟨_, SqL.of (Lv.get (by assumption) 1 rfl)⟩ | exact ⟨_, SqL.of (Lv.get (by assumption) 2 rfl)⟩ | exact ⟨_, SqL.of (Lv.get (by assumption) 3 rfl)⟩ | exact ⟨_, SqL.of (Lv.get (by assumption) 4 rfl)⟩ | exact ⟨_, SqL.of (Lv.get (by assumption) 5 rfl)⟩ | exact Or.inl ⟨_, SqL.of (Lv.get (by assumption) 0 rfl), rfl⟩ | exact Or.inl ⟨_, SqL.of (Lv.get (by assumption) 1 rfl), rfl⟩ | exact Or.inl ⟨_, SqL.of (Lv.get (by assumption) 2 rfl), rfl⟩ | exact Or.inl ⟨_, SqL.of (Lv.get (by assumption) 3 rfl), rfl⟩ | exact Or.inl ⟨_, SqL.of (Lv.get (by assumption) 4 rfl), rfl⟩ | exact Or.inl ⟨_, SqL.of (Lv.get (by assumption) 5 rfl), rfl⟩ | exact Or.inl ⟨rfl, _, SqL.of (Lv.get (by assumption) 0 rfl)⟩ | exact Or.inl ⟨rfl, _, SqL.of (Lv.get (by assumption) 1 rfl)⟩ | exact Or.inl ⟨rfl, _, SqL.of (Lv.get (by assumption) 2 rfl)⟩ | exact Or.inl ⟨rfl, _, SqL.of (Lv.get (by assumption) 3 rfl)⟩ | exact Or.inl ⟨rfl, _, SqL.of (Lv.get (by assumption) 4 rfl)⟩ | exact Or.inl ⟨rfl, _, SqL.of (Lv.get (by assumption) 5 rfl)⟩ | exact Or.inr (SqT.of (Lv.get (by assumption) 0 rfl)) | exact Or.inr (SqT.of (Lv.get (by assumption) 1 rfl)) | exact Or.inr (SqT.of (Lv.get (by assumption) 2 rfl)) | exact Or.inr (SqT.of (Lv.get (by assumption) 3 rfl)) | exact SqT.of (Lv.get (by assumption) 0 rfl) | exact SqT.of (Lv.get (by assumption) 1 rfl) | exact SqT.of (Lv.get (by assumption) 2 rfl) | exact dgetN (Lv.get (by assumption) 0 rfl) (by assumption) | exact dgetN (Lv.get (by assumption) 1 rfl) (by assumption) | exact dgetN (Lv.get (by assumption) 2 rfl) (by assumption) | exact dgetN (Lv.get (by assumption) 3 rfl) (by assumption) | exact dgetN (Lv.get (by assumption) 4 rfl) (by assumption) | exact Or.inl (by assumption) | exact Or.inr (by assumption) | decide | ((with_reducible show _ ∧ _); omega)))) | ((fail_if_success (with_reducible apply @Exists.intro (Nat → _))); (with_reducible apply Exists.intro))))
local macro_rules
  | `(tactic| wide_line with al $lv:ident $l:ident $nl:ident $H:ident $lv1:ident $s1:ident) => `(tactic| (intro $l:ident $nl:ident; generalize he : upd _ _ _ = $H:ident; have $lv1:ident := Lv.alE $lv $nl he; have $s1:ident := sameE $nl he; clear he; (try simp only [List.set_cons_zero, List.set_cons_succ] at $lv1:ident)))
  | `(tactic| wide_line with alx $lv:ident $nl:ident $H:ident $lv1:ident $s1:ident) => `(tactic| (generalize he : upd _ _ _ = $H:ident; have $lv1:ident := Lv.alE $lv $nl he; have $s1:ident := sameE $nl he; clear he; (try simp only [List.set_cons_zero, List.set_cons_succ] at $lv1:ident)))
  | `(tactic| wide_line with sts $lv:ident $i:num $H:ident $lv1:ident $s0:ident $np:ident $s1:ident) => `(tactic| (generalize he : upd _ _ _ = $H:ident; have $lv1:ident := Lv.stE $lv $i rfl he; have $s1:ident := sameN $s0 $np he; clear he; (try simp only [List.set_cons_zero, List.set_cons_succ] at $lv1:ident)))
  | `(tactic| wide_line with stx $lv:ident $H:ident $lv1:ident $d1:ident) => `(tactic| (generalize he : upd _ _ _ = $H:ident; have $lv1:ident := Lv.stE $lv 0 rfl he; have $d1:ident := SameD.storeE (Lv.get $lv 0 rfl) he; clear he; (try simp only [List.set_cons_zero, List.set_cons_succ] at $lv1:ident)))
  | `(tactic| wide_line with st $lv:ident $i:num $H:ident $lv1:ident) => `(tactic| (generalize he : upd _ _ _ = $H:ident; have $lv1:ident := Lv.stE $lv $i rfl he; clear he; (try simp only [List.set_cons_zero, List.set_cons_succ] at $lv1:ident)))
  | `(tactic| wide_line with stk $lv:ident $i:num $H:ident $lv1:ident $k1:ident) => `(tactic| (generalize he : upd _ _ _ = $H:ident; have $lv1:ident := Lv.stE $lv $i rfl he; have $k1:ident := KeepT.st (Lv.get $lv $i rfl) he; clear he; (try simp only [List.set_cons_zero, List.set_cons_succ] at $lv1:ident)))
/-! the text of a plan, read back -/
theorem app_cps (x y : Str) : (x ++ y).cps.toList = x.cps.toList ++ y.cps.toList := Array.toList_append
theorem join_le2 {s : Str} {m : Nat} : ∀ {l : List Str}, (∀ z ∈ l, z.length ≤ m) → (Str.join s l).length ≤ l.length * (m + s.length)
  | [], _ => Nat.zero_le _
  | [a], h => by
    have := h a List.mem_cons_self
    show a.length ≤ 1 * _
    omega
  | a :: b :: l, h => by
    have ih := join_le2 (s := s) fun z hz => h z (List.mem_cons_of_mem _ hz)
    have := h a List.mem_cons_self
    have e : (Str.join s (a :: b :: l)).length = a.length + s.length + (Str.join s (b :: l)).length := by
      show ((a ++ s) ++ Str.join s (b :: l)).length = _
      rw [strLen_append, strLen_append]
    rw [e, List.length_cons, Nat.succ_mul]
    omega
theorem nl_join : ∀ {l : List Str}, (∀ z ∈ l, 10 ∉ z.cps.toList) → 10 ∉ (Str.join SP l).cps.toList
  | [], _ => fun z => nomatch z
  | [a], h => h a List.mem_cons_self
  | a :: b :: l, h => by
    show 10 ∉ (((a ++ SP) ++ Str.join SP (b :: l)) : Str).cps.toList
    rw [app_cps, app_cps, List.mem_append, List.mem_append]
    rintro ((z | z) | z)
    · exact h a List.mem_cons_self z
    · exact absurd z (of_decide_eq_true (by decide +kernel))
    · exact nl_join (fun z hz => h z (List.mem_cons_of_mem _ hz)) z
theorem name_sp {x : Str} (h : okName x = true) : 32 ∉ x.cps.toList := fun z => by
  unfold okName okSigns at h
  rw [Bool.and_eq_true] at h
  have := of_decide_eq_true (List.all_eq_true.mp h.2 32 z)
  have hl : LT.cps.toList.all (fun c => decide (c ≠ 32)) = true := by decide +kernel
  exact of_decide_eq_true (List.all_eq_true.mp hl 32 this) rfl
theorem name_nl {x : Str} (h : okName x = true) : 10 ∉ x.cps.toList := fun z => by
  unfold okName okSigns at h
  rw [Bool.and_eq_true] at h
  have := of_decide_eq_true (List.all_eq_true.mp h.2 10 z)
  have hl : LT.cps.toList.all (fun c => decide (c ≠ 10)) = true := by decide +kernel
  exact of_decide_eq_true (List.all_eq_true.mp hl 10 this) rfl
theorem split_P {p : Str} (h : okName p = true) : Txt.split (lineP p) SP = (["place", p] : List Str) := by
  unfold lineP
  rw [← txt_join]
  exact TL.split_join (y := SP) (s := 32) (S := []) rfl (by decide +kernel) (List.cons_ne_nil _ _) (fun q hq => by
    simp only [List.mem_cons, List.not_mem_nil, or_false] at hq
    rcases hq with rfl | rfl
    · exact of_decide_eq_true (by decide +kernel)
    · exact name_sp h)
theorem split_T {t : Str × Str} (h1 : okName t.1 = true) (h2 : okName t.2 = true) : Txt.split (lineT t) SP = (["tie", t.1, t.2] : List Str) := by
  unfold lineT
  rw [← txt_join]
  exact TL.split_join (y := SP) (s := 32) (S := []) rfl (by decide +kernel) (List.cons_ne_nil _ _) (fun q hq => by
    simp only [List.mem_cons, List.not_mem_nil, or_false] at hq
    rcases hq with rfl | rfl | rfl
    · exact of_decide_eq_true (by decide +kernel)
    · exact name_sp h1
    · exact name_sp h2)
theorem read_T {ns : List Str} : ∀ {us ts : List (Str × Str)} {n : Nat}, (∀ t ∈ us, t.1 ∈ ns ∧ t.2 ∈ ns ∧ t.1 ≠ t.2) → (∀ q ∈ ns, okName q = true) → ((ts ++ us).map pairP).Nodup → readT n ns ts (us.map lineT) = .inr (ns, ts ++ us)
  | [], ts, n, _, _, _ => by rw [List.map_nil, List.append_nil]; rfl
  | t :: us, ts, n, h, ok, d => by
    obtain ⟨a, b, c⟩ := h t List.mem_cons_self
    have nt : pairP (t.1, t.2) ∉ ts.map pairP := fun z => by
      rw [List.map_append, List.map_cons] at d
      exact (List.nodup_append.mp d).2.2 _ z _ List.mem_cons_self rfl
    have e : stepT ns ts (lineT t) = some (ns, ts ++ [t]) := by
      unfold stepT
      rw [split_T (ok _ a) (ok _ b)]
      dsimp only
      rw [if_pos ⟨rfl, a, b, c, nt⟩]
    rw [List.map_cons, readT, e]
    dsimp only
    have := read_T (us := us) (ts := ts ++ [t]) (n := n + 1) (fun u hu => h u (List.mem_cons_of_mem _ hu)) ok (by rw [List.append_assoc]; exact d)
    rw [this, List.append_assoc]
    rfl
theorem read_P {us : List (Str × Str)} : ∀ {ms ns : List Str} {n : Nat}, (ns ++ ms).length ≤ 12 → (ns ++ ms).Nodup → (∀ q ∈ ns ++ ms, okName q = true) → (∀ t ∈ us, t.1 ∈ ns ++ ms ∧ t.2 ∈ ns ++ ms ∧ t.1 ≠ t.2) → (us.map pairP).Nodup → readT n ns [] (ms.map lineP ++ us.map lineT) = .inr (ns ++ ms, us)
  | [], ns, n, _, _, ok, h, d => by
    rw [List.append_nil] at *
    rw [List.map_nil, List.nil_append]
    exact read_T (ts := []) h ok d
  | m :: ms, ns, n, l, nd, ok, h, d => by
    have nm : m ∉ ns := fun z => (List.nodup_append.mp nd).2.2 _ z _ List.mem_cons_self rfl
    have e : stepT ns [] (lineP m) = some (ns ++ [m], []) := by
      unfold stepT
      rw [split_P (ok m (List.mem_append_right _ List.mem_cons_self))]
      dsimp only
      rw [if_pos ⟨rfl, rfl, by rw [List.length_append, List.length_cons] at l; omega, ok m (List.mem_append_right _ List.mem_cons_self), nm⟩]
    have ea : ns ++ [m] ++ ms = ns ++ m :: ms := by rw [List.append_assoc]; rfl
    rw [List.map_cons, List.cons_append, readT, e]
    dsimp only
    have := read_P (us := us) (ms := ms) (ns := ns ++ [m]) (n := n + 1) (by rw [ea]; exact l) (by rw [ea]; exact nd) (by rw [ea]; exact ok) (by rw [ea]; exact h) d
    rw [this, ea]
/-- the text of a plan is read as the plan -/
theorem read_plan {n : Nat} {ns : List Str} {ts : List (Str × Str)} (pk : PlanOk n ns ts) (hn : n ≤ 12) : readT 1 [] [] (Txt.split (textOf ns ts) NL) = .inr (ns, ts) := by
  have hs : Txt.split (textOf ns ts) NL = ns.map lineP ++ ts.map lineT := by
    unfold textOf
    rw [← txt_join]
    refine TL.split_join (y := NL) (s := 10) (S := []) rfl (by decide +kernel) (fun z => ?_) (fun q hq => ?_)
    · have := congrArg List.length z
      have := pk.one
      rw [List.length_append, List.length_map, List.length_nil] at *
      omega
    · have nq : ∀ {l : List Str}, (∀ z ∈ l, 10 ∉ z.cps.toList) → 10 ∉ (Str.join SP l).cps.toList := fun {l} h z => by
        exact nl_join h z
      rcases List.mem_append.mp hq with hq | hq
      · obtain ⟨p, hp, rfl⟩ := List.mem_map.mp hq
        refine nq fun z hz => ?_
        simp only [List.mem_cons, List.not_mem_nil, or_false] at hz
        rcases hz with rfl | rfl
        · exact of_decide_eq_true (by decide +kernel)
        · exact name_nl (pk.nm _ hp)
      · obtain ⟨t, ht, rfl⟩ := List.mem_map.mp hq
        obtain ⟨a, b, _⟩ := pk.tie t ht
        refine nq fun z hz => ?_
        simp only [List.mem_cons, List.not_mem_nil, or_false] at hz
        rcases hz with rfl | rfl | rfl
        · exact of_decide_eq_true (by decide +kernel)
        · exact name_nl (pk.nm _ a)
        · exact name_nl (pk.nm _ b)
  rw [hs]
  exact read_P (ns := []) (by rw [List.nil_append]; exact Nat.le_trans pk.most hn) pk.nd pk.nm pk.tie pk.dif

/-- signs that can stand in data -/
def sgn (x : Str) : Prop := PyData.strOk x = true
theorem sgn_iff {x : Str} : sgn x ↔ ∀ c ∈ x.cps.toList, c < 0x110000 := by
  unfold sgn PyData.strOk
  rw [← Array.all_toList, List.all_eq_true]
  simp
theorem sgn_app {x y : Str} : sgn (x ++ y) ↔ sgn x ∧ sgn y := by
  rw [sgn_iff, sgn_iff, sgn_iff, app_cps]
  constructor
  · exact fun h => ⟨fun c hc => h c (List.mem_append.mpr (.inl hc)), fun c hc => h c (List.mem_append.mpr (.inr hc))⟩
  · exact fun h c hc => (List.mem_append.mp hc).elim (h.1 c) (h.2 c)
theorem join_sgn {s : Str} (hs : sgn s) : ∀ {l : List Str}, (∀ z ∈ l, sgn z) → sgn (Str.join s l)
  | [], _ => by show PyData.strOk Str.empty = true; decide +kernel
  | [a], h => h a List.mem_cons_self
  | a :: b :: l, h => by
    show sgn ((a ++ s) ++ Str.join s (b :: l))
    rw [sgn_app, sgn_app]
    exact ⟨⟨h a List.mem_cons_self, hs⟩, join_sgn hs fun z hz => h z (List.mem_cons_of_mem _ hz)⟩
theorem text_len {n : Nat} {ns : List Str} {ts : List (Str × Str)} (pk : PlanOk n ns ts) (hn : n ≤ 12) : ((ns.map lineP ++ ts.map lineT).map (·.length)).sum + (ns.map lineP ++ ts.map lineT).length * NL.length ≤ 16777216 ∧ (textOf ns ts).length ≤ 16000000 ∧ sgn (textOf ns ts) := by
  have nlen : ∀ q ∈ ns, q.length ≤ 8 := fun q hq => name_len8 (pk.nm q hq)
  have e6 : (("place " : String) : Str).length = 6 := rfl
  have e4 : (("tie " : String) : Str).length = 4 := rfl
  have e1 : ((" " : String) : Str).length = 1 := rfl
  have e0 : Str.empty.length = 0 := rfl
  have eN : NL.length = 1 := rfl
  have bd : ∀ z ∈ ns.map lineP ++ ts.map lineT, z.length ≤ 30 := fun z hz => by
    rcases List.mem_append.mp hz with hz | hz
    · obtain ⟨q, hq, rfl⟩ := List.mem_map.mp hz
      have := nlen q hq
      rw [← lineP_eq, strLen_append, strLen_append, e6, e0]; omega
    · obtain ⟨u, hu, rfl⟩ := List.mem_map.mp hz
      obtain ⟨m1, m2, _⟩ := pk.tie u hu
      have l1 := nlen _ m1
      have l2 := nlen _ m2
      rw [show lineT u = lineT (u.1, u.2) from rfl, ← lineT_eq, strLen_append, strLen_append, strLen_append, strLen_append, e4, e1, e0]; omega
  have le : (ns.map lineP ++ ts.map lineT).length ≤ 87 := by
    have := pk.most
    have := pk.few
    rw [List.length_append, List.length_map, List.length_map]
    omega
  have jl := join_le2 (s := NL) bd
  have sl := sum_le bd
  rw [eN] at jl ⊢
  refine ⟨by omega, by unfold textOf; omega, join_sgn (by show PyData.strOk _ = true; decide +kernel) fun z hz => ?_⟩
  have s0 : sgn SP := by show PyData.strOk _ = true; decide +kernel
  rcases List.mem_append.mp hz with hz | hz
  · obtain ⟨q, hq, rfl⟩ := List.mem_map.mp hz
    refine join_sgn s0 fun z hz => ?_
    simp only [List.mem_cons, List.not_mem_nil, or_false] at hz
    rcases hz with rfl | rfl
    · show PyData.strOk _ = true; decide +kernel
    · exact strOk_of (pk.nm _ hq)
  · obtain ⟨u, hu, rfl⟩ := List.mem_map.mp hz
    obtain ⟨m1, m2, _⟩ := pk.tie u hu
    refine join_sgn s0 fun z hz => ?_
    simp only [List.mem_cons, List.not_mem_nil, or_false] at hz
    rcases hz with rfl | rfl | rfl
    · show PyData.strOk _ = true; decide +kernel
    · exact strOk_of (pk.nm _ m1)
    · exact strOk_of (pk.nm _ m2)
theorem lineP_of (p : Str) : ("place " : Str) ++ p = lineP p := by
  rw [← lineP_eq]
  congr 1
theorem lineT_of (a b : Str) : ((("tie " : Str) ++ a) ++ (" " : Str)) ++ b = lineT (a, b) := by
  rw [← lineT_eq]
  congr 3
theorem shaped_txts {l : List Str} (h : ∀ q ∈ l, sgn q) : SeqAt.shaped (.list (l.map PyData.str)) = true := shaped_list fun d hd => by
  obtain ⟨q, hq, rfl⟩ := List.mem_map.mp hd
  exact ⟨by rw [PyData.canLay0]; exact h q hq, by rw [PyData.depth]; decide⟩
theorem shaped_tup {ds : List PyData} (h : SeqAt.shaped (.list ds) = true) : SeqAt.shaped (.tuple ds) = true := by
  unfold SeqAt.shaped at h ⊢
  rw [Bool.and_eq_true, decide_eq_true_eq] at h ⊢
  refine ⟨?_, ?_⟩
  · have := h.1
    simp only [PyData.canLay0] at this ⊢
    exact this
  · have := h.2
    simp only [PyData.depth] at this ⊢
    exact this
theorem shaped_names {ns : List Str} (h : ∀ x ∈ ns, okName x = true) : SeqAt.shaped (.tuple (ns.map PyData.str)) = true := shaped_tup (shaped_row h)
theorem eqv_refl' {d : PyData} (h : SeqAt.shaped d = true) : PyData.eqv d d = true := SeqAt.eqv_refl _ (SeqAt.canLay_of_shaped h)
/-- web.places == plan[0] and web.ties == plan[1] and web == Web(..) -/
def spLawKept (K : PySem.W.Frag) (C : Addr) : Sp := fun vs H Q _ => ∃ (x t : Addr) (n : Nat) (ns : List Str) (ts : List (Str × Str)), vs = [.ref x, .ref t] ∧ WebAt K C H x ns ts ∧ PlanAt K H t ns ts ∧ PlanOk n ns ts ∧ n ≤ 12 ∧ ∀ H', Same H H' → Q (.bl true) H'
section
variable {P : Program} {w : World} {K : PySem.W.Frag} {mg : Str → Option Value} {base : Heap} {C : Addr}
abbrev sLawKept : Stmt := top ix_law_kept
theorem scLawKept : FnScope ["web", "plan"] ["web", "plan"] (defScope sLawKept) := ⟨rfl, rfl, rfl, by decide +kernel, rfl, by decide +kernel, by decide +kernel⟩
theorem has_law_kept (T : Bn mg) (X : WC K C) (I : WI K C) (nf : PySem.W.notFirst K C (.ref C) = true) (D : DFE K mg "_law_kept" sLawKept ["web", "plan"]) (hP_places : HasP P w K mg base 1 C "places" (getSp C "_places")) (hP_ties : HasP P w K mg base 1 C "ties" (getSp C "_ties")) (hQ : HasEq2 P w K mg base C) (h_law_web : Has P w K mg base CX0 6 "_law_web" ["plan"] (spWebOf K C)) : Has P w K mg base CX0 7 "_law_kept" ["web", "plan"] (spLawKept K C) := by
  refine has_of D scLawKept (fun vs H Q E h => ?_) (fun f cdv A outer s H vs Q E hr h => ?_)
  · obtain ⟨x, t, n, ns, ts, rfl, _⟩ := h; rfl
  · obtain ⟨x, t, n, ns, ts, rfl, hw, hp, pk, hn, k⟩ := h
    have nd := scLawKept.nd
    refine ⟨_, (pss_one (ps_ret (pe_and (pe_cmpR (op_eqD hr.units) (pe_hP hP_places X.cls hr (by decide) (pv 0)) (pe_ix ix_tup (pv 1) pe_int (fun _ _ => rfl)) (by first | exact nomark _ | rfl)) (pe_and (pe_cmpR (op_eqD hr.units) (pe_hP hP_ties X.cls hr (by decide) (pv 0)) (pe_ix ix_tup (pv 1) pe_int (fun _ _ => rfl)) (by first | exact nomark _ | rfl)) (pe_one (pe_cmpR (op_eqWW (K := K) rfl hQ X I hr (by decide) nf) (pv 0) (pe_h h_law_web hr (by decide) rfl (pa_cons (pv 1) pa_nil)) (by first | exact nomark _ | rfl))))))), ?_⟩
    have gd := pk.good
    have okt : ∀ u ∈ ts, okTie u := fun u hu => ⟨pk.nm _ (pk.tie u hu).1, pk.nm _ (pk.tie u hu).2.1⟩
    obtain ⟨tn, tt, xs, h1, h2, h3, h4⟩ := hp
    obtain ⟨⟨dx, tp, ttw, sg, sn, sp, sq, rk, txs, hx, htp, htt, hts, _⟩⟩ := id hw
    refine ⟨_, rfl, x, dx, _, rfl, hx, x, dx, _, _, rfl, hx, rfl, _, rfl, t, _, 0, .ref tn, rfl, rfl, h1, rfl, .tuple (ns.map PyData.str), .tuple (ns.map PyData.str), .tup htp (dp_strs _), .tup h2 (dp_strs _), shaped_names pk.nm, shaped_names pk.nm, ?_⟩
    rw [eqv_refl' (shaped_names pk.nm)]
    refine ⟨_, rfl, iteT ⟨_, rfl, x, dx, _, rfl, hx, x, dx, _, _, rfl, hx, rfl, _, rfl, t, _, 1, .ref tt, rfl, rfl, h1, rfl, .tuple (ts.map tieDat), .tuple (ts.map tieDat), .tup htt (dp_ties hts), .tup h3 (dp_ties h4), shaped_tup (shaped_ties okt), shaped_tup (shaped_ties okt), ?_⟩⟩
    rw [eqv_refl' (shaped_tup (shaped_ties okt))]
    refine ⟨_, rfl, iteT ⟨_, rfl, _, rfl, t, n, ns, ts, rfl, ⟨tn, tt, xs, h1, h2, h3, h4⟩, pk, hn, fun y H2 s2 ny hy => ?_⟩⟩
    refine ⟨x, y, ns, ns, ts, ts, rfl, rfl, hw.same s2, hy.web.same noLst_sub, gd, gd, ?_⟩
    rw [eqW_self gd]
    exact k H2 s2
end
end Pw

set_option Elab.async false
set_option linter.all false
set_option maxRecDepth 100000
set_option maxHeartbeats 4000000
namespace Pw
open PySem PySem.Spec PyProof.Rows L2 Ct
local macro_rules | `(tactic| wide_line) => `(tactic| repeat ((fail_if_success (with_reducible refine at_while ?_)); (fail_if_success (with_reducible refine at_while1 ?_)); (conv => whnf); first | ((with_reducible refine And.intro ?_ ?_); focus (first | (first | ((with_reducible show (_ : Nat) ≤ _); first | exact sz0 | exact sz1 | exact sz2 | exact sz3 | exact sz4 | exact sz5 | exact sz6 | exact sz7 | exact sz8 | exact sz10 | exact sz11 | exact sz12 | exact sz14 | omega | decide | (simp only [List.length_cons, List.length_nil]; omega)) | ((with_reducible show (_ : Int) ≤ _); first | omega | decide) | ((with_reducible show (_ : Int) < _); first | omega | decide) | ((with_reducible show (_ : Nat) < _); omega)) | ((fail_if_success (with_reducible show (_ : Nat) ≤ _)); (fail_if_success (with_reducible show (_ : Int) ≤ _)); (fail_if_success (with_reducible show (_ : Int) < _)); (fail_if_success (with_reducible show (_ : Nat) < _)); first | exact kv_str _ | exact kv_int _ | rfl | assumption | exact flat_strs _ | exact Lv.get (by assumption) 0 rfl | exact Lv.get (by assumption) 1 rfl | exact Lv.get (by assumption) 2 rfl | exact Lv.get (by assumption) 3 rfl | exact Lv.get (by assumption) 4 rfl | exact Lv.get (by assumption) 5 rfl | exact Lv.get (by assumption) 6 rfl | exact SqL.of (Lv.get (by assumption) 0 rfl) | exact SqL.of (Lv.get (by assumption) 1 rfl) | exact SqL.of (Lv.get (by assumption) 2 rfl) | exact SqL.of (Lv.get (by assumption) 3 rfl) | exact SqL.of (Lv.get (by assumption) 4 rfl) | exact SqL.of (Lv.get (by assumption) 5 rfl) | exact Or.inl (SqL.of (Lv.get (by assumption) 0 rfl)) | exact Or.inl (SqL.of (Lv.get (by assumption) 1 rfl)) | exact Or.inl (SqL.of (Lv.get (by assumption) 2 rfl)) | exact Or.inl (SqL.of (Lv.get (by assumption) 3 rfl)) | exact Or.inl (SqL.of (Lv.get (by assumption) 4 rfl)) | exact Or.inl (SqL.of (Lv.get (by assumption) 5 rfl)) | exact ⟨_, SqL.of (Lv.get (by assumption) 0 rfl)⟩ | exact ⟨_, SqL.of (Lv.get (by assumption) 1 rfl)⟩ | exact ⟨_, SqL.of (Lv.get (by assumption) 2 rfl)⟩ | exact ⟨_, SqL.of (Lv.get (by assumption) 3 rfl)⟩ | exact ⟨_, SqL.of (Lv.get (by assumption) 4 rfl)⟩ | exact ⟨_, SqL.of (Lv.get (by assumption) 5 rfl)⟩ | exact Or.inl ⟨_, SqL.of (Lv.get (by assumption) 0 rfl), rfl⟩ | exact Or.inl ⟨_, SqL.of (Lv.get (by assumption) 1 rfl), rfl⟩ | exact Or.inl ⟨_, SqL.of (Lv.get (by assumption) 2 rfl), rfl⟩ | exact Or.inl ⟨_, SqL.of (Lv.get (by assumption) 3 rfl), rfl⟩ | exact Or.inl ⟨_, SqL.of (Lv.get (by assumption) 4 rfl), rfl⟩ | exact Or.inl ⟨_, SqL.of (Lv.get (by assumption) 5 rfl), rfl⟩ | exact Or.inl ⟨rfl, _, SqL.of (Lv.get (by assumption) 0 rfl)⟩ | exact Or.inl ⟨rfl, _, SqL.of (Lv.get (by assumption) 1 rfl)⟩ | exact Or.inl ⟨rfl, _, SqL.of (Lv.get (by assumption) 2 rfl)⟩ | exact Or.inl ⟨rfl, _, SqL.of (Lv.get (by assumption) 3 rfl)⟩ | exact Or.inl ⟨rfl, _, SqL.of (Lv.get (by assumption) 4 rfl)⟩ | exact Or.inl ⟨rfl, _, SqL.of (Lv.get (by assumption) 5 rfl)⟩ | exact Or.inr (SqT.of (Lv.get (by assumption) 0 rfl)) | exact Or.inr (SqT.of (Lv.get (by assumption) 1 rfl)) | exact Or.inr (SqT.of (Lv.get (by assumption) 2 rfl)) | exact Or.inr (SqT.of (Lv.get (by assumption) 3 rfl)) | exact SqT.of (Lv.get (by assumption) 0 rfl) | exact SqT.of (Lv.get (by assumption) 1 rfl) | exact SqT.of (Lv.get (by assumption) 2 rfl) | exact dgetN (Lv.get (by assumption) 0 rfl) (by assumption) | exact dgetN (Lv.get (by assumption) 1 rfl) (by assumption) | exact dgetN (Lv.get (by assumption) 2 rfl) (by assumption) | exact dgetN (Lv.get (by assumption) 3 rfl) (by assumption) | exact dgetN (Lv.get (by assumption) 4 rfl) (by assumption) | exact Or.inl (by assumption) | exact Or.inr (by assumption) | decide | ((with_reducible show _ ∧ _); omega)))) | ((fail_if_success (with_reducible apply @Exists.intro (Nat → _))); (with_reducible apply Exists.intro))))
local macro_rules
  | `(tactic| wide_line with al $lv:ident $l:ident $nl:ident $H:ident $lv1:ident $s1:ident) => `(tactic| (intro $l:ident $nl:ident; generalize he : upd _ _ _ = $H:ident; have $lv1:ident := Lv.alE $lv $nl he; have $s1:ident := sameE $nl he; clear he; (try simp only [List.set_cons_zero, List.set_cons_succ] at $lv1:ident)))
  | `(tactic| wide_line with alx $lv:ident $nl:ident $H:ident $lv1:ident $s1:ident) => `(tactic| (generalize he : upd _ _ _ = $H:ident; have $lv1:ident := Lv.alE $lv $nl he; have $s1:ident := sameE $nl he; clear he; (try simp only [List.set_cons_zero, List.set_cons_succ] at $lv1:ident)))
  | `(tactic| wide_line with sts $lv:ident $i:num $H:ident $lv1:ident $s0:ident $np:ident $s1:ident) => `(tactic| (generalize he : upd _ _ _ = $H:ident; have $lv1:ident := Lv.stE $lv $i rfl he; have $s1:ident := sameN $s0 $np he; clear he; (try simp only [List.set_cons_zero, List.set_cons_succ] at $lv1:ident)))
  | `(tactic| wide_line with stx $lv:ident $H:ident $lv1:ident $d1:ident) => `(tactic| (generalize he : upd _ _ _ = $H:ident; have $lv1:ident := Lv.stE $lv 0 rfl he; have $d1:ident := SameD.storeE (Lv.get $lv 0 rfl) he; clear he; (try simp only [List.set_cons_zero, List.set_cons_succ] at $lv1:ident)))
  | `(tactic| wide_line with st $lv:ident $i:num $H:ident $lv1:ident) => `(tactic| (generalize he : upd _ _ _ = $H:ident; have $lv1:ident := Lv.stE $lv $i rfl he; clear he; (try simp only [List.set_cons_zero, List.set_cons_succ] at $lv1:ident)))
  | `(tactic| wide_line with stk $lv:ident $i:num $H:ident $lv1:ident $k1:ident) => `(tactic| (generalize he : upd _ _ _ = $H:ident; have $lv1:ident := Lv.stE $lv $i rfl he; have $k1:ident := KeepT.st (Lv.get $lv $i rfl) he; clear he; (try simp only [List.set_cons_zero, List.set_cons_succ] at $lv1:ident)))
theorem near_val {l : Str → Addr} {p : Str} : ∀ {ns : List Str}, p ∈ ns → valV (ns.map fun q => ((Sum.inr q : Key), V.ref (l q))) (.inr p) = some (.ref (l p))
  | q :: ns, h => by
    rw [List.map_cons]
    by_cases c : q = p
    · rw [valV_pos (p := ((Sum.inr q : Key), V.ref (l q))) (show (Sum.inr q : Key) = Sum.inr p from congrArg _ c), c]
    · rw [valV_neg (p := ((Sum.inr q : Key), V.ref (l q))) (fun z => c (Sum.inr.inj z))]
      exact near_val ((List.mem_cons.mp h).resolve_left (fun z => c z.symm))
def spLaw (K : PySem.W.Frag) : Sp := fun vs H Q _ => ∃ (a : Addr) (ns : List Int), vs = [.ref a] ∧ Only H ∧ SqL K H a (ns.map V.int) ∧ ns.length ≤ 63 ∧ (∀ z ∈ ns, Builtin.Int.intBits z ≤ 1048576) ∧ ∀ H', Q (.bl true) H'
section
variable {P : Program} {w : World} {K : PySem.W.Frag} {mg : Str → Option Value} {base : Heap} {C CP CS CT CN CB : Addr}
abbrev sLaw : Stmt := top ix_law
theorem scLaw : FnScope ["script", "start", "source", "turn", "plan", "web", "lines", "place", "tie", "text", "told", "near"] ["script"] (defScope sLaw) := ⟨rfl, rfl, rfl, by decide +kernel, rfl, by decide +kernel, by decide +kernel⟩
theorem has_law (T : Bn mg) (X : WC K C) {f : Addr} {fd : FuncData} (D : Fun K "law" "law" sLaw f fd) (h_law_source : Has P w K mg base CX0 1 "_law_source" ["script", "start"] (spSource K)) (h_law_plan : Has P w K mg base CX0 5 "_law_plan" ["source", "most"] spPlan) (h_law_web : Has P w K mg base CX0 6 "_law_web" ["plan"] (spWebOf K C))
    (hread_web : HasR P w K mg base 6 "read_web" ["text"] (spReadWeb K C CB)) (hweb_text : Has P w K mg base CX0 3 "web_text" ["web"] (spWebText K C)) (hQ : HasEq2 P w K mg base C) (hP_places : HasP P w K mg base 1 C "places" (getSp C "_places")) (hP_ties : HasP P w K mg base 1 C "ties" (getSp C "_ties"))
    (hM_without : HasM P w K mg base (L2.CX P w) 6 C "without" ["self", "places"] (spWithout K C CP)) (hM_parts : HasM P w K mg base CX0 2 C "parts" ["self"] (spParts C K)) (hM_sees : HasM P w K mg base (L2.CX P w) 5 C "sees" ["self", "place"] (spSees K C CN)) (h_law_kept : Has P w K mg base CX0 7 "_law_kept" ["web", "plan"] (spLawKept K C))
    (h_law_near : Has P w K mg base CX0 1 "_law_near" ["plan"] (spNear K)) (hturns_needed : Has P w K mg base CX0 6 "turns_needed" ["web"] (spTurns K C)) : GFn P w K mg base CX0 8 f fd ["script"] (spLaw K) := by
  refine law_of D scLaw (fun vs H Q E h => ?_) (fun cdv A outer s H vs Q E gd hr h => ?_)
  · obtain ⟨a, ns, rfl, _⟩ := h; rfl
  · obtain ⟨a, zs0, rfl, on, hS, hlen, hbits, k⟩ := h
    have nd := scLaw.nd
    refine ⟨_, (pss_cons (ps_for PassesOwn.never rfl (pi_range1 rfl T.z_range (pa_cons (pe_callB (call_max2 rfl) (by rfl) T.z_max (by decide +kernel) (pa_cons pe_int (pa_cons (pe_callB (call_min2 rfl) (by rfl) T.z_min (by decide +kernel) (pa_cons pe_int (pa_cons (pe_callB (call_len) (by rfl) T.z_len (by decide +kernel) (pa_cons (pv 0) pa_nil)) pa_nil))) pa_nil))) pa_nil)) (pg_name (i := 1) nd rfl (by first | exact Or.inl rfl | exact Or.inr rfl)) (pss_cons (ps_sv 2 nd (pe_h h_law_source hr (by decide) rfl (pa_cons (pv 0) (pa_cons (pv 1) pa_nil))))
    (pss_one (ps_for PassesOwn.never rfl (pi_range1 rfl T.z_range (pa_cons pe_int pa_nil)) (pg_name (i := 3) nd rfl (by first | exact Or.inl rfl | exact Or.inr rfl)) (pss_cons (ps_sv 4 nd (pe_h h_law_plan hr (by decide) rfl (pa_cons (pv 2) (pa_cons pe_int pa_nil))))
    (pss_cons (ps_sv 5 nd (pe_h h_law_web hr (by decide) rfl (pa_cons (pv 4) pa_nil)))
    (pss_cons (ps_sv 6 nd (pe_op op_cat (pe_lc (own := [("place", 7)]) (g := gName 7) (tt := tYes) rfl nd (pi_sq (pe_ix ix_tup (pv 4) pe_int (fun _ _ => rfl))) (blkOk_by (own := [("place", 7)]) (N := ["script", "start", "source", "turn", "plan", "web", "lines", "place", "tie", "text", "told", "near"]) (sc := defScope sLaw) (by decide +kernel)) (fun _ _ _ _ _ => (pg_name (i := 7) nd rfl (by first | exact Or.inl rfl | exact Or.inr rfl))) (fun _ _ _ _ _ => pts_nil) (fun _ _ _ _ _ => (pe_op op_add_str pe_str (pv 7)))) (pe_lc (own := [("tie", 8)]) (g := gName 8) (tt := tYes) rfl nd (pi_sq (pe_ix ix_tup (pv 4) pe_int (fun _ _ => rfl))) (blkOk_by (own := [("tie", 8)]) (N := ["script", "start", "source", "turn", "plan", "web", "lines", "place", "tie", "text", "told", "near"]) (sc := defScope sLaw) (by decide +kernel)) (fun _ _ _ _ _ => (pg_name (i := 8) nd rfl (by first | exact Or.inl rfl | exact Or.inr rfl))) (fun _ _ _ _ _ => pts_nil) (fun _ _ _ _ _ => (pe_op op_add_str (pe_op op_add_str (pe_op op_add_str pe_str (pe_ix (ix_tupk (K := K) rfl) (pv 8) pe_int (fun _ _ => rfl))) pe_str) (pe_ix (ix_tupk (K := K) rfl) (pv 8) pe_int (fun _ _ => rfl)))))))
    (pss_cons (ps_sv 9 nd (pe_join pe_str (pv 6)))
    (pss_cons (ps_sv 10 nd (pe_hR0 hread_web hr (by decide) rfl (pa_cons (pv 9) pa_nil)))
    (pss_cons (ps_if (pt_cmpR (op_neD hr.units) (pe_lst (pa_cons (pe_h hweb_text hr (by decide) rfl (pa_cons (pv 5) pa_nil)) (pa_cons (pe_h hweb_text hr (by decide) rfl (pa_cons (pv 5) pa_nil)) pa_nil))) (pe_lst (pa_cons (pv 9) (pa_cons (pv 9) pa_nil))) (by first | exact nomark _ | rfl)) (pss_one (ps_ret pe_bl)) pss_nil)
    (pss_cons (ps_if (PW.pt (pw_or (pt_cmpR (op_neWW (K := K) rfl hQ hr (by decide)) (pv 10) (pv 5) (by first | exact nomark _ | rfl)) (pw_or (pt_cmpR (op_neD hr.units) (pe_hP hP_places X.cls hr (by decide) (pv 10)) (pe_ix ix_tup (pv 4) pe_int (fun _ _ => rfl)) (by first | exact nomark _ | rfl)) (pw_or1 (pt_cmpR (op_neD hr.units) (pe_hP hP_ties X.cls hr (by decide) (pv 10)) (pe_ix ix_tup (pv 4) pe_int (fun _ _ => rfl)) (by first | exact nomark _ | rfl)))))) (pss_one (ps_ret pe_bl)) pss_nil)
    (pss_cons (ps_if (PW.pt (pw_or (pt_cmpR op_ne (pe_h hweb_text hr (by decide) rfl (pa_cons (pv 10) pa_nil)) (pv 9) (by first | exact nomark _ | rfl)) (pw_or (pt_cmpR op_ne (pe_h hweb_text hr (by decide) rfl (pa_cons (pe_hML hM_without X.cls hr (by decide) (pv 5) (pa_cons (pe_lst pa_nil) pa_nil)) pa_nil)) (pv 9) (by first | exact nomark _ | rfl)) (pw_or1 (pt_cmpR (op_neD hr.units) (pe_hM0 hM_parts X.cls hr (by decide) (pv 10)) (pe_hM0 hM_parts X.cls hr (by decide) (pv 5)) (by first | exact nomark _ | rfl)))))) (pss_one (ps_ret pe_bl)) pss_nil)
    (pss_cons (ps_if (pt_not (pt_val (pe_h h_law_kept hr (by decide) rfl (pa_cons (pv 5) (pa_cons (pv 4) pa_nil))))) (pss_one (ps_ret pe_bl)) pss_nil)
    (pss_cons (ps_sv 11 nd (pe_h h_law_near hr (by decide) rfl (pa_cons (pv 4) pa_nil)))
    (pss_cons (ps_if (pt_cmpR (op_neNil hr.units) (pe_lock (pe_lc (own := [("place", 7)]) (g := gName 7) rfl nd (pi_keys (pv 11)) (blkOk_by (own := [("place", 7)]) (N := ["script", "start", "source", "turn", "plan", "web", "lines", "place", "tie", "text", "told", "near"]) (sc := defScope sLaw) (by decide +kernel)) (fun _ _ _ _ _ => (pg_name (i := 7) nd rfl (by first | exact Or.inl rfl | exact Or.inr rfl))) (fun _ _ _ _ _ => (pts_one (pt_cmpR (op_neDk (K := K) rfl hr.units) (pe_hML hM_sees X.cls hr (by decide) (pv 10) (pa_cons (pv 7) pa_nil)) (pe_dget (hu_of hr) (pv 11) (pv 7) (fun _ _ => rfl)) (by first | exact nomark _ | rfl)))) (fun _ _ _ _ _ => (pv 7)))) (pe_lst pa_nil) (by first | exact nomark _ | rfl)) (pss_one (ps_ret pe_bl)) pss_nil)
    (pss_one (ps_if (PW.pt (pw_and (pt_cmpR op_lt (pe_callB call_lenD (by rfl) T.z_len (by decide +kernel) (pa_cons (pv 11) pa_nil)) pe_int (by first | exact nomark _ | rfl)) (pw_and1 (pt_cmpR op_ne (pe_h hturns_needed hr (by decide) rfl (pa_cons (pv 10) pa_nil)) (pe_h hturns_needed hr (by decide) rfl (pa_cons (pv 5) pa_nil)) (by first | exact nomark _ | rfl))))) (pss_one (ps_ret pe_bl)) pss_nil)))))))))))))))))
    (pss_one (ps_ret pe_bl))), ?_⟩
    refine ⟨_, rfl, _, _, rfl, .inl ⟨_, hS, rfl⟩, _, _, rfl, _, _, rfl, _, rfl, ?_, ?_, ?_⟩
    · split <;> (try split) <;> omega
    · split <;> (try split) <;> omega
    have hj : (if (if (((zs0.map V.int).length : Nat) : Int) < 3 then (((zs0.map V.int).length : Nat) : Int) else 3) > 1 then (if (((zs0.map V.int).length : Nat) : Int) < 3 then (((zs0.map V.int).length : Nat) : Int) else 3) else 1) ≤ 3 := by split <;> (try split) <;> omega
    generalize (if (if (((zs0.map V.int).length : Nat) : Int) < 3 then (((zs0.map V.int).length : Nat) : Int) else 3) > 1 then (if (((zs0.map V.int).length : Nat) : Int) < 3 then (((zs0.map V.int).length : Nat) : Int) else 3) else 1) = jj at hj ⊢
    refine for_range (lo := 0) (n := jj.toNat) (fun i σ H' => Hold (∃ s1 s2 s3 s4 s5 s6 s7 s8 s9 s10 s11 : Option V, σ = [some (.ref a), s1, s2, s3, s4, s5, s6, s7, s8, s9, s10, s11] ∧ Same H H')) ⟨none, none, none, none, none, none, none, none, none, none, none, rfl, Same.refl H⟩ ?_ ?_
    · rintro i σ H1 hi ⟨s1, s2, s3, s4, s5, s6, s7, s8, s9, s10, s11, rfl, sm⟩
      refine ⟨_, rfl, _, rfl, a, zs0, _, rfl, by omega, by omega, sm.seq hS, hlen, hbits, fun ps r m nps ok => ?_⟩
      have u0 := same_new (o := .lst [.int r, .int m]) nps
      have hp : (upd H1 ps (.lst [.int r, .int m])) ps = some (.lst [.int r, .int m]) := upd_same
      generalize upd H1 ps (.lst [.int r, .int m]) = H2 at u0 hp ⊢
      have nps0 : H ps = none := free_of sm nps
      have sm2 := sm.trans u0
      wide_line
      refine for_range (lo := 0) (n := 6) (fun j σ H' => Hold (∃ (r m : Int) (t3 t4 t5 t6 t7 t8 t9 t10 t11 : Option V), σ = [some (.ref a), some (.int (0 + (i : Nat))), some (.ref ps), t3, t4, t5, t6, t7, t8, t9, t10, t11] ∧ Same H H' ∧ H' ps = some (.lst [.int r, .int m]) ∧ SrcOk r m)) ⟨r, m, s3, s4, s5, s6, s7, s8, s9, s10, s11, rfl, sm2, hp, ok⟩ ?_ ?_
      · rintro j σ H3 hj2 ⟨r3, m3, t3, t4, t5, t6, t7, t8, t9, t10, t11, rfl, sm3, hp3, ok3⟩
        refine ⟨_, rfl, ps, r3, m3, 12, rfl, hp3, ok3, by decide, by decide, fun r6 m6 ms ts t tn tt txs H6 ok6 pk f6 src6 nt6 ht6 htn6 htt6 htu6 => ?_⟩
        have sm6 : Same H H6 := fun b o e => f6 b o (fun z => by rw [z, nps0] at e; cases e) (sm3 b o e)
        have pl6 : PlanAt K H6 t ms ts := ⟨tn, tt, txs, SqT.of ht6, SqT.of htn6, SqT.of htt6, tiesAt_of htu6⟩
        refine ⟨_, rfl, t, 12, ms, ts, rfl, pl6, pk, by decide, fun x H7 s7 nx7 wx7 => ?_⟩
        have lm : ms.length ≤ 12 := pk.most
        obtain ⟨tx1, tx2, tx3⟩ := text_len pk (Nat.le_refl 12)
        -- the lines
        have ht7 := s7 _ _ ht6
        have htn7 := s7 _ _ htn6
        have htt7 := s7 _ _ htt6
        have ti7 := (tiesAt_of (K := K) htu6).same s7
        refine ⟨_, rfl, t, _, 0, .ref tn, rfl, rfl, SqT.of ht7, rfl, tn, _, rfl, .inr (SqT.of htn7), fun J G ex hG wk L nL => ?_⟩
        refine lc_it wk (fun i H' => Hold (Lv H7 [] H' [(L, .lst (((ms.take i).map lineP).map V.str))])) ⟨(Lv.zero H7).al nL⟩ (fun i H' _ p => hG H' (.same p.out.sm)) ?_ ?_
        · rintro i v H8 H9 hi ⟨lv⟩ ⟨rfl, hv⟩
          obtain ⟨q, hq, rfl⟩ := str_at hv
          have l8 := name_len8 (pk.nm q (List.mem_of_getElem? hq))
          have e6 : (("place " : String) : Str).length = 6 := rfl
          refine ⟨rfl, _, rfl, _, _, rfl, rfl, by rw [sizeLine_eq, e6]; omega, _, lv.get 0 rfl, by rw [List.length_map, List.length_map, List.length_take, sizeLine_eq]; omega, ⟨?_⟩⟩
          rw [take_next2 hq, List.map_append, List.map_append, List.map_singleton, ← lineP_of]
          exact lv.stE 0 rfl rfl
        rintro H8 ⟨lv8⟩
        rw [List.length_map, List.take_length] at lv8
        have s78 := lv8.sm
        refine ⟨_, rfl, t, _, 1, .ref tt, rfl, rfl, SqT.of (s78 _ _ ht7), rfl, tt, _, rfl, .inr (SqT.of (s78 _ _ htt7)), fun J2 G2 ex2 hG2 wk2 L2 nL2 => ?_⟩
        refine lc_it wk2 (fun i H' => Hold (Lv H7 [] H' [(L2, .lst (((ts.take i).map lineT).map V.str)), (L, .lst ((ms.map lineP).map V.str))])) ⟨lv8.al nL2⟩ (fun i H' _ p => hG2 H' (SqKeep.of (.inr (SqT.of htt7)) s78 p.out.sm ex2)) ?_ ?_
        · rintro i v H9 H10 hi ⟨lv⟩ ⟨rfl, hv⟩
          obtain ⟨u, b, hu, rfl, hb⟩ := ties_at (ti7.same lv.sm) hv
          obtain ⟨u1, u2, _⟩ := pk.tie u (List.mem_of_getElem? hu)
          have l8 := name_len8 (pk.nm _ u1)
          have l9 := name_len8 (pk.nm _ u2)
          have e4 : (("tie " : String) : Str).length = 4 := rfl
          have e1 : ((" " : String) : Str).length = 1 := rfl
          refine ⟨rfl, _, rfl, b, _, 0, .str u.1, rfl, rfl, hb, rfl, _, _, rfl, rfl, by rw [sizeLine_eq, e4]; omega, _, _, rfl, rfl, by rw [sizeLine_eq, strLen_append, e4, e1]; omega, _, rfl, b, _, 1, .str u.2, rfl, rfl, hb, rfl, _, _, rfl, rfl, by rw [sizeLine_eq, strLen_append, strLen_append, e4, e1]; omega, _, lv.get 0 rfl, by have := pk.few; rw [List.length_map, List.length_map, List.length_take, sizeLine_eq]; omega, ⟨?_⟩⟩
          rw [take_next2 hu, List.map_append, List.map_append, List.map_singleton, show lineT u = lineT (u.1, u.2) from rfl, ← lineT_of]
          exact lv.stE 0 rfl rfl
        rintro H9 ⟨lv9⟩
        rw [show txs.length = ts.length from paired_len ti7, List.take_length] at lv9
        refine ⟨L, L2, _, _, rfl, rfl, lv9.get 1 rfl, lv9.get 0 rfl, by have := pk.few; rw [List.length_map, List.length_map, List.length_map, List.length_map, sizeLine_eq]; omega, fun L3 nL3 => ?_⟩
        wide_line with alx lv9 nL3 H10 lv10 s10
        rw [← List.map_append] at lv10
        refine ⟨⟨_, rfl⟩, _, rfl, NL, L3, _, rfl, rfl, .inl (SqL.of (lv10.get 0 rfl)), tx1, ?_⟩
        rw [txt_join, show Str.join NL (ms.map lineP ++ ts.map lineT) = textOf ms ts from rfl]
        have rp := read_plan pk (Nat.le_refl 12)
        have s710 := lv10.sm
        have hw10 := wx7.web.same (fun b o e => s710 b o (noLst_sub b o e))
        refine ⟨_, rfl, .str (textOf ms ts), .str (textOf ms ts), rfl, .str _, fun z => absurd rfl (z _), fun T' e => ?_⟩
        cases e
        refine ⟨tx2, fun n z => (by rw [rp] at z; cases z), fun ms' ts' z y H11 s11 ny wy => ?_⟩
        rw [rp] at z
        cases z
        have hw11 := hw10.same s11
        have hy11 := wy.web.same noLst_sub
        have gd := pk.good
        have okt : ∀ u ∈ ts, okTie u := fun u hu => ⟨pk.nm _ (pk.tie u hu).1, pk.nm _ (pk.tie u hu).2.1⟩
        have sh : SeqAt.shaped (.list ([textOf ms ts, textOf ms ts].map PyData.str)) = true := shaped_txts fun q hq => by
          simp only [List.mem_cons, List.not_mem_nil, or_false, or_self] at hq
          rw [hq]; exact tx3
        -- the text, twice
        refine ⟨_, rfl, x, 12, ms, ts, rfl, hw11, pk, Nat.le_refl _, fun H12 s12 => ⟨_, rfl, x, 12, ms, ts, rfl, hw11.same s12, pk, Nat.le_refl _, fun H13 s13 => ⟨sz2, fun l1 nl1 => ?_⟩⟩⟩
        generalize he : upd H13 l1 _ = H14
        have s14 : Same H13 H14 := sameE nl1 he
        have e14 := upd_at he
        clear he
        refine ⟨_, rfl, _, rfl, sz2, fun l2 nl2 => ?_⟩
        generalize he : upd H14 l2 _ = H15
        have s15 : Same H14 H15 := sameE nl2 he
        have e15 := upd_at he
        clear he
        refine ⟨.list ([textOf ms ts, textOf ms ts].map PyData.str), .list ([textOf ms ts, textOf ms ts].map PyData.str), .lst (SqL.of (s15 _ _ e14)) (dp_strs [textOf ms ts, textOf ms ts]), .lst (SqL.of e15) (dp_strs [textOf ms ts, textOf ms ts]), sh, sh, _, rfl, ?_⟩
        rw [eqv_refl' sh]
        refine iteF ?_
        have s1115 := s12.trans (s13.trans (s14.trans s15))
        have s715 := s710.trans (s11.trans s1115)
        have hw15 := hw11.same s1115
        have hy15 := hy11.same s1115
        have pl15 := pl6.same (s7.trans s715)
        obtain ⟨_, _, _, h1, h2, h3, h4⟩ := id pl15
        obtain ⟨⟨dy, tpy, tty, sgy, sny, spy, sqy, rky, txy, hy, htp, htt, hts, _⟩⟩ := id hy15
        refine ⟨_, rfl, _, rfl, y, x, ms, ms, ts, ts, rfl, rfl, hy15, hw15, gd, gd, _, rfl, ?_⟩
        rw [eqW_self gd, if_pos rfl]
        refine iteF ⟨_, rfl, y, dy, _, rfl, hy, y, dy, _, _, rfl, hy, rfl, _, rfl, t, _, 0, .ref _, rfl, rfl, h1, rfl, .tuple (ms.map PyData.str), .tuple (ms.map PyData.str), .tup htp (dp_strs _), .tup h2 (dp_strs _), shaped_names pk.nm, shaped_names pk.nm, _, rfl, ?_⟩
        rw [eqv_refl' (shaped_names pk.nm)]
        refine iteF ⟨_, rfl, y, dy, _, rfl, hy, y, dy, _, _, rfl, hy, rfl, _, rfl, t, _, 1, .ref _, rfl, rfl, h1, rfl, .tuple (ts.map tieDat), .tuple (ts.map tieDat), .tup htt (dp_ties hts), .tup h3 (dp_ties h4), shaped_tup (shaped_ties okt), shaped_tup (shaped_ties okt), _, rfl, ?_⟩
        rw [eqv_refl' (shaped_tup (shaped_ties okt))]
        refine iteF ?_
        -- texts
        refine ⟨_, rfl, y, 12, ms, ts, rfl, hy15, pk, Nat.le_refl _, fun H16 s16 => ⟨_, rfl, rfl, _, rfl, ?_⟩⟩
        rw [decide_eq_true rfl]
        refine iteF ?_
        have hw16 := hw15.same s16
        obtain ⟨dx, fx, hx, _, _, _, nox⟩ := webNo hw16
        refine ⟨_, rfl, x, dx, fx, rfl, hx, nox, sz0, fun l5 nl5 => ?_⟩
        generalize he : upd H16 l5 _ = H17
        have s17 : Same H16 H17 := sameE nl5 he
        have e17 := upd_at he
        clear he
        have sp0 : spareOf ms (.list []) = true := by
          have := pk.one
          unfold spareOf
          show (true && !decide (0 = ms.length)) = true
          rw [decide_eq_false (by omega)]; rfl
        refine ⟨x, .ref l5, 12, ms, ts, .list [], rfl, hw16.same s17, pk, Nat.le_refl _, .lst (SqL.of e17) .nil, (fun ds e => by cases e; exact Nat.zero_le _), fun z => (by rw [sp0] at z; cases z), fun ds e _ z8 H18 s18 nz8 wz8 => ?_⟩
        cases e
        have hz8 := wz8.web.same noLst_sub
        rw [show strsD [] = [] from rfl, lessN_nil, lessT_nil pk.tie] at hz8
        refine ⟨z8, 12, ms, ts, rfl, hz8, pk, Nat.le_refl _, fun H19 s19 => ⟨_, rfl, rfl, _, rfl, ?_⟩⟩
        rw [decide_eq_true rfl]
        refine iteF ?_
        -- parts
        have s1519 := s16.trans (s17.trans (s18.trans s19))
        have hy19 := hy15.same s1519
        have hw19 := hw15.same s1519
        obtain ⟨dy, fy, hyy, _, noy, _⟩ := webNo hy19
        refine ⟨_, rfl, y, dy, fy, rfl, hyy, noy, y, ms, ts, rfl, hy19, by omega, fun ls pl l8 x8 H20 s20 nl8 hl8 rw8 _ => ?_⟩
        obtain ⟨dx, fx, hx, _, nox, _⟩ := webNo (hw19.same s20)
        refine ⟨_, rfl, x, dx, fx, rfl, hx, nox, x, ms, ts, rfl, hw19.same s20, by omega, fun ls' pl' l9 x9 H21 s21 nl9 hl9 rw9 _ => ?_⟩
        obtain rfl := pl.det pl'
        have go : ∀ l ∈ ls, ∀ q ∈ l, okName q = true := fun l hl q hq => pk.nm q (pl.mem l hl q hq)
        refine ⟨.list (ls.map rowD), .list (ls.map rowD), .lst (SqL.of (s21 _ _ hl8)) (RowAt.dp (RowAt.same s21 rw8)), .lst (SqL.of hl9) (RowAt.dp rw9), shaped_rows go, shaped_rows go, _, rfl, ?_⟩
        rw [eqv_refl' (shaped_rows go)]
        refine iteF ?_
        have s1521 := s1519.trans (s20.trans s21)
        -- kept
        refine ⟨_, rfl, _, rfl, x, t, 12, ms, ts, rfl, hw15.same s1521, pl15.same s1521, pk, Nat.le_refl _, fun H22 s22 => ⟨_, rfl, iteF ?_⟩⟩
        have s1522 := s1521.trans s22
        refine ⟨_, rfl, t, 12, ms, ts, rfl, pl15.same s1522, pk, Nat.le_refl _, fun D1 H23 s23 nD1 near => ?_⟩
        obtain ⟨lf, hD23, hlf⟩ := near
        refine ⟨D1, _, hD23, trivial, fun od => ?_⟩
        have s24 : Same H22 (upd H23 D1 (.frz od (.dK (ms.map fun p => ((.inr p : Key), V.ref (lf p)))))) := same_upd s23 nD1
        have o24 : ∀ b o, b ≠ D1 → H23 b = some o → (upd H23 D1 (.frz od (.dK (ms.map fun p => ((.inr p : Key), V.ref (lf p)))))) b = some o := fun b o n e => by rw [upd_ne n]; exact e
        have fz : (upd H23 D1 (.frz od (.dK (ms.map fun p => ((.inr p : Key), V.ref (lf p)))))) D1 = some (.frz od (.dK (ms.map fun p => ((.inr p : Key), V.ref (lf p))))) := upd_same
        generalize he : upd H23 D1 (.frz od (.dK (ms.map fun p => ((.inr p : Key), V.ref (lf p))))) = H24 at s24 o24 fz ⊢
        have hy24 := hy15.same (s1522.trans s24)
        have g24 : ∀ q ∈ ms, H24 (lf q) = some (.lst ((seenOf ms ts q).map V.str)) := fun q hq => o24 _ _ (fun z => by have := (hlf q hq).1; rw [z, hD23] at this; cases this) (hlf q hq).1
        refine ⟨_, rfl, D1, od, rfl, .inl ⟨_, fz, fun L9 nL9 => ?_⟩⟩
        refine lc_it walk_keys (fun i H' => Hold (Lv H24 [] H' [(L9, .lst [])])) ⟨(Lv.zero H24).al nL9⟩ (fun i H' _ ⟨z⟩ => z.sm _ _ fz) ?_ ?_
        · rintro i v H25 H26 hi ⟨lv⟩ ⟨rfl, k0, v0, hkv, rfl⟩
          rw [List.getElem?_map] at hkv
          obtain ⟨q, hq, e⟩ := Option.map_eq_some_iff.mp hkv
          cases e
          have qin := List.mem_of_getElem? hq
          have hyq := hy24.same lv.sm
          obtain ⟨dyq, fyq, hyyq, noq, _⟩ := webNo hyq
          refine ⟨rfl, _, rfl, y, dyq, fyq, rfl, hyyq, noq, _, rfl, y, .str q, ms, ts, .str q, rfl, hyq, .str q, fun p e hp l H7 s7 nl hl => ?_, fun z => ?_⟩
          · cases e
            have go : ∀ z ∈ seenOf ms ts q, okName z = true := fun z hz => pk.nm z (List.mem_filter.mp hz).1
            refine ⟨_, rfl, _, rfl, D1, .ref (lf q), rfl, .inl ⟨_, Sum.inr q, .inr ⟨od, s7 _ _ (lv.sm _ _ fz)⟩, rfl, (near_val qin).symm⟩, rowD (seenOf ms ts q), rowD (seenOf ms ts q), .lst (SqL.of hl) (dp_strs _), .lst (SqL.of (s7 _ _ (lv.sm _ _ (g24 q qin)))) (dp_strs _), shaped_row go, shaped_row go, ?_⟩
            rw [eqv_refl' (shaped_row go)]
            exact ⟨_, rfl, iteF (Hold.mk (Lv.same lv s7))⟩
          · exact absurd (amid_str.mpr qin) (by rw [z]; decide)
        rintro H25 ⟨lv25⟩
        refine ⟨lv25.sm _ _ fz, ?_⟩
        have s25 : Same H22 (upd H25 D1 (.dK (ms.map fun p => ((.inr p : Key), V.ref (lf p))))) := same_upd (s24.trans lv25.sm) nD1
        have hL9 : (upd H25 D1 (.dK (ms.map fun p => ((.inr p : Key), V.ref (lf p))))) L9 = some (.lst []) := by
          rw [upd_ne (fun z => by rw [z, fz] at nL9; cases nL9)]
          exact lv25.get 0 rfl
        have hD25 : (upd H25 D1 (.dK (ms.map fun p => ((.inr p : Key), V.ref (lf p))))) D1 = some (.dK (ms.map fun p => ((.inr p : Key), V.ref (lf p)))) := upd_same
        generalize upd H25 D1 (.dK (ms.map fun p => ((.inr p : Key), V.ref (lf p)))) = H26 at s25 hL9 hD25 ⊢
        refine ⟨sz0, fun l27 n27 => ?_⟩
        generalize he27 : upd H26 l27 _ = H27
        have s27 : Same H26 H27 := sameE n27 he27
        have e27 := upd_at he27
        refine ⟨_, _, _, rfl, rfl, SqL.of (s27 _ _ hL9), SqL.of e27, _, rfl, iteF ?_⟩
        -- turns
        have hD27 := s27 _ _ hD25
        have s1127 : Same H11 H27 := s1115.trans (s1522.trans (s25.trans s27))
        have s1027 : Same H10 H27 := s11.trans s1127
        have s727 : Same H7 H27 := s710.trans s1027
        refine ⟨_, rfl, D1, _, rfl, hD27, _, _, rfl, rfl, _, rfl, ?_⟩
        rw [List.length_map]
        have sm27 : Same H H27 := sm6.trans (s7.trans s727)
        by_cases c : ((ms.length : Nat) : Int) < 7
        · rw [decide_eq_true c]
          refine iteT ⟨_, rfl, y, ms, ts, noLst H10 H11, rfl, noLst_sub.trans s1127, wy.web, pk.one, lm, fun m1 R1 H28 st1 hwR1 ar1 fm1 => ?_⟩
          have fr28 : Same H10 H28 := fun b o e => st1.fr b o (fun z => by have := wy.own b z; rw [e] at this; cases this) (s1027 _ _ e)
          refine ⟨_, rfl, x, ms, ts, noLst H6 H7, rfl, noLst_sub.trans (s710.trans fr28), wx7.web, pk.one, lm, fun m2 R2 H29 st2 hwR2 ar2 fm2 => ?_⟩
          have fr29 : Same H6 H29 := fun b o e => st2.fr b o (fun z => by have := wx7.own b z; rw [e] at this; cases this) (fr28 _ _ (s710 _ _ (s7 _ _ e)))
          obtain rfl := fin_unique fm1 fm2
          refine ⟨by cases leastG (oneW ms ts) m1 ms.length <;> rfl, _, rfl, ?_⟩
          rw [decide_eq_true rfl]
          exact iteF ⟨_, _, _, _, _, _, _, _, _, _, _, rfl, sm6.trans fr29, fr29 _ _ src6, ok6⟩
        · rw [decide_eq_false c]
          exact iteF ⟨_, _, _, _, _, _, _, _, _, _, _, rfl, sm27, s727 _ _ (s7 _ _ src6), ok6⟩
      · rintro σ H3 ⟨r3, m3, t3, t4, t5, t6, t7, t8, t9, t10, t11, rfl, sm3, hp3, ok3⟩
        exact ⟨_, _, _, _, _, _, _, _, _, _, _, rfl, sm3⟩
    · rintro σ H1 ⟨s1, s2, s3, s4, s5, s6, s7, s8, s9, s10, s11, rfl, sm⟩
      exact k H1
end
end Pw

set_option Elab.async false
set_option linter.all false
set_option maxRecDepth 100000
set_option maxHeartbeats 4000000
namespace Pw
open PySem PySem.Spec PyProof.Rows L2 Ct
/-! all of it put together -/
section
variable {P : Program} {w : World} {K : PySem.W.Frag} {mg : Str → Option Value} {base : Heap} {C CB CN CP CS CT : Addr}
theorem law_all (T : Bn mg) (M : Mc mg) (X : WC K C) (gW : mg "Web" = some (.ref C)) (SB : SysB base) (hE_BadPlaces : HasE P w K mg base 1 "BadPlaces" CP "value") (hE_BadTies : HasE P w K mg base 1 "BadTies" CS "value") (hE_BadTie : HasE P w K mg base 1 "BadTie" CT "position") (hE_NoPlace : HasE P w K mg base 1 "NoPlace" CN "value") (hE_BadText : HasE P w K mg base 1 "BadText" CB "line") (hP_places : HasP P w K mg base 1 C "places" (getSp C "_places")) (hP_ties : HasP P w K mg base 1 C "ties" (getSp C "_ties")) (nf : PySem.W.notFirst K C (.ref C) = true) (D_is_name : DFE K mg "is_name" sIsName ["value"]) (D_all_differ : DFE K mg "_all_differ" sAllDiffer ["names"]) (D_is_tie : DFE K mg "_is_tie" sIsTie ["places", "value"]) (D_pair : DFE K mg "_pair" sPair ["tie"]) (D_check_places : DFE K mg "_check_places" sCheckPlaces ["places"]) (D_check_ties : DFE K mg "_check_ties" sCheckTies ["places", "known", "ties"]) (D_bits_of : DFE K mg "bits_of" sBitsOf ["number"]) {f_named : Addr} {d_named : FuncData} (F_named : Fun K "named" "Web.named" sNamed f_named d_named) (B_named : Binds K d_named ["self", "number"] []) (M_named : Meth K C "named" f_named) (D_sights : DFE K mg "_sights" sSights ["places", "ties"]) {f_init T0 : Addr} {d_init : FuncData} {o0 : Obj} {n0 : Nat} {dv : List Value} (F_init : FunD K "__init__" "Web.__init__" (defArgs sInit) (defBody sInit) (defScope sInit) [.ref T0] [] f_init d_init) (B1 : Binds K d_init ["self", "places", "ties"] []) (B0 : Binds K d_init ["self", "places", "ties"] dv) (V0 : Vals [.ref T0] dv) (l0 : K.lookup T0 = some o0) (c0 : o0.cls = .type "tuple") (s0 : o0.data = .seq #[] n0) (MK : Mk K C f_init) (D_is_place : DFE K mg "is_place" sIsPlace ["web", "value"]) (D_check_place : DFE K mg "check_place" sCheckPlace ["web", "value"]) (D_are_places : DFE K mg "are_places" sArePlaces ["web", "value"]) {f_sees : Addr} {d_sees : FuncData} (F_sees : Fun K "sees" "Web.sees" sSees f_sees d_sees) (B_sees : Binds K d_sees ["self", "place"] []) (M_sees : Meth K C "sees" f_sees) {f_part_of : Addr} {d_part_of : FuncData} (F_part_of : Fun K "_part_of" "Web._part_of" sPartOf f_part_of d_part_of) (B_part_of : Binds K d_part_of ["self", "start"] []) (M_part_of : Meth K C "_part_of" f_part_of) {f_parts : Addr} {d_parts : FuncData} (F_parts : Fun K "parts" "Web.parts" sParts f_parts d_parts) (B_parts : Binds K d_parts ["self"] []) (M_parts : Meth K C "parts" f_parts) {f_without : Addr} {d_without : FuncData} (F_without : Fun K "without" "Web.without" sWithout f_without d_without) (B_without : Binds K d_without ["self", "places"] []) (M_without : Meth K C "without" f_without) (I : WI K C) {f_eq : Addr} {d_eq : FuncData} (F_eq : Fun K "__eq__" "Web.__eq__" sEqW f_eq d_eq) (B_eq : Binds K d_eq ["self", "other"] []) (EQ : EqC K C f_eq) (D_web_text : DFE K mg "web_text" sWebText ["web"]) (D_is_next_place : DFE K mg "_is_next_place" sIsNextPlace ["places", "words"]) (D_is_next_tie : DFE K mg "_is_next_tie" sIsNextTie ["places", "tied", "words"]) (D_read_web : DFE K mg "read_web" sReadWeb ["text"]) {f_kept : Addr} {d_kept : FuncData} (F_kept : Fun K "kept" "Web.kept" sKept f_kept d_kept) (B_kept : Binds K d_kept ["self", "key"] []) (M_kept : Meth K C "kept" f_kept) {f_keep : Addr} {d_keep : FuncData} (F_keep : Fun K "keep" "Web.keep" sKeep f_keep d_keep) (B_keep : Binds K d_keep ["self", "key", "value"] []) (M_keep : Meth K C "keep" f_keep) {f_sights : Addr} {d_sights : FuncData} (F_sights : Fun K "sights" "Web.sights" sSightsOf f_sights d_sights) (B_sights : Binds K d_sights ["self"] []) (M_sights : Meth K C "sights" f_sights) (D_united : DFE K mg "united" sUnited ["numbers", "chosen"]) (D_lost_runners : DFE K mg "lost_runners" sLostRunners ["steps", "won"]) (D_single_bits : DFE K mg "_single_bits" sSingleBits ["sights"]) (D_greatest_rank : DFE K mg "greatest_rank" sGreatestRank ["ranks"]) (D_least_rank : DFE K mg "least_rank" sLeastRank ["ranks"]) (D_rank_rounds : DFE K mg "rank_rounds" sRankRounds ["ways", "held", "steps"]) (D_rank_rows : DFE K mg "rank_rows" sRankRows ["rounds", "places"]) (XG : GC K) (gGame : mg "Game" = some (.ref (cGame K))) {f_gi : Addr} {d_gi : FuncData} (F_gi : Fun K "__init__" "Game.__init__" sGInit f_gi d_gi) (B_gi : Binds K d_gi ["self", "names", "stands", "ways", "held", "steps"] []) (MKG : Mk K (cGame K) f_gi) {f_rounds : Addr} {d_rounds : FuncData} (F_rounds : Fun K "rounds" "Game.rounds" sGRounds f_rounds d_rounds) (B_rounds : Binds K d_rounds ["self"] []) (M_rounds : Meth K (cGame K) "rounds" f_rounds) {f_rows : Addr} {d_rows : FuncData} (F_rows : Fun K "rows" "Game.rows" sGRows f_rows d_rows) (B_rows : Binds K d_rows ["self"] []) (M_rows : Meth K (cGame K) "rows" f_rows) {f_least : Addr} {d_least : FuncData} (F_least : Fun K "least" "Game.least" sGLeast f_least d_least) (B_least : Binds K d_least ["self"] []) (M_least : Meth K (cGame K) "least" f_least) (D_one_guard : DFE K mg "one_guard" sOneGuard ["web"]) (D_turns_needed : DFE K mg "turns_needed" sTurnsNeeded ["web"]) (D_law_source : DFE K mg "_law_source" sSource ["script", "start"]) (D_law_draw : DFE K mg "_law_draw" sDraw ["source", "span"]) (D_law_mixed : DFE K mg "_law_mixed" sLawMixed ["source", "things"]) (D_law_pick : DFE K mg "_law_pick" sPick ["source", "things"]) (D_law_word : DFE K mg "_law_word" sLawWord ["source"]) (D_law_names : DFE K mg "_law_names" sLawNames ["source", "many"]) (D_law_pairs : DFE K mg "_law_pairs" sLawPairs ["source", "many", "kind"]) (D_law_plan : DFE K mg "_law_plan" sLawPlan ["source", "most"]) (D_law_web : DFE K mg "_law_web" sLawWeb ["plan"]) (D_law_near : DFE K mg "_law_near" sLawNear ["plan"]) (D_law_kept : DFE K mg "_law_kept" sLawKept ["web", "plan"]) {fl : Addr} {dl : FuncData} (FL : Fun K "law" "law" sLaw fl dl) : GFn P w K mg base CX0 8 fl dl ["script"] (spLaw K) := by
  have h_is_name := has_is_name (P := P) (w := w) (base := base) T M D_is_name
  have h_all_differ := has_all_differ (P := P) (w := w) (base := base) T D_all_differ
  have h_is_tie := has_is_tie (P := P) (w := w) (base := base) T D_is_tie
  have h_pair := has_pair (P := P) (w := w) (base := base) D_pair
  have h_check_places := has_check_places T M D_check_places h_is_name h_all_differ hE_BadPlaces
  have h_check_ties := has_check_ties T D_check_ties h_is_tie h_pair hE_BadTies hE_BadTie
  have h_bits_of := has_bits_of (P := P) (w := w) (base := base) T D_bits_of
  have hM_named : HasM P w K mg base CX0 2 C "named" ["self", "number"] (spNamed K C) := ⟨_, _, M_named, B_named, ok_named X.cls X.n1 F_named h_bits_of⟩
  have h_sights := has_sights (P := P) (w := w) (base := base) T D_sights
  have hW : HasW P w K mg base 4 C CP CS CT := ⟨gW, f_init, T0, d_init, dv, o0, n0, MK, ok_init T X F_init h_check_places h_check_ties h_sights h_pair hM_named, B1, B0, V0, l0, c0, s0⟩
  have h_is_place := has_is_place X D_is_place hP_places
  have h_check_place := has_check_place D_check_place h_is_place hE_NoPlace
  have h_are_places := has_are_places T D_are_places h_is_place h_all_differ
  have hM_sees : HasM P w K mg base (L2.CX P w) 5 C "sees" ["self", "place"] (spSees K C CN) := ⟨_, _, M_sees, B_sees, ok_sees T X F_sees h_check_place⟩
  have hM_part_of : HasM P w K mg base CX0 1 C "_part_of" ["self", "start"] (spPartOf K C) := ⟨_, _, M_part_of, B_part_of, ok_part_of T X F_part_of⟩
  have hM_parts : HasM P w K mg base CX0 2 C "parts" ["self"] (spParts C K) := ⟨_, _, M_parts, B_parts, ok_parts T X F_parts hM_part_of⟩
  have hM_without : HasM P w K mg base (L2.CX P w) 6 C "without" ["self", "places"] (spWithout K C CP) := ⟨_, _, M_without, B_without, ok_without T X F_without h_are_places hE_BadPlaces hW⟩
  have hQ : HasEq2 P w K mg base C := ⟨⟨_, _, ok_eqA T X I gW F_eq, EQ, B_eq⟩⟩
  have h_web_text := has_web_text T X D_web_text hP_places hP_ties
  have h_inp := has_is_next_place T M D_is_next_place h_is_name
  have h_int := has_is_next_tie (P := P) (w := w) (base := base) T D_is_next_tie
  have h_read_web := has_read_web T D_read_web h_inp h_int hE_BadText hW
  have hM_kept : HasM P w K mg base CX0 1 C "kept" ["self", "key"] (spKept K C) := ⟨_, _, M_kept, B_kept, ok_kept X F_kept⟩
  have hM_keep : HasM P w K mg base CX0 1 C "keep" ["self", "key", "value"] (spKeep K C) := ⟨_, _, M_keep, B_keep, ok_keep X F_keep⟩
  have hM_sights : HasM P w K mg base CX0 1 C "sights" ["self"] (spSightsOf C) := ⟨_, _, M_sights, B_sights, ok_sights_of X F_sights⟩
  have h_united := has_united (P := P) (w := w) (base := base) T D_united
  have h_lost_runners := has_lost_runners (P := P) (w := w) (base := base) T D_lost_runners
  have h_single_bits := has_single_bits (P := P) (w := w) (base := base) T D_single_bits
  have h_greatest_rank := has_greatest_rank (P := P) (w := w) (base := base) T D_greatest_rank
  have h_least_rank := has_least_rank (P := P) (w := w) (base := base) T D_least_rank
  have h_rank_rounds := has_rank_rounds T D_rank_rounds h_united h_lost_runners
  have h_rank_rows := has_rank_rows T D_rank_rows h_bits_of
  have hG : HasGm P w K mg base := ⟨gGame, _, _, MKG, ok_ginit XG F_gi, B_gi⟩
  have hM_rounds : HasM P w K mg base CX0 3 (cGame K) "rounds" ["self"] (spGRounds K) := ⟨_, _, M_rounds, B_rounds, ok_grounds T XG F_rounds h_rank_rounds⟩
  have hM_rows : HasM P w K mg base CX0 4 (cGame K) "rows" ["self"] (spGRows K) := ⟨_, _, M_rows, B_rows, ok_grows T XG F_rows h_rank_rows hM_rounds⟩
  have hM_least : HasM P w K mg base CX0 5 (cGame K) "least" ["self"] (spGLeast K) := ⟨_, _, M_least, B_least, ok_gleast T XG F_least h_greatest_rank h_least_rank hM_rows⟩
  have h_one_guard := has_one_guard T X D_one_guard hG hP_places hM_kept hM_keep hM_sights h_bits_of h_single_bits
  have h_turns_needed := has_turns_needed T XG D_turns_needed h_one_guard hM_least
  have h_source := has_source (P := P) (w := w) (base := base) T D_law_source
  have h_draw := has_draw (P := P) (w := w) (base := base) T D_law_draw
  have h_mixed := has_mixed T D_law_mixed h_draw
  have h_pick := has_pick T D_law_pick h_draw
  have h_word := has_word T D_law_word h_draw h_pick
  have h_names := has_names D_law_names h_draw h_mixed h_word
  have h_pairs := has_pairs T D_law_pairs h_draw
  have h_plan := has_plan T D_law_plan h_draw h_mixed h_names h_pairs
  have h_web := has_law_web T D_law_web hW
  have h_near := has_law_near (P := P) (w := w) (base := base) T D_law_near
  have h_kept := has_law_kept T X I nf D_law_kept hP_places hP_ties hQ h_web
  exact has_law T X FL h_source h_plan h_web h_read_web h_web_text hQ hP_places hP_ties hM_without hM_parts hM_sees h_kept h_near h_turns_needed
end
end Pw

set_option Elab.async false
set_option linter.all false
set_option maxRecDepth 100000
set_option maxHeartbeats 4000000
namespace Pw
open PySem PySem.Spec PyProof.Rows L2 Ct
section
variable {P : Program} {w : World} {K : PySem.W.Frag} {mg : Str → Option Value} {base : Heap}
abbrev sE_BadPlaces : Stmt := inClass (top ix_BadPlaces) mx_BadPlaces_init
theorem scE_BadPlaces : FnScope ["self", "value"] ["self", "value"] (defScope sE_BadPlaces) := ⟨rfl, rfl, rfl, by decide +kernel, rfl, by decide +kernel, by decide +kernel⟩
theorem hE_BadPlaces {C fI : Addr} {fd : FuncData} (g : mg "BadPlaces" = some (.ref C)) (F : Fun K "__init__" "BadPlaces.__init__" sE_BadPlaces fI fd) (T : XCls K C fI) (no : PySem.W.findIn K (.ref C) "value" = some none) : HasE P w K mg base 1 "BadPlaces" C "value" := by
  refine ⟨g, fI, fd, T, F.ok scE_BadPlaces (fun vs H Q E h => ?_) (fun cdv A outer s H vs Q E hr h => ?_), F.binds fun _ _ _ _ _ _ us hl => match us, hl with | [_, _], _ => rfl⟩
  · obtain ⟨a, v, rfl, _⟩ := h; rfl
  · obtain ⟨a, v, rfl, ha, k⟩ := h
    exact ⟨_, pss_one (ps_ost (pv 0) (pv 1)), _, rfl, _, rfl, a, C, rfl, T.ox, no, .inl ⟨ha, fun dx n ne => k dx n ne⟩⟩
abbrev sE_BadTies : Stmt := inClass (top ix_BadTies) mx_BadTies_init
theorem scE_BadTies : FnScope ["self", "value"] ["self", "value"] (defScope sE_BadTies) := ⟨rfl, rfl, rfl, by decide +kernel, rfl, by decide +kernel, by decide +kernel⟩
theorem hE_BadTies {C fI : Addr} {fd : FuncData} (g : mg "BadTies" = some (.ref C)) (F : Fun K "__init__" "BadTies.__init__" sE_BadTies fI fd) (T : XCls K C fI) (no : PySem.W.findIn K (.ref C) "value" = some none) : HasE P w K mg base 1 "BadTies" C "value" := by
  refine ⟨g, fI, fd, T, F.ok scE_BadTies (fun vs H Q E h => ?_) (fun cdv A outer s H vs Q E hr h => ?_), F.binds fun _ _ _ _ _ _ us hl => match us, hl with | [_, _], _ => rfl⟩
  · obtain ⟨a, v, rfl, _⟩ := h; rfl
  · obtain ⟨a, v, rfl, ha, k⟩ := h
    exact ⟨_, pss_one (ps_ost (pv 0) (pv 1)), _, rfl, _, rfl, a, C, rfl, T.ox, no, .inl ⟨ha, fun dx n ne => k dx n ne⟩⟩
abbrev sE_BadTie : Stmt := inClass (top ix_BadTie) mx_BadTie_init
theorem scE_BadTie : FnScope ["self", "position"] ["self", "position"] (defScope sE_BadTie) := ⟨rfl, rfl, rfl, by decide +kernel, rfl, by decide +kernel, by decide +kernel⟩
theorem hE_BadTie {C fI : Addr} {fd : FuncData} (g : mg "BadTie" = some (.ref C)) (F : Fun K "__init__" "BadTie.__init__" sE_BadTie fI fd) (T : XCls K C fI) (no : PySem.W.findIn K (.ref C) "position" = some none) : HasE P w K mg base 1 "BadTie" C "position" := by
  refine ⟨g, fI, fd, T, F.ok scE_BadTie (fun vs H Q E h => ?_) (fun cdv A outer s H vs Q E hr h => ?_), F.binds fun _ _ _ _ _ _ us hl => match us, hl with | [_, _], _ => rfl⟩
  · obtain ⟨a, v, rfl, _⟩ := h; rfl
  · obtain ⟨a, v, rfl, ha, k⟩ := h
    exact ⟨_, pss_one (ps_ost (pv 0) (pv 1)), _, rfl, _, rfl, a, C, rfl, T.ox, no, .inl ⟨ha, fun dx n ne => k dx n ne⟩⟩
abbrev sE_NoPlace : Stmt := inClass (top ix_NoPlace) mx_NoPlace_init
theorem scE_NoPlace : FnScope ["self", "value"] ["self", "value"] (defScope sE_NoPlace) := ⟨rfl, rfl, rfl, by decide +kernel, rfl, by decide +kernel, by decide +kernel⟩
theorem hE_NoPlace {C fI : Addr} {fd : FuncData} (g : mg "NoPlace" = some (.ref C)) (F : Fun K "__init__" "NoPlace.__init__" sE_NoPlace fI fd) (T : XCls K C fI) (no : PySem.W.findIn K (.ref C) "value" = some none) : HasE P w K mg base 1 "NoPlace" C "value" := by
  refine ⟨g, fI, fd, T, F.ok scE_NoPlace (fun vs H Q E h => ?_) (fun cdv A outer s H vs Q E hr h => ?_), F.binds fun _ _ _ _ _ _ us hl => match us, hl with | [_, _], _ => rfl⟩
  · obtain ⟨a, v, rfl, _⟩ := h; rfl
  · obtain ⟨a, v, rfl, ha, k⟩ := h
    exact ⟨_, pss_one (ps_ost (pv 0) (pv 1)), _, rfl, _, rfl, a, C, rfl, T.ox, no, .inl ⟨ha, fun dx n ne => k dx n ne⟩⟩
abbrev sE_BadText : Stmt := inClass (top ix_BadText) mx_BadText_init
theorem scE_BadText : FnScope ["self", "line"] ["self", "line"] (defScope sE_BadText) := ⟨rfl, rfl, rfl, by decide +kernel, rfl, by decide +kernel, by decide +kernel⟩
theorem hE_BadText {C fI : Addr} {fd : FuncData} (g : mg "BadText" = some (.ref C)) (F : Fun K "__init__" "BadText.__init__" sE_BadText fI fd) (T : XCls K C fI) (no : PySem.W.findIn K (.ref C) "line" = some none) : HasE P w K mg base 1 "BadText" C "line" := by
  refine ⟨g, fI, fd, T, F.ok scE_BadText (fun vs H Q E h => ?_) (fun cdv A outer s H vs Q E hr h => ?_), F.binds fun _ _ _ _ _ _ us hl => match us, hl with | [_, _], _ => rfl⟩
  · obtain ⟨a, v, rfl, _⟩ := h; rfl
  · obtain ⟨a, v, rfl, ha, k⟩ := h
    exact ⟨_, pss_one (ps_ost (pv 0) (pv 1)), _, rfl, _, rfl, a, C, rfl, T.ox, no, .inl ⟨ha, fun dx n ne => k dx n ne⟩⟩
abbrev sG_places : Stmt := inClass (top ix_Web) mx_Web_places
theorem scG_places : FnScope ["self"] ["self"] (defScope sG_places) := ⟨rfl, rfl, rfl, by decide +kernel, rfl, by decide +kernel, by decide +kernel⟩
theorem hP_places {C p g : Addr} {fd : FuncData} (hp : PropOf K C "places" p g) (F : FunD K "places" "Web.places" (defArgs sG_places) (defBody sG_places) (defScope sG_places) [] [] g fd) (c : Cls K C) (n : NoAttr K C "_places") : HasP P w K mg base 1 C "places" (getSp C "_places") := by
  have b : Binds K fd ["self"] [] := FunD.bindsN (ps := ["self"]) F fun _ _ _ _ _ _ us hl => match us, hl with | [_], _ => rfl
  obtain ⟨oc, od, dV, kV, doc, pm, an, cdv, ct, osl, e, lk, hcd, _, _⟩ := id F.ex
  subst e
  exact ⟨p, g, _, hp, fn_getter lk hcd scG_places rfl rfl c n, b⟩
abbrev sG_ties : Stmt := inClass (top ix_Web) mx_Web_ties
theorem scG_ties : FnScope ["self"] ["self"] (defScope sG_ties) := ⟨rfl, rfl, rfl, by decide +kernel, rfl, by decide +kernel, by decide +kernel⟩
theorem hP_ties {C p g : Addr} {fd : FuncData} (hp : PropOf K C "ties" p g) (F : FunD K "ties" "Web.ties" (defArgs sG_ties) (defBody sG_ties) (defScope sG_ties) [] [] g fd) (c : Cls K C) (n : NoAttr K C "_ties") : HasP P w K mg base 1 C "ties" (getSp C "_ties") := by
  have b : Binds K fd ["self"] [] := FunD.bindsN (ps := ["self"]) F fun _ _ _ _ _ _ us hl => match us, hl with | [_], _ => rfl
  obtain ⟨oc, od, dV, kV, doc, pm, an, cdv, ct, osl, e, lk, hcd, _, _⟩ := id F.ex
  subst e
  exact ⟨p, g, _, hp, fn_getter lk hcd scG_ties rfl rfl c n, b⟩
end
open He in
theorem facts {P : Program} {w : World} {K : PySem.W.Frag} {h : Heap} {mg : Str → Option Value} {f : Addr} (X : K.In h) (G : h.Ns mainGlobals mg) (zfa : mg ("law" : Str) = some (.ref f)) (c : He.SaysD tFa tFn K) (cg : Ct.SaysG tGs K) (ce : hexA K = true) :
    ∃ fd : FuncData, (∀ (s : Shared) (v : Value), BindsTo s fd ⟨[v], []⟩ [("script", v)]) ∧ ∀ base : Heap, K.In base → base.Ns mainGlobals mg → (∃ mm, base.Ns sysModules mm) → GFn P w K mg base CX0 8 f fd ["script"] (spLaw K) := by
  obtain ⟨fd, FL0⟩ := c.def_ 0 (d := dM "law" sLaw) rfl
  have e := zfa.symm.trans (glo_ok X G (c.fact 0 (f := .glo "law") rfl))
  cases e
  have b := FunD.bindsA (ps := ["script"]) FL0 fun _ _ _ _ _ _ us hl => match us, hl with | [_], _ => rfl
  have FL : Fun K "law" "law" sLaw (ga K "law") fd := fun_of FL0
  refine ⟨fd, fun s v => b s [v] rfl, fun base KB _ SB => ?_⟩
  have T : Bn mg := ⟨(free_ok X G (c.fact 1 (f := .free "int") rfl)), (free_ok X G (c.fact 2 (f := .free "str") rfl)), (free_ok X G (c.fact 3 (f := .free "bool") rfl)), (free_ok X G (c.fact 4 (f := .free "len") rfl)), (free_ok X G (c.fact 5 (f := .free "range") rfl)), (free_ok X G (c.fact 6 (f := .free "max") rfl)), (free_ok X G (c.fact 7 (f := .free "min") rfl)), (free_ok X G (c.fact 8 (f := .free "isinstance") rfl)), (free_ok X G (c.fact 9 (f := .free "list") rfl)), (free_ok X G (c.fact 10 (f := .free "tuple") rfl)), (free_ok X G (c.fact 11 (f := .free "set") rfl)), (free_ok X G (c.fact 12 (f := .free "dict") rfl)), (free_ok X G (c.fact 13 (f := .free "repr") rfl)), (free_ok X G (c.fact 14 (f := .free "all") rfl)), (free_ok X G (c.fact 15 (f := .free "any") rfl)), (free_ok X G (c.fact 16 (f := .free "sorted") rfl)), (free_ok X G (c.fact 17 (f := .free "enumerate") rfl)), (free_ok X G (c.fact 18 (f := .free "zip") rfl)), (free_ok X G (c.fact 19 (f := .free "sum") rfl)), (free_ok X G (c.fact 20 (f := .free "reversed") rfl))⟩
  have M : Mc mg := ⟨(int_ok X G (c.fact 21 (f := .int "MOST_PLACES" 12) rfl)), (int_ok X G (c.fact 22 (f := .int "MOST_LETTERS" 8) rfl)), (str_ok X G (c.fact 23 (f := .str "LETTERS" "abcdefghijklmnopqrstuvwxyz") rfl))⟩
  obtain ⟨X_BadPlaces, n_BadPlaces⟩ := xclB_ok (x := "BadPlaces") (f := "value") (show (fun K => Ct.genB K) K = true from exs_at ce 0 rfl) (show (fun K => Ct.xclB K "BadPlaces" "value") K = true from exs_at ce 1 rfl)
  obtain ⟨fd_BadPlaces, F_BadPlaces⟩ := fun_at c 1 (C := "BadPlaces") (m := "__init__") (q := "BadPlaces.__init__") (st := sE_BadPlaces) rfl
  have E_BadPlaces : HasE P w K mg base 1 "BadPlaces" (ga K "BadPlaces") "value" := hE_BadPlaces (glo_ok X G (c.fact 24 (f := .glo "BadPlaces") rfl)) F_BadPlaces X_BadPlaces n_BadPlaces
  obtain ⟨X_BadTies, n_BadTies⟩ := xclB_ok (x := "BadTies") (f := "value") (show (fun K => Ct.genB K) K = true from exs_at ce 0 rfl) (show (fun K => Ct.xclB K "BadTies" "value") K = true from exs_at ce 2 rfl)
  obtain ⟨fd_BadTies, F_BadTies⟩ := fun_at c 2 (C := "BadTies") (m := "__init__") (q := "BadTies.__init__") (st := sE_BadTies) rfl
  have E_BadTies : HasE P w K mg base 1 "BadTies" (ga K "BadTies") "value" := hE_BadTies (glo_ok X G (c.fact 25 (f := .glo "BadTies") rfl)) F_BadTies X_BadTies n_BadTies
  obtain ⟨X_BadTie, n_BadTie⟩ := xclB_ok (x := "BadTie") (f := "position") (show (fun K => Ct.genB K) K = true from exs_at ce 0 rfl) (show (fun K => Ct.xclB K "BadTie" "position") K = true from exs_at ce 3 rfl)
  obtain ⟨fd_BadTie, F_BadTie⟩ := fun_at c 3 (C := "BadTie") (m := "__init__") (q := "BadTie.__init__") (st := sE_BadTie) rfl
  have E_BadTie : HasE P w K mg base 1 "BadTie" (ga K "BadTie") "position" := hE_BadTie (glo_ok X G (c.fact 26 (f := .glo "BadTie") rfl)) F_BadTie X_BadTie n_BadTie
  obtain ⟨X_NoPlace, n_NoPlace⟩ := xclB_ok (x := "NoPlace") (f := "value") (show (fun K => Ct.genB K) K = true from exs_at ce 0 rfl) (show (fun K => Ct.xclB K "NoPlace" "value") K = true from exs_at ce 4 rfl)
  obtain ⟨fd_NoPlace, F_NoPlace⟩ := fun_at c 4 (C := "NoPlace") (m := "__init__") (q := "NoPlace.__init__") (st := sE_NoPlace) rfl
  have E_NoPlace : HasE P w K mg base 1 "NoPlace" (ga K "NoPlace") "value" := hE_NoPlace (glo_ok X G (c.fact 27 (f := .glo "NoPlace") rfl)) F_NoPlace X_NoPlace n_NoPlace
  obtain ⟨X_BadText, n_BadText⟩ := xclB_ok (x := "BadText") (f := "line") (show (fun K => Ct.genB K) K = true from exs_at ce 0 rfl) (show (fun K => Ct.xclB K "BadText" "line") K = true from exs_at ce 5 rfl)
  obtain ⟨fd_BadText, F_BadText⟩ := fun_at c 5 (C := "BadText") (m := "__init__") (q := "BadText.__init__") (st := sE_BadText) rfl
  have E_BadText : HasE P w K mg base 1 "BadText" (ga K "BadText") "line" := hE_BadText (glo_ok X G (c.fact 28 (f := .glo "BadText") rfl)) F_BadText X_BadText n_BadText
  have c1 : Cls K (ga K "Web") := (cls_ok (c.fact 29 (f := .cls "Web") rfl))
  have WX : WC K (ga K "Web") := ⟨c1, (noat_ok (c.fact 30 (f := .noat "Web" "_places") rfl)), (noat_ok (c.fact 31 (f := .noat "Web" "_ties") rfl)), (noat_ok (c.fact 32 (f := .noat "Web" "_sights") rfl)), (noat_ok (c.fact 33 (f := .noat "Web" "_seen") rfl)), (noat_ok (c.fact 34 (f := .noat "Web" "_kept") rfl)), (noat_ok (c.fact 35 (f := .noat "Web" "_sorted_places") rfl)), (noat_ok (c.fact 36 (f := .noat "Web" "_sorted_pairs") rfl))⟩
  obtain ⟨fd_places, FG_places⟩ := cg.at 0 (d := Ct.dG "Web" "places" "Web.places" sG_places) rfl
  have P_places : HasP P w K mg base 1 (ga K "Web") "places" (getSp (ga K "Web") "_places") := hP_places (prB_ok (show (fun K => Ct.prB K "Web" "places") K = true from exs_at ce 6 rfl)) FG_places c1 WX.n1
  obtain ⟨fd_ties, FG_ties⟩ := cg.at 1 (d := Ct.dG "Web" "ties" "Web.ties" sG_ties) rfl
  have P_ties : HasP P w K mg base 1 (ga K "Web") "ties" (getSp (ga K "Web") "_ties") := hP_ties (prB_ok (show (fun K => Ct.prB K "Web" "ties") K = true from exs_at ce 7 rfl)) FG_ties c1 WX.n2
  obtain ⟨d_named, F_named⟩ := fun_at c 6 (C := "Web") (m := "named") (q := "Web.named") (st := sNamed) rfl
  have B_named : Binds K d_named ["self", "number"] [] := F_named.binds fun _ _ _ _ _ _ us hl => match us, hl with | [_, _], _ => rfl
  have M_named := (meth_ok (c.fact 37 (f := .meth "Web" "named") rfl))
  obtain ⟨d_sees, F_sees⟩ := fun_at c 7 (C := "Web") (m := "sees") (q := "Web.sees") (st := sSees) rfl
  have B_sees : Binds K d_sees ["self", "place"] [] := F_sees.binds fun _ _ _ _ _ _ us hl => match us, hl with | [_, _], _ => rfl
  have M_sees := (meth_ok (c.fact 38 (f := .meth "Web" "sees") rfl))
  obtain ⟨d_part_of, F_part_of⟩ := fun_at c 8 (C := "Web") (m := "_part_of") (q := "Web._part_of") (st := sPartOf) rfl
  have B_part_of : Binds K d_part_of ["self", "start"] [] := F_part_of.binds fun _ _ _ _ _ _ us hl => match us, hl with | [_, _], _ => rfl
  have M_part_of := (meth_ok (c.fact 39 (f := .meth "Web" "_part_of") rfl))
  obtain ⟨d_parts, F_parts⟩ := fun_at c 9 (C := "Web") (m := "parts") (q := "Web.parts") (st := sParts) rfl
  have B_parts : Binds K d_parts ["self"] [] := F_parts.binds fun _ _ _ _ _ _ us hl => match us, hl with | [_], _ => rfl
  have M_parts := (meth_ok (c.fact 40 (f := .meth "Web" "parts") rfl))
  obtain ⟨d_without, F_without⟩ := fun_at c 10 (C := "Web") (m := "without") (q := "Web.without") (st := sWithout) rfl
  have B_without : Binds K d_without ["self", "places"] [] := F_without.binds fun _ _ _ _ _ _ us hl => match us, hl with | [_, _], _ => rfl
  have M_without := (meth_ok (c.fact 41 (f := .meth "Web" "without") rfl))
  obtain ⟨d_kept, F_kept⟩ := fun_at c 11 (C := "Web") (m := "kept") (q := "Web.kept") (st := sKept) rfl
  have B_kept : Binds K d_kept ["self", "key"] [] := F_kept.binds fun _ _ _ _ _ _ us hl => match us, hl with | [_, _], _ => rfl
  have M_kept := (meth_ok (c.fact 42 (f := .meth "Web" "kept") rfl))
  obtain ⟨d_keep, F_keep⟩ := fun_at c 12 (C := "Web") (m := "keep") (q := "Web.keep") (st := sKeep) rfl
  have B_keep : Binds K d_keep ["self", "key", "value"] [] := F_keep.binds fun _ _ _ _ _ _ us hl => match us, hl with | [_, _, _], _ => rfl
  have M_keep := (meth_ok (c.fact 43 (f := .meth "Web" "keep") rfl))
  obtain ⟨d_sights, F_sights⟩ := fun_at c 13 (C := "Web") (m := "sights") (q := "Web.sights") (st := sSightsOf) rfl
  have B_sights : Binds K d_sights ["self"] [] := F_sights.binds fun _ _ _ _ _ _ us hl => match us, hl with | [_], _ => rfl
  have M_sights := (meth_ok (c.fact 44 (f := .meth "Web" "sights") rfl))
  have c2 : Cls K (cGame K) := (cls_ok (c.fact 45 (f := .cls "Game") rfl))
  have GX : GC K := ⟨c2, (noat_ok (c.fact 46 (f := .noat "Game" "names") rfl)), (noat_ok (c.fact 47 (f := .noat "Game" "stands") rfl)), (noat_ok (c.fact 48 (f := .noat "Game" "ways") rfl)), (noat_ok (c.fact 49 (f := .noat "Game" "held") rfl)), (noat_ok (c.fact 50 (f := .noat "Game" "steps") rfl)), (noat_ok (c.fact 51 (f := .noat "Game" "_rounds") rfl)), (noat_ok (c.fact 52 (f := .noat "Game" "_rows") rfl)), (noat_ok (c.fact 53 (f := .noat "Game" "_standings") rfl))⟩
  obtain ⟨d_gi, F_gi⟩ := fun_at c 14 (C := "Game") (m := "__init__") (q := "Game.__init__") (st := sGInit) rfl
  have B_gi : Binds K d_gi ["self", "names", "stands", "ways", "held", "steps"] [] := F_gi.binds fun _ _ _ _ _ _ us hl => match us, hl with | [_, _, _, _, _, _], _ => rfl
  have MKG := (mkr_ok (c.fact 54 (f := .mkr "Game") rfl))
  obtain ⟨d_rounds, F_rounds⟩ := fun_at c 15 (C := "Game") (m := "rounds") (q := "Game.rounds") (st := sGRounds) rfl
  have B_rounds : Binds K d_rounds ["self"] [] := F_rounds.binds fun _ _ _ _ _ _ us hl => match us, hl with | [_], _ => rfl
  have M_rounds := (meth_ok (c.fact 55 (f := .meth "Game" "rounds") rfl))
  obtain ⟨d_rows, F_rows⟩ := fun_at c 16 (C := "Game") (m := "rows") (q := "Game.rows") (st := sGRows) rfl
  have B_rows : Binds K d_rows ["self"] [] := F_rows.binds fun _ _ _ _ _ _ us hl => match us, hl with | [_], _ => rfl
  have M_rows := (meth_ok (c.fact 56 (f := .meth "Game" "rows") rfl))
  obtain ⟨d_least, F_least⟩ := fun_at c 17 (C := "Game") (m := "least") (q := "Game.least") (st := sGLeast) rfl
  have B_least : Binds K d_least ["self"] [] := F_least.binds fun _ _ _ _ _ _ us hl => match us, hl with | [_], _ => rfl
  have M_least := (meth_ok (c.fact 57 (f := .meth "Game" "least") rfl))
  obtain ⟨d_init, F_init0⟩ := c.def_ 18 (d := ⟨("Web", some "__init__"), "__init__", "Web.__init__", defArgs sInit, defBody sInit, defScope sInit, [.adr (He.dflAt ("Web", some "__init__") 0)], []⟩) rfl
  have F_init : FunD K "__init__" "Web.__init__" (defArgs sInit) (defBody sInit) (defScope sInit) [.ref (He.dflAt ("Web", some "__init__") 0 K)] [] (ma K (ga K "Web") "__init__") d_init := F_init0
  obtain ⟨ds1, V1, B1⟩ := FunD.binds1 (ps := ["self", "places", "ties"]) F_init 3 1 (by simp) rfl (fun _ _ _ _ _ _ _ us its hl h2 => match us, hl, its, h2 with | [_, _, _], _, [_], _ => ⟨fun _ => _, rfl, rfl⟩)
  obtain ⟨dv, V0, B0⟩ := FunD.binds1 (ps := ["self", "places", "ties"]) F_init 2 0 (by simp) rfl (fun _ _ _ _ _ _ _ us its hl h2 => match us, hl, its, h2 with | [_, _], _, [_], _ => ⟨_, rfl, rfl⟩)
  cases V1
  obtain ⟨o0, n0, l0, c0, s0⟩ := emptyB_ok (show (fun K => Ct.emptyB K (He.dflAt ("Web", some "__init__") 0 K)) K = true from exs_at ce 8 rfl)
  have MK := (mkr_ok (c.fact 58 (f := .mkr "Web") rfl))
  obtain ⟨g1, g2⟩ := ba (show (fun K => Ct.genB K) K = true from exs_at ce 0 rfl)
  obtain ⟨w1, w2⟩ := ba (show (fun K => Ct.clsB K "Web") K = true from exs_at ce 9 rfl)
  have I : WI K (ga K "Web") := ⟨eqO_ok w1, eqO_ok g1, of_decide_eq_true g2, of_decide_eq_true w2, of_decide_eq_true (show (fun K => Ct.isB K "Web" (.ref (He.ga K "Web")) true) K = true from exs_at ce 10 rfl)⟩
  obtain ⟨d_eq, F_eq⟩ := fun_at c 19 (C := "Web") (m := "__eq__") (q := "Web.__eq__") (st := sEqW) rfl
  have B_eq : Binds K d_eq ["self", "other"] [] := F_eq.binds fun _ _ _ _ _ _ us hl => match us, hl with | [_, _], _ => rfl
  have nf : PySem.W.notFirst K (ga K "Web") (.ref (ga K "Web")) = true := (show (fun K => PySem.W.notFirst K (He.ga K "Web") (.ref (He.ga K "Web"))) K = true from exs_at ce 11 rfl)
  exact law_all T
    M
    WX
    (glo_ok X G (c.fact 59 (f := .glo "Web") rfl))
    SB
    E_BadPlaces
    E_BadTies
    E_BadTie
    E_NoPlace
    E_BadText
    P_places
    P_ties
    nf
    (dfe_of (nm := "is_name") (st := sIsName) (ps := ["value"]) X G c 20 60 rfl rfl fun _ _ _ _ _ _ us hl => match us, hl with | [_], _ => rfl)
    (dfe_of (nm := "_all_differ") (st := sAllDiffer) (ps := ["names"]) X G c 21 61 rfl rfl fun _ _ _ _ _ _ us hl => match us, hl with | [_], _ => rfl)
    (dfe_of (nm := "_is_tie") (st := sIsTie) (ps := ["places", "value"]) X G c 22 62 rfl rfl fun _ _ _ _ _ _ us hl => match us, hl with | [_, _], _ => rfl)
    (dfe_of (nm := "_pair") (st := sPair) (ps := ["tie"]) X G c 23 63 rfl rfl fun _ _ _ _ _ _ us hl => match us, hl with | [_], _ => rfl)
    (dfe_of (nm := "_check_places") (st := sCheckPlaces) (ps := ["places"]) X G c 24 64 rfl rfl fun _ _ _ _ _ _ us hl => match us, hl with | [_], _ => rfl)
    (dfe_of (nm := "_check_ties") (st := sCheckTies) (ps := ["places", "known", "ties"]) X G c 25 65 rfl rfl fun _ _ _ _ _ _ us hl => match us, hl with | [_, _, _], _ => rfl)
    (dfe_of (nm := "bits_of") (st := sBitsOf) (ps := ["number"]) X G c 26 66 rfl rfl fun _ _ _ _ _ _ us hl => match us, hl with | [_], _ => rfl)
    F_named
    B_named
    M_named
    (dfe_of (nm := "_sights") (st := sSights) (ps := ["places", "ties"]) X G c 27 67 rfl rfl fun _ _ _ _ _ _ us hl => match us, hl with | [_, _], _ => rfl)
    F_init
    B1
    B0
    V0
    l0
    c0
    s0
    MK
    (dfe_of (nm := "is_place") (st := sIsPlace) (ps := ["web", "value"]) X G c 28 68 rfl rfl fun _ _ _ _ _ _ us hl => match us, hl with | [_, _], _ => rfl)
    (dfe_of (nm := "check_place") (st := sCheckPlace) (ps := ["web", "value"]) X G c 29 69 rfl rfl fun _ _ _ _ _ _ us hl => match us, hl with | [_, _], _ => rfl)
    (dfe_of (nm := "are_places") (st := sArePlaces) (ps := ["web", "value"]) X G c 30 70 rfl rfl fun _ _ _ _ _ _ us hl => match us, hl with | [_, _], _ => rfl)
    F_sees
    B_sees
    M_sees
    F_part_of
    B_part_of
    M_part_of
    F_parts
    B_parts
    M_parts
    F_without
    B_without
    M_without
    I
    F_eq
    B_eq
    (eqcB_ok (show (fun K => Ct.eqcB K "Web") K = true from exs_at ce 12 rfl))
    (dfe_of (nm := "web_text") (st := sWebText) (ps := ["web"]) X G c 31 71 rfl rfl fun _ _ _ _ _ _ us hl => match us, hl with | [_], _ => rfl)
    (dfe_of (nm := "_is_next_place") (st := sIsNextPlace) (ps := ["places", "words"]) X G c 32 72 rfl rfl fun _ _ _ _ _ _ us hl => match us, hl with | [_, _], _ => rfl)
    (dfe_of (nm := "_is_next_tie") (st := sIsNextTie) (ps := ["places", "tied", "words"]) X G c 33 73 rfl rfl fun _ _ _ _ _ _ us hl => match us, hl with | [_, _, _], _ => rfl)
    (dfe_of (nm := "read_web") (st := sReadWeb) (ps := ["text"]) X G c 34 74 rfl rfl fun _ _ _ _ _ _ us hl => match us, hl with | [_], _ => rfl)
    F_kept
    B_kept
    M_kept
    F_keep
    B_keep
    M_keep
    F_sights
    B_sights
    M_sights
    (dfe_of (nm := "united") (st := sUnited) (ps := ["numbers", "chosen"]) X G c 35 75 rfl rfl fun _ _ _ _ _ _ us hl => match us, hl with | [_, _], _ => rfl)
    (dfe_of (nm := "lost_runners") (st := sLostRunners) (ps := ["steps", "won"]) X G c 36 76 rfl rfl fun _ _ _ _ _ _ us hl => match us, hl with | [_, _], _ => rfl)
    (dfe_of (nm := "_single_bits") (st := sSingleBits) (ps := ["sights"]) X G c 37 77 rfl rfl fun _ _ _ _ _ _ us hl => match us, hl with | [_], _ => rfl)
    (dfe_of (nm := "greatest_rank") (st := sGreatestRank) (ps := ["ranks"]) X G c 38 78 rfl rfl fun _ _ _ _ _ _ us hl => match us, hl with | [_], _ => rfl)
    (dfe_of (nm := "least_rank") (st := sLeastRank) (ps := ["ranks"]) X G c 39 79 rfl rfl fun _ _ _ _ _ _ us hl => match us, hl with | [_], _ => rfl)
    (dfe_of (nm := "rank_rounds") (st := sRankRounds) (ps := ["ways", "held", "steps"]) X G c 40 80 rfl rfl fun _ _ _ _ _ _ us hl => match us, hl with | [_, _, _], _ => rfl)
    (dfe_of (nm := "rank_rows") (st := sRankRows) (ps := ["rounds", "places"]) X G c 41 81 rfl rfl fun _ _ _ _ _ _ us hl => match us, hl with | [_, _], _ => rfl)
    GX
    (glo_ok X G (c.fact 82 (f := .glo "Game") rfl))
    F_gi
    B_gi
    MKG
    F_rounds
    B_rounds
    M_rounds
    F_rows
    B_rows
    M_rows
    F_least
    B_least
    M_least
    (dfe_of (nm := "one_guard") (st := sOneGuard) (ps := ["web"]) X G c 42 83 rfl rfl fun _ _ _ _ _ _ us hl => match us, hl with | [_], _ => rfl)
    (dfe_of (nm := "turns_needed") (st := sTurnsNeeded) (ps := ["web"]) X G c 43 84 rfl rfl fun _ _ _ _ _ _ us hl => match us, hl with | [_], _ => rfl)
    (dfe_of (nm := "_law_source") (st := sSource) (ps := ["script", "start"]) X G c 44 85 rfl rfl fun _ _ _ _ _ _ us hl => match us, hl with | [_, _], _ => rfl)
    (dfe_of (nm := "_law_draw") (st := sDraw) (ps := ["source", "span"]) X G c 45 86 rfl rfl fun _ _ _ _ _ _ us hl => match us, hl with | [_, _], _ => rfl)
    (dfe_of (nm := "_law_mixed") (st := sLawMixed) (ps := ["source", "things"]) X G c 46 87 rfl rfl fun _ _ _ _ _ _ us hl => match us, hl with | [_, _], _ => rfl)
    (dfe_of (nm := "_law_pick") (st := sPick) (ps := ["source", "things"]) X G c 47 88 rfl rfl fun _ _ _ _ _ _ us hl => match us, hl with | [_, _], _ => rfl)
    (dfe_of (nm := "_law_word") (st := sLawWord) (ps := ["source"]) X G c 48 89 rfl rfl fun _ _ _ _ _ _ us hl => match us, hl with | [_], _ => rfl)
    (dfe_of (nm := "_law_names") (st := sLawNames) (ps := ["source", "many"]) X G c 49 90 rfl rfl fun _ _ _ _ _ _ us hl => match us, hl with | [_, _], _ => rfl)
    (dfe_of (nm := "_law_pairs") (st := sLawPairs) (ps := ["source", "many", "kind"]) X G c 50 91 rfl rfl fun _ _ _ _ _ _ us hl => match us, hl with | [_, _, _], _ => rfl)
    (dfe_of (nm := "_law_plan") (st := sLawPlan) (ps := ["source", "most"]) X G c 51 92 rfl rfl fun _ _ _ _ _ _ us hl => match us, hl with | [_, _], _ => rfl)
    (dfe_of (nm := "_law_web") (st := sLawWeb) (ps := ["plan"]) X G c 52 93 rfl rfl fun _ _ _ _ _ _ us hl => match us, hl with | [_], _ => rfl)
    (dfe_of (nm := "_law_near") (st := sLawNear) (ps := ["plan"]) X G c 53 94 rfl rfl fun _ _ _ _ _ _ us hl => match us, hl with | [_], _ => rfl)
    (dfe_of (nm := "_law_kept") (st := sLawKept) (ps := ["web", "plan"]) X G c 54 95 rfl rfl fun _ _ _ _ _ _ us hl => match us, hl with | [_, _], _ => rfl)
    FL
end Pw
open PySem PySem.W PySem.Calls PyProof.Rows
set_option maxRecDepth 100000 in
set_option maxHeartbeats 0 in
theorem PySem.Challenge.cw_cornerturn_k55_texts_of_webs_holds : PySem.Challenge.rw_cornerturn_k55_texts_of_webs.Holds := by
  w_on; o_law
  refine HandSHeadRun.head_any (r := OpenLaw.row PySem.Challenge.rw_cornerturn_k55_texts_of_webs) (q := view (OpenLaw.row PySem.Challenge.rw_cornerturn_k55_texts_of_webs).prog [55]) (H := Pw.hk) (ob := Pw.hob) (M := 12000) (loose := Pw.hnames) (d := HandSHeadRun.topDef (OpenLaw.row PySem.Challenge.rw_cornerturn_k55_texts_of_webs).prog 55) (kwd := []) Pw.hob_eq
    (by kernel_rfl) (fun s => by kernel_rfl) Pw.hrun (by kernel_rfl) (by kernel_rfl) (by kernel_rfl) (by rfl) (by first | assumption | decide +kernel) (by decide +kernel) ⟨rfl, rfl, rfl, rfl, rfl, by decide +kernel⟩ ?hw ?hc
  case hw => w_witness2
  case hc =>
    refine Ct.walk_gE (l := PySem.Challenge.rw_cornerturn_k55_texts_of_webs) (n := 63) (k := 8) (x := "script") (CX := L2.CX0) rfl (by decide +kernel) (by decide) (by kernel_rfl) ⟨rfl, by decide, by decide⟩ ?F (fun _ _ _ _ z => z)
    intro w mg fa h Y G hmg0
    obtain ⟨K, KX, c, cg, ce⟩ := Y
    have hmg : mg ("law" : PySem.Str) = some (.ref fa) := by
      have e : (HandSHeadRun.topDef (OpenLaw.row PySem.Challenge.rw_cornerturn_k55_texts_of_webs).prog 55).name = ("law" : PySem.Str) := by kernel_rfl
      rw [← e]
      exact hmg0
    obtain ⟨fd, hb, hF⟩ := Pw.facts (P := (PySem.Challenge.rw_cornerturn_k55_texts_of_webs).prog) (w := w) KX G hmg c cg ce
    exact ⟨K, fd, Pw.spLaw K, KX, hb, fun H a ns hl hz on hS => ⟨a, ns, rfl, on, hS, hl, hz, fun _ => rfl⟩, hF⟩
#print axioms PySem.Challenge.cw_cornerturn_k55_texts_of_webs_holds
