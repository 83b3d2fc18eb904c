import PyProof.Rows.All
import Wide.All
import OpenK.AllK
import Wide.FinOn
import PyProof.ReprRoads
import HandS.ForExc
import HandS.ForMost
import HandS.EndBits
import HandS.Wide
import HandS.ExcInit
import HandS.IsInst
import HandS.ExcIs
import KE.KExcIs
import HandS.Defaults
import HandS.Comp
import HandS.TupSets
import HandS.SetKeys
import HandS.SetBool
import HandS.Strs
import KE.GoesMore
import KE.SortData
import HandS.Walk
import HandS.Property
import HandS.DictComp
import HandS.WideBits
import HandS.More
import HandS.Deep
import HandS.Zip
import HandS.TupAny
import PyProof.NeKinds
import HandS.Exc
import HandS.TryMany
import KE.KDictDisplayH
import HandS.Text
import PyProof.StrLawsRepr
import HandS.Style
import HandS.OwnEq
import PyProof.Rows.ReprShort
import HandS.Head0
import HandS.Head1
import HandS.Head2
import HandS.HeadEnd
import HandS.HeadHook1
import HandS.HeadHook2
import HandS.Call
import PySem.Challenge.RW_cornerturn_k01_webs_made_and_refused
set_option Elab.async false
set_option linter.all false
set_option maxRecDepth 100000
set_option maxHeartbeats 2000000
/-! Own kit A: defs whose promise leans on there being no guard on the stack (repr); the end of a law with such a def. -/
namespace Ct
open PySem PySem.Spec PyProof.Rows L2
/-- a def's promise where no guard stands on the stack -/
structure GFn (P : Program) (w : World) (K : PySem.W.Frag) (mg : Str → Option Value) (base : Heap) (CX : CXT) (k : Nat) (f : Addr) (fd : FuncData) (ps : List Str) (sp : Sp) : Prop where
  len : ∀ vs H Q E, sp vs H Q E → vs.length = ps.length
  run : ∀ (A : Around) (o : List Env) (s : Shared) (H : Hp) (ar : Args) (us : List Value) (vs : List V) (Q : VK) (E : XK), A.guards = some [] → Room k A → Env0 P w K mg base A o s H →
    BindsTo s fd ar (ps.zip us) → Vals vs us → sp vs H Q E → codeAny (model P w) A (.call (.ref f) ar) (CR CX o P w H s Q E) s
theorem GFn.of {P : Program} {w : World} {K : PySem.W.Frag} {mg : Str → Option Value} {base : Heap} {CX : CXT} {k : Nat} {f : Addr} {fd : FuncData} {ps : List Str} {sp : Sp}
    (F : FnOk P w K mg base CX k f fd ps sp) : GFn P w K mg base CX k f fd ps sp := ⟨F.len, fun A o s H ar us vs Q E _ => F.run A o s H ar us vs Q E⟩
theorem GFn.mono {P : Program} {w : World} {K : PySem.W.Frag} {mg : Str → Option Value} {base : Heap} {CX : CXT} {j k : Nat} {f : Addr} {fd : FuncData} {ps : List Str} {sp : Sp}
    (F : GFn P w K mg base CX j f fd ps sp) (h : j ≤ k) : GFn P w K mg base CX k f fd ps sp := ⟨F.len, fun A o s H ar us vs Q E g r => F.run A o s H ar us vs Q E g (r.mono h)⟩
section
variable {P : Program} {w : World} {K : PySem.W.Frag} {mg : Str → Option Value} {base : Heap} {CX : CXT}
/-- the rule for such a def -/
theorem gfn_of {x qual : Str} {st : Stmt} {f : Addr} {fd : FuncData} {N ps : List Str} {k : Nat} {sp : Sp} (F : Fun K x qual st f fd) (S : FnScope N ps (defScope st)) (len : ∀ vs H Q E, sp vs H Q E → vs.length = ps.length)
    (body : ∀ (cdv : Value) (A : Around) (o : List Env) (s : Shared) (H : Hp) (vs : List V) (Q : VK) (E : XK), A.guards = some [] → Room k (A.deeper (envOfC qual (defScope st) s.heap.objs.size f cdv)) → sp vs H Q E →
      ∃ t, PSs (cxOf CX P w K mg base N qual (defScope st) f cdv A o s H E) (defBody st) t ∧ t { nx := fun _ H' => Q .non H', rt := Q } (start N vs) H) : GFn P w K mg base CX (k + 1) f fd ps sp := by
  obtain ⟨oc, od, kV, doc, pm, an, cdv, ct, osl, rfl, lk, hcd⟩ := F.ex
  refine ⟨len, ?_⟩
  intro A o s H ar us vs Q E g hr e0 hb rel hsp
  have kb : ∀ b u, base.get? b = some u → s.heap.get? b = some u := fun b u e => (e0.bs b u e).1
  have KX := e0.mod.kin.keeps kb
  have lim := e0.mod.nolimit.keeps kb
  refine codeAny_call_function hr.depth (KX _ _ lk) rfl S.co S.gen rfl (PySem.W.codeRec_of KX hcd) (hb _ _ _ _ ?_)
  refine wpAny_newFunctionEnv_cells S.kind (fun ⟨n, v⟩ hy => ?_) fun env he s1 ic => ?_
  · cases S.par n (List.of_mem_zip hy).1 with
    | inl q => exact Or.inl q
    | inr q => exact Or.inr ⟨q, PySem.W.cellsFrom_some _ _ _ (Or.inl q)⟩
  cases he
  refine ⟨lim.keeps ic.toInCall.keep, codeAny_func ?_⟩
  obtain ⟨t, ht, hq⟩ := body cdv A o s H vs Q E g (hr.deeper _) hsp
  have I := inv_start (CX := CX) (P := P) (w := w) (K := K) (mg := mg) (base := base) (E := E) S hr.hd e0 (len _ _ _ _ hsp) rel ic
  refine wpAny_mono (ht.run [] s1 (start N vs) H _ I hq) ?_ (fun e s' z => z)
  intro fl s' z
  cases fl with
  | ret u => obtain ⟨v, σ', H', J, rv, q⟩ := z; exact ⟨v, H', J.os, J.bare, J.base, J.hok, rv, q⟩
  | next => obtain ⟨σ', H', J, q⟩ := z; exact ⟨.non, H', J.os, J.bare, J.base, J.hok, rfl, q⟩
  | brk => obtain ⟨_, _, _, q⟩ := z; exact q.elim
  | cont => obtain ⟨_, _, _, q⟩ := z; exact q.elim
end
section
variable {X : Cx} {CX : CXT} {k : Nat} {f : Addr} {fd : FuncData} {ps : List Str} {sp : Sp} {dvs : List V} {ds : List Value} {E : XK} {x : Str} {p pos : Pos} {e : Expr} {es : List Expr} {t : TA}
theorem run_g {pins : List (Addr × Obj)} {σ : L2.St} {H : Hp} {s : Shared} {Q : VK} {us : List Value} {vs : List V} (F : GFn X.prog X.w X.K X.mg X.base CX k f fd ps sp) (g : X.A.guards = some []) (hr : Room k X.A) (hb : Binds X.K fd ps ds) (hd : Vals dvs ds)
    (hx : Passes CX X E) (I : Inv X pins σ H s) (r : Vals vs us) (h : sp (vs ++ dvs) H Q E) : wpAny (model X.prog X.w) X.A (call (.ref f) us) (EP X pins σ Q) X.xe s := by
  have r2 := r.append hd
  refine wpAny_call (codeAny_mono (F.run X.A X.stack s H ⟨us, []⟩ (us ++ ds) (vs ++ dvs) Q E g hr I.env0 (hb s us I.kIn (by rw [← r2.length]; exact F.len _ _ _ _ h)) r2 h) ?_)
  intro r s' z
  match r, z with
  | .error e, z => exact hx pins σ H s e s' I z
  | .ok (.ret u), z => exact I.after z
  | .ok .next, z => exact False.elim z
  | .ok .brk, z => exact False.elim z
  | .ok .cont, z => exact False.elim z
/-- a call of such a def -/
theorem pe_callG (F : GFn X.prog X.w X.K X.mg X.base CX k f fd ps sp) (g : X.A.guards = some []) (hr : Room k X.A) (hg : Gl X x) (hm : X.mg x = some (.ref f)) (hk : PySem.W.keepIn X.K (.ref f) = true) (hb : Binds X.K fd ps ds) (hd : Vals dvs ds) (hx : Passes CX X E)
    (ha : PA X (e :: es) t) (hdb : (x == ("__debug__" : Str)) = false := by decide) (he : starEach (e :: es) X.env = (false, eval e X.env) :: starEach es X.env := by rfl) (hpl : (backTo pos (starEach es X.env)).any (·.1) = false := by rfl) :
    PE X (.Call (.Name x p) (e :: es) [] pos) (tCall sp dvs E t) := by
  constructor
  intro pins s σ H Q I h
  refine wpAny_Call_Name_kw (ld_glob I hg hm ?_ hdb)
  refine PySem.W.callWith_K (h₀ := X.base) I.ok.mod.kin hk (thn (ha.run pos pins s σ H _ I h) ?_) he hpl
  rintro us s1 ⟨vs, H1, I1, r, q⟩
  exact ⟨I1.kIn, run_g F g hr hb hd hx I1 r q⟩
end
/-! the law's own end -/
/-- the abstract heap that tracks the script alone -/
def hpS (a : Addr) (vs : List Value) (ns : List Int) : Hp := fun b => if b = a then some (.frz { cls := .type "list", data := .seq vs.toArray } (.lst (ns.map V.int))) else none
theorem end_g {P : Program} {w : World} {K : PySem.W.Frag} {mg mb : Str → Option Value} {CX : CXT} {k : Nat} {fa a : Addr} {fd : FuncData} {x : Str} {sp : Sp} {s1 : Shared} {vs : List Value} {ns : List Int}
    (KX : K.In s1.heap) (hns : s1.heap.Ns mainGlobals mg) (hb : s1.heap.Ns builtinsNs mb) (hbb : ∀ x : Str, x ≠ "__name__" → mb x = bootBuiltins x) (hlim : s1.heap.NoLimit) (hg : s1.gens = #[])
    (ha : s1.heap.get? a = some { cls := .type "list", data := .seq vs.toArray }) (hi : IntsAre vs ns) (hl : ns.length ≤ sizeLine) (hr : Room k callerA)
    (hmods : ∃ mm, s1.heap.Ns sysModules mm) (F : ∀ base : Heap, K.In base → base.Ns mainGlobals mg → (∃ mm, base.Ns sysModules mm) → GFn P w K mg base CX k fa fd [x] sp) (hbind : ∀ (s : Shared) (u : Value), BindsTo s fd ⟨[u], []⟩ [(x, u)])
    (hsp : ∀ H : Hp, Only H → SqL K H a (ns.map V.int) → sp [.ref a] H (fun v _ => v = .bl true) fun _ _ _ => False)
    (hCX : ∀ H e s', CX [] H s1 (fun _ _ _ => False) e s' → False) :
    codeAny (model P w) callerA (.call (.ref fa) ⟨[.ref a], []⟩) (fun r s' => r = .ok (.ret (.bool true)) ∧ OldK s1.heap s'.heap ∧ s'.os = s1.os ∧ AllBare s'.gens) s1 := by
  have rv := vals_ints hi
  have main : ∀ H : Hp, Only H → SqL K H a (ns.map V.int) → HOk P w H s1.heap → (∀ b, b ≠ a → H b = none) → (∀ o, K.lookup a = some o → H a = none) →
      codeAny (model P w) callerA (.call (.ref fa) ⟨[.ref a], []⟩) (fun r s' => r = .ok (.ret (.bool true)) ∧ OldK s1.heap s'.heap ∧ s'.os = s1.os ∧ AllBare s'.gens) s1 := by
    intro H only seq hok off hK
    -- what is no list of the script's stands in the base
    have inB : ∀ {b : Addr} {o : Obj} {es : Array DictEntry} {ep : Nat}, s1.heap.get? b = some o → o.data = .dict es ep → H b = none := by
      intro b o es ep e d
      by_cases hba : b = a
      · rw [hba, ha] at e
        cases e
        cases d
      · exact off b hba
    have nsB : ∀ {b : Addr} {m : Str → Option Value}, s1.heap.Ns b m → (hidT s1.heap H).Ns b m := by
      rintro b m ⟨o, es, ep, e, d, r⟩
      exact ⟨o, es, ep, hidT_get e (inB e d), d, r⟩
    have KB : K.In (hidT s1.heap H) := by
      intro b o e
      refine hidT_get (KX b o e) ?_
      by_cases hba : b = a
      · rw [hba] at e ⊢
        exact hK o e
      · exact off b hba
    have lim : (hidT s1.heap H).NoLimit := by
      obtain ⟨mc, h1, h2⟩ := hlim
      exact ⟨mc, nsB h1, h2⟩
    have e0 : Env0 P w K mg (hidT s1.heap H) callerA [] s1 H :=
      { frames := rfl, mod := ⟨KB, nsB hns, ⟨mb, nsB hb, hbb⟩, lim⟩, bs := fun b o e => of_hidT e, bsz := Nat.le_of_eq (hidT_size _ _), funs := trivial, frf := (fun b z => nomatch z), hok := hok, bare := .of_eq hg }
    refine codeAny_mono ((F _ KB (nsB hns) (hmods.imp fun _ z => nsB z)).run callerA [] s1 H ⟨[.ref a], []⟩ [.ref a] [.ref a] _ _ rfl hr e0 (hbind s1 (.ref a)) (.cons rfl .nil) (hsp H only seq)) ?_
    intro r s' z
    match r, z with
    | .error e, z => exact (hCX H e s' z).elim
    | .ok .next, z => exact False.elim z
    | .ok .brk, z => exact False.elim z
    | .ok .cont, z => exact False.elim z
    | .ok (.ret u), z =>
      obtain ⟨v, H', os, bare, un, hok', ru, qv⟩ := z
      cases (show v = V.bl true from qv)
      cases (show u = Value.bool true from ru)
      refine ⟨rfl, OldK.of_keep ?_, os, bare⟩
      intro b o e
      cases q : H b with
      | none => exact un.keep b o e q (fun z => (nomatch z)) (fun z => (nomatch z))
      | some u =>
        cases only b with
        | inl z => rw [q] at z; cases z
        | inr z =>
          obtain ⟨ob, xs, z⟩ := z
          have h1 := (hok b _ z).1
          have h2 := (hok' b _ (un.frzs b ob _ z)).1
          rw [e] at h1
          cases h1
          exact h2
  cases hk : K.lookup a with
  | some o =>
    have e := KX a o hk
    rw [ha] at e
    cases e
    exact main (fun _ => none) (fun _ => Or.inl rfl) (Or.inr ⟨_, vs.toArray, _, hk, rfl, rfl, rfl, by rw [List.size_toArray, hi.length]; exact hl, by simpa using rv⟩) (fun b u z => nomatch z) (fun b _ => rfl) (fun _ _ => rfl)
  | none =>
    have at_a : hpS a vs ns a = some (.frz { cls := .type "list", data := .seq vs.toArray } (.lst (ns.map V.int))) := if_pos rfl
    have off_a : ∀ b, b ≠ a → hpS a vs ns b = none := fun b z => if_neg z
    refine main (hpS a vs ns) (fun b => ?_) (Or.inl (Or.inr ⟨_, at_a⟩)) (fun b u z => ?_) off_a (fun o z => ?_)
    · by_cases hba : b = a
      · exact Or.inr ⟨_, _, by rw [hba]; exact at_a⟩
      · exact Or.inl (off_a b hba)
    · by_cases hba : b = a
      · rw [hba] at z ⊢
        rw [at_a] at z
        cases z
        exact ⟨ha, by rw [List.length_map]; exact hl, vs, _, rv, ha⟩
      · rw [off_a b hba] at z
        cases z
    · rw [hk] at z
      cases z
/-- the goal that k_head leaves, from the promise of a law's def that leans on no guard; the script's bits are told -/
theorem walk_g {l : PySem.W.OpenLaw} {n k : Nat} {q : Program} {loose : List Str} {XP : (Str → Option Value) → Heap → Prop} {YP : World → Heap → Prop} {d : DefRec} {K : Params → PySem.W.Frag} {CX : World → CXT} {sp : World → Sp} {x : Str}
    (hn : l.most = some n) (hq : importsNone q = true) (hn2 : n ≤ sizeLine) (hdf : d.params.defaults = []) (hr : Room k callerA) (hY : ∀ (w : World) (h : Heap), YP w h → (K w.params).In h)
    (F : ∀ (w : World) (mg : Str → Option Value) (fa : Addr) (h : Heap), (K w.params).In h → h.Ns mainGlobals mg → mg d.name = some (.ref fa) →
      ∃ fd : FuncData, (∀ (s : Shared) (u : Value), BindsTo s fd ⟨[u], []⟩ [(x, u)]) ∧ ∀ base : Heap, (K w.params).In base → base.Ns mainGlobals mg → (∃ mm, base.Ns sysModules mm) → GFn l.prog w (K w.params) mg base (CX w) k fa fd [x] (sp w))
    (hsp : ∀ (w : World) (H : Hp) (a : Addr) (ns : List Int), ns.length ≤ n → (∀ z ∈ ns, Builtin.Int.intBits z ≤ 1048576) → Only H → SqL (K w.params) H a (ns.map V.int) → sp w [.ref a] H (fun v _ => v = .bl true) fun _ _ _ => False)
    (hCX : ∀ (w : World) (H : Hp) (s : Shared) (e : Value) (s' : Shared), CX w [] H s (fun _ _ _ => False) e s' → False) :
    PySem.W.WalkO q loose XP YP l.row.toRowW d [] (fun f vs => PySem.call f vs) := by
  refine Att.attach_callB hn hdf ?_
  intro w s0 s1 mg mb fa o pm cd doc a vs ns G Y _ _ _ hmg hobj hints hlen hbits hg
  obtain ⟨fd, hb, hF⟩ := F w mg fa _ (hY w _ Y) G.T.g hmg
  exact end_g (hY w _ Y) G.T.g G.T.b G.T.builtins G.T.nolimit hg hobj hints (Nat.le_trans hlen hn2) hr ((G.T.seer hq).mods.imp fun _ z => z.1) hF hb (fun H h1 h2 => hsp w H a ns hlen hbits h1 h2) (fun H e s' => hCX w H s1 e s')
/-- the same where the promise hangs on the written part alone -/
theorem walk_gK {l : PySem.W.OpenLaw} {n k : Nat} {q : Program} {loose : List Str} {XP : (Str → Option Value) → Heap → Prop} {YP : World → Heap → Prop} {d : DefRec} {K : Params → PySem.W.Frag} {CX : CXT} {sp : PySem.W.Frag → Sp} {x : Str}
    (hn : l.most = some n) (hq : importsNone q = true) (hn2 : n ≤ sizeLine) (hdf : d.params.defaults = []) (hr : Room k callerA) (hY : ∀ (w : World) (h : Heap), YP w h → (K w.params).In h)
    (F : ∀ (w : World) (mg : Str → Option Value) (fa : Addr) (h : Heap), (K w.params).In h → h.Ns mainGlobals mg → mg d.name = some (.ref fa) →
      ∃ fd : FuncData, (∀ (s : Shared) (u : Value), BindsTo s fd ⟨[u], []⟩ [(x, u)]) ∧ ∀ base : Heap, (K w.params).In base → base.Ns mainGlobals mg → (∃ mm, base.Ns sysModules mm) → GFn l.prog w (K w.params) mg base CX k fa fd [x] (sp (K w.params)))
    (hsp : ∀ (K : PySem.W.Frag) (H : Hp) (a : Addr) (ns : List Int), ns.length ≤ n → (∀ z ∈ ns, Builtin.Int.intBits z ≤ 1048576) → Only H → SqL K H a (ns.map V.int) → sp K [.ref a] H (fun v _ => v = .bl true) fun _ _ _ => False)
    (hCX : ∀ (H : Hp) (s : Shared) (e : Value) (s' : Shared), CX [] H s (fun _ _ _ => False) e s' → False) :
    PySem.W.WalkO q loose XP YP l.row.toRowW d [] (fun f vs => PySem.call f vs) :=
  walk_g (K := K) (CX := fun _ => CX) (sp := fun w => sp (K w.params)) hn hq hn2 hdf hr hY F (fun w H a ns h1 h2 h3 h4 => hsp (K w.params) H a ns h1 h2 h3 h4) fun _ H s e s' => hCX H s e s'
end Ct

set_option Elab.async false
set_option linter.all false
set_option maxRecDepth 100000
set_option maxHeartbeats 2000000
/-! Own kit B: data of any depth with dicts, read off the abstract heap; repr; great powers. -/
namespace Ct
open PySem PySem.Spec L2
def keyD : Key → PyData
  | .inl i => .int i
  | .inr x => .str x
mutual
/-- the value v is the datum d (lists, tuples, dicts with ints and texts or tuples of such as keys) -/
inductive Dq (K : PySem.W.Frag) (H : Hp) : V → PyData → Prop
  | non : Dq K H .non .none
  | bl (b : Bool) : Dq K H (.bl b) (.bool b)
  | int (i : Int) : Dq K H (.int i) (.int i)
  | str (x : Str) : Dq K H (.str x) (.str x)
  | lst {a : Addr} {xs : List V} {ds : List PyData} : SqL K H a xs → DqAll K H xs ds → Dq K H (.ref a) (.list ds)
  | tup {a : Addr} {xs : List V} {ds : List PyData} : SqT K H a xs → DqAll K H xs ds → Dq K H (.ref a) (.tuple ds)
  | dic {a : Addr} {kvs : List (Key × V)} {vs : List PyData} {ps : List (PyData × PyData)} : Rd H a (.dK kvs) → ps.map (·.1) = kvs.map (fun p => keyD p.1) → vs = ps.map (·.2) → DqAll K H (kvs.map (·.2)) vs → Dq K H (.ref a) (.dict ps)
  | dicT {a : Addr} {kvs : List (List Key × V)} {vs : List PyData} {ps : List (PyData × PyData)} : Rd H a (.dT kvs) → ps.map (·.1) = kvs.map (fun p => .tuple (p.1.map keyD)) → vs = ps.map (·.2) → DqAll K H (kvs.map (·.2)) vs → Dq K H (.ref a) (.dict ps)
inductive DqAll (K : PySem.W.Frag) (H : Hp) : List V → List PyData → Prop
  | nil : DqAll K H [] []
  | cons {v : V} {vs : List V} {d : PyData} {ds : List PyData} : Dq K H v d → DqAll K H vs ds → DqAll K H (v :: vs) (d :: ds)
end
section
variable {X : Cx} {pins : List (Addr × Obj)} {σ : L2.St} {H : Hp} {s : Shared}
theorem reads_key {h : Heap} : ∀ {k : Key} {u : Value}, RelV (kV k) u → Reads h u (keyD k) []
  | .inl i, u, r => by obtain ⟨t, rfl⟩ := r; exact .int i t
  | .inr x, u, r => by obtain ⟨t, rfl⟩ := r; exact .str x t
theorem reads_keys {h : Heap} : ∀ {ks : List Key} {us : List Value}, Vals (ks.map kV) us → ReadsAll h us (ks.map keyD) []
  | [], _, .nil => .nil
  | _ :: _, _, .cons r t => .cons (reads_key r) (reads_keys t)
theorem readsAll_cons0 {h : Heap} {v : Value} {vs : List Value} {d : PyData} {ds : List PyData} (a : Reads h v d []) (b : ReadsAll h vs ds []) : ReadsAll h (v :: vs) (d :: ds) [] := .cons a b
/-- the keys of a dict whose keys are ints and texts; its values -/
theorem kv_keys {prog : Program} {w : World} {h : Heap} : ∀ {kvs : List (Key × V)} {vs : List (Key × Value)} {es : List DictEntry}, KV kvs vs → Pairs (mixKind prog w) es vs →
    ReadsAll h (es.map (·.key)) (kvs.map fun p => keyD p.1) [] ∧ Vals (kvs.map (·.2)) (es.map (·.val))
  | [], _, _, .nil, .nil => ⟨.nil, .nil⟩
  | _ :: _, _, _, .cons r t, .cons e3 e4 u => by
    obtain ⟨h1, h2⟩ := kv_keys (h := h) t u
    obtain ⟨e1, e2⟩ := r
    have e3 := (mixKind_is prog w _ _).symm.trans e3
    refine ⟨readsAll_cons0 ?_ h1, .cons ?_ h2⟩
    · rcases keyIs_shape e3 with ⟨i, tk, z1, z2⟩ | ⟨x, tk, z1, z2⟩
      · dsimp only; rw [z2, e1, z1]; exact .int i tk
      · dsimp only; rw [z2, e1, z1]; exact .str x tk
    · dsimp only; rw [e4]; exact e2
/-- the start-up's table of modules stands in the base -/
def SysB (base : Heap) : Prop := ∃ mm, base.Ns sysModules mm
theorem sys_free (I : Inv X pins σ H s) (S : SysB X.base) {a : Addr} {o : HO} (e : H a = some o) : a ≠ sysModules := by
  obtain ⟨mm, ob, es, ep, h1, _⟩ := S
  intro z
  rw [z, (I.bs _ _ h1).2] at e
  cases e
theorem sys_seq (I : Inv X pins σ H s) (S : SysB X.base) {a : Addr} {o : Obj} {its : Array Value} {n : Nat} (e : s.heap.get? a = some o) (d : o.data = .seq its n) : a ≠ sysModules := by
  obtain ⟨mm, ob, es, ep, h1, h2, _⟩ := S
  intro z
  rw [z, I.bk _ _ h1] at e
  cases e
  rw [h2] at d
  cases d
theorem keysT {Hh : Hp} (hok : HOk X.prog X.w H s.heap) : ∀ {kvs : List (List Key × V)} {xs : List (List Key × Addr × Value)},
    Paired (fun (p : List Key × V) (q : List Key × Addr × Value) => p.1 = q.1 ∧ H q.2.1 = some (.tup (p.1.map kV)) ∧ RelV p.2 q.2.2) kvs xs →
    ReadsAll s.heap ((xs.map (entryOfKey (tupleKind (mixKind X.prog X.w)))).map (·.key)) (kvs.map fun p => .tuple (p.1.map keyD)) [] ∧ Vals (kvs.map (·.2)) ((xs.map (entryOfKey (tupleKind (mixKind X.prog X.w)))).map (·.val))
  | [], _, .nil => ⟨.nil, .nil⟩
  | _ :: _, _, .cons r t => by
    obtain ⟨h1, h2⟩ := keysT (Hh := Hh) hok t
    obtain ⟨e1, e2, e3⟩ := r
    obtain ⟨_, its, rv, o, ho, hc, n, hd⟩ := hok _ _ e2
    exact ⟨readsAll_cons0 (.tuple ho hc hd (by simpa using reads_keys rv)) h1, .cons e3 h2⟩
mutual
theorem Dq.reads (I : Inv X pins σ H s) (S : SysB X.base) : ∀ {v : V} {d : PyData} {u : Value}, Dq X.K H v d → RelV v u → ∃ as, Reads s.heap u d as ∧ sysModules ∉ as
  | _, _, _, .non, r => by cases r; exact ⟨_, .none, by simp⟩
  | _, _, _, .bl b, r => by cases r; exact ⟨_, .bool b, by simp⟩
  | _, _, _, .int i, r => by obtain ⟨t, rfl⟩ := r; exact ⟨_, .int i t, by simp⟩
  | _, _, _, .str x, r => by obtain ⟨t, rfl⟩ := r; exact ⟨_, .str x t, by simp⟩
  | _, _, _, .lst hs ha, r => by
    cases r
    obtain ⟨its, rv, ⟨o, n, ho, hc, _, hd⟩, _⟩ := I.list hs
    obtain ⟨as, hr, hn⟩ := DqAll.reads I S ha rv
    exact ⟨_, .list ho hc hd hr, fun z => (List.mem_cons.mp z).elim (fun e => sys_seq I S ho hd e.symm) hn⟩
  | _, _, _, .tup hs ha, r => by
    cases r
    obtain ⟨its, rv, ⟨o, ho, hc, n, hd⟩, _⟩ := I.tuple hs
    obtain ⟨as, hr, hn⟩ := DqAll.reads I S ha rv
    exact ⟨_, .tuple ho hc hd hr, hn⟩
  | _, _, _, .dic hs hk hv ha, r => by
    cases r
    obtain ⟨_, hy, vs, rkv, o, es, ep, ho, hx, hd, _, hp, _⟩ := hs.ok I.hok
    obtain ⟨h1, h2⟩ := kv_keys (h := s.heap) rkv hp
    obtain ⟨as, hr, hn⟩ := DqAll.reads I S ha h2
    subst hv
    refine ⟨_, .dict ho hx.1 hd (by rw [hk]; exact h1) hr, fun z => ?_⟩
    rcases List.mem_cons.mp z with e | z
    · exact (beq_eq_false_iff_ne.mp hy) e.symm
    · exact hn (by simpa using z)
  | _, _, _, .dicT hs hk hv ha, r => by
    cases r
    obtain ⟨_, hy, xs, rp, o, es, ep, ho, hx, hd, he, _⟩ := hs.ok I.hok
    obtain ⟨h1, h2⟩ := keysT (Hh := H) I.hok rp
    rw [← he] at h1 h2
    obtain ⟨as, hr, hn⟩ := DqAll.reads I S ha h2
    subst hv
    refine ⟨_, .dict ho hx.1 hd (by rw [hk]; exact h1) hr, fun z => ?_⟩
    rcases List.mem_cons.mp z with e | z
    · exact (beq_eq_false_iff_ne.mp hy) e.symm
    · exact hn (by simpa using z)
theorem DqAll.reads (I : Inv X pins σ H s) (S : SysB X.base) : ∀ {vs : List V} {ds : List PyData} {us : List Value}, DqAll X.K H vs ds → Vals vs us → ∃ as, ReadsAll s.heap us ds as ∧ sysModules ∉ as
  | _, _, _, .nil, .nil => ⟨_, .nil, by simp⟩
  | _, _, _, .cons h1 h2, .cons r1 r2 => by
    obtain ⟨as, q1, n1⟩ := Dq.reads I S h1 r1
    obtain ⟨bs, q2, n2⟩ := DqAll.reads I S h2 r2
    exact ⟨_, .cons q1 q2, fun z => (List.mem_append.mp z).elim n1 n2⟩
end
end
/-- repr of a datum that stands at an address -/
def rRep (K : PySem.W.Frag) : List V → Hp → VK → Prop := fun xs H Q => ∃ (a : Addr) (d : PyData), xs = [.ref a] ∧ Dq K H (.ref a) d ∧ d.showable = true ∧ d.depth ≤ 60 ∧ d.shown.length ≤ sizeLine ∧ Q (.str d.shown) H
theorem call_rep {X : Cx} (g : X.A.guards = some []) (S : SysB X.base) (hu : X.A.units + 64 < cLine) : CallR X (.builtin "repr") (rRep X.K) := by
  intro pins s σ H xs us Q I r h
  obtain ⟨a, d, rfl, hd, hs, hp, hz, q⟩ := h
  obtain ⟨u, rfl, ru⟩ := vals1 r
  cases (show u = Value.ref a from ru)
  obtain ⟨as, hr, hn⟩ := Dq.reads I S hd rfl
  refine repr_of_reads' hr hs (fun _ => hn) g (by omega) (fun _ _ e => e) (fun h' u tk k => ?_) hz
  exact ⟨.str d.shown, H, I.kept k, ⟨_, rfl⟩, q⟩
/-- a power of a great int, the exponent written -/
def CPowW (i j : Int) : Prop := 0 ≤ j ∧ (Builtin.Int.intBits i : Int) * j ≤ 2 ^ 27
theorem op_powW {X : Cx} : OpR X (binaryOp .Pow) (rI CPowW fun i j => .int (i ^ j.toNat)) := opI fun _ _ _ _ _ _ _ hc q => PyProof.Rows.pow_int hc.1 hc.2 q
end Ct

set_option Elab.async false
set_option linter.all false
set_option maxRecDepth 100000
set_option maxHeartbeats 4000000
/-! Own kit C: exceptions of own classes (an __init__ of their own) as values: made by place and by name, their fields read, isinstance. -/
namespace PySem
namespace CtX
open PySem.W PySem.Calls PyProof.Rows PySem.HandSPX
section
variable {M : Model} {A : Around} {E : Value → Shared → Prop} {h : Heap} {g : Array GenState} {d : Drawn} {t : Nat} {os : OsState}
variable {nm q : Str} {C N : Addr} {bs bm bmB : List Value} {hdct : Bool} {sn : List Str} {sub : List Value} {ab : Bool} {col : Option Bool} {dd : Option Addr} {k0 k1 k2 k3 k5 : Option Value} {B newId initId : String} {kw : List (Str × Value)}
theorem kw_new_check (F : ExcBaseFacts B newId initId bmB) (hT : ∀ X : String, bm.contains (.type X) = bmB.contains (.type X)) {Q : Unit → Shared → Prop}
    (hC : h.get? C = some (excClassObj nm q C N bs bm hdct sn sub ab col dd k0 k1 k2 k3 k5 newId)) (hq : Q () ⟨h, g, d, t, os⟩) :
    wpAny M A (checkBuiltinCall newId ⟨[.ref C], kw⟩) Q E ⟨h, g, d, t, os⟩ := by
  have hc : (Value.ref C :: bm).contains (.type B) = true := by rw [List.contains_cons, hT, F.hasB, Bool.or_true]
  have hst := F.noStar
  simp only [checkBuiltinCall, F.newKind, F.newSplit, F.newRow]
  repeat (first
    | refine wpAny_loadPart_at hC ?_
    | (refine wpAny_isSubtype_exc hC ?_; rw [hc])
    | refine wpAny_staticBase_exc hC ?_
    | refine wpAny_madeBy_exc hC ?_
    | simp only [bne_self_eq_false, Bool.false_eq_true, if_false]
    | wp_step)
  exact hq
end
section
variable {prog : Program} {w : World} {A : Around} {E : Value → Shared → Prop} {R : Result → Shared → Prop} {h : Heap} {g : Array GenState} {d : Drawn} {t : Nat} {os : OsState}
variable {nm q : Str} {C N : Addr} {bs bm bmB : List Value} {hdct : Bool} {sn : List Str} {sub : List Value} {ab : Bool} {col : Option Bool} {dd : Option Addr} {k0 k1 k2 k3 k5 : Option Value} {B newId initId : String} {kw : List (Str × Value)}
theorem kw_new (F : ExcBaseFacts B newId initId bmB) (hT : ∀ X : String, bm.contains (.type X) = bmB.contains (.type X)) (hC : h.get? C = some (excClassObj nm q C N bs bm hdct sn sub ab col dd k0 k1 k2 k3 k5 newId))
    (hq : R (.ok (.ret (.ref (h.objs.size + 1)))) ⟨(h.push (W.kdv_tup [])).push (excO C h.objs.size), g, d, t, os⟩) :
    codeAny (model prog w) A (.builtin newId ⟨[.ref C], kw⟩) R ⟨h, g, d, t, os⟩ := by
  have he := F.ends
  have c1 : (Value.ref C :: bm).contains (.type B) = true := by rw [List.contains_cons, hT, F.hasB, Bool.or_true]
  have c2 : (Value.ref C :: bm).contains (.type "AttributeError") = false := by rw [List.contains_cons, hT, F.noAttr]; rfl
  have c3 : (Value.ref C :: bm).contains (.type "NameError") = false := by rw [List.contains_cons, hT, F.noName]; rfl
  refine codeAny_builtinAt F.entry ?_
  unfold Builtin.«BaseException.__new__»
  refine wpAt_bind ?_
  show wpAt _ _ _ (stack >>= _) _ _ _
  refine wpAt_bind (wpAt_stack fun p below => wpAt_of_wpAny ?_)
  wp_walk
  refine wpAt_of_wpAny ?_
  rw [F.owner]
  repeat (first
    | with_reducible refine wpAny_madeHere_exc F.canon hC ?_
    | with_reducible refine wpAny_loadPart_at hC ?_
    | (with_reducible refine wpAny_isSubtype_exc hC ?_; first | rw [c1] | rw [c2] | rw [c3])
    | wp_step)
  show R _ _
  rw [Heap.size_push]
  exact hq
theorem kw_type_call (F : ExcBaseFacts B newId initId bmB) (hT : ∀ X : String, bm.contains (.type X) = bmB.contains (.type X)) {fI : Addr} {Q : Fin → Shared → Prop}
    (hC : h.get? C = some (excClassObj nm q C N bs bm hdct sn sub ab col dd k0 k1 k2 k3 k5 newId))
    (hi : W.Looks (model prog w) h (typeLookup (.ref C) "__init__") (some (.ref fI))) (hb : ∀ self, W.Looks (model prog w) h (bindSpecial (.ref fI) self) (.ref fI, [self]))
    (hq : codeAny (model prog w) A (.call (.ref fI) ⟨[.ref (h.objs.size + 1)], kw⟩)
      (fun r s' => match r with | .ok (.ret v) => v = .none ∧ Q (.done (.ret (.ref (h.objs.size + 1)))) s' | .ok _ => False | .error e => E e s')
      ⟨(h.push (W.kdv_tup [])).push (excO C h.objs.size), g, d, t, os⟩) :
    wpAny (model prog w) A (Builtin.«type.__call__» ⟨[.ref C], kw⟩) Q E ⟨h, g, d, t, os⟩ := by
  repeat (first | with_reducible refine wpAny_loadPart_at hC ?_ | with_reducible refine wpAny_madeBy_exc hC ?_ | wp_step)
  refine codeAny_call_builtin_code (Code.quiet_builtin _ F.quiet) (kw_new_check F hT hC ?_)
  refine kw_new F hT hC ?_
  show wpAny _ _ _ _ _ _
  have k : ∀ b o, h.get? b = some o → ((h.push (W.kdv_tup [])).push (excO C h.objs.size)).get? b = some o := fun b o e => Heap.get?_push_of_some _ (Heap.get?_push_of_some _ e)
  have hC1 := k _ _ hC
  have hnew : ((h.push (W.kdv_tup [])).push (excO C h.objs.size)).get? (h.objs.size + 1) = some (excO C h.objs.size) := by heap_get
  have hself : (Value.ref C :: bm).contains (.ref C) = true := by simp
  have i1 := hi.keeps k
  have b1 := (hb (.ref (h.objs.size + 1))).keeps k
  unfold isInstance
  repeat (first | with_reducible refine wpAny_loadPart_at hnew ?_ | (with_reducible refine wpAny_isSubtype_exc hC1 ?_; rw [hself]) | wp_step)
  show wpAny _ _ (typeLookup (.ref C) _) _ _ _
  refine i1.at (wpAny_holding (wpAny_bind (b1.at (wpAny_bind (wpAny_call (codeAny_mono hq ?_))))))
  intro r s' z
  rcases r with e | (v | _ | _ | _)
  · exact z
  all_goals first | exact z.elim | skip
  obtain ⟨rfl, z⟩ := z
  first
    | exact wpAny_pure (wpAny_pure z)
    | (wp_walk; exact z)
theorem kw_call (F : ExcBaseFacts B newId initId bmB) (hT : ∀ X : String, bm.contains (.type X) = bmB.contains (.type X)) {fI : Addr}
    (hC : h.get? C = some (excClassObj nm q C N bs bm hdct sn sub ab col dd k0 k1 k2 k3 k5 newId))
    (hi : W.Looks (model prog w) h (typeLookup (.ref C) "__init__") (some (.ref fI))) (hb : ∀ self, W.Looks (model prog w) h (bindSpecial (.ref fI) self) (.ref fI, [self]))
    (hq : codeAny (model prog w) (A.under (.builtin "type.__call__" ⟨[.ref C], kw⟩)) (.call (.ref fI) ⟨[.ref (h.objs.size + 1)], kw⟩) (W.InitBack (h.objs.size + 1) R)
      ⟨(h.push (W.kdv_tup [])).push (excO C h.objs.size), g, d, t, os⟩) :
    codeAny (model prog w) A (.call (.ref C) ⟨[], kw⟩) R ⟨h, g, d, t, os⟩ := by
  have f1 := tc_lookup
  have f2 := tc_bind (.ref C)
  have ty : (⟨h, g, d, t, os⟩ : Shared).TypeIs (.ref C) "type" := ⟨_, hC, rfl⟩
  refine codeAny_of_tree ?_
  show wpAny _ _ (callAny (.ref C) _) _ _ _
  repeat (any_goals (first | assumption | with_reducible refine wpAny_loadPart_at hC ?_ | wp_step))
  refine ⟨rfl, ?_⟩
  refine codeAny_call_builtin_at (Code.quiet_builtin _ (by decide +kernel)) entry_typeCall (wpAny_check_type_call_sub hC (kw_type_call F hT hC hi hb ?_))
  refine codeAny_mono hq fun r s' z => ?_
  rcases r with e | (v | _ | _ | _) <;> exact z
end
end CtX
end PySem
namespace Ct
open PySem PySem.Spec L2
/-- what the walk asks of an exception class of one's own at C, its __init__ at fI -/
structure XCls (K : PySem.W.Frag) (C fI : Addr) : Prop where
  ox : OexC K C
  xe : ExcC K C
  iC : PySem.W.findIn K (.ref C) "__init__" = some (some (.ref fI))
  tI : PySem.W.typeIn K (.ref fI) = some (.type "function")
/-- the heap behind C(v): the exception at a, its dict at d with the one field -/
def mkH (H : Hp) (a d C : Addr) (f : Str) (v : V) : Hp := upd (upd H d (exd d [(f, v)])) a (exo a C (some d))
/-- what __init__(self, f): self.f = f promises -/
def spXI (C : Addr) (f : Str) : Sp := fun vs H Q _ => ∃ (a : Addr) (v : V), vs = [.ref a, v] ∧ H a = some (exo a C none) ∧ ∀ d, H d = none → d ≠ a → Q .non (mkH H a d C f v)
theorem mkH_new {H : Hp} {a d C : Addr} {f : Str} {v : V} {o : HO} : mkH (upd H a o) a d C f v = mkH H a d C f v := by
  funext b
  unfold mkH
  by_cases hb : b = a
  · rw [hb, upd_same, upd_same]
  · rw [upd_ne hb, upd_ne hb]
    by_cases hd : b = d
    · rw [hd, upd_same, upd_same]
    · rw [upd_ne hd, upd_ne hd, upd_ne hb]
/-- C(e), C(f=e): a new exception -/
def tMkX (C : Addr) (f : Str) (te : TE) : TE := fun σ H Q => te σ H fun v H1 => ∀ a d, H1 a = none → H1 d = none → d ≠ a → Q (.ref a) (mkH H1 a d C f v)
section
variable {X : Cx} {k : Nat} {C fI : Addr} {fd : FuncData} {x f pn : Str} {p pos kp : Pos} {e : Expr} {te : TE}
theorem run_mkX {pins : List (Addr × Obj)} {σ : L2.St} {H : Hp} {s : Shared} {Q : VK} {u : Value} {v : V} {pos kwn : Bool} (T : XCls X.K C fI) (F : FnOk X.prog X.w X.K X.mg X.base CX0 k fI fd ["self", pn] (spXI C f)) (hr : Room (k + 1) X.A)
    (hb : ∀ (s : Shared) (a w : Value), BindsTo s fd ⟨[a, w], []⟩ [("self", a), (pn, w)]) (I : Inv X pins σ H s) (r : RelV v u) (h : ∀ a d, H a = none → H d = none → d ≠ a → Q (.ref a) (mkH H a d C f v)) :
    wpAny (model X.prog X.w) X.A (call (.ref C) [u]) (EP X pins σ Q) X.xe s := by
  obtain ⟨nm, q, N, bs, bm, sn, sub, ab, col, dd, k0, k1, k2, k3, k5, hC, hbm⟩ := T.ox.cls
  obtain ⟨hp, g, dr, tk, os⟩ := s
  have kk : ∀ b o, hp.get? b = some o → ((hp.push (PySem.W.kdv_tup [u])).push (PySem.HandSPX.excO C hp.objs.size)).get? b = some o := fun b o e => Heap.get?_push_of_some _ (Heap.get?_push_of_some _ e)
  have hget : ((hp.push (PySem.W.kdv_tup [u])).push (PySem.HandSPX.excO C hp.objs.size)).get? (hp.objs.size + 1) = some (PySem.HandSPX.excO C hp.objs.size) := by heap_get
  have I2 : Inv X pins σ (upd H (hp.objs.size + 1) (exo (hp.objs.size + 1) C none)) ⟨(hp.push (PySem.W.kdv_tup [u])).push (PySem.HandSPX.excO C hp.objs.size), g, dr, tk, os⟩ :=
    I.laid (t' := tk) kk (Nat.le_succ _) (exo_ok hget)
  have hn : H (hp.objs.size + 1) = none := I.hok.fresh (Nat.le_succ _)
  have hq : spXI C f [.ref (hp.objs.size + 1), v] (upd H (hp.objs.size + 1) (exo (hp.objs.size + 1) C none)) (fun z H2 => z = .non ∧ Q (.ref (hp.objs.size + 1)) H2) E0 := by
    refine ⟨_, v, rfl, upd_same, fun d hd hne => ⟨rfl, ?_⟩⟩
    rw [mkH_new]
    rw [upd_ne hne] at hd
    exact h _ d hn hd hne
  have rr : Vals [V.ref (hp.objs.size + 1), v] [Value.ref (hp.objs.size + 1), u] := .cons rfl (.cons r .nil)
  refine wpAny_call (PySem.HandSPX.call_own PySem.F.excBase_ValueError (fun Y => PySem.HandSPX.refsVE_contains Y bm hbm) (I.kIn _ _ hC) (PySem.W.looks_findIn I.kIn T.iC) (fun self => PySem.W.bind_fn I.kIn self T.tI) (by show 1 ≤ sizeLine; decide)
    (codeAny_mono (F.run _ X.stack _ _ ⟨[.ref (hp.objs.size + 1), u], []⟩ [.ref (hp.objs.size + 1), u] _ _ _ (hr.make C [u] []) (I2.env0.make C [u] []) (hb _ _ _) rr hq) ?_))
  intro r s' z
  match r, z with
  | .error er, z => exact False.elim z
  | .ok .next, z => exact False.elim z
  | .ok .brk, z => exact False.elim z
  | .ok .cont, z => exact False.elim z
  | .ok (.ret u), z =>
    obtain ⟨v', H', I3, rv, ev, q3⟩ := I2.after z
    subst ev
    exact ⟨rv, .ref (hp.objs.size + 1), H', I3, rfl, q3⟩
theorem run_mkXk {pins : List (Addr × Obj)} {σ : L2.St} {H : Hp} {s : Shared} {Q : VK} {u : Value} {v : V} {kn : Str} (T : XCls X.K C fI) (F : FnOk X.prog X.w X.K X.mg X.base CX0 k fI fd ["self", pn] (spXI C f)) (hr : Room (k + 1) X.A)
    (hb : ∀ (s : Shared) (a w : Value), BindsTo s fd ⟨[a], [(kn, w)]⟩ [("self", a), (pn, w)]) (I : Inv X pins σ H s) (r : RelV v u) (h : ∀ a d, H a = none → H d = none → d ≠ a → Q (.ref a) (mkH H a d C f v)) :
    wpAny (model X.prog X.w) X.A (call (.ref C) [] [(kn, u)]) (EP X pins σ Q) X.xe s := by
  obtain ⟨nm, q, N, bs, bm, sn, sub, ab, col, dd, k0, k1, k2, k3, k5, hC, hbm⟩ := T.ox.cls
  obtain ⟨hp, g, dr, tk, os⟩ := s
  have kk : ∀ b o, hp.get? b = some o → ((hp.push (PySem.W.kdv_tup [])).push (PySem.HandSPX.excO C hp.objs.size)).get? b = some o := fun b o e => Heap.get?_push_of_some _ (Heap.get?_push_of_some _ e)
  have hget : ((hp.push (PySem.W.kdv_tup [])).push (PySem.HandSPX.excO C hp.objs.size)).get? (hp.objs.size + 1) = some (PySem.HandSPX.excO C hp.objs.size) := by heap_get
  have I2 : Inv X pins σ (upd H (hp.objs.size + 1) (exo (hp.objs.size + 1) C none)) ⟨(hp.push (PySem.W.kdv_tup [])).push (PySem.HandSPX.excO C hp.objs.size), g, dr, tk, os⟩ :=
    I.laid (t' := tk) kk (Nat.le_succ _) (exo_ok hget)
  have hn : H (hp.objs.size + 1) = none := I.hok.fresh (Nat.le_succ _)
  have hq : spXI C f [.ref (hp.objs.size + 1), v] (upd H (hp.objs.size + 1) (exo (hp.objs.size + 1) C none)) (fun z H2 => z = .non ∧ Q (.ref (hp.objs.size + 1)) H2) E0 := by
    refine ⟨_, v, rfl, upd_same, fun d hd hne => ⟨rfl, ?_⟩⟩
    rw [mkH_new]
    rw [upd_ne hne] at hd
    exact h _ d hn hd hne
  have rr : Vals [V.ref (hp.objs.size + 1), v] [Value.ref (hp.objs.size + 1), u] := .cons rfl (.cons r .nil)
  refine wpAny_call (PySem.CtX.kw_call PySem.F.excBase_ValueError (fun Y => PySem.HandSPX.refsVE_contains Y bm hbm) (I.kIn _ _ hC) (PySem.W.looks_findIn I.kIn T.iC) (fun self => PySem.W.bind_fn I.kIn self T.tI)
    (codeAny_mono (F.run _ X.stack _ _ ⟨[.ref (hp.objs.size + 1)], [(kn, u)]⟩ [.ref (hp.objs.size + 1), u] _ _ _ (hr.make C [] [(kn, u)]) (I2.env0.make C [] [(kn, u)]) (hb _ _ _) rr hq) ?_))
  intro r s' z
  match r, z with
  | .error er, z => exact False.elim z
  | .ok .next, z => exact False.elim z
  | .ok .brk, z => exact False.elim z
  | .ok .cont, z => exact False.elim z
  | .ok (.ret u), z =>
    obtain ⟨v', H', I3, rv, ev, q3⟩ := I2.after z
    subst ev
    exact ⟨rv, .ref (hp.objs.size + 1), H', I3, rfl, q3⟩
theorem pe_mkX (T : XCls X.K C fI) (F : FnOk X.prog X.w X.K X.mg X.base CX0 k fI fd ["self", pn] (spXI C f)) (hr : Room (k + 1) X.A) (hb : ∀ (s : Shared) (a w : Value), BindsTo s fd ⟨[a, w], []⟩ [("self", a), (pn, w)])
    (hg : Gl X x) (hm : X.mg x = some (.ref C)) (he : PE X e te) (hdb : (x == ("__debug__" : Str)) = false := by decide) (hs : starEach [e] X.env = (false, eval e X.env) :: starEach [] X.env := by rfl) :
    PE X (.Call (.Name x p) [e] [] pos) (tMkX C f te) := by
  constructor
  intro pins s σ H Q I h
  refine wpAny_Call_Name_kw (ld_glob I hg hm ?_ hdb)
  refine PySem.W.callWith_K (h₀ := X.base) I.ok.mod.kin T.ox.kC ?_ hs (by rfl)
  rw [hs]
  show wpAny _ _ (spliced ((false, eval e X.env) :: backTo pos (starEach [] X.env))) _ _ s
  refine Calls.spliced_cons (thn (he.run pins s σ H _ I h) ?_)
  rintro u s1 ⟨v, H1, I1, r1, q1⟩
  exact Calls.spliced_nil ⟨I1.kIn, run_mkX (pos := true) (kwn := true) T F hr hb I1 r1 q1⟩
/-- C(f=e) -/
theorem pe_mkXk {kn : Str} (T : XCls X.K C fI) (F : FnOk X.prog X.w X.K X.mg X.base CX0 k fI fd ["self", pn] (spXI C f)) (hr : Room (k + 1) X.A) (hb : ∀ (s : Shared) (a w : Value), BindsTo s fd ⟨[a], [(kn, w)]⟩ [("self", a), (pn, w)])
    (hg : Gl X x) (hm : X.mg x = some (.ref C)) (he : PE X e te) (hdb : (x == ("__debug__" : Str)) = false := by decide) :
    PE X (.Call (.Name x p) [] [⟨some kn, e, kp⟩] pos) (tMkX C f te) := by
  constructor
  intro pins s σ H Q I h
  refine wpAny_Call_Name_kw (ld_glob I hg hm ?_ hdb)
  refine PySem.W.callWith_KW0 (h₀ := X.base) I.ok.mod.kin T.ox.kC (by rfl) ?_ (by rfl)
  have pk : PK X [⟨some kn, e, kp⟩] (tCons te tNil) := pk_cons he pk_nil
  refine thn (pk.run pos pins s σ H (fun vs H1 => ∃ v, vs = [v] ∧ ∀ a d, H1 a = none → H1 d = none → d ≠ a → Q (.ref a) (mkH H1 a d C f v)) I ?_) ?_
  · show te σ H _
    have mono : (fun v H1 => ∀ a d, H1 a = none → H1 d = none → d ≠ a → Q (.ref a) (mkH H1 a d C f v)) = fun (v : V) (H1 : Hp) => ∃ w, [v] = [w] ∧ ∀ a d, H1 a = none → H1 d = none → d ≠ a → Q (.ref a) (mkH H1 a d C f w) := by
      funext v H1
      refine propext ⟨fun z => ⟨v, rfl, z⟩, fun ⟨w, e, z⟩ => ?_⟩
      cases e
      exact z
    have h' := h
    unfold tMkX at h'
    rw [mono] at h'
    exact h'
  · rintro us s1 ⟨vs, H1, I1, r1, v, rfl, q1⟩
    obtain ⟨u, rfl, ru⟩ := vals1 r1
    exact ⟨I1.kIn, run_mkXk T F hr hb I1 ru q1⟩
/-- e.n of an exception -/
def tXF (K : PySem.W.Frag) (n : Str) (te : TE) : TE := fun σ H Q => te σ H fun x H1 => ∃ (a C d : Addr) (fs : List (Str × V)) (v : V), x = .ref a ∧ H1 a = some (exo a C (some d)) ∧ H1 d = some (exd d fs) ∧ ExcC K C ∧ PySem.W.findIn K (.ref C) n = some none ∧ fs.lookup n = some v ∧ Q v H1
theorem exo_inst {pins : List (Addr × Obj)} {σ : L2.St} {H : Hp} {s : Shared} {a d : Addr} {fs : List (Str × V)} (I : Inv X pins σ H s) (ea : H a = some (exo a C (some d))) (ed : H d = some (exd d fs)) :
    ∃ (ox od : Obj) (mA : Str → Option Value), PySem.W.InstAt s.heap a ox C (some od) ∧ (∀ name, PySem.W.lookIn name od = some (mA name)) ∧ ∀ f, RelO (fs.lookup f) (mA f) := by
  obtain ⟨t1, ho⟩ := exo_at I.hok ea
  obtain ⟨mA, hns, hr⟩ := exd_at I.hok ed
  obtain ⟨od, hod, hl⟩ := lookIn_ns hns
  exact ⟨_, od, mA, ⟨ho, rfl, rfl, hod⟩, hl, hr⟩
theorem pe_xF {n : Str} (he : PE X e te) (hb : attributeBase e n X.env (eval e X.env) = eval e X.env := by rfl) : PE X (.Attribute e n pos) (tXF X.K n te) := by
  constructor
  intro pins s σ H Q I h
  refine attr_of hb (thn (he.run pins s σ H _ I h) ?_)
  rintro u s1 ⟨x, H1, I1, rx, a, C, d, fs, v, ex, ea, ed, T, hno, l, q⟩
  subst ex
  cases (show u = Value.ref a from rx)
  obtain ⟨ox, od, mA, J, hl, hr⟩ := exo_inst I1 ea ed
  obtain ⟨u, hu, ru⟩ := RelO.some_of (v := v) (o := mA n) (by rw [← l]; exact hr n)
  exact PySem.HandSPX.exc_get I1.kIn J T.hg T.hk T.hs (PySem.W.findObj_own T.hd hno rfl (by rw [hl, hu])) (handed_of ru) ⟨v, H1, I1.tok _, ru, q⟩
/-- isinstance(x, c) of an exception: one class -/
def rIsX (K : PySem.W.Frag) : List V → Hp → VK → Prop := fun xs H Q => ∃ (a C d : Addr) (fs : List (Str × V)) (c : V) (cu : Value) (b : Bool), xs = [.ref a, c] ∧ H a = some (exo a C (some d)) ∧ H d = some (exd d fs) ∧ ExcC K C ∧ ClsV c cu ∧
  PySem.W.kitOne K (.ref C) cu = some b ∧ Q (.bl b) H
theorem call_isX : CallR X (.builtin "isinstance") (rIsX X.K) := by
  intro pins s σ H xs us Q I r h
  obtain ⟨a, C, d, fs, c, cu, b, rfl, ea, ed, T, kc, e, q⟩ := h
  obtain ⟨u1, u2, rfl, r1, r2⟩ := vals2 r
  cases (show u1 = Value.ref a from r1)
  have e2 := kc.eq r2
  subst e2
  obtain ⟨ox, od, mA, J, hl, hr⟩ := exo_inst I ea ed
  obtain ⟨cd, hcd, _⟩ := PySem.W.any_some T.hd
  exact PySem.W.kia_one (PySem.W.kitx_exc (by rw [hcd]; rfl) T.hg T.hk T.hs T.ha T.hn T.ht T.hm) I.kIn J e (fun z => (nomatch z)) fun tk => ⟨.bl b, H, I.tok tk, rfl, q⟩
end
end Ct

set_option Elab.async false
set_option linter.all false
set_option maxRecDepth 100000
set_option maxHeartbeats 2000000
/-! Own kit D: bundles (a def as the top has left it; a def that keeps its promise), calls by bundle. -/
namespace Ct
open PySem PySem.Spec PyProof.Rows L2
/-- a def of the text, as it stands behind the top -/
def DFE (K : PySem.W.Frag) (mg : Str → Option Value) (nm : Str) (st : Stmt) (ps : List Str) : Prop := ∃ f fd, Fun K nm nm st f fd ∧ mg nm = some (.ref f) ∧ Binds K fd ps []
/-- a def that keeps a promise -/
def Has (P : Program) (w : World) (K : PySem.W.Frag) (mg : Str → Option Value) (base : Heap) (CX : CXT) (k : Nat) (nm : Str) (ps : List Str) (sp : Sp) : Prop :=
  ∃ f fd, mg nm = some (.ref f) ∧ PySem.W.keepIn K (.ref f) = true ∧ Binds K fd ps [] ∧ FnOk P w K mg base CX k f fd ps sp
def HasG (P : Program) (w : World) (K : PySem.W.Frag) (mg : Str → Option Value) (base : Heap) (CX : CXT) (k : Nat) (nm : Str) (ps : List Str) (sp : Sp) : Prop :=
  ∃ f fd, mg nm = some (.ref f) ∧ PySem.W.keepIn K (.ref f) = true ∧ Binds K fd ps [] ∧ GFn P w K mg base CX k f fd ps sp
section
variable {P : Program} {w : World} {K : PySem.W.Frag} {mg : Str → Option Value} {base : Heap} {CX : CXT} {k : Nat} {nm : Str} {ps : List Str} {sp : Sp} {st : Stmt}
theorem dfe_mk {h : Heap} {f : Addr} {oc : Value} {od an : Option Addr} {osl : Array (Option Value)} {kV doc pm cdv ct : Value} (X : K.In h) (G : h.Ns mainGlobals mg) (a : PySem.W.nsIn K mainGlobals nm = some (some (.ref f)))
    (l : K.lookup f = some ⟨oc, od, .func (PySem.W.fnOf nm nm (defArgs st) (defBody st) (defScope st) .none kV doc pm an cdv ct), osl⟩) (c : PySem.W.codeIn K cdv nm = true) (kp : PySem.W.keepIn K (.ref f) = true)
    (b : ∀ (kV doc pm : Value) (an : Option Addr) (cdv ct : Value) (us : List Value), us.length = ps.length → bindArgs (PySem.W.fnOf nm nm (defArgs st) (defBody st) (defScope st) .none kV doc pm an cdv ct) ⟨us, []⟩ = pure (ps.zip us)) : DFE K mg nm st ps :=
  have F := fun_mk (st := st) l c kp
  ⟨f, _, F, PySem.W.mg_of X G a, F.binds b⟩
/-- THE RULE for a def by its bundle -/
theorem has_of {N : List Str} (D : DFE K mg nm st ps) (S : FnScope N ps (defScope st)) (len : ∀ vs H Q E, sp vs H Q E → vs.length = ps.length)
    (body : ∀ (f : Addr) (cdv : Value) (A : Around) (outer : List Env) (s : Shared) (H : Hp) (vs : List V) (Q : VK) (E : XK), Room k (A.deeper (envOfC nm (defScope st) s.heap.objs.size f cdv)) → sp vs H Q E →
      ∃ t, PSs (cxOf CX0 P w K mg base N nm (defScope st) f cdv A outer s H E).nox (defBody st) t ∧ t { nx := fun _ H' => Q .non H', rt := Q } (start N vs) H) : Has P w K mg base CX0 (k + 1) nm ps sp := by
  obtain ⟨f, fd, F, g, b⟩ := D
  exact ⟨f, fd, g, F.kp, b, F.ok S len (body f)⟩
theorem hasG_of {N : List Str} (D : DFE K mg nm st ps) (S : FnScope N ps (defScope st)) (len : ∀ vs H Q E, sp vs H Q E → vs.length = ps.length)
    (body : ∀ (f : Addr) (cdv : Value) (A : Around) (outer : List Env) (s : Shared) (H : Hp) (vs : List V) (Q : VK) (E : XK), A.guards = some [] → Room k (A.deeper (envOfC nm (defScope st) s.heap.objs.size f cdv)) → sp vs H Q E →
      ∃ t, PSs (cxOf CX0 P w K mg base N nm (defScope st) f cdv A outer s H E).nox (defBody st) t ∧ t { nx := fun _ H' => Q .non H', rt := Q } (start N vs) H) : HasG P w K mg base CX0 (k + 1) nm ps sp := by
  obtain ⟨f, fd, F, g, b⟩ := D
  refine ⟨f, fd, g, F.kp, b, gfn_of F S len (fun cdv A o s H vs Q E ga hr h => ?_)⟩
  obtain ⟨t, h1, h2⟩ := body f cdv A o s H vs Q E ga hr h
  exact ⟨t, h1.nox, h2⟩
/-- .. at its place: a law's own def -/
theorem law_of {N : List Str} {f : Addr} {fd : FuncData} (F : Fun K nm nm st f fd) (S : FnScope N ps (defScope st)) (len : ∀ vs H Q E, sp vs H Q E → vs.length = ps.length)
    (body : ∀ (cdv : Value) (A : Around) (outer : List Env) (s : Shared) (H : Hp) (vs : List V) (Q : VK) (E : XK), A.guards = some [] → Room k (A.deeper (envOfC nm (defScope st) s.heap.objs.size f cdv)) → sp vs H Q E →
      ∃ t, PSs (cxOf CX0 P w K mg base N nm (defScope st) f cdv A outer s H E).nox (defBody st) t ∧ t { nx := fun _ H' => Q .non H', rt := Q } (start N vs) H) : GFn P w K mg base CX0 (k + 1) f fd ps sp :=
  gfn_of F S len fun cdv A o s H vs Q E ga hr h => by
    obtain ⟨t, h1, h2⟩ := body cdv A o s H vs Q E ga hr h
    exact ⟨t, h1.nox, h2⟩
theorem Has.mono {j : Nat} (h : Has P w K mg base CX j nm ps sp) (l : j ≤ k) : Has P w K mg base CX k nm ps sp := by
  obtain ⟨f, fd, g, kp, b, F⟩ := h
  exact ⟨f, fd, g, kp, b, F.mono l⟩
theorem Has.g (h : Has P w K mg base CX k nm ps sp) : HasG P w K mg base CX k nm ps sp := by
  obtain ⟨f, fd, g, kp, b, F⟩ := h
  exact ⟨f, fd, g, kp, b, .of F⟩
end
section
variable {X : Cx} {k j : Nat} {nm : Str} {ps : List Str} {sp : Sp} {e : Expr} {es : List Expr} {t : TA} {p pos : Pos}
/-- f(e, ..) by its bundle, nothing raised -/
theorem pe_h (h : Has X.prog X.w X.K X.mg X.base CX0 j nm ps sp) (hr : Room k X.A) (l : j ≤ k) (hg : Gl X nm) (ha : PA X (e :: es) t) (hdb : (nm == ("__debug__" : Str)) = false := by decide)
    (he : starEach (e :: es) X.env = (false, eval e X.env) :: starEach es X.env := by rfl) (hpl : (backTo pos (starEach es X.env)).any (·.1) = false := by rfl) : PE X (.Call (.Name nm p) (e :: es) [] pos) (tCall sp [] E0 t) := by
  obtain ⟨f, fd, g, kp, b, F⟩ := h
  exact pe_call F (hr.mono l) hg g kp b .nil pass0 ha hdb he hpl
theorem pe_h0 (h : Has X.prog X.w X.K X.mg X.base CX0 j nm ps sp) (hr : Room k X.A) (l : j ≤ k) (hg : Gl X nm) (hdb : (nm == ("__debug__" : Str)) = false := by decide) : PE X (.Call (.Name nm p) [] [] pos) (tCall sp [] E0 tNil) := by
  obtain ⟨f, fd, g, kp, b, F⟩ := h
  exact pe_call0 F (hr.mono l) hg g kp b .nil pass0 hdb
theorem pe_hG (h : HasG X.prog X.w X.K X.mg X.base CX0 j nm ps sp) (gd : X.A.guards = some []) (hr : Room k X.A) (l : j ≤ k) (hg : Gl X nm) (ha : PA X (e :: es) t) (hdb : (nm == ("__debug__" : Str)) = false := by decide)
    (he : starEach (e :: es) X.env = (false, eval e X.env) :: starEach es X.env := by rfl) (hpl : (backTo pos (starEach es X.env)).any (·.1) = false := by rfl) : PE X (.Call (.Name nm p) (e :: es) [] pos) (tCall sp [] E0 t) := by
  obtain ⟨f, fd, g, kp, b, F⟩ := h
  exact pe_callG F gd (hr.mono l) hg g kp b .nil pass0 ha hdb he hpl
/-- a class or a def of the module as a value -/
theorem pe_ref {x : Str} {a : Addr} {pos : Pos} (hg : Gl X x) (hm : X.mg x = some (.ref a)) (hd : (x == ("__debug__" : Str)) = false := by decide) : PE X (.Name x pos) (tC (.ref a)) := pe_glob hg hm rfl hd
/-- a field of an exception, the written part named (within a comprehension) -/
theorem pe_xFk {K : PySem.W.Frag} {n : Str} {te : TE} (hK : X.K = K) (he : PE X e te) (hb : attributeBase e n X.env (eval e X.env) = eval e X.env := by rfl) : PE X (.Attribute e n pos) (tXF K n te) := by
  subst hK
  exact pe_xF he hb
/-- slots, short -/
theorem ps_sv (i : Nat) {x : Str} {e : Expr} {te : TE} {pos' : Pos} (hN : X.N.Nodup) (he : PE X e te) (hi : X.N[i]? = some x := by rfl) (hx : Loc X.env.scope x := by first | exact Or.inl rfl | exact Or.inr rfl) (hs : swapsWith e (some (.Name x pos')) pos.line X.env = pure false := by rfl)
    (hf : X.fn x = true ∨ X.env.scope.names.lookup x = some .local := by first | exact .inl rfl | exact .inr rfl | assumption) : PS X (.Assign [.Name x pos'] e pos) (tAsg te (gName i)) := ps_set hN hi hx he hs hf
end
end Ct

set_option Elab.async false
set_option linter.all false
set_option maxRecDepth 100000
set_option maxHeartbeats 2000000
/-! Own kit E: what a law's source of draws promises: source, draw, pick. -/
namespace Ct
open PySem PySem.Spec PyProof.Rows L2
def SrcOk (r m : Int) : Prop := 0 ≤ r ∧ 0 ≤ m ∧ m ≤ 2147483647
/-- source(script, start): a new list of two ints -/
def spSource (K : PySem.W.Frag) : Sp := fun vs H Q _ => ∃ (a : Addr) (ns : List Int) (st : Int), vs = [.ref a, .int st] ∧ 0 ≤ st ∧ st ≤ 100 ∧ SqL K H a (ns.map V.int) ∧ ns.length ≤ 63 ∧ (∀ z ∈ ns, Builtin.Int.intBits z ≤ 1048576) ∧
  ∀ p r m, H p = none → SrcOk r m → Q (.ref p) (upd H p (.lst [.int r, .int m]))
/-- draw(source, span): a number below span; the source turns -/
def spDraw : Sp := fun vs H Q _ => ∃ (p : Addr) (r m n : Int), vs = [.ref p, .int n] ∧ H p = some (.lst [.int r, .int m]) ∧ SrcOk r m ∧ 1 ≤ n ∧ n ≤ 1000000000 ∧
  ∀ r' m' k, SrcOk r' m' → 0 ≤ k → k < n → Q (.int k) (upd H p (.lst [.int r', .int m']))
/-- pick(source, things): one of the things -/
def spPick (K : PySem.W.Frag) : Sp := fun vs H Q _ => ∃ (p q : Addr) (r m : Int) (xs : List V), vs = [.ref p, .ref q] ∧ q ≠ p ∧ H p = some (.lst [.int r, .int m]) ∧ SrcOk r m ∧ (SqL K H q xs ∨ SqT K H q xs) ∧ xs ≠ [] ∧ xs.length ≤ 1000000 ∧
  ∀ r' m' x, SrcOk r' m' → x ∈ xs → Q x (upd H p (.lst [.int r', .int m']))
theorem sqL_upd {K : PySem.W.Frag} {H : Hp} {p q : Addr} {o : HO} {xs : List V} (h : SqL K H q xs) (n : q ≠ p) : SqL K (upd H p o) q xs := by
  rcases h with (h | ⟨u, h⟩) | h
  · exact .inl (.inl (by rw [upd_ne n]; exact h))
  · exact .inl (.inr ⟨u, by rw [upd_ne n]; exact h⟩)
  · exact .inr h
theorem sqT_upd {K : PySem.W.Frag} {H : Hp} {p q : Addr} {o : HO} {xs : List V} (h : SqT K H q xs) (n : q ≠ p) : SqT K (upd H p o) q xs := by
  rcases h with (h | ⟨u, h⟩) | h
  · exact .inl (.inl (by rw [upd_ne n]; exact h))
  · exact .inl (.inr ⟨u, by rw [upd_ne n]; exact h⟩)
  · exact .inr h
theorem at_in {xs : List V} {k : Int} (h0 : 0 ≤ k) (h1 : k < (xs.length : Nat)) : ∃ x, x ∈ xs ∧ atI xs k = some x := by
  obtain ⟨j, rfl⟩ := Int.eq_ofNat_of_zero_le h0
  have hj : j < xs.length := by omega
  exact ⟨xs[j], List.getElem_mem hj, atI_nat (List.getElem?_eq_getElem hj)⟩
theorem ints_at {ns : List Int} {i : Nat} {y : V} (h : (ns.map V.int)[i]? = some y) : ∃ z, ns[i]? = some z ∧ z ∈ ns ∧ y = .int z := by
  rw [List.getElem?_map] at h
  cases e : ns[i]? with
  | none => rw [e] at h; cases h
  | some z => rw [e] at h; exact ⟨z, rfl, List.mem_of_getElem? e, (Option.some.inj h).symm⟩
theorem pow_ok {x : Int} {n : Nat} {j : Int} (h : Builtin.Int.intBits x ≤ n) (h0 : 0 ≤ j) (hz : (n : Int) * j ≤ 2 ^ 27) : CPowW x j := by
  refine ⟨h0, Int.le_trans (Int.mul_le_mul_of_nonneg_right ?_ h0) hz⟩
  omega
theorem bits_small {x : Int} {n : Nat} (h0 : 0 ≤ x) (h : x < 2 ^ n) : Builtin.Int.intBits x ≤ n := by
  refine intBits_le_iff.mpr ?_
  have e : ((x.natAbs : Nat) : Int) = x := by omega
  have z : ((x.natAbs : Nat) : Int) < ((2 ^ n : Nat) : Int) := by rw [e, Int.natCast_pow]; exact h
  omega
end Ct

set_option Elab.async false
set_option linter.all false
set_option maxRecDepth 100000
set_option maxHeartbeats 2000000
/-! Own kit F: for over enumerate; heaps that only grow. -/
namespace Ct
open PySem PySem.Spec PyProof.Rows L2
theorem for_enum {K : PySem.W.Frag} {a : Addr} {xs : List V} {g : TG} {tb : TS} {D : Ends} {σ : L2.St} {H : Hp} (Pv : Nat → L2.St → Hp → Prop) (h0 : Pv 0 σ H) (hl : ∀ i σ H, i ≤ xs.length → Pv i σ H → SqL K H a xs)
    (hs : ∀ i x σ H T, xs[i]? = some x → Pv i σ H → H T = none → g (.ref T) σ (upd H T (.tup [.int (i : Nat), x])) fun σ2 H2 => tb { D with nx := Pv (i + 1), ct := Pv (i + 1), bk := D.nx } σ2 H2)
    (hd : ∀ σ H, Pv xs.length σ H → D.nx σ H) :
    ∃ W : Nat → Nat → L2.St → Hp → Prop, (∃ m, W 0 m σ H) ∧ ∀ i m σ H, W i m σ H →
      ((Ite K a).stop i H ∧ D.nx σ H) ∨ ((Ite K a).go i H ∧ ∃ N : L2.St → Hp → Prop, (∀ σ' H', N σ' H' → ∃ m', m' < m ∧ W (i + 1) m' σ' H') ∧ ∀ x H', (Ite K a).yld i H x H' → g x σ H' fun σ2 H2 => tb { D with nx := N, ct := N, bk := D.nx } σ2 H2) := by
  refine ⟨fun i m σ H => m = xs.length - i ∧ i ≤ xs.length ∧ Pv i σ H, ⟨xs.length, rfl, Nat.zero_le _, h0⟩, ?_⟩
  rintro i m σ H ⟨rfl, hi, p⟩
  have q := hl i σ H hi p
  rcases Nat.lt_or_ge i xs.length with lt | ge
  · right
    refine ⟨⟨xs, xs[i], q, List.getElem?_eq_getElem lt⟩, Pv (i + 1), fun σ' H' p' => ⟨_, by omega, rfl, lt, p'⟩, ?_⟩
    rintro _ _ ⟨T, x, rfl, hT, rfl, hx⟩
    exact hs i x σ H T (hx xs q) p hT
  · left
    have e : i = xs.length := Nat.le_antisymm hi ge
    subst e
    exact ⟨⟨xs, q, Nat.le_refl _⟩, hd σ H p⟩
theorem same_upd {H H' : Hp} {p : Addr} {o : HO} (s : Same H H') (h : H p = none) : Same H (upd H' p o) := fun b u e => by
  rw [upd_ne (ne_of_none e h)]
  exact s b u e
theorem same_new {H : Hp} {p : Addr} {o : HO} (h : H p = none) : Same H (upd H p o) := same_upd (Same.refl H) h
/-- only locked things are tracked: a store leaves them -/
theorem only_upd {H H' : Hp} {p : Addr} {o u : HO} (on : Only H) (s : Same H H') (h : H' p = some u) (n : ∀ ob x, u ≠ .frz ob x) : Same H (upd H' p o) := fun b v e => by
  rcases on b with z | ⟨ob, xs, z⟩
  · rw [z] at e; cases e
  · rw [z] at e; cases e
    have q := s b _ z
    rw [upd_ne (ne_of q h (Ne.symm (n _ _)))]
    exact q
/-- a store at p leaves what is of other content -/
theorem upd_other {H : Hp} {p b : Addr} {o u v : HO} (h : H p = some u) (e : H b = some v) (n : v ≠ u) : upd H p o b = some v := by
  rw [upd_ne (ne_of e h n)]
  exact e
theorem same_t {K : PySem.W.Frag} {H H' : Hp} {a : Addr} {xs : List V} (s : Same H H') (h : SqT K H a xs) : SqT K H' a xs := by
  rcases h with (h | ⟨o, h⟩) | h
  · exact .inl (.inl (s _ _ h))
  · exact .inl (.inr ⟨o, s _ _ h⟩)
  · exact .inr h
theorem same_rd {H H' : Hp} {a : Addr} {u : HO} (s : Same H H') (h : Rd H a u) : Rd H' a u := by
  rcases h with h | ⟨o, h⟩
  · exact .inl (s _ _ h)
  · exact .inr ⟨o, s _ _ h⟩
mutual
theorem Dq.same {K : PySem.W.Frag} {H H' : Hp} (s : Same H H') : ∀ {v : V} {d : PyData}, Dq K H v d → Dq K H' v d
  | _, _, .non => .non
  | _, _, .bl b => .bl b
  | _, _, .int i => .int i
  | _, _, .str x => .str x
  | _, _, .lst h a => .lst (s.seq h) (DqAll.same s a)
  | _, _, .tup h a => .tup (same_t s h) (DqAll.same s a)
  | _, _, .dic h k e a => .dic (same_rd s h) k e (DqAll.same s a)
  | _, _, .dicT h k e a => .dicT (same_rd s h) k e (DqAll.same s a)
theorem DqAll.same {K : PySem.W.Frag} {H H' : Hp} (s : Same H H') : ∀ {vs : List V} {ds : List PyData}, DqAll K H vs ds → DqAll K H' vs ds
  | _, _, .nil => .nil
  | _, _, .cons a b => .cons (Dq.same s a) (DqAll.same s b)
end
end Ct

set_option Elab.async false
set_option linter.all false
set_option maxRecDepth 100000
set_option maxHeartbeats 2000000
/-! Own kit G: sets of tuples of keys (texts, ints), up to 76 members: what is looked for, what is put in. -/
namespace Ct
open PySem PySem.Spec PyProof.Rows L2
abbrev TupAt (P : Program) (w : World) (h : Heap) (k : List Key) (a : Addr) : Prop := IsTupleKey (mixKind P w) h k a
abbrev kh (P : Program) (w : World) (k : List Key) : Int := tupleKeyHash (mixKind P w) k
abbrev Mem := Addr × List Key
def rowK (P : Program) (w : World) (p : Mem) : Int × Value := (kh P w p.2, Value.ref p.1)
theorem key_scan' {P : Program} {w : World} {k : Key} {v : Value} (h : (mixKind P w).is k v = true) : v.scannable = true := by
  rcases keyIs_shape ((mixKind_is P w k v).symm.trans h) with ⟨i, t, rfl, rfl⟩ | ⟨x, t, rfl, rfl⟩ <;> rfl
theorem items_scan {P : Program} {w : World} {ks : List Key} {vs : List Value} (h : ItemsAre (mixKind P w) ks vs) : ∀ v ∈ vs, v.scannable = true := by
  induction h with
  | nil => intro v hv; cases hv
  | cons h1 _ ih =>
    intro v hv
    rcases List.mem_cons.mp hv with rfl | hv
    · exact key_scan' h1
    · exact ih v hv
theorem noClass0 {n : Nat} {v : Value} (h : v.scannable = true) : ofAClassStatement n v = pure false := by
  cases v <;> first | (cases n <;> rfl) | exact absurd h Bool.false_ne_true
section
variable {P : Program} {w : World} {A : Around} {E : Value → Shared → Prop} {s : Shared}
theorem noClass {k : List Key} {b : Addr} {Q : Bool → Shared → Prop} (hk : TupAt P w s.heap k b) (h : Q false s) : wpAny (model P w) A (ofAClassStatement 8 (.ref b)) Q E s := by
  have hT := hk.typeIs
  obtain ⟨o, its, n, ho, _, hd, hi⟩ := hk
  unfold ofAClassStatement
  refine wpAny_bind (wpAny_typeOf hT ?_)
  dsimp only
  simp only [show (("tuple" : String) == "tuple") = true by decide, if_true, pure_bind, Bool.not_true, Bool.false_eq_true, if_false]
  refine wpAny_bind (wpAny_seqItems ho hd ?_)
  dsimp only
  refine wpAny_bind ?_
  rw [← Array.forIn_toList]
  refine wpAny_forIn_list _ (fun l r s' => r.1 = none ∧ s' = s ∧ ∀ v ∈ l, v.scannable = true) _ ?_ ?_ _ _ ⟨rfl, rfl, items_scan hi⟩
  · rintro v l r s' ⟨_, rfl, al⟩
    rw [noClass0 (al v List.mem_cons_self), pure_bind]
    exact wpAny_pure ⟨rfl, rfl, fun u hu => al u (List.mem_cons_of_mem _ hu)⟩
  · rintro ⟨r1, r2⟩ s' ⟨hr, rfl, _⟩
    cases (show r1 = none from hr)
    exact wpAny_pure h
theorem hashBy {k : List Key} {b : Addr} {Q : Bool → Shared → Prop} (hk : TupAt P w s.heap k b) (h : ∀ r, Q r s) : wpAny (model P w) A (hashByValue 8 (.ref b)) Q E s := by
  have hT := hk.typeIs
  obtain ⟨o, its, n, ho, _, hd, hi⟩ := hk
  unfold hashByValue
  refine wpAny_bind (wpAny_specialOf hT F.slot_tuple_hash.lookup ?_)
  show wpAny _ _ (seqItems? (.ref b) >>= _) _ _ s
  refine wpAny_bind (wpAny_seqItems ho hd ?_)
  refine wpAny_bind ?_
  show wpAny _ _ (forIn its _ _) _ _ s
  rw [← Array.forIn_toList]
  refine wpAny_forIn_list _ (fun l r s' => r.1 = none ∧ s' = s ∧ ∀ v ∈ l, v.scannable = true) _ ?_ ?_ _ _ ⟨rfl, rfl, items_scan hi⟩
  · rintro v l r s' ⟨_, rfl, al⟩
    rw [hashByValue_scannable _ (al v List.mem_cons_self), pure_bind]
    cases plainKind v
    · exact wpAny_pure (wpAny_pure (h false))
    · exact wpAny_pure ⟨rfl, rfl, fun u hu => al u (List.mem_cons_of_mem _ hu)⟩
  · rintro ⟨r1, r2⟩ s' ⟨hr, rfl, _⟩
    cases (show r1 = none from hr)
    exact wpAny_pure (h true)
theorem unseen {k : List Key} {b : Addr} {Q : Bool → Shared → Prop} (hk : TupAt P w s.heap k b) {ys : List Value} (hy : ∀ y ∈ ys, ∃ k' c, y = Value.ref c ∧ TupAt P w s.heap k' c) (h : Q false s) :
    wpAny (model P w) A (searchCouldBeSeen (.ref b) ys) Q E s := by
  unfold searchCouldBeSeen
  refine wpAny_bind ?_
  refine wpAny_forIn_list _ (fun l r s' => r.1 = none ∧ s' = s ∧ ∀ y ∈ l, ∃ k' c, y = Value.ref c ∧ TupAt P w s.heap k' c) _ ?_ ?_ _ _ ⟨rfl, rfl, hy⟩
  · rintro v l r s' ⟨_, rfl, al⟩
    obtain ⟨k', c, rfl, hc⟩ := al v List.mem_cons_self
    have al' : ∀ y ∈ l, ∃ k' c, y = Value.ref c ∧ TupAt P w s'.heap k' c := fun u hu => al u (List.mem_cons_of_mem _ hu)
    dsimp only
    by_cases hv : (b == c || (carriedByValue (.ref b) && carriedByValue (.ref c))) = true
    · exact wp_if_pos hv (wpAny_pure ⟨rfl, rfl, al'⟩)
    · refine wp_if_neg hv ?_
      refine wpAny_bind (wpAny_eqIsQuiet_tuple hk ?_)
      simp only [Bool.not_true, Bool.false_eq_true, if_false]
      refine wpAny_bind (wpAny_eqIsQuiet_tuple hc ?_)
      simp only [Bool.not_true, Bool.false_eq_true, if_false]
      refine wpAny_bind (noClass hk ?_)
      simp only [Bool.false_eq_true, if_false]
      refine wpAny_bind (noClass hc ?_)
      simp only [Bool.false_eq_true, if_false]
      exact wpAny_pure ⟨rfl, rfl, al'⟩
  · rintro ⟨r1, r2⟩ s' ⟨hr, rfl, _⟩
    cases (show r1 = none from hr)
    exact wpAny_pure h
/-- the set at a, its table told -/
structure KSet (P : Program) (w : World) (h : Heap) (a : Addr) (L : List Mem) (es : Array (Int × Value)) (ep : Nat) (t : SetTable) : Prop where
  ob : ∃ o, h.get? a = some o ∧ o.ExactSet ∧ o.data = .set es ep t
  rows : es.toList = L.map (rowK P w)
  tab : TabOk t (L.map fun p => kh P w p.2)
  nd : (L.map (·.2)).Nodup
  led : w.params.followText "set-order" = true ∨ t.led = true
  room : L.length * 5 < t.mask * 3
  few : L.length < 77
variable {a : Addr} {L : List Mem} {es : Array (Int × Value)} {ep : Nat} {t : SetTable}
theorem rows_size (h : es.toList = L.map (rowK P w)) : es.size = L.length := by
  have z := congrArg List.length h
  rwa [Array.length_toList, List.length_map] at z
theorem rows_at (h : es.toList = L.map (rowK P w)) (i : Nat) : es[i]? = (L[i]?).map (rowK P w) := by
  rw [← Array.getElem?_toList, h, List.getElem?_map]
theorem KSet.fits (R : KSet P w s.heap a L es ep t) : t.fits es.size = true := by
  have h1 := R.tab.sz
  have h2 := rows_size R.rows
  have h3 := R.room
  rw [List.length_map] at h1
  unfold SetTable.fits SetTable.fill
  rw [R.tab.dm, Bool.and_eq_true, beq_iff_eq, decide_eq_true_eq]
  show t.place.size = es.size ∧ t.place.size + 0 ≤ t.mask
  omega
theorem nth_dummy (m : Nat) : ∀ (n : Nat) (p : SetTable.Probe), p.dummy = none → (nth m p n).dummy = none
  | 0, _, h => h
  | n + 1, p, h => nth_dummy m n (adv m p) (by unfold adv; split <;> exact h)
/-- the way's c-th stand -/
abbrev std (m : Nat) (h : Int) (c : Nat) : SetTable.Probe := nth m (runAt m (SetTable.bits h % (m + 1)) (SetTable.bits h)) c
/-- THE SEARCH -/
theorem seek (R : KSet P w s.heap a L es ep t) (tup : ∀ p ∈ L, TupAt P w s.heap p.2 p.1) {x : Addr} {k : List Key} (hx : TupAt P w s.heap k x) (hu : A.units < cLine) {ad : Bool} {K : Nat} (hK10 : K < 10 * SetTable.turns t.mask)
    (hK : way t.mask (kh P w k) K ∉ t.place.toList) (hb : ∀ c, c < K → way t.mask (kh P w k) c ∈ t.place.toList) {Q : SetFound → Shared → Prop}
    (yes : ∀ r : Option Nat, (ad = true → r = none) → (ad = false → r.isSome = true) → k ∈ L.map (·.2) → Q (.there r) s) (no : k ∉ L.map (·.2) → Q (.free (way t.mask (kh P w k) K) false) s) :
    ∀ (f c : Nat) (st : Option SetTable.Probe), st.getD (t.probeStart (kh P w k)) = std t.mask (kh P w k) c → c ≤ K → K - c < f →
      (∀ (i : Nat) (p : Mem), L[i]? = some p → p.2 = k → ∃ c', c ≤ c' ∧ c' < K ∧ t.place.toList[i]? = some (way t.mask (kh P w k) c')) →
      wpAny (model P w) A (setSearchFrom a (.ref x) (kh P w k) ad f st) Q E s
  | 0, _, _, _, _, z, _ => absurd z (Nat.not_lt_zero _)
  | f + 1, c, st, hst, hc, hf, ahead => by
    obtain ⟨o, ho, hex, hd⟩ := R.ob
    rw [setSearchFrom_succ]
    refine wpAny_bind (wpAny_setState_of ho hd R.fits ?_)
    dsimp only
    refine wp_if_neg (by unfold SetTable.gaveWay; rw [mask_odd R.tab.mok]; decide) ?_
    have sh : ∀ q, nth t.mask (std t.mask (kh P w k) c) q = std t.mask (kh P w k) (c + q) := fun q => (nth_add t.mask c _ q).symm
    have shj : ∀ q, (nth t.mask (std t.mask (kh P w k) c) q).j = way t.mask (kh P w k) (c + q) := fun q => congrArg SetTable.Probe.j (sh q)
    have kk : c + (K - c) = K := by omega
    have hAt : ∀ (i : Nat) (p : Mem), L[i]? = some p → (fun i => (es[i]?.map (·.1)).getD 0) i = kh P w p.2 := fun i p hp => by
      show (es[i]?.map (·.1)).getD 0 = _
      rw [rows_at R.rows, hp] <;> rfl
    have G := go_spec t R.tab.ris R.tab.dm (fun i => (es[i]?.map (·.1)).getD 0) (kh P w k) (10 * SetTable.turns t.mask) (K - c) (std t.mask (kh P w k) c) (nth_dummy _ _ _ rfl) (by omega)
      (fun q hq => by rw [shj]; exact hb _ (by omega)) (by rw [shj, kk]; exact hK)
    rcases G with ⟨q, i, hq, hi, hh, hno, hpr⟩ | ⟨hno, hpr⟩
    · have pr : t.probe (fun i => (es[i]?.map (·.1)).getD 0) (kh P w k) (st.getD (t.probeStart (kh P w k))) = some (.candidate (way t.mask (kh P w k) (c + q)) i (std t.mask (kh P w k) (c + (q + 1)))) := by
        rw [hst, ← shj, ← sh]
        exact hpr
      rw [pr]
      dsimp only
      rw [shj] at hi
      have hil : i < L.length := by
        have h1 : i < t.place.toList.length := (List.getElem?_eq_some_iff.mp hi).1
        have h2 := R.tab.sz
        rw [List.length_map] at h2
        rw [Array.length_toList] at h1
        omega
      obtain ⟨p, hp⟩ : ∃ p, L[i]? = some p := ⟨L[i], List.getElem?_eq_getElem hil⟩
      have hm : p ∈ L := List.mem_of_getElem? hp
      have sl : t.slot (way t.mask (kh P w k) (c + q)) = .live i := slot_live R.tab.ris hi
      have ent : es[i]? = some (rowK P w p) := by rw [rows_at R.rows, hp]; rfl
      have go : wpAny (model P w) A (searchRest a (.ref x) (kh P w k) ad f es t (way t.mask (kh P w k) (c + q)) i (std t.mask (kh P w k) (c + (q + 1)))) Q E s := by
        unfold searchRest
        rw [ent]
        dsimp only [rowK]
        refine wpAny_bind (wpAny_holding (wpAny_eqBool_tuple hu (tup p hm) hx ?_))
        refine wpAny_bind (wpAny_setState_of ho hd R.fits ?_)
        dsimp only
        by_cases e : p.2 = k
        · have mem : k ∈ L.map (·.2) := List.mem_map.mpr ⟨p, hm, e⟩
          cases ad with
          | true => exact wp_if_pos (by simp [e]) (wpAny_pure (yes none (fun _ => rfl) (fun z => Bool.noConfusion z) mem))
          | false =>
            refine wp_if_neg (by simp) ?_
            rw [sameMem]
            simp only [if_true, sl, ent]
            refine wpAny_bind (wpAny_isSame_ref_self (wpAny_bind (wpAny_pure ?_)))
            simp only [if_true]
            exact wp_if_pos (by simp [e]) (wpAny_pure (yes (some i) (fun z => Bool.noConfusion z) (fun _ => rfl) mem))
        · refine wp_if_neg (by simp [e]) ?_
          rw [sameMem]
          simp only [if_true, sl, ent]
          refine wpAny_bind (wpAny_isSame_ref_self (wpAny_bind (wpAny_pure ?_)))
          simp only [if_true]
          refine wp_if_neg (by simp [e]) ?_
          refine seek R tup hx hu hK10 hK hb yes no f (c + (q + 1)) _ rfl (by omega) (by omega) fun i0 p0 h0 e0 => ?_
          obtain ⟨c', a1, a2, a3⟩ := ahead i0 p0 h0 e0
          refine ⟨c', ?_, a2, a3⟩
          have n1 : ¬ c' < c + q := fun z => hno (c' - c) i0 (by omega) (by rw [shj, show c + (c' - c) = c' by omega]; exact a3) ((hAt i0 p0 h0).trans (congrArg (kh P w) e0))
          have n2 : c' ≠ c + q := fun z => by
            rw [z] at a3
            have s0 := slot_live R.tab.ris a3
            rw [sl] at s0
            injection s0 with s0
            rw [← s0, hp] at h0
            exact e ((congrArg Prod.snd (Option.some.inj h0)).trans e0)
          omega
      cases hl : t.led with
      | true => exact wp_if_neg (by decide) go
      | false =>
        refine wp_if_pos (by decide) ?_
        refine wpAny_bind (unseen hx (fun y hy => ?_) (wp_if_neg (by decide) go))
        obtain ⟨e, he, rfl⟩ := List.mem_map.mp hy
        have he2 : e ∈ es.toList := by
          have z : e ∈ es ∧ e.1 = kh P w k := by simpa using he
          simpa using z.1
        rw [R.rows] at he2
        obtain ⟨p2, hp2, rfl⟩ := List.mem_map.mp he2
        exact ⟨p2.2, p2.1, rfl, tup p2 hp2⟩
    · have pr : t.probe (fun i => (es[i]?.map (·.1)).getD 0) (kh P w k) (st.getD (t.probeStart (kh P w k))) = some (.empty (way t.mask (kh P w k) K) none) := by
        have e2 : way t.mask (kh P w k) K = (nth t.mask (std t.mask (kh P w k) c) (K - c)).j := by rw [shj, kk]
        rw [hst, e2]
        exact hpr
      rw [pr]
      dsimp only
      refine wpAny_pure (no fun hm => ?_)
      obtain ⟨p0, h0, e0⟩ := List.mem_map.mp hm
      obtain ⟨i0, hi0⟩ := List.mem_iff_getElem?.mp h0
      obtain ⟨c', a1, a2, a3⟩ := ahead i0 p0 hi0 e0
      exact hno (c' - c) i0 (by omega) (by rw [shj, show c + (c' - c) = c' by omega]; exact a3) ((hAt i0 p0 hi0).trans (congrArg (kh P w) e0))
/-- the search from the way's start -/
theorem seek0 (R : KSet P w s.heap a L es ep t) (tup : ∀ p ∈ L, TupAt P w s.heap p.2 p.1) {x : Addr} {k : List Key} (hx : TupAt P w s.heap k x) (hu : A.units < cLine) {ad : Bool} {Q : SetFound → Shared → Prop}
    (yes : ∀ r : Option Nat, (ad = true → r = none) → (ad = false → r.isSome = true) → k ∈ L.map (·.2) → Q (.there r) s)
    (no : ∀ K, k ∉ L.map (·.2) → way t.mask (kh P w k) K ∉ t.place.toList → (∀ c, c < K → way t.mask (kh P w k) c ∈ t.place.toList) → Q (.free (way t.mask (kh P w k) K) false) s) :
    wpAny (model P w) A (setSearch a (.ref x) (kh P w k) ad) Q E s := by
  have hroom := R.room
  obtain ⟨K, hK10, hK, hb⟩ := R.tab.first (by rw [List.length_map]; omega) (kh P w k)
  have big : K < 100000 := by
    have : 10 * SetTable.turns t.mask ≤ 1420 := by
      unfold SetTable.turns
      rcases R.tab.mok with e | e | e <;> omega
    omega
  unfold setSearch
  refine seek R tup hx hu hK10 hK hb yes (fun n => no K n hK hb) 100000 0 none rfl (Nat.zero_le _) (by omega) fun i p hp e => ?_
  have hil : i < t.place.toList.length := by
    have h1 : i < L.length := (List.getElem?_eq_some_iff.mp hp).1
    have h2 := R.tab.sz
    rw [List.length_map] at h2
    rw [Array.length_toList]
    omega
  have hj := List.getElem?_eq_getElem hil
  obtain ⟨c, hc, e2⟩ := R.tab.before hK (h := kh P w k) (by rw [List.getElem?_map, hp, ← e] <;> rfl) hj
  exact ⟨c, Nat.zero_le _, hc, by rw [hj, e2]⟩
end
end Ct

set_option Elab.async false
set_option linter.all false
set_option maxRecDepth 100000
set_option maxHeartbeats 2000000
/-! Own kit H: the same sets: add, in; over the layer. -/
namespace Ct
open PySem PySem.Spec PyProof.Rows L2
section
variable {P : Program} {w : World} {A : Around} {E : Value → Shared → Prop} {s : Shared} {a : Addr} {L : List Mem} {es : Array (Int × Value)} {ep : Nat} {t : SetTable}
theorem tup_same {h h' : Heap} {k : List Key} {b : Addr} {o : Obj} (hb : TupAt P w h k b) (ho : h.get? a = some o) (hd : o.data = .set es ep t) (sb : Heap.SameBut a h h') : TupAt P w h' k b := by
  obtain ⟨o', its, n, ho', hc, hd', hi⟩ := hb
  refine ⟨o', its, n, (sb.2 b ?_).trans ho', hc, hd', hi⟩
  rintro rfl
  rw [ho] at ho'
  cases ho'
  rw [hd] at hd'
  cases hd'
theorem getD_range (L : List Mem) : (List.range L.length).map (fun i => L.getD i (0, [])) = L := by
  refine List.ext_getElem (by simp) fun i h1 h2 => ?_
  simp [List.getD_eq_getElem?_getD, List.getElem?_eq_getElem h2]
/-- the rows in another order -/
theorem reorder (h : es.toList = L.map (rowK P w)) {order : Array Nat} (pm : order.toList.Perm (List.range L.length)) :
    ∃ L2 : List Mem, (order.filterMap (es[·]?)).toList = L2.map (rowK P w) ∧ L2.Perm L ∧ (L2.map fun p => kh P w p.2) = order.toList.map fun i => (es.map (·.1)).getD i 0 := by
  have bd : ∀ i ∈ order.toList, i < L.length := fun i hi => List.mem_range.mp (pm.mem_iff.mp hi)
  refine ⟨order.toList.map fun i => L.getD i (0, []), ?_, ?_, ?_⟩
  · have key : ∀ l : List Nat, (∀ i ∈ l, i < L.length) → l.filterMap (fun i => es[i]?) = (l.map fun i => L.getD i (0, [])).map (rowK P w) := by
      intro l
      induction l with
      | nil => intro _; rfl
      | cons i l ih =>
        intro hl
        have hi := hl i List.mem_cons_self
        have e : es[i]? = some (rowK P w (L.getD i (0, []))) := by
          rw [rows_at h, List.getElem?_eq_getElem hi]
          simp [List.getD_eq_getElem?_getD, List.getElem?_eq_getElem hi]
        rw [List.filterMap_cons_some e, ih fun j hj => hl j (List.mem_cons_of_mem _ hj)]
        rfl
    rw [Array.toList_filterMap]
    exact key _ bd
  · have z := pm.map fun i => L.getD i (0, [])
    rwa [getD_range] at z
  · rw [List.map_map]
    refine List.map_congr_left fun i hi => ?_
    have e1 := rows_at h i
    rw [List.getElem?_eq_getElem (bd i hi)] at e1
    have e2 : (es.map (·.1))[i]? = some (kh P w (L[i]'(bd i hi)).2) := by rw [Array.getElem?_map, e1]; rfl
    simp [Array.getD_eq_getD_getElem?, e2, List.getD_eq_getElem?_getD, List.getElem?_eq_getElem (bd i hi)]
/-- the table laid anew -/
theorem relay {o : Obj} (ho : s.heap.get? a = some o) (hex : o.ExactSet) (hd : o.data = .set es ep t) (hr : es.toList = L.map (rowK P w)) (hsz : t.place.size = es.size) (hdm : t.dummies = #[]) (hfl : es.size ≤ t.mask)
    (nd : (L.map (·.2)).Nodup) (ld : w.params.followText "set-order" = true ∨ t.led = true) (few : L.length < 77) {wanted M : Nat}
    (hw : SetTable.sizeAbove wanted - 1 = M) (hM : MaskOk M) (hw2 : SetTable.sizeAbove wanted ≤ 128) (hn : L.length * 5 < M * 3) {Q : Unit → Shared → Prop}
    (hQ : ∀ h' L' es' ep' t', Heap.SameBut a s.heap h' → KSet P w h' a L' es' ep' t' → L'.Perm L → Q () { s with heap := h' }) : wpAny (model P w) A (setRelay a wanted) Q E s := by
  have hsl := rows_size hr
  have fits : t.fits es.size = true := by
    unfold SetTable.fits SetTable.fill
    rw [hdm, Bool.and_eq_true, beq_iff_eq, decide_eq_true_eq]
    show t.place.size = es.size ∧ t.place.size + 0 ≤ t.mask
    omega
  obtain ⟨t', order, e, hp, T, em, el, _, _⟩ := relaid_ok t (hs := es.map (·.1)) (wanted := wanted) hw hM (by rw [Array.size_map, hsl]; omega)
  rw [Array.size_map, hsl] at hp
  obtain ⟨L2, r1, r2, r3⟩ := reorder hr hp
  rw [← r3] at T
  have hs2 : (order.filterMap (es[·]?)).size = es.size := by rw [rows_size r1, r2.length_eq, hsl]
  rw [setRelay_eq]
  refine wpAny_bind (wpAny_setState_of ho hd fits ?_)
  dsimp only
  refine wp_if_neg (by rw [sizeLine_eq]; omega) ?_
  rw [e]
  dsimp only
  refine wpAny_bind ?_
  refine wp_if_neg (by rw [hs2]; simp) ?_
  refine wpAny_pure ?_
  dsimp only
  refine wpAny_storeSet_of ho hd ?_ (by rw [hs2, hsl, sizeLine_eq]; omega)
  refine hQ _ L2 _ (ep + 1) t' (Heap.SameBut.update ..) ⟨⟨_, store_at ho hd, ⟨hex.1, hex.2.1, hex.2.2⟩, rfl⟩, r1, T, (r2.map (·.2)).nodup_iff.mpr nd, by rw [el]; exact ld, ?_, by rw [r2.length_eq]; exact few⟩ r2
  rw [r2.length_eq, em]
  exact hn
theorem size_relay {n m : Nat} (h : (m = 7 ∧ n = 4) ∨ (m = 31 ∧ n = 18)) : MaskOk (SetTable.sizeAbove (SetTable.grown (n + 1)) - 1) ∧ SetTable.sizeAbove (SetTable.grown (n + 1)) ≤ 128 ∧ (n + 1) * 5 < (SetTable.sizeAbove (SetTable.grown (n + 1)) - 1) * 3 := by
  rcases h with ⟨_, rfl⟩ | ⟨_, rfl⟩
  · rw [size_20]; exact ⟨.inr (.inl rfl), by decide, by decide⟩
  · rw [size_76]; exact ⟨.inr (.inr rfl), by decide, by decide⟩
/-- ADDING -/
theorem putIn (R : KSet P w s.heap a L es ep t) (tup : ∀ p ∈ L, TupAt P w s.heap p.2 p.1) {x : Addr} {k : List Key} (hx : TupAt P w s.heap k x) (hu : A.units < cLine) (few : L.length + 1 < 77) {Q : Bool → Shared → Prop}
    (old : k ∈ L.map (·.2) → ∀ b, Q b s) (new : k ∉ L.map (·.2) → ∀ b h' L' es' ep' t', Heap.SameBut a s.heap h' → KSet P w h' a L' es' ep' t' → L'.Perm ((x, k) :: L) → Q b { s with heap := h' }) :
    wpAny (model P w) A (setAddHashed a (.ref x) (kh P w k)) Q E s := by
  obtain ⟨o, ho, hex, hd⟩ := R.ob
  have hsl := rows_size R.rows
  have hroom := R.room
  unfold setAddHashed
  refine wpAny_holding ?_
  rw [show (100000 : Nat) = 99999 + 1 from rfl, setAddHashedIn_succ]
  refine wpAny_bind (wpAny_setState_of ho hd R.fits ?_)
  dsimp only
  refine wp_if_neg (by simp [byScan, Value.scannable]) ?_
  refine wpAny_bind (seek0 R tup hx hu (ad := true) (fun r _ _ hm => wpAny_pure (old hm false)) fun K hm hK hb => ?_)
  dsimp only
  refine wpAny_bind (wpAny_setState_of ho hd R.fits ?_)
  dsimp only
  obtain ⟨q1, q2, q3, q4, q5, q6, q7, q8, q9⟩ := R.tab.put hK hb
  generalize hpt : t.put (way t.mask (kh P w k) K) = pt at q1 q3 q4 q5 q6 q7 q8 q9 ⊢
  obtain ⟨t1, p⟩ := pt
  dsimp only at q1 q3 q4 q5 q6 q7 q8 q9 ⊢
  subst q1
  generalize SetTable.below t.place (way t.mask (kh P w k) K) = p at q2 q3 ⊢
  have pm : (L.take p ++ (x, k) :: L.drop p).Perm ((x, k) :: L) := by
    have z : (L.take p ++ (x, k) :: L.drop p).Perm ((x, k) :: (L.take p ++ L.drop p)) := List.perm_middle
    rwa [List.take_append_drop] at z
  have rows1 : (SetTable.insertAt es p (kh P w k, Value.ref x)).toList = (L.take p ++ (x, k) :: L.drop p).map (rowK P w) := by
    rw [SetTable.toList_insertAt, R.rows, List.map_append, List.map_cons, List.map_take, List.map_drop]; rfl
  have hs1 : (L.take p ++ (x, k) :: L.drop p).map (fun p => kh P w p.2) = (L.map fun p => kh P w p.2).take p ++ kh P w k :: (L.map fun p => kh P w p.2).drop p := by
    rw [List.map_append, List.map_cons, List.map_take, List.map_drop]
  rw [← hs1] at q3
  have nd1 : ((L.take p ++ (x, k) :: L.drop p).map (·.2)).Nodup := (pm.map (·.2)).nodup_iff.mpr (List.nodup_cons.mpr ⟨hm, R.nd⟩)
  have len1 : (L.take p ++ (x, k) :: L.drop p).length = L.length + 1 := pm.length_eq
  generalize L.take p ++ (x, k) :: L.drop p = L1 at pm rows1 q3 nd1 len1
  generalize SetTable.insertAt es p (kh P w k, Value.ref x) = es1 at rows1 ⊢
  have sz1 := rows_size rows1
  -- behind the hash: a table that differs in its mark alone
  have fin : ∀ t2 : SetTable, t2.place = t1.place → t2.dummies = t1.dummies → t2.mask = t1.mask → t2.led = t1.led → wpAny (model P w) A (do
      storeSet a es1 t2
      if !false && t2.tooFull then setRelay a (SetTable.grown (es.size + 1))
      return true) Q E s := by
    intro t2 e1 e2 e3 e4
    have T2 : TabOk t2 (L1.map fun p => kh P w p.2) := by
      refine ⟨by rw [e1]; exact q3.ris, by rw [e2]; exact q3.dm, by rw [e1]; exact q3.sz, by rw [e3]; exact q3.mok, by rw [e1, e3]; exact q3.bd, ?_⟩
      rw [e1, e3]
      exact q3.reach
    have ld2 : w.params.followText "set-order" = true ∨ t2.led = true := by rw [e4, q5]; exact R.led
    have fl2 : t2.fill = L.length + 1 := by
      unfold SetTable.fill at q9 ⊢
      rw [e1, e2, q9, List.length_map]
    have mk2 : t2.mask = t.mask := e3.trans q4
    refine wpAny_bind (wpAny_storeSet_of ho hd ?_ (by rw [sz1, len1, sizeLine_eq]; omega))
    have sb : Heap.SameBut a s.heap (s.heap.update a (Obj.putSet es1 t2)) := Heap.SameBut.update ..
    have ho1 := store_at (es' := es1) (t' := t2) ho hd
    generalize s.heap.update a (Obj.putSet es1 t2) = h1 at sb ho1 ⊢
    by_cases hf : t2.tooFull = true
    · have full : (L.length + 1) * 5 ≥ t.mask * 3 := by
        have h := hf
        unfold SetTable.tooFull at h
        rw [decide_eq_true_eq, fl2, mk2] at h
        exact h
      have two : (t.mask = 7 ∧ L.length = 4) ∨ (t.mask = 31 ∧ L.length = 18) := by
        rcases R.tab.mok with e | e | e
        · rw [e] at full hroom; exact .inl ⟨e, by omega⟩
        · rw [e] at full hroom; exact .inr ⟨e, by omega⟩
        · exfalso; rw [e] at full; omega
      obtain ⟨m1, m2, m3⟩ := size_relay two
      simp only [hf, Bool.not_false, Bool.and_self, if_true]
      rw [hsl]
      refine wpAny_bind (relay (s := { s with heap := h1 }) ho1 ⟨hex.1, hex.2.1, hex.2.2⟩ rfl rows1 (by rw [T2.sz, List.length_map, sz1]) T2.dm (by rw [sz1, len1, mk2]; rcases two with ⟨e, e'⟩ | ⟨e, e'⟩ <;> omega) nd1 ld2 (by rw [len1]; exact few) rfl m1 m2 (by rw [len1]; exact m3) ?_)
      intro h2 L2 es2 ep2 t3 sb2 R2 pm2
      exact wpAny_pure (new hm true h2 L2 es2 ep2 t3 (sb.trans sb2) R2 (pm2.trans pm))
    · simp only [hf, Bool.not_false, Bool.and_false, Bool.false_eq_true, if_false]
      refine wpAny_pure (new hm true h1 L1 es1 (ep + 1) t2 sb ⟨⟨_, ho1, ⟨hex.1, hex.2.1, hex.2.2⟩, rfl⟩, rows1, T2, nd1, ld2, ?_, by rw [len1]; exact few⟩ pm)
      unfold SetTable.tooFull at hf
      rw [decide_eq_true_eq, fl2] at hf
      rw [len1]
      omega
  have fin2 : ∀ b : Bool, wpAny (model P w) A (do
      storeSet a es1 (if b then t1 else { t1 with plain := false })
      if !false && (if b then t1 else { t1 with plain := false }).tooFull then setRelay a (SetTable.grown (es.size + 1))
      return true) Q E s := fun b => by
    cases b
    · exact fin _ rfl rfl rfl rfl
    · exact fin _ rfl rfl rfl rfl
  by_cases hp1 : t1.plain = true
  · simp only [hp1, if_true]
    first
      | exact wpAny_bind (hashBy hx fun r => fin2 r)
      | exact wpAny_bind (hashBy hx fun r => wpAny_bind (wpAny_pure (fin2 r)))
  · simp only [hp1, Bool.false_eq_true, if_false]
    first
      | exact fin2 true
      | exact wpAny_bind (wpAny_pure (fin2 true))
/-- FINDING -/
theorem findIt (R : KSet P w s.heap a L es ep t) (tup : ∀ p ∈ L, TupAt P w s.heap p.2 p.1) {x : Addr} {k : List Key} (hx : TupAt P w s.heap k x) (hu : A.units < cLine) {Q : Option Nat → Shared → Prop}
    (yes : k ∈ L.map (·.2) → ∀ r : Option Nat, r.isSome = true → Q r s) (no : k ∉ L.map (·.2) → Q none s) : wpAny (model P w) A (setFind a (.ref x) (kh P w k)) Q E s := by
  obtain ⟨o, ho, hex, hd⟩ := R.ob
  unfold setFind setFindIn
  refine wpAny_bind (wpAny_setState_of ho hd R.fits ?_)
  dsimp only
  refine wp_if_neg (by simp [byScan, Value.scannable]) ?_
  refine wpAny_bind (seek0 R tup hx hu (ad := false) (fun r _ hr hm => ?_) fun K hm _ _ => ?_)
  · exact wpAny_pure (yes hm r (hr rfl))
  · exact wpAny_pure (no hm)
end
end Ct

set_option Elab.async false
set_option linter.all false
set_option maxRecDepth 100000
set_option maxHeartbeats 2000000
/-! Own kit I: sets of tuples of keys over the layer: add, in, comprehensions. -/
namespace Ct
open PySem PySem.Spec PyProof.Rows L2
/-- the set at a; that its members stand as they do is told apart -/
def KSetO (P : Program) (w : World) (a : Addr) (L : List Mem) : HO := .ext fun h => ∃ es ep t, KSet P w h a L es ep t
theorem kset_new {P : Program} {w : World} {H : Hp} {h : Heap} {a : Addr} {L : List Mem} {es : Array (Int × Value)} {ep : Nat} {t : SetTable} (R : KSet P w h a L es ep t) : ObjOk P w H h a (KSetO P w a L) := by
  obtain ⟨o, ho, r⟩ := R.ob
  refine ⟨⟨es, ep, t, R⟩, ⟨o, ho⟩, fun h1 h2 ⟨es, ep, t, R⟩ k => ?_⟩
  obtain ⟨o, ho, r⟩ := R.ob
  exact ⟨es, ep, t, ⟨o, k o ho, r⟩, R.rows, R.tab, R.nd, R.led, R.room, R.few⟩
theorem kset_fresh {P : Program} {w : World} {h : Heap} {a : Addr} (ho : h.get? a = some { cls := .type "set", dict := none, data := .set #[] 0 (.fresh 0 0 (!w.params.followText "set-order")) }) :
    KSet P w h a [] #[] 0 (.fresh 0 0 (!w.params.followText "set-order")) := by
  refine ⟨⟨_, ho, ⟨rfl, rfl, rfl⟩, rfl⟩, rfl, ⟨List.Pairwise.nil, rfl, rfl, .inl rfl, fun x hx => (by cases hx), fun i h j hi => (by simp at hi)⟩, List.nodup_nil, ?_, by show 0 * 5 < 7 * 3; decide, by show 0 < 77; decide⟩
  show _ ∨ (!w.params.followText "set-order") = true
  cases w.params.followText "set-order"
  · exact .inr rfl
  · exact .inl rfl
section
variable {X : Cx} {pins : List (Addr × Obj)} {σ : L2.St} {H : Hp} {s : Shared}
theorem vals_items {P : Program} {w : World} : ∀ {k : List Key} {us : List Value}, Vals (k.map kV) us → ItemsAre (mixKind P w) k us
  | [], _, .nil => .nil
  | _ :: _, _, .cons r t => .cons (kV_is r) (vals_items t)
theorem tup_of (I : Inv X pins σ H s) {b : Addr} {k : List Key} (h : SqT X.K H b (k.map kV)) : TupAt X.prog X.w s.heap k b := by
  obtain ⟨its, r, ⟨o, ho, hc, n, hd⟩, _⟩ := I.tuple h
  exact ⟨o, its.toArray, n, ho, hc, hd, by simpa using vals_items r⟩
/-- the members stand -/
def Mems (K : PySem.W.Frag) (H : Hp) (L : List Mem) : Prop := ∀ p ∈ L, SqT K H p.1 (p.2.map kV)
theorem mems_at (I : Inv X pins σ H s) {L : List Mem} (h : Mems X.K H L) : ∀ p ∈ L, TupAt X.prog X.w s.heap p.2 p.1 := fun p hp => tup_of I (h p hp)
/-- what add promises: k, a tuple at b, put into the set at a -/
def rKAdd (K : PySem.W.Frag) (P : Program) (w : World) (a b : Addr) (H : Hp) (Q : Hp → Prop) : Prop := ∃ (L : List Mem) (k : List Key), H a = some (KSetO P w a L) ∧ Mems K H L ∧ SqT K H b (k.map kV) ∧ L.length + 1 < 77 ∧
  (k ∈ L.map (·.2) → Q H) ∧ (k ∉ L.map (·.2) → ∀ L', L'.Perm ((b, k) :: L) → Q (upd H a (KSetO P w a L')))
theorem kadd {E : Value → Shared → Prop} {a b : Addr} {Qh : Hp → Prop} {Q : Value → Shared → Prop} (hu : X.A.units + 64 < cLine) (I : Inv X pins σ H s) (h : rKAdd X.K X.prog X.w a b H Qh)
    (q : ∀ H' s', Inv X pins σ H' s' → Qh H' → Q .none s') : wpAny (model X.prog X.w) X.A (call (.builtin "set.add") [.ref a, .ref b]) Q E s := by
  obtain ⟨L, k, ha, hm, hb, few, q1, q2⟩ := h
  obtain ⟨⟨es, ep, t, R⟩, _⟩ := I.hok _ _ ha
  have R : KSet X.prog X.w s.heap a L es ep t := R
  have tup := mems_at I hm
  have hx := tup_of I hb
  obtain ⟨o, ho, hex, hd⟩ := R.ob
  have ty : s.TypeIs (.ref a) "set" := ⟨o, ho, hex.1⟩
  have hu1 : X.A.in1.units < cLine := by show X.A.units + 1 < _; omega
  refine wpAny_call_entry F.slot_set_add ty F.entry_set_add ?_ (F.args_set_add_2 _ _)
  unfold Builtin.«set.add» Builtin.Frozenset.oneOther
  simp only [List.isEmpty_nil, bind_assoc]
  unfold Builtin.Frozenset.addrOf setAdd
  refine wpAny_bind (wpAny_pure ?_)
  try dsimp only
  refine wpAny_bind (wpAny_pure ?_)
  try dsimp only
  refine wpAny_bind ?_
  refine wpAny_holding ?_
  refine wpAny_bind (wpAny_pyHash_tuple hu1 hx ?_)
  have I1 : Inv X pins σ H { s with toks := s.toks + (k.length + 1) } := I.tok _
  refine putIn (s := { s with toks := s.toks + (k.length + 1) }) R tup hx hu1 few (fun hm b => ?_) fun hm b h' L' es' ep' t' sb R' pm => ?_
  · show wpAny _ _ (ret Value.none) _ _ _
    exact wpAny_pure ⟨_, rfl, q H _ I1 (q1 hm)⟩
  · show wpAny _ _ (ret Value.none) _ _ _
    obtain ⟨o', ho', _⟩ := R'.ob
    have he : ∃ u, h'.get? a = some u := ⟨o', ho'⟩
    exact wpAny_pure ⟨_, rfl, q _ _ (I.write (e := a) (t' := s.toks + (k.length + 1)) (by rw [ha]; trivial) (.inl rfl) (fun b u hb hu => (sb.2 b hb).trans hu) he (kset_new R')) (q2 hm L' pm)⟩
/-- k in s -/
def rKIn (K : PySem.W.Frag) (P : Program) (w : World) : V → V → Hp → VK → Prop := fun x y H Q => ∃ (a b : Addr) (L : List Mem) (k : List Key), x = .ref b ∧ y = .ref a ∧ H a = some (KSetO P w a L) ∧ Mems K H L ∧ SqT K H b (k.map kV) ∧
  (k ∈ L.map (·.2) → Q (.bl true) H) ∧ (k ∉ L.map (·.2) → Q (.bl false) H)
theorem or_kin (hu : X.A.units + 64 < cLine) : OpR X (compareOp .In) (rKIn X.K X.prog X.w) := by
  intro pins s σ H x y v u Q I rx ry h
  obtain ⟨a, b, L, k, rfl, rfl, ha, hm, hb, q1, q2⟩ := h
  cases rx
  cases ry
  obtain ⟨⟨es, ep, t, R⟩, _⟩ := I.hok _ _ ha
  have R : KSet X.prog X.w s.heap a L es ep t := R
  have tup := mems_at I hm
  have hx := tup_of I hb
  obtain ⟨o, ho, hex, hd⟩ := R.ob
  have ty : s.TypeIs (.ref a) "set" := ⟨o, ho, hex.1⟩
  have hu1 : X.A.in1.units < cLine := by show X.A.units + 1 < _; omega
  show wpAny _ _ (do return Value.bool (← contains (.ref a) (.ref b))) _ _ s
  refine wpAny_bind ?_
  unfold contains
  refine wpAny_holding ?_
  refine wpAny_bind (wpAny_specialOf ty F.slot_set_contains.lookup ?_)
  show wpAny _ _ (if (some (Value.builtin "set.__contains__") == some Value.none) = true then _ else _) _ _ s
  rw [if_neg (by rw [beq_builtin_none]; exact Bool.false_ne_true)]
  refine wpAny_bind (wpAny_callSpecialUnlessNone?_slot (name := Str.ofString "__contains__") ty F.slot_set_contains
    (wpAny_call_entry F.slot_set_contains ty entry_set_contains ?_ (F.args_set_contains_2 _ _)))
  unfold Builtin.«frozenset.__contains__» Builtin.Frozenset.oneOther
  simp only [List.isEmpty_nil, bind_assoc]
  unfold Builtin.Frozenset.addrOf Builtin.Frozenset.withSetAsKey setContains
  refine wpAny_bind (wpAny_pure ?_)
  try dsimp only
  refine wpAny_bind (wpAny_pure ?_)
  try dsimp only
  refine wpAny_bind (wpAny_tryCatch ?_)
  refine wpAny_holding ?_
  refine wpAny_bind (wpAny_pyHash_tuple hu1 hx ?_)
  have I1 : Inv X pins σ H { s with toks := s.toks + (k.length + 1) } := I.tok _
  refine wpAny_bind (findIt (s := { s with toks := s.toks + (k.length + 1) }) R tup hx hu1 (fun hk r hr => ?_) fun hk => ?_)
  · refine wpAny_pure ?_
    show wpAny _ _ (ret (Value.bool r.isSome)) _ _ _
    rw [hr]
    exact wpAny_pure ⟨_, rfl, wpAny_truthy_bool (wpAny_pure ⟨.bl true, H, I1, rfl, q1 hk⟩)⟩
  · refine wpAny_pure ?_
    show wpAny _ _ (ret (Value.bool false)) _ _ _
    exact wpAny_pure ⟨_, rfl, wpAny_truthy_bool (wpAny_pure ⟨.bl false, H, I1, rfl, q2 hk⟩)⟩
/-- s.add(t) -/
def tKAdd (K : PySem.W.Frag) (P : Program) (w : World) (to te : TE) : TE := fun σ H Q => to σ H fun x H1 => (∃ a L, x = V.ref a ∧ H1 a = some (KSetO P w a L)) ∧ te σ H1 fun y H2 => ∃ a b, x = .ref a ∧ y = .ref b ∧ rKAdd K P w a b H2 fun H3 => Q .non H3
theorem pe_kadd {o e : Expr} {to te : TE} {apos cpos : Pos} (hu : X.A.units + 64 < cLine) (ho : PE X o to) (he : PE X e te)
    (hbase : attributeBase o "add" X.env (eval o X.env) = eval o X.env := by rfl)
    (hfew : ((backTo cpos (starEach [e] X.env)).all (fun x => !x.1) && (backToKw cpos (keywordEach [] X.env)).all (fun x => x.1.isSome)
      && decide ([e].length + ([] : List Keyword).length + (if ([] : List Keyword).isEmpty then 0 else 1) < 30)) = true := by rfl)
    (hline : (apos.endLine == cpos.line) = true := by rfl) (hs : starEach [e] X.env = (false, eval e X.env) :: starEach [] X.env := by rfl) :
    PE X (.Call (.Attribute o "add" apos) [e] [] cpos) (tKAdd X.K X.prog X.w to te) := by
  refine ⟨fun pins s σ H Q I h => ?_⟩
  refine wpAny_Call_method_late hbase hfew hline rfl (thn (ho.run pins s σ H _ I h) fun v s1 ⟨x, H1, I1, r1, ty, q1⟩ => ?_)
  obtain ⟨a, L, rfl, ha⟩ := ty
  obtain ⟨⟨es, ep, t, R⟩, _⟩ := I1.hok _ _ ha
  have R : KSet X.prog X.w s1.heap a L es ep t := R
  obtain ⟨ob, hob, hex, _⟩ := R.ob
  cases r1
  refine ⟨"set", "set.add", F.plainAttrs_set, F.slot_set_add, F.type_set_add, ⟨ob, hob, hex.1⟩, (fun b e => by cases e; exact ⟨ob, hob, hex.2.1⟩), ?_⟩
  rw [hs]
  refine Calls.callWith_builtin rfl (Calls.evalArgs_plain (Calls.spliced_cons (thn (he.run pins s1 σ H1 _ I1 q1) fun iv s2 ⟨y, H2, I2, ry, a', b, ea, eb, q2⟩ => Calls.spliced_nil ?_)))
  cases ea
  subst eb
  cases ry
  exact kadd hu I2 q2 fun H' s' I' q' => ⟨.non, H', I', rfl, q'⟩
end
end Ct

set_option Elab.async false
set_option linter.all false
set_option maxRecDepth 100000
set_option maxHeartbeats 2000000
/-! Own kit J: {e for x in xs}, e a tuple of keys. -/
namespace Ct
open PySem PySem.Spec PyProof.Rows L2 PpSet
section
variable {X : Cx}
/-- the turns of {e for x in it}, D the new set -/
def tKSc (K : PySem.W.Frag) (P : Program) (w : World) (wi : TI) (g : TG) (te : TE) (vs : List Nat) : TE := fun σ H Q => wi σ H fun J H1 => ∀ D, H1 D = none → ∃ W : Nat → Nat → Hp → Prop, (∃ m, W 0 m (upd H1 D (KSetO P w D []))) ∧ ∀ i m H, W i m H →
  (J.stop i H ∧ Q (.ref D) H) ∨ (J.go i H ∧ ∃ Nx : Hp → Prop, (∀ H', Nx H' → ∃ m', m' < m ∧ W (i + 1) m' H') ∧ ∀ x H', J.yld i H x H' → g x (wipe σ vs) H' fun σ2 H2 => wipe σ2 vs = wipe σ vs ∧
    te σ2 H2 fun y H4 => ∃ b, y = .ref b ∧ rKAdd K P w D b H4 Nx)
theorem ksc_core {pins : List (Addr × Obj)} {s : Shared} {σ : L2.St} {H : Hp} {Q : VK} {elt tg iter : Expr} {scope : Scope} {own : List (PySem.Str × Nat)} {pos pos' : Pos} {wi : TI} {g : TG} {te : TE} {use : Option (Value → Sem Unit)} {Qf : Value → Shared → Prop}
    (hu : X.A.units + 64 < cLine) (hc : X.calm = true) (hN : X.N.Nodup) (I : Inv X pins σ H s) (hi : PI X tg iter wi) (ok : BlkOk X.N X.env.scope scope own)
    (hg : ∀ (s : Shared) (H : Hp) (C : Addr) (cl : List (PySem.Str × Addr)) (fp : List Addr), PG (X.blk s H scope (compEnvC scope cl C X.env) fp) tg g)
    (he : ∀ (s : Shared) (H : Hp) (C : Addr) (cl : List (PySem.Str × Addr)) (fp : List Addr), PE (X.blk s H scope (compEnvC scope cl C X.env) fp) elt te) (hs : ∀ x, foldedSetIterable iter X.env x = pure x)
    (h : tKSc X.K X.prog X.w wi g te (own.map (·.2)) σ H Q)
    (hRR : ∀ D C s' m H', Inv X pins σ H' s' → Q (.ref D) H' → s'.heap.Ns C m → FpOk X pins H' C → compPost (model X.prog X.w) X.A X.xe use Qf (.ref D) C (.ok .next) s') :
    wpAny (model X.prog X.w) X.A (comprehension (.SetComp elt [⟨tg, iter, [], 0⟩] scope pos) scope X.env pos' (newSet (.type "set")) false (eval iter X.env) use) Qf X.xe s := by
  have free : ∀ y ∈ scope.names, y.2 = .free → ∃ c, X.env.cells.lookup y.1 = some c := fun y hy e => (ok.free y hy e).elim (fun k => I.ok.has _ (.inl k)) (fun k => I.ok.has _ (.inr k))
  refine wpAny_comprehension_free (use := use) rfl hs (closure_ok free) ok.kind (fun y hy e => by rw [ok.uniq y hy, e])
    (thn (hi.run pins s σ H _ I h) fun xv s1 hx => thn hx fun itv s2 h2 => ?_)
  obtain ⟨it, fp, tn, J, H2, rfl, I2, T, st2, f2, q⟩ := h2
  refine newSet_ok (newEnv_comp ?_)
  generalize hD : s2.heap.objs.size = D
  obtain ⟨W, ⟨m0, w0⟩, turn⟩ := q D (I2.hok.fresh (Nat.le_of_eq hD))
  generalize hs3 : ({ s2 with heap := s2.heap.push { cls := .type "set", dict := none, data := .set #[] 0 (.fresh 0 0 (!X.w.params.followText "set-order")) } } : Shared) = s3
  have h3 : s3.heap = s2.heap.push { cls := .type "set", dict := none, data := .set #[] 0 (.fresh 0 0 (!X.w.params.followText "set-order")) } := by rw [← hs3]
  have I3 : Inv X pins σ (upd H2 D (KSetO X.prog X.w D [])) s3 := by
    rw [← hs3, ← hD]
    exact I2.laid (t' := s2.toks) (fun b o e => Heap.get?_push_of_some _ e) (Nat.le_refl _) (kset_new (kset_fresh (Heap.get?_push_size _ rfl)))
  have kp3 : ∀ b ∈ fp, ∀ o, s2.heap.get? b = some o → s3.heap.get? b = some o := fun b _ o e => by rw [h3]; exact Heap.get?_push_of_some _ e
  have st3 : tn 0 s3.heap := T.keep _ _ _ st2 kp3
  have f3 : ∀ b ∈ fp, FpOk X pins (upd H2 D (KSetO X.prog X.w D [])) b ∧ b < s3.heap.objs.size := fun b hb => by
    obtain ⟨o, e, _⟩ := T.obj _ _ st2 b hb
    have lt : b < s2.heap.objs.size := Heap.lt_size e
    exact ⟨⟨by rw [upd_ne (by rw [← hD]; exact Nat.ne_of_lt lt)]; exact (f2 b hb).1, (f2 b hb).2⟩, by rw [h3, Heap.size_push]; exact Nat.lt_succ_of_lt lt⟩
  have I4 := block_start I3 ok hN f3
  have pg := hg s3 (upd H2 D (KSetO X.prog X.w D [])) s3.heap.objs.size (cellsFrom (s3.heap.objs.size + 1) scope.names (cloFrom X.env.cells scope.names [])) fp
  have pe := he s3 (upd H2 D (KSetO X.prog X.w D [])) s3.heap.objs.size (cellsFrom (s3.heap.objs.size + 1) scope.names (cloFrom X.env.cells scope.names [])) fp
  show codeAny _ _ (.compStart (.SetComp elt [⟨tg, iter, [], 0⟩] scope pos) 0 (.ref it) (.ref D) (compEnvC scope (cellsFrom (s3.heap.objs.size + 1) scope.names (cloFrom X.env.cells scope.names [])) s3.heap.objs.size X.env)) (compPost (model X.prog X.w) X.A X.xe use Qf (.ref D) s3.heap.objs.size) { s3 with heap := pushCells (s3.heap.push { cls := .type "dict", data := .dict #[] }) scope.names }
  generalize hce : compEnvC scope (cellsFrom (s3.heap.objs.size + 1) scope.names (cloFrom X.env.cells scope.names [])) s3.heap.objs.size X.env = ce at I4 pg pe ⊢
  have cL : ce.locals = s3.heap.objs.size := by subst hce; rfl
  have nfp : ∀ b ∈ fp, (upd H2 D (KSetO X.prog X.w D [])) b = none := fun b hb => (f3 b hb).1.1
  generalize upd H2 D (KSetO X.prog X.w D []) = H3 at I3 I4 pg pe w0 nfp f3
  generalize hs4 : ({ s3 with heap := pushCells (s3.heap.push { cls := .type "dict", data := .dict #[] }) scope.names } : Shared) = s4 at I4 ⊢
  have st4 : tn 0 s4.heap := T.keep _ _ _ st3 fun b _ o e => by rw [← hs4]; exact pushCells_keeps _ _ _ _ (Heap.get?_push_of_some _ e)
  have foot : ∀ {σ' : L2.St} {H' : Hp} {s' : Shared}, Inv (X.blk s3 H3 scope ce fp) [] σ' H' s' → (∀ b ∈ fp, H' b = none) → ∀ b ∈ fp, FpOk (X.blk s3 H3 scope ce fp) [] H' b := fun {σ' H' s'} I' hn b hb =>
    ⟨hn b hb, (I'.ok.exf b hb).1, I'.ok.exfs b hb, .inl hb, fun x c e => (I'.ok.exf b hb).2 x c e, fun p hp => absurd (show p ∈ ([] : List (Addr × Obj)) ++ [] from hp) (by simp)⟩
  have loop : codeAny (model X.prog X.w) X.A (.compLoop (.SetComp elt [⟨tg, iter, [], 0⟩] scope pos) 0 (.ref it) (.ref D) ce) (compPost (model X.prog X.w) X.A X.xe use Qf (.ref D) s3.heap.objs.size) s4 := by
    refine compLoopS_any (fun n s' => ∃ i H', Inv (X.blk s3 H3 scope ce fp) [] (wipe σ (own.map (·.2))) H' s' ∧ tn i s'.heap ∧ (∀ b ∈ fp, H' b = none) ∧ W i n H') ?_ m0 ⟨0, H3, I4, st4, nfp, w0⟩
    rintro n s5 ⟨i, H5, I5, st5, n5, w5⟩
    rcases turn i n H5 w5 with ⟨stop, qq⟩ | ⟨go, Nx, hNx, step⟩
    · refine thnF (T.done (X.blk s3 H3 scope ce fp) rfl rfl rfl hc i [] s5 _ H5 (fun _ _ => False) I5 (foot I5 n5) st5 stop) fun r s6 ⟨hr, I6⟩ => ?_
      subst hr
      have I7 : Inv X pins σ H5 s6 := I3.call' (ch := fp) I6.os I6.base I6.hok I6.bare fun b hb => ⟨(f3 b hb).1.2.2.2.1, (f3 b hb).1.2.1, (f3 b hb).1.2.2.2.2.1, (f3 b hb).1.2.2.2.2.2⟩
      have nC : H5 s3.heap.objs.size = none := cL ▸ (I6.free : H5 ce.locals = none)
      obtain ⟨m, hn, _⟩ := I6.loc
      exact hRR D s3.heap.objs.size s6 m H5 I7 qq (cL ▸ (hn : s6.heap.Ns ce.locals m)) (I3.fpOk (Nat.le_refl _) nC)
    · refine thnF (T.item (X.blk s3 H3 scope ce fp) rfl rfl rfl hc i [] s5 _ H5 (fun _ _ => False) I5 (foot I5 n5) st5 go) fun r s6 ⟨u, hr, h6⟩ => ?_
      subst hr
      refine thnF h6 fun _ s7 ⟨x, H7, I7, r7, y7, st7, n7⟩ => ?_
      refine thnF (pg.run _ s7 _ H7 x u _ (I7.pinned (foot I7 n7) (T.obj _ _ st7)) r7 (step x H7 y7)) fun _ s8 ⟨σ8, H8, I8, hw8, q8⟩ => ?_
      have fin : ∀ {s' : Shared} {H' : Hp}, Inv (X.blk s3 H3 scope ce fp) ([] ++ pinsAt fp s7.heap) σ8 H' s' → Nx H' → ∃ m, m < n ∧ ∃ i H', Inv (X.blk s3 H3 scope ce fp) [] (wipe σ (own.map (·.2))) H' s' ∧ tn i s'.heap ∧ (∀ b ∈ fp, H' b = none) ∧ W i m H' := fun {s' H'} I' nx => by
        obtain ⟨m', hm, w'⟩ := hNx H' nx
        have pin' : ∀ b ∈ fp, ∀ o, s7.heap.get? b = some o → s'.heap.get? b = some o ∧ H' b = none := fun b hb o e =>
          let z := I'.pin (b, o) (List.mem_append_right _ (List.mem_append_right _ (mem_pinsAt hb e)))
          ⟨z.1, z.2.1⟩
        refine ⟨m', hm, i + 1, H', (I'.unpinned (pins := [])).weak (by rw [← hw8, wipe_length]) (fun j v e => ?_), T.keep _ _ _ st7 fun b hb o e => (pin' b hb o e).1, fun b hb => ?_, w'⟩
        · rw [← hw8] at e
          exact (wipe_some e).1
        · obtain ⟨o, e, _⟩ := T.obj _ _ st7 b hb
          exact (pin' b hb o e).2
      show wpAny _ _ (pure true) _ _ s8
      refine wpAny_pure ?_
      simp only [if_true]
      refine thnF (pe.run _ s8 σ8 H8 _ I8 q8) fun z s10 ⟨yv, H10, I10, r10, b, ey, ad⟩ => ?_
      subst ey
      cases (show z = Value.ref b from r10)
      exact kadd (X := X.blk s3 H3 scope ce fp) hu I10 ad fun H' s' I' nx => fin I' nx
  exact codeAny_compStart_set loop (T.self X.A 0 _ _ _ st4 loop)
/-- as a value -/
theorem pe_ksc {elt tg iter : Expr} {scope : Scope} {own : List (PySem.Str × Nat)} {pos : Pos} {wi : TI} {g : TG} {te : TE} (hu : X.A.units + 64 < cLine) (hc : X.calm = true) (hN : X.N.Nodup) (hi : PI X tg iter wi) (ok : BlkOk X.N X.env.scope scope own)
    (hg : ∀ (s : Shared) (H : Hp) (C : Addr) (cl : List (PySem.Str × Addr)) (fp : List Addr), PG (X.blk s H scope (compEnvC scope cl C X.env) fp) tg g)
    (he : ∀ (s : Shared) (H : Hp) (C : Addr) (cl : List (PySem.Str × Addr)) (fp : List Addr), PE (X.blk s H scope (compEnvC scope cl C X.env) fp) elt te) (hs : ∀ x, foldedSetIterable iter X.env x = pure x := by intro _; rfl) :
    PE X (.SetComp elt [⟨tg, iter, [], 0⟩] scope pos) (tKSc X.K X.prog X.w wi g te (own.map (·.2))) := by
  refine ⟨fun pins s σ H Q I h => ?_⟩
  rw [eval_SetComp]
  refine ksc_core hu hc hN I hi ok hg he hs h fun D C s' m H' I' q hn f => ⟨m, hn, fun h'' sb => ?_⟩
  obtain ⟨f0, f1, f2, f3, f4, f5⟩ := f
  exact ⟨.ref D, H', I'.turned (t' := s'.toks) (fun b o hb e => (sb.2 b hb).trans e) f0 f1 f3 f4 f5, rfl, q⟩
/-- y = {e for x in xs} -/
theorem ps_setKsc {i : Nat} {y : PySem.Str} {py : Pos} {elt tg iter : Expr} {scope : Scope} {own : List (PySem.Str × Nat)} {pos spos : Pos} {wi : TI} {g : TG} {te : TE} (hu : X.A.units + 64 < cLine) (hc : X.calm = true) (hN : X.N.Nodup) (hy : X.N[i]? = some y) (hyl : X.env.scope.names.lookup y = some .local)
    (hsw : swapsWith (.SetComp elt [⟨tg, iter, [], 0⟩] scope pos) (some (.Name y py)) spos.line X.env = pure true) (hi : PI X tg iter wi) (ok : BlkOk X.N X.env.scope scope own)
    (hg : ∀ (s : Shared) (H : Hp) (C : Addr) (cl : List (PySem.Str × Addr)) (fp : List Addr), PG (X.blk s H scope (compEnvC scope cl C X.env) fp) tg g)
    (he : ∀ (s : Shared) (H : Hp) (C : Addr) (cl : List (PySem.Str × Addr)) (fp : List Addr), PE (X.blk s H scope (compEnvC scope cl C X.env) fp) elt te) (hs : ∀ x, foldedSetIterable iter X.env x = pure x := by intro _; rfl) :
    PS X (.Assign [.Name y py] (.SetComp elt [⟨tg, iter, [], 0⟩] scope pos) spos) (tAsg (tKSc X.K X.prog X.w wi g te (own.map (·.2))) (gName i)) := by
  refine ⟨fun pins s σ H D I h => ?_⟩
  rw [exec_Assign_Name_used _ _ _ _ hsw]
  refine wpAny_bind (wpAny_standAt (wpAny_bind ?_))
  show wpAny _ X.A (do let _ ← comprehension (.SetComp elt [⟨tg, iter, [], 0⟩] scope pos) scope X.env (firstIterPos [⟨tg, iter, [], 0⟩] pos) (newSet (.type "set")) false (eval iter X.env) (some (assign (.Name y py) X.env))) _ _ s
  have q : tKSc X.K X.prog X.w wi g te (own.map (·.2)) σ H (fun x H1 => gName i x σ H1 D.nx) := h
  refine wpAny_bind (thn (ksc_core (Qf := fun _ s' => SP X pins D .next s') hu hc hN I hi ok hg he hs q fun L C s' m H' I' q hn f => ?_) fun _ s' hq => wpAny_pure (wpAny_pure hq))
  show wpAny _ _ (assign (.Name y py) X.env (.ref L)) _ _ _
  refine wpAny_assign_Name (store_ok2 (v := V.ref L) I' hN hy (.inl hyl) rfl (fun s2 I2 ⟨a, sb, ha⟩ => ?_) (.inr hyl))
  obtain ⟨f0, f1, f2, f3, f4, f5⟩ := f
  have ne : C ≠ a := ha.elim (fun z => z ▸ f1) (fun z e => f4 y a z e.symm)
  exact ⟨m, hn.sameBut sb ne, fun h3 sb3 => ⟨_, H', I2.turned (t' := s2.toks) (fun b o hb e => (sb3.2 b hb).trans e) f0 f1 f3 f4 f5, q⟩⟩
theorem sw_setc {elt : Expr} {gs : List Comprehension} {scope : Scope} {pos py : Pos} {y : PySem.Str} {l : Nat} {env : Env} (hk : env.scope.kind = .function) (hy : env.scope.names.lookup y = some .local) (hl : (py.line == pos.line) = true)
    (ha : (scope.names.any fun (n, k) => n == y && (k == .local || k == .cell)) = false) : swapsWith (.SetComp elt gs scope pos) (some (.Name y py)) l env = pure true := by
  have ky : env.kindOf y = some .local := hy
  have hb : env.blockKind = .function := by unfold Env.blockKind; rw [hk]; rfl
  unfold swapsWith
  simp only [hb, ky, ha, Expr.pos, hl]
  rfl
end
end Ct

set_option Elab.async false
set_option linter.all false
set_option maxRecDepth 100000
set_option maxHeartbeats 4000000
/-! Own kit K: set(xs) of any number of texts and ints, its len. -/
namespace Ct
open PySem PySem.Spec PyProof.Rows L2
/-- how many of the first i are new -/
def cnt (ks : List Key) : Nat → Nat
  | 0 => 0
  | i + 1 => cnt ks i + (if (ks.take i).any (fun j => decide (j = ks.getD i (.inl 0))) = true then 0 else 1)
theorem cnt_le (ks : List Key) : ∀ i, cnt ks i ≤ i
  | 0 => Nat.le_refl _
  | i + 1 => by
    have := cnt_le ks i
    unfold cnt
    split <;> omega
theorem any_mem {ks : List Key} {k : Key} : ks.any (fun j => decide (j = k)) = true ↔ k ∈ ks := by
  rw [List.any_eq_true]
  exact ⟨fun ⟨j, hj, e⟩ => (of_decide_eq_true e) ▸ hj, fun h => ⟨k, h, decide_eq_true rfl⟩⟩
theorem take_next' {ks : List Key} {i : Nat} (h : i < ks.length) : ks.take (i + 1) = ks.take i ++ [ks.getD i (.inl 0)] := by
  rw [List.take_succ, List.getElem?_eq_getElem h, List.getD_eq_getElem?_getD, List.getElem?_eq_getElem h]; rfl
theorem cnt_eq (ks : List Key) : ∀ i, i ≤ ks.length → (cnt ks i = i ↔ (ks.take i).Nodup)
  | 0, _ => by simp [cnt]
  | i + 1, hi => by
    have ih := cnt_eq ks i (Nat.le_of_lt hi)
    have le := cnt_le ks i
    rw [take_next' hi, List.nodup_append]
    unfold cnt
    by_cases c : ks.getD i (.inl 0) ∈ ks.take i
    · rw [if_pos (any_mem.mpr c)]
      exact ⟨fun z => by omega, fun z => absurd rfl (z.2.2 _ c _ (List.mem_singleton.mpr rfl))⟩
    · rw [if_neg (fun z => c (any_mem.mp z))]
      constructor
      · intro z
        refine ⟨ih.mp (by omega), List.nodup_cons.mpr ⟨by simp, List.nodup_nil⟩, fun a ha b hb e => ?_⟩
        rw [List.mem_singleton.mp hb] at e
        exact c (e ▸ ha)
      · intro z
        have := ih.mpr z.1
        omega
section
variable {prog : Program} {w : World} {A : Around} {R : Result → Shared → Prop} {I : Addr} {fp wr : List Addr} {G : Array GenState → Array GenState → Prop} {n : Nat} {P : Nat → Value → Prop} {St : Nat → Shared → Prop}
theorem set_turns (W : WalksS prog w A.in1 I fp wr G n P St) (S : Addr) (hS : S ∉ fp) (ks : List Key) (hn : ks.length = n) (hb : n < scanBound) (hv : ∀ i v, P i v → (mixKind prog w).is (ks.getD i (.inl 0)) v = true) :
    ∀ (j i : Nat) (s : Shared), n - i = j → i ≤ n → St i s → s.heap.SetOf (mixKind prog w) S (fun k => (ks.take i).any (fun j => decide (j = k))) (cnt ks i) →
      (∀ s', Moved (S :: wr) G s s' → s'.heap.SetOf (mixKind prog w) S (fun k => (ks.take n).any (fun j => decide (j = k))) (cnt ks n) → R (.ok (.ret .none)) s') →
      codeAny (model prog w) A (.builtin "set.update.loop" ⟨[.ref S, .ref I], []⟩) R s := by
  have hSw : S ∉ wr := fun h => hS (W.sub _ h)
  have sub : ∀ b ∈ wr, b ∈ S :: wr := fun b h => List.mem_cons_of_mem _ h
  intro j
  induction j with
  | zero =>
    intro i s hj hi st h0 q
    obtain rfl : i = n := by omega
    refine codeAny_builtin F.entry_set_update_loop ?_
    rw [Around.under_plainId F.plain_set_update_loop _]
    show wpAny _ A.in1 (pyNext (.ref I) >>= _) _ _ s
    refine wpAny_bind (W.done s _ _ st fun s' hm => ?_)
    show wpAny _ A.in1 (ret Value.none) _ _ s'
    exact wpAny_pure (q s' (hm.mono sub) (setOf_at h0 fun o e => hm.heap S o hSw e))
  | succ j ih =>
    intro i s hj hi st h0 q
    have lt : i < n := by omega
    refine codeAny_builtin F.entry_set_update_loop ?_
    rw [Around.under_plainId F.plain_set_update_loop _]
    show wpAny _ A.in1 (pyNext (.ref I) >>= _) _ _ s
    refine wpAny_bind (W.item i s _ _ lt st fun v s' hP st' hm => ?_)
    have kv := hv i v hP
    have sc : v.scannable = true := key_scan' kv
    have h1 := setOf_at h0 fun o e => hm.heap S o hSw e
    show wpAny _ A.in1 (holding [v] (setAdd S v) >>= _) _ _ s'
    refine wpAny_bind (wpAny_holding ?_)
    unfold setAdd
    refine wpAny_holding ?_
    refine wpAny_bind ((mixKind prog w).pyHash kv ?_)
    have room : cnt ks i + 1 < scanBound := by have := cnt_le ks i; omega
    refine wpAny_setAddHashed_of (knd := mixKind prog w) (s := { s' with toks := s'.toks + 1 }) kv sc h1 room fun h' sb h2 => ?_
    have h3 : h'.SetOf (mixKind prog w) S (fun k => (ks.take (i + 1)).any (fun j => decide (j = k))) (cnt ks (i + 1)) := by
      have e1 : (fun k => (ks.take (i + 1)).any (fun j => decide (j = k))) = fun k => (ks.take i).any (fun j => decide (j = k)) || decide (k = ks.getD i (.inl 0)) := by
        funext k
        rw [take_next' (by omega), List.any_append]
        congr 1
        simp only [List.any_cons, List.any_nil, Bool.or_false]
        exact decide_eq_decide.mpr eq_comm
      have e2 : cnt ks (i + 1) = if (ks.take i).any (fun j => decide (j = ks.getD i (.inl 0))) = true then cnt ks i else cnt ks i + 1 := by
        show cnt ks i + _ = _
        split <;> rfl
      rw [e1, e2]
      exact h2
    refine wpAny_pure ⟨plainId_quiet F.plain_set_update_loop _, ih (i + 1) _ (by omega) lt (W.frame _ s' _ _ st' (Nat.le_succ _) fun b hb o e => ?_) h3 fun s'' hm2 h4 => ?_⟩
    · rw [sb.2 b (fun h : b = S => hS (h ▸ hb))]; exact e
    · refine q s'' (Moved.trans W.gtrans ((hm.mono sub).then_heap (Nat.le_succ _) fun b o hb e => ?_) hm2) h4
      rw [sb.2 b (fun h : b = S => hb (h ▸ List.mem_cons_self))]; exact e
end
/-- what is asked of the walked thing: its type, what its iterator is -/
structure Walked (prog : Program) (w : World) (A : Around) (T : String) (IT : String) (ob : Obj) (l : Addr) (items : Array Value) : Prop where
  cls : ob.cls = .type T
  s1 : isSubtype (.type T) (.type "set") = pure false
  s2 : isSubtype (.type T) (.type "frozenset") = pure false
  nd : (Value.type T == Value.type "dict") = false
  iter : ∀ (A : Around) (E : Value → Shared → Prop) (s : Shared) (Q : Value → Shared → Prop), s.heap.get? l = some ob → Q (.ref s.heap.objs.size) { s with heap := s.heap.push { cls := .type IT, data := .fields #[.ref l, .int 0 0] } } → wpAny (model prog w) A (pyIter (.ref l)) Q E s
  walk : ∀ (A : Around), A.handled = none → ∀ it, l ≠ it → ∃ St : Nat → Heap → Prop, Walks prog w A it [it, l] [it] items.size (fun i v => items[i]? = some v) St ∧ ∀ h, h.get? l = some ob → h.get? it = some { cls := .type IT, data := .fields #[.ref l, .int 0 0] } → St 0 h
section
variable {prog : Program} {w : World} {A : Around} {E : Value → Shared → Prop} {s : Shared}
theorem set_call {T IT : String} {ob : Obj} {l : Addr} {items : Array Value} {ks : List Key} {Q : Value → Shared → Prop} (hh : A.handled = none) (Wk : Walked prog w A T IT ob l items) (hl : s.heap.get? l = some ob) (hn : ks.length = items.size) (hb : items.size < scanBound)
    (hv : ∀ i v, items[i]? = some v → (mixKind prog w).is (ks.getD i (.inl 0)) v = true)
    (h : ∀ (h' : Heap) (tk : Nat), h'.SetOf (mixKind prog w) s.heap.objs.size (fun k => ks.any (fun j => decide (j = k))) (cnt ks ks.length) →
      (∀ b o, b < s.heap.objs.size → s.heap.get? b = some o → h'.get? b = some o) → Q (.ref s.heap.objs.size) { s with heap := h', toks := tk }) :
    wpAny (model prog w) A (call (.type "set") [.ref l]) Q E s := by
  obtain ⟨c, tl, hmro⟩ := PySem.F.called_set.mro
  have hmade := PySem.F.called_set.made
  have hsub := PySem.F.called_set.sub
  refine wpAny_call (codeAny_of_tree ?_)
  show wpAny _ _ (callAny (.type "set") _) _ _ _
  refine wpAny_pure ⟨Code.quiet_builtin _ (by decide +kernel), codeAny_builtin PySem.F.entry_type_call ?_⟩
  rw [Around.under_plain (weight_type_call_type "set" [.ref l] []) rfl]
  have h1 := PySem.F.called_set.notType
  have h2 := PySem.F.called_set.canCreate
  have hct := PySem.F.typeCall_set_1 (.ref l)
  repeat (any_goals (first | assumption | wp_step))
  refine codeAny_mono (code_set_new_1 (.ref l) (E := E) (Q₁ := fun obj s₁ => ∃ led : Bool, obj = .ref s.heap.objs.size ∧ s₁ = { s with heap := s.heap.push { cls := .type "set", dict := none, data := .set #[] 0 (.fresh 0 0 led) } }) fun led => ⟨led, rfl, rfl⟩) fun r s₁ hr => ?_
  match r, hr with
  | .error e, hr => exact hr
  | .ok .next, hr => exact hr.elim
  | .ok .brk, hr => exact hr.elim
  | .ok .cont, hr => exact hr.elim
  | .ok (.ret obj), hr =>
    obtain ⟨led, rfl, rfl⟩ := hr
    have hS : (s.heap.push { cls := .type "set", dict := none, data := .set #[] 0 (.fresh 0 0 led) }).get? s.heap.objs.size = some { cls := .type "set", dict := none, data := .set #[] 0 (.fresh 0 0 led) } := Heap.get?_push_size _ rfl
    have hT : Shared.TypeIs { s with heap := s.heap.push { cls := .type "set", dict := none, data := .set #[] 0 (.fresh 0 0 led) } } (.ref s.heap.objs.size) "set" := ⟨_, hS, rfl⟩
    have hli := PySem.F.called_set.init.lookup
    have hbi := PySem.F.called_set.init.bind (.ref s.heap.objs.size)
    repeat (any_goals (first | assumption | wp_step))
    refine codeAny_mono (codeAny_call_builtin (R := wants (fun r s₂ => r = .none ∧ ∃ h' tk, s₂ = { s with heap := h', toks := tk } ∧
        h'.SetOf (mixKind prog w) s.heap.objs.size (fun k => ks.any (fun j => decide (j = k))) (cnt ks ks.length) ∧
        (∀ b o, b < s.heap.objs.size → s.heap.get? b = some o → h'.get? b = some o)) E) PySem.F.called_set.init.plain PySem.F.entry_set_init (check_set_init_1 hT ?_)) fun r₂ s₂ hr₂ => ?_
    · have hl1 : (s.heap.push { cls := .type "set", dict := none, data := .set #[] 0 (.fresh 0 0 led) }).get? l = some ob := Heap.get?_push_of_some _ hl
      have it := Wk.iter
      have wk := Wk.walk
      obtain ⟨ocls, odict, odata, oslots⟩ := ob
      have hcl := Wk.cls
      dsimp only at hcl
      subst hcl
      have hsls := Wk.s1
      have hslf := Wk.s2
      have hne := Wk.nd
      unfold Builtin.«set.__init__» noKeywords Builtin.Frozenset.updateFrom
      generalize hPI : pyIter = PI
      wp_walk
      subst hPI
      refine it _ _ _ _ hl1 ?_
      refine wpAny_bind (wpAny_runValue ?_)
      have hlS : l < s.heap.objs.size := Heap.lt_size hl
      have hneI : l ≠ (s.heap.push { cls := .type "set", dict := none, data := .set #[] 0 (.fresh 0 0 led) }).objs.size := by
        rw [Heap.size_push]; exact Nat.ne_of_lt (Nat.lt_succ_of_lt hlS)
      have hSf : s.heap.objs.size ∉ [(s.heap.push { cls := .type "set", dict := none, data := .set #[] 0 (.fresh 0 0 led) }).objs.size, l] := by
        rw [Heap.size_push]; simp only [List.mem_cons, List.not_mem_nil, or_false, not_or]
        exact ⟨Nat.ne_of_lt (Nat.lt_succ_self _), Nat.ne_of_gt hlS⟩
      obtain ⟨St, W, st0⟩ := wk A.in1.in1.in1 (by simp [hh]) _ hneI
      refine set_turns W.toS s.heap.objs.size hSf ks hn hb hv (items.size - 0) 0 _ rfl (Nat.zero_le _) (st0 _ (Heap.get?_push_of_some _ hl1) (Heap.get?_push_size _ rfl)) ?_ ?_
      · exact ⟨_, #[], 0, _, Heap.get?_push_of_some _ hS, ⟨rfl, rfl, rfl⟩, rfl, (fun e he => by simp at he), (fun k => by simp), (by decide), (by rfl), rfl⟩
      · intro s' hm hS'
        obtain ⟨h', g', d', tk', os'⟩ := s'
        have eg : g' = s.gens := hm.gens
        have ed : d' = s.drawn := hm.drawn
        have eo : os' = s.os := hm.os
        subst eg; subst ed; subst eo
        show wpAny _ _ _ _ _ _
        refine wpAny_pure ?_
        show wpAny _ _ (ret Value.none) _ _ _
        rw [← hn, List.take_length] at hS'
        refine wpAny_pure ⟨rfl, h', tk', rfl, hS', fun b o hb e => ?_⟩
        refine hm.heap b o ?_ (Heap.get?_push_of_some _ (Heap.get?_push_of_some _ e))
        simp only [List.mem_cons, List.not_mem_nil, or_false, not_or, Heap.size_push]
        exact ⟨Nat.ne_of_lt hb, Nat.ne_of_lt (Nat.lt_succ_of_lt hb)⟩
    · match r₂, hr₂ with
      | .error e, hr₂ => exact hr₂
      | .ok .next, hr₂ => exact hr₂.elim
      | .ok .brk, hr₂ => exact hr₂.elim
      | .ok .cont, hr₂ => exact hr₂.elim
      | .ok (.ret r), hr₂ =>
        obtain ⟨rfl, h', tk, rfl, hS', hk'⟩ := hr₂
        repeat (any_goals (first | assumption | wp_step))
        exact h _ _ hS' hk'
theorem walked_list {ob : Obj} {l : Addr} {items : Array Value} {n : Nat} (hc : ob.cls = .type "list") (hd : ob.data = .seq items n) : Walked prog w A "list" "list_iterator" ob l items where
  cls := hc
  s1 := PySem.F.sub_list_set
  s2 := PySem.F.sub_list_frozenset
  nd := by decide
  iter := fun A E s Q ho q => wpAny_pyIter_list ⟨ob, ho, hc, n, hd⟩ q
  walk := fun A hh it ne => ⟨_, Walks.list hh it l ne items, fun h h1 h2 => ⟨⟨_, h2, rfl, rfl⟩, ⟨ob, h1, hc, n, hd⟩⟩⟩
theorem walked_tup {ob : Obj} {l : Addr} {items : Array Value} {n : Nat} (hc : ob.cls = .type "tuple") (hd : ob.data = .seq items n) : Walked prog w A "tuple" "tuple_iterator" ob l items where
  cls := hc
  s1 := PySem.F.sub_tuple_set
  s2 := PySem.F.sub_tuple_frozenset
  nd := by decide
  iter := fun A E s Q ho q => wpAny_pyIter_tuple ⟨ob, ho, hc, n, hd⟩ q
  walk := fun A hh it ne => ⟨_, Walks.tuple hh it l ne items, fun h h1 h2 => ⟨⟨_, h2, rfl, rfl⟩, ⟨ob, h1, hc, n, hd⟩⟩⟩
end
section
variable {X : Cx}
/-- set(xs), xs a list or tuple of ints and texts -/
def rSetOf (K : PySem.W.Frag) (P : Program) (w : World) : List V → Hp → VK → Prop := fun xs H Q => ∃ (a : Addr) (ks : List Key), xs = [.ref a] ∧ (SqL K H a (ks.map kV) ∨ SqT K H a (ks.map kV)) ∧ ks.length < scanBound ∧
  ∀ p, H p = none → Q (.ref p) (upd H p (SetK P w p (fun k => ks.any (fun j => decide (j = k))) (cnt ks ks.length)))
theorem keys_at {P : Program} {w : World} {ks : List Key} {its : List Value} (r : Vals (ks.map kV) its) : ∀ (i : Nat) (v : Value), its.toArray[i]? = some v → (mixKind P w).is (ks.getD i (.inl 0)) v = true := fun i v e => by
  have e : its[i]? = some v := by simpa using e
  have hi : i < ks.length := by
    have h1 := (List.getElem?_eq_some_iff.mp e).1
    have h2 := r.length
    rw [List.length_map] at h2
    omega
  obtain ⟨u, e2, rv⟩ := r.get (i := i) (x := kV ks[i]) (by rw [List.getElem?_map, List.getElem?_eq_getElem hi]; rfl)
  rw [e] at e2
  cases e2
  rw [List.getD_eq_getElem?_getD, List.getElem?_eq_getElem hi]
  exact kV_is rv
theorem call_setOf (hc : X.calm = true) : CallR X (.type "set") (rSetOf X.K X.prog X.w) := by
  intro pins s σ H xs us Q I r h
  obtain ⟨a, ks, rfl, ha, hb, q⟩ := h
  obtain ⟨u, rfl, ru⟩ := vals1 r
  cases (show u = Value.ref a from ru)
  have hh := I.ok.hd hc
  have fin : ∀ (h' : Heap) (tk : Nat), h'.SetOf (mixKind X.prog X.w) s.heap.objs.size (fun k => ks.any (fun j => decide (j = k))) (cnt ks ks.length) →
      (∀ b o, b < s.heap.objs.size → s.heap.get? b = some o → h'.get? b = some o) → EP X pins σ Q (.ref s.heap.objs.size) { s with heap := h', toks := tk } := fun h' tk hS kp =>
    ⟨.ref _, _, I.laid (t' := tk) (fun b o e => kp b o (Heap.lt_size e) e) (Nat.le_refl _) (setK_new hS), rfl, q _ (I.hok.fresh (Nat.le_refl _))⟩
  rcases ha with ha | ha
  · obtain ⟨its, rv, pl, hz⟩ := I.list ha
    obtain ⟨ob, ho, hcl, n, hd⟩ := pl.isList
    have hl := rv.length
    rw [List.length_map] at hl
    exact set_call hh (walked_list hcl hd) ho (by rw [List.size_toArray]; exact hl) (by rw [List.size_toArray, ← hl]; exact hb) (keys_at rv) fin
  · obtain ⟨its, rv, ⟨ob, ho, hcl, n, hd⟩, hz⟩ := I.tuple ha
    have hl := rv.length
    rw [List.length_map] at hl
    exact set_call hh (walked_tup hcl hd) ho (by rw [List.size_toArray]; exact hl) (by rw [List.size_toArray, ← hl]; exact hb) (keys_at rv) fin
/-- len(s) -/
def rLenK (P : Program) (w : World) : List V → Hp → VK → Prop := fun xs H Q => ∃ (a : Addr) (S : Key → Bool) (n : Nat), xs = [.ref a] ∧ H a = some (SetK P w a S n) ∧ Q (.int n) H
theorem call_lenK : CallR X (.builtin "len") (rLenK X.prog X.w) := by
  intro pins s σ H xs us Q I r h
  obtain ⟨a, S, n, rfl, ha, q⟩ := h
  obtain ⟨u, rfl, ru⟩ := vals1 r
  cases (show u = Value.ref a from ru)
  obtain ⟨o, es, ep, t, ho, hex, hd, _, _, hb, hf, hn⟩ := setK_get I ha
  refine call_len_set ho hex hd hf (by unfold scanBound at hb; omega) ⟨.int n, H, I.tok _, ⟨_, by rw [hn]⟩, q⟩
end
end Ct

set_option Elab.async false
set_option linter.all false
set_option maxRecDepth 100000
set_option maxHeartbeats 4000000
/-! Own kit L: sorted of lists and tuples of texts, and of pairs of texts, any length. -/
namespace Ct
open PySem PySem.Spec PySem.Calls PyProof.Rows L2
section
variable {prog : Program} {w : World} {A : Around} {E : Value → Shared → Prop} {s : Shared}
theorem collect_tuple {l : Addr} {vs : List Value} {Q : List Value → Shared → Prop} (hl : s.heap.IsTuple l vs.toArray) (hz : vs.length ≤ sizeLine)
    (h : Q vs { s with heap := (s.heap.push (seqObj "list" #[] 0)).update s.heap.objs.size (Obj.mapSeq (· ++ vs.toArray)) }) : wpAny (model prog w) A (collect (.ref l)) Q E s := by
  obtain ⟨o, ho, hc, n, hd⟩ := id hl
  unfold collect
  refine wpAny_bind (wpAny_runValue (codeAny_builtin entry_proto_collect' ?_))
  show wpAny _ _ (do again (.builtin "list.__iadd__" ⟨[← newList [], .ref l], []⟩)) _ _ s
  refine wpAny_bind (wpAny_newList (wpAny_pure ⟨Code.quiet_builtin _ (by decide +kernel), codeAny_builtin entry_list_iadd' ?_⟩))
  show wpAny _ _ (Builtin.List.listExtendWith (.ref s.heap.objs.size) (.ref l) (.ref s.heap.objs.size)) _ _ { s with heap := s.heap.push (seqObj "list" #[] 0) }
  unfold Builtin.List.listExtendWith
  have ho' : (s.heap.push (seqObj "list" #[] 0)).get? l = some o := Heap.get?_push_of_some _ ho
  have hn := Heap.get?_push_size (h := s.heap) (o := seqObj "list" #[] 0) rfl
  refine wpAny_bind (wpAny_typeOf (T := "tuple") ⟨o, ho', hc⟩ ?_)
  rw [if_pos (by rw [show (Value.type "tuple" == Value.type "tuple") = true from rfl, Bool.or_true])]
  refine wpAny_bind (listItems_at ho' hd ?_)
  refine wpAny_bind (listItems_at (xs := #[]) (n := 0) hn rfl ?_)
  rw [if_neg (by simp)]
  refine wpAny_bind (listUpdate_at (xs := #[]) (n := 0) hn rfl ?_ (Nat.zero_le _) (by show (#[] ++ vs.toArray).size ≤ sizeLine + 1; simp only [Array.size_append, List.size_toArray, List.length_nil]; omega))
  refine wpAny_pure ?_
  show wpAny (model prog w) A (do
      let o ← load s.heap.objs.size
      match o.data with
      | .seq xs _ => pure xs.toList
      | _ => unsupported "internal:collect") Q E { s with heap := (s.heap.push (seqObj "list" #[] 0)).update s.heap.objs.size (Obj.mapSeq (· ++ vs.toArray)) }
  refine wpAny_bind (wpAny_load (get?_update_seq hn _) ?_)
  show wpAny _ _ (pure ((#[] : Array Value) ++ vs.toArray).toList) Q E _
  rw [show ((#[] : Array Value) ++ vs.toArray).toList = vs by simp]
  exact wpAny_pure h
variable {β : Type} {vs : List Value} {bs : List β} {enc : β → PyData} {R : Value → β → Prop}
/-- sorted(t), t a tuple -/
theorem sorted_tup {l : Addr} {Q : Value → Shared → Prop} (hl : s.heap.IsTuple l vs.toArray) (e : W.EachIs R vs bs) (er : W.EachIs (fun v b => ∃ as, Reads s.heap v (enc b) as) vs bs) (hal : W.AllAlike (bs.map enc)) (hk : W.Sortable (bs.map enc)) (hL : bs.length ≤ sizeLine)
    (hu : ∀ b, b ∈ bs → A.units + 2 + (enc b).depth < cLine) (h : ∀ out, out.length = bs.length → W.EachIs R out (bs.mergeSort (W.dataLe false enc)) → Q (.ref (s.heap.objs.size + 1)) { s with heap := sortedAll s.heap vs (List.toArray out) }) :
    wpAny (model prog w) A (call (.builtin "sorted") [.ref l]) Q E s := by
  have er' : W.EachIs (fun v b => ∃ as, Reads (W.sortingHeap (W.copyHeap s.heap vs) (s.heap.objs.size + 1) vs) v (enc b) as) vs bs := er.mono fun _ _ ⟨as, r⟩ => ⟨as, PyProof.Rows.Reads.keeps (fun _ _ => W.sorting_copy_old) r⟩
  have hL' : vs.length ≤ sizeLine := by rw [e.length]; exact hL
  refine call_function_entry_kw kind_sorted plain_sorted entry_sorted (args_sorted1 _) ?_
  unfold Builtin.«sorted»
  refine wpAny_bind (m := checkCount "sorted" 1 1 _) (wpAny_pure ?_)
  refine wpAny_bind (collect_tuple hl hL' ?_)
  refine wpAny_bind (wpAny_newList ?_ hL')
  have hsz : ((s.heap.push (seqObj "list" #[] 0)).update s.heap.objs.size (Obj.mapSeq (· ++ vs.toArray))).objs.size = s.heap.objs.size + 1 := by
    rw [Heap.size_update, size_push']
  show wpAny _ _ _ _ _ { s with heap := W.copyHeap s.heap vs }
  rw [hsz]
  refine wpAny_bind (wpAny_holding (wpAny_call_entry_kw slot_list_sort ⟨_, W.copyHeap_at s.heap vs, rfl⟩ entry_list_sort ?_ (args_list_sort _)))
  refine wpAny_mono (W.list_sort_vals (s := { s with heap := W.copyHeap s.heap vs }) (W.copyHeap_at s.heap vs) (W.SortsAt.data (s := { s with heap := W.sortingHeap (W.copyHeap s.heap vs) (s.heap.objs.size + 1) vs }) (W.each_map (R := fun v d => ∃ as, Reads (W.sortingHeap (W.copyHeap s.heap vs) (s.heap.objs.size + 1) vs) v d as) enc er') hal hk (W.bound_map hu)) hL'
    (P := fun f s' => f = .done (.ret .none) ∧ Q (.ref (s.heap.objs.size + 1)) s') ⟨rfl, h _ (by rw [W.sortVals_length false rfl]; exact e.length) (W.sortVals_data false e er' hal)⟩) (fun f s' hf => ?_) fun _ _ e => e
  obtain ⟨rfl, hq⟩ := hf
  exact ⟨_, rfl, wpAny_pure ⟨_, rfl, hq⟩⟩
end
section
variable {X : Cx}
/-- an item: the value, what it is as a datum -/
abbrev It2 := V × PyData
theorem each_vals {h : Heap} {K : PySem.W.Frag} : ∀ {bs : List It2} {us : List Value}, Vals (bs.map (·.1)) us → W.EachIs (fun v b => RelV b.1 v) us bs
  | [], _, .nil => .nil
  | _ :: _, _, .cons r t => .cons r (each_vals (h := h) (K := K) t)
theorem vals_each : ∀ {bs : List It2} {us : List Value}, W.EachIs (fun v b => RelV b.1 v) us bs → Vals (bs.map (·.1)) us
  | _, _, .nil => .nil
  | _, _, .cons r t => .cons r (vals_each t)
theorem each_reads {pins : List (Addr × Obj)} {σ : L2.St} {H : Hp} {s : Shared} (I : Inv X pins σ H s) : ∀ {bs : List It2} {us : List Value}, Vals (bs.map (·.1)) us → (∀ b ∈ bs, Dp X.K H b.1 b.2) → W.EachIs (fun v (b : It2) => ∃ as, Reads s.heap v b.2 as) us bs
  | [], _, .nil, _ => .nil
  | b :: _, _, .cons r t, h => .cons (Dp.reads I b.2 b.1 _ (h b List.mem_cons_self) r) (each_reads I t fun c hc => h c (List.mem_cons_of_mem _ hc))
/-- sorted(xs) -/
def rSortD (K : PySem.W.Frag) : List V → Hp → VK → Prop := fun xs H Q => ∃ (a : Addr) (bs : List It2), xs = [.ref a] ∧ (SqL K H a (bs.map (·.1)) ∨ SqT K H a (bs.map (·.1))) ∧ (∀ b ∈ bs, Dp K H b.1 b.2) ∧ W.AllAlike (bs.map (·.2)) ∧ W.Sortable (bs.map (·.2)) ∧ (∀ b ∈ bs, b.2.depth ≤ 50) ∧
  ∀ p, H p = none → Q (.ref p) (upd H p (.lst ((bs.mergeSort (W.dataLe false (·.2))).map (·.1))))
theorem call_sortD (hu : X.A.units + 64 < cLine) : CallR X (.builtin "sorted") (rSortD X.K) := by
  intro pins s σ H xs us Q I r h
  obtain ⟨a, bs, rfl, ha, hb, al, so, dp, q⟩ := h
  obtain ⟨u, rfl, ru⟩ := vals1 r
  cases (show u = Value.ref a from ru)
  have hu2 : ∀ b, b ∈ bs → X.A.units + 2 + b.2.depth < cLine := fun b m => by have := dp b m; omega
  have fin : ∀ (its : List Value), its.length ≤ sizeLine → ∀ out : List Value, out.length = bs.length → W.EachIs (fun v (b : It2) => RelV b.1 v) out (bs.mergeSort (W.dataLe false (·.2))) → bs.length ≤ sizeLine →
      EP X pins σ Q (.ref (s.heap.objs.size + 1)) { s with heap := sortedAll s.heap its (List.toArray out) } := fun its hz out hl eo hbl => by
    obtain ⟨ep, he⟩ := sortedAll_at s.heap its out.toArray
    refine ⟨.ref _, upd H (s.heap.objs.size + 1) (.lst ((bs.mergeSort (W.dataLe false (·.2))).map (·.1))), I.laid (t' := s.toks) (fun _ _ => sortedAll_old) (Nat.le_succ _) ⟨?_, out, ep, vals_each eo, he⟩, rfl, q _ (I.hok.fresh (Nat.le_succ _))⟩
    rw [List.length_map, List.length_mergeSort]
    exact hbl
  rcases ha with ha | ha
  · obtain ⟨its, rv, pl, hz⟩ := I.list ha
    have hl := rv.length
    rw [List.length_map] at hl hz
    exact W.sorted_data pl.isList (each_vals (h := s.heap) (K := X.K) rv) (each_reads I rv hb) al so hz hu2 fun out h1 h2 => fin its (by omega) out h1 h2 hz
  · obtain ⟨its, rv, pl, hz⟩ := I.tuple ha
    have hl := rv.length
    rw [List.length_map] at hl hz
    exact sorted_tup (show s.heap.IsTuple a its.toArray from pl) (each_vals (h := s.heap) (K := X.K) rv) (each_reads I rv hb) al so hz hu2 fun out h1 h2 => fin its (by omega) out h1 h2 hz
end
/-- texts -/
def txs (xs : List Str) : List It2 := xs.map fun x => (.str x, .str x)
theorem txs_fst (xs : List Str) : (txs xs).map (·.1) = xs.map V.str := by unfold txs; rw [List.map_map]; rfl
theorem txs_snd (xs : List Str) : (txs xs).map (·.2) = xs.map PyData.str := by unfold txs; rw [List.map_map]; rfl
theorem txs_ok (xs : List Str) : W.AllAlike ((txs xs).map (·.2)) ∧ W.Sortable ((txs xs).map (·.2)) := by
  rw [txs_snd]
  exact ⟨W.AllAlike.of fun _ _ => by simp [W.alike], W.Sortable.others fun b => ⟨by simp, by simp⟩⟩
/-- pairs of texts, each at its place -/
def prs (ps : List (Addr × Str × Str)) : List It2 := ps.map fun p => (.ref p.1, .tuple [.str p.2.1, .str p.2.2])
theorem prs_fst (ps : List (Addr × Str × Str)) : (prs ps).map (·.1) = ps.map fun p => V.ref p.1 := by unfold prs; rw [List.map_map]; rfl
theorem prs_ok (ps : List (Addr × Str × Str)) : W.AllAlike ((prs ps).map (·.2)) ∧ W.Sortable ((prs ps).map (·.2)) := by
  unfold prs
  rw [List.map_map]
  exact ⟨W.AllAlike.of (enc := fun p : Addr × Str × Str => PyData.tuple [.str p.2.1, .str p.2.2]) fun _ _ => by simp [W.alike, W.alikeAll], W.Sortable.tuples (enc := fun p : Addr × Str × Str => PyData.tuple [.str p.2.1, .str p.2.2]) fun b => ⟨_, _, rfl⟩⟩
end Ct

set_option Elab.async false
set_option linter.all false
set_option maxRecDepth 100000
set_option maxHeartbeats 4000000
/-! Own kit M: enumerate over a tuple; walks over a list or a tuple; a datum among texts; types of data. -/
namespace Ct
open PySem PySem.Spec PyProof.Rows L2
theorem meets_enumT (l : Addr) (items : Array Value) (n : Nat) (dct : Option Addr) (sl : Array (Option Value)) :
    Meets (Builtin.«enumerate.__new__» ⟨[.type "enumerate", .ref l], []⟩) (fun _ R s => s.heap.get? l = some { cls := .type "tuple", dict := dct, data := .seq items n, slots := sl } ∧
      R (.ok (.ret (.ref (s.heap.push { cls := .type "tuple_iterator", data := .fields #[.ref l, .int 0 0] }).objs.size)))
        { s with heap := (s.heap.push { cls := .type "tuple_iterator", data := .fields #[.ref l, .int 0 0] }).push { cls := .type "enumerate", data := .fields #[.none, .bool false, .ref s.heap.objs.size, rawInt 0, .none, .none] } }) :=
  .of_wp fun prog w A R s h => by
    obtain ⟨hp, g, d, tk, os⟩ := s; obtain ⟨hl, h⟩ := h
    have hsub := sub_enumerate
    have hL : Heap.IsTuple (Shared.heap ⟨hp, g, d, tk, os⟩) l items := ⟨_, hl, rfl, n, rfl⟩
    wp_walk using AutoSeq1.wpAny_loadPart' hl
    refine wpAny_stack_any fun st => wpAny_pure ?_
    split
    · rename_i c _ _ _ _ _
      cases (c == Value.type "enumerate")
      · wp_walk using AutoSeq1.wpAny_loadPart' hl, wpAny_pyIter_tuple hL
        exact ⟨_, rfl, h⟩
      · wp_walk using AutoSeq1.wpAny_loadPart' hl, wpAny_pyIter_tuple hL
        exact ⟨_, rfl, h⟩
    · wp_walk using AutoSeq1.wpAny_loadPart' hl, wpAny_pyIter_tuple hL
      exact ⟨_, rfl, h⟩
section
variable {prog : Program} {w : World} {A : Around} {E : Value → Shared → Prop} {s : Shared}
theorem call_enumT {l : Addr} {items : Array Value} {Q : Value → Shared → Prop} (hL : s.heap.IsTuple l items)
    (h : ∀ h', IsEnum h' (s.heap.objs.size + 1) s.heap.objs.size 0 .none → h'.IsTupleIter s.heap.objs.size l 0 →
      (∀ b o, s.heap.get? b = some o → h'.get? b = some o) → Q (.ref (s.heap.objs.size + 1)) { s with heap := h' }) :
    wpAny (model prog w) A (call (.type "enumerate") [.ref l]) Q E s := by
  obtain ⟨⟨c, dct, dt, sl⟩, hl, hc, n, hd⟩ := hL
  replace hc : c = .type "tuple" := hc
  replace hd : dt = .seq items n := hd
  subst hc hd
  refine callType_new F.called_enumerate (by decide) (F.typeCall_enumerate_1 _) (F.newCall_enumerate_1 _) (fun obj => F.args_object_init_2 obj _) F.entry_enumerate_new
    (meets_enumT l items n dct sl) ⟨hl, ?_⟩
  have hz : (s.heap.push { cls := .type "tuple_iterator", data := .fields #[.ref l, .int 0 0] }).objs.size = s.heap.objs.size + 1 := Heap.size_push ..
  show _ ∧ _
  rw [hz]
  have he : IsEnum ((s.heap.push { cls := .type "tuple_iterator", data := .fields #[.ref l, .int 0 0] }).push
      { cls := .type "enumerate", data := .fields #[.none, .bool false, .ref s.heap.objs.size, rawInt 0, .none, .none] }) (s.heap.objs.size + 1) s.heap.objs.size 0 .none := by
    have := Heap.get?_push_size (s.heap.push { cls := .type "tuple_iterator", data := .fields #[.ref l, .int 0 0] })
      (o := { cls := .type "enumerate", data := .fields #[.none, .bool false, .ref s.heap.objs.size, rawInt 0, .none, .none] }) rfl
    rw [hz] at this; exact this
  exact ⟨⟨_, he, rfl⟩, h _ he ⟨_, Heap.get?_push_of_some _ (Heap.get?_push_size _ rfl), rfl, rfl⟩ fun b o x => Heap.get?_push_of_some _ (Heap.get?_push_of_some _ x)⟩
end
/-- the tuple at a, each item in a new pair with its number -/
def Iet (K : PySem.W.Frag) (a : Addr) : It :=
  ⟨fun i H => ∃ (xs : List V) (x : V), SqT K H a xs ∧ xs[i]? = some x, fun i H v H' => ∃ T x, v = .ref T ∧ H T = none ∧ H' = upd H T (.tup [.int (i : Nat), x]) ∧ ∀ xs, SqT K H a xs → xs[i]? = some x, fun i H => ∃ xs : List V, SqT K H a xs ∧ xs.length ≤ i⟩
theorem turn_enumT {P : Program} {w : World} {K : PySem.W.Frag} {elts : List Expr} {kk : Nat} {tpos : Pos} (a e it : Addr) :
    Turn P w K (.Tuple elts kk tpos) (Iet K a) [e, it] e (fun i h => (∃ old, IsEnum h e it ((i : Nat) : Int) old) ∧ h.IsTupleIter it a i ∧ e ≠ it) where
  mem := by simp
  obj := fun i h st b hb => by
    obtain ⟨⟨old, he⟩, ⟨o, ho, hc, hd⟩, _⟩ := st
    rcases (show b = e ∨ b = it by simpa using hb) with rfl | rfl
    · exact ⟨_, he, fun v q => nomatch q⟩
    · exact ⟨o, ho, fun v q => by rw [hd] at q; cases q⟩
  keep := fun i h h' st k => let ⟨⟨old, he⟩, hi, hne⟩ := st; ⟨⟨old, k e (by simp) _ he⟩, hi.at fun o q => k it (by simp) o q, hne⟩
  item := by
    intro X hP hw hK hc i pins s σ H E I hf st hg
    subst hP hw hK
    obtain ⟨⟨old, he⟩, hit, hne⟩ := st
    obtain ⟨xs, x, hq, hx⟩ := hg
    obtain ⟨its, rv, p, hz⟩ := I.tuple hq
    obtain ⟨u, hu, ru⟩ := rv.get hx
    have p : s.heap.IsTuple a its.toArray := p
    have hel : e < s.heap.objs.size := Heap.lt_size he
    have hil : it < s.heap.objs.size := by obtain ⟨_, q, _⟩ := hit; exact Heap.lt_size q
    have ait : a ≠ it := by
      rintro rfl
      obtain ⟨o1, h1, h2, _⟩ := p
      obtain ⟨o2, h3, h4, _⟩ := hit
      rw [h1] at h3
      cases h3
      rw [h2] at h4
      exact absurd h4 (by decide)
    have ae : e ≠ a := by
      rintro rfl
      obtain ⟨o1, h1, h2, _⟩ := p
      have he' := he
      unfold IsEnum at he'
      rw [h1] at he'
      cases he'
      exact absurd (show Value.type "enumerate" = Value.type "tuple" from h2) (by decide)
    have hlt : i < its.toArray.size := by
      have := (List.getElem?_eq_some_iff.mp hu).1
      simpa using this
    refine wpAny_pyNext_enum_itemD (PySem.Draws.tuple (by simpa using I.ok.hd hc) it a ait its.toArray) he ⟨hit, p⟩ hlt hne (by simp [hne, ae]) fun x2 h' tk hx2 ho hst' hT hsz hk => ?_
    have ex2 : x2 = u := by
      have z : its[i]? = some x2 := by simpa using hx2
      rw [hu] at z
      exact (Option.some.inj z).symm
    subst ex2
    refine ⟨_, rfl, wpAny_letOwnedTupleGo_enum (s := { s with heap := h', toks := tk + 1 }) ho fun h'' he' sb => ?_⟩
    have hT2 : h''.get? s.heap.objs.size = some { cls := .type "tuple", data := .seq #[.int i tk, x2] } := (sb.2 _ (Nat.ne_of_gt hel)).trans hT
    have new : ObjOk X.prog X.w (upd H s.heap.objs.size (.tup [.int (i : Nat), x])) h'' s.heap.objs.size (.tup [.int (i : Nat), x]) :=
      ⟨by show 2 ≤ sizeLine; decide, [.int i tk, x2], .cons ⟨_, rfl⟩ (.cons ru .nil), ⟨_, hT2, rfl, _, rfl⟩⟩
    have I1 : Inv X pins σ (upd H s.heap.objs.size (.tup [.int (i : Nat), x])) { s with heap := h'', toks := tk + 1 } :=
      I.turnedNew (ch := [e, it]) (fun b ob hb q => (sb.2 b (fun z => hb (by simp [z]))).trans (hk b ob (fun z => hb (by simp [z])) (fun z => hb (by simp [z])) q)) hf (Nat.le_refl _) new
    refine ⟨.ref s.heap.objs.size, _, I1, rfl, ⟨_, x, rfl, I.hok.fresh (Nat.le_refl _), rfl, fun ys hy => by rw [I.tuple_inj hy hq]; exact hx⟩, ⟨⟨x2, ?_⟩, hst'.1.at fun o q => (sb.2 it (Ne.symm hne)).trans q, hne⟩, fun b hb => ?_⟩
    · have e1 : ((i + 1 : Nat) : Int) = (i : Int) + 1 := by omega
      rw [e1]; exact he'
    · have hb' : b < s.heap.objs.size := by
        rcases (show b = e ∨ b = it by simpa using hb) with z | z
        · rw [z]; exact hel
        · rw [z]; exact hil
      rw [upd_ne (Nat.ne_of_lt hb')]
      exact (hf b hb).1
  done := by
    intro X hP hw hK hc i pins s σ H E I hf st hg
    subst hP hw hK
    obtain ⟨⟨old, he⟩, hit, hne⟩ := st
    obtain ⟨xs, hq, hx⟩ := hg
    obtain ⟨its, rv, p, hz⟩ := I.tuple hq
    have p : s.heap.IsTuple a its.toArray := p
    obtain ⟨f0, f1, f2, f3, f4, f5⟩ := hf it (by simp)
    have hl := rv.length
    have hnone : its.toArray[i]? = none := by simp; omega
    unfold pyNext
    refine wpAny_bind (wpAny_attempt (wpAny_callSpecial?_slot (name := Str.ofString "__next__") ⟨_, he, rfl⟩ F.slot_enumerate_next
      (wpAny_call_entry F.slot_enumerate_next ⟨_, he, rfl⟩ F.entry_enumerate_next ?_ (F.args_enumerate_next_1 _))))
    show wpAny _ _ (field (.ref e) 2 >>= _) _ _ _
    refine wpAny_bind (wpAny_field he rfl (x := .ref it) rfl ?_)
    refine wpAny_bind (PySem.wpAny_nextOf_tuple_end (by simpa using I.ok.hd hc) hit p hnone fun h' x he' hx' => ?_)
    obtain ⟨o, ho, hcc⟩ := hx'
    refine wpAny_bind (wpAny_isInstance (T := "StopIteration") (b := true) ⟨o, ho, hcc⟩ isSubtype_stop ?_)
    exact wpAny_pure ⟨rfl, I.turned (t' := s.toks) (fun b o hb q => he' b o hb q) f0 f1 f3 f4 f5⟩
  self := fun A i s Q E st h => let ⟨⟨_, he⟩, _⟩ := st; wpAny_pyIter_enum he h
section
variable {X : Cx}
/-- enumerate of a list or of a tuple -/
def iEnumS (K : PySem.W.Frag) (ta : TA) : TI := fun σ H R => ta σ H fun vs H1 => ∃ a xs, vs = [.ref a] ∧ ((SqL K H1 a xs ∧ R (Ite K a) H1) ∨ (SqT K H1 a xs ∧ R (Iet K a) H1))
theorem pi_enumS {e : Expr} {ta : TA} {p pos tpos : Pos} {elts : List Expr} {kk : Nat} (hg : Gl X "enumerate") (hm : X.mg "enumerate" = none) (ha : PA X [e] ta) (hs : starEach [e] X.env = [(false, eval e X.env)] := by rfl) :
    PI X (.Tuple elts kk tpos) (.Call (.Name "enumerate" p) [e] [] pos) (iEnumS X.K ta) := by
  refine ⟨fun pins s σ H R I h => ?_⟩
  refine Call_ (ld_blt I hg hm boot_enumerate (PyProof.Rows.callWith_type1 (thn (ha.run pos pins s σ H _ I h) fun us s1 ⟨vs, H1, I1, r1, q1⟩ => ?_) hs rfl))
  obtain ⟨a, xs, ex, hq⟩ := q1
  subst ex
  obtain ⟨u, rfl, ru⟩ := vals1 r1
  cases (show u = Value.ref a from ru)
  have feet : ∀ b ∈ [s1.heap.objs.size + 1, s1.heap.objs.size], FpOk X pins H1 b := fun b hb => by
    have hle : s1.heap.objs.size ≤ b := by
      rcases (show b = s1.heap.objs.size + 1 ∨ b = s1.heap.objs.size by simpa using hb) with z | z
      · rw [z]; exact Nat.le_add_right _ _
      · rw [z]; exact Nat.le_refl _
    exact I1.fpOk hle (I1.hok.fresh hle)
  rcases hq with ⟨hq, q⟩ | ⟨hq, q⟩
  · obtain ⟨its, rv, p', hz⟩ := I1.list hq
    refine call_enumerate_list p'.isList fun h' he hit hsz hk => wpAny_pyIter_enum he ?_
    exact ⟨s1.heap.objs.size + 1, [s1.heap.objs.size + 1, s1.heap.objs.size], _, _, H1, rfl, I1.kept (t' := s1.toks) hk, turn_enum a (s1.heap.objs.size + 1) s1.heap.objs.size, ⟨⟨.none, he⟩, hit, Nat.succ_ne_self _⟩, feet, q⟩
  · obtain ⟨its, rv, p', hz⟩ := I1.tuple hq
    refine call_enumT (show s1.heap.IsTuple a its.toArray from p') fun h' he hit hk => wpAny_pyIter_enum he ?_
    exact ⟨s1.heap.objs.size + 1, [s1.heap.objs.size + 1, s1.heap.objs.size], _, _, H1, rfl, I1.kept (t' := s1.toks) hk, turn_enumT a (s1.heap.objs.size + 1) s1.heap.objs.size, ⟨⟨.none, he⟩, hit, Nat.succ_ne_self _⟩, feet, q⟩
/-- a walk over a list or a tuple -/
def iSeq (K : PySem.W.Frag) (tl : TE) : TI := fun σ H R => iList K tl σ H R ∨ iTup K tl σ H R
theorem pi_seq {tg l : Expr} {tl : TE} (hl : PE X l tl) : PI X tg l (iSeq X.K tl) :=
  ⟨fun pins s σ H R I h => h.elim ((pi_list hl).run pins s σ H R I) ((pi_tup hl).run pins s σ H R I)⟩
end
open L2 in
theorem walk_enumT {K : PySem.W.Frag} {a : Addr} {xs : List V} : Walk (Iet K a) xs.length (fun H => SqT K H a xs) (YPair (fun i => some (.int (i : Nat))) (fun i => xs[i]?)) :=
  ⟨fun i _ hi q => ⟨xs, xs[i], q, by simp [hi]⟩, fun _ q => ⟨xs, q, Nat.le_refl _⟩, fun i H v H' hi q y => by
    obtain ⟨T, x, rfl, hT, rfl, hx⟩ := y
    exact ⟨T, _, x, rfl, hT, rfl, rfl, hx xs q⟩⟩
end Ct

set_option Elab.async false
set_option linter.all false
set_option maxRecDepth 100000
set_option maxHeartbeats 4000000
/-! Own kit N: a datum among texts; isinstance of data; lists or tuples alike. -/
namespace Ct
open PySem PySem.Spec PyProof.Rows L2
/-- a list or a tuple -/
def SqS (K : PySem.W.Frag) (H : Hp) (a : Addr) (xs : List V) : Prop := SqL K H a xs ∨ SqT K H a xs
theorem SqS.same {K : PySem.W.Frag} {H H' : Hp} {a : Addr} {xs : List V} (s : Same H H') : SqS K H a xs → SqS K H' a xs
  | .inl h => .inl (s.seq h)
  | .inr h => .inr (same_t s h)
theorem units65 {k : Nat} {A : Around} (r : Room k A) : A.units + 65 < cLine := by have := r.un; omega
/-- the datum is one of the texts -/
def amid (d : PyData) (ns : List Str) : Bool := match d with
  | .str x => ns.any fun y => y == x
  | _ => false
theorem amid_str {x : Str} {ns : List Str} : amid (.str x) ns = true ↔ x ∈ ns := by
  unfold amid
  rw [List.any_eq_true]
  exact ⟨fun ⟨y, hy, e⟩ => (eq_of_beq e) ▸ hy, fun h => ⟨x, h, beq_self_eq_true x⟩⟩
section
variable {X : Cx} {pins : List (Addr × Obj)} {σ : L2.St} {H : Hp} {s : Shared}
/-- the items' answers -/
def amU (d : PyData) (u : Value) : Bool := match d, u with
  | .str x, .str y _ => y == x
  | _, _ => false
theorem amU_any (d : PyData) : ∀ {ns : List Str} {us : List Value}, Vals (ns.map V.str) us → us.any (amU d) = amid d ns
  | [], _, .nil => by cases d <;> rfl
  | n :: ns, u :: us, .cons r t => by
    obtain ⟨k, rfl⟩ := r
    rw [List.any_cons, amU_any d t]
    cases d <;> rfl
theorem amU_eq {A : Around} {K : PySem.W.Frag} (I : Inv X pins σ H s) (hu : A.units < cLine) {x : V} {v : Value} {d : PyData} (r : RelV x v) (h : Dp X.K H x d) : ∀ {ns : List Str} {us : List Value}, Vals (ns.map V.str) us → ∀ u ∈ us, SeqAt.EqAt A s u v (amU d u)
  | [], _, .nil => fun u hu => by cases hu
  | n :: ns, w :: us, .cons r0 t => fun u m => by
    rcases List.mem_cons.mp m with rfl | m
    · obtain ⟨k, rfl⟩ := r0
      cases h with
      | non => cases r; exact SeqAt.EqAt.str_none n k
      | bl b => cases r; exact SeqAt.EqAt.str_bool n k b
      | int i => obtain ⟨t2, rfl⟩ := r; exact SeqAt.EqAt.str_int n k i t2
      | str y => obtain ⟨t2, rfl⟩ := r; exact SeqAt.EqAt.str_str n k y t2
      | lst hs _ =>
        cases r
        obtain ⟨its, rv, pl, _⟩ := I.list hs
        exact SeqAt.EqAt.str_list n k pl.isList hu
      | tup hs _ =>
        cases r
        obtain ⟨its, rv, pl, _⟩ := I.tuple hs
        exact SeqAt.EqAt.str_tuple n k (show s.heap.IsTuple _ its.toArray from pl) hu
    · exact amU_eq (K := K) I hu r h t u m
/-- x in names, x a datum -/
def rAmid (K : PySem.W.Frag) (neg : Bool) : R2 := fun x y H Q => ∃ (d : PyData) (a : Addr) (ns : List Str), y = .ref a ∧ SqS K H a (ns.map V.str) ∧ Dp K H x d ∧ Q (.bl (if neg then !amid d ns else amid d ns)) H
theorem or_amid (hu : X.A.units + 64 < cLine) : OpR X (compareOp .In) (rAmid X.K false) := by
  intro pins s σ H x y v u Q I rx ry h
  obtain ⟨d, a, ns, rfl, ha, hd, q⟩ := h
  cases (show u = Value.ref a from ry)
  have hu1 : X.A.in1.units < cLine := by show X.A.units + 1 < _; omega
  rw [if_neg (by decide)] at q
  rcases ha with ha | ha
  · obtain ⟨its, rv, pl, hz⟩ := I.list ha
    refine SeqAt.in_listAt (amU d) pl.isList (fun w hw => amU_eq (K := X.K) I hu1 rx hd rv w (by simpa using hw)) ⟨.bl _, H, I, rfl, ?_⟩
    rw [show its.toArray.any (amU d) = its.any (amU d) by simp, amU_any d rv]
    exact q
  · obtain ⟨its, rv, pl, hz⟩ := I.tuple ha
    refine SeqAt.in_tupleAt (amU d) pl (fun w hw => amU_eq (K := X.K) I hu1 rx hd rv w (by simpa using hw)) ⟨.bl _, H, I, rfl, ?_⟩
    rw [show its.toArray.any (amU d) = its.any (amU d) by simp, amU_any d rv]
    exact q
theorem or_namid (hu : X.A.units + 64 < cLine) : OpR X (compareOp .NotIn) (rAmid X.K true) := by
  intro pins s σ H x y v u Q I rx ry h
  obtain ⟨d, a, ns, rfl, ha, hd, q⟩ := h
  cases (show u = Value.ref a from ry)
  have hu1 : X.A.in1.units < cLine := by show X.A.units + 1 < _; omega
  rw [if_pos rfl] at q
  rcases ha with ha | ha
  · obtain ⟨its, rv, pl, hz⟩ := I.list ha
    refine SeqAt.notIn_listAt (amU d) pl.isList (fun w hw => amU_eq (K := X.K) I hu1 rx hd rv w (by simpa using hw)) ⟨.bl _, H, I, rfl, ?_⟩
    rw [show its.toArray.any (amU d) = its.any (amU d) by simp, amU_any d rv]
    exact q
  · obtain ⟨its, rv, pl, hz⟩ := I.tuple ha
    refine SeqAt.notIn_tupleAt (amU d) pl (fun w hw => amU_eq (K := X.K) I hu1 rx hd rv w (by simpa using hw)) ⟨.bl _, H, I, rfl, ?_⟩
    rw [show its.toArray.any (amU d) = its.any (amU d) by simp, amU_any d rv]
    exact q
/-- the name of a datum's type -/
def dty : PyData → String
  | .none => "NoneType"
  | .bool _ => "bool"
  | .int _ => "int"
  | .str _ => "str"
  | .list _ => "list"
  | .tuple _ => "tuple"
  | .dict _ => "dict"
theorem kit_dq (I : Inv X pins σ H s) {v : V} {u : Value} {d : PyData} (r : RelV v u) (h : Dq X.K H v d) : ∃ P : Heap → Prop, PySem.W.KitX X.K u (.type (dty d)) P ∧ P s.heap ∧ u ≠ .builtin "__main__.__loader__#opaque" := by
  cases h with
  | non => cases r; exact ⟨_, PySem.W.kitx_none, True.intro, fun z => nomatch z⟩
  | bl b => cases r; exact ⟨_, PySem.W.kitx_bool, True.intro, fun z => nomatch z⟩
  | int i => obtain ⟨t, rfl⟩ := r; exact ⟨_, PySem.W.kitx_int, True.intro, fun z => nomatch z⟩
  | str x => obtain ⟨t, rfl⟩ := r; exact ⟨_, PySem.W.kitx_str, True.intro, fun z => nomatch z⟩
  | lst hs ha =>
    cases r
    obtain ⟨its, rv, pl, _⟩ := I.list hs
    obtain ⟨o, ho, hc, _⟩ := pl.isList
    exact ⟨_, PySem.W.kitx_list, ⟨o, ho, hc⟩, fun z => nomatch z⟩
  | tup hs ha =>
    cases r
    obtain ⟨its, rv, ⟨o, ho, hc, _⟩, _⟩ := I.tuple hs
    exact ⟨_, PySem.W.kitx_tuple, ⟨o, ho, hc⟩, fun z => nomatch z⟩
  | dic hs hk hv ha =>
    cases r
    obtain ⟨_, hy, vs, rkv, o, es, ep, ho, hx, hd, _⟩ := hs.ok I.hok
    exact ⟨_, PySem.W.kitx_dict, ⟨o, ho, hx.1⟩, fun z => nomatch z⟩
  | dicT hs hk hv ha =>
    cases r
    obtain ⟨_, hy, xs, rp, o, es, ep, ho, hx, hd, he, _⟩ := hs.ok I.hok
    exact ⟨_, PySem.W.kitx_dict, ⟨o, ho, hx.1⟩, fun z => nomatch z⟩
/-- isinstance(x, T), x a datum -/
def rIsD (K : PySem.W.Frag) : List V → Hp → VK → Prop := fun xs H Q => ∃ (x : V) (d : PyData) (T : String) (b : Bool), xs = [x, .ty T] ∧ Dq K H x d ∧ kitB (dty d) T = some b ∧ Q (.bl b) H
theorem call_isD : CallR X (.builtin "isinstance") (rIsD X.K) := by
  intro pins s σ H xs us Q I r h
  obtain ⟨x, d, T, b, rfl, hd, e, q⟩ := h
  obtain ⟨u1, u2, rfl, r1, r2⟩ := vals2 r
  cases (show u2 = Value.type T from r2)
  obtain ⟨P, Z, p, hx⟩ := kit_dq I r1 hd
  exact PySem.W.kia_one Z I.kIn p (kit_ty e) hx fun tk => ⟨.bl b, H, I.tok tk, rfl, q⟩
/-- isinstance(x, (list, tuple)), x a datum, the tuple just laid -/
def rIsDT (K : PySem.W.Frag) : List V → Hp → VK → Prop := fun xs H Q => ∃ (x : V) (tp : Addr) (d : PyData) (T1 T2 : String) (b1 b2 : Bool), xs = [x, .ref tp] ∧ H tp = some (.tup [.ty T1, .ty T2]) ∧ Dq K H x d ∧ kitB (dty d) T1 = some b1 ∧ kitB (dty d) T2 = some b2 ∧ Q (.bl (b1 || b2)) H
theorem call_isDT : CallR X (.builtin "isinstance") (rIsDT X.K) := by
  intro pins s σ H xs us Q I r h
  obtain ⟨x, tp, d, T1, T2, b1, b2, rfl, hT, hd, e1, e2, q⟩ := h
  obtain ⟨u1, u2, rfl, r1, r2⟩ := vals2 r
  cases (show u2 = Value.ref tp from r2)
  obtain ⟨P, Z, p, hx⟩ := kit_dq I r1 hd
  obtain ⟨_, its, rv, o, h1, h2, n, h3⟩ := (show ObjOk X.prog X.w H s.heap tp (.tup [.ty T1, .ty T2]) from I.hok tp _ hT)
  have e3 := ClsV.all (.cons (.ty T1) (.cons (.ty T2) .nil)) rv
  subst e3
  obtain ⟨oc, od, dt, sl⟩ := o
  simp only at h2 h3
  subst h2 h3
  refine PySem.W.kia_tup Z I.kIn p h1 (b := b1 || b2) ?_ hx fun tk => ⟨.bl (b1 || b2), H, I.tok tk, rfl, q⟩
  exact kitAny_cons (kit_ty e1) (fun z => by
    subst z
    exact kitAny_cons (kit_ty e2) (fun z => by subst z; exact kitAny_nil) (fun z => by rw [z]; rfl)) (fun z => by rw [z]; rfl)
end
theorem kit_str (d : PyData) : kitB (dty d) "str" = some (match d with | .str _ => true | _ => false) := by cases d <;> (show kitB _ "str" = _; dsimp only [dty]; decide +kernel)
theorem kit_list (d : PyData) : kitB (dty d) "list" = some (match d with | .list _ => true | _ => false) := by cases d <;> (show kitB _ "list" = _; dsimp only [dty]; decide +kernel)
theorem kit_tuple (d : PyData) : kitB (dty d) "tuple" = some (match d with | .tuple _ => true | _ => false) := by cases d <;> (show kitB _ "tuple" = _; dsimp only [dty]; decide +kernel)
end Ct

set_option Elab.async false
set_option linter.all false
set_option maxRecDepth 100000
set_option maxHeartbeats 4000000
/-! Own kit O: defs that raise, by bundle; own errors raised; objects made where something may be raised. -/
namespace Ct
open PySem PySem.Spec PyProof.Rows L2
/-- a def that may raise and keeps a promise -/
def HasR (P : Program) (w : World) (K : PySem.W.Frag) (mg : Str → Option Value) (base : Heap) (k : Nat) (nm : Str) (ps : List Str) (sp : Sp) : Prop :=
  ∃ f fd, mg nm = some (.ref f) ∧ PySem.W.keepIn K (.ref f) = true ∧ Binds K fd ps [] ∧ FnOk P w K mg base (L2.CX P w) k f fd ps sp
section
variable {P : Program} {w : World} {K : PySem.W.Frag} {mg : Str → Option Value} {base : Heap} {k : Nat} {nm : Str} {ps : List Str} {sp : Sp} {st : Stmt}
theorem hasR_of {N : List Str} (D : DFE K mg nm st ps) (S : FnScope N ps (defScope st)) (len : ∀ vs H Q E, sp vs H Q E → vs.length = ps.length)
    (body : ∀ (f : Addr) (cdv : Value) (A : Around) (outer : List Env) (s : Shared) (H : Hp) (vs : List V) (Q : VK) (E : XK), Room k (A.deeper (envOfC nm (defScope st) s.heap.objs.size f cdv)) → sp vs H Q E →
      ∃ t, PSs (cxOf (L2.CX P w) P w K mg base N nm (defScope st) f cdv A outer s H E) (defBody st) t ∧ t { nx := fun _ H' => Q .non H', rt := Q } (start N vs) H) : HasR P w K mg base (k + 1) nm ps sp := by
  obtain ⟨f, fd, F, g, b⟩ := D
  exact ⟨f, fd, g, F.kp, b, F.okX S len (body f)⟩
theorem HasR.mono {j : Nat} (h : HasR P w K mg base j nm ps sp) (l : j ≤ k) : HasR P w K mg base k nm ps sp := by
  obtain ⟨f, fd, g, kp, b, F⟩ := h
  exact ⟨f, fd, g, kp, b, F.mono l⟩
end
section
variable {X : Cx} {k j : Nat} {nm : Str} {ps : List Str} {sp : Sp} {e : Expr} {es : List Expr} {t : TA} {p pos : Pos} {W : WX}
/-- f(e, ..), what it raises is taken by W -/
theorem pe_hR (h : HasR X.prog X.w X.K X.mg X.base j nm ps sp) (tk : Takes X W) (hr : Room k X.A) (l : j ≤ k) (hg : Gl X nm) (ha : PA X (e :: es) t) (hdb : (nm == ("__debug__" : Str)) = false := by decide)
    (he : starEach (e :: es) X.env = (false, eval e X.env) :: starEach es X.env := by rfl) (hpl : (backTo pos (starEach es X.env)).any (·.1) = false := by rfl) : PE X (.Call (.Name nm p) (e :: es) [] pos) (tCallS sp (WE W) t) := by
  obtain ⟨f, fd, g, kp, b, F⟩ := h
  exact pe_callS F (hr.mono l) hg g kp b (fun σ => passAt tk σ) ha hdb he hpl
/-- f(e, ..), nothing raised -/
theorem pe_hR0 (h : HasR X.prog X.w X.K X.mg X.base j nm ps sp) (hr : Room k X.A) (l : j ≤ k) (hg : Gl X nm) (ha : PA X (e :: es) t) (hdb : (nm == ("__debug__" : Str)) = false := by decide)
    (he : starEach (e :: es) X.env = (false, eval e X.env) :: starEach es X.env := by rfl) (hpl : (backTo pos (starEach es X.env)).any (·.1) = false := by rfl) : PE X (.Call (.Name nm p) (e :: es) [] pos) (tCall sp [] E0 t) := by
  obtain ⟨f, fd, g, kp, b, F⟩ := h
  exact pe_call F (hr.mono l) hg g kp b .nil passL ha hdb he hpl
end
/-- an own error's class: what its __init__ promises, how it binds -/
def HasE (P : Program) (w : World) (K : PySem.W.Frag) (mg : Str → Option Value) (base : Heap) (k : Nat) (x : Str) (C : Addr) (f : Str) : Prop :=
  mg x = some (.ref C) ∧ ∃ fI fd, XCls K C fI ∧ FnOk P w K mg base CX0 k fI fd ["self", f] (spXI C f) ∧ Binds K fd ["self", f] []
/-- C(e) to be raised -/
def tRx (C : Addr) (f : Str) (te : TE) : L2.St → Hp → XK → Prop := fun σ H Q => te σ H fun v H1 => ∀ d, H1 d = none → Q (.ref C) (some d) (upd H1 d (.xd [(f, v)]))
section
variable {X : Cx} {k j : Nat} {x f : Str} {C : Addr} {p pos : Pos} {e : Expr} {te : TE}
theorem del_mkH {H : Hp} {a d : Addr} {v : V} (ha : H a = none) : upd (del (mkH H a d C f v) a) d (.xd [(f, v)]) = upd H d (.xd [(f, v)]) := by
  funext b
  by_cases hb : b = d
  · rw [hb, upd_same, upd_same]
  · rw [upd_ne hb, upd_ne hb]
    by_cases hba : b = a
    · rw [hba, del_same, ha]
    · rw [del_ne hba]
      unfold mkH
      rw [upd_ne hba, upd_ne hb]
/-- a reading with what follows made weaker -/
def tMono (te : TE) : TE := fun σ H Q => ∃ Q0 : VK, te σ H Q0 ∧ ∀ v H1, Q0 v H1 → Q v H1
theorem pe_mono (he : PE X e te) : PE X e (tMono te) := ⟨fun pins s σ H Q I ⟨Q0, h, m⟩ => thn (he.run pins s σ H Q0 I h) fun u s1 ⟨v, H1, I1, r, q⟩ => ⟨v, H1, I1, r, m v H1 q⟩⟩
theorem pmk_x (h : HasE X.prog X.w X.K X.mg X.base j x C f) (hr : Room k X.A) (l : j + 1 ≤ k) (hg : Gl X x) (he : PE X e te) (hdb : (x == ("__debug__" : Str)) = false := by decide)
    (hs : starEach [e] X.env = (false, eval e X.env) :: starEach [] X.env := by rfl) (hpl : (backTo pos (starEach [] X.env)).any (·.1) = false := by rfl)
    (hs2 : starEach [e] X.env = [(false, eval e X.env)] := by rfl) : PMk X (.Call (.Name x p) [e] [] pos) (tRx C f te) := by
  obtain ⟨hm, fI, fd, T, F, b⟩ := h
  intro pins s σ H Q I q
  refine pmk_oex T.ox T.iC T.tI F (hr.mono l) b .nil (fun _ _ _ _ _ _ _ z => z.elim) hg hm (pa_cons (pe_mono he) pa_nil hs) hdb hs hpl pins s σ H Q I ?_
  refine ⟨_, q, fun v H1 z => ⟨by show 1 ≤ 1000; decide, fun a ha => ⟨a, v, rfl, upd_same, fun d hd hne => ⟨rfl, d, [(f, v)], ?_, ?_, ?_, ?_⟩⟩⟩⟩
  · rw [mkH_new]; exact upd_same
  · rw [mkH_new]; unfold mkH; rw [upd_ne hne]; exact upd_same
  · rw [upd_ne hne] at hd; exact hd
  · rw [mkH_new, del_mkH ha]
    rw [upd_ne hne] at hd
    exact z d hd
end
/-- C(..) where what is raised is told at the slots -/
def tMakeS (C : Addr) (sp : Sp) (dvs : List V) (E : L2.St → XK) (t : TA) : TE := fun σ H Q => t σ H fun vs H1 => ∀ x dx, H1 x = none → H1 dx = none → dx ≠ x →
  sp (.ref x :: (vs ++ dvs)) (upd (upd H1 dx (.own x)) x (.ins C dx [])) (fun v H2 => v = .non ∧ Q (.ref x) H2) (E σ)
section
variable {X : Cx} {CX : CXT} {k : Nat} {f C : Addr} {fd : FuncData} {ps : List Str} {sp : Sp} {dvs : List V} {ds : List Value} {E : L2.St → XK} {x : Str} {p pos : Pos} {e : Expr} {es : List Expr} {t : TA}
theorem pe_makeS (M : Mk X.K C f) (F : FnOk X.prog X.w X.K X.mg X.base CX k f fd ps sp) (hr : Room (k + 1) X.A) (hg : Gl X x) (hm : X.mg x = some (.ref C)) (hb : Binds X.K fd ps ds) (hd : Vals dvs ds)
    (hx : ∀ (pins : List (Addr × Obj)) (σ : L2.St) (H : Hp) (s : Shared) (e : Value) (s' : Shared), Inv X pins σ H s → CX X.stack H s (E σ) e s' → X.xe e s')
    (ha : PA X (e :: es) t) (hdb : (x == ("__debug__" : Str)) = false := by decide) (he : starEach (e :: es) X.env = (false, eval e X.env) :: starEach es X.env := by rfl) (hpl : (backTo pos (starEach es X.env)).any (·.1) = false := by rfl) :
    PE X (.Call (.Name x p) (e :: es) [] pos) (tMakeS C sp dvs E t) := by
  refine ⟨fun pins s σ H Q I h => ?_⟩
  refine wpAny_Call_Name_kw (ld_glob I hg hm ?_ hdb)
  refine PySem.W.callWith_K (h₀ := X.base) I.ok.mod.kin M.kp (thn (ha.run pos pins s σ H _ I h) fun us s1 ⟨vs, H1, I1, r, q⟩ => ⟨I1.kIn, ?_⟩) he hpl
  have hq := q (s1.heap.objs.size + 1) s1.heap.objs.size (I1.hok.fresh (Nat.le_succ _)) (I1.hok.fresh (Nat.le_refl _)) (Nat.ne_of_lt (Nat.lt_succ_self _))
  have I2 := Inv.made (C := C) I1
  have r2 : Vals (V.ref (s1.heap.objs.size + 1) :: (vs ++ dvs)) (Value.ref (s1.heap.objs.size + 1) :: (us ++ ds)) := .cons rfl (r.append hd)
  have hl : (Value.ref (s1.heap.objs.size + 1) :: us ++ ds).length = ps.length := by
    have e := r2.length
    rw [F.len _ _ _ _ hq] at e
    exact e.symm
  refine wpAny_call (make_map (f := f) I1.kIn M.makes M.init (beq_iff_eq.mp M.fn) (codeAny_mono (F.run _ X.stack _ _ ⟨Value.ref (s1.heap.objs.size + 1) :: us, []⟩ (Value.ref (s1.heap.objs.size + 1) :: (us ++ ds)) _ _ (E σ) (hr.make C us [])
    (I2.env0.make C us []) (hb _ (Value.ref (s1.heap.objs.size + 1) :: us) I2.kIn hl) r2 hq) fun r s' hq' => ?_))
  match r, hq' with
  | .error e, hq' => exact hx pins σ _ _ e s' I2 hq'
  | .ok .next, hq' => exact False.elim hq'
  | .ok .brk, hq' => exact False.elim hq'
  | .ok .cont, hq' => exact False.elim hq'
  | .ok (.ret u), hq' =>
    obtain ⟨v, H', I3, rv, ev, q3⟩ := I2.after hq'
    subst ev
    exact ⟨rv, ⟨V.ref (s1.heap.objs.size + 1), H', I3, rfl, q3⟩⟩
end
end Ct

set_option Elab.async false
set_option linter.all false
set_option maxRecDepth 100000
set_option maxHeartbeats 4000000
/-! Own kit P: one reading for a walk over a list or a tuple. -/
namespace Ct
open PySem PySem.Spec PyProof.Rows L2
/-- the list or the tuple at a stands on -/
def SqKeep (K : PySem.W.Frag) (a : Addr) (xs : List V) (H H' : Hp) : Prop := (SqL K H a xs → SqL K H' a xs) ∧ (SqT K H a xs → SqT K H' a xs)
theorem SqKeep.same {K : PySem.W.Frag} {a : Addr} {xs : List V} {H H' : Hp} (s : Same H H') : SqKeep K a xs H H' := ⟨fun h => s.seq h, fun h => same_t s h⟩
theorem SqKeep.sqs {K : PySem.W.Frag} {a : Addr} {xs : List V} {H H' : Hp} (k : SqKeep K a xs H H') : SqS K H a xs → SqS K H' a xs
  | .inl h => .inl (k.1 h)
  | .inr h => .inr (k.2 h)
theorem SqKeep.of {K : PySem.W.Frag} {a : Addr} {xs : List V} {H H1 H' : Hp} (h : SqS K H a xs) (s1 : Same H H1) (s2 : Same H H') (ex : SqL K H1 a xs → SqT K H1 a xs → False) : SqKeep K a xs H1 H' := by
  rcases h with h | h
  · exact ⟨fun _ => s2.seq h, fun z => (ex (s1.seq h) z).elim⟩
  · exact ⟨fun z => (ex z (same_t s1 h)).elim, fun _ => same_t s2 h⟩
theorem seq_excl {X : Cx} {pins : List (Addr × Obj)} {σ : L2.St} {H : Hp} {s : Shared} {a : Addr} {xs : List V} (I : Inv X pins σ H s) (h1 : SqL X.K H a xs) (h2 : SqT X.K H a xs) : False := by
  obtain ⟨its, rv, p, _⟩ := I.list h1
  obtain ⟨o, ho, hc, _⟩ := p.isList
  obtain ⟨its2, rv2, ⟨o2, ho2, hc2, _⟩, _⟩ := I.tuple h2
  rw [ho] at ho2
  cases ho2
  rw [hc] at hc2
  exact absurd hc2 (by decide)
def iSq (K : PySem.W.Frag) (tl : TE) : TI := fun σ H R => tl σ H fun v H1 => ∃ a xs, v = .ref a ∧ SqS K H1 a xs ∧ ∀ (J : It) (G : Hp → Prop), (SqL K H1 a xs → SqT K H1 a xs → False) → (∀ H', SqKeep K a xs H1 H' → G H') → Walk J xs.length G (YAt xs) → R J H1
section
variable {X : Cx}
theorem pi_sq {tg l : Expr} {tl : TE} (hl : PE X l tl) : PI X tg l (iSq X.K tl) := by
  refine ⟨fun pins s σ H R I h => ?_⟩
  refine thn (hl.run pins s σ H _ I h) fun v s1 ⟨x, H1, I1, r1, a, xs, e, hq, q⟩ => ?_
  subst e
  cases r1
  have foot : ∀ b ∈ [s1.heap.objs.size], FpOk X pins H1 b := fun b hb => by
    have e : b = s1.heap.objs.size := by simpa using hb
    subst e
    exact I1.fpOk (Nat.le_refl _) (I1.hok.fresh (Nat.le_refl _))
  rcases hq with hq | hq
  · obtain ⟨its, rv, p, hz⟩ := I1.list hq
    refine wpAny_pyIter_list p.isList ?_
    exact ⟨s1.heap.objs.size, [s1.heap.objs.size], _, _, H1, rfl, I1.kept (t' := s1.toks) fun b o e => Heap.get?_push_of_some _ e, turn_list a _, ⟨_, Heap.get?_push_size _ rfl, rfl, rfl⟩, foot, q _ _ (seq_excl I1) (fun H' k => k.1 hq) walk_list⟩
  · obtain ⟨its, rv, p, hz⟩ := I1.tuple hq
    refine wpAny_pyIter_tuple (show s1.heap.IsTuple a its.toArray from p) ?_
    exact ⟨s1.heap.objs.size, [s1.heap.objs.size], _, _, H1, rfl, I1.kept (t' := s1.toks) fun b o e => Heap.get?_push_of_some _ e, turn_tuple a _, ⟨_, Heap.get?_push_size _ rfl, rfl, rfl⟩, foot, q _ _ (seq_excl I1) (fun H' k => k.2 hq) walk_tup⟩
/-- enumerate, one reading for a list and a tuple -/
def iEnumQ (K : PySem.W.Frag) (ta : TA) : TI := fun σ H R => ta σ H fun vs H1 => ∃ a xs, vs = [.ref a] ∧ SqS K H1 a xs ∧ ∀ (J : It) (G : Hp → Prop), (SqL K H1 a xs → SqT K H1 a xs → False) → (∀ H', SqKeep K a xs H1 H' → G H') → Walk J xs.length G (YPair (fun i => some (.int (i : Nat))) (fun i => xs[i]?)) → R J H1
theorem pi_enumQ {e : Expr} {ta : TA} {p pos tpos : Pos} {elts : List Expr} {kk : Nat} (hg : Gl X "enumerate") (hm : X.mg "enumerate" = none) (ha : PA X [e] ta) (hs : starEach [e] X.env = [(false, eval e X.env)] := by rfl) :
    PI X (.Tuple elts kk tpos) (.Call (.Name "enumerate" p) [e] [] pos) (iEnumQ X.K ta) := by
  refine ⟨fun pins s σ H R I h => ?_⟩
  refine Call_ (ld_blt I hg hm boot_enumerate (PyProof.Rows.callWith_type1 (thn (ha.run pos pins s σ H _ I h) fun us s1 ⟨vs, H1, I1, r1, a, xs, e, hq, q⟩ => ?_) hs rfl))
  subst e
  obtain ⟨u, rfl, ru⟩ := vals1 r1
  cases (show u = Value.ref a from ru)
  have feet : ∀ b ∈ [s1.heap.objs.size + 1, s1.heap.objs.size], FpOk X pins H1 b := fun b hb => by
    have hle : s1.heap.objs.size ≤ b := by
      rcases (show b = s1.heap.objs.size + 1 ∨ b = s1.heap.objs.size by simpa using hb) with z | z
      · rw [z]; exact Nat.le_add_right _ _
      · rw [z]; exact Nat.le_refl _
    exact I1.fpOk hle (I1.hok.fresh hle)
  rcases hq with hq | hq
  · obtain ⟨its, rv, p', hz⟩ := I1.list hq
    refine call_enumerate_list p'.isList fun h' he hit hsz hk => wpAny_pyIter_enum he ?_
    exact ⟨s1.heap.objs.size + 1, [s1.heap.objs.size + 1, s1.heap.objs.size], _, _, H1, rfl, I1.kept (t' := s1.toks) hk, turn_enum a (s1.heap.objs.size + 1) s1.heap.objs.size, ⟨⟨.none, he⟩, hit, Nat.succ_ne_self _⟩, feet, q _ _ (seq_excl I1) (fun H' k => k.1 hq) walk_enum⟩
  · obtain ⟨its, rv, p', hz⟩ := I1.tuple hq
    refine call_enumT (show s1.heap.IsTuple a its.toArray from p') fun h' he hit hk => wpAny_pyIter_enum he ?_
    exact ⟨s1.heap.objs.size + 1, [s1.heap.objs.size + 1, s1.heap.objs.size], _, _, H1, rfl, I1.kept (t' := s1.toks) hk, turn_enumT a (s1.heap.objs.size + 1) s1.heap.objs.size, ⟨⟨.none, he⟩, hit, Nat.succ_ne_self _⟩, feet, q _ _ (seq_excl I1) (fun H' k => k.2 hq) walk_enumT⟩
end
end Ct

set_option Elab.async false
set_option linter.all false
set_option maxRecDepth 100000
set_option maxHeartbeats 4000000
/-! Own kit Q: set comprehensions by a walk. -/
namespace Ct
open PySem PySem.Spec PyProof.Rows L2 PpSet
theorem ksc_it {K : PySem.W.Frag} {P : Program} {w : World} {J : It} {n : Nat} {G : Hp → Prop} {Y : Nat → Hp → V → Hp → Prop} (wk : Walk J n G Y) {g : TG} {te : TE} {vs : List Nat} {σ : L2.St} {H1 : Hp} {D : Addr} {Qd : Hp → Prop} (Pv : Nat → Hp → Prop)
    (h0 : Pv 0 (upd H1 D (KSetO P w D []))) (hG : ∀ i H, i ≤ n → Pv i H → G H)
    (hs : ∀ i x H H', i < n → Pv i H → Y i H x H' → g x (wipe σ vs) H' fun σ2 H2 => wipe σ2 vs = wipe σ vs ∧ te σ2 H2 fun y H4 => ∃ b, y = .ref b ∧ rKAdd K P w D b H4 (Pv (i + 1))) (hd : ∀ H, Pv n H → Qd H) :
    ∃ W : Nat → Nat → Hp → Prop, (∃ m, W 0 m (upd H1 D (KSetO P w D []))) ∧ ∀ i m H, W i m H →
      (J.stop i H ∧ Qd H) ∨ (J.go i H ∧ ∃ Nx : Hp → Prop, (∀ H', Nx H' → ∃ m', m' < m ∧ W (i + 1) m' H') ∧ ∀ x H', J.yld i H x H' → g x (wipe σ vs) H' fun σ2 H2 => wipe σ2 vs = wipe σ vs ∧
        te σ2 H2 fun y H4 => ∃ b, y = .ref b ∧ rKAdd K P w D b H4 Nx) := by
  refine ⟨fun i m H => m = n - i ∧ i ≤ n ∧ Pv i H, ⟨n, by simp, Nat.zero_le _, h0⟩, ?_⟩
  rintro i m H ⟨rfl, hi, p⟩
  have q := hG i H hi p
  rcases Nat.lt_or_ge i n with lt | ge
  · exact .inr ⟨wk.goes i H lt q, Pv (i + 1), fun H' p' => ⟨n - (i + 1), by omega, rfl, lt, p'⟩, fun x H' y => hs i x H H' lt p (wk.yields i H x H' lt q y)⟩
  · obtain rfl : i = n := Nat.le_antisymm hi ge
    exact .inl ⟨wk.stops H q, hd H p⟩
/-- a set that has got one key more -/
theorem kadd_in {K : PySem.W.Frag} {P : Program} {w : World} {D b : Addr} {H : Hp} {L : List Mem} {k : List Key} {Q : Hp → Prop} (hD : H D = some (KSetO P w D L)) (hm : Mems K H L) (hb : SqT K H b (k.map kV)) (hl : L.length + 1 < 77)
    (q : ∀ L' H', H' D = some (KSetO P w D L') → (∀ c, c ≠ D → H' c = H c) → (∀ j, j ∈ L'.map (·.2) ↔ j = k ∨ j ∈ L.map (·.2)) → (∀ p ∈ L', p = (b, k) ∨ p ∈ L) → L'.length ≤ L.length + 1 → Q H') : rKAdd K P w D b H Q := by
  refine ⟨L, k, hD, hm, hb, hl, fun z => ?_, fun z L' pm => ?_⟩
  · exact q L H hD (fun _ _ => rfl) (fun j => ⟨.inr, fun h => h.elim (fun e => e ▸ z) id⟩) (fun p hp => .inr hp) (Nat.le_succ _)
  · refine q L' _ upd_same (fun c hc => upd_ne hc) (fun j => ?_) (fun p hp => ?_) (Nat.le_of_eq pm.length_eq)
    · have := (pm.map (·.2)).mem_iff (a := j)
      rw [this, List.map_cons, List.mem_cons]
    · have := pm.mem_iff.mp hp
      rcases List.mem_cons.mp this with e | e
      · exact .inl e
      · exact .inr e
end Ct

set_option Elab.async false
set_option linter.all false
set_option maxRecDepth 100000
set_option maxHeartbeats 4000000
/-! Own kit R: dict comprehensions stored, and by a walk. -/
namespace Ct
open PySem PySem.Spec PyProof.Rows L2
section
variable {X : Cx}
/-- y = {k: v for x in xs} -/
theorem ps_setDc {i : Nat} {y : PySem.Str} {py : Pos} {kx vx tg iter : Expr} {ifs : List Expr} {scope : Scope} {own : List (PySem.Str × Nat)} {pos spos : Pos} {wi : TI} {g : TG} {tt : TT} {tk tv : TE} (hc : X.calm = true) (hN : X.N.Nodup) (hy : X.N[i]? = some y) (hyl : X.env.scope.names.lookup y = some .local)
    (hsw : swapsWith (.DictComp kx vx [⟨tg, iter, ifs, 0⟩] scope pos) (some (.Name y py)) spos.line X.env = pure true) (hi : PI X tg iter wi) (ok : BlkOk X.N X.env.scope scope own)
    (hg : ∀ (s : Shared) (H : Hp) (C : Addr) (cl : List (PySem.Str × Addr)) (fp : List Addr), PG (X.blk s H scope (compEnvC scope cl C X.env) fp) tg g) (ht : ∀ (s : Shared) (H : Hp) (C : Addr) (cl : List (PySem.Str × Addr)) (fp : List Addr), PTs (X.blk s H scope (compEnvC scope cl C X.env) fp) ifs tt)
    (hk : ∀ (s : Shared) (H : Hp) (C : Addr) (cl : List (PySem.Str × Addr)) (fp : List Addr), PE (X.blk s H scope (compEnvC scope cl C X.env) fp) kx tk)
    (he : ∀ (s : Shared) (H : Hp) (C : Addr) (cl : List (PySem.Str × Addr)) (fp : List Addr), PE (X.blk s H scope (compEnvC scope cl C X.env) fp) vx tv) (hs : ∀ x, foldedSetIterable iter X.env x = pure x := by intro _; rfl) :
    PS X (.Assign [.Name y py] (.DictComp kx vx [⟨tg, iter, ifs, 0⟩] scope pos) spos) (tAsg (tDc wi g tt tk tv (own.map (·.2))) (gName i)) := by
  refine ⟨fun pins s σ H D I h => ?_⟩
  rw [exec_Assign_Name_used _ _ _ _ hsw]
  refine wpAny_bind (wpAny_standAt (wpAny_bind ?_))
  show wpAny _ X.A (do let _ ← comprehension (.DictComp kx vx [⟨tg, iter, ifs, 0⟩] scope pos) scope X.env (firstIterPos [⟨tg, iter, ifs, 0⟩] pos) newDict false (eval iter X.env) (some (assign (.Name y py) X.env))) _ _ s
  have q : tDc wi g tt tk tv (own.map (·.2)) σ H (fun x H1 => gName i x σ H1 D.nx) := h
  refine wpAny_bind (thn (dc_core (Qf := fun _ s' => SP X pins D .next s') hc hN I hi ok hg ht hk he hs q fun L C s' m H' I' q hn f => ?_) fun _ s' hq => wpAny_pure (wpAny_pure hq))
  show wpAny _ _ (assign (.Name y py) X.env (.ref L)) _ _ _
  refine wpAny_assign_Name (store_ok2 (v := V.ref L) I' hN hy (.inl hyl) rfl (fun s2 I2 ⟨a, sb, ha⟩ => ?_) (.inr hyl))
  obtain ⟨f0, f1, f2, f3, f4, f5⟩ := f
  have ne : C ≠ a := ha.elim (fun z => z ▸ f1) (fun z e => f4 y a z e.symm)
  exact ⟨m, hn.sameBut sb ne, fun h3 sb3 => ⟨_, H', I2.turned (t' := s2.toks) (fun b o hb e => (sb3.2 b hb).trans e) f0 f1 f3 f4 f5, q⟩⟩
theorem sw_setd {kx vx : Expr} {gs : List Comprehension} {scope : Scope} {pos py : Pos} {y : PySem.Str} {l : Nat} {env : Env} (hk : env.scope.kind = .function) (hy : env.scope.names.lookup y = some .local) (hl : (py.line == pos.line) = true)
    (ha : (scope.names.any fun (n, k) => n == y && (k == .local || k == .cell)) = false) : swapsWith (.DictComp kx vx gs scope pos) (some (.Name y py)) l env = pure true := by
  have ky : env.kindOf y = some .local := hy
  have hb : env.blockKind = .function := by unfold Env.blockKind; rw [hk]; rfl
  unfold swapsWith
  simp only [hb, ky, ha, Expr.pos, hl]
  rfl
end
theorem dc_it {J : It} {n : Nat} {G : Hp → Prop} {Y : Nat → Hp → V → Hp → Prop} (wk : Walk J n G Y) {g : TG} {tt : TT} {tk tv : TE} {vs : List Nat} {σ : L2.St} {H1 : Hp} {D : Addr} {Qd : Hp → Prop} (Pv : Nat → Hp → Prop) (h0 : Pv 0 (upd H1 D (.dK []))) (hG : ∀ i H, i ≤ n → Pv i H → G H)
    (hs : ∀ i x H H', i < n → Pv i H → Y i H x H' → g x (wipe σ vs) H' fun σ2 H2 => wipe σ2 vs = wipe σ vs ∧ tt σ2 H2 fun b H3 =>
      if b = true then tk σ2 H3 fun y H4 => tv σ2 H4 fun z H5 => ∃ kvs k, y = kV k ∧ H5 D = some (.dK kvs) ∧ kvs.length < sizeLine ∧ Pv (i + 1) (upd H5 D (.dK (putK kvs k z))) else Pv (i + 1) H3) (hd : ∀ H, Pv n H → Qd H) :
    ∃ W : Nat → Nat → Hp → Prop, (∃ m, W 0 m (upd H1 D (.dK []))) ∧ ∀ i m H, W i m H →
      (J.stop i H ∧ Qd H) ∨ (J.go i H ∧ ∃ Nx : Hp → Prop, (∀ H', Nx H' → ∃ m', m' < m ∧ W (i + 1) m' H') ∧ ∀ x H', J.yld i H x H' → g x (wipe σ vs) H' fun σ2 H2 => wipe σ2 vs = wipe σ vs ∧ tt σ2 H2 fun b H3 =>
        if b = true then tk σ2 H3 fun y H4 => tv σ2 H4 fun z H5 => ∃ kvs k, y = kV k ∧ H5 D = some (.dK kvs) ∧ kvs.length < sizeLine ∧ Nx (upd H5 D (.dK (putK kvs k z))) else Nx H3) := by
  refine ⟨fun i m H => m = n - i ∧ i ≤ n ∧ Pv i H, ⟨n, by simp, Nat.zero_le _, h0⟩, ?_⟩
  rintro i m H ⟨rfl, hi, p⟩
  have q := hG i H hi p
  rcases Nat.lt_or_ge i n with lt | ge
  · exact .inr ⟨wk.goes i H lt q, Pv (i + 1), fun H' p' => ⟨n - (i + 1), by omega, rfl, lt, p'⟩, fun x H' y => hs i x H H' lt p (wk.yields i H x H' lt q y)⟩
  · obtain rfl : i = n := Nat.le_antisymm hi ge
    exact .inl ⟨wk.stops H q, hd H p⟩
/-! the written part named: for what stands within a comprehension -/
section
variable {X : Cx} {K : PySem.W.Frag}
theorem pi_sqk (hK : X.K = K) {tg l : Expr} {tl : TE} (hl : PE X l tl) : PI X tg l (iSq K tl) := by
  subst hK
  exact pi_sq hl
theorem op_in_seqk (hK : X.K = K) : OpR X (compareOp .In) (rIn K false) := by
  subst hK
  exact op_in_seq
theorem op_notIn_seqk (hK : X.K = K) : OpR X (compareOp .NotIn) (rIn K true) := by
  subst hK
  exact op_notIn_seq
theorem or_amidk (hK : X.K = K) (hu : X.A.units + 64 < cLine) : OpR X (compareOp .In) (rAmid K false) := by
  subst hK
  exact or_amid hu
theorem or_namidk (hK : X.K = K) (hu : X.A.units + 64 < cLine) : OpR X (compareOp .NotIn) (rAmid K true) := by
  subst hK
  exact or_namid hu
theorem call_isDk (hK : X.K = K) : CallR X (.builtin "isinstance") (rIsD K) := by
  subst hK
  exact call_isD
end
end Ct

set_option Elab.async false
set_option linter.all false
set_option maxRecDepth 100000
set_option maxHeartbeats 2000000
/-! Own kit S: what stands, as one list (Lv); a tactic that answers a reading as far as it is plain. -/
namespace Ct
open PySem PySem.Spec PyProof.Rows L2
theorem at_while {c : TT} {b u : TS} {D : Ends} {σ : L2.St} {H : Hp} (h : tSeq (tWhile c b) u D σ H) : tSeq (tWhile c b) u D σ H := h
theorem at_while1 {c : TT} {b : TS} {D : Ends} {σ : L2.St} {H : Hp} (h : tWhile c b D σ H) : tWhile c b D σ H := h
theorem erase_perm {α : Type} : ∀ {xs : List α} {i : Nat} (h : i < xs.length), (xs[i] :: xs.eraseIdx i).Perm xs
  | x :: xs, 0, _ => .refl _
  | x :: xs, i + 1, h => (List.Perm.swap _ _ _).trans (List.Perm.cons x (erase_perm (Nat.lt_of_succ_lt_succ h)))
theorem map_same {α : Type} {f : α → α} : ∀ {l : List α}, (∀ y ∈ l, f y = y) → l.map f = l
  | [], _ => rfl
  | y :: l, h => by rw [List.map_cons, h y List.mem_cons_self, map_same fun z hz => h z (List.mem_cons_of_mem _ hz)]
/-- a row of the same things in another sequence -/
theorem perm_inv {α β : Type} {f : α → β} (g : β → α) (hg : ∀ x, g (f x) = x) {ys : List β} {xs : List α} (h : ys.Perm (xs.map f)) : ∃ zs : List α, zs.Perm xs ∧ ys = zs.map f := by
  refine ⟨ys.map g, ?_, ?_⟩
  · have := h.map g
    rwa [List.map_map, show g ∘ f = id from funext hg, List.map_id] at this
  · rw [List.map_map]
    refine (map_same fun y hy => ?_).symm
    obtain ⟨x, _, rfl⟩ := List.mem_map.mp (h.mem_iff.mp hy)
    exact congrArg f (hg x)
def strOf : V → Str
  | .str x => x
  | _ => Str.empty
theorem strs_perm {ys : List V} {xs : List Str} (h : ys.Perm (xs.map V.str)) : ∃ zs : List Str, zs.Perm xs ∧ ys = zs.map V.str := perm_inv strOf (fun _ => rfl) h
theorem paired_perm {α β : Type} {R : α → β → Prop} {ys xs : List α} (h : ys.Perm xs) : ∀ {ts : List β}, Paired R xs ts → ∃ us, us.Perm ts ∧ Paired R ys us := by
  induction h with
  | nil => intro ts p; exact ⟨ts, .refl _, p⟩
  | cons x _ ih =>
    intro ts p
    cases p with
    | cons a b =>
      obtain ⟨us, h1, h2⟩ := ih b
      exact ⟨_ :: us, h1.cons _, .cons a h2⟩
  | swap x y l =>
    intro ts p
    cases p with
    | cons a b =>
      cases b with
      | cons b c => exact ⟨_, .swap _ _ _, .cons b (.cons a c)⟩
  | trans _ _ ih1 ih2 =>
    intro ts p
    obtain ⟨us, h1, h2⟩ := ih2 p
    obtain ⟨vs, h3, h4⟩ := ih1 h2
    exact ⟨vs, h3.trans h1, h4⟩
theorem nodup_set {α : Type} : ∀ {l : List α} {i : Nat} {x : α}, l.Nodup → x ∉ l → (l.set i x).Nodup
  | [], _, _, _, _ => List.nodup_nil
  | y :: l, 0, x, h, n => by
    rw [List.set_cons_zero]
    exact List.nodup_cons.mpr ⟨fun z => n (List.mem_cons_of_mem _ z), (List.nodup_cons.mp h).2⟩
  | y :: l, i + 1, x, h, n => by
    rw [List.set_cons_succ]
    refine List.nodup_cons.mpr ⟨fun z => ?_, nodup_set (List.nodup_cons.mp h).2 fun z => n (List.mem_cons_of_mem _ z)⟩
    rcases List.mem_or_eq_of_mem_set z with z | z
    · exact (List.nodup_cons.mp h).1 z
    · exact n (z ▸ List.mem_cons_self)
theorem in_strs (l : List Str) (q : Str) : inV (.str q) (l.map V.str) = decide (q ∈ l) := by
  rw [Bool.eq_iff_iff, decide_eq_true_eq]
  unfold inV
  rw [List.any_map, List.any_eq_true]
  exact ⟨fun ⟨y, hy, e⟩ => (eq_of_beq (show (y == q) = true from e)) ▸ hy, fun h => ⟨q, h, beq_self_eq_true q⟩⟩
/-- a row cut behind the first n -/
theorem cut_take (xs : List V) (n : Nat) : cutV xs none (some (n : Int)) = xs.take n := by
  unfold cutV
  rw [HT.sIx_none, HT.sIx_nat, List.drop_zero, Nat.sub_zero]
  exact (List.take_eq_take_min).symm
/-- a shield: what is within is not looked at -/
structure Hold (p : Prop) : Prop where
  out : p
/-- a test that changes nothing: both ways apart, whatever it leans on -/
theorem ifs_any {c : TT} {a b : TS} {D : Ends} {σ : L2.St} {H : Hp} (R : Bool → Prop) (hc : ∀ Q : Bool → Hp → Prop, (∀ x, R x → Q x H) → c σ H Q) (h1 : R true → a D σ H) (h2 : R false → b D σ H) : tIfS c a b D σ H := by
  refine hc _ fun x hx => ?_
  cases x with
  | true => exact iteT (h1 hx)
  | false => exact iteF (h2 hx)
theorem sz0 : ([] : List V).length ≤ sizeLine := by rw [sizeLine_eq]; simp only [List.length_cons, List.length_nil]; decide
theorem sz1 {a0 : V} : ([a0] : List V).length ≤ sizeLine := by rw [sizeLine_eq]; simp only [List.length_cons, List.length_nil]; decide
theorem sz2 {a0 a1 : V} : ([a0, a1] : List V).length ≤ sizeLine := by rw [sizeLine_eq]; simp only [List.length_cons, List.length_nil]; decide
theorem sz3 {a0 a1 a2 : V} : ([a0, a1, a2] : List V).length ≤ sizeLine := by rw [sizeLine_eq]; simp only [List.length_cons, List.length_nil]; decide
theorem sz4 {a0 a1 a2 a3 : V} : ([a0, a1, a2, a3] : List V).length ≤ sizeLine := by rw [sizeLine_eq]; simp only [List.length_cons, List.length_nil]; decide
theorem sz5 {a0 a1 a2 a3 a4 : V} : ([a0, a1, a2, a3, a4] : List V).length ≤ sizeLine := by rw [sizeLine_eq]; simp only [List.length_cons, List.length_nil]; decide
theorem sz6 {a0 a1 a2 a3 a4 a5 : V} : ([a0, a1, a2, a3, a4, a5] : List V).length ≤ sizeLine := by rw [sizeLine_eq]; simp only [List.length_cons, List.length_nil]; decide
theorem sz7 {a0 a1 a2 a3 a4 a5 a6 : V} : ([a0, a1, a2, a3, a4, a5, a6] : List V).length ≤ sizeLine := by rw [sizeLine_eq]; simp only [List.length_cons, List.length_nil]; decide
theorem sz8 {a0 a1 a2 a3 a4 a5 a6 a7 : V} : ([a0, a1, a2, a3, a4, a5, a6, a7] : List V).length ≤ sizeLine := by rw [sizeLine_eq]; simp only [List.length_cons, List.length_nil]; decide
theorem sz10 {a0 a1 a2 a3 a4 a5 a6 a7 a8 a9 : V} : ([a0, a1, a2, a3, a4, a5, a6, a7, a8, a9] : List V).length ≤ sizeLine := by rw [sizeLine_eq]; simp only [List.length_cons, List.length_nil]; decide
theorem sz11 {a0 a1 a2 a3 a4 a5 a6 a7 a8 a9 a10 : V} : ([a0, a1, a2, a3, a4, a5, a6, a7, a8, a9, a10] : List V).length ≤ sizeLine := by rw [sizeLine_eq]; simp only [List.length_cons, List.length_nil]; decide
theorem sz12 {a0 a1 a2 a3 a4 a5 a6 a7 a8 a9 a10 a11 : V} : ([a0, a1, a2, a3, a4, a5, a6, a7, a8, a9, a10, a11] : List V).length ≤ sizeLine := by rw [sizeLine_eq]; simp only [List.length_cons, List.length_nil]; decide
theorem sz14 {a0 a1 a2 a3 a4 a5 a6 a7 a8 a9 a10 a11 a12 a13 : V} : ([a0, a1, a2, a3, a4, a5, a6, a7, a8, a9, a10, a11, a12, a13] : List V).length ≤ sizeLine := by rw [sizeLine_eq]; simp only [List.length_cons, List.length_nil]; decide
theorem nodup_inj {α β : Type} {f : α → β} (inj : ∀ x y, f x = f y → x = y) {l : List α} (h : l.Nodup) : (l.map f).Nodup := List.pairwise_map.mpr (h.imp fun n e => n (inj _ _ e))
theorem nodup_len {α : Type} [DecidableEq α] : ∀ {r ns : List α}, r.Nodup → (∀ q ∈ r, q ∈ ns) → r.length ≤ ns.length
  | [], _, _, _ => Nat.zero_le _
  | x :: r, ns, h, s => by
    obtain ⟨n, h⟩ := List.nodup_cons.mp h
    have h1 := nodup_len (ns := ns.erase x) h fun q hq => (List.mem_erase_of_ne (fun z => n (by rw [← z]; exact hq))).mpr (s q (List.mem_cons_of_mem _ hq))
    have h2 := List.length_erase_of_mem (s x List.mem_cons_self)
    have h3 := List.length_pos_of_mem (s x List.mem_cons_self)
    rw [List.length_cons]
    omega
theorem idx_inj {ns : List Str} (nd : ns.Nodup) {i j : Nat} {x : Str} (h1 : ns[i]? = some x) (h2 : ns[j]? = some x) : i = j :=
  (List.getElem?_inj (List.getElem?_eq_some_iff.mp h1).1 nd).mp (h1.trans h2.symm)
/-- a test, both ways apart, told by what holds behind it -/
theorem ifs_to {c : TT} {a b : TS} {D : Ends} {σ : L2.St} {H : Hp} (R : Bool → Hp → Prop) (hc : ∀ Q : Bool → Hp → Prop, (∀ x H', R x H' → Q x H') → c σ H Q) (h1 : ∀ H', R true H' → a D σ H') (h2 : ∀ H', R false H' → b D σ H') : tIfS c a b D σ H := by
  refine hc _ fun x H' hx => ?_
  cases x with
  | true => exact iteT (h1 H' hx)
  | false => exact iteF (h2 H' hx)
def updX (H : Hp) (a : Addr) (o : HO) : Hp := upd H a o
theorem upd_mark {H : Hp} {a : Addr} {o : HO} : upd H a o = updX H a o := rfl
/-- a while by an invariant and a measure -/
theorem while_n {c : TT} {tb : TS} {D : Ends} {σ : L2.St} {H : Hp} (Pv : L2.St → Hp → Prop) (μ : L2.St → Hp → Nat) (h0 : Pv σ H)
    (hs : ∀ σ H, Pv σ H → c σ H fun b H1 => if b = true then ∃ N : L2.St → Hp → Prop, (∀ σ' H', N σ' H' → ∃ m', m' < μ σ H ∧ (m' = μ σ' H' ∧ Pv σ' H')) ∧ tb { D with nx := N, ct := N, bk := D.nx } σ H1 else D.nx σ H1) : tWhile c tb D σ H := by
  refine ⟨fun m σ H => m = μ σ H ∧ Pv σ H, ⟨_, rfl, h0⟩, ?_⟩
  rintro m σ H ⟨rfl, p⟩
  exact hs σ H p
theorem while_nx {Pv : L2.St → Hp → Prop} {μ : L2.St → Hp → Nat} {m : Nat} : ∀ σ' H', (Pv σ' H' ∧ μ σ' H' < m) → ∃ m', m' < m ∧ (m' = μ σ' H' ∧ Pv σ' H') := fun _ _ h => ⟨_, h.2, rfl, h.1⟩
/-- a list's length -/
def lenH (H : Hp) (a : Addr) : Nat := match H a with
  | some (.lst xs) => xs.length
  | _ => 0
theorem lenH_eq {H : Hp} {a : Addr} {xs : List V} (h : H a = some (.lst xs)) : lenH H a = xs.length := by unfold lenH; rw [h]
/-- what stands now at different addresses; of what stood in H0 all stands but what is at S -/
structure Lv (H0 : Hp) (S : List Addr) (H : Hp) (l : List (Addr × HO)) : Prop where
  nd : (l.map (·.1)).Nodup
  all : ∀ p ∈ l, H p.1 = some p.2
  fr : ∀ b o, b ∉ S → H0 b = some o → H b = some o
  nw : ∀ p ∈ l, p.1 ∈ S ∨ H0 p.1 = none
  sl : ∀ b ∈ S, b ∈ l.map (·.1)
section
variable {H0 H H' : Hp} {S : List Addr} {l : List (Addr × HO)} {p q : Addr} {o u : HO}
theorem Lv.get (h : Lv H0 S H l) (i : Nat) (e : l[i]? = some (p, o)) : H p = some o := h.all (p, o) (List.mem_of_getElem? e)
/-- nothing is changed -/
theorem Lv.zero (H : Hp) : Lv H [] H [] := ⟨List.nodup_nil, fun _ h => (nomatch h), fun _ _ _ h => h, fun _ h => (nomatch h), fun _ h => (nomatch h)⟩
theorem Lv.add (h : Lv H S H l) (hp : H p = some o) (n : p ∉ l.map (·.1)) : Lv H (p :: S) H ((p, o) :: l) where
  nd := List.nodup_cons.mpr ⟨n, h.nd⟩
  all := fun q hq => by
    cases hq with
    | head => exact hp
    | tail _ hq => exact h.all q hq
  fr := fun b o n hb => hb
  nw := fun q hq => by
    cases hq with
    | head => exact .inl List.mem_cons_self
    | tail _ hq => exact (h.nw q hq).imp (List.mem_cons_of_mem _) id
  sl := fun b hb => by
    cases hb with
    | head => exact List.mem_cons_self
    | tail _ hb => exact List.mem_cons_of_mem _ (h.sl b hb)
/-- one thing may be changed -/
theorem Lv.one (hp : H p = some o) : Lv H [p] H [(p, o)] := (Lv.zero H).add hp (fun z => nomatch z)
theorem Lv.two (hp : H p = some o) (hq : H q = some u) (n : p ≠ q) : Lv H [p, q] H [(p, o), (q, u)] := (Lv.one hq).add hp (fun z => n (List.mem_singleton.mp z))
theorem Lv.new (h : Lv H0 S H l) (np : H p = none) : p ∉ l.map (·.1) := fun z => by
  obtain ⟨q, hq, rfl⟩ := List.mem_map.mp z
  rw [h.all q hq] at np
  cases np
theorem Lv.free (h : Lv H0 S H l) (np : H p = none) : H0 p = none := by
  cases q : H0 p with
  | none => rfl
  | some o =>
    by_cases c : p ∈ S
    · exact absurd (h.sl p c) (h.new np)
    · rw [h.fr p o c q] at np; cases np
theorem Lv.same (h : Lv H0 S H l) (s : Same H H') : Lv H0 S H' l := ⟨h.nd, fun q hq => s _ _ (h.all q hq), fun b o n hb => s _ _ (h.fr b o n hb), h.nw, h.sl⟩
theorem Lv.cons (h : Lv H0 S H l) (hp : H p = some o) (n : p ∉ l.map (·.1)) (n0 : H0 p = none) : Lv H0 S H ((p, o) :: l) where
  nd := List.nodup_cons.mpr ⟨n, h.nd⟩
  all := fun q hq => by
    cases hq with
    | head => exact hp
    | tail _ hq => exact h.all q hq
  fr := h.fr
  nw := fun q hq => by
    cases hq with
    | head => exact .inr n0
    | tail _ hq => exact h.nw q hq
  sl := fun b hb => List.mem_cons_of_mem _ (h.sl b hb)
theorem Lv.al (h : Lv H0 S H l) (np : H p = none) : Lv H0 S (upd H p o) ((p, o) :: l) := (h.same (same_new np)).cons upd_same (h.new np) (h.free np)
/-- a new thing told by what holds behind it -/
theorem Lv.al' (h : Lv H0 S H l) (s : Same H H') (np : H p = none) (hp : H' p = some o) : Lv H0 S H' ((p, o) :: l) := (h.same s).cons hp (h.new np) (h.free np)
theorem Lv.ne (h : Lv H0 S H l) (i j : Nat) (ne : i ≠ j) (e : l[i]? = some (p, o)) (f : l[j]? = some (q, u)) : p ≠ q := fun z => by
  have hi := (List.getElem?_eq_some_iff.mp e).1
  have hj := (List.getElem?_eq_some_iff.mp f).1
  have a : (l.map (·.1))[i]? = some p := by rw [List.getElem?_map, e]; rfl
  have b : (l.map (·.1))[j]? = some p := by rw [List.getElem?_map, f, z]; rfl
  exact ne ((List.getElem?_inj (by rw [List.length_map]; exact hi) h.nd).mp (a.trans b.symm))
theorem set_fst {l : List (Addr × HO)} {i : Nat} (e : l[i]? = some (p, o)) : (l.set i (p, u)).map (·.1) = l.map (·.1) := by
  have hi := (List.getElem?_eq_some_iff.mp e).1
  rw [List.map_set]
  refine List.ext_getElem? fun j => ?_
  rw [List.getElem?_set]
  by_cases c : i = j
  · subst c
    rw [if_pos rfl, if_pos (by rw [List.length_map]; exact hi), List.getElem?_map, e]
    rfl
  · rw [if_neg c]
/-- what is at the i-th address is changed, told by what holds behind it -/
theorem Lv.st' (h : Lv H0 S H l) (i : Nat) (e : l[i]? = some (p, o)) (hp : H' p = some u) (off : ∀ b w, b ≠ p → H b = some w → H' b = some w) : Lv H0 S H' (l.set i (p, u)) := by
  have hi := (List.getElem?_eq_some_iff.mp e).1
  have em := set_fst (u := u) e
  have mem : ∀ q ∈ l.set i (p, u), q = (p, u) ∨ (q ∈ l ∧ q.1 ≠ p) := fun q hq => by
    obtain ⟨j, hj⟩ := List.mem_iff_getElem?.mp hq
    rw [List.getElem?_set] at hj
    by_cases c : i = j
    · rw [if_pos c, if_pos hi] at hj
      cases hj
      exact .inl rfl
    · rw [if_neg c] at hj
      exact .inr ⟨List.mem_of_getElem? hj, fun z => (h.ne i j c e (q := q.1) (u := q.2) hj) z.symm⟩
  refine ⟨by rw [em]; exact h.nd, fun q hq => ?_, fun b w n hb => ?_, fun q hq => ?_, fun b hb => by rw [em]; exact h.sl b hb⟩
  · rcases mem q hq with rfl | ⟨hq, n⟩
    · exact hp
    · exact off _ _ n (h.all q hq)
  · refine off b w (fun z => ?_) (h.fr b w n hb)
    subst z
    rcases h.nw _ (List.mem_of_getElem? e) with z | z
    · exact n z
    · rw [hb] at z; cases z
  · rcases mem q hq with rfl | ⟨hq, _⟩
    · exact h.nw (p, o) (List.mem_of_getElem? e)
    · exact h.nw q hq
/-- what is at the i-th address is changed, and something is new -/
theorem Lv.stn {v : HO} {r : Addr} (h : Lv H0 S H l) (i : Nat) (e : l[i]? = some (p, o)) (hp : H' p = some u) (off : ∀ b w, b ≠ p → H b = some w → H' b = some w) (np : H r = none) (hr : H' r = some v) : Lv H0 S H' ((r, v) :: l.set i (p, u)) :=
  (h.st' i e hp off).cons hr (by rw [set_fst e]; exact h.new np) (h.free np)
theorem Lv.pick (h : Lv H0 S H l) {l' : List (Addr × HO)} (nd : (l'.map (·.1)).Nodup) (sub : ∀ q ∈ l', q ∈ l) (sl : ∀ b ∈ S, b ∈ l'.map (·.1)) : Lv H0 S H l' :=
  ⟨nd, fun q hq => h.all q (sub q hq), h.fr, fun q hq => h.nw q (sub q hq), sl⟩
theorem Lv.pick1 (h : Lv H0 [p] H l) (j : Nat) (ej : l[j]? = some (p, o)) : Lv H0 [p] H [(p, o)] :=
  h.pick (by simp) (fun q hq => by rw [List.mem_singleton.mp hq]; exact List.mem_of_getElem? ej) fun b hb => by rw [List.mem_singleton.mp hb]; simp
theorem Lv.pick2 (h : Lv H0 [p] H l) (i j : Nat) (ne : i ≠ j) (ei : l[i]? = some (q, u)) (ej : l[j]? = some (p, o)) : Lv H0 [p] H [(q, u), (p, o)] :=
  h.pick (by simpa using h.ne i j ne ei ej) (fun q hq => by
    cases hq with
    | head => exact List.mem_of_getElem? ei
    | tail _ hq => rw [List.mem_singleton.mp hq]; exact List.mem_of_getElem? ej) fun b hb => by rw [List.mem_singleton.mp hb]; simp
theorem Lv.pick3 {r : Addr} {v : HO} (h : Lv H0 [p] H l) (i k j : Nat) (n1 : i ≠ k) (n2 : i ≠ j) (n3 : k ≠ j) (ei : l[i]? = some (q, u)) (ek : l[k]? = some (r, v)) (ej : l[j]? = some (p, o)) : Lv H0 [p] H [(q, u), (r, v), (p, o)] :=
  h.pick (by simpa using ⟨⟨h.ne i k n1 ei ek, h.ne i j n2 ei ej⟩, h.ne k j n3 ek ej⟩) (fun q hq => by
    cases hq with
    | head => exact List.mem_of_getElem? ei
    | tail _ hq =>
      cases hq with
      | head => exact List.mem_of_getElem? ek
      | tail _ hq => rw [List.mem_singleton.mp hq]; exact List.mem_of_getElem? ej) fun b hb => by rw [List.mem_singleton.mp hb]; simp
def getAll {α : Type} (l : List α) : List Nat → Option (List α)
  | [] => some []
  | i :: is => match l[i]?, getAll l is with
    | some x, some xs => some (x :: xs)
    | _, _ => none
theorem getAll_mem {α : Type} {l : List α} : ∀ {is : List Nat} {l' : List α}, getAll l is = some l' → ∀ x ∈ l', ∃ i ∈ is, l[i]? = some x
  | [], l', e, x, hx => by cases e; cases hx
  | i :: is, l', e, x, hx => by
    unfold getAll at e
    cases e1 : l[i]? with
    | none => rw [e1] at e; cases e
    | some y =>
      cases e2 : getAll l is with
      | none => rw [e1, e2] at e; cases e
      | some ys =>
        rw [e1, e2] at e
        cases e
        cases hx with
        | head => exact ⟨i, List.mem_cons_self, e1⟩
        | tail _ hx =>
          obtain ⟨j, hj, h⟩ := getAll_mem e2 x hx
          exact ⟨j, List.mem_cons_of_mem _ hj, h⟩
/-- some of what stands -/
theorem Lv.picks (h : Lv H0 S H l) (is : List Nat) {l' : List (Addr × HO)} (e : getAll l is = some l') (nd : is.Nodup) (sl : ∀ b ∈ S, b ∈ l'.map (·.1)) : Lv H0 S H l' := by
  refine h.pick ?_ (fun q hq => ?_) sl
  · clear sl
    induction is generalizing l' with
    | nil => cases e; exact List.nodup_nil
    | cons i is ih =>
      unfold getAll at e
      cases e1 : l[i]? with
      | none => rw [e1] at e; cases e
      | some y =>
        cases e2 : getAll l is with
        | none => rw [e1, e2] at e; cases e
        | some ys =>
          rw [e1, e2] at e
          cases e
          refine List.nodup_cons.mpr ⟨fun z => ?_, ih e2 (List.nodup_cons.mp nd).2⟩
          obtain ⟨q, hq, eq⟩ := List.mem_map.mp z
          obtain ⟨j, hj, ej⟩ := getAll_mem e2 q hq
          exact h.ne i j (fun z => (List.nodup_cons.mp nd).1 (z ▸ hj)) (p := y.1) (o := y.2) (q := q.1) (u := q.2) e1 ej eq.symm
  · obtain ⟨i, _, ei⟩ := getAll_mem e q hq
    exact List.mem_of_getElem? ei
theorem Lv.fresh (h : Lv H0 S H l) (i : Nat) (e : l[i]? = some (p, o)) (n : p ∉ S) : H0 p = none := (h.nw _ (List.mem_of_getElem? e)).resolve_left n
theorem Lv.alE (h : Lv H0 S H l) (np : H p = none) (e : upd H p o = H') : Lv H0 S H' ((p, o) :: l) := e ▸ h.al np
theorem Lv.stE (h : Lv H0 S H l) (i : Nat) (e : l[i]? = some (p, o)) (f : upd H p u = H') : Lv H0 S H' (l.set i (p, u)) := by
  subst f
  exact h.st' i e upd_same fun b w n hb => by rw [upd_ne n]; exact hb
theorem sameE (np : H p = none) (e : upd H p o = H') : Same H H' := e ▸ same_new np
theorem sameN {H1 : Hp} (s : Same H1 H) (np : H1 p = none) (e : upd H p o = H') : Same H1 H' := e ▸ same_upd s np
theorem kv_str (p : Str) : V.str p = kV (.inr p) := rfl
theorem kv_int (i : Int) : V.int i = kV (.inl i) := rfl
/-- all but p -/
theorem Lv.off (h : Lv H0 [p] H l) : ∀ b o, b ≠ p → H0 b = some o → H b = some o := fun b o n hb => h.fr b o (fun z => n (List.mem_singleton.mp z)) hb
theorem Lv.sm (h : Lv H0 [] H l) : Same H0 H := fun b o hb => h.fr b o (fun z => nomatch z) hb
theorem Lv.tl (h : Lv H0 S H ((p, o) :: l)) (n : p ∉ S) : Lv H0 S H l :=
  ⟨(List.nodup_cons.mp h.nd).2, fun q hq => h.all q (List.mem_cons_of_mem _ hq), h.fr, fun q hq => h.nw q (List.mem_cons_of_mem _ hq), fun b hb => by
    have := h.sl b hb
    rw [List.map_cons] at this
    cases this with
    | head => exact absurd hb n
    | tail _ z => exact z⟩
/-- what is told in another way -/
theorem Lv.re {l' : List (Addr × HO)} (h : Lv H0 S H l) (e : l = l') : Lv H0 S H l' := e ▸ h
/-- what stands apart from S -/
theorem Lv.sqL {K : PySem.W.Frag} {xs : List V} (h : Lv H0 S H l) (n : p ∉ S) : SqL K H0 p xs → SqL K H p xs := fun x => x.imp (fun r => r.imp (h.fr _ _ n) fun ⟨o, r⟩ => ⟨o, h.fr _ _ n r⟩) id
theorem Lv.sqT {K : PySem.W.Frag} {xs : List V} (h : Lv H0 S H l) (n : p ∉ S) : SqT K H0 p xs → SqT K H p xs := fun x => x.imp (fun r => r.imp (h.fr _ _ n) fun ⟨o, r⟩ => ⟨o, h.fr _ _ n r⟩) id
theorem Lv.sqS {K : PySem.W.Frag} {xs : List V} (h : Lv H0 S H l) (n : p ∉ S) : SqS K H0 p xs → SqS K H p xs := fun x => x.imp (h.sqL n) (h.sqT n)
/-- a frame within a frame -/
theorem Lv.sub {H1 : Hp} {T : List Addr} {m : List (Addr × HO)} (h : Lv H0 S H l) (k : Lv H T H1 m) (ts : ∀ b ∈ T, b ∈ S ∨ H0 b = none) (hs : ∀ b ∈ S, b ∈ m.map (·.1)) (hm : ∀ p ∈ m, p.1 ∈ S ∨ H0 p.1 = none) : Lv H0 S H1 m :=
  ⟨k.nd, k.all, fun b o n hb => k.fr b o (fun z => by
    rcases ts b z with z | z
    · exact n z
    · rw [hb] at z; cases z) (h.fr b o n hb), hm, hs⟩
end
/-- tuples never change -/
def KeepT (H H' : Hp) : Prop := ∀ b xs, H b = some (.tup xs) → H' b = some (.tup xs)
theorem KeepT.refl (H : Hp) : KeepT H H := fun _ _ h => h
theorem KeepT.trans {H H1 H2 : Hp} (a : KeepT H H1) (b : KeepT H1 H2) : KeepT H H2 := fun c xs h => b c xs (a c xs h)
theorem KeepT.same {H H' : Hp} (s : Same H H') : KeepT H H' := fun b xs h => s b _ h
theorem KeepT.off {H H' : Hp} {p : Addr} {o : HO} (h : H p = some o) (n : ∀ xs, o ≠ .tup xs) (s : ∀ b o, b ≠ p → H b = some o → H' b = some o) : KeepT H H' := fun b xs hb => by
  refine s b _ (fun z => ?_) hb
  rw [z, h] at hb
  exact n xs (Option.some.inj hb)
theorem KeepT.st {H H' : Hp} {p : Addr} {xs : List V} {o : HO} (h : H p = some (.lst xs)) (e : upd H p o = H') : KeepT H H' := e ▸ KeepT.off h (fun _ z => nomatch z) fun b o n hb => by rw [upd_ne n]; exact hb
/-- rows of couples of ints, each a tuple -/
abbrev PairsT (H : Hp) : List V → List (Nat × Nat) → Prop := Paired fun x p => ∃ a, x = .ref a ∧ H a = some (.tup [.int (p.1 : Nat), .int (p.2 : Nat)])
theorem PairsT.keep {H H' : Hp} (k : KeepT H H') : ∀ {xs : List V} {ps : List (Nat × Nat)}, PairsT H xs ps → PairsT H' xs ps
  | _, _, .nil => .nil
  | _, _, .cons ⟨a, e, h⟩ t => .cons ⟨a, e, k _ _ h⟩ (PairsT.keep k t)
/-- rows of couples of texts, each a tuple -/
abbrev TiesT (H : Hp) : List V → List (Str × Str) → Prop := Paired fun x p => ∃ a, x = .ref a ∧ H a = some (.tup [.str p.1, .str p.2])
theorem TiesT.keep {H H' : Hp} (k : KeepT H H') : ∀ {xs : List V} {ps : List (Str × Str)}, TiesT H xs ps → TiesT H' xs ps
  | _, _, .nil => .nil
  | _, _, .cons ⟨a, e, h⟩ t => .cons ⟨a, e, k _ _ h⟩ (TiesT.keep k t)
theorem paired_app {α β : Type} {R : α → β → Prop} : ∀ {xs ys : List α} {ps qs : List β}, Paired R xs ps → Paired R ys qs → Paired R (xs ++ ys) (ps ++ qs)
  | _, _, _, _, .nil, h => h
  | _, _, _, _, .cons a t, h => .cons a (paired_app t h)
theorem paired_at {α β : Type} {R : α → β → Prop} : ∀ {xs : List α} {ps : List β}, Paired R xs ps → ∀ {i : Nat} {x : α}, xs[i]? = some x → ∃ p, ps[i]? = some p ∧ R x p
  | _, _, .cons a _, 0, x, e => by cases e; exact ⟨_, rfl, a⟩
  | _, _, .cons _ t, i + 1, x, e => paired_at t (i := i) e
theorem paired_mem {α β : Type} {R : α → β → Prop} : ∀ {xs : List α} {ps : List β}, Paired R xs ps → ∀ p ∈ ps, ∃ x ∈ xs, R x p
  | _, _, .cons a t, p, h => by
    cases h with
    | head => exact ⟨_, List.mem_cons_self, a⟩
    | tail _ h =>
      obtain ⟨x, hx, r⟩ := paired_mem t p h
      exact ⟨x, List.mem_cons_of_mem _ hx, r⟩
theorem paired_len {α β : Type} {R : α → β → Prop} : ∀ {xs : List α} {ps : List β}, Paired R xs ps → xs.length = ps.length
  | _, _, .nil => rfl
  | _, _, .cons _ t => congrArg (· + 1) (paired_len t)
def pairI (p : Nat × Nat) : PyData := .tuple [.int (p.1 : Nat), .int (p.2 : Nat)]
theorem PairsT.dp {K : PySem.W.Frag} {H : Hp} : ∀ {xs : List V} {ps : List (Nat × Nat)}, PairsT H xs ps → DpAll K H xs (ps.map pairI)
  | _, _, .nil => .nil
  | _, _, .cons ⟨a, e, h⟩ t => .cons (by subst e; exact .tup (SqT.of h) (.cons (.int _) (.cons (.int _) .nil))) (PairsT.dp t)
theorem eqv_pairI (p q : Nat × Nat) : PyData.eqv (pairI p) (pairI q) = decide (p = q) := by
  obtain ⟨a, b⟩ := p
  obtain ⟨c, d⟩ := q
  show PyData.eqvAll [.int (a : Nat), .int (b : Nat)] [.int (c : Nat), .int (d : Nat)] = _
  simp only [PyData.eqvAll, PyData.eqv, Bool.and_true]
  rw [Bool.eq_iff_iff, decide_eq_true_eq, Bool.and_eq_true, beq_iff_eq, beq_iff_eq]
  constructor
  · rintro ⟨h1, h2⟩
    rw [Int.ofNat_inj.mp h1, Int.ofNat_inj.mp h2]
  · intro h
    cases h
    exact ⟨rfl, rfl⟩
theorem any_pairI (ps : List (Nat × Nat)) (q : Nat × Nat) : ((ps.map pairI).any fun z => PyData.eqv z (pairI q)) = decide (q ∈ ps) := by
  rw [Bool.eq_iff_iff, decide_eq_true_eq, List.any_map, List.any_eq_true]
  constructor
  · rintro ⟨y, hy, e⟩
    have e : decide (y = q) = true := (eqv_pairI y q) ▸ e
    exact (of_decide_eq_true e) ▸ hy
  · exact fun h => ⟨q, h, by show PyData.eqv (pairI q) (pairI q) = true; rw [eqv_pairI]; exact decide_eq_true rfl⟩
theorem shaped_pairs (ps : List (Nat × Nat)) : SeqAt.shaped (.list (ps.map pairI)) = true := by
  have h1 : PyData.canLayAll0 (ps.map pairI) = true := by
    induction ps with
    | nil => rfl
    | cons p ps ih => rw [List.map_cons, PyData.canLayAll0, ih]; rfl
  have h2 : PyData.depthAll (ps.map pairI) ≤ 5 := by
    induction ps with
    | nil => simp [PyData.depthAll]
    | cons p ps ih => rw [List.map_cons, PyData.depthAll]; exact Nat.max_le.mpr ⟨by simp [pairI, PyData.depth, PyData.depthAll], ih (by rw [List.map_cons, PyData.canLayAll0] at h1; exact (Bool.and_eq_true_iff.mp h1).2)⟩
  unfold SeqAt.shaped
  rw [PyData.canLay0, h1, Bool.true_and]
  refine decide_eq_true ?_
  rw [PyData.depth]
  omega
theorem shaped_pair (q : Nat × Nat) : SeqAt.shaped (pairI q) = true := by simp [pairI, SeqAt.shaped, PyData.canLay0, PyData.canLayAll0, PyData.depth, PyData.depthAll]
/-- all but instances stands on -/
def SameD (H H' : Hp) : Prop := ∀ b o, H b = some o → (∀ C dx fs, o ≠ .ins C dx fs) → H' b = some o
theorem SameD.of {H H' : Hp} (s : Same H H') : SameD H H' := fun b o e _ => s b o e
theorem SameD.trans {H H1 H2 : Hp} (s : SameD H H1) (t : SameD H1 H2) : SameD H H2 := fun b o e n => t b o (s b o e n) n
theorem SameD.store {H : Hp} {x C dx : Addr} {fs : List (Str × V)} {o : HO} (h : H x = some (.ins C dx fs)) : SameD H (upd H x o) := fun b u e n => by
  rw [upd_ne (fun z => by rw [z, h] at e; cases e; exact n _ _ _ rfl)]
  exact e
theorem SameD.storeE {H H' : Hp} {x C dx : Addr} {fs : List (Str × V)} {o : HO} (h : H x = some (.ins C dx fs)) (e : upd H x o = H') : SameD H H' := e ▸ .store h
theorem free_of {H H' : Hp} {p : Addr} (s : Same H H') (np : H' p = none) : H p = none := by
  cases q : H p with
  | none => rfl
  | some o => rw [s p o q] at np; cases np
end Ct

set_option Elab.async false
set_option linter.all false
set_option maxRecDepth 100000
set_option maxHeartbeats 2000000
/-! Own kit T: a list against [], places as bits of a number. -/
namespace Ct
open PySem PySem.Spec PyProof.Rows L2
section
variable {X : Cx}
/-- xs == [], the list on the right just laid (or any empty list) -/
def rEqNil (K : PySem.W.Frag) (neg : Bool) : R2 := fun x y H Q => ∃ (a b : Addr) (xs : List V), x = .ref a ∧ y = .ref b ∧ SqL K H a xs ∧ SqL K H b [] ∧ Q (.bl (if neg then !xs.isEmpty else xs.isEmpty)) H
theorem op_eqNil (hu : X.A.units + 64 < cLine) : OpR X (compareOp .Eq) (rEqNil X.K false) := by
  intro pins s σ H x y v u Q I rx ry h
  obtain ⟨a, b, xs, rfl, rfl, hx, hy, q⟩ := h
  cases rx; cases ry
  obtain ⟨its, r, ht, hz⟩ := I.list hx
  obtain ⟨its2, r2, ht2, hz2⟩ := I.list hy
  cases r2
  have hl := r.length
  have room : X.A.units < cLine := by omega
  cases xs with
  | nil =>
    cases r
    exact SeqAt.RcAt.lists (e := fun _ => true) ht.isList ht2.isList rfl room (fun j j1 _ => absurd j1 (Nat.not_lt_zero _)) X.prog X.w X.xe _ ⟨.bl true, H, I, rfl, q⟩
  | cons z xs =>
    refine SeqAt.RcAt.lists_lengths ht.isList ht2.isList ?_ room X.prog X.w X.xe _ ⟨.bl false, H, I, rfl, q⟩
    rw [List.size_toArray, ← hl]
    rfl
theorem op_neNil (hu : X.A.units + 64 < cLine) : OpR X (compareOp .NotEq) (rEqNil X.K true) := by
  intro pins s σ H x y v u Q I rx ry h
  obtain ⟨a, b, xs, rfl, rfl, hx, hy, q⟩ := h
  cases rx; cases ry
  obtain ⟨its, r, ht, hz⟩ := I.list hx
  obtain ⟨its2, r2, ht2, hz2⟩ := I.list hy
  cases r2
  have hl := r.length
  have room : X.A.units < cLine := by omega
  cases xs with
  | nil =>
    cases r
    exact SeqAt.RcNeAt.lists (e := fun _ => true) ht.isList ht2.isList rfl room (fun j j1 _ => absurd j1 (Nat.not_lt_zero _)) X.prog X.w X.xe _ ⟨.bl false, H, I, rfl, q⟩
  | cons z xs =>
    refine SeqAt.RcNeAt.lists_lengths ht.isList ht2.isList ?_ room X.prog X.w X.xe _ ⟨.bl true, H, I, rfl, q⟩
    rw [List.size_toArray, ← hl]
    rfl
end
end Ct
namespace Ct
open PySem PySem.Spec PyProof.Rows L2
theorem op_inDk {X : Cx} {K : PySem.W.Frag} (hK : X.K = K) (hu : X.A.units + 65 < cLine) : OpR X (compareOp .In) (rInD K) := hK ▸ op_inD hu
theorem op_notInDk {X : Cx} {K : PySem.W.Frag} (hK : X.K = K) (hu : X.A.units + 65 < cLine) : OpR X (compareOp .NotIn) (rNotInD K) := hK ▸ op_notInD hu
end Ct
namespace Ct
open PySem PySem.Spec PyProof.Rows L2
theorem bitOr_nat (a b : Nat) : Builtin.bitOr (a : Int) (b : Int) = ((a ||| b : Nat) : Int) := by
  have n1 : ∀ a : Nat, ¬ (0 : Int) ≤ -(a : Int) - 1 := fun a => by omega
  have n2 : ∀ a : Nat, (-(-(a : Int) - 1) - 1).toNat = a := fun a => by omega
  unfold Builtin.bitOr Builtin.bitAnd Builtin.bitNot
  rw [decide_eq_false (n1 a), decide_eq_false (n1 b)]
  dsimp only
  rw [n2, n2]
  omega
theorem bitAnd_nat (a b : Nat) : Builtin.bitAnd (a : Int) (b : Int) = ((a &&& b : Nat) : Int) := by
  unfold Builtin.bitAnd
  rw [decide_eq_true (Int.natCast_nonneg a), decide_eq_true (Int.natCast_nonneg b)]
  rfl
section
variable {X : Cx}
def rNat (g : Nat → Nat → V) : R2 := fun x y H Q => ∃ a b : Nat, x = .int (a : Nat) ∧ y = .int (b : Nat) ∧ Q (g a b) H
/-- n >> k, n & m, n | m, n |= m, 1 << k for numbers from 0 on -/
theorem op_shrB : OpR X (binaryOp .RShift) (rNat fun a b => .int ((a / 2 ^ b : Nat))) := by
  intro pins s σ H x y v u Q I rx ry h
  obtain ⟨a, b, rfl, rfl, q⟩ := h
  refine op_shrN pins s σ H _ _ v u Q I rx ry ⟨a, b, rfl, rfl, ?_⟩
  rw [show (a : Int) / 2 ^ b = ((a / 2 ^ b : Nat) : Int) by rw [Int.natCast_ediv, Int.natCast_pow]; rfl]
  exact q
theorem op_andB : OpR X (binaryOp .BitAnd) (rNat fun a b => .int ((a &&& b : Nat))) := by
  intro pins s σ H x y v u Q I rx ry h
  obtain ⟨a, b, rfl, rfl, q⟩ := h
  exact op_and pins s σ H _ _ v u Q I rx ry ⟨a, b, rfl, rfl, by dsimp only; rw [bitAnd_nat]; exact q⟩
theorem op_orB : OpR X (binaryOp .BitOr) (rNat fun a b => .int ((a ||| b : Nat))) := by
  intro pins s σ H x y v u Q I rx ry h
  obtain ⟨a, b, rfl, rfl, q⟩ := h
  exact op_or pins s σ H _ _ v u Q I rx ry ⟨a, b, rfl, rfl, by dsimp only; rw [bitOr_nat]; exact q⟩
theorem iop_orB : OpR X (inplaceOp .BitOr) (rNat fun a b => .int ((a ||| b : Nat))) := by
  intro pins s σ H x y v u Q I rx ry h
  obtain ⟨a, b, rfl, rfl, q⟩ := h
  exact iop_or pins s σ H _ _ v u Q I rx ry ⟨a, b, rfl, rfl, by dsimp only; rw [bitOr_nat]; exact q⟩
theorem op_shlB : OpR X (binaryOp .LShift) (fun x y H Q => ∃ b : Nat, x = .int 1 ∧ y = .int (b : Nat) ∧ b ≤ 1000 ∧ Q (.int ((2 ^ b : Nat))) H) := by
  intro pins s σ H x y v u Q I rx ry h
  obtain ⟨b, rfl, rfl, hb, q⟩ := h
  refine op_oneShl pins s σ H _ _ v u Q I rx ry ⟨b, rfl, rfl, by omega, ?_⟩
  rw [show (2 : Int) ^ b = ((2 ^ b : Nat) : Int) by rw [Int.natCast_pow]; rfl]
  exact q
end
/-- the positions of a number's bits -/
def bitsL (N : Nat) : List Nat := (List.range (Builtin.Int.intBits (N : Int))).filter N.testBit
theorem bitsL_of {N n : Nat} (h : N < 2 ^ n) : bitsL N = (List.range n).filter N.testBit := by
  have h1 : Builtin.Int.intBits (N : Int) ≤ n := intBits_le_iff.mpr (by simpa using h)
  have h2 : N < 2 ^ Builtin.Int.intBits (N : Int) := by
    have := intBits_le_iff (m := Builtin.Int.intBits (N : Int)) (x := (N : Int))
    simpa using this.mp (Nat.le_refl _)
  unfold bitsL
  obtain ⟨d, rfl⟩ := Nat.le.dest h1
  rw [List.range_add, List.filter_append]
  have e : (List.map (fun x => Builtin.Int.intBits (N : Int) + x) (List.range d)).filter N.testBit = [] := by
    refine List.filter_eq_nil_iff.mpr fun i hi => ?_
    obtain ⟨j, _, rfl⟩ := List.mem_map.mp hi
    rw [Nat.testBit_lt_two_pow (Nat.lt_of_lt_of_le h2 (Nat.pow_le_pow_right (by decide) (Nat.le_add_right _ _)))]
    decide
  rw [e, List.append_nil]
theorem odd_test (N k : Nat) : ((N / 2 ^ k) % 2 = 1) ↔ N.testBit k = true := by
  rw [Nat.testBit_eq_decide_div_mod_eq, decide_eq_true_eq]
end Ct
namespace Ct
open PySem PySem.Spec PyProof.Rows L2
theorem ix_tupk {X : Cx} {K : PySem.W.Frag} (hK : X.K = K) : IxR X (rIxT K) := hK ▸ ix_tup
theorem ix_listk {X : Cx} {K : PySem.W.Frag} (hK : X.K = K) : IxR X (rIxL K) := hK ▸ ix_list
/-- numbers as values -/
abbrev natV (n : Nat) : V := .int (n : Nat)
end Ct
namespace Ct
open PySem PySem.Spec PyProof.Rows L2
def tTru (K : PySem.W.Frag) (ta : TE) : TT := fun σ H Q => ta σ H fun x H' => ∃ k, TruV K x H' k ∧ Q k H'
/-- a value's truth, the written part named -/
theorem pt_truthk {X : Cx} {K : PySem.W.Frag} {a : Expr} {ta : TE} (hK : X.K = K) (ha : PE X a ta) (he : ∀ whole, isTrue a X.env whole = (do let v ← whole; standAt a.pos; holding [v] (truthy v))) :
    PT X a (tTru K ta) := hK ▸ pt_truth ha he
end Ct
namespace Ct
open PySem PySem.Spec PyProof.Rows L2
section
variable {X : Cx} {K : PySem.W.Frag}
theorem pe_fldk {e : Expr} {f : Str} {pos : Pos} {ta : TE} (hK : X.K = K) (he : PE X e ta) (hb : attributeBase e f X.env (eval e X.env) = eval e X.env) : PE X (.Attribute e f pos) (tFld K ta f) := hK ▸ pe_fld he hb
theorem op_eqNilk (hK : X.K = K) (hu : X.A.units + 64 < cLine) : OpR X (compareOp .Eq) (rEqNil K false) := hK ▸ op_eqNil hu
theorem op_neNilk (hK : X.K = K) (hu : X.A.units + 64 < cLine) : OpR X (compareOp .NotEq) (rEqNil K true) := hK ▸ op_neNil hu
def rLen (K : PySem.W.Frag) : List V → Hp → VK → Prop := fun xs H Q => ∃ x n, xs = [x] ∧ LenV K x H n ∧ Q (.int n) H
theorem call_lenk (hK : X.K = K) : CallR X (.builtin "len") (rLen K) := hK ▸ call_len
theorem sl_listk (hK : X.K = K) : SlR X (rSlL K) := hK ▸ sl_list
end
end Ct
namespace Ct
open PySem PySem.Spec PyProof.Rows L2
/-- the number with just the bits below n that pass -/
def maskOf (f : Nat → Bool) : Nat → Nat
  | 0 => 0
  | n + 1 => maskOf f n ||| (if f n then 2 ^ n else 0)
theorem test_mask (f : Nat → Bool) (i : Nat) : ∀ n, (maskOf f n).testBit i = (decide (i < n) && f i)
  | 0 => by simp [maskOf]
  | n + 1 => by
    rw [maskOf, Nat.testBit_or, test_mask f i n]
    by_cases e : i = n
    · subst e
      cases h : f i <;> simp [h, Nat.testBit_two_pow]
    · have : (if f n = true then 2 ^ n else 0).testBit i = false := by
        split
        · rw [Nat.testBit_two_pow]
          exact decide_eq_false fun z => e z.symm
        · simp
      rw [this, Bool.or_false]
      congr 1
      rw [Bool.eq_iff_iff, decide_eq_true_eq, decide_eq_true_eq]
      omega
theorem mask_lt (f : Nat → Bool) (n : Nat) : maskOf f n < 2 ^ n := Nat.lt_pow_two_of_testBit _ fun i hi => by
  rw [test_mask, decide_eq_false (by omega), Bool.false_and]
theorem mask_congr {f g : Nat → Bool} {n : Nat} (h : ∀ i, i < n → f i = g i) : maskOf f n = maskOf g n := Nat.eq_of_testBit_eq fun i => by
  rw [test_mask, test_mask]
  by_cases c : i < n
  · rw [h i c]
  · rw [decide_eq_false c]; rfl
/-- a dict from names to numbers -/
def DN (kvs : List (Key × V)) (ns : List Str) (f : Str → Nat) (B : Nat) : Prop := kvs.length ≤ B ∧ ∀ p ∈ ns, valV kvs (.inr p) = some (natV (f p))
theorem DN.snoc {kvs : List (Key × V)} {ns : List Str} {f : Str → Nat} {B : Nat} {p : Str} {v : Nat} (h : DN kvs ns f B) (e : f p = v) : DN (putK kvs (.inr p) (natV v)) (ns ++ [p]) f (B + 1) := by
  refine ⟨Nat.le_trans (length_putK kvs _ _) (Nat.succ_le_succ h.1), fun q hq => ?_⟩
  rw [valV_put]
  by_cases c : q = p
  · rw [if_pos (by rw [c]), c, e]
  · rw [if_neg (fun z => c (Sum.inr.inj z))]
    rcases List.mem_append.mp hq with z | z
    · exact h.2 q z
    · exact absurd (List.mem_singleton.mp z) c
theorem DN.upd {kvs : List (Key × V)} {ns : List Str} {f g : Str → Nat} {B v : Nat} {p : Str} (h : DN kvs ns f B) (ev : g p = v) (e : ∀ q ∈ ns, q ≠ p → g q = f q) : DN (putK kvs (.inr p) (natV v)) ns g (B + 1) := by
  subst ev
  refine ⟨Nat.le_trans (length_putK kvs _ _) (Nat.succ_le_succ h.1), fun q hq => ?_⟩
  rw [valV_put]
  by_cases c : q = p
  · rw [if_pos (by rw [c]), c]
  · rw [if_neg (fun z => c (Sum.inr.inj z)), h.2 q hq, e q hq c]
theorem dgetN {H : Hp} {a : Addr} {kvs : List (Key × V)} {p : Str} {v : V} (h : H a = some (.dK kvs)) (e : valV kvs (.inr p) = some v) : DGet H a (.str p) (some v) := e ▸ DGet.k (k := Sum.inr p) h
theorem dputN {H : Hp} {a : Addr} {kvs : List (Key × V)} {p : Str} {v : V} (h : H a = some (.dK kvs)) (l : kvs.length < sizeLine) : DPut H a (.str p) v (upd H a (.dK (putK kvs (.inr p) v))) := DPut.k (k := Sum.inr p) h l
end Ct
namespace Ct
open PySem PySem.Spec PyProof.Rows L2
theorem in_orB {X : Cx} : InOp X .BitOr (rNat fun a b => .int ((a ||| b : Nat))) := fun pins s σ H x y u v Q I rx ry h => iop_orB pins s σ H x y u v Q I rx ry h
theorem pg_tupk {X : Cx} {K : PySem.W.Frag} {pos : Pos} {es : List Expr} {k : Nat} {t : TGs} {n : Nat} (hK : X.K = K) (hc : X.calm = true) (h : PGs X es t) (hn : (assignEach es X.env).length = n := by rfl) (hst : (assignEach es X.env).findIdx? (·.1) = none := by rfl) : PG X (.Tuple es k pos) (gTup K n t) := hK ▸ pg_tup hc h hn hst
end Ct
namespace Ct
open PySem PySem.Spec PyProof.Rows L2
theorem str_at {ns : List Str} {i : Nat} {x : V} (h : (ns.map V.str)[i]? = some x) : ∃ p, ns[i]? = some p ∧ x = .str p := by
  rw [List.getElem?_map] at h
  cases e : ns[i]? with
  | none => rw [e] at h; cases h
  | some p => rw [e] at h; exact ⟨p, rfl, (Option.some.inj h).symm⟩
theorem take_next2 {α : Type} {l : List α} {i : Nat} {x : α} (h : l[i]? = some x) : l.take (i + 1) = l.take i ++ [x] := by rw [List.take_succ, h]; rfl
end Ct
namespace Ct
open PySem PySem.Spec PyProof.Rows L2
theorem walk_zipT {K : PySem.W.Frag} {a b : Addr} {xs ys : List V} {n : Nat} (hn : n = min xs.length ys.length) : Walk (RZ.ItzT K a b) n (fun H => SqT K H a xs ∧ SqT K H b ys) (YPair (fun i => xs[i]?) (fun i => ys[i]?)) := by
  subst hn
  refine ⟨fun i _ hi q => ?_, fun _ q => ⟨xs, ys, q.1, q.2, by omega⟩, fun i H v H' _ q y => ?_⟩
  · have h1 : i < xs.length := by omega
    have h2 : i < ys.length := by omega
    exact ⟨xs, ys, xs[i], ys[i], q.1, q.2, by simp [h1], by simp [h2]⟩
  · obtain ⟨T, x, z, h1, h2, h3, h4, h5⟩ := y
    exact ⟨T, x, z, h1, h2, h3, h4 xs q.1, h5 ys q.2⟩
end Ct
namespace Ct
open PySem
theorem filter_one (f : Str → Bool) (q : Str) : [q].filter f = if f q = true then [q] else [] := by
  cases e : f q <;> simp [List.filter, e]
end Ct
namespace Ct
open PySem PySem.Spec PyProof.Rows L2
section
variable {X : Cx} {CX : CXT} {k : Nat} {f C : Addr} {fd : FuncData} {ps : List Str} {sp : Sp} {dvs : List V} {ds : List Value} {E : L2.St → XK} {x : Str} {p pos : Pos} {e : Expr} {es : List Expr} {t : TA}
/-- C(..), its reading in other words -/
theorem pe_makeG {G : List V → Hp → VK → Prop} (M : Mk X.K C f) (F : FnOk X.prog X.w X.K X.mg X.base CX k f fd ps sp) (hr : Room (k + 1) X.A) (hg : Gl X x) (hm : X.mg x = some (.ref C)) (hb : Binds X.K fd ps ds) (hd : Vals dvs ds)
    (hG : ∀ (vs : List V) (H1 : Hp) (Q : VK) (σ : L2.St) (x dx : Addr), G vs H1 Q → H1 x = none → H1 dx = none → dx ≠ x → sp (.ref x :: (vs ++ dvs)) (upd (upd H1 dx (.own x)) x (.ins C dx [])) (fun v H2 => v = .non ∧ Q (.ref x) H2) (E σ))
    (hx : ∀ (pins : List (Addr × Obj)) (σ : L2.St) (H : Hp) (s : Shared) (e : Value) (s' : Shared), Inv X pins σ H s → CX X.stack H s (E σ) e s' → X.xe e s')
    (ha : PA X (e :: es) t) (hdb : (x == ("__debug__" : Str)) = false := by decide) (he : starEach (e :: es) X.env = (false, eval e X.env) :: starEach es X.env := by rfl) (hpl : (backTo pos (starEach es X.env)).any (·.1) = false := by rfl) :
    PE X (.Call (.Name x p) (e :: es) [] pos) (fun σ H Q => t σ H fun vs H1 => G vs H1 Q) := by
  refine ⟨fun pins s σ H Q I h => ?_⟩
  refine wpAny_Call_Name_kw (ld_glob I hg hm ?_ hdb)
  refine PySem.W.callWith_K (h₀ := X.base) I.ok.mod.kin M.kp (thn (ha.run pos pins s σ H _ I h) fun us s1 ⟨vs, H1, I1, r, q⟩ => ⟨I1.kIn, ?_⟩) he hpl
  have hq := hG vs H1 _ σ (s1.heap.objs.size + 1) s1.heap.objs.size q (I1.hok.fresh (Nat.le_succ _)) (I1.hok.fresh (Nat.le_refl _)) (Nat.ne_of_lt (Nat.lt_succ_self _))
  have I2 := Inv.made (C := C) I1
  have r2 : Vals (V.ref (s1.heap.objs.size + 1) :: (vs ++ dvs)) (Value.ref (s1.heap.objs.size + 1) :: (us ++ ds)) := .cons rfl (r.append hd)
  have hl : (Value.ref (s1.heap.objs.size + 1) :: us ++ ds).length = ps.length := by
    have e := r2.length
    rw [F.len _ _ _ _ hq] at e
    exact e.symm
  refine wpAny_call (make_map (f := f) I1.kIn M.makes M.init (beq_iff_eq.mp M.fn) (codeAny_mono (F.run _ X.stack _ _ ⟨Value.ref (s1.heap.objs.size + 1) :: us, []⟩ (Value.ref (s1.heap.objs.size + 1) :: (us ++ ds)) _ _ (E σ) (hr.make C us [])
    (I2.env0.make C us []) (hb _ (Value.ref (s1.heap.objs.size + 1) :: us) I2.kIn hl) r2 hq) fun r s' hq' => ?_))
  match r, hq' with
  | .error e, hq' => exact hx pins σ _ _ e s' I2 hq'
  | .ok .next, hq' => exact False.elim hq'
  | .ok .brk, hq' => exact False.elim hq'
  | .ok .cont, hq' => exact False.elim hq'
  | .ok (.ret u), hq' =>
    obtain ⟨v, H', I3, rv, ev, q3⟩ := I2.after hq'
    subst ev
    exact ⟨rv, ⟨V.ref (s1.heap.objs.size + 1), H', I3, rfl, q3⟩⟩
end
end Ct
namespace Ct
open PySem PySem.Spec PyProof.Rows L2
/-- t + u, told by what it is -/
def rCatT2 (K : PySem.W.Frag) : R2 := fun x y H Q => ∃ a b xs ys, x = .ref a ∧ y = .ref b ∧ SqT K H a xs ∧ SqT K H b ys ∧ xs.length + ys.length ≤ sizeLine ∧ ∀ t H', Same H H' → SqT K H' t (xs ++ ys) → Q (.ref t) H'
theorem op_catT2 {X : Cx} : OpR X (binaryOp .Add) (rCatT2 X.K) := by
  intro pins s σ H x y v u Q I rx ry h
  obtain ⟨a, b, xs, ys, rfl, rfl, ha, hb, hz, q⟩ := h
  refine op_catA pins s σ H _ _ v u Q I rx ry ⟨a, b, xs, ys, rfl, rfl, ha, hb, hz, fun e => ?_, fun _ e => ?_, fun _ _ p hp => ?_⟩
  · subst e
    exact q b H (Same.refl H) hb
  · subst e
    exact q a H (Same.refl H) (by rw [List.append_nil]; exact ha)
  · exact q p _ (same_new hp) (SqT.of upd_same)
end Ct

set_option linter.all false
/-! Where each def of this row stands. -/
namespace Pw
open PySem
def top (i : Nat) : Stmt := PySem.Challenge.pw_cornerturn_k01_webs_made_and_refused.main.body.getD i (.Pass ⟨0, 0, 0, 0⟩)
abbrev ix_wall : Nat := 0
abbrev ix_bits_of : Nat := 2
abbrev ix_WebError : Nat := 4
abbrev ix_BadPlaces : Nat := 5
abbrev mx_BadPlaces_init : Nat := 0
abbrev ix_BadTies : Nat := 6
abbrev mx_BadTies_init : Nat := 0
abbrev ix_BadTie : Nat := 7
abbrev mx_BadTie_init : Nat := 0
abbrev ix_NoPlace : Nat := 8
abbrev mx_NoPlace_init : Nat := 0
abbrev ix_is_name : Nat := 13
abbrev ix_is_place : Nat := 14
abbrev ix_check_place : Nat := 15
abbrev ix_all_differ : Nat := 16
abbrev ix_are_places : Nat := 17
abbrev ix_check_places : Nat := 18
abbrev ix_is_tie : Nat := 19
abbrev ix_pair : Nat := 20
abbrev ix_check_ties : Nat := 21
abbrev ix_sights : Nat := 22
abbrev ix_Web : Nat := 23
abbrev mx_Web_init : Nat := 0
abbrev mx_Web_eq : Nat := 1
abbrev mx_Web_places : Nat := 2
abbrev mx_Web_ties : Nat := 3
abbrev mx_Web_sees : Nat := 4
abbrev mx_Web_whole : Nat := 5
abbrev mx_Web_named : Nat := 6
abbrev mx_Web_sights : Nat := 7
abbrev mx_Web_kept : Nat := 8
abbrev mx_Web_keep : Nat := 9
abbrev mx_Web_parts : Nat := 10
abbrev mx_Web_part_of : Nat := 11
abbrev mx_Web_without : Nat := 12
abbrev mx_Web_tied : Nat := 13
abbrev ix_law_source : Nat := 25
abbrev ix_law_draw : Nat := 26
abbrev ix_law_pick : Nat := 27
abbrev ix_law_mixed : Nat := 28
abbrev ix_law_word : Nat := 29
abbrev ix_law_names : Nat := 30
abbrev ix_law_pairs : Nat := 31
abbrev ix_law_plan : Nat := 32
abbrev ix_law_is_name : Nat := 33
abbrev ix_law_is_tie : Nat := 34
abbrev ix_law_due : Nat := 35
abbrev ix_law_told : Nat := 36
abbrev ix_law_odd_name : Nat := 37
abbrev ix_law_put : Nat := 38
abbrev ix_law_bent : Nat := 39
abbrev ix_law_stands : Nat := 40
abbrev ix_law : Nat := 41
end Pw

set_option Elab.async false
set_option linter.all false
set_option maxRecDepth 100000
set_option maxHeartbeats 4000000
namespace Pw
open PySem PySem.Spec PyProof.Rows L2 Ct
/-- the built-ins that the text leaves as they are -/
structure Bn (mg : Str → Option Value) : Prop where
  z_int : mg "int" = none
  z_str : mg "str" = none
  z_bool : mg "bool" = none
  z_len : mg "len" = none
  z_range : mg "range" = none
  z_max : mg "max" = none
  z_min : mg "min" = none
  z_isinstance : mg "isinstance" = none
  z_list : mg "list" = none
  z_tuple : mg "tuple" = none
  z_set : mg "set" = none
  z_dict : mg "dict" = none
  z_repr : mg "repr" = none
  z_all : mg "all" = none
  z_any : mg "any" = none
  z_sorted : mg "sorted" = none
  z_enumerate : mg "enumerate" = none
  z_zip : mg "zip" = none
  z_sum : mg "sum" = none
  z_reversed : mg "reversed" = none
/-- the constants of webs -/
structure Mc (mg : Str → Option Value) : Prop where
  g_MOST_PLACES : ∃ t, mg "MOST_PLACES" = some (.int 12 t)
  g_MOST_LETTERS : ∃ t, mg "MOST_LETTERS" = some (.int 8 t)
  g_LETTERS : ∃ t, mg "LETTERS" = some (.str "abcdefghijklmnopqrstuvwxyz" t)
section
variable {X : Cx} {x : Str} {pos : Pos}
theorem pe_gi {i : Int} (hg : Gl X x) (h : ∃ t, X.mg x = some (.int i t)) (hd : (x == ("__debug__" : Str)) = false := by decide) : PE X (.Name x pos) (tC (.int i)) := by
  obtain ⟨t, h⟩ := h
  exact pe_glob hg h ⟨t, rfl⟩ hd
theorem pe_gs {z : Str} (hg : Gl X x) (h : ∃ t, X.mg x = some (.str z t)) (hd : (x == ("__debug__" : Str)) = false := by decide) : PE X (.Name x pos) (tC (.str z)) := by
  obtain ⟨t, h⟩ := h
  exact pe_glob hg h ⟨t, rfl⟩ hd
end
/-- the signs of names -/
abbrev LT : Str := "abcdefghijklmnopqrstuvwxyz"
def okSigns (x : Str) : Bool := x.cps.toList.all fun c => decide (c ∈ LT.cps.toList)
def okName (x : Str) : Bool := decide (1 ≤ x.length) && decide (x.length ≤ 8) && okSigns x
/-- is_name of any datum -/
def nameD : PyData → Bool
  | .str x => okName x
  | _ => false
def spIsName (K : PySem.W.Frag) : Sp := fun vs H Q _ => ∃ (v : V) (d : PyData), vs = [v] ∧ Dq K H v d ∧ (∀ x, d = .str x → x.length ≤ sizeLine) ∧ ∀ H', Same H H' → Q (.bl (nameD d)) H'
section
variable {P : Program} {w : World} {K : PySem.W.Frag} {mg : Str → Option Value} {base : Heap}
abbrev sIsName : Stmt := top ix_is_name
theorem scIsName : FnScope ["value", "sign"] ["value"] (defScope sIsName) := ⟨rfl, rfl, rfl, by decide +kernel, rfl, by decide +kernel, by decide +kernel⟩
theorem has_is_name (T : Bn mg) (M : Mc mg) (D : DFE K mg "is_name" sIsName ["value"]) : Has P w K mg base CX0 1 "is_name" ["value"] (spIsName K) := by
  refine has_of D scIsName (fun vs H Q E h => ?_) (fun f cdv A outer s H vs Q E hr h => ?_)
  · obtain ⟨v, d, rfl, _⟩ := h; rfl
  · obtain ⟨v, d, rfl, hd, hl, k⟩ := h
    have nd := scIsName.nd
    refine ⟨_, (pss_cons (ps_if (pt_not (pt_val (pe_callB call_isD (by rfl) T.z_isinstance (by decide +kernel) (pa_cons (pv 0) (pa_cons (pe_bltn (v := .ty "str") rfl T.z_str (by decide +kernel) rfl) pa_nil))))) (pss_one (ps_ret pe_bl)) pss_nil)
    (pss_one (ps_ret (pe_and (pe_chain op_le op_le pe_int (pe_callB call_len_str (by rfl) T.z_len (by decide +kernel) (pa_cons (pv 0) pa_nil)) (pe_gi rfl M.g_MOST_LETTERS)) (pe_one (pe_callB (cr_all rfl) (by rfl) T.z_all (by decide +kernel) (pa_cons (pe_lc (own := [("sign", 1)]) (g := gName 1) (tt := tYes) rfl nd (pi_str (pv 0)) (blkOk_by (own := [("sign", 1)]) (N := ["value", "sign"]) (sc := defScope sIsName) (by decide +kernel)) (fun _ _ _ _ _ => (pg_name (i := 1) nd rfl (by first | exact Or.inl rfl | exact Or.inr rfl))) (fun _ _ _ _ _ => pts_nil) (fun _ _ _ _ _ => (pe_cmpR op_in_sign (pv 1) (pe_gs rfl M.g_LETTERS) (by first | exact nomark _ | rfl)))) pa_nil))))))), ?_⟩
    refine ⟨_, rfl, _, d, "str", _, rfl, hd, kit_str d, _, rfl, ?_⟩
    cases d with
    | str x =>
      cases hd
      refine ⟨_, rfl, x, rfl, hl x rfl, ?_⟩
      refine ⟨_, _, rfl, rfl, _, rfl, ?_⟩
      have fin : ∀ (b : Bool), b = okName x → Q (.bl b) H := fun b e => by subst e; exact k H (Same.refl H)
      have len : ((x.length : Nat) : Int) = (x.cps.size : Nat) := rfl
      refine ite2 (fun c1 => ?_) (fun c1 => ?_)
      · have c1 := of_decide_eq_true c1
        refine ⟨_, _, rfl, rfl, _, rfl, ?_⟩
        refine ite2 (fun c2 => ?_) (fun c2 => ?_)
        · have c2 := of_decide_eq_true c2
          refine ⟨_, rfl, x, rfl, fun L nL => ?_⟩
          refine lc_it walk_str (fun i H' => Same H H' ∧ ∃ bs : List Bool, H' L = some (.lst (bs.map V.bl)) ∧ bs = (x.cps.toList.take i).map fun c => decide (c ∈ LT.cps.toList)) ⟨same_new nL, [], upd_same, rfl⟩ (fun _ _ _ _ => True.intro) ?_ ?_
          · rintro i z H1 H2 hi ⟨sm, bs, hL, hb⟩ ⟨rfl, c, hc, rfl⟩
            refine ⟨rfl, ⟨_, rfl, c, _, rfl, rfl, bs.map V.bl, hL, ?_, ?_⟩⟩
            · rw [List.length_map, hb, List.length_map]
              exact Nat.lt_of_le_of_lt (List.length_take_le _ _) (Nat.lt_of_lt_of_le hi (Nat.le_trans (show x.cps.size ≤ 8 by have : x.length = x.cps.size := rfl; omega) (by decide)))
            · refine ⟨same_upd sm nL, bs ++ [decide (c ∈ LT.cps.toList)], ?_, ?_⟩
              · rw [upd_same, List.map_append]; rfl
              · have ht : x.cps.toList[i]? = some c := by rw [Array.getElem?_toList]; exact hc
                rw [hb, List.take_succ, ht]
                simp
          · rintro H1 ⟨sm, bs, hL, hb⟩
            refine ⟨L, bs, rfl, SqL.of hL, ?_⟩
            rw [hb, show x.cps.size = x.cps.toList.length from rfl, List.take_length, List.all_map]
            have e : okName x = okSigns x := by
              unfold okName
              rw [decide_eq_true (show 1 ≤ x.length by omega), decide_eq_true (show x.length ≤ 8 by omega)]
              rfl
            have z := k _ sm
            show Q (.bl (okSigns x)) H1
            rw [← e]
            exact z
        · refine fin false ?_
          unfold okName
          rw [show decide (x.length ≤ 8) = false from decide_eq_false (fun z => c2 (decide_eq_true (by omega)))]
          simp
      · refine ⟨_, rfl, iteF (fin false ?_)⟩
        unfold okName
        rw [show decide (1 ≤ x.length) = false from decide_eq_false (fun z => c1 (decide_eq_true (by omega)))]
        simp
    | _ => exact k H (Same.refl H)
end
end Pw

set_option Elab.async false
set_option linter.all false
set_option maxRecDepth 100000
set_option maxHeartbeats 4000000
namespace Pw
open PySem PySem.Spec PyProof.Rows L2 Ct
section
variable {P : Program} {w : World} {K : PySem.W.Frag} {mg : Str → Option Value} {base : Heap}
abbrev sSource : Stmt := top ix_law_source
theorem scSource : FnScope ["script", "start", "mixed", "cell", "rest"] ["script", "start"] (defScope sSource) := ⟨rfl, rfl, rfl, by decide +kernel, rfl, by decide +kernel, by decide +kernel⟩
theorem has_source (T : Bn mg) (D : DFE K mg "_law_source" sSource ["script", "start"]) : Has P w K mg base CX0 1 "_law_source" ["script", "start"] (spSource K) := by
  refine has_of D scSource (fun vs H Q E h => ?_) (fun f cdv A outer s H vs Q E hr h => ?_)
  · obtain ⟨a, ns, st, rfl, _⟩ := h; rfl
  · obtain ⟨a, ns, st, rfl, st0, st1, hS, hlen, hbits, k⟩ := h
    have nd := scSource.nd
    refine ⟨_, (pss_cons (ps_sv 2 nd (pe_op op_add pe_int (pv 1)))
      (pss_cons (ps_for PassesOwn.never rfl (pi_list (pv 0)) (pg_name (i := 3) nd rfl (by first | exact Or.inl rfl | exact Or.inr rfl)) (pss_one (ps_sv 2 nd (pe_op op_add (pe_op op_mod (pe_callTy call_int1 (by rfl) T.z_int (by decide +kernel) (pa_cons (pe_op op_powW (pe_callTy call_int1 (by rfl) T.z_int (by decide +kernel) (pa_cons (pe_op op_add (pe_op op_mul (pv 2) pe_int) (pe_callTy call_int1 (by rfl) T.z_int (by decide +kernel) (pa_cons (pv 3) pa_nil))) pa_nil)) pe_int) pa_nil)) pe_int) pe_int))))
      (pss_cons (ps_sv 4 nd pe_int)
      (pss_cons (ps_if (PW.pt (pw_and (pt_cmpR op_lt (pv 1) (pe_callB call_len (by rfl) T.z_len (by decide +kernel) (pa_cons (pv 0) pa_nil)) (by first | exact nomark _ | rfl)) (pw_and1 (pt_cmpR op_ge (pe_ix ix_list (pv 0) (pv 1) (fun _ _ => rfl)) (pe_op op_powW pe_int pe_int) (by first | exact nomark _ | rfl))))) (pss_one (ps_sv 4 nd (pe_op op_sub (pe_ix ix_list (pv 0) (pv 1) (fun _ _ => rfl)) (pe_op op_powW pe_int pe_int)))) pss_nil)
      (pss_one (ps_ret (pe_lst (pa_cons (pv 4) (pa_cons (pv 2) pa_nil))))))))), ?_⟩
    -- mixed = 83 + start; the loop
    refine ⟨_, rfl, _, _, rfl, rfl, _, rfl, a, rfl, ⟨_, hS⟩, for_list (K := K) (a := a) (xs := ns.map V.int) (fun i σ H' => H' = H ∧ ∃ (m : Int) (c : Option V), σ = [some (.ref a), some (.int st), some (.int m), c, none] ∧ 0 ≤ m ∧ m ≤ 2147483647)
      ⟨rfl, _, none, rfl, by omega, by omega⟩ (fun i σ H' _ ⟨e, _⟩ => by rw [e]; exact hS) ?_ ?_⟩
    · rintro i y σ H' hi ⟨rfl, m, c, rfl, m0, m1⟩
      obtain ⟨z, _, hz, rfl⟩ := ints_at hi
      have b1 : Builtin.Int.intBits (m * 50021 + z) ≤ 1048577 := intBits_add_le (m := 1048576) (n := 1048576) (Nat.le_trans (bits_small (n := 64) (by omega) (by omega)) (by decide)) (hbits z hz)
      refine ⟨_, rfl, _, _, rfl, rfl, .inl ⟨by omega, by omega⟩, _, rfl, .inl ⟨_, rfl, _, _, rfl, rfl, .inl ⟨_, rfl, _, _, rfl, rfl, pow_ok b1 (by decide) (by decide), .inl ⟨_, rfl, _, _, rfl, rfl, by show (0 : Int) < 2147483563; decide, _, _, rfl, rfl, ?_⟩⟩⟩⟩
      have q0 := Int.emod_nonneg ((m * 50021 + z) ^ (3 : Int).toNat) (show (2147483563 : Int) ≠ 0 by decide)
      have q1 := Int.emod_lt_of_pos ((m * 50021 + z) ^ (3 : Int).toNat) (show (0 : Int) < 2147483563 by decide)
      exact ⟨rfl, _, _, rfl, by omega, by omega⟩
    · rintro σ H' ⟨rfl, m, c, rfl, m0, m1⟩
      have p18 : CPowW 10 18 := pow_ok (n := 4) (by decide +kernel) (by decide) (by decide)
      -- start < len(script) and script[start] >= 10 ** 18
      refine ⟨_, rfl, _, rfl, _, _, rfl, .inl ⟨_, hS, rfl⟩, _, _, rfl, rfl, _, rfl, ?_⟩
      refine ite2 (fun c1 => ?_) (fun _ => iteF ?_)
      · have c1 := of_decide_eq_true c1
        obtain ⟨y, hy, ey⟩ := at_in st0 c1
        obtain ⟨z, hz, rfl⟩ := List.mem_map.mp hy
        refine ⟨_, rfl, _, rfl, a, _, st, _, rfl, rfl, hS, ey, _, _, rfl, rfl, p18, _, _, rfl, rfl, _, rfl, ?_⟩
        refine ite2 (fun c2 => ?_) (fun _ => ?_)
        · have c2 : (10 : Int) ^ (18 : Int).toNat ≤ z := of_decide_eq_true c2
          refine ⟨_, rfl, _, rfl, a, _, st, _, rfl, rfl, hS, ey, _, _, rfl, rfl, p18, _, _, rfl, rfl, _, rfl, _, rfl, (by show 2 ≤ sizeLine; decide), fun p hp => ?_⟩
          exact k p _ _ hp ⟨by omega, m0, m1⟩
        · refine ⟨_, rfl, _, rfl, (by show 2 ≤ sizeLine; decide), fun p hp => ?_⟩
          exact k p _ _ hp ⟨by decide, m0, m1⟩
      · refine ⟨_, rfl, _, rfl, (by show 2 ≤ sizeLine; decide), fun p hp => ?_⟩
        exact k p _ _ hp ⟨by decide, m0, m1⟩
abbrev sDraw : Stmt := top ix_law_draw
theorem scDraw : FnScope ["source", "span", "found"] ["source", "span"] (defScope sDraw) := ⟨rfl, rfl, rfl, by decide +kernel, rfl, by decide +kernel, by decide +kernel⟩
theorem has_draw (T : Bn mg) (D : DFE K mg "_law_draw" sDraw ["source", "span"]) : Has P w K mg base CX0 1 "_law_draw" ["source", "span"] spDraw := by
  refine has_of D scDraw (fun vs H Q E h => ?_) (fun f cdv A outer s H vs Q E hr h => ?_)
  · obtain ⟨p, r, m, n, rfl, _⟩ := h; rfl
  · obtain ⟨p, r, m, n, rfl, hp, ⟨r0, m0, m1⟩, n1, n2, k⟩ := h
    have nd := scDraw.nd
    refine ⟨_, (pss_cons (ps_if (pt_cmpR op_ge (pe_ix ix_list (pv 0) pe_int (fun _ _ => rfl)) (pv 1) (by first | exact nomark _ | rfl)) (pss_cons (ps_sv 2 nd (pe_op op_mod (pe_callTy call_int1 (by rfl) T.z_int (by decide +kernel) (pa_cons (pe_ix ix_list (pv 0) pe_int (fun _ _ => rfl)) pa_nil)) (pv 1)))
      (pss_cons (ps_asg (pe_op op_fdivW (pe_ix ix_list (pv 0) pe_int (fun _ _ => rfl)) (pv 1)) (pg_sub (pv 0) pe_int set_list))
      (pss_one (ps_ret (pv 2))))) pss_nil)
      (pss_cons (ps_asg (pe_op op_mod (pe_callTy call_int1 (by rfl) T.z_int (by decide +kernel) (pa_cons (pe_op op_add (pe_op op_mul (pe_ix ix_list (pv 0) pe_int (fun _ _ => rfl)) pe_int) pe_int) pa_nil)) pe_int) (pg_sub (pv 0) pe_int set_list))
      (pss_one (ps_ret (pe_op op_mod (pe_callTy call_int1 (by rfl) T.z_int (by decide +kernel) (pa_cons (pe_op op_fdivW (pe_op op_mod (pe_callTy call_int1 (by rfl) T.z_int (by decide +kernel) (pa_cons (pe_op op_powW (pe_callTy call_int1 (by rfl) T.z_int (by decide +kernel) (pa_cons (pe_ix ix_list (pv 0) pe_int (fun _ _ => rfl)) pa_nil)) pe_int) pa_nil)) pe_int) pe_int) pa_nil)) (pv 1)))))), ?_⟩
    -- source[0] >= span
    refine ⟨_, rfl, p, _, 0, _, rfl, rfl, SqL.of hp, rfl, _, rfl, _, _, rfl, rfl, _, rfl, ?_⟩
    refine ite2 (fun c1 => ?_) (fun _ => ?_)
    · refine ⟨_, rfl, p, _, 0, _, rfl, rfl, SqL.of hp, rfl, .inl ⟨_, rfl, _, rfl, _, _, rfl, rfl, (show 0 < n by omega), ?_⟩⟩
      refine ⟨_, rfl, p, _, 0, _, rfl, rfl, SqL.of hp, rfl, _, rfl, _, _, rfl, rfl, wide_div (b := 32) (by omega) (by omega) (by decide) (by decide), _, rfl, p, _, 0, 0, rfl, rfl, hp, rfl, ?_⟩
      refine ⟨_, rfl, ?_⟩
      exact k _ _ _ ⟨Int.ediv_nonneg r0 (by omega), m0, m1⟩ (Int.emod_nonneg _ (by omega)) (Int.emod_lt_of_pos _ (by omega))
    · have q0 := Int.emod_nonneg (m * 69621 + 4241) (show (2147483647 : Int) ≠ 0 by decide)
      have q1 := Int.emod_lt_of_pos (m * 69621 + 4241) (show (0 : Int) < 2147483647 by decide)
      refine ⟨_, rfl, p, _, 1, _, rfl, rfl, SqL.of hp, rfl, _, _, rfl, rfl, .inl ⟨by omega, by omega⟩, _, _, rfl, rfl, .inl ⟨_, rfl, _, _, rfl, rfl, (show (0 : Int) < 2147483647 by decide), ?_⟩⟩
      refine ⟨_, rfl, p, _, 1, 1, rfl, rfl, hp, rfl, ?_⟩
      refine ⟨_, rfl, p, _, 1, _, rfl, rfl, SqL.of upd_same, rfl, .inl ⟨_, rfl, ?_⟩⟩
      refine ⟨_, _, rfl, rfl, pow_ok (n := 32) (bits_small q0 (by omega)) (by decide) (by decide), .inl ⟨_, rfl, ?_⟩⟩
      refine ⟨_, _, rfl, rfl, (show (0 : Int) < 1000000007 by decide), _, _, rfl, rfl, wide_div (b := 8) (by decide) (by decide) (by decide) (by decide), .inl ⟨_, rfl, ?_⟩⟩
      refine ⟨_, rfl, _, _, rfl, rfl, (show 0 < n by omega), ?_⟩
      exact k _ _ _ ⟨r0, q0, by omega⟩ (Int.emod_nonneg _ (by omega)) (Int.emod_lt_of_pos _ (by omega))
end
end Pw

set_option Elab.async false
set_option linter.all false
set_option maxRecDepth 100000
set_option maxHeartbeats 4000000
namespace Pw
open PySem PySem.Spec PyProof.Rows L2 Ct
local macro_rules | `(tactic| wide_line) => `(tactic| repeat ((fail_if_success (with_reducible refine at_while ?_)); (fail_if_success (with_reducible refine at_while1 ?_)); (conv => whnf); first | ((with_reducible refine And.intro ?_ ?_); focus (first | (first | ((with_reducible show (_ : Nat) ≤ _); first | exact sz0 | exact sz1 | exact sz2 | exact sz3 | exact sz4 | exact sz5 | exact sz6 | exact sz7 | exact sz8 | exact sz10 | exact sz11 | exact sz12 | exact sz14 | omega | decide | (simp only [List.length_cons, List.length_nil]; omega)) | ((with_reducible show (_ : Int) ≤ _); first | omega | decide) | ((with_reducible show (_ : Int) < _); first | omega | decide) | ((with_reducible show (_ : Nat) < _); omega)) | ((fail_if_success (with_reducible show (_ : Nat) ≤ _)); (fail_if_success (with_reducible show (_ : Int) ≤ _)); (fail_if_success (with_reducible show (_ : Int) < _)); (fail_if_success (with_reducible show (_ : Nat) < _)); first | exact kv_str _ | exact kv_int _ | rfl | assumption | exact flat_strs _ | exact Lv.get (by assumption) 0 rfl | exact Lv.get (by assumption) 1 rfl | exact Lv.get (by assumption) 2 rfl | exact Lv.get (by assumption) 3 rfl | exact Lv.get (by assumption) 4 rfl | exact Lv.get (by assumption) 5 rfl | exact Lv.get (by assumption) 6 rfl | exact SqL.of (Lv.get (by assumption) 0 rfl) | exact SqL.of (Lv.get (by assumption) 1 rfl) | exact SqL.of (Lv.get (by assumption) 2 rfl) | exact SqL.of (Lv.get (by assumption) 3 rfl) | exact SqL.of (Lv.get (by assumption) 4 rfl) | exact SqL.of (Lv.get (by assumption) 5 rfl) | exact Or.inl (SqL.of (Lv.get (by assumption) 0 rfl)) | exact Or.inl (SqL.of (Lv.get (by assumption) 1 rfl)) | exact Or.inl (SqL.of (Lv.get (by assumption) 2 rfl)) | exact Or.inl (SqL.of (Lv.get (by assumption) 3 rfl)) | exact Or.inl (SqL.of (Lv.get (by assumption) 4 rfl)) | exact Or.inl (SqL.of (Lv.get (by assumption) 5 rfl)) | exact ⟨_, SqL.of (Lv.get (by assumption) 0 rfl)⟩ | exact ⟨_, SqL.of (Lv.get (by assumption) 1 rfl)⟩ | exact ⟨_, SqL.of (Lv.get (by assumption) 2 rfl)⟩ | exact ⟨_, SqL.of (Lv.get (by assumption) 3 rfl)⟩ | exact ⟨_, SqL.of (Lv.get (by assumption) 4 rfl)⟩ | exact ⟨_, SqL.of (Lv.get (by assumption) 5 rfl)⟩ | exact Or.inl ⟨_, SqL.of (Lv.get (by assumption) 0 rfl), rfl⟩ | exact Or.inl ⟨_, SqL.of (Lv.get (by assumption) 1 rfl), rfl⟩ | exact Or.inl ⟨_, SqL.of (Lv.get (by assumption) 2 rfl), rfl⟩ | exact Or.inl ⟨_, SqL.of (Lv.get (by assumption) 3 rfl), rfl⟩ | exact Or.inl ⟨_, SqL.of (Lv.get (by assumption) 4 rfl), rfl⟩ | exact Or.inl ⟨_, SqL.of (Lv.get (by assumption) 5 rfl), rfl⟩ | exact Or.inl ⟨rfl, _, SqL.of (Lv.get (by assumption) 0 rfl)⟩ | exact Or.inl ⟨rfl, _, SqL.of (Lv.get (by assumption) 1 rfl)⟩ | exact Or.inl ⟨rfl, _, SqL.of (Lv.get (by assumption) 2 rfl)⟩ | exact Or.inl ⟨rfl, _, SqL.of (Lv.get (by assumption) 3 rfl)⟩ | exact Or.inl ⟨rfl, _, SqL.of (Lv.get (by assumption) 4 rfl)⟩ | exact Or.inl ⟨rfl, _, SqL.of (Lv.get (by assumption) 5 rfl)⟩ | exact Or.inr (SqT.of (Lv.get (by assumption) 0 rfl)) | exact Or.inr (SqT.of (Lv.get (by assumption) 1 rfl)) | exact Or.inr (SqT.of (Lv.get (by assumption) 2 rfl)) | exact Or.inr (SqT.of (Lv.get (by assumption) 3 rfl)) | exact SqT.of (Lv.get (by assumption) 0 rfl) | exact SqT.of (Lv.get (by assumption) 1 rfl) | exact SqT.of (Lv.get (by assumption) 2 rfl) | exact dgetN (Lv.get (by assumption) 0 rfl) (by assumption) | exact dgetN (Lv.get (by assumption) 1 rfl) (by assumption) | exact dgetN (Lv.get (by assumption) 2 rfl) (by assumption) | exact dgetN (Lv.get (by assumption) 3 rfl) (by assumption) | exact dgetN (Lv.get (by assumption) 4 rfl) (by assumption) | decide | ((with_reducible show _ ∧ _); omega)))) | ((fail_if_success (with_reducible apply @Exists.intro (Nat → _))); (with_reducible apply Exists.intro))))
local macro_rules
  | `(tactic| wide_line with al $lv:ident $l:ident $nl:ident $H:ident $lv1:ident $s1:ident) => `(tactic| (intro $l:ident $nl:ident; generalize he : upd _ _ _ = $H:ident; have $lv1:ident := Lv.alE $lv $nl he; have $s1:ident := sameE $nl he; clear he; (try dsimp only at $lv1:ident)))
  | `(tactic| wide_line with alx $lv:ident $nl:ident $H:ident $lv1:ident $s1:ident) => `(tactic| (generalize he : upd _ _ _ = $H:ident; have $lv1:ident := Lv.alE $lv $nl he; have $s1:ident := sameE $nl he; clear he; (try dsimp only at $lv1:ident)))
  | `(tactic| wide_line with sts $lv:ident $i:num $H:ident $lv1:ident $s0:ident $np:ident $s1:ident) => `(tactic| (generalize he : upd _ _ _ = $H:ident; have $lv1:ident := Lv.stE $lv $i rfl he; have $s1:ident := sameN $s0 $np he; clear he; (try dsimp only at $lv1:ident)))
  | `(tactic| wide_line with st $lv:ident $i:num $H:ident $lv1:ident) => `(tactic| (generalize he : upd _ _ _ = $H:ident; have $lv1:ident := Lv.stE $lv $i rfl he; clear he; (try dsimp only at $lv1:ident)))
  | `(tactic| wide_line with stk $lv:ident $i:num $H:ident $lv1:ident $k1:ident) => `(tactic| (generalize he : upd _ _ _ = $H:ident; have $lv1:ident := Lv.stE $lv $i rfl he; have $k1:ident := KeepT.st (Lv.get $lv $i rfl) he; clear he; (try dsimp only at $lv1:ident)))
/-- mixed(source, things): a new list of them in some sequence -/
def spMixed (K : PySem.W.Frag) : Sp := fun vs H Q _ => ∃ (p q : Addr) (r m : Int) (xs : List V), vs = [.ref p, .ref q] ∧ H p = some (.lst [.int r, .int m]) ∧ SrcOk r m ∧ SqS K H q xs ∧ xs.length ≤ 100000 ∧
  ∀ r' m' ys l H', SrcOk r' m' → ys.Perm xs → (∀ b o, b ≠ p → H b = some o → H' b = some o) → H' p = some (.lst [.int r', .int m']) → H l = none → H' l = some (.lst ys) → Q (.ref l) H'
section
variable {P : Program} {w : World} {K : PySem.W.Frag} {mg : Str → Option Value} {base : Heap}
abbrev sLawMixed : Stmt := top ix_law_mixed
theorem scLawMixed : FnScope ["source", "things", "lot", "found"] ["source", "things"] (defScope sLawMixed) := ⟨rfl, rfl, rfl, by decide +kernel, rfl, by decide +kernel, by decide +kernel⟩
theorem has_mixed (T : Bn mg) (D : DFE K mg "_law_mixed" sLawMixed ["source", "things"]) (h_law_draw : Has P w K mg base CX0 1 "_law_draw" ["source", "span"] spDraw) : Has P w K mg base CX0 2 "_law_mixed" ["source", "things"] (spMixed K) := by
  refine has_of D scLawMixed (fun vs H Q E h => ?_) (fun f cdv A outer s H vs Q E hr h => ?_)
  · obtain ⟨p, q, r, m, xs, rfl, _⟩ := h; rfl
  · obtain ⟨p, q, r, m, xs, rfl, hp, ok, hx, hl, k⟩ := h
    have nd := scLawMixed.nd
    refine ⟨_, (pss_cons (ps_par (i := 2) (j := 3) (by rfl) nd rfl rfl (by decide) rfl rfl (pa_cons (pe_callTy call_list_of (by rfl) T.z_list (by decide +kernel) (pa_cons (pv 1) pa_nil)) (pa_cons (pe_lst pa_nil) pa_nil)) (by rfl))
    (pss_cons (ps_while PassesOwn.never (pt_cmpR (op_neNil hr.units) (pv 2) (pe_lst pa_nil) (by first | exact nomark _ | rfl)) (pss_one (ps_expr (pe_bm PySem.F.plainAttrs_list PySem.F.slot_list_append PySem.F.type_list_append mt_append (pv 3) (pa_cons (pe_bm PySem.F.plainAttrs_list PySem.F.slot_list_pop PySem.F.type_list_pop mt_popAt (pv 2) (pa_cons (pe_h h_law_draw hr (by decide) rfl (pa_cons (pv 0) (pa_cons (pe_callB call_len (by rfl) T.z_len (by decide +kernel) (pa_cons (pv 2) pa_nil)) pa_nil))) pa_nil)) pa_nil)))))
    (pss_one (ps_ret (pv 3))))), ?_⟩
    have lv := Lv.one hp
    wide_line
    wide_line with al lv l nl H1 lv1 s1
    wide_line
    wide_line with al lv1 fd nf H2 lv2 s2
    wide_line
    have s02 := s1.trans s2
    refine while_n (fun σ H' => Hold (∃ (r m : Int) (ys zs : List V), σ = [some (.ref p), some (.ref q), some (.ref l), some (.ref fd)] ∧ Lv H [p] H' [(fd, .lst zs), (l, .lst ys), (p, .lst [.int r, .int m])] ∧ SrcOk r m ∧ (zs ++ ys).Perm xs))
      (fun _ H' => lenH H' l) ⟨r, m, xs, [], rfl, lv2, ok, .refl _⟩ ?_
    rintro σ H3 ⟨r3, m3, ys, zs, rfl, lv3, ok3, pm⟩
    wide_line
    wide_line with al lv3 e0 ne H4 lv4 s4
    wide_line
    cases ys with
    | nil =>
      refine iteF ?_
      wide_line
      exact k r3 m3 zs fd H4 ok3 (by simpa using pm) lv4.off (Lv.get lv4 3 rfl) (lv1.free nf) (Lv.get lv4 1 rfl)
    | cons y0 ys =>
      refine iteT ⟨_, while_nx, ?_⟩
      wide_line
      have few : zs.length + (ys.length + 1) ≤ 100000 := by
        have := pm.length_eq
        rw [List.length_append, List.length_cons] at this
        omega
      refine ⟨(show (1 : Int) ≤ ((y0 :: ys).length : Nat) by simp only [List.length_cons]; omega), (show (((y0 :: ys).length : Nat) : Int) ≤ 1000000000 by simp only [List.length_cons]; omega), fun r4 m4 j ok4 j0 j1 => ?_⟩
      wide_line with st lv4 3 H5 lv5
      have jl : j < 100001 := by
        have z := j1
        simp only [List.length_cons] at z
        omega
      have jn : j.toNat < (y0 :: ys).length := by omega
      wide_line
      have hk := PyProof.Rows.seqIndex_at j0 j1
      have hy : (y0 :: ys)[j.toNat]? = some ((y0 :: ys)[j.toNat]) := List.getElem?_eq_getElem jn
      refine ⟨hk, hy, ?_⟩
      wide_line with st lv5 2 H6 lv6
      wide_line
      refine ⟨(show zs.length < sizeLine by rw [sizeLine_eq]; omega), ?_⟩
      wide_line with st lv6 1 H7 lv7
      refine ⟨⟨r4, m4, (y0 :: ys).eraseIdx j.toNat, zs ++ [(y0 :: ys)[j.toNat]], rfl, lv7.tl (fun z => lv4.ne 0 3 (by decide) rfl rfl (List.mem_singleton.mp z)), ok4, ?_⟩, ?_⟩
      · refine List.Perm.trans ?_ pm
        rw [List.append_assoc]
        exact List.Perm.append_left zs (erase_perm jn)
      · rw [lenH_eq (lv7.get 2 rfl), lenH_eq (lv3.get 1 rfl), List.length_eraseIdx_of_lt jn]
        simp only [List.length_cons]
        omega
end
end Pw

set_option Elab.async false
set_option linter.all false
set_option maxRecDepth 100000
set_option maxHeartbeats 4000000
namespace Pw
open PySem PySem.Spec PyProof.Rows L2 Ct
local macro_rules | `(tactic| wide_line) => `(tactic| repeat ((fail_if_success (with_reducible refine at_while ?_)); (fail_if_success (with_reducible refine at_while1 ?_)); (conv => whnf); first | ((with_reducible refine And.intro ?_ ?_); focus (first | (first | ((with_reducible show (_ : Nat) ≤ _); first | exact sz0 | exact sz1 | exact sz2 | exact sz3 | exact sz4 | exact sz5 | exact sz6 | exact sz7 | exact sz8 | exact sz10 | exact sz11 | exact sz12 | exact sz14 | omega | decide | (simp only [List.length_cons, List.length_nil]; omega)) | ((with_reducible show (_ : Int) ≤ _); first | omega | decide) | ((with_reducible show (_ : Int) < _); first | omega | decide) | ((with_reducible show (_ : Nat) < _); omega)) | ((fail_if_success (with_reducible show (_ : Nat) ≤ _)); (fail_if_success (with_reducible show (_ : Int) ≤ _)); (fail_if_success (with_reducible show (_ : Int) < _)); (fail_if_success (with_reducible show (_ : Nat) < _)); first | exact kv_str _ | exact kv_int _ | rfl | assumption | exact flat_strs _ | exact Lv.get (by assumption) 0 rfl | exact Lv.get (by assumption) 1 rfl | exact Lv.get (by assumption) 2 rfl | exact Lv.get (by assumption) 3 rfl | exact Lv.get (by assumption) 4 rfl | exact Lv.get (by assumption) 5 rfl | exact Lv.get (by assumption) 6 rfl | exact SqL.of (Lv.get (by assumption) 0 rfl) | exact SqL.of (Lv.get (by assumption) 1 rfl) | exact SqL.of (Lv.get (by assumption) 2 rfl) | exact SqL.of (Lv.get (by assumption) 3 rfl) | exact SqL.of (Lv.get (by assumption) 4 rfl) | exact SqL.of (Lv.get (by assumption) 5 rfl) | exact Or.inl (SqL.of (Lv.get (by assumption) 0 rfl)) | exact Or.inl (SqL.of (Lv.get (by assumption) 1 rfl)) | exact Or.inl (SqL.of (Lv.get (by assumption) 2 rfl)) | exact Or.inl (SqL.of (Lv.get (by assumption) 3 rfl)) | exact Or.inl (SqL.of (Lv.get (by assumption) 4 rfl)) | exact Or.inl (SqL.of (Lv.get (by assumption) 5 rfl)) | exact ⟨_, SqL.of (Lv.get (by assumption) 0 rfl)⟩ | exact ⟨_, SqL.of (Lv.get (by assumption) 1 rfl)⟩ | exact ⟨_, SqL.of (Lv.get (by assumption) 2 rfl)⟩ | exact ⟨_, SqL.of (Lv.get (by assumption) 3 rfl)⟩ | exact ⟨_, SqL.of (Lv.get (by assumption) 4 rfl)⟩ | exact ⟨_, SqL.of (Lv.get (by assumption) 5 rfl)⟩ | exact Or.inl ⟨_, SqL.of (Lv.get (by assumption) 0 rfl), rfl⟩ | exact Or.inl ⟨_, SqL.of (Lv.get (by assumption) 1 rfl), rfl⟩ | exact Or.inl ⟨_, SqL.of (Lv.get (by assumption) 2 rfl), rfl⟩ | exact Or.inl ⟨_, SqL.of (Lv.get (by assumption) 3 rfl), rfl⟩ | exact Or.inl ⟨_, SqL.of (Lv.get (by assumption) 4 rfl), rfl⟩ | exact Or.inl ⟨_, SqL.of (Lv.get (by assumption) 5 rfl), rfl⟩ | exact Or.inl ⟨rfl, _, SqL.of (Lv.get (by assumption) 0 rfl)⟩ | exact Or.inl ⟨rfl, _, SqL.of (Lv.get (by assumption) 1 rfl)⟩ | exact Or.inl ⟨rfl, _, SqL.of (Lv.get (by assumption) 2 rfl)⟩ | exact Or.inl ⟨rfl, _, SqL.of (Lv.get (by assumption) 3 rfl)⟩ | exact Or.inl ⟨rfl, _, SqL.of (Lv.get (by assumption) 4 rfl)⟩ | exact Or.inl ⟨rfl, _, SqL.of (Lv.get (by assumption) 5 rfl)⟩ | exact Or.inr (SqT.of (Lv.get (by assumption) 0 rfl)) | exact Or.inr (SqT.of (Lv.get (by assumption) 1 rfl)) | exact Or.inr (SqT.of (Lv.get (by assumption) 2 rfl)) | exact Or.inr (SqT.of (Lv.get (by assumption) 3 rfl)) | exact SqT.of (Lv.get (by assumption) 0 rfl) | exact SqT.of (Lv.get (by assumption) 1 rfl) | exact SqT.of (Lv.get (by assumption) 2 rfl) | exact dgetN (Lv.get (by assumption) 0 rfl) (by assumption) | exact dgetN (Lv.get (by assumption) 1 rfl) (by assumption) | exact dgetN (Lv.get (by assumption) 2 rfl) (by assumption) | exact dgetN (Lv.get (by assumption) 3 rfl) (by assumption) | exact dgetN (Lv.get (by assumption) 4 rfl) (by assumption) | decide | ((with_reducible show _ ∧ _); omega)))) | ((fail_if_success (with_reducible apply @Exists.intro (Nat → _))); (with_reducible apply Exists.intro))))
local macro_rules
  | `(tactic| wide_line with al $lv:ident $l:ident $nl:ident $H:ident $lv1:ident $s1:ident) => `(tactic| (intro $l:ident $nl:ident; generalize he : upd _ _ _ = $H:ident; have $lv1:ident := Lv.alE $lv $nl he; have $s1:ident := sameE $nl he; clear he; (try dsimp only at $lv1:ident)))
  | `(tactic| wide_line with alx $lv:ident $nl:ident $H:ident $lv1:ident $s1:ident) => `(tactic| (generalize he : upd _ _ _ = $H:ident; have $lv1:ident := Lv.alE $lv $nl he; have $s1:ident := sameE $nl he; clear he; (try dsimp only at $lv1:ident)))
  | `(tactic| wide_line with sts $lv:ident $i:num $H:ident $lv1:ident $s0:ident $np:ident $s1:ident) => `(tactic| (generalize he : upd _ _ _ = $H:ident; have $lv1:ident := Lv.stE $lv $i rfl he; have $s1:ident := sameN $s0 $np he; clear he; (try dsimp only at $lv1:ident)))
  | `(tactic| wide_line with st $lv:ident $i:num $H:ident $lv1:ident) => `(tactic| (generalize he : upd _ _ _ = $H:ident; have $lv1:ident := Lv.stE $lv $i rfl he; clear he; (try dsimp only at $lv1:ident)))
  | `(tactic| wide_line with stk $lv:ident $i:num $H:ident $lv1:ident $k1:ident) => `(tactic| (generalize he : upd _ _ _ = $H:ident; have $lv1:ident := Lv.stE $lv $i rfl he; have $k1:ident := KeepT.st (Lv.get $lv $i rfl) he; clear he; (try dsimp only at $lv1:ident)))
/-- pick(source, text): a sign of it -/
def spPickS : Sp := fun vs H Q _ => ∃ (p : Addr) (r m : Int) (x : Str), vs = [.ref p, .str x] ∧ H p = some (.lst [.int r, .int m]) ∧ SrcOk r m ∧ 1 ≤ x.length ∧ x.length ≤ 1000 ∧
  ∀ r' m' c, SrcOk r' m' → c ∈ x.cps.toList → Q (.str ⟨#[c]⟩) (upd H p (.lst [.int r', .int m']))
def spPick2 (K : PySem.W.Frag) : Sp := fun vs H Q E => spPick K vs H Q E ∨ spPickS vs H Q E
section
variable {P : Program} {w : World} {K : PySem.W.Frag} {mg : Str → Option Value} {base : Heap}
abbrev sPick : Stmt := top ix_law_pick
theorem scPick : FnScope ["source", "things"] ["source", "things"] (defScope sPick) := ⟨rfl, rfl, rfl, by decide +kernel, rfl, by decide +kernel, by decide +kernel⟩
theorem has_pick (T : Bn mg) (D : DFE K mg "_law_pick" sPick ["source", "things"]) (h_law_draw : Has P w K mg base CX0 1 "_law_draw" ["source", "span"] spDraw) : Has P w K mg base CX0 2 "_law_pick" ["source", "things"] (spPick2 K) := by
  refine has_of D scPick (fun vs H Q E h => ?_) (fun f cdv A outer s H vs Q E hr h => ?_)
  · rcases h with ⟨p, q, r, m, xs, rfl, _⟩ | ⟨p, r, m, x, rfl, _⟩ <;> rfl
  · have nd := scPick.nd
    refine ⟨_, (pss_one (ps_ret (pe_ix ix_seq (pv 1) (pe_h h_law_draw hr (by decide) rfl (pa_cons (pv 0) (pa_cons (pe_callB call_len (by rfl) T.z_len (by decide +kernel) (pa_cons (pv 1) pa_nil)) pa_nil))) (fun _ _ => rfl)))), ?_⟩
    rcases h with ⟨p, q, r, m, xs, rfl, ne, hp, ok, hx, hne, hl, k⟩ | ⟨p, r, m, x, rfl, hp, ok, l1, l2, k⟩
    · have n1 : 1 ≤ xs.length := by
        cases xs with
        | nil => exact absurd rfl hne
        | cons _ _ => simp
      refine ⟨_, rfl, _, rfl, _, rfl, _, xs.length, rfl, ?_, p, r, m, _, rfl, hp, ok, by omega, by omega, fun r' m' j ok' j0 j1 => ?_⟩
      · rcases hx with hx | hx
        · exact .inl ⟨_, hx, rfl⟩
        · exact .inr ⟨_, hx, rfl⟩
      · obtain ⟨x, hm, ex⟩ := at_in j0 j1
        rcases hx with hx | hx
        · exact .inl ⟨q, xs, _, x, rfl, rfl, sqL_upd hx ne, ex, k _ _ _ ok' hm⟩
        · exact .inr (.inl ⟨q, xs, _, x, rfl, rfl, sqT_upd hx ne, ex, k _ _ _ ok' hm⟩)
    · have lz : x.length ≤ sizeLine := by rw [sizeLine_eq]; omega
      refine ⟨_, rfl, _, rfl, _, rfl, _, x.length, rfl, ⟨lz, rfl⟩, p, r, m, _, rfl, hp, ok, by omega, by omega, fun r' m' j ok' j0 j1 => ?_⟩
      have jn : j.toNat < x.cps.toList.length := by
        have : x.length = x.cps.toList.length := by simp [Str.length]
        omega
      have ex : atI x.cps.toList j = some (x.cps.toList[j.toNat]) := by
        unfold atI ixN
        rw [if_pos j0, if_pos (by omega)]
        exact List.getElem?_eq_getElem jn
      exact .inr (.inr ⟨x, j, _, rfl, rfl, lz, ex, k _ _ _ ok' (List.getElem_mem jn)⟩)
/-- word(source): a name -/
def spWord : Sp := fun vs H Q _ => ∃ (p : Addr) (r m : Int), vs = [.ref p] ∧ H p = some (.lst [.int r, .int m]) ∧ SrcOk r m ∧ ∀ r' m' x, SrcOk r' m' → okName x = true → Q (.str x) (upd H p (.lst [.int r', .int m']))
abbrev sLawWord : Stmt := top ix_law_word
theorem scLawWord : FnScope ["source", "word", "turn"] ["source"] (defScope sLawWord) := ⟨rfl, rfl, rfl, by decide +kernel, rfl, by decide +kernel, by decide +kernel⟩
theorem okSigns_snoc {x : Str} {c : Nat} (h : okSigns x = true) (hc : c ∈ LT.cps.toList) : okSigns (x ++ ⟨#[c]⟩) = true ∧ (x ++ ⟨#[c]⟩ : Str).length = x.length + 1 := by
  have e : (x ++ ⟨#[c]⟩ : Str).cps = x.cps ++ #[c] := rfl
  refine ⟨?_, ?_⟩
  · unfold okSigns at *
    rw [e, Array.toList_append, List.all_append, h]
    simp only [List.all_cons, List.all_nil, Bool.and_true, Bool.true_and]
    exact decide_eq_true hc
  · show (x ++ ⟨#[c]⟩ : Str).cps.size = _
    rw [e]
    simp [Str.length]
theorem has_word (T : Bn mg) (D : DFE K mg "_law_word" sLawWord ["source"]) (h_law_draw : Has P w K mg base CX0 1 "_law_draw" ["source", "span"] spDraw) (h_law_pick : Has P w K mg base CX0 2 "_law_pick" ["source", "things"] (spPick2 K)) : Has P w K mg base CX0 3 "_law_word" ["source"] spWord := by
  refine has_of D scLawWord (fun vs H Q E h => ?_) (fun f cdv A outer s H vs Q E hr h => ?_)
  · obtain ⟨p, r, m, rfl, _⟩ := h; rfl
  · obtain ⟨p, r, m, rfl, hp, ok, k⟩ := h
    have nd := scLawWord.nd
    refine ⟨_, (pss_cons (ps_sv 1 nd pe_str)
    (pss_cons (ps_for PassesOwn.never rfl (pi_range1 rfl T.z_range (pa_cons (pe_op op_add pe_int (pe_h h_law_draw hr (by decide) rfl (pa_cons (pv 0) (pa_cons pe_int pa_nil)))) pa_nil)) (pg_name (i := 2) nd rfl (by first | exact Or.inl rfl | exact Or.inr rfl)) (pss_one (ps_sv 1 nd (pe_op op_add_str (pv 1) (pe_h h_law_pick hr (by decide) rfl (pa_cons (pv 0) (pa_cons pe_str pa_nil)))))))
    (pss_one (ps_ret (pv 1))))), ?_⟩
    wide_line
    intro r1 m1 j ok1 j0 j1
    wide_line
    refine for_range (fun i σ H' => Hold (∃ (r m : Int) (x : Str) (u : Option V), σ = [some (.ref p), some (.str x), u] ∧ H' = upd H p (.lst [.int r, .int m]) ∧ SrcOk r m ∧ okSigns x = true ∧ x.length = i)) ⟨r1, m1, _, none, rfl, rfl, ok1, rfl, rfl⟩ ?_ ?_
    · rintro i σ H1 hi ⟨r2, m2, x, u, rfl, rfl, ok2, hs, hl⟩
      wide_line
      refine .inr ⟨p, r2, m2, LT, rfl, upd_same, ok2, by decide, by decide, fun r3 m3 c ok3 hc => ?_⟩
      rw [upd_upd]
      wide_line
      obtain ⟨h1, h2⟩ := okSigns_snoc hs hc
      refine ⟨(show x.length + (⟨#[c]⟩ : Str).length ≤ sizeLine by show x.length + 1 ≤ _; rw [sizeLine_eq]; omega), ?_⟩
      exact ⟨r3, m3, _, _, rfl, rfl, ok3, h1, by rw [h2, hl]⟩
    · rintro σ H1 ⟨r2, m2, x, u, rfl, rfl, ok2, hs, hl⟩
      wide_line
      refine k r2 m2 x ok2 ?_
      unfold okName
      rw [hs, decide_eq_true (show 1 ≤ x.length by omega), decide_eq_true (show x.length ≤ 8 by omega)]
      rfl
end
end Pw

set_option Elab.async false
set_option linter.all false
set_option maxRecDepth 100000
set_option maxHeartbeats 4000000
namespace Pw
open PySem PySem.Spec PyProof.Rows L2 Ct
local macro_rules | `(tactic| wide_line) => `(tactic| repeat ((fail_if_success (with_reducible refine at_while ?_)); (fail_if_success (with_reducible refine at_while1 ?_)); (conv => whnf); first | ((with_reducible refine And.intro ?_ ?_); focus (first | (first | ((with_reducible show (_ : Nat) ≤ _); first | exact sz0 | exact sz1 | exact sz2 | exact sz3 | exact sz4 | exact sz5 | exact sz6 | exact sz7 | exact sz8 | exact sz10 | exact sz11 | exact sz12 | exact sz14 | omega | decide | (simp only [List.length_cons, List.length_nil]; omega)) | ((with_reducible show (_ : Int) ≤ _); first | omega | decide) | ((with_reducible show (_ : Int) < _); first | omega | decide) | ((with_reducible show (_ : Nat) < _); omega)) | ((fail_if_success (with_reducible show (_ : Nat) ≤ _)); (fail_if_success (with_reducible show (_ : Int) ≤ _)); (fail_if_success (with_reducible show (_ : Int) < _)); (fail_if_success (with_reducible show (_ : Nat) < _)); first | exact kv_str _ | exact kv_int _ | rfl | assumption | exact flat_strs _ | exact Lv.get (by assumption) 0 rfl | exact Lv.get (by assumption) 1 rfl | exact Lv.get (by assumption) 2 rfl | exact Lv.get (by assumption) 3 rfl | exact Lv.get (by assumption) 4 rfl | exact Lv.get (by assumption) 5 rfl | exact Lv.get (by assumption) 6 rfl | exact SqL.of (Lv.get (by assumption) 0 rfl) | exact SqL.of (Lv.get (by assumption) 1 rfl) | exact SqL.of (Lv.get (by assumption) 2 rfl) | exact SqL.of (Lv.get (by assumption) 3 rfl) | exact SqL.of (Lv.get (by assumption) 4 rfl) | exact SqL.of (Lv.get (by assumption) 5 rfl) | exact Or.inl (SqL.of (Lv.get (by assumption) 0 rfl)) | exact Or.inl (SqL.of (Lv.get (by assumption) 1 rfl)) | exact Or.inl (SqL.of (Lv.get (by assumption) 2 rfl)) | exact Or.inl (SqL.of (Lv.get (by assumption) 3 rfl)) | exact Or.inl (SqL.of (Lv.get (by assumption) 4 rfl)) | exact Or.inl (SqL.of (Lv.get (by assumption) 5 rfl)) | exact ⟨_, SqL.of (Lv.get (by assumption) 0 rfl)⟩ | exact ⟨_, SqL.of (Lv.get (by assumption) 1 rfl)⟩ | exact ⟨_, SqL.of (Lv.get (by assumption) 2 rfl)⟩ | exact ⟨_, SqL.of (Lv.get (by assumption) 3 rfl)⟩ | exact ⟨_, SqL.of (Lv.get (by assumption) 4 rfl)⟩ | exact ⟨_, SqL.of (Lv.get (by assumption) 5 rfl)⟩ | exact Or.inl ⟨_, SqL.of (Lv.get (by assumption) 0 rfl), rfl⟩ | exact Or.inl ⟨_, SqL.of (Lv.get (by assumption) 1 rfl), rfl⟩ | exact Or.inl ⟨_, SqL.of (Lv.get (by assumption) 2 rfl), rfl⟩ | exact Or.inl ⟨_, SqL.of (Lv.get (by assumption) 3 rfl), rfl⟩ | exact Or.inl ⟨_, SqL.of (Lv.get (by assumption) 4 rfl), rfl⟩ | exact Or.inl ⟨_, SqL.of (Lv.get (by assumption) 5 rfl), rfl⟩ | exact Or.inl ⟨rfl, _, SqL.of (Lv.get (by assumption) 0 rfl)⟩ | exact Or.inl ⟨rfl, _, SqL.of (Lv.get (by assumption) 1 rfl)⟩ | exact Or.inl ⟨rfl, _, SqL.of (Lv.get (by assumption) 2 rfl)⟩ | exact Or.inl ⟨rfl, _, SqL.of (Lv.get (by assumption) 3 rfl)⟩ | exact Or.inl ⟨rfl, _, SqL.of (Lv.get (by assumption) 4 rfl)⟩ | exact Or.inl ⟨rfl, _, SqL.of (Lv.get (by assumption) 5 rfl)⟩ | exact Or.inr (SqT.of (Lv.get (by assumption) 0 rfl)) | exact Or.inr (SqT.of (Lv.get (by assumption) 1 rfl)) | exact Or.inr (SqT.of (Lv.get (by assumption) 2 rfl)) | exact Or.inr (SqT.of (Lv.get (by assumption) 3 rfl)) | exact SqT.of (Lv.get (by assumption) 0 rfl) | exact SqT.of (Lv.get (by assumption) 1 rfl) | exact SqT.of (Lv.get (by assumption) 2 rfl) | exact dgetN (Lv.get (by assumption) 0 rfl) (by assumption) | exact dgetN (Lv.get (by assumption) 1 rfl) (by assumption) | exact dgetN (Lv.get (by assumption) 2 rfl) (by assumption) | exact dgetN (Lv.get (by assumption) 3 rfl) (by assumption) | exact dgetN (Lv.get (by assumption) 4 rfl) (by assumption) | decide | ((with_reducible show _ ∧ _); omega)))) | ((fail_if_success (with_reducible apply @Exists.intro (Nat → _))); (with_reducible apply Exists.intro))))
local macro_rules
  | `(tactic| wide_line with al $lv:ident $l:ident $nl:ident $H:ident $lv1:ident $s1:ident) => `(tactic| (intro $l:ident $nl:ident; generalize he : upd _ _ _ = $H:ident; have $lv1:ident := Lv.alE $lv $nl he; have $s1:ident := sameE $nl he; clear he; (try dsimp only at $lv1:ident)))
  | `(tactic| wide_line with alx $lv:ident $nl:ident $H:ident $lv1:ident $s1:ident) => `(tactic| (generalize he : upd _ _ _ = $H:ident; have $lv1:ident := Lv.alE $lv $nl he; have $s1:ident := sameE $nl he; clear he; (try dsimp only at $lv1:ident)))
  | `(tactic| wide_line with sts $lv:ident $i:num $H:ident $lv1:ident $s0:ident $np:ident $s1:ident) => `(tactic| (generalize he : upd _ _ _ = $H:ident; have $lv1:ident := Lv.stE $lv $i rfl he; have $s1:ident := sameN $s0 $np he; clear he; (try dsimp only at $lv1:ident)))
  | `(tactic| wide_line with st $lv:ident $i:num $H:ident $lv1:ident) => `(tactic| (generalize he : upd _ _ _ = $H:ident; have $lv1:ident := Lv.stE $lv $i rfl he; clear he; (try dsimp only at $lv1:ident)))
  | `(tactic| wide_line with stk $lv:ident $i:num $H:ident $lv1:ident $k1:ident) => `(tactic| (generalize he : upd _ _ _ = $H:ident; have $lv1:ident := Lv.stE $lv $i rfl he; have $k1:ident := KeepT.st (Lv.get $lv $i rfl) he; clear he; (try dsimp only at $lv1:ident)))
/-- names(source, n): a new list of n names -/
def spNames : Sp := fun vs H Q _ => ∃ (p : Addr) (r m : Int) (n : Nat), vs = [.ref p, .int n] ∧ H p = some (.lst [.int r, .int m]) ∧ SrcOk r m ∧ 1 ≤ n ∧ n ≤ 14 ∧
  ∀ (r' m' : Int) (ns : List Str) (l : Addr) (H' : Hp), SrcOk r' m' → ns.length = n → ns.Nodup → (∀ x ∈ ns, okName x = true) → (∀ b o, b ≠ p → H b = some o → H' b = some o) → H' p = some (.lst [.int r', .int m']) → H l = none → H' l = some (.lst (ns.map V.str)) → Q (.ref l) H'
abbrev names14 : List Str := ["a", "b", "c", "d", "e", "f", "g", "h", "i", "place", "tie", "none", "guard", "abcdefgh"]
section
variable {P : Program} {w : World} {K : PySem.W.Frag} {mg : Str → Option Value} {base : Heap}
abbrev sLawNames : Stmt := top ix_law_names
theorem scLawNames : FnScope ["source", "many", "some", "word"] ["source", "many"] (defScope sLawNames) := ⟨rfl, rfl, rfl, by decide +kernel, rfl, by decide +kernel, by decide +kernel⟩
theorem has_names (D : DFE K mg "_law_names" sLawNames ["source", "many"]) (h_law_draw : Has P w K mg base CX0 1 "_law_draw" ["source", "span"] spDraw) (h_law_mixed : Has P w K mg base CX0 2 "_law_mixed" ["source", "things"] (spMixed K)) (h_law_word : Has P w K mg base CX0 3 "_law_word" ["source"] spWord) : Has P w K mg base CX0 4 "_law_names" ["source", "many"] spNames := by
  refine has_of D scLawNames (fun vs H Q E h => ?_) (fun f cdv A outer s H vs Q E hr h => ?_)
  · obtain ⟨p, r, m, n, rfl, _⟩ := h; rfl
  · obtain ⟨p, r, m, n, rfl, hp, ok, n1, n2, k⟩ := h
    have nd := scLawNames.nd
    refine ⟨_, (pss_cons (ps_sv 2 nd (pe_lst (pa_cons pe_str (pa_cons pe_str (pa_cons pe_str (pa_cons pe_str (pa_cons pe_str (pa_cons pe_str (pa_cons pe_str (pa_cons pe_str (pa_cons pe_str (pa_cons pe_str (pa_cons pe_str (pa_cons pe_str (pa_cons pe_str (pa_cons pe_str pa_nil))))))))))))))))
    (pss_cons (ps_sv 2 nd (pe_h h_law_mixed hr (by decide) rfl (pa_cons (pv 0) (pa_cons (pv 2) pa_nil))))
    (pss_cons (ps_sv 3 nd (pe_h h_law_word hr (by decide) rfl (pa_cons (pv 0) pa_nil)))
    (pss_cons (ps_if (pt_cmpR op_notIn_seq (pv 3) (pv 2) (by first | exact nomark _ | rfl)) (pss_one (ps_asg (pv 3) (pg_sub (pv 2) (pe_h h_law_draw hr (by decide) rfl (pa_cons (pv 0) (pa_cons (pv 1) pa_nil))) set_list))) pss_nil)
    (pss_one (ps_ret (pe_slice sl_list (pv 2) po_none (po_some (pv 1))))))))), ?_⟩
    have lv := Lv.one hp
    wide_line
    wide_line with al lv s0 n0 H1 lv1 s1
    wide_line
    intro r1 m1 ys l H2 ok1 pm off2 src2 nl hl
    have lv2 := lv1.stn 1 rfl src2 off2 nl hl
    obtain ⟨ns, pn, rfl⟩ := strs_perm (xs := names14) pm
    have nsl : ns.length = 14 := pn.length_eq
    have nsd : ns.Nodup := pn.nodup_iff.mpr (by decide +kernel)
    have nso : ∀ x ∈ ns, okName x = true := fun x hx => List.all_eq_true.mp (show names14.all okName = true by decide +kernel) x (pn.mem_iff.mp hx)
    wide_line
    intro r3 m3 x ok3 hx
    wide_line with st lv2 2 H3 lv3
    wide_line
    rw [if_pos rfl, in_strs]
    refine ite2 (fun c => ?_) (fun c => ?_)
    · wide_line
      intro r4 m4 j ok4 j0 j1
      wide_line with st lv3 2 H4 lv4
      have c : x ∉ ns := fun z => by rw [decide_eq_true z] at c; cases c
      wide_line
      refine ⟨(show ixN _ j = some j.toNat by unfold ixN; rw [if_pos j0, if_pos (by rw [List.length_map]; omega)]), ?_⟩
      wide_line with st lv4 0 H5 lv5
      wide_line
      rw [cut_take, ← List.map_set, ← List.map_take]
      wide_line with al lv5 l2 n2 H6 lv6 s6
      refine k r4 m4 ((ns.set j.toNat x).take n) l2 H6 ok4 ?_ ?_ ?_ lv6.off (lv6.get 3 rfl) (lv5.free n2) (lv6.get 0 rfl)
      · rw [List.length_take, List.length_set]; omega
      · exact (nodup_set nsd c).sublist (List.take_sublist _ _)
      · intro y hy
        rcases List.mem_or_eq_of_mem_set (List.mem_of_mem_take hy) with z | z
        · exact nso y z
        · exact z ▸ hx
    · wide_line
      rw [cut_take, ← List.map_take]
      wide_line with al lv3 l2 n2 H4 lv4 s4
      refine k r3 m3 (ns.take n) l2 H4 ok3 ?_ ?_ ?_ lv4.off (lv4.get 3 rfl) (lv3.free n2) (lv4.get 0 rfl)
      · rw [List.length_take]; omega
      · exact nsd.sublist (List.take_sublist _ _)
      · exact fun y hy => nso y (List.mem_of_mem_take hy)
end
end Pw

set_option Elab.async false
set_option linter.all false
set_option maxRecDepth 100000
set_option maxHeartbeats 4000000
namespace Pw
open PySem PySem.Spec PyProof.Rows L2 Ct
local macro_rules | `(tactic| wide_line) => `(tactic| repeat ((fail_if_success (with_reducible refine at_while ?_)); (fail_if_success (with_reducible refine at_while1 ?_)); (conv => whnf); first | ((with_reducible refine And.intro ?_ ?_); focus (first | (first | ((with_reducible show (_ : Nat) ≤ _); first | exact sz0 | exact sz1 | exact sz2 | exact sz3 | exact sz4 | exact sz5 | exact sz6 | exact sz7 | exact sz8 | exact sz10 | exact sz11 | exact sz12 | exact sz14 | omega | decide | (simp only [List.length_cons, List.length_nil]; omega)) | ((with_reducible show (_ : Int) ≤ _); first | omega | decide) | ((with_reducible show (_ : Int) < _); first | omega | decide) | ((with_reducible show (_ : Nat) < _); omega)) | ((fail_if_success (with_reducible show (_ : Nat) ≤ _)); (fail_if_success (with_reducible show (_ : Int) ≤ _)); (fail_if_success (with_reducible show (_ : Int) < _)); (fail_if_success (with_reducible show (_ : Nat) < _)); first | exact kv_str _ | exact kv_int _ | rfl | assumption | exact flat_strs _ | exact Lv.get (by assumption) 0 rfl | exact Lv.get (by assumption) 1 rfl | exact Lv.get (by assumption) 2 rfl | exact Lv.get (by assumption) 3 rfl | exact Lv.get (by assumption) 4 rfl | exact Lv.get (by assumption) 5 rfl | exact Lv.get (by assumption) 6 rfl | exact SqL.of (Lv.get (by assumption) 0 rfl) | exact SqL.of (Lv.get (by assumption) 1 rfl) | exact SqL.of (Lv.get (by assumption) 2 rfl) | exact SqL.of (Lv.get (by assumption) 3 rfl) | exact SqL.of (Lv.get (by assumption) 4 rfl) | exact SqL.of (Lv.get (by assumption) 5 rfl) | exact Or.inl (SqL.of (Lv.get (by assumption) 0 rfl)) | exact Or.inl (SqL.of (Lv.get (by assumption) 1 rfl)) | exact Or.inl (SqL.of (Lv.get (by assumption) 2 rfl)) | exact Or.inl (SqL.of (Lv.get (by assumption) 3 rfl)) | exact Or.inl (SqL.of (Lv.get (by assumption) 4 rfl)) | exact Or.inl (SqL.of (Lv.get (by assumption) 5 rfl)) | exact ⟨_, SqL.of (Lv.get (by assumption) 0 rfl)⟩ | exact ⟨_, SqL.of (Lv.get (by assumption) 1 rfl)⟩ | exact ⟨_, SqL.of (Lv.get (by assumption) 2 rfl)⟩ | exact ⟨_, SqL.of (Lv.get (by assumption) 3 rfl)⟩ | exact ⟨_, SqL.of (Lv.get (by assumption) 4 rfl)⟩ | exact ⟨_, SqL.of (Lv.get (by assumption) 5 rfl)⟩ | exact Or.inl ⟨_, SqL.of (Lv.get (by assumption) 0 rfl), rfl⟩ | exact Or.inl ⟨_, SqL.of (Lv.get (by assumption) 1 rfl), rfl⟩ | exact Or.inl ⟨_, SqL.of (Lv.get (by assumption) 2 rfl), rfl⟩ | exact Or.inl ⟨_, SqL.of (Lv.get (by assumption) 3 rfl), rfl⟩ | exact Or.inl ⟨_, SqL.of (Lv.get (by assumption) 4 rfl), rfl⟩ | exact Or.inl ⟨_, SqL.of (Lv.get (by assumption) 5 rfl), rfl⟩ | exact Or.inl ⟨rfl, _, SqL.of (Lv.get (by assumption) 0 rfl)⟩ | exact Or.inl ⟨rfl, _, SqL.of (Lv.get (by assumption) 1 rfl)⟩ | exact Or.inl ⟨rfl, _, SqL.of (Lv.get (by assumption) 2 rfl)⟩ | exact Or.inl ⟨rfl, _, SqL.of (Lv.get (by assumption) 3 rfl)⟩ | exact Or.inl ⟨rfl, _, SqL.of (Lv.get (by assumption) 4 rfl)⟩ | exact Or.inl ⟨rfl, _, SqL.of (Lv.get (by assumption) 5 rfl)⟩ | exact Or.inr (SqT.of (Lv.get (by assumption) 0 rfl)) | exact Or.inr (SqT.of (Lv.get (by assumption) 1 rfl)) | exact Or.inr (SqT.of (Lv.get (by assumption) 2 rfl)) | exact Or.inr (SqT.of (Lv.get (by assumption) 3 rfl)) | exact SqT.of (Lv.get (by assumption) 0 rfl) | exact SqT.of (Lv.get (by assumption) 1 rfl) | exact SqT.of (Lv.get (by assumption) 2 rfl) | exact dgetN (Lv.get (by assumption) 0 rfl) (by assumption) | exact dgetN (Lv.get (by assumption) 1 rfl) (by assumption) | exact dgetN (Lv.get (by assumption) 2 rfl) (by assumption) | exact dgetN (Lv.get (by assumption) 3 rfl) (by assumption) | exact dgetN (Lv.get (by assumption) 4 rfl) (by assumption) | decide | ((with_reducible show _ ∧ _); omega)))) | ((fail_if_success (with_reducible apply @Exists.intro (Nat → _))); (with_reducible apply Exists.intro))))
local macro_rules
  | `(tactic| wide_line with al $lv:ident $l:ident $nl:ident $H:ident $lv1:ident $s1:ident) => `(tactic| (intro $l:ident $nl:ident; generalize he : upd _ _ _ = $H:ident; have $lv1:ident := Lv.alE $lv $nl he; have $s1:ident := sameE $nl he; clear he; (try dsimp only at $lv1:ident)))
  | `(tactic| wide_line with alx $lv:ident $nl:ident $H:ident $lv1:ident $s1:ident) => `(tactic| (generalize he : upd _ _ _ = $H:ident; have $lv1:ident := Lv.alE $lv $nl he; have $s1:ident := sameE $nl he; clear he; (try dsimp only at $lv1:ident)))
  | `(tactic| wide_line with sts $lv:ident $i:num $H:ident $lv1:ident $s0:ident $np:ident $s1:ident) => `(tactic| (generalize he : upd _ _ _ = $H:ident; have $lv1:ident := Lv.stE $lv $i rfl he; have $s1:ident := sameN $s0 $np he; clear he; (try dsimp only at $lv1:ident)))
  | `(tactic| wide_line with st $lv:ident $i:num $H:ident $lv1:ident) => `(tactic| (generalize he : upd _ _ _ = $H:ident; have $lv1:ident := Lv.stE $lv $i rfl he; clear he; (try dsimp only at $lv1:ident)))
  | `(tactic| wide_line with stk $lv:ident $i:num $H:ident $lv1:ident $k1:ident) => `(tactic| (generalize he : upd _ _ _ = $H:ident; have $lv1:ident := Lv.stE $lv $i rfl he; have $k1:ident := KeepT.st (Lv.get $lv $i rfl) he; clear he; (try dsimp only at $lv1:ident)))
/-- different couples i < j < b -/
def PsOk (b : Nat) (ps : List (Nat × Nat)) : Prop := ps.Nodup ∧ ∀ q ∈ ps, q.1 < q.2 ∧ q.2 < b
theorem PsOk.add {b : Nat} {ps qs : List (Nat × Nat)} (h : PsOk b ps) (hq : qs.Nodup) (h2 : ∀ q ∈ qs, q.1 < q.2 ∧ q.2 = b) : PsOk (b + 1) (ps ++ qs) := by
  refine ⟨List.nodup_append.mpr ⟨h.1, hq, fun x hx y hy e => ?_⟩, fun q hq => ?_⟩
  · subst e
    have := (h.2 x hx).2
    have := (h2 x hy).2
    omega
  · rcases List.mem_append.mp hq with z | z
    · have := h.2 q z; exact ⟨this.1, by omega⟩
    · have := h2 q z; exact ⟨this.1, by omega⟩
/-- pairs(source, n, kind): a new list of different couples i < j < n -/
def spPairs : Sp := fun vs H Q _ => ∃ (p : Addr) (r m : Int) (n : Nat) (kd : Int), vs = [.ref p, .int n, .int kd] ∧ H p = some (.lst [.int r, .int m]) ∧ SrcOk r m ∧ 1 ≤ n ∧ n ≤ 14 ∧
  ∀ (r' m' : Int) (ps : List (Nat × Nat)) (xs : List V) (l : Addr) (H' : Hp), SrcOk r' m' → PsOk n ps → (∀ b o, b ≠ p → H b = some o → H' b = some o) → H' p = some (.lst [.int r', .int m']) → H l = none → H' l = some (.lst xs) → PairsT H' xs ps → Q (.ref l) H'
section
variable {P : Program} {w : World} {K : PySem.W.Frag} {mg : Str → Option Value} {base : Heap}
abbrev sLawPairs : Stmt := top ix_law_pairs
theorem scLawPairs : FnScope ["source", "many", "kind", "found", "at", "to", "seen", "one"] ["source", "many", "kind"] (defScope sLawPairs) := ⟨rfl, rfl, rfl, by decide +kernel, rfl, by decide +kernel, by decide +kernel⟩
theorem has_pairs (T : Bn mg) (D : DFE K mg "_law_pairs" sLawPairs ["source", "many", "kind"]) (h_law_draw : Has P w K mg base CX0 1 "_law_draw" ["source", "span"] spDraw) : Has P w K mg base CX0 2 "_law_pairs" ["source", "many", "kind"] spPairs := by
  refine has_of D scLawPairs (fun vs H Q E h => ?_) (fun f cdv A outer s H vs Q E hr h => ?_)
  · obtain ⟨p, r, m, n, kd, rfl, _⟩ := h; rfl
  · obtain ⟨p, r, m, n, kd, rfl, hp, ok, n1, n2, k⟩ := h
    have nd := scLawPairs.nd
    refine ⟨_, (pss_cons (ps_sv 3 nd (pe_lst pa_nil))
    (pss_cons (ps_for PassesOwn.never rfl (pi_range2 rfl T.z_range (pa_cons pe_int (pa_cons (pv 1) pa_nil))) (pg_name (i := 4) nd rfl (by first | exact Or.inl rfl | exact Or.inr rfl)) (pss_one (ps_if (pt_cmpR op_in_seq (pv 2) (pe_tup (pa_cons pe_int (pa_cons pe_int pa_nil))) (by first | exact nomark _ | rfl)) (pss_one (ps_sv 3 nd (pe_op op_cat (pv 3) (pe_lc (own := [("to", 5)]) (g := gName 5) rfl nd (pi_range1 rfl T.z_range (pa_cons (pv 4) pa_nil)) (blkOk_by (own := [("to", 5)]) (N := ["source", "many", "kind", "found", "at", "to", "seen", "one"]) (sc := defScope sLawPairs) (by decide +kernel)) (fun _ _ _ _ _ => (pg_name (i := 5) nd rfl (by first | exact Or.inl rfl | exact Or.inr rfl))) (fun _ _ _ _ _ => (pts_one (pt_cmpR op_gt (pe_h h_law_draw hr (by decide) rfl (pa_cons (pv 0) (pa_cons pe_int pa_nil))) (pv 2) (by first | exact nomark _ | rfl)))) (fun _ _ _ _ _ => (pe_tup (pa_cons (pv 5) (pa_cons (pv 4) pa_nil)))))))) (pss_one (ps_if (PW.pt (pw_or (pt_cmpR op_eq (pv 2) pe_int (by first | exact nomark _ | rfl)) (pw_or1 (PW.pt (pw_and (pt_cmpR op_eq (pv 2) pe_int (by first | exact nomark _ | rfl)) (pw_and1 (pt_cmpR op_lt (pv 4) pe_int (by first | exact nomark _ | rfl)))))))) (pss_cons (ps_expr (pe_bm PySem.F.plainAttrs_list PySem.F.slot_list_append PySem.F.type_list_append mt_append (pv 3) (pa_cons (pe_tup (pa_cons (pe_op op_sub (pv 4) pe_int) (pa_cons (pv 4) pa_nil))) pa_nil)))
    (pss_one (ps_if (PW.pt (pw_or (PW.pt (pw_and (pt_cmpR op_eq (pv 4) (pe_op op_sub (pv 1) pe_int) (by first | exact nomark _ | rfl)) (pw_and1 (pt_cmpR op_gt (pv 4) pe_int (by first | exact nomark _ | rfl))))) (pw_or1 (PW.pt (pw_and (pt_cmpR op_eq (pv 2) pe_int (by first | exact nomark _ | rfl)) (pw_and1 (pt_cmpR op_eq (pv 4) pe_int (by first | exact nomark _ | rfl)))))))) (pss_one (ps_expr (pe_bm PySem.F.plainAttrs_list PySem.F.slot_list_append PySem.F.type_list_append mt_append (pv 3) (pa_cons (pe_tup (pa_cons pe_int (pa_cons (pv 4) pa_nil))) pa_nil)))) pss_nil))) (pss_one (ps_if (pt_cmpR op_eq (pv 2) pe_int (by first | exact nomark _ | rfl)) (pss_one (ps_expr (pe_bm PySem.F.plainAttrs_list PySem.F.slot_list_append PySem.F.type_list_append mt_append (pv 3) (pa_cons (pe_tup (pa_cons (pe_h h_law_draw hr (by decide) rfl (pa_cons (pv 0) (pa_cons (pv 4) pa_nil))) (pa_cons (pv 4) pa_nil))) pa_nil)))) (pss_cons (ps_sv 5 nd (pe_h h_law_draw hr (by decide) rfl (pa_cons (pv 0) (pa_cons (pv 4) pa_nil))))
    (pss_cons (ps_setLc (i := 6) (own := [("one", 7)]) (g := gName 7) rfl nd rfl rfl (sw_true rfl rfl rfl (by decide +kernel)) (pi_range1 rfl T.z_range (pa_cons (pv 4) pa_nil)) (blkOk_by (own := [("one", 7)]) (N := ["source", "many", "kind", "found", "at", "to", "seen", "one"]) (sc := defScope sLawPairs) (by decide +kernel)) (fun _ _ _ _ _ => (pg_name (i := 7) nd rfl (by first | exact Or.inl rfl | exact Or.inr rfl))) (fun _ _ _ _ _ => (pts_one (pt_cmpR (op_inDk (K := K) rfl (units65 hr)) (pe_tup (pa_cons (pe_callB (call_min2 rfl) (by rfl) T.z_min (by decide +kernel) (pa_cons (pv 7) (pa_cons (pv 5) pa_nil))) (pa_cons (pe_callB (call_max2 rfl) (by rfl) T.z_max (by decide +kernel) (pa_cons (pv 7) (pa_cons (pv 5) pa_nil))) pa_nil))) (pv 3) (by first | exact nomark _ | rfl)))) (fun _ _ _ _ _ => (pv 7)))
    (pss_one (ps_sv 3 nd (pe_op op_cat (pe_op op_cat (pv 3) (pe_lst (pa_cons (pe_tup (pa_cons (pv 5) (pa_cons (pv 4) pa_nil))) pa_nil))) (pe_lc (own := [("one", 7)]) (g := gName 7) rfl nd (pi_list (pv 6)) (blkOk_by (own := [("one", 7)]) (N := ["source", "many", "kind", "found", "at", "to", "seen", "one"]) (sc := defScope sLawPairs) (by decide +kernel)) (fun _ _ _ _ _ => (pg_name (i := 7) nd rfl (by first | exact Or.inl rfl | exact Or.inr rfl))) (fun _ _ _ _ _ => (pts_one (pt_cmpR op_eq (pe_h h_law_draw hr (by decide) rfl (pa_cons (pv 0) (pa_cons pe_int pa_nil))) pe_int (by first | exact nomark _ | rfl)))) (fun _ _ _ _ _ => (pe_tup (pa_cons (pv 7) (pa_cons (pv 4) pa_nil)))))))))))))))))
    (pss_one (ps_ret (pv 3))))), ?_⟩
    have lv := Lv.one hp
    wide_line
    wide_line with al lv l0 nl0 H1 lv1 s1
    wide_line
    refine for_range (fun i σ H' => Hold (∃ (r m : Int) (l : Addr) (xs : List V) (ps : List (Nat × Nat)) (u4 u5 u6 u7 : Option V), σ = [some (.ref p), some (.int n), some (.int kd), some (.ref l), u4, u5, u6, u7] ∧
      Lv H [p] H' [(l, .lst xs), (p, .lst [.int r, .int m])] ∧ SrcOk r m ∧ PairsT H' xs ps ∧ PsOk (1 + i) ps ∧ ps.length ≤ 16 * i)) ⟨r, m, l0, [], [], none, none, none, none, rfl, lv1, ok, .nil, ⟨List.nodup_nil, fun _ z => nomatch z⟩, Nat.zero_le _⟩ ?_ ?_
    · rintro i σ H2 hi ⟨r2, m2, l, xs, ps, u4, u5, u6, u7, rfl, lv2, ok2, pt, po, pl⟩
      rw [show (1 : Int) + (i : Nat) = ((1 + i : Nat) : Int) by omega]
      wide_line
      wide_line with al lv2 t0 nt0 H3 lv3 s3
      wide_line
      have pt3 := pt.keep (KeepT.same s3)
      refine ite2 (fun c => ?_) (fun c => ?_)
      · wide_line
        intro D nD
        refine lc_range (fun j H' => Hold (∃ (r m : Int) (acc : List V) (qs : List (Nat × Nat)), Lv H [p] H' [(D, .lst acc), (t0, .tup [.int 0, .int 1]), (l, .lst xs), (p, .lst [.int r, .int m])] ∧ SrcOk r m ∧ PairsT H' acc qs ∧ qs.Nodup ∧ (∀ q ∈ qs, q.1 < j ∧ q.2 = 1 + i) ∧ qs.length ≤ j ∧ PairsT H' xs ps))
          ⟨r2, m2, [], [], lv3.al nD, ok2, .nil, List.nodup_nil, (fun _ z => nomatch z), Nat.zero_le _, pt3.keep (KeepT.same (same_new nD))⟩ ?_ ?_
        · rintro j H4 hj ⟨r4, m4, acc, qs, lv4, ok4, pa, qn, qo, ql, px⟩
          rw [Int.zero_add]
          wide_line
          intro r5 m5 k5 ok5 k50 k51
          wide_line with stk lv4 3 H5 lv5 kt5
          wide_line
          have pa5 := pa.keep kt5
          have px5 := px.keep kt5
          refine ite2 (fun c => ?_) (fun c => ?_)
          · wide_line
            wide_line with al lv5 t1 nt1 H6 lv6 s6
            wide_line
            have al := paired_len pa
            refine ⟨by rw [sizeLine_eq]; omega, ?_⟩
            wide_line with stk lv6 1 H7 lv7 kt7
            have kt := (KeepT.same s6).trans kt7
            refine ⟨r5, m5, _, qs ++ [(j, 1 + i)], ?_, ok5, paired_app (pa5.keep kt) (.cons ⟨t1, rfl, kt7 _ _ (lv6.get 0 rfl)⟩ .nil), ?_, ?_, by simp; omega, px5.keep kt⟩
            · exact lv7.tl (fun z => lv6.ne 0 4 (by decide) rfl rfl (List.mem_singleton.mp z))
            · refine List.nodup_append.mpr ⟨qn, (by simp), fun x hx y hy e => ?_⟩
              subst e
              have := (qo x hx).1
              rw [List.mem_singleton.mp hy] at this
              exact absurd this (Nat.lt_irrefl _)
            · intro q hq
              rcases List.mem_append.mp hq with z | z
              · have := qo q z; exact ⟨by omega, this.2⟩
              · rw [List.mem_singleton.mp z]; exact ⟨Nat.lt_succ_self j, rfl⟩
          · exact ⟨r5, m5, acc, qs, lv5, ok5, pa5, qn, (fun q hq => ⟨Nat.lt_succ_of_lt (qo q hq).1, (qo q hq).2⟩), Nat.le_succ_of_le ql, px5⟩
        · rintro H4 ⟨r4, m4, acc, qs, lv4, ok4, pa, qn, qo, ql, px⟩
          wide_line
          have al := paired_len pa
          have xl := paired_len px
          rw [Int.toNat_natCast] at ql qo
          refine ⟨by rw [sizeLine_eq]; omega, ?_⟩
          wide_line with al lv4 l5 nl5 H5 lv5 s5
          exact ⟨r4, m4, l5, _, ps ++ qs, _, _, _, _, rfl, lv5.pick2 0 4 (by decide) rfl rfl, ok4, paired_app (px.keep (.same s5)) (pa.keep (.same s5)), po.add qn (fun q hq => ⟨(by have := qo q hq; omega), (qo q hq).2⟩), by simp; omega⟩
      · have xl := paired_len pt3
        refine ifs_any (fun _ => True) (fun Q hQ => ?_) (fun _ => ?_) (fun _ => ?_)
        · wide_line
          refine ite2 (fun c => ?_) (fun c => ?_)
          · exact hQ _ True.intro
          · wide_line
            refine ite2 (fun c => ?_) (fun c => ?_)
            · wide_line
              exact hQ _ True.intro
            · exact hQ _ True.intro
        · wide_line
          wide_line with al lv3 t1 nt1 H4 lv4 s4
          rw [show ((1 + i : Nat) : Int) - 1 = (i : Nat) by omega] at lv4
          wide_line
          refine ⟨by rw [sizeLine_eq]; omega, ?_⟩
          wide_line with stk lv4 2 H5 lv5 kt5
          have pt5 : PairsT H5 (xs ++ [.ref t1]) (ps ++ [(i, 1 + i)]) := paired_app ((pt3.keep (.same s4)).keep kt5) (.cons ⟨t1, rfl, kt5 _ _ (lv4.get 0 rfl)⟩ (.nil : PairsT H5 [] []) : PairsT H5 [.ref t1] [(i, 1 + i)])
          dsimp only
          refine ifs_any (fun b => b = true → 1 ≤ i) (fun Q hQ => ?_) (fun c => ?_) (fun _ => ?_)
          · have second : tAnd (tTest (tOp rEq (tVar 2) (tC (V.int 3)))) (tTest (tOp rEq (tVar 4) (tC (V.int 3)))) ([some (.ref p), some (.int n), some (.int kd), some (.ref l), some (.int ((1 + i : Nat) : Int)), u5, u6, u7]) H5 Q := by
              wide_line
              refine ite2 (fun c => ?_) (fun c => ?_)
              · wide_line
                exact hQ _ (fun z => by have := of_decide_eq_true z; injection this with this; omega)
              · exact hQ _ (fun z => nomatch z)
            wide_line
            refine ite2 (fun c => ?_) (fun c => ?_)
            · wide_line
              refine ite2 (fun c => ?_) (fun c => ?_)
              · exact hQ _ (fun z => by have := of_decide_eq_true c; omega)
              · exact second
            · exact iteF second
          · have c := c rfl
            wide_line
            wide_line with al lv5 t2 nt2 H6 lv6 s6
            wide_line
            refine ⟨by rw [sizeLine_eq]; simp; omega, ?_⟩
            wide_line with stk lv6 3 H7 lv7 kt7
            refine ⟨r2, m2, l, _, _, _, _, _, _, rfl, lv7.pick2 3 4 (by decide) rfl rfl, ok2, paired_app ((pt5.keep (.same s6)).keep kt7) (.cons ⟨t2, rfl, kt7 _ _ (lv6.get 0 rfl)⟩ (.nil : PairsT H7 [] []) : PairsT H7 [.ref t2] [(0, 1 + i)]), ?_, by simp; omega⟩
            rw [List.append_assoc]
            refine po.add ?_ ?_
            · simp; omega
            · intro q hq
              simp at hq
              rcases hq with rfl | rfl
              · exact ⟨by show i < 1 + i; omega, rfl⟩
              · exact ⟨by show 0 < 1 + i; omega, rfl⟩
          · refine ⟨r2, m2, l, _, _, _, _, _, _, rfl, lv5.pick2 2 3 (by decide) rfl rfl, ok2, pt5, ?_, by simp; omega⟩
            refine po.add (by simp) ?_
            intro q hq
            rw [List.mem_singleton.mp hq]
            exact ⟨by show i < 1 + i; omega, rfl⟩
        · refine ifs_any (fun _ => True) (fun Q hQ => ?_) (fun _ => ?_) (fun _ => ?_)
          · wide_line
            exact hQ _ True.intro
          · wide_line
            intro r4 m4 j ok4 j0 j1
            obtain ⟨a, rfl⟩ := Int.eq_ofNat_of_zero_le j0
            wide_line with stk lv3 2 H4 lv4 kt4
            wide_line
            wide_line with al lv4 t1 nt1 H5 lv5 s5
            wide_line
            refine ⟨by rw [sizeLine_eq]; omega, ?_⟩
            wide_line with stk lv5 2 H6 lv6 kt6
            refine ⟨r4, m4, l, _, ps ++ [(a, 1 + i)], _, _, _, _, rfl, lv6.pick2 2 3 (by decide) rfl rfl, ok4, paired_app (((pt3.keep kt4).keep (.same s5)).keep kt6) (.cons ⟨t1, rfl, kt6 _ _ (lv5.get 0 rfl)⟩ (.nil : PairsT H6 [] []) : PairsT H6 [.ref t1] [(a, 1 + i)]), ?_, by simp; omega⟩
            refine po.add (by simp) ?_
            intro q hq
            rw [List.mem_singleton.mp hq]
            exact ⟨by show a < 1 + i; omega, rfl⟩
          · wide_line
            intro r4 m4 j ok4 j0 j1
            obtain ⟨a, rfl⟩ := Int.eq_ofNat_of_zero_le j0
            wide_line with stk lv3 2 H4 lv4 kt4
            wide_line
            have pt4 := pt3.keep kt4
            intro D nD
            refine lc_range (fun j H' => Hold (∃ ss : List Nat, Lv H [p] H' [(D, .lst (ss.map fun z => V.int (z : Nat))), (t0, .tup [.int 0, .int 1]), (l, .lst xs), (p, .lst [.int r4, .int m4])] ∧ ss.Nodup ∧ (∀ z ∈ ss, z < j ∧ z ≠ a) ∧ ss.length ≤ j ∧ PairsT H' xs ps))
              ⟨[], lv4.al nD, List.nodup_nil, (fun _ z => nomatch z), Nat.zero_le _, pt4.keep (.same (same_new nD))⟩ ?_ ?_
            · rintro j H5 hj ⟨ss, lv5, sn, so, sl, px⟩
              rw [Int.zero_add]
              wide_line
              wide_line with al lv5 t1 nt1 H6 lv6 s6
              have e1 : (if (a : Int) < (j : Nat) then (a : Int) else (j : Nat)) = ((if a < j then a else j : Nat) : Int) := by split <;> split <;> omega
              have e2 : (if (a : Int) > (j : Nat) then (a : Int) else (j : Nat)) = ((if a > j then a else j : Nat) : Int) := by split <;> split <;> omega
              rw [e1, e2] at lv6
              have px6 := px.keep (.same s6)
              wide_line
              refine ⟨(.tup (SqT.of (lv6.get 0 rfl)) (.cons (.int _) (.cons (.int _) .nil)) : Dp K H6 (.ref t1) (pairI (if a < j then a else j, if a > j then a else j))), .lst (SqL.of (lv6.get 3 rfl)) px6.dp, shaped_pair _, shaped_pairs _, ?_⟩
              rw [show ((ps.map pairI).any fun z => PyData.eqv z (.tuple [.int ((if a < j then a else j : Nat) : Int), .int ((if a > j then a else j : Nat) : Int)])) = decide (((if a < j then a else j), (if a > j then a else j)) ∈ ps) from any_pairI ps ((if a < j then a else j), (if a > j then a else j))]
              wide_line
              refine ite2 (fun c => ?_) (fun c => ?_)
              · wide_line
                refine ⟨by rw [List.length_map, sizeLine_eq]; omega, ?_⟩
                wide_line with stk lv6 1 H7 lv7 kt7
                refine ⟨ss ++ [j], ?_, ?_, ?_, by simp; omega, px6.keep kt7⟩
                · rw [List.map_append]
                  exact lv7.tl (fun z => lv6.ne 0 4 (by decide) rfl rfl (List.mem_singleton.mp z))
                · refine List.nodup_append.mpr ⟨sn, by simp, fun x hx y hy e => ?_⟩
                  subst e
                  have := (so x hx).1
                  rw [List.mem_singleton.mp hy] at this
                  exact absurd this (Nat.lt_irrefl _)
                · intro z hz
                  rcases List.mem_append.mp hz with z1 | z1
                  · have := so z z1; exact ⟨by omega, this.2⟩
                  · rw [List.mem_singleton.mp z1]
                    refine ⟨Nat.lt_succ_self j, fun e => ?_⟩
                    subst e
                    have := (po.2 _ (of_decide_eq_true c)).1
                    simp at this
              · exact ⟨ss, lv6.tl (fun z => lv6.ne 0 4 (by decide) rfl rfl (List.mem_singleton.mp z)), sn, (fun z hz => ⟨Nat.lt_succ_of_lt (so z hz).1, (so z hz).2⟩), Nat.le_succ_of_le sl, px6⟩
            · rintro H5 ⟨ss, lv5, sn, so, sl, px⟩
              rw [Int.toNat_natCast] at sl so
              have xl5 := paired_len px
              wide_line
              wide_line with al lv5 t1 nt1 H6 lv6 s6
              wide_line
              wide_line with al lv6 l1 nl1 H7 lv7 s7
              wide_line
              refine ⟨by rw [sizeLine_eq]; simp; omega, ?_⟩
              wide_line with al lv7 l2 nl2 H8 lv8 s8
              have s68 := s7.trans s8
              have px8 : PairsT H8 (xs ++ [.ref t1]) (ps ++ [(a, 1 + i)]) := paired_app (px.keep (.same (s6.trans s68))) (.cons ⟨t1, rfl, s68 _ _ (lv6.get 0 rfl)⟩ .nil)
              wide_line
              intro D2 nD2
              have lvD := lv8.al (o := .lst []) nD2
              refine lc_list (K := K) (a := D) (xs := ss.map fun z => V.int (z : Nat)) (fun k H' => Hold (∃ (r m : Int) (acc : List V) (sub : List Nat), Lv H [p] H' [(D2, .lst acc), (l2, .lst (xs ++ [.ref t1])), (D, .lst (ss.map fun z => V.int (z : Nat))), (p, .lst [.int r, .int m])] ∧ SrcOk r m ∧ PairsT H' acc (sub.map fun z => (z, 1 + i)) ∧ sub.Sublist (ss.take k) ∧ sub.length ≤ k ∧ PairsT H' (xs ++ [.ref t1]) (ps ++ [(a, 1 + i)])))
                ⟨r4, m4, [], [], lvD.picks [0, 1, 4, 7] rfl (by decide) (by simp), ok4, .nil, List.nil_sublist _, Nat.zero_le _, px8.keep (.same (same_new nD2))⟩ (fun k H' _ ⟨_, _, _, _, z, _⟩ => SqL.of (z.get 2 rfl)) ?_ ?_
              · rintro k y H9 hy ⟨r9, m9, acc, sub, lv9, ok9, pa, sb, sbl, px9⟩
                obtain ⟨z, hz, rfl⟩ : ∃ z, ss[k]? = some z ∧ y = .int (z : Nat) := by
                  rw [List.getElem?_map] at hy
                  cases e : ss[k]? with
                  | none => rw [e] at hy; cases hy
                  | some z => rw [e] at hy; exact ⟨z, rfl, (Option.some.inj hy).symm⟩
                have kl := (List.getElem?_eq_some_iff.mp hz).1
                wide_line
                intro r10 m10 j ok10 j0 j1
                wide_line with stk lv9 3 H10 lv10 kt10
                wide_line
                have pa10 := pa.keep kt10
                have px10 := px9.keep kt10
                have tk : ss.take (k + 1) = ss.take k ++ [z] := by rw [List.take_succ, hz]; rfl
                refine ite2 (fun c => ?_) (fun c => ?_)
                · wide_line
                  wide_line with al lv10 t2 nt2 H11 lv11 s11
                  wide_line
                  have al := paired_len pa
                  rw [List.length_map] at al
                  refine ⟨by rw [sizeLine_eq]; omega, ?_⟩
                  wide_line with stk lv11 1 H12 lv12 kt12
                  have kt := (KeepT.same s11).trans kt12
                  refine ⟨r10, m10, _, sub ++ [z], lv12.tl (fun z => lv11.ne 0 4 (by decide) rfl rfl (List.mem_singleton.mp z)), ok10, ?_, ?_, by simp; omega, px10.keep kt⟩
                  · rw [List.map_append]
                    exact paired_app (pa10.keep kt) (.cons ⟨t2, rfl, kt12 _ _ (lv11.get 0 rfl)⟩ .nil)
                  · rw [tk]
                    exact List.Sublist.append sb (List.Sublist.refl _)
                · exact ⟨r10, m10, acc, sub, lv10, ok10, pa10, by rw [tk]; exact sb.trans (List.sublist_append_left _ _), Nat.le_succ_of_le sbl, px10⟩
              · rintro H9 ⟨r9, m9, acc, sub, lv9, ok9, pa, sb, sbl, px9⟩
                rw [List.length_map] at sb sbl
                rw [List.take_length] at sb
                have al := paired_len pa
                rw [List.length_map] at al
                have xl9 := paired_len px9
                wide_line
                refine ⟨by rw [sizeLine_eq]; simp at xl9 ⊢; omega, ?_⟩
                wide_line with al lv9 l3 nl3 H10 lv10 s10
                refine ⟨r9, m9, l3, _, (ps ++ [(a, 1 + i)]) ++ sub.map fun z => (z, 1 + i), _, _, _, _, rfl, lv10.pick2 0 4 (by decide) rfl rfl, ok9, paired_app (px9.keep (.same s10)) (pa.keep (.same s10)), ?_, by simp; omega⟩
                rw [List.append_assoc]
                refine po.add ?_ ?_
                · refine List.nodup_append.mpr ⟨by simp, nodup_inj (fun x y e => (Prod.mk.inj e).1) (sn.sublist sb), fun x hx y hy e => ?_⟩
                  subst e
                  rw [List.mem_singleton.mp hx] at hy
                  obtain ⟨z, hz, e⟩ := List.mem_map.mp hy
                  exact (so z (sb.subset hz)).2 (Prod.mk.inj e).1
                · intro q hq
                  rcases List.mem_append.mp hq with z | z
                  · rw [List.mem_singleton.mp z]
                    exact ⟨by show a < 1 + i; omega, rfl⟩
                  · obtain ⟨y, hy, rfl⟩ := List.mem_map.mp z
                    exact ⟨(so y (sb.subset hy)).1, rfl⟩
    · rintro σ H2 ⟨r2, m2, l, xs, ps, u4, u5, u6, u7, rfl, lv2, ok2, pt, po, pl⟩
      wide_line
      have e : 1 + ((n : Int) - 1).toNat = n := by omega
      exact k r2 m2 ps xs l H2 ok2 (e ▸ po) lv2.off (lv2.get 1 rfl) (lv2.fresh 0 rfl (fun z => lv2.ne 0 1 (by decide) rfl rfl (List.mem_singleton.mp z))) (lv2.get 0 rfl) pt
end
end Pw

set_option Elab.async false
set_option linter.all false
set_option maxRecDepth 100000
set_option maxHeartbeats 4000000
namespace Pw
open PySem PySem.Spec PyProof.Rows L2 Ct
theorem iteNN {c A B : Prop} [Decidable c] (hc : ¬ c) (h : A) : if (!decide c) = true then A else B := by
  rw [decide_eq_false hc]
  exact iteT h
/-- names: a list or tuple of texts -/
abbrev Nms (K : PySem.W.Frag) (H : Hp) (a : Addr) (ns : List Str) : Prop := SqS K H a (ns.map V.str)
theorem map_kv (ns : List Str) : (ns.map Sum.inr : List Key).map kV = ns.map V.str := by rw [List.map_map]; rfl
theorem nodup_inr {ns : List Str} : (ns.map (Sum.inr : Str → Key)).Nodup ↔ ns.Nodup := by
  constructor
  · exact fun h => List.Pairwise.of_map _ (fun _ _ hne e => hne (congrArg _ e)) h
  · exact fun h => List.Pairwise.map _ (fun _ _ hne e => hne (Sum.inr.inj e)) h
def spAllDiffer (K : PySem.W.Frag) : Sp := fun vs H Q _ => ∃ (a : Addr) (ns : List Str), vs = [.ref a] ∧ Nms K H a ns ∧ ns.length < 4096 ∧ ∀ H', Same H H' → (ns.Nodup → Q (.bl true) H') ∧ (¬ ns.Nodup → Q (.bl false) H')
/-- a tuple of two data -/
def tieD : PyData → Option (PyData × PyData)
  | .tuple [x, y] => some (x, y)
  | _ => none
/-- the datum is a tie among the names -/
def tieOf (ns : List Str) : PyData → Option (Str × Str)
  | .tuple [x, y] => match x, y with
    | .str a, .str b => if a ∈ ns ∧ b ∈ ns ∧ a ≠ b then some (a, b) else none
    | _, _ => none
  | _ => none
theorem tie_no1 {ns : List Str} {x y : PyData} (h : amid x ns = false) : tieOf ns (.tuple [x, y]) = none := by
  cases x with
  | str a =>
    cases y with
    | str b => exact if_neg fun z => Bool.noConfusion (h.symm.trans (amid_str.mpr z.1))
    | _ => rfl
  | _ => rfl
theorem tie_no2 {ns : List Str} {x y : PyData} (h : amid y ns = false) : tieOf ns (.tuple [x, y]) = none := by
  cases x with
  | str a =>
    cases y with
    | str b => exact if_neg fun z => Bool.noConfusion (h.symm.trans (amid_str.mpr z.2.1))
    | _ => rfl
  | _ => rfl
theorem tie_yes {ns : List Str} {x y : Str} (h1 : amid (.str x) ns = true) (h2 : amid (.str y) ns = true) : (tieOf ns (.tuple [.str x, .str y])).isSome = !decide (V.str x = V.str y) := by
  show (if x ∈ ns ∧ y ∈ ns ∧ x ≠ y then some (x, y) else none).isSome = _
  by_cases e : x = y
  · rw [if_neg (fun z => z.2.2 e), e]; simp
  · rw [if_pos ⟨amid_str.mp h1, amid_str.mp h2, e⟩, decide_eq_false (fun z => e (V.str.inj z))]; rfl
/-- no dict within -/
def flatD : PyData → Bool
  | .dict _ => false
  | _ => true
mutual
def noDict : PyData → Bool
  | .dict _ => false
  | .list xs => noDicts xs
  | .tuple xs => noDicts xs
  | _ => true
def noDicts : List PyData → Bool
  | [] => true
  | x :: xs => noDict x && noDicts xs
end
mutual
theorem Dq.dp {K : PySem.W.Frag} {H : Hp} : ∀ {v : V} {d : PyData}, Dq K H v d → noDict d = true → Dp K H v d
  | _, _, .non, _ => .non
  | _, _, .bl b, _ => .bl b
  | _, _, .int i, _ => .int i
  | _, _, .str x, _ => .str x
  | _, _, .lst h a, n => .lst h (DqAll.dp a (by simpa [noDict] using n))
  | _, _, .tup h a, n => .tup h (DqAll.dp a (by simpa [noDict] using n))
  | _, _, .dic _ _ _ _, n => absurd n (by simp [noDict])
  | _, _, .dicT _ _ _ _, n => absurd n (by simp [noDict])
theorem DqAll.dp {K : PySem.W.Frag} {H : Hp} : ∀ {vs : List V} {ds : List PyData}, DqAll K H vs ds → noDicts ds = true → DpAll K H vs ds
  | _, _, .nil, _ => .nil
  | _, _, .cons h a, n => by
    rw [noDicts, Bool.and_eq_true] at n
    exact .cons (Dq.dp h n.1) (DqAll.dp a n.2)
end
/-- the entries are of a kind that can be compared -/
def plainTie : PyData → Prop
  | .tuple [x, y] => noDict x = true ∧ noDict y = true
  | _ => True
def spIsTie (K : PySem.W.Frag) : Sp := fun vs H Q _ => ∃ (a : Addr) (ns : List Str) (v : V) (d : PyData), vs = [.ref a, v] ∧ Nms K H a ns ∧ Dq K H v d ∧ plainTie d ∧ Q (.bl (tieOf ns d).isSome) H
/-- a tie's pair: the lesser text first -/
def ltS (x y : Str) : Bool := decide (x.cps.toList < y.cps.toList)
def pairS (x y : Str) : Str × Str := if ltS x y = true then (x, y) else (y, x)
def TupS (K : PySem.W.Frag) (H : Hp) (a : Addr) (p : Str × Str) : Prop := SqT K H a [.str p.1, .str p.2]
def spPair (K : PySem.W.Frag) : Sp := fun vs H Q _ => ∃ (a : Addr) (x y : Str), vs = [.ref a] ∧ TupS K H a (x, y) ∧ ∀ p, H p = none → Q (.ref p) (upd H p (.tup [.str (pairS x y).1, .str (pairS x y).2]))
section
variable {P : Program} {w : World} {K : PySem.W.Frag} {mg : Str → Option Value} {base : Heap}
abbrev sAllDiffer : Stmt := top ix_all_differ
theorem scAllDiffer : FnScope ["names"] ["names"] (defScope sAllDiffer) := ⟨rfl, rfl, rfl, by decide +kernel, rfl, by decide +kernel, by decide +kernel⟩
theorem has_all_differ (T : Bn mg) (D : DFE K mg "_all_differ" sAllDiffer ["names"]) : Has P w K mg base CX0 1 "_all_differ" ["names"] (spAllDiffer K) := by
  refine has_of D scAllDiffer (fun vs H Q E h => ?_) (fun f cdv A outer s H vs Q E hr h => ?_)
  · obtain ⟨a, ns, rfl, _⟩ := h; rfl
  · obtain ⟨a, ns, rfl, ha, hl, k⟩ := h
    have nd := scAllDiffer.nd
    refine ⟨_, (pss_one (ps_ret (pe_cmpR op_eq (pe_callB call_lenK (by rfl) T.z_len (by decide +kernel) (pa_cons (pe_callTy (call_setOf rfl) (by rfl) T.z_set (by decide +kernel) (pa_cons (pv 0) pa_nil)) pa_nil)) (pe_callB call_len_seq (by rfl) T.z_len (by decide +kernel) (pa_cons (pv 0) pa_nil)) (by first | exact nomark _ | rfl)))), ?_⟩
    refine ⟨_, rfl, a, ns.map Sum.inr, rfl, by rw [map_kv]; exact ha, by rw [List.length_map]; exact hl, fun p hp => ?_⟩
    have u := same_new (o := SetK P w p (fun k => (ns.map Sum.inr : List Key).any (fun j => decide (j = k))) (cnt (ns.map Sum.inr) (ns.map (Sum.inr : Str → Key)).length)) hp
    obtain ⟨H', hH'⟩ : ∃ H', H' = upd H p (SetK P w p (fun k => (ns.map Sum.inr : List Key).any (fun j => decide (j = k))) (cnt (ns.map Sum.inr) (ns.map (Sum.inr : Str → Key)).length)) := ⟨_, rfl⟩
    obtain ⟨k1, k2⟩ := k _ u
    rw [← hH'] at k1 k2
    refine ⟨p, _, _, rfl, upd_same, _, rfl, a, ns.map V.str, rfl, SqS.same u ha, rfl, ?_⟩
    have e : decide ((cnt (ns.map (Sum.inr : Str → Key)) (ns.map (Sum.inr : Str → Key)).length : Int) = ((ns.map V.str).length : Nat)) = decide ns.Nodup := by
      have z := cnt_eq (ns.map (Sum.inr : Str → Key)) _ (Nat.le_refl _)
      rw [List.take_length, nodup_inr] at z
      refine decide_eq_decide.mpr (Iff.trans ?_ z)
      rw [List.length_map, List.length_map]
      omega
    have ev : decide (V.int (cnt (ns.map (Sum.inr : Str → Key)) (ns.map (Sum.inr : Str → Key)).length : Nat) = V.int ((ns.map V.str).length : Nat)) = decide ns.Nodup := by
      rw [← e]
      exact decide_eq_decide.mpr ⟨fun z => V.int.inj z, fun z => congrArg V.int z⟩
    have fin : Q (.bl (decide ns.Nodup)) H' := by
      by_cases c : ns.Nodup
      · rw [decide_eq_true c]; exact k1 c
      · rw [decide_eq_false c]; exact k2 c
    rw [← ev, hH'] at fin
    exact fin
abbrev sIsTie : Stmt := top ix_is_tie
theorem scIsTie : FnScope ["places", "value", "one", "other"] ["places", "value"] (defScope sIsTie) := ⟨rfl, rfl, rfl, by decide +kernel, rfl, by decide +kernel, by decide +kernel⟩
theorem has_is_tie (T : Bn mg) (D : DFE K mg "_is_tie" sIsTie ["places", "value"]) : Has P w K mg base CX0 1 "_is_tie" ["places", "value"] (spIsTie K) := by
  refine has_of D scIsTie (fun vs H Q E h => ?_) (fun f cdv A outer s H vs Q E hr h => ?_)
  · obtain ⟨a, ns, v, d, rfl, _⟩ := h; rfl
  · obtain ⟨a, ns, v, d, rfl, ha, hd, pl, k⟩ := h
    have nd := scIsTie.nd
    refine ⟨_, (pss_cons (ps_if (PW.pt (pw_or (pt_not (pt_val (pe_callB call_isD (by rfl) T.z_isinstance (by decide +kernel) (pa_cons (pv 1) (pa_cons (pe_bltn (v := .ty "tuple") rfl T.z_tuple (by decide +kernel) rfl) pa_nil))))) (pw_or1 (pt_cmpR op_ne (pe_callB call_len_seq (by rfl) T.z_len (by decide +kernel) (pa_cons (pv 1) pa_nil)) pe_int (by first | exact nomark _ | rfl))))) (pss_one (ps_ret pe_bl)) pss_nil)
    (pss_cons (ps_asg (pv 1) (pg_tup rfl (pgs_cons (pg_name (i := 2) nd rfl (by first | exact Or.inl rfl | exact Or.inr rfl)) (pgs_cons (pg_name (i := 3) nd rfl (by first | exact Or.inl rfl | exact Or.inr rfl)) pgs_nil))))
    (pss_one (ps_ret (pe_and (pe_cmpR (or_amid hr.units) (pv 2) (pv 0) (by first | exact nomark _ | rfl)) (pe_and (pe_cmpR (or_amid hr.units) (pv 3) (pv 0) (by first | exact nomark _ | rfl)) (pe_one (pe_cmpR op_ne (pv 2) (pv 3) (by first | exact nomark _ | rfl))))))))), ?_⟩
    have no : tieOf ns d = none → Q (.bl false) H := fun e => by rw [e] at k; exact k
    refine ⟨_, rfl, _, d, "tuple", _, rfl, hd, kit_tuple d, _, rfl, ?_⟩
    cases hd with
    | @tup t xs ds ht hx =>
      refine iteF ⟨_, rfl, _, _, rfl, .inr ht, rfl, _, rfl, ?_⟩
      cases hx with
      | nil => exact iteT (no rfl)
      | @cons v1 vs1 d1 ds1 h1 hx =>
        cases hx with
        | nil => exact iteT (no rfl)
        | @cons v2 vs2 d2 ds2 h2 hx =>
          cases hx with
          | @cons v3 vs3 d3 ds3 h3 hx =>
            refine iteNN (fun z => ?_) (no rfl)
            have := V.int.inj z
            simp only [List.length_cons] at this
            omega
          | nil =>
            refine iteNS rfl ?_
            obtain ⟨p1, p2⟩ := pl
            refine ⟨_, rfl, t, _, rfl, ht, rfl, ?_⟩
            refine ⟨_, _, rfl, _, _, rfl, rfl, ?_⟩
            refine ⟨_, rfl, _, rfl, d1, a, ns, rfl, ha, Dq.dp h1 p1, ?_⟩
            rw [if_neg (by decide)]
            refine ⟨_, rfl, ?_⟩
            have two : ∀ b : Bool, b = (tieOf ns (.tuple [d1, d2])).isSome → Q (.bl b) H := fun b e => by subst e; exact k
            cases c1 : amid d1 ns with
            | false => exact iteF (two false (by rw [tie_no1 c1]; rfl))
            | true =>
              refine iteT ⟨_, rfl, _, rfl, d2, a, ns, rfl, ha, Dq.dp h2 p2, ?_⟩
              rw [if_neg (by decide)]
              refine ⟨_, rfl, ?_⟩
              cases c2 : amid d2 ns with
              | false => exact iteF (two false (by rw [tie_no2 c2]; rfl))
              | true =>
                refine iteT ?_
                cases d1 with
                | str x =>
                  cases d2 with
                  | str y =>
                    cases h1
                    cases h2
                    exact ⟨_, rfl, _, rfl, rfl, two _ (tie_yes c1 c2).symm⟩
                  | _ => exact absurd c2 Bool.false_ne_true
                | _ => exact absurd c1 Bool.false_ne_true
    | _ => exact no rfl
abbrev sPair : Stmt := top ix_pair
theorem scPair : FnScope ["tie", "one", "other"] ["tie"] (defScope sPair) := ⟨rfl, rfl, rfl, by decide +kernel, rfl, by decide +kernel, by decide +kernel⟩
theorem has_pair (D : DFE K mg "_pair" sPair ["tie"]) : Has P w K mg base CX0 1 "_pair" ["tie"] (spPair K) := by
  refine has_of D scPair (fun vs H Q E h => ?_) (fun f cdv A outer s H vs Q E hr h => ?_)
  · obtain ⟨a, x, y, rfl, _⟩ := h; rfl
  · obtain ⟨a, x, y, rfl, ha, k⟩ := h
    have nd := scPair.nd
    refine ⟨_, (pss_cons (ps_asg (pv 0) (pg_tup rfl (pgs_cons (pg_name (i := 1) nd rfl (by first | exact Or.inl rfl | exact Or.inr rfl)) (pgs_cons (pg_name (i := 2) nd rfl (by first | exact Or.inl rfl | exact Or.inr rfl)) pgs_nil))))
    (pss_one (ps_ret (pe_ifExp (pt_cmpR op_lt_str (pv 1) (pv 2) (by first | exact nomark _ | rfl)) (pe_tup (pa_cons (pv 1) (pa_cons (pv 2) pa_nil))) (pe_tup (pa_cons (pv 2) (pa_cons (pv 1) pa_nil))))))), ?_⟩
    refine ⟨_, rfl, a, _, rfl, ha, rfl, _, _, rfl, _, _, rfl, rfl, ?_⟩
    refine ⟨_, rfl, _, rfl, _, _, rfl, rfl, _, rfl, ?_⟩
    have kk : ∀ p, H p = none → Q (.ref p) (upd H p (.tup [.str (pairS x y).1, .str (pairS x y).2])) := k
    unfold pairS ltS at kk
    refine ite2 (fun c => ?_) (fun c => ?_)
    · rw [if_pos c] at kk
      exact ⟨_, rfl, _, rfl, by show 2 ≤ sizeLine; decide, kk⟩
    · rw [if_neg c] at kk
      exact ⟨_, rfl, _, rfl, by show 2 ≤ sizeLine; decide, kk⟩
end
end Pw

set_option Elab.async false
set_option linter.all false
set_option maxRecDepth 100000
set_option maxHeartbeats 4000000
namespace Pw
open PySem PySem.Spec PyProof.Rows L2 Ct
/-- the items of a list or a tuple -/
def seqD : PyData → Option (List PyData)
  | .list ds => some ds
  | .tuple ds => some ds
  | _ => none
/-- the texts among data -/
def strsD : List PyData → List Str
  | [] => []
  | .str x :: ds => x :: strsD ds
  | _ :: ds => strsD ds
/-- the places that a datum is -/
def placesOf (d : PyData) : Option (List Str) := match seqD d with
  | some ds => if (1 ≤ ds.length ∧ ds.length ≤ 12) ∧ ds.all nameD = true ∧ (strsD ds).Nodup then some (strsD ds) else none
  | none => none
/-- the texts within are of a length that can be walked -/
def txtOk (d : PyData) : Prop := ∀ ds, seqD d = some ds → ds.length ≤ 4000 ∧ ∀ x, PyData.str x ∈ ds → x.length ≤ sizeLine
theorem strs_of {K : PySem.W.Frag} {H : Hp} : ∀ {xs : List V} {ds : List PyData}, DqAll K H xs ds → ds.all nameD = true → xs = (strsD ds).map V.str ∧ (strsD ds).length = ds.length
  | _, _, .nil, _ => ⟨rfl, rfl⟩
  | _, _, .cons (d := d) h t, n => by
    rw [List.all_cons, Bool.and_eq_true] at n
    obtain ⟨e1, e2⟩ := strs_of t n.2
    cases d with
    | str x =>
      cases h
      exact ⟨by rw [e1]; rfl, by show (strsD _).length + 1 = _ + 1; rw [e2]⟩
    | _ => exact absurd n.1 Bool.false_ne_true
/-- a list or a tuple, its items -/
theorem seq_of {K : PySem.W.Frag} {H : Hp} {v : V} {d : PyData} (h : Dq K H v d) {ds : List PyData} (e : seqD d = some ds) : ∃ a xs, v = .ref a ∧ SqS K H a xs ∧ DqAll K H xs ds ∧ xs.length = ds.length := by
  have len : ∀ {xs : List V} {ds : List PyData}, DqAll K H xs ds → xs.length = ds.length := by
    intro xs
    induction xs with
    | nil => intro ds h; cases h; rfl
    | cons x xs ih => intro ds h; cases h with | cons h t => rw [List.length_cons, List.length_cons, ih t]
  cases h with
  | @lst a xs ds' hs ha => cases e; exact ⟨a, xs, rfl, .inl hs, ha, len ha⟩
  | @tup a xs ds' hs ha => cases e; exact ⟨a, xs, rfl, .inr hs, ha, len ha⟩
  | _ => cases e
theorem kit_seq (d : PyData) : ∃ b1 b2, kitB (dty d) "list" = some b1 ∧ kitB (dty d) "tuple" = some b2 ∧ (b1 || b2) = (seqD d).isSome := by
  cases d <;> exact ⟨_, _, kit_list _, kit_tuple _, rfl⟩
theorem dqAll_at {K : PySem.W.Frag} {H : Hp} : ∀ {xs : List V} {ds : List PyData}, DqAll K H xs ds → ∀ {i : Nat} {x : V}, xs[i]? = some x → ∃ d, ds[i]? = some d ∧ Dq K H x d
  | _, _, .nil, _, _, e => by simp at e
  | _, _, .cons h t, 0, _, e => by simp at e; subst e; exact ⟨_, rfl, h⟩
  | _, _, .cons h t, i + 1, _, e => by
    obtain ⟨d, e1, e2⟩ := dqAll_at t (i := i) (by simpa using e)
    exact ⟨d, by simpa using e1, e2⟩
/-- what is raised: the class, its own dict with the one field -/
def Raised (C : Addr) (f : Str) (H : Hp) (v : V) (E : XK) : Prop := ∀ d H', Same H H' → H d = none → H' d = some (.xd [(f, v)]) → E (.ref C) (some d) H'
def spCheckPlaces (K : PySem.W.Frag) (C : Addr) : Sp := fun vs H Q E => ∃ (v : V) (d : PyData), vs = [v] ∧ Dq K H v d ∧ txtOk d ∧ ((placesOf d).isSome = true → ∀ H', Same H H' → Q .non H') ∧ (placesOf d = none → Raised C "value" H v E)
section
variable {P : Program} {w : World} {K : PySem.W.Frag} {mg : Str → Option Value} {base : Heap} {C : Addr}
abbrev sCheckPlaces : Stmt := top ix_check_places
theorem scCheckPlaces : FnScope ["places", "place"] ["places"] (defScope sCheckPlaces) := ⟨rfl, rfl, rfl, by decide +kernel, rfl, by decide +kernel, by decide +kernel⟩
theorem has_check_places (T : Bn mg) (M : Mc mg) (D : DFE K mg "_check_places" sCheckPlaces ["places"]) (h_is_name : Has P w K mg base CX0 1 "is_name" ["value"] (spIsName K)) (h_all_differ : Has P w K mg base CX0 1 "_all_differ" ["names"] (spAllDiffer K))
    (hE_BadPlaces : HasE P w K mg base 1 "BadPlaces" C "value") : HasR P w K mg base 3 "_check_places" ["places"] (spCheckPlaces K C) := by
  refine hasR_of D scCheckPlaces (fun vs H Q E h => ?_) (fun f cdv A outer s H vs Q E hr h => ?_)
  · obtain ⟨v, d, rfl, _⟩ := h; rfl
  · obtain ⟨v, d, rfl, hd, hx, ky, kn⟩ := h
    have nd := scCheckPlaces.nd
    refine ⟨_, (pss_cons (ps_if (PW.pt (pw_or (pt_not (pt_val (pe_callB call_isDT (by rfl) T.z_isinstance (by decide +kernel) (pa_cons (pv 0) (pa_cons (pe_tup (pa_cons (pe_bltn (v := .ty "list") rfl T.z_list (by decide +kernel) rfl) (pa_cons (pe_bltn (v := .ty "tuple") rfl T.z_tuple (by decide +kernel) rfl) pa_nil))) pa_nil))))) (pw_or1 (pt_not (pt_chain op_le op_le pe_int (pe_callB call_len_seq (by rfl) T.z_len (by decide +kernel) (pa_cons (pv 0) pa_nil)) (pe_gi rfl M.g_MOST_PLACES)))))) (pss_one (ps_raise rfl (takes_of rfl rfl rfl rfl) (pmk_x hE_BadPlaces hr (by decide) rfl (pv 0)))) pss_nil)
    (pss_one (ps_if (PW.pt (pw_or (pt_not (pt_val (pe_callB (cr_all rfl) (by rfl) T.z_all (by decide +kernel) (pa_cons (pe_lc (own := [("place", 1)]) (g := gName 1) (tt := tYes) rfl nd (pi_sq (pv 0)) (blkOk_by (own := [("place", 1)]) (N := ["places", "place"]) (sc := defScope sCheckPlaces) (by decide +kernel)) (fun _ _ _ _ _ => (pg_name (i := 1) nd rfl (by first | exact Or.inl rfl | exact Or.inr rfl))) (fun _ _ _ _ _ => pts_nil) (fun _ _ _ _ _ => (pe_h h_is_name hr (by decide) rfl (pa_cons (pv 1) pa_nil)))) pa_nil)))) (pw_or1 (pt_not (pt_val (pe_h h_all_differ hr (by decide) rfl (pa_cons (pv 0) pa_nil))))))) (pss_one (ps_raise rfl (takes_of rfl rfl rfl rfl) (pmk_x hE_BadPlaces hr (by decide) rfl (pv 0)))) pss_nil))), ?_⟩
    -- what is raised
    have bad : placesOf d = none → ∀ H1, Same H H1 → ∀ e, H1 e = none → E (.ref C) (some e) (upd H1 e (.xd [("value", v)])) := fun z H1 s1 e he =>
      kn z e _ (same_upd s1 (by cases q : H e with | none => rfl | some o => rw [s1 e o q] at he; cases he)) (by cases q : H e with | none => rfl | some o => rw [s1 e o q] at he; cases he) upd_same
    obtain ⟨b1, b2, k1, k2, kb⟩ := kit_seq d
    refine ⟨_, rfl, by show 2 ≤ sizeLine; decide, fun tp ntp => ?_⟩
    have u := same_new (o := .tup [.ty "list", .ty "tuple"]) ntp
    refine ⟨_, tp, d, "list", "tuple", b1, b2, rfl, upd_same, Dq.same u hd, k1, k2, _, rfl, ?_⟩
    generalize upd H tp _ = H1 at u ⊢
    rw [kb]
    cases e : seqD d with
    | none =>
      have z : placesOf d = none := by unfold placesOf; rw [e]
      refine iteT (iteT ⟨_, rfl, fun x hx => bad z _ u x hx⟩)
    | some ds =>
      obtain ⟨a, xs, rfl, hs, ha, hl⟩ := seq_of hd e
      obtain ⟨lx, tx⟩ := hx ds e
      have out : ¬ (1 ≤ ds.length ∧ ds.length ≤ 12) → placesOf d = none := fun z => by
        unfold placesOf
        rw [e]
        exact if_neg fun y => z y.1
      refine iteF ?_
      refine ⟨_, rfl, a, xs, rfl, hs.same u, _, _, rfl, rfl, _, rfl, ?_⟩
      refine ite2 (fun c1 => ?_) (fun c1 => ?_)
      · have c1 := of_decide_eq_true c1
        refine ⟨_, _, rfl, rfl, _, rfl, ?_⟩
        by_cases c2 : xs.length ≤ 12
        · rw [decide_eq_true (show ((xs.length : Nat) : Int) ≤ 12 by omega)]
          refine iteF ?_
          -- all names are names, then they differ
          refine ⟨_, rfl, a, xs, rfl, hs.same u, fun J G ex hG wk L nL => ?_⟩
          refine lc_it wk (fun i H2 => Same H1 H2 ∧ ∃ bs : List Bool, H2 L = some (.lst (bs.map V.bl)) ∧ bs = (ds.take i).map nameD) ⟨same_new nL, [], upd_same, rfl⟩ (fun i H2 _ p => hG H2 (.same p.1)) ?_ ?_
          · rintro i x H2 H3 hi ⟨sm, bs, hL, hb⟩ ⟨rfl, hxi⟩
            obtain ⟨dx, hdx, hqx⟩ := dqAll_at ha hxi
            have s2 := u.trans sm
            refine ⟨rfl, ⟨_, rfl, x, dx, rfl, Dq.same s2 hqx, fun z hz => tx z (hz ▸ List.mem_of_getElem? hdx), fun H4 s4 => ?_⟩⟩
            refine ⟨bs.map V.bl, s4 L _ hL, ?_, same_upd (sm.trans s4) nL, bs ++ [nameD dx], by rw [upd_same, List.map_append]; rfl, by rw [hb, List.take_succ, hdx]; simp⟩
            rw [List.length_map, hb, List.length_map, sizeLine_eq]
            have := List.length_take_le i ds
            have := (List.getElem?_eq_some_iff.mp hdx).1
            omega
          · rintro H2 ⟨sm, bs, hL, hb⟩
            refine ⟨L, bs, rfl, SqL.of hL, _, rfl, ?_⟩
            rw [hl, List.take_length] at hb
            rw [hb, List.all_map]
            have s2 := u.trans sm
            cases al : ds.all nameD with
            | false =>
              rw [show ds.all (id ∘ nameD) = ds.all nameD from rfl, al]
              refine iteT (iteT ⟨_, rfl, fun x hx => bad ?_ _ s2 x hx⟩)
              unfold placesOf
              rw [e]
              exact if_neg fun z => Bool.noConfusion (al.symm.trans z.2.1)
            | true =>
              rw [show ds.all (id ∘ nameD) = ds.all nameD from rfl, al]
              obtain ⟨ex, en⟩ := strs_of ha al
              refine iteF ?_
              subst ex
              refine ⟨_, rfl, a, strsD ds, rfl, hs.same s2, by omega, fun H3 s3 => ⟨fun c => ?_, fun c => ?_⟩⟩
              · refine ⟨_, rfl, iteF (ky ?_ _ (s2.trans s3))⟩
                unfold placesOf
                rw [e]
                show (if _ then _ else _ : Option (List Str)).isSome = true
                rw [if_pos ⟨⟨by omega, by omega⟩, al, c⟩]
                rfl
              · refine ⟨_, rfl, iteT ⟨_, rfl, fun x hx => bad ?_ _ (s2.trans s3) x hx⟩⟩
                unfold placesOf
                rw [e]
                exact if_neg fun z => c z.2.2
        · rw [decide_eq_false (show ¬ ((xs.length : Nat) : Int) ≤ 12 by omega)]
          exact iteT ⟨_, rfl, fun x hx => bad (out (by omega)) _ u x hx⟩
      · have c1 : ¬ (1 : Int) ≤ ((xs.length : Nat) : Int) := fun z => c1 (decide_eq_true z)
        refine ⟨_, rfl, iteT ⟨_, rfl, fun x hx => bad (out (by omega)) _ u x hx⟩⟩
end
end Pw

set_option Elab.async false
set_option linter.all false
set_option maxRecDepth 100000
set_option maxHeartbeats 4000000
namespace Pw
open PySem PySem.Spec PyProof.Rows L2 Ct
/-- ties that stand: tuples of two texts -/
abbrev TiesAt (K : PySem.W.Frag) (H : Hp) : List V → List (Str × Str) → Prop := Paired fun x p => ∃ a, x = .ref a ∧ TupS K H a p
theorem TiesAt.same {K : PySem.W.Frag} {H H' : Hp} (s : Same H H') : ∀ {xs : List V} {ps : List (Str × Str)}, TiesAt K H xs ps → TiesAt K H' xs ps
  | _, _, .nil => .nil
  | _, _, .cons ⟨a, e, h⟩ t => .cons ⟨a, e, same_t s h⟩ (TiesAt.same s t)
theorem ties_at {K : PySem.W.Frag} {H : Hp} : ∀ {xs : List V} {ps : List (Str × Str)}, TiesAt K H xs ps → ∀ {i : Nat} {x : V}, xs[i]? = some x → ∃ p a, ps[i]? = some p ∧ x = .ref a ∧ TupS K H a p
  | _, _, .nil, _, _, e => by simp at e
  | _, _, .cons ⟨a, e2, h⟩ t, 0, _, e => by simp at e; subst e; exact ⟨_, a, rfl, e2, h⟩
  | _, _, .cons _ t, i + 1, _, e => by
    obtain ⟨p, a, e1, e2⟩ := ties_at t (i := i) (by simpa using e)
    exact ⟨p, a, by simpa using e1, e2⟩
/-- a pair as a set's key -/
def keyQ (q : Str × Str) : List Key := [.inr q.1, .inr q.2]
theorem keyQ_inj {q r : Str × Str} (h : keyQ q = keyQ r) : q = r := by
  obtain ⟨a, b⟩ := q
  obtain ⟨c, d⟩ := r
  injection h with h1 h2
  injection h2 with h2 _
  have e1 : a = c := Sum.inr.inj h1
  have e2 : b = d := Sum.inr.inj h2
  rw [e1, e2]
def pairP (p : Str × Str) : Str × Str := pairS p.1 p.2
/-- the place of the first datum that is no further tie -/
def tieBad (ns : List Str) : List (Str × Str) → Nat → List PyData → Option Nat
  | _, _, [] => none
  | ps, i, d :: ds => match tieOf ns d with
    | none => some i
    | some p => if pairP p ∈ ps then some i else tieBad ns (pairP p :: ps) (i + 1) ds
/-- only the list's members count -/
theorem tieBad_mem (ns : List Str) : ∀ (ds : List PyData) (ps qs : List (Str × Str)) (i : Nat), (∀ k, k ∈ ps ↔ k ∈ qs) → tieBad ns ps i ds = tieBad ns qs i ds
  | [], _, _, _, _ => rfl
  | d :: ds, ps, qs, i, h => by
    unfold tieBad
    cases tieOf ns d with
    | none => rfl
    | some p =>
      by_cases c : pairP p ∈ ps
      · simp only [if_pos c, if_pos ((h _).mp c)]
      · simp only [if_neg c, if_neg (fun z => c ((h _).mpr z))]
        exact tieBad_mem ns ds _ _ _ fun k => by rw [List.mem_cons, List.mem_cons, h k]
/-- the set at D holds the pairs -/
def SetAt (P : Program) (w : World) (K : PySem.W.Frag) (H : Hp) (D : Addr) (ps : List (Str × Str)) (n : Nat) : Prop := ∃ L : List Mem, H D = some (KSetO P w D L) ∧ Mems K H L ∧ L.length ≤ n ∧ ∀ q, keyQ q ∈ L.map (·.2) ↔ q ∈ ps
theorem sqT_off {K : PySem.W.Frag} {H H' : Hp} {D c : Addr} {xs : List V} {φ : Heap → Prop} (h : SqT K H c xs) (hD : H D = some (.ext φ)) (o : ∀ c, c ≠ D → H' c = H c) : SqT K H' c xs := by
  rcases h with (h | ⟨ob, h⟩) | h
  · exact .inl (.inl (by rw [o c (ne_of h hD (by intro z; cases z))]; exact h))
  · exact .inl (.inr ⟨ob, by rw [o c (ne_of h hD (by intro z; cases z))]; exact h⟩)
  · exact .inr h
theorem set_add {P : Program} {w : World} {K : PySem.W.Frag} {H : Hp} {D b : Addr} {ps : List (Str × Str)} {n : Nat} {q : Str × Str} {Q : Hp → Prop} (S : SetAt P w K H D ps n) (hb : TupS K H b q) (hn : n + 1 < 77)
    (k : ∀ H', (∀ c, c ≠ D → H' c = H c) → SetAt P w K H' D (q :: ps) (n + 1) → Q H') : rKAdd K P w D b H Q := by
  obtain ⟨L, hD, hm, hl, hq⟩ := S
  refine kadd_in (k := keyQ q) hD hm hb (by omega) fun L' H' hD' o hj hp hl' => k H' o ⟨L', hD', fun p hpm => ?_, by omega, fun r => ?_⟩
  · rcases hp p hpm with rfl | hp
    · exact sqT_off hb hD o
    · exact sqT_off (hm p hp) hD o
  · rw [hj, List.mem_cons, hq]
    exact ⟨fun z => z.elim (fun e => .inl (keyQ_inj e)) .inr, fun z => z.elim (fun e => .inl (congrArg keyQ e)) .inr⟩
theorem set_in {P : Program} {w : World} {K : PySem.W.Frag} {H : Hp} {D b : Addr} {ps : List (Str × Str)} {n : Nat} {q : Str × Str} {Q : VK} (S : SetAt P w K H D ps n) (hb : TupS K H b q) (h1 : q ∈ ps → Q (.bl true) H) (h2 : q ∉ ps → Q (.bl false) H) : rKIn K P w (.ref b) (.ref D) H Q := by
  obtain ⟨L, hD, hm, hl, hq⟩ := S
  exact ⟨D, b, L, keyQ q, rfl, rfl, hD, hm, hb, fun z => h1 ((hq q).mp z), fun z => h2 fun y => z ((hq q).mpr y)⟩
theorem tie_tup {K : PySem.W.Frag} {H : Hp} {ns : List Str} {v : V} {d : PyData} {p : Str × Str} (h : Dq K H v d) (e : tieOf ns d = some p) : ∃ b, v = .ref b ∧ TupS K H b p := by
  cases h with
  | @tup b xs ds hs ha =>
    cases ha with
    | nil => cases e
    | @cons x1 xs1 d1 ds1 h1 ha =>
      cases ha with
      | nil => cases e
      | @cons x2 xs2 d2 ds2 h2 ha =>
        cases ha with
        | cons h3 ha => cases e
        | nil =>
          cases d1 with
          | str x =>
            cases d2 with
            | str y =>
              cases h1
              cases h2
              have e : (if x ∈ ns ∧ y ∈ ns ∧ x ≠ y then some (x, y) else none) = some p := e
              by_cases c : x ∈ ns ∧ y ∈ ns ∧ x ≠ y
              · rw [if_pos c] at e
                cases e
                exact ⟨b, rfl, hs⟩
              · rw [if_neg c] at e
                cases e
            | _ => cases e
          | _ => cases e
  | _ => cases e
theorem SetAt.mem {P : Program} {w : World} {K : PySem.W.Frag} {H : Hp} {D : Addr} {ps qs : List (Str × Str)} {n : Nat} (h : ∀ q, q ∈ ps ↔ q ∈ qs) : SetAt P w K H D ps n → SetAt P w K H D qs n
  | ⟨L, hD, hm, hl, hq⟩ => ⟨L, hD, hm, hl, fun q => (hq q).trans (h q)⟩
theorem SetAt.same {P : Program} {w : World} {K : PySem.W.Frag} {H H' : Hp} {D : Addr} {ps : List (Str × Str)} {n : Nat} (s : Same H H') : SetAt P w K H D ps n → SetAt P w K H' D ps n
  | ⟨L, hD, hm, hl, hq⟩ => ⟨L, s _ _ hD, fun p hp => same_t s (hm p hp), hl, hq⟩
def spCheckTies (K : PySem.W.Frag) (CS CT : Addr) : Sp := fun vs H Q E => ∃ (a kt : Addr) (ns : List Str) (xs : List V) (ks : List (Str × Str)) (v : V) (d : PyData), vs = [.ref a, .ref kt, v] ∧ Nms K H a ns ∧ SqS K H kt xs ∧ TiesAt K H xs ks ∧ Dq K H v d ∧
  (seqD d = none → Raised CS "value" H v E) ∧ ∀ ds, seqD d = some ds → (∀ e ∈ ds, plainTie e) ∧ ks.length + ds.length ≤ 75 ∧ (tieBad ns (ks.map pairP) 0 ds = none → ∀ H', Same H H' → Q .non H') ∧ (∀ i, tieBad ns (ks.map pairP) 0 ds = some i → Raised CT "position" H (.int i) E)
section
variable {P : Program} {w : World} {K : PySem.W.Frag} {mg : Str → Option Value} {base : Heap} {CS CT : Addr}
abbrev sCheckTies : Stmt := top ix_check_ties
theorem scCheckTies : FnScope ["places", "known", "ties", "pairs", "tie", "position", "entry"] ["places", "known", "ties"] (defScope sCheckTies) := ⟨rfl, rfl, rfl, by decide +kernel, rfl, by decide +kernel, by decide +kernel⟩
theorem has_check_ties (T : Bn mg) (D : DFE K mg "_check_ties" sCheckTies ["places", "known", "ties"]) (h_is_tie : Has P w K mg base CX0 1 "_is_tie" ["places", "value"] (spIsTie K)) (h_pair : Has P w K mg base CX0 1 "_pair" ["tie"] (spPair K))
    (hE_BadTies : HasE P w K mg base 1 "BadTies" CS "value") (hE_BadTie : HasE P w K mg base 1 "BadTie" CT "position") : HasR P w K mg base 3 "_check_ties" ["places", "known", "ties"] (spCheckTies K CS CT) := by
  refine hasR_of D scCheckTies (fun vs H Q E h => ?_) (fun f cdv A outer s H vs Q E hr h => ?_)
  · obtain ⟨a, kt, ns, xs, ks, v, d, rfl, _⟩ := h; rfl
  · obtain ⟨a, kt, ns, xs, ks, v, d, rfl, ha, hk, hks, hd, kn, ky⟩ := h
    have nd := scCheckTies.nd
    refine ⟨_, (pss_cons (ps_if (pt_not (pt_val (pe_callB call_isDT (by rfl) T.z_isinstance (by decide +kernel) (pa_cons (pv 2) (pa_cons (pe_tup (pa_cons (pe_bltn (v := .ty "list") rfl T.z_list (by decide +kernel) rfl) (pa_cons (pe_bltn (v := .ty "tuple") rfl T.z_tuple (by decide +kernel) rfl) pa_nil))) pa_nil))))) (pss_one (ps_raise rfl (takes_of rfl rfl rfl rfl) (pmk_x hE_BadTies hr (by decide) rfl (pv 2)))) pss_nil)
    (pss_cons (ps_setKsc (i := 3) (own := [("tie", 4)]) (g := gName 4) hr.units rfl nd rfl rfl (sw_setc rfl rfl rfl (by decide +kernel)) (pi_sq (pv 1)) (blkOk_by (own := [("tie", 4)]) (N := ["places", "known", "ties", "pairs", "tie", "position", "entry"]) (sc := defScope sCheckTies) (by decide +kernel)) (fun _ _ _ _ _ => (pg_name (i := 4) nd rfl (by first | exact Or.inl rfl | exact Or.inr rfl))) (fun _ _ _ _ _ => (pe_h h_pair hr (by decide) rfl (pa_cons (pv 4) pa_nil))))
    (pss_one (ps_for (passes_of rfl) rfl (pi_enumQ rfl T.z_enumerate (pa_cons (pv 2) pa_nil)) (pg_tup rfl (pgs_cons (pg_name (i := 5) nd rfl (by first | exact Or.inl rfl | exact Or.inr rfl)) (pgs_cons (pg_name (i := 6) nd rfl (by first | exact Or.inl rfl | exact Or.inr rfl)) pgs_nil))) (pss_cons (ps_if (PW.pt (pw_or (pt_not (pt_val (pe_h h_is_tie hr (by decide) rfl (pa_cons (pv 0) (pa_cons (pv 6) pa_nil))))) (pw_or1 (pt_cmpR (or_kin hr.units) (pe_h h_pair hr (by decide) rfl (pa_cons (pv 6) pa_nil)) (pv 3) (by first | exact nomark _ | rfl))))) (pss_one (ps_raise rfl (takes_of rfl rfl rfl rfl) (pmk_x hE_BadTie hr (by decide) rfl (pv 5)))) pss_nil)
    (pss_one (ps_expr (pe_kadd hr.units (pv 3) (pe_h h_pair hr (by decide) rfl (pa_cons (pv 6) pa_nil)))))))))), ?_⟩
    obtain ⟨b1, b2, k1, k2, kb⟩ := kit_seq d
    refine ⟨_, rfl, by show 2 ≤ sizeLine; decide, fun tp ntp => ?_⟩
    have u := same_new (o := .tup [.ty "list", .ty "tuple"]) ntp
    refine ⟨_, tp, d, "list", "tuple", b1, b2, rfl, upd_same, Dq.same u hd, k1, k2, _, rfl, ?_⟩
    generalize upd H tp _ = H1 at u ⊢
    have nn : ∀ {H2 : Hp}, Same H H2 → ∀ {e : Addr}, H2 e = none → H e = none := fun {H2} s2 {e} he => by
      cases q : H e with
      | none => rfl
      | some o => rw [s2 e o q] at he; cases he
    rw [kb]
    cases e : seqD d with
    | none => exact iteT ⟨_, rfl, fun x hx => kn e x _ (same_upd u (nn u hx)) (nn u hx) upd_same⟩
    | some ds =>
      obtain ⟨pl, few, ky1, ky2⟩ := ky ds e
      obtain ⟨va, vx, rfl, hv, hda, hlv⟩ := seq_of hd e
      refine iteF ?_
      -- the known pairs
      refine ⟨_, rfl, kt, xs, rfl, hk.same u, fun J G ex hG wk D nD => ?_⟩
      have xl : xs.length = ks.length := Paired.length hks
      refine ksc_it wk (fun i H2 => Same H1 H2 ∧ SetAt P w K H2 D ((ks.take i).map pairP) i) ⟨same_new nD, [], upd_same, (fun p hp => by cases hp), Nat.zero_le _, fun q => by simp⟩ (fun i H2 _ p => hG H2 (.same p.1)) ?_ ?_
      · rintro i x H2 H3 hi ⟨sm, S⟩ ⟨rfl, hxi⟩
        obtain ⟨p, b, hp, rfl, hb⟩ := ties_at (hks.same (u.trans sm)) hxi
        refine ⟨rfl, _, rfl, b, p.1, p.2, rfl, hb, fun c hc => ⟨c, rfl, ?_⟩⟩
        have s3 := same_new (o := .tup [.str (pairS p.1 p.2).1, .str (pairS p.1 p.2).2]) hc
        refine set_add (q := pairP p) (S.same s3) (SqT.of upd_same) (by omega) fun H4 o S4 => ⟨?_, ?_⟩
        · exact fun y o2 ey => by
            rw [o y (ne_of_none ey nD)]
            exact s3 _ _ (sm _ _ ey)
        · refine S4.mem fun q => ?_
          rw [List.take_succ, hp, List.map_append, List.mem_append, List.mem_cons]
          simp [or_comm]
      · rintro H2 ⟨sm, S⟩
        rw [xl, List.take_length] at S
        have s2 := u.trans sm
        refine ⟨_, rfl, va, vx, rfl, hv.same s2, fun J2 G2 ex2 hG2 wk2 => ?_⟩
        refine for_it wk2 (fun i σ H3 => Same H H3 ∧ (∃ p q, σ = [some (.ref a), some (.ref kt), some (.ref va), some (.ref D), none, p, q]) ∧ ∃ ps, SetAt P w K H3 D ps (ks.length + i) ∧ tieBad ns (ks.map pairP) 0 ds = tieBad ns ps i (ds.drop i)) ?_ ?_ ?_ ?_
        · exact ⟨s2, ⟨_, _, rfl⟩, _, S, rfl⟩
        · exact fun i σ3 H3 _ p => hG2 H3 (.of hv s2 p.1 ex2)
        · rintro i x σ3 H3 H4 hi ⟨s3, ⟨p, q, rfl⟩, ps, S3, eb⟩ ⟨T, x1, x2, rfl, hT, rfl, ex1, ex2⟩
          cases ex1
          obtain ⟨dx, hdx, hqx⟩ := dqAll_at hda ex2
          have ed : ds.drop i = dx :: ds.drop (i + 1) := by
            obtain ⟨hi', e'⟩ := List.getElem?_eq_some_iff.mp hdx
            rw [← e']
            exact List.drop_eq_getElem_cons hi'
          have s4 := same_upd (o := .tup [.int (i : Nat), x2]) s3 (nn s3 hT)
          have S4 := S3.same (same_new (o := .tup [.int (i : Nat), x2]) hT)
          have hup : upd H3 T (.tup [.int (i : Nat), x2]) T = some (.tup [.int (i : Nat), x2]) := upd_same
          generalize upd H3 T (.tup [.int (i : Nat), x2]) = H4 at s4 S4 hup ⊢
          refine ⟨T, _, rfl, SqT.of hup, rfl, _, _, rfl, _, _, rfl, rfl, ?_⟩
          refine ⟨_, rfl, _, rfl, a, ns, x2, dx, rfl, ha.same s4, Dq.same s4 hqx, pl dx (List.mem_of_getElem? hdx), _, rfl, ?_⟩
          have bad : tieBad ns (ks.map pairP) 0 ds = some i → ∀ H5, Same H H5 → ∀ e, H5 e = none → E (.ref CT) (some e) (upd H5 e (.xd [("position", .int i)])) := fun z H5 s5 e he => ky2 i z e _ (same_upd s5 (nn s5 he)) (nn s5 he) upd_same
          cases et : tieOf ns dx with
          | none =>
            refine iteT (iteT ⟨_, rfl, fun x hx => bad ?_ _ s4 x hx⟩)
            rw [eb, ed, tieBad, et]
          | some pp =>
            obtain ⟨b, rfl, hb⟩ := tie_tup (Dq.same s4 hqx) et
            refine iteF ?_
            refine ⟨_, rfl, b, pp.1, pp.2, rfl, hb, fun c hc => ?_⟩
            have s5 := same_new (o := .tup [.str (pairS pp.1 pp.2).1, .str (pairS pp.1 pp.2).2]) hc
            have hcu : TupS K (upd H4 c (.tup [.str (pairS pp.1 pp.2).1, .str (pairS pp.1 pp.2).2])) c (pairP pp) := SqT.of upd_same
            generalize upd H4 c (.tup [.str (pairS pp.1 pp.2).1, .str (pairS pp.1 pp.2).2]) = H5 at s5 hcu ⊢
            refine ⟨_, rfl, set_in (S4.same s5) hcu (fun c1 => ?_) (fun c1 => ?_)⟩
            · refine ⟨_, rfl, iteT ⟨_, rfl, fun x hx => bad ?_ _ (s4.trans s5) x hx⟩⟩
              rw [eb, ed, tieBad, et]
              exact if_pos c1
            · refine ⟨_, rfl, iteF ?_⟩
              have S5 := S4.same s5
              obtain ⟨L5, hD5, _⟩ := id S5
              refine ⟨_, rfl, ⟨D, L5, rfl, hD5⟩, _, rfl, b, pp.1, pp.2, rfl, same_t s5 hb, fun c2 hc2 => ⟨D, c2, rfl, rfl, ?_⟩⟩
              have s6 := same_new (o := .tup [.str (pairS pp.1 pp.2).1, .str (pairS pp.1 pp.2).2]) hc2
              refine set_add (q := pairP pp) (S5.same s6) (SqT.of upd_same) (by omega) fun H6 o S6 => ⟨?_, ⟨_, _, rfl⟩, _, S6, ?_⟩
              · intro y o2 ey
                have nD' : H D = none := nn u nD
                rw [o y (ne_of_none ey nD')]
                exact s6 _ _ (s5 _ _ (s4 _ _ ey))
              · rw [eb, ed, tieBad, et]
                exact if_neg c1
        · rintro σ3 H3 ⟨s3, _, ps, S3, eb⟩
          rw [hlv, List.drop_length] at eb
          exact ky1 eb H3 s3
end
end Pw

set_option Elab.async false
set_option linter.all false
set_option maxRecDepth 100000
set_option maxHeartbeats 4000000
namespace Pw
open PySem PySem.Spec PyProof.Rows L2 Ct
local macro_rules | `(tactic| wide_line) => `(tactic| repeat ((fail_if_success (with_reducible refine at_while ?_)); (fail_if_success (with_reducible refine at_while1 ?_)); (conv => whnf); first | ((with_reducible refine And.intro ?_ ?_); focus (first | (first | ((with_reducible show (_ : Nat) ≤ _); first | exact sz0 | exact sz1 | exact sz2 | exact sz3 | exact sz4 | exact sz5 | exact sz6 | exact sz7 | exact sz8 | exact sz10 | exact sz11 | exact sz12 | exact sz14 | omega | decide | (simp only [List.length_cons, List.length_nil]; omega)) | ((with_reducible show (_ : Int) ≤ _); first | omega | decide) | ((with_reducible show (_ : Int) < _); first | omega | decide) | ((with_reducible show (_ : Nat) < _); omega)) | ((fail_if_success (with_reducible show (_ : Nat) ≤ _)); (fail_if_success (with_reducible show (_ : Int) ≤ _)); (fail_if_success (with_reducible show (_ : Int) < _)); (fail_if_success (with_reducible show (_ : Nat) < _)); first | exact kv_str _ | exact kv_int _ | rfl | assumption | exact flat_strs _ | exact Lv.get (by assumption) 0 rfl | exact Lv.get (by assumption) 1 rfl | exact Lv.get (by assumption) 2 rfl | exact Lv.get (by assumption) 3 rfl | exact Lv.get (by assumption) 4 rfl | exact Lv.get (by assumption) 5 rfl | exact Lv.get (by assumption) 6 rfl | exact SqL.of (Lv.get (by assumption) 0 rfl) | exact SqL.of (Lv.get (by assumption) 1 rfl) | exact SqL.of (Lv.get (by assumption) 2 rfl) | exact SqL.of (Lv.get (by assumption) 3 rfl) | exact SqL.of (Lv.get (by assumption) 4 rfl) | exact SqL.of (Lv.get (by assumption) 5 rfl) | exact Or.inl (SqL.of (Lv.get (by assumption) 0 rfl)) | exact Or.inl (SqL.of (Lv.get (by assumption) 1 rfl)) | exact Or.inl (SqL.of (Lv.get (by assumption) 2 rfl)) | exact Or.inl (SqL.of (Lv.get (by assumption) 3 rfl)) | exact Or.inl (SqL.of (Lv.get (by assumption) 4 rfl)) | exact Or.inl (SqL.of (Lv.get (by assumption) 5 rfl)) | exact ⟨_, SqL.of (Lv.get (by assumption) 0 rfl)⟩ | exact ⟨_, SqL.of (Lv.get (by assumption) 1 rfl)⟩ | exact ⟨_, SqL.of (Lv.get (by assumption) 2 rfl)⟩ | exact ⟨_, SqL.of (Lv.get (by assumption) 3 rfl)⟩ | exact ⟨_, SqL.of (Lv.get (by assumption) 4 rfl)⟩ | exact ⟨_, SqL.of (Lv.get (by assumption) 5 rfl)⟩ | exact Or.inl ⟨_, SqL.of (Lv.get (by assumption) 0 rfl), rfl⟩ | exact Or.inl ⟨_, SqL.of (Lv.get (by assumption) 1 rfl), rfl⟩ | exact Or.inl ⟨_, SqL.of (Lv.get (by assumption) 2 rfl), rfl⟩ | exact Or.inl ⟨_, SqL.of (Lv.get (by assumption) 3 rfl), rfl⟩ | exact Or.inl ⟨_, SqL.of (Lv.get (by assumption) 4 rfl), rfl⟩ | exact Or.inl ⟨_, SqL.of (Lv.get (by assumption) 5 rfl), rfl⟩ | exact Or.inl ⟨rfl, _, SqL.of (Lv.get (by assumption) 0 rfl)⟩ | exact Or.inl ⟨rfl, _, SqL.of (Lv.get (by assumption) 1 rfl)⟩ | exact Or.inl ⟨rfl, _, SqL.of (Lv.get (by assumption) 2 rfl)⟩ | exact Or.inl ⟨rfl, _, SqL.of (Lv.get (by assumption) 3 rfl)⟩ | exact Or.inl ⟨rfl, _, SqL.of (Lv.get (by assumption) 4 rfl)⟩ | exact Or.inl ⟨rfl, _, SqL.of (Lv.get (by assumption) 5 rfl)⟩ | exact Or.inr (SqT.of (Lv.get (by assumption) 0 rfl)) | exact Or.inr (SqT.of (Lv.get (by assumption) 1 rfl)) | exact Or.inr (SqT.of (Lv.get (by assumption) 2 rfl)) | exact Or.inr (SqT.of (Lv.get (by assumption) 3 rfl)) | exact SqT.of (Lv.get (by assumption) 0 rfl) | exact SqT.of (Lv.get (by assumption) 1 rfl) | exact SqT.of (Lv.get (by assumption) 2 rfl) | exact dgetN (Lv.get (by assumption) 0 rfl) (by assumption) | exact dgetN (Lv.get (by assumption) 1 rfl) (by assumption) | exact dgetN (Lv.get (by assumption) 2 rfl) (by assumption) | exact dgetN (Lv.get (by assumption) 3 rfl) (by assumption) | exact dgetN (Lv.get (by assumption) 4 rfl) (by assumption) | decide | ((with_reducible show _ ∧ _); omega)))) | ((fail_if_success (with_reducible apply @Exists.intro (Nat → _))); (with_reducible apply Exists.intro))))
local macro_rules
  | `(tactic| wide_line with al $lv:ident $l:ident $nl:ident $H:ident $lv1:ident $s1:ident) => `(tactic| (intro $l:ident $nl:ident; generalize he : upd _ _ _ = $H:ident; have $lv1:ident := Lv.alE $lv $nl he; have $s1:ident := sameE $nl he; clear he; (try dsimp only at $lv1:ident)))
  | `(tactic| wide_line with alx $lv:ident $nl:ident $H:ident $lv1:ident $s1:ident) => `(tactic| (generalize he : upd _ _ _ = $H:ident; have $lv1:ident := Lv.alE $lv $nl he; have $s1:ident := sameE $nl he; clear he; (try dsimp only at $lv1:ident)))
  | `(tactic| wide_line with sts $lv:ident $i:num $H:ident $lv1:ident $s0:ident $np:ident $s1:ident) => `(tactic| (generalize he : upd _ _ _ = $H:ident; have $lv1:ident := Lv.stE $lv $i rfl he; have $s1:ident := sameN $s0 $np he; clear he; (try dsimp only at $lv1:ident)))
  | `(tactic| wide_line with st $lv:ident $i:num $H:ident $lv1:ident) => `(tactic| (generalize he : upd _ _ _ = $H:ident; have $lv1:ident := Lv.stE $lv $i rfl he; clear he; (try dsimp only at $lv1:ident)))
  | `(tactic| wide_line with stk $lv:ident $i:num $H:ident $lv1:ident $k1:ident) => `(tactic| (generalize he : upd _ _ _ = $H:ident; have $lv1:ident := Lv.stE $lv $i rfl he; have $k1:ident := KeepT.st (Lv.get $lv $i rfl) he; clear he; (try dsimp only at $lv1:ident)))
/-- the names and the ties of a drawn web -/
structure PlanOk (n : Nat) (ns : List Str) (ts : List (Str × Str)) : Prop where
  one : 1 ≤ ns.length
  most : ns.length ≤ n
  nd : ns.Nodup
  nm : ∀ x ∈ ns, okName x = true
  tie : ∀ t ∈ ts, t.1 ∈ ns ∧ t.2 ∈ ns ∧ t.1 ≠ t.2
  dif : (ts.map pairP).Nodup
  few : ts.length ≤ 75
theorem PlanOk.perm {n : Nat} {ns ms : List Str} {ts us : List (Str × Str)} (h : PlanOk n ns ts) (a : ms.Perm ns) (b : us.Perm ts) : PlanOk n ms us :=
  ⟨a.length_eq ▸ h.one, a.length_eq ▸ h.most, a.nodup_iff.mpr h.nd, fun x hx => h.nm x (a.mem_iff.mp hx), fun t ht => by
    obtain ⟨h1, h2, h3⟩ := h.tie t (b.mem_iff.mp ht)
    exact ⟨a.mem_iff.mpr h1, a.mem_iff.mpr h2, h3⟩, (b.map pairP).nodup_iff.mpr h.dif, b.length_eq ▸ h.few⟩
/-- ties out of couples of places -/
abbrev TieR (ns : List Str) : List (Nat × Nat) → List (Str × Str) → Prop := Paired fun q t => ∃ x y, ns[q.1]? = some x ∧ ns[q.2]? = some y ∧ (t = (x, y) ∨ t = (y, x))
abbrev pairs12 : List (Nat × Nat) := (List.range 14).flatMap fun j => (List.range j).map fun i => (i, j)
theorem mem_pairs12 {n : Nat} (hn : n ≤ 14) {q : Nat × Nat} (h : q.1 < q.2 ∧ q.2 < n) : q ∈ (List.range n).flatMap fun j => (List.range j).map fun i => (i, j) :=
  List.mem_flatMap.mpr ⟨q.2, List.mem_range.mpr h.2, List.mem_map.mpr ⟨q.1, List.mem_range.mpr h.1, rfl⟩⟩
theorem few_pairs {n : Nat} (hn : n ≤ 12) {ps : List (Nat × Nat)} (h : PsOk n ps) : ps.length ≤ 66 := by
  have h1 := nodup_len h.1 fun q hq => mem_pairs12 (n := 12) (by decide) ⟨(h.2 q hq).1, Nat.lt_of_lt_of_le (h.2 q hq).2 hn⟩
  exact Nat.le_trans h1 (by decide +kernel)
theorem pairS_or (x y : Str) : pairS x y = (x, y) ∨ pairS x y = (y, x) := by
  unfold pairS
  split
  · exact .inl rfl
  · exact .inr rfl
theorem tieR_inj {ns : List Str} (nd : ns.Nodup) {q r : Nat × Nat} {t u : Str × Str} (hq : q.1 < q.2) (hr : r.1 < r.2)
    (h1 : ∃ x y, ns[q.1]? = some x ∧ ns[q.2]? = some y ∧ (t = (x, y) ∨ t = (y, x))) (h2 : ∃ x y, ns[r.1]? = some x ∧ ns[r.2]? = some y ∧ (u = (x, y) ∨ u = (y, x))) (e : pairP t = pairP u) : q = r := by
  obtain ⟨x, y, hx, hy, ht⟩ := h1
  obtain ⟨x', y', hx', hy', hu⟩ := h2
  have key : (x = x' ∧ y = y') ∨ (x = y' ∧ y = x') := by
    unfold pairP at e
    rcases ht with rfl | rfl <;> rcases hu with rfl | rfl <;> simp only at e
    all_goals
      rcases pairS_or x y with z | z <;> rcases pairS_or y x with z' | z' <;> rcases pairS_or x' y' with w | w <;> rcases pairS_or y' x' with w' | w'
    all_goals
      simp only [z, z', w, w'] at e
      injection e with e1 e2
      subst e1 e2
      first
        | exact .inl ⟨rfl, rfl⟩
        | exact .inr ⟨rfl, rfl⟩
  rcases key with ⟨rfl, rfl⟩ | ⟨rfl, rfl⟩
  · have a := idx_inj nd hx hx'
    have b := idx_inj nd hy hy'
    exact Prod.ext a b
  · have a := idx_inj nd hx hy'
    have b := idx_inj nd hy hx'
    omega
theorem tieR_dif {ns : List Str} (nd : ns.Nodup) : ∀ {ps : List (Nat × Nat)} {ts : List (Str × Str)}, TieR ns ps ts → ps.Nodup → (∀ q ∈ ps, q.1 < q.2) → (ts.map pairP).Nodup
  | _, _, .nil, _, _ => List.nodup_nil
  | q :: ps, t :: ts, .cons a r, h, lt => by
    obtain ⟨n, h⟩ := List.nodup_cons.mp h
    refine List.nodup_cons.mpr ⟨fun z => ?_, tieR_dif nd r h fun q hq => lt q (List.mem_cons_of_mem _ hq)⟩
    obtain ⟨u, hu, e⟩ := List.mem_map.mp z
    obtain ⟨s, hs, b⟩ := paired_mem r u hu
    exact n (tieR_inj nd (lt q List.mem_cons_self) (lt s (List.mem_cons_of_mem _ hs)) a b e.symm ▸ hs)
theorem tieR_in {ns : List Str} (nd : ns.Nodup) {ps : List (Nat × Nat)} {ts : List (Str × Str)} (r : TieR ns ps ts) (lt : ∀ q ∈ ps, q.1 < q.2) : ∀ t ∈ ts, t.1 ∈ ns ∧ t.2 ∈ ns ∧ t.1 ≠ t.2 := fun t ht => by
  obtain ⟨q, hq, x, y, hx, hy, e⟩ := paired_mem r t ht
  have ne : x ≠ y := fun z => by
    subst z
    have := idx_inj nd hx hy
    have := lt q hq
    omega
  rcases e with rfl | rfl
  · exact ⟨List.mem_of_getElem? hx, List.mem_of_getElem? hy, ne⟩
  · exact ⟨List.mem_of_getElem? hy, List.mem_of_getElem? hx, ne.symm⟩
/-- plan(source, n): a new tuple of names and ties -/
def spPlan : Sp := fun vs H Q _ => ∃ (p : Addr) (r m : Int) (n : Nat), vs = [.ref p, .int n] ∧ H p = some (.lst [.int r, .int m]) ∧ SrcOk r m ∧ 1 ≤ n ∧ n ≤ 12 ∧
  ∀ (r' m' : Int) (ns : List Str) (ts : List (Str × Str)) (t tn tt : Addr) (xs : List V) (H' : Hp), SrcOk r' m' → PlanOk n ns ts → (∀ b o, b ≠ p → H b = some o → H' b = some o) → H' p = some (.lst [.int r', .int m']) → H t = none →
    H' t = some (.tup [.ref tn, .ref tt]) → H' tn = some (.tup (ns.map V.str)) → H' tt = some (.tup xs) → TiesT H' xs ts → Q (.ref t) H'
section
variable {P : Program} {w : World} {K : PySem.W.Frag} {mg : Str → Option Value} {base : Heap}
abbrev sLawPlan : Stmt := top ix_law_plan
theorem scLawPlan : FnScope ["source", "most", "many", "names", "ties", "at", "to"] ["source", "most"] (defScope sLawPlan) := ⟨rfl, rfl, rfl, by decide +kernel, rfl, by decide +kernel, by decide +kernel⟩
theorem has_plan (T : Bn mg) (D : DFE K mg "_law_plan" sLawPlan ["source", "most"]) (h_law_draw : Has P w K mg base CX0 1 "_law_draw" ["source", "span"] spDraw) (h_law_mixed : Has P w K mg base CX0 2 "_law_mixed" ["source", "things"] (spMixed K)) (h_law_names : Has P w K mg base CX0 4 "_law_names" ["source", "many"] spNames) (h_law_pairs : Has P w K mg base CX0 2 "_law_pairs" ["source", "many", "kind"] spPairs) : Has P w K mg base CX0 5 "_law_plan" ["source", "most"] spPlan := by
  refine has_of D scLawPlan (fun vs H Q E h => ?_) (fun f cdv A outer s H vs Q E hr h => ?_)
  · obtain ⟨p, r, m, n, rfl, _⟩ := h; rfl
  · obtain ⟨p, r, m, n, rfl, hp, ok, n1, n2, k⟩ := h
    have nd := scLawPlan.nd
    refine ⟨_, (pss_cons (ps_sv 2 nd (pe_op op_add pe_int (pe_h h_law_draw hr (by decide) rfl (pa_cons (pv 0) (pa_cons (pv 1) pa_nil)))))
    (pss_cons (ps_par (i := 3) (j := 4) (by rfl) nd rfl rfl (by decide) rfl rfl (pa_cons (pe_h h_law_names hr (by decide) rfl (pa_cons (pv 0) (pa_cons (pv 2) pa_nil))) (pa_cons (pe_lst pa_nil) pa_nil)) (by rfl))
    (pss_cons (ps_for PassesOwn.never rfl (pi_list (pe_h h_law_pairs hr (by decide) rfl (pa_cons (pv 0) (pa_cons (pv 2) (pa_cons (pe_h h_law_draw hr (by decide) rfl (pa_cons (pv 0) (pa_cons pe_int pa_nil))) pa_nil))))) (pg_tup rfl (pgs_cons (pg_name (i := 5) nd rfl (by first | exact Or.inl rfl | exact Or.inr rfl)) (pgs_cons (pg_name (i := 6) nd rfl (by first | exact Or.inl rfl | exact Or.inr rfl)) pgs_nil))) (pss_one (ps_expr (pe_bm PySem.F.plainAttrs_list PySem.F.slot_list_append PySem.F.type_list_append mt_append (pv 4) (pa_cons (pe_ifExp (pt_cmpR op_eq (pe_h h_law_draw hr (by decide) rfl (pa_cons (pv 0) (pa_cons pe_int pa_nil))) pe_int (by first | exact nomark _ | rfl)) (pe_tup (pa_cons (pe_ix ix_list (pv 3) (pv 5) (fun _ _ => rfl)) (pa_cons (pe_ix ix_list (pv 3) (pv 6) (fun _ _ => rfl)) pa_nil))) (pe_tup (pa_cons (pe_ix ix_list (pv 3) (pv 6) (fun _ _ => rfl)) (pa_cons (pe_ix ix_list (pv 3) (pv 5) (fun _ _ => rfl)) pa_nil)))) pa_nil)))))
    (pss_one (ps_ret (pe_tup (pa_cons (pe_callTy call_tuple_of (by rfl) T.z_tuple (by decide +kernel) (pa_cons (pe_h h_law_mixed hr (by decide) rfl (pa_cons (pv 0) (pa_cons (pv 3) pa_nil))) pa_nil)) (pa_cons (pe_callTy call_tuple_of (by rfl) T.z_tuple (by decide +kernel) (pa_cons (pe_h h_law_mixed hr (by decide) rfl (pa_cons (pv 0) (pa_cons (pv 4) pa_nil))) pa_nil)) pa_nil)))))))), ?_⟩
    have lv := Lv.one hp
    wide_line
    intro r1 m1 j ok1 j0 j1
    obtain ⟨a, rfl⟩ := Int.eq_ofNat_of_zero_le j0
    wide_line with st lv 0 H1 lv1
    wide_line
    intro r2 m2 ns ln H2 ok2 nl nn no off2 src2 fln hln
    have nl : ns.length = 1 + a := nl
    have al : 1 + a ≤ n := by omega
    have lv2 := lv1.stn 0 rfl src2 off2 fln hln
    wide_line
    wide_line with al lv2 lt flt H3 lv3 s3
    wide_line
    intro r3 m3 kd ok3 kd0 kd1
    wide_line with st lv3 2 H4 lv4
    wide_line
    intro r5 m5 ps xs lp H5 ok5 po off5 src5 flp hlp pt
    have lv5 := lv4.stn 2 rfl src5 off5 flp hlp
    wide_line
    refine for_list (K := K) (a := lp) (xs := xs) (fun k σ H' => Hold (∃ (r m : Int) (ys : List V) (ts : List (Str × Str)) (u5 u6 : Option V), σ = [some (.ref p), some (.int n), some (.int ((1 + a : Nat) : Int)), some (.ref ln), some (.ref lt), u5, u6] ∧
      Lv H [p] H' [(lp, .lst xs), (lt, .lst ys), (ln, .lst (ns.map V.str)), (p, .lst [.int r, .int m])] ∧ SrcOk r m ∧ PairsT H' xs ps ∧ TiesT H' ys ts ∧ TieR ns (ps.take k) ts))
      ⟨r5, m5, [], [], none, none, rfl, lv5, ok5, pt, .nil, .nil⟩ (fun k σ H' _ ⟨_, _, _, _, _, _, _, z, _⟩ => SqL.of (z.get 0 rfl)) ?_ ?_
    · rintro k0 y σ H6 hy ⟨r6, m6, ys, ts, u5, u6, rfl, lv6, ok6, pt6, tt6, tr6⟩
      obtain ⟨q, hq, b, rfl, hb⟩ := paired_at pt6 hy
      have pq := po.2 q (List.mem_of_getElem? hq)
      have hb2 : SqT K H6 b [.int (q.1 : Nat), .int (q.2 : Nat)] := SqT.of hb
      have i1 : ns[q.1]? = some (ns[q.1]'(by omega)) := List.getElem?_eq_getElem _
      have i2 : ns[q.2]? = some (ns[q.2]'(by omega)) := List.getElem?_eq_getElem _
      generalize ns[q.1]'(by omega) = x1 at i1
      generalize ns[q.2]'(by omega) = x2 at i2
      have a1 : atI (ns.map V.str) ((q.1 : Nat) : Int) = some (V.str x1) := atI_nat (by rw [List.getElem?_map, i1]; rfl)
      have a2 : atI (ns.map V.str) ((q.2 : Nat) : Int) = some (V.str x2) := atI_nat (by rw [List.getElem?_map, i2]; rfl)
      have tk : ps.take (k0 + 1) = ps.take k0 ++ [q] := by rw [List.take_succ, hq]; rfl
      have tl6 : ts.length ≤ 66 := by
        have h1 := paired_len tr6
        have h2 := few_pairs (Nat.le_trans (by omega : 1 + a ≤ 12) (Nat.le_refl _)) po
        rw [List.length_take] at h1
        omega
      have yl6 := paired_len tt6
      wide_line
      intro r7 m7 z ok7 z0 z1
      wide_line with stk lv6 3 H7 lv7 kt7
      wide_line
      have fin : ∀ (tq : Str × Str) (hq : tq = (x1, x2) ∨ tq = (x2, x1)) (b2 : Addr) (H8 : Hp), Lv H [p] H8 [(b2, .tup [.str tq.1, .str tq.2]), (lp, .lst xs), (lt, .lst ys), (ln, .lst (ns.map V.str)), (p, .lst [.int r7, .int m7])] → Same H7 H8 →
          ∀ H9, upd H8 lt (.lst (ys ++ [.ref b2])) = H9 → Hold (∃ (r m : Int) (ys : List V) (ts : List (Str × Str)) (u5 u6 : Option V), [some (.ref p), some (.int n), some (.int ((1 + a : Nat) : Int)), some (.ref ln), some (.ref lt), some (.int (q.1 : Nat)), some (.int (q.2 : Nat))] = [some (.ref p), some (.int n), some (.int ((1 + a : Nat) : Int)), some (.ref ln), some (.ref lt), u5, u6] ∧
      Lv H [p] H9 [(lp, .lst xs), (lt, .lst ys), (ln, .lst (ns.map V.str)), (p, .lst [.int r, .int m])] ∧ SrcOk r m ∧ PairsT H9 xs ps ∧ TiesT H9 ys ts ∧ TieR ns (ps.take (k0 + 1)) ts) := by
        intro tq hq b2 H8 lv8 s8 H9 e9
        have lv9 := Lv.stE lv8 2 rfl e9
        have kt9 := KeepT.st (lv8.get 2 rfl) e9
        have kt := kt7.trans ((KeepT.same s8).trans kt9)
        refine ⟨r7, m7, ys ++ [.ref b2], ts ++ [tq], _, _, rfl, lv9.picks [1, 2, 3, 4] rfl (by decide) (by simp), ok7, pt6.keep kt, paired_app (tt6.keep kt) (.cons ⟨b2, rfl, kt9 _ _ (lv8.get 0 rfl)⟩ .nil), ?_⟩
        rw [tk]
        exact paired_app tr6 (.cons ⟨x1, x2, i1, i2, hq⟩ .nil)
      refine ite2 (fun c => ?_) (fun c => ?_)
      · wide_line
        wide_line with al lv7 b2 fb2 H8 lv8 s8
        wide_line
        refine ⟨by rw [sizeLine_eq]; omega, ?_⟩
        exact fin (x1, x2) (.inl rfl) b2 H8 lv8 s8 _ rfl
      · wide_line
        wide_line with al lv7 b2 fb2 H8 lv8 s8
        wide_line
        refine ⟨by rw [sizeLine_eq]; omega, ?_⟩
        exact fin (x2, x1) (.inr rfl) b2 H8 lv8 s8 _ rfl
    · rintro σ H6 ⟨r6, m6, ys, ts, u5, u6, rfl, lv6, ok6, pt6, tt6, tr6⟩
      rw [paired_len pt6, List.take_length] at tr6
      have pk : PlanOk n ns ts := ⟨by omega, by omega, nn, no, tieR_in nn tr6 fun q hq => (po.2 q hq).1, tieR_dif nn tr6 po.1 fun q hq => (po.2 q hq).1, by
        rw [← paired_len tr6]
        exact Nat.le_trans (few_pairs (by omega : 1 + a ≤ 12) po) (by decide)⟩
      have l12 := pk.most
      have l66 := pk.few
      have yl6 := paired_len tt6
      wide_line
      refine ⟨by rw [List.length_map]; omega, ?_⟩
      intro r7 m7 zs l7 H7 ok7 pm7 off7 src7 fl7 hl7
      obtain ⟨ns', pn, rfl⟩ := strs_perm pm7
      have lv7 := lv6.stn 3 rfl src7 off7 fl7 hl7
      have tt7 := tt6.keep (.off (lv6.get 3 rfl) (fun _ z => nomatch z) off7)
      wide_line
      refine .inl ⟨SqL.of (lv7.get 0 rfl), ?_⟩
      wide_line with al lv7 tn ftn H8 lv8 s8
      wide_line
      intro r9 m9 zs9 l9 H9 ok9 pm9 off9 src9 fl9 hl9
      have tt9 := (tt7.keep (.same s8)).keep (.off (lv8.get 5 rfl) (fun _ z => nomatch z) off9)
      obtain ⟨ts', pt', tt'⟩ := paired_perm pm9 tt9
      have lv9 := lv8.stn 5 rfl src9 off9 fl9 hl9
      wide_line
      refine .inl ⟨SqL.of (lv9.get 0 rfl), ?_⟩
      wide_line with al lv9 tt0 ftt H10 lv10 s10
      wide_line
      wide_line with al lv10 t0 ft0 H11 lv11 s11
      exact k r9 m9 ns' ts' t0 tn tt0 zs9 H11 ok9 (pk.perm pn pt') lv11.off (lv11.get 8 rfl) (lv10.free ft0) (lv11.get 0 rfl) (lv11.get 3 rfl) (lv11.get 1 rfl) (TiesT.keep (.same (s10.trans s11)) tt')
end
end Pw

set_option Elab.async false
set_option linter.all false
set_option maxRecDepth 100000
set_option maxHeartbeats 4000000
namespace Pw
open PySem PySem.Spec PyProof.Rows L2 Ct
local macro_rules | `(tactic| wide_line) => `(tactic| repeat ((fail_if_success (with_reducible refine at_while ?_)); (fail_if_success (with_reducible refine at_while1 ?_)); (conv => whnf); first | ((with_reducible refine And.intro ?_ ?_); focus (first | (first | ((with_reducible show (_ : Nat) ≤ _); first | exact sz0 | exact sz1 | exact sz2 | exact sz3 | exact sz4 | exact sz5 | exact sz6 | exact sz7 | exact sz8 | exact sz10 | exact sz11 | exact sz12 | exact sz14 | omega | decide | (simp only [List.length_cons, List.length_nil]; omega)) | ((with_reducible show (_ : Int) ≤ _); first | omega | decide) | ((with_reducible show (_ : Int) < _); first | omega | decide) | ((with_reducible show (_ : Nat) < _); omega)) | ((fail_if_success (with_reducible show (_ : Nat) ≤ _)); (fail_if_success (with_reducible show (_ : Int) ≤ _)); (fail_if_success (with_reducible show (_ : Int) < _)); (fail_if_success (with_reducible show (_ : Nat) < _)); first | exact kv_str _ | exact kv_int _ | rfl | assumption | exact flat_strs _ | exact Lv.get (by assumption) 0 rfl | exact Lv.get (by assumption) 1 rfl | exact Lv.get (by assumption) 2 rfl | exact Lv.get (by assumption) 3 rfl | exact Lv.get (by assumption) 4 rfl | exact Lv.get (by assumption) 5 rfl | exact Lv.get (by assumption) 6 rfl | exact SqL.of (Lv.get (by assumption) 0 rfl) | exact SqL.of (Lv.get (by assumption) 1 rfl) | exact SqL.of (Lv.get (by assumption) 2 rfl) | exact SqL.of (Lv.get (by assumption) 3 rfl) | exact SqL.of (Lv.get (by assumption) 4 rfl) | exact SqL.of (Lv.get (by assumption) 5 rfl) | exact Or.inl (SqL.of (Lv.get (by assumption) 0 rfl)) | exact Or.inl (SqL.of (Lv.get (by assumption) 1 rfl)) | exact Or.inl (SqL.of (Lv.get (by assumption) 2 rfl)) | exact Or.inl (SqL.of (Lv.get (by assumption) 3 rfl)) | exact Or.inl (SqL.of (Lv.get (by assumption) 4 rfl)) | exact Or.inl (SqL.of (Lv.get (by assumption) 5 rfl)) | exact ⟨_, SqL.of (Lv.get (by assumption) 0 rfl)⟩ | exact ⟨_, SqL.of (Lv.get (by assumption) 1 rfl)⟩ | exact ⟨_, SqL.of (Lv.get (by assumption) 2 rfl)⟩ | exact ⟨_, SqL.of (Lv.get (by assumption) 3 rfl)⟩ | exact ⟨_, SqL.of (Lv.get (by assumption) 4 rfl)⟩ | exact ⟨_, SqL.of (Lv.get (by assumption) 5 rfl)⟩ | exact Or.inl ⟨_, SqL.of (Lv.get (by assumption) 0 rfl), rfl⟩ | exact Or.inl ⟨_, SqL.of (Lv.get (by assumption) 1 rfl), rfl⟩ | exact Or.inl ⟨_, SqL.of (Lv.get (by assumption) 2 rfl), rfl⟩ | exact Or.inl ⟨_, SqL.of (Lv.get (by assumption) 3 rfl), rfl⟩ | exact Or.inl ⟨_, SqL.of (Lv.get (by assumption) 4 rfl), rfl⟩ | exact Or.inl ⟨_, SqL.of (Lv.get (by assumption) 5 rfl), rfl⟩ | exact Or.inl ⟨rfl, _, SqL.of (Lv.get (by assumption) 0 rfl)⟩ | exact Or.inl ⟨rfl, _, SqL.of (Lv.get (by assumption) 1 rfl)⟩ | exact Or.inl ⟨rfl, _, SqL.of (Lv.get (by assumption) 2 rfl)⟩ | exact Or.inl ⟨rfl, _, SqL.of (Lv.get (by assumption) 3 rfl)⟩ | exact Or.inl ⟨rfl, _, SqL.of (Lv.get (by assumption) 4 rfl)⟩ | exact Or.inl ⟨rfl, _, SqL.of (Lv.get (by assumption) 5 rfl)⟩ | exact Or.inr (SqT.of (Lv.get (by assumption) 0 rfl)) | exact Or.inr (SqT.of (Lv.get (by assumption) 1 rfl)) | exact Or.inr (SqT.of (Lv.get (by assumption) 2 rfl)) | exact Or.inr (SqT.of (Lv.get (by assumption) 3 rfl)) | exact SqT.of (Lv.get (by assumption) 0 rfl) | exact SqT.of (Lv.get (by assumption) 1 rfl) | exact SqT.of (Lv.get (by assumption) 2 rfl) | exact dgetN (Lv.get (by assumption) 0 rfl) (by assumption) | exact dgetN (Lv.get (by assumption) 1 rfl) (by assumption) | exact dgetN (Lv.get (by assumption) 2 rfl) (by assumption) | exact dgetN (Lv.get (by assumption) 3 rfl) (by assumption) | exact dgetN (Lv.get (by assumption) 4 rfl) (by assumption) | exact Or.inl (by assumption) | exact Or.inr (by assumption) | decide | ((with_reducible show _ ∧ _); omega)))) | ((fail_if_success (with_reducible apply @Exists.intro (Nat → _))); (with_reducible apply Exists.intro))))
local macro_rules
  | `(tactic| wide_line with al $lv:ident $l:ident $nl:ident $H:ident $lv1:ident $s1:ident) => `(tactic| (intro $l:ident $nl:ident; generalize he : upd _ _ _ = $H:ident; have $lv1:ident := Lv.alE $lv $nl he; have $s1:ident := sameE $nl he; clear he; (try dsimp only at $lv1:ident)))
  | `(tactic| wide_line with alx $lv:ident $nl:ident $H:ident $lv1:ident $s1:ident) => `(tactic| (generalize he : upd _ _ _ = $H:ident; have $lv1:ident := Lv.alE $lv $nl he; have $s1:ident := sameE $nl he; clear he; (try dsimp only at $lv1:ident)))
  | `(tactic| wide_line with sts $lv:ident $i:num $H:ident $lv1:ident $s0:ident $np:ident $s1:ident) => `(tactic| (generalize he : upd _ _ _ = $H:ident; have $lv1:ident := Lv.stE $lv $i rfl he; have $s1:ident := sameN $s0 $np he; clear he; (try dsimp only at $lv1:ident)))
  | `(tactic| wide_line with stx $lv:ident $H:ident $lv1:ident $d1:ident) => `(tactic| (generalize he : upd _ _ _ = $H:ident; have $lv1:ident := Lv.stE $lv 0 rfl he; have $d1:ident := SameD.storeE (Lv.get $lv 0 rfl) he; clear he; (try dsimp only at $lv1:ident)))
  | `(tactic| wide_line with st $lv:ident $i:num $H:ident $lv1:ident) => `(tactic| (generalize he : upd _ _ _ = $H:ident; have $lv1:ident := Lv.stE $lv $i rfl he; clear he; (try dsimp only at $lv1:ident)))
  | `(tactic| wide_line with stk $lv:ident $i:num $H:ident $lv1:ident $k1:ident) => `(tactic| (generalize he : upd _ _ _ = $H:ident; have $lv1:ident := Lv.stE $lv $i rfl he; have $k1:ident := KeepT.st (Lv.get $lv $i rfl) he; clear he; (try dsimp only at $lv1:ident)))
section
variable {P : Program} {w : World} {K : PySem.W.Frag} {mg : Str → Option Value} {base : Heap}
abbrev sLawIsName : Stmt := top ix_law_is_name
theorem scLawIsName : FnScope ["thing", "sign"] ["thing"] (defScope sLawIsName) := ⟨rfl, rfl, rfl, by decide +kernel, rfl, by decide +kernel, by decide +kernel⟩
theorem has_law_is_name (T : Bn mg) (D : DFE K mg "_law_is_name" sLawIsName ["thing"]) : Has P w K mg base CX0 1 "_law_is_name" ["thing"] (spIsName K) := by
  refine has_of D scLawIsName (fun vs H Q E h => ?_) (fun f cdv A outer s H vs Q E hr h => ?_)
  · obtain ⟨v, d, rfl, _⟩ := h; rfl
  · obtain ⟨v, d, rfl, hd, hl, k⟩ := h
    have nd := scLawIsName.nd
    refine ⟨_, (pss_cons (ps_if (PW.pt (pw_or (pt_not (pt_val (pe_callB call_isD (by rfl) T.z_isinstance (by decide +kernel) (pa_cons (pv 0) (pa_cons (pe_bltn (v := .ty "str") rfl T.z_str (by decide +kernel) rfl) pa_nil))))) (pw_or1 (pt_not (pt_chain op_le op_le pe_int (pe_callB call_len_str (by rfl) T.z_len (by decide +kernel) (pa_cons (pv 0) pa_nil)) pe_int))))) (pss_one (ps_ret pe_bl)) pss_nil)
    (pss_one (ps_ret (pe_cmpR (op_eqNil hr.units) (pe_lc (own := [("sign", 1)]) (g := gName 1) rfl nd (pi_str (pv 0)) (blkOk_by (own := [("sign", 1)]) (N := ["thing", "sign"]) (sc := defScope sLawIsName) (by decide +kernel)) (fun _ _ _ _ _ => (pg_name (i := 1) nd rfl (by first | exact Or.inl rfl | exact Or.inr rfl))) (fun _ _ _ _ _ => (pts_one (pt_cmpR op_notIn_sign (pv 1) pe_str (by first | exact nomark _ | rfl)))) (fun _ _ _ _ _ => (pv 1))) (pe_lst pa_nil) (by first | exact nomark _ | rfl))))), ?_⟩
    refine ⟨_, rfl, _, d, "str", _, rfl, hd, kit_str d, _, rfl, ?_⟩
    cases d with
    | str x =>
      cases hd
      refine iteF ⟨_, rfl, x, rfl, hl x rfl, ?_⟩
      refine ⟨_, _, rfl, rfl, _, rfl, ?_⟩
      have fin : ∀ (b : Bool), b = okName x → Q (.bl b) H := fun b e => by subst e; exact k H (Same.refl H)
      have len : ((x.length : Nat) : Int) = (x.cps.size : Nat) := rfl
      have no : ¬ (1 ≤ x.length ∧ x.length ≤ 8) → Q (.bl false) H := fun z => fin false (by
        unfold okName
        by_cases z1 : 1 ≤ x.length
        · rw [decide_eq_false (fun y => z ⟨z1, y⟩ : ¬ x.length ≤ 8)]; simp
        · rw [decide_eq_false z1]; simp)
      refine ite2 (fun c1 => ?_) (fun c1 => ?_)
      · have c1 := of_decide_eq_true c1
        refine ⟨_, _, rfl, rfl, _, rfl, ?_⟩
        by_cases c2 : x.length ≤ 8
        · rw [decide_eq_true (show ((x.length : Nat) : Int) ≤ 8 by omega)]
          refine iteF ⟨_, rfl, x, rfl, fun L nL => ?_⟩
          have lv0 := Lv.zero H
          refine lc_it walk_str (fun i H' => Lv H [] H' [(L, .lst (((x.cps.toList.take i).filter fun c => !decide (c ∈ LT.cps.toList)).map fun c => V.str ⟨#[c]⟩))]) (lv0.al nL) (fun _ _ _ _ => True.intro) ?_ ?_
          · rintro i z H1 H2 hi lv ⟨rfl, c, hc, rfl⟩
            have ht : x.cps.toList[i]? = some c := by rw [Array.getElem?_toList]; exact hc
            have tk : x.cps.toList.take (i + 1) = x.cps.toList.take i ++ [c] := by rw [List.take_succ, ht]; rfl
            refine ⟨rfl, _, rfl, c, _, rfl, rfl, ?_⟩
            refine ⟨_, rfl, ite2 (fun c3 => ?_) (fun c3 => ?_)⟩
            · refine ⟨_, rfl, _, lv.get 0 rfl, ?_, ?_⟩
              · have h1 := List.length_filter_le (fun c => !decide (c ∈ LT.cps.toList)) (x.cps.toList.take i)
                have h2 := List.length_take_le i x.cps.toList
                have h3 : x.length = x.cps.size := rfl
                rw [List.length_map, sizeLine_eq]
                omega
              · rw [tk, List.filter_append, List.map_append]
                have : [c].filter (fun c => !decide (c ∈ LT.cps.toList)) = [c] := by simp only [List.filter]; rw [show (!decide (c ∈ LT.cps.toList)) = true from c3]
                rw [this]
                exact Lv.stE lv 0 rfl rfl
            · rw [tk, List.filter_append]
              have : [c].filter (fun c => !decide (c ∈ LT.cps.toList)) = [] := by simp only [List.filter]; rw [show (!decide (c ∈ LT.cps.toList)) = false from by simpa using c3]
              rw [this, List.append_nil]
              exact lv
          · rintro H1 lv
            rw [show x.cps.size = x.cps.toList.length from rfl, List.take_length] at lv
            refine ⟨by decide, fun l2 n2 => ?_⟩
            have lv2 := lv.al (o := .lst []) n2
            refine ⟨_, _, _, rfl, rfl, SqL.of (lv2.get 1 rfl), SqL.of (lv2.get 0 rfl), ?_⟩
            have e : okName x = okSigns x := by
              unfold okName
              rw [decide_eq_true (show 1 ≤ x.length by omega), decide_eq_true c2]
              rfl
            have e2 : ((x.cps.toList.filter fun c => !decide (c ∈ LT.cps.toList)).map fun c => V.str ⟨#[c]⟩).isEmpty = okSigns x := by
              rw [List.isEmpty_map, Bool.eq_iff_iff]
              unfold okSigns
              rw [List.isEmpty_iff, List.filter_eq_nil_iff, List.all_eq_true]
              simp
            have z := k _ (lv2.sm)
            show Q (.bl _) _
            rw [show (if false = true then _ else _ : Bool) = _ from rfl, e2, ← e]
            exact z
        · rw [decide_eq_false (show ¬ ((x.length : Nat) : Int) ≤ 8 by omega)]
          exact iteT (no fun z => c2 z.2)
      · exact ⟨_, rfl, iteT (no fun z => c1 (decide_eq_true (by omega)))⟩
    | _ => exact iteT (k H (Same.refl H))
end
end Pw

set_option Elab.async false
set_option linter.all false
set_option maxRecDepth 100000
set_option maxHeartbeats 4000000
namespace Pw
open PySem PySem.Spec PyProof.Rows L2 Ct
local macro_rules | `(tactic| wide_line) => `(tactic| repeat ((fail_if_success (with_reducible refine at_while ?_)); (fail_if_success (with_reducible refine at_while1 ?_)); (conv => whnf); first | ((with_reducible refine And.intro ?_ ?_); focus (first | (first | ((with_reducible show (_ : Nat) ≤ _); first | exact sz0 | exact sz1 | exact sz2 | exact sz3 | exact sz4 | exact sz5 | exact sz6 | exact sz7 | exact sz8 | exact sz10 | exact sz11 | exact sz12 | exact sz14 | omega | decide | (simp only [List.length_cons, List.length_nil]; omega)) | ((with_reducible show (_ : Int) ≤ _); first | omega | decide) | ((with_reducible show (_ : Int) < _); first | omega | decide) | ((with_reducible show (_ : Nat) < _); omega)) | ((fail_if_success (with_reducible show (_ : Nat) ≤ _)); (fail_if_success (with_reducible show (_ : Int) ≤ _)); (fail_if_success (with_reducible show (_ : Int) < _)); (fail_if_success (with_reducible show (_ : Nat) < _)); first | exact kv_str _ | exact kv_int _ | rfl | assumption | exact flat_strs _ | exact Lv.get (by assumption) 0 rfl | exact Lv.get (by assumption) 1 rfl | exact Lv.get (by assumption) 2 rfl | exact Lv.get (by assumption) 3 rfl | exact Lv.get (by assumption) 4 rfl | exact Lv.get (by assumption) 5 rfl | exact Lv.get (by assumption) 6 rfl | exact SqL.of (Lv.get (by assumption) 0 rfl) | exact SqL.of (Lv.get (by assumption) 1 rfl) | exact SqL.of (Lv.get (by assumption) 2 rfl) | exact SqL.of (Lv.get (by assumption) 3 rfl) | exact SqL.of (Lv.get (by assumption) 4 rfl) | exact SqL.of (Lv.get (by assumption) 5 rfl) | exact Or.inl (SqL.of (Lv.get (by assumption) 0 rfl)) | exact Or.inl (SqL.of (Lv.get (by assumption) 1 rfl)) | exact Or.inl (SqL.of (Lv.get (by assumption) 2 rfl)) | exact Or.inl (SqL.of (Lv.get (by assumption) 3 rfl)) | exact Or.inl (SqL.of (Lv.get (by assumption) 4 rfl)) | exact Or.inl (SqL.of (Lv.get (by assumption) 5 rfl)) | exact ⟨_, SqL.of (Lv.get (by assumption) 0 rfl)⟩ | exact ⟨_, SqL.of (Lv.get (by assumption) 1 rfl)⟩ | exact ⟨_, SqL.of (Lv.get (by assumption) 2 rfl)⟩ | exact ⟨_, SqL.of (Lv.get (by assumption) 3 rfl)⟩ | exact ⟨_, SqL.of (Lv.get (by assumption) 4 rfl)⟩ | exact ⟨_, SqL.of (Lv.get (by assumption) 5 rfl)⟩ | exact Or.inl ⟨_, SqL.of (Lv.get (by assumption) 0 rfl), rfl⟩ | exact Or.inl ⟨_, SqL.of (Lv.get (by assumption) 1 rfl), rfl⟩ | exact Or.inl ⟨_, SqL.of (Lv.get (by assumption) 2 rfl), rfl⟩ | exact Or.inl ⟨_, SqL.of (Lv.get (by assumption) 3 rfl), rfl⟩ | exact Or.inl ⟨_, SqL.of (Lv.get (by assumption) 4 rfl), rfl⟩ | exact Or.inl ⟨_, SqL.of (Lv.get (by assumption) 5 rfl), rfl⟩ | exact Or.inl ⟨rfl, _, SqL.of (Lv.get (by assumption) 0 rfl)⟩ | exact Or.inl ⟨rfl, _, SqL.of (Lv.get (by assumption) 1 rfl)⟩ | exact Or.inl ⟨rfl, _, SqL.of (Lv.get (by assumption) 2 rfl)⟩ | exact Or.inl ⟨rfl, _, SqL.of (Lv.get (by assumption) 3 rfl)⟩ | exact Or.inl ⟨rfl, _, SqL.of (Lv.get (by assumption) 4 rfl)⟩ | exact Or.inl ⟨rfl, _, SqL.of (Lv.get (by assumption) 5 rfl)⟩ | exact Or.inr (SqT.of (Lv.get (by assumption) 0 rfl)) | exact Or.inr (SqT.of (Lv.get (by assumption) 1 rfl)) | exact Or.inr (SqT.of (Lv.get (by assumption) 2 rfl)) | exact Or.inr (SqT.of (Lv.get (by assumption) 3 rfl)) | exact SqT.of (Lv.get (by assumption) 0 rfl) | exact SqT.of (Lv.get (by assumption) 1 rfl) | exact SqT.of (Lv.get (by assumption) 2 rfl) | exact dgetN (Lv.get (by assumption) 0 rfl) (by assumption) | exact dgetN (Lv.get (by assumption) 1 rfl) (by assumption) | exact dgetN (Lv.get (by assumption) 2 rfl) (by assumption) | exact dgetN (Lv.get (by assumption) 3 rfl) (by assumption) | exact dgetN (Lv.get (by assumption) 4 rfl) (by assumption) | decide | ((with_reducible show _ ∧ _); omega)))) | ((fail_if_success (with_reducible apply @Exists.intro (Nat → _))); (with_reducible apply Exists.intro))))
local macro_rules
  | `(tactic| wide_line with al $lv:ident $l:ident $nl:ident $H:ident $lv1:ident $s1:ident) => `(tactic| (intro $l:ident $nl:ident; generalize he : upd _ _ _ = $H:ident; have $lv1:ident := Lv.alE $lv $nl he; have $s1:ident := sameE $nl he; clear he; (try dsimp only at $lv1:ident)))
  | `(tactic| wide_line with alx $lv:ident $nl:ident $H:ident $lv1:ident $s1:ident) => `(tactic| (generalize he : upd _ _ _ = $H:ident; have $lv1:ident := Lv.alE $lv $nl he; have $s1:ident := sameE $nl he; clear he; (try dsimp only at $lv1:ident)))
  | `(tactic| wide_line with sts $lv:ident $i:num $H:ident $lv1:ident $s0:ident $np:ident $s1:ident) => `(tactic| (generalize he : upd _ _ _ = $H:ident; have $lv1:ident := Lv.stE $lv $i rfl he; have $s1:ident := sameN $s0 $np he; clear he; (try dsimp only at $lv1:ident)))
  | `(tactic| wide_line with st $lv:ident $i:num $H:ident $lv1:ident) => `(tactic| (generalize he : upd _ _ _ = $H:ident; have $lv1:ident := Lv.stE $lv $i rfl he; clear he; (try dsimp only at $lv1:ident)))
  | `(tactic| wide_line with stk $lv:ident $i:num $H:ident $lv1:ident $k1:ident) => `(tactic| (generalize he : upd _ _ _ = $H:ident; have $lv1:ident := Lv.stE $lv $i rfl he; have $k1:ident := KeepT.st (Lv.get $lv $i rfl) he; clear he; (try dsimp only at $lv1:ident)))
/-- bits_of(n): a new list of the positions -/
def spBitsOf : Sp := fun vs H Q _ => ∃ N : Nat, vs = [.int (N : Nat)] ∧ N < 2 ^ 200 ∧ ∀ l H', Same H H' → H l = none → H' l = some (.lst ((bitsL N).map natV)) → Q (.ref l) H'
/-- the names at the bits of a number -/
def pickN (ns : List Str) (N : Nat) : List Str := (bitsL N).filterMap fun i => ns[i]?
/-- web.named(n): a new list of the names at the bits; the web may be half made -/
def spNamed (K : PySem.W.Frag) (C : Addr) : Sp := fun vs H Q _ => ∃ (x dx tp : Addr) (N : Nat) (fs : List (Str × V)) (ns : List Str), vs = [.ref x, .int (N : Nat)] ∧ H x = some (.ins C dx fs) ∧ fs.lookup ("_places" : Str) = some (V.ref tp) ∧ SqT K H tp (ns.map V.str) ∧ N < 2 ^ ns.length ∧ ns.length ≤ 100 ∧
  ∀ l H', Same H H' → H l = none → H' l = some (.lst ((pickN ns N).map V.str)) → Q (.ref l) H'
section
variable {P : Program} {w : World} {K : PySem.W.Frag} {mg : Str → Option Value} {base : Heap} {C fa : Addr} {fd : FuncData}
abbrev sBitsOf : Stmt := top ix_bits_of
theorem scBitsOf : FnScope ["number", "at"] ["number"] (defScope sBitsOf) := ⟨rfl, rfl, rfl, by decide +kernel, rfl, by decide +kernel, by decide +kernel⟩
theorem has_bits_of (T : Bn mg) (D : DFE K mg "bits_of" sBitsOf ["number"]) : Has P w K mg base CX0 1 "bits_of" ["number"] spBitsOf := by
  refine has_of D scBitsOf (fun vs H Q E h => ?_) (fun f cdv A outer s H vs Q E hr h => ?_)
  · obtain ⟨N, rfl, _⟩ := h; rfl
  · obtain ⟨N, rfl, hN, k⟩ := h
    have nd := scBitsOf.nd
    refine ⟨_, (pss_one (ps_ret (pe_lc (own := [("at", 1)]) (g := gName 1) rfl nd (pi_range1 rfl T.z_range (pa_cons (pe_bits (pv 0)) pa_nil)) (blkOk_by (own := [("at", 1)]) (N := ["number", "at"]) (sc := defScope sBitsOf) (by decide +kernel)) (fun _ _ _ _ _ => (pg_name (i := 1) nd rfl (by first | exact Or.inl rfl | exact Or.inr rfl))) (fun _ _ _ _ _ => (pts_one (pt_truthk (K := K) rfl (pe_op op_andB (pe_op op_shrB (pv 0) (pv 1)) pe_int) (by intro _; rfl)))) (fun _ _ _ _ _ => (pv 1))))), ?_⟩
    have lv := Lv.zero H
    have hb : Builtin.Int.intBits (N : Int) ≤ 200 := intBits_le_iff.mpr (by simpa using hN)
    wide_line
    intro D nD
    refine lc_range (fun j H' => Hold (Lv H [] H' [(D, .lst (((List.range j).filter N.testBit).map natV))])) ⟨lv.al nD⟩ ?_ ?_
    · rintro j H1 hj ⟨lv1⟩
      rw [Int.zero_add]
      wide_line
      have e : ((((N / 2 ^ j &&& 1 : Nat) : Int)) != 0) = N.testBit j := by
        rw [Nat.and_one_is_mod, Bool.eq_iff_iff, ← odd_test, bne_iff_ne]
        omega
      rw [e]
      have st : (List.range (j + 1)).filter N.testBit = (List.range j).filter N.testBit ++ (if N.testBit j = true then [j] else []) := by
        rw [List.range_succ, List.filter_append]
        congr 1
        cases e2 : N.testBit j <;> simp [List.filter, e2]
      refine ite2 (fun c => ?_) (fun c => ?_)
      · wide_line
        refine ⟨?_, ?_⟩
        · have := List.length_filter_le N.testBit (List.range j)
          rw [List.length_map, sizeLine_eq]
          rw [List.length_range] at this
          rw [Int.toNat_natCast] at hj
          omega
        · wide_line with st lv1 0 H2 lv2
          refine ⟨lv2.re ?_⟩
          rw [st, if_pos c, List.map_append]
          rfl
      · refine ⟨lv1.re ?_⟩
        rw [st, if_neg c, List.append_nil]
    · rintro H1 ⟨lv1⟩
      wide_line
      rw [Int.toNat_natCast] at lv1
      exact k D H1 lv1.sm nD (lv1.get 0 rfl)
abbrev sNamed : Stmt := inClass (top ix_Web) mx_Web_named
theorem scNamed : FnScope ["self", "number", "at"] ["self", "number"] (defScope sNamed) := ⟨rfl, rfl, rfl, by decide +kernel, rfl, by decide +kernel, by decide +kernel⟩
theorem ok_named (W : Cls K C) (n1 : NoAttr K C "_places") (F : Fun K "named" "Web.named" sNamed fa fd) (h_bits_of : Has P w K mg base CX0 1 "bits_of" ["number"] spBitsOf) : FnOk P w K mg base CX0 2 fa fd ["self", "number"] (spNamed K C) := by
  refine F.ok scNamed (fun vs H Q E h => ?_) (fun cdv A outer s H vs Q E hr h => ?_)
  · obtain ⟨x, dx, tp, N, fs, ns, rfl, _⟩ := h; rfl
  · obtain ⟨x, dx, tp, N, fs, ns, rfl, hx, hp, htp, hN, hl, k⟩ := h
    have nd := scNamed.nd
    refine ⟨_, (pss_one (ps_ret (pe_lc (own := [("at", 2)]) (g := gName 2) (tt := tYes) rfl nd (pi_list (pe_h h_bits_of hr (by decide) rfl (pa_cons (pv 1) pa_nil))) (blkOk_by (own := [("at", 2)]) (N := ["self", "number", "at"]) (sc := defScope sNamed) (by decide +kernel)) (fun _ _ _ _ _ => (pg_name (i := 2) nd rfl (by first | exact Or.inl rfl | exact Or.inr rfl))) (fun _ _ _ _ _ => pts_nil) (fun _ _ _ _ _ => (pe_ix (ix_tupk (K := K) rfl) (pe_fldk (K := K) rfl (pv 0) rfl) (pv 2) (fun _ _ => rfl)))))), ?_⟩
    have lv := Lv.zero H
    wide_line
    refine ⟨Nat.lt_of_lt_of_le hN (Nat.pow_le_pow_right (by decide) (by omega)), fun l H1 s1 nl hl1 => ?_⟩
    have lv1 := lv.al' s1 nl hl1
    wide_line
    intro D nD
    have lvD := lv1.al (o := .lst []) nD
    have bl : bitsL N = (List.range ns.length).filter N.testBit := bitsL_of hN
    refine lc_list (K := K) (a := l) (xs := (bitsL N).map natV) (fun j H' => Hold (Lv H [] H' [(D, .lst ((((bitsL N).take j).filterMap fun i => ns[i]?).map V.str)), (l, .lst ((bitsL N).map natV))])) ⟨lvD⟩ (fun j H' _ z => SqL.of (z.out.get 1 rfl)) ?_ ?_
    · rintro j y H2 hy ⟨lv2⟩
      obtain ⟨i, hi, rfl⟩ : ∃ i, (bitsL N)[j]? = some i ∧ y = natV i := by
        rw [List.getElem?_map] at hy
        cases e : (bitsL N)[j]? with
        | none => rw [e] at hy; cases hy
        | some i => rw [e] at hy; exact ⟨i, rfl, (Option.some.inj hy).symm⟩
      have il : i < ns.length := by
        have := List.mem_of_getElem? hi
        rw [bl] at this
        exact List.mem_range.mp (List.mem_filter.mp this).1
      have i1 : ns[i]? = some ns[i] := List.getElem?_eq_getElem il
      have hx2 := lv2.sm _ _ hx
      have htp2 : SqT K H2 tp (ns.map V.str) := same_t lv2.sm htp
      have a1 : atI (ns.map V.str) ((i : Nat) : Int) = some (V.str ns[i]) := atI_nat (by rw [List.getElem?_map, i1]; rfl)
      have tk : (bitsL N).take (j + 1) = (bitsL N).take j ++ [i] := by rw [List.take_succ, hi]; rfl
      wide_line
      refine ⟨?_, ?_⟩
      · have h1 := List.length_filterMap_le (fun i => ns[i]?) ((bitsL N).take j)
        have h2 := List.length_take_le j (bitsL N)
        have h3 := (List.getElem?_eq_some_iff.mp hi).1
        have h4 := List.length_filter_le N.testBit (List.range ns.length)
        rw [← bl, List.length_range] at h4
        rw [List.length_map, sizeLine_eq]
        omega
      · wide_line with st lv2 0 H3 lv3
        refine ⟨lv3.re ?_⟩
        rw [tk, List.filterMap_append, List.map_append]
        simp [i1]
    · rintro H2 ⟨lv2⟩
      wide_line
      rw [List.length_map, List.take_length] at lv2
      exact k D H2 lv2.sm (lv1.free nD) (lv2.get 0 rfl)
/-- whose bits are those of a test are the names that pass it -/
theorem pickN_filter {ns : List Str} {N : Nat} {g : Str → Bool} (hN : N < 2 ^ ns.length) (h : ∀ i x, ns[i]? = some x → N.testBit i = g x) : pickN ns N = ns.filter g := by
  have key : ∀ (k : Nat), k ≤ ns.length → ((List.range k).filter N.testBit).filterMap (fun i => ns[i]?) = (ns.take k).filter g := by
    intro k
    induction k with
    | zero => intro _; rfl
    | succ k ih =>
      intro hk
      have i1 : ns[k]? = some ns[k] := List.getElem?_eq_getElem hk
      rw [List.range_succ, List.filter_append, List.filterMap_append, ih (Nat.le_of_lt hk), List.take_succ, i1, List.filter_append]
      congr 1
      have := h k _ i1
      cases e : N.testBit k <;> rw [e] at this <;> simp [List.filter, e, ← this, i1]
  unfold pickN
  rw [bitsL_of hN, key ns.length (Nat.le_refl _), List.take_length]
end
end Pw

set_option Elab.async false
set_option linter.all false
set_option maxRecDepth 100000
set_option maxHeartbeats 4000000
namespace Pw
open PySem PySem.Spec PyProof.Rows L2 Ct
local macro_rules | `(tactic| wide_line) => `(tactic| repeat ((fail_if_success (with_reducible refine at_while ?_)); (fail_if_success (with_reducible refine at_while1 ?_)); (conv => whnf); first | ((with_reducible refine And.intro ?_ ?_); focus (first | (first | ((with_reducible show (_ : Nat) ≤ _); first | exact sz0 | exact sz1 | exact sz2 | exact sz3 | exact sz4 | exact sz5 | exact sz6 | exact sz7 | exact sz8 | exact sz10 | exact sz11 | exact sz12 | exact sz14 | omega | decide | (simp only [List.length_cons, List.length_nil]; omega)) | ((with_reducible show (_ : Int) ≤ _); first | omega | decide) | ((with_reducible show (_ : Int) < _); first | omega | decide) | ((with_reducible show (_ : Nat) < _); omega)) | ((fail_if_success (with_reducible show (_ : Nat) ≤ _)); (fail_if_success (with_reducible show (_ : Int) ≤ _)); (fail_if_success (with_reducible show (_ : Int) < _)); (fail_if_success (with_reducible show (_ : Nat) < _)); first | exact kv_str _ | exact kv_int _ | rfl | assumption | exact flat_strs _ | exact Lv.get (by assumption) 0 rfl | exact Lv.get (by assumption) 1 rfl | exact Lv.get (by assumption) 2 rfl | exact Lv.get (by assumption) 3 rfl | exact Lv.get (by assumption) 4 rfl | exact Lv.get (by assumption) 5 rfl | exact Lv.get (by assumption) 6 rfl | exact SqL.of (Lv.get (by assumption) 0 rfl) | exact SqL.of (Lv.get (by assumption) 1 rfl) | exact SqL.of (Lv.get (by assumption) 2 rfl) | exact SqL.of (Lv.get (by assumption) 3 rfl) | exact SqL.of (Lv.get (by assumption) 4 rfl) | exact SqL.of (Lv.get (by assumption) 5 rfl) | exact Or.inl (SqL.of (Lv.get (by assumption) 0 rfl)) | exact Or.inl (SqL.of (Lv.get (by assumption) 1 rfl)) | exact Or.inl (SqL.of (Lv.get (by assumption) 2 rfl)) | exact Or.inl (SqL.of (Lv.get (by assumption) 3 rfl)) | exact Or.inl (SqL.of (Lv.get (by assumption) 4 rfl)) | exact Or.inl (SqL.of (Lv.get (by assumption) 5 rfl)) | exact ⟨_, SqL.of (Lv.get (by assumption) 0 rfl)⟩ | exact ⟨_, SqL.of (Lv.get (by assumption) 1 rfl)⟩ | exact ⟨_, SqL.of (Lv.get (by assumption) 2 rfl)⟩ | exact ⟨_, SqL.of (Lv.get (by assumption) 3 rfl)⟩ | exact ⟨_, SqL.of (Lv.get (by assumption) 4 rfl)⟩ | exact ⟨_, SqL.of (Lv.get (by assumption) 5 rfl)⟩ | exact Or.inl ⟨_, SqL.of (Lv.get (by assumption) 0 rfl), rfl⟩ | exact Or.inl ⟨_, SqL.of (Lv.get (by assumption) 1 rfl), rfl⟩ | exact Or.inl ⟨_, SqL.of (Lv.get (by assumption) 2 rfl), rfl⟩ | exact Or.inl ⟨_, SqL.of (Lv.get (by assumption) 3 rfl), rfl⟩ | exact Or.inl ⟨_, SqL.of (Lv.get (by assumption) 4 rfl), rfl⟩ | exact Or.inl ⟨_, SqL.of (Lv.get (by assumption) 5 rfl), rfl⟩ | exact Or.inl ⟨rfl, _, SqL.of (Lv.get (by assumption) 0 rfl)⟩ | exact Or.inl ⟨rfl, _, SqL.of (Lv.get (by assumption) 1 rfl)⟩ | exact Or.inl ⟨rfl, _, SqL.of (Lv.get (by assumption) 2 rfl)⟩ | exact Or.inl ⟨rfl, _, SqL.of (Lv.get (by assumption) 3 rfl)⟩ | exact Or.inl ⟨rfl, _, SqL.of (Lv.get (by assumption) 4 rfl)⟩ | exact Or.inl ⟨rfl, _, SqL.of (Lv.get (by assumption) 5 rfl)⟩ | exact Or.inr (SqT.of (Lv.get (by assumption) 0 rfl)) | exact Or.inr (SqT.of (Lv.get (by assumption) 1 rfl)) | exact Or.inr (SqT.of (Lv.get (by assumption) 2 rfl)) | exact Or.inr (SqT.of (Lv.get (by assumption) 3 rfl)) | exact SqT.of (Lv.get (by assumption) 0 rfl) | exact SqT.of (Lv.get (by assumption) 1 rfl) | exact SqT.of (Lv.get (by assumption) 2 rfl) | exact dgetN (Lv.get (by assumption) 0 rfl) (by assumption) | exact dgetN (Lv.get (by assumption) 1 rfl) (by assumption) | exact dgetN (Lv.get (by assumption) 2 rfl) (by assumption) | exact dgetN (Lv.get (by assumption) 3 rfl) (by assumption) | exact dgetN (Lv.get (by assumption) 4 rfl) (by assumption) | decide | ((with_reducible show _ ∧ _); omega)))) | ((fail_if_success (with_reducible apply @Exists.intro (Nat → _))); (with_reducible apply Exists.intro))))
local macro_rules
  | `(tactic| wide_line with al $lv:ident $l:ident $nl:ident $H:ident $lv1:ident $s1:ident) => `(tactic| (intro $l:ident $nl:ident; generalize he : upd _ _ _ = $H:ident; have $lv1:ident := Lv.alE $lv $nl he; have $s1:ident := sameE $nl he; clear he; (try dsimp only at $lv1:ident)))
  | `(tactic| wide_line with alx $lv:ident $nl:ident $H:ident $lv1:ident $s1:ident) => `(tactic| (generalize he : upd _ _ _ = $H:ident; have $lv1:ident := Lv.alE $lv $nl he; have $s1:ident := sameE $nl he; clear he; (try dsimp only at $lv1:ident)))
  | `(tactic| wide_line with sts $lv:ident $i:num $H:ident $lv1:ident $s0:ident $np:ident $s1:ident) => `(tactic| (generalize he : upd _ _ _ = $H:ident; have $lv1:ident := Lv.stE $lv $i rfl he; have $s1:ident := sameN $s0 $np he; clear he; (try dsimp only at $lv1:ident)))
  | `(tactic| wide_line with st $lv:ident $i:num $H:ident $lv1:ident) => `(tactic| (generalize he : upd _ _ _ = $H:ident; have $lv1:ident := Lv.stE $lv $i rfl he; clear he; (try dsimp only at $lv1:ident)))
  | `(tactic| wide_line with stk $lv:ident $i:num $H:ident $lv1:ident $k1:ident) => `(tactic| (generalize he : upd _ _ _ = $H:ident; have $lv1:ident := Lv.stE $lv $i rfl he; have $k1:ident := KeepT.st (Lv.get $lv $i rfl) he; clear he; (try dsimp only at $lv1:ident)))
/-- p and q are tied -/
def tiedB (ts : List (Str × Str)) (p q : Str) : Bool := ts.any fun t => (t.1 == p && t.2 == q) || (t.2 == p && t.1 == q)
/-- p sees q -/
def seesB (ts : List (Str × Str)) (p q : Str) : Bool := q == p || tiedB ts p q
/-- what p sees, in the names' sequence -/
def seenOf (ns : List Str) (ts : List (Str × Str)) (p : Str) : List Str := ns.filter (seesB ts p)
/-- what p sees, as bits -/
def sightN (ns : List Str) (ts : List (Str × Str)) (p : Str) : Nat := maskOf (fun i => match ns[i]? with | some q => seesB ts p q | none => false) ns.length
theorem sight_bit {ns : List Str} {ts : List (Str × Str)} {p q : Str} {i : Nat} (h : ns[i]? = some q) : (sightN ns ts p).testBit i = seesB ts p q := by
  unfold sightN
  rw [test_mask, decide_eq_true (List.getElem?_eq_some_iff.mp h).1, h, Bool.true_and]
theorem sight_lt (ns : List Str) (ts : List (Str × Str)) (p : Str) : sightN ns ts p < 2 ^ ns.length := mask_lt _ _
theorem pick_sight (ns : List Str) (ts : List (Str × Str)) (p : Str) : pickN ns (sightN ns ts p) = seenOf ns ts p := pickN_filter (sight_lt ns ts p) fun _ _ h => sight_bit h
theorem idx_of {ns : List Str} (nd : ns.Nodup) {i : Nat} {p : Str} (h : ns[i]? = some p) : ns.idxOf p = i := by
  have hm := List.mem_of_getElem? h
  have h2 : ns[ns.idxOf p]? = some p := by
    rw [List.getElem?_eq_getElem (List.idxOf_lt_length_of_mem hm)]
    exact congrArg some (List.getElem_idxOf _)
  exact (List.getElem?_inj (List.idxOf_lt_length_of_mem hm) nd).mp (h2.trans h.symm)
/-- one tie more -/
theorem sight_snoc {ns : List Str} (nd : ns.Nodup) {ts : List (Str × Str)} {t : Str × Str} (h1 : t.1 ∈ ns) (h2 : t.2 ∈ ns) (p : Str) :
    sightN ns (ts ++ [t]) p = (sightN ns ts p ||| (if p = t.1 then 2 ^ ns.idxOf t.2 else 0)) ||| (if p = t.2 then 2 ^ ns.idxOf t.1 else 0) := by
  refine Nat.eq_of_testBit_eq fun i => ?_
  rw [Nat.testBit_or, Nat.testBit_or]
  have bit : ∀ (c : Prop) [Decidable c] (k : Nat), (if c then 2 ^ k else 0).testBit i = (decide c && decide (k = i)) := by
    intro c _ k
    by_cases h : c
    · rw [if_pos h, Nat.testBit_two_pow, decide_eq_true h, Bool.true_and]
    · rw [if_neg h, decide_eq_false h, Nat.zero_testBit]; rfl
  rw [bit, bit]
  cases e : ns[i]? with
  | none =>
    have hl := List.getElem?_eq_none_iff.mp e
    have big : ∀ us, (sightN ns us p).testBit i = false := fun us => by
      unfold sightN
      rw [test_mask, decide_eq_false (by omega)]; rfl
    have no : ∀ x ∈ ns, ns.idxOf x ≠ i := fun x hx z => by
      have := List.idxOf_lt_length_of_mem hx
      omega
    rw [big, big, decide_eq_false (no _ h2), decide_eq_false (no _ h1)]
    simp
  | some q =>
    rw [sight_bit e, sight_bit e]
    have ix : ∀ x ∈ ns, (ns.idxOf x = i ↔ x = q) := fun x hx => by
      constructor
      · intro z
        have h2 : ns[ns.idxOf x]? = some x := by
          rw [List.getElem?_eq_getElem (List.idxOf_lt_length_of_mem hx)]
          exact congrArg some (List.getElem_idxOf _)
        rw [z, e] at h2
        exact (Option.some.inj h2).symm
      · intro z
        subst z
        exact idx_of nd e
    unfold seesB tiedB
    rw [List.any_append, Bool.eq_iff_iff]
    simp only [Bool.or_eq_true, Bool.and_eq_true, decide_eq_true_eq, List.any_cons, List.any_nil, Bool.or_false, beq_iff_eq]
    rw [ix _ h1, ix _ h2]
    constructor
    · rintro (h | h | h | h)
      · exact .inl (.inl (.inl h))
      · exact .inl (.inl (.inr h))
      · exact .inl (.inr ⟨h.1.symm, h.2⟩)
      · exact .inr ⟨h.1.symm, h.2⟩
    · rintro (((h | h) | h) | h)
      · exact .inl h
      · exact .inr (.inl h)
      · exact .inr (.inr (.inl ⟨h.1.symm, h.2⟩))
      · exact .inr (.inr (.inr ⟨h.1.symm, h.2⟩))
theorem sight_nil {ns : List Str} (nd : ns.Nodup) {p : Str} (hp : p ∈ ns) : sightN ns [] p = 2 ^ ns.idxOf p := by
  refine Nat.eq_of_testBit_eq fun i => ?_
  rw [Nat.testBit_two_pow]
  cases e : ns[i]? with
  | none =>
    have hl := List.getElem?_eq_none_iff.mp e
    have := List.idxOf_lt_length_of_mem hp
    unfold sightN
    rw [test_mask, decide_eq_false (by omega), decide_eq_false (by omega)]; rfl
  | some q =>
    rw [sight_bit e, Bool.eq_iff_iff, decide_eq_true_eq]
    unfold seesB tiedB
    simp only [List.any_nil, Bool.or_false, beq_iff_eq]
    constructor
    · intro z; subst z; exact idx_of nd e
    · intro z
      have h2 : ns[ns.idxOf p]? = some p := by
        rw [List.getElem?_eq_getElem (List.idxOf_lt_length_of_mem hp)]
        exact congrArg some (List.getElem_idxOf _)
      rw [z, e] at h2
      exact Option.some.inj h2
/-- sights(places, ties): a new tuple of numbers -/
def spSights (K : PySem.W.Frag) : Sp := fun vs H Q _ => ∃ (a kt : Addr) (ns : List Str) (xs : List V) (ts : List (Str × Str)), vs = [.ref a, .ref kt] ∧ Nms K H a ns ∧ ns.Nodup ∧ ns.length ≤ 100 ∧ SqS K H kt xs ∧ TiesAt K H xs ts ∧ (∀ t ∈ ts, t.1 ∈ ns ∧ t.2 ∈ ns) ∧ ts.length ≤ 1000 ∧
  ∀ t H', Same H H' → H t = none → H' t = some (.tup (ns.map fun p => natV (sightN ns ts p))) → Q (.ref t) H'
section
variable {P : Program} {w : World} {K : PySem.W.Frag} {mg : Str → Option Value} {base : Heap}
abbrev sSights : Stmt := top ix_sights
theorem scSights : FnScope ["places", "ties", "bits", "at", "place", "sights", "one", "other"] ["places", "ties"] (defScope sSights) := ⟨rfl, rfl, rfl, by decide +kernel, rfl, by decide +kernel, by decide +kernel⟩
theorem has_sights (T : Bn mg) (D : DFE K mg "_sights" sSights ["places", "ties"]) : Has P w K mg base CX0 1 "_sights" ["places", "ties"] (spSights K) := by
  refine has_of D scSights (fun vs H Q E h => ?_) (fun f cdv A outer s H vs Q E hr h => ?_)
  · obtain ⟨a, kt, ns, xs, ts, rfl, _⟩ := h; rfl
  · obtain ⟨a, kt, ns, xs, ts, rfl, ha, nn, ln, hk, hks, hin, lt, k⟩ := h
    have nd := scSights.nd
    refine ⟨_, (pss_cons (ps_sv 2 nd (pe_dc (own := [("at", 3), ("place", 4)]) (g := _) (tt := tYes) rfl nd (pi_enumQ rfl T.z_enumerate (pa_cons (pv 0) pa_nil)) (blkOk_by (own := [("at", 3), ("place", 4)]) (N := ["places", "ties", "bits", "at", "place", "sights", "one", "other"]) (sc := defScope sSights) (by decide +kernel)) (fun _ _ _ _ _ => (pg_tupk (K := K) (n := 2) rfl rfl (pgs_cons (pg_name (i := 3) nd rfl (by first | exact Or.inl rfl | exact Or.inr rfl)) (pgs_cons (pg_name (i := 4) nd rfl (by first | exact Or.inl rfl | exact Or.inr rfl)) pgs_nil)))) (fun _ _ _ _ _ => pts_nil) (fun _ _ _ _ _ => (pv 4)) (fun _ _ _ _ _ => (pe_op op_shlB pe_int (pv 3)))))
    (pss_cons (ps_sv 5 nd (pe_dc (own := [("place", 4)]) (g := gName 4) (tt := tYes) rfl nd (pi_sq (pv 0)) (blkOk_by (own := [("place", 4)]) (N := ["places", "ties", "bits", "at", "place", "sights", "one", "other"]) (sc := defScope sSights) (by decide +kernel)) (fun _ _ _ _ _ => (pg_name (i := 4) nd rfl (by first | exact Or.inl rfl | exact Or.inr rfl))) (fun _ _ _ _ _ => pts_nil) (fun _ _ _ _ _ => (pv 4)) (fun _ _ _ _ _ => (pe_dget (hu_of hr) (pv 2) (pv 4) (fun _ _ => rfl)))))
    (pss_cons (ps_for PassesOwn.never rfl (pi_sq (pv 1)) (pg_tup (n := 2) rfl (pgs_cons (pg_name (i := 6) nd rfl (by first | exact Or.inl rfl | exact Or.inr rfl)) (pgs_cons (pg_name (i := 7) nd rfl (by first | exact Or.inl rfl | exact Or.inr rfl)) pgs_nil))) (pss_cons (ps_daug (hu_of hr) (pv 5) (pv 6) (pe_dget (hu_of hr) (pv 2) (pv 7) (fun _ _ => rfl)) in_orB (by intros; rfl))
    (pss_one (ps_daug (hu_of hr) (pv 5) (pv 7) (pe_dget (hu_of hr) (pv 2) (pv 6) (fun _ _ => rfl)) in_orB (by intros; rfl)))))
    (pss_one (ps_ret (pe_callTy call_tuple_of (by rfl) T.z_tuple (by decide +kernel) (pa_cons (pe_lc (own := [("place", 4)]) (g := gName 4) (tt := tYes) rfl nd (pi_sq (pv 0)) (blkOk_by (own := [("place", 4)]) (N := ["places", "ties", "bits", "at", "place", "sights", "one", "other"]) (sc := defScope sSights) (by decide +kernel)) (fun _ _ _ _ _ => (pg_name (i := 4) nd rfl (by first | exact Or.inl rfl | exact Or.inr rfl))) (fun _ _ _ _ _ => pts_nil) (fun _ _ _ _ _ => (pe_dget (hu_of hr) (pv 5) (pv 4) (fun _ _ => rfl)))) pa_nil))))))), ?_⟩
    have lv := Lv.zero H
    wide_line
    intro J G ex hG wk D nD
    have lvD := lv.al (o := .dK []) nD
    refine dc_it wk (fun i H' => Hold (∃ kvs, Lv H [] H' [(D, .dK kvs)] ∧ DN kvs (ns.take i) (fun p => 2 ^ ns.idxOf p) i)) ⟨[], lvD, Nat.le_refl _, fun p hp => by simp at hp⟩ (fun i H' _ ⟨_, z, _⟩ => hG H' (.same z.sm)) ?_ ?_
    · rintro i x H1 H2 hi ⟨kvs, lv1, dn1⟩ ⟨T, x1, x2, rfl, hT, rfl, ex1, ex2⟩
      cases ex1
      obtain ⟨p, hp, rfl⟩ := str_at ex2
      have hi' : i < ns.length := by simpa using hi
      wide_line with alx lv1 hT H3 lv3 s3
      wide_line
      refine ⟨by have := dn1.1; rw [sizeLine_eq]; omega, ?_⟩
      wide_line with st lv3 1 H4 lv4
      refine ⟨_, lv4.tl (fun z => nomatch z), ?_⟩
      rw [take_next2 hp]
      exact dn1.snoc (by show 2 ^ ns.idxOf p = 2 ^ i; rw [idx_of nn hp])
    · rintro H1 ⟨kv1, lv1, dn1⟩
      rw [List.length_map, List.take_length] at dn1
      wide_line
      refine ⟨ha.same lv1.sm, ?_⟩
      intro J2 G2 ex2 hG2 wk2 D2 nD2
      have lvD2 := lv1.al (o := .dK []) nD2
      refine dc_it wk2 (fun i H' => Hold (∃ kvs, Lv H [] H' [(D2, .dK kvs), (D, .dK kv1)] ∧ Same H1 H' ∧ DN kvs (ns.take i) (fun p => 2 ^ ns.idxOf p) i)) ⟨[], lvD2, same_new nD2, Nat.le_refl _, fun p hp => by simp at hp⟩ (fun i H' _ ⟨_, _, z, _⟩ => hG2 H' (.same z)) ?_ ?_
      · rintro i x H2 H3 hi ⟨kvs, lv2, s2, dn2⟩ ⟨rfl, ex2⟩
        obtain ⟨p, hp, rfl⟩ := str_at ex2
        have hi' : i < ns.length := by simpa using hi
        have hv := dn1.2 p (List.mem_of_getElem? hp)
        wide_line
        refine ⟨by have := dn2.1; rw [sizeLine_eq]; omega, ?_⟩
        wide_line with sts lv2 0 H4 lv4 s2 nD2 s4
        refine ⟨_, lv4, s4, ?_⟩
        rw [take_next2 hp]
        exact dn2.snoc rfl
      · rintro H2 ⟨kv2, lv2, s2, dn2⟩
        rw [List.length_map, List.take_length] at dn2
        wide_line
        refine ⟨hk.same lv2.sm, ?_⟩
        intro J3 G3 ex3 hG3 wk3
        have xl : xs.length = ts.length := paired_len hks
        refine for_it wk3 (fun i σ H' => Hold (∃ (kvs : List (Key × V)) (u3 u4 u6 u7 : Option V), σ = [some (.ref a), some (.ref kt), some (.ref D), u3, u4, some (.ref D2), u6, u7] ∧ Lv H [] H' [(D2, .dK kvs), (D, .dK kv1)] ∧ Same H1 H' ∧ DN kvs ns (sightN ns (ts.take i)) (ns.length + 2 * i)))
          ⟨kv2, _, _, _, _, rfl, lv2, s2, dn2.1, fun p hp => by rw [dn2.2 p hp, List.take_zero, sight_nil nn hp]⟩ (fun i σ H' _ ⟨_, _, _, _, _, _, z, _⟩ => hG3 H' (SqKeep.of hk lv2.sm z.sm ex3)) ?_ ?_
        · rintro i x σ H3 H4 hi ⟨kvs, u3, u4, u6, u7, rfl, lv3, s3, dn3⟩ ⟨rfl, ex4⟩
          obtain ⟨t, b, ht, rfl, hb⟩ := ties_at (hks.same lv3.sm) ex4
          have hb : SqT K H4 b [.str t.1, .str t.2] := hb
          obtain ⟨in1, in2⟩ := hin t (List.mem_of_getElem? ht)
          have v1 := dn3.2 _ in1
          have b1 := dn1.2 _ in1
          have b2 := dn1.2 _ in2
          have i7 : i < 1000 := by omega
          wide_line
          refine ⟨_, dputN (lv3.get 0 rfl) (by have := dn3.1; rw [sizeLine_eq]; omega), ?_⟩
          wide_line with sts lv3 0 H5 lv4 s3 nD2 s4
          have dn4 : DN (putK kvs (.inr t.1) (natV (sightN ns (ts.take i) t.1 ||| 2 ^ ns.idxOf t.2))) ns (fun p => sightN ns (ts.take i) p ||| (if p = t.1 then 2 ^ ns.idxOf t.2 else 0)) (ns.length + 2 * i + 1) := dn3.upd (by simp) fun q _ hq => by simp [hq]
          generalize putK kvs (.inr t.1) (natV (sightN ns (ts.take i) t.1 ||| 2 ^ ns.idxOf t.2)) = kvs4 at lv4 dn4
          have v2 := dn4.2 _ in2
          wide_line
          refine ⟨_, dputN (lv4.get 0 rfl) (by have := dn4.1; rw [sizeLine_eq]; omega), ?_⟩
          wide_line with sts lv4 0 H6 lv5 s4 nD2 s5
          refine ⟨_, _, _, _, _, rfl, lv5, s5, ?_⟩
          have e : sightN ns (ts.take (i + 1)) = fun p => (sightN ns (ts.take i) p ||| (if p = t.1 then 2 ^ ns.idxOf t.2 else 0)) ||| (if p = t.2 then 2 ^ ns.idxOf t.1 else 0) := by
            funext p
            rw [take_next2 ht, sight_snoc nn in1 in2]
          rw [e]
          exact dn4.upd (by simp) fun q _ hq => by simp [hq]
        · rintro σ H3 ⟨kvs, u3, u4, u6, u7, rfl, lv3, s3, dn3⟩
          rw [xl, List.take_length] at dn3
          wide_line
          refine ⟨ha.same lv3.sm, ?_⟩
          intro J4 G4 ex4 hG4 wk4 L nL
          have lvL := lv3.al (o := .lst []) nL
          refine lc_it wk4 (fun i H' => Hold (Lv H [] H' [(L, .lst ((ns.take i).map fun p => natV (sightN ns ts p))), (D2, .dK kvs)] ∧ Same H3 H')) ⟨lvL.picks [0, 1] rfl (by decide) (by simp), same_new nL⟩ (fun i H' _ ⟨_, z⟩ => hG4 H' (.same z)) ?_ ?_
          · rintro i x H4 H5 hi ⟨lv4, s4⟩ ⟨rfl, ex5⟩
            obtain ⟨p, hp, rfl⟩ := str_at ex5
            have hi' : i < ns.length := by simpa using hi
            have hv := dn3.2 p (List.mem_of_getElem? hp)
            wide_line
            refine ⟨by rw [List.length_map, sizeLine_eq]; have := List.length_take_le i ns; omega, ?_⟩
            wide_line with sts lv4 0 H5 lv5 s4 nL s5
            rw [take_next2 hp, List.map_append]
            exact ⟨lv5, s5⟩
          · rintro H4 ⟨lv4, s4⟩
            rw [List.length_map, List.take_length] at lv4
            wide_line
            refine .inl ⟨SqL.of (lv4.get 0 rfl), ?_⟩
            wide_line with al lv4 t0 nt0 H5 lv5 s5
            exact k t0 H5 lv5.sm (lv4.free nt0) (lv5.get 0 rfl)
end
end Pw

set_option Elab.async false
set_option linter.all false
set_option maxRecDepth 100000
set_option maxHeartbeats 4000000
namespace Pw
open PySem PySem.Spec PyProof.Rows L2 Ct
/-! what the ranks are (the definition alone) -/
/-- the place at i sees the place at j -/
def seeAt (ns : List Str) (ts : List (Str × Str)) (i j : Nat) : Bool := match ns[i]? with
  | some p => (sightN ns ts p).testBit j
  | none => false
/-- the guard at g wins against the runner at r within less than k turns -/
def wonAt (see : Nat → Nat → Bool) (n : Nat) : Nat → Nat → Nat → Bool
  | 0, _, _ => false
  | k + 1, g, r => g == r || wonAt see n k g r || (List.range n).any fun h => see g h && (h == r || (k != 0 && (List.range n).all fun q => !see r q || wonAt see n k h q))
/-- the least number of turns -/
def rankAt (see : Nat → Nat → Bool) (n i j : Nat) : Option Nat := (List.range (n * n + 1)).find? fun k => if k = 0 then i == j else wonAt see n k i j
def rankRows (ns : List Str) (ts : List (Str × Str)) : List (List (Option Nat)) := (List.range ns.length).map fun i => (List.range ns.length).map fun j => rankAt (seeAt ns ts) ns.length i j
def rkV : Option Nat → V
  | none => .non
  | some k => .int (k : Nat)
/-- what is kept of a web: nothing -/
def RkOk (K : PySem.W.Frag) (H : Hp) (ns : List Str) (ts : List (Str × Str)) (rk : V) : Prop := ∃ kd : Addr, rk = .ref kd ∧ H kd = some (.dK [])
end Pw

set_option Elab.async false
set_option linter.all false
set_option maxRecDepth 100000
set_option maxHeartbeats 4000000
namespace Pw
open PySem PySem.Spec PyProof.Rows L2 Ct
/-- a property and its getter's promise -/
def HasP (P : Program) (w : World) (K : PySem.W.Frag) (mg : Str → Option Value) (base : Heap) (k : Nat) (C : Addr) (f : Str) (sp : Sp) : Prop := ∃ p g fd, PropOf K C f p g ∧ FnOk P w K mg base CX0 k g fd ["self"] sp ∧ Binds K fd ["self"] []
theorem pe_hP {X : Cx} {k j : Nat} {C : Addr} {f : Str} {sp : Sp} {e : Expr} {pos : Pos} {ta : TE} (h : HasP X.prog X.w X.K X.mg X.base j C f sp) (c : Cls X.K C) (hr : Room k X.A) (l : j + 1 ≤ k) (he : PE X e ta) (hab : attributeBase e f X.env (eval e X.env) = eval e X.env := by rfl) : PE X (.Attribute e f pos) (tProp C sp [] E0 ta) := by
  obtain ⟨p, g, fd, hp, F, b⟩ := h
  exact pe_prop he c hp F (hr.mono l) b .nil pass0 hab
/-- a method and its promise -/
def HasM (P : Program) (w : World) (K : PySem.W.Frag) (mg : Str → Option Value) (base : Heap) (CX : CXT) (k : Nat) (C : Addr) (m : Str) (ps : List Str) (sp : Sp) : Prop := ∃ f fd, Meth K C m f ∧ Binds K fd ps [] ∧ FnOk P w K mg base CX k f fd ps sp
theorem pe_hM {X : Cx} {k j : Nat} {C : Addr} {m : Str} {ps : List Str} {sp : Sp} {o e : Expr} {es : List Expr} {apos pos : Pos} {ta : TE} {t : TA} {pl : Sem Bool} (h : HasM X.prog X.w X.K X.mg X.base CX0 j C m ps sp) (c : Cls X.K C) (hr : Room k X.A) (l : j ≤ k) (ho : PE X o ta) (ha : PA X (e :: es) t)
    (hst : starEach (e :: es) X.env = (false, eval e X.env) :: starEach es X.env := by rfl) (hpl : (backTo pos (starEach es X.env)).any (·.1) = false := by rfl)
    (ht : eval (.Call (.Attribute o m apos) (e :: es) [] pos) X.env = (do
      let ov ← eval o X.env
      standAt apos.atName
      let (f, first) ← holding [ov] (getMethod ov m pl)
      callWith pos f first (backTo pos (starEach (e :: es) X.env)) (backToKw pos (keywordEach [] X.env))) := by rfl) : PE X (.Call (.Attribute o m apos) (e :: es) [] pos) (tMeth C m sp [] E0 ta t) := by
  obtain ⟨f, fd, hm, b, F⟩ := h
  exact pe_meth ho c hm F (hr.mono l) b .nil pass0 ha hst hpl ht
end Pw

set_option Elab.async false
set_option linter.all false
set_option maxRecDepth 100000
set_option maxHeartbeats 4000000
namespace Pw
open PySem PySem.Spec PyProof.Rows L2 Ct
/-- a dict from the names to lists of texts, each list at a place of its own -/
def MapAt (H : Hp) (D : Addr) (ns : List Str) (f : Str → List Str) : Prop := ∃ (kvs : List (Key × V)) (l : Str → Addr), H D = some (.dK kvs) ∧ kvs.length ≤ ns.length ∧ (∀ p ∈ ns, valV kvs (.inr p) = some (.ref (l p)) ∧ H (l p) = some (.lst ((f p).map V.str))) ∧ ∀ p ∈ ns, ∀ q ∈ ns, l p = l q → p = q
/-- the same, the lists new behind H0 -/
def MapOn (H0 H : Hp) (D : Addr) (ns : List Str) (f : Str → List Str) : Prop := ∃ (kvs : List (Key × V)) (l : Str → Addr), H D = some (.dK kvs) ∧ kvs.length ≤ ns.length ∧ (∀ p ∈ ns, valV kvs (.inr p) = some (.ref (l p)) ∧ H (l p) = some (.lst ((f p).map V.str)) ∧ H0 (l p) = none) ∧ ∀ p ∈ ns, ∀ q ∈ ns, l p = l q → p = q
theorem MapOn.at {H0 H : Hp} {D : Addr} {ns : List Str} {f : Str → List Str} : MapOn H0 H D ns f → MapAt H D ns f
  | ⟨kvs, l, h1, h2, h3, h4⟩ => ⟨kvs, l, h1, h2, fun p hp => ⟨(h3 p hp).1, (h3 p hp).2.1⟩, h4⟩
theorem MapOn.same {H0 H H' : Hp} {D : Addr} {ns : List Str} {f : Str → List Str} (s : Same H H') : MapOn H0 H D ns f → MapOn H0 H' D ns f
  | ⟨kvs, l, h1, h2, h3, h4⟩ => ⟨kvs, l, s _ _ h1, h2, fun p hp => ⟨(h3 p hp).1, s _ _ (h3 p hp).2.1, (h3 p hp).2.2⟩, h4⟩
theorem MapOn.congr {H0 H : Hp} {D : Addr} {ns : List Str} {f g : Str → List Str} (e : ∀ p ∈ ns, f p = g p) : MapOn H0 H D ns f → MapOn H0 H D ns g
  | ⟨kvs, l, h1, h2, h3, h4⟩ => ⟨kvs, l, h1, h2, fun p hp => by rw [← e p hp]; exact h3 p hp, h4⟩
/-- one name more -/
theorem MapOn.snoc {H0 H H5 : Hp} {D L : Addr} {ns : List Str} {f : Str → List Str} {p : Str} (M : MapOn H0 H D ns f) (s : Same H H5) (hL : H L = none) (h5 : H5 L = some (.lst ((f p).map V.str))) (h0 : H0 L = none) (np : p ∉ ns) :
    ∃ kvs, H5 D = some (.dK kvs) ∧ kvs.length ≤ ns.length ∧ MapOn H0 (upd H5 D (.dK (putK kvs (.inr p) (.ref L)))) D (ns ++ [p]) f := by
  obtain ⟨kvs, l, h1, h2, h3, h4⟩ := M
  have h1' := s _ _ h1
  refine ⟨kvs, h1', h2, _, fun q => if q = p then L else l q, upd_same, ?_, fun q hq => ?_, fun q hq r hr e => ?_⟩
  · rw [List.length_append]
    have := length_putK kvs (Sum.inr p) (V.ref L)
    simp only [List.length_cons, List.length_nil]
    omega
  · rw [valV_put]
    dsimp only
    rcases List.mem_append.mp hq with hq | hq
    · have ne : q ≠ p := fun e => np (e ▸ hq)
      have a := h3 q hq
      rw [if_neg (fun z => ne (Sum.inr.inj z)), if_neg ne, upd_ne (ne_of (s _ _ a.2.1) h1' (by intro z; cases z))]
      exact ⟨a.1, s _ _ a.2.1, a.2.2⟩
    · rw [List.mem_singleton.mp hq, if_pos rfl, if_pos rfl, upd_ne (ne_of h5 h1' (by intro z; cases z))]
      exact ⟨rfl, h5, h0⟩
  · dsimp only at e
    have old : ∀ {x}, x ∈ ns → l x ≠ L := fun {x} hx z => by
      have a := (h3 x hx).2.1
      rw [z, hL] at a
      cases a
    rcases List.mem_append.mp hq with hq | hq
    · have ne : q ≠ p := fun e => np (e ▸ hq)
      rw [if_neg ne] at e
      rcases List.mem_append.mp hr with hr | hr
      · have ne2 : r ≠ p := fun e => np (e ▸ hr)
        rw [if_neg ne2] at e
        exact h4 q hq r hr e
      · rw [List.mem_singleton.mp hr, if_pos rfl] at e
        exact absurd e (old hq)
    · rw [List.mem_singleton.mp hq] at e ⊢
      rcases List.mem_append.mp hr with hr | hr
      · have ne2 : r ≠ p := fun e => np (e ▸ hr)
        rw [if_pos rfl, if_neg ne2] at e
        exact absurd e.symm (old hr)
      · exact (List.mem_singleton.mp hr).symm
/-- what the walk asks of the class Web -/
structure WC (K : PySem.W.Frag) (C : Addr) : Prop where
  cls : Cls K C
  n1 : NoAttr K C "_places"
  n2 : NoAttr K C "_ties"
  n3 : NoAttr K C "_sights"
  n4 : NoAttr K C "_seen"
  n5 : NoAttr K C "_kept"
  n6 : NoAttr K C "_sorted_places"
  n7 : NoAttr K C "_sorted_pairs"
/-- sorted -/
def srt (ds : List PyData) : List PyData := ds.mergeSort (W.dataLe false id)
def pairD (p : Str × Str) : PyData := .tuple [.str (pairP p).1, .str (pairP p).2]
/-- the ties that data are -/
def tiesD (ns : List Str) (ds : List PyData) : List (Str × Str) := ds.filterMap (tieOf ns)
/-- a web at x -/
structure WebAt (K : PySem.W.Frag) (C : Addr) (H : Hp) (x : Addr) (ns : List Str) (ts : List (Str × Str)) : Prop where
  ex : ∃ (dx tp tt sg sn sp sq : Addr) (rk : V) (xs : List V), H x = some (.ins C dx [("_places", .ref tp), ("_ties", .ref tt), ("_sights", .ref sg), ("_seen", .ref sn), ("_kept", rk), ("_sorted_places", .ref sp), ("_sorted_pairs", .ref sq)]) ∧
    SqT K H tp (ns.map V.str) ∧ SqT K H tt xs ∧ TiesAt K H xs ts ∧ SqT K H sg (ns.map fun p => natV (sightN ns ts p)) ∧ MapAt H sn ns (seenOf ns ts) ∧ RkOk K H ns ts rk ∧ Dp K H (.ref sp) (.list (srt (ns.map PyData.str))) ∧ Dp K H (.ref sq) (.list (srt (ts.map pairD)))
theorem places_at {K : PySem.W.Frag} {H : Hp} {v : V} {d : PyData} {ns : List Str} (h : Dq K H v d) (e : placesOf d = some ns) : ∃ a, v = .ref a ∧ Nms K H a ns ∧ ns.Nodup ∧ 1 ≤ ns.length ∧ ns.length ≤ 12 := by
  unfold placesOf at e
  cases es : seqD d with
  | none => rw [es] at e; cases e
  | some ds =>
    rw [es] at e
    dsimp only at e
    by_cases c : (1 ≤ ds.length ∧ ds.length ≤ 12) ∧ ds.all nameD = true ∧ (strsD ds).Nodup
    · rw [if_pos c] at e
      cases e
      obtain ⟨a, xs, rfl, hs, ha, _⟩ := seq_of h es
      obtain ⟨e1, e2⟩ := strs_of ha c.2.1
      rw [e1] at hs
      exact ⟨a, rfl, hs, c.2.2, by omega, by omega⟩
    · rw [if_neg c] at e
      cases e
theorem tie_mem {ns : List Str} {d : PyData} {p : Str × Str} (e : tieOf ns d = some p) : p.1 ∈ ns ∧ p.2 ∈ ns := by
  unfold tieOf at e
  split at e
  · split at e
    · split at e
      · rename_i c
        cases e
        exact ⟨c.1, c.2.1⟩
      · cases e
    · cases e
  · cases e
/-- where no datum is bad all are ties -/
theorem ties_ok {K : PySem.W.Frag} {H : Hp} {ns : List Str} : ∀ {xs : List V} {ds : List PyData} {ps : List (Str × Str)} {i : Nat}, DqAll K H xs ds → tieBad ns ps i ds = none → TiesAt K H xs (tiesD ns ds) ∧ ∀ t ∈ tiesD ns ds, t.1 ∈ ns ∧ t.2 ∈ ns
  | _, _, _, _, .nil, _ => ⟨.nil, fun t h => by cases h⟩
  | _, d :: ds, ps, i, .cons h t, e => by
    unfold tieBad at e
    cases et : tieOf ns d with
    | none => rw [et] at e; cases e
    | some p =>
      rw [et] at e
      dsimp only at e
      by_cases c : pairP p ∈ ps
      · rw [if_pos c] at e; cases e
      · rw [if_neg c] at e
        obtain ⟨h1, h2⟩ := ties_ok t e
        have et2 : tiesD ns (d :: ds) = p :: tiesD ns ds := by unfold tiesD; rw [List.filterMap_cons_some et]
        rw [et2]
        refine ⟨.cons (tie_tup h et) h1, fun t ht => ?_⟩
        rcases List.mem_cons.mp ht with rfl | ht
        · exact tie_mem et
        · exact h2 t ht
end Pw
namespace Ct
open PySem PySem.Spec PyProof.Rows L2 Pw
section
variable {K : PySem.W.Frag} {H H' : Hp}
theorem SameD.l (s : SameD H H') {a : Addr} {xs : List V} : SqL K H a xs → SqL K H' a xs
  | .inl (.inl h) => .inl (.inl (s _ _ h (by intro _ _ _ z; cases z)))
  | .inl (.inr ⟨o, h⟩) => .inl (.inr ⟨o, s _ _ h (by intro _ _ _ z; cases z)⟩)
  | .inr h => .inr h
theorem SameD.t (s : SameD H H') {a : Addr} {xs : List V} : SqT K H a xs → SqT K H' a xs
  | .inl (.inl h) => .inl (.inl (s _ _ h (by intro _ _ _ z; cases z)))
  | .inl (.inr ⟨o, h⟩) => .inl (.inr ⟨o, s _ _ h (by intro _ _ _ z; cases z)⟩)
  | .inr h => .inr h
theorem SameD.s (s : SameD H H') {a : Addr} {xs : List V} : SqS K H a xs → SqS K H' a xs
  | .inl h => .inl (s.l h)
  | .inr h => .inr (s.t h)
theorem SameD.ties (s : SameD H H') : ∀ {xs : List V} {ps : List (Str × Str)}, TiesAt K H xs ps → TiesAt K H' xs ps
  | _, _, .nil => .nil
  | _, _, .cons ⟨a, e, h⟩ t => .cons ⟨a, e, s.t h⟩ (SameD.ties s t)
theorem SameD.map (s : SameD H H') {D : Addr} {ns : List Str} {f : Str → List Str} : MapAt H D ns f → MapAt H' D ns f
  | ⟨kvs, l, h1, h2, h3, h4⟩ => ⟨kvs, l, s _ _ h1 (by intro _ _ _ z; cases z), h2, fun p hp => ⟨(h3 p hp).1, s _ _ (h3 p hp).2 (by intro _ _ _ z; cases z)⟩, h4⟩
mutual
theorem SameD.dp (s : SameD H H') : ∀ {v : V} {d : PyData}, Dp K H v d → Dp K H' v d
  | _, _, .non => .non
  | _, _, .bl b => .bl b
  | _, _, .int i => .int i
  | _, _, .str x => .str x
  | _, _, .lst h a => .lst (s.l h) (SameD.dps s a)
  | _, _, .tup h a => .tup (s.t h) (SameD.dps s a)
theorem SameD.dps (s : SameD H H') : ∀ {vs : List V} {ds : List PyData}, DpAll K H vs ds → DpAll K H' vs ds
  | _, _, .nil => .nil
  | _, _, .cons a b => .cons (SameD.dp s a) (SameD.dps s b)
end
end
end Ct
namespace Pw
open PySem PySem.Spec PyProof.Rows L2 Ct
section
variable {K : PySem.W.Frag} {H H' : Hp}
theorem RkOk.same (s : Same H H') {ns : List Str} {ts : List (Str × Str)} {rk : V} : RkOk K H ns ts rk → RkOk K H' ns ts rk
  | ⟨kd, e, h⟩ => ⟨kd, e, s _ _ h⟩
/-- tuple(xs) -/
theorem tuple_of {p : Addr} {ys : List V} {Q : VK} (h : SqS K H p ys) (k : ∀ t H', Same H H' → SqT K H' t ys → Q (.ref t) H') : (SqL K H p ys ∧ ∀ l, H l = none → Q (.ref l) (upd H l (.tup ys))) ∨ (SqT K H p ys ∧ Q (.ref p) H) := by
  rcases h with h | h
  · exact .inl ⟨h, fun l hl => k l _ (same_new hl) (SqT.of upd_same)⟩
  · exact .inr ⟨h, k p H (Same.refl H) h⟩
theorem dp_all {bs : List It2} (h : ∀ b ∈ bs, Dp K H b.1 b.2) : DpAll K H (bs.map (·.1)) (bs.map (·.2)) := by
  induction bs with
  | nil => exact .nil
  | cons b bs ih => exact .cons (h b List.mem_cons_self) (ih fun c hc => h c (List.mem_cons_of_mem _ hc))
theorem srt_map (bs : List It2) : (bs.mergeSort (W.dataLe false (·.2))).map (·.2) = srt (bs.map (·.2)) := by
  unfold srt
  exact List.map_mergeSort (fun a _ b _ => rfl)
theorem dp_srt {bs : List It2} (h : ∀ b ∈ bs, Dp K H b.1 b.2) : DpAll K H ((bs.mergeSort (W.dataLe false (·.2))).map (·.1)) (srt (bs.map (·.2))) := by
  rw [← srt_map]
  exact dp_all fun b hb => h b ((List.mergeSort_perm bs _).mem_iff.mp hb)
theorem sqT_lst {L a : Addr} {ys xs : List V} {o : HO} (h : H L = some (.lst ys)) (t : SqT K H a xs) : SqT K (upd H L o) a xs := by
  rcases t with (t | ⟨ob, t⟩) | t
  · exact .inl (.inl (by rw [upd_ne (ne_of t h (by intro z; cases z))]; exact t))
  · exact .inl (.inr ⟨ob, by rw [upd_ne (ne_of t h (by intro z; cases z))]; exact t⟩)
  · exact .inr t
def rTup (K : PySem.W.Frag) : List V → Hp → VK → Prop := fun xs H Q => ∃ (p : Addr) (ys : List V), xs = [.ref p] ∧ SqS K H p ys ∧ ∀ t H', Same H H' → SqT K H' t ys → Q (.ref t) H'
theorem call_tupS {X : Cx} : CallR X (.type "tuple") (rTup X.K) := by
  intro pins s σ H xs us Q I r h
  obtain ⟨p, ys, rfl, hs, k⟩ := h
  exact call_tuple_of pins s σ H _ us Q I r ⟨p, ys, rfl, tuple_of hs k⟩
/-- what stood before, x aside -/
def Off (x : Addr) (H H' : Hp) : Prop := ∀ b o, b ≠ x → H b = some o → H' b = some o
theorem Off.of {x : Addr} (s : Same H H') : Off x H H' := fun b o _ e => s b o e
theorem Off.trans {x : Addr} {H1 H2 : Hp} (s : Off x H H1) (t : Off x H1 H2) : Off x H H2 := fun b o n e => t b o n (s b o n e)
theorem Off.store {x : Addr} {o : HO} : Off x H (upd H x o) := fun b u n e => by rw [upd_ne n]; exact e
end
local macro_rules | `(tactic| wide_line) => `(tactic| repeat ((fail_if_success (with_reducible refine at_while ?_)); (fail_if_success (with_reducible refine at_while1 ?_)); (conv => whnf); first | ((with_reducible refine And.intro ?_ ?_); focus (first | (first | ((with_reducible show (_ : Nat) ≤ _); first | exact sz0 | exact sz1 | exact sz2 | exact sz3 | exact sz4 | exact sz5 | exact sz6 | exact sz7 | exact sz8 | exact sz10 | exact sz11 | exact sz12 | exact sz14 | omega | decide | (simp only [List.length_cons, List.length_nil]; omega)) | ((with_reducible show (_ : Int) ≤ _); first | omega | decide) | ((with_reducible show (_ : Int) < _); first | omega | decide) | ((with_reducible show (_ : Nat) < _); omega)) | ((fail_if_success (with_reducible show (_ : Nat) ≤ _)); (fail_if_success (with_reducible show (_ : Int) ≤ _)); (fail_if_success (with_reducible show (_ : Int) < _)); (fail_if_success (with_reducible show (_ : Nat) < _)); first | exact kv_str _ | exact kv_int _ | rfl | assumption | exact flat_strs _ | exact Lv.get (by assumption) 0 rfl | exact Lv.get (by assumption) 1 rfl | exact Lv.get (by assumption) 2 rfl | exact Lv.get (by assumption) 3 rfl | exact Lv.get (by assumption) 4 rfl | exact Lv.get (by assumption) 5 rfl | exact Lv.get (by assumption) 6 rfl | exact SqL.of (Lv.get (by assumption) 0 rfl) | exact SqL.of (Lv.get (by assumption) 1 rfl) | exact SqL.of (Lv.get (by assumption) 2 rfl) | exact SqL.of (Lv.get (by assumption) 3 rfl) | exact SqL.of (Lv.get (by assumption) 4 rfl) | exact SqL.of (Lv.get (by assumption) 5 rfl) | exact Or.inl (SqL.of (Lv.get (by assumption) 0 rfl)) | exact Or.inl (SqL.of (Lv.get (by assumption) 1 rfl)) | exact Or.inl (SqL.of (Lv.get (by assumption) 2 rfl)) | exact Or.inl (SqL.of (Lv.get (by assumption) 3 rfl)) | exact Or.inl (SqL.of (Lv.get (by assumption) 4 rfl)) | exact Or.inl (SqL.of (Lv.get (by assumption) 5 rfl)) | exact ⟨_, SqL.of (Lv.get (by assumption) 0 rfl)⟩ | exact ⟨_, SqL.of (Lv.get (by assumption) 1 rfl)⟩ | exact ⟨_, SqL.of (Lv.get (by assumption) 2 rfl)⟩ | exact ⟨_, SqL.of (Lv.get (by assumption) 3 rfl)⟩ | exact ⟨_, SqL.of (Lv.get (by assumption) 4 rfl)⟩ | exact ⟨_, SqL.of (Lv.get (by assumption) 5 rfl)⟩ | exact Or.inl ⟨_, SqL.of (Lv.get (by assumption) 0 rfl), rfl⟩ | exact Or.inl ⟨_, SqL.of (Lv.get (by assumption) 1 rfl), rfl⟩ | exact Or.inl ⟨_, SqL.of (Lv.get (by assumption) 2 rfl), rfl⟩ | exact Or.inl ⟨_, SqL.of (Lv.get (by assumption) 3 rfl), rfl⟩ | exact Or.inl ⟨_, SqL.of (Lv.get (by assumption) 4 rfl), rfl⟩ | exact Or.inl ⟨_, SqL.of (Lv.get (by assumption) 5 rfl), rfl⟩ | exact Or.inl ⟨rfl, _, SqL.of (Lv.get (by assumption) 0 rfl)⟩ | exact Or.inl ⟨rfl, _, SqL.of (Lv.get (by assumption) 1 rfl)⟩ | exact Or.inl ⟨rfl, _, SqL.of (Lv.get (by assumption) 2 rfl)⟩ | exact Or.inl ⟨rfl, _, SqL.of (Lv.get (by assumption) 3 rfl)⟩ | exact Or.inl ⟨rfl, _, SqL.of (Lv.get (by assumption) 4 rfl)⟩ | exact Or.inl ⟨rfl, _, SqL.of (Lv.get (by assumption) 5 rfl)⟩ | exact Or.inr (SqT.of (Lv.get (by assumption) 0 rfl)) | exact Or.inr (SqT.of (Lv.get (by assumption) 1 rfl)) | exact Or.inr (SqT.of (Lv.get (by assumption) 2 rfl)) | exact Or.inr (SqT.of (Lv.get (by assumption) 3 rfl)) | exact SqT.of (Lv.get (by assumption) 0 rfl) | exact SqT.of (Lv.get (by assumption) 1 rfl) | exact SqT.of (Lv.get (by assumption) 2 rfl) | exact dgetN (Lv.get (by assumption) 0 rfl) (by assumption) | exact dgetN (Lv.get (by assumption) 1 rfl) (by assumption) | exact dgetN (Lv.get (by assumption) 2 rfl) (by assumption) | exact dgetN (Lv.get (by assumption) 3 rfl) (by assumption) | exact dgetN (Lv.get (by assumption) 4 rfl) (by assumption) | decide | ((with_reducible show _ ∧ _); omega)))) | ((fail_if_success (with_reducible apply @Exists.intro (Nat → _))); (with_reducible apply Exists.intro))))
local macro_rules
  | `(tactic| wide_line with al $lv:ident $l:ident $nl:ident $H:ident $lv1:ident $s1:ident) => `(tactic| (intro $l:ident $nl:ident; generalize he : upd _ _ _ = $H:ident; have $lv1:ident := Lv.alE $lv $nl he; have $s1:ident := sameE $nl he; clear he; (try dsimp only at $lv1:ident)))
  | `(tactic| wide_line with alx $lv:ident $nl:ident $H:ident $lv1:ident $s1:ident) => `(tactic| (generalize he : upd _ _ _ = $H:ident; have $lv1:ident := Lv.alE $lv $nl he; have $s1:ident := sameE $nl he; clear he; (try dsimp only at $lv1:ident)))
  | `(tactic| wide_line with sts $lv:ident $i:num $H:ident $lv1:ident $s0:ident $np:ident $s1:ident) => `(tactic| (generalize he : upd _ _ _ = $H:ident; have $lv1:ident := Lv.stE $lv $i rfl he; have $s1:ident := sameN $s0 $np he; clear he; (try dsimp only at $lv1:ident)))
  | `(tactic| wide_line with stx $lv:ident $H:ident $lv1:ident $d1:ident) => `(tactic| (generalize he : upd _ _ _ = $H:ident; have $lv1:ident := Lv.stE $lv 0 rfl he; have $d1:ident := SameD.storeE (Lv.get $lv 0 rfl) he; clear he; (try dsimp only at $lv1:ident)))
  | `(tactic| wide_line with st $lv:ident $i:num $H:ident $lv1:ident) => `(tactic| (generalize he : upd _ _ _ = $H:ident; have $lv1:ident := Lv.stE $lv $i rfl he; clear he; (try dsimp only at $lv1:ident)))
  | `(tactic| wide_line with stk $lv:ident $i:num $H:ident $lv1:ident $k1:ident) => `(tactic| (generalize he : upd _ _ _ = $H:ident; have $lv1:ident := Lv.stE $lv $i rfl he; have $k1:ident := KeepT.st (Lv.get $lv $i rfl) he; clear he; (try dsimp only at $lv1:ident)))
/-- a heap without the lists that stood in another -/
def noLst (Z H : Hp) : Hp := fun b => match Z b with
  | some (.lst _) => none
  | _ => H b
theorem noLst_sub {Z H : Hp} : Same (noLst Z H) H := fun b o e => by
  unfold noLst at e
  split at e
  · cases e
  · exact e
theorem noLst_at {Z H : Hp} {b : Addr} {o : HO} (n : ∀ xs, Z b ≠ some (.lst xs)) (e : H b = some o) : noLst Z H b = some o := by
  unfold noLst
  split
  · rename_i xs h
    exact absurd h (n xs)
  · exact e
theorem noLst_new {Z H : Hp} {b : Addr} {o : HO} (n : Z b = none) (e : H b = some o) : noLst Z H b = some o := noLst_at (fun xs z => by rw [n] at z; cases z) e
theorem noLst_keep {Z H : Hp} {b : Addr} {o : HO} (nl : ∀ b xs, Z b = some (.lst xs) → H b = some (.lst xs)) (e : H b = some o) (no : ∀ xs, o ≠ .lst xs) : noLst Z H b = some o := noLst_at (fun xs z => no xs (by have := nl b xs z; rw [e] at this; exact Option.some.inj this)) e
theorem noLst_t {K : PySem.W.Frag} {Z H : Hp} {b : Addr} {xs : List V} (nl : ∀ b xs, Z b = some (.lst xs) → H b = some (.lst xs)) (h : SqT K H b xs) : SqT K (noLst Z H) b xs := by
  rcases h with (h | ⟨o, h⟩) | h
  · exact .inl (.inl (noLst_keep nl h fun _ z => nomatch z))
  · exact .inl (.inr ⟨o, noLst_keep nl h fun _ z => nomatch z⟩)
  · exact .inr h
theorem noLst_ties {K : PySem.W.Frag} {Z H : Hp} (nl : ∀ b xs, Z b = some (.lst xs) → H b = some (.lst xs)) : ∀ {xs : List V} {ts : List (Str × Str)}, TiesAt K H xs ts → TiesAt K (noLst Z H) xs ts
  | _, _, .nil => .nil
  | _, _, .cons ⟨a, e, h⟩ t => .cons ⟨a, e, noLst_t nl h⟩ (noLst_ties nl t)
theorem MapOn.new {Z H0 H : Hp} {D : Addr} {ns : List Str} {f : Str → List Str} (g : ∀ b, H0 b = none → Z b = none) : MapOn H0 H D ns f → MapOn Z H D ns f
  | ⟨kvs, l, h1, h2, h3, h4⟩ => ⟨kvs, l, h1, h2, fun p hp => ⟨(h3 p hp).1, (h3 p hp).2.1, g _ (h3 p hp).2.2⟩, h4⟩
theorem MapOn.keepD {Z H H' : Hp} {D : Addr} {ns : List Str} {f : Str → List Str} (s : SameD H H') : MapOn Z H D ns f → MapOn Z H' D ns f
  | ⟨kvs, l, h1, h2, h3, h4⟩ => ⟨kvs, l, s _ _ h1 (fun _ _ _ z => nomatch z), h2, fun p hp => ⟨(h3 p hp).1, s _ _ (h3 p hp).2.1 (fun _ _ _ z => nomatch z), (h3 p hp).2.2⟩, h4⟩
theorem MapOn.apart {Z H : Hp} {D : Addr} {ns : List Str} {f : Str → List Str} (nl : ∀ b xs, Z b = some (.lst xs) → H b = some (.lst xs)) : MapOn Z H D ns f → MapAt (noLst Z H) D ns f
  | ⟨kvs, l, h1, h2, h3, h4⟩ => ⟨kvs, l, noLst_keep nl h1 (fun _ z => nomatch z), h2, fun p hp => ⟨(h3 p hp).1, noLst_new (h3 p hp).2.2 (h3 p hp).2.1⟩, h4⟩
/-- a text, or a tuple of two -/
def flatE (d : PyData) : Prop := (∃ x, d = .str x) ∨ ∃ x y, d = .tuple [.str x, .str y]
theorem noLst_dps {K : PySem.W.Frag} {Z H : Hp} (nl : ∀ b xs, Z b = some (.lst xs) → H b = some (.lst xs)) : ∀ {xs : List V} {ds : List PyData}, DpAll K H xs ds → (∀ d ∈ ds, flatE d) → DpAll K (noLst Z H) xs ds
  | _, _, .nil, _ => .nil
  | _, _, .cons h t, f => .cons (by
      rcases f _ List.mem_cons_self with ⟨x, rfl⟩ | ⟨x, y, rfl⟩
      · cases h; exact .str x
      · cases h with
        | tup ht ha =>
          cases ha with
          | cons h1 ha =>
            cases ha with
            | cons h2 ha =>
              cases ha
              cases h1
              cases h2
              exact .tup (noLst_t nl ht) (.cons (.str x) (.cons (.str y) .nil))) (noLst_dps nl t fun d hd => f d (List.mem_cons_of_mem _ hd))
theorem noLst_dp {K : PySem.W.Frag} {Z H : Hp} {a : Addr} {ds : List PyData} (nl : ∀ b xs, Z b = some (.lst xs) → H b = some (.lst xs)) (na : Z a = none) (h : Dp K H (.ref a) (.list ds)) (f : ∀ d ∈ ds, flatE d) : Dp K (noLst Z H) (.ref a) (.list ds) := by
  cases h with
  | lst hs ha =>
    refine .lst ?_ (noLst_dps nl ha f)
    rcases hs with (h | ⟨o, h⟩) | h
    · exact .inl (.inl (noLst_new na h))
    · exact .inl (.inr ⟨o, noLst_new na h⟩)
    · exact .inr h
/-- what a new web promises -/
def spInit (K : PySem.W.Frag) (C CP CS CT : Addr) : Sp := fun vs H Q E => ∃ (x dx : Addr) (v tv : V) (d td : PyData), vs = [.ref x, v, tv] ∧ H x = some (.ins C dx []) ∧ Dq K H v d ∧ txtOk d ∧ Dq K H tv td ∧
  (placesOf d = none → Raised CP "value" H v E) ∧ ∀ ns, placesOf d = some ns → (seqD td = none → Raised CS "value" H tv E) ∧ ∀ tds, seqD td = some tds → (∀ e ∈ tds, plainTie e) ∧ tds.length ≤ 75 ∧
    (∀ i, tieBad ns [] 0 tds = some i → Raised CT "position" H (.int i) E) ∧ (tieBad ns [] 0 tds = none → ∀ H', (∀ b o, b ≠ x → H b = some o → H' b = some o) → WebAt K C (noLst H H') x ns (tiesD ns tds) → Q .non H')
section
variable {P : Program} {w : World} {K : PySem.W.Frag} {mg : Str → Option Value} {base : Heap} {C CP CS CT T0 fa : Addr} {fd : FuncData}
abbrev sInit : Stmt := inClass (top ix_Web) mx_Web_init
theorem scInit : FnScope ["self", "places", "ties", "place", "sight", "tie"] ["self", "places", "ties"] (defScope sInit) := ⟨rfl, rfl, rfl, by decide +kernel, rfl, by decide +kernel, by decide +kernel⟩
theorem ok_init (T : Bn mg) (X : WC K C) (F : FunD K "__init__" "Web.__init__" (defArgs sInit) (defBody sInit) (defScope sInit) [.ref T0] [] fa fd) (h_check_places : HasR P w K mg base 3 "_check_places" ["places"] (spCheckPlaces K CP)) (h_check_ties : HasR P w K mg base 3 "_check_ties" ["places", "known", "ties"] (spCheckTies K CS CT))
    (h_sights : Has P w K mg base CX0 1 "_sights" ["places", "ties"] (spSights K)) (h_pair : Has P w K mg base CX0 1 "_pair" ["tie"] (spPair K)) (hM_named : HasM P w K mg base CX0 2 C "named" ["self", "number"] (spNamed K C)) : FnOk P w K mg base (L2.CX P w) 4 fa fd ["self", "places", "ties"] (spInit K C CP CS CT) := by
  refine F.ok scInit (fun vs H Q E h => ?_) (fun cdv A outer s H vs Q E hr h => ?_)
  · obtain ⟨x, dx, v, tv, d, td, rfl, _⟩ := h; rfl
  · obtain ⟨x, dx, v, tv, d, td, rfl, hx, hd, ok, htd, kp, kt⟩ := h
    have nd := scInit.nd
    refine ⟨_, (pss_cons (ps_expr (pe_hR h_check_places (takes_of rfl rfl rfl rfl) hr (by decide) rfl (pa_cons (pv 1) pa_nil)))
    (pss_cons (ps_expr (pe_hR h_check_ties (takes_of rfl rfl rfl rfl) hr (by decide) rfl (pa_cons (pv 1) (pa_cons (pe_tup pa_nil) (pa_cons (pv 2) pa_nil)))))
    (pss_cons (ps_fld (pv 0) (pe_callTy call_tupS (by rfl) T.z_tuple (by decide +kernel) (pa_cons (pv 1) pa_nil)) rfl)
    (pss_cons (ps_fld (pv 0) (pe_callTy call_tupS (by rfl) T.z_tuple (by decide +kernel) (pa_cons (pv 2) pa_nil)) rfl)
    (pss_cons (ps_fld (pv 0) (pe_h h_sights hr (by decide) rfl (pa_cons (pe_fld (pv 0) rfl) (pa_cons (pe_fld (pv 0) rfl) pa_nil))) rfl)
    (pss_cons (ps_fld (pv 0) (pe_dc (own := [("place", 3), ("sight", 4)]) (g := _) (tt := tYes) rfl nd (RZ.pi_zipA rfl T.z_zip (pa_cons (pe_fld (pv 0) rfl) (pa_cons (pe_fld (pv 0) rfl) pa_nil))) (blkOk_by (own := [("place", 3), ("sight", 4)]) (N := ["self", "places", "ties", "place", "sight", "tie"]) (sc := defScope sInit) (by decide +kernel)) (fun _ _ _ _ _ => (pg_tupk (K := K) (n := 2) rfl rfl (pgs_cons (pg_name (i := 3) nd rfl (by first | exact Or.inl rfl | exact Or.inr rfl)) (pgs_cons (pg_name (i := 4) nd rfl (by first | exact Or.inl rfl | exact Or.inr rfl)) pgs_nil)))) (fun _ _ _ _ _ => pts_nil) (fun _ _ _ _ _ => (pv 3)) (fun _ _ _ _ _ => (pe_hM hM_named X.cls hr (by decide) (pv 0) (pa_cons (pv 4) pa_nil)))) rfl)
    (pss_cons (ps_fld (pv 0) pe_dnewK rfl)
    (pss_cons (ps_fld (pv 0) (pe_callB (call_sortD hr.units) (by rfl) T.z_sorted (by decide +kernel) (pa_cons (pe_fld (pv 0) rfl) pa_nil)) rfl)
    (pss_one (ps_fld (pv 0) (pe_callB (call_sortD hr.units) (by rfl) T.z_sorted (by decide +kernel) (pa_cons (pe_lc (own := [("tie", 5)]) (g := gName 5) (tt := tYes) rfl nd (pi_sq (pe_fld (pv 0) rfl)) (blkOk_by (own := [("tie", 5)]) (N := ["self", "places", "ties", "place", "sight", "tie"]) (sc := defScope sInit) (by decide +kernel)) (fun _ _ _ _ _ => (pg_name (i := 5) nd rfl (by first | exact Or.inl rfl | exact Or.inr rfl))) (fun _ _ _ _ _ => pts_nil) (fun _ _ _ _ _ => (pe_h h_pair hr (by decide) rfl (pa_cons (pv 5) pa_nil)))) pa_nil)) rfl)))))))))), ?_⟩
    have lv := Lv.one hx
    -- the places
    refine ⟨_, rfl, v, d, rfl, hd, ok, fun hp H1 s1 => ?_, fun z => kp z⟩
    obtain ⟨ns, ep⟩ := Option.isSome_iff_exists.mp hp
    obtain ⟨kt1, kt2⟩ := kt ns ep
    obtain ⟨a, rfl, ha, nd1, l1, l12⟩ := places_at hd ep
    have lv1 := lv.same s1
    -- the ties
    wide_line
    wide_line with al lv1 kt nkt H2 lv2 s2
    have s02 := s1.trans s2
    have hkt : SqS K H2 kt [] := .inr (SqT.of (lv2.get 0 rfl))
    have lift : ∀ {C' : Addr} {f : Str} {z : V}, Raised C' f H z E → Raised C' f H2 z E := fun r e H' s he hH => r e H' (s02.trans s) (free_of s02 he) hH
    refine ⟨_, rfl, a, kt, ns, [], [], tv, td, rfl, ha.same s02, hkt, .nil, Dq.same s02 htd, fun z => lift (kt1 z), fun tds es => ?_⟩
    obtain ⟨pl, few, kb, kg⟩ := kt2 tds es
    refine ⟨pl, by simpa using few, fun gd H3 s3 => ?_, fun i z => lift (kb i z)⟩
    have s4 := s02.trans s3
    have gd : tieBad ns [] 0 tds = none := gd
    obtain ⟨tva, txs, rfl, hts, hta, htl⟩ := seq_of htd es
    obtain ⟨tat, tin⟩ := ties_ok hta gd
    have tlen : (tiesD ns tds).length ≤ tds.length := List.length_filterMap_le _ _
    generalize tiesD ns tds = tsx at *
    have lv3 := (lv2.same s3).picks [1] rfl (by decide) (by simp)
    -- the fields
    refine ⟨_, rfl, a, _, rfl, ha.same s4, fun tp H4 s5 htp => ?_⟩
    have c1 := X.cls
    obtain ⟨_, n1, n2, n3, n4, n5, n6, n7⟩ := id X
    have lv4 := lv3.same s5
    wide_line
    refine ⟨(by show 0 < 1000; decide), ?_⟩
    wide_line with stx lv4 H5 lv5 d5
    have lv5 := lv5.re (l' := [(x, .ins C dx [("_places", .ref tp)])]) rfl
    have D05 : SameD H H5 := (SameD.of (s4.trans s5)).trans d5
    have htp5 := d5.t htp
    wide_line
    refine ⟨D05.s hts, fun tt H6 s6 htt => ?_⟩
    have lv6 := lv5.same s6
    wide_line
    refine ⟨(by show 1 < 1000; decide), ?_⟩
    wide_line with stx lv6 H7 lv7 d7
    have lv7 := lv7.re (l' := [(x, .ins C dx [("_places", .ref tp), ("_ties", .ref tt)])]) rfl
    have D57 : SameD H5 H7 := (SameD.of s6).trans d7
    have htt7 := d7.t htt
    have htp7 := D57.t htp5
    have tat7 := (D05.trans D57).ties tat
    wide_line
    refine ⟨.inr htp7, nd1, by omega, .inr htt7, tat7, tin, by omega, fun sg H8 s8 nsg hsg => ?_⟩
    have lv8 := lv7.same s8
    wide_line
    refine ⟨(by show 2 < 1000; decide), ?_⟩
    wide_line with stx lv8 H9 lv9 d9
    have lv9 := lv9.re (l' := [(x, .ins C dx [("_places", .ref tp), ("_ties", .ref tt), ("_sights", .ref sg)])]) rfl
    have D79 : SameD H7 H9 := (SameD.of s8).trans d9
    have hsg9 : SqT K H9 sg (ns.map fun p => natV (sightN ns tsx p)) := d9.t (SqT.of hsg)
    have htp9 := D79.t htp7
    wide_line
    refine .inr ⟨htp9, hsg9, ?_⟩
    intro D nD
    have lvD := lv9.al (o := .dK []) nD
    have hN : ns.length = ns.length := rfl
    refine dc_it (walk_zipT rfl) (fun i H' => Hold (∃ kvs, Lv H [x] H' [(D, .dK kvs), (x, .ins C dx [("_places", .ref tp), ("_ties", .ref tt), ("_sights", .ref sg)])] ∧ Same H9 H' ∧ MapOn H9 H' D (ns.take i) (seenOf ns tsx)))
      ⟨[], lvD, same_new nD, [], fun _ => 0, upd_same, Nat.le_refl _, (fun p hp => by simp at hp), (fun p hp => by simp at hp)⟩ (fun i H' _ ⟨_, _, z, _⟩ => ⟨same_t z htp9, same_t z hsg9⟩) ?_ ?_
    · rintro i y H10 H11 hi ⟨kvs, lv10, s10, m10⟩ ⟨T, x1, x2, rfl, hT, rfl, ex1, ex2⟩
      obtain ⟨p, hp, rfl⟩ := str_at ex1
      obtain rfl : x2 = natV (sightN ns tsx p) := by
        have ex2 : (ns.map fun p => natV (sightN ns tsx p))[i]? = some x2 := ex2
        rw [List.getElem?_map, hp] at ex2
        exact (Option.some.inj ex2).symm
      have hi' : i < ns.length := by
        have := (List.getElem?_eq_some_iff.mp hp).1
        exact this
      wide_line with alx lv10 hT H12 lv12 s12
      wide_line
      refine ⟨same_t (s10.trans s12) htp9, sight_lt ns tsx p, by omega, fun l H13 s13 nl hl => ?_⟩
      have lv13 := lv12.same s13
      rw [pick_sight] at hl
      obtain ⟨kvs', e1, e2, m13⟩ := m10.snoc (p := p) (s12.trans s13) (free_of s12 nl) hl (free_of (s10.trans s12) nl) (fun z => by
        obtain ⟨j, hj⟩ := List.mem_iff_getElem?.mp z
        have jl : j < i := by
          have := (List.getElem?_eq_some_iff.mp hj).1
          rw [List.length_take] at this
          omega
        rw [List.getElem?_take_of_lt jl] at hj
        exact absurd (idx_inj nd1 hj hp) (by omega))
      wide_line
      obtain rfl : kvs' = kvs := by
        have := lv13.get 1 rfl
        rw [e1] at this
        cases this
        rfl
      refine ⟨by have := List.length_take_le i ns; rw [sizeLine_eq]; omega, ?_⟩
      have sE : Same H9 (upd H13 D (.dK (putK kvs' (.inr p) (.ref l)))) := same_upd (s10.trans (s12.trans s13)) nD
      generalize he : upd H13 D (.dK (putK kvs' (.inr p) (.ref l))) = H14 at sE m13
      have lv14 := lv13.stE 1 rfl he
      refine ⟨_, lv14.picks [1, 2] rfl (by decide) (by simp), sE, ?_⟩
      rw [take_next2 hp]
      exact m13
    · rintro H10 ⟨kvs, lv10, s10, m10⟩
      rw [show min (ns.map V.str).length (ns.map fun p => natV (sightN ns tsx p)).length = ns.length by simp, List.take_length] at m10
      have D910 := SameD.of s10
      have lv10 := lv10.picks [1, 0] rfl (by decide) (by simp)
      wide_line
      refine ⟨(by show 3 < 1000; decide), ?_⟩
      wide_line with stx lv10 H11 lv11 d11
      have D911 := D910.trans d11
      wide_line
      wide_line with al lv11 kd nkd Hk lvk sk
      have D9k := D911.trans (.of sk)
      have lvk := lvk.picks [1, 2, 0] rfl (by decide) (by simp)
      wide_line
      refine ⟨(by show 4 < 1000; decide), ?_⟩
      wide_line with stx lvk H12 lv12 d12
      have D912 := D9k.trans d12
      have lv12 := lv12.re (l' := [(x, .ins C dx [("_places", .ref tp), ("_ties", .ref tt), ("_sights", .ref sg), ("_seen", .ref D), ("_kept", .ref kd)]), (D, .dK kvs), (kd, .dK [])]) rfl
      have htx : ∀ {G : Hp}, ∀ b ∈ Ct.txs ns, Dp K G b.1 b.2 := fun {G} b hb => by
        obtain ⟨n, _, rfl⟩ := List.mem_map.mp hb
        exact .str n
      wide_line
      refine ⟨.inr (by rw [txs_fst]; exact D912.t htp9), htx, (txs_ok ns).1, (txs_ok ns).2, ?_, ?_⟩
      · intro b hb
        obtain ⟨n, _, rfl⟩ := List.mem_map.mp hb
        simp [PyData.depth]
      wide_line with al lv12 sp nsp H13 lv13 s13
      have hsp : Dp K H13 (.ref sp) (.list (srt (ns.map PyData.str))) := by
        rw [← txs_snd]
        exact .lst (SqL.of (lv13.get 0 rfl)) (dp_srt htx)
      have lv13 := lv13.picks [1, 2, 3] rfl (by decide) (by simp)
      wide_line
      refine ⟨(by show 5 < 1000; decide), ?_⟩
      wide_line with stx lv13 H14 lv14 d14
      have lv14 := lv14.re (l' := [(x, .ins C dx [("_places", .ref tp), ("_ties", .ref tt), ("_sights", .ref sg), ("_seen", .ref D), ("_kept", .ref kd), ("_sorted_places", .ref sp)]), (D, .dK kvs), (kd, .dK [])]) rfl
      have D914 := (D912.trans (.of s13)).trans d14
      have hsp14 := d14.dp hsp
      have D714 := D79.trans D914
      have htt14 := D714.t htt7
      have tat14 := D714.ties tat7
      have xl : txs.length = tsx.length := paired_len tat14
      -- the sorted pairs
      wide_line
      refine ⟨.inr htt14, fun J G ex hG wk L nL => ?_⟩
      refine lc_it wk (fun i H' => Hold (Same H14 H' ∧ ∃ ps : List (Addr × Str × Str), H' L = some (.lst (ps.map fun p => V.ref p.1)) ∧ ps.map (·.2) = (tsx.take i).map pairP ∧ ∀ p ∈ ps, TupS K H' p.1 p.2)) ⟨same_new nL, [], upd_same, rfl, fun p hp => by cases hp⟩ (fun i H' _ p => hG H' (.same p.out.1)) ?_ ?_
      · rintro i y H15 H16 hi ⟨s15, ps, hL, hps, hpt⟩ ⟨rfl, hyi⟩
        obtain ⟨p, b, hp, rfl, hb⟩ := ties_at (tat14.same s15) hyi
        refine ⟨rfl, _, rfl, b, p.1, p.2, rfl, hb, fun c hc => ?_⟩
        have s16 := same_new (o := .tup [.str (pairS p.1 p.2).1, .str (pairS p.1 p.2).2]) hc
        refine ⟨_, s16 _ _ hL, ?_, same_upd (s15.trans s16) nL, ps ++ [(c, pairP p)], by rw [upd_same, List.map_append]; rfl, by rw [List.map_append, hps, List.take_succ, hp]; simp, fun r hr => ?_⟩
        · have e := congrArg List.length hps
          rw [List.length_map, List.length_map] at e
          have := List.length_take_le i tsx
          rw [List.length_map, sizeLine_eq]
          omega
        · have hL16 := s16 _ _ hL
          rcases List.mem_append.mp hr with hr | hr
          · exact sqT_lst hL16 (same_t s16 (hpt r hr))
          · rw [List.mem_singleton.mp hr]
            exact sqT_lst hL16 (SqT.of upd_same)
      · rintro H15 ⟨s15, ps, hL, hps, hpt⟩
        rw [xl, List.take_length] at hps
        have lv15 := lv14.same s15
        have hpd : ∀ b ∈ Ct.prs ps, Dp K H15 b.1 b.2 := fun b hb => by
          obtain ⟨r, hr, rfl⟩ := List.mem_map.mp hb
          exact .tup (hpt r hr) (.cons (.str _) (.cons (.str _) .nil))
        have ed : (Ct.prs ps).map (·.2) = tsx.map pairD := by
          have e1 : (Ct.prs ps).map (·.2) = (ps.map (·.2)).map fun q => PyData.tuple [.str q.1, .str q.2] := by
            unfold Ct.prs
            rw [List.map_map, List.map_map]
            rfl
          rw [e1, hps, List.map_map]
          rfl
        wide_line
        refine ⟨.inl (by rw [prs_fst]; exact SqL.of hL), hpd, (prs_ok ps).1, (prs_ok ps).2, ?_, ?_⟩
        · intro b hb
          obtain ⟨r, _, rfl⟩ := List.mem_map.mp hb
          simp [PyData.depth, PyData.depthAll]
        wide_line with al lv15 sq nsq H16 lv16 s16
        have hsq : Dp K H16 (.ref sq) (.list (srt (tsx.map pairD))) := by
          rw [← ed]
          exact .lst (SqL.of (lv16.get 0 rfl)) (SameD.dps (.of s16) (dp_srt hpd))
        have lv16 := lv16.picks [1, 2, 3] rfl (by decide) (by simp)
        wide_line
        refine ⟨(by show 6 < 1000; decide), ?_⟩
        wide_line with stx lv16 H17 lv17 d17
        have D1417 := (SameD.of (s15.trans s16)).trans d17
        have D917 := D914.trans D1417
        have nl : ∀ b xs, H b = some (.lst xs) → H17 b = some (.lst xs) := fun b xs z => lv17.off b _ (fun q => by subst q; rw [hx] at z; cases z) z
        have mem : ∀ {ds : List PyData} {d : PyData}, d ∈ srt ds → d ∈ ds := fun {ds d} hd => (List.mergeSort_perm ds _).mem_iff.mp hd
        refine kg gd _ lv17.off ⟨⟨dx, tp, tt, sg, D, sp, sq, .ref kd, txs, noLst_at (fun _ z => by rw [hx] at z; cases z) (lv17.get 0 rfl), noLst_t nl (D917.t htp9), noLst_t nl (D1417.t htt14), noLst_ties nl (D1417.ties tat14), noLst_t nl (D917.t hsg9), ?_, ⟨kd, rfl, noLst_keep nl (lv17.get 2 rfl) (fun _ z => nomatch z)⟩, noLst_dp nl (lv12.free nsp) (D1417.dp hsp14) (fun d hd => ?_), noLst_dp nl (lv15.free nsq) (d17.dp hsq) (fun d hd => ?_)⟩⟩
        · exact (MapOn.keepD (((SameD.of (s13)).trans d14).trans D1417) (MapOn.keepD ((SameD.of sk).trans d12) (MapOn.keepD d11 (m10.new fun b z => lv9.free z)))).apart nl
        · obtain ⟨x, _, rfl⟩ := List.mem_map.mp (mem hd)
          exact .inl ⟨x, rfl⟩
        · obtain ⟨t, _, rfl⟩ := List.mem_map.mp (mem hd)
          exact .inr ⟨_, _, rfl⟩
end
end Pw

set_option Elab.async false
set_option linter.all false
set_option maxRecDepth 100000
set_option maxHeartbeats 4000000
namespace Pw
open PySem PySem.Spec PyProof.Rows L2 Ct
def spIsPlace (K : PySem.W.Frag) (C : Addr) : Sp := fun vs H Q _ => ∃ (x : Addr) (v : V) (ns : List Str) (ts : List (Str × Str)) (d : PyData), vs = [.ref x, v] ∧ WebAt K C H x ns ts ∧ Dp K H v d ∧ Q (.bl (amid d ns)) H
def spCheckPlace (K : PySem.W.Frag) (C CN : Addr) : Sp := fun vs H Q E => ∃ (x : Addr) (v : V) (ns : List Str) (ts : List (Str × Str)) (d : PyData), vs = [.ref x, v] ∧ WebAt K C H x ns ts ∧ Dp K H v d ∧ (amid d ns = true → Q .non H) ∧ (amid d ns = false → Raised CN "value" H v E)
def spSees (K : PySem.W.Frag) (C CN : Addr) : Sp := fun vs H Q E => ∃ (x : Addr) (v : V) (ns : List Str) (ts : List (Str × Str)) (d : PyData), vs = [.ref x, v] ∧ WebAt K C H x ns ts ∧ Dp K H v d ∧ (∀ p, d = .str p → p ∈ ns → ∀ l H', Same H H' → H l = none → H' l = some (.lst ((seenOf ns ts p).map V.str)) → Q (.ref l) H') ∧ (amid d ns = false → Raised CN "value" H v E)
section
variable {P : Program} {w : World} {K : PySem.W.Frag} {mg : Str → Option Value} {base : Heap} {C CN fa : Addr} {fd : FuncData}
abbrev sIsPlace : Stmt := top ix_is_place
theorem scIsPlace : FnScope ["web", "value"] ["web", "value"] (defScope sIsPlace) := ⟨rfl, rfl, rfl, by decide +kernel, rfl, by decide +kernel, by decide +kernel⟩
theorem has_is_place (X : WC K C) (D : DFE K mg "is_place" sIsPlace ["web", "value"]) (hP_places : HasP P w K mg base 1 C "places" (getSp C "_places")) : Has P w K mg base CX0 3 "is_place" ["web", "value"] (spIsPlace K C) := by
  refine has_of D scIsPlace (fun vs H Q E h => ?_) (fun f cdv A outer s H vs Q E hr h => ?_)
  · obtain ⟨x, v, ns, ts, d, rfl, _⟩ := h; rfl
  · obtain ⟨x, v, ns, ts, d, rfl, hw, hd, k⟩ := h
    have nd := scIsPlace.nd
    refine ⟨_, (pss_one (ps_ret (pe_cmpR (or_amid hr.units) (pv 1) (pe_hP hP_places X.cls hr (by decide) (pv 0)) (by first | exact nomark _ | rfl)))), ?_⟩
    obtain ⟨⟨dx, tp, tt, sg, sn, sp, sq, rk, xs, hx, htp, _⟩⟩ := hw
    refine ⟨_, rfl, _, rfl, x, dx, _, rfl, hx, x, dx, _, _, rfl, hx, rfl, d, tp, ns, rfl, .inr htp, hd, ?_⟩
    rw [if_neg (by decide)]
    exact k
abbrev sCheckPlace : Stmt := top ix_check_place
theorem scCheckPlace : FnScope ["web", "value"] ["web", "value"] (defScope sCheckPlace) := ⟨rfl, rfl, rfl, by decide +kernel, rfl, by decide +kernel, by decide +kernel⟩
theorem has_check_place (D : DFE K mg "check_place" sCheckPlace ["web", "value"]) (h_is_place : Has P w K mg base CX0 3 "is_place" ["web", "value"] (spIsPlace K C)) (hE_NoPlace : HasE P w K mg base 1 "NoPlace" CN "value") : HasR P w K mg base 4 "check_place" ["web", "value"] (spCheckPlace K C CN) := by
  refine hasR_of D scCheckPlace (fun vs H Q E h => ?_) (fun f cdv A outer s H vs Q E hr h => ?_)
  · obtain ⟨x, v, ns, ts, d, rfl, _⟩ := h; rfl
  · obtain ⟨x, v, ns, ts, d, rfl, hw, hd, k1, k2⟩ := h
    have nd := scCheckPlace.nd
    refine ⟨_, (pss_one (ps_if (pt_not (pt_val (pe_h h_is_place hr (by decide) rfl (pa_cons (pv 0) (pa_cons (pv 1) pa_nil))))) (pss_one (ps_raise rfl (takes_of rfl rfl rfl rfl) (pmk_x hE_NoPlace hr (by decide) rfl (pv 1)))) pss_nil)), ?_⟩
    refine ⟨_, rfl, _, rfl, x, v, ns, ts, d, rfl, hw, hd, _, rfl, ?_⟩
    cases c : amid d ns with
    | true => exact iteF (k1 c)
    | false => exact iteT ⟨_, rfl, fun e he => k2 c e _ (same_new he) he upd_same⟩
abbrev sSees : Stmt := inClass (top ix_Web) mx_Web_sees
theorem scSees : FnScope ["self", "place"] ["self", "place"] (defScope sSees) := ⟨rfl, rfl, rfl, by decide +kernel, rfl, by decide +kernel, by decide +kernel⟩
theorem ok_sees (T : Bn mg) (X : WC K C) (F : Fun K "sees" "Web.sees" sSees fa fd) (h_check_place : HasR P w K mg base 4 "check_place" ["web", "value"] (spCheckPlace K C CN)) : FnOk P w K mg base (L2.CX P w) 5 fa fd ["self", "place"] (spSees K C CN) := by
  refine F.okX scSees (fun vs H Q E h => ?_) (fun cdv A outer s H vs Q E hr h => ?_)
  · obtain ⟨x, v, ns, ts, d, rfl, _⟩ := h; rfl
  · obtain ⟨x, v, ns, ts, d, rfl, hw, hd, k1, k2⟩ := h
    have nd := scSees.nd
    refine ⟨_, (pss_cons (ps_expr (pe_hR h_check_place (takes_of rfl rfl rfl rfl) hr (by decide) rfl (pa_cons (pv 0) (pa_cons (pv 1) pa_nil))))
    (pss_one (ps_ret (pe_callTy call_list_of (by rfl) T.z_list (by decide +kernel) (pa_cons (pe_dget (hu_of hr) (pe_fld (pv 0) rfl) (pv 1) (fun _ _ => rfl)) pa_nil))))), ?_⟩
    refine ⟨_, rfl, _, rfl, x, v, ns, ts, d, rfl, hw, hd, fun c => ?_, k2⟩
    obtain ⟨⟨dx, tp, tt, sg, sn, sp, sq, rk, xs, hx, htp, htt, hts, hsg, ⟨kvs, l, m1, m2, m3, m4⟩, _⟩⟩ := hw
    cases d with
    | str p =>
      cases hd
      have hp := amid_str.mp c
      obtain ⟨v1, v2⟩ := m3 p hp
      refine ⟨_, rfl, x, C, dx, _, _, rfl, hx, X.cls, X.n4, rfl, _, rfl, sn, .ref (l p), rfl, (by rw [← v1]; exact DGet.k (k := Sum.inr p) m1), l p, _, rfl, .inl (SqL.of v2), fun L nL => ?_⟩
      exact k1 p rfl hp L _ (same_new nL) nL upd_same
    | _ => exact absurd c Bool.false_ne_true
end
end Pw

set_option Elab.async false
set_option linter.all false
set_option maxRecDepth 100000
set_option maxHeartbeats 4000000
namespace Pw
open PySem PySem.Spec PyProof.Rows L2 Ct
/-- the names of a row that are new are reached, and wait (the last one first) -/
def visit (r w : List Str) : List Str → List Str × List Str
  | [] => (r, w)
  | p :: ps => if p ∈ r then visit r w ps else visit (r ++ [p]) (p :: w) ps
/-- what is reached at last -/
inductive Runs (S : Str → List Str) : List Str → List Str → List Str → Prop
  | done {r : List Str} : Runs S r [] r
  | step {r w e : List Str} {h : Str} : Runs S (visit r w (S h)).1 (visit r w (S h)).2 e → Runs S r (h :: w) e
theorem Runs.det {S : Str → List Str} {r w e : List Str} (a : Runs S r w e) : ∀ {e' : List Str}, Runs S r w e' → e = e' := by
  induction a with
  | done => intro e' b; cases b; rfl
  | step _ ih => intro e' b; cases b with | step c => exact ih c
theorem visit_take {r w : List Str} (ps : List Str) (q : Str) : visit r w (ps ++ [q]) = if q ∈ (visit r w ps).1 then visit r w ps else ((visit r w ps).1 ++ [q], q :: (visit r w ps).2) := by
  induction ps generalizing r w with
  | nil => rfl
  | cons p ps ih =>
    rw [List.cons_append]
    unfold visit
    by_cases c : p ∈ r
    · rw [if_pos c, if_pos c]; exact ih
    · rw [if_neg c, if_neg c]; exact ih
theorem visit_ok {ns : List Str} : ∀ (ps r w : List Str), r.Nodup → (∀ q ∈ r, q ∈ ns) → (∀ q ∈ w, q ∈ ns) → (∀ q ∈ ps, q ∈ ns) →
    (visit r w ps).1.Nodup ∧ (∀ q ∈ (visit r w ps).1, q ∈ ns) ∧ (∀ q ∈ (visit r w ps).2, q ∈ ns) ∧ (visit r w ps).1.length + w.length = (visit r w ps).2.length + r.length ∧ r.length ≤ (visit r w ps).1.length
  | [], r, w, h1, h2, h3, _ => ⟨h1, h2, h3, Nat.add_comm _ _, Nat.le_refl _⟩
  | p :: ps, r, w, h1, h2, h3, h4 => by
    have h4' : ∀ q ∈ ps, q ∈ ns := fun q hq => h4 q (List.mem_cons_of_mem _ hq)
    unfold visit
    by_cases c : p ∈ r
    · rw [if_pos c]
      exact visit_ok ps r w h1 h2 h3 h4'
    · rw [if_neg c]
      have a := visit_ok (ns := ns) ps (r ++ [p]) (p :: w) (List.nodup_append.mpr ⟨h1, by simp, fun x hx y hy e => by rw [List.mem_singleton.mp hy] at e; exact c (e ▸ hx)⟩)
        (fun q hq => (List.mem_append.mp hq).elim (h2 q) (fun z => by rw [List.mem_singleton.mp z]; exact h4 p List.mem_cons_self))
        (fun q hq => (List.mem_cons.mp hq).elim (fun z => by rw [z]; exact h4 p List.mem_cons_self) (h3 q)) h4'
      obtain ⟨a1, a2, a3, a4, a5⟩ := a
      rw [List.length_append, List.length_cons] at a4
      rw [List.length_append] at a5
      simp only [List.length_cons, List.length_nil] at a4 a5
      exact ⟨a1, a2, a3, by omega, by omega⟩
theorem nodup_le {r ns : List Str} (h : r.Nodup) (s : ∀ q ∈ r, q ∈ ns) : r.length ≤ ns.length := by
  induction r generalizing ns with
  | nil => exact Nat.zero_le _
  | cons p r ih =>
    obtain ⟨h1, h2⟩ := List.nodup_cons.mp h
    have hp := s p List.mem_cons_self
    have := ih (ns := ns.erase p) h2 fun q hq => (List.mem_erase_of_ne (fun (e : q = p) => h1 (by rw [← e]; exact hq))).2 (s q (List.mem_cons_of_mem _ hq))
    have e := List.length_erase_of_mem hp
    have := List.length_pos_of_mem hp
    rw [List.length_cons]
    omega
/-- the dict that marks the names -/
def marks (r : List Str) : List (Key × V) := r.map fun q => (.inr q, .bl true)
theorem marks_at (r : List Str) (q : Str) : valV (marks r) (.inr q) = if q ∈ r then some (.bl true) else none := by
  unfold marks
  induction r with
  | nil => rfl
  | cons p r ih =>
    rw [List.map_cons]
    by_cases e : p = q
    · rw [valV_pos (p := (Sum.inr p, V.bl true)) (show (Sum.inr p : Key) = Sum.inr q from congrArg _ e), if_pos (by rw [e]; exact List.mem_cons_self)]
    · rw [valV_neg (p := (Sum.inr p, V.bl true)) (fun z => e (Sum.inr.inj z)), ih]
      by_cases c : q ∈ r
      · rw [if_pos c, if_pos (List.mem_cons_of_mem _ c)]
      · rw [if_neg c, if_neg (fun z => (List.mem_cons.mp z).elim (fun z => e z.symm) c)]
theorem marks_put {r : List Str} {q : Str} (c : q ∉ r) : putK (marks r) (.inr q) (.bl true) = marks (r ++ [q]) := by
  rw [putK_new _ (by rw [marks_at, if_neg c])]
  unfold marks
  rw [List.map_append]
  rfl
def lenD : Option HO → Nat
  | some (.dK kvs) => kvs.length
  | some (.lst l) => l.length
  | _ => 0
def spPartOf (K : PySem.W.Frag) (C : Addr) : Sp := fun vs H Q _ => ∃ (x : Addr) (p : Str) (ns : List Str) (ts : List (Str × Str)), vs = [.ref x, .str p] ∧ WebAt K C H x ns ts ∧ p ∈ ns ∧ ns.length ≤ 100 ∧
  ∀ e, Runs (seenOf ns ts) [p] [p] e → ∀ l H', Same H H' → H l = none → H' l = some (.lst ((ns.filter fun q => decide (q ∈ e)).map V.str)) → Q (.ref l) H'
section
variable {P : Program} {w : World} {K : PySem.W.Frag} {mg : Str → Option Value} {base : Heap} {C fa : Addr} {fd : FuncData}
abbrev sPartOf : Stmt := inClass (top ix_Web) mx_Web_part_of
theorem scPartOf : FnScope ["self", "start", "reached", "waiting", "here", "place"] ["self", "start"] (defScope sPartOf) := ⟨rfl, rfl, rfl, by decide +kernel, rfl, by decide +kernel, by decide +kernel⟩
theorem ok_part_of (T : Bn mg) (X : WC K C) (F : Fun K "_part_of" "Web._part_of" sPartOf fa fd) : FnOk P w K mg base CX0 1 fa fd ["self", "start"] (spPartOf K C) := by
  refine F.ok scPartOf (fun vs H Q E h => ?_) (fun cdv A outer s H vs Q E hr h => ?_)
  · obtain ⟨x, p, ns, ts, rfl, _⟩ := h; rfl
  · obtain ⟨x, p, ns, ts, rfl, hw, hp, hl, k⟩ := h
    have nd := scPartOf.nd
    refine ⟨_, (pss_cons (ps_sv 2 nd (pe_disp (pps_cons (pv 1) pe_bl pps_nil) (by rfl) (by rfl) (fun z => by cases z) (by decide)))
    (pss_cons (ps_sv 3 nd (pe_lst (pa_cons (pv 1) pa_nil)))
    (pss_cons (ps_while PassesOwn.never (pt_truth (pv 3) (by intro _; rfl)) (pss_cons (ps_sv 4 nd (pe_bm0 PySem.F.plainAttrs_list PySem.F.slot_list_pop PySem.F.type_list_pop mt_pop (pv 3)))
    (pss_one (ps_for PassesOwn.never rfl (pi_list (pe_dget (hu_of hr) (pe_fld (pv 0) rfl) (pv 4) (fun _ _ => rfl))) (pg_name (i := 5) nd rfl (by first | exact Or.inl rfl | exact Or.inr rfl)) (pss_one (ps_if (pt_cmp (pc_dnotin (hu_of hr) (pv 5) (pv 2))) (pss_cons (ps_dput (hu_of hr) (pv 2) (pv 5) pe_bl rfl)
    (pss_one (ps_expr (pe_bm PySem.F.plainAttrs_list PySem.F.slot_list_append PySem.F.type_list_append mt_append (pv 3) (pa_cons (pv 5) pa_nil))))) pss_nil))))))
    (pss_one (ps_ret (pe_lc (own := [("place", 5)]) (g := gName 5) rfl nd (pi_tup (pe_fld (pv 0) rfl)) (blkOk_by (own := [("place", 5)]) (N := ["self", "start", "reached", "waiting", "here", "place"]) (sc := defScope sPartOf) (by decide +kernel)) (fun _ _ _ _ _ => (pg_name (i := 5) nd rfl (by first | exact Or.inl rfl | exact Or.inr rfl))) (fun _ _ _ _ _ => (pts_one (pt_cmp (pc_din (hu_of hr) (pv 5) (pv 2))))) (fun _ _ _ _ _ => (pv 5)))))))), ?_⟩
    obtain ⟨⟨dx, tp, tt, sg, sn, sp, sq, rk, xs, hx, htp, htt, hts, hsg, hmap, _⟩⟩ := hw
    -- reached, waiting
    intro D nD
    refine ⟨_, rfl, upd_same, [(.inr p, .bl true)], rfl, by show 1 ≤ 15; decide, ?_⟩
    have s1 : Same H (upd (upd H D (.dK [])) D (.dK (marks [p]))) := same_upd (same_new nD) nD
    have hD : upd (upd H D (.dK [])) D (.dK (marks [p])) D = some (.dK (marks [p])) := upd_same
    show gName 2 _ _ (upd (upd H D (.dK [])) D (.dK (marks [p]))) _
    generalize upd (upd H D (.dK [])) D (.dK (marks [p])) = H1 at s1 hD ⊢
    refine ⟨_, rfl, by show 1 ≤ sizeLine; decide, fun W nW => ?_⟩
    have fresh : ∀ {H2 : Hp}, Same H H2 → ∀ {e : Addr}, H2 e = none → H e = none := fun {H2} s2 {e} he => by
      cases q : H e with
      | none => rfl
      | some o => rw [s2 e o q] at he; cases he
    have nW0 := fresh s1 nW
    have s2 := s1.trans (same_new (o := .lst [V.str p]) nW)
    have hD2 := same_new (o := .lst [V.str p]) nW _ _ hD
    have hW2 : upd H1 W (.lst [V.str p]) W = some (.lst [V.str p]) := upd_same
    generalize upd H1 W (.lst [V.str p]) = H2 at s2 hD2 hW2 ⊢
    have DW : D ≠ W := ne_of hD2 hW2 (by intro z; cases z)
    dsimp only [gName, tSeq]
    refine while_by (fun σ H' => Same H H' ∧ ∃ r wq u v, σ = [some (.ref x), some (.str p), some (.ref D), some (.ref W), u, v] ∧ H' D = some (.dK (marks r)) ∧ H' W = some (.lst (wq.reverse.map V.str)) ∧ r.Nodup ∧ (∀ q ∈ r, q ∈ ns) ∧ (∀ q ∈ wq, q ∈ ns) ∧ wq.length ≤ r.length ∧ ∀ e, Runs (seenOf ns ts) r wq e → Runs (seenOf ns ts) [p] [p] e)
      (fun σ H' => 2 * (ns.length - lenD (H' D)) + lenD (H' W)) ?_ ?_ ?_
    · exact ⟨s2, [p], [p], _, _, rfl, hD2, hW2, by simp, by simpa using hp, by simpa using hp, Nat.le_refl _, fun e z => z⟩
    · rintro σ H3 ⟨s3, r, wq, u, v, rfl, hD3, hW3, nr, rn, wn, wl, run⟩
      cases wq with
      | nil =>
        refine ⟨_, rfl, false, .inl ⟨_, SqL.of hW3, rfl⟩, iteF ?_⟩
        have hr := run r .done
        refine ⟨_, rfl, x, C, dx, _, _, rfl, s3 _ _ hx, X.cls, X.n1, rfl, tp, rfl, ⟨_, same_t s3 htp⟩, fun L nL => ?_⟩
        refine lc_it walk_tup (fun i H' => Same H3 H' ∧ H' L = some (.lst (((ns.take i).filter fun q => decide (q ∈ r)).map V.str))) ⟨same_new nL, upd_same⟩ (fun i H' _ p => same_t p.1 (same_t s3 htp)) ?_ ?_
        · rintro i y H4 H5 hi ⟨s4, hL⟩ ⟨rfl, hyi⟩
          obtain ⟨q, hq, rfl⟩ : ∃ q, ns[i]? = some q ∧ y = .str q := by
            rw [List.getElem?_map] at hyi
            cases e : ns[i]? with
            | none => rw [e] at hyi; cases hyi
            | some q => rw [e] at hyi; exact ⟨q, rfl, (Option.some.inj hyi).symm⟩
          refine ⟨rfl, _, rfl, _, rfl, D, _, rfl, DGet.k (k := Sum.inr q) (s4 _ _ hD3), _, rfl, ?_⟩
          have step : (ns.take (i + 1)).filter (fun q => decide (q ∈ r)) = (ns.take i).filter (fun q => decide (q ∈ r)) ++ (if decide (q ∈ r) = true then [q] else []) := by
            rw [List.take_succ, hq, List.filter_append]
            exact congrArg _ (filter_one _ q)
          rw [marks_at]
          by_cases c : q ∈ r
          · rw [if_pos c]
            refine iteT ⟨_, rfl, _, hL, ?_, same_upd s4 nL, ?_⟩
            · rw [List.length_map, sizeLine_eq]
              have := List.length_filter_le (fun q => decide (q ∈ r)) (ns.take i)
              have := List.length_take_le i ns
              have : i < ns.length := (List.getElem?_eq_some_iff.mp hq).1
              omega
            · rw [upd_same, step, if_pos (decide_eq_true c), List.map_append]
              rfl
          · rw [if_neg c]
            refine iteF ⟨s4, ?_⟩
            rw [step, if_neg (by rw [decide_eq_false c]; decide), List.append_nil]
            exact hL
        · rintro H4 ⟨s4, hL⟩
          rw [List.length_map, List.take_length] at hL
          exact k r hr L H4 (s3.trans s4) (fresh s3 nL) hL
      | cons hh wq =>
        have hhn := wn hh List.mem_cons_self
        have rev : ((hh :: wq).reverse.map V.str) = wq.reverse.map V.str ++ [V.str hh] := by
          rw [List.reverse_cons, List.map_append]; rfl
        rw [rev] at hW3
        refine ⟨_, rfl, true, .inl ⟨_, SqL.of hW3, by simp⟩, iteT ?_⟩
        refine ⟨_, rfl, .inl ⟨rfl, _, SqL.of hW3⟩, W, _, .str hh, rfl, rfl, hW3, by simp, ?_⟩
        rw [List.dropLast_concat]
        have s4 : Same H (upd H3 W (.lst (wq.reverse.map V.str))) := same_upd s3 nW0
        have hD4 : upd H3 W (.lst (wq.reverse.map V.str)) D = some (.dK (marks r)) := by rw [upd_ne DW]; exact hD3
        have hW4 : upd H3 W (.lst (wq.reverse.map V.str)) W = some (.lst (wq.reverse.map V.str)) := upd_same
        have muE : 2 * (ns.length - lenD (H3 D)) + lenD (H3 W) = 2 * (ns.length - r.length) + wq.length + 1 := by
          rw [hD3, hW3]
          show 2 * (ns.length - (marks r).length) + (wq.reverse.map V.str ++ [V.str hh]).length = _
          unfold marks
          rw [List.length_map, List.length_append, List.length_map, List.length_reverse]
          rfl
        generalize upd H3 W (.lst (wq.reverse.map V.str)) = H4 at s4 hD4 hW4 ⊢
        obtain ⟨kvs, l, m1, m2, m3, m4⟩ := (SameD.of s4).map hmap
        obtain ⟨v1, v2⟩ := m3 hh hhn
        refine ⟨_, rfl, x, C, dx, _, _, rfl, s4 _ _ hx, X.cls, X.n4, rfl, _, rfl, sn, .ref (l hh), rfl, (by rw [← v1]; exact DGet.k (k := Sum.inr hh) m1), l hh, rfl, ⟨_, SqL.of v2⟩, ?_⟩
        have lnew : H (l hh) = none → False := fun z => by
          obtain ⟨kv0, l0, q1, q2, q3, q4⟩ := hmap
          obtain ⟨w1, w2⟩ := q3 hh hhn
          have e1 := s4 _ _ q1
          rw [m1] at e1
          cases e1
          rw [v1] at w1
          have e2 : l hh = l0 hh := V.ref.inj (Option.some.inj w1)
          rw [e2] at z
          rw [w2] at z
          cases z
        have lD : l hh ≠ D := fun z => lnew (by rw [z]; exact nD)
        have lW : l hh ≠ W := fun z => lnew (by rw [z]; exact nW0)
        have seenIn : ∀ q ∈ seenOf ns ts hh, q ∈ ns := fun q hq => (List.mem_filter.mp hq).1
        refine for_it walk_list (fun j σ' H' => Same H H' ∧ H' (l hh) = some (.lst ((seenOf ns ts hh).map V.str)) ∧ (∃ v, σ' = [some (.ref x), some (.str p), some (.ref D), some (.ref W), some (.str hh), v]) ∧ H' D = some (.dK (marks (visit r wq ((seenOf ns ts hh).take j)).1)) ∧ H' W = some (.lst ((visit r wq ((seenOf ns ts hh).take j)).2.reverse.map V.str))) ⟨s4, v2, ⟨_, rfl⟩, hD4, hW4⟩ (fun j σ' H' _ p => SqL.of p.2.1) ?_ ?_
        · rintro j y σ5 H5 H6 hj ⟨s5, hl5, ⟨v5, rfl⟩, hD5, hW5⟩ ⟨rfl, hyj⟩
          obtain ⟨q, hq, rfl⟩ : ∃ q, (seenOf ns ts hh)[j]? = some q ∧ y = .str q := by
            rw [List.getElem?_map] at hyj
            cases e : (seenOf ns ts hh)[j]? with
            | none => rw [e] at hyj; cases hyj
            | some q => rw [e] at hyj; exact ⟨q, rfl, (Option.some.inj hyj).symm⟩
          obtain ⟨o1, o2, o3, o4, o5⟩ := visit_ok (ns := ns) ((seenOf ns ts hh).take j) r wq nr rn (fun z hz => wn z (List.mem_cons_of_mem _ hz)) (fun z hz => seenIn z (List.mem_of_mem_take hz))
          have o6 := nodup_le o1 o2
          have o7 := nodup_le nr rn
          have vt : visit r wq ((seenOf ns ts hh).take (j + 1)) = if q ∈ (visit r wq ((seenOf ns ts hh).take j)).1 then visit r wq ((seenOf ns ts hh).take j) else ((visit r wq ((seenOf ns ts hh).take j)).1 ++ [q], q :: (visit r wq ((seenOf ns ts hh).take j)).2) := by
            rw [List.take_succ, hq]
            exact visit_take _ q
          rw [vt]
          refine ⟨_, rfl, _, rfl, D, _, rfl, DGet.k (k := Sum.inr q) hD5, _, rfl, ?_⟩
          rw [marks_at]
          generalize visit r wq ((seenOf ns ts hh).take j) = vv at hD5 hW5 o1 o2 o3 o4 o5 o6 ⊢
          by_cases c : q ∈ vv.1
          · rw [if_pos c, if_pos c]
            exact iteF ⟨s5, hl5, ⟨_, rfl⟩, hD5, hW5⟩
          · rw [if_neg c, if_neg c]
            refine iteT ⟨_, rfl, _, rfl, D, _, rfl, DPut.k (k := Sum.inr q) hD5 (by unfold marks; rw [List.length_map, sizeLine_eq]; omega), ?_⟩
            rw [marks_put c]
            have s6 : Same H (upd H6 D (.dK (marks (vv.1 ++ [q])))) := same_upd s5 nD
            have hD6 : upd H6 D (.dK (marks (vv.1 ++ [q]))) D = some (.dK (marks (vv.1 ++ [q]))) := upd_same
            have hW6 : upd H6 D (.dK (marks (vv.1 ++ [q]))) W = some (.lst (vv.2.reverse.map V.str)) := by rw [upd_ne (Ne.symm DW)]; exact hW5
            have hl6 : upd H6 D (.dK (marks (vv.1 ++ [q]))) (l hh) = some (.lst ((seenOf ns ts hh).map V.str)) := by rw [upd_ne lD]; exact hl5
            generalize upd H6 D (.dK (marks (vv.1 ++ [q]))) = H7 at s6 hD6 hW6 hl6 ⊢
            refine ⟨_, rfl, .inl ⟨rfl, _, SqL.of hW6⟩, _, rfl, W, _, _, rfl, rfl, hW6, ?_, ?_⟩
            · rw [List.length_map, List.length_reverse, sizeLine_eq]
              rw [List.length_cons] at wl
              omega
            · refine ⟨same_upd s6 nW0, by rw [upd_ne lW]; exact hl6, ⟨_, rfl⟩, by rw [upd_ne DW]; exact hD6, ?_⟩
              rw [upd_same]
              simp
        · rintro σ5 H5 ⟨s5, hl5, ⟨v5, rfl⟩, hD5, hW5⟩
          rw [List.length_map, List.take_length] at hD5 hW5
          obtain ⟨o1, o2, o3, o4, o5⟩ := visit_ok (ns := ns) (seenOf ns ts hh) r wq nr rn (fun z hz => wn z (List.mem_cons_of_mem _ hz)) seenIn
          have o6 := nodup_le o1 o2
          refine ⟨⟨s5, _, _, _, _, rfl, hD5, hW5, o1, o2, o3, by rw [List.length_cons] at wl; omega, fun e z => run e (.step z)⟩, ?_⟩
          show 2 * (ns.length - lenD (H5 D)) + lenD (H5 W) < 2 * (ns.length - lenD (H3 D)) + lenD (H3 W)
          rw [muE, hD5, hW5]
          show 2 * (ns.length - (marks _).length) + (List.map V.str _).length < _
          unfold marks
          rw [List.length_map, List.length_map, List.length_reverse]
          omega
    · rintro σ H' Q Q' m ⟨v, e, b, t, q⟩
      exact ⟨v, e, b, t, m _ _ q⟩
end
end Pw

set_option Elab.async false
set_option linter.all false
set_option maxRecDepth 100000
set_option maxHeartbeats 4000000
namespace Pw
open PySem PySem.Spec PyProof.Rows L2 Ct
theorem lays_of : ∀ {ds : List PyData}, (∀ d ∈ ds, d.canLay0 = true) → PyData.canLayAll0 ds = true
  | [], _ => by simp [PyData.canLayAll0]
  | d :: ds, h => by rw [PyData.canLayAll0, h d List.mem_cons_self, lays_of fun e he => h e (List.mem_cons_of_mem _ he)]; rfl
theorem depths_of {m : Nat} : ∀ {ds : List PyData}, (∀ d ∈ ds, d.depth ≤ m) → PyData.depthAll ds ≤ m
  | [], _ => by simp [PyData.depthAll]
  | d :: ds, h => by rw [PyData.depthAll]; exact Nat.max_le.mpr ⟨h d List.mem_cons_self, depths_of fun e he => h e (List.mem_cons_of_mem _ he)⟩
theorem shaped_srt {ds : List PyData} (h : ∀ d ∈ ds, d.canLay0 = true ∧ d.depth ≤ 50) : SeqAt.shaped (.list (srt ds)) = true := by
  have m : ∀ d ∈ srt ds, d ∈ ds := fun d hd => (List.mergeSort_perm ds _).mem_iff.mp hd
  unfold SeqAt.shaped
  rw [Bool.and_eq_true, decide_eq_true_eq]
  refine ⟨?_, ?_⟩
  · rw [PyData.canLay0]
    exact lays_of fun d hd => (h d (m d hd)).1
  · have := depths_of (m := 50) fun d hd => (h d (m d hd)).2
    simp only [PyData.depth]
    omega
theorem lt_small : LT.cps.toList.all (fun c => decide (c < 0x110000)) = true := by decide +kernel
theorem strOk_of {x : Str} (h : okName x = true) : PyData.strOk x = true := by
  unfold okName at h
  rw [Bool.and_eq_true] at h
  have h2 := h.2
  unfold okSigns at h2
  unfold PyData.strOk
  rw [← Array.all_toList, List.all_eq_true]
  intro c hc
  exact List.all_eq_true.mp lt_small c (of_decide_eq_true (List.all_eq_true.mp h2 c hc))
/-- names and ties of which all are well formed -/
def Good (ns : List Str) (ts : List (Str × Str)) : Prop := (∀ n ∈ ns, okName n = true) ∧ ∀ t ∈ ts, okName t.1 = true ∧ okName t.2 = true
theorem good_names {ns : List Str} {ts : List (Str × Str)} (g : Good ns ts) : ∀ d ∈ ns.map PyData.str, d.canLay0 = true ∧ d.depth ≤ 50 := fun d hd => by
  obtain ⟨n, hn, rfl⟩ := List.mem_map.mp hd
  exact ⟨by rw [PyData.canLay0]; exact strOk_of (g.1 n hn), by simp [PyData.depth]⟩
theorem good_pairs {ns : List Str} {ts : List (Str × Str)} (g : Good ns ts) : ∀ d ∈ ts.map pairD, d.canLay0 = true ∧ d.depth ≤ 50 := fun d hd => by
  obtain ⟨t, ht, rfl⟩ := List.mem_map.mp hd
  obtain ⟨h1, h2⟩ := g.2 t ht
  have e : PyData.strOk (pairP t).1 = true ∧ PyData.strOk (pairP t).2 = true := by
    unfold pairP pairS
    split
    · exact ⟨strOk_of h1, strOk_of h2⟩
    · exact ⟨strOk_of h2, strOk_of h1⟩
  refine ⟨?_, by simp [pairD, PyData.depth, PyData.depthAll]⟩
  unfold pairD
  rw [PyData.canLay0, PyData.canLayAll0, PyData.canLayAll0, PyData.canLayAll0, PyData.canLay0, PyData.canLay0, e.1, e.2]
  rfl
/-- what isinstance asks of the class -/
structure WI (K : PySem.W.Frag) (C : Addr) : Prop where
  ha : PySem.W.findIn K (.ref C) "__class__" = some (some (.builtin "object.__class__"))
  hn : PySem.W.specialIn K (.builtin "object.__class__") "__get__" = some (some (.builtin "getset_descriptor.__get__"))
  ht : PySem.W.takesIn K (.builtin "object.__class__") = some true
  hm : PySem.W.mroIn K C (.type "object") = some true
  kit : PySem.W.kitOne K (.ref C) (.ref C) = some true
/-- webs are alike in all that == looks at -/
def eqW (ns ms : List Str) (ts us : List (Str × Str)) : Bool := PyData.eqv (.list (srt (ns.map PyData.str))) (.list (srt (ms.map PyData.str))) && PyData.eqv (.list (srt (ts.map pairD))) (.list (srt (us.map pairD)))
def spEqW (K : PySem.W.Frag) (C : Addr) : Sp := fun vs H Q _ => ∃ (x y : Addr) (ns ms : List Str) (ts us : List (Str × Str)), vs = [.ref x, .ref y] ∧ WebAt K C H x ns ts ∧ WebAt K C H y ms us ∧ Good ns ts ∧ Good ms us ∧ Q (.bl (eqW ns ms ts us)) H
theorem eqW_self {ns : List Str} {ts : List (Str × Str)} (g : Good ns ts) : eqW ns ns ts ts = true := by
  unfold eqW
  rw [SeqAt.eqv_refl _ (SeqAt.canLay_of_shaped (shaped_srt (good_names g))), SeqAt.eqv_refl _ (SeqAt.canLay_of_shaped (shaped_srt (good_pairs g)))]
  rfl
section
variable {P : Program} {w : World} {K : PySem.W.Frag} {mg : Str → Option Value} {base : Heap} {C fa : Addr} {fd : FuncData}
abbrev sEqW : Stmt := inClass (top ix_Web) mx_Web_eq
theorem scEqW : FnScope ["self", "other"] ["self", "other"] (defScope sEqW) := ⟨rfl, rfl, rfl, by decide +kernel, rfl, by decide +kernel, by decide +kernel⟩
theorem ok_eq (T : Bn mg) (X : WC K C) (I : WI K C) (gW : mg "Web" = some (.ref C)) (F : Fun K "__eq__" "Web.__eq__" sEqW fa fd) : FnOk P w K mg base CX0 1 fa fd ["self", "other"] (spEqW K C) := by
  refine F.ok scEqW (fun vs H Q E h => ?_) (fun cdv A outer s H vs Q E hr h => ?_)
  · obtain ⟨x, y, ns, ms, ts, us, rfl, _⟩ := h; rfl
  · obtain ⟨x, y, ns, ms, ts, us, rfl, hw, hv, g1, g2, k⟩ := h
    have nd := scEqW.nd
    refine ⟨_, (pss_one (ps_ret (pe_and (pe_callB call_isi (by rfl) T.z_isinstance (by decide +kernel) (pa_cons (pv 1) (pa_cons (pe_ref rfl gW) pa_nil))) (pe_and (pe_cmpR (op_eqD hr.units) (pe_fld (pv 0) rfl) (pe_fld (pv 1) rfl) (by first | exact nomark _ | rfl)) (pe_one (pe_cmpR (op_eqD hr.units) (pe_fld (pv 0) rfl) (pe_fld (pv 1) rfl) (by first | exact nomark _ | rfl))))))), ?_⟩
    obtain ⟨⟨dx, tp, tt, sg, sn, sp, sq, rk, xs, hx, _, _, _, _, _, _, hsp, hsq⟩⟩ := hw
    obtain ⟨⟨dx2, tp2, tt2, sg2, sn2, sp2, sq2, rk2, xs2, hx2, _, _, _, _, _, _, hsp2, hsq2⟩⟩ := hv
    refine ⟨_, rfl, .ref y, .ref C, _, _, true, rfl, .own C, .base (.ins hx2 X.cls I.ha I.hn I.ht I.hm), I.kit, _, rfl, iteT ?_⟩
    refine ⟨_, rfl, x, C, dx, _, _, rfl, hx, X.cls, X.n6, rfl, _, rfl, y, C, dx2, _, _, rfl, hx2, X.cls, X.n6, rfl, _, _, hsp, hsp2, shaped_srt (good_names g1), shaped_srt (good_names g2), _, rfl, ?_⟩
    unfold eqW at k
    cases e : PyData.eqv (.list (srt (ns.map PyData.str))) (.list (srt (ms.map PyData.str))) with
    | false => rw [e] at k; exact iteF k
    | true =>
      rw [e, Bool.true_and] at k
      refine iteT ⟨_, rfl, x, C, dx, _, _, rfl, hx, X.cls, X.n7, rfl, _, rfl, y, C, dx2, _, _, rfl, hx2, X.cls, X.n7, rfl, _, _, hsq, hsq2, shaped_srt (good_pairs g1), shaped_srt (good_pairs g2), k⟩
end
end Pw

set_option Elab.async false
set_option linter.all false
set_option maxRecDepth 100000
set_option maxHeartbeats 4000000
namespace Pw
open PySem PySem.Spec PyProof.Rows L2 Ct
theorem Runs.sub {S : Str → List Str} {r w e : List Str} (h : Runs S r w e) : ∀ q ∈ r, q ∈ e := by
  induction h with
  | done => exact fun q z => z
  | @step r w e hh _ ih =>
    have grow : ∀ (ps r w : List Str), ∀ q ∈ r, q ∈ (visit r w ps).1 := by
      intro ps
      induction ps with
      | nil => exact fun r w q z => z
      | cons p ps ih2 =>
        intro r w q z
        unfold visit
        by_cases c : p ∈ r
        · rw [if_pos c]; exact ih2 r w q z
        · rw [if_neg c]; exact ih2 _ _ q (List.mem_append_left _ z)
    exact fun q z => ih q (grow _ _ _ q z)
/-- the parts, from what is left -/
inductive PartsR (S : Str → List Str) (ns : List Str) : List Str → List (List Str) → Prop
  | nil : PartsR S ns [] []
  | cons {p : Str} {left e : List Str} {rest : List (List Str)} : Runs S [p] [p] e → PartsR S ns ((p :: left).filter fun q => !decide (q ∈ ns.filter fun q => decide (q ∈ e))) rest → PartsR S ns (p :: left) ((ns.filter fun q => decide (q ∈ e)) :: rest)
theorem PartsR.det {S : Str → List Str} {ns left : List Str} {a : List (List Str)} (h : PartsR S ns left a) : ∀ {b : List (List Str)}, PartsR S ns left b → a = b := by
  induction h with
  | nil => intro b h; cases h; rfl
  | cons r _ ih =>
    intro b h
    cases h with
    | cons r2 h2 =>
      obtain rfl := r.det r2
      rw [ih h2]
/-- a row of lists of texts, each at its place -/
abbrev RowAt (H : Hp) : List V → List (List Str) → Prop := Paired fun x l => ∃ a, x = .ref a ∧ H a = some (.lst (l.map V.str))
theorem RowAt.same {H H' : Hp} (s : Same H H') : ∀ {xs : List V} {ls : List (List Str)}, RowAt H xs ls → RowAt H' xs ls
  | _, _, .nil => .nil
  | _, _, .cons ⟨a, e, h⟩ t => .cons ⟨a, e, s _ _ h⟩ (RowAt.same s t)
/-- the same, none of them at F -/
abbrev RowO (F : Addr) (H : Hp) : List V → List (List Str) → Prop := Paired fun x l => ∃ a, x = .ref a ∧ a ≠ F ∧ H a = some (.lst (l.map V.str))
theorem RowO.row {F : Addr} {H : Hp} : ∀ {xs : List V} {ls : List (List Str)}, RowO F H xs ls → RowAt H xs ls
  | _, _, .nil => .nil
  | _, _, .cons ⟨a, e, _, h⟩ t => .cons ⟨a, e, h⟩ (RowO.row t)
theorem RowO.off {F : Addr} {H H' : Hp} (s : ∀ b o, b ≠ F → H b = some o → H' b = some o) : ∀ {xs : List V} {ls : List (List Str)}, RowO F H xs ls → RowO F H' xs ls
  | _, _, .nil => .nil
  | _, _, .cons ⟨a, e, n, h⟩ t => .cons ⟨a, e, n, s _ _ n h⟩ (RowO.off s t)
theorem RowO.snoc {F : Addr} {H : Hp} {a : Addr} {l : List Str} (n : a ≠ F) (h : H a = some (.lst (l.map V.str))) : ∀ {xs : List V} {ls : List (List Str)}, RowO F H xs ls → RowO F H (xs ++ [.ref a]) (ls ++ [l])
  | _, _, .nil => .cons ⟨a, rfl, n, h⟩ .nil
  | _, _, .cons x t => .cons x (RowO.snoc n h t)
theorem WebAt.same {K : PySem.W.Frag} {C : Addr} {H H' : Hp} {x : Addr} {ns : List Str} {ts : List (Str × Str)} (s : Same H H') : WebAt K C H x ns ts → WebAt K C H' x ns ts
  | ⟨⟨dx, tp, tt, sg, sn, sp, sq, rk, xs, h1, h2, h3, h4, h5, h6, h7, h8, h9⟩⟩ => ⟨⟨dx, tp, tt, sg, sn, sp, sq, rk, xs, s _ _ h1, same_t s h2, same_t s h3, h4.same s, same_t s h5, (SameD.of s).map h6, h7.same s, (SameD.of s).dp h8, (SameD.of s).dp h9⟩⟩
def muL (σ : List (Option V)) (H : Hp) : Nat := match σ[2]? with
  | some (some (V.ref a)) => lenD (H a)
  | _ => 0
def spParts (C : Addr) (K : PySem.W.Frag) : Sp := fun vs H Q _ => ∃ (x : Addr) (ns : List Str) (ts : List (Str × Str)), vs = [.ref x] ∧ WebAt K C H x ns ts ∧ ns.length ≤ 100 ∧
  ∀ ls, PartsR (seenOf ns ts) ns ns ls → ∀ l xs H', Same H H' → H l = none → H' l = some (.lst xs) → RowAt H' xs ls → Q (.ref l) H'
section
variable {P : Program} {w : World} {K : PySem.W.Frag} {mg : Str → Option Value} {base : Heap} {C fa : Addr} {fd : FuncData}
abbrev sParts : Stmt := inClass (top ix_Web) mx_Web_parts
theorem scParts : FnScope ["self", "found", "left", "part", "place"] ["self"] (defScope sParts) := ⟨rfl, rfl, rfl, by decide +kernel, rfl, by decide +kernel, by decide +kernel⟩
theorem ok_parts (T : Bn mg) (X : WC K C) (F : Fun K "parts" "Web.parts" sParts fa fd) (h_part_of : HasM P w K mg base CX0 1 C "_part_of" ["self", "start"] (spPartOf K C)) : FnOk P w K mg base CX0 2 fa fd ["self"] (spParts C K) := by
  refine F.ok scParts (fun vs H Q E h => ?_) (fun cdv A outer s H vs Q E hr h => ?_)
  · obtain ⟨x, ns, ts, rfl, _⟩ := h; rfl
  · obtain ⟨x, ns, ts, rfl, hw, hl, k⟩ := h
    have nd := scParts.nd
    refine ⟨_, (pss_cons (ps_sv 1 nd (pe_lst pa_nil))
    (pss_cons (ps_sv 2 nd (pe_callTy call_list_of (by rfl) T.z_list (by decide +kernel) (pa_cons (pe_fld (pv 0) rfl) pa_nil)))
    (pss_cons (ps_while PassesOwn.never (pt_truth (pv 2) (by intro _; rfl)) (pss_cons (ps_sv 3 nd (pe_hM h_part_of X.cls hr (by decide) (pv 0) (pa_cons (pe_ix ix_list (pv 2) pe_int (fun _ _ => rfl)) pa_nil)))
    (pss_cons (ps_expr (pe_bm PySem.F.plainAttrs_list PySem.F.slot_list_append PySem.F.type_list_append mt_append (pv 1) (pa_cons (pv 3) pa_nil)))
    (pss_one (ps_setLc (i := 2) (own := [("place", 4)]) (g := gName 4) rfl nd rfl rfl (sw_true rfl rfl rfl (by decide +kernel)) (pi_list (pv 2)) (blkOk_by (own := [("place", 4)]) (N := ["self", "found", "left", "part", "place"]) (sc := defScope sParts) (by decide +kernel)) (fun _ _ _ _ _ => (pg_name (i := 4) nd rfl (by first | exact Or.inl rfl | exact Or.inr rfl))) (fun _ _ _ _ _ => (pts_one (pt_cmpR (op_notIn_seqk (K := K) rfl) (pv 4) (pv 3) (by first | exact nomark _ | rfl)))) (fun _ _ _ _ _ => (pv 4)))))))
    (pss_one (ps_ret (pv 1)))))), ?_⟩
    obtain ⟨⟨dx, tp, tt, sg, sn, sp, sq, rk, xs, hx, htp, hrest⟩⟩ := id hw
    have fresh : ∀ {H2 : Hp}, Same H H2 → ∀ {e : Addr}, H2 e = none → H e = none := fun {H2} s2 {e} he => by
      cases q : H e with
      | none => rfl
      | some o => rw [s2 e o q] at he; cases he
    refine ⟨Nat.zero_le _, fun Fd nF => ?_⟩
    have s1 := same_new (o := .lst []) nF
    have hF1 : upd H Fd (.lst []) Fd = some (.lst []) := upd_same
    generalize upd H Fd (.lst []) = H1 at s1 hF1 ⊢
    refine ⟨_, rfl, x, C, dx, _, _, rfl, s1 _ _ hx, X.cls, X.n1, rfl, tp, _, rfl, .inr (same_t s1 htp), fun L0 nL0 => ?_⟩
    have s2 := s1.trans (same_new (o := .lst (ns.map V.str)) nL0)
    have hF2 := same_new (o := .lst (ns.map V.str)) nL0 _ _ hF1
    have hL2 : upd H1 L0 (.lst (ns.map V.str)) L0 = some (.lst (ns.map V.str)) := upd_same
    have nLF : L0 ≠ Fd := fun z => by rw [z, hF1] at nL0; cases nL0
    generalize upd H1 L0 (.lst (ns.map V.str)) = H2 at s2 hF2 hL2 ⊢
    dsimp only [gName, tSeq]
    refine while_by (fun σ H' => Same H H' ∧ ∃ (L : Addr) (left : List Str) (xs : List V) (done : List (List Str)) (u v : Option V), σ = [some (.ref x), some (.ref Fd), some (.ref L), u, v] ∧ L ≠ Fd ∧ H' Fd = some (.lst xs) ∧ RowO Fd H' xs done ∧ H' L = some (.lst (left.map V.str)) ∧ (∀ q ∈ left, q ∈ ns) ∧ xs.length + left.length ≤ 100 ∧ ∀ rest, PartsR (seenOf ns ts) ns left rest → PartsR (seenOf ns ts) ns ns (done ++ rest)) muL ?_ ?_ ?_
    · exact ⟨s2, L0, ns, [], [], _, _, rfl, nLF, hF2, .nil, hL2, fun q z => z, by simpa using hl, fun r z => z⟩
    · rintro σ H3 ⟨s3, L, left, xs, done, u, v, rfl, LF, hF3, hR3, hL3, ln, few, run⟩
      cases left with
      | nil =>
        refine ⟨_, rfl, false, .inl ⟨_, SqL.of hL3, rfl⟩, iteF ?_⟩
        have hr := run [] .nil
        rw [List.append_nil] at hr
        exact ⟨_, rfl, k done hr Fd xs H3 s3 nF hF3 hR3.row⟩
      | cons p left =>
        have hpn := ln p List.mem_cons_self
        have mu3 : muL [some (.ref x), some (.ref Fd), some (.ref L), u, v] H3 = left.length + 1 := by
          show lenD (H3 L) = _
          rw [hL3]
          show ((p :: left).map V.str).length = _
          simp
        refine ⟨_, rfl, true, .inl ⟨_, SqL.of hL3, rfl⟩, iteT ?_⟩
        refine ⟨_, rfl, x, dx, _, rfl, s3 _ _ hx, rfl, _, rfl, L, _, 0, .str p, rfl, rfl, SqL.of hL3, (show atI _ ((0 : Nat) : Int) = some (V.str p) from atI_nat rfl), x, p, ns, ts, rfl, hw.same s3, hpn, hl, fun e re l H4 s4 nl hl4 => ?_⟩
        have lF : l ≠ Fd := fun z => by rw [z, hF3] at nl; cases nl
        have hF4 := s4 _ _ hF3
        have hL4 := s4 _ _ hL3
        have hR4 : RowO Fd H4 xs done := hR3.off fun b o _ h => s4 b o h
        have s5 := s3.trans s4
        rw [List.length_cons] at few
        refine ⟨_, rfl, .inl ⟨rfl, _, SqL.of hF4⟩, _, rfl, Fd, _, _, rfl, rfl, hF4, by rw [sizeLine_eq]; omega, ?_⟩
        have s6 : Same H (upd H4 Fd (.lst (xs ++ [.ref l]))) := same_upd s5 nF
        have hF6 : upd H4 Fd (.lst (xs ++ [.ref l])) Fd = some (.lst (xs ++ [.ref l])) := upd_same
        have hR6 : RowO Fd (upd H4 Fd (.lst (xs ++ [.ref l]))) (xs ++ [.ref l]) (done ++ [ns.filter fun q => decide (q ∈ e)]) := RowO.snoc lF (by rw [upd_ne lF]; exact hl4) (hR4.off fun b o n h => by rw [upd_ne n]; exact h)
        have hL6 : upd H4 Fd (.lst (xs ++ [.ref l])) L = some (.lst ((p :: left).map V.str)) := by rw [upd_ne LF]; exact hL4
        have hl6 : upd H4 Fd (.lst (xs ++ [.ref l])) l = some (.lst ((ns.filter fun q => decide (q ∈ e)).map V.str)) := by rw [upd_ne lF]; exact hl4
        generalize upd H4 Fd (.lst (xs ++ [.ref l])) = H6 at s6 hF6 hR6 hL6 hl6 ⊢
        refine ⟨_, rfl, L, rfl, ⟨_, SqL.of hL6⟩, fun N nN => ?_⟩
        refine lc_it walk_list (fun i H' => Same H6 H' ∧ H' N = some (.lst ((((p :: left).take i).filter fun q => !decide (q ∈ ns.filter fun q => decide (q ∈ e))).map V.str))) ⟨same_new nN, upd_same⟩ (fun i H' _ q => q.1.seq (SqL.of hL6)) ?_ ?_
        · rintro i y H7 H8 hi ⟨s7, hN⟩ ⟨rfl, hyi⟩
          obtain ⟨q, hq, rfl⟩ : ∃ q, (p :: left)[i]? = some q ∧ y = .str q := by
            rw [List.getElem?_map] at hyi
            cases e : (p :: left)[i]? with
            | none => rw [e] at hyi; cases hyi
            | some q => rw [e] at hyi; exact ⟨q, rfl, (Option.some.inj hyi).symm⟩
          refine ⟨rfl, _, rfl, _, rfl, l, _, rfl, .inl (SqL.of (s7 _ _ hl6)), rfl, flat_strs _, ?_⟩
          rw [if_pos rfl, in_strs]
          have step : ((p :: left).take (i + 1)).filter (fun q => !decide (q ∈ ns.filter fun q => decide (q ∈ e))) = ((p :: left).take i).filter (fun q => !decide (q ∈ ns.filter fun q => decide (q ∈ e))) ++ (if (!decide (q ∈ ns.filter fun q => decide (q ∈ e))) = true then [q] else []) := by
            rw [List.take_succ, hq, List.filter_append]
            exact congrArg _ (filter_one _ q)
          refine ⟨_, rfl, ite2 (fun c => ?_) (fun c => ?_)⟩
          · refine ⟨_, rfl, _, hN, ?_, same_upd s7 nN, ?_⟩
            · rw [List.length_map, sizeLine_eq]
              have := List.length_filter_le (fun q => !decide (q ∈ ns.filter fun q => decide (q ∈ e))) ((p :: left).take i)
              have := List.length_take_le i (p :: left)
              have : i < (p :: left).length := (List.getElem?_eq_some_iff.mp hq).1
              rw [List.length_cons] at this
              omega
            · rw [upd_same, step, if_pos c, List.map_append]
              rfl
          · refine ⟨s7, ?_⟩
            rw [step, if_neg c, List.append_nil]
            exact hN
        · rintro H7 ⟨s7, hN⟩
          rw [List.length_map, List.take_length] at hN
          have pin : p ∈ ns.filter fun q => decide (q ∈ e) := List.mem_filter.mpr ⟨hpn, decide_eq_true (re.sub p (List.mem_singleton.mpr rfl))⟩
          have less : ((p :: left).filter fun q => !decide (q ∈ ns.filter fun q => decide (q ∈ e))).length ≤ left.length := by
            rw [List.filter_cons_of_neg (by rw [decide_eq_true pin]; decide)]
            exact List.length_filter_le _ _
          have NF : N ≠ Fd := fun z => by rw [z, hF6] at nN; cases nN
          refine ⟨⟨s6.trans s7, N, _, _, _, _, _, rfl, NF, s7 _ _ hF6, hR6.off fun b o _ h => s7 b o h, hN, fun q z => ln q (List.mem_filter.mp z).1, ?_, fun rest z => ?_⟩, ?_⟩
          · rw [List.length_append]
            simp only [List.length_cons, List.length_nil]
            omega
          · rw [List.append_assoc]
            exact run _ (.cons re z)
          · rw [mu3]
            show lenD (H7 N) < _
            rw [hN]
            show (List.map V.str _).length < _
            rw [List.length_map]
            omega
    · rintro σ H' Q Q' m ⟨v, e, b, t, q⟩
      exact ⟨v, e, b, t, m _ _ q⟩
end
end Pw

set_option Elab.async false
set_option linter.all false
set_option maxRecDepth 100000
set_option maxHeartbeats 4000000
namespace Pw
open PySem PySem.Spec PyProof.Rows L2 Ct
local macro_rules | `(tactic| wide_line) => `(tactic| repeat ((fail_if_success (with_reducible refine at_while ?_)); (fail_if_success (with_reducible refine at_while1 ?_)); (conv => whnf); first | ((with_reducible refine And.intro ?_ ?_); focus (first | (first | ((with_reducible show (_ : Nat) ≤ _); first | exact sz0 | exact sz1 | exact sz2 | exact sz3 | exact sz4 | exact sz5 | exact sz6 | exact sz7 | exact sz8 | exact sz10 | exact sz11 | exact sz12 | exact sz14 | omega | decide | (simp only [List.length_cons, List.length_nil]; omega)) | ((with_reducible show (_ : Int) ≤ _); first | omega | decide) | ((with_reducible show (_ : Int) < _); first | omega | decide) | ((with_reducible show (_ : Nat) < _); omega)) | ((fail_if_success (with_reducible show (_ : Nat) ≤ _)); (fail_if_success (with_reducible show (_ : Int) ≤ _)); (fail_if_success (with_reducible show (_ : Int) < _)); (fail_if_success (with_reducible show (_ : Nat) < _)); first | exact kv_str _ | exact kv_int _ | rfl | assumption | exact flat_strs _ | exact Lv.get (by assumption) 0 rfl | exact Lv.get (by assumption) 1 rfl | exact Lv.get (by assumption) 2 rfl | exact Lv.get (by assumption) 3 rfl | exact Lv.get (by assumption) 4 rfl | exact Lv.get (by assumption) 5 rfl | exact Lv.get (by assumption) 6 rfl | exact SqL.of (Lv.get (by assumption) 0 rfl) | exact SqL.of (Lv.get (by assumption) 1 rfl) | exact SqL.of (Lv.get (by assumption) 2 rfl) | exact SqL.of (Lv.get (by assumption) 3 rfl) | exact SqL.of (Lv.get (by assumption) 4 rfl) | exact SqL.of (Lv.get (by assumption) 5 rfl) | exact Or.inl (SqL.of (Lv.get (by assumption) 0 rfl)) | exact Or.inl (SqL.of (Lv.get (by assumption) 1 rfl)) | exact Or.inl (SqL.of (Lv.get (by assumption) 2 rfl)) | exact Or.inl (SqL.of (Lv.get (by assumption) 3 rfl)) | exact Or.inl (SqL.of (Lv.get (by assumption) 4 rfl)) | exact Or.inl (SqL.of (Lv.get (by assumption) 5 rfl)) | exact ⟨_, SqL.of (Lv.get (by assumption) 0 rfl)⟩ | exact ⟨_, SqL.of (Lv.get (by assumption) 1 rfl)⟩ | exact ⟨_, SqL.of (Lv.get (by assumption) 2 rfl)⟩ | exact ⟨_, SqL.of (Lv.get (by assumption) 3 rfl)⟩ | exact ⟨_, SqL.of (Lv.get (by assumption) 4 rfl)⟩ | exact ⟨_, SqL.of (Lv.get (by assumption) 5 rfl)⟩ | exact Or.inl ⟨_, SqL.of (Lv.get (by assumption) 0 rfl), rfl⟩ | exact Or.inl ⟨_, SqL.of (Lv.get (by assumption) 1 rfl), rfl⟩ | exact Or.inl ⟨_, SqL.of (Lv.get (by assumption) 2 rfl), rfl⟩ | exact Or.inl ⟨_, SqL.of (Lv.get (by assumption) 3 rfl), rfl⟩ | exact Or.inl ⟨_, SqL.of (Lv.get (by assumption) 4 rfl), rfl⟩ | exact Or.inl ⟨_, SqL.of (Lv.get (by assumption) 5 rfl), rfl⟩ | exact Or.inl ⟨rfl, _, SqL.of (Lv.get (by assumption) 0 rfl)⟩ | exact Or.inl ⟨rfl, _, SqL.of (Lv.get (by assumption) 1 rfl)⟩ | exact Or.inl ⟨rfl, _, SqL.of (Lv.get (by assumption) 2 rfl)⟩ | exact Or.inl ⟨rfl, _, SqL.of (Lv.get (by assumption) 3 rfl)⟩ | exact Or.inl ⟨rfl, _, SqL.of (Lv.get (by assumption) 4 rfl)⟩ | exact Or.inl ⟨rfl, _, SqL.of (Lv.get (by assumption) 5 rfl)⟩ | exact Or.inr (SqT.of (Lv.get (by assumption) 0 rfl)) | exact Or.inr (SqT.of (Lv.get (by assumption) 1 rfl)) | exact Or.inr (SqT.of (Lv.get (by assumption) 2 rfl)) | exact Or.inr (SqT.of (Lv.get (by assumption) 3 rfl)) | exact SqT.of (Lv.get (by assumption) 0 rfl) | exact SqT.of (Lv.get (by assumption) 1 rfl) | exact SqT.of (Lv.get (by assumption) 2 rfl) | exact dgetN (Lv.get (by assumption) 0 rfl) (by assumption) | exact dgetN (Lv.get (by assumption) 1 rfl) (by assumption) | exact dgetN (Lv.get (by assumption) 2 rfl) (by assumption) | exact dgetN (Lv.get (by assumption) 3 rfl) (by assumption) | exact dgetN (Lv.get (by assumption) 4 rfl) (by assumption) | decide | ((with_reducible show _ ∧ _); omega)))) | ((fail_if_success (with_reducible apply @Exists.intro (Nat → _))); (with_reducible apply Exists.intro))))
local macro_rules
  | `(tactic| wide_line with al $lv:ident $l:ident $nl:ident $H:ident $lv1:ident $s1:ident) => `(tactic| (intro $l:ident $nl:ident; generalize he : upd _ _ _ = $H:ident; have $lv1:ident := Lv.alE $lv $nl he; have $s1:ident := sameE $nl he; clear he; (try dsimp only at $lv1:ident)))
  | `(tactic| wide_line with alx $lv:ident $nl:ident $H:ident $lv1:ident $s1:ident) => `(tactic| (generalize he : upd _ _ _ = $H:ident; have $lv1:ident := Lv.alE $lv $nl he; have $s1:ident := sameE $nl he; clear he; (try dsimp only at $lv1:ident)))
  | `(tactic| wide_line with sts $lv:ident $i:num $H:ident $lv1:ident $s0:ident $np:ident $s1:ident) => `(tactic| (generalize he : upd _ _ _ = $H:ident; have $lv1:ident := Lv.stE $lv $i rfl he; have $s1:ident := sameN $s0 $np he; clear he; (try dsimp only at $lv1:ident)))
  | `(tactic| wide_line with stx $lv:ident $H:ident $lv1:ident $d1:ident) => `(tactic| (generalize he : upd _ _ _ = $H:ident; have $lv1:ident := Lv.stE $lv 0 rfl he; have $d1:ident := SameD.storeE (Lv.get $lv 0 rfl) he; clear he; (try dsimp only at $lv1:ident)))
  | `(tactic| wide_line with st $lv:ident $i:num $H:ident $lv1:ident) => `(tactic| (generalize he : upd _ _ _ = $H:ident; have $lv1:ident := Lv.stE $lv $i rfl he; clear he; (try dsimp only at $lv1:ident)))
  | `(tactic| wide_line with stk $lv:ident $i:num $H:ident $lv1:ident $k1:ident) => `(tactic| (generalize he : upd _ _ _ = $H:ident; have $lv1:ident := Lv.stE $lv $i rfl he; have $k1:ident := KeepT.st (Lv.get $lv $i rfl) he; clear he; (try dsimp only at $lv1:ident)))
/-- the datum is a list of different names -/
def placesIn (ns : List Str) : PyData → Bool
  | .list ds => ds.all (fun d => amid d ns) && decide (strsD ds).Nodup
  | _ => false
theorem amids_of {K : PySem.W.Frag} {H : Hp} {ns : List Str} : ∀ {xs : List V} {ds : List PyData}, DqAll K H xs ds → ds.all (fun d => amid d ns) = true → xs = (strsD ds).map V.str ∧ (strsD ds).length = ds.length ∧ ∀ q ∈ strsD ds, q ∈ ns
  | _, _, .nil, _ => ⟨rfl, rfl, fun q h => by cases h⟩
  | _, _, .cons (d := d) h t, n => by
    rw [List.all_cons, Bool.and_eq_true] at n
    obtain ⟨e1, e2, e3⟩ := amids_of t n.2
    cases d with
    | str x =>
      cases h
      refine ⟨by rw [e1]; rfl, by show (strsD _).length + 1 = _ + 1; rw [e2], fun q hq => ?_⟩
      rcases List.mem_cons.mp (show q ∈ x :: strsD _ from hq) with z | z
      · rw [z]; exact amid_str.mp n.1
      · exact e3 q z
    | _ => exact absurd n.1 Bool.false_ne_true
theorem noDicts_at : ∀ {ds : List PyData}, noDicts ds = true → ∀ d ∈ ds, noDict d = true
  | [], _, _, h => by cases h
  | e :: ds, n, d, h => by
    rw [noDicts, Bool.and_eq_true] at n
    rcases List.mem_cons.mp h with rfl | h
    · exact n.1
    · exact noDicts_at n.2 d h
theorem dqAll_len {K : PySem.W.Frag} {H : Hp} : ∀ {xs : List V} {ds : List PyData}, DqAll K H xs ds → xs.length = ds.length
  | _, _, .nil => rfl
  | _, _, .cons _ t => congrArg (· + 1) (dqAll_len t)
/-- are_places(web, value) -/
def spArePlaces (K : PySem.W.Frag) (C : Addr) : Sp := fun vs H Q _ => ∃ (x : Addr) (v : V) (ns : List Str) (ts : List (Str × Str)) (d : PyData), vs = [.ref x, v] ∧ WebAt K C H x ns ts ∧ Dq K H v d ∧ (∀ ds, d = .list ds → noDicts ds = true ∧ ds.length ≤ 4000) ∧ ∀ H', Same H H' → Q (.bl (placesIn ns d)) H'
section
variable {P : Program} {w : World} {K : PySem.W.Frag} {mg : Str → Option Value} {base : Heap} {C fa : Addr} {fd : FuncData}
abbrev sArePlaces : Stmt := top ix_are_places
theorem scArePlaces : FnScope ["web", "value", "place"] ["web", "value"] (defScope sArePlaces) := ⟨rfl, rfl, rfl, by decide +kernel, rfl, by decide +kernel, by decide +kernel⟩
theorem has_are_places (T : Bn mg) (D : DFE K mg "are_places" sArePlaces ["web", "value"]) (h_is_place : Has P w K mg base CX0 3 "is_place" ["web", "value"] (spIsPlace K C)) (h_all_differ : Has P w K mg base CX0 1 "_all_differ" ["names"] (spAllDiffer K)) : Has P w K mg base CX0 4 "are_places" ["web", "value"] (spArePlaces K C) := by
  refine has_of D scArePlaces (fun vs H Q E h => ?_) (fun f cdv A outer s H vs Q E hr h => ?_)
  · obtain ⟨x, v, ns, ts, d, rfl, _⟩ := h; rfl
  · obtain ⟨x, v, ns, ts, d, rfl, hw, hd, hn, k⟩ := h
    have nd := scArePlaces.nd
    refine ⟨_, (pss_cons (ps_if (PW.pt (pw_or (pt_not (pt_val (pe_callB call_isD (by rfl) T.z_isinstance (by decide +kernel) (pa_cons (pv 1) (pa_cons (pe_bltn (v := .ty "list") rfl T.z_list (by decide +kernel) rfl) pa_nil))))) (pw_or1 (pt_not (pt_val (pe_callB (cr_all rfl) (by rfl) T.z_all (by decide +kernel) (pa_cons (pe_lc (own := [("place", 2)]) (g := gName 2) (tt := tYes) rfl nd (pi_sq (pv 1)) (blkOk_by (own := [("place", 2)]) (N := ["web", "value", "place"]) (sc := defScope sArePlaces) (by decide +kernel)) (fun _ _ _ _ _ => (pg_name (i := 2) nd rfl (by first | exact Or.inl rfl | exact Or.inr rfl))) (fun _ _ _ _ _ => pts_nil) (fun _ _ _ _ _ => (pe_h h_is_place hr (by decide) rfl (pa_cons (pv 0) (pa_cons (pv 2) pa_nil))))) pa_nil))))))) (pss_one (ps_ret pe_bl)) pss_nil)
    (pss_one (ps_ret (pe_h h_all_differ hr (by decide) rfl (pa_cons (pv 1) pa_nil))))), ?_⟩
    refine ⟨_, rfl, _, d, "list", _, rfl, hd, kit_list d, _, rfl, ?_⟩
    cases hd with
    | @lst a xs ds hs ha =>
      obtain ⟨n1, n2⟩ := hn ds rfl
      refine iteF ⟨_, rfl, a, xs, rfl, .inl hs, fun J G ex hG wk L nL => ?_⟩
      refine lc_it wk (fun i H2 => Same H H2 ∧ ∃ bs : List Bool, H2 L = some (.lst (bs.map V.bl)) ∧ bs = (ds.take i).map fun d => amid d ns) ⟨same_new nL, [], upd_same, rfl⟩ (fun i H2 _ p => hG H2 (.same p.1)) ?_ ?_
      · rintro i y H2 H3 hi ⟨sm, bs, hL, hb⟩ ⟨rfl, hyi⟩
        obtain ⟨dx, hdx, hqx⟩ := dqAll_at ha hyi
        refine ⟨rfl, _, rfl, _, rfl, x, y, ns, ts, dx, rfl, hw.same sm, Pw.Dq.dp (Dq.same sm hqx) (noDicts_at n1 dx (List.mem_of_getElem? hdx)), ?_⟩
        refine ⟨bs.map V.bl, hL, ?_, same_upd sm nL, bs ++ [amid dx ns], by rw [upd_same, List.map_append]; rfl, by rw [hb, List.take_succ, hdx]; simp⟩
        rw [List.length_map, hb, List.length_map, sizeLine_eq]
        have := List.length_take_le i ds
        have := (List.getElem?_eq_some_iff.mp hdx).1
        omega
      · rintro H2 ⟨sm, bs, hL, hb⟩
        refine ⟨L, bs, rfl, SqL.of hL, _, rfl, ?_⟩
        rw [dqAll_len ha, List.take_length] at hb
        have eb : bs.all id = ds.all fun d => amid d ns := by rw [hb, List.all_map]; rfl
        rw [eb]
        have kk : ∀ H', Same H H' → Q (.bl (ds.all (fun d => amid d ns) && decide (strsD ds).Nodup)) H' := k
        have k2 := kk H2 sm
        cases al : ds.all (fun d => amid d ns) with
        | false => rw [al] at k2; exact iteT k2
        | true =>
          obtain ⟨e1, e2, _⟩ := amids_of ha al
          refine iteF ?_
          subst e1
          refine ⟨_, rfl, a, strsD ds, rfl, .inl (sm.seq hs), by omega, fun H3 s3 => ⟨fun c => ?_, fun c => ?_⟩⟩
          · have k3 := kk H3 (sm.trans s3)
            rw [al, Bool.true_and, decide_eq_true c] at k3
            exact k3
          · have k3 := kk H3 (sm.trans s3)
            rw [al, Bool.true_and, decide_eq_false c] at k3
            exact k3
    | _ => exact iteT (iteT (k H (Same.refl H)))
end
end Pw

set_option Elab.async false
set_option linter.all false
set_option maxRecDepth 100000
set_option maxHeartbeats 4000000
namespace Pw
open PySem PySem.Spec PyProof.Rows L2 Ct
local macro_rules | `(tactic| wide_line) => `(tactic| repeat ((fail_if_success (with_reducible refine at_while ?_)); (fail_if_success (with_reducible refine at_while1 ?_)); (conv => whnf); first | ((with_reducible refine And.intro ?_ ?_); focus (first | (first | ((with_reducible show (_ : Nat) ≤ _); first | exact sz0 | exact sz1 | exact sz2 | exact sz3 | exact sz4 | exact sz5 | exact sz6 | exact sz7 | exact sz8 | exact sz10 | exact sz11 | exact sz12 | exact sz14 | omega | decide | (simp only [List.length_cons, List.length_nil]; omega)) | ((with_reducible show (_ : Int) ≤ _); first | omega | decide) | ((with_reducible show (_ : Int) < _); first | omega | decide) | ((with_reducible show (_ : Nat) < _); omega)) | ((fail_if_success (with_reducible show (_ : Nat) ≤ _)); (fail_if_success (with_reducible show (_ : Int) ≤ _)); (fail_if_success (with_reducible show (_ : Int) < _)); (fail_if_success (with_reducible show (_ : Nat) < _)); first | exact kv_str _ | exact kv_int _ | rfl | assumption | exact flat_strs _ | exact Lv.get (by assumption) 0 rfl | exact Lv.get (by assumption) 1 rfl | exact Lv.get (by assumption) 2 rfl | exact Lv.get (by assumption) 3 rfl | exact Lv.get (by assumption) 4 rfl | exact Lv.get (by assumption) 5 rfl | exact Lv.get (by assumption) 6 rfl | exact SqL.of (Lv.get (by assumption) 0 rfl) | exact SqL.of (Lv.get (by assumption) 1 rfl) | exact SqL.of (Lv.get (by assumption) 2 rfl) | exact SqL.of (Lv.get (by assumption) 3 rfl) | exact SqL.of (Lv.get (by assumption) 4 rfl) | exact SqL.of (Lv.get (by assumption) 5 rfl) | exact Or.inl (SqL.of (Lv.get (by assumption) 0 rfl)) | exact Or.inl (SqL.of (Lv.get (by assumption) 1 rfl)) | exact Or.inl (SqL.of (Lv.get (by assumption) 2 rfl)) | exact Or.inl (SqL.of (Lv.get (by assumption) 3 rfl)) | exact Or.inl (SqL.of (Lv.get (by assumption) 4 rfl)) | exact Or.inl (SqL.of (Lv.get (by assumption) 5 rfl)) | exact ⟨_, SqL.of (Lv.get (by assumption) 0 rfl)⟩ | exact ⟨_, SqL.of (Lv.get (by assumption) 1 rfl)⟩ | exact ⟨_, SqL.of (Lv.get (by assumption) 2 rfl)⟩ | exact ⟨_, SqL.of (Lv.get (by assumption) 3 rfl)⟩ | exact ⟨_, SqL.of (Lv.get (by assumption) 4 rfl)⟩ | exact ⟨_, SqL.of (Lv.get (by assumption) 5 rfl)⟩ | exact Or.inl ⟨_, SqL.of (Lv.get (by assumption) 0 rfl), rfl⟩ | exact Or.inl ⟨_, SqL.of (Lv.get (by assumption) 1 rfl), rfl⟩ | exact Or.inl ⟨_, SqL.of (Lv.get (by assumption) 2 rfl), rfl⟩ | exact Or.inl ⟨_, SqL.of (Lv.get (by assumption) 3 rfl), rfl⟩ | exact Or.inl ⟨_, SqL.of (Lv.get (by assumption) 4 rfl), rfl⟩ | exact Or.inl ⟨_, SqL.of (Lv.get (by assumption) 5 rfl), rfl⟩ | exact Or.inl ⟨rfl, _, SqL.of (Lv.get (by assumption) 0 rfl)⟩ | exact Or.inl ⟨rfl, _, SqL.of (Lv.get (by assumption) 1 rfl)⟩ | exact Or.inl ⟨rfl, _, SqL.of (Lv.get (by assumption) 2 rfl)⟩ | exact Or.inl ⟨rfl, _, SqL.of (Lv.get (by assumption) 3 rfl)⟩ | exact Or.inl ⟨rfl, _, SqL.of (Lv.get (by assumption) 4 rfl)⟩ | exact Or.inl ⟨rfl, _, SqL.of (Lv.get (by assumption) 5 rfl)⟩ | exact Or.inr (SqT.of (Lv.get (by assumption) 0 rfl)) | exact Or.inr (SqT.of (Lv.get (by assumption) 1 rfl)) | exact Or.inr (SqT.of (Lv.get (by assumption) 2 rfl)) | exact Or.inr (SqT.of (Lv.get (by assumption) 3 rfl)) | exact SqT.of (Lv.get (by assumption) 0 rfl) | exact SqT.of (Lv.get (by assumption) 1 rfl) | exact SqT.of (Lv.get (by assumption) 2 rfl) | exact dgetN (Lv.get (by assumption) 0 rfl) (by assumption) | exact dgetN (Lv.get (by assumption) 1 rfl) (by assumption) | exact dgetN (Lv.get (by assumption) 2 rfl) (by assumption) | exact dgetN (Lv.get (by assumption) 3 rfl) (by assumption) | exact dgetN (Lv.get (by assumption) 4 rfl) (by assumption) | decide | ((with_reducible show _ ∧ _); omega)))) | ((fail_if_success (with_reducible apply @Exists.intro (Nat → _))); (with_reducible apply Exists.intro))))
local macro_rules
  | `(tactic| wide_line with al $lv:ident $l:ident $nl:ident $H:ident $lv1:ident $s1:ident) => `(tactic| (intro $l:ident $nl:ident; generalize he : upd _ _ _ = $H:ident; have $lv1:ident := Lv.alE $lv $nl he; have $s1:ident := sameE $nl he; clear he; (try dsimp only at $lv1:ident)))
  | `(tactic| wide_line with alx $lv:ident $nl:ident $H:ident $lv1:ident $s1:ident) => `(tactic| (generalize he : upd _ _ _ = $H:ident; have $lv1:ident := Lv.alE $lv $nl he; have $s1:ident := sameE $nl he; clear he; (try dsimp only at $lv1:ident)))
  | `(tactic| wide_line with sts $lv:ident $i:num $H:ident $lv1:ident $s0:ident $np:ident $s1:ident) => `(tactic| (generalize he : upd _ _ _ = $H:ident; have $lv1:ident := Lv.stE $lv $i rfl he; have $s1:ident := sameN $s0 $np he; clear he; (try dsimp only at $lv1:ident)))
  | `(tactic| wide_line with stx $lv:ident $H:ident $lv1:ident $d1:ident) => `(tactic| (generalize he : upd _ _ _ = $H:ident; have $lv1:ident := Lv.stE $lv 0 rfl he; have $d1:ident := SameD.storeE (Lv.get $lv 0 rfl) he; clear he; (try dsimp only at $lv1:ident)))
  | `(tactic| wide_line with st $lv:ident $i:num $H:ident $lv1:ident) => `(tactic| (generalize he : upd _ _ _ = $H:ident; have $lv1:ident := Lv.stE $lv $i rfl he; clear he; (try dsimp only at $lv1:ident)))
  | `(tactic| wide_line with stk $lv:ident $i:num $H:ident $lv1:ident $k1:ident) => `(tactic| (generalize he : upd _ _ _ = $H:ident; have $lv1:ident := Lv.stE $lv $i rfl he; have $k1:ident := KeepT.st (Lv.get $lv $i rfl) he; clear he; (try dsimp only at $lv1:ident)))
/-! a web made of what is right -/
def tieDat (t : Str × Str) : PyData := .tuple [.str t.1, .str t.2]
theorem strsD_map : ∀ ns : List Str, strsD (ns.map PyData.str) = ns
  | [] => rfl
  | n :: ns => by rw [List.map_cons, strsD, strsD_map ns]
theorem places_good {d : PyData} {n : Nat} {ns : List Str} {ts : List (Str × Str)} (h : PlanOk n ns ts) (hn : n ≤ 12) (e : seqD d = some (ns.map PyData.str)) : placesOf d = some ns := by
  unfold placesOf
  rw [e]
  dsimp only
  rw [strsD_map, List.length_map, if_pos ⟨⟨h.one, Nat.le_trans h.most hn⟩, by rw [List.all_map, List.all_eq_true]; exact h.nm, h.nd⟩]
theorem tieOf_good {ns : List Str} {t : Str × Str} (h : t.1 ∈ ns ∧ t.2 ∈ ns ∧ t.1 ≠ t.2) : tieOf ns (tieDat t) = some t := by
  show (if t.1 ∈ ns ∧ t.2 ∈ ns ∧ t.1 ≠ t.2 then some (t.1, t.2) else none) = _
  rw [if_pos h]
theorem tieBad_good {ns : List Str} : ∀ {ts qs : List (Str × Str)} {i : Nat}, (∀ t ∈ ts, t.1 ∈ ns ∧ t.2 ∈ ns ∧ t.1 ≠ t.2) → (ts.map pairP).Nodup → (∀ t ∈ ts, pairP t ∉ qs) → tieBad ns qs i (ts.map tieDat) = none
  | [], _, _, _, _, _ => rfl
  | t :: ts, qs, i, h, d, o => by
    obtain ⟨n, d⟩ := List.nodup_cons.mp d
    rw [List.map_cons, tieBad, tieOf_good (h t List.mem_cons_self)]
    dsimp only
    rw [if_neg (o t List.mem_cons_self)]
    refine tieBad_good (fun u hu => h u (List.mem_cons_of_mem _ hu)) d fun u hu z => ?_
    rcases List.mem_cons.mp z with z | z
    · exact n (List.mem_map.mpr ⟨u, hu, z⟩)
    · exact o u (List.mem_cons_of_mem _ hu) z
theorem tiesD_good {ns : List Str} : ∀ {ts : List (Str × Str)}, (∀ t ∈ ts, t.1 ∈ ns ∧ t.2 ∈ ns ∧ t.1 ≠ t.2) → tiesD ns (ts.map tieDat) = ts
  | [], _ => rfl
  | t :: ts, h => by
    unfold tiesD
    rw [List.map_cons, List.filterMap_cons, tieOf_good (h t List.mem_cons_self)]
    exact congrArg _ (tiesD_good fun u hu => h u (List.mem_cons_of_mem _ hu))
section
variable {K : PySem.W.Frag} {H : Hp}
theorem dq_strs : ∀ ns : List Str, DqAll K H (ns.map V.str) (ns.map PyData.str)
  | [] => .nil
  | n :: ns => .cons (.str n) (dq_strs ns)
theorem dq_ties : ∀ {xs : List V} {ts : List (Str × Str)}, TiesAt K H xs ts → DqAll K H xs (ts.map tieDat)
  | _, _, .nil => .nil
  | _, _, .cons ⟨a, e, h⟩ t => .cons (by subst e; exact .tup h (.cons (.str _) (.cons (.str _) .nil))) (dq_ties t)
/-- a list or a tuple of what is known item by item -/
theorem dq_seq {a : Addr} {xs : List V} {ds : List PyData} (h : SqS K H a xs) (e : DqAll K H xs ds) : ∃ d, seqD d = some ds ∧ Dq K H (.ref a) d := by
  rcases h with h | h
  · exact ⟨.list ds, rfl, .lst h e⟩
  · exact ⟨.tuple ds, rfl, .tup h e⟩
end
/-- the class Web: what a new one promises -/
structure HasW (P : Program) (w : World) (K : PySem.W.Frag) (mg : Str → Option Value) (base : Heap) (k : Nat) (C CP CS CT : Addr) : Prop where
  g : mg "Web" = some (.ref C)
  ex : ∃ (f T0 : Addr) (fd : FuncData) (ds : List Value) (o : Obj) (n : Nat), Mk K C f ∧ FnOk P w K mg base (L2.CX P w) k f fd ["self", "places", "ties"] (spInit K C CP CS CT) ∧ Binds K fd ["self", "places", "ties"] [] ∧ Binds K fd ["self", "places", "ties"] ds ∧ Vals [.ref T0] ds ∧
    K.lookup T0 = some o ∧ o.cls = .type "tuple" ∧ o.data = .seq #[] n
/-- Web(p, t) of what is right -/
def tWeb (K : PySem.W.Frag) (C : Addr) (t : TA) : TE := fun σ H Q => t σ H fun vs H1 => ∃ (a b : Addr) (n : Nat) (ns : List Str) (xs : List V) (ts : List (Str × Str)), vs = [.ref a, .ref b] ∧ SqS K H1 a (ns.map V.str) ∧ SqS K H1 b xs ∧ TiesAt K H1 xs ts ∧ PlanOk n ns ts ∧ n ≤ 12 ∧
  ∀ x H', Same H1 H' → H1 x = none → WebAt K C H' x ns ts → Q (.ref x) H'
theorem init_good {K : PySem.W.Frag} {C CP CS CT a b x dx : Addr} {n : Nat} {H1 : Hp} {ns : List Str} {xs : List V} {ts : List (Str × Str)} {Q : VK} {E : XK} (ha : SqS K H1 a (ns.map V.str)) (hb : SqS K H1 b xs) (ht : TiesAt K H1 xs ts) (pk : PlanOk n ns ts) (hn : n ≤ 12) (nx : H1 x = none) (ndx : H1 dx = none) (ne : dx ≠ x)
    (k : ∀ H', Same H1 H' → H1 x = none → WebAt K C H' x ns ts → Q .non H') : spInit K C CP CS CT [.ref x, .ref a, .ref b] (upd (upd H1 dx (.own x)) x (.ins C dx [])) Q E := by
  have s1 : Same H1 (upd (upd H1 dx (.own x)) x (.ins C dx [])) := (same_new ndx).trans (same_new (by rw [upd_ne (fun z => ne z.symm)]; exact nx))
  have hx : upd (upd H1 dx (.own x)) x (.ins C dx []) x = some (.ins C dx []) := upd_same
  generalize upd (upd H1 dx (.own x)) x (.ins C dx []) = H2 at s1 hx ⊢
  obtain ⟨d, ed, hd⟩ := dq_seq (ha.same s1) (dq_strs ns)
  obtain ⟨td, etd, htd⟩ := dq_seq (hb.same s1) (dq_ties (ht.same s1))
  have pg := places_good pk hn ed
  refine ⟨x, dx, .ref a, .ref b, d, td, rfl, hx, hd, fun ds e => ?_, htd, fun z => (by rw [pg] at z; cases z), fun ns' e => ?_⟩
  · rw [ed] at e
    cases e
    refine ⟨by rw [List.length_map]; have := pk.most; omega, fun y hy => ?_⟩
    obtain ⟨z, hz, e⟩ := List.mem_map.mp hy
    cases e
    have := pk.nm _ hz
    unfold okName at this
    simp only [Bool.and_eq_true, decide_eq_true_eq] at this
    rw [sizeLine_eq]
    omega
  · rw [pg] at e
    cases e
    refine ⟨fun z => (by rw [etd] at z; cases z), fun tds e => ?_⟩
    rw [etd] at e
    cases e
    have tb := tieBad_good (i := 0) (qs := []) pk.tie pk.dif (fun _ _ z => nomatch z)
    refine ⟨fun e he => ?_, by rw [List.length_map]; have := pk.few; omega, fun i z => (by rw [tb] at z; cases z), fun _ H' off hw => ?_⟩
    · obtain ⟨t, _, rfl⟩ := List.mem_map.mp he
      exact ⟨rfl, rfl⟩
    · rw [tiesD_good pk.tie] at hw
      exact k H' (fun c o ec => off c o (ne_of_none ec nx) (s1 c o ec)) nx (hw.same noLst_sub)
theorem pe_web {X : Cx} {C CP CS CT : Addr} {j k : Nat} {e : Expr} {es : List Expr} {t : TA} {p pos : Pos} (h : HasW X.prog X.w X.K X.mg X.base j C CP CS CT) (hr : Room k X.A) (l : j + 1 ≤ k) (hg : Gl X "Web") (ha : PA X (e :: es) t)
    (he : starEach (e :: es) X.env = (false, eval e X.env) :: starEach es X.env := by rfl) (hpl : (backTo pos (starEach es X.env)).any (·.1) = false := by rfl) : PE X (.Call (.Name "Web" p) (e :: es) [] pos) (tWeb X.K C t) := by
  obtain ⟨g, f, T0, fd, ds, o, n0, M, F, b, _⟩ := h
  refine pe_makeG (E := fun _ => E0) M F (hr.mono l) hg g b .nil (fun vs H1 Q σ x dx q nx ndx ne => ?_) (fun pins σ H s e s' I z => passL pins σ H s e s' I z) ha (by decide) he hpl
  obtain ⟨a, b, n, ns, xs, ts, rfl, ha, hb, ht, pk, hn, k⟩ := q
  exact init_good ha hb ht pk hn nx ndx ne fun H' s' nx' hw => ⟨rfl, k x H' s' nx' hw⟩
end Pw

set_option Elab.async false
set_option linter.all false
set_option maxRecDepth 100000
set_option maxHeartbeats 4000000
/-! t[::-1] of a pair. -/
namespace Ct
open PySem PySem.Spec PyProof.Rows L2
section
variable {prog : Program} {w : World} {A : Around} {E : Value → Shared → Prop} {s : Shared}
theorem backApplied {q : Addr} {tk : Value} {G : Int × Int × Nat → Shared → Prop} (hq : s.heap.IsSliceOf q .none .none tk) (p1 : IsPart tk (some (-1))) (g : G (1, -1, 2) s) :
    wpAny (model prog w) A (Builtin.Slice.sliceApplied (.ref q) (pure ((2 : Nat) : Int))) G E s := by
  obtain ⟨ob, hob, _, hd⟩ := id hq
  unfold Builtin.Slice.sliceApplied Builtin.Slice.sliceFields
  refine wpAny_bind (wpAny_bind (wpAny_field hob hd (x := .none) rfl (wpAny_bind (wpAny_field hob hd (x := .none) rfl (wpAny_bind (wpAny_field hob hd (x := tk) rfl (wpAny_pure ?_)))))))
  refine wpAny_bind (HT.slicePart_ p1 ?_)
  show wpAny _ _ (if ((-1 : Int) == 0) = true then _ else _) _ _ s
  rw [if_neg (by decide)]
  refine wpAny_bind (slicePart_none (wpAny_bind (slicePart_none (wpAny_bind (wpAny_pure ?_)))))
  exact wpAny_pure g
theorem getBack {t q : Addr} {x y tk : Value} {G : Value → Shared → Prop} (ht : IsTup s.heap t #[x, y]) (hq : s.heap.IsSliceOf q .none .none tk) (p1 : IsPart tk (some (-1)))
    (g : G (.ref s.heap.objs.size) { s with heap := s.heap.push { cls := .type "tuple", data := .seq #[y, x] } }) : wpAny (model prog w) A (getItem (.ref t) (.ref q)) G E s := by
  have fits : sizeOk (.seq #[y, x]) := by show 2 ≤ sizeLine; decide
  obtain ⟨ob, hob, hcl, hd⟩ := id hq
  have isS : s.TypeIs (.ref q) "slice" := ⟨ob, hob, hcl⟩
  unfold getItem
  try with_reducible refine wpAny_holding ?_
  first | refine wpAny_bind (wpAny_pure ?_) | skip
  refine wpAny_bind (wpAny_sequenceKey ht.typeIs (by decide) ?_)
  refine wpAny_bind (wpAny_callSpecial?_slot (name := Str.ofString "__getitem__") ht.typeIs PyProof.Rows.slot_tuple_getitem (wpAny_call_entry PyProof.Rows.slot_tuple_getitem ht.typeIs entry_tuple_getitem ?_ (args_tuple_getitem _ _)))
  show wpAny _ _ (Builtin.Tuple.tupleItemsOf (.ref t) >>= _) _ _ s
  refine wpAny_bind (tupleItemsOf_ ht (wpAny_bind (wpAny_typeOf isS ?_)))
  rw [if_pos (by decide)]
  refine wpAny_bind (backApplied hq p1 ?_)
  show wpAny _ _ (if ((1 : Int) == 0 && (-1 : Int) == 1 && (2 : Nat) == #[x, y].size) = true then _ else _) _ _ s
  rw [if_neg (fun z => by cases z)]
  first
    | exact wpAny_bind (m := Builtin.Tuple.tupleExact _) (wpAny_newObj_type (wpAny_pure ⟨_, rfl, wpAny_pure g⟩) fits)
    | exact wpAny_bind (m := Builtin.Tuple.tupleExact _) (wpAny_newObj_type (wpAny_bind (wpAny_pure (wpAny_pure ⟨_, rfl, wpAny_pure g⟩))) fits)
    | exact wpAny_bind (wpAny_bind (m := Builtin.Tuple.tupleExact _) (wpAny_newObj_type (wpAny_pure (wpAny_pure ⟨_, rfl, wpAny_pure g⟩)) fits))
    | exact wpAny_bind (wpAny_bind (m := Builtin.Tuple.tupleExact _) (wpAny_newObj_type (wpAny_pure ⟨_, rfl, wpAny_pure g⟩) fits))
end
section
variable {X : Cx}
def tBack (K : PySem.W.Frag) (te : TE) : TE := fun σ H Q => te σ H fun v H1 => ∃ a x y, v = .ref a ∧ SqT K H1 a [x, y] ∧ ∀ p, H1 p = none → Q (.ref p) (upd H1 p (.tup [y, x]))
theorem pe_back {e : Expr} {te : TE} {k : Nat} {p1 p2 p3 pos : Pos} (he : PE X e te) : PE X (.Subscript e (.Slice none none (some (.UnaryOp .USub (.Constant (.int 1) k p1) p2)) p3) pos) (tBack X.K te) := by
  refine ⟨fun pins s0 σ H G I h => Subscript_ (thn (he.run pins s0 σ H _ I h) fun v s1 ⟨z, H1, I1, r1, q1⟩ => ?_)⟩
  obtain ⟨a, x, y, ez, hx, g⟩ := q1
  subst ez
  cases r1
  have part : PO X (some (.UnaryOp .USub (.Constant (.int 1) k p1) p2)) (tPart (tUn (rU fun i => .int (-i)) (tC (.int 1)))) := po_some (pe_un un_neg pe_int)
  refine wpAny_Slice (thn (po_none.run pins s1 σ H1 (fun o J => o = none ∧ J = H1) I1 ⟨rfl, rfl⟩) fun vl s2 ⟨l, H2, I2, pl, el, e2⟩ => ?_)
  subst el e2
  refine thn (po_none.run pins s2 σ H2 (fun o J => o = none ∧ J = H2) I2 ⟨rfl, rfl⟩) fun vh s3 ⟨u, H3, I3, pu, eu, e3⟩ => ?_
  subst eu e3
  refine thn (part.run pins s3 σ H3 (fun o J => o = some (-1) ∧ J = H3) I3 ⟨1, rfl, -1, rfl, rfl, rfl⟩) fun vs s4 ⟨o, H4, I4, ps, eo, e4⟩ => ?_
  subst eo e4
  cases pl
  cases pu
  have I5 : Inv X pins σ H4 { s4 with heap := s4.heap.push { cls := .type "slice", data := .fields #[.none, .none, vs] } } := I4.kept (t' := s4.toks) fun b ob z => Heap.get?_push_of_some _ z
  obtain ⟨its, r, ht, hz⟩ := I5.tuple hx
  cases r with
  | cons ra r =>
    cases r with
    | cons rb r =>
      cases r
      rename_i ua ub
      refine tail_any (ops := [.ref a, .ref s4.heap.objs.size]) ht.typeIs (PyProof.Rows.slot_tuple_getitem.lookup) ?_ (by with_unfolding_all rfl)
      refine getBack (x := ua) (y := ub) ht (Heap.IsSliceOf.new _ .none .none vs) ps ?_
      refine ⟨.ref _, _, I5.laid (t' := s4.toks) (o := .tup [y, x]) (fun b ob z => Heap.get?_push_of_some _ z) (Nat.le_refl _) ?_, rfl, g _ (I5.hok.fresh (Nat.le_refl _))⟩
      exact ⟨by show 2 ≤ sizeLine; decide, [ub, ua], .cons rb (.cons ra .nil), IsTup.new _ _⟩
end
end Ct

set_option Elab.async false
set_option linter.all false
set_option maxRecDepth 100000
set_option maxHeartbeats 4000000
namespace Pw
open PySem PySem.Spec PyProof.Rows L2 Ct
local macro_rules | `(tactic| wide_line) => `(tactic| repeat ((fail_if_success (with_reducible refine at_while ?_)); (fail_if_success (with_reducible refine at_while1 ?_)); (conv => whnf); first | ((with_reducible refine And.intro ?_ ?_); focus (first | (first | ((with_reducible show (_ : Nat) ≤ _); first | exact sz0 | exact sz1 | exact sz2 | exact sz3 | exact sz4 | exact sz5 | exact sz6 | exact sz7 | exact sz8 | exact sz10 | exact sz11 | exact sz12 | exact sz14 | omega | decide | (simp only [List.length_cons, List.length_nil]; omega)) | ((with_reducible show (_ : Int) ≤ _); first | omega | decide) | ((with_reducible show (_ : Int) < _); first | omega | decide) | ((with_reducible show (_ : Nat) < _); omega)) | ((fail_if_success (with_reducible show (_ : Nat) ≤ _)); (fail_if_success (with_reducible show (_ : Int) ≤ _)); (fail_if_success (with_reducible show (_ : Int) < _)); (fail_if_success (with_reducible show (_ : Nat) < _)); first | exact kv_str _ | exact kv_int _ | rfl | assumption | exact flat_strs _ | exact Lv.get (by assumption) 0 rfl | exact Lv.get (by assumption) 1 rfl | exact Lv.get (by assumption) 2 rfl | exact Lv.get (by assumption) 3 rfl | exact Lv.get (by assumption) 4 rfl | exact Lv.get (by assumption) 5 rfl | exact Lv.get (by assumption) 6 rfl | exact SqL.of (Lv.get (by assumption) 0 rfl) | exact SqL.of (Lv.get (by assumption) 1 rfl) | exact SqL.of (Lv.get (by assumption) 2 rfl) | exact SqL.of (Lv.get (by assumption) 3 rfl) | exact SqL.of (Lv.get (by assumption) 4 rfl) | exact SqL.of (Lv.get (by assumption) 5 rfl) | exact Or.inl (SqL.of (Lv.get (by assumption) 0 rfl)) | exact Or.inl (SqL.of (Lv.get (by assumption) 1 rfl)) | exact Or.inl (SqL.of (Lv.get (by assumption) 2 rfl)) | exact Or.inl (SqL.of (Lv.get (by assumption) 3 rfl)) | exact Or.inl (SqL.of (Lv.get (by assumption) 4 rfl)) | exact Or.inl (SqL.of (Lv.get (by assumption) 5 rfl)) | exact ⟨_, SqL.of (Lv.get (by assumption) 0 rfl)⟩ | exact ⟨_, SqL.of (Lv.get (by assumption) 1 rfl)⟩ | exact ⟨_, SqL.of (Lv.get (by assumption) 2 rfl)⟩ | exact ⟨_, SqL.of (Lv.get (by assumption) 3 rfl)⟩ | exact ⟨_, SqL.of (Lv.get (by assumption) 4 rfl)⟩ | exact ⟨_, SqL.of (Lv.get (by assumption) 5 rfl)⟩ | exact Or.inl ⟨_, SqL.of (Lv.get (by assumption) 0 rfl), rfl⟩ | exact Or.inl ⟨_, SqL.of (Lv.get (by assumption) 1 rfl), rfl⟩ | exact Or.inl ⟨_, SqL.of (Lv.get (by assumption) 2 rfl), rfl⟩ | exact Or.inl ⟨_, SqL.of (Lv.get (by assumption) 3 rfl), rfl⟩ | exact Or.inl ⟨_, SqL.of (Lv.get (by assumption) 4 rfl), rfl⟩ | exact Or.inl ⟨_, SqL.of (Lv.get (by assumption) 5 rfl), rfl⟩ | exact Or.inl ⟨rfl, _, SqL.of (Lv.get (by assumption) 0 rfl)⟩ | exact Or.inl ⟨rfl, _, SqL.of (Lv.get (by assumption) 1 rfl)⟩ | exact Or.inl ⟨rfl, _, SqL.of (Lv.get (by assumption) 2 rfl)⟩ | exact Or.inl ⟨rfl, _, SqL.of (Lv.get (by assumption) 3 rfl)⟩ | exact Or.inl ⟨rfl, _, SqL.of (Lv.get (by assumption) 4 rfl)⟩ | exact Or.inl ⟨rfl, _, SqL.of (Lv.get (by assumption) 5 rfl)⟩ | exact Or.inr (SqT.of (Lv.get (by assumption) 0 rfl)) | exact Or.inr (SqT.of (Lv.get (by assumption) 1 rfl)) | exact Or.inr (SqT.of (Lv.get (by assumption) 2 rfl)) | exact Or.inr (SqT.of (Lv.get (by assumption) 3 rfl)) | exact SqT.of (Lv.get (by assumption) 0 rfl) | exact SqT.of (Lv.get (by assumption) 1 rfl) | exact SqT.of (Lv.get (by assumption) 2 rfl) | exact dgetN (Lv.get (by assumption) 0 rfl) (by assumption) | exact dgetN (Lv.get (by assumption) 1 rfl) (by assumption) | exact dgetN (Lv.get (by assumption) 2 rfl) (by assumption) | exact dgetN (Lv.get (by assumption) 3 rfl) (by assumption) | exact dgetN (Lv.get (by assumption) 4 rfl) (by assumption) | exact Or.inl (by assumption) | exact Or.inr (by assumption) | decide | ((with_reducible show _ ∧ _); omega)))) | ((fail_if_success (with_reducible apply @Exists.intro (Nat → _))); (with_reducible apply Exists.intro))))
local macro_rules
  | `(tactic| wide_line with al $lv:ident $l:ident $nl:ident $H:ident $lv1:ident $s1:ident) => `(tactic| (intro $l:ident $nl:ident; generalize he : upd _ _ _ = $H:ident; have $lv1:ident := Lv.alE $lv $nl he; have $s1:ident := sameE $nl he; clear he; (try dsimp only at $lv1:ident)))
  | `(tactic| wide_line with alx $lv:ident $nl:ident $H:ident $lv1:ident $s1:ident) => `(tactic| (generalize he : upd _ _ _ = $H:ident; have $lv1:ident := Lv.alE $lv $nl he; have $s1:ident := sameE $nl he; clear he; (try dsimp only at $lv1:ident)))
  | `(tactic| wide_line with sts $lv:ident $i:num $H:ident $lv1:ident $s0:ident $np:ident $s1:ident) => `(tactic| (generalize he : upd _ _ _ = $H:ident; have $lv1:ident := Lv.stE $lv $i rfl he; have $s1:ident := sameN $s0 $np he; clear he; (try dsimp only at $lv1:ident)))
  | `(tactic| wide_line with stx $lv:ident $H:ident $lv1:ident $d1:ident) => `(tactic| (generalize he : upd _ _ _ = $H:ident; have $lv1:ident := Lv.stE $lv 0 rfl he; have $d1:ident := SameD.storeE (Lv.get $lv 0 rfl) he; clear he; (try dsimp only at $lv1:ident)))
  | `(tactic| wide_line with st $lv:ident $i:num $H:ident $lv1:ident) => `(tactic| (generalize he : upd _ _ _ = $H:ident; have $lv1:ident := Lv.stE $lv $i rfl he; clear he; (try dsimp only at $lv1:ident)))
  | `(tactic| wide_line with stk $lv:ident $i:num $H:ident $lv1:ident $k1:ident) => `(tactic| (generalize he : upd _ _ _ = $H:ident; have $lv1:ident := Lv.stE $lv $i rfl he; have $k1:ident := KeepT.st (Lv.get $lv $i rfl) he; clear he; (try dsimp only at $lv1:ident)))
/-! the law's own judge of a tie -/
theorem same_l {K : PySem.W.Frag} {H H' : Hp} {a : Addr} {xs : List V} (s : Same H H') (h : SqL K H a xs) : SqL K H' a xs := by
  rcases h with (h | ⟨o, h⟩) | h
  · exact .inl (.inl (s _ _ h))
  · exact .inl (.inr ⟨o, s _ _ h⟩)
  · exact .inr h
theorem str_ext {x y : Str} (h : x.cps.toList = y.cps.toList) : x = y := by
  obtain ⟨⟨a⟩⟩ := x
  obtain ⟨⟨b⟩⟩ := y
  exact congrArg (fun l => (⟨⟨l⟩⟩ : Str)) h
theorem pairS_sw (x y : Str) : pairS x y = pairS y x := by
  unfold pairS ltS
  by_cases h1 : x.cps.toList < y.cps.toList
  · rw [decide_eq_true h1, if_pos rfl, decide_eq_false (List.lt_asymm h1), if_neg Bool.false_ne_true]
  · rw [decide_eq_false h1, if_neg Bool.false_ne_true]
    by_cases h2 : y.cps.toList < x.cps.toList
    · rw [decide_eq_true h2, if_pos rfl]
    · rw [decide_eq_false h2, if_neg Bool.false_ne_true]
      have : x = y := str_ext (List.le_antisymm h2 h1)
      rw [this]
theorem eqv_str (x y : Str) : PyData.eqv (.str x) (.str y) = decide (x = y) := by
  rw [PyData.eqv, Bool.eq_iff_iff, decide_eq_true_eq, beq_iff_eq]
theorem eqv_tie (p q : Str × Str) : PyData.eqv (tieDat p) (tieDat q) = decide (p = q) := by
  obtain ⟨a, b⟩ := p
  obtain ⟨c, d⟩ := q
  show PyData.eqvAll [.str a, .str b] [.str c, .str d] = _
  rw [PyData.eqvAll, PyData.eqvAll, PyData.eqvAll, eqv_str, eqv_str, Bool.and_true, Bool.eq_iff_iff, decide_eq_true_eq, Bool.and_eq_true, decide_eq_true_eq, decide_eq_true_eq]
  exact ⟨fun ⟨h1, h2⟩ => by rw [h1, h2], fun h => by cases h; exact ⟨rfl, rfl⟩⟩
theorem any_tie (ps : List (Str × Str)) (q : Str × Str) : ((ps.map tieDat).any fun z => PyData.eqv z (tieDat q)) = decide (q ∈ ps) := by
  rw [Bool.eq_iff_iff, decide_eq_true_eq, List.any_map, List.any_eq_true]
  constructor
  · rintro ⟨y, hy, e⟩
    have e : decide (y = q) = true := (eqv_tie y q) ▸ e
    exact (of_decide_eq_true e) ▸ hy
  · exact fun h => ⟨q, h, by show PyData.eqv (tieDat q) (tieDat q) = true; rw [eqv_tie]; exact decide_eq_true rfl⟩
def okTie (t : Str × Str) : Prop := okName t.1 = true ∧ okName t.2 = true
theorem lay_tie {q : Str × Str} (h : okTie q) : (tieDat q).canLay0 = true ∧ (tieDat q).depth ≤ 50 := by
  refine ⟨?_, by simp [tieDat, PyData.depth, PyData.depthAll]⟩
  unfold tieDat
  rw [PyData.canLay0, PyData.canLayAll0, PyData.canLayAll0, PyData.canLayAll0, PyData.canLay0, PyData.canLay0, strOk_of h.1, strOk_of h.2]
  rfl
theorem shaped_tie {q : Str × Str} (h : okTie q) : SeqAt.shaped (tieDat q) = true := by
  obtain ⟨h1, h2⟩ := lay_tie h
  unfold SeqAt.shaped
  rw [h1, Bool.true_and]
  exact decide_eq_true (by omega)
theorem shaped_list {ds : List PyData} (h : ∀ d ∈ ds, d.canLay0 = true ∧ d.depth ≤ 50) : SeqAt.shaped (.list ds) = true := by
  unfold SeqAt.shaped
  rw [Bool.and_eq_true, decide_eq_true_eq]
  refine ⟨?_, ?_⟩
  · rw [PyData.canLay0]
    exact lays_of fun d hd => (h d hd).1
  · have := depths_of (m := 50) fun d hd => (h d hd).2
    simp only [PyData.depth]
    omega
theorem shaped_ties {ps : List (Str × Str)} (h : ∀ t ∈ ps, okTie t) : SeqAt.shaped (.list (ps.map tieDat)) = true := shaped_list fun d hd => by
  obtain ⟨t, ht, rfl⟩ := List.mem_map.mp hd
  exact lay_tie (h t ht)
theorem dp_ties {K : PySem.W.Frag} {H : Hp} : ∀ {xs : List V} {ts : List (Str × Str)}, TiesAt K H xs ts → DpAll K H xs (ts.map tieDat)
  | _, _, .nil => .nil
  | _, _, .cons ⟨a, e, h⟩ t => .cons (by subst e; exact .tup h (.cons (.str _) (.cons (.str _) .nil))) (dp_ties t)
theorem pairP_eq {t u : Str × Str} : pairP t = pairP u ↔ t = u ∨ (t.2, t.1) = u := by
  obtain ⟨x, y⟩ := t
  obtain ⟨a, b⟩ := u
  unfold pairP
  constructor
  · intro e
    dsimp only at e
    rcases pairS_or x y with z | z <;> rcases pairS_or a b with z' | z' <;> rw [z, z'] at e <;> cases e
    · exact .inl rfl
    · exact .inr rfl
    · exact .inr rfl
    · exact .inl rfl
  · rintro (h | h)
    · cases h; rfl
    · cases h
      exact pairS_sw x y
/-- a tie that is not known yet -/
def newTie (ns : List Str) (qs : List (Str × Str)) (d : PyData) : Bool := match tieOf ns d with
  | some t => !decide (t ∈ qs) && !decide ((t.2, t.1) ∈ qs)
  | none => false
theorem newTie_eq {ns : List Str} {qs : List (Str × Str)} {d : PyData} {t : Str × Str} (h : tieOf ns d = some t) : newTie ns qs d = !decide (pairP t ∈ qs.map pairP) := by
  unfold newTie
  rw [h]
  dsimp only
  rw [← Bool.not_or, ← Bool.decide_or]
  refine congrArg _ (decide_eq_decide.mpr ⟨fun z => ?_, fun z => ?_⟩)
  · rcases z with z | z
    · exact List.mem_map.mpr ⟨_, z, rfl⟩
    · exact List.mem_map.mpr ⟨_, z, (pairP_eq.mpr (.inr rfl)).symm⟩
  · obtain ⟨u, hu, e⟩ := List.mem_map.mp z
    rcases pairP_eq.mp e.symm with z | z
    · exact .inl (z ▸ hu)
    · exact .inr (z ▸ hu)
def badEnd (ns : List Str) (d : PyData) : Bool := match d with
  | .str x => !decide (x ∈ ns)
  | _ => true
def spLawIsTie (K : PySem.W.Frag) : Sp := fun vs H Q _ => ∃ (v : V) (a b : Addr) (d : PyData) (ns : List Str) (xs : List V) (qs : List (Str × Str)), vs = [v, .ref a, .ref b] ∧ Dq K H v d ∧ Nms K H a ns ∧ SqL K H b xs ∧ TiesAt K H xs qs ∧ (∀ n ∈ ns, okName n = true) ∧ (∀ t ∈ qs, okTie t) ∧
  ∀ H', Same H H' → Q (.bl (newTie ns qs d)) H'
section
variable {P : Program} {w : World} {K : PySem.W.Frag} {mg : Str → Option Value} {base : Heap}
abbrev sLawIsTie : Stmt := top ix_law_is_tie
theorem scLawIsTie : FnScope ["thing", "places", "known", "one"] ["thing", "places", "known"] (defScope sLawIsTie) := ⟨rfl, rfl, rfl, by decide +kernel, rfl, by decide +kernel, by decide +kernel⟩
theorem has_law_is_tie (T : Bn mg) (D : DFE K mg "_law_is_tie" sLawIsTie ["thing", "places", "known"]) : Has P w K mg base CX0 1 "_law_is_tie" ["thing", "places", "known"] (spLawIsTie K) := by
  refine has_of D scLawIsTie (fun vs H Q E h => ?_) (fun f cdv A outer s H vs Q E hr h => ?_)
  · obtain ⟨v, a, b, d, ns, xs, qs, rfl, _⟩ := h; rfl
  · obtain ⟨v, a, b, d, ns, xs, qs, rfl, hd, ha, hb, ht, okn, okt, k⟩ := h
    have nd := scLawIsTie.nd
    refine ⟨_, (pss_cons (ps_if (PW.pt (pw_or (pt_not (pt_val (pe_callB call_isD (by rfl) T.z_isinstance (by decide +kernel) (pa_cons (pv 0) (pa_cons (pe_bltn (v := .ty "tuple") rfl T.z_tuple (by decide +kernel) rfl) pa_nil))))) (pw_or1 (pt_cmpR op_ne (pe_callB call_len_seq (by rfl) T.z_len (by decide +kernel) (pa_cons (pv 0) pa_nil)) pe_int (by first | exact nomark _ | rfl))))) (pss_one (ps_ret pe_bl)) pss_nil)
    (pss_cons (ps_if (PW.pt (pw_or (pt_cmpR (op_neNil hr.units) (pe_lc (own := [("one", 3)]) (g := gName 3) rfl nd (pi_tup (pv 0)) (blkOk_by (own := [("one", 3)]) (N := ["thing", "places", "known", "one"]) (sc := defScope sLawIsTie) (by decide +kernel)) (fun _ _ _ _ _ => (pg_name (i := 3) nd rfl (by first | exact Or.inl rfl | exact Or.inr rfl))) (fun _ _ _ _ _ => (pts_one (PW.pt (pw_or (pt_not (pt_val (pe_callB (call_isDk (K := K) rfl) (by rfl) T.z_isinstance (by decide +kernel) (pa_cons (pv 3) (pa_cons (pe_bltn (v := .ty "str") rfl T.z_str (by decide +kernel) rfl) pa_nil))))) (pw_or1 (pt_cmpR (or_namidk (K := K) rfl hr.units) (pv 3) (pv 1) (by first | exact nomark _ | rfl))))))) (fun _ _ _ _ _ => (pv 3))) (pe_lst pa_nil) (by first | exact nomark _ | rfl)) (pw_or1 (pt_cmpR op_eq (pe_ix ix_tup (pv 0) pe_int (fun _ _ => rfl)) (pe_ix ix_tup (pv 0) pe_int (fun _ _ => rfl)) (by first | exact nomark _ | rfl))))) (pss_one (ps_ret pe_bl)) pss_nil)
    (pss_one (ps_ret (pe_and (pe_cmpR (op_notInDk (K := K) rfl (units65 hr)) (pv 0) (pv 2) (by first | exact nomark _ | rfl)) (pe_one (pe_cmpR (op_notInDk (K := K) rfl (units65 hr)) (pe_back (pv 0)) (pv 2) (by first | exact nomark _ | rfl)))))))), ?_⟩
    have no : tieOf ns d = none → ∀ H', Same H H' → Q (.bl false) H' := fun e H' s' => by
      have z := k H' s'
      unfold newTie at z
      rw [e] at z
      exact z
    refine ⟨_, rfl, _, d, "tuple", _, rfl, hd, kit_tuple d, _, rfl, ?_⟩
    cases hd with
    | @tup t ys ds hs hx =>
      refine iteF ⟨_, rfl, _, _, rfl, .inr hs, rfl, _, rfl, ?_⟩
      cases hx with
      | nil => exact iteT (no rfl H (.refl H))
      | @cons v1 vs1 d1 ds1 h1 hx =>
        cases hx with
        | nil => exact iteT (no rfl H (.refl H))
        | @cons v2 vs2 d2 ds2 h2 hx =>
          cases hx with
          | @cons v3 vs3 d3 ds3 h3 hx => exact iteT (no rfl H (.refl H))
          | nil =>
            refine iteF ⟨_, rfl, _, rfl, ⟨_, hs⟩, fun L nL => ?_⟩
            have lv0 := Lv.zero H
            refine lc_tup (xs := [v1, v2]) (fun i H' => Hold (∃ ys, Lv H [] H' [(L, .lst ys)] ∧ ys.length ≤ i ∧ ys.isEmpty = !(([d1, d2].take i).any (badEnd ns)))) ⟨[], lv0.al nL, Nat.le_refl _, rfl⟩ (fun _ _ _ ⟨_, z, _⟩ => same_t z.sm hs) ?_ ?_
            · rintro i x H1 hi ⟨ys, lv, ly, e⟩
              obtain ⟨dx, hdx, hx⟩ : ∃ dx, [d1, d2][i]? = some dx ∧ Dq K H x dx := dqAll_at (.cons h1 (.cons h2 .nil)) hi
              have i2 : i < 2 := (List.getElem?_eq_some_iff.mp hi).1
              have tk : [d1, d2].take (i + 1) = [d1, d2].take i ++ [dx] := by rw [List.take_succ, hdx]; rfl
              have hx := hx.same lv.sm
              have ha1 := ha.same lv.sm
              have hit : badEnd ns dx = true → Hold (∃ zs, Lv H [] (upd H1 L (.lst (ys ++ [x]))) [(L, .lst zs)] ∧ zs.length ≤ i + 1 ∧ zs.isEmpty = !(([d1, d2].take (i + 1)).any (badEnd ns))) := fun z => by
                refine ⟨ys ++ [x], Lv.stE lv 0 rfl rfl, by rw [List.length_append, List.length_singleton]; omega, ?_⟩
                rw [tk, List.any_append, List.any_cons, z]
                simp
              have hl : ys.length < sizeLine := by rw [sizeLine_eq]; omega
              refine ⟨rfl, _, rfl, _, dx, "str", _, rfl, hx, kit_str dx, ?_⟩
              cases dx with
              | str y =>
                cases hx
                refine ⟨_, rfl, iteF ⟨_, rfl, _, rfl, .str y, a, ns, rfl, ha1, .str y, ?_⟩⟩
                refine ⟨_, rfl, ?_⟩
                have am : amid (.str y) ns = decide (y ∈ ns) := Bool.eq_iff_iff.mpr (by rw [decide_eq_true_eq]; exact amid_str)
                show (if (!amid (.str y) ns) = true then _ else _)
                rw [am]
                refine ite2 (fun c => ?_) (fun c => ?_)
                · exact ⟨_, rfl, _, lv.get 0 rfl, hl, hit c⟩
                · refine ⟨ys, lv, by omega, ?_⟩
                  rw [tk, List.any_append, List.any_cons, show badEnd ns (.str y) = false from by show (!decide (y ∈ ns)) = false; simpa using c]
                  simpa using e
              | _ => exact ⟨_, rfl, iteT ⟨_, rfl, _, lv.get 0 rfl, hl, hit rfl⟩⟩
            · rintro H1 ⟨ys, lv, _, e⟩
              refine ⟨by decide, fun l2 n2 => ?_⟩
              wide_line with alx lv n2 H2 lv2 s2
              have s02 : Same H H2 := lv2.sm
              refine ⟨_, _, _, rfl, rfl, SqL.of (lv2.get 1 rfl), SqL.of (lv2.get 0 rfl), ?_⟩
              rw [show (if true = true then !ys.isEmpty else ys.isEmpty) = !ys.isEmpty from rfl, show ys.isEmpty = !(([d1, d2].take 2).any (badEnd ns)) from e, Bool.not_not]
              by_cases bad : ([d1, d2].take 2).any (badEnd ns) = true
              · rw [bad]
                refine ⟨_, rfl, iteT (iteT (no ?_ H2 s02))⟩
                have bad : (badEnd ns d1 || (badEnd ns d2 || false)) = true := bad
                rw [Bool.or_false, Bool.or_eq_true] at bad
                rcases bad with z | z
                · refine tie_no1 ?_
                  cases d1 with
                  | str y =>
                    have z : (!decide (y ∈ ns)) = true := z
                    by_cases c : y ∈ ns
                    · rw [decide_eq_true c] at z; exact absurd z (by decide)
                    · exact Bool.eq_false_iff.mpr fun y => c (amid_str.mp y)
                  | _ => rfl
                · refine tie_no2 ?_
                  cases d2 with
                  | str y =>
                    have z : (!decide (y ∈ ns)) = true := z
                    by_cases c : y ∈ ns
                    · rw [decide_eq_true c] at z; exact absurd z (by decide)
                    · exact Bool.eq_false_iff.mpr fun y => c (amid_str.mp y)
                  | _ => rfl
              · have bad : ([d1, d2].take 2).any (badEnd ns) = false := Bool.eq_false_iff.mpr bad
                rw [bad]
                have bad : (badEnd ns d1 || (badEnd ns d2 || false)) = false := bad
                rw [Bool.or_false, Bool.or_eq_false_iff] at bad
                obtain ⟨z1, z2⟩ := bad
                obtain ⟨y1, rfl, m1⟩ : ∃ y, d1 = .str y ∧ y ∈ ns := by
                  cases d1 with
                  | str y => exact ⟨y, rfl, by have z : (!decide (y ∈ ns)) = false := z1; simpa using z⟩
                  | _ => exact Bool.noConfusion (show true = false from z1)
                obtain ⟨y2, rfl, m2⟩ : ∃ y, d2 = .str y ∧ y ∈ ns := by
                  cases d2 with
                  | str y => exact ⟨y, rfl, by have z : (!decide (y ∈ ns)) = false := z2; simpa using z⟩
                  | _ => exact Bool.noConfusion (show true = false from z2)
                cases h1
                cases h2
                have hs2 := same_t s02 hs
                refine ⟨_, rfl, iteF ⟨_, rfl, _, _, _, _, rfl, rfl, hs2, rfl, _, rfl, _, _, _, _, rfl, rfl, hs2, rfl, rfl, ?_⟩⟩
                refine ⟨_, rfl, ite2 (fun c => ?_) (fun c => ?_)⟩
                · have c : y1 = y2 := V.str.inj (of_decide_eq_true c)
                  refine no ?_ H2 s02
                  exact if_neg fun z => z.2.2 c
                · have c : y1 ≠ y2 := fun z => c (by rw [z]; exact decide_eq_true rfl)
                  have tq : tieOf ns (.tuple [.str y1, .str y2]) = some (y1, y2) := if_pos ⟨m1, m2, c⟩
                  have fin : ∀ H', Same H H' → Q (.bl (!decide ((y1, y2) ∈ qs) && !decide ((y2, y1) ∈ qs))) H' := fun H' s' => by
                    have z := k H' s'
                    unfold newTie at z
                    rw [tq] at z
                    exact z
                  have o1 : okTie (y1, y2) := ⟨okn _ m1, okn _ m2⟩
                  have o2 : okTie (y2, y1) := ⟨okn _ m2, okn _ m1⟩
                  have hb2 := same_l s02 hb
                  have d2 : Dp K H2 (.ref b) (.list (qs.map tieDat)) := .lst hb2 (dp_ties (ht.same s02))
                  refine ⟨_, rfl, _, rfl, tieDat (y1, y2), qs.map tieDat, .tup hs2 (.cons (.str _) (.cons (.str _) .nil)), d2, shaped_tie o1, shaped_ties okt, ?_⟩
                  rw [any_tie]
                  by_cases i1 : (y1, y2) ∈ qs
                  · have z := fin H2 s02
                    rw [decide_eq_true i1] at z ⊢
                    exact ⟨_, rfl, iteF z⟩
                  · rw [decide_eq_false i1] at fin ⊢
                    refine ⟨_, rfl, iteT ⟨_, rfl, _, _, _, rfl, hs2, fun p np => ?_⟩⟩
                    have s3 := same_new (o := .tup [.str y2, .str y1]) np
                    refine ⟨_, rfl, tieDat (y2, y1), qs.map tieDat, .tup (SqT.of upd_same) (.cons (.str _) (.cons (.str _) .nil)), .lst (same_l s3 hb2) (dp_ties ((ht.same s02).same s3)), shaped_tie o2, shaped_ties okt, ?_⟩
                    rw [any_tie]
                    exact fin _ (s02.trans s3)
    | _ => exact iteT (no rfl H (.refl H))
end
end Pw

set_option Elab.async false
set_option linter.all false
set_option maxRecDepth 100000
set_option maxHeartbeats 4000000
namespace Pw
open PySem PySem.Spec PyProof.Rows L2 Ct
local macro_rules | `(tactic| wide_line) => `(tactic| repeat ((fail_if_success (with_reducible refine at_while ?_)); (fail_if_success (with_reducible refine at_while1 ?_)); (conv => whnf); first | ((with_reducible refine And.intro ?_ ?_); focus (first | (first | ((with_reducible show (_ : Nat) ≤ _); first | exact sz0 | exact sz1 | exact sz2 | exact sz3 | exact sz4 | exact sz5 | exact sz6 | exact sz7 | exact sz8 | exact sz10 | exact sz11 | exact sz12 | exact sz14 | omega | decide | (simp only [List.length_cons, List.length_nil]; omega)) | ((with_reducible show (_ : Int) ≤ _); first | omega | decide) | ((with_reducible show (_ : Int) < _); first | omega | decide) | ((with_reducible show (_ : Nat) < _); omega)) | ((fail_if_success (with_reducible show (_ : Nat) ≤ _)); (fail_if_success (with_reducible show (_ : Int) ≤ _)); (fail_if_success (with_reducible show (_ : Int) < _)); (fail_if_success (with_reducible show (_ : Nat) < _)); first | exact kv_str _ | exact kv_int _ | rfl | assumption | exact flat_strs _ | exact Lv.get (by assumption) 0 rfl | exact Lv.get (by assumption) 1 rfl | exact Lv.get (by assumption) 2 rfl | exact Lv.get (by assumption) 3 rfl | exact Lv.get (by assumption) 4 rfl | exact Lv.get (by assumption) 5 rfl | exact Lv.get (by assumption) 6 rfl | exact SqL.of (Lv.get (by assumption) 0 rfl) | exact SqL.of (Lv.get (by assumption) 1 rfl) | exact SqL.of (Lv.get (by assumption) 2 rfl) | exact SqL.of (Lv.get (by assumption) 3 rfl) | exact SqL.of (Lv.get (by assumption) 4 rfl) | exact SqL.of (Lv.get (by assumption) 5 rfl) | exact Or.inl (SqL.of (Lv.get (by assumption) 0 rfl)) | exact Or.inl (SqL.of (Lv.get (by assumption) 1 rfl)) | exact Or.inl (SqL.of (Lv.get (by assumption) 2 rfl)) | exact Or.inl (SqL.of (Lv.get (by assumption) 3 rfl)) | exact Or.inl (SqL.of (Lv.get (by assumption) 4 rfl)) | exact Or.inl (SqL.of (Lv.get (by assumption) 5 rfl)) | exact ⟨_, SqL.of (Lv.get (by assumption) 0 rfl)⟩ | exact ⟨_, SqL.of (Lv.get (by assumption) 1 rfl)⟩ | exact ⟨_, SqL.of (Lv.get (by assumption) 2 rfl)⟩ | exact ⟨_, SqL.of (Lv.get (by assumption) 3 rfl)⟩ | exact ⟨_, SqL.of (Lv.get (by assumption) 4 rfl)⟩ | exact ⟨_, SqL.of (Lv.get (by assumption) 5 rfl)⟩ | exact Or.inl ⟨_, SqL.of (Lv.get (by assumption) 0 rfl), rfl⟩ | exact Or.inl ⟨_, SqL.of (Lv.get (by assumption) 1 rfl), rfl⟩ | exact Or.inl ⟨_, SqL.of (Lv.get (by assumption) 2 rfl), rfl⟩ | exact Or.inl ⟨_, SqL.of (Lv.get (by assumption) 3 rfl), rfl⟩ | exact Or.inl ⟨_, SqL.of (Lv.get (by assumption) 4 rfl), rfl⟩ | exact Or.inl ⟨_, SqL.of (Lv.get (by assumption) 5 rfl), rfl⟩ | exact Or.inl ⟨rfl, _, SqL.of (Lv.get (by assumption) 0 rfl)⟩ | exact Or.inl ⟨rfl, _, SqL.of (Lv.get (by assumption) 1 rfl)⟩ | exact Or.inl ⟨rfl, _, SqL.of (Lv.get (by assumption) 2 rfl)⟩ | exact Or.inl ⟨rfl, _, SqL.of (Lv.get (by assumption) 3 rfl)⟩ | exact Or.inl ⟨rfl, _, SqL.of (Lv.get (by assumption) 4 rfl)⟩ | exact Or.inl ⟨rfl, _, SqL.of (Lv.get (by assumption) 5 rfl)⟩ | exact Or.inr (SqT.of (Lv.get (by assumption) 0 rfl)) | exact Or.inr (SqT.of (Lv.get (by assumption) 1 rfl)) | exact Or.inr (SqT.of (Lv.get (by assumption) 2 rfl)) | exact Or.inr (SqT.of (Lv.get (by assumption) 3 rfl)) | exact SqT.of (Lv.get (by assumption) 0 rfl) | exact SqT.of (Lv.get (by assumption) 1 rfl) | exact SqT.of (Lv.get (by assumption) 2 rfl) | exact dgetN (Lv.get (by assumption) 0 rfl) (by assumption) | exact dgetN (Lv.get (by assumption) 1 rfl) (by assumption) | exact dgetN (Lv.get (by assumption) 2 rfl) (by assumption) | exact dgetN (Lv.get (by assumption) 3 rfl) (by assumption) | exact dgetN (Lv.get (by assumption) 4 rfl) (by assumption) | exact Or.inl (by assumption) | exact Or.inr (by assumption) | decide | ((with_reducible show _ ∧ _); omega)))) | ((fail_if_success (with_reducible apply @Exists.intro (Nat → _))); (with_reducible apply Exists.intro))))
local macro_rules
  | `(tactic| wide_line with al $lv:ident $l:ident $nl:ident $H:ident $lv1:ident $s1:ident) => `(tactic| (intro $l:ident $nl:ident; generalize he : upd _ _ _ = $H:ident; have $lv1:ident := Lv.alE $lv $nl he; have $s1:ident := sameE $nl he; clear he; (try dsimp only at $lv1:ident)))
  | `(tactic| wide_line with alx $lv:ident $nl:ident $H:ident $lv1:ident $s1:ident) => `(tactic| (generalize he : upd _ _ _ = $H:ident; have $lv1:ident := Lv.alE $lv $nl he; have $s1:ident := sameE $nl he; clear he; (try dsimp only at $lv1:ident)))
  | `(tactic| wide_line with sts $lv:ident $i:num $H:ident $lv1:ident $s0:ident $np:ident $s1:ident) => `(tactic| (generalize he : upd _ _ _ = $H:ident; have $lv1:ident := Lv.stE $lv $i rfl he; have $s1:ident := sameN $s0 $np he; clear he; (try dsimp only at $lv1:ident)))
  | `(tactic| wide_line with stx $lv:ident $H:ident $lv1:ident $d1:ident) => `(tactic| (generalize he : upd _ _ _ = $H:ident; have $lv1:ident := Lv.stE $lv 0 rfl he; have $d1:ident := SameD.storeE (Lv.get $lv 0 rfl) he; clear he; (try dsimp only at $lv1:ident)))
  | `(tactic| wide_line with st $lv:ident $i:num $H:ident $lv1:ident) => `(tactic| (generalize he : upd _ _ _ = $H:ident; have $lv1:ident := Lv.stE $lv $i rfl he; clear he; (try dsimp only at $lv1:ident)))
  | `(tactic| wide_line with stk $lv:ident $i:num $H:ident $lv1:ident $k1:ident) => `(tactic| (generalize he : upd _ _ _ = $H:ident; have $lv1:ident := Lv.stE $lv $i rfl he; have $k1:ident := KeepT.st (Lv.get $lv $i rfl) he; clear he; (try dsimp only at $lv1:ident)))
/-! what the law asks of Web(places, ties) -/
theorem tieBad_new {ns : List Str} {qs ps : List (Str × Str)} {i : Nat} {d : PyData} {ds : List PyData} (h : ∀ k, k ∈ ps ↔ k ∈ qs.map pairP) :
    tieBad ns ps i (d :: ds) = if newTie ns qs d = true then tieBad ns ((qs ++ tiesD ns [d]).map pairP) (i + 1) ds else some i := by
  rw [tieBad]
  cases e : tieOf ns d with
  | none =>
    have : newTie ns qs d = false := by unfold newTie; rw [e]
    rw [this, if_neg Bool.false_ne_true]
  | some t =>
    dsimp only
    rw [newTie_eq e]
    by_cases c : pairP t ∈ qs.map pairP
    · rw [if_pos ((h _).mpr c), decide_eq_true c]; rfl
    · rw [if_neg (fun z => c ((h _).mp z)), decide_eq_false c]
      show _ = if true = true then _ else _
      rw [if_pos rfl]
      refine tieBad_mem _ _ _ _ _ fun k => ?_
      rw [List.map_append, List.mem_append, List.mem_cons, h k]
      have : tiesD ns [d] = [t] := by unfold tiesD; rw [List.filterMap_cons, e]; rfl
      rw [this, List.map_singleton, List.mem_singleton]
      exact Or.comm
/-- the verdict: places or ties or a tie of them at fault -/
def spDue (K : PySem.W.Frag) : Sp := fun vs H Q _ => ∃ (v tv : V) (d td : PyData), vs = [v, tv] ∧ Dq K H v d ∧ Dq K H tv td ∧ txtOk d ∧
  (placesOf d = none → ∀ r H', Same H H' → H r = none → H' r = some (.tup [.str "places", v]) → Q (.ref r) H') ∧
  ∀ ns, placesOf d = some ns → (seqD td = none → ∀ r H', Same H H' → H r = none → H' r = some (.tup [.str "ties", tv]) → Q (.ref r) H') ∧
    ∀ tds, seqD td = some tds → tds.length ≤ 4000 ∧ (∀ i, tieBad ns [] 0 tds = some i → ∀ r H', Same H H' → H r = none → H' r = some (.tup [.str "tie", .int i]) → Q (.ref r) H') ∧
      (tieBad ns [] 0 tds = none → ∀ H', Same H H' → Q .non H')
theorem tieOf_in {ns : List Str} {d : PyData} {t : Str × Str} (h : tieOf ns d = some t) : t.1 ∈ ns ∧ t.2 ∈ ns := by
  unfold tieOf at h
  split at h
  · split at h
    · split at h
      · rename_i c
        cases h
        exact ⟨c.1, c.2.1⟩
      · cases h
    · cases h
  · cases h
theorem upd_at {H H' : Hp} {p : Addr} {o : HO} (e : upd H p o = H') : H' p = some o := e ▸ upd_same
theorem names_of : ∀ {ds : List PyData}, ds.all nameD = true → ∀ n ∈ strsD ds, okName n = true
  | [], _, _, z => nomatch z
  | d :: ds, h, n, z => by
    rw [List.all_cons, Bool.and_eq_true] at h
    cases d with
    | str x =>
      rcases List.mem_cons.mp z with z | z
      · subst z; exact h.1
      · exact names_of h.2 n z
    | _ => exact names_of h.2 n z
section
variable {P : Program} {w : World} {K : PySem.W.Frag} {mg : Str → Option Value} {base : Heap}
abbrev sLawDue : Stmt := top ix_law_due
theorem scLawDue : FnScope ["places", "ties", "one", "at", "tie"] ["places", "ties"] (defScope sLawDue) := ⟨rfl, rfl, rfl, by decide +kernel, rfl, by decide +kernel, by decide +kernel⟩
theorem has_law_due (T : Bn mg) (D : DFE K mg "_law_due" sLawDue ["places", "ties"]) (h_law_is_name : Has P w K mg base CX0 1 "_law_is_name" ["thing"] (spIsName K)) (h_law_is_tie : Has P w K mg base CX0 1 "_law_is_tie" ["thing", "places", "known"] (spLawIsTie K)) : Has P w K mg base CX0 2 "_law_due" ["places", "ties"] (spDue K) := by
  refine has_of D scLawDue (fun vs H Q E h => ?_) (fun f cdv A outer s H vs Q E hr h => ?_)
  · obtain ⟨v, tv, d, td, rfl, _⟩ := h; rfl
  · obtain ⟨v, tv, d, td, rfl, hd, htd, hx, kn, ky⟩ := h
    have nd := scLawDue.nd
    refine ⟨_, (pss_cons (ps_if (PW.pt (pw_or (PW.pt (pw_and (pt_not (pt_val (pe_callB call_isD (by rfl) T.z_isinstance (by decide +kernel) (pa_cons (pv 0) (pa_cons (pe_bltn (v := .ty "list") rfl T.z_list (by decide +kernel) rfl) pa_nil))))) (pw_and1 (pt_not (pt_val (pe_callB call_isD (by rfl) T.z_isinstance (by decide +kernel) (pa_cons (pv 0) (pa_cons (pe_bltn (v := .ty "tuple") rfl T.z_tuple (by decide +kernel) rfl) pa_nil)))))))) (pw_or1 (pt_not (pt_chain op_le op_le pe_int (pe_callB call_len_seq (by rfl) T.z_len (by decide +kernel) (pa_cons (pv 0) pa_nil)) pe_int))))) (pss_one (ps_ret (pe_tup (pa_cons pe_str (pa_cons (pv 0) pa_nil))))) pss_nil)
    (pss_cons (ps_if (PW.pt (pw_or (pt_cmpR (op_neNil hr.units) (pe_lc (own := [("one", 2)]) (g := gName 2) rfl nd (pi_sq (pv 0)) (blkOk_by (own := [("one", 2)]) (N := ["places", "ties", "one", "at", "tie"]) (sc := defScope sLawDue) (by decide +kernel)) (fun _ _ _ _ _ => (pg_name (i := 2) nd rfl (by first | exact Or.inl rfl | exact Or.inr rfl))) (fun _ _ _ _ _ => (pts_one (pt_not (pt_val (pe_h h_law_is_name hr (by decide) rfl (pa_cons (pv 2) pa_nil)))))) (fun _ _ _ _ _ => (pv 2))) (pe_lst pa_nil) (by first | exact nomark _ | rfl)) (pw_or1 (pt_cmpR op_ne (pe_callB call_lenK (by rfl) T.z_len (by decide +kernel) (pa_cons (pe_callTy (call_setOf rfl) (by rfl) T.z_set (by decide +kernel) (pa_cons (pv 0) pa_nil)) pa_nil)) (pe_callB call_len_seq (by rfl) T.z_len (by decide +kernel) (pa_cons (pv 0) pa_nil)) (by first | exact nomark _ | rfl))))) (pss_one (ps_ret (pe_tup (pa_cons pe_str (pa_cons (pv 0) pa_nil))))) pss_nil)
    (pss_cons (ps_if (PW.pt (pw_and (pt_not (pt_val (pe_callB call_isD (by rfl) T.z_isinstance (by decide +kernel) (pa_cons (pv 1) (pa_cons (pe_bltn (v := .ty "list") rfl T.z_list (by decide +kernel) rfl) pa_nil))))) (pw_and1 (pt_not (pt_val (pe_callB call_isD (by rfl) T.z_isinstance (by decide +kernel) (pa_cons (pv 1) (pa_cons (pe_bltn (v := .ty "tuple") rfl T.z_tuple (by decide +kernel) rfl) pa_nil)))))))) (pss_one (ps_ret (pe_tup (pa_cons pe_str (pa_cons (pv 1) pa_nil))))) pss_nil)
    (pss_cons (ps_for PassesOwn.never rfl (pi_enumQ rfl T.z_enumerate (pa_cons (pv 1) pa_nil)) (pg_tup (n := 2) rfl (pgs_cons (pg_name (i := 3) nd rfl (by first | exact Or.inl rfl | exact Or.inr rfl)) (pgs_cons (pg_name (i := 4) nd rfl (by first | exact Or.inl rfl | exact Or.inr rfl)) pgs_nil))) (pss_one (ps_if (pt_not (pt_val (pe_h h_law_is_tie hr (by decide) rfl (pa_cons (pv 4) (pa_cons (pv 0) (pa_cons (pe_callTy call_list_of (by rfl) T.z_list (by decide +kernel) (pa_cons (pe_slice (SlR.or sl_list sl_tup) (pv 1) po_none (po_some (pv 3))) pa_nil)) pa_nil)))))) (pss_one (ps_ret (pe_tup (pa_cons pe_str (pa_cons (pv 3) pa_nil))))) pss_nil)))
    (pss_one (ps_ret pe_non)))))), ?_⟩
    have bad : placesOf d = none → ∀ H1, Same H H1 → ∀ r, H1 r = none → Q (.ref r) (upd H1 r (.tup [.str "places", v])) := fun z H1 s1 r hr =>
      kn z r _ (same_upd s1 (free_of s1 hr)) (free_of s1 hr) upd_same
    obtain ⟨b1, b2, k1, k2, kb⟩ := kit_seq d
    refine ⟨_, rfl, _, d, "list", b1, rfl, hd, k1, _, rfl, ?_⟩
    cases e : seqD d with
    | none =>
      have z : placesOf d = none := by unfold placesOf; rw [e]
      rw [e] at kb
      obtain ⟨rfl, rfl⟩ : b1 = false ∧ b2 = false := by cases b1 <;> cases b2 <;> first | exact ⟨rfl, rfl⟩ | exact absurd kb (by decide)
      refine iteT ⟨_, rfl, _, d, "tuple", false, rfl, hd, k2, _, rfl, iteT (iteT ⟨_, rfl, sz2, fun r hr => bad z H (.refl H) r hr⟩)⟩
    | some ds =>
      have out : ¬ (1 ≤ ds.length ∧ ds.length ≤ 12) → placesOf d = none := fun z => by
        unfold placesOf
        rw [e]
        exact if_neg fun y => z y.1
      obtain ⟨a, xs, rfl, hs, ha, hl⟩ := seq_of hd e
      obtain ⟨lx, tx⟩ := hx ds e
      rw [e] at kb
      have go : (b1 = true) ∨ (b1 = false ∧ b2 = true) := by cases b1 <;> cases b2 <;> simp at kb ⊢
      rcases go with rfl | ⟨rfl, rfl⟩
      all_goals first
        | refine iteT ⟨_, rfl, _, d, "tuple", true, rfl, hd, k2, _, rfl, iteF ?_⟩
        | refine iteF ?_
      all_goals
        refine ⟨_, rfl, a, xs, rfl, hs, _, _, rfl, rfl, _, rfl, ?_⟩
        refine ite2 (fun c1 => ?_) (fun c1 => ?_)
        · have c1 := of_decide_eq_true c1
          refine ⟨_, _, rfl, rfl, _, rfl, ?_⟩
          by_cases c2 : xs.length ≤ 12
          · rw [decide_eq_true (show ((xs.length : Nat) : Int) ≤ 12 by omega)]
            refine iteF ?_
            refine ⟨_, rfl, a, xs, rfl, hs, fun J G ex hG wk L nL => ?_⟩
            have lv0 := Lv.zero H
            refine lc_it wk (fun i H2 => Hold (∃ ys, Lv H [] H2 [(L, .lst ys)] ∧ ys.length ≤ i ∧ ys.isEmpty = (ds.take i).all nameD)) ⟨[], lv0.al nL, Nat.le_refl _, rfl⟩ (fun i H2 _ ⟨_, p, _⟩ => hG H2 (.same p.sm)) ?_ ?_
            · rintro i x H2 H3 hi ⟨ys, lv, ly, ee⟩ ⟨rfl, hxi⟩
              obtain ⟨dx, hdx, hqx⟩ := dqAll_at ha hxi
              have tk : ds.take (i + 1) = ds.take i ++ [dx] := by rw [List.take_succ, hdx]; rfl
              refine ⟨rfl, _, rfl, x, dx, rfl, Dq.same lv.sm hqx, fun z hz => tx z (hz ▸ List.mem_of_getElem? hdx), fun H4 s4 => ?_⟩
              have lv4 := Lv.same lv s4
              have hn : nameD dx = false → Hold (∃ zs, Lv H [] (upd H4 L (.lst (ys ++ [x]))) [(L, .lst zs)] ∧ zs.length ≤ i + 1 ∧ zs.isEmpty = (ds.take (i + 1)).all nameD) := fun z =>
                ⟨ys ++ [x], Lv.stE lv4 0 rfl rfl, by rw [List.length_append, List.length_singleton]; omega, by rw [tk, List.all_append, List.all_cons, z]; simp⟩
              have hl4 : ys.length < sizeLine := by
                have := (List.getElem?_eq_some_iff.mp hdx).1
                rw [sizeLine_eq]; omega
              cases nm : nameD dx with
              | false => exact ⟨_, rfl, iteT ⟨_, rfl, _, lv4.get 0 rfl, hl4, hn nm⟩⟩
              | true => exact ⟨_, rfl, iteF ⟨ys, lv4, by omega, by rw [tk, List.all_append, ← ee, List.all_cons, nm]; simp⟩⟩
            · rintro H2 ⟨ys, lv, _, ee⟩
              refine ⟨by decide, fun l2 n2 => ?_⟩
              wide_line with alx lv n2 H3 lv3 s3
              have s03 : Same H H3 := lv3.sm
              refine ⟨_, _, _, rfl, rfl, SqL.of (lv3.get 1 rfl), SqL.of (lv3.get 0 rfl), ?_⟩
              rw [show (if true = true then !ys.isEmpty else ys.isEmpty) = !ys.isEmpty from rfl, ee, hl, List.take_length]
              cases al : ds.all nameD with
              | false =>
                refine ⟨_, rfl, iteT (iteT ⟨_, rfl, sz2, fun x hx => bad ?_ _ s03 x hx⟩)⟩
                unfold placesOf
                rw [e]
                exact if_neg fun z => Bool.noConfusion (al.symm.trans z.2.1)
              | true =>
                obtain ⟨exs, en⟩ := strs_of ha al
                subst exs
                have hs3 := hs.same s03
                refine ⟨_, rfl, iteF ⟨_, rfl, a, (strsD ds).map Sum.inr, rfl, by rw [map_kv]; exact hs3, by rw [List.length_map]; exact Nat.lt_of_le_of_lt (Nat.le_trans (Nat.le_of_eq (List.length_map _).symm) c2) (by decide), fun p hp => ?_⟩⟩
                have u := same_new (o := SetK P w p (fun k => ((strsD ds).map Sum.inr : List Key).any (fun j => decide (j = k))) (cnt ((strsD ds).map Sum.inr) ((strsD ds).map (Sum.inr : Str → Key)).length)) hp
                refine ⟨p, _, _, rfl, upd_same, _, rfl, a, (strsD ds).map V.str, rfl, SqS.same u hs3, rfl, ?_⟩
                clear u
                generalize he : upd H3 p _ = H4
                have s34 : Same H3 H4 := sameE hp he
                have s04 := s03.trans s34
                have ev : decide (V.int (cnt ((strsD ds).map (Sum.inr : Str → Key)) ((strsD ds).map (Sum.inr : Str → Key)).length : Nat) = V.int (((strsD ds).map V.str).length : Nat)) = decide (strsD ds).Nodup := by
                  have z := cnt_eq ((strsD ds).map (Sum.inr : Str → Key)) _ (Nat.le_refl _)
                  rw [List.take_length, nodup_inr] at z
                  refine decide_eq_decide.mpr (Iff.trans ?_ z)
                  rw [List.length_map, List.length_map]
                  exact ⟨fun q => by have := V.int.inj q; omega, fun q => by rw [q]⟩
                rw [ev]
                by_cases dif : (strsD ds).Nodup
                · rw [decide_eq_true dif]
                  have pl : placesOf d = some (strsD ds) := by
                    unfold placesOf
                    rw [e]
                    exact if_pos ⟨⟨by omega, by omega⟩, al, dif⟩
                  obtain ⟨ky0, ky1⟩ := ky _ pl
                  obtain ⟨p1, p2, k3, k4, kb2⟩ := kit_seq td
                  have htd4 := htd.same s04
                  refine ⟨_, rfl, iteF ⟨_, rfl, tv, td, "list", p1, rfl, htd4, k3, _, rfl, ?_⟩⟩
                  cases e2 : seqD td with
                  | none =>
                    rw [e2] at kb2
                    obtain ⟨rfl, rfl⟩ : p1 = false ∧ p2 = false := by cases p1 <;> cases p2 <;> first | exact ⟨rfl, rfl⟩ | exact absurd kb2 (by decide)
                    exact iteT ⟨_, rfl, _, td, "tuple", false, rfl, htd4, k4, _, rfl, iteT ⟨_, rfl, sz2, fun r hr => ky0 e2 r _ (same_upd s04 (free_of s04 hr)) (free_of s04 hr) upd_same⟩⟩
                  | some tds =>
                    obtain ⟨few, kbad, kgood⟩ := ky1 tds e2
                    obtain ⟨va, vx, rfl, hv, hda, hlv⟩ := seq_of htd e2
                    rw [e2] at kb2
                    have go : (p1 = true) ∨ (p1 = false ∧ p2 = true) := by cases p1 <;> cases p2 <;> simp at kb2 ⊢
                    rcases go with rfl | ⟨rfl, rfl⟩
                    all_goals first
                      | refine iteT ⟨_, rfl, _, td, "tuple", true, rfl, htd4, k4, _, rfl, iteF ?_⟩
                      | refine iteF ?_
                    all_goals
                      refine ⟨_, rfl, va, vx, rfl, hv.same s04, fun J2 G2 ex2 hG2 wk2 => ?_⟩
                      refine for_it wk2 (fun i σ H5 => Hold (Same H H5 ∧ (∃ q r, σ = [some (.ref a), some (.ref va), none, q, r]) ∧ ∃ qs, TiesAt K H5 (vx.take i) qs ∧ (∀ t ∈ qs, okTie t) ∧ tieBad (strsD ds) [] 0 tds = tieBad (strsD ds) (qs.map pairP) i (tds.drop i))) ?_ ?_ ?_ ?_
                      · exact ⟨s04, ⟨_, _, rfl⟩, [], .nil, fun _ z => (nomatch z), rfl⟩
                      · exact fun i σ3 H5 _ ⟨p, _⟩ => hG2 H5 (.of hv s04 p ex2)
                      · rintro i x σ3 H5 H6 hi ⟨s5, ⟨q, r, rfl⟩, qs, tat, okq, eb⟩ ⟨T, x1, x2, rfl, hT, rfl, ex1, ex3⟩
                        cases ex1
                        obtain ⟨dx, hdx, hqx⟩ := dqAll_at hda ex3
                        have ed : tds.drop i = dx :: tds.drop (i + 1) := by
                          obtain ⟨hi', e'⟩ := List.getElem?_eq_some_iff.mp hdx
                          rw [← e']
                          exact List.drop_eq_getElem_cons hi'
                        have s6 := same_upd (o := .tup [.int (i : Nat), x2]) s5 (free_of s5 hT)
                        have tat6 := tat.same (same_new (o := .tup [.int (i : Nat), x2]) hT)
                        have hup : upd H5 T (.tup [.int (i : Nat), x2]) T = some (.tup [.int (i : Nat), x2]) := upd_same
                        generalize upd H5 T (.tup [.int (i : Nat), x2]) = H6 at s6 tat6 hup ⊢
                        refine ⟨T, _, rfl, SqT.of hup, rfl, _, _, rfl, _, _, rfl, rfl, ?_⟩
                        have hv6 := hv.same s6
                        have ex3 : vx[i]? = some x2 := ex3
                        have okn : ∀ n ∈ strsD ds, okName n = true := names_of al
                        have tk : vx.take (i + 1) = vx.take i ++ [x2] := by rw [List.take_succ, ex3]; rfl
                        have nt := tieBad_new (ns := strsD ds) (qs := qs) (ps := qs.map pairP) (i := i) (d := dx) (ds := tds.drop (i + 1)) fun _ => Iff.rfl
                        have il : i < vx.length := (List.getElem?_eq_some_iff.mp ex3).1
                        refine ⟨_, rfl, _, rfl, _, rfl, _, rfl, _, rfl, ?_⟩
                        rcases hv6 with hv6 | hv6
                        all_goals first
                          | refine Or.inl ⟨va, vx, rfl, hv6, fun p np => ?_⟩
                          | refine Or.inr ⟨va, vx, rfl, hv6, (by rw [HT.sIx_none, HT.sIx_nat]; omega), fun p np => ?_⟩
                        all_goals
                          rw [cut_take vx i]
                          generalize he : upd H6 p _ = H7
                          have s67 : Same H6 H7 := sameE np he
                          have s7 := s6.trans s67
                          have hp7 := upd_at he
                          clear he
                          first
                            | refine ⟨p, _, rfl, .inl (SqL.of hp7), fun l nl => ?_⟩
                            | refine ⟨p, _, rfl, .inr (SqT.of hp7), fun l nl => ?_⟩
                          generalize he : upd H7 l _ = H8
                          have s78 : Same H7 H8 := sameE nl he
                          have s8 := s7.trans s78
                          have hl8 := upd_at he
                          clear he
                          refine ⟨x2, a, l, dx, strsD ds, _, qs, rfl, hqx.same s8, hs.same s8, SqL.of hl8, (tat6.same s67).same s78, okn, okq, fun H9 s9 => ⟨_, rfl, ?_⟩⟩
                          have s09 := s8.trans s9
                          cases ent : newTie (strsD ds) qs dx with
                          | false =>
                            rw [ent, if_neg Bool.false_ne_true] at nt
                            refine iteT ⟨_, rfl, sz2, fun r hr => kbad i ?_ r _ (same_upd s09 (free_of s09 hr)) (free_of s09 hr) upd_same⟩
                            rw [eb, ed, nt]
                          | true =>
                            rw [ent, if_pos rfl] at nt
                            refine iteF ⟨s09, ⟨_, _, rfl⟩, qs ++ tiesD (strsD ds) [dx], ?_, ?_, by rw [eb, ed, nt]⟩
                            · rw [tk]
                              obtain ⟨t, et⟩ : ∃ t, tieOf (strsD ds) dx = some t := by
                                unfold newTie at ent
                                cases z : tieOf (strsD ds) dx with
                                | none => rw [z] at ent; exact Bool.noConfusion (show false = true from ent)
                                | some t => exact ⟨t, rfl⟩
                              obtain ⟨b, ex, hb⟩ := tie_tup (hqx.same s09) et
                              have e1 : tiesD (strsD ds) [dx] = [t] := by unfold tiesD; rw [List.filterMap_cons, et]; rfl
                              rw [e1]
                              exact paired_app (((tat6.same s67).same s78).same s9) (.cons ⟨b, ex, hb⟩ .nil)
                            · intro t ht
                              rcases List.mem_append.mp ht with z | z
                              · exact okq t z
                              · obtain ⟨d9, h9, e9⟩ := List.mem_filterMap.mp z
                                cases List.mem_singleton.mp h9
                                obtain ⟨m1, m2⟩ := tieOf_in e9
                                exact ⟨okn _ m1, okn _ m2⟩
                      · rintro σ3 H5 ⟨s5, ⟨q, r, rfl⟩, qs, tat, okq, eb⟩
                        refine kgood ?_ H5 s5
                        rw [eb, List.drop_eq_nil_of_le (by omega)]
                        rfl
                · rw [decide_eq_false dif]
                  refine ⟨_, rfl, iteT ⟨_, rfl, sz2, fun x hx => bad ?_ _ s04 x hx⟩⟩
                  unfold placesOf
                  rw [e]
                  exact if_neg fun z => dif z.2.2
          · rw [decide_eq_false (show ¬ ((xs.length : Nat) : Int) ≤ 12 by omega)]
            exact iteT ⟨_, rfl, sz2, fun x hx => bad (out (by omega)) _ (.refl H) x hx⟩
        · have c1 : ¬ (1 : Int) ≤ ((xs.length : Nat) : Int) := fun z => c1 (decide_eq_true z)
          exact ⟨_, rfl, iteT ⟨_, rfl, sz2, fun x hx => bad (out (by omega)) _ (.refl H) x hx⟩⟩
end
end Pw

set_option Elab.async false
set_option linter.all false
set_option maxRecDepth 100000
set_option maxHeartbeats 4000000
/-! try with several clauses that give the exception a name. -/
namespace Ct
open PySem PySem.Spec PyProof.Rows L2
/-- what a suite's end is behind the name's removal -/
def endsGone (i : Nat) (D : Ends) : Ends := { nx := fun τ G => D.nx (τ.set i none) G, rt := D.rt, bk := fun τ G => D.bk (τ.set i none) G, ct := fun τ G => D.ct (τ.set i none) G }
abbrev Clause := Value × Nat × (Addr → Value → Option Addr → TS)
/-- what the clauses wish, one after the other -/
def wNamed (K : PySem.W.Frag) (Wout : WX) (D : Ends) : List Clause → WX
  | [] => Wout
  | q :: r => fun k d τ G => ∃ yes, PySem.W.exmOne K k q.1 = some yes ∧ (yes = true → ∀ a, G a = none → q.2.2 a k d (endsGone q.2.1 D) (τ.set q.2.1 (some (.ref a))) G) ∧ (yes = false → wNamed K Wout D r k d τ G)
inductive Clauses (X : Cx) : List ExceptHandler → List Clause → Prop
  | nil : Clauses X [] []
  | cons {n x : Str} {c : Value} {i : Nat} {t : Addr → Value → Option Addr → TS} {b : Stmt} {bs : List Stmt} {p1 p2 : Pos} {hds : List ExceptHandler} {l : List Clause} (nm : Names X x c) (at_ : X.N[i]? = some n) (lo : X.env.kindOf n = some .local)
      (su : ∀ (a : Addr) (o : Obj) (k : Value) (d : Option Addr) (pn : List (Addr × Obj)), Zc k d o → (∃ vs, o.data = .fields vs) → PSs (X.suite a ((a, o) :: pn)) (b :: bs) (t a k d)) (r : Clauses X hds l) :
      Clauses X (.ExceptHandler (some (.Name x p1)) (some n) (b :: bs) p2 :: hds) ((c, i, t) :: l)
/-- an exception that has been noted and looked at -/
structure Air (X : Cx) (pins : List (Addr × Obj)) (B : Heap) (s0 s1 : Shared) (τ : L2.St) (G : Hp) (k : Value) (d : Option Addr) (a : Addr) (h : Heap) : Prop where
  inv : Inv X pins τ G s0
  keep : ∀ b o, s0.heap.get? b = some o → b ∉ frs X.stack → B.get? b = some o
  fly : HandSPX.FlyingZ B (X.env :: X.outer) a (Zc k d) h
  up : s0.heap.UpToSlots h
  os : s1.os = s0.os
  bare : AllBare s1.gens
  free : G a = none
  notL : a ≠ X.env.locals
  notF : a ∉ X.fs
section
variable {X : Cx} {pins : List (Addr × Obj)} {B : Heap} {s0 s1 : Shared} {τ : L2.St} {G : Hp} {k : Value} {d : Option Addr} {a : Addr} {h : Heap}
theorem Air.now (A : Air X pins B s0 s1 τ G k d a h) : Inv X pins τ G { s1 with heap := h } := A.inv.landed (s' := { s1 with heap := h }) A.keep A.fly.1 A.up A.os A.bare
theorem Air.within (A : Air X pins B s0 s1 τ G k d a h) : ∃ o, h.get? a = some o ∧ Zc k d o ∧ (∃ vs, o.data = .fields vs) ∧ Inv (X.suite a ((a, o) :: (X.pn ++ pins))) [] τ G { s1 with heap := h } := by
  obtain ⟨o, vs, e1, e2, e3⟩ := A.fly.there
  exact ⟨o, e1, e2, ⟨vs, e3⟩, A.now.suite e1 e3 A.free A.notL A.notF⟩
theorem Air.move (A : Air X pins B s0 s1 τ G k d a h) {h' : Heap} (f : HandSPX.FlyingZ B (X.env :: X.outer) a (Zc k d) h') (u : h.UpToSlots h') : Air X pins B s0 s1 τ G k d a h' :=
  ⟨A.inv, A.keep, f, A.up.trans u, A.os, A.bare, A.free, A.notL, A.notF⟩
/-- the clause's question -/
theorem Air.asks (A : Air X pins B s0 s1 τ G k d a h) {x : Str} {c : Value} {p : Pos} {yes : Bool} (nm : Names X x c) (e : PySem.W.exmOne X.K k c = some yes) {R : Bool → Shared → Prop} {E : Value → Shared → Prop} (r : R yes { s1 with heap := h }) :
    wpAny (model X.prog X.w) (X.A.mark (some (.ref a))) (eval (.Name x p) X.env) (fun v s => wpAny (model X.prog X.w) (X.A.mark (some (.ref a))) (excMatches (.ref a) v) R E s) E { s1 with heap := h } := by
  obtain ⟨o, e1, e2, _, S⟩ := A.within
  have L : PySem.W.Looks (model X.prog X.w) h (typeOf (.ref a)) k := fun _ _ _ _ z g => wpAny_typeOf_ref (z _ _ e1) (by rw [e2.1]; exact g)
  have M := PySem.W.exm_one (M := model X.prog X.w) A.now.kIn L e
  obtain ⟨g1, g2, g3 | ⟨g3, g4, g5⟩⟩ := nm
  · exact ld_glob (X := X.suite a ((a, o) :: (X.pn ++ pins))) S g1 g3 (M.here r) g2
  · exact ld_blt (X := X.suite a ((a, o) :: (X.pn ++ pins))) S g1 g3 g4 (M.here r) g5 g2
/-- no clause is left: it goes on -/
theorem Air.goesOn (A : Air X pins B s0 s1 τ G k d a h) (hs : X.stack = X.env :: X.outer) (hf : X.env.frame = some X.env.locals) {W : WX} (tk : Takes X W) {D : Ends} (w : W k d τ G) :
    wpAny (model X.prog X.w) X.A (handleBy (.ref a) X.env []) (SP X pins D) X.xe { s1 with heap := h } := by
  refine wpAny_handleBy_nil ?_
  obtain ⟨_, _, _, o, vs, tb, _, _, e1, _, e3, e4, _⟩ := id A.fly
  have last : wpAny (model X.prog X.w) X.A (setFlight (.ref a) X.env.frame) (fun _ s => wpAny (model X.prog X.w) X.A (throw (.ref a) : Sem Flow) (SP X pins D) X.xe s) X.xe { s1 with heap := h } := by
    rw [hf]
    exact HandSPX.setFlight_upZ A.fly fun h4 f4 u4 => wpAny_throw (tk _ _ ⟨a, B, s0, pins, τ, G, k, d, rfl, A.inv, A.keep, A.up.trans u4, .inr (.inr (by rw [hs]; exact f4)), A.free, A.os, A.bare, w⟩)
  unfold PySem.passOn
  refine wpAny_bind (wpAny_field e1 e3 e4 ?_)
  rw [if_neg (fun z => nomatch (eq_of_beq z : Value.ref tb = Value.none))]
  first
    | exact wpAny_bind (wpAny_pure (wpAny_bind last))
    | exact wpAny_bind last
theorem Air.handled (hs : X.stack = X.env :: X.outer) (hf : X.env.frame = some X.env.locals) (nd : X.N.Nodup) {W : WX} (tk : Takes X W) {D : Ends} : ∀ {hds : List ExceptHandler} {l : List Clause}, Clauses X hds l → Air X pins B s0 s1 τ G k d a h → wNamed X.K W D l k d τ G →
    wpAny (model X.prog X.w) X.A (handleBy (.ref a) X.env hds) (SP X pins D) X.xe { s1 with heap := h } := by
  intro hds l cl A
  induction cl with
  | nil => exact fun w => A.goesOn hs hf tk w
  | @cons n x c i t b bs p1 p2 hds l nm at_ lo su r ih =>
    rintro ⟨yes, e, wy, wn⟩
    refine wpAny_handleBy_cons (codeAny_handlers_test (A.asks nm e ?_)) (fun z => nomatch z)
    cases yes with
    | false => exact ih (wn rfl)
    | true =>
      refine codeAny_handlers_suite_as (HandSPX.lands_againZ A.fly fun h4 f4 u4 => ?_)
      have A4 := A.move f4 u4
      obtain ⟨o, e1, e2, e3, S⟩ := A4.within
      refine store_ok (X := X.suite a ((a, o) :: (X.pn ++ pins))) (v := .ref a) S nd at_ (.inl lo) rfl (fun s5 S5 => ?_) (.inr lo)
      refine wpAny_mono ((su a o k d (X.pn ++ pins) e2 e3).run [] s5 _ G _ S5 (wy rfl a A.free)) (fun f s6 z => ?_) (fun _ _ z => z.elim)
      have gone : ∀ {τ6 : L2.St} {G6 : Hp} {R : Shared → Prop}, Inv (X.suite a ((a, o) :: (X.pn ++ pins))) [] τ6 G6 s6 → (∀ s7, Inv X pins (τ6.set i none) G6 s7 → R s7) → wpAny (model X.prog X.w) X.A (do bindName X.env n .none; unbindBehindTheSuite X.env n p2) (fun _ s7 => R s7) X.xe s6 :=
        fun {τ6 G6 R} I6 z => gone_ok (I6.unsuite A.inv.ok) nd at_ lo z
      cases f with
      | ret u => obtain ⟨v6, τ6, G6, I6, r6, z6⟩ := z; exact gone I6 fun s7 J7 => ⟨_, _, _, J7, r6, z6⟩
      | next => obtain ⟨τ6, G6, I6, z6⟩ := z; exact gone I6 fun s7 J7 => ⟨_, _, J7, z6⟩
      | brk => obtain ⟨τ6, G6, I6, z6⟩ := z; exact gone I6 fun s7 J7 => ⟨_, _, J7, z6⟩
      | cont => obtain ⟨τ6, G6, I6, z6⟩ := z; exact gone I6 fun s7 J7 => ⟨_, _, J7, z6⟩
end
section
variable {X : Cx} {body : List Stmt} {hd : ExceptHandler} {hds : List ExceptHandler} {l : List Clause} {pos : Pos} {tb : WX → TS} {Wout : WX}
/-- try: body / except A as n: .. / except B as n: .. -/
theorem ps_try_named (hs : X.stack = X.env :: X.outer) (hf : X.env.frame = some X.env.locals) (nd : X.N.Nodup) (tk : Takes X Wout) (cl : Clauses X (hd :: hds) l)
    (hb : ∀ (W : WX) (pn : List (Addr × Obj)) (xe : Value → Shared → Prop), Takes (X.tr pn xe) W → PassesOwn (model X.prog X.w) X.A X.env xe → PSs (X.tr pn xe) body (tb W)) : PS X (.Try body (hd :: hds) [] [] pos) (fun D σ H => tb (wNamed X.K Wout D l) D σ H) := by
  refine ⟨fun pins s σ H D I q => wpAny_Try_except ?_⟩
  have ok := I.ok
  refine wpAny_mono ((hb (wNamed X.K Wout D l) (X.pn ++ pins) (fun u z => wpAny (model X.prog X.w) X.A (noteFrame u X.env) (fun _ z => wpAny (model X.prog X.w) X.A (setFlight u none) (fun _ z =>
    wpAny (model X.prog X.w) X.A (handleBy u X.env (hd :: hds)) (SP X pins D) X.xe z) X.xe z) X.xe z) (fun u s2 xx => ?_) PassesOwn.looking).run [] s σ H D (I.toTry _) q) (fun f s2 z => ?_) (fun _ _ z => z)
  · obtain ⟨a, B, s0, _, τ, G, k, d, rfl, J, keep, up, sky, free, os, bare, w⟩ := xx
    have frames : X.A.frames = some (X.env :: X.outer) := by rw [ok.frames, hs]
    refine Sky.land (env := X.env) (outer := X.outer) Zc.steady frames hf (hs ▸ sky) fun h3 f3 u3 => ?_
    obtain ⟨o, vs, e1, _, e3⟩ := f3.there
    have nf : a ∉ frs (X.env :: X.outer) := fun m => by
      obtain ⟨_, o', e', n'⟩ := f3.2.2.1.mem m
      cases e1.symm.trans e'
      exact n' _ e3
    refine Air.handled hs hf nd tk cl ⟨J.ofTry ok, keep, f3, up.trans u3, os, bare, free, fun z => ?_, fun m => ?_⟩ w
    · exact nf (List.mem_filterMap.mpr ⟨X.env, List.mem_cons_self, by rw [hf, z]⟩)
    · obtain ⟨e, m1, m2⟩ := List.mem_filterMap.mp m
      exact nf (List.mem_filterMap.mpr ⟨e, List.mem_cons_of_mem _ m1, m2⟩)
  · cases f with
    | ret u => obtain ⟨v, τ, G, J, r, z⟩ := z; exact ⟨v, τ, G, J.ofTry ok, r, z⟩
    | next => obtain ⟨τ, G, J, z⟩ := z; exact wpAny_execs_nil ⟨τ, G, J.ofTry ok, z⟩
    | brk => obtain ⟨τ, G, J, z⟩ := z; exact ⟨τ, G, J.ofTry ok, z⟩
    | cont => obtain ⟨τ, G, J, z⟩ := z; exact ⟨τ, G, J.ofTry ok, z⟩
end
end Ct
namespace Ct
open PySem PySem.Spec PyProof.Rows L2
section
variable {X : Cx}
/-- error.n of the exception that the clause has named -/
def tCaught (K : PySem.W.Frag) (a : Addr) (k : Value) (d : Option Addr) (n : Str) (te : TE) : TE := fun σ H Q => te σ H fun x G => x = .ref a ∧ ∃ (C dd : Addr) (fs : List (Str × V)) (v : V), k = .ref C ∧ d = some dd ∧ G dd = some (.xd fs) ∧ ExcC K C ∧ PySem.W.findIn K (.ref C) n = some none ∧ fs.lookup n = some v ∧ Q v G
theorem pe_caught {a : Addr} {o : Obj} {k : Value} {d : Option Addr} {pn : List (Addr × Obj)} {e : Expr} {te : TE} {n : Str} {pos : Pos} {K : PySem.W.Frag} (hK : X.K = K) (hz : Zc k d o) (hf : ∃ vs, o.data = .fields vs) (he : PE (X.suite a ((a, o) :: pn)) e te)
    (hb : attributeBase e n X.env (eval e X.env) = eval e X.env := by rfl) : PE (X.suite a ((a, o) :: pn)) (.Attribute e n pos) (tCaught K a k d n te) := by
  subst hK
  refine ⟨fun pins s σ H Q I h => attr_of hb (thn (he.run pins s σ H _ I h) fun u s1 hh => ?_)⟩
  obtain ⟨x, G, J, rx, ex, C, dd, fs, v, ec, ed, ea, T, no, l, q⟩ := hh
  subst ex ec ed
  cases (show u = Value.ref a from rx)
  obtain ⟨here, _⟩ := J.pin (a, o) (List.mem_append_left _ List.mem_cons_self)
  obtain ⟨vs, dat⟩ := hf
  obtain ⟨mA, ns, rl⟩ : ObjOk X.prog X.w G s1.heap dd (.xd fs) := J.hok dd _ ea
  obtain ⟨od, hod, lk⟩ := lookIn_ns ns
  obtain ⟨u, hu, ru⟩ := RelO.some_of (v := v) (o := mA n) (by rw [← l]; exact rl n)
  have inst : PySem.W.InstAt s1.heap a o C (some od) := ⟨here, hz.1, by unfold PySem.W.notCls; rw [dat] <;> rfl, by rw [hz.2]; exact hod⟩
  exact PySem.HandSPX.exc_get J.kIn inst T.hg T.hk T.hs (PySem.W.findObj_own T.hd no rfl (by rw [lk, hu])) (handed_of ru) ⟨v, G, J.tok _, ru, q⟩
end
end Ct

set_option Elab.async false
set_option linter.all false
set_option maxRecDepth 100000
set_option maxHeartbeats 4000000
namespace Pw
open PySem PySem.Spec PyProof.Rows L2 Ct
local macro_rules | `(tactic| wide_line) => `(tactic| repeat ((fail_if_success (with_reducible refine at_while ?_)); (fail_if_success (with_reducible refine at_while1 ?_)); (conv => whnf); first | ((with_reducible refine And.intro ?_ ?_); focus (first | (first | ((with_reducible show (_ : Nat) ≤ _); first | exact sz0 | exact sz1 | exact sz2 | exact sz3 | exact sz4 | exact sz5 | exact sz6 | exact sz7 | exact sz8 | exact sz10 | exact sz11 | exact sz12 | exact sz14 | omega | decide | (simp only [List.length_cons, List.length_nil]; omega)) | ((with_reducible show (_ : Int) ≤ _); first | omega | decide) | ((with_reducible show (_ : Int) < _); first | omega | decide) | ((with_reducible show (_ : Nat) < _); omega)) | ((fail_if_success (with_reducible show (_ : Nat) ≤ _)); (fail_if_success (with_reducible show (_ : Int) ≤ _)); (fail_if_success (with_reducible show (_ : Int) < _)); (fail_if_success (with_reducible show (_ : Nat) < _)); first | exact kv_str _ | exact kv_int _ | rfl | assumption | exact flat_strs _ | exact Lv.get (by assumption) 0 rfl | exact Lv.get (by assumption) 1 rfl | exact Lv.get (by assumption) 2 rfl | exact Lv.get (by assumption) 3 rfl | exact Lv.get (by assumption) 4 rfl | exact Lv.get (by assumption) 5 rfl | exact Lv.get (by assumption) 6 rfl | exact SqL.of (Lv.get (by assumption) 0 rfl) | exact SqL.of (Lv.get (by assumption) 1 rfl) | exact SqL.of (Lv.get (by assumption) 2 rfl) | exact SqL.of (Lv.get (by assumption) 3 rfl) | exact SqL.of (Lv.get (by assumption) 4 rfl) | exact SqL.of (Lv.get (by assumption) 5 rfl) | exact Or.inl (SqL.of (Lv.get (by assumption) 0 rfl)) | exact Or.inl (SqL.of (Lv.get (by assumption) 1 rfl)) | exact Or.inl (SqL.of (Lv.get (by assumption) 2 rfl)) | exact Or.inl (SqL.of (Lv.get (by assumption) 3 rfl)) | exact Or.inl (SqL.of (Lv.get (by assumption) 4 rfl)) | exact Or.inl (SqL.of (Lv.get (by assumption) 5 rfl)) | exact ⟨_, SqL.of (Lv.get (by assumption) 0 rfl)⟩ | exact ⟨_, SqL.of (Lv.get (by assumption) 1 rfl)⟩ | exact ⟨_, SqL.of (Lv.get (by assumption) 2 rfl)⟩ | exact ⟨_, SqL.of (Lv.get (by assumption) 3 rfl)⟩ | exact ⟨_, SqL.of (Lv.get (by assumption) 4 rfl)⟩ | exact ⟨_, SqL.of (Lv.get (by assumption) 5 rfl)⟩ | exact Or.inl ⟨_, SqL.of (Lv.get (by assumption) 0 rfl), rfl⟩ | exact Or.inl ⟨_, SqL.of (Lv.get (by assumption) 1 rfl), rfl⟩ | exact Or.inl ⟨_, SqL.of (Lv.get (by assumption) 2 rfl), rfl⟩ | exact Or.inl ⟨_, SqL.of (Lv.get (by assumption) 3 rfl), rfl⟩ | exact Or.inl ⟨_, SqL.of (Lv.get (by assumption) 4 rfl), rfl⟩ | exact Or.inl ⟨_, SqL.of (Lv.get (by assumption) 5 rfl), rfl⟩ | exact Or.inl ⟨rfl, _, SqL.of (Lv.get (by assumption) 0 rfl)⟩ | exact Or.inl ⟨rfl, _, SqL.of (Lv.get (by assumption) 1 rfl)⟩ | exact Or.inl ⟨rfl, _, SqL.of (Lv.get (by assumption) 2 rfl)⟩ | exact Or.inl ⟨rfl, _, SqL.of (Lv.get (by assumption) 3 rfl)⟩ | exact Or.inl ⟨rfl, _, SqL.of (Lv.get (by assumption) 4 rfl)⟩ | exact Or.inl ⟨rfl, _, SqL.of (Lv.get (by assumption) 5 rfl)⟩ | exact Or.inr (SqT.of (Lv.get (by assumption) 0 rfl)) | exact Or.inr (SqT.of (Lv.get (by assumption) 1 rfl)) | exact Or.inr (SqT.of (Lv.get (by assumption) 2 rfl)) | exact Or.inr (SqT.of (Lv.get (by assumption) 3 rfl)) | exact SqT.of (Lv.get (by assumption) 0 rfl) | exact SqT.of (Lv.get (by assumption) 1 rfl) | exact SqT.of (Lv.get (by assumption) 2 rfl) | exact dgetN (Lv.get (by assumption) 0 rfl) (by assumption) | exact dgetN (Lv.get (by assumption) 1 rfl) (by assumption) | exact dgetN (Lv.get (by assumption) 2 rfl) (by assumption) | exact dgetN (Lv.get (by assumption) 3 rfl) (by assumption) | exact dgetN (Lv.get (by assumption) 4 rfl) (by assumption) | exact Or.inl (by assumption) | exact Or.inr (by assumption) | decide | ((with_reducible show _ ∧ _); omega)))) | ((fail_if_success (with_reducible apply @Exists.intro (Nat → _))); (with_reducible apply Exists.intro))))
local macro_rules
  | `(tactic| wide_line with al $lv:ident $l:ident $nl:ident $H:ident $lv1:ident $s1:ident) => `(tactic| (intro $l:ident $nl:ident; generalize he : upd _ _ _ = $H:ident; have $lv1:ident := Lv.alE $lv $nl he; have $s1:ident := sameE $nl he; clear he; (try dsimp only at $lv1:ident)))
  | `(tactic| wide_line with alx $lv:ident $nl:ident $H:ident $lv1:ident $s1:ident) => `(tactic| (generalize he : upd _ _ _ = $H:ident; have $lv1:ident := Lv.alE $lv $nl he; have $s1:ident := sameE $nl he; clear he; (try dsimp only at $lv1:ident)))
  | `(tactic| wide_line with sts $lv:ident $i:num $H:ident $lv1:ident $s0:ident $np:ident $s1:ident) => `(tactic| (generalize he : upd _ _ _ = $H:ident; have $lv1:ident := Lv.stE $lv $i rfl he; have $s1:ident := sameN $s0 $np he; clear he; (try dsimp only at $lv1:ident)))
  | `(tactic| wide_line with stx $lv:ident $H:ident $lv1:ident $d1:ident) => `(tactic| (generalize he : upd _ _ _ = $H:ident; have $lv1:ident := Lv.stE $lv 0 rfl he; have $d1:ident := SameD.storeE (Lv.get $lv 0 rfl) he; clear he; (try dsimp only at $lv1:ident)))
  | `(tactic| wide_line with st $lv:ident $i:num $H:ident $lv1:ident) => `(tactic| (generalize he : upd _ _ _ = $H:ident; have $lv1:ident := Lv.stE $lv $i rfl he; clear he; (try dsimp only at $lv1:ident)))
  | `(tactic| wide_line with stk $lv:ident $i:num $H:ident $lv1:ident $k1:ident) => `(tactic| (generalize he : upd _ _ _ = $H:ident; have $lv1:ident := Lv.stE $lv $i rfl he; have $k1:ident := KeepT.st (Lv.get $lv $i rfl) he; clear he; (try dsimp only at $lv1:ident)))
/-! what the program says of Web(places, ties) -/
/-- the errors' classes as the clauses see them -/
structure Told (K : PySem.W.Frag) (mg : Str → Option Value) (CP CS CT : Addr) : Prop where
  gP : mg "BadPlaces" = some (.ref CP)
  gS : mg "BadTies" = some (.ref CS)
  gT : mg "BadTie" = some (.ref CT)
  xP : ExcC K CP
  xS : ExcC K CS
  xT : ExcC K CT
  nP : PySem.W.findIn K (.ref CP) "value" = some none
  nS : PySem.W.findIn K (.ref CS) "value" = some none
  nT : PySem.W.findIn K (.ref CT) "position" = some none
  pp : PySem.W.exmOne K (.ref CP) (.ref CP) = some true
  sp : PySem.W.exmOne K (.ref CS) (.ref CP) = some false
  ss : PySem.W.exmOne K (.ref CS) (.ref CS) = some true
  tp : PySem.W.exmOne K (.ref CT) (.ref CP) = some false
  ts : PySem.W.exmOne K (.ref CT) (.ref CS) = some false
  tt : PySem.W.exmOne K (.ref CT) (.ref CT) = some true
theorem noLst_grow {H H1 H3 : Hp} {r : Addr} {o : HO} (s : Same H H1) (nr : H3 r = none) : Same (noLst H1 H3) (noLst H (upd H3 r o)) := fun b u e => by
  have e3 : H3 b = some u := noLst_sub b u e
  refine noLst_at (fun xs z => ?_) ((upd_ne (fun q => by subst q; rw [nr] at e3; cases e3)).trans e3)
  have z1 := s b _ z
  unfold noLst at e
  rw [z1] at e
  cases e
def spTold (K : PySem.W.Frag) (C : Addr) : Sp := fun vs H Q _ => ∃ (v tv : V) (d td : PyData), vs = [v, tv] ∧ Dq K H v d ∧ Dq K H tv td ∧ txtOk d ∧
  (placesOf d = none → ∀ r H', Same H H' → H r = none → H' r = some (.tup [.str "places", v]) → Q (.ref r) H') ∧
  ∀ ns, placesOf d = some ns → (seqD td = none → ∀ r H', Same H H' → H r = none → H' r = some (.tup [.str "ties", tv]) → Q (.ref r) H') ∧
    ∀ tds, seqD td = some tds → (∀ e ∈ tds, plainTie e) ∧ tds.length ≤ 75 ∧ (∀ i, tieBad ns [] 0 tds = some i → ∀ r H', Same H H' → H r = none → H' r = some (.tup [.str "tie", .int i]) → Q (.ref r) H') ∧
      (tieBad ns [] 0 tds = none → ∀ r x H', Same H H' → H r = none → H x = none → H' r = some (.tup [.str "made", .ref x]) → WebAt K C (noLst H H') x ns (tiesD ns tds) → Q (.ref r) H')
section
variable {P : Program} {w : World} {K : PySem.W.Frag} {mg : Str → Option Value} {base : Heap} {C CP CS CT : Addr}
abbrev sLawTold : Stmt := top ix_law_told
theorem scLawTold : FnScope ["places", "ties", "error"] ["places", "ties"] (defScope sLawTold) := ⟨rfl, rfl, rfl, by decide +kernel, rfl, by decide +kernel, by decide +kernel⟩
theorem has_law_told (L : Told K mg CP CS CT) (D : DFE K mg "_law_told" sLawTold ["places", "ties"]) (hW : HasW P w K mg base 4 C CP CS CT) : Has P w K mg base CX0 6 "_law_told" ["places", "ties"] (spTold K C) := by
  obtain ⟨gW, fW, T0, fd, dv, o, n0, M, F, b, _⟩ := hW
  refine has_of D scLawTold (fun vs H Q E h => ?_) (fun f cdv A outer s H vs Q E hr h => ?_)
  · obtain ⟨v, tv, d, td, rfl, _⟩ := h; rfl
  · obtain ⟨v, tv, d, td, rfl, hd, htd, hx, kn, ky⟩ := h
    have nd := scLawTold.nd
    refine ⟨_, (pss_one (ps_try_named (Wout := fun _ _ _ _ => False) rfl rfl nd takes_none5
      (.cons (i := 2) ⟨rfl, by decide, .inl L.gP⟩ rfl rfl (fun a o k d pn hz hf => pss_one (ps_ret (pe_tup (pa_cons pe_str (pa_cons (pe_caught (K := K) rfl hz hf (pv 2)) pa_nil)))))
      (.cons (i := 2) ⟨rfl, by decide, .inl L.gS⟩ rfl rfl (fun a o k d pn hz hf => pss_one (ps_ret (pe_tup (pa_cons pe_str (pa_cons (pe_caught (K := K) rfl hz hf (pv 2)) pa_nil)))))
      (.cons (i := 2) ⟨rfl, by decide, .inl L.gT⟩ rfl rfl (fun a o k d pn hz hf => pss_one (ps_ret (pe_tup (pa_cons pe_str (pa_cons (pe_caught (K := K) rfl hz hf (pv 2)) pa_nil))))) .nil)))
      (fun W pn xe tk _ => pss_one (ps_ret (pe_tup (pa_cons pe_str (pa_cons (pe_makeS (E := WE W) M F (hr.mono (by decide)) rfl gW b .nil (fun pins σ H s e s' I z => passAt tk σ pins H s e s' I z) (pa_cons (pv 0) (pa_cons (pv 1) pa_nil)) (by decide)) pa_nil))))))), ?_⟩
    refine ⟨_, rfl, _, rfl, fun x dx nx ndx ne => ?_⟩
    have s1 : Same H (upd (upd H dx (.own x)) x (.ins C dx [])) := (same_new ndx).trans (same_new (by rw [upd_ne (fun z => ne z.symm)]; exact nx))
    have hx1 : upd (upd H dx (.own x)) x (.ins C dx []) x = some (.ins C dx []) := upd_same
    generalize upd (upd H dx (.own x)) x (.ins C dx []) = H1 at s1 hx1 ⊢
    refine ⟨x, dx, v, tv, d, td, rfl, hx1, hd.same s1, hx, htd.same s1, fun z => ?_, fun ns e => ?_⟩
    · intro dd H3 s3 ndd hdd
      have s13 := s1.trans s3
      exact ⟨true, L.pp, fun _ a na => ⟨_, rfl, rfl, CP, dd, _, v, rfl, rfl, hdd, L.xP, L.nP, rfl, sz2, fun r nr => kn z r _ (same_upd s13 (free_of s13 nr)) (free_of s13 nr) upd_same⟩, (fun z => nomatch z)⟩
    · obtain ⟨ky0, ky1⟩ := ky ns e
      refine ⟨fun e2 => ?_, fun tds e2 => ?_⟩
      · intro dd H3 s3 ndd hdd
        have s13 := s1.trans s3
        exact ⟨false, L.sp, (fun z => nomatch z), fun _ => ⟨true, L.ss, fun _ a na => ⟨_, rfl, rfl, CS, dd, _, tv, rfl, rfl, hdd, L.xS, L.nS, rfl, sz2, fun r nr => ky0 e2 r _ (same_upd s13 (free_of s13 nr)) (free_of s13 nr) upd_same⟩, (fun z => nomatch z)⟩⟩
      · obtain ⟨pl, few, kb, kg⟩ := ky1 tds e2
        refine ⟨pl, few, fun i tb => ?_, fun tb H3 off hw => ?_⟩
        · intro dd H3 s3 ndd hdd
          have s13 := s1.trans s3
          exact ⟨false, L.tp, (fun z => nomatch z), fun _ => ⟨false, L.ts, (fun z => nomatch z), fun _ => ⟨true, L.tt, fun _ a na => ⟨_, rfl, rfl, CT, dd, _, .int i, rfl, rfl, hdd, L.xT, L.nT, rfl, sz2, fun r nr => kb i tb r _ (same_upd s13 (free_of s13 nr)) (free_of s13 nr) upd_same⟩, (fun z => nomatch z)⟩⟩⟩
        · have s13 : Same H H3 := fun c o ec => off c o (ne_of_none ec nx) (s1 c o ec)
          exact ⟨rfl, sz2, fun r nr => kg tb r x _ (same_upd s13 (free_of s13 nr)) (free_of s13 nr) nx upd_same (hw.same (noLst_grow s1 nr))⟩
end
end Pw

set_option Elab.async false
set_option linter.all false
set_option maxRecDepth 100000
set_option maxHeartbeats 4000000
/-! One promise behind a statement; a dict display of one pair with a tuple for its key; what is shown of data. -/
namespace Ct
open PySem PySem.Spec PyProof.Rows L2
/-- a statement's end told once, for all its ways -/
def tJoin (t : TS) : TS := fun D σ H => ∃ J : L2.St → Hp → Prop, t { D with nx := J } σ H ∧ ∀ τ G, J τ G → D.nx τ G
section
variable {X : Cx}
theorem ps_join {st : Stmt} {t : TS} (h : PS X st t) : PS X st (tJoin t) := by
  refine ⟨fun pins s σ H D I ⟨J, h1, h2⟩ => ?_⟩
  refine wpAny_mono (h.run pins s σ H { D with nx := J } (I.wish _) h1) (fun f s1 q => ?_) (fun _ _ z => z)
  have q' : SP X pins { D with nx := J } f s1 := q
  cases f with
  | next => obtain ⟨τ, G, I2, q2⟩ := q'; exact ⟨τ, G, I2, h2 _ _ q2⟩
  | ret v => exact q'
  | brk => exact q'
  | cont => exact q'
def tDispT (tk tv : TE) : TE := fun σ H Q => ∀ p, H p = none → tk σ (upd H p (.dT [])) fun x H1 => tv σ H1 fun y H2 => ∃ (b : Addr) (k : List Key), x = .ref b ∧ H2 b = some (.tup (k.map kV)) ∧ H2 p = some (.dT []) ∧ Q (.ref p) (upd H2 p (.dT [(k, y)]))
theorem pe_dispT {k v : Expr} {tk tv : TE} {pos : Pos} (hu : X.A.units + 1 < cLine) (hk : PE X k tk) (hv : PE X v tv) : PE X (.Dict [some k] [v] pos) (tDispT tk tv) := by
  have hh : PPs X pos [some k] [v] [(tk, tv)] := pps_cons hk hv pps_nil
  refine ⟨fun pins s σ H Q I q => ?_⟩
  have hn := I.hok.fresh (Nat.le_refl s.heap.objs.size)
  have I1 := I.laid (a := s.heap.objs.size) (o := .dT []) (h' := s.heap.push { cls := .type "dict", data := .dict #[] }) (t' := s.toks) (fun _ _ z => Heap.get?_push_of_some _ z) (Nat.le_refl _) (dt_empty s.heap I.big)
  have mono : ∀ {τ : L2.St} {G : Hp}, tk τ G (fun x H1 => tv τ H1 fun y H2 => ∃ (b : Addr) (k : List Key), x = .ref b ∧ H2 b = some (.tup (k.map kV)) ∧ H2 s.heap.objs.size = some (.dT []) ∧ Q (.ref s.heap.objs.size) (upd H2 s.heap.objs.size (.dT [(k, y)]))) →
      tPairs [(tk, tv)] τ G (fun ps H2 => ∃ (b : Addr) (k : List Key) (y : V), ps = [(.ref b, y)] ∧ H2 b = some (.tup (k.map kV)) ∧ H2 s.heap.objs.size = some (.dT []) ∧ Q (.ref s.heap.objs.size) (upd H2 s.heap.objs.size (.dT [(k, y)]))) := by
    intro τ G z
    show tk τ G fun x H1 => tv τ H1 fun y H2 => ∃ (b : Addr) (k : List Key) (y' : V), [(x, y)] = [(.ref b, y')] ∧ _
    have e : (fun (x : V) (H1 : Hp) => tv τ H1 fun y H2 => ∃ (b : Addr) (k : List Key), x = .ref b ∧ H2 b = some (.tup (k.map kV)) ∧ H2 s.heap.objs.size = some (.dT []) ∧ Q (.ref s.heap.objs.size) (upd H2 s.heap.objs.size (.dT [(k, y)]))) =
        fun (x : V) (H1 : Hp) => tv τ H1 fun y H2 => ∃ (b : Addr) (k : List Key) (y' : V), [(x, y)] = [(V.ref b, y')] ∧ H2 b = some (.tup (k.map kV)) ∧ H2 s.heap.objs.size = some (.dT []) ∧ Q (.ref s.heap.objs.size) (upd H2 s.heap.objs.size (.dT [(k, y')])) := by
      funext x H1
      refine congrArg _ ?_
      funext y H2
      refine propext ⟨fun ⟨b, k, e, r⟩ => ⟨b, k, y, by rw [e], r⟩, fun ⟨b, k, y', e, r⟩ => ?_⟩
      cases e
      exact ⟨b, k, rfl, r⟩
    rw [← e]
    exact z
  rw [arm_eval_Dict, zip_pairTrees [some k] [v] X.env pos (by rfl) (by rfl), dictDisplay_pairs _ (fun z => ?_) (by have := pairTrees_length [some k] [v] X.env pos (by rfl) (by rfl); rw [this]; show 1 < 17; decide)]
  · refine wpAny_bind (wpAny_standAt (wpAny_bind (wpAny_subDictH (knd := tupleKind (mixKind X.prog X.w)) (Q := fun d s' => wpAny (model X.prog X.w) X.A (pure (Value.ref d)) (EP X pins σ Q) X.xe s') (show X.A.units < cLine by omega) (by rw [pairTrees_length [some k] [v] X.env pos (by rfl) (by rfl)]; show 1 ≤ 15; decide) ?_)))
    refine thn (hh.run pins _ σ _ _ I1 (mono (q _ hn))) fun ws s2 ⟨ps, H2, I2, rel, b, ks, y, ep, hb, hd, q2⟩ => ?_
    subst ep
    cases rel with
    | @cons p1 w1 _ _ r1 t1 =>
      cases t1
      obtain ⟨wk, wv⟩ := w1
      obtain ⟨r1, r2⟩ := r1
      cases (show wk = Value.ref b from r1)
      obtain ⟨_, h2, xs, rel0, dd⟩ := dt_of I2.hok hd
      cases rel0
      refine ⟨[(ks, b, wv)], ⟨rfl, rfl, key_of I2.hok hb, trivial⟩, dd, fun h' tk' dd' hs => wpAny_pure ⟨.ref s.heap.objs.size, _, ?_, rfl, q2⟩⟩
      obtain ⟨o, es, ep, hq, g2, g3, g4, _, g5⟩ := dd'
      refine d_write I2 (by rw [hd]; exact True.intro) hs ⟨o, hq⟩ ⟨by show 1 ≤ sizeLine; decide, h2, _, .cons ⟨rfl, ?_, r2⟩ .nil, o, es, ep, hq, g2, g3, g4, g5⟩
      rw [upd_ne (ne_of hb hd (fun z => nomatch z))]
      exact hb
  · have := pairTrees_length [some k] [v] X.env pos (by rfl) (by rfl)
    rw [z] at this
    exact absurd (show 0 = 1 from this) (by decide)
end
end Ct

set_option Elab.async false
set_option linter.all false
set_option maxRecDepth 100000
set_option maxHeartbeats 4000000
namespace Pw
open PySem PySem.Spec PyProof.Rows L2 Ct
local macro_rules | `(tactic| wide_line) => `(tactic| repeat ((fail_if_success (with_reducible refine at_while ?_)); (fail_if_success (with_reducible refine at_while1 ?_)); (conv => whnf); first | ((with_reducible refine And.intro ?_ ?_); focus (first | (first | ((with_reducible show (_ : Nat) ≤ _); first | exact sz0 | exact sz1 | exact sz2 | exact sz3 | exact sz4 | exact sz5 | exact sz6 | exact sz7 | exact sz8 | exact sz10 | exact sz11 | exact sz12 | exact sz14 | omega | decide | (simp only [List.length_cons, List.length_nil]; omega)) | ((with_reducible show (_ : Int) ≤ _); first | omega | decide) | ((with_reducible show (_ : Int) < _); first | omega | decide) | ((with_reducible show (_ : Nat) < _); omega)) | ((fail_if_success (with_reducible show (_ : Nat) ≤ _)); (fail_if_success (with_reducible show (_ : Int) ≤ _)); (fail_if_success (with_reducible show (_ : Int) < _)); (fail_if_success (with_reducible show (_ : Nat) < _)); first | exact kv_str _ | exact kv_int _ | rfl | assumption | exact flat_strs _ | exact Lv.get (by assumption) 0 rfl | exact Lv.get (by assumption) 1 rfl | exact Lv.get (by assumption) 2 rfl | exact Lv.get (by assumption) 3 rfl | exact Lv.get (by assumption) 4 rfl | exact Lv.get (by assumption) 5 rfl | exact Lv.get (by assumption) 6 rfl | exact SqL.of (Lv.get (by assumption) 0 rfl) | exact SqL.of (Lv.get (by assumption) 1 rfl) | exact SqL.of (Lv.get (by assumption) 2 rfl) | exact SqL.of (Lv.get (by assumption) 3 rfl) | exact SqL.of (Lv.get (by assumption) 4 rfl) | exact SqL.of (Lv.get (by assumption) 5 rfl) | exact Or.inl (SqL.of (Lv.get (by assumption) 0 rfl)) | exact Or.inl (SqL.of (Lv.get (by assumption) 1 rfl)) | exact Or.inl (SqL.of (Lv.get (by assumption) 2 rfl)) | exact Or.inl (SqL.of (Lv.get (by assumption) 3 rfl)) | exact Or.inl (SqL.of (Lv.get (by assumption) 4 rfl)) | exact Or.inl (SqL.of (Lv.get (by assumption) 5 rfl)) | exact ⟨_, SqL.of (Lv.get (by assumption) 0 rfl)⟩ | exact ⟨_, SqL.of (Lv.get (by assumption) 1 rfl)⟩ | exact ⟨_, SqL.of (Lv.get (by assumption) 2 rfl)⟩ | exact ⟨_, SqL.of (Lv.get (by assumption) 3 rfl)⟩ | exact ⟨_, SqL.of (Lv.get (by assumption) 4 rfl)⟩ | exact ⟨_, SqL.of (Lv.get (by assumption) 5 rfl)⟩ | exact Or.inl ⟨_, SqL.of (Lv.get (by assumption) 0 rfl), rfl⟩ | exact Or.inl ⟨_, SqL.of (Lv.get (by assumption) 1 rfl), rfl⟩ | exact Or.inl ⟨_, SqL.of (Lv.get (by assumption) 2 rfl), rfl⟩ | exact Or.inl ⟨_, SqL.of (Lv.get (by assumption) 3 rfl), rfl⟩ | exact Or.inl ⟨_, SqL.of (Lv.get (by assumption) 4 rfl), rfl⟩ | exact Or.inl ⟨_, SqL.of (Lv.get (by assumption) 5 rfl), rfl⟩ | exact Or.inl ⟨rfl, _, SqL.of (Lv.get (by assumption) 0 rfl)⟩ | exact Or.inl ⟨rfl, _, SqL.of (Lv.get (by assumption) 1 rfl)⟩ | exact Or.inl ⟨rfl, _, SqL.of (Lv.get (by assumption) 2 rfl)⟩ | exact Or.inl ⟨rfl, _, SqL.of (Lv.get (by assumption) 3 rfl)⟩ | exact Or.inl ⟨rfl, _, SqL.of (Lv.get (by assumption) 4 rfl)⟩ | exact Or.inl ⟨rfl, _, SqL.of (Lv.get (by assumption) 5 rfl)⟩ | exact Or.inr (SqT.of (Lv.get (by assumption) 0 rfl)) | exact Or.inr (SqT.of (Lv.get (by assumption) 1 rfl)) | exact Or.inr (SqT.of (Lv.get (by assumption) 2 rfl)) | exact Or.inr (SqT.of (Lv.get (by assumption) 3 rfl)) | exact SqT.of (Lv.get (by assumption) 0 rfl) | exact SqT.of (Lv.get (by assumption) 1 rfl) | exact SqT.of (Lv.get (by assumption) 2 rfl) | exact dgetN (Lv.get (by assumption) 0 rfl) (by assumption) | exact dgetN (Lv.get (by assumption) 1 rfl) (by assumption) | exact dgetN (Lv.get (by assumption) 2 rfl) (by assumption) | exact dgetN (Lv.get (by assumption) 3 rfl) (by assumption) | exact dgetN (Lv.get (by assumption) 4 rfl) (by assumption) | exact Or.inl (by assumption) | exact Or.inr (by assumption) | decide | ((with_reducible show _ ∧ _); omega)))) | ((fail_if_success (with_reducible apply @Exists.intro (Nat → _))); (with_reducible apply Exists.intro))))
local macro_rules
  | `(tactic| wide_line with al $lv:ident $l:ident $nl:ident $H:ident $lv1:ident $s1:ident) => `(tactic| (intro $l:ident $nl:ident; generalize he : upd _ _ _ = $H:ident; have $lv1:ident := Lv.alE $lv $nl he; have $s1:ident := sameE $nl he; clear he; (try dsimp only at $lv1:ident)))
  | `(tactic| wide_line with alx $lv:ident $nl:ident $H:ident $lv1:ident $s1:ident) => `(tactic| (generalize he : upd _ _ _ = $H:ident; have $lv1:ident := Lv.alE $lv $nl he; have $s1:ident := sameE $nl he; clear he; (try dsimp only at $lv1:ident)))
  | `(tactic| wide_line with sts $lv:ident $i:num $H:ident $lv1:ident $s0:ident $np:ident $s1:ident) => `(tactic| (generalize he : upd _ _ _ = $H:ident; have $lv1:ident := Lv.stE $lv $i rfl he; have $s1:ident := sameN $s0 $np he; clear he; (try dsimp only at $lv1:ident)))
  | `(tactic| wide_line with stx $lv:ident $H:ident $lv1:ident $d1:ident) => `(tactic| (generalize he : upd _ _ _ = $H:ident; have $lv1:ident := Lv.stE $lv 0 rfl he; have $d1:ident := SameD.storeE (Lv.get $lv 0 rfl) he; clear he; (try dsimp only at $lv1:ident)))
  | `(tactic| wide_line with st $lv:ident $i:num $H:ident $lv1:ident) => `(tactic| (generalize he : upd _ _ _ = $H:ident; have $lv1:ident := Lv.stE $lv $i rfl he; clear he; (try dsimp only at $lv1:ident)))
  | `(tactic| wide_line with stk $lv:ident $i:num $H:ident $lv1:ident $k1:ident) => `(tactic| (generalize he : upd _ _ _ = $H:ident; have $lv1:ident := Lv.stE $lv $i rfl he; have $k1:ident := KeepT.st (Lv.get $lv $i rfl) he; clear he; (try dsimp only at $lv1:ident)))
/-! how much is shown of data -/
theorem textFrom_le {m : Nat} : ∀ (ts : List Str) (k : Nat) (acc : Str), (∀ t ∈ ts, t.length ≤ m) → (textFrom k acc ts).length ≤ acc.length + ts.length * (m + 2)
  | [], _, _, _ => by show _ ≤ _ + 0 * _; rw [Nat.zero_mul]; exact Nat.le_refl _
  | t :: ts, k, acc, h => by
    have ih := textFrom_le ts (k + 1) (acc ++ (if k > 0 then ", " else "" : String) ++ t) fun x hx => h x (List.mem_cons_of_mem _ hx)
    have e : (acc ++ (if k > 0 then ", " else "" : String) ++ t).length = acc.length + (if k > 0 then 2 else 0) + t.length := by
      rw [strLen_append, strLen_append]
      split <;> rfl
    have ht := h t List.mem_cons_self
    show (textFrom (k + 1) _ ts).length ≤ _
    rw [List.length_cons, Nat.succ_mul]
    rw [e] at ih
    have : (if k > 0 then 2 else 0) ≤ 2 := by split <;> omega
    omega
theorem listText_le {m : Nat} {ts : List Str} (h : ∀ t ∈ ts, t.length ≤ m) : (listText ts).length ≤ ts.length * (m + 2) + 4 := by
  unfold listText
  rw [strLen_append]
  have h1 := textFrom_le ts 0 "[" h
  have e1 : (("[" : String) : Str).length = 1 := rfl
  have e2 : (("]" : String) : Str).length = 1 := rfl
  omega
theorem piled_le {m : Nat} : ∀ {ts : List Str}, (∀ t ∈ ts, t.length ≤ m) → piled ts ≤ ts.length * (m + 2)
  | [], _ => Nat.zero_le _
  | t :: ts, h => by
    rw [piled_cons, List.length_cons, Nat.succ_mul]
    have := piled_le (m := m) (ts := ts) fun x hx => h x (List.mem_cons_of_mem _ hx)
    have := h t List.mem_cons_self
    omega
theorem join_le {m : Nat} {ts : List Str} (h : ∀ t ∈ ts, t.length ≤ m) : (Str.join ", " ts).length ≤ ts.length * (m + 2) := by
  by_cases e : ts = []
  · subst e; exact Nat.zero_le _
  · have := join_length_add ts e
    have := piled_le h
    omega
theorem tupleText_le {m : Nat} {ts : List Str} (h : ∀ t ∈ ts, t.length ≤ m) : (tupleText ts).length ≤ ts.length * (m + 2) + 4 := by
  unfold tupleText
  rw [strLen_append, strLen_append]
  have h1 := join_le h
  have e1 : (("(" : String) : Str).length = 1 := rfl
  have e2 : ((if ts.length == 1 then ",)" else ")" : String) : Str).length ≤ 2 := by split <;> decide
  omega
theorem shownAll_map : ∀ ds : List PyData, PyData.shownAll ds = ds.map PyData.shown
  | [] => by rw [PyData.shownAll]; rfl
  | d :: ds => by rw [PyData.shownAll, shownAll_map ds]; rfl
/-- of depth k and m signs at most -/
def Sm (k m : Nat) (d : PyData) : Prop := d.showable = true ∧ d.depth ≤ k ∧ d.shown.length ≤ m
theorem Sm.mono {k m k' m' : Nat} {d : PyData} (h : Sm k m d) (a : k ≤ k') (b : m ≤ m') : Sm k' m' d := ⟨h.1, Nat.le_trans h.2.1 a, Nat.le_trans h.2.2 b⟩
theorem showables {k m : Nat} : ∀ {ds : List PyData}, (∀ d ∈ ds, Sm k m d) → PyData.showableAll ds = true
  | [], _ => by rw [PyData.showableAll]
  | d :: ds, h => by rw [PyData.showableAll, (h d List.mem_cons_self).1, showables fun e he => h e (List.mem_cons_of_mem _ he)]; rfl
theorem Sm.list {k m n : Nat} {ds : List PyData} (h : ∀ d ∈ ds, Sm k m d) (hn : ds.length ≤ n) : Sm (k + 1) (n * (m + 2) + 4) (.list ds) := by
  refine ⟨by rw [PyData.showable]; exact showables h, by rw [PyData.depth]; have := depths_of (m := k) fun d hd => (h d hd).2.1; omega, ?_⟩
  rw [PyData.shown, shownAll_map]
  refine Nat.le_trans (listText_le (m := m) fun t ht => ?_) ?_
  · obtain ⟨d, hd, rfl⟩ := List.mem_map.mp ht
    exact (h d hd).2.2
  · rw [List.length_map]
    exact Nat.add_le_add_right (Nat.mul_le_mul_right _ hn) _
theorem Sm.tuple {k m n : Nat} {ds : List PyData} (h : ∀ d ∈ ds, Sm k m d) (hn : ds.length ≤ n) : Sm (k + 1) (n * (m + 2) + 4) (.tuple ds) := by
  refine ⟨by rw [PyData.showable]; exact showables h, by rw [PyData.depth]; have := depths_of (m := k) fun d hd => (h d hd).2.1; omega, ?_⟩
  rw [PyData.shown, shownAll_map]
  refine Nat.le_trans (tupleText_le (m := m) fun t ht => ?_) ?_
  · obtain ⟨d, hd, rfl⟩ := List.mem_map.mp ht
    exact (h d hd).2.2
  · rw [List.length_map]
    exact Nat.add_le_add_right (Nat.mul_le_mul_right _ hn) _
def small (x : Str) : Prop := ∀ c ∈ x.cps.toList, c < 16 ^ 8
theorem Sm.str {x : Str} {n : Nat} (h : small x) (l : x.length ≤ n) : Sm 0 (10 * n + 2) (.str x) := by
  refine ⟨by rw [PyData.showable], by rw [PyData.depth]; exact Nat.le_refl _, ?_⟩
  rw [PyData.shown]
  have := PySem.StrLaws.reprText_len x h
  omega
theorem small_name {x : Str} (h : okName x = true) : small x := by
  unfold okName at h
  rw [Bool.and_eq_true] at h
  have h2 := h.2
  unfold okSigns at h2
  intro c hc
  have := List.all_eq_true.mp lt_small c (of_decide_eq_true (List.all_eq_true.mp h2 c hc))
  exact Nat.lt_trans (of_decide_eq_true this) (by decide)
theorem name_len {x : Str} (h : okName x = true) : x.length ≤ 8 := by
  unfold okName at h
  rw [Bool.and_eq_true, Bool.and_eq_true] at h
  exact of_decide_eq_true h.1.2
/-- a thing that may stand among the places or the ties -/
def Fit (d : PyData) : Prop := Sm 3 400 d ∧ plainTie d ∧ ∀ x, d = .str x → x.length ≤ 100
theorem Fit.str {x : Str} (h : small x) (l : x.length ≤ 20) : Fit (.str x) := ⟨(Sm.str h l).mono (by decide) (by decide), trivial, fun y e => by cases e; omega⟩
theorem Fit.name {x : Str} (h : okName x = true) : Fit (.str x) := .str (small_name h) (Nat.le_trans (name_len h) (by decide))
/-- what the new of a heap adds to R -/
def grown (R H H' : Hp) : Hp := fun b => match H b with
  | none => H' b
  | some _ => R b
theorem grown_new {R H H' : Hp} {b : Addr} (h : H b = none) : grown R H H' b = H' b := by unfold grown; rw [h]
theorem grown_old {R H H' : Hp} {b : Addr} {o : HO} (h : H b = some o) : grown R H H' b = R b := by unfold grown; rw [h]
theorem grown_at {R H H' : Hp} {b : Addr} {o : HO} (h : H b = none) (e : H' b = some o) : grown R H H' b = some o := (grown_new h).trans e
abbrev R0 : Hp := fun _ => none
theorem grown_mono {R H H' : Hp} : Same (grown R0 H H') (grown R H H') := fun b o e => by
  cases h : H b with
  | none => rw [grown_new h] at e ⊢; exact e
  | some u => rw [grown_old h] at e; cases e
theorem grown_up {R H H' : Hp} (s : Same R H) : Same R (grown R H H') := fun b o e => by rw [grown_old (s b o e)]; exact e
theorem grown_sub {R H H' : Hp} {p : Addr} (s : Same R H) (np : R p = none) (f : ∀ b o, b ≠ p → H b = some o → H' b = some o) : Same (grown R H H') H' := fun b o e => by
  cases h : H b with
  | none => rw [grown_new h] at e; exact e
  | some u =>
    rw [grown_old h] at e
    have ne : b ≠ p := fun z => by rw [z, np] at e; cases e
    rw [f b u ne h, ← h]
    exact s b o e
theorem cut_drop (xs : List V) (n : Nat) : cutV xs (some (n : Int)) none = xs.drop n := by
  unfold cutV
  rw [HT.sIx_none, HT.sIx_nat]
  by_cases h : n ≤ xs.length
  · rw [Nat.min_eq_left h]
    exact List.take_of_length_le (by rw [List.length_drop]; exact Nat.le_refl _)
  · rw [Nat.min_eq_right (by omega), Nat.sub_self, List.take_zero, List.drop_of_length_le (by omega : xs.length ≤ n)]
theorem small_app {x y : Str} (hx : small x) (hy : small y) : small (x ++ y) := fun c hc => by
  have e : (x ++ y).cps.toList = x.cps.toList ++ y.cps.toList := Array.toList_append
  rw [e] at hc
  rcases List.mem_append.mp hc with z | z
  · exact hx c z
  · exact hy c z
theorem small_cut {x : Str} {lo hi : Option Int} (hx : small x) : small (cutS x lo hi) := fun c hc => hx c (List.mem_of_mem_drop (List.mem_of_mem_take hc))
def consts : List PyData := [.none, .int 5, .bool true, .list [.str "a"], .tuple [.str "a"], .dict [], .str "ab", .tuple [], .list [], .dict [(.str "a", .int 1)], .tuple [.str "ab", .str "ba"], .str "", .str "a", .list [.str "a", .str "a"]]
theorem sm_consts0 : consts.all (fun d => d.showable && decide (d.depth ≤ 3) && decide (d.shown.length ≤ 400)) = true := by decide +kernel
theorem sm_consts (d : PyData) (h : d ∈ consts) : Sm 3 400 d := by
  have z := List.all_eq_true.mp sm_consts0 d h
  rw [Bool.and_eq_true, Bool.and_eq_true] at z
  exact ⟨z.1.1, of_decide_eq_true z.1.2, of_decide_eq_true z.2⟩
theorem small_lit : small "abcdefghi" := by
  have z : ("abcdefghi" : Str).cps.toList.all (fun c => decide (c < 16 ^ 8)) = true := by decide +kernel
  exact fun c hc => of_decide_eq_true (List.all_eq_true.mp z c hc)
/-- put(source, things, thing): a new list -/
def spPut (K : PySem.W.Frag) : Sp := fun vs H Q _ => ∃ (p q : Addr) (v : V) (r m : Int) (xs : List V), vs = [.ref p, .ref q, v] ∧ q ≠ p ∧ H p = some (.lst [.int r, .int m]) ∧ SrcOk r m ∧ H q = some (.lst xs) ∧ xs.length ≤ 1000 ∧
  ∀ (r' m' : Int) (i j : Nat) (l : Addr) (H' : Hp), SrcOk r' m' → i ≤ j → (∀ b o, b ≠ p → H b = some o → H' b = some o) → H' p = some (.lst [.int r', .int m']) → H l = none → H' l = some (.lst (xs.take i ++ [v] ++ xs.drop j)) → Q (.ref l) H'
section
variable {P : Program} {w : World} {K : PySem.W.Frag} {mg : Str → Option Value} {base : Heap}
abbrev sLawPut : Stmt := top ix_law_put
theorem scLawPut : FnScope ["source", "things", "thing", "at"] ["source", "things", "thing"] (defScope sLawPut) := ⟨rfl, rfl, rfl, by decide +kernel, rfl, by decide +kernel, by decide +kernel⟩
theorem has_law_put (T : Bn mg) (D : DFE K mg "_law_put" sLawPut ["source", "things", "thing"]) (h_law_draw : Has P w K mg base CX0 1 "_law_draw" ["source", "span"] spDraw) : Has P w K mg base CX0 2 "_law_put" ["source", "things", "thing"] (spPut K) := by
  refine has_of D scLawPut (fun vs H Q E h => ?_) (fun f cdv A outer s H vs Q E hr h => ?_)
  · obtain ⟨p, q, v, r, m, xs, rfl, _⟩ := h; rfl
  · obtain ⟨p, q, v, r, m, xs, rfl, ne, hp, ok, hq, few, k⟩ := h
    have nd := scLawPut.nd
    refine ⟨_, (pss_cons (ps_sv 3 nd (pe_h h_law_draw hr (by decide) rfl (pa_cons (pv 0) (pa_cons (pe_op op_add (pe_callB call_len (by rfl) T.z_len (by decide +kernel) (pa_cons (pv 1) pa_nil)) pe_int) pa_nil))))
    (pss_one (ps_ret (pe_op op_cat (pe_op op_cat (pe_callTy call_list_of (by rfl) T.z_list (by decide +kernel) (pa_cons (pe_slice sl_list (pv 1) po_none (po_some (pv 3))) pa_nil)) (pe_lst (pa_cons (pv 2) pa_nil))) (pe_callTy call_list_of (by rfl) T.z_list (by decide +kernel) (pa_cons (pe_slice sl_list (pv 1) (po_some (pe_op op_add (pv 3) (pe_h h_law_draw hr (by decide) rfl (pa_cons (pv 0) (pa_cons pe_int pa_nil))))) po_none) pa_nil)))))), ?_⟩
    have lv := Lv.two hq hp ne
    wide_line
    intro r1 m1 i ok1 i0 i1
    obtain ⟨a, rfl⟩ := Int.eq_ofNat_of_zero_le i0
    wide_line with st lv 1 H1 lv1
    wide_line
    wide_line with al lv1 l1 n1 H2 lv2 s2
    wide_line
    wide_line with al lv2 l2 n2 H3 lv3 s3
    wide_line
    wide_line with al lv3 l3 n3 H4 lv4 s4
    rw [cut_take] at lv4
    wide_line
    have tl : (xs.take a).length ≤ 1000 := by rw [List.length_take]; omega
    refine ⟨by rw [sizeLine_eq, List.length_singleton]; omega, ?_⟩
    wide_line with al lv4 l4 n4 H5 lv5 s5
    have lv5 := lv5.picks [0, 4, 5] rfl (by decide) (by simp)
    wide_line
    intro r2 m2 e ok2 e0 e1
    obtain ⟨b, rfl⟩ := Int.eq_ofNat_of_zero_le e0
    wide_line with st lv5 2 H6 lv6
    wide_line
    wide_line with al lv6 l5 n5 H7 lv7 s7
    wide_line
    wide_line with al lv7 l6 n6 H8 lv8 s8
    have ed : cutV xs (some ((a : Int) + (b : Int))) none = xs.drop (a + b) := cut_drop xs (a + b)
    rw [ed] at lv8
    wide_line
    refine ⟨?_, ?_⟩
    · have : (xs.drop (a + b)).length ≤ 1000 := by rw [List.length_drop]; omega
      rw [sizeLine_eq, List.length_append, List.length_singleton]
      omega
    wide_line with al lv8 l7 n7 H9 lv9 s9
    have nq : l7 ∉ [q, p] := fun z => by
      have := lv9.nd
      rcases List.mem_cons.mp z with z | z
      · subst z; exact absurd (lv8.free n7) (by rw [hq]; simp)
      · rw [List.mem_singleton] at z; subst z; exact absurd (lv8.free n7) (by rw [hp]; simp)
    refine k r2 m2 a (a + b) l7 H9 ok2 (by omega) (fun c o nc ec => ?_) (lv9.get 5 rfl) (lv9.fresh 0 rfl nq) (lv9.get 0 rfl)
    by_cases cq : c = q
    · subst cq
      rw [hq] at ec
      cases ec
      exact lv9.get 4 rfl
    · exact lv9.fr c o (fun z => by rcases List.mem_cons.mp z with z | z; exact cq z; exact nc (List.mem_singleton.mp z)) ec
/-- odd_name(source): something to stand among the places -/
def spOdd (K : PySem.W.Frag) : Sp := fun vs H Q _ => ∃ (p : Addr) (r m : Int), vs = [.ref p] ∧ H p = some (.lst [.int r, .int m]) ∧ SrcOk r m ∧
  ∀ (r' m' : Int) (v : V) (d : PyData) (H' : Hp), SrcOk r' m' → (∀ b o, b ≠ p → H b = some o → H' b = some o) → H' p = some (.lst [.int r', .int m']) → Fit d → Dq K (grown R0 H H') v d → Q v H'
abbrev oddSigns : Str := " !\"#$&'()*+,-./0123456789:;<=>?@ABCDEFGHIJKLMNOPQRSTUVWXYZ[\\]^_`{|}~\n"
theorem odd_small : oddSigns.cps.toList.all (fun c => decide (c < 16 ^ 8)) = true := by decide +kernel
abbrev sLawOddName : Stmt := top ix_law_odd_name
theorem scLawOddName : FnScope ["source", "word", "at", "sign", "bent"] ["source"] (defScope sLawOddName) := ⟨rfl, rfl, rfl, by decide +kernel, rfl, by decide +kernel, by decide +kernel⟩
theorem has_law_odd_name (T : Bn mg) (D : DFE K mg "_law_odd_name" sLawOddName ["source"]) (h_law_draw : Has P w K mg base CX0 1 "_law_draw" ["source", "span"] spDraw) (h_law_pick : Has P w K mg base CX0 2 "_law_pick" ["source", "things"] (spPick2 K)) (h_law_word : Has P w K mg base CX0 3 "_law_word" ["source"] spWord) : Has P w K mg base CX0 4 "_law_odd_name" ["source"] (spOdd K) := by
  refine has_of D scLawOddName (fun vs H Q E h => ?_) (fun f cdv A outer s H vs Q E hr h => ?_)
  · obtain ⟨p, r, m, rfl, _⟩ := h; rfl
  · obtain ⟨p, r, m, rfl, hp, ok, k⟩ := h
    have nd := scLawOddName.nd
    refine ⟨_, (pss_cons (ps_sv 1 nd (pe_h h_law_word hr (by decide) rfl (pa_cons (pv 0) pa_nil)))
    (pss_cons (ps_sv 2 nd (pe_h h_law_draw hr (by decide) rfl (pa_cons (pv 0) (pa_cons (pe_op op_add (pe_callB call_len_str (by rfl) T.z_len (by decide +kernel) (pa_cons (pv 1) pa_nil)) pe_int) pa_nil))))
    (pss_cons (ps_sv 3 nd (pe_h h_law_pick hr (by decide) rfl (pa_cons (pv 0) (pa_cons pe_str pa_nil))))
    (pss_cons (ps_sv 4 nd (pe_op op_add_str (pe_op op_add_str (pe_slice sl_str (pv 1) po_none (po_some (pv 2))) (pv 3)) (pe_slice sl_str (pv 1) (po_some (pv 2)) po_none)))
    (pss_one (ps_ret (pe_h h_law_pick hr (by decide) rfl (pa_cons (pv 0) (pa_cons (pe_lst (pa_cons pe_non (pa_cons pe_int (pa_cons pe_str (pa_cons (pe_lst (pa_cons pe_str pa_nil)) (pa_cons (pe_tup (pa_cons pe_str pa_nil)) (pa_cons pe_dnewK (pa_cons pe_bl (pa_cons pe_str (pa_cons (pv 1) (pa_cons (pv 4) (pa_cons (pv 4) (pa_cons (pv 4) pa_nil))))))))))))) pa_nil))))))))), ?_⟩
    have lv := Lv.one hp
    wide_line
    intro r1 m1 wd ok1 okw
    wide_line with st lv 0 H1 lv1
    have wl := name_len okw
    wide_line
    refine ⟨by rw [sizeLine_eq]; omega, ?_⟩
    wide_line
    intro r2 m2 i ok2 i0 i1
    obtain ⟨a, rfl⟩ := Int.eq_ofNat_of_zero_le i0
    wide_line with st lv1 0 H2 lv2
    wide_line
    refine Or.inr ⟨p, r2, m2, oddSigns, rfl, lv2.get 0 rfl, ok2, by decide, by decide, fun r3 m3 c ok3 hc => ?_⟩
    wide_line with st lv2 0 H3 lv3
    have cs : c < 16 ^ 8 := of_decide_eq_true (List.all_eq_true.mp odd_small c hc)
    have szl := sizeLine_eq
    have c1 := cutS_length wd none (some (a : Int))
    have c2 := cutS_length wd (some (a : Int)) none
    have e1 : (⟨#[c]⟩ : Str).length = 1 := rfl
    have e2 : (cutS wd none (some (a : Int)) ++ (⟨#[c]⟩ : Str)).length = (cutS wd none (some (a : Int))).length + (⟨#[c]⟩ : Str).length := strLen_append _ _
    have e3 : (cutS wd none (some (a : Int)) ++ (⟨#[c]⟩ : Str) ++ cutS wd (some (a : Int)) none).length = (cutS wd none (some (a : Int)) ++ (⟨#[c]⟩ : Str)).length + (cutS wd (some (a : Int)) none).length := strLen_append _ _
    have sb : small (cutS wd none (some (a : Int)) ++ (⟨#[c]⟩ : Str) ++ cutS wd (some (a : Int)) none) := small_app (small_app (small_cut (small_name okw)) fun z hz => by cases List.mem_singleton.mp hz; exact cs) (small_cut (small_name okw))
    have lb : (cutS wd none (some (a : Int)) ++ (⟨#[c]⟩ : Str) ++ cutS wd (some (a : Int)) none).length ≤ 20 := by omega
    wide_line
    generalize cutS wd none (some (a : Int)) ++ (⟨#[c]⟩ : Str) ++ cutS wd (some (a : Int)) none = bent at e3 sb lb ⊢
    clear e3
    wide_line with al lv3 l1 n1 H4 lv4 s4
    wide_line
    wide_line with al lv4 l2 n2 H5 lv5 s5
    wide_line
    wide_line with al lv5 l3 n3 H6 lv6 s6
    wide_line
    wide_line with al lv6 l4 n4 H7 lv7 s7
    have np : l4 ≠ p := fun z => by subst z; exact absurd (lv6.free n4) (by rw [hp]; simp)
    refine Or.inl ⟨p, l4, r3, m3, _, rfl, np, lv7.get 4 rfl, ok3, .inl (SqL.of (lv7.get 0 rfl)), List.cons_ne_nil _ _, by show 12 ≤ 1000000; decide, fun r4 m4 x ok4 hx => ?_⟩
    wide_line with st lv7 4 H8 lv8
    have f1 := lv8.get 3 rfl
    have f2 := lv8.get 2 rfl
    have f3 := lv8.get 1 rfl
    have nf : ∀ {l : Addr}, (H l = none → l ∉ [p]) := fun {l} z y => by
      rw [List.mem_singleton] at y
      subst y
      rw [hp] at z
      cases z
    have g1 : H l1 = none := lv3.free n1
    have g2 : H l2 = none := lv4.free n2
    have g3 : H l3 = none := lv5.free n3
    have fin : ∀ d, Fit d → Dq K (grown R0 H H8) x d → Q x H8 := fun d fd hd => k r4 m4 x d H8 ok4 lv8.off (lv8.get 4 rfl) fd hd
    simp only [List.mem_cons, List.not_mem_nil, or_false] at hx
    rcases hx with rfl | rfl | rfl | rfl | rfl | rfl | rfl | rfl | rfl | rfl | rfl | rfl
    · exact fin .none ⟨sm_consts _ (by simp [consts]), trivial, fun y e => by cases e⟩ .non
    · exact fin (.int 5) ⟨sm_consts _ (by simp [consts]), trivial, fun y e => by cases e⟩ (.int 5)
    · exact fin _ (.str (fun c hc => nomatch (show c ∈ ([] : List Nat) from hc)) (by decide)) (.str _)
    · exact fin (.list [.str "a"]) ⟨sm_consts _ (by simp [consts]), trivial, fun y e => by cases e⟩ (.lst (SqL.of (grown_at g1 f1)) (.cons (.str _) .nil))
    · exact fin (.tuple [.str "a"]) ⟨sm_consts _ (by simp [consts]), trivial, fun y e => by cases e⟩ (.tup (SqT.of (grown_at g2 f2)) (.cons (.str _) .nil))
    · exact fin (.dict []) ⟨sm_consts _ (by simp [consts]), trivial, fun y e => by cases e⟩ (.dic (.inl (grown_at g3 f3)) rfl rfl .nil)
    · exact fin (.bool true) ⟨sm_consts _ (by simp [consts]), trivial, fun y e => by cases e⟩ (.bl true)
    · exact fin _ (.str small_lit (by decide)) (.str _)
    · exact fin _ (.name okw) (.str _)
    · exact fin _ (.str sb lb) (.str _)
    · exact fin _ (.str sb lb) (.str _)
    · exact fin _ (.str sb lb) (.str _)
end
end Pw

set_option Elab.async false
set_option linter.all false
set_option maxRecDepth 100000
set_option maxHeartbeats 4000000
namespace Pw
open PySem PySem.Spec PyProof.Rows L2 Ct
local macro_rules | `(tactic| wide_line) => `(tactic| repeat ((fail_if_success (with_reducible refine at_while ?_)); (fail_if_success (with_reducible refine at_while1 ?_)); (conv => whnf); first | ((with_reducible refine And.intro ?_ ?_); focus (first | (first | ((with_reducible show (_ : Nat) ≤ _); first | exact sz0 | exact sz1 | exact sz2 | exact sz3 | exact sz4 | exact sz5 | exact sz6 | exact sz7 | exact sz8 | exact sz10 | exact sz11 | exact sz12 | exact sz14 | omega | decide | (simp only [List.length_cons, List.length_nil]; omega)) | ((with_reducible show (_ : Int) ≤ _); first | omega | decide) | ((with_reducible show (_ : Int) < _); first | omega | decide) | ((with_reducible show (_ : Nat) < _); omega)) | ((fail_if_success (with_reducible show (_ : Nat) ≤ _)); (fail_if_success (with_reducible show (_ : Int) ≤ _)); (fail_if_success (with_reducible show (_ : Int) < _)); (fail_if_success (with_reducible show (_ : Nat) < _)); first | exact kv_str _ | exact kv_int _ | rfl | assumption | exact flat_strs _ | exact Lv.get (by assumption) 0 rfl | exact Lv.get (by assumption) 1 rfl | exact Lv.get (by assumption) 2 rfl | exact Lv.get (by assumption) 3 rfl | exact Lv.get (by assumption) 4 rfl | exact Lv.get (by assumption) 5 rfl | exact Lv.get (by assumption) 6 rfl | exact SqL.of (Lv.get (by assumption) 0 rfl) | exact SqL.of (Lv.get (by assumption) 1 rfl) | exact SqL.of (Lv.get (by assumption) 2 rfl) | exact SqL.of (Lv.get (by assumption) 3 rfl) | exact SqL.of (Lv.get (by assumption) 4 rfl) | exact SqL.of (Lv.get (by assumption) 5 rfl) | exact Or.inl (SqL.of (Lv.get (by assumption) 0 rfl)) | exact Or.inl (SqL.of (Lv.get (by assumption) 1 rfl)) | exact Or.inl (SqL.of (Lv.get (by assumption) 2 rfl)) | exact Or.inl (SqL.of (Lv.get (by assumption) 3 rfl)) | exact Or.inl (SqL.of (Lv.get (by assumption) 4 rfl)) | exact Or.inl (SqL.of (Lv.get (by assumption) 5 rfl)) | exact ⟨_, SqL.of (Lv.get (by assumption) 0 rfl)⟩ | exact ⟨_, SqL.of (Lv.get (by assumption) 1 rfl)⟩ | exact ⟨_, SqL.of (Lv.get (by assumption) 2 rfl)⟩ | exact ⟨_, SqL.of (Lv.get (by assumption) 3 rfl)⟩ | exact ⟨_, SqL.of (Lv.get (by assumption) 4 rfl)⟩ | exact ⟨_, SqL.of (Lv.get (by assumption) 5 rfl)⟩ | exact Or.inl ⟨_, SqL.of (Lv.get (by assumption) 0 rfl), rfl⟩ | exact Or.inl ⟨_, SqL.of (Lv.get (by assumption) 1 rfl), rfl⟩ | exact Or.inl ⟨_, SqL.of (Lv.get (by assumption) 2 rfl), rfl⟩ | exact Or.inl ⟨_, SqL.of (Lv.get (by assumption) 3 rfl), rfl⟩ | exact Or.inl ⟨_, SqL.of (Lv.get (by assumption) 4 rfl), rfl⟩ | exact Or.inl ⟨_, SqL.of (Lv.get (by assumption) 5 rfl), rfl⟩ | exact Or.inl ⟨rfl, _, SqL.of (Lv.get (by assumption) 0 rfl)⟩ | exact Or.inl ⟨rfl, _, SqL.of (Lv.get (by assumption) 1 rfl)⟩ | exact Or.inl ⟨rfl, _, SqL.of (Lv.get (by assumption) 2 rfl)⟩ | exact Or.inl ⟨rfl, _, SqL.of (Lv.get (by assumption) 3 rfl)⟩ | exact Or.inl ⟨rfl, _, SqL.of (Lv.get (by assumption) 4 rfl)⟩ | exact Or.inl ⟨rfl, _, SqL.of (Lv.get (by assumption) 5 rfl)⟩ | exact Or.inr (SqT.of (Lv.get (by assumption) 0 rfl)) | exact Or.inr (SqT.of (Lv.get (by assumption) 1 rfl)) | exact Or.inr (SqT.of (Lv.get (by assumption) 2 rfl)) | exact Or.inr (SqT.of (Lv.get (by assumption) 3 rfl)) | exact SqT.of (Lv.get (by assumption) 0 rfl) | exact SqT.of (Lv.get (by assumption) 1 rfl) | exact SqT.of (Lv.get (by assumption) 2 rfl) | exact dgetN (Lv.get (by assumption) 0 rfl) (by assumption) | exact dgetN (Lv.get (by assumption) 1 rfl) (by assumption) | exact dgetN (Lv.get (by assumption) 2 rfl) (by assumption) | exact dgetN (Lv.get (by assumption) 3 rfl) (by assumption) | exact dgetN (Lv.get (by assumption) 4 rfl) (by assumption) | exact Or.inl (by assumption) | exact Or.inr (by assumption) | decide | ((with_reducible show _ ∧ _); omega)))) | ((fail_if_success (with_reducible apply @Exists.intro (Nat → _))); (with_reducible apply Exists.intro))))
local macro_rules
  | `(tactic| wide_line with al $lv:ident $l:ident $nl:ident $H:ident $lv1:ident $s1:ident) => `(tactic| (intro $l:ident $nl:ident; generalize he : upd _ _ _ = $H:ident; have $lv1:ident := Lv.alE $lv $nl he; have $s1:ident := sameE $nl he; clear he; (try dsimp only at $lv1:ident)))
  | `(tactic| wide_line with alx $lv:ident $nl:ident $H:ident $lv1:ident $s1:ident) => `(tactic| (generalize he : upd _ _ _ = $H:ident; have $lv1:ident := Lv.alE $lv $nl he; have $s1:ident := sameE $nl he; clear he; (try dsimp only at $lv1:ident)))
  | `(tactic| wide_line with sts $lv:ident $i:num $H:ident $lv1:ident $s0:ident $np:ident $s1:ident) => `(tactic| (generalize he : upd _ _ _ = $H:ident; have $lv1:ident := Lv.stE $lv $i rfl he; have $s1:ident := sameN $s0 $np he; clear he; (try dsimp only at $lv1:ident)))
  | `(tactic| wide_line with stx $lv:ident $H:ident $lv1:ident $d1:ident) => `(tactic| (generalize he : upd _ _ _ = $H:ident; have $lv1:ident := Lv.stE $lv 0 rfl he; have $d1:ident := SameD.storeE (Lv.get $lv 0 rfl) he; clear he; (try dsimp only at $lv1:ident)))
  | `(tactic| wide_line with st $lv:ident $i:num $H:ident $lv1:ident) => `(tactic| (generalize he : upd _ _ _ = $H:ident; have $lv1:ident := Lv.stE $lv $i rfl he; clear he; (try dsimp only at $lv1:ident)))
  | `(tactic| wide_line with stk $lv:ident $i:num $H:ident $lv1:ident $k1:ident) => `(tactic| (generalize he : upd _ _ _ = $H:ident; have $lv1:ident := Lv.stE $lv $i rfl he; have $k1:ident := KeepT.st (Lv.get $lv $i rfl) he; clear he; (try dsimp only at $lv1:ident)))
/-! what is drawn to be asked: states of the bending -/
abbrev Fr (p : Addr) (H H' : Hp) : Prop := ∀ b o, b ≠ p → H b = some o → H' b = some o
/-- a list that stands apart from R, its things within R -/
def LS (K : PySem.W.Frag) (R H : Hp) (p : Addr) (v : V) (d : PyData) (n : Nat) : Prop := ∃ (a : Addr) (xs : List V) (ds : List PyData), v = .ref a ∧ a ≠ p ∧ d = .list ds ∧ H a = some (.lst xs) ∧ R a = none ∧ DqAll K R xs ds ∧ ds.length ≤ n ∧ ∀ e ∈ ds, Fit e
def ValOk (d : PyData) : Prop := (∀ ds, seqD d = some ds → ds.length ≤ 72 ∧ ∀ e ∈ ds, Fit e) ∧ (seqD d = none → Sm 3 400 d)
theorem ValOk.const {d : PyData} (e : seqD d = none) (h : d ∈ consts) : ValOk d := ⟨fun ds z => (by rw [e] at z; cases z), fun _ => sm_consts d h⟩
def AV (K : PySem.W.Frag) (R H : Hp) (p : Addr) (v : V) (d : PyData) (n : Nat) : Prop := LS K R H p v d n ∨ ((∀ ds, d ≠ .list ds) ∧ Dq K R v d ∧ ValOk d)
theorem AV.dq {K : PySem.W.Frag} {R H : Hp} {p : Addr} {v : V} {d : PyData} {n : Nat} (h : AV K R H p v d n) (s : Same R H) : Dq K H v d := by
  rcases h with ⟨a, xs, ds, e1, _, e2, ha, _, dq, _⟩ | ⟨_, h, _⟩
  · subst e1 e2
    exact .lst (SqL.of ha) (dq.same s)
  · exact h.same s
def isL : PyData → Bool
  | .list _ => true
  | _ => false
theorem kit_isL (d : PyData) : kitB (dty d) "list" = some (isL d) := (kit_list d).trans (by cases d <;> rfl)
theorem isL_no {d : PyData} (h : ∀ es, d ≠ .list es) : isL d = false := by
  cases d with
  | list es => exact absurd rfl (h es)
  | _ => rfl
def Dis (v tv : V) (d td : PyData) : Prop := ∀ ds es, d = .list ds → td = .list es → v ≠ tv
structure Bst (Z : Hp) (p : Addr) (R H : Hp) : Prop where
  old : Fr p Z R
  src : ∃ r m, H p = some (.lst [.int r, .int m]) ∧ SrcOk r m
  sub : Same R H
  off : R p = none
section
variable {K : PySem.W.Frag} {Z R R' H H' : Hp} {p : Addr} {v tv : V} {d td : PyData} {n m : Nat}
theorem LS.grow (h : LS K R H p v d n) (s : Same R R') (o : ∀ b u, H b = some u → R' b = R b) (f : Fr p H H') (le : n ≤ m) : LS K R' H' p v d m := by
  obtain ⟨a, xs, ds, e1, ne, e2, ha, na, dq, l, ft⟩ := h
  exact ⟨a, xs, ds, e1, ne, e2, f a _ ne ha, (o a _ ha).trans na, dq.same s, Nat.le_trans l le, ft⟩
theorem AV.grow (h : AV K R H p v d n) (s : Same R R') (o : ∀ b u, H b = some u → R' b = R b) (f : Fr p H H') (le : n ≤ m) : AV K R' H' p v d m := by
  rcases h with h | ⟨h1, h2, h3⟩
  · exact .inl (h.grow s o f le)
  · exact .inr ⟨h1, h2.same s, h3⟩
/-- nothing for R -/
theorem LS.step (h : LS K R H p v d n) (f : Fr p H H') (le : n ≤ m) : LS K R H' p v d m := h.grow (.refl _) (fun _ _ _ => rfl) f le
theorem AV.step (h : AV K R H p v d n) (f : Fr p H H') (le : n ≤ m) : AV K R H' p v d m := h.grow (.refl _) (fun _ _ _ => rfl) f le
theorem LS.more (h : LS K R H p v d n) (s : Same R H) (f : Fr p H H') (le : n ≤ m) : LS K (grown R H H') H' p v d m := h.grow (grown_up s) (fun b u e => grown_old e) f le
theorem AV.more (h : AV K R H p v d n) (s : Same R H) (f : Fr p H H') (le : n ≤ m) : AV K (grown R H H') H' p v d m := h.grow (grown_up s) (fun b u e => grown_old e) f le
theorem Bst.step (h : Bst Z p R H) (f : Fr p H H') (hp : ∃ r m, H' p = some (.lst [.int r, .int m]) ∧ SrcOk r m) : Bst Z p R H' := ⟨h.old, hp, fun b o e => f b o (fun z => by rw [z, h.off] at e; cases e) (h.sub b o e), h.off⟩
theorem Bst.more (h : Bst Z p R H) (f : Fr p H H') (hp : ∃ r m, H' p = some (.lst [.int r, .int m]) ∧ SrcOk r m) : Bst Z p (grown R H H') H' := by
  obtain ⟨r, m, e, _⟩ := h.src
  exact ⟨fun b o n z => grown_up h.sub b o (h.old b o n z), hp, grown_sub h.sub h.off f, (grown_old e).trans h.off⟩
theorem Bst.nil (h : Bst Z p R H) {a : Addr} (na : H a = none) : R a = none := free_of h.sub na
theorem dis_new {a : Addr} {tv : V} (na : H a = none) (h : AV K R H p tv td n) : Dis (.ref a) tv d td := fun ds es _ e z => by
  rcases h with ⟨b, xs, es', e1, _, _, hb, _⟩ | ⟨h, _⟩
  · rw [e1] at z
    cases z
    rw [hb] at na
    cases na
  · exact h es e
theorem dis_new' {a : Addr} {v : V} (na : H a = none) (h : AV K R H p v d n) : Dis v (.ref a) d td := fun ds es e _ z => by
  rcases h with ⟨b, xs, es', e1, _, _, hb, _⟩ | ⟨h, _⟩
  · rw [e1] at z
    cases z
    rw [hb] at na
    cases na
  · exact h ds e
theorem dis_not {v tv : V} (h : ∀ ds, d ≠ .list ds) : Dis v tv d td := fun ds _ e _ => absurd e (h ds)
theorem dis_not' {v tv : V} (h : ∀ ds, td ≠ .list ds) : Dis v tv d td := fun _ es _ e => absurd e (h es)
theorem dqAll_app : ∀ {xs ys : List V} {ds es : List PyData}, DqAll K H xs ds → DqAll K H ys es → DqAll K H (xs ++ ys) (ds ++ es)
  | _, _, _, _, .nil, h => h
  | _, _, _, _, .cons a t, h => .cons a (dqAll_app t h)
theorem dqAll_take : ∀ {xs : List V} {ds : List PyData} (i : Nat), DqAll K H xs ds → DqAll K H (xs.take i) (ds.take i)
  | _, _, 0, _ => by rw [List.take_zero, List.take_zero]; exact .nil
  | _, _, i + 1, .nil => by rw [List.take_nil, List.take_nil]; exact .nil
  | _, _, i + 1, .cons a t => by rw [List.take_succ_cons, List.take_succ_cons]; exact .cons a (dqAll_take i t)
theorem dqAll_drop : ∀ {xs : List V} {ds : List PyData} (i : Nat), DqAll K H xs ds → DqAll K H (xs.drop i) (ds.drop i)
  | _, _, 0, h => h
  | _, _, i + 1, .nil => by rw [List.drop_nil, List.drop_nil]; exact .nil
  | _, _, i + 1, .cons a t => by rw [List.drop_succ_cons, List.drop_succ_cons]; exact dqAll_drop i t
/-- the list behind put -/
theorem LS.put {l : Addr} {xs : List V} {ds : List PyData} {x : V} {e : PyData} {i j : Nat} (ne : l ≠ p) (hl : H' l = some (.lst (xs.take i ++ [x] ++ xs.drop j))) (nl : R l = none) (dq : DqAll K R xs ds) (hx : Dq K R x e) (le : ds.length ≤ n) (ij : i ≤ j) (ft : ∀ e ∈ ds, Fit e) (fe : Fit e) :
    LS K R H' p (.ref l) (.list (ds.take i ++ [e] ++ ds.drop j)) (n + 1) := by
  refine ⟨l, _, _, rfl, ne, rfl, hl, nl, dqAll_app (dqAll_app (dqAll_take i dq) (.cons hx .nil)) (dqAll_drop j dq), ?_, fun y hy => ?_⟩
  · rw [List.length_append, List.length_append, List.length_take, List.length_drop, List.length_singleton]
    omega
  · rcases List.mem_append.mp hy with hy | hy
    · rcases List.mem_append.mp hy with hy | hy
      · exact ft y (List.mem_of_mem_take hy)
      · rw [List.mem_singleton.mp hy]; exact fe
    · exact ft y (List.mem_of_mem_drop hy)
end
/-- a test that changes nothing -/
def Pt (t : TT) (σ : L2.St) (H : Hp) (b : Bool) : Prop := ∀ Q : Bool → Hp → Prop, Q b H → t σ H Q
theorem dec_int {a b : Int} : decide (V.int a = V.int b) = decide (a = b) := decide_eq_decide.mpr ⟨fun z => V.int.inj z, fun z => congrArg V.int z⟩
theorem pt_is {σ : L2.St} {H : Hp} {i : Nat} {a j : Int} (e : σ[i]? = some (some (.int a))) : Pt (tTest (tOp rEq (tVar i) (tC (.int j)))) σ H (decide (a = j)) := fun Q q => ⟨_, e, rfl, _, rfl, by rw [dec_int]; exact q⟩
theorem pt_or {t u : TT} {σ : L2.St} {H : Hp} {a b : Bool} (ht : Pt t σ H a) (hu : Pt u σ H b) : Pt (tOr t u) σ H (a || b) := fun Q q => ht _ (by
  cases a with
  | true => exact iteT q
  | false => exact iteF (hu _ q))
theorem pt_and {t u : TT} {σ : L2.St} {H : Hp} {a b : Bool} (ht : Pt t σ H a) (hu : Pt u σ H b) : Pt (tAnd t u) σ H (a && b) := fun Q q => ht _ (by
  cases a with
  | true => exact iteT (hu _ q)
  | false => exact iteF q)
theorem pt_ifs {c : TT} {a b : TS} {D : Ends} {σ : L2.St} {H : Hp} {k : Bool} (h : Pt c σ H k) (h1 : k = true → a D σ H) (h2 : k = false → b D σ H) : tIfS c a b D σ H := h _ (by
  cases k with
  | true => exact iteT (h1 rfl)
  | false => exact iteF (h2 rfl))
section
variable {K : PySem.W.Frag} {R R' H H' : Hp} {p : Addr} {v tv : V} {d td : PyData} {n m : Nat}
/-- the ties as they were made -/
def TX (H : Hp) (tv : V) : Prop := ∃ (b : Addr) (xs : List V) (ts : List (Str × Str)), tv = .ref b ∧ H b = some (.lst xs) ∧ TiesT H xs ts ∧ ∀ t ∈ ts, okTie t
theorem TX.step {H H' : Hp} {p : Addr} {tv : V} (h : TX H tv) (f : Fr p H H') {r m : Int} (hp : H p = some (.lst [.int r, .int m])) (ne : ∀ b, tv = .ref b → b ≠ p) : TX H' tv := by
  obtain ⟨b, xs, ts, e, hb, ht, ok⟩ := h
  refine ⟨b, xs, ts, e, f b _ (ne b e) hb, ht.keep fun c o hc => f c _ (fun z => ?_) hc, ok⟩
  rw [z, hp] at hc
  cases hc
end
/-- the state between two bendings -/
def BJ (K : PySem.W.Frag) (p : Addr) (H0 : Hp) (kd : Int) (one two : Str) (n m : Nat) (W : Prop) (σ : L2.St) (H : Hp) : Prop := Hold (∃ (R : Hp) (v tv : V) (d td : PyData) (s6 : Option V), σ = [some (.ref p), some v, some tv, some (.int kd), some (.str one), some (.str two), s6] ∧
  Fr p H0 H ∧ Bst H0 p R H ∧ AV K R H p v d n ∧ (W → LS K R H p v d n) ∧ AV K R H p tv td m ∧ (kd = 9 ∨ kd = 6 → LS K R H p tv td m) ∧ (m ≤ 68 → kd = 6 → TX H tv) ∧ Dis v tv d td)
theorem BJ.mono {K : PySem.W.Frag} {p : Addr} {H0 H : Hp} {kd : Int} {one two : Str} {n m n' m' : Nat} {W W' : Prop} {σ : L2.St} (h : BJ K p H0 kd one two n m W σ H) (a : n ≤ n') (b : m ≤ m') (wi : W' → W) : BJ K p H0 kd one two n' m' W' σ H := by
  obtain ⟨R, v, tv, d, td, s6, eσ, fr, bs, av, lsp, atv, lst_, tx, dis⟩ := h
  have f : Fr p H H := fun _ _ _ e => e
  exact ⟨R, v, tv, d, td, s6, eσ, fr, bs, av.step f a, fun z => (lsp (wi z)).step f a, atv.step f b, fun z => (lst_ z).step f b, fun y => tx (Nat.le_trans b y), dis⟩
section
variable {K : PySem.W.Frag} {p : Addr} {Z H0 H H' R R' : Hp} {kd : Int} {one two : Str} {n m n' m' : Nat} {v tv v' tv' : V} {d td d' td' : PyData} {s6 : Option V} {W : Prop}
theorem Fr.of (s : Same H H') : Fr p H H' := fun b o _ e => s b o e
theorem Fr.trans {H'' : Hp} (f : Fr p H H') (g : Fr p H' H'') : Fr p H H'' := fun b o ne e => g b o ne (f b o ne e)
theorem TX.frame (h : TX H tv) (l : LS K R H p tv td m) (f : Fr p H H') (bs : Bst Z p R H) : TX H' tv := by
  obtain ⟨r, m, hp, _⟩ := bs.src
  obtain ⟨a, _, _, e, ne, _⟩ := l
  exact h.step f hp fun b z => by rw [e] at z; cases z; exact ne
theorem nil_off {a : Addr} {H1 H2 : Hp} (f : Fr p H H1) (hp : H1 p ≠ none) (na : H1 a = none) : H a = none := by
  cases e : H a with
  | none => rfl
  | some o =>
    by_cases c : a = p
    · subst c; exact absurd na hp
    · rw [f a o c e] at na; cases na
theorem BJ.setP (fr : Fr p H0 H) (bs : Bst H0 p R H) (atv : AV K R H p tv td m) (lst_ : kd = 9 ∨ kd = 6 → LS K R H p tv td m) (tx : m ≤ 68 → kd = 6 → TX H tv) (s : Same R R') (o : ∀ b u, H b = some u → R' b = R b) (f : Fr p H H') (bs' : Bst H0 p R' H')
    (av : AV K R' H' p v' d' n') (ls : W → LS K R' H' p v' d' n') (dis : Dis v' tv d' td) (le : m ≤ m') : BJ K p H0 kd one two n' m' W [some (.ref p), some v', some tv, some (.int kd), some (.str one), some (.str two), s6] H' :=
  ⟨R', v', tv, d', td, s6, rfl, Fr.trans fr f, bs', av, ls, atv.grow s o f le, fun z => (lst_ z).grow s o f le, fun y z => (tx (Nat.le_trans le y) z).frame (lst_ (.inr z)) f bs, dis⟩
theorem BJ.setT (fr : Fr p H0 H) (av : AV K R H p v d n) (lsp : W → LS K R H p v d n) (s : Same R R') (o : ∀ b u, H b = some u → R' b = R b) (f : Fr p H H') (bs' : Bst H0 p R' H')
    (atv : AV K R' H' p tv' td' m') (ls : kd = 9 ∨ kd = 6 → LS K R' H' p tv' td' m') (tx : m' ≤ 68 → kd = 6 → TX H' tv') (dis : Dis v tv' d td') (le : n ≤ n') : BJ K p H0 kd one two n' m' W [some (.ref p), some v, some tv', some (.int kd), some (.str one), some (.str two), s6] H' :=
  ⟨R', v, tv', d, td', s6, rfl, Fr.trans fr f, bs', av.grow s o f le, fun z => (lsp z).grow s o f le, atv, ls, tx, dis⟩
theorem not_p {a : Addr} {r m : Int} (hp : H p = some (.lst [.int r, .int m])) (na : H a = none) : a ≠ p := fun z => by subst z; rw [hp] at na; cases na
end
theorem BJ.step {K : PySem.W.Frag} {p : Addr} {H0 H H' : Hp} {kd : Int} {one two : Str} {n m : Nat} {W : Prop} {σ : L2.St} (h : BJ K p H0 kd one two n m W σ H) (f : Fr p H H') (hp : ∃ r m, H' p = some (.lst [.int r, .int m]) ∧ SrcOk r m) : BJ K p H0 kd one two n m W σ H' := by
  obtain ⟨R, v, tv, d, td, s6, eσ, fr, bs, av, lsp, atv, lst_, tx, dis⟩ := h
  exact ⟨R, v, tv, d, td, s6, eσ, Fr.trans fr f, bs.step f hp, av.step f (Nat.le_refl _), fun z => (lsp z).step f (Nat.le_refl _), atv.step f (Nat.le_refl _), fun z => (lst_ z).step f (Nat.le_refl _), fun y z => (tx y z).frame (lst_ (.inr z)) f bs, dis⟩
theorem inV_ints (a : Int) : ∀ js : List Int, inV (.int a) (js.map V.int) = decide (a ∈ js)
  | [] => (decide_eq_false (fun z => nomatch z)).symm
  | j :: js => by
    have ih := inV_ints a js
    unfold inV at ih ⊢
    rw [List.map_cons, List.any_cons, ih, Bool.eq_iff_iff, Bool.or_eq_true, decide_eq_true_eq, decide_eq_true_eq, List.mem_cons]
    show (j == a) = true ∨ _ ↔ _
    rw [beq_iff_eq]
    exact ⟨fun z => z.imp Eq.symm id, fun z => z.imp Eq.symm id⟩
theorem sm_pair {x y : Str} (hx : okName x = true) (hy : okName y = true) : Sm 1 172 (.tuple [.str x, .str y]) := by
  have h := Sm.tuple (k := 0) (m := 82) (n := 2) (ds := [.str x, .str y]) (fun d hd => ?_) (Nat.le_refl 2)
  · exact h
  · rcases List.mem_cons.mp hd with z | z
    · rw [z]; exact Sm.str (small_name hx) (name_len hx)
    · rw [List.mem_singleton.mp z]; exact Sm.str (small_name hy) (name_len hy)
theorem sm_dict1 {x y : Str} (hx : okName x = true) (hy : okName y = true) : Sm 3 400 (.dict [(.tuple [.str x, .str y], .int 1)]) := by
  obtain ⟨h1, h2, h3⟩ := sm_pair hx hy
  have i1 : (PyData.int 1).showable = true ∧ (PyData.int 1).depth ≤ 0 ∧ (PyData.int 1).shown.length ≤ 1 := by decide +kernel
  refine ⟨by rw [PyData.showable, PyData.showableKv, PyData.showableKv, h1, i1.1]; rfl, by rw [PyData.depth, PyData.depthKv, PyData.depthKv]; omega, ?_⟩
  rw [PyData.shown, PyData.shownKv, PyData.shownKv]
  unfold dictText
  rw [strLen_append, strLen_append]
  have e : (Str.join ", " [(PyData.tuple [.str x, .str y]).shown ++ ": " ++ (PyData.int 1).shown]).length = (PyData.tuple [.str x, .str y]).shown.length + 2 + (PyData.int 1).shown.length := by
    show ((PyData.tuple [.str x, .str y]).shown ++ ": " ++ (PyData.int 1).shown).length = _
    rw [strLen_append, strLen_append]
    rfl
  rw [e]
  have e1 : (("{" : String) : Str).length = 1 := rfl
  have e2 : (("}" : String) : Str).length = 1 := rfl
  omega
theorem sm_txt {x : Str} (h : okName x = true) : Sm 1 100 (.str x) := (Sm.str (small_name h) (name_len h)).mono (by decide) (by decide)
theorem sm_none : Sm 1 100 .none := by unfold Sm; decide +kernel
theorem sm_five : Sm 1 100 (.int 5) := by unfold Sm; decide +kernel
theorem sm_la : Sm 1 100 (.list [.str "a"]) := by unfold Sm; decide +kernel
theorem fit_tup {ds : List PyData} (h : ∀ d ∈ ds, Sm 1 100 d) (l : ds.length ≤ 3) (t : plainTie (.tuple ds)) : Fit (.tuple ds) := ⟨(Sm.tuple h l).mono (by decide) (by decide), t, fun _ z => nomatch z⟩
theorem fit_lst {ds : List PyData} (h : ∀ d ∈ ds, Sm 1 100 d) (l : ds.length ≤ 3) : Fit (.list ds) := ⟨(Sm.list h l).mono (by decide) (by decide), trivial, fun _ z => nomatch z⟩
theorem fit_two {x y : Str} (hx : okName x = true) (hy : okName y = true) : Fit (.tuple [.str x, .str y]) := ⟨(sm_pair hx hy).mono (by decide) (by decide), ⟨rfl, rfl⟩, fun _ z => nomatch z⟩
theorem few_ties {ns : List Str} {ts : List (Str × Str)} (pk : PlanOk 12 ns ts) : ts.length ≤ 66 := by
  have h := nodup_len (ns := ((List.range 12).flatMap fun j => (List.range j).map fun i => (i, j)).map fun q => pairS (ns.getD q.1 "") (ns.getD q.2 "")) pk.dif fun x hx => ?_
  · rw [List.length_map, List.length_map] at h
    exact Nat.le_trans h (by decide +kernel)
  · obtain ⟨t, ht, rfl⟩ := List.mem_map.mp hx
    obtain ⟨m1, m2, ne⟩ := pk.tie t ht
    obtain ⟨i, hi⟩ := List.getElem?_of_mem m1
    obtain ⟨j, hj⟩ := List.getElem?_of_mem m2
    have li := (List.getElem?_eq_some_iff.mp hi).1
    have lj := (List.getElem?_eq_some_iff.mp hj).1
    have mo := pk.most
    have ei : ns.getD i "" = t.1 := by rw [List.getD_eq_getElem?_getD, hi]; rfl
    have ej : ns.getD j "" = t.2 := by rw [List.getD_eq_getElem?_getD, hj]; rfl
    have nij : i ≠ j := fun z => by subst z; rw [hi] at hj; exact ne (Option.some.inj hj)
    by_cases c : i < j
    · exact List.mem_map.mpr ⟨(i, j), mem_pairs12 (by decide) ⟨c, by show j < 12; omega⟩, by dsimp only; rw [ei, ej]; rfl⟩
    · exact List.mem_map.mpr ⟨(j, i), mem_pairs12 (by decide) ⟨by show j < i; omega, by show i < 12; omega⟩, by dsimp only; rw [ei, ej, pairS_sw]; rfl⟩
/-- the tuples of a heap alone -/
def tupsOf (H : Hp) : Hp := fun b => match H b with
  | some (.tup ys) => some (.tup ys)
  | _ => none
theorem tupsOf_at {H : Hp} {b : Addr} {o : HO} (e : tupsOf H b = some o) : ∃ zs, o = .tup zs ∧ H b = some (.tup zs) := by
  unfold tupsOf at e
  split at e
  · rename_i ys h
    cases e
    exact ⟨ys, rfl, h⟩
  · cases e
theorem tupsOf_tup {H : Hp} {b : Addr} {zs : List V} (h : H b = some (.tup zs)) : tupsOf H b = some (.tup zs) := by unfold tupsOf; rw [h]
theorem dq_tups {K : PySem.W.Frag} {H : Hp} : ∀ {xs : List V} {ts : List (Str × Str)}, TiesT H xs ts → DqAll K (tupsOf H) xs (ts.map tieDat)
  | _, _, .nil => .nil
  | _, _, .cons ⟨a, e, h⟩ t => .cons (by subst e; exact .tup (SqT.of (tupsOf_tup h)) (.cons (.str _) (.cons (.str _) .nil))) (dq_tups t)
/-- what stood, off p, and the new tuples -/
def baseR (Z : Hp) (p : Addr) (H : Hp) : Hp := fun b => if b = p then none else match Z b with
  | some o => some o
  | none => tupsOf H b
theorem baseR_old {Z H : Hp} {p b : Addr} {o : HO} (nb : b ≠ p) (e : Z b = some o) : baseR Z p H b = some o := by unfold baseR; rw [if_neg nb, e]
theorem baseR_at {Z H : Hp} {p b : Addr} {o : HO} (f : Fr p Z H) (e : baseR Z p H b = some o) : b ≠ p ∧ H b = some o := by
  by_cases c : b = p
  · subst c
    have : baseR Z b H b = none := if_pos rfl
    rw [this] at e
    cases e
  · refine ⟨c, ?_⟩
    cases z : Z b with
    | some u =>
      rw [baseR_old c z] at e
      rw [← e]
      exact f b u c z
    | none =>
      have e : tupsOf H b = some o := by unfold baseR at e; rw [if_neg c, z] at e; exact e
      obtain ⟨zs, rfl, hb⟩ := tupsOf_at e
      exact hb
theorem baseR_no {Z H : Hp} {p b : Addr} (f : Fr p Z H) (e : H b = none) (c : b ≠ p) : baseR Z p H b = none := by
  cases z : baseR Z p H b with
  | none => rfl
  | some o => rw [(baseR_at f z).2] at e; cases e
theorem baseR_tup {Z H : Hp} {p a : Addr} {r m : Int} {zs : List V} (f : Fr p Z H) (hp : H p = some (.lst [.int r, .int m])) (h : H a = some (.tup zs)) : baseR Z p H a = some (.tup zs) := by
  have c : a ≠ p := fun z => by subst z; rw [hp] at h; cases h
  cases z : Z a with
  | some u =>
    rw [baseR_old c z]
    rw [f a u c z] at h
    exact h
  | none => unfold baseR; rw [if_neg c, z]; exact tupsOf_tup h
theorem dq_base {K : PySem.W.Frag} {Z H : Hp} {p : Addr} {r m : Int} (f : Fr p Z H) (hp : H p = some (.lst [.int r, .int m])) : ∀ {xs : List V} {ts : List (Str × Str)}, TiesT H xs ts → DqAll K (baseR Z p H) xs (ts.map tieDat)
  | _, _, .nil => .nil
  | _, _, .cons ⟨a, e, h⟩ t => .cons (by subst e; exact .tup (SqT.of (baseR_tup f hp h)) (.cons (.str _) (.cons (.str _) .nil))) (dq_base f hp t)
/-- bent(source) -/
def spBent (K : PySem.W.Frag) : Sp := fun vs H Q _ => ∃ (p : Addr) (r m : Int), vs = [.ref p] ∧ H p = some (.lst [.int r, .int m]) ∧ SrcOk r m ∧
  ∀ (t : Addr) (R : Hp) (v tv : V) (d td : PyData) (H' : Hp), Fr p H H' → Bst H p R H' → AV K R H' p v d 26 → AV K R H' p tv td 69 → Dis v tv d td → H t = none → H' t = some (.tup [v, tv]) → Q (.ref t) H'
section
variable {P : Program} {w : World} {K : PySem.W.Frag} {mg : Str → Option Value} {base : Heap}
abbrev sLawBent : Stmt := top ix_law_bent
theorem scLawBent : FnScope ["source", "places", "ties", "kind", "one", "two", "some"] ["source"] (defScope sLawBent) := ⟨rfl, rfl, rfl, by decide +kernel, rfl, by decide +kernel, by decide +kernel⟩
theorem has_law_bent (T : Bn mg) (D : DFE K mg "_law_bent" sLawBent ["source"]) (h_law_draw : Has P w K mg base CX0 1 "_law_draw" ["source", "span"] spDraw) (h_law_pick : Has P w K mg base CX0 2 "_law_pick" ["source", "things"] (spPick2 K)) (h_law_plan : Has P w K mg base CX0 5 "_law_plan" ["source", "most"] spPlan)
    (h_law_names : Has P w K mg base CX0 4 "_law_names" ["source", "many"] spNames) (h_law_put : Has P w K mg base CX0 2 "_law_put" ["source", "things", "thing"] (spPut K)) (h_law_odd_name : Has P w K mg base CX0 4 "_law_odd_name" ["source"] (spOdd K)) : Has P w K mg base CX0 6 "_law_bent" ["source"] (spBent K) := by
  refine has_of D scLawBent (fun vs H Q E h => ?_) (fun f cdv A outer s H vs Q E hr h => ?_)
  · obtain ⟨p, r, m, rfl, _⟩ := h; rfl
  · obtain ⟨p, r, m, rfl, hp, ok, k⟩ := h
    have nd := scLawBent.nd
    refine ⟨_, (pss_cons (ps_asg (pe_h h_law_plan hr (by decide) rfl (pa_cons (pv 0) (pa_cons pe_int pa_nil))) (pg_tup (n := 2) rfl (pgs_cons (pg_name (i := 1) nd rfl (by first | exact Or.inl rfl | exact Or.inr rfl)) (pgs_cons (pg_name (i := 2) nd rfl (by first | exact Or.inl rfl | exact Or.inr rfl)) pgs_nil))))
    (pss_cons (ps_par (i := 1) (j := 2) (by rfl) nd rfl rfl (by decide) rfl rfl (pa_cons (pe_callTy call_list_of (by rfl) T.z_list (by decide +kernel) (pa_cons (pv 1) pa_nil)) (pa_cons (pe_callTy call_list_of (by rfl) T.z_list (by decide +kernel) (pa_cons (pv 2) pa_nil)) pa_nil)) (by rfl))
    (pss_cons (ps_par3 (i := 3) (j := 4) (l := 5) (by rfl) nd rfl rfl rfl (by decide) (by decide) (by decide) rfl rfl rfl (pa_cons (pe_h h_law_draw hr (by decide) rfl (pa_cons (pv 0) (pa_cons pe_int pa_nil))) (pa_cons (pe_h h_law_pick hr (by decide) rfl (pa_cons (pv 0) (pa_cons (pv 1) pa_nil))) (pa_cons (pe_h h_law_pick hr (by decide) rfl (pa_cons (pv 0) (pa_cons (pv 1) pa_nil))) pa_nil))) (by rfl))
    (pss_cons (ps_join (ps_if (PW.pt (pw_or (pt_cmpR op_eq (pv 3) pe_int (by first | exact nomark _ | rfl)) (pw_or1 (pt_cmpR op_eq (pv 3) pe_int (by first | exact nomark _ | rfl))))) (pss_one (ps_sv 1 nd (pe_h h_law_put hr (by decide) rfl (pa_cons (pv 0) (pa_cons (pv 1) (pa_cons (pe_h h_law_odd_name hr (by decide) rfl (pa_cons (pv 0) pa_nil)) pa_nil)))))) pss_nil))
    (pss_cons (ps_join (ps_if (pt_cmpR op_eq (pv 3) pe_int (by first | exact nomark _ | rfl)) (pss_one (ps_sv 1 nd (pe_op op_cat (pv 1) (pe_slice sl_list (pe_h h_law_names hr (by decide) rfl (pa_cons (pv 0) (pa_cons pe_int pa_nil))) po_none (po_some (pe_h h_law_draw hr (by decide) rfl (pa_cons (pv 0) (pa_cons pe_int pa_nil)))))))) pss_nil))
    (pss_cons (ps_join (ps_if (pt_cmpR op_eq (pv 3) pe_int (by first | exact nomark _ | rfl)) (pss_one (ps_sv 1 nd (pe_h h_law_pick hr (by decide) rfl (pa_cons (pv 0) (pa_cons (pe_lst (pa_cons pe_non (pa_cons pe_str (pa_cons pe_dnewK (pa_cons pe_int (pa_cons (pe_lst pa_nil) (pa_cons (pe_tup pa_nil) (pa_cons pe_str (pa_cons (pe_disp (pps_cons pe_str pe_int pps_nil) (by rfl) (by rfl) (fun z => by cases z) (by decide)) (pa_cons (pe_op op_cat (pv 1) (pe_lst (pa_cons (pv 4) pa_nil))) (pa_cons (pe_op op_rep (pe_lst (pa_cons pe_str pa_nil)) pe_int) pa_nil))))))))))) pa_nil))))) pss_nil))
    (pss_cons (ps_join (ps_if (PW.pt (pw_or (pt_cmpR op_eq (pv 3) pe_int (by first | exact nomark _ | rfl)) (pw_or1 (PW.pt (pw_and (pt_cmpR op_in_seq (pv 3) (pe_tup (pa_cons pe_int (pa_cons pe_int pa_nil))) (by first | exact nomark _ | rfl)) (pw_and1 (pt_cmpR op_eq (pe_h h_law_draw hr (by decide) rfl (pa_cons (pv 0) (pa_cons pe_int pa_nil))) pe_int (by first | exact nomark _ | rfl)))))))) (pss_one (ps_sv 2 nd (pe_h h_law_pick hr (by decide) rfl (pa_cons (pv 0) (pa_cons (pe_lst (pa_cons pe_non (pa_cons pe_str (pa_cons pe_dnewK (pa_cons pe_int (pa_cons (pe_dispT (hu_of hr) (pe_tup (pa_cons (pv 4) (pa_cons (pv 5) pa_nil))) pe_int) (pa_cons (pe_tup (pa_cons pe_str (pa_cons pe_str pa_nil))) pa_nil))))))) pa_nil))))) pss_nil))
    (pss_cons (ps_join (ps_if (PW.pt (pw_and (pt_cmpR op_in_seq (pv 3) (pe_tup (pa_cons pe_int (pa_cons pe_int (pa_cons pe_int (pa_cons pe_int pa_nil))))) (by first | exact nomark _ | rfl)) (pw_and1 (pt_val (pe_callB call_isD (by rfl) T.z_isinstance (by decide +kernel) (pa_cons (pv 2) (pa_cons (pe_bltn (v := .ty "list") rfl T.z_list (by decide +kernel) rfl) pa_nil))))))) (pss_cons (ps_sv 6 nd (pe_lst (pa_cons (pe_tup (pa_cons (pv 4) (pa_cons (pv 5) pa_nil))) (pa_cons (pe_tup (pa_cons (pv 5) (pa_cons (pv 4) pa_nil))) (pa_cons (pe_lst (pa_cons (pv 4) (pa_cons (pv 5) pa_nil))) (pa_cons (pe_tup (pa_cons (pv 4) pa_nil)) (pa_cons (pe_tup (pa_cons (pv 4) (pa_cons (pv 5) (pa_cons (pv 4) pa_nil)))) (pa_cons (pe_tup (pa_cons (pv 4) (pa_cons pe_str pa_nil))) (pa_cons (pe_tup (pa_cons pe_str (pa_cons (pv 4) pa_nil))) (pa_cons pe_non (pa_cons pe_str (pa_cons pe_dnewK pa_nil))))))))))))
    (pss_one (ps_sv 2 nd (pe_h h_law_put hr (by decide) rfl (pa_cons (pv 0) (pa_cons (pv 2) (pa_cons (pe_h h_law_pick hr (by decide) rfl (pa_cons (pv 0) (pa_cons (pe_op op_cat (pv 6) (pe_lst (pa_cons (pe_tup (pa_cons (pv 4) (pa_cons (pv 4) pa_nil))) (pa_cons (pe_tup (pa_cons (pv 4) (pa_cons pe_non pa_nil))) (pa_cons (pe_tup (pa_cons (pe_lst (pa_cons pe_str pa_nil)) (pa_cons (pv 4) pa_nil))) (pa_cons (pe_tup (pa_cons (pv 4) (pa_cons pe_int pa_nil))) (pa_cons (pe_tup pa_nil) pa_nil))))))) pa_nil))) pa_nil))))))) pss_nil))
    (pss_cons (ps_join (ps_if (pt_cmpR op_eq (pv 3) pe_int (by first | exact nomark _ | rfl)) (pss_one (ps_sv 2 nd (pe_h h_law_put hr (by decide) rfl (pa_cons (pv 0) (pa_cons (pv 2) (pa_cons (pe_h h_law_pick hr (by decide) rfl (pa_cons (pv 0) (pa_cons (pe_lst (pa_cons (pe_tup (pa_cons (pv 5) (pa_cons (pv 4) pa_nil))) (pa_cons pe_non (pa_cons (pe_tup (pa_cons (pv 5) (pa_cons pe_str pa_nil))) pa_nil)))) pa_nil))) pa_nil)))))) pss_nil))
    (pss_cons (ps_join (ps_if (PW.pt (pw_and (pt_cmpR op_eq (pv 3) pe_int (by first | exact nomark _ | rfl)) (pw_and1 (pt_cmpR (op_neNil hr.units) (pv 2) (pe_lst pa_nil) (by first | exact nomark _ | rfl))))) (pss_one (ps_sv 2 nd (pe_h h_law_put hr (by decide) rfl (pa_cons (pv 0) (pa_cons (pv 2) (pa_cons (pe_back (pe_h h_law_pick hr (by decide) rfl (pa_cons (pv 0) (pa_cons (pv 2) pa_nil)))) pa_nil)))))) pss_nil))
    (pss_cons (ps_join (ps_sv 1 nd (pe_ifExp (PW.pt (pw_and (pt_val (pe_callB call_isD (by rfl) T.z_isinstance (by decide +kernel) (pa_cons (pv 1) (pa_cons (pe_bltn (v := .ty "list") rfl T.z_list (by decide +kernel) rfl) pa_nil)))) (pw_and1 (pt_cmpR op_eq (pe_h h_law_draw hr (by decide) rfl (pa_cons (pv 0) (pa_cons pe_int pa_nil))) pe_int (by first | exact nomark _ | rfl))))) (pe_callTy call_tuple_of (by rfl) T.z_tuple (by decide +kernel) (pa_cons (pv 1) pa_nil)) (pv 1))))
    (pss_one (ps_ret (pe_tup (pa_cons (pv 1) (pa_cons (pe_ifExp (PW.pt (pw_and (pt_val (pe_callB call_isD (by rfl) T.z_isinstance (by decide +kernel) (pa_cons (pv 2) (pa_cons (pe_bltn (v := .ty "list") rfl T.z_list (by decide +kernel) rfl) pa_nil)))) (pw_and1 (pt_cmpR op_eq (pe_h h_law_draw hr (by decide) rfl (pa_cons (pv 0) (pa_cons pe_int pa_nil))) pe_int (by first | exact nomark _ | rfl))))) (pe_callTy call_tuple_of (by rfl) T.z_tuple (by decide +kernel) (pa_cons (pv 2) pa_nil)) (pv 2)) pa_nil)))))))))))))))), ?_⟩
    have lv := Lv.one hp
    wide_line
    intro r1 m1 ns ts t tn tt xs H1 ok1 pk f1 hp1 _ ht1 htn htt tx
    have q1 : SqT K H1 t [.ref tn, .ref tt] := SqT.of ht1
    have q2 : SqT K H1 tn (ns.map V.str) := SqT.of htn
    have q3 : SqT K H1 tt xs := SqT.of htt
    have lv1 := Lv.one hp1
    wide_line
    wide_line with al lv1 lp np H2 lv2 s2
    have q3 := same_t s2 q3
    wide_line
    wide_line with al lv2 lt nt H3 lv3 s3
    wide_line
    intro r3 m3 kd ok3 kd0 kd1
    wide_line with st lv3 2 H4 lv4
    have nlp : lp ≠ p := fun z => by subst z; rw [hp1] at np; cases np
    have nlt : lt ≠ p := fun z => by subst z; rw [lv2.get 1 rfl] at nt; cases nt
    wide_line
    refine Or.inl ⟨p, lp, r3, m3, _, rfl, nlp, lv4.get 2 rfl, ok3, .inl (SqL.of (lv4.get 1 rfl)), ?_, ?_, fun r5 m5 x5 ok5 hx5 => ?_⟩
    · intro z
      have := pk.one
      rw [List.map_eq_nil_iff] at z
      rw [z] at this
      exact absurd this (by decide)
    · rw [List.length_map]; exact Nat.le_trans pk.most (by decide)
    obtain ⟨one, ho, rfl⟩ := List.mem_map.mp hx5
    wide_line with st lv4 2 H5 lv5
    wide_line
    refine Or.inl ⟨p, lp, r5, m5, _, rfl, nlp, lv5.get 2 rfl, ok5, .inl (SqL.of (lv5.get 1 rfl)), ?_, ?_, fun r6 m6 x6 ok6 hx6 => ?_⟩
    · exact List.ne_nil_of_mem hx5
    · rw [List.length_map]; exact Nat.le_trans pk.most (by decide)
    obtain ⟨two, hw, rfl⟩ := List.mem_map.mp hx6
    wide_line with st lv5 2 H6 lv6
    have o1 := pk.nm _ ho
    have o2 := pk.nm _ hw
    have b0 : BJ K p H kd one two 12 66 True [some (.ref p), some (.ref lp), some (.ref lt), some (.int kd), some (.str one), some (.str two), none] H6 := by
      have sub : Same (baseR H p H1) H6 := fun b o e => by
        obtain ⟨nb, hb⟩ := baseR_at f1 e
        exact lv6.off b _ nb hb
      have rp : baseR H p H1 p = none := if_pos rfl
      have rlp : baseR H p H1 lp = none := baseR_no f1 np nlp
      have rlt : baseR H p H1 lt = none := baseR_no f1 (lv2.free nt) nlt
      have hp6 := lv6.get 2 rfl
      have okt : ∀ t ∈ ts, okTie t := fun t ht => ⟨pk.nm _ (pk.tie t ht).1, pk.nm _ (pk.tie t ht).2.1⟩
      have LP : LS K (baseR H p H1) H6 p (.ref lp) (.list (ns.map PyData.str)) 12 := ⟨lp, _, _, rfl, nlp, rfl, lv6.get 1 rfl, rlp, dq_strs ns, by rw [List.length_map]; exact pk.most, fun e he => by
        obtain ⟨x, hx, rfl⟩ := List.mem_map.mp he
        exact Fit.name (pk.nm x hx)⟩
      have LT' : LS K (baseR H p H1) H6 p (.ref lt) (.list (ts.map tieDat)) 66 := ⟨lt, _, _, rfl, nlt, rfl, lv6.get 0 rfl, rlt, dq_base f1 hp1 tx, by rw [List.length_map]; exact few_ties pk, fun e he => by
        obtain ⟨t, ht, rfl⟩ := List.mem_map.mp he
        exact fit_two (okt t ht).1 (okt t ht).2⟩
      exact ⟨baseR H p H1, .ref lp, .ref lt, _, _, none, rfl, Fr.trans f1 lv6.off, ⟨fun b o nb e => baseR_old nb e, ⟨_, _, hp6, ok6⟩, sub, rp⟩, .inl LP, fun _ => LP, .inl LT', fun _ => LT', fun _ _ => ⟨lt, xs, ts, rfl, lv6.get 0 rfl, tx.keep fun b zs hb => lv6.off b _ (fun z => by subst z; rw [hp1] at hb; cases hb) hb, okt⟩,
        fun _ _ _ _ z => by cases z; rw [lv2.get 0 rfl] at nt; cases nt⟩
    clear lv6 lv5 lv4 lv3 lv2 lv1 s2 s3 hx5 hx6
    refine ⟨_, _, _, rfl, BJ K p H kd one two 13 66 True, ?_, ?_⟩
    · refine pt_ifs (pt_or (pt_is (a := kd) rfl) (pt_is (a := kd) rfl)) (fun hb => ?_) (fun hb => b0.mono (by decide) (by decide) id)
      obtain ⟨R, v, tv, d, td, s6, eσ, fr, bs, av, lsp, atv, lst_, tx, dis⟩ := b0
      cases eσ
      obtain ⟨r6, m6, hp6, ok6⟩ := bs.src
      obtain ⟨a, ys, ds, e1, ne, e2, ha, na, dq, l12, ft⟩ := lsp trivial
      cases e1
      wide_line
      intro r7 m7 x e H7 ok7 f7 hp7 fe dx
      have bs7 := bs.more f7 ⟨_, _, hp7, ok7⟩
      have ha7 := f7 _ _ ne ha
      have la := dqAll_len dq
      wide_line
      intro r8 m8 i j l H8 ok8 ij f8 hp8 nl hl8
      have L := LS.put (not_p hp7 nl) hl8 (bs7.nil nl) (dq.same (grown_up bs.sub)) (dx.same grown_mono) l12 ij ft fe
      exact BJ.setP fr bs atv lst_ tx (grown_up bs.sub) (fun b u z => grown_old z) (Fr.trans f7 f8) (bs7.step f8 ⟨_, _, hp8, ok8⟩) (.inl L) (fun _ => L) (dis_new nl (atv.more bs.sub f7 (Nat.le_refl _))) (Nat.le_refl _)
    · clear b0
      intro τ1 G1 b1
      refine ⟨BJ K p H kd one two 25 66 True, ?_, ?_⟩
      · obtain ⟨R, v, tv, d, td, s6, eσ, fr, bs, av, lsp, atv, lst_, tx, dis⟩ := id b1
        subst eσ
        refine pt_ifs (pt_is (a := kd) rfl) (fun hb => ?_) (fun hb => b1.mono (by decide) (by decide) id)
        have kd1 : kd = 1 := of_decide_eq_true hb
        subst kd1
        obtain ⟨r6, m6, hp6, ok6⟩ := bs.src
        obtain ⟨a, ys, ds, e1, ne, e2, ha, na, dq, l12, ft⟩ := lsp trivial
        subst e1
        wide_line
        intro r7 m7 n2 ln H7 ok7 nl2 _ nok f7 hp7 fln hln
        wide_line
        intro r8 m8 c ok8 c0 c1
        obtain ⟨c, rfl⟩ := Int.eq_ofNat_of_zero_le c0
        generalize he : upd H7 p _ = H8
        have hp8 := upd_at he
        have f8 : Fr p H7 H8 := fun b o nb e => by rw [← he, upd_ne nb]; exact e
        have hln8 := f8 _ _ (not_p hp6 fln) hln
        have q8 : SqL K H8 ln (n2.map V.str) := SqL.of hln8
        wide_line
        intro l9 n9
        generalize he9 : upd H8 l9 _ = H9
        have hl9 := upd_at he9
        have s9 := sameE n9 he9
        rw [cut_take] at hl9
        have ha9 := s9 _ _ (f8 _ _ ne (f7 _ _ ne ha))
        have few : ((n2.map V.str).take c).length ≤ 12 := by rw [List.length_take, List.length_map]; omega
        have la := dqAll_len dq
        have szl := sizeLine_eq
        wide_line
        intro l10 n10
        generalize he10 : upd H9 l10 _ = H10
        have hl10 := upd_at he10
        have s10 := sameE n10 he10
        have f10 : Fr p G1 H10 := Fr.trans f7 (Fr.trans f8 (Fr.of (s9.trans s10)))
        have L : LS K R H10 p (.ref l10) (.list (ds ++ (n2.take c).map PyData.str)) 25 := by
          refine ⟨l10, _, _, rfl, not_p ((s9 p _ hp8)) n10, rfl, hl10, bs.nil (nil_off (H1 := H9) (H2 := H9) (Fr.trans f7 (Fr.trans f8 (Fr.of s9))) (by rw [s9 p _ hp8]; simp) n10), dqAll_app dq ?_, ?_, ?_⟩
          · rw [← List.map_take]; exact dq_strs _
          · rw [List.length_append, List.length_map]; rw [← List.map_take, List.length_map] at few; omega
          · intro e he
            rcases List.mem_append.mp he with z | z
            · exact ft e z
            · obtain ⟨y, hy, rfl⟩ := List.mem_map.mp z
              exact Fit.name (nok y (List.mem_of_mem_take hy))
        exact BJ.setP fr bs atv lst_ tx (.refl R) (fun _ _ _ => rfl) f10 (bs.step f10 ⟨_, _, s10 p _ (s9 p _ hp8), ok8⟩) (.inl L) (fun _ => L) (dis_new n10 (atv.step (Fr.trans f7 (Fr.trans f8 (Fr.of s9))) (Nat.le_refl _))) (Nat.le_refl _)
      · clear b1
        intro τ2 G2 b2
        refine ⟨BJ K p H kd one two 26 66 False, ?_, ?_⟩
        · obtain ⟨R, v, tv, d, td, s6, eσ, fr, bs, av, lsp, atv, lst_, tx, dis⟩ := id b2
          subst eσ
          refine pt_ifs (pt_is (a := kd) rfl) (fun hb => ?_) (fun hb => b2.mono (by decide) (by decide) (fun z => z.elim))
          have kd2 : kd = 2 := of_decide_eq_true hb
          subst kd2
          obtain ⟨r6, m6, hp6, ok6⟩ := bs.src
          obtain ⟨a, ys, ds, e1, ne, e2, ha, na, dq, l12, ft⟩ := lsp trivial
          subst e1
          have lv := Lv.one hp6
          wide_line
          wide_line with al lv l1 n1 H1' lv1 s1
          wide_line
          wide_line with al lv1 l2 n2 H2' lv2 s2
          wide_line
          wide_line with al lv2 l3 n3 H3' lv3 s3
          wide_line
          wide_line with al lv3 l4 n4 H4' lv4 s4
          refine ⟨lv4.get 0 rfl, [(.inr "a", .int 1)], rfl, by show 1 ≤ 15; decide, ?_⟩
          wide_line with st lv4 0 H5' lv5
          wide_line
          wide_line with al lv5 l5 n5 H6' lv6 s6'
          have ha6 := lv6.off _ _ ne ha
          have la := dqAll_len dq
          have szl := sizeLine_eq
          wide_line
          wide_line with al lv6 l6 n6 H7' lv7 s7
          wide_line
          wide_line with al lv7 l7 n7 H8' lv8 s8
          wide_line
          wide_line with al lv8 l8 n8 H9' lv9 s9
          wide_line
          wide_line with al lv9 l9 n9 H10' lv10 s10
          have np9 : l9 ≠ p := not_p (lv9.get 8 rfl) n9
          refine Or.inl ⟨p, l9, r6, m6, _, rfl, np9, lv10.get 9 rfl, ok6, .inl (SqL.of (lv10.get 0 rfl)), List.cons_ne_nil _ _, by show 10 ≤ 1000000; decide, fun r7 m7 x ok7 hx => ?_⟩
          wide_line with st lv10 9 H11 lv11
          have f11 : Fr p G2 H11 := lv11.off
          have hp11 := lv11.get 9 rfl
          have finG : ∀ d', (∀ es, d' ≠ .list es) → Dq K (grown R G2 H11) x d' → ValOk d' → BJ K p H 2 one two 26 66 False [some (.ref p), some x, some tv, some (.int 2), some (.str one), some (.str two), s6] H11 := fun d' nl dq' ok' =>
            BJ.setP fr bs atv lst_ tx (grown_up bs.sub) (fun b u z => grown_old z) f11 (bs.more f11 ⟨_, _, hp11, ok7⟩) (.inr ⟨nl, dq', ok'⟩) (fun z => z.elim) (dis_not nl) (Nat.le_refl _)
          have finL : ∀ l xs ds, x = .ref l → G2 l = none → H11 l = some (.lst xs) → DqAll K R xs ds → ds.length ≤ 26 → (∀ e ∈ ds, Fit e) → BJ K p H 2 one two 26 66 False [some (.ref p), some x, some tv, some (.int 2), some (.str one), some (.str two), s6] H11 := fun l xs ds ex nl hl dq' le ft' => by
            subst ex
            exact BJ.setP fr bs atv lst_ tx (.refl R) (fun _ _ _ => rfl) f11 (bs.step f11 ⟨_, _, hp11, ok7⟩) (.inl ⟨l, xs, ds, rfl, not_p hp6 nl, rfl, hl, bs.nil nl, dq', le, ft'⟩) (fun z => z.elim) (dis_new (d := .list ds) nl atv) (Nat.le_refl _)
          show BJ K p H 2 one two 26 66 False [some (.ref p), some x, some tv, some (.int 2), some (.str one), some (.str two), s6] H11
          simp only [List.mem_cons, List.not_mem_nil, or_false] at hx
          rcases hx with rfl | rfl | rfl | rfl | rfl | rfl | rfl | rfl | rfl | rfl
          · exact finG .none (fun _ z => nomatch z) .non (ValOk.const rfl (by simp [consts]))
          · exact finG (.str "ab") (fun _ z => nomatch z) (.str _) (ValOk.const rfl (by simp [consts]))
          · exact finG (.dict []) (fun _ z => nomatch z) (.dic (.inl (grown_at n1 (lv11.get 8 rfl))) rfl rfl .nil) (ValOk.const rfl (by simp [consts]))
          · exact finG (.int 5) (fun _ z => nomatch z) (.int 5) (ValOk.const rfl (by simp [consts]))
          · exact finL l2 _ [] rfl (lv1.free n2) (lv11.get 7 rfl) .nil (Nat.zero_le _) (fun _ z => nomatch z)
          · exact finG (.tuple []) (fun _ z => nomatch z) (.tup (SqT.of (grown_at (lv2.free n3) (lv11.get 6 rfl))) .nil) ⟨fun es z => by cases z; exact ⟨Nat.zero_le _, fun _ z => nomatch z⟩, fun z => nomatch z⟩
          · exact finG (.str "a") (fun _ z => nomatch z) (.str _) (ValOk.const rfl (by simp [consts]))
          · exact finG (.dict [(.str "a", .int 1)]) (fun _ z => nomatch z) (.dic (.inl (grown_at (lv3.free n4) (lv11.get 5 rfl))) rfl rfl (.cons (.int 1) .nil)) (ValOk.const rfl (by simp [consts]))
          · refine finL l6 _ (ds ++ [.str one]) rfl (lv6.free n6) (lv11.get 3 rfl) (dqAll_app dq (.cons (.str _) .nil)) (by rw [List.length_append, List.length_singleton]; omega) fun e he => ?_
            rcases List.mem_append.mp he with z | z
            · exact ft e z
            · cases List.mem_singleton.mp z; exact Fit.name o1
          · refine finL l8 _ [.str "a", .str "a"] rfl (lv8.free n8) (lv11.get 1 rfl) (.cons (.str _) (.cons (.str _) .nil)) (by decide) fun e he => ?_
            have : okName "a" = true := by decide +kernel
            have e2 : e = .str "a" := by
              rcases List.mem_cons.mp he with z | z
              · exact z
              · exact List.mem_singleton.mp z
            rw [e2]
            exact Fit.name this
        · clear b2
          intro τ3 G3 b3
          refine ⟨BJ K p H kd one two 26 66 False, ?_, ?_⟩
          · obtain ⟨_, v0, tv0, _, _, s60, eσ, _, bs0, _⟩ := id b3
            subst eσ
            obtain ⟨r6, m6, hp6, ok6⟩ := bs0.src
            refine ifs_to (fun b H' => Fr p G3 H' ∧ (∃ r m, H' p = some (.lst [.int r, .int m]) ∧ SrcOk r m) ∧ (b = true → kd = 3 ∨ kd = 2 ∨ kd = 8)) (fun Q hQ => ?_) (fun H' ⟨f, hs, hk⟩ => ?_) (fun H' ⟨f, hs, _⟩ => b3.step f hs)
            · refine ⟨_, rfl, rfl, _, rfl, ?_⟩
              by_cases k3 : kd = 3
              · rw [dec_int, decide_eq_true k3]
                exact iteT (hQ _ _ ⟨fun _ _ _ e => e, ⟨_, _, hp6, ok6⟩, fun _ => .inl k3⟩)
              · rw [dec_int, decide_eq_false k3]
                refine iteF ?_
                have lv := Lv.one hp6
                wide_line
                wide_line with al lv l1 n1 H1' lv1 s1
                refine ⟨l1, _, rfl, .inr (SqT.of (lv1.get 0 rfl)), rfl, rfl, _, rfl, ?_⟩
                rw [show (if false = true then !inV (V.int kd) [V.int 2, V.int 8] else inV (V.int kd) [V.int 2, V.int 8]) = decide (kd ∈ [2, 8]) from inV_ints kd [2, 8]]
                by_cases k28 : kd ∈ [2, 8]
                · rw [decide_eq_true k28]
                  have k28' : kd = 2 ∨ kd = 8 := by
                    rcases List.mem_cons.mp k28 with z | z
                    · exact .inl z
                    · exact .inr (List.mem_singleton.mp z)
                  refine iteT ?_
                  wide_line
                  intro r7 m7 c ok7 c0 c1
                  wide_line with st lv1 1 H2' lv2
                  exact ⟨rfl, _, rfl, hQ _ _ ⟨lv2.off, ⟨_, _, lv2.get 1 rfl, ok7⟩, fun _ => .inr k28'⟩⟩
                · rw [decide_eq_false k28]
                  exact iteF (hQ _ _ ⟨lv1.off, ⟨_, _, lv1.get 1 rfl, ok6⟩, fun z => nomatch z⟩)
            · have b4 := b3.step f hs
              have k96 : ¬ (kd = 9 ∨ kd = 6) := fun z => by have := hk rfl; omega
              obtain ⟨R, v, tv, d, td, s6, eσ, fr, bs, av, lsp, atv, lst_, tx, dis⟩ := id b4
              cases eσ
              obtain ⟨r7, m7, hp7, ok7⟩ := bs.src
              have lv := Lv.one hp7
              wide_line
              wide_line with al lv l1 n1 H1' lv1 s1
              wide_line
              wide_line with al lv1 l2 n2 H2' lv2 s2
              wide_line
              wide_line with al lv2 l3 n3 H3' lv3 s3
              refine ⟨l3, [.inr one, .inr two], rfl, lv3.get 0 rfl, lv3.get 1 rfl, ?_⟩
              wide_line with st lv3 1 H4' lv4
              wide_line
              wide_line with al lv4 l4 n4 H5' lv5 s5
              wide_line
              wide_line with al lv5 l5 n5 H6' lv6 s6'
              have np5 : l5 ≠ p := not_p (lv5.get 4 rfl) n5
              refine Or.inl ⟨p, l5, r7, m7, _, rfl, np5, lv6.get 5 rfl, ok7, .inl (SqL.of (lv6.get 0 rfl)), List.cons_ne_nil _ _, by show 6 ≤ 1000000; decide, fun r8 m8 x ok8 hx => ?_⟩
              wide_line with st lv6 5 H7' lv7
              have f11 : Fr p H' H7' := lv7.off
              have hp11 := lv7.get 5 rfl
              have finG : ∀ d', (∀ es, d' ≠ .list es) → Dq K (grown R H' H7') x d' → ValOk d' → BJ K p H kd one two 26 66 False [some (.ref p), some v0, some x, some (.int kd), some (.str one), some (.str two), s60] H7' := fun d' nl dq' ok' =>
                BJ.setT fr av lsp (grown_up bs.sub) (fun b u z => grown_old z) f11 (bs.more f11 ⟨_, _, hp11, ok8⟩) (.inr ⟨nl, dq', ok'⟩) (fun z => absurd z k96) (fun _ z => absurd (Or.inr z) k96) (dis_not' nl) (Nat.le_refl _)
              show BJ K p H kd one two 26 66 False [some (.ref p), some v0, some x, some (.int kd), some (.str one), some (.str two), s60] H7'
              simp only [List.mem_cons, List.not_mem_nil, or_false] at hx
              rcases hx with rfl | rfl | rfl | rfl | rfl | rfl
              · exact finG .none (fun _ z => nomatch z) .non (ValOk.const rfl (by simp [consts]))
              · exact finG (.str "ab") (fun _ z => nomatch z) (.str _) (ValOk.const rfl (by simp [consts]))
              · exact finG (.dict []) (fun _ z => nomatch z) (.dic (.inl (grown_at n1 (lv7.get 4 rfl))) rfl rfl .nil) (ValOk.const rfl (by simp [consts]))
              · exact finG (.int 5) (fun _ z => nomatch z) (.int 5) (ValOk.const rfl (by simp [consts]))
              · refine finG (.dict [(.tuple [.str one, .str two], .int 1)]) (fun _ z => nomatch z) (.dicT (.inl (grown_at (lv1.free n2) (lv7.get 3 rfl))) rfl rfl (.cons (.int 1) .nil)) ⟨fun ds z => (nomatch z), fun _ => sm_dict1 o1 o2⟩
              · have : okName "ab" = true ∧ okName "ba" = true := by decide +kernel
                exact finG (.tuple [.str "ab", .str "ba"]) (fun _ z => nomatch z) (.tup (SqT.of (grown_at (lv4.free n4) (lv7.get 1 rfl))) (.cons (.str _) (.cons (.str _) .nil))) ⟨fun es z => (by
                  cases z
                  refine ⟨by show 2 ≤ 72; decide, fun e he => ?_⟩
                  rcases List.mem_cons.mp he with z | z
                  · rw [z]; exact Fit.name this.1
                  · rw [List.mem_singleton.mp z]; exact Fit.name this.2), fun z => nomatch z⟩
          · clear b3
            intro τ4 G4 b4
            refine ⟨BJ K p H kd one two 26 67 False, ?_, ?_⟩
            · obtain ⟨R, v, tv, d, td, s6, eσ, fr, bs, av, lsp, atv, lst_, tx, dis⟩ := id b4
              subst eσ
              obtain ⟨r6, m6, hp6, ok6⟩ := bs.src
              refine ifs_to (fun b H' => Fr p G4 H' ∧ (∃ r m, H' p = some (.lst [.int r, .int m]) ∧ SrcOk r m) ∧ (b = true → (kd = 4 ∨ kd = 5 ∨ kd = 8 ∨ kd = 9) ∧ LS K R G4 p tv td 66)) (fun Q hQ => ?_) (fun H' ⟨f, hs, hk⟩ => ?_) (fun H' ⟨f, hs, _⟩ => (b4.step f hs).mono (by decide) (by decide) id)
              · have lv := Lv.one hp6
                wide_line
                wide_line with al lv l1 n1 H1' lv1 s1
                refine ⟨l1, _, rfl, .inr (SqT.of (lv1.get 0 rfl)), rfl, rfl, _, rfl, ?_⟩
                rw [show (if false = true then !inV (V.int kd) [V.int 4, V.int 5, V.int 8, V.int 9] else inV (V.int kd) [V.int 4, V.int 5, V.int 8, V.int 9]) = decide (kd ∈ [4, 5, 8, 9]) from inV_ints kd [4, 5, 8, 9]]
                by_cases k28 : kd ∈ [4, 5, 8, 9]
                · rw [decide_eq_true k28]
                  have k28' : kd = 4 ∨ kd = 5 ∨ kd = 8 ∨ kd = 9 := by simpa using k28
                  have dq1 : Dq K H1' tv td := (atv.step lv1.off (Nat.le_refl _)).dq (bs.step lv1.off ⟨_, _, lv1.get 1 rfl, ok6⟩).sub
                  refine iteT ⟨_, rfl, _, td, "list", _, rfl, dq1, kit_list td, _, rfl, hQ _ _ ⟨lv1.off, ⟨_, _, lv1.get 1 rfl, ok6⟩, fun z => ⟨k28', ?_⟩⟩⟩
                  rcases atv with h | ⟨h, _⟩
                  · exact h
                  · cases td with
                    | list es => exact absurd rfl (h es)
                    | _ => cases z
                · rw [decide_eq_false k28]
                  exact iteF (hQ _ _ ⟨lv1.off, ⟨_, _, lv1.get 1 rfl, ok6⟩, fun z => nomatch z⟩)
              · obtain ⟨k4, L4⟩ := hk rfl
                have k6 : kd ≠ 6 := by omega
                have bs := bs.step f hs
                have av := av.step f (Nat.le_refl _)
                have L4 := L4.step f (Nat.le_refl _)
                obtain ⟨a, ys, ds, e1, ne, e2, ha, na, dq, l66, ft⟩ := id L4
                subst e1
                obtain ⟨r7, m7, hp7, ok7⟩ := bs.src
                have lv := Lv.one hp7
                wide_line
                wide_line with al lv l1 n1 J1 lv1 s1
                wide_line
                wide_line with al lv1 l2 n2 J2 lv2 s2
                wide_line
                wide_line with al lv2 l3 n3 J3 lv3 s3
                wide_line
                wide_line with al lv3 l4 n4 J4 lv4 s4
                wide_line
                wide_line with al lv4 l5 n5 J5 lv5 s5
                wide_line
                wide_line with al lv5 l6 n6 J6 lv6 s6'
                wide_line
                wide_line with al lv6 l7 n7 J7 lv7 s7
                wide_line
                wide_line with al lv7 l8 n8 J8 lv8 s8
                wide_line
                wide_line with al lv8 l9 n9 J9 lv9 s9
                wide_line
                wide_line with al lv9 m1 o1' J10 lv10 s10
                wide_line
                wide_line with al lv10 m2 o2' J11 lv11 s11
                wide_line
                wide_line with al lv11 m3 o3' J12 lv12 s12
                wide_line
                wide_line with al lv12 m4 o4' J13 lv13 s13
                wide_line
                wide_line with al lv13 m5 o5' J14 lv14 s14
                wide_line
                wide_line with al lv14 m6' o6' J15 lv15 s15
                wide_line
                wide_line with al lv15 m7' o7' J16 lv16 s16
                refine ⟨l9, m7', _, _, rfl, rfl, lv16.get 7 rfl, lv16.get 0 rfl, by show 15 ≤ sizeLine; decide, ?_⟩
                wide_line with al lv16 m8 o8' J17 lv17 s17
                have np8 : m8 ≠ p := not_p (lv16.get 16 rfl) o8'
                refine Or.inl ⟨p, m8, r7, m7, _, rfl, np8, lv17.get 17 rfl, ok7, .inl (SqL.of (lv17.get 0 rfl)), List.cons_ne_nil _ _, by show 15 ≤ 1000000; decide, fun r8 m8' x ok8 hx => ?_⟩
                wide_line with st lv17 17 J18 lv18
                have f18 : Fr p H' J18 := lv18.off
                have hp18 := lv18.get 17 rfl
                have bs18 := bs.more f18 ⟨_, _, hp18, ok8⟩
                have ha18 := f18 _ _ ne ha
                have zz : okName "zzz" = true := by decide +kernel
                have item : ∃ e, Fit e ∧ Dq K (grown R H' J18) x e := by
                  have p1 := sm_txt o1
                  have p2 := sm_txt o2
                  have p3 := sm_txt zz
                  simp only [List.cons_append, List.nil_append, List.mem_cons, List.not_mem_nil, or_false] at hx
                  rcases hx with rfl | rfl | rfl | rfl | rfl | rfl | rfl | rfl | rfl | rfl | rfl | rfl | rfl | rfl | rfl
                  · exact ⟨_, fit_two o1 o2, .tup (SqT.of (grown_at n1 (lv18.get 16 rfl))) (.cons (.str _) (.cons (.str _) .nil))⟩
                  · exact ⟨_, fit_two o2 o1, .tup (SqT.of (grown_at (lv1.free n2) (lv18.get 15 rfl))) (.cons (.str _) (.cons (.str _) .nil))⟩
                  · exact ⟨.list [.str one, .str two], fit_lst (by simp [p1, p2]) (by show 2 ≤ 3; decide), .lst (SqL.of (grown_at (lv2.free n3) (lv18.get 14 rfl))) (.cons (.str _) (.cons (.str _) .nil))⟩
                  · exact ⟨.tuple [.str one], fit_tup (by simp [p1]) (by show 1 ≤ 3; decide) trivial, .tup (SqT.of (grown_at (lv3.free n4) (lv18.get 13 rfl))) (.cons (.str _) .nil)⟩
                  · exact ⟨.tuple [.str one, .str two, .str one], fit_tup (by simp [p1, p2]) (by show 3 ≤ 3; decide) trivial, .tup (SqT.of (grown_at (lv4.free n5) (lv18.get 12 rfl))) (.cons (.str _) (.cons (.str _) (.cons (.str _) .nil)))⟩
                  · exact ⟨_, fit_two o1 zz, .tup (SqT.of (grown_at (lv5.free n6) (lv18.get 11 rfl))) (.cons (.str _) (.cons (.str _) .nil))⟩
                  · exact ⟨_, fit_two zz o1, .tup (SqT.of (grown_at (lv6.free n7) (lv18.get 10 rfl))) (.cons (.str _) (.cons (.str _) .nil))⟩
                  · exact ⟨.none, ⟨sm_consts _ (by simp [consts]), trivial, fun y e => by cases e⟩, .non⟩
                  · exact ⟨.str "ab", ⟨sm_consts _ (by simp [consts]), trivial, fun y e => by cases e; decide⟩, .str _⟩
                  · exact ⟨.dict [], ⟨sm_consts _ (by simp [consts]), trivial, fun y e => by cases e⟩, .dic (.inl (grown_at (lv7.free n8) (lv18.get 9 rfl))) rfl rfl .nil⟩
                  · exact ⟨_, fit_two o1 o1, .tup (SqT.of (grown_at (lv9.free o1') (lv18.get 7 rfl))) (.cons (.str _) (.cons (.str _) .nil))⟩
                  · exact ⟨.tuple [.str one, .none], fit_tup (by simp [p1, sm_none]) (by show 2 ≤ 3; decide) ⟨rfl, rfl⟩, .tup (SqT.of (grown_at (lv10.free o2') (lv18.get 6 rfl))) (.cons (.str _) (.cons .non .nil))⟩
                  · exact ⟨.tuple [.list [.str "a"], .str one], fit_tup (by simp [p1, sm_la]) (by show 2 ≤ 3; decide) ⟨by simp [noDict, noDicts], rfl⟩, .tup (SqT.of (grown_at (lv12.free o4') (lv18.get 4 rfl))) (.cons (.lst (SqL.of (grown_at (lv11.free o3') (lv18.get 5 rfl))) (.cons (.str _) .nil)) (.cons (.str _) .nil))⟩
                  · exact ⟨.tuple [.str one, .int 5], fit_tup (by simp [p1, sm_five]) (by show 2 ≤ 3; decide) ⟨rfl, rfl⟩, .tup (SqT.of (grown_at (lv13.free o5') (lv18.get 3 rfl))) (.cons (.str _) (.cons (.int 5) .nil))⟩
                  · exact ⟨.tuple [], fit_tup (fun _ z => nomatch z) (by show 0 ≤ 3; decide) trivial, .tup (SqT.of (grown_at (lv14.free o6') (lv18.get 2 rfl))) .nil⟩
                obtain ⟨e, fe, dx⟩ := item
                have la := dqAll_len dq
                wide_line
                intro r9 m9 i j l J19 ok9 ij f19 hp19 nl hl19
                have L := LS.put (not_p hp18 nl) hl19 (bs18.nil nl) (dq.same (grown_up bs.sub)) dx l66 ij ft fe
                exact BJ.setT (Fr.trans fr f) av (fun z => z.elim) (grown_up bs.sub) (fun b u z => grown_old z) (Fr.trans f18 f19) (bs18.step f19 ⟨_, _, hp19, ok9⟩) (.inl L) (fun _ => L) (fun _ z => absurd z k6) (dis_new' nl (av.more bs.sub f18 (Nat.le_refl _))) (Nat.le_refl _)
            · clear b4
              intro τ5 G5 b5
              refine ⟨BJ K p H kd one two 26 68 False, ?_, ?_⟩
              · obtain ⟨R, v, tv, d, td, s6, eσ, fr, bs, av, lsp, atv, lst_, tx, dis⟩ := id b5
                subst eσ
                refine pt_ifs (pt_is (a := kd) rfl) (fun hb => ?_) (fun hb => b5.mono (by decide) (by decide) id)
                have kd9 : kd = 9 := of_decide_eq_true hb
                subst kd9
                obtain ⟨a, ys, ds, e1, ne, e2, ha, na, dq, l67, ft⟩ := lst_ (.inl rfl)
                subst e1
                obtain ⟨r7, m7, hp7, ok7⟩ := bs.src
                have lv := Lv.one hp7
                wide_line
                wide_line with al lv l1 n1 J1 lv1 s1
                wide_line
                wide_line with al lv1 l2 n2 J2 lv2 s2
                wide_line
                wide_line with al lv2 l3 n3 J3 lv3 s3
                have np3 : l3 ≠ p := not_p (lv2.get 2 rfl) n3
                refine Or.inl ⟨p, l3, r7, m7, _, rfl, np3, lv3.get 3 rfl, ok7, .inl (SqL.of (lv3.get 0 rfl)), List.cons_ne_nil _ _, by show 3 ≤ 1000000; decide, fun r8 m8 x ok8 hx => ?_⟩
                wide_line with st lv3 3 J4 lv4
                have f4 : Fr p G5 J4 := lv4.off
                have hp4 := lv4.get 3 rfl
                have bs4 := bs.more f4 ⟨_, _, hp4, ok8⟩
                have ha4 := f4 _ _ ne ha
                have zz : okName "zzz" = true := by decide +kernel
                have item : ∃ e, Fit e ∧ Dq K (grown R G5 J4) x e := by
                  simp only [List.mem_cons, List.not_mem_nil, or_false] at hx
                  rcases hx with rfl | rfl | rfl
                  · exact ⟨_, fit_two o2 o1, .tup (SqT.of (grown_at n1 (lv4.get 2 rfl))) (.cons (.str _) (.cons (.str _) .nil))⟩
                  · exact ⟨.none, ⟨sm_consts _ (by simp [consts]), trivial, fun y e => by cases e⟩, .non⟩
                  · exact ⟨_, fit_two o2 zz, .tup (SqT.of (grown_at (lv1.free n2) (lv4.get 1 rfl))) (.cons (.str _) (.cons (.str _) .nil))⟩
                obtain ⟨e, fe, dx⟩ := item
                have la := dqAll_len dq
                wide_line
                intro r9 m9 i j l J5 ok9 ij f5 hp5 nl hl5
                have L := LS.put (not_p hp4 nl) hl5 (bs4.nil nl) (dq.same (grown_up bs.sub)) dx l67 ij ft fe
                exact BJ.setT fr av (fun z => z.elim) (grown_up bs.sub) (fun b u z => grown_old z) (Fr.trans f4 f5) (bs4.step f5 ⟨_, _, hp5, ok9⟩) (.inl L) (fun _ => L) (fun _ z => absurd z (by decide)) (dis_new' nl (av.more bs.sub f4 (Nat.le_refl _))) (Nat.le_refl _)
              · clear b5
                intro τ6 G6 b6
                refine ⟨BJ K p H kd one two 26 69 False, ?_, ?_⟩
                · obtain ⟨R, v, tv, d, td, s6, eσ, fr, bs, av, lsp, atv, lst_, tx, dis⟩ := id b6
                  subst eσ
                  obtain ⟨r6, m6, hp6, ok6⟩ := bs.src
                  refine ifs_to (fun b H' => Fr p G6 H' ∧ (∃ r m, H' p = some (.lst [.int r, .int m]) ∧ SrcOk r m) ∧ (b = true → kd = 6 ∧ ∀ a, tv = .ref a → G6 a ≠ some (.lst []))) (fun Q hQ => ?_) (fun H' ⟨f, hs, hk⟩ => ?_) (fun H' ⟨f, hs, _⟩ => (b6.step f hs).mono (by decide) (by decide) id)
                  · refine ⟨_, rfl, rfl, _, rfl, ?_⟩
                    by_cases k6 : kd = 6
                    · rw [dec_int, decide_eq_true k6]
                      obtain ⟨a, ys, ds, e1, ne, e2, ha, na, dq, l68, ft⟩ := lst_ (.inr k6)
                      subst e1
                      refine iteT ⟨_, rfl, by decide, fun l1 n1 => ?_⟩
                      have lv := Lv.one hp6
                      wide_line with alx lv n1 J1 lv1 s1
                      refine ⟨a, l1, ys, rfl, rfl, SqL.of (s1 _ _ ha), SqL.of (lv1.get 0 rfl), _, rfl, hQ _ _ ⟨lv1.off, ⟨_, _, lv1.get 1 rfl, ok6⟩, fun z => ⟨k6, fun c ec hc => ?_⟩⟩⟩
                      cases ec
                      rw [ha] at hc
                      cases hc
                      cases z
                    · rw [dec_int, decide_eq_false k6]
                      exact iteF (hQ _ _ ⟨fun _ _ _ e => e, ⟨_, _, hp6, ok6⟩, fun z => nomatch z⟩)
                  · obtain ⟨k6, nil⟩ := hk rfl
                    obtain ⟨a, ys, ts, e1, ha, tx1, okt⟩ := tx (by decide) k6
                    obtain ⟨a', ys', ds, e1', ne, e2, ha', na, dq, l68, ft⟩ := lst_ (.inr k6)
                    subst e1
                    cases e1'
                    rw [ha] at ha'
                    cases ha'
                    have nn : ys ≠ [] := fun z => nil _ rfl (z ▸ ha)
                    have bs := bs.step f hs
                    have av := av.step f (Nat.le_refl _)
                    obtain ⟨r7, m7, hp7, ok7⟩ := bs.src
                    have lv := Lv.one hp7
                    have haH := f _ _ ne ha
                    have la := dqAll_len dq
                    wide_line
                    refine Or.inl ⟨p, a, r7, m7, ys, rfl, ne, hp7, ok7, .inl (SqL.of haH), nn, Nat.le_trans (Nat.le_of_eq la) (Nat.le_trans l68 (by decide)), fun r8 m8 x ok8 hx => ?_⟩
                    wide_line with st lv 0 J1 lv1
                    obtain ⟨i0, hi0⟩ := List.getElem?_of_mem hx
                    obtain ⟨q0, hq0, b, rfl, hb⟩ := paired_at tx1 hi0
                    have oq := okt q0 (List.mem_of_getElem? hq0)
                    have nb : b ≠ p := fun z => by subst z; rw [hb] at hp6; cases hp6
                    have hb1 := lv1.off _ _ nb (f _ _ nb hb)
                    refine ⟨b, .str q0.1, .str q0.2, rfl, SqT.of hb1, fun l1 n1 => ?_⟩
                    wide_line with alx lv1 n1 J2 lv2 s2
                    have f2 : Fr p H' J2 := lv2.off
                    have hp2 := lv2.get 1 rfl
                    have bs2 := bs.more f2 ⟨_, _, hp2, ok8⟩
                    have ha2 := f2 _ _ ne haH
                    have dx : Dq K (grown R H' J2) (.ref l1) (.tuple [.str q0.2, .str q0.1]) := .tup (SqT.of (grown_at (lv1.free n1) (lv2.get 0 rfl))) (.cons (.str _) (.cons (.str _) .nil))
                    wide_line
                    intro r9 m9 i j l J5 ok9 ij f5 hp5 nl hl5
                    have L := LS.put (not_p hp2 nl) hl5 (bs2.nil nl) (dq.same (grown_up bs.sub)) dx l68 ij ft (fit_two oq.2 oq.1)
                    exact ⟨_, v, .ref l, d, _, s6, rfl, Fr.trans fr (Fr.trans f (Fr.trans f2 f5)), bs2.step f5 ⟨_, _, hp5, ok9⟩, (av.more bs.sub f2 (Nat.le_refl _)).step f5 (Nat.le_refl _), fun z => z.elim, .inl L, fun _ => L, fun z => absurd z (by decide), dis_new' nl (av.more bs.sub f2 (Nat.le_refl _))⟩
                · clear b6
                  intro τ7 G7 b7
                  refine ⟨BJ K p H kd one two 26 69 False, ?_, ?_⟩
                  · obtain ⟨R, v, tv, d, td, s6, eσ, fr, bs, av, lsp, atv, lst_, tx, dis⟩ := id b7
                    subst eσ
                    obtain ⟨r6, m6, hp6, ok6⟩ := bs.src
                    have dq0 := av.dq bs.sub
                    refine ⟨_, rfl, v, d, "list", _, rfl, dq0, kit_isL d, _, rfl, ?_⟩
                    rcases id av with ⟨a, ys, ds, e1, ne, e2, ha, na, dq, l26, ft⟩ | ⟨nl, _, _⟩
                    · subst e1 e2
                      have lv := Lv.one hp6
                      refine iteT ?_
                      wide_line
                      intro r7 m7 c ok7 c0 c1
                      wide_line with st lv 0 J1 lv1
                      have f1 : Fr p G7 J1 := lv1.off
                      refine ⟨rfl, _, rfl, ite2 (fun h => ?_) (fun h => ?_)⟩
                      · refine ⟨_, rfl, a, ys, rfl, .inl ⟨SqL.of (f1 _ _ ne ha), fun l nl => ?_⟩⟩
                        wide_line with alx lv1 nl J2 lv2 s2
                        have f2 : Fr p G7 J2 := lv2.off
                        have nl' : ∀ es, PyData.tuple ds ≠ .list es := fun _ z => nomatch z
                        exact BJ.setP (d' := .tuple ds) fr bs atv lst_ tx (grown_up bs.sub) (fun b u z => grown_old z) f2 (bs.more f2 ⟨_, _, lv2.get 1 rfl, ok7⟩) (.inr ⟨nl', .tup (SqT.of (grown_at (lv1.free nl) (lv2.get 0 rfl))) (dq.same (grown_up bs.sub)), ⟨fun es z => (by cases z; exact ⟨Nat.le_trans l26 (by decide), ft⟩), fun z => nomatch z⟩⟩) (fun z => z.elim) (dis_not nl') (Nat.le_refl _)
                      · exact ⟨_, rfl, b7.step f1 ⟨_, _, lv1.get 0 rfl, ok7⟩⟩
                    · rw [isL_no nl]
                      exact iteF (iteF ⟨_, rfl, b7⟩)
                  · clear b7
                    intro τ8 G8 b8
                    obtain ⟨R, v, tv, d, td, s6, eσ, fr, bs, av, lsp, atv, lst_, tx, dis⟩ := b8
                    subst eσ
                    obtain ⟨r6, m6, hp6, ok6⟩ := bs.src
                    have dq0 := atv.dq bs.sub
                    have fin : ∀ (R' : Hp) (tv' : V) (td' : PyData) (H' : Hp), Fr p G8 H' → Bst H p R' H' → AV K R' H' p v d 26 → AV K R' H' p tv' td' 69 → Dis v tv' d td' → ∀ t, H' t = none → Q (.ref t) (upd H' t (.tup [v, tv'])) := fun R' tv' td' H' f' bs' av' atv' dis' t nt => by
                      obtain ⟨r8, m8, hp8, ok8⟩ := bs'.src
                      have st : Fr p H' (upd H' t (.tup [v, tv'])) := Fr.of (same_new nt)
                      exact k t R' v tv' d td' _ (Fr.trans fr (Fr.trans f' st)) (bs'.step st ⟨_, _, same_new nt _ _ hp8, ok8⟩) (av'.step st (Nat.le_refl _)) (atv'.step st (Nat.le_refl _)) dis' (nil_off (H1 := H') (H2 := H') (Fr.trans fr f') (by rw [hp8]; simp) nt) upd_same
                    refine ⟨_, rfl, _, rfl, tv, td, "list", _, rfl, dq0, kit_isL td, _, rfl, ?_⟩
                    rcases id atv with ⟨a, ys, ds, e1, ne, e2, ha, na, dq, l69, ft⟩ | ⟨nl, _, _⟩
                    · subst e1 e2
                      have lv := Lv.one hp6
                      refine iteT ?_
                      wide_line
                      intro r7 m7 c ok7 c0 c1
                      wide_line with st lv 0 J1 lv1
                      have f1 : Fr p G8 J1 := lv1.off
                      refine ⟨rfl, _, rfl, ite2 (fun h => ?_) (fun h => ?_)⟩
                      · refine ⟨_, rfl, a, ys, rfl, .inl ⟨SqL.of (f1 _ _ ne ha), fun l nl => ?_⟩⟩
                        wide_line with alx lv1 nl J2 lv2 s2
                        have f2 : Fr p G8 J2 := lv2.off
                        have nl' : ∀ es, PyData.tuple ds ≠ .list es := fun _ z => nomatch z
                        exact ⟨sz2, fin (grown R G8 J2) (.ref l) (.tuple ds) J2 f2 (bs.more f2 ⟨_, _, lv2.get 1 rfl, ok7⟩) (av.more bs.sub f2 (Nat.le_refl _)) (.inr ⟨nl', .tup (SqT.of (grown_at (lv1.free nl) (lv2.get 0 rfl))) (dq.same (grown_up bs.sub)), ⟨fun es z => (by cases z; exact ⟨Nat.le_trans l69 (by decide), ft⟩), fun z => nomatch z⟩⟩) (dis_not' nl')⟩
                      · have bs1 := bs.step f1 ⟨_, _, lv1.get 0 rfl, ok7⟩
                        exact ⟨_, rfl, sz2, fin R _ _ J1 f1 bs1 (av.step f1 (Nat.le_refl _)) (atv.step f1 (Nat.le_refl _)) dis⟩
                    · rw [isL_no nl]
                      exact iteF (iteF ⟨_, rfl, sz2, fin R tv td G8 (fun _ _ _ e => e) bs av atv dis⟩)
end
end Pw

set_option Elab.async false
set_option linter.all false
set_option maxRecDepth 100000
set_option maxHeartbeats 4000000
namespace Pw
open PySem PySem.Spec PyProof.Rows L2 Ct
local macro_rules | `(tactic| wide_line) => `(tactic| repeat ((fail_if_success (with_reducible refine at_while ?_)); (fail_if_success (with_reducible refine at_while1 ?_)); (conv => whnf); first | ((with_reducible refine And.intro ?_ ?_); focus (first | (first | ((with_reducible show (_ : Nat) ≤ _); first | exact sz0 | exact sz1 | exact sz2 | exact sz3 | exact sz4 | exact sz5 | exact sz6 | exact sz7 | exact sz8 | exact sz10 | exact sz11 | exact sz12 | exact sz14 | omega | decide | (simp only [List.length_cons, List.length_nil]; omega)) | ((with_reducible show (_ : Int) ≤ _); first | omega | decide) | ((with_reducible show (_ : Int) < _); first | omega | decide) | ((with_reducible show (_ : Nat) < _); omega)) | ((fail_if_success (with_reducible show (_ : Nat) ≤ _)); (fail_if_success (with_reducible show (_ : Int) ≤ _)); (fail_if_success (with_reducible show (_ : Int) < _)); (fail_if_success (with_reducible show (_ : Nat) < _)); first | exact kv_str _ | exact kv_int _ | rfl | assumption | exact flat_strs _ | exact Lv.get (by assumption) 0 rfl | exact Lv.get (by assumption) 1 rfl | exact Lv.get (by assumption) 2 rfl | exact Lv.get (by assumption) 3 rfl | exact Lv.get (by assumption) 4 rfl | exact Lv.get (by assumption) 5 rfl | exact Lv.get (by assumption) 6 rfl | exact SqL.of (Lv.get (by assumption) 0 rfl) | exact SqL.of (Lv.get (by assumption) 1 rfl) | exact SqL.of (Lv.get (by assumption) 2 rfl) | exact SqL.of (Lv.get (by assumption) 3 rfl) | exact SqL.of (Lv.get (by assumption) 4 rfl) | exact SqL.of (Lv.get (by assumption) 5 rfl) | exact Or.inl (SqL.of (Lv.get (by assumption) 0 rfl)) | exact Or.inl (SqL.of (Lv.get (by assumption) 1 rfl)) | exact Or.inl (SqL.of (Lv.get (by assumption) 2 rfl)) | exact Or.inl (SqL.of (Lv.get (by assumption) 3 rfl)) | exact Or.inl (SqL.of (Lv.get (by assumption) 4 rfl)) | exact Or.inl (SqL.of (Lv.get (by assumption) 5 rfl)) | exact ⟨_, SqL.of (Lv.get (by assumption) 0 rfl)⟩ | exact ⟨_, SqL.of (Lv.get (by assumption) 1 rfl)⟩ | exact ⟨_, SqL.of (Lv.get (by assumption) 2 rfl)⟩ | exact ⟨_, SqL.of (Lv.get (by assumption) 3 rfl)⟩ | exact ⟨_, SqL.of (Lv.get (by assumption) 4 rfl)⟩ | exact ⟨_, SqL.of (Lv.get (by assumption) 5 rfl)⟩ | exact Or.inl ⟨_, SqL.of (Lv.get (by assumption) 0 rfl), rfl⟩ | exact Or.inl ⟨_, SqL.of (Lv.get (by assumption) 1 rfl), rfl⟩ | exact Or.inl ⟨_, SqL.of (Lv.get (by assumption) 2 rfl), rfl⟩ | exact Or.inl ⟨_, SqL.of (Lv.get (by assumption) 3 rfl), rfl⟩ | exact Or.inl ⟨_, SqL.of (Lv.get (by assumption) 4 rfl), rfl⟩ | exact Or.inl ⟨_, SqL.of (Lv.get (by assumption) 5 rfl), rfl⟩ | exact Or.inl ⟨rfl, _, SqL.of (Lv.get (by assumption) 0 rfl)⟩ | exact Or.inl ⟨rfl, _, SqL.of (Lv.get (by assumption) 1 rfl)⟩ | exact Or.inl ⟨rfl, _, SqL.of (Lv.get (by assumption) 2 rfl)⟩ | exact Or.inl ⟨rfl, _, SqL.of (Lv.get (by assumption) 3 rfl)⟩ | exact Or.inl ⟨rfl, _, SqL.of (Lv.get (by assumption) 4 rfl)⟩ | exact Or.inl ⟨rfl, _, SqL.of (Lv.get (by assumption) 5 rfl)⟩ | exact Or.inr (SqT.of (Lv.get (by assumption) 0 rfl)) | exact Or.inr (SqT.of (Lv.get (by assumption) 1 rfl)) | exact Or.inr (SqT.of (Lv.get (by assumption) 2 rfl)) | exact Or.inr (SqT.of (Lv.get (by assumption) 3 rfl)) | exact SqT.of (Lv.get (by assumption) 0 rfl) | exact SqT.of (Lv.get (by assumption) 1 rfl) | exact SqT.of (Lv.get (by assumption) 2 rfl) | exact dgetN (Lv.get (by assumption) 0 rfl) (by assumption) | exact dgetN (Lv.get (by assumption) 1 rfl) (by assumption) | exact dgetN (Lv.get (by assumption) 2 rfl) (by assumption) | exact dgetN (Lv.get (by assumption) 3 rfl) (by assumption) | exact dgetN (Lv.get (by assumption) 4 rfl) (by assumption) | exact Or.inl (by assumption) | exact Or.inr (by assumption) | decide | ((with_reducible show _ ∧ _); omega)))) | ((fail_if_success (with_reducible apply @Exists.intro (Nat → _))); (with_reducible apply Exists.intro))))
local macro_rules
  | `(tactic| wide_line with al $lv:ident $l:ident $nl:ident $H:ident $lv1:ident $s1:ident) => `(tactic| (intro $l:ident $nl:ident; generalize he : upd _ _ _ = $H:ident; have $lv1:ident := Lv.alE $lv $nl he; have $s1:ident := sameE $nl he; clear he; (try dsimp only at $lv1:ident)))
  | `(tactic| wide_line with alx $lv:ident $nl:ident $H:ident $lv1:ident $s1:ident) => `(tactic| (generalize he : upd _ _ _ = $H:ident; have $lv1:ident := Lv.alE $lv $nl he; have $s1:ident := sameE $nl he; clear he; (try dsimp only at $lv1:ident)))
  | `(tactic| wide_line with sts $lv:ident $i:num $H:ident $lv1:ident $s0:ident $np:ident $s1:ident) => `(tactic| (generalize he : upd _ _ _ = $H:ident; have $lv1:ident := Lv.stE $lv $i rfl he; have $s1:ident := sameN $s0 $np he; clear he; (try dsimp only at $lv1:ident)))
  | `(tactic| wide_line with stx $lv:ident $H:ident $lv1:ident $d1:ident) => `(tactic| (generalize he : upd _ _ _ = $H:ident; have $lv1:ident := Lv.stE $lv 0 rfl he; have $d1:ident := SameD.storeE (Lv.get $lv 0 rfl) he; clear he; (try dsimp only at $lv1:ident)))
  | `(tactic| wide_line with st $lv:ident $i:num $H:ident $lv1:ident) => `(tactic| (generalize he : upd _ _ _ = $H:ident; have $lv1:ident := Lv.stE $lv $i rfl he; clear he; (try dsimp only at $lv1:ident)))
  | `(tactic| wide_line with stk $lv:ident $i:num $H:ident $lv1:ident $k1:ident) => `(tactic| (generalize he : upd _ _ _ = $H:ident; have $lv1:ident := Lv.stE $lv $i rfl he; have $k1:ident := KeepT.st (Lv.get $lv $i rfl) he; clear he; (try dsimp only at $lv1:ident)))
/-- o.m(e, ..), nothing raised -/
theorem pe_hML {X : Cx} {k j : Nat} {C : Addr} {m : Str} {ps : List Str} {sp : Sp} {o e : Expr} {es : List Expr} {apos pos : Pos} {ta : TE} {t : TA} {pl : Sem Bool} (h : HasM X.prog X.w X.K X.mg X.base (L2.CX X.prog X.w) j C m ps sp) (c : Cls X.K C) (hr : Room k X.A) (l : j ≤ k) (ho : PE X o ta) (ha : PA X (e :: es) t)
    (hst : starEach (e :: es) X.env = (false, eval e X.env) :: starEach es X.env := by rfl) (hpl : (backTo pos (starEach es X.env)).any (·.1) = false := by rfl)
    (ht : eval (.Call (.Attribute o m apos) (e :: es) [] pos) X.env = (do
      let ov ← eval o X.env
      standAt apos.atName
      let (f, first) ← holding [ov] (getMethod ov m pl)
      callWith pos f first (backTo pos (starEach (e :: es) X.env)) (backToKw pos (keywordEach [] X.env))) := by rfl) : PE X (.Call (.Attribute o m apos) (e :: es) [] pos) (tMeth C m sp [] E0 ta t) := by
  obtain ⟨f, fd, hm, b, F⟩ := h
  exact pe_meth ho c hm F (hr.mono l) b .nil passL ha hst hpl ht
theorem tiesAt_of {K : PySem.W.Frag} {H : Hp} : ∀ {xs : List V} {ts : List (Str × Str)}, TiesT H xs ts → TiesAt K H xs ts
  | _, _, .nil => .nil
  | _, _, .cons ⟨a, e, h⟩ t => .cons ⟨a, e, SqT.of h⟩ (tiesAt_of t)
/-- what is left without some names -/
def lessN (ns g : List Str) : List Str := ns.filter fun p => !decide (p ∈ g)
def lessT (ns : List Str) (ts : List (Str × Str)) (g : List Str) : List (Str × Str) := ts.filter fun t => decide (t.1 ∈ lessN ns g) && decide (t.2 ∈ lessN ns g)
/-- some, but not all names -/
def spareOf (ns : List Str) (d : PyData) : Bool := placesIn ns d && (match d with | .list ds => !decide (ds.length = ns.length) | _ => false)
theorem less_ok {n : Nat} {ns : List Str} {ts : List (Str × Str)} (h : PlanOk n ns ts) {g : List Str} (gn : g.Nodup) (gi : ∀ q ∈ g, q ∈ ns) (gl : g.length ≠ ns.length) : PlanOk n (lessN ns g) (lessT ns ts g) where
  one := by
    rcases Nat.eq_zero_or_pos (lessN ns g).length with z | z
    · exfalso
      have all : ∀ q ∈ ns, q ∈ g := fun q hq => by
        rcases Classical.em (q ∈ g) with y | y
        · exact y
        · have : q ∈ lessN ns g := List.mem_filter.mpr ⟨hq, by rw [decide_eq_false y]; rfl⟩
          rw [List.eq_nil_of_length_eq_zero z] at this
          cases this
      have a := nodup_len h.nd all
      have b := nodup_len gn gi
      omega
    · exact z
  most := Nat.le_trans (List.length_filter_le _ _) h.most
  nd := h.nd.sublist List.filter_sublist
  nm := fun x hx => h.nm x (List.mem_filter.mp hx).1
  tie := fun t ht => by
    obtain ⟨h1, h2⟩ := List.mem_filter.mp ht
    rw [Bool.and_eq_true, decide_eq_true_eq, decide_eq_true_eq] at h2
    exact ⟨h2.1, h2.2, (h.tie t h1).2.2⟩
  dif := h.dif.sublist (List.filter_sublist.map pairP)
  few := Nat.le_trans (List.length_filter_le _ _) h.few
/-- web.without(value) -/
def spWithout (K : PySem.W.Frag) (C CP : Addr) : Sp := fun vs H Q E => ∃ (x : Addr) (v : V) (n : Nat) (ns : List Str) (ts : List (Str × Str)) (d : PyData), vs = [.ref x, v] ∧ WebAt K C H x ns ts ∧ PlanOk n ns ts ∧ n ≤ 12 ∧ Dq K H v d ∧ (∀ ds, d = .list ds → noDicts ds = true ∧ ds.length ≤ 4000) ∧
  (spareOf ns d = false → Raised CP "value" H v E) ∧ ∀ ds, d = .list ds → spareOf ns d = true → ∀ y H', Same H H' → H y = none → WebAt K C H' y (lessN ns (strsD ds)) (lessT ns ts (strsD ds)) → Q (.ref y) H'
section
variable {P : Program} {w : World} {K : PySem.W.Frag} {mg : Str → Option Value} {base : Heap} {C CP CS CT fa : Addr} {fd : FuncData}
abbrev sWithout : Stmt := inClass (top ix_Web) mx_Web_without
theorem scWithout : FnScope ["self", "places", "kept", "place", "one", "other"] ["self", "places"] (defScope sWithout) := ⟨rfl, rfl, rfl, by decide +kernel, rfl, by decide +kernel, by decide +kernel⟩
theorem ok_without (T : Bn mg) (X : WC K C) (F : Fun K "without" "Web.without" sWithout fa fd) (h_are_places : Has P w K mg base CX0 4 "are_places" ["web", "value"] (spArePlaces K C)) (hE_BadPlaces : HasE P w K mg base 1 "BadPlaces" CP "value") (hW : HasW P w K mg base 4 C CP CS CT) : FnOk P w K mg base (L2.CX P w) 6 fa fd ["self", "places"] (spWithout K C CP) := by
  refine F.okX scWithout (fun vs H Q E h => ?_) (fun cdv A outer s H vs Q E hr h => ?_)
  · obtain ⟨x, v, n, ns, ts, d, rfl, _⟩ := h; rfl
  · obtain ⟨x, v, n, ns, ts, d, rfl, hw, pk, hn, hd, nodic, kb, kg⟩ := h
    have nd := scWithout.nd
    refine ⟨_, (pss_cons (ps_if (PW.pt (pw_or (pt_not (pt_val (pe_h h_are_places hr (by decide) rfl (pa_cons (pv 0) (pa_cons (pv 1) pa_nil))))) (pw_or1 (pt_cmpR op_eq (pe_callB call_len (by rfl) T.z_len (by decide +kernel) (pa_cons (pv 1) pa_nil)) (pe_callB call_len (by rfl) T.z_len (by decide +kernel) (pa_cons (pe_fld (pv 0) rfl) pa_nil)) (by first | exact nomark _ | rfl))))) (pss_one (ps_raise rfl (takes_of rfl rfl rfl rfl) (pmk_x hE_BadPlaces hr (by decide) rfl (pv 1)))) pss_nil)
    (pss_cons (ps_sv 2 nd (pe_lc (own := [("place", 3)]) (g := gName 3) rfl nd (pi_sq (pe_fld (pv 0) rfl)) (blkOk_by (own := [("place", 3)]) (N := ["self", "places", "kept", "place", "one", "other"]) (sc := defScope sWithout) (by decide +kernel)) (fun _ _ _ _ _ => (pg_name (i := 3) nd rfl (by first | exact Or.inl rfl | exact Or.inr rfl))) (fun _ _ _ _ _ => (pts_one (pt_cmpR (op_notIn_seqk (K := K) rfl) (pv 3) (pv 1) (by first | exact nomark _ | rfl)))) (fun _ _ _ _ _ => (pv 3))))
    (pss_one (ps_ret (pe_web hW hr (by decide) rfl (pa_cons (pv 2) (pa_cons (pe_lc (own := [("one", 4), ("other", 5)]) (g := _) rfl nd (pi_sq (pe_fld (pv 0) rfl)) (blkOk_by (own := [("one", 4), ("other", 5)]) (N := ["self", "places", "kept", "place", "one", "other"]) (sc := defScope sWithout) (by decide +kernel)) (fun _ _ _ _ _ => (pg_tupk (K := K) (n := 2) rfl rfl (pgs_cons (pg_name (i := 4) nd rfl (by first | exact Or.inl rfl | exact Or.inr rfl)) (pgs_cons (pg_name (i := 5) nd rfl (by first | exact Or.inl rfl | exact Or.inr rfl)) pgs_nil)))) (fun _ _ _ _ _ => (pts_one (PW.pt (pw_and (pt_cmpR (op_in_seqk (K := K) rfl) (pv 4) (pv 2) (by first | exact nomark _ | rfl)) (pw_and1 (pt_cmpR (op_in_seqk (K := K) rfl) (pv 5) (pv 2) (by first | exact nomark _ | rfl))))))) (fun _ _ _ _ _ => (pe_tup (pa_cons (pv 4) (pa_cons (pv 5) pa_nil))))) pa_nil))))))), ?_⟩
    have bad : ∀ H1, Same H H1 → spareOf ns d = false → Raised CP "value" H1 v E := fun H1 s1 c e H' s he hH => kb c e H' (s1.trans s) (free_of s1 he) hH
    have c1 := X.cls
    obtain ⟨_, n1, n2, _⟩ := id X
    refine ifs_to (fun b H' => Same H H' ∧ b = !spareOf ns d) (fun Q hQ => ?_) (fun H1 h1 => ?_) (fun H1 h1 => ?_)
    · wide_line
      intro H1 s1
      wide_line
      cases c : placesIn ns d with
      | false => exact iteT (hQ _ _ ⟨s1, by unfold spareOf; rw [c]; rfl⟩)
      | true =>
        cases hd with
        | @lst a xs ds hs ha =>
          have c0 : (ds.all (fun d => amid d ns) && decide (strsD ds).Nodup) = true := c
          rw [Bool.and_eq_true] at c0
          obtain ⟨e1, e2, e3⟩ := amids_of ha c0.1
          subst e1
          obtain ⟨⟨dx, tp, tt, sg, sn, sp, sq, rk, txs, hx, htp, htt, hts, _⟩⟩ := hw.same s1
          have hs1 : SqL K H1 a ((strsD ds).map V.str) := s1.seq hs
          have la : LenV K (.ref a) H1 (strsD ds).length := .inl ⟨_, hs1, by rw [List.length_map]⟩
          have lb : LenV K (.ref tp) H1 ns.length := .inr ⟨_, htp, by rw [List.length_map]⟩
          refine iteF ?_
          wide_line
          refine hQ _ _ ⟨s1, ?_⟩
          unfold spareOf
          rw [c]
          show decide (V.int ((strsD ds).length : Nat) = V.int (ns.length : Nat)) = !(true && !decide (ds.length = ns.length))
          rw [Bool.true_and, Bool.not_not]
          refine decide_eq_decide.mpr ⟨fun z => ?_, fun z => by rw [e2, z]⟩
          injection z with z
          omega
        | _ => cases c
    · wide_line
      intro e he
      have h2 := h1.2
      exact bad H1 h1.1 (by revert h2; cases spareOf ns d <;> intro h2 <;> first | rfl | cases h2) e _ (same_new he) he upd_same
    · obtain ⟨s1, eb⟩ := h1
      have sp1 : spareOf ns d = true := by revert eb; cases spareOf ns d <;> intro eb <;> first | rfl | cases eb
      have c : placesIn ns d = true := by
        unfold spareOf at sp1
        exact (Bool.and_eq_true_iff.mp sp1).1
      cases hd with
      | @lst a xs ds hs ha =>
        have c0 : (ds.all (fun d => amid d ns) && decide (strsD ds).Nodup) = true := c
        rw [Bool.and_eq_true] at c0
        obtain ⟨e1, e2, e3⟩ := amids_of ha c0.1
        subst e1
        have gne : (strsD ds).length ≠ ns.length := fun z => by
          unfold spareOf at sp1
          rw [c] at sp1
          have : (true && !decide (ds.length = ns.length)) = true := sp1
          rw [decide_eq_true (by omega)] at this
          cases this
        have pk2 := less_ok pk (of_decide_eq_true c0.2) e3 gne
        obtain ⟨⟨dx, tp, tt, sg, sn, sp, sq, rk, txs, hx, htp, htt, hts, _⟩⟩ := hw.same s1
        have hs1 : SqL K H1 a ((strsD ds).map V.str) := s1.seq hs
        have kg2 := kg ds rfl sp1
        generalize strsD ds = g at *
        have lv := Lv.zero H1
        wide_line
        intro J G ex hG wk L nL
        refine lc_it wk (fun i H' => Hold (Lv H1 [] H' [(L, .lst ((lessN (ns.take i) g).map V.str))])) ⟨lv.al nL⟩ (fun i H' _ z => hG H' (.same z.out.sm)) ?_ ?_
        · rintro i y H2 H3 hi ⟨lv2⟩ ⟨rfl, ex2⟩
          obtain ⟨p, hp, rfl⟩ := str_at ex2
          have hs2 : SqL K H3 a (g.map V.str) := lv2.sm.seq hs1
          wide_line
          rw [if_pos rfl, in_strs]
          wide_line
          have tk : lessN (ns.take (i + 1)) g = lessN (ns.take i) g ++ (if (!decide (p ∈ g)) = true then [p] else []) := by
            unfold lessN
            rw [take_next2 hp, List.filter_append, filter_one]
          refine ite2 (fun c3 => ?_) (fun c3 => ?_)
          · wide_line
            have l1 := List.length_filter_le (fun p => !decide (p ∈ g)) (ns.take i)
            have l2 := List.length_take_le i ns
            have l3 := (List.getElem?_eq_some_iff.mp hp).1
            have l4 := pk.most
            refine ⟨by rw [List.length_map, sizeLine_eq]; unfold lessN; omega, ?_⟩
            wide_line with st lv2 0 H4 lv4
            refine ⟨lv4.re ?_⟩
            rw [tk, if_pos c3, List.map_append]
            rfl
          · refine ⟨lv2.re ?_⟩
            rw [tk, if_neg c3, List.append_nil]
        · rintro H2 ⟨lv2⟩
          rw [List.length_map, List.take_length] at lv2
          have hx2 := lv2.sm _ _ hx
          have htt2 := same_t lv2.sm htt
          wide_line
          intro J2 G2 ex2 hG2 wk2 L2 nL2
          have xl : txs.length = ts.length := paired_len hts
          have hL2 := lv2.get 0 rfl
          have lvL := (Lv.zero H2).al (o := .lst []) nL2
          refine lc_it wk2 (fun i H' => Hold (∃ ys, Lv H2 [] H' [(L2, .lst ys)] ∧ TiesT H' ys (lessT ns (ts.take i) g))) ⟨[], lvL, .nil⟩ (fun i H' _ ⟨_, z, _⟩ => hG2 H' (.same z.sm)) ?_ ?_
          · rintro i y H3 H4 hi ⟨ys, lv3, tt3⟩ ⟨rfl, ex4⟩
            obtain ⟨t, b, ht, rfl, hb⟩ := ties_at ((hts.same lv2.sm).same lv3.sm) ex4
            have hLs : SqL K H4 L ((lessN ns g).map V.str) := SqL.of (lv3.sm _ _ hL2)
            have hb : SqT K H4 b [.str t.1, .str t.2] := hb
            have i7 : i < txs.length := hi
            have yl := paired_len tt3
            have l4 := pk.few
            have l5 := List.length_filter_le (fun t => decide (t.1 ∈ lessN ns g) && decide (t.2 ∈ lessN ns g)) (ts.take i)
            have l6 := List.length_take_le i ts
            have tk : lessT ns (ts.take (i + 1)) g = lessT ns (ts.take i) g ++ (if (decide (t.1 ∈ lessN ns g) && decide (t.2 ∈ lessN ns g)) = true then [t] else []) := by
              unfold lessT
              rw [take_next2 ht, List.filter_append]
              congr 1
              cases e : (decide (t.1 ∈ lessN ns g) && decide (t.2 ∈ lessN ns g)) <;> simp [List.filter, e]
            have skip : (decide (t.1 ∈ lessN ns g) && decide (t.2 ∈ lessN ns g)) = false → Hold (∃ ys, Lv H2 [] H4 [(L2, .lst ys)] ∧ TiesT H4 ys (lessT ns (ts.take (i + 1)) g)) := fun c => by
              rw [tk, if_neg (by rw [c]; decide), List.append_nil]
              exact ⟨ys, lv3, tt3⟩
            wide_line
            rw [if_neg (by decide), in_strs]
            wide_line
            refine ite2 (fun c3 => ?_) (fun c3 => ?_)
            · wide_line
              rw [if_neg (by decide), in_strs]
              wide_line
              refine ite2 (fun c4 => ?_) (fun c4 => ?_)
              · wide_line
                wide_line with al lv3 t1 nt1 H5 lv5 s5
                wide_line
                refine ⟨by rw [sizeLine_eq]; unfold lessT at yl; omega, ?_⟩
                wide_line with stk lv5 1 H6 lv6 kt6
                rw [tk, c3, c4]
                exact ⟨_, lv6.tl (fun z => nomatch z), paired_app ((tt3.keep (.same s5)).keep kt6) (.cons ⟨t1, rfl, kt6 _ _ (lv5.get 0 rfl)⟩ .nil)⟩
              · exact skip (by rw [c3]; cases z : decide (t.2 ∈ lessN ns g) with
                  | true => exact absurd z c4
                  | false => rfl)
            · exact skip (by cases z : decide (t.1 ∈ lessN ns g) with
                | true => exact absurd z c3
                | false => rfl)
          · rintro H3 ⟨ys, lv3, tt3⟩
            rw [xl, List.take_length] at tt3
            have sq1 : SqS K H3 L ((lessN ns g).map V.str) := .inl (SqL.of (lv3.sm _ _ hL2))
            have sq2 : SqS K H3 L2 ys := .inl (SqL.of (lv3.get 0 rfl))
            have tt3 : TiesAt K H3 ys (lessT ns ts g) := tiesAt_of tt3
            wide_line
            intro y H4 s4 ny hy
            exact kg2 y H4 (s1.trans (lv2.sm.trans (lv3.sm.trans s4))) (free_of (s1.trans lv2.sm) (lv3.free ny)) hy
      | _ => cases c
end
end Pw

set_option Elab.async false
set_option linter.all false
set_option maxRecDepth 100000
set_option maxHeartbeats 4000000
namespace Pw
open PySem PySem.Spec PyProof.Rows L2 Ct
local macro_rules | `(tactic| wide_line) => `(tactic| repeat ((fail_if_success (with_reducible refine at_while ?_)); (fail_if_success (with_reducible refine at_while1 ?_)); (conv => whnf); first | ((with_reducible refine And.intro ?_ ?_); focus (first | (first | ((with_reducible show (_ : Nat) ≤ _); first | exact sz0 | exact sz1 | exact sz2 | exact sz3 | exact sz4 | exact sz5 | exact sz6 | exact sz7 | exact sz8 | exact sz10 | exact sz11 | exact sz12 | exact sz14 | omega | decide | (simp only [List.length_cons, List.length_nil]; omega)) | ((with_reducible show (_ : Int) ≤ _); first | omega | decide) | ((with_reducible show (_ : Int) < _); first | omega | decide) | ((with_reducible show (_ : Nat) < _); omega)) | ((fail_if_success (with_reducible show (_ : Nat) ≤ _)); (fail_if_success (with_reducible show (_ : Int) ≤ _)); (fail_if_success (with_reducible show (_ : Int) < _)); (fail_if_success (with_reducible show (_ : Nat) < _)); first | exact kv_str _ | exact kv_int _ | rfl | assumption | exact flat_strs _ | exact Lv.get (by assumption) 0 rfl | exact Lv.get (by assumption) 1 rfl | exact Lv.get (by assumption) 2 rfl | exact Lv.get (by assumption) 3 rfl | exact Lv.get (by assumption) 4 rfl | exact Lv.get (by assumption) 5 rfl | exact Lv.get (by assumption) 6 rfl | exact SqL.of (Lv.get (by assumption) 0 rfl) | exact SqL.of (Lv.get (by assumption) 1 rfl) | exact SqL.of (Lv.get (by assumption) 2 rfl) | exact SqL.of (Lv.get (by assumption) 3 rfl) | exact SqL.of (Lv.get (by assumption) 4 rfl) | exact SqL.of (Lv.get (by assumption) 5 rfl) | exact Or.inl (SqL.of (Lv.get (by assumption) 0 rfl)) | exact Or.inl (SqL.of (Lv.get (by assumption) 1 rfl)) | exact Or.inl (SqL.of (Lv.get (by assumption) 2 rfl)) | exact Or.inl (SqL.of (Lv.get (by assumption) 3 rfl)) | exact Or.inl (SqL.of (Lv.get (by assumption) 4 rfl)) | exact Or.inl (SqL.of (Lv.get (by assumption) 5 rfl)) | exact ⟨_, SqL.of (Lv.get (by assumption) 0 rfl)⟩ | exact ⟨_, SqL.of (Lv.get (by assumption) 1 rfl)⟩ | exact ⟨_, SqL.of (Lv.get (by assumption) 2 rfl)⟩ | exact ⟨_, SqL.of (Lv.get (by assumption) 3 rfl)⟩ | exact ⟨_, SqL.of (Lv.get (by assumption) 4 rfl)⟩ | exact ⟨_, SqL.of (Lv.get (by assumption) 5 rfl)⟩ | exact Or.inl ⟨_, SqL.of (Lv.get (by assumption) 0 rfl), rfl⟩ | exact Or.inl ⟨_, SqL.of (Lv.get (by assumption) 1 rfl), rfl⟩ | exact Or.inl ⟨_, SqL.of (Lv.get (by assumption) 2 rfl), rfl⟩ | exact Or.inl ⟨_, SqL.of (Lv.get (by assumption) 3 rfl), rfl⟩ | exact Or.inl ⟨_, SqL.of (Lv.get (by assumption) 4 rfl), rfl⟩ | exact Or.inl ⟨_, SqL.of (Lv.get (by assumption) 5 rfl), rfl⟩ | exact Or.inl ⟨rfl, _, SqL.of (Lv.get (by assumption) 0 rfl)⟩ | exact Or.inl ⟨rfl, _, SqL.of (Lv.get (by assumption) 1 rfl)⟩ | exact Or.inl ⟨rfl, _, SqL.of (Lv.get (by assumption) 2 rfl)⟩ | exact Or.inl ⟨rfl, _, SqL.of (Lv.get (by assumption) 3 rfl)⟩ | exact Or.inl ⟨rfl, _, SqL.of (Lv.get (by assumption) 4 rfl)⟩ | exact Or.inl ⟨rfl, _, SqL.of (Lv.get (by assumption) 5 rfl)⟩ | exact Or.inr (SqT.of (Lv.get (by assumption) 0 rfl)) | exact Or.inr (SqT.of (Lv.get (by assumption) 1 rfl)) | exact Or.inr (SqT.of (Lv.get (by assumption) 2 rfl)) | exact Or.inr (SqT.of (Lv.get (by assumption) 3 rfl)) | exact SqT.of (Lv.get (by assumption) 0 rfl) | exact SqT.of (Lv.get (by assumption) 1 rfl) | exact SqT.of (Lv.get (by assumption) 2 rfl) | exact dgetN (Lv.get (by assumption) 0 rfl) (by assumption) | exact dgetN (Lv.get (by assumption) 1 rfl) (by assumption) | exact dgetN (Lv.get (by assumption) 2 rfl) (by assumption) | exact dgetN (Lv.get (by assumption) 3 rfl) (by assumption) | exact dgetN (Lv.get (by assumption) 4 rfl) (by assumption) | exact Or.inl (by assumption) | exact Or.inr (by assumption) | decide | ((with_reducible show _ ∧ _); omega)))) | ((fail_if_success (with_reducible apply @Exists.intro (Nat → _))); (with_reducible apply Exists.intro))))
local macro_rules
  | `(tactic| wide_line with al $lv:ident $l:ident $nl:ident $H:ident $lv1:ident $s1:ident) => `(tactic| (intro $l:ident $nl:ident; generalize he : upd _ _ _ = $H:ident; have $lv1:ident := Lv.alE $lv $nl he; have $s1:ident := sameE $nl he; clear he; (try dsimp only at $lv1:ident)))
  | `(tactic| wide_line with alx $lv:ident $nl:ident $H:ident $lv1:ident $s1:ident) => `(tactic| (generalize he : upd _ _ _ = $H:ident; have $lv1:ident := Lv.alE $lv $nl he; have $s1:ident := sameE $nl he; clear he; (try dsimp only at $lv1:ident)))
  | `(tactic| wide_line with sts $lv:ident $i:num $H:ident $lv1:ident $s0:ident $np:ident $s1:ident) => `(tactic| (generalize he : upd _ _ _ = $H:ident; have $lv1:ident := Lv.stE $lv $i rfl he; have $s1:ident := sameN $s0 $np he; clear he; (try dsimp only at $lv1:ident)))
  | `(tactic| wide_line with stx $lv:ident $H:ident $lv1:ident $d1:ident) => `(tactic| (generalize he : upd _ _ _ = $H:ident; have $lv1:ident := Lv.stE $lv 0 rfl he; have $d1:ident := SameD.storeE (Lv.get $lv 0 rfl) he; clear he; (try dsimp only at $lv1:ident)))
  | `(tactic| wide_line with st $lv:ident $i:num $H:ident $lv1:ident) => `(tactic| (generalize he : upd _ _ _ = $H:ident; have $lv1:ident := Lv.stE $lv $i rfl he; clear he; (try dsimp only at $lv1:ident)))
  | `(tactic| wide_line with stk $lv:ident $i:num $H:ident $lv1:ident $k1:ident) => `(tactic| (generalize he : upd _ _ _ = $H:ident; have $lv1:ident := Lv.stE $lv $i rfl he; have $k1:ident := KeepT.st (Lv.get $lv $i rfl) he; clear he; (try dsimp only at $lv1:ident)))
/-- where no datum is bad they are further ties -/
theorem tieBad_none {ns : List Str} : ∀ {ds : List PyData} {qs : List (Str × Str)} {i : Nat}, tieBad ns qs i ds = none → (∀ t ∈ tiesD ns ds, t.1 ∈ ns ∧ t.2 ∈ ns ∧ t.1 ≠ t.2) ∧ ((tiesD ns ds).map pairP).Nodup ∧ ∀ t ∈ tiesD ns ds, pairP t ∉ qs
  | [], _, _, _ => ⟨fun t h => (nomatch h), List.nodup_nil, fun t h => (nomatch h)⟩
  | d :: ds, qs, i, h => by
    unfold tieBad at h
    cases e : tieOf ns d with
    | none => rw [e] at h; cases h
    | some p =>
      rw [e] at h
      dsimp only at h
      by_cases c : pairP p ∈ qs
      · rw [if_pos c] at h; cases h
      · rw [if_neg c] at h
        obtain ⟨h1, h2, h3⟩ := tieBad_none h
        have ed : tiesD ns (d :: ds) = p :: tiesD ns ds := by unfold tiesD; rw [List.filterMap_cons, e]
        have pn : p.1 ∈ ns ∧ p.2 ∈ ns ∧ p.1 ≠ p.2 := by
          unfold tieOf at e
          split at e
          · split at e
            · split at e
              · rename_i c2
                cases e
                exact c2
              · cases e
            · cases e
          · cases e
        rw [ed]
        refine ⟨fun t ht => ?_, ?_, fun t ht => ?_⟩
        · rcases List.mem_cons.mp ht with rfl | ht
          · exact pn
          · exact h1 t ht
        · rw [List.map_cons]
          refine List.nodup_cons.mpr ⟨fun z => ?_, h2⟩
          obtain ⟨u, hu, eu⟩ := List.mem_map.mp z
          exact h3 u hu (eu ▸ List.mem_cons_self)
        · rcases List.mem_cons.mp ht with rfl | ht
          · exact c
          · exact fun z => h3 t ht (List.mem_cons_of_mem _ z)
theorem PlanOk.more {n : Nat} {ns : List Str} {ts : List (Str × Str)} (h : PlanOk n ns ts) {ds : List PyData} {i : Nat} (tb : tieBad ns (ts.map pairP) i ds = none) (few : ts.length + ds.length ≤ 75) : PlanOk n ns (ts ++ tiesD ns ds) := by
  obtain ⟨h1, h2, h3⟩ := tieBad_none tb
  refine ⟨h.one, h.most, h.nd, h.nm, fun t ht => ?_, ?_, ?_⟩
  · rcases List.mem_append.mp ht with z | z
    · exact h.tie t z
    · exact h1 t z
  · rw [List.map_append]
    refine List.nodup_append.mpr ⟨h.dif, h2, fun x hx y hy e => ?_⟩
    subst e
    obtain ⟨t, ht, rfl⟩ := List.mem_map.mp hy
    exact h3 t ht hx
  · rw [List.length_append]
    have : (tiesD ns ds).length ≤ ds.length := List.length_filterMap_le _ _
    omega
theorem TiesAt.app {K : PySem.W.Frag} {H : Hp} {xs ys : List V} {ts us : List (Str × Str)} (a : TiesAt K H xs ts) (b : TiesAt K H ys us) : TiesAt K H (xs ++ ys) (ts ++ us) := paired_app a b
/-- web.tied(value) -/
def spTied (K : PySem.W.Frag) (C CS CT : Addr) : Sp := fun vs H Q E => ∃ (x : Addr) (v : V) (n : Nat) (ns : List Str) (ts : List (Str × Str)) (d : PyData), vs = [.ref x, v] ∧ WebAt K C H x ns ts ∧ PlanOk n ns ts ∧ n ≤ 12 ∧ Dq K H v d ∧
  (seqD d = none → Raised CS "value" H v E) ∧ ∀ ds, seqD d = some ds → (∀ e ∈ ds, plainTie e) ∧ ts.length + ds.length ≤ 75 ∧ (∀ i, tieBad ns (ts.map pairP) 0 ds = some i → Raised CT "position" H (.int i) E) ∧
    (tieBad ns (ts.map pairP) 0 ds = none → ∀ y H', Same H H' → H y = none → WebAt K C H' y ns (ts ++ tiesD ns ds) → Q (.ref y) H')
section
variable {P : Program} {w : World} {K : PySem.W.Frag} {mg : Str → Option Value} {base : Heap} {C CP CS CT fa : Addr} {fd : FuncData}
abbrev sTied : Stmt := inClass (top ix_Web) mx_Web_tied
theorem scTied : FnScope ["self", "ties"] ["self", "ties"] (defScope sTied) := ⟨rfl, rfl, rfl, by decide +kernel, rfl, by decide +kernel, by decide +kernel⟩
theorem ok_tied (T : Bn mg) (X : WC K C) (F : Fun K "tied" "Web.tied" sTied fa fd) (h_check_ties : HasR P w K mg base 3 "_check_ties" ["places", "known", "ties"] (spCheckTies K CS CT)) (hW : HasW P w K mg base 4 C CP CS CT) : FnOk P w K mg base (L2.CX P w) 6 fa fd ["self", "ties"] (spTied K C CS CT) := by
  refine F.okX scTied (fun vs H Q E h => ?_) (fun cdv A outer s H vs Q E hr h => ?_)
  · obtain ⟨x, v, n, ns, ts, d, rfl, _⟩ := h; rfl
  · obtain ⟨x, v, n, ns, ts, d, rfl, hw, pk, hn, hd, kb, kg⟩ := h
    have nd := scTied.nd
    refine ⟨_, (pss_cons (ps_expr (pe_hR h_check_ties (takes_of rfl rfl rfl rfl) hr (by decide) rfl (pa_cons (pe_fld (pv 0) rfl) (pa_cons (pe_fld (pv 0) rfl) (pa_cons (pv 1) pa_nil)))))
    (pss_one (ps_ret (pe_web hW hr (by decide) rfl (pa_cons (pe_fld (pv 0) rfl) (pa_cons (pe_op op_catT2 (pe_fld (pv 0) rfl) (pe_callTy call_tupS (by rfl) T.z_tuple (by decide +kernel) (pa_cons (pv 1) pa_nil))) pa_nil)))))), ?_⟩
    have c1 := X.cls
    obtain ⟨_, n1, n2, _⟩ := id X
    obtain ⟨⟨dx, tp, tt, sg, sn, sp, sq, rk, txs, hx, htp, htt, hts, _⟩⟩ := id hw
    have sq1 : SqS K H tp (ns.map V.str) := .inr htp
    have sq2 : SqS K H tt txs := .inr htt
    wide_line
    intro ds e
    obtain ⟨pl, few, bad, good⟩ := kg ds e
    refine ⟨pl, few, fun gd H1 s1 => ?_, bad⟩
    obtain ⟨va, vxs, rfl, hv, hda, hvl⟩ := seq_of hd e
    obtain ⟨tat, tin⟩ := ties_ok hda gd
    have hx1 := s1 _ _ hx
    have htp1 := same_t s1 htp
    have htt1 := same_t s1 htt
    have hv1 := hv.same s1
    wide_line
    intro t2 H2 s2 ht2
    have l1 := paired_len hts
    have l2 := pk.few
    refine ⟨tt, t2, txs, vxs, rfl, rfl, same_t s2 htt1, ht2, by rw [sizeLine_eq]; omega, fun t3 H3 s3 ht3 => ?_⟩
    have s13 := s2.trans s3
    have sa : SqS K H3 tp (ns.map V.str) := .inr (same_t s13 htp1)
    have sb : SqS K H3 t3 (txs ++ vxs) := .inr ht3
    have st : TiesAt K H3 (txs ++ vxs) (ts ++ tiesD ns ds) := TiesAt.app (hts.same (s1.trans s13)) (tat.same (s1.trans s13))
    refine ⟨tp, t3, n, ns, _, ts ++ tiesD ns ds, rfl, sa, sb, st, pk.more gd few, hn, fun y H4 s4 ny hy => ?_⟩
    exact good gd y H4 (s1.trans (s13.trans s4)) (free_of (s1.trans s13) ny) hy
end
end Pw

set_option Elab.async false
set_option linter.all false
set_option maxRecDepth 100000
set_option maxHeartbeats 4000000
namespace Pw
open PySem PySem.Spec PyProof.Rows L2 Ct
local macro_rules | `(tactic| wide_line) => `(tactic| repeat ((fail_if_success (with_reducible refine at_while ?_)); (fail_if_success (with_reducible refine at_while1 ?_)); (conv => whnf); first | ((with_reducible refine And.intro ?_ ?_); focus (first | (first | ((with_reducible show (_ : Nat) ≤ _); first | exact sz0 | exact sz1 | exact sz2 | exact sz3 | exact sz4 | exact sz5 | exact sz6 | exact sz7 | exact sz8 | exact sz10 | exact sz11 | exact sz12 | exact sz14 | omega | decide | (simp only [List.length_cons, List.length_nil]; omega)) | ((with_reducible show (_ : Int) ≤ _); first | omega | decide) | ((with_reducible show (_ : Int) < _); first | omega | decide) | ((with_reducible show (_ : Nat) < _); omega)) | ((fail_if_success (with_reducible show (_ : Nat) ≤ _)); (fail_if_success (with_reducible show (_ : Int) ≤ _)); (fail_if_success (with_reducible show (_ : Int) < _)); (fail_if_success (with_reducible show (_ : Nat) < _)); first | exact kv_str _ | exact kv_int _ | rfl | assumption | exact flat_strs _ | exact Lv.get (by assumption) 0 rfl | exact Lv.get (by assumption) 1 rfl | exact Lv.get (by assumption) 2 rfl | exact Lv.get (by assumption) 3 rfl | exact Lv.get (by assumption) 4 rfl | exact Lv.get (by assumption) 5 rfl | exact Lv.get (by assumption) 6 rfl | exact SqL.of (Lv.get (by assumption) 0 rfl) | exact SqL.of (Lv.get (by assumption) 1 rfl) | exact SqL.of (Lv.get (by assumption) 2 rfl) | exact SqL.of (Lv.get (by assumption) 3 rfl) | exact SqL.of (Lv.get (by assumption) 4 rfl) | exact SqL.of (Lv.get (by assumption) 5 rfl) | exact Or.inl (SqL.of (Lv.get (by assumption) 0 rfl)) | exact Or.inl (SqL.of (Lv.get (by assumption) 1 rfl)) | exact Or.inl (SqL.of (Lv.get (by assumption) 2 rfl)) | exact Or.inl (SqL.of (Lv.get (by assumption) 3 rfl)) | exact Or.inl (SqL.of (Lv.get (by assumption) 4 rfl)) | exact Or.inl (SqL.of (Lv.get (by assumption) 5 rfl)) | exact ⟨_, SqL.of (Lv.get (by assumption) 0 rfl)⟩ | exact ⟨_, SqL.of (Lv.get (by assumption) 1 rfl)⟩ | exact ⟨_, SqL.of (Lv.get (by assumption) 2 rfl)⟩ | exact ⟨_, SqL.of (Lv.get (by assumption) 3 rfl)⟩ | exact ⟨_, SqL.of (Lv.get (by assumption) 4 rfl)⟩ | exact ⟨_, SqL.of (Lv.get (by assumption) 5 rfl)⟩ | exact Or.inl ⟨_, SqL.of (Lv.get (by assumption) 0 rfl), rfl⟩ | exact Or.inl ⟨_, SqL.of (Lv.get (by assumption) 1 rfl), rfl⟩ | exact Or.inl ⟨_, SqL.of (Lv.get (by assumption) 2 rfl), rfl⟩ | exact Or.inl ⟨_, SqL.of (Lv.get (by assumption) 3 rfl), rfl⟩ | exact Or.inl ⟨_, SqL.of (Lv.get (by assumption) 4 rfl), rfl⟩ | exact Or.inl ⟨_, SqL.of (Lv.get (by assumption) 5 rfl), rfl⟩ | exact Or.inl ⟨rfl, _, SqL.of (Lv.get (by assumption) 0 rfl)⟩ | exact Or.inl ⟨rfl, _, SqL.of (Lv.get (by assumption) 1 rfl)⟩ | exact Or.inl ⟨rfl, _, SqL.of (Lv.get (by assumption) 2 rfl)⟩ | exact Or.inl ⟨rfl, _, SqL.of (Lv.get (by assumption) 3 rfl)⟩ | exact Or.inl ⟨rfl, _, SqL.of (Lv.get (by assumption) 4 rfl)⟩ | exact Or.inl ⟨rfl, _, SqL.of (Lv.get (by assumption) 5 rfl)⟩ | exact Or.inr (SqT.of (Lv.get (by assumption) 0 rfl)) | exact Or.inr (SqT.of (Lv.get (by assumption) 1 rfl)) | exact Or.inr (SqT.of (Lv.get (by assumption) 2 rfl)) | exact Or.inr (SqT.of (Lv.get (by assumption) 3 rfl)) | exact SqT.of (Lv.get (by assumption) 0 rfl) | exact SqT.of (Lv.get (by assumption) 1 rfl) | exact SqT.of (Lv.get (by assumption) 2 rfl) | exact dgetN (Lv.get (by assumption) 0 rfl) (by assumption) | exact dgetN (Lv.get (by assumption) 1 rfl) (by assumption) | exact dgetN (Lv.get (by assumption) 2 rfl) (by assumption) | exact dgetN (Lv.get (by assumption) 3 rfl) (by assumption) | exact dgetN (Lv.get (by assumption) 4 rfl) (by assumption) | exact Or.inl (by assumption) | exact Or.inr (by assumption) | decide | ((with_reducible show _ ∧ _); omega)))) | ((fail_if_success (with_reducible apply @Exists.intro (Nat → _))); (with_reducible apply Exists.intro))))
local macro_rules
  | `(tactic| wide_line with al $lv:ident $l:ident $nl:ident $H:ident $lv1:ident $s1:ident) => `(tactic| (intro $l:ident $nl:ident; generalize he : upd _ _ _ = $H:ident; have $lv1:ident := Lv.alE $lv $nl he; have $s1:ident := sameE $nl he; clear he; (try dsimp only at $lv1:ident)))
  | `(tactic| wide_line with alx $lv:ident $nl:ident $H:ident $lv1:ident $s1:ident) => `(tactic| (generalize he : upd _ _ _ = $H:ident; have $lv1:ident := Lv.alE $lv $nl he; have $s1:ident := sameE $nl he; clear he; (try dsimp only at $lv1:ident)))
  | `(tactic| wide_line with sts $lv:ident $i:num $H:ident $lv1:ident $s0:ident $np:ident $s1:ident) => `(tactic| (generalize he : upd _ _ _ = $H:ident; have $lv1:ident := Lv.stE $lv $i rfl he; have $s1:ident := sameN $s0 $np he; clear he; (try dsimp only at $lv1:ident)))
  | `(tactic| wide_line with stx $lv:ident $H:ident $lv1:ident $d1:ident) => `(tactic| (generalize he : upd _ _ _ = $H:ident; have $lv1:ident := Lv.stE $lv 0 rfl he; have $d1:ident := SameD.storeE (Lv.get $lv 0 rfl) he; clear he; (try dsimp only at $lv1:ident)))
  | `(tactic| wide_line with st $lv:ident $i:num $H:ident $lv1:ident) => `(tactic| (generalize he : upd _ _ _ = $H:ident; have $lv1:ident := Lv.stE $lv $i rfl he; clear he; (try dsimp only at $lv1:ident)))
  | `(tactic| wide_line with stk $lv:ident $i:num $H:ident $lv1:ident $k1:ident) => `(tactic| (generalize he : upd _ _ _ = $H:ident; have $lv1:ident := Lv.stE $lv $i rfl he; have $k1:ident := KeepT.st (Lv.get $lv $i rfl) he; clear he; (try dsimp only at $lv1:ident)))
/-! a web stands beside its like -/
theorem pe_hM0 {X : Cx} {k j : Nat} {C : Addr} {m : Str} {ps : List Str} {sp : Sp} {o : Expr} {apos pos : Pos} {ta : TE} {pl : Sem Bool} (h : HasM X.prog X.w X.K X.mg X.base CX0 j C m ps sp) (c : Cls X.K C) (hr : Room k X.A) (l : j ≤ k) (ho : PE X o ta)
    (ht : eval (.Call (.Attribute o m apos) [] [] pos) X.env = (do
      let ov ← eval o X.env
      standAt apos.atName
      let (f, first) ← holding [ov] (getMethod ov m pl)
      callWith pos f first (backTo pos (starEach [] X.env)) (backToKw pos (keywordEach [] X.env))) := by rfl) : PE X (.Call (.Attribute o m apos) [] [] pos) (tMeth C m sp [] E0 ta tNil) := by
  obtain ⟨f, fd, hm, b, F⟩ := h
  exact pe_meth0 ho c hm F (hr.mono l) b .nil pass0 ht
/-- the own == of Web -/
def HasEq (P : Program) (w : World) (K : PySem.W.Frag) (mg : Str → Option Value) (base : Heap) (C : Addr) : Prop := ∃ f fd, FnOk P w K mg base CX0 1 f fd ["self", "other"] (spEqW K C) ∧ PySem.W.findIn K (.ref C) "__eq__" = some (some (.ref f)) ∧ PySem.W.isFn K (.ref f) = true ∧ Binds K fd ["self", "other"] []
def AlikeW (K : PySem.W.Frag) (C a b : Addr) (H : Hp) : Prop := ∃ ns ms ts us, WebAt K C H a ns ts ∧ WebAt K C H b ms us ∧ Good ns ts ∧ Good ms us ∧ eqW ns ms ts us = true
theorem op_eqW {X : Cx} {k : Nat} {C : Addr} (h : HasEq X.prog X.w X.K X.mg X.base C) (hr : Room k X.A) (l : 1 ≤ k) : OpR X (compareOp .Eq) (rEqG (DIns C (AlikeW X.K C))) := by
  obtain ⟨f, fd, F, h1, h2, b⟩ := h
  refine op_eqG (rcG_ins (F.imp fun vs H Q E q => ?_) h1 h2 b pass0) (hr.mono l)
  obtain ⟨x, y, rfl, ⟨ns, ms, ts, us, hx, hy, g1, g2, e⟩, q⟩ := q
  exact ⟨x, y, ns, ms, ts, us, rfl, hx, hy, g1, g2, by rw [e]; exact q H Ext.rfl'⟩
theorem op_neDk {X : Cx} {K : PySem.W.Frag} (hK : X.K = K) (hu : X.A.units + 64 < cLine) : OpR X (compareOp .NotEq) (rNeD K) := hK ▸ op_neD hu
theorem webIns {K : PySem.W.Frag} {C : Addr} {H : Hp} {x : Addr} {ns : List Str} {ts : List (Str × Str)} : WebAt K C H x ns ts → ∃ dx fs, H x = some (.ins C dx fs)
  | ⟨⟨dx, tp, tt, sg, sn, sp, sq, rk, xs, h1, _⟩⟩ => ⟨dx, _, h1⟩
theorem webNo {K : PySem.W.Frag} {C : Addr} {H : Hp} {x : Addr} {ns : List Str} {ts : List (Str × Str)} : WebAt K C H x ns ts → ∃ dx fs, H x = some (.ins C dx fs) ∧ fs.lookup ("sees" : Str) = none ∧ fs.lookup ("parts" : Str) = none ∧ fs.lookup ("tied" : Str) = none ∧ fs.lookup ("without" : Str) = none
  | ⟨⟨dx, tp, tt, sg, sn, sp, sq, rk, xs, h1, _⟩⟩ => ⟨dx, _, h1, rfl, rfl, rfl, rfl⟩
theorem PlanOk.good {n : Nat} {ns : List Str} {ts : List (Str × Str)} (h : PlanOk n ns ts) : Good ns ts := ⟨h.nm, fun t ht => ⟨h.nm _ (h.tie t ht).1, h.nm _ (h.tie t ht).2.1⟩⟩
theorem alike {K : PySem.W.Frag} {C : Addr} {H : Hp} {x y : Addr} {ns : List Str} {ts : List (Str × Str)} (hx : WebAt K C H x ns ts) (hy : WebAt K C H y ns ts) (g : Good ns ts) : DIns C (AlikeW K C) (.ref x) (.ref y) H := by
  obtain ⟨dx, fs, h1⟩ := webIns hx
  obtain ⟨dy, gs, h2⟩ := webIns hy
  exact ⟨x, y, dx, dy, fs, gs, rfl, rfl, h1, h2, ns, ns, ts, ts, hx, hy, g, g, eqW_self g⟩
theorem few_ties12 {n : Nat} {ns : List Str} {ts : List (Str × Str)} (pk : PlanOk n ns ts) (_ : n ≤ 12) : ts.length ≤ 75 := pk.few
theorem PartsR.mem {S : Str → List Str} {ns left : List Str} {ls : List (List Str)} (h : PartsR S ns left ls) : ∀ l ∈ ls, ∀ q ∈ l, q ∈ ns := by
  induction h with
  | nil => exact fun l z => nomatch z
  | cons _ _ ih =>
    intro l hl q hq
    rcases List.mem_cons.mp hl with z | z
    · rw [z] at hq; exact (List.mem_filter.mp hq).1
    · exact ih l z q hq
def rowD (l : List Str) : PyData := .list (l.map PyData.str)
theorem dp_strs {K : PySem.W.Frag} {H : Hp} : ∀ l : List Str, DpAll K H (l.map V.str) (l.map PyData.str)
  | [] => .nil
  | x :: l => .cons (.str x) (dp_strs l)
theorem RowAt.dp {K : PySem.W.Frag} {H : Hp} : ∀ {xs : List V} {ls : List (List Str)}, RowAt H xs ls → DpAll K H xs (ls.map rowD)
  | _, _, .nil => .nil
  | _, _, .cons ⟨a, e, h⟩ t => .cons (by subst e; exact .lst (SqL.of h) (dp_strs _)) (RowAt.dp t)
theorem lay_row {l : List Str} (h : ∀ q ∈ l, okName q = true) : (rowD l).canLay0 = true ∧ (rowD l).depth ≤ 5 := by
  have g : ∀ d ∈ l.map PyData.str, d.canLay0 = true ∧ d.depth ≤ 0 := fun d hd => by
    obtain ⟨n, hn, rfl⟩ := List.mem_map.mp hd
    exact ⟨by rw [PyData.canLay0]; exact strOk_of (h n hn), by simp [PyData.depth]⟩
  refine ⟨by unfold rowD; rw [PyData.canLay0]; exact lays_of fun d hd => (g d hd).1, ?_⟩
  unfold rowD
  rw [PyData.depth]
  have := depths_of (m := 0) fun d hd => (g d hd).2
  omega
theorem shaped_row {l : List Str} (h : ∀ q ∈ l, okName q = true) : SeqAt.shaped (rowD l) = true := by
  obtain ⟨h1, h2⟩ := lay_row h
  unfold SeqAt.shaped
  rw [h1, Bool.true_and]
  exact decide_eq_true (by omega)
theorem shaped_rows {ls : List (List Str)} (h : ∀ l ∈ ls, ∀ q ∈ l, okName q = true) : SeqAt.shaped (.list (ls.map rowD)) = true := shaped_list fun d hd => by
  obtain ⟨l, hl, rfl⟩ := List.mem_map.mp hd
  obtain ⟨h1, h2⟩ := lay_row (h l hl)
  exact ⟨h1, Nat.le_trans h2 (by decide)⟩
theorem lessN_nil (ns : List Str) : lessN ns [] = ns := List.filter_eq_self.mpr fun a _ => rfl
theorem lessT_nil {ns : List Str} {ts : List (Str × Str)} (h : ∀ t ∈ ts, t.1 ∈ ns ∧ t.2 ∈ ns ∧ t.1 ≠ t.2) : lessT ns ts [] = ts := List.filter_eq_self.mpr fun t ht => by
  rw [lessN_nil, decide_eq_true (h t ht).1, decide_eq_true (h t ht).2.1]; rfl
def spStands (K : PySem.W.Frag) (C : Addr) : Sp := fun vs H Q _ => ∃ (x kt a b : Addr) (n : Nat) (ns : List Str) (xs : List V) (ts : List (Str × Str)), vs = [.ref x, .ref kt] ∧ WebAt K C H x ns ts ∧ PlanOk n ns ts ∧ n ≤ 12 ∧ SqT K H kt [.ref a, .ref b] ∧ SqS K H a (ns.map V.str) ∧ SqS K H b xs ∧ TiesAt K H xs ts ∧ ∀ H', Same H H' → Q (.bl true) H'
section
variable {P : Program} {w : World} {K : PySem.W.Frag} {mg : Str → Option Value} {base : Heap} {C CP CS CT CN : Addr}
abbrev sLawStands : Stmt := top ix_law_stands
theorem scLawStands : FnScope ["web", "kept", "same", "place"] ["web", "kept"] (defScope sLawStands) := ⟨rfl, rfl, rfl, by decide +kernel, rfl, by decide +kernel, by decide +kernel⟩
theorem has_law_stands (T : Bn mg) (X : WC K C) (D : DFE K mg "_law_stands" sLawStands ["web", "kept"]) (hW : HasW P w K mg base 4 C CP CS CT) (hQ : HasEq P w K mg base C) (hM_sees : HasM P w K mg base (L2.CX P w) 5 C "sees" ["self", "place"] (spSees K C CN)) (hM_parts : HasM P w K mg base CX0 2 C "parts" ["self"] (spParts C K))
    (hM_tied : HasM P w K mg base (L2.CX P w) 6 C "tied" ["self", "ties"] (spTied K C CS CT)) (hM_without : HasM P w K mg base (L2.CX P w) 6 C "without" ["self", "places"] (spWithout K C CP)) : Has P w K mg base CX0 7 "_law_stands" ["web", "kept"] (spStands K C) := by
  refine has_of D scLawStands (fun vs H Q E h => ?_) (fun f cdv A outer s H vs Q E hr h => ?_)
  · obtain ⟨x, kt, a, b, n, ns, xs, ts, rfl, _⟩ := h; rfl
  · obtain ⟨x, kt, a, b, n, ns, xs, ts, rfl, hw, pk, hn, hkt, ha, hb, ht, k⟩ := h
    have nd := scLawStands.nd
    refine ⟨_, (pss_cons (ps_sv 2 nd (pe_web hW hr (by decide) rfl (pa_cons (pe_ix ix_tup (pv 1) pe_int (fun _ _ => rfl)) (pa_cons (pe_ix ix_tup (pv 1) pe_int (fun _ _ => rfl)) pa_nil))))
    (pss_cons (ps_if (PW.pt (pw_or (pt_cmpR (op_neNil hr.units) (pe_lc (own := [("place", 3)]) (g := gName 3) rfl nd (pi_sq (pe_ix ix_tup (pv 1) pe_int (fun _ _ => rfl))) (blkOk_by (own := [("place", 3)]) (N := ["web", "kept", "same", "place"]) (sc := defScope sLawStands) (by decide +kernel)) (fun _ _ _ _ _ => (pg_name (i := 3) nd rfl (by first | exact Or.inl rfl | exact Or.inr rfl))) (fun _ _ _ _ _ => (pts_one (pt_cmpR (op_neDk (K := K) rfl hr.units) (pe_hML hM_sees X.cls hr (by decide) (pv 0) (pa_cons (pv 3) pa_nil)) (pe_hML hM_sees X.cls hr (by decide) (pv 2) (pa_cons (pv 3) pa_nil)) (by first | exact nomark _ | rfl)))) (fun _ _ _ _ _ => (pv 3))) (pe_lst pa_nil) (by first | exact nomark _ | rfl)) (pw_or1 (pt_cmpR (op_neD hr.units) (pe_hM0 hM_parts X.cls hr (by decide) (pv 0)) (pe_hM0 hM_parts X.cls hr (by decide) (pv 2)) (by first | exact nomark _ | rfl))))) (pss_one (ps_ret pe_bl)) pss_nil)
    (pss_one (ps_ret (pe_and (pe_cmpR (op_eqW hQ hr (by decide)) (pv 0) (pv 2) (by first | exact nomark _ | rfl)) (pe_and (pe_cmpR (op_eqW hQ hr (by decide)) (pe_hML hM_tied X.cls hr (by decide) (pv 0) (pa_cons (pe_lst pa_nil) pa_nil)) (pv 2) (by first | exact nomark _ | rfl)) (pe_one (pe_cmpR (op_eqW hQ hr (by decide)) (pe_hML hM_without X.cls hr (by decide) (pv 0) (pa_cons (pe_lst pa_nil) pa_nil)) (pv 2) (by first | exact nomark _ | rfl))))))))), ?_⟩
    have c1 := X.cls
    have gd := pk.good
    have i0 : atI [V.ref a, V.ref b] 0 = some (.ref a) := rfl
    have i1 : atI [V.ref a, V.ref b] 1 = some (.ref b) := rfl
    wide_line
    intro y H1 s1 ny hy
    have hw1 := hw.same s1
    have hkt1 := same_t s1 hkt
    have ha1 := ha.same s1
    wide_line
    intro J G ex hG wk L nL
    refine lc_it wk (fun i H2 => Lv H1 [] H2 [(L, .lst [])]) ((Lv.zero H1).al nL) (fun i H2 _ p => hG H2 (.same p.sm)) ?_ ?_
    · rintro i v H2 H3 hi lv ⟨rfl, hxi⟩
      obtain ⟨q, hq, rfl⟩ := List.mem_map.mp (List.mem_of_getElem? hxi)
      have hw2 := hw1.same lv.sm
      have hy2 := WebAt.same lv.sm hy
      obtain ⟨dx, fs, hx2, no1, _⟩ := webNo hw2
      refine ⟨rfl, _, rfl, x, dx, fs, rfl, hx2, no1, _, rfl, x, .str q, ns, ts, .str q, rfl, hw2, .str q, fun p e hp l H4 s4 nl hl => ?_, fun z => ?_⟩
      · cases e
        have hy4 := WebAt.same s4 hy2
        obtain ⟨dy, gs, hy5, no2, _⟩ := webNo hy4
        refine ⟨_, rfl, y, dy, gs, rfl, hy5, no2, _, rfl, y, .str q, ns, ts, .str q, rfl, hy4, .str q, fun p e hp l5 H5 s5 nl5 hl5 => ?_, fun z => ?_⟩
        · cases e
          have go : ∀ z ∈ seenOf ns ts q, okName z = true := fun z hz => pk.nm z (List.mem_filter.mp hz).1
          refine ⟨rowD (seenOf ns ts q), rowD (seenOf ns ts q), .lst (SqL.of (s5 _ _ hl)) (dp_strs _), .lst (SqL.of hl5) (dp_strs _), shaped_row go, shaped_row go, ?_⟩
          rw [SeqAt.eqv_refl _ (SeqAt.canLay_of_shaped (shaped_row go))]
          exact ⟨_, rfl, iteF (Lv.same (Lv.same lv s4) s5)⟩
        · exact absurd (amid_str.mpr hq) (by rw [z]; decide)
      · exact absurd (amid_str.mpr hq) (by rw [z]; decide)
    · intro H2 lv
      refine ⟨by decide, fun l2 n2 => ?_⟩
      wide_line with alx lv n2 H3 lv3 s3
      refine ⟨_, _, _, rfl, rfl, SqL.of (lv3.get 1 rfl), SqL.of (lv3.get 0 rfl), _, rfl, iteF ?_⟩
      have s03 : Same H1 H3 := lv3.sm
      have hw3 := hw1.same s03
      have hy3 := WebAt.same s03 hy
      obtain ⟨dx, fs, hx3, _, no1, _⟩ := webNo hw3
      refine ⟨_, rfl, x, dx, fs, rfl, hx3, no1, x, ns, ts, rfl, hw3, Nat.le_trans pk.most (Nat.le_trans hn (by decide)), fun ls pl l xs1 H4 s4 nl hl rw1 => ?_⟩
      have hy4 := WebAt.same s4 hy3
      obtain ⟨dy, gs, hy5, _, no2, _⟩ := webNo hy4
      refine ⟨_, rfl, y, dy, gs, rfl, hy5, no2, y, ns, ts, rfl, hy4, Nat.le_trans pk.most (Nat.le_trans hn (by decide)), fun ls2 pl2 l5 xs5 H5 s5 nl5 hl5 rw5 => ?_⟩
      obtain rfl := pl.det pl2
      have go : ∀ l ∈ ls, ∀ q ∈ l, okName q = true := fun l hl q hq => pk.nm q (pl.mem l hl q hq)
      refine ⟨.list (ls.map rowD), .list (ls.map rowD), .lst (SqL.of (s5 _ _ hl)) (RowAt.dp (RowAt.same s5 rw1)), .lst (SqL.of hl5) (RowAt.dp rw5), shaped_rows go, shaped_rows go, ?_⟩
      rw [SeqAt.eqv_refl _ (SeqAt.canLay_of_shaped (shaped_rows go))]
      refine ⟨_, rfl, iteF ?_⟩
      have s05 := s03.trans (s4.trans s5)
      have hw5 := hw1.same s05
      have hy5' := WebAt.same s05 hy
      refine ⟨_, rfl, _, rfl, alike hw5 hy5' gd, fun H6 e6 => ⟨_, rfl, iteT ?_⟩⟩
      have hw6 := hw5.same e6
      have hy6 := WebAt.same e6 hy5'
      obtain ⟨dx6, fs6, hx6, _, _, no6, _⟩ := webNo hw6
      refine ⟨_, rfl, x, dx6, fs6, rfl, hx6, no6, by decide, fun l7 n7 => ?_⟩
      have s7 := same_new (o := .lst []) n7
      have hl7 : upd H6 l7 (.lst []) l7 = some (.lst []) := upd_same
      generalize upd H6 l7 (.lst []) = H7 at s7 hl7 ⊢
      refine ⟨x, .ref l7, n, ns, ts, .list [], rfl, hw6.same s7, pk, hn, .lst (SqL.of hl7) .nil, fun z => (nomatch z), fun ds e => ?_⟩
      cases e
      refine ⟨fun _ z => (nomatch z), by have := few_ties12 pk hn; show _ + 0 ≤ 75; omega, fun i z => (nomatch z), fun _ z8 H8 s8 _ hz8 => ?_⟩
      have e8 : ts ++ tiesD ns [] = ts := List.append_nil ts
      rw [e8] at hz8
      have s68 := s7.trans s8
      refine ⟨_, rfl, alike hz8 (WebAt.same s68 hy6) gd, fun H9 e9 => ⟨_, rfl, iteT ?_⟩⟩
      have hw9 := hw6.same (s68.trans e9)
      have hy9 := WebAt.same (s68.trans e9) hy6
      obtain ⟨dx9, fs9, hx9, _, _, _, no9⟩ := webNo hw9
      refine ⟨_, rfl, x, dx9, fs9, rfl, hx9, no9, by decide, fun la na => ?_⟩
      have sa := same_new (o := .lst []) na
      have hla : upd H9 la (.lst []) la = some (.lst []) := upd_same
      generalize upd H9 la (.lst []) = Ha at sa hla ⊢
      have sp : spareOf ns (.list []) = true := by
        have := pk.one
        show (true && !decide (0 = ns.length)) = true
        rw [decide_eq_false (by omega)]
        rfl
      refine ⟨x, .ref la, n, ns, ts, .list [], rfl, hw9.same sa, pk, hn, .lst (SqL.of hla) .nil, fun ds e => by cases e; exact ⟨rfl, Nat.zero_le _⟩, fun z => Bool.noConfusion (sp.symm.trans z), fun ds e _ zb Hb sb _ hzb => ?_⟩
      cases e
      have hzb : WebAt K C Hb zb (lessN ns []) (lessT ns ts []) := hzb
      rw [lessN_nil, lessT_nil pk.tie] at hzb
      refine ⟨_, rfl, alike hzb (WebAt.same (sa.trans sb) hy9) gd, fun Hc ec => k Hc ?_⟩
      exact s1.trans (s05.trans (Same.trans e6 (s68.trans (Same.trans e9 (sa.trans (sb.trans ec))))))
end
end Pw

set_option Elab.async false
set_option linter.all false
set_option maxRecDepth 100000
set_option maxHeartbeats 4000000
namespace Pw
open PySem PySem.Spec PyProof.Rows L2 Ct
local macro_rules | `(tactic| wide_line) => `(tactic| repeat ((fail_if_success (with_reducible refine at_while ?_)); (fail_if_success (with_reducible refine at_while1 ?_)); (conv => whnf); first | ((with_reducible refine And.intro ?_ ?_); focus (first | (first | ((with_reducible show (_ : Nat) ≤ _); first | exact sz0 | exact sz1 | exact sz2 | exact sz3 | exact sz4 | exact sz5 | exact sz6 | exact sz7 | exact sz8 | exact sz10 | exact sz11 | exact sz12 | exact sz14 | omega | decide | (simp only [List.length_cons, List.length_nil]; omega)) | ((with_reducible show (_ : Int) ≤ _); first | omega | decide) | ((with_reducible show (_ : Int) < _); first | omega | decide) | ((with_reducible show (_ : Nat) < _); omega)) | ((fail_if_success (with_reducible show (_ : Nat) ≤ _)); (fail_if_success (with_reducible show (_ : Int) ≤ _)); (fail_if_success (with_reducible show (_ : Int) < _)); (fail_if_success (with_reducible show (_ : Nat) < _)); first | exact kv_str _ | exact kv_int _ | rfl | assumption | exact flat_strs _ | exact Lv.get (by assumption) 0 rfl | exact Lv.get (by assumption) 1 rfl | exact Lv.get (by assumption) 2 rfl | exact Lv.get (by assumption) 3 rfl | exact Lv.get (by assumption) 4 rfl | exact Lv.get (by assumption) 5 rfl | exact Lv.get (by assumption) 6 rfl | exact SqL.of (Lv.get (by assumption) 0 rfl) | exact SqL.of (Lv.get (by assumption) 1 rfl) | exact SqL.of (Lv.get (by assumption) 2 rfl) | exact SqL.of (Lv.get (by assumption) 3 rfl) | exact SqL.of (Lv.get (by assumption) 4 rfl) | exact SqL.of (Lv.get (by assumption) 5 rfl) | exact Or.inl (SqL.of (Lv.get (by assumption) 0 rfl)) | exact Or.inl (SqL.of (Lv.get (by assumption) 1 rfl)) | exact Or.inl (SqL.of (Lv.get (by assumption) 2 rfl)) | exact Or.inl (SqL.of (Lv.get (by assumption) 3 rfl)) | exact Or.inl (SqL.of (Lv.get (by assumption) 4 rfl)) | exact Or.inl (SqL.of (Lv.get (by assumption) 5 rfl)) | exact ⟨_, SqL.of (Lv.get (by assumption) 0 rfl)⟩ | exact ⟨_, SqL.of (Lv.get (by assumption) 1 rfl)⟩ | exact ⟨_, SqL.of (Lv.get (by assumption) 2 rfl)⟩ | exact ⟨_, SqL.of (Lv.get (by assumption) 3 rfl)⟩ | exact ⟨_, SqL.of (Lv.get (by assumption) 4 rfl)⟩ | exact ⟨_, SqL.of (Lv.get (by assumption) 5 rfl)⟩ | exact Or.inl ⟨_, SqL.of (Lv.get (by assumption) 0 rfl), rfl⟩ | exact Or.inl ⟨_, SqL.of (Lv.get (by assumption) 1 rfl), rfl⟩ | exact Or.inl ⟨_, SqL.of (Lv.get (by assumption) 2 rfl), rfl⟩ | exact Or.inl ⟨_, SqL.of (Lv.get (by assumption) 3 rfl), rfl⟩ | exact Or.inl ⟨_, SqL.of (Lv.get (by assumption) 4 rfl), rfl⟩ | exact Or.inl ⟨_, SqL.of (Lv.get (by assumption) 5 rfl), rfl⟩ | exact Or.inl ⟨rfl, _, SqL.of (Lv.get (by assumption) 0 rfl)⟩ | exact Or.inl ⟨rfl, _, SqL.of (Lv.get (by assumption) 1 rfl)⟩ | exact Or.inl ⟨rfl, _, SqL.of (Lv.get (by assumption) 2 rfl)⟩ | exact Or.inl ⟨rfl, _, SqL.of (Lv.get (by assumption) 3 rfl)⟩ | exact Or.inl ⟨rfl, _, SqL.of (Lv.get (by assumption) 4 rfl)⟩ | exact Or.inl ⟨rfl, _, SqL.of (Lv.get (by assumption) 5 rfl)⟩ | exact Or.inr (SqT.of (Lv.get (by assumption) 0 rfl)) | exact Or.inr (SqT.of (Lv.get (by assumption) 1 rfl)) | exact Or.inr (SqT.of (Lv.get (by assumption) 2 rfl)) | exact Or.inr (SqT.of (Lv.get (by assumption) 3 rfl)) | exact SqT.of (Lv.get (by assumption) 0 rfl) | exact SqT.of (Lv.get (by assumption) 1 rfl) | exact SqT.of (Lv.get (by assumption) 2 rfl) | exact dgetN (Lv.get (by assumption) 0 rfl) (by assumption) | exact dgetN (Lv.get (by assumption) 1 rfl) (by assumption) | exact dgetN (Lv.get (by assumption) 2 rfl) (by assumption) | exact dgetN (Lv.get (by assumption) 3 rfl) (by assumption) | exact dgetN (Lv.get (by assumption) 4 rfl) (by assumption) | exact Or.inl (by assumption) | exact Or.inr (by assumption) | decide | ((with_reducible show _ ∧ _); omega)))) | ((fail_if_success (with_reducible apply @Exists.intro (Nat → _))); (with_reducible apply Exists.intro))))
local macro_rules
  | `(tactic| wide_line with al $lv:ident $l:ident $nl:ident $H:ident $lv1:ident $s1:ident) => `(tactic| (intro $l:ident $nl:ident; generalize he : upd _ _ _ = $H:ident; have $lv1:ident := Lv.alE $lv $nl he; have $s1:ident := sameE $nl he; clear he; (try dsimp only at $lv1:ident)))
  | `(tactic| wide_line with alx $lv:ident $nl:ident $H:ident $lv1:ident $s1:ident) => `(tactic| (generalize he : upd _ _ _ = $H:ident; have $lv1:ident := Lv.alE $lv $nl he; have $s1:ident := sameE $nl he; clear he; (try dsimp only at $lv1:ident)))
  | `(tactic| wide_line with sts $lv:ident $i:num $H:ident $lv1:ident $s0:ident $np:ident $s1:ident) => `(tactic| (generalize he : upd _ _ _ = $H:ident; have $lv1:ident := Lv.stE $lv $i rfl he; have $s1:ident := sameN $s0 $np he; clear he; (try dsimp only at $lv1:ident)))
  | `(tactic| wide_line with stx $lv:ident $H:ident $lv1:ident $d1:ident) => `(tactic| (generalize he : upd _ _ _ = $H:ident; have $lv1:ident := Lv.stE $lv 0 rfl he; have $d1:ident := SameD.storeE (Lv.get $lv 0 rfl) he; clear he; (try dsimp only at $lv1:ident)))
  | `(tactic| wide_line with st $lv:ident $i:num $H:ident $lv1:ident) => `(tactic| (generalize he : upd _ _ _ = $H:ident; have $lv1:ident := Lv.stE $lv $i rfl he; clear he; (try dsimp only at $lv1:ident)))
  | `(tactic| wide_line with stk $lv:ident $i:num $H:ident $lv1:ident $k1:ident) => `(tactic| (generalize he : upd _ _ _ = $H:ident; have $lv1:ident := Lv.stE $lv $i rfl he; have $k1:ident := KeepT.st (Lv.get $lv $i rfl) he; clear he; (try dsimp only at $lv1:ident)))
/-! the verdict of what was bent; Web of one argument -/
/-- what is at fault: its tag, and the value told -/
inductive Bad (v tv : V) (d td : PyData) : Str → V → PyData → Prop
  | places : placesOf d = none → Bad v tv d td "places" v d
  | ties {ns : List Str} : placesOf d = some ns → seqD td = none → Bad v tv d td "ties" tv td
  | tie {ns : List Str} {tds : List PyData} {i : Nat} : placesOf d = some ns → seqD td = some tds → tieBad ns [] 0 tds = some i → Bad v tv d td "tie" (.int i) (.int i)
theorem verdict (v tv : V) (d td : PyData) : (∃ tag u du, Bad v tv d td tag u du) ∨ ∃ ns tds, placesOf d = some ns ∧ seqD td = some tds ∧ tieBad ns [] 0 tds = none := by
  cases e1 : placesOf d with
  | none => exact .inl ⟨_, _, _, .places e1⟩
  | some ns =>
    cases e2 : seqD td with
    | none => exact .inl ⟨_, _, _, .ties e1 e2⟩
    | some tds =>
      cases e3 : tieBad ns [] 0 tds with
      | some i => exact .inl ⟨_, _, _, .tie e1 e2 e3⟩
      | none => exact .inr ⟨ns, tds, rfl, rfl, e3⟩
section
variable {K : PySem.W.Frag} {H R : Hp} {p C : Addr} {v tv u : V} {d td du : PyData} {n m : Nat} {tag : Str}
theorem AV.ok (h : AV K R H p v d n) (le : n ≤ 72) : ValOk d := by
  rcases h with ⟨a, xs, ds, _, _, e, _, _, _, l, ft⟩ | ⟨_, _, h⟩
  · subst e
    exact ⟨fun es z => by cases z; exact ⟨Nat.le_trans l le, ft⟩, fun z => nomatch z⟩
  · exact h
theorem ValOk.txt (h : ValOk d) : txtOk d := fun ds e => by
  obtain ⟨l, ft⟩ := h.1 ds e
  exact ⟨by omega, fun x hx => by have := (ft _ hx).2.2 x rfl; rw [sizeLine_eq]; omega⟩
theorem due_bad (b : Bad v tv d td tag u du) (h1 : Dq K H v d) (h2 : Dq K H tv td) (o1 : ValOk d) (o2 : ValOk td) {Q : VK} {E : XK} (k : ∀ r H', Same H H' → H r = none → H' r = some (.tup [.str tag, u]) → Q (.ref r) H') : spDue K [v, tv] H Q E := by
  refine ⟨v, tv, d, td, rfl, h1, h2, o1.txt, fun z => ?_, fun ns e => ⟨fun z => ?_, fun tds e2 => ⟨by have := (o2.1 tds e2).1; omega, fun i z => ?_, fun z => ?_⟩⟩⟩
  · cases b with
    | places _ => exact k
    | ties e _ => rw [z] at e; cases e
    | tie e _ _ => rw [z] at e; cases e
  · cases b with
    | places e' => rw [e] at e'; cases e'
    | ties _ _ => exact k
    | tie _ e' _ => rw [z] at e'; cases e'
  · cases b with
    | places e' => rw [e] at e'; cases e'
    | ties _ e' => rw [e2] at e'; cases e'
    | tie e1 e3 e4 =>
      rw [e] at e1; cases e1
      rw [e2] at e3; cases e3
      rw [z] at e4; cases e4
      exact k
  · cases b with
    | places e' => rw [e] at e'; cases e'
    | ties _ e' => rw [e2] at e'; cases e'
    | tie e1 e3 e4 =>
      rw [e] at e1; cases e1
      rw [e2] at e3; cases e3
      rw [z] at e4; cases e4
theorem told_bad (b : Bad v tv d td tag u du) (h1 : Dq K H v d) (h2 : Dq K H tv td) (o1 : ValOk d) (o2 : ValOk td) {Q : VK} {E : XK} (k : ∀ r H', Same H H' → H r = none → H' r = some (.tup [.str tag, u]) → Q (.ref r) H') : spTold K C [v, tv] H Q E := by
  refine ⟨v, tv, d, td, rfl, h1, h2, o1.txt, fun z => ?_, fun ns e => ⟨fun z => ?_, fun tds e2 => ⟨fun e he => ((o2.1 tds e2).2 e he).2.1, by have := (o2.1 tds e2).1; omega, fun i z => ?_, fun z => ?_⟩⟩⟩
  · cases b with
    | places _ => exact k
    | ties e _ => rw [z] at e; cases e
    | tie e _ _ => rw [z] at e; cases e
  · cases b with
    | places e' => rw [e] at e'; cases e'
    | ties _ _ => exact k
    | tie _ e' _ => rw [z] at e'; cases e'
  · cases b with
    | places e' => rw [e] at e'; cases e'
    | ties _ e' => rw [e2] at e'; cases e'
    | tie e1 e3 e4 =>
      rw [e] at e1; cases e1
      rw [e2] at e3; cases e3
      rw [z] at e4; cases e4
      exact k
  · cases b with
    | places e' => rw [e] at e'; cases e'
    | ties _ e' => rw [e2] at e'; cases e'
    | tie e1 e3 e4 =>
      rw [e] at e1; cases e1
      rw [e2] at e3; cases e3
      rw [z] at e4; cases e4
variable {ns : List Str} {tds : List PyData}
theorem due_good (e1 : placesOf d = some ns) (e2 : seqD td = some tds) (e3 : tieBad ns [] 0 tds = none) (h1 : Dq K H v d) (h2 : Dq K H tv td) (o1 : ValOk d) (o2 : ValOk td) {Q : VK} {E : XK} (k : ∀ H', Same H H' → Q .non H') : spDue K [v, tv] H Q E :=
  ⟨v, tv, d, td, rfl, h1, h2, o1.txt, fun z => (by rw [e1] at z; cases z), fun ns' e => (by
    rw [e1] at e
    cases e
    exact ⟨fun z => (by rw [e2] at z; cases z), fun tds' e' => (by
      rw [e2] at e'
      cases e'
      exact ⟨by have := (o2.1 tds e2).1; omega, fun i z => (by rw [e3] at z; cases z), fun _ => k⟩)⟩)⟩
theorem told_good (e1 : placesOf d = some ns) (e2 : seqD td = some tds) (e3 : tieBad ns [] 0 tds = none) (h1 : Dq K H v d) (h2 : Dq K H tv td) (o1 : ValOk d) (o2 : ValOk td) {Q : VK} {E : XK} (k : ∀ r x H', Same H H' → H r = none → H x = none → H' r = some (.tup [.str "made", .ref x]) → WebAt K C (noLst H H') x ns (tiesD ns tds) → Q (.ref r) H') : spTold K C [v, tv] H Q E :=
  ⟨v, tv, d, td, rfl, h1, h2, o1.txt, fun z => (by rw [e1] at z; cases z), fun ns' e => (by
    rw [e1] at e
    cases e
    exact ⟨fun z => (by rw [e2] at z; cases z), fun tds' e' => (by
      rw [e2] at e'
      cases e'
      exact ⟨fun e he => ((o2.1 tds e2).2 e he).2.1, by have := (o2.1 tds e2).1; omega, fun i z => (by rw [e3] at z; cases z), fun _ => k⟩)⟩)⟩
/-- what is shown of a value is short -/
theorem ValOk.sm (h : ValOk d) : Sm 4 30000 d := by
  cases e : seqD d with
  | none => exact (h.2 e).mono (by decide) (by decide)
  | some ds =>
    obtain ⟨l, ft⟩ := h.1 ds e
    cases d with
    | list es => cases e; exact (Sm.list (fun x hx => (ft x hx).1) l).mono (by decide) (by decide)
    | tuple es => cases e; exact (Sm.tuple (fun x hx => (ft x hx).1) l).mono (by decide) (by decide)
    | _ => cases e
theorem Sm.two {k m : Nat} {x y : PyData} (hx : Sm k m x) (hy : Sm k m y) : Sm (k + 1) (2 * (m + 2) + 4) (.list [x, y]) ∧ Sm (k + 1) (2 * (m + 2) + 4) (.tuple [x, y]) := by
  have h : ∀ d ∈ [x, y], Sm k m d := fun d hd => by
    rcases List.mem_cons.mp hd with z | z
    · rw [z]; exact hx
    · rw [List.mem_singleton.mp z]; exact hy
  exact ⟨Sm.list h (Nat.le_refl 2), Sm.tuple h (Nat.le_refl 2)⟩
/-- repr of what is short -/
theorem rep_ok {k m : Nat} {a : Addr} {d : PyData} {Q : VK} (h : Sm k m d) (hk : k ≤ 60) (hm : m ≤ 1000000) (hd : Dq K H (.ref a) d) (q : Q (.str d.shown) H) : rRep K [.ref a] H Q :=
  ⟨a, d, rfl, hd, h.1, Nat.le_trans h.2.1 hk, Nat.le_trans h.2.2 (Nat.le_trans hm (by decide)), q⟩
end
/-- Web(p) of right names, no ties -/
def tWeb1 (K : PySem.W.Frag) (C : Addr) (t : TA) : TE := fun σ H Q => t σ H fun vs H1 => ∃ (a : Addr) (ns : List Str), vs = [.ref a] ∧ SqS K H1 a (ns.map V.str) ∧ PlanOk 12 ns [] ∧ ∀ x H', Same H1 H' → H1 x = none → WebAt K C H' x ns [] → Q (.ref x) H'
theorem pe_web1 {X : Cx} {C CP CS CT : Addr} {j k : Nat} {e : Expr} {es : List Expr} {t : TA} {p pos : Pos} (h : HasW X.prog X.w X.K X.mg X.base j C CP CS CT) (hr : Room k X.A) (l : j + 1 ≤ k) (hg : Gl X "Web") (ha : PA X (e :: es) t)
    (he : starEach (e :: es) X.env = (false, eval e X.env) :: starEach es X.env := by rfl) (hpl : (backTo pos (starEach es X.env)).any (·.1) = false := by rfl) : PE X (.Call (.Name "Web" p) (e :: es) [] pos) (tWeb1 X.K C t) := by
  obtain ⟨g, f, T0, fd, ds, o, n0, M, F, _, b, vd, lk, oc, od⟩ := h
  refine pe_makeG (E := fun _ => E0) M F (hr.mono l) hg g b vd (fun vs H1 Q σ x dx q nx ndx ne => ?_) (fun pins σ H s e s' I z => passL pins σ H s e s' I z) ha (by decide) he hpl
  obtain ⟨a, ns, rfl, ha, pk, k⟩ := q
  have ht : SqS X.K H1 T0 [] := .inr (.inr ⟨o, #[], n0, lk, oc, od, Nat.zero_le _, .nil⟩)
  exact init_good ha ht .nil pk (Nat.le_refl 12) nx ndx ne fun H' s' nx' hw => ⟨rfl, k x H' s' nx' hw⟩
end Pw

set_option Elab.async false
set_option linter.all false
set_option maxRecDepth 100000
set_option maxHeartbeats 4000000
namespace Pw
open PySem PySem.Spec PyProof.Rows L2 Ct
local macro_rules | `(tactic| wide_line) => `(tactic| repeat ((fail_if_success (with_reducible refine at_while ?_)); (fail_if_success (with_reducible refine at_while1 ?_)); (conv => whnf); first | ((with_reducible refine And.intro ?_ ?_); focus (first | (first | ((with_reducible show (_ : Nat) ≤ _); first | exact sz0 | exact sz1 | exact sz2 | exact sz3 | exact sz4 | exact sz5 | exact sz6 | exact sz7 | exact sz8 | exact sz10 | exact sz11 | exact sz12 | exact sz14 | omega | decide | (simp only [List.length_cons, List.length_nil]; omega)) | ((with_reducible show (_ : Int) ≤ _); first | omega | decide) | ((with_reducible show (_ : Int) < _); first | omega | decide) | ((with_reducible show (_ : Nat) < _); omega)) | ((fail_if_success (with_reducible show (_ : Nat) ≤ _)); (fail_if_success (with_reducible show (_ : Int) ≤ _)); (fail_if_success (with_reducible show (_ : Int) < _)); (fail_if_success (with_reducible show (_ : Nat) < _)); first | exact kv_str _ | exact kv_int _ | rfl | assumption | exact flat_strs _ | exact Lv.get (by assumption) 0 rfl | exact Lv.get (by assumption) 1 rfl | exact Lv.get (by assumption) 2 rfl | exact Lv.get (by assumption) 3 rfl | exact Lv.get (by assumption) 4 rfl | exact Lv.get (by assumption) 5 rfl | exact Lv.get (by assumption) 6 rfl | exact SqL.of (Lv.get (by assumption) 0 rfl) | exact SqL.of (Lv.get (by assumption) 1 rfl) | exact SqL.of (Lv.get (by assumption) 2 rfl) | exact SqL.of (Lv.get (by assumption) 3 rfl) | exact SqL.of (Lv.get (by assumption) 4 rfl) | exact SqL.of (Lv.get (by assumption) 5 rfl) | exact Or.inl (SqL.of (Lv.get (by assumption) 0 rfl)) | exact Or.inl (SqL.of (Lv.get (by assumption) 1 rfl)) | exact Or.inl (SqL.of (Lv.get (by assumption) 2 rfl)) | exact Or.inl (SqL.of (Lv.get (by assumption) 3 rfl)) | exact Or.inl (SqL.of (Lv.get (by assumption) 4 rfl)) | exact Or.inl (SqL.of (Lv.get (by assumption) 5 rfl)) | exact ⟨_, SqL.of (Lv.get (by assumption) 0 rfl)⟩ | exact ⟨_, SqL.of (Lv.get (by assumption) 1 rfl)⟩ | exact ⟨_, SqL.of (Lv.get (by assumption) 2 rfl)⟩ | exact ⟨_, SqL.of (Lv.get (by assumption) 3 rfl)⟩ | exact ⟨_, SqL.of (Lv.get (by assumption) 4 rfl)⟩ | exact ⟨_, SqL.of (Lv.get (by assumption) 5 rfl)⟩ | exact Or.inl ⟨_, SqL.of (Lv.get (by assumption) 0 rfl), rfl⟩ | exact Or.inl ⟨_, SqL.of (Lv.get (by assumption) 1 rfl), rfl⟩ | exact Or.inl ⟨_, SqL.of (Lv.get (by assumption) 2 rfl), rfl⟩ | exact Or.inl ⟨_, SqL.of (Lv.get (by assumption) 3 rfl), rfl⟩ | exact Or.inl ⟨_, SqL.of (Lv.get (by assumption) 4 rfl), rfl⟩ | exact Or.inl ⟨_, SqL.of (Lv.get (by assumption) 5 rfl), rfl⟩ | exact Or.inl ⟨rfl, _, SqL.of (Lv.get (by assumption) 0 rfl)⟩ | exact Or.inl ⟨rfl, _, SqL.of (Lv.get (by assumption) 1 rfl)⟩ | exact Or.inl ⟨rfl, _, SqL.of (Lv.get (by assumption) 2 rfl)⟩ | exact Or.inl ⟨rfl, _, SqL.of (Lv.get (by assumption) 3 rfl)⟩ | exact Or.inl ⟨rfl, _, SqL.of (Lv.get (by assumption) 4 rfl)⟩ | exact Or.inl ⟨rfl, _, SqL.of (Lv.get (by assumption) 5 rfl)⟩ | exact Or.inr (SqT.of (Lv.get (by assumption) 0 rfl)) | exact Or.inr (SqT.of (Lv.get (by assumption) 1 rfl)) | exact Or.inr (SqT.of (Lv.get (by assumption) 2 rfl)) | exact Or.inr (SqT.of (Lv.get (by assumption) 3 rfl)) | exact SqT.of (Lv.get (by assumption) 0 rfl) | exact SqT.of (Lv.get (by assumption) 1 rfl) | exact SqT.of (Lv.get (by assumption) 2 rfl) | exact dgetN (Lv.get (by assumption) 0 rfl) (by assumption) | exact dgetN (Lv.get (by assumption) 1 rfl) (by assumption) | exact dgetN (Lv.get (by assumption) 2 rfl) (by assumption) | exact dgetN (Lv.get (by assumption) 3 rfl) (by assumption) | exact dgetN (Lv.get (by assumption) 4 rfl) (by assumption) | exact Or.inl (by assumption) | exact Or.inr (by assumption) | decide | ((with_reducible show _ ∧ _); omega)))) | ((fail_if_success (with_reducible apply @Exists.intro (Nat → _))); (with_reducible apply Exists.intro))))
local macro_rules
  | `(tactic| wide_line with al $lv:ident $l:ident $nl:ident $H:ident $lv1:ident $s1:ident) => `(tactic| (intro $l:ident $nl:ident; generalize he : upd _ _ _ = $H:ident; have $lv1:ident := Lv.alE $lv $nl he; have $s1:ident := sameE $nl he; clear he; (try dsimp only at $lv1:ident)))
  | `(tactic| wide_line with alx $lv:ident $nl:ident $H:ident $lv1:ident $s1:ident) => `(tactic| (generalize he : upd _ _ _ = $H:ident; have $lv1:ident := Lv.alE $lv $nl he; have $s1:ident := sameE $nl he; clear he; (try dsimp only at $lv1:ident)))
  | `(tactic| wide_line with sts $lv:ident $i:num $H:ident $lv1:ident $s0:ident $np:ident $s1:ident) => `(tactic| (generalize he : upd _ _ _ = $H:ident; have $lv1:ident := Lv.stE $lv $i rfl he; have $s1:ident := sameN $s0 $np he; clear he; (try dsimp only at $lv1:ident)))
  | `(tactic| wide_line with stx $lv:ident $H:ident $lv1:ident $d1:ident) => `(tactic| (generalize he : upd _ _ _ = $H:ident; have $lv1:ident := Lv.stE $lv 0 rfl he; have $d1:ident := SameD.storeE (Lv.get $lv 0 rfl) he; clear he; (try dsimp only at $lv1:ident)))
  | `(tactic| wide_line with st $lv:ident $i:num $H:ident $lv1:ident) => `(tactic| (generalize he : upd _ _ _ = $H:ident; have $lv1:ident := Lv.stE $lv $i rfl he; clear he; (try dsimp only at $lv1:ident)))
  | `(tactic| wide_line with stk $lv:ident $i:num $H:ident $lv1:ident $k1:ident) => `(tactic| (generalize he : upd _ _ _ = $H:ident; have $lv1:ident := Lv.stE $lv $i rfl he; have $k1:ident := KeepT.st (Lv.get $lv $i rfl) he; clear he; (try dsimp only at $lv1:ident)))
/-! the law -/
theorem at_last {xs : List V} {v : V} (h : xs[xs.length - 1]? = some v) (l : 1 ≤ xs.length) : atI xs (-1) = some v := by
  unfold atI ixN
  rw [if_neg (by decide), if_pos (by omega)]
  have e : ((-1 : Int) + (xs.length : Nat)).toNat = xs.length - 1 := by omega
  show xs[((-1 : Int) + (xs.length : Nat)).toNat]? = some v
  rw [e]
  exact h
theorem planX : PlanOk 12 ["x"] [] := ⟨by decide, by decide, by decide, fun x hx => (by rw [List.mem_singleton.mp hx]; decide +kernel), fun _ z => (nomatch z), List.nodup_nil, by decide⟩
theorem dqAll_erase0 {K : PySem.W.Frag} {H : Hp} : ∀ {xs : List V} {ds : List PyData}, DqAll K H xs ds → DqAll K H (xs.eraseIdx 0) (ds.eraseIdx 0)
  | _, _, .nil => .nil
  | _, _, .cons _ t => t
/-- a value that was given: a list that may be changed, apart from W, or what stays -/
def LSt (K : PySem.W.Frag) (m : Nat) (W H G : Hp) (p : Addr) (v : V) (d : PyData) : Prop := (isL d = false ∧ Dq K W v d) ∨ ∃ (a : Addr) (zs : List V) (es : List PyData), v = .ref a ∧ isL d = true ∧ a ≠ p ∧ G a = some (.lst zs) ∧ W a = none ∧ H a = none ∧ DqAll K W zs es ∧ es.length ≤ m
def LJ (K : PySem.W.Frag) (H : Hp) (p : Addr) (W0 : Hp) (v tv : V) (d td : PyData) (G : Hp) : Prop := Hold (Same H G ∧ (∃ r m, G p = some (.lst [.int r, .int m]) ∧ SrcOk r m) ∧ ∃ W, Same W0 W ∧ Same W G ∧ LSt K 90 W H G p v d ∧ LSt K 90 W H G p tv td)
theorem LSt.mut {K : PySem.W.Frag} {m : Nat} {W H G : Hp} {p b : Addr} {o : HO} {v : V} {d : PyData} (h : LSt K m W H G p v d) (ne : isL d = true → v ≠ .ref b) : LSt K m W H (upd G b o) p v d := by
  rcases h with h | ⟨a, zs, es, e, il, np, ha, r⟩
  · exact .inl h
  · exact .inr ⟨a, zs, es, e, il, np, (upd_ne (fun z => ne il (by rw [e, z]))).trans ha, r⟩
theorem LSt.le {K : PySem.W.Frag} {m n : Nat} {W H G : Hp} {p : Addr} {v : V} {d : PyData} (h : LSt K m W H G p v d) (l : m ≤ n) : LSt K n W H G p v d := by
  rcases h with h | ⟨a, zs, es, e, il, np, ha, wa, hn, dz, le⟩
  · exact .inl h
  · exact .inr ⟨a, zs, es, e, il, np, ha, wa, hn, dz, Nat.le_trans le l⟩
theorem LSt.new {K : PySem.W.Frag} {m : Nat} {W H G : Hp} {p t : Addr} {o : HO} {v : V} {d : PyData} (h : LSt K m W H G p v d) (nt : G t = none) (s : Same W G) : LSt K m (upd W t o) H (upd G t o) p v d := by
  have sw : Same W (upd W t o) := same_new (free_of s nt)
  rcases h with ⟨h1, h2⟩ | ⟨a, zs, es, e, il, np, ha, wa, hn, dz, l⟩
  · exact .inl ⟨h1, h2.same sw⟩
  · have ne : a ≠ t := fun z => by subst z; rw [ha] at nt; cases nt
    exact .inr ⟨a, zs, es, e, il, np, (upd_ne ne).trans ha, (upd_ne ne).trans wa, hn, dz.same sw, l⟩
/-- a heap without the lists of another that R lacks -/
def wOf (Z R H : Hp) : Hp := fun b => match R b with
  | some _ => H b
  | none => noLst Z H b
theorem wOf_sub {Z R H : Hp} : Same (wOf Z R H) H := fun b o e => by
  unfold wOf at e
  split at e
  · exact e
  · exact noLst_sub b o e
theorem noLst_w {Z R H : Hp} : Same (noLst Z H) (wOf Z R H) := fun b o e => by
  unfold wOf
  split
  · exact noLst_sub b o e
  · exact e
theorem wOf_R {Z R H : Hp} (s : Same R H) : Same R (wOf Z R H) := fun b o e => by unfold wOf; rw [e]; exact s b o e
theorem wOf_no {Z R H : Hp} {b : Addr} {xs : List V} (z : Z b = some (.lst xs)) (r : R b = none) : wOf Z R H b = none := by
  unfold wOf
  rw [r]
  dsimp only
  unfold noLst
  rw [z]
theorem wOf_web {Z R H6 H7 H : Hp} (s : Same Z H6) (t : Same H7 H) : Same (noLst H6 H7) (wOf Z R H) := fun b o e => by
  refine noLst_w b o (noLst_at (fun xs z => ?_) (t b o (noLst_sub b o e)))
  have z1 := s b _ z
  unfold noLst at e
  rw [z1] at e
  cases e
theorem tieBad_lt {ns : List Str} : ∀ {ds : List PyData} {ps : List (Str × Str)} {k i : Nat}, tieBad ns ps k ds = some i → i < k + ds.length
  | [], _, _, _, h => by cases h
  | d :: ds, ps, k, i, h => by
    unfold tieBad at h
    split at h
    · cases h; rw [List.length_cons]; omega
    · split at h
      · cases h; rw [List.length_cons]; omega
      · have := tieBad_lt h
        rw [List.length_cons]; omega
theorem sm_nat {i : Nat} (h : i ≤ 100) : Sm 4 30000 (.int i) := by
  refine ⟨?_, by rw [PyData.depth]; exact Nat.zero_le _, Nat.le_trans (PyData.shown_int_le2 (by omega) (by omega)) (by decide)⟩
  rw [PyData.showable]
  refine decide_eq_true ?_
  have e : ((i : Nat) : Int).natAbs = i := rfl
  rw [e]
  exact Nat.lt_of_le_of_lt (Nat.log2_le_self i) (by omega)
theorem Bad.dq {K : PySem.W.Frag} {H : Hp} {v tv u : V} {d td du : PyData} {tag : Str} (b : Bad v tv d td tag u du) (h1 : Dq K H v d) (h2 : Dq K H tv td) : Dq K H u du := by
  cases b with
  | places _ => exact h1
  | ties _ _ => exact h2
  | tie _ _ _ => exact .int _
theorem Bad.seq {v tv u : V} {d td du : PyData} {tag : Str} (b : Bad v tv d td tag u du) : (u = v ∧ du = d) ∨ (u = tv ∧ du = td) ∨ ∃ i : Nat, du = .int i := by
  cases b with
  | places _ => exact .inl ⟨rfl, rfl⟩
  | ties _ _ => exact .inr (.inl ⟨rfl, rfl⟩)
  | @tie _ _ i _ _ _ => exact .inr (.inr ⟨i, rfl⟩)
theorem sm_tag {v tv u : V} {d td du : PyData} {tag : Str} (b : Bad v tv d td tag u du) : Sm 5 60000 (.str tag) := by
  have h : ∀ x ∈ (["places", "ties", "tie"] : List Str), (PyData.str x).showable = true ∧ (PyData.str x).depth ≤ 5 ∧ (PyData.str x).shown.length ≤ 60000 := by decide +kernel
  cases b with
  | places _ => exact h _ (by simp)
  | ties _ _ => exact h _ (by simp)
  | tie _ _ _ => exact h _ (by simp)
theorem sm_more : Sm 4 400 (.str "more") := by unfold Sm; decide +kernel
theorem Bad.sm {v tv u : V} {d td du : PyData} {tag : Str} (b : Bad v tv d td tag u du) (h1 : ValOk d) (h2 : ValOk td) : Sm 4 30000 du := by
  cases b with
  | places _ => exact h1.sm
  | ties _ _ => exact h2.sm
  | tie _ e2 e3 => exact sm_nat (by have := tieBad_lt e3; have := (h2.1 _ e2).1; omega)
theorem AV.list {K : PySem.W.Frag} {R H : Hp} {p : Addr} {v : V} {d : PyData} {n : Nat} (h : AV K R H p v d n) (e : isL d = true) (le : n ≤ 72) : ∃ a xs ds, v = .ref a ∧ d = .list ds ∧ H a = some (.lst xs) ∧ R a = none ∧ a ≠ p ∧ DqAll K R xs ds := by
  rcases h with ⟨a, xs, ds, e1, ne, e2, ha, na, dq, _⟩ | ⟨h, _⟩
  · exact ⟨a, xs, ds, e1, e2, ha, na, ne, dq⟩
  · rw [isL_no h] at e; cases e
theorem Bad.list {K : PySem.W.Frag} {R H : Hp} {p : Addr} {v tv u : V} {d td du : PyData} {n m : Nat} {tag : Str} (b : Bad v tv d td tag u du) (e : isL du = true) (h1 : AV K R H p v d n) (h2 : AV K R H p tv td m) (l1 : n ≤ 72) (l2 : m ≤ 72) :
    ∃ a xs ds, u = .ref a ∧ du = .list ds ∧ H a = some (.lst xs) ∧ R a = none ∧ a ≠ p ∧ DqAll K R xs ds := by
  cases b with
  | places _ => exact h1.list e l1
  | ties _ _ => exact h2.list e l2
  | tie _ _ _ => cases e
theorem Sm.rep {k m : Nat} {d : PyData} (h : Sm k m d) (hk : k ≤ 60) (hm : m ≤ 1000000) : d.showable = true ∧ d.depth ≤ 60 ∧ d.shown.length ≤ sizeLine := ⟨h.1, Nat.le_trans h.2.1 hk, Nat.le_trans h.2.2 (Nat.le_trans hm (by decide))⟩
def spLaw (K : PySem.W.Frag) : Sp := fun vs H Q _ => ∃ (a : Addr) (ns : List Int), vs = [.ref a] ∧ Only H ∧ SqL K H a (ns.map V.int) ∧ ns.length ≤ 63 ∧ (∀ z ∈ ns, Builtin.Int.intBits z ≤ 1048576) ∧ ∀ H', Q (.bl true) H'
section
variable {P : Program} {w : World} {K : PySem.W.Frag} {mg : Str → Option Value} {base : Heap} {C CP CS CT CN : Addr}
abbrev sLaw : Stmt := top ix_law
theorem scLaw : FnScope ["script", "start", "source", "turn", "places", "ties", "due", "seen", "told", "kept", "given"] ["script"] (defScope sLaw) := ⟨rfl, rfl, rfl, by decide +kernel, rfl, by decide +kernel, by decide +kernel⟩
theorem has_law (T : Bn mg) (X : WC K C) (SB : SysB base) {f : Addr} {fd : FuncData} (D : Fun K "law" "law" sLaw f fd) (h_law_source : Has P w K mg base CX0 1 "_law_source" ["script", "start"] (spSource K)) (h_law_bent : Has P w K mg base CX0 6 "_law_bent" ["source"] (spBent K)) (h_law_due : Has P w K mg base CX0 2 "_law_due" ["places", "ties"] (spDue K))
    (h_law_told : Has P w K mg base CX0 6 "_law_told" ["places", "ties"] (spTold K C)) (h_law_stands : Has P w K mg base CX0 7 "_law_stands" ["web", "kept"] (spStands K C)) (hW : HasW P w K mg base 4 C CP CS CT) (hP_places : HasP P w K mg base 1 C "places" (getSp C "_places")) (hP_ties : HasP P w K mg base 1 C "ties" (getSp C "_ties")) : GFn P w K mg base CX0 8 f fd ["script"] (spLaw K) := by
  refine law_of D scLaw (fun vs H Q E h => ?_) (fun cdv A outer s H vs Q E gd hr h => ?_)
  · obtain ⟨a, ns, rfl, _⟩ := h; rfl
  · obtain ⟨a, ns, rfl, on, hS, hlen, hbits, k⟩ := h
    have nd := scLaw.nd
    refine ⟨_, (pss_cons (ps_for PassesOwn.never rfl (pi_range1 rfl T.z_range (pa_cons (pe_callB (call_max2 rfl) (by rfl) T.z_max (by decide +kernel) (pa_cons pe_int (pa_cons (pe_callB (call_min2 rfl) (by rfl) T.z_min (by decide +kernel) (pa_cons pe_int (pa_cons (pe_callB (call_len) (by rfl) T.z_len (by decide +kernel) (pa_cons (pv 0) pa_nil)) pa_nil))) pa_nil))) pa_nil)) (pg_name (i := 1) nd rfl (by first | exact Or.inl rfl | exact Or.inr rfl)) (pss_cons (ps_sv 2 nd (pe_h h_law_source hr (by decide) rfl (pa_cons (pv 0) (pa_cons (pv 1) pa_nil))))
    (pss_cons (ps_for PassesOwn.never rfl (pi_range1 rfl T.z_range (pa_cons pe_int pa_nil)) (pg_name (i := 3) nd rfl (by first | exact Or.inl rfl | exact Or.inr rfl)) (pss_cons (ps_asg (pe_h h_law_bent hr (by decide) rfl (pa_cons (pv 2) pa_nil)) (pg_tup (n := 2) rfl (pgs_cons (pg_name (i := 4) nd rfl (by first | exact Or.inl rfl | exact Or.inr rfl)) (pgs_cons (pg_name (i := 5) nd rfl (by first | exact Or.inl rfl | exact Or.inr rfl)) pgs_nil))))
    (pss_cons (ps_par (i := 6) (j := 7) (by rfl) nd rfl rfl (by decide) rfl rfl (pa_cons (pe_h h_law_due hr (by decide) rfl (pa_cons (pv 4) (pa_cons (pv 5) pa_nil))) (pa_cons (pe_callB (call_rep gd SB hr.units) (by rfl) T.z_repr (by decide +kernel) (pa_cons (pe_lst (pa_cons (pv 4) (pa_cons (pv 5) pa_nil))) pa_nil)) pa_nil)) (by rfl))
    (pss_cons (ps_sv 8 nd (pe_h h_law_told hr (by decide) rfl (pa_cons (pv 4) (pa_cons (pv 5) pa_nil))))
    (pss_cons (ps_if (pt_cmpR op_ne (pe_callB (call_rep gd SB hr.units) (by rfl) T.z_repr (by decide +kernel) (pa_cons (pe_lst (pa_cons (pv 4) (pa_cons (pv 5) pa_nil))) pa_nil)) (pv 7) (by first | exact nomark _ | rfl)) (pss_one (ps_ret pe_bl)) pss_nil)
    (pss_one (ps_if (pt_cmpR op_notN (pv 6) pe_non (by first | exact nomark _ | rfl)) (pss_cons (ps_join (ps_if (pt_val (pe_callB call_isD (by rfl) T.z_isinstance (by decide +kernel) (pa_cons (pe_ix ix_tup (pv 6) pe_int (fun _ _ => rfl)) (pa_cons (pe_bltn (v := .ty "list") rfl T.z_list (by decide +kernel) rfl) pa_nil)))) (pss_one (ps_expr (pe_bm PySem.F.plainAttrs_list PySem.F.slot_list_append PySem.F.type_list_append mt_append (pe_ix ix_tup (pv 6) pe_int (fun _ _ => rfl)) (pa_cons pe_str pa_nil)))) pss_nil))
    (pss_one (ps_if (pt_cmpR op_ne (pe_callB (call_rep gd SB hr.units) (by rfl) T.z_repr (by decide +kernel) (pa_cons (pv 8) pa_nil)) (pe_callB (call_rep gd SB hr.units) (by rfl) T.z_repr (by decide +kernel) (pa_cons (pv 6) pa_nil)) (by first | exact nomark _ | rfl)) (pss_one (ps_ret pe_bl)) pss_nil))) (pss_one (ps_if (pt_cmpR op_ne (pe_ix ix_tup (pv 8) pe_int (fun _ _ => rfl)) pe_str (by first | exact nomark _ | rfl)) (pss_one (ps_ret pe_bl)) (pss_cons (ps_sv 9 nd (pe_tup (pa_cons (pe_callTy call_tupS (by rfl) T.z_tuple (by decide +kernel) (pa_cons (pv 4) pa_nil)) (pa_cons (pe_callTy call_tupS (by rfl) T.z_tuple (by decide +kernel) (pa_cons (pv 5) pa_nil)) pa_nil))))
    (pss_cons (ps_join (ps_if (pt_val (pe_callB call_isD (by rfl) T.z_isinstance (by decide +kernel) (pa_cons (pv 5) (pa_cons (pe_bltn (v := .ty "list") rfl T.z_list (by decide +kernel) rfl) pa_nil)))) (pss_one (ps_expr (pe_bm PySem.F.plainAttrs_list PySem.F.slot_list_append PySem.F.type_list_append mt_append (pv 5) (pa_cons (pe_tup (pa_cons (pe_ix ix_tup (pe_ix ix_tup (pv 9) pe_int (fun _ _ => rfl)) pe_int (fun _ _ => rfl)) (pa_cons (pe_ix ix_tup (pe_ix ix_tup (pv 9) pe_int (fun _ _ => rfl)) (pe_un un_neg pe_int) (fun _ _ => rfl)) pa_nil))) pa_nil)))) pss_nil))
    (pss_cons (ps_for PassesOwn.never rfl (pi_list (pe_lst (pa_cons (pv 4) (pa_cons (pv 5) pa_nil)))) (pg_name (i := 10) nd rfl (by first | exact Or.inl rfl | exact Or.inr rfl)) (pss_one (ps_if (pt_val (pe_callB call_isD (by rfl) T.z_isinstance (by decide +kernel) (pa_cons (pv 10) (pa_cons (pe_bltn (v := .ty "list") rfl T.z_list (by decide +kernel) rfl) pa_nil)))) (pss_cons (ps_expr (pe_bm PySem.F.plainAttrs_list PySem.F.slot_list_append PySem.F.type_list_append mt_append (pv 10) (pa_cons pe_non pa_nil)))
    (pss_one (ps_expr (pe_bm PySem.F.plainAttrs_list PySem.F.slot_list_pop PySem.F.type_list_pop mt_popAt (pv 10) (pa_cons pe_int pa_nil))))) pss_nil)))
    (pss_one (ps_if (PW.pt (pw_or (pt_cmpR op_ne (pe_callB (call_rep gd SB hr.units) (by rfl) T.z_repr (by decide +kernel) (pa_cons (pe_tup (pa_cons (pe_hP hP_places X.cls hr (by decide) (pe_ix ix_tup (pv 8) pe_int (fun _ _ => rfl))) (pa_cons (pe_hP hP_ties X.cls hr (by decide) (pe_ix ix_tup (pv 8) pe_int (fun _ _ => rfl))) pa_nil))) pa_nil)) (pe_callB (call_rep gd SB hr.units) (by rfl) T.z_repr (by decide +kernel) (pa_cons (pv 9) pa_nil)) (by first | exact nomark _ | rfl)) (pw_or1 (pt_not (pt_val (pe_h h_law_stands hr (by decide) rfl (pa_cons (pe_ix ix_tup (pv 8) pe_int (fun _ _ => rfl)) (pa_cons (pv 9) pa_nil)))))))) (pss_one (ps_ret pe_bl)) pss_nil))))))))))))))
    (pss_one (ps_if (PW.pt (pw_or (pt_cmpR (op_neD hr.units) (pe_hP hP_places X.cls hr (by decide) (pe_web1 hW hr (by decide) rfl (pa_cons (pe_lst (pa_cons pe_str pa_nil)) pa_nil))) (pe_tup (pa_cons pe_str pa_nil)) (by first | exact nomark _ | rfl)) (pw_or1 (pt_cmpR (op_neD hr.units) (pe_hP hP_ties X.cls hr (by decide) (pe_web1 hW hr (by decide) rfl (pa_cons (pe_tup (pa_cons pe_str pa_nil)) pa_nil))) (pe_tup pa_nil) (by first | exact nomark _ | rfl))))) (pss_one (ps_ret pe_bl)) pss_nil)))))
    (pss_one (ps_ret pe_bl))), ?_⟩
    refine ⟨_, rfl, _, _, rfl, .inl ⟨_, hS, rfl⟩, _, _, rfl, _, _, rfl, _, rfl, ?_, ?_, ?_⟩
    · split <;> (try split) <;> omega
    · split <;> (try split) <;> omega
    have hj : (if (if (((ns.map V.int).length : Nat) : Int) < 4 then (((ns.map V.int).length : Nat) : Int) else 4) > 1 then (if (((ns.map V.int).length : Nat) : Int) < 4 then (((ns.map V.int).length : Nat) : Int) else 4) else 1) ≤ 4 := by split <;> (try split) <;> omega
    generalize (if (if (((ns.map V.int).length : Nat) : Int) < 4 then (((ns.map V.int).length : Nat) : Int) else 4) > 1 then (if (((ns.map V.int).length : Nat) : Int) < 4 then (((ns.map V.int).length : Nat) : Int) else 4) else 1) = jj at hj ⊢
    refine for_range (lo := 0) (n := jj.toNat) (fun i σ H' => Hold (∃ s1 s2 s3 s4 s5 s6 s7 s8 s9 s10 : Option V, σ = [some (.ref a), s1, s2, s3, s4, s5, s6, s7, s8, s9, s10] ∧ Same H H')) ⟨none, none, none, none, none, none, none, none, none, none, rfl, Same.refl H⟩ ?_ ?_
    · rintro i σ H1 hi ⟨s1, s2, s3, s4, s5, s6, s7, s8, s9, s10, rfl, sm⟩
      refine ⟨_, rfl, _, rfl, a, ns, _, rfl, by omega, by omega, sm.seq hS, hlen, hbits, fun ps r m nps ok => ?_⟩
      have u0 := same_new (o := .lst [.int r, .int m]) nps
      have hp : (upd H1 ps (.lst [.int r, .int m])) ps = some (.lst [.int r, .int m]) := upd_same
      generalize upd H1 ps (.lst [.int r, .int m]) = H2 at u0 hp ⊢
      have nps0 : H ps = none := free_of sm nps
      have sm2 := sm.trans u0
      wide_line
      refine for_range (lo := 0) (n := 10) (fun j σ H' => Hold (∃ (r m : Int) (t3 t4 t5 t6 t7 t8 t9 t10 : Option V), σ = [some (.ref a), some (.int (0 + (i : Nat))), some (.ref ps), t3, t4, t5, t6, t7, t8, t9, t10] ∧ Same H H' ∧ H' ps = some (.lst [.int r, .int m]) ∧ SrcOk r m)) ⟨r, m, s3, s4, s5, s6, s7, s8, s9, s10, rfl, sm2, hp, ok⟩ ?_ ?_
      · rintro j σ H3 hj2 ⟨r3, m3, t3, t4, t5, t6, t7, t8, t9, t10, rfl, sm3, hp3, ok3⟩
        wide_line
        intro t R v tv d td H4 f4 bs av atv dis _ ht4
        have q4 : SqT K H4 t [v, tv] := SqT.of ht4
        refine ⟨t, _, rfl, q4, rfl, _, _, rfl, _, _, rfl, rfl, ?_⟩
        have dv := av.dq bs.sub
        have dtv := atv.dq bs.sub
        have ov := av.ok (by decide)
        have otv := atv.ok (by decide)
        have two := Sm.two ov.sm otv.sm
        have sm4 : Same H H4 := fun b o e => f4 b o (fun z => by subst z; rw [nps0] at e; cases e) (sm3 b o e)
        refine ⟨_, rfl, _, rfl, ?_⟩
        rcases verdict v tv d td with ⟨tag, u, du, bad⟩ | ⟨ms, tds, e1, e2, e3⟩
        · with_reducible dsimp only [tNil, List.cons_append, List.nil_append]
          refine due_bad bad dv dtv ov otv fun r H5 s5 nr hr => ?_
          refine ⟨_, rfl, _, rfl, sz2, fun l5 n5 => ?_⟩
          have s6 := same_new (o := .lst [v, tv]) n5
          have hl6 : upd H5 l5 (.lst [v, tv]) l5 = some (.lst [v, tv]) := upd_same
          generalize upd H5 l5 (.lst [v, tv]) = H6 at s6 hl6 ⊢
          have dv6 := (dv.same s5).same s6
          have dtv6 := (dtv.same s5).same s6
          have R2 := two.1.rep (by decide) (by decide)
          refine ⟨l5, .list [d, td], rfl, .lst (SqL.of hl6) (.cons dv6 (.cons dtv6 .nil)), R2.1, R2.2.1, R2.2.2, ?_⟩
          refine ⟨_, _, rfl, ?_⟩
          refine ⟨_, rfl, _, rfl, ?_⟩
          with_reducible dsimp only [tNil, List.cons_append, List.nil_append]
          refine told_bad bad dv6 dtv6 ov otv fun r2 H7 s7 nr2 hr2 => ?_
          refine ⟨_, rfl, _, rfl, sz2, fun l8 n8 => ?_⟩
          have s8 := same_new (o := .lst [v, tv]) n8
          have hl8 : upd H7 l8 (.lst [v, tv]) l8 = some (.lst [v, tv]) := upd_same
          generalize upd H7 l8 (.lst [v, tv]) = H8 at s8 hl8 ⊢
          have s68 := s7.trans s8
          have s48 := s5.trans (s6.trans s68)
          refine ⟨l8, .list [d, td], rfl, .lst (SqL.of hl8) (.cons (dv6.same s68) (.cons (dtv6.same s68) .nil)), R2.1, R2.2.1, R2.2.2, _, rfl, rfl, _, rfl, ?_⟩
          rw [decide_eq_true (rfl : V.str (PyData.list [d, td]).shown = V.str (PyData.list [d, td]).shown)]
          refine iteF ⟨_, rfl, rfl, _, rfl, ?_⟩
          rw [decide_eq_false (fun z => nomatch z : ¬ (V.ref r = V.non))]
          refine iteT ?_
          have hr8 := s68 _ _ (s6 _ _ hr)
          have hr28 := s8 _ _ hr2
          have dqu := (bad.dq dv dtv).same s48
          have smu := bad.sm ov otv
          have sub8 : Same R H8 := bs.sub.trans s48
          have hps8 : ∃ r m, H8 ps = some (.lst [.int r, .int m]) ∧ SrcOk r m := by
            obtain ⟨r9, m9, e9, o9⟩ := bs.src
            exact ⟨r9, m9, s48 _ _ e9, o9⟩
          have sm8 := sm4.trans s48
          refine ⟨fun τ G => Hold (τ = [some (.ref a), some (.int (0 + (i : Nat))), some (.ref ps), some (.int (0 + (j : Nat))), some v, some tv, some (.ref r), some (.str (PyData.list [d, td]).shown), some (.ref r2), t9, t10] ∧ Same H G ∧ (∃ r m, G ps = some (.lst [.int r, .int m]) ∧ SrcOk r m) ∧ G r = some (.tup [.str tag, u]) ∧ G r2 = some (.tup [.str tag, u]) ∧ ∃ du', Dq K G u du' ∧ Sm 5 60000 du'), ?_, ?_⟩
          · refine ⟨_, rfl, r, _, 1, u, rfl, rfl, SqT.of hr8, rfl, u, du, "list", isL du, rfl, dqu, kit_isL du, _, rfl, ?_⟩
            cases eL : isL du with
            | false => exact iteF ⟨rfl, sm8, hps8, hr8, hr28, du, dqu, smu.mono (by decide) (by decide)⟩
            | true =>
              obtain ⟨b, zs, es, rfl, rfl, hb, rb, nb, dz⟩ := bad.list eL av atv (by decide) (by decide)
              have hb8 := s48 _ _ hb
              refine iteT ?_
              have q8 : SqT K H8 r [.str tag, .ref b] := SqT.of hr8
              have i8 : atI [V.str tag, V.ref b] 1 = some (.ref b) := rfl
              have lz := dqAll_len dz
              have few2 : es.length ≤ 72 ∧ ∀ e ∈ es, Fit e := by
                rcases bad.seq with ⟨_, z⟩ | ⟨_, z⟩ | ⟨_, z⟩
                · exact ov.1 es (by rw [← z]; rfl)
                · exact otv.1 es (by rw [← z]; rfl)
                · cases z
              have few := few2.1
              have szl := sizeLine_eq
              wide_line
              have sz9 : zs.length < sizeLine := by omega
              refine ⟨.inl ⟨rfl, _, SqL.of hb8⟩, b, zs, .str "more", rfl, rfl, hb8, sz9, ?_⟩
              have nbr : r ≠ b := fun z => by subst z; rw [hb8] at hr8; cases hr8
              have nbr2 : r2 ≠ b := fun z => by subst z; rw [hb8] at hr28; cases hr28
              have h3b : H b = none := by
                cases z : H b with
                | none => rfl
                | some o => rw [bs.old b o nb (sm3 b o z)] at rb; cases rb
              have subG : Same R (upd H8 b (.lst (zs ++ [.str "more"]))) := fun c o e => by
                rw [upd_ne (fun z => by subst z; rw [rb] at e; cases e)]
                exact sub8 c o e
              obtain ⟨r9, m9, e9, o9⟩ := hps8
              refine ⟨rfl, fun c o e => ?_, ⟨r9, m9, ?_, o9⟩, (upd_ne nbr).trans hr8, (upd_ne nbr2).trans hr28, .list (es ++ [.str "more"]), .lst (SqL.of upd_same) (dqAll_app (dz.same subG) (.cons (.str _) .nil)), ?_⟩
              · rw [upd_ne (fun z => by subst z; rw [h3b] at e; cases e)]
                exact sm8 c o e
              · rw [upd_ne (Ne.symm nb)]
                exact e9
              · refine (Sm.list (k := 4) (m := 400) (n := 73) (fun x hx => ?_) ?_).mono (by decide) (by decide)
                · rcases List.mem_append.mp hx with z | z
                  · exact (few2.2 x z).1.mono (by decide) (by decide)
                  · rw [List.mem_singleton.mp z]; exact sm_more
                · rw [List.length_append, List.length_singleton]; omega
          · rintro τ G ⟨rfl, smG, hpG, hrG, hr2G, du', dqG, smG'⟩
            have s2 := Sm.two (sm_tag bad) smG'
            have R5 := s2.2.rep (by decide) (by decide)
            have D5 : ∀ {z : Addr}, G z = some (.tup [.str tag, u]) → Dq K G (.ref z) (.tuple [.str tag, du']) := fun {z} e => .tup (SqT.of e) (.cons (.str _) (.cons dqG .nil))
            refine ⟨_, rfl, r2, _, rfl, D5 hr2G, R5.1, R5.2.1, R5.2.2, _, rfl, r, _, rfl, D5 hrG, R5.1, R5.2.1, R5.2.2, rfl, _, rfl, ?_⟩
            rw [decide_eq_true (rfl : V.str (PyData.tuple [.str tag, du']).shown = V.str (PyData.tuple [.str tag, du']).shown)]
            obtain ⟨r9, m9, e9, o9⟩ := hpG
            exact iteF ⟨r9, m9, _, _, _, _, _, _, _, _, rfl, smG, e9, o9⟩
        · with_reducible dsimp only [tNil, List.cons_append, List.nil_append]
          refine due_good e1 e2 e3 dv dtv ov otv fun H5 s5 => ?_
          refine ⟨_, rfl, _, rfl, sz2, fun l5 n5 => ?_⟩
          have s6 := same_new (o := .lst [v, tv]) n5
          have hl6 : upd H5 l5 (.lst [v, tv]) l5 = some (.lst [v, tv]) := upd_same
          generalize upd H5 l5 (.lst [v, tv]) = H6 at s6 hl6 ⊢
          have dv6 := (dv.same s5).same s6
          have dtv6 := (dtv.same s5).same s6
          have R2 := two.1.rep (by decide) (by decide)
          refine ⟨l5, .list [d, td], rfl, .lst (SqL.of hl6) (.cons dv6 (.cons dtv6 .nil)), R2.1, R2.2.1, R2.2.2, ?_⟩
          refine ⟨_, _, rfl, ?_⟩
          refine ⟨_, rfl, _, rfl, ?_⟩
          with_reducible dsimp only [tNil, List.cons_append, List.nil_append]
          refine told_good e1 e2 e3 dv6 dtv6 ov otv fun r2 x H7 s7 nr2 nx hr2 hw7 => ?_
          refine ⟨_, rfl, _, rfl, sz2, fun l8 n8 => ?_⟩
          have s8 := same_new (o := .lst [v, tv]) n8
          have hl8 : upd H7 l8 (.lst [v, tv]) l8 = some (.lst [v, tv]) := upd_same
          generalize upd H7 l8 (.lst [v, tv]) = H8 at s8 hl8 ⊢
          have s68 := s7.trans s8
          have s48 := s5.trans (s6.trans s68)
          refine ⟨l8, .list [d, td], rfl, .lst (SqL.of hl8) (.cons (dv6.same s68) (.cons (dtv6.same s68) .nil)), R2.1, R2.2.1, R2.2.2, _, rfl, rfl, _, rfl, ?_⟩
          rw [decide_eq_true (rfl : V.str (PyData.list [d, td]).shown = V.str (PyData.list [d, td]).shown)]
          refine iteF ⟨_, rfl, rfl, _, rfl, ?_⟩
          rw [decide_eq_true (rfl : V.non = V.non)]
          have hr28 := s8 _ _ hr2
          refine iteF ⟨_, rfl, r2, _, 0, _, rfl, rfl, SqT.of hr28, rfl, rfl, _, rfl, ?_⟩
          rw [decide_eq_true (rfl : V.str "made" = V.str "made")]
          refine iteF ?_
          have sm8 := sm4.trans s48
          have dv8 := dv.same s48
          have dtv8 := dtv.same s48
          obtain ⟨ds, ed⟩ : ∃ ds, seqD d = some ds := by
            cases z : seqD d with
            | none => unfold placesOf at e1; rw [z] at e1; cases e1
            | some ds => exact ⟨ds, rfl⟩
          obtain ⟨va, vx, rfl, hv8, hda, hlv⟩ := seq_of dv8 ed
          obtain ⟨vb, vy, rfl, ht8, hdb, hlt⟩ := seq_of dtv8 e2
          refine ⟨_, rfl, ?_⟩
          wide_line
          intro tp H9 s9 htp
          have ht9 := ht8.same s9
          wide_line
          intro tt H10 s10 htt
          refine ⟨sz2, fun kt nk => ?_⟩
          have s11 := same_new (o := .tup [.ref tp, .ref tt]) nk
          have hkt : upd H10 kt (.tup [.ref tp, .ref tt]) kt = some (.tup [.ref tp, .ref tt]) := upd_same
          generalize upd H10 kt (.tup [.ref tp, .ref tt]) = H11 at s11 hkt ⊢
          have s811 := s9.trans (s10.trans s11)
          have s411 := s48.trans s811
          have nl : ∀ b xs, H4 b = some (.lst xs) → H11 b = some (.lst xs) := fun b xs z => s411 _ _ z
          have nw := noLst_w (Z := H4) (R := R) (H := H11)
          have hw : WebAt K C (wOf H4 R H11) x ms (tiesD ms tds) := hw7.same (wOf_web (s5.trans s6) (s8.trans s811))
          obtain ⟨al, exs⟩ : ds.all nameD = true ∧ ms = strsD ds := by
            unfold placesOf at e1
            rw [ed] at e1
            dsimp only at e1
            split at e1
            · rename_i c; cases e1; exact ⟨c.2.1, rfl⟩
            · cases e1
          obtain ⟨evx, _⟩ := strs_of hda al
          rw [← exs] at evx
          subst evx
          have wkt : SqT K (wOf H4 R H11) kt [.ref tp, .ref tt] := same_t nw (noLst_t nl (SqT.of hkt))
          have wtp : SqT K (wOf H4 R H11) tp (ms.map V.str) := same_t nw (noLst_t nl (same_t (s10.trans s11) htp))
          have wtt : SqT K (wOf H4 R H11) tt vy := same_t nw (noLst_t nl (same_t s11 htt))
          have wts : TiesAt K (wOf H4 R H11) vy (tiesD ms tds) := by
            have z := (ties_ok hdb e3).1
            exact (noLst_ties nl (z.same s811)).same nw
          have toL : ∀ {w' : V} {e : PyData} {n : Nat}, AV K R H4 ps w' e n → n ≤ 72 → LSt K 72 (wOf H4 R H11) H H11 ps w' e := fun {w' e n} z le => by
            rcases z with ⟨b, zs, es, rfl, ne, rfl, hb, nb, dz, l, _⟩ | ⟨z1, z2, _⟩
            · refine .inr ⟨b, zs, es, rfl, rfl, ne, s411 _ _ hb, wOf_no hb nb, ?_, dz.same (wOf_R (bs.sub.trans s411)), by omega⟩
              cases z : H b with
              | none => rfl
              | some o => rw [bs.old b o ne (sm3 b o z)] at nb; cases nb
            · exact .inl ⟨isL_no z1, z2.same (wOf_R (bs.sub.trans s411))⟩
          have L1 := toL av (by decide)
          have L2 := toL atv (by decide)
          have src11 : ∃ r m, H11 ps = some (.lst [.int r, .int m]) ∧ SrcOk r m := by
            obtain ⟨r9, m9, e9, o9⟩ := bs.src
            exact ⟨r9, m9, s411 _ _ e9, o9⟩
          have sm11 := sm8.trans s811
          have dis' : isL d = true → isL td = true → V.ref va ≠ .ref vb := fun z1 z2 => by
            cases d with
            | list _ =>
              cases td with
              | list _ => exact dis _ _ rfl rfl
              | _ => cases z2
            | _ => cases z1
          obtain ⟨n0, hn0⟩ : ∃ n0, ms[0]? = some n0 := ⟨_, List.getElem?_eq_getElem (by
            have := (places_at dv8 e1)
            obtain ⟨_, _, _, _, l1, _⟩ := this
            exact l1)⟩
          have lms : 1 ≤ ms.length ∧ ms.length ≤ 12 := by
            obtain ⟨_, _, _, _, l1, l2⟩ := places_at dv8 e1
            exact ⟨l1, l2⟩
          obtain ⟨n1, hn1⟩ : ∃ n1, ms[ms.length - 1]? = some n1 := ⟨_, List.getElem?_eq_getElem (by omega)⟩
          have at0 : atI (ms.map V.str) 0 = some (.str n0) := atI_nat (j := 0) (by rw [List.getElem?_map, hn0]; rfl)
          have at1 : atI (ms.map V.str) (-1) = some (.str n1) := at_last (by rw [List.length_map, List.getElem?_map, hn1]; rfl) (by rw [List.length_map]; exact lms.1)
          refine ⟨fun τ G => τ = [some (.ref a), some (.int (0 + (i : Nat))), some (.ref ps), some (.int (0 + (j : Nat))), some (.ref va), some (.ref vb), some .non, some (.str (PyData.list [d, td]).shown), some (.ref r2), some (.ref kt), t10] ∧ LJ K H ps (wOf H4 R H11) (.ref va) (.ref vb) d td G, ?_, ?_⟩
          · refine ⟨_, rfl, .ref vb, td, "list", isL td, rfl, dtv8.same s811, kit_isL td, _, rfl, ?_⟩
            cases eL : isL td with
            | false => exact iteF ⟨rfl, sm11, src11, _, .refl _, wOf_sub, L1.le (by decide), L2.le (by decide)⟩
            | true =>
              refine iteT ?_
              rcases id L2 with ⟨z, _⟩ | ⟨b, zs, es, eb, _, nbp, hb, wb, hnb, dz, lz⟩
              · rw [z] at eL; cases eL
              cases eb
              refine ⟨_, rfl, .inl ⟨rfl, _, SqL.of hb⟩, ?_⟩
              have q11 : SqT K H11 tp (ms.map V.str) := same_t (s10.trans s11) htp
              refine ⟨_, rfl, kt, _, 0, _, rfl, rfl, SqT.of hkt, rfl, tp, _, 0, _, rfl, rfl, q11, at0, _, rfl, kt, _, 0, _, rfl, rfl, SqT.of hkt, rfl, 1, rfl, tp, _, -1, _, rfl, rfl, q11, at1, sz2, fun t1 nt1 => ?_⟩
              have sG := same_new (o := .tup [.str n0, .str n1]) nt1
              have sW : Same (wOf H4 R H11) (upd (wOf H4 R H11) t1 (.tup [.str n0, .str n1])) := same_new (free_of wOf_sub nt1)
              have wG : Same (upd (wOf H4 R H11) t1 (.tup [.str n0, .str n1])) (upd H11 t1 (.tup [.str n0, .str n1])) := fun c o e => by
                by_cases z : c = t1
                · subst z; rw [upd_same] at e ⊢; exact e
                · rw [upd_ne z] at e ⊢; exact wOf_sub c o e
              have N1 := L1.new (o := .tup [.str n0, .str n1]) nt1 wOf_sub
              have nbt : vb ≠ t1 := fun z => by subst z; rw [hb] at nt1; cases nt1
              refine ⟨vb, zs, _, rfl, rfl, sG _ _ hb, by have := dqAll_len dz; rw [sizeLine_eq]; omega, rfl, ?_⟩
              obtain ⟨r9, m9, e9, o9⟩ := src11
              refine ⟨fun c o e => ?_, ⟨r9, m9, (upd_ne (Ne.symm nbp)).trans (sG _ _ e9), o9⟩, _, sW, fun c o e => ?_, (N1.le (by decide)).mut (fun z => dis' z eL), .inr ⟨vb, _, es ++ [.tuple [.str n0, .str n1]], rfl, eL, nbp, upd_same, (upd_ne nbt).trans wb, hnb, dqAll_app (dz.same sW) (.cons (.tup (SqT.of upd_same) (.cons (.str _) (.cons (.str _) .nil))) .nil), by rw [List.length_append, List.length_singleton]; omega⟩⟩
              · rw [upd_ne (fun z => by subst z; rw [hnb] at e; cases e)]
                exact sG _ _ (sm11 c o e)
              · rw [upd_ne (fun z => by subst z; rw [upd_ne nbt, wb] at e; cases e)]
                exact wG c o e
          · rintro τ G ⟨rfl, smG, srcG, W, w0, wG, M1, M2⟩
            refine ⟨_, rfl, _, rfl, sz2, fun ll nll => ?_⟩
            have sG1 := same_new (o := .lst [.ref va, .ref vb]) nll
            have sW1 : Same W (upd W ll (.lst [.ref va, .ref vb])) := same_new (free_of wG nll)
            have wG1 : Same (upd W ll (.lst [.ref va, .ref vb])) (upd G ll (.lst [.ref va, .ref vb])) := fun c o e => by
              by_cases z : c = ll
              · subst z; rw [upd_same] at e ⊢; exact e
              · rw [upd_ne z] at e ⊢; exact wG c o e
            have N1 := M1.new (o := .lst [.ref va, .ref vb]) nll wG
            have N2 := M2.new (o := .lst [.ref va, .ref vb]) nll wG
            have hll : upd W ll (.lst [.ref va, .ref vb]) ll = some (.lst [.ref va, .ref vb]) := upd_same
            have w1 := w0.trans sW1
            generalize upd W ll (.lst [.ref va, .ref vb]) = W1 at sW1 wG1 N1 N2 hll w1
            obtain ⟨r9, m9, e9, o9⟩ := srcG
            refine ⟨_, rfl, ⟨_, SqL.of (wG1 _ _ hll)⟩, ?_⟩
            refine for_list (K := K) (a := ll) (xs := [.ref va, .ref vb]) (fun k τ G' => Hold (∃ t10' : Option V, τ = [some (.ref a), some (.int (0 + (i : Nat))), some (.ref ps), some (.int (0 + (j : Nat))), some (.ref va), some (.ref vb), some .non, some (.str (PyData.list [d, td]).shown), some (.ref r2), some (.ref kt), t10'] ∧ Same H G' ∧ (∃ r m, G' ps = some (.lst [.int r, .int m]) ∧ SrcOk r m) ∧ Same W1 G' ∧ LSt K 90 W1 H G' ps (.ref va) d ∧ LSt K 90 W1 H G' ps (.ref vb) td))
              ⟨t10, rfl, smG.trans sG1, ⟨r9, m9, sG1 _ _ e9, o9⟩, wG1, N1, N2⟩ (fun k τ G' _ ⟨_, _, _, _, z, _⟩ => SqL.of (z _ _ hll)) ?_ ?_
            · rintro k y τ G' hy ⟨t10', rfl, smG', srcG', wG', M1, M2⟩
              obtain ⟨dy, My, back⟩ : ∃ dy, LSt K 90 W1 H G' ps y dy ∧ ∀ b o, y = .ref b → isL dy = true → LSt K 90 W1 H (upd G' b o) ps y dy → LSt K 90 W1 H (upd G' b o) ps (.ref va) d ∧ LSt K 90 W1 H (upd G' b o) ps (.ref vb) td := by
                have : y = .ref va ∨ y = .ref vb := by
                  have := List.mem_of_getElem? hy
                  simpa using this
                rcases this with rfl | rfl
                · exact ⟨d, M1, fun b o e il z => ⟨z, M2.mut fun il2 q => by rw [← e] at q; exact dis' il il2 q.symm⟩⟩
                · exact ⟨td, M2, fun b o e il z => ⟨M1.mut (fun il2 q => by rw [← e] at q; exact dis' il2 il q), z⟩⟩
              rcases id My with ⟨il, dy1⟩ | ⟨b, zs, es, rfl, il, nbp, hb, wb, hnb, dz, lz⟩
              · refine ⟨_, rfl, y, dy, "list", isL dy, rfl, dy1.same wG', kit_isL dy, _, rfl, ?_⟩
                rw [il]
                exact iteF ⟨_, rfl, smG', srcG', wG', M1, M2⟩
              · refine ⟨_, rfl, .ref b, .list es, "list", true, rfl, .lst (SqL.of hb) (dz.same wG'), kit_isL _, _, rfl, iteT ?_⟩
                have lzs := dqAll_len dz
                refine ⟨_, rfl, .inl ⟨rfl, _, SqL.of hb⟩, b, zs, .non, rfl, rfl, hb, by rw [sizeLine_eq]; omega, ?_⟩
                have ln : (zs ++ [V.non]).length = zs.length + 1 := by rw [List.length_append, List.length_singleton]
                have sq : seqIndex? 0 (zs ++ [V.non]).length = some 0 := (ixN_seq (by unfold ixN; rw [if_pos (Int.le_refl 0), if_pos (by omega)]; rfl)).1
                obtain ⟨y0, hy0⟩ : ∃ y0, (zs ++ [V.non])[0]? = some y0 := ⟨_, List.getElem?_eq_getElem (by omega)⟩
                refine ⟨_, rfl, .inl ⟨rfl, _, SqL.of upd_same⟩, b, zs ++ [.non], 0, 0, y0, rfl, rfl, upd_same, by decide, by decide, sq, hy0, ?_⟩
                rw [upd_upd]
                have dz2 : DqAll K W1 ((zs ++ [V.non]).eraseIdx 0) ((es ++ [PyData.none]).eraseIdx 0) := dqAll_erase0 (dqAll_app dz (.cons .non .nil))
                have L : LSt K 90 W1 H (upd G' b (.lst ((zs ++ [V.non]).eraseIdx 0))) ps (.ref b) dy := .inr ⟨b, _, _, rfl, il, nbp, upd_same, wb, hnb, dz2, by rw [List.length_eraseIdx]; rw [List.length_append, List.length_singleton]; split <;> omega⟩
                obtain ⟨B1, B2⟩ := back b _ rfl il L
                obtain ⟨r8, m8, e8, o8⟩ := srcG'
                exact ⟨_, rfl, fun c o e => (upd_ne (fun z => by subst z; rw [hnb] at e; cases e)).trans (smG' c o e), ⟨r8, m8, (upd_ne (Ne.symm nbp)).trans e8, o8⟩, fun c o e => (upd_ne (fun z => by subst z; rw [wb] at e; cases e)).trans (wG' c o e), B1, B2⟩
            · rintro τ G' ⟨t10', rfl, smG', srcG', wG', _, _⟩
              have wF := w1.trans wG'
              have hwF := hw.same wF
              obtain ⟨⟨dx, tpw, ttw, sg, sn, sp, sq, rk, txs, hxF, htpF, httF, htsF, _⟩⟩ := id hwF
              have q2 : SqT K G' r2 [.str "made", .ref x] := same_t wF (same_t nw (noLst_t nl (same_t s811 (SqT.of hr28))))
              have i2 : atI [V.str "made", V.ref x] 1 = some (.ref x) := rfl
              have ndm : ms.Nodup := by
                unfold placesOf at e1
                rw [ed] at e1
                dsimp only at e1
                split at e1
                · rename_i c; cases e1; exact c.2.2
                · cases e1
              obtain ⟨t1, t2, _⟩ := tieBad_none e3
              have lt : (tiesD ms tds).length ≤ 72 := Nat.le_trans (List.length_filterMap_le _ _) (otv.1 _ e2).1
              have pk : PlanOk 12 ms (tiesD ms tds) := ⟨lms.1, lms.2, ndm, fun y hy => names_of al y (exs ▸ hy), t1, t2, by omega⟩
              have sN : Sm 3 20000 (.tuple (ms.map PyData.str)) := (Sm.tuple (k := 0) (m := 82) (n := 12) (fun y hy => by
                obtain ⟨z, hz, rfl⟩ := List.mem_map.mp hy
                exact Sm.str (small_name (pk.nm z hz)) (name_len (pk.nm z hz))) (by rw [List.length_map]; exact lms.2)).mono (by decide) (by decide)
              have sT : Sm 3 20000 (.tuple ((tiesD ms tds).map tieDat)) := (Sm.tuple (k := 1) (m := 172) (n := 72) (fun y hy => by
                obtain ⟨z, hz, rfl⟩ := List.mem_map.mp hy
                exact sm_pair (pk.nm _ (pk.tie z hz).1) (pk.nm _ (pk.tie z hz).2.1)) (by rw [List.length_map]; exact lt)).mono (by decide) (by decide)
              have RR := (Sm.two sN sT).2.rep (by decide) (by decide)
              refine ⟨_, rfl, r2, _, 1, _, rfl, rfl, q2, i2, x, dx, _, rfl, hxF, x, dx, _, .ref tpw, rfl, hxF, rfl, _, rfl, r2, _, 1, _, rfl, rfl, q2, i2, x, dx, _, rfl, hxF, x, dx, _, .ref ttw, rfl, hxF, rfl, sz2, fun tn ntn => ?_⟩
              have sF := same_new (o := .tup [.ref tpw, .ref ttw]) ntn
              have htn : upd G' tn (.tup [.ref tpw, .ref ttw]) tn = some (.tup [.ref tpw, .ref ttw]) := upd_same
              generalize upd G' tn (.tup [.ref tpw, .ref ttw]) = G2 at sF htn ⊢
              have w2 := wF.trans sF
              have dN : ∀ {z : Addr}, SqT K G2 z (ms.map V.str) → Dq K G2 (.ref z) (.tuple (ms.map PyData.str)) := fun {z} h => .tup h (dq_strs ms)
              have dT : ∀ {z : Addr} {xs : List V}, SqT K G2 z xs → TiesAt K G2 xs (tiesD ms tds) → Dq K G2 (.ref z) (.tuple ((tiesD ms tds).map tieDat)) := fun {z xs} h h2 => .tup h (dq_ties h2)
              refine ⟨tn, _, rfl, .tup (SqT.of htn) (.cons (dN (same_t sF htpF)) (.cons (dT (same_t sF httF) (htsF.same sF)) .nil)), RR.1, RR.2.1, RR.2.2, _, rfl, kt, _, rfl, .tup (same_t w2 wkt) (.cons (dN (same_t w2 wtp)) (.cons (dT (same_t w2 wtt) (wts.same w2)) .nil)), RR.1, RR.2.1, RR.2.2, rfl, _, rfl, ?_⟩
              rw [decide_eq_true (rfl : V.str (PyData.tuple [.tuple (ms.map PyData.str), .tuple ((tiesD ms tds).map tieDat)]).shown = V.str (PyData.tuple [.tuple (ms.map PyData.str), .tuple ((tiesD ms tds).map tieDat)]).shown)]
              refine iteF ⟨_, rfl, r2, _, 1, _, rfl, rfl, same_t sF q2, i2, _, rfl, x, kt, tp, tt, 12, ms, vy, tiesD ms tds, rfl, hwF.same sF, pk, Nat.le_refl 12, same_t w2 wkt, .inr (same_t w2 wtp), .inr (same_t w2 wtt), wts.same w2, fun G3 s3 => ⟨_, rfl, iteF ?_⟩⟩
              obtain ⟨r8, m8, e8, o8⟩ := srcG'
              exact ⟨r8, m8, _, _, _, _, _, _, _, _, rfl, smG'.trans (sF.trans s3), s3 _ _ (sF _ _ e8), o8⟩
      · rintro σ H3 ⟨r3, m3, t3, t4, t5, t6, t7, t8, t9, t10, rfl, sm3, hp3, ok3⟩
        refine ⟨sz1, fun l1 nl1 => ?_⟩
        have u1 := same_new (o := .lst [.str "x"]) nl1
        have g1 : upd H3 l1 (.lst [.str "x"]) l1 = some (.lst [.str "x"]) := upd_same
        generalize upd H3 l1 (.lst [.str "x"]) = H4 at u1 g1 ⊢
        refine ⟨l1, ["x"], rfl, .inl (SqL.of g1), planX, fun x H5 s5 _ hw5 => ?_⟩
        obtain ⟨⟨dx, tp, tt, sg, sn, sp, sq, rk, txs, hx, htp, _⟩⟩ := hw5
        refine ⟨x, dx, _, rfl, hx, x, dx, _, .ref tp, rfl, hx, rfl, sz1, fun t5 nt5 => ?_⟩
        have u5 := same_new (o := .tup [.str "x"]) nt5
        have g5 : upd H5 t5 (.tup [.str "x"]) t5 = some (.tup [.str "x"]) := upd_same
        generalize upd H5 t5 (.tup [.str "x"]) = H6 at u5 g5 ⊢
        refine ⟨.tuple [.str "x"], .tuple [.str "x"], .tup (same_t u5 htp) (.cons (.str _) .nil), .tup (SqT.of g5) (.cons (.str _) .nil), by decide +kernel, by decide +kernel, ?_⟩
        rw [SeqAt.eqv_refl _ (by decide +kernel)]
        refine ⟨_, rfl, iteF ⟨sz1, fun t6 nt6 => ?_⟩⟩
        have u6 := same_new (o := .tup [.str "x"]) nt6
        have g6 : upd H6 t6 (.tup [.str "x"]) t6 = some (.tup [.str "x"]) := upd_same
        generalize upd H6 t6 (.tup [.str "x"]) = H7 at u6 g6 ⊢
        refine ⟨t6, ["x"], rfl, .inr (SqT.of g6), planX, fun y H8 s8 _ hw8 => ?_⟩
        obtain ⟨⟨dy, tp2, tt2, sg2, sn2, sp2, sq2, rk2, txs2, hy, _, htt2, hts2, _⟩⟩ := hw8
        cases hts2
        refine ⟨y, dy, _, rfl, hy, y, dy, _, .ref tt2, rfl, hy, rfl, sz0, fun t8 nt8 => ?_⟩
        have u8 := same_new (o := .tup []) nt8
        have g8 : upd H8 t8 (.tup []) t8 = some (.tup []) := upd_same
        generalize upd H8 t8 (.tup []) = H9 at u8 g8 ⊢
        refine ⟨.tuple [], .tuple [], .tup (same_t u8 htt2) .nil, .tup (SqT.of g8) .nil, by decide +kernel, by decide +kernel, ?_⟩
        rw [SeqAt.eqv_refl _ (by decide +kernel)]
        exact ⟨_, rfl, iteF ⟨_, _, _, _, _, _, _, _, _, _, rfl, sm3.trans (u1.trans (s5.trans (u5.trans (u6.trans (s8.trans u8)))))⟩⟩
    · rintro σ H1 ⟨s1, s2, s3, s4, s5, s6, s7, s8, s9, s10, rfl, sm⟩
      exact k H1
end
end Pw

set_option Elab.async false
set_option linter.all false
set_option maxRecDepth 100000
set_option maxHeartbeats 4000000
namespace Pw
open PySem PySem.Spec PyProof.Rows L2 Ct
local macro_rules | `(tactic| wide_line) => `(tactic| repeat ((fail_if_success (with_reducible refine at_while ?_)); (fail_if_success (with_reducible refine at_while1 ?_)); (conv => whnf); first | ((with_reducible refine And.intro ?_ ?_); focus (first | (first | ((with_reducible show (_ : Nat) ≤ _); first | exact sz0 | exact sz1 | exact sz2 | exact sz3 | exact sz4 | exact sz5 | exact sz6 | exact sz7 | exact sz8 | exact sz10 | exact sz11 | exact sz12 | exact sz14 | omega | decide | (simp only [List.length_cons, List.length_nil]; omega)) | ((with_reducible show (_ : Int) ≤ _); first | omega | decide) | ((with_reducible show (_ : Int) < _); first | omega | decide) | ((with_reducible show (_ : Nat) < _); omega)) | ((fail_if_success (with_reducible show (_ : Nat) ≤ _)); (fail_if_success (with_reducible show (_ : Int) ≤ _)); (fail_if_success (with_reducible show (_ : Int) < _)); (fail_if_success (with_reducible show (_ : Nat) < _)); first | exact kv_str _ | exact kv_int _ | rfl | assumption | exact flat_strs _ | exact Lv.get (by assumption) 0 rfl | exact Lv.get (by assumption) 1 rfl | exact Lv.get (by assumption) 2 rfl | exact Lv.get (by assumption) 3 rfl | exact Lv.get (by assumption) 4 rfl | exact Lv.get (by assumption) 5 rfl | exact Lv.get (by assumption) 6 rfl | exact SqL.of (Lv.get (by assumption) 0 rfl) | exact SqL.of (Lv.get (by assumption) 1 rfl) | exact SqL.of (Lv.get (by assumption) 2 rfl) | exact SqL.of (Lv.get (by assumption) 3 rfl) | exact SqL.of (Lv.get (by assumption) 4 rfl) | exact SqL.of (Lv.get (by assumption) 5 rfl) | exact Or.inl (SqL.of (Lv.get (by assumption) 0 rfl)) | exact Or.inl (SqL.of (Lv.get (by assumption) 1 rfl)) | exact Or.inl (SqL.of (Lv.get (by assumption) 2 rfl)) | exact Or.inl (SqL.of (Lv.get (by assumption) 3 rfl)) | exact Or.inl (SqL.of (Lv.get (by assumption) 4 rfl)) | exact Or.inl (SqL.of (Lv.get (by assumption) 5 rfl)) | exact ⟨_, SqL.of (Lv.get (by assumption) 0 rfl)⟩ | exact ⟨_, SqL.of (Lv.get (by assumption) 1 rfl)⟩ | exact ⟨_, SqL.of (Lv.get (by assumption) 2 rfl)⟩ | exact ⟨_, SqL.of (Lv.get (by assumption) 3 rfl)⟩ | exact ⟨_, SqL.of (Lv.get (by assumption) 4 rfl)⟩ | exact ⟨_, SqL.of (Lv.get (by assumption) 5 rfl)⟩ | exact Or.inl ⟨_, SqL.of (Lv.get (by assumption) 0 rfl), rfl⟩ | exact Or.inl ⟨_, SqL.of (Lv.get (by assumption) 1 rfl), rfl⟩ | exact Or.inl ⟨_, SqL.of (Lv.get (by assumption) 2 rfl), rfl⟩ | exact Or.inl ⟨_, SqL.of (Lv.get (by assumption) 3 rfl), rfl⟩ | exact Or.inl ⟨_, SqL.of (Lv.get (by assumption) 4 rfl), rfl⟩ | exact Or.inl ⟨_, SqL.of (Lv.get (by assumption) 5 rfl), rfl⟩ | exact Or.inl ⟨rfl, _, SqL.of (Lv.get (by assumption) 0 rfl)⟩ | exact Or.inl ⟨rfl, _, SqL.of (Lv.get (by assumption) 1 rfl)⟩ | exact Or.inl ⟨rfl, _, SqL.of (Lv.get (by assumption) 2 rfl)⟩ | exact Or.inl ⟨rfl, _, SqL.of (Lv.get (by assumption) 3 rfl)⟩ | exact Or.inl ⟨rfl, _, SqL.of (Lv.get (by assumption) 4 rfl)⟩ | exact Or.inl ⟨rfl, _, SqL.of (Lv.get (by assumption) 5 rfl)⟩ | exact Or.inr (SqT.of (Lv.get (by assumption) 0 rfl)) | exact Or.inr (SqT.of (Lv.get (by assumption) 1 rfl)) | exact Or.inr (SqT.of (Lv.get (by assumption) 2 rfl)) | exact Or.inr (SqT.of (Lv.get (by assumption) 3 rfl)) | exact SqT.of (Lv.get (by assumption) 0 rfl) | exact SqT.of (Lv.get (by assumption) 1 rfl) | exact SqT.of (Lv.get (by assumption) 2 rfl) | exact dgetN (Lv.get (by assumption) 0 rfl) (by assumption) | exact dgetN (Lv.get (by assumption) 1 rfl) (by assumption) | exact dgetN (Lv.get (by assumption) 2 rfl) (by assumption) | exact dgetN (Lv.get (by assumption) 3 rfl) (by assumption) | exact dgetN (Lv.get (by assumption) 4 rfl) (by assumption) | exact Or.inl (by assumption) | exact Or.inr (by assumption) | decide | ((with_reducible show _ ∧ _); omega)))) | ((fail_if_success (with_reducible apply @Exists.intro (Nat → _))); (with_reducible apply Exists.intro))))
local macro_rules
  | `(tactic| wide_line with al $lv:ident $l:ident $nl:ident $H:ident $lv1:ident $s1:ident) => `(tactic| (intro $l:ident $nl:ident; generalize he : upd _ _ _ = $H:ident; have $lv1:ident := Lv.alE $lv $nl he; have $s1:ident := sameE $nl he; clear he; (try dsimp only at $lv1:ident)))
  | `(tactic| wide_line with alx $lv:ident $nl:ident $H:ident $lv1:ident $s1:ident) => `(tactic| (generalize he : upd _ _ _ = $H:ident; have $lv1:ident := Lv.alE $lv $nl he; have $s1:ident := sameE $nl he; clear he; (try dsimp only at $lv1:ident)))
  | `(tactic| wide_line with sts $lv:ident $i:num $H:ident $lv1:ident $s0:ident $np:ident $s1:ident) => `(tactic| (generalize he : upd _ _ _ = $H:ident; have $lv1:ident := Lv.stE $lv $i rfl he; have $s1:ident := sameN $s0 $np he; clear he; (try dsimp only at $lv1:ident)))
  | `(tactic| wide_line with stx $lv:ident $H:ident $lv1:ident $d1:ident) => `(tactic| (generalize he : upd _ _ _ = $H:ident; have $lv1:ident := Lv.stE $lv 0 rfl he; have $d1:ident := SameD.storeE (Lv.get $lv 0 rfl) he; clear he; (try dsimp only at $lv1:ident)))
  | `(tactic| wide_line with st $lv:ident $i:num $H:ident $lv1:ident) => `(tactic| (generalize he : upd _ _ _ = $H:ident; have $lv1:ident := Lv.stE $lv $i rfl he; clear he; (try dsimp only at $lv1:ident)))
  | `(tactic| wide_line with stk $lv:ident $i:num $H:ident $lv1:ident $k1:ident) => `(tactic| (generalize he : upd _ _ _ = $H:ident; have $lv1:ident := Lv.stE $lv $i rfl he; have $k1:ident := KeepT.st (Lv.get $lv $i rfl) he; clear he; (try dsimp only at $lv1:ident)))
/-! all of it put together -/
section
variable {P : Program} {w : World} {K : PySem.W.Frag} {mg : Str → Option Value} {base : Heap} {C CP CS CT CN : Addr}
theorem law_all (T : Bn mg) (M : Mc mg) (X : WC K C) (I : WI K C) (gW : mg "Web" = some (.ref C)) (SB : SysB base) (L : Told K mg CP CS CT) (hE_BadPlaces : HasE P w K mg base 1 "BadPlaces" CP "value") (hE_BadTies : HasE P w K mg base 1 "BadTies" CS "value") (hE_BadTie : HasE P w K mg base 1 "BadTie" CT "position") (hE_NoPlace : HasE P w K mg base 1 "NoPlace" CN "value") (hP_places : HasP P w K mg base 1 C "places" (getSp C "_places")) (hP_ties : HasP P w K mg base 1 C "ties" (getSp C "_ties")) (D_is_name : DFE K mg "is_name" sIsName ["value"]) (D_all_differ : DFE K mg "_all_differ" sAllDiffer ["names"]) (D_is_tie : DFE K mg "_is_tie" sIsTie ["places", "value"]) (D_pair : DFE K mg "_pair" sPair ["tie"]) (D_check_places : DFE K mg "_check_places" sCheckPlaces ["places"]) (D_check_ties : DFE K mg "_check_ties" sCheckTies ["places", "known", "ties"]) (D_bits_of : DFE K mg "bits_of" sBitsOf ["number"]) (D_sights : DFE K mg "_sights" sSights ["places", "ties"]) (D_is_place : DFE K mg "is_place" sIsPlace ["web", "value"]) (D_check_place : DFE K mg "check_place" sCheckPlace ["web", "value"]) (D_are_places : DFE K mg "are_places" sArePlaces ["web", "value"]) (D_law_source : DFE K mg "_law_source" sSource ["script", "start"]) (D_law_draw : DFE K mg "_law_draw" sDraw ["source", "span"]) (D_law_mixed : DFE K mg "_law_mixed" sLawMixed ["source", "things"]) (D_law_pick : DFE K mg "_law_pick" sPick ["source", "things"]) (D_law_word : DFE K mg "_law_word" sLawWord ["source"]) (D_law_names : DFE K mg "_law_names" sLawNames ["source", "many"]) (D_law_pairs : DFE K mg "_law_pairs" sLawPairs ["source", "many", "kind"]) (D_law_plan : DFE K mg "_law_plan" sLawPlan ["source", "most"]) (D_law_is_name : DFE K mg "_law_is_name" sLawIsName ["thing"]) (D_law_is_tie : DFE K mg "_law_is_tie" sLawIsTie ["thing", "places", "known"]) (D_law_due : DFE K mg "_law_due" sLawDue ["places", "ties"]) (D_law_told : DFE K mg "_law_told" sLawTold ["places", "ties"]) (D_law_put : DFE K mg "_law_put" sLawPut ["source", "things", "thing"]) (D_law_odd_name : DFE K mg "_law_odd_name" sLawOddName ["source"]) (D_law_bent : DFE K mg "_law_bent" sLawBent ["source"]) (D_law_stands : DFE K mg "_law_stands" sLawStands ["web", "kept"]) {f_named : Addr} {d_named : FuncData} (F_named : Fun K "named" "Web.named" sNamed f_named d_named) (B_named : Binds K d_named ["self", "number"] []) (M_named : Meth K C "named" f_named) {f_part_of : Addr} {d_part_of : FuncData} (F_part_of : Fun K "_part_of" "Web._part_of" sPartOf f_part_of d_part_of) (B_part_of : Binds K d_part_of ["self", "start"] []) (M_part_of : Meth K C "_part_of" f_part_of) {f_parts : Addr} {d_parts : FuncData} (F_parts : Fun K "parts" "Web.parts" sParts f_parts d_parts) (B_parts : Binds K d_parts ["self"] []) (M_parts : Meth K C "parts" f_parts) {f_sees : Addr} {d_sees : FuncData} (F_sees : Fun K "sees" "Web.sees" sSees f_sees d_sees) (B_sees : Binds K d_sees ["self", "place"] []) (M_sees : Meth K C "sees" f_sees) {f_tied : Addr} {d_tied : FuncData} (F_tied : Fun K "tied" "Web.tied" sTied f_tied d_tied) (B_tied : Binds K d_tied ["self", "ties"] []) (M_tied : Meth K C "tied" f_tied) {f_without : Addr} {d_without : FuncData} (F_without : Fun K "without" "Web.without" sWithout f_without d_without) (B_without : Binds K d_without ["self", "places"] []) (M_without : Meth K C "without" f_without) {f_eq : Addr} {d_eq : FuncData} (F_eq : Fun K "__eq__" "Web.__eq__" sEqW f_eq d_eq) (B_eq : Binds K d_eq ["self", "other"] []) (e1 : PySem.W.findIn K (.ref C) "__eq__" = some (some (.ref f_eq))) (e2 : PySem.W.isFn K (.ref f_eq) = true) {f_init T0 : Addr} {d_init : FuncData} {o0 : Obj} {n0 : Nat} {dv : List Value} (F_init : FunD K "__init__" "Web.__init__" (defArgs sInit) (defBody sInit) (defScope sInit) [.ref T0] [] f_init d_init) (B1 : Binds K d_init ["self", "places", "ties"] []) (B0 : Binds K d_init ["self", "places", "ties"] dv) (V0 : Vals [.ref T0] dv) (l0 : K.lookup T0 = some o0) (c0 : o0.cls = .type "tuple") (s0 : o0.data = .seq #[] n0) (MK : Mk K C f_init) {fl : Addr} {dl : FuncData} (FL : Fun K "law" "law" sLaw fl dl) : GFn P w K mg base CX0 8 fl dl ["script"] (spLaw K) := by
  have h_is_name := has_is_name (P := P) (w := w) (base := base) T M D_is_name
  have h_all_differ := has_all_differ (P := P) (w := w) (base := base) T D_all_differ
  have h_is_tie := has_is_tie (P := P) (w := w) (base := base) T D_is_tie
  have h_pair := has_pair (P := P) (w := w) (base := base) D_pair
  have h_check_places := has_check_places T M D_check_places h_is_name h_all_differ hE_BadPlaces
  have h_check_ties := has_check_ties T D_check_ties h_is_tie h_pair hE_BadTies hE_BadTie
  have h_bits_of := has_bits_of (P := P) (w := w) (base := base) T D_bits_of
  have hM_named : HasM P w K mg base CX0 2 C "named" ["self", "number"] (spNamed K C) := ⟨_, _, M_named, B_named, ok_named X.cls X.n1 F_named h_bits_of⟩
  have h_sights := has_sights (P := P) (w := w) (base := base) T D_sights
  have hW : HasW P w K mg base 4 C CP CS CT := ⟨gW, f_init, T0, d_init, dv, o0, n0, MK, ok_init T X F_init h_check_places h_check_ties h_sights h_pair hM_named, B1, B0, V0, l0, c0, s0⟩
  have h_is_place := has_is_place X D_is_place hP_places
  have h_check_place := has_check_place D_check_place h_is_place hE_NoPlace
  have hM_sees : HasM P w K mg base (L2.CX P w) 5 C "sees" ["self", "place"] (spSees K C CN) := ⟨_, _, M_sees, B_sees, ok_sees T X F_sees h_check_place⟩
  have hM_part_of : HasM P w K mg base CX0 1 C "_part_of" ["self", "start"] (spPartOf K C) := ⟨_, _, M_part_of, B_part_of, ok_part_of T X F_part_of⟩
  have hM_parts : HasM P w K mg base CX0 2 C "parts" ["self"] (spParts C K) := ⟨_, _, M_parts, B_parts, ok_parts T X F_parts hM_part_of⟩
  have hQ : HasEq P w K mg base C := ⟨_, _, ok_eq T X I gW F_eq, e1, e2, B_eq⟩
  have h_are_places := has_are_places T D_are_places h_is_place h_all_differ
  have hM_without : HasM P w K mg base (L2.CX P w) 6 C "without" ["self", "places"] (spWithout K C CP) := ⟨_, _, M_without, B_without, ok_without T X F_without h_are_places hE_BadPlaces hW⟩
  have hM_tied : HasM P w K mg base (L2.CX P w) 6 C "tied" ["self", "ties"] (spTied K C CS CT) := ⟨_, _, M_tied, B_tied, ok_tied T X F_tied h_check_ties hW⟩
  have h_source := has_source (P := P) (w := w) (base := base) T D_law_source
  have h_draw := has_draw (P := P) (w := w) (base := base) T D_law_draw
  have h_mixed := has_mixed T D_law_mixed h_draw
  have h_pick := has_pick T D_law_pick h_draw
  have h_word := has_word T D_law_word h_draw h_pick
  have h_names := has_names D_law_names h_draw h_mixed h_word
  have h_pairs := has_pairs T D_law_pairs h_draw
  have h_plan := has_plan T D_law_plan h_draw h_mixed h_names h_pairs
  have h_lin := has_law_is_name (P := P) (w := w) (base := base) T D_law_is_name
  have h_lit := has_law_is_tie (P := P) (w := w) (base := base) T D_law_is_tie
  have h_due := has_law_due T D_law_due h_lin h_lit
  have h_told := has_law_told L D_law_told hW
  have h_put := has_law_put T D_law_put h_draw
  have h_odd := has_law_odd_name T D_law_odd_name h_draw h_pick h_word
  have h_bent := has_law_bent T D_law_bent h_draw h_pick h_plan h_names h_put h_odd
  have h_stands := has_law_stands T X D_law_stands hW hQ hM_sees hM_parts hM_tied hM_without
  exact has_law T X SB FL h_source h_bent h_due h_told h_stands hW hP_places hP_ties
end
end Pw

set_option Elab.async false
set_option linter.all false
set_option maxRecDepth 100000
set_option maxHeartbeats 2000000
/-! Own kit X: the head by facts: one more Bool, own errors, defs as bundles; the end for defs that lean on no guard. -/
namespace Ct
open PySem PySem.Spec PyProof.Rows L2 He
/-! ### the Hook -/
abbrev AlB : Type := AlD × Bool
def obsB (fa : List Fa) (fn : List DefD) (ex : PySem.W.Frag → Bool) (K : PySem.W.Frag) : AlB := (obsD fa fn K, ex K)
def obsBG (n : Nat) (fa : List Fa) (fn : List DefD) (ex : PySem.W.Frag → Bool) (g : Addr → Option Obj) : AlB := obsB fa fn ex (frG g (asD g n))
def hookB (n : Nat) (fa : List Fa) (fn : List DefD) (ex : PySem.W.Frag → Bool) : PySem.W.Hook where
  α := AlB
  obs := fun s => obsBG n fa fn ex s.heap.get?
  val := fun _ => (valD fn, true)
  says := fun _ h => ∃ K : PySem.W.Frag, K.In h ∧ SaysD fa fn K ∧ ex K = true
  of := fun _ _ e => ⟨_, frG_in, congrArg (fun z : AlB => z.1) e, congrArg (fun z : AlB => z.2) e⟩
  keeps := fun _ _ _ ⟨K, hK, c⟩ k => ⟨K, PySem.W.Frag.In.keeps hK k, c⟩
theorem obsBG_eq {n : Nat} {fa : List Fa} {fn : List DefD} {ex : PySem.W.Frag → Bool} {g : Addr → Option Obj} {s : Shared} (h : ∀ a, g a = s.heap.get? a) : obsBG n fa fn ex g = (hookB n fa fn ex).obs s := by
  have e : g = s.heap.get? := funext h
  rw [e] <;> rfl
/-! ### defs -/
section
variable {K : PySem.W.Frag} {mg : Str → Option Value} {h : Heap} {x q nm : Str} {st : Stmt} {f : Addr} {fd : FuncData} {ps : List Str} {fa : List Fa} {fn : List DefD}
theorem fun_of (F : FunD K x q (defArgs st) (defBody st) (defScope st) [] [] f fd) : Fun K x q st f fd := by
  obtain ⟨oc, od, dV, kV, doc, pm, an, cdv, ct, osl, e, lk, hcd, hD, _⟩ := F.ex
  rcases hD with ⟨_, rfl⟩ | ⟨n, _⟩
  · exact ⟨⟨oc, od, kV, doc, pm, an, cdv, ct, osl, e, lk, hcd⟩, F.kp⟩
  · exact absurd rfl n
/-- a module's def -/
abbrev dM (nm : Str) (st : Stmt) : DefD := ⟨(nm, none), nm, nm, defArgs st, defBody st, defScope st, [], []⟩
/-- a class's def -/
abbrev dC (C m q : Str) (st : Stmt) : DefD := ⟨(C, some m), m, q, defArgs st, defBody st, defScope st, [], []⟩
theorem dfe_of (X : K.In h) (G : h.Ns mainGlobals mg) (c : SaysD fa fn K) (i j : Nat) (hi : fn[i]? = some (dM nm st)) (hj : fa[j]? = some (.glo nm))
    (b : ∀ (kV doc pm : Value) (an : Option Addr) (cdv ct : Value) (us : List Value), us.length = ps.length → bindArgs (PySem.W.fnOf nm nm (defArgs st) (defBody st) (defScope st) .none kV doc pm an cdv ct) ⟨us, []⟩ = pure (ps.zip us)) : DFE K mg nm st ps := by
  obtain ⟨fd, F⟩ := c.def_ i hi
  exact ⟨_, fd, fun_of F, glo_ok X G (c.fact j hj), FunD.bindsN (ps := ps) F b⟩
theorem fun_at {C m q : Str} (c : SaysD fa fn K) (i : Nat) (hi : fn[i]? = some (dC C m q st)) : ∃ fd, Fun K m q st (ma K (ga K C) m) fd := by
  obtain ⟨fd, F⟩ := c.def_ i hi
  exact ⟨fd, fun_of F⟩
end
/-! ### own errors -/
section
variable {K : PySem.W.Frag} {C : Addr} {x f : Str}
def oexB (K : PySem.W.Frag) (C : Addr) : Bool := match K.lookup C with
  | some ⟨.type "type", _, .cls cd, sl⟩ => (match cd.mro, sl.toList with
    | .ref C' :: bm, [_, _, _, _, some (.builtin n), _] => C' == C && n == "ValueError.__new__" && !cd.hasDel && cd.hasDict && PySem.HandSPX.refsVE bm
    | _, _ => false)
  | _ => false
theorem oexB_ok (q : oexB K C = true) : ∃ nm qn N bs bm sn sub ab col dd k0 k1 k2 k3 k5, K.lookup C = some (excClassObj nm qn C N bs bm true sn sub ab col dd k0 k1 k2 k3 k5 "ValueError.__new__") ∧ PySem.HandSPX.refsVE bm = true := by
  unfold oexB at q
  split at q
  · rename_i dd cd sl ho
    split at q
    · rename_i C' bm k0 k1 k2 k3 n k5 hm hs
      simp only [Bool.and_eq_true, beq_iff_eq, Bool.not_eq_true'] at q
      obtain ⟨⟨⟨⟨rfl, rfl⟩, hdel⟩, hdct⟩, ht⟩ := q
      obtain ⟨nm, bs, mro, ns, qn, hd, sn, sub, ab, col, del⟩ := cd
      dsimp only at hm hdel hdct
      subst hm hdel hdct
      have hsl : sl = #[k0, k1, k2, k3, some (.builtin "ValueError.__new__"), k5] := by
        obtain ⟨l⟩ := sl
        simp only at hs
        rw [hs]
      subst hsl
      exact ⟨nm, qn, ns, bs, bm, sn, sub, ab, col, dd, k0, k1, k2, k3, k5, ho, ht⟩
    · cases q
  · cases q
def genB (K : PySem.W.Frag) : Bool := eqO (PySem.W.specialIn K (.builtin "object.__class__") "__get__") (some (some (.builtin "getset_descriptor.__get__"))) && decide (PySem.W.takesIn K (.builtin "object.__class__") = some true)
def xclB (K : PySem.W.Frag) (x f : Str) : Bool := oexB K (ga K x) && (eqO (PySem.W.findIn K (.ref (ga K x)) "__setattr__") (some (some (.builtin "object.__setattr__"))) && (decide (PySem.W.subIn K (.ref (ga K x)) (.type "BaseException") = some true) &&
  (decide (PySem.W.typeIn K (.ref (ga K x)) = some (.type "type")) && (PySem.W.keepIn K (.ref (ga K x)) && (eqO (PySem.W.findIn K (.ref (ga K x)) "__getattribute__") (some (some (.builtin "BaseException.__getattribute__"))) &&
  (eqO (PySem.W.findIn K (.ref (ga K x)) "__getattr__") (some none) && (PySem.W.hasDictIn K (ga K x) && (eqO (PySem.W.findIn K (.ref (ga K x)) "__class__") (some (some (.builtin "object.__class__"))) && (decide (PySem.W.mroIn K (ga K x) (.type "object") = some true) &&
  (eqO (PySem.W.findIn K (.ref (ga K x)) "__init__") (some (some (.ref (ma K (ga K x) "__init__")))) && (decide (PySem.W.typeIn K (.ref (ma K (ga K x) "__init__")) = some (.type "function")) && eqO (PySem.W.findIn K (.ref (ga K x)) f) (some none))))))))))))
theorem xclB_ok (g : genB K = true) (c : xclB K x f = true) : XCls K (ga K x) (ma K (ga K x) "__init__") ∧ PySem.W.findIn K (.ref (ga K x)) f = some none := by
  obtain ⟨g1, g2⟩ := ba g
  have hn := eqO_ok g1
  have ht := of_decide_eq_true g2
  obtain ⟨c1, c⟩ := ba c
  obtain ⟨c2, c⟩ := ba c
  obtain ⟨c3, c⟩ := ba c
  obtain ⟨c4, c⟩ := ba c
  obtain ⟨c5, c⟩ := ba c
  obtain ⟨c6, c⟩ := ba c
  obtain ⟨c7, c⟩ := ba c
  obtain ⟨c8, c⟩ := ba c
  obtain ⟨c9, c⟩ := ba c
  obtain ⟨c10, c⟩ := ba c
  obtain ⟨c11, c⟩ := ba c
  obtain ⟨c12, c13⟩ := ba c
  have hs := of_decide_eq_true c3
  exact ⟨⟨⟨oexB_ok c1, eqO_ok c2, hs, of_decide_eq_true c4, c5⟩, ⟨eqO_ok c6, eqO_ok c7, hs, c8, eqO_ok c9, hn, ht, of_decide_eq_true c10⟩, eqO_ok c11, of_decide_eq_true c12⟩, eqO_ok c13⟩
/-- the kit's word on isinstance -/
def isB (K : PySem.W.Frag) (x : Str) (c : Value) (b : Bool) : Bool := decide (PySem.W.kitOne K (.ref (ga K x)) c = some b)
def exmB (K : PySem.W.Frag) (x y : Str) (b : Bool) : Bool := decide (PySem.W.exmOne K (.ref (ga K x)) (.ref (ga K y)) = some b)
end
/-! ### the end -/
theorem walk_gE {l : PySem.W.OpenLaw} {n k : Nat} {q : Program} {loose : List Str} {XP : (Str → Option Value) → Heap → Prop} {YP : World → Heap → Prop} {d : DefRec} {CX : CXT} {x : Str}
    (hn : l.most = some n) (hq : importsNone q = true) (hn2 : n ≤ sizeLine) (hdf : d.params.defaults = []) (hr : Room k callerA)
    (F : ∀ (w : World) (mg : Str → Option Value) (fa : Addr) (h : Heap), YP w h → h.Ns mainGlobals mg → mg d.name = some (.ref fa) →
      ∃ (K : PySem.W.Frag) (fd : FuncData) (sp : Sp), K.In h ∧ (∀ (s : Shared) (u : Value), BindsTo s fd ⟨[u], []⟩ [(x, u)]) ∧
        (∀ (H : Hp) (a : Addr) (ns : List Int), ns.length ≤ n → (∀ z ∈ ns, Builtin.Int.intBits z ≤ 1048576) → Only H → SqL K H a (ns.map V.int) → sp [.ref a] H (fun v _ => v = .bl true) fun _ _ _ => False) ∧
        ∀ base : Heap, K.In base → base.Ns mainGlobals mg → (∃ mm, base.Ns sysModules mm) → GFn l.prog w K mg base CX k fa fd [x] sp)
    (hCX : ∀ (H : Hp) (s : Shared) (e : Value) (s' : Shared), CX [] H s (fun _ _ _ => False) e s' → False) :
    PySem.W.WalkO q loose XP YP l.row.toRowW d [] (fun f vs => PySem.call f vs) := by
  refine Att.attach_callB hn hdf ?_
  intro w s0 s1 mg mb fa o pm cd doc a vs ns G Y _ _ _ hmg hobj hints hlen hbits hg
  obtain ⟨K, fd, sp, KX, hb, hsp, hF⟩ := F w mg fa _ Y G.T.g hmg
  exact end_g KX G.T.g G.T.b G.T.builtins G.T.nolimit hg hobj hints (Nat.le_trans hlen hn2) hr ((G.T.seer hq).mods.imp fun _ z => z.1) hF hb (fun H h1 h2 => hsp H a ns hlen hbits h1 h2) (fun H e s' => hCX H s1 e s')
end Ct

set_option Elab.async false
set_option linter.all false
set_option maxRecDepth 100000
set_option maxHeartbeats 2000000
/-! Own kit Y: the head by facts, properties' getters too. -/
namespace Ct
open PySem PySem.Spec PyProof.Rows L2 He
/-! ### functions by a path of one's own -/
structure GetD where
  at_ : PySem.W.Frag → Addr
  name : Str
  qual : Str
  params : Arguments
  body : List Stmt
  scope : Scope
def fnWA (K : PySem.W.Frag) (a : Addr) : FnW := match K.lookup a with
  | some ⟨_, _, .func fd, _⟩ => some (fd.name, fd.qualname, fd.params, fd.body, fd.scope, fd.globals, fd.closure, fd.builtins)
  | _ => none
def GetD.val (d : GetD) : FnW := some (d.name, d.qual, d.params, .stmts d.body, d.scope, mainGlobals, [], builtinsNs)
def GetD.ok (K : PySem.W.Frag) (d : GetD) : Bool := PySem.W.keepIn K (.ref (d.at_ K)) && (match K.lookup (d.at_ K) with
  | some ⟨_, _, .func fd, _⟩ => PySem.W.codeIn K fd.code d.qual && (dflB K fd.defaults [] && kwdB K fd.kwdefaults [])
  | _ => false)
theorem GetD.funD {K : PySem.W.Frag} {d : GetD} (e : fnWA K (d.at_ K) = d.val) (c : d.ok K = true) : ∃ fd, FunD K d.name d.qual d.params d.body d.scope [] [] (d.at_ K) fd := by
  obtain ⟨kp, c2⟩ := ba c
  unfold fnWA at e
  cases q : K.lookup (d.at_ K) with
  | none =>
    rw [q] at c2
    cases c2
  | some o =>
    obtain ⟨oc, od, dt, osl⟩ := o
    rw [q] at c2 e
    cases dt with
    | func fd =>
      obtain ⟨n1, n2, n3, n4, n5, n6, n7, n8, n9, n10, n11, n12, n13, n14, n15⟩ := fd
      have e2 : (some (n1, n2, n3, n4, n5, n6, n7, n15) : FnW) = some (d.name, d.qual, d.params, .stmts d.body, d.scope, mainGlobals, [], builtinsNs) := e
      simp only [Option.some.injEq, Prod.mk.injEq] at e2
      obtain ⟨h1, h2, h3, h4, h5, h6, h7, h8⟩ := e2
      subst h1 h2 h3 h4 h5 h6 h7 h8
      have c3 : (PySem.W.codeIn K n13 d.qual && (dflB K n8 [] && kwdB K n9 [])) = true := c2
      obtain ⟨k1, k2⟩ := ba c3
      obtain ⟨k3, k4⟩ := ba k2
      exact ⟨_, ⟨oc, od, n8, n9, n10, n11, n12, n13, n14, osl, rfl, q, k1, dflB_ok k3, kwdB_ok k4⟩, kp⟩
    | _ => cases c2
/-! ### the Hook -/
abbrev AlG : Type := AlD × List FnW × Bool
def obsGt (fa : List Fa) (fn : List DefD) (gs : List GetD) (ex : PySem.W.Frag → Bool) (K : PySem.W.Frag) : AlG := (obsD fa fn K, gs.map (fun d => fnWA K (d.at_ K)), (gs.all fun d => d.ok K) && ex K)
def obsGtG (n : Nat) (fa : List Fa) (fn : List DefD) (gs : List GetD) (ex : PySem.W.Frag → Bool) (g : Addr → Option Obj) : AlG := obsGt fa fn gs ex (frG g (asD g n))
def SaysG (gs : List GetD) (K : PySem.W.Frag) : Prop := (gs.map (fun d => fnWA K (d.at_ K))) = gs.map GetD.val ∧ (gs.all fun d => d.ok K) = true
def hookG (n : Nat) (fa : List Fa) (fn : List DefD) (gs : List GetD) (ex : PySem.W.Frag → Bool) : PySem.W.Hook where
  α := AlG
  obs := fun s => obsGtG n fa fn gs ex s.heap.get?
  val := fun _ => (valD fn, gs.map GetD.val, true)
  says := fun _ h => ∃ K : PySem.W.Frag, K.In h ∧ SaysD fa fn K ∧ SaysG gs K ∧ ex K = true
  of := fun _ _ e => ⟨_, frG_in, congrArg (fun z : AlG => z.1) e, ⟨congrArg (fun z : AlG => z.2.1) e, (ba (congrArg (fun z : AlG => z.2.2) e)).1⟩, (ba (congrArg (fun z : AlG => z.2.2) e)).2⟩
  keeps := fun _ _ _ ⟨K, hK, c⟩ k => ⟨K, PySem.W.Frag.In.keeps hK k, c⟩
theorem obsGtG_eq {n : Nat} {fa : List Fa} {fn : List DefD} {gs : List GetD} {ex : PySem.W.Frag → Bool} {g : Addr → Option Obj} {s : Shared} (h : ∀ a, g a = s.heap.get? a) : obsGtG n fa fn gs ex g = (hookG n fa fn gs ex).obs s := by
  have e : g = s.heap.get? := funext h
  rw [e] <;> rfl
theorem SaysG.at {gs : List GetD} {K : PySem.W.Frag} (c : SaysG gs K) (i : Nat) {d : GetD} (h : gs[i]? = some d := by rfl) : ∃ fd, FunD K d.name d.qual d.params d.body d.scope [] [] (d.at_ K) fd := by
  have e2 : (gs.map fun d => fnWA K (d.at_ K))[i]? = (gs.map GetD.val)[i]? := by rw [c.1]
  rw [List.getElem?_map, List.getElem?_map, h] at e2
  exact GetD.funD (Option.some.inj e2) (List.all_eq_true.mp c.2 d (List.mem_of_getElem? h))
/-! ### properties -/
/-- the getter of the property f of the class x -/
def prA (x f : Str) (K : PySem.W.Frag) : Addr := match PySem.W.recIn K (ma K (ga K x) f) "property" with
  | some (.ref g :: _) => g
  | _ => 0
def prB (K : PySem.W.Frag) (x f : Str) : Bool := eqO (PySem.W.findIn K (.ref (ga K x)) f) (some (some (.ref (ma K (ga K x) f)))) && (eqO (PySem.W.specialIn K (.ref (ma K (ga K x) f)) "__get__") (some (some (.builtin "property.__get__"))) &&
  (decide (PySem.W.takesIn K (.ref (ma K (ga K x) f)) = some true) && (match PySem.W.recIn K (ma K (ga K x) f) "property" with
    | some (.ref _ :: _) => true
    | _ => false)))
section
variable {K : PySem.W.Frag} {x f : Str}
theorem prB_ok (c : prB K x f = true) : PropOf K (ga K x) f (ma K (ga K x) f) (prA x f K) := by
  obtain ⟨c1, c⟩ := ba c
  obtain ⟨c2, c⟩ := ba c
  obtain ⟨c3, c4⟩ := ba c
  refine ⟨eqO_ok c1, eqO_ok c2, of_decide_eq_true c3, ?_⟩
  have c4 : (match PySem.W.recIn K (ma K (ga K x) f) "property" with
    | some (.ref _ :: _) => true
    | _ => false) = true := c4
  unfold prA
  split at c4
  · rename_i g rest h
    exact ⟨rest, by rw [h]⟩
  · cases c4
/-- the getter as it stands -/
abbrev dG (x f q : Str) (st : Stmt) : GetD := ⟨prA x f, f, q, defArgs st, defBody st, defScope st⟩
/-- a tuple of nothing: a default -/
def emptyB (K : PySem.W.Frag) (a : Addr) : Bool := match K.lookup a with
  | some ⟨.type c, _, .seq its _, _⟩ => c == "tuple" && its.size == 0
  | _ => false
theorem emptyB_ok {a : Addr} (c : emptyB K a = true) : ∃ o n, K.lookup a = some o ∧ o.cls = .type "tuple" ∧ o.data = .seq #[] n := by
  unfold emptyB at c
  split at c
  · rename_i t d its n sl h
    rw [Bool.and_eq_true, beq_iff_eq, beq_iff_eq] at c
    obtain ⟨rfl, c2⟩ := c
    exact ⟨_, n, h, rfl, by rw [Array.eq_empty_of_size_eq_zero c2]⟩
  · cases c
/-- the common facts of classes' instances -/
def clsB (K : PySem.W.Frag) (x : Str) : Bool := eqO (PySem.W.findIn K (.ref (ga K x)) "__class__") (some (some (.builtin "object.__class__"))) && decide (PySem.W.mroIn K (ga K x) (.type "object") = some true)
end
end Ct

set_option Elab.async false
set_option linter.all false
set_option maxRecDepth 100000
set_option maxHeartbeats 4000000
namespace Pw
open PySem PySem.Spec PyProof.Rows L2 Ct
section
variable {P : Program} {w : World} {K : PySem.W.Frag} {mg : Str → Option Value} {base : Heap}
abbrev sE_BadPlaces : Stmt := inClass (top ix_BadPlaces) mx_BadPlaces_init
theorem scE_BadPlaces : FnScope ["self", "value"] ["self", "value"] (defScope sE_BadPlaces) := ⟨rfl, rfl, rfl, by decide +kernel, rfl, by decide +kernel, by decide +kernel⟩
theorem hE_BadPlaces {C fI : Addr} {fd : FuncData} (g : mg "BadPlaces" = some (.ref C)) (F : Fun K "__init__" "BadPlaces.__init__" sE_BadPlaces fI fd) (T : XCls K C fI) (no : PySem.W.findIn K (.ref C) "value" = some none) : HasE P w K mg base 1 "BadPlaces" C "value" := by
  refine ⟨g, fI, fd, T, F.ok scE_BadPlaces (fun vs H Q E h => ?_) (fun cdv A outer s H vs Q E hr h => ?_), F.binds fun _ _ _ _ _ _ us hl => match us, hl with | [_, _], _ => rfl⟩
  · obtain ⟨a, v, rfl, _⟩ := h; rfl
  · obtain ⟨a, v, rfl, ha, k⟩ := h
    exact ⟨_, pss_one (ps_ost (pv 0) (pv 1)), _, rfl, _, rfl, a, C, rfl, T.ox, no, .inl ⟨ha, fun dx n ne => k dx n ne⟩⟩
abbrev sE_BadTies : Stmt := inClass (top ix_BadTies) mx_BadTies_init
theorem scE_BadTies : FnScope ["self", "value"] ["self", "value"] (defScope sE_BadTies) := ⟨rfl, rfl, rfl, by decide +kernel, rfl, by decide +kernel, by decide +kernel⟩
theorem hE_BadTies {C fI : Addr} {fd : FuncData} (g : mg "BadTies" = some (.ref C)) (F : Fun K "__init__" "BadTies.__init__" sE_BadTies fI fd) (T : XCls K C fI) (no : PySem.W.findIn K (.ref C) "value" = some none) : HasE P w K mg base 1 "BadTies" C "value" := by
  refine ⟨g, fI, fd, T, F.ok scE_BadTies (fun vs H Q E h => ?_) (fun cdv A outer s H vs Q E hr h => ?_), F.binds fun _ _ _ _ _ _ us hl => match us, hl with | [_, _], _ => rfl⟩
  · obtain ⟨a, v, rfl, _⟩ := h; rfl
  · obtain ⟨a, v, rfl, ha, k⟩ := h
    exact ⟨_, pss_one (ps_ost (pv 0) (pv 1)), _, rfl, _, rfl, a, C, rfl, T.ox, no, .inl ⟨ha, fun dx n ne => k dx n ne⟩⟩
abbrev sE_BadTie : Stmt := inClass (top ix_BadTie) mx_BadTie_init
theorem scE_BadTie : FnScope ["self", "position"] ["self", "position"] (defScope sE_BadTie) := ⟨rfl, rfl, rfl, by decide +kernel, rfl, by decide +kernel, by decide +kernel⟩
theorem hE_BadTie {C fI : Addr} {fd : FuncData} (g : mg "BadTie" = some (.ref C)) (F : Fun K "__init__" "BadTie.__init__" sE_BadTie fI fd) (T : XCls K C fI) (no : PySem.W.findIn K (.ref C) "position" = some none) : HasE P w K mg base 1 "BadTie" C "position" := by
  refine ⟨g, fI, fd, T, F.ok scE_BadTie (fun vs H Q E h => ?_) (fun cdv A outer s H vs Q E hr h => ?_), F.binds fun _ _ _ _ _ _ us hl => match us, hl with | [_, _], _ => rfl⟩
  · obtain ⟨a, v, rfl, _⟩ := h; rfl
  · obtain ⟨a, v, rfl, ha, k⟩ := h
    exact ⟨_, pss_one (ps_ost (pv 0) (pv 1)), _, rfl, _, rfl, a, C, rfl, T.ox, no, .inl ⟨ha, fun dx n ne => k dx n ne⟩⟩
abbrev sE_NoPlace : Stmt := inClass (top ix_NoPlace) mx_NoPlace_init
theorem scE_NoPlace : FnScope ["self", "value"] ["self", "value"] (defScope sE_NoPlace) := ⟨rfl, rfl, rfl, by decide +kernel, rfl, by decide +kernel, by decide +kernel⟩
theorem hE_NoPlace {C fI : Addr} {fd : FuncData} (g : mg "NoPlace" = some (.ref C)) (F : Fun K "__init__" "NoPlace.__init__" sE_NoPlace fI fd) (T : XCls K C fI) (no : PySem.W.findIn K (.ref C) "value" = some none) : HasE P w K mg base 1 "NoPlace" C "value" := by
  refine ⟨g, fI, fd, T, F.ok scE_NoPlace (fun vs H Q E h => ?_) (fun cdv A outer s H vs Q E hr h => ?_), F.binds fun _ _ _ _ _ _ us hl => match us, hl with | [_, _], _ => rfl⟩
  · obtain ⟨a, v, rfl, _⟩ := h; rfl
  · obtain ⟨a, v, rfl, ha, k⟩ := h
    exact ⟨_, pss_one (ps_ost (pv 0) (pv 1)), _, rfl, _, rfl, a, C, rfl, T.ox, no, .inl ⟨ha, fun dx n ne => k dx n ne⟩⟩
abbrev sG_places : Stmt := inClass (top ix_Web) mx_Web_places
theorem scG_places : FnScope ["self"] ["self"] (defScope sG_places) := ⟨rfl, rfl, rfl, by decide +kernel, rfl, by decide +kernel, by decide +kernel⟩
theorem hP_places {C p g : Addr} {fd : FuncData} (hp : PropOf K C "places" p g) (F : FunD K "places" "Web.places" (defArgs sG_places) (defBody sG_places) (defScope sG_places) [] [] g fd) (c : Cls K C) (n : NoAttr K C "_places") : HasP P w K mg base 1 C "places" (getSp C "_places") := by
  have b : Binds K fd ["self"] [] := FunD.bindsN (ps := ["self"]) F fun _ _ _ _ _ _ us hl => match us, hl with | [_], _ => rfl
  obtain ⟨oc, od, dV, kV, doc, pm, an, cdv, ct, osl, e, lk, hcd, _, _⟩ := id F.ex
  subst e
  exact ⟨p, g, _, hp, fn_getter lk hcd scG_places rfl rfl c n, b⟩
abbrev sG_ties : Stmt := inClass (top ix_Web) mx_Web_ties
theorem scG_ties : FnScope ["self"] ["self"] (defScope sG_ties) := ⟨rfl, rfl, rfl, by decide +kernel, rfl, by decide +kernel, by decide +kernel⟩
theorem hP_ties {C p g : Addr} {fd : FuncData} (hp : PropOf K C "ties" p g) (F : FunD K "ties" "Web.ties" (defArgs sG_ties) (defBody sG_ties) (defScope sG_ties) [] [] g fd) (c : Cls K C) (n : NoAttr K C "_ties") : HasP P w K mg base 1 C "ties" (getSp C "_ties") := by
  have b : Binds K fd ["self"] [] := FunD.bindsN (ps := ["self"]) F fun _ _ _ _ _ _ us hl => match us, hl with | [_], _ => rfl
  obtain ⟨oc, od, dV, kV, doc, pm, an, cdv, ct, osl, e, lk, hcd, _, _⟩ := id F.ex
  subst e
  exact ⟨p, g, _, hp, fn_getter lk hcd scG_ties rfl rfl c n, b⟩
end
/-! ### the head: facts by names, the run -/
def tFn_0 : List He.DefD := [dM "law" sLaw, dC "BadPlaces" "__init__" "BadPlaces.__init__" sE_BadPlaces, dC "BadTies" "__init__" "BadTies.__init__" sE_BadTies, dC "BadTie" "__init__" "BadTie.__init__" sE_BadTie, dC "NoPlace" "__init__" "NoPlace.__init__" sE_NoPlace, dC "Web" "named" "Web.named" sNamed, dC "Web" "_part_of" "Web._part_of" sPartOf, dC "Web" "parts" "Web.parts" sParts, dC "Web" "sees" "Web.sees" sSees, dC "Web" "tied" "Web.tied" sTied, dC "Web" "without" "Web.without" sWithout, dC "Web" "__eq__" "Web.__eq__" sEqW, ⟨("Web", some "__init__"), "__init__", "Web.__init__", defArgs sInit, defBody sInit, defScope sInit, [.adr (He.dflAt ("Web", some "__init__") 0)], []⟩, dM "is_name" sIsName, dM "_all_differ" sAllDiffer, dM "_is_tie" sIsTie, dM "_pair" sPair, dM "_check_places" sCheckPlaces, dM "_check_ties" sCheckTies, dM "bits_of" sBitsOf, dM "_sights" sSights, dM "is_place" sIsPlace, dM "check_place" sCheckPlace, dM "are_places" sArePlaces, dM "_law_source" sSource, dM "_law_draw" sDraw, dM "_law_mixed" sLawMixed, dM "_law_pick" sPick, dM "_law_word" sLawWord, dM "_law_names" sLawNames]
def tFn_1 : List He.DefD := [dM "_law_pairs" sLawPairs, dM "_law_plan" sLawPlan, dM "_law_is_name" sLawIsName, dM "_law_is_tie" sLawIsTie, dM "_law_due" sLawDue, dM "_law_told" sLawTold, dM "_law_put" sLawPut, dM "_law_odd_name" sLawOddName, dM "_law_bent" sLawBent, dM "_law_stands" sLawStands]
def tFn : List He.DefD := tFn_0 ++ tFn_1
def tFa_0 : List He.Fa := [.glo "law", .free "int", .free "str", .free "bool", .free "len", .free "range", .free "max", .free "min", .free "isinstance", .free "list", .free "tuple", .free "set", .free "dict", .free "repr", .free "all", .free "any", .free "sorted", .free "enumerate", .free "zip", .free "sum", .free "reversed", .int "MOST_PLACES" 12, .int "MOST_LETTERS" 8, .str "LETTERS" "abcdefghijklmnopqrstuvwxyz", .glo "BadPlaces", .glo "BadTies", .glo "BadTie", .glo "NoPlace", .cls "Web", .noat "Web" "_places"]
def tFa_1 : List He.Fa := [.noat "Web" "_ties", .noat "Web" "_sights", .noat "Web" "_seen", .noat "Web" "_kept", .noat "Web" "_sorted_places", .noat "Web" "_sorted_pairs", .meth "Web" "named", .meth "Web" "_part_of", .meth "Web" "parts", .meth "Web" "sees", .meth "Web" "tied", .meth "Web" "without", .meth "Web" "__eq__", .mkr "Web", .glo "Web", .glo "is_name", .glo "_all_differ", .glo "_is_tie", .glo "_pair", .glo "_check_places", .glo "_check_ties", .glo "bits_of", .glo "_sights", .glo "is_place", .glo "check_place", .glo "are_places", .glo "_law_source", .glo "_law_draw", .glo "_law_mixed", .glo "_law_pick"]
def tFa_2 : List He.Fa := [.glo "_law_word", .glo "_law_names", .glo "_law_pairs", .glo "_law_plan", .glo "_law_is_name", .glo "_law_is_tie", .glo "_law_due", .glo "_law_told", .glo "_law_put", .glo "_law_odd_name", .glo "_law_bent", .glo "_law_stands"]
def tFa : List He.Fa := tFa_0 ++ tFa_1 ++ tFa_2
def hex : List (PySem.W.Frag → Bool) := [fun K => Ct.genB K, fun K => Ct.xclB K "BadPlaces" "value", fun K => Ct.xclB K "BadTies" "value", fun K => Ct.xclB K "BadTie" "position", fun K => Ct.xclB K "NoPlace" "value", fun K => Ct.clsB K "Web", fun K => Ct.isB K "Web" (.ref (He.ga K "Web")) true, fun K => Ct.prB K "Web" "places", fun K => Ct.prB K "Web" "ties", fun K => Ct.emptyB K (He.dflAt ("Web", some "__init__") 0 K), fun K => Ct.exmB K "BadPlaces" "BadPlaces" true, fun K => Ct.exmB K "BadTies" "BadPlaces" false, fun K => Ct.exmB K "BadTies" "BadTies" true, fun K => Ct.exmB K "BadTie" "BadPlaces" false, fun K => Ct.exmB K "BadTie" "BadTies" false, fun K => Ct.exmB K "BadTie" "BadTie" true]
def tGs : List Ct.GetD := [Ct.dG "Web" "places" "Web.places" sG_places, Ct.dG "Web" "ties" "Web.ties" sG_ties]
def hexA (K : PySem.W.Frag) : Bool := hex.all fun f => f K
theorem exs_at {K : PySem.W.Frag} (c : hexA K = true) (i : Nat) {f : PySem.W.Frag → Bool} (h : hex[i]? = some f) : f K = true := List.all_eq_true.mp c f (List.mem_of_getElem? h)
def hnames_0 : List Str := ["_wall", "bits_of", "WebError", "BadPlaces", "BadTies", "BadTie", "NoPlace", "MOST_PLACES", "MOST_LETTERS", "LETTERS", "is_name", "is_place", "check_place", "_all_differ", "are_places", "_check_places", "_is_tie", "_pair", "_check_ties", "_sights", "Web", "_law_source", "_law_draw", "_law_pick", "_law_mixed", "_law_word", "_law_names", "_law_pairs", "_law_plan", "_law_is_name"]
def hnames_1 : List Str := ["_law_is_tie", "_law_due", "_law_told", "_law_odd_name", "_law_put", "_law_bent", "_law_stands"]
def hnames : List Str := hnames_0 ++ hnames_1
abbrev HR : PySem.W.OpenRow := PySem.W.OpenLaw.row PySem.Challenge.rw_cornerturn_k01_webs_made_and_refused
abbrev hk : PySem.W.Hook := Ct.hookG 6 tFa tFn tGs hexA
def hob (s : PySem.W.SharedT) : Ct.AlG := Ct.obsGtG 6 tFa tFn tGs hexA (HandSHeadRun.getT s)
theorem hob_eq (s : PySem.W.SharedT) : hob s = hk.obs s.abs := Ct.obsGtG_eq (HandSHeadRun.getT_eq s)
theorem hrun (w : World) : HandSHeadRun.RunEq HR (PySem.W.view HR.prog [41]) hk hob 12000 hnames w := by
  intro os
  kernel_rfl
open He in
theorem facts {P : Program} {w : World} {K : PySem.W.Frag} {h : Heap} {mg : Str → Option Value} {f : Addr} (X : K.In h) (G : h.Ns mainGlobals mg) (zfa : mg ("law" : Str) = some (.ref f)) (c : He.SaysD tFa tFn K) (cg : Ct.SaysG tGs K) (ce : hexA K = true) :
    ∃ fd : FuncData, (∀ (s : Shared) (v : Value), BindsTo s fd ⟨[v], []⟩ [("script", v)]) ∧ ∀ base : Heap, K.In base → base.Ns mainGlobals mg → (∃ mm, base.Ns sysModules mm) → GFn P w K mg base CX0 8 f fd ["script"] (spLaw K) := by
  obtain ⟨fd, FL0⟩ := c.def_ 0 (d := dM "law" sLaw) rfl
  have e := zfa.symm.trans (glo_ok X G (c.fact 0 (f := .glo "law") rfl))
  cases e
  have b := FunD.bindsA (ps := ["script"]) FL0 fun _ _ _ _ _ _ us hl => match us, hl with | [_], _ => rfl
  have FL : Fun K "law" "law" sLaw (ga K "law") fd := fun_of FL0
  refine ⟨fd, fun s v => b s [v] rfl, fun base KB _ SB => ?_⟩
  have T : Bn mg := ⟨(free_ok X G (c.fact 1 (f := .free "int") rfl)), (free_ok X G (c.fact 2 (f := .free "str") rfl)), (free_ok X G (c.fact 3 (f := .free "bool") rfl)), (free_ok X G (c.fact 4 (f := .free "len") rfl)), (free_ok X G (c.fact 5 (f := .free "range") rfl)), (free_ok X G (c.fact 6 (f := .free "max") rfl)), (free_ok X G (c.fact 7 (f := .free "min") rfl)), (free_ok X G (c.fact 8 (f := .free "isinstance") rfl)), (free_ok X G (c.fact 9 (f := .free "list") rfl)), (free_ok X G (c.fact 10 (f := .free "tuple") rfl)), (free_ok X G (c.fact 11 (f := .free "set") rfl)), (free_ok X G (c.fact 12 (f := .free "dict") rfl)), (free_ok X G (c.fact 13 (f := .free "repr") rfl)), (free_ok X G (c.fact 14 (f := .free "all") rfl)), (free_ok X G (c.fact 15 (f := .free "any") rfl)), (free_ok X G (c.fact 16 (f := .free "sorted") rfl)), (free_ok X G (c.fact 17 (f := .free "enumerate") rfl)), (free_ok X G (c.fact 18 (f := .free "zip") rfl)), (free_ok X G (c.fact 19 (f := .free "sum") rfl)), (free_ok X G (c.fact 20 (f := .free "reversed") rfl))⟩
  have M : Mc mg := ⟨(int_ok X G (c.fact 21 (f := .int "MOST_PLACES" 12) rfl)), (int_ok X G (c.fact 22 (f := .int "MOST_LETTERS" 8) rfl)), (str_ok X G (c.fact 23 (f := .str "LETTERS" "abcdefghijklmnopqrstuvwxyz") rfl))⟩
  obtain ⟨X_BadPlaces, n_BadPlaces⟩ := xclB_ok (x := "BadPlaces") (f := "value") (show (fun K => Ct.genB K) K = true from exs_at ce 0 rfl) (show (fun K => Ct.xclB K "BadPlaces" "value") K = true from exs_at ce 1 rfl)
  obtain ⟨fd_BadPlaces, F_BadPlaces⟩ := fun_at c 1 (C := "BadPlaces") (m := "__init__") (q := "BadPlaces.__init__") (st := sE_BadPlaces) rfl
  have E_BadPlaces : HasE P w K mg base 1 "BadPlaces" (ga K "BadPlaces") "value" := hE_BadPlaces (glo_ok X G (c.fact 24 (f := .glo "BadPlaces") rfl)) F_BadPlaces X_BadPlaces n_BadPlaces
  obtain ⟨X_BadTies, n_BadTies⟩ := xclB_ok (x := "BadTies") (f := "value") (show (fun K => Ct.genB K) K = true from exs_at ce 0 rfl) (show (fun K => Ct.xclB K "BadTies" "value") K = true from exs_at ce 2 rfl)
  obtain ⟨fd_BadTies, F_BadTies⟩ := fun_at c 2 (C := "BadTies") (m := "__init__") (q := "BadTies.__init__") (st := sE_BadTies) rfl
  have E_BadTies : HasE P w K mg base 1 "BadTies" (ga K "BadTies") "value" := hE_BadTies (glo_ok X G (c.fact 25 (f := .glo "BadTies") rfl)) F_BadTies X_BadTies n_BadTies
  obtain ⟨X_BadTie, n_BadTie⟩ := xclB_ok (x := "BadTie") (f := "position") (show (fun K => Ct.genB K) K = true from exs_at ce 0 rfl) (show (fun K => Ct.xclB K "BadTie" "position") K = true from exs_at ce 3 rfl)
  obtain ⟨fd_BadTie, F_BadTie⟩ := fun_at c 3 (C := "BadTie") (m := "__init__") (q := "BadTie.__init__") (st := sE_BadTie) rfl
  have E_BadTie : HasE P w K mg base 1 "BadTie" (ga K "BadTie") "position" := hE_BadTie (glo_ok X G (c.fact 26 (f := .glo "BadTie") rfl)) F_BadTie X_BadTie n_BadTie
  obtain ⟨X_NoPlace, n_NoPlace⟩ := xclB_ok (x := "NoPlace") (f := "value") (show (fun K => Ct.genB K) K = true from exs_at ce 0 rfl) (show (fun K => Ct.xclB K "NoPlace" "value") K = true from exs_at ce 4 rfl)
  obtain ⟨fd_NoPlace, F_NoPlace⟩ := fun_at c 4 (C := "NoPlace") (m := "__init__") (q := "NoPlace.__init__") (st := sE_NoPlace) rfl
  have E_NoPlace : HasE P w K mg base 1 "NoPlace" (ga K "NoPlace") "value" := hE_NoPlace (glo_ok X G (c.fact 27 (f := .glo "NoPlace") rfl)) F_NoPlace X_NoPlace n_NoPlace
  have c1 : Cls K (ga K "Web") := (cls_ok (c.fact 28 (f := .cls "Web") rfl))
  have WX : WC K (ga K "Web") := ⟨c1, (noat_ok (c.fact 29 (f := .noat "Web" "_places") rfl)), (noat_ok (c.fact 30 (f := .noat "Web" "_ties") rfl)), (noat_ok (c.fact 31 (f := .noat "Web" "_sights") rfl)), (noat_ok (c.fact 32 (f := .noat "Web" "_seen") rfl)), (noat_ok (c.fact 33 (f := .noat "Web" "_kept") rfl)), (noat_ok (c.fact 34 (f := .noat "Web" "_sorted_places") rfl)), (noat_ok (c.fact 35 (f := .noat "Web" "_sorted_pairs") rfl))⟩
  obtain ⟨g1, g2⟩ := ba (show (fun K => Ct.genB K) K = true from exs_at ce 0 rfl)
  obtain ⟨w1, w2⟩ := ba (show (fun K => Ct.clsB K "Web") K = true from exs_at ce 5 rfl)
  have I : WI K (ga K "Web") := ⟨eqO_ok w1, eqO_ok g1, of_decide_eq_true g2, of_decide_eq_true w2, of_decide_eq_true (show (fun K => Ct.isB K "Web" (.ref (He.ga K "Web")) true) K = true from exs_at ce 6 rfl)⟩
  obtain ⟨fd_places, FG_places⟩ := cg.at 0 (d := Ct.dG "Web" "places" "Web.places" sG_places) rfl
  have P_places : HasP P w K mg base 1 (ga K "Web") "places" (getSp (ga K "Web") "_places") := hP_places (prB_ok (show (fun K => Ct.prB K "Web" "places") K = true from exs_at ce 7 rfl)) FG_places c1 WX.n1
  obtain ⟨fd_ties, FG_ties⟩ := cg.at 1 (d := Ct.dG "Web" "ties" "Web.ties" sG_ties) rfl
  have P_ties : HasP P w K mg base 1 (ga K "Web") "ties" (getSp (ga K "Web") "_ties") := hP_ties (prB_ok (show (fun K => Ct.prB K "Web" "ties") K = true from exs_at ce 8 rfl)) FG_ties c1 WX.n2
  obtain ⟨d_named, F_named⟩ := fun_at c 5 (C := "Web") (m := "named") (q := "Web.named") (st := sNamed) rfl
  have B_named : Binds K d_named ["self", "number"] [] := F_named.binds fun _ _ _ _ _ _ us hl => match us, hl with | [_, _], _ => rfl
  have M_named := (meth_ok (c.fact 36 (f := .meth "Web" "named") rfl))
  obtain ⟨d_part_of, F_part_of⟩ := fun_at c 6 (C := "Web") (m := "_part_of") (q := "Web._part_of") (st := sPartOf) rfl
  have B_part_of : Binds K d_part_of ["self", "start"] [] := F_part_of.binds fun _ _ _ _ _ _ us hl => match us, hl with | [_, _], _ => rfl
  have M_part_of := (meth_ok (c.fact 37 (f := .meth "Web" "_part_of") rfl))
  obtain ⟨d_parts, F_parts⟩ := fun_at c 7 (C := "Web") (m := "parts") (q := "Web.parts") (st := sParts) rfl
  have B_parts : Binds K d_parts ["self"] [] := F_parts.binds fun _ _ _ _ _ _ us hl => match us, hl with | [_], _ => rfl
  have M_parts := (meth_ok (c.fact 38 (f := .meth "Web" "parts") rfl))
  obtain ⟨d_sees, F_sees⟩ := fun_at c 8 (C := "Web") (m := "sees") (q := "Web.sees") (st := sSees) rfl
  have B_sees : Binds K d_sees ["self", "place"] [] := F_sees.binds fun _ _ _ _ _ _ us hl => match us, hl with | [_, _], _ => rfl
  have M_sees := (meth_ok (c.fact 39 (f := .meth "Web" "sees") rfl))
  obtain ⟨d_tied, F_tied⟩ := fun_at c 9 (C := "Web") (m := "tied") (q := "Web.tied") (st := sTied) rfl
  have B_tied : Binds K d_tied ["self", "ties"] [] := F_tied.binds fun _ _ _ _ _ _ us hl => match us, hl with | [_, _], _ => rfl
  have M_tied := (meth_ok (c.fact 40 (f := .meth "Web" "tied") rfl))
  obtain ⟨d_without, F_without⟩ := fun_at c 10 (C := "Web") (m := "without") (q := "Web.without") (st := sWithout) rfl
  have B_without : Binds K d_without ["self", "places"] [] := F_without.binds fun _ _ _ _ _ _ us hl => match us, hl with | [_, _], _ => rfl
  have M_without := (meth_ok (c.fact 41 (f := .meth "Web" "without") rfl))
  obtain ⟨d_eq, F_eq⟩ := fun_at c 11 (C := "Web") (m := "__eq__") (q := "Web.__eq__") (st := sEqW) rfl
  have B_eq : Binds K d_eq ["self", "other"] [] := F_eq.binds fun _ _ _ _ _ _ us hl => match us, hl with | [_, _], _ => rfl
  have M_eq := (meth_ok (c.fact 42 (f := .meth "Web" "__eq__") rfl))
  obtain ⟨d_init, F_init0⟩ := c.def_ 12 (d := ⟨("Web", some "__init__"), "__init__", "Web.__init__", defArgs sInit, defBody sInit, defScope sInit, [.adr (He.dflAt ("Web", some "__init__") 0)], []⟩) rfl
  have F_init : FunD K "__init__" "Web.__init__" (defArgs sInit) (defBody sInit) (defScope sInit) [.ref (He.dflAt ("Web", some "__init__") 0 K)] [] (ma K (ga K "Web") "__init__") d_init := F_init0
  obtain ⟨ds1, V1, B1⟩ := FunD.binds1 (ps := ["self", "places", "ties"]) F_init 3 1 (by simp) rfl (fun _ _ _ _ _ _ _ us its hl h2 => match us, hl, its, h2 with | [_, _, _], _, [_], _ => ⟨fun _ => _, rfl, rfl⟩)
  obtain ⟨dv, V0, B0⟩ := FunD.binds1 (ps := ["self", "places", "ties"]) F_init 2 0 (by simp) rfl (fun _ _ _ _ _ _ _ us its hl h2 => match us, hl, its, h2 with | [_, _], _, [_], _ => ⟨_, rfl, rfl⟩)
  cases V1
  obtain ⟨o0, n0, l0, c0, s0⟩ := emptyB_ok (show (fun K => Ct.emptyB K (He.dflAt ("Web", some "__init__") 0 K)) K = true from exs_at ce 9 rfl)
  have MK := (mkr_ok (c.fact 43 (f := .mkr "Web") rfl))
  have L : Told K mg (ga K "BadPlaces") (ga K "BadTies") (ga K "BadTie") := ⟨(glo_ok X G (c.fact 24 (f := .glo "BadPlaces") rfl)), (glo_ok X G (c.fact 25 (f := .glo "BadTies") rfl)), (glo_ok X G (c.fact 26 (f := .glo "BadTie") rfl)), X_BadPlaces.xe, X_BadTies.xe, X_BadTie.xe, n_BadPlaces, n_BadTies, n_BadTie, (of_decide_eq_true (show (fun K => Ct.exmB K "BadPlaces" "BadPlaces" true) K = true from exs_at ce 10 rfl)), (of_decide_eq_true (show (fun K => Ct.exmB K "BadTies" "BadPlaces" false) K = true from exs_at ce 11 rfl)), (of_decide_eq_true (show (fun K => Ct.exmB K "BadTies" "BadTies" true) K = true from exs_at ce 12 rfl)), (of_decide_eq_true (show (fun K => Ct.exmB K "BadTie" "BadPlaces" false) K = true from exs_at ce 13 rfl)), (of_decide_eq_true (show (fun K => Ct.exmB K "BadTie" "BadTies" false) K = true from exs_at ce 14 rfl)), (of_decide_eq_true (show (fun K => Ct.exmB K "BadTie" "BadTie" true) K = true from exs_at ce 15 rfl))⟩
  exact law_all T
    M
    WX
    I
    (glo_ok X G (c.fact 44 (f := .glo "Web") rfl))
    SB
    L
    E_BadPlaces
    E_BadTies
    E_BadTie
    E_NoPlace
    P_places
    P_ties
    (dfe_of (nm := "is_name") (st := sIsName) (ps := ["value"]) X G c 13 45 rfl rfl fun _ _ _ _ _ _ us hl => match us, hl with | [_], _ => rfl)
    (dfe_of (nm := "_all_differ") (st := sAllDiffer) (ps := ["names"]) X G c 14 46 rfl rfl fun _ _ _ _ _ _ us hl => match us, hl with | [_], _ => rfl)
    (dfe_of (nm := "_is_tie") (st := sIsTie) (ps := ["places", "value"]) X G c 15 47 rfl rfl fun _ _ _ _ _ _ us hl => match us, hl with | [_, _], _ => rfl)
    (dfe_of (nm := "_pair") (st := sPair) (ps := ["tie"]) X G c 16 48 rfl rfl fun _ _ _ _ _ _ us hl => match us, hl with | [_], _ => rfl)
    (dfe_of (nm := "_check_places") (st := sCheckPlaces) (ps := ["places"]) X G c 17 49 rfl rfl fun _ _ _ _ _ _ us hl => match us, hl with | [_], _ => rfl)
    (dfe_of (nm := "_check_ties") (st := sCheckTies) (ps := ["places", "known", "ties"]) X G c 18 50 rfl rfl fun _ _ _ _ _ _ us hl => match us, hl with | [_, _, _], _ => rfl)
    (dfe_of (nm := "bits_of") (st := sBitsOf) (ps := ["number"]) X G c 19 51 rfl rfl fun _ _ _ _ _ _ us hl => match us, hl with | [_], _ => rfl)
    (dfe_of (nm := "_sights") (st := sSights) (ps := ["places", "ties"]) X G c 20 52 rfl rfl fun _ _ _ _ _ _ us hl => match us, hl with | [_, _], _ => rfl)
    (dfe_of (nm := "is_place") (st := sIsPlace) (ps := ["web", "value"]) X G c 21 53 rfl rfl fun _ _ _ _ _ _ us hl => match us, hl with | [_, _], _ => rfl)
    (dfe_of (nm := "check_place") (st := sCheckPlace) (ps := ["web", "value"]) X G c 22 54 rfl rfl fun _ _ _ _ _ _ us hl => match us, hl with | [_, _], _ => rfl)
    (dfe_of (nm := "are_places") (st := sArePlaces) (ps := ["web", "value"]) X G c 23 55 rfl rfl fun _ _ _ _ _ _ us hl => match us, hl with | [_, _], _ => rfl)
    (dfe_of (nm := "_law_source") (st := sSource) (ps := ["script", "start"]) X G c 24 56 rfl rfl fun _ _ _ _ _ _ us hl => match us, hl with | [_, _], _ => rfl)
    (dfe_of (nm := "_law_draw") (st := sDraw) (ps := ["source", "span"]) X G c 25 57 rfl rfl fun _ _ _ _ _ _ us hl => match us, hl with | [_, _], _ => rfl)
    (dfe_of (nm := "_law_mixed") (st := sLawMixed) (ps := ["source", "things"]) X G c 26 58 rfl rfl fun _ _ _ _ _ _ us hl => match us, hl with | [_, _], _ => rfl)
    (dfe_of (nm := "_law_pick") (st := sPick) (ps := ["source", "things"]) X G c 27 59 rfl rfl fun _ _ _ _ _ _ us hl => match us, hl with | [_, _], _ => rfl)
    (dfe_of (nm := "_law_word") (st := sLawWord) (ps := ["source"]) X G c 28 60 rfl rfl fun _ _ _ _ _ _ us hl => match us, hl with | [_], _ => rfl)
    (dfe_of (nm := "_law_names") (st := sLawNames) (ps := ["source", "many"]) X G c 29 61 rfl rfl fun _ _ _ _ _ _ us hl => match us, hl with | [_, _], _ => rfl)
    (dfe_of (nm := "_law_pairs") (st := sLawPairs) (ps := ["source", "many", "kind"]) X G c 30 62 rfl rfl fun _ _ _ _ _ _ us hl => match us, hl with | [_, _, _], _ => rfl)
    (dfe_of (nm := "_law_plan") (st := sLawPlan) (ps := ["source", "most"]) X G c 31 63 rfl rfl fun _ _ _ _ _ _ us hl => match us, hl with | [_, _], _ => rfl)
    (dfe_of (nm := "_law_is_name") (st := sLawIsName) (ps := ["thing"]) X G c 32 64 rfl rfl fun _ _ _ _ _ _ us hl => match us, hl with | [_], _ => rfl)
    (dfe_of (nm := "_law_is_tie") (st := sLawIsTie) (ps := ["thing", "places", "known"]) X G c 33 65 rfl rfl fun _ _ _ _ _ _ us hl => match us, hl with | [_, _, _], _ => rfl)
    (dfe_of (nm := "_law_due") (st := sLawDue) (ps := ["places", "ties"]) X G c 34 66 rfl rfl fun _ _ _ _ _ _ us hl => match us, hl with | [_, _], _ => rfl)
    (dfe_of (nm := "_law_told") (st := sLawTold) (ps := ["places", "ties"]) X G c 35 67 rfl rfl fun _ _ _ _ _ _ us hl => match us, hl with | [_, _], _ => rfl)
    (dfe_of (nm := "_law_put") (st := sLawPut) (ps := ["source", "things", "thing"]) X G c 36 68 rfl rfl fun _ _ _ _ _ _ us hl => match us, hl with | [_, _, _], _ => rfl)
    (dfe_of (nm := "_law_odd_name") (st := sLawOddName) (ps := ["source"]) X G c 37 69 rfl rfl fun _ _ _ _ _ _ us hl => match us, hl with | [_], _ => rfl)
    (dfe_of (nm := "_law_bent") (st := sLawBent) (ps := ["source"]) X G c 38 70 rfl rfl fun _ _ _ _ _ _ us hl => match us, hl with | [_], _ => rfl)
    (dfe_of (nm := "_law_stands") (st := sLawStands) (ps := ["web", "kept"]) X G c 39 71 rfl rfl fun _ _ _ _ _ _ us hl => match us, hl with | [_, _], _ => rfl)
    F_named
    B_named
    M_named
    F_part_of
    B_part_of
    M_part_of
    F_parts
    B_parts
    M_parts
    F_sees
    B_sees
    M_sees
    F_tied
    B_tied
    M_tied
    F_without
    B_without
    M_without
    F_eq
    B_eq
    M_eq.at_
    M_eq.fn
    F_init
    B1
    B0
    V0
    l0
    c0
    s0
    MK
    FL
end Pw
open PySem PySem.W PySem.Calls PyProof.Rows
set_option maxRecDepth 100000 in
set_option maxHeartbeats 0 in
theorem PySem.Challenge.cw_cornerturn_k01_webs_made_and_refused_holds : PySem.Challenge.rw_cornerturn_k01_webs_made_and_refused.Holds := by
  w_on; o_law
  refine HandSHeadRun.head_any (r := OpenLaw.row PySem.Challenge.rw_cornerturn_k01_webs_made_and_refused) (q := view (OpenLaw.row PySem.Challenge.rw_cornerturn_k01_webs_made_and_refused).prog [41]) (H := Pw.hk) (ob := Pw.hob) (M := 12000) (loose := Pw.hnames) (d := HandSHeadRun.topDef (OpenLaw.row PySem.Challenge.rw_cornerturn_k01_webs_made_and_refused).prog 41) (kwd := []) Pw.hob_eq
    (by kernel_rfl) (fun s => by kernel_rfl) Pw.hrun (by kernel_rfl) (by kernel_rfl) (by kernel_rfl) (by rfl) (by first | assumption | decide +kernel) (by decide +kernel) ⟨rfl, rfl, rfl, rfl, rfl, by decide +kernel⟩ ?hw ?hc
  case hw => w_witness2
  case hc =>
    refine Ct.walk_gE (l := PySem.Challenge.rw_cornerturn_k01_webs_made_and_refused) (n := 63) (k := 8) (x := "script") (CX := L2.CX0) rfl (by decide +kernel) (by decide) (by kernel_rfl) ⟨rfl, by decide, by decide⟩ ?F (fun _ _ _ _ z => z)
    intro w mg fa h Y G hmg0
    obtain ⟨K, KX, c, cg, ce⟩ := Y
    have hmg : mg ("law" : PySem.Str) = some (.ref fa) := by
      have e : (HandSHeadRun.topDef (OpenLaw.row PySem.Challenge.rw_cornerturn_k01_webs_made_and_refused).prog 41).name = ("law" : PySem.Str) := by kernel_rfl
      rw [← e]
      exact hmg0
    obtain ⟨fd, hb, hF⟩ := Pw.facts (P := (PySem.Challenge.rw_cornerturn_k01_webs_made_and_refused).prog) (w := w) KX G hmg c cg ce
    exact ⟨K, fd, Pw.spLaw K, KX, hb, fun H a ns hl hz on hS => ⟨a, ns, rfl, on, hS, hl, hz, fun _ => rfl⟩, hF⟩
#print axioms PySem.Challenge.cw_cornerturn_k01_webs_made_and_refused_holds
