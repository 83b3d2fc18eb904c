import PyProof.Rows.All
import Wide.All
import OpenK.AllK
import Wide.FinOn
import PyProof.ReprRoads
import HandS.ForExc
import HandS.ForMost
import HandS.EndBits
import HandS.Wide
import HandS.ExcInit
import HandS.IsInst
import HandS.ExcIs
import KE.KExcIs
import HandS.Defaults
import HandS.Comp
import PySem.Challenge.RW_cornerturn_k61_errors_by_hand
set_option Elab.async false
set_option linter.all false
set_option maxRecDepth 100000
set_option maxHeartbeats 2000000
/-! Own kit A: defs whose promise leans on there being no guard on the stack (repr); the end of a law with such a def. -/
namespace Ct
open PySem PySem.Spec PyProof.Rows L2
/-- a def's promise where no guard stands on the stack -/
structure GFn (P : Program) (w : World) (K : PySem.W.Frag) (mg : Str → Option Value) (base : Heap) (CX : CXT) (k : Nat) (f : Addr) (fd : FuncData) (ps : List Str) (sp : Sp) : Prop where
  len : ∀ vs H Q E, sp vs H Q E → vs.length = ps.length
  run : ∀ (A : Around) (o : List Env) (s : Shared) (H : Hp) (ar : Args) (us : List Value) (vs : List V) (Q : VK) (E : XK), A.guards = some [] → Room k A → Env0 P w K mg base A o s H →
    BindsTo s fd ar (ps.zip us) → Vals vs us → sp vs H Q E → codeAny (model P w) A (.call (.ref f) ar) (CR CX o P w H s Q E) s
theorem GFn.of {P : Program} {w : World} {K : PySem.W.Frag} {mg : Str → Option Value} {base : Heap} {CX : CXT} {k : Nat} {f : Addr} {fd : FuncData} {ps : List Str} {sp : Sp}
    (F : FnOk P w K mg base CX k f fd ps sp) : GFn P w K mg base CX k f fd ps sp := ⟨F.len, fun A o s H ar us vs Q E _ => F.run A o s H ar us vs Q E⟩
theorem GFn.mono {P : Program} {w : World} {K : PySem.W.Frag} {mg : Str → Option Value} {base : Heap} {CX : CXT} {j k : Nat} {f : Addr} {fd : FuncData} {ps : List Str} {sp : Sp}
    (F : GFn P w K mg base CX j f fd ps sp) (h : j ≤ k) : GFn P w K mg base CX k f fd ps sp := ⟨F.len, fun A o s H ar us vs Q E g r => F.run A o s H ar us vs Q E g (r.mono h)⟩
section
variable {P : Program} {w : World} {K : PySem.W.Frag} {mg : Str → Option Value} {base : Heap} {CX : CXT}
/-- the rule for such a def -/
theorem gfn_of {x qual : Str} {st : Stmt} {f : Addr} {fd : FuncData} {N ps : List Str} {k : Nat} {sp : Sp} (F : Fun K x qual st f fd) (S : FnScope N ps (defScope st)) (len : ∀ vs H Q E, sp vs H Q E → vs.length = ps.length)
    (body : ∀ (cdv : Value) (A : Around) (o : List Env) (s : Shared) (H : Hp) (vs : List V) (Q : VK) (E : XK), A.guards = some [] → Room k (A.deeper (envOfC qual (defScope st) s.heap.objs.size f cdv)) → sp vs H Q E →
      ∃ t, PSs (cxOf CX P w K mg base N qual (defScope st) f cdv A o s H E) (defBody st) t ∧ t { nx := fun _ H' => Q .non H', rt := Q } (start N vs) H) : GFn P w K mg base CX (k + 1) f fd ps sp := by
  obtain ⟨oc, od, kV, doc, pm, an, cdv, ct, osl, rfl, lk, hcd⟩ := F.ex
  refine ⟨len, ?_⟩
  intro A o s H ar us vs Q E g hr e0 hb rel hsp
  have kb : ∀ b u, base.get? b = some u → s.heap.get? b = some u := fun b u e => (e0.bs b u e).1
  have KX := e0.mod.kin.keeps kb
  have lim := e0.mod.nolimit.keeps kb
  refine codeAny_call_function hr.depth (KX _ _ lk) rfl S.co S.gen rfl (PySem.W.codeRec_of KX hcd) (hb _ _ _ _ ?_)
  refine wpAny_newFunctionEnv_cells S.kind (fun ⟨n, v⟩ hy => ?_) fun env he s1 ic => ?_
  · cases S.par n (List.of_mem_zip hy).1 with
    | inl q => exact Or.inl q
    | inr q => exact Or.inr ⟨q, PySem.W.cellsFrom_some _ _ _ (Or.inl q)⟩
  cases he
  refine ⟨lim.keeps ic.toInCall.keep, codeAny_func ?_⟩
  obtain ⟨t, ht, hq⟩ := body cdv A o s H vs Q E g (hr.deeper _) hsp
  have I := inv_start (CX := CX) (P := P) (w := w) (K := K) (mg := mg) (base := base) (E := E) S hr.hd e0 (len _ _ _ _ hsp) rel ic
  refine wpAny_mono (ht.run [] s1 (start N vs) H _ I hq) ?_ (fun e s' z => z)
  intro fl s' z
  cases fl with
  | ret u => obtain ⟨v, σ', H', J, rv, q⟩ := z; exact ⟨v, H', J.os, J.bare, J.base, J.hok, rv, q⟩
  | next => obtain ⟨σ', H', J, q⟩ := z; exact ⟨.non, H', J.os, J.bare, J.base, J.hok, rfl, q⟩
  | brk => obtain ⟨_, _, _, q⟩ := z; exact q.elim
  | cont => obtain ⟨_, _, _, q⟩ := z; exact q.elim
end
section
variable {X : Cx} {CX : CXT} {k : Nat} {f : Addr} {fd : FuncData} {ps : List Str} {sp : Sp} {dvs : List V} {ds : List Value} {E : XK} {x : Str} {p pos : Pos} {e : Expr} {es : List Expr} {t : TA}
theorem run_g {pins : List (Addr × Obj)} {σ : L2.St} {H : Hp} {s : Shared} {Q : VK} {us : List Value} {vs : List V} (F : GFn X.prog X.w X.K X.mg X.base CX k f fd ps sp) (g : X.A.guards = some []) (hr : Room k X.A) (hb : Binds X.K fd ps ds) (hd : Vals dvs ds)
    (hx : Passes CX X E) (I : Inv X pins σ H s) (r : Vals vs us) (h : sp (vs ++ dvs) H Q E) : wpAny (model X.prog X.w) X.A (call (.ref f) us) (EP X pins σ Q) X.xe s := by
  have r2 := r.append hd
  refine wpAny_call (codeAny_mono (F.run X.A X.stack s H ⟨us, []⟩ (us ++ ds) (vs ++ dvs) Q E g hr I.env0 (hb s us I.kIn (by rw [← r2.length]; exact F.len _ _ _ _ h)) r2 h) ?_)
  intro r s' z
  match r, z with
  | .error e, z => exact hx pins σ H s e s' I z
  | .ok (.ret u), z => exact I.after z
  | .ok .next, z => exact False.elim z
  | .ok .brk, z => exact False.elim z
  | .ok .cont, z => exact False.elim z
/-- a call of such a def -/
theorem pe_callG (F : GFn X.prog X.w X.K X.mg X.base CX k f fd ps sp) (g : X.A.guards = some []) (hr : Room k X.A) (hg : Gl X x) (hm : X.mg x = some (.ref f)) (hk : PySem.W.keepIn X.K (.ref f) = true) (hb : Binds X.K fd ps ds) (hd : Vals dvs ds) (hx : Passes CX X E)
    (ha : PA X (e :: es) t) (hdb : (x == ("__debug__" : Str)) = false := by decide) (he : starEach (e :: es) X.env = (false, eval e X.env) :: starEach es X.env := by rfl) (hpl : (backTo pos (starEach es X.env)).any (·.1) = false := by rfl) :
    PE X (.Call (.Name x p) (e :: es) [] pos) (tCall sp dvs E t) := by
  constructor
  intro pins s σ H Q I h
  refine wpAny_Call_Name_kw (ld_glob I hg hm ?_ hdb)
  refine PySem.W.callWith_K (h₀ := X.base) I.ok.mod.kin hk (thn (ha.run pos pins s σ H _ I h) ?_) he hpl
  rintro us s1 ⟨vs, H1, I1, r, q⟩
  exact ⟨I1.kIn, run_g F g hr hb hd hx I1 r q⟩
end
/-! the law's own end -/
/-- the abstract heap that tracks the script alone -/
def hpS (a : Addr) (vs : List Value) (ns : List Int) : Hp := fun b => if b = a then some (.frz { cls := .type "list", data := .seq vs.toArray } (.lst (ns.map V.int))) else none
theorem end_g {P : Program} {w : World} {K : PySem.W.Frag} {mg mb : Str → Option Value} {CX : CXT} {k : Nat} {fa a : Addr} {fd : FuncData} {x : Str} {sp : Sp} {s1 : Shared} {vs : List Value} {ns : List Int}
    (KX : K.In s1.heap) (hns : s1.heap.Ns mainGlobals mg) (hb : s1.heap.Ns builtinsNs mb) (hbb : ∀ x : Str, x ≠ "__name__" → mb x = bootBuiltins x) (hlim : s1.heap.NoLimit) (hg : s1.gens = #[])
    (ha : s1.heap.get? a = some { cls := .type "list", data := .seq vs.toArray }) (hi : IntsAre vs ns) (hl : ns.length ≤ sizeLine) (hr : Room k callerA)
    (hmods : ∃ mm, s1.heap.Ns sysModules mm) (F : ∀ base : Heap, K.In base → base.Ns mainGlobals mg → (∃ mm, base.Ns sysModules mm) → GFn P w K mg base CX k fa fd [x] sp) (hbind : ∀ (s : Shared) (u : Value), BindsTo s fd ⟨[u], []⟩ [(x, u)])
    (hsp : ∀ H : Hp, Only H → SqL K H a (ns.map V.int) → sp [.ref a] H (fun v _ => v = .bl true) fun _ _ _ => False)
    (hCX : ∀ H e s', CX [] H s1 (fun _ _ _ => False) e s' → False) :
    codeAny (model P w) callerA (.call (.ref fa) ⟨[.ref a], []⟩) (fun r s' => r = .ok (.ret (.bool true)) ∧ OldK s1.heap s'.heap ∧ s'.os = s1.os ∧ AllBare s'.gens) s1 := by
  have rv := vals_ints hi
  have main : ∀ H : Hp, Only H → SqL K H a (ns.map V.int) → HOk P w H s1.heap → (∀ b, b ≠ a → H b = none) → (∀ o, K.lookup a = some o → H a = none) →
      codeAny (model P w) callerA (.call (.ref fa) ⟨[.ref a], []⟩) (fun r s' => r = .ok (.ret (.bool true)) ∧ OldK s1.heap s'.heap ∧ s'.os = s1.os ∧ AllBare s'.gens) s1 := by
    intro H only seq hok off hK
    -- what is no list of the script's stands in the base
    have inB : ∀ {b : Addr} {o : Obj} {es : Array DictEntry} {ep : Nat}, s1.heap.get? b = some o → o.data = .dict es ep → H b = none := by
      intro b o es ep e d
      by_cases hba : b = a
      · rw [hba, ha] at e
        cases e
        cases d
      · exact off b hba
    have nsB : ∀ {b : Addr} {m : Str → Option Value}, s1.heap.Ns b m → (hidT s1.heap H).Ns b m := by
      rintro b m ⟨o, es, ep, e, d, r⟩
      exact ⟨o, es, ep, hidT_get e (inB e d), d, r⟩
    have KB : K.In (hidT s1.heap H) := by
      intro b o e
      refine hidT_get (KX b o e) ?_
      by_cases hba : b = a
      · rw [hba] at e ⊢
        exact hK o e
      · exact off b hba
    have lim : (hidT s1.heap H).NoLimit := by
      obtain ⟨mc, h1, h2⟩ := hlim
      exact ⟨mc, nsB h1, h2⟩
    have e0 : Env0 P w K mg (hidT s1.heap H) callerA [] s1 H :=
      { frames := rfl, mod := ⟨KB, nsB hns, ⟨mb, nsB hb, hbb⟩, lim⟩, bs := fun b o e => of_hidT e, bsz := Nat.le_of_eq (hidT_size _ _), funs := trivial, frf := (fun b z => nomatch z), hok := hok, bare := .of_eq hg }
    refine codeAny_mono ((F _ KB (nsB hns) (hmods.imp fun _ z => nsB z)).run callerA [] s1 H ⟨[.ref a], []⟩ [.ref a] [.ref a] _ _ rfl hr e0 (hbind s1 (.ref a)) (.cons rfl .nil) (hsp H only seq)) ?_
    intro r s' z
    match r, z with
    | .error e, z => exact (hCX H e s' z).elim
    | .ok .next, z => exact False.elim z
    | .ok .brk, z => exact False.elim z
    | .ok .cont, z => exact False.elim z
    | .ok (.ret u), z =>
      obtain ⟨v, H', os, bare, un, hok', ru, qv⟩ := z
      cases (show v = V.bl true from qv)
      cases (show u = Value.bool true from ru)
      refine ⟨rfl, OldK.of_keep ?_, os, bare⟩
      intro b o e
      cases q : H b with
      | none => exact un.keep b o e q (fun z => (nomatch z)) (fun z => (nomatch z))
      | some u =>
        cases only b with
        | inl z => rw [q] at z; cases z
        | inr z =>
          obtain ⟨ob, xs, z⟩ := z
          have h1 := (hok b _ z).1
          have h2 := (hok' b _ (un.frzs b ob _ z)).1
          rw [e] at h1
          cases h1
          exact h2
  cases hk : K.lookup a with
  | some o =>
    have e := KX a o hk
    rw [ha] at e
    cases e
    exact main (fun _ => none) (fun _ => Or.inl rfl) (Or.inr ⟨_, vs.toArray, _, hk, rfl, rfl, rfl, by rw [List.size_toArray, hi.length]; exact hl, by simpa using rv⟩) (fun b u z => nomatch z) (fun b _ => rfl) (fun _ _ => rfl)
  | none =>
    have at_a : hpS a vs ns a = some (.frz { cls := .type "list", data := .seq vs.toArray } (.lst (ns.map V.int))) := if_pos rfl
    have off_a : ∀ b, b ≠ a → hpS a vs ns b = none := fun b z => if_neg z
    refine main (hpS a vs ns) (fun b => ?_) (Or.inl (Or.inr ⟨_, at_a⟩)) (fun b u z => ?_) off_a (fun o z => ?_)
    · by_cases hba : b = a
      · exact Or.inr ⟨_, _, by rw [hba]; exact at_a⟩
      · exact Or.inl (off_a b hba)
    · by_cases hba : b = a
      · rw [hba] at z ⊢
        rw [at_a] at z
        cases z
        exact ⟨ha, by rw [List.length_map]; exact hl, vs, _, rv, ha⟩
      · rw [off_a b hba] at z
        cases z
    · rw [hk] at z
      cases z
/-- the goal that k_head leaves, from the promise of a law's def that leans on no guard; the script's bits are told -/
theorem walk_g {l : PySem.W.OpenLaw} {n k : Nat} {q : Program} {loose : List Str} {XP : (Str → Option Value) → Heap → Prop} {YP : World → Heap → Prop} {d : DefRec} {K : Params → PySem.W.Frag} {CX : World → CXT} {sp : World → Sp} {x : Str}
    (hn : l.most = some n) (hq : importsNone q = true) (hn2 : n ≤ sizeLine) (hdf : d.params.defaults = []) (hr : Room k callerA) (hY : ∀ (w : World) (h : Heap), YP w h → (K w.params).In h)
    (F : ∀ (w : World) (mg : Str → Option Value) (fa : Addr) (h : Heap), (K w.params).In h → h.Ns mainGlobals mg → mg d.name = some (.ref fa) →
      ∃ fd : FuncData, (∀ (s : Shared) (u : Value), BindsTo s fd ⟨[u], []⟩ [(x, u)]) ∧ ∀ base : Heap, (K w.params).In base → base.Ns mainGlobals mg → (∃ mm, base.Ns sysModules mm) → GFn l.prog w (K w.params) mg base (CX w) k fa fd [x] (sp w))
    (hsp : ∀ (w : World) (H : Hp) (a : Addr) (ns : List Int), ns.length ≤ n → (∀ z ∈ ns, Builtin.Int.intBits z ≤ 1048576) → Only H → SqL (K w.params) H a (ns.map V.int) → sp w [.ref a] H (fun v _ => v = .bl true) fun _ _ _ => False)
    (hCX : ∀ (w : World) (H : Hp) (s : Shared) (e : Value) (s' : Shared), CX w [] H s (fun _ _ _ => False) e s' → False) :
    PySem.W.WalkO q loose XP YP l.row.toRowW d [] (fun f vs => PySem.call f vs) := by
  refine Att.attach_callB hn hdf ?_
  intro w s0 s1 mg mb fa o pm cd doc a vs ns G Y _ _ _ hmg hobj hints hlen hbits hg
  obtain ⟨fd, hb, hF⟩ := F w mg fa _ (hY w _ Y) G.T.g hmg
  exact end_g (hY w _ Y) G.T.g G.T.b G.T.builtins G.T.nolimit hg hobj hints (Nat.le_trans hlen hn2) hr ((G.T.seer hq).mods.imp fun _ z => z.1) hF hb (fun H h1 h2 => hsp w H a ns hlen hbits h1 h2) (fun H e s' => hCX w H s1 e s')
/-- the same where the promise hangs on the written part alone -/
theorem walk_gK {l : PySem.W.OpenLaw} {n k : Nat} {q : Program} {loose : List Str} {XP : (Str → Option Value) → Heap → Prop} {YP : World → Heap → Prop} {d : DefRec} {K : Params → PySem.W.Frag} {CX : CXT} {sp : PySem.W.Frag → Sp} {x : Str}
    (hn : l.most = some n) (hq : importsNone q = true) (hn2 : n ≤ sizeLine) (hdf : d.params.defaults = []) (hr : Room k callerA) (hY : ∀ (w : World) (h : Heap), YP w h → (K w.params).In h)
    (F : ∀ (w : World) (mg : Str → Option Value) (fa : Addr) (h : Heap), (K w.params).In h → h.Ns mainGlobals mg → mg d.name = some (.ref fa) →
      ∃ fd : FuncData, (∀ (s : Shared) (u : Value), BindsTo s fd ⟨[u], []⟩ [(x, u)]) ∧ ∀ base : Heap, (K w.params).In base → base.Ns mainGlobals mg → (∃ mm, base.Ns sysModules mm) → GFn l.prog w (K w.params) mg base CX k fa fd [x] (sp (K w.params)))
    (hsp : ∀ (K : PySem.W.Frag) (H : Hp) (a : Addr) (ns : List Int), ns.length ≤ n → (∀ z ∈ ns, Builtin.Int.intBits z ≤ 1048576) → Only H → SqL K H a (ns.map V.int) → sp K [.ref a] H (fun v _ => v = .bl true) fun _ _ _ => False)
    (hCX : ∀ (H : Hp) (s : Shared) (e : Value) (s' : Shared), CX [] H s (fun _ _ _ => False) e s' → False) :
    PySem.W.WalkO q loose XP YP l.row.toRowW d [] (fun f vs => PySem.call f vs) :=
  walk_g (K := K) (CX := fun _ => CX) (sp := fun w => sp (K w.params)) hn hq hn2 hdf hr hY F (fun w H a ns h1 h2 h3 h4 => hsp (K w.params) H a ns h1 h2 h3 h4) fun _ H s e s' => hCX H s e s'
end Ct

set_option Elab.async false
set_option linter.all false
set_option maxRecDepth 100000
set_option maxHeartbeats 2000000
/-! Own kit B: data of any depth with dicts, read off the abstract heap; repr; great powers. -/
namespace Ct
open PySem PySem.Spec L2
def keyD : Key → PyData
  | .inl i => .int i
  | .inr x => .str x
mutual
/-- the value v is the datum d (lists, tuples, dicts with ints and texts or tuples of such as keys) -/
inductive Dq (K : PySem.W.Frag) (H : Hp) : V → PyData → Prop
  | non : Dq K H .non .none
  | bl (b : Bool) : Dq K H (.bl b) (.bool b)
  | int (i : Int) : Dq K H (.int i) (.int i)
  | str (x : Str) : Dq K H (.str x) (.str x)
  | lst {a : Addr} {xs : List V} {ds : List PyData} : SqL K H a xs → DqAll K H xs ds → Dq K H (.ref a) (.list ds)
  | tup {a : Addr} {xs : List V} {ds : List PyData} : SqT K H a xs → DqAll K H xs ds → Dq K H (.ref a) (.tuple ds)
  | dic {a : Addr} {kvs : List (Key × V)} {vs : List PyData} {ps : List (PyData × PyData)} : Rd H a (.dK kvs) → ps.map (·.1) = kvs.map (fun p => keyD p.1) → vs = ps.map (·.2) → DqAll K H (kvs.map (·.2)) vs → Dq K H (.ref a) (.dict ps)
  | dicT {a : Addr} {kvs : List (List Key × V)} {vs : List PyData} {ps : List (PyData × PyData)} : Rd H a (.dT kvs) → ps.map (·.1) = kvs.map (fun p => .tuple (p.1.map keyD)) → vs = ps.map (·.2) → DqAll K H (kvs.map (·.2)) vs → Dq K H (.ref a) (.dict ps)
inductive DqAll (K : PySem.W.Frag) (H : Hp) : List V → List PyData → Prop
  | nil : DqAll K H [] []
  | cons {v : V} {vs : List V} {d : PyData} {ds : List PyData} : Dq K H v d → DqAll K H vs ds → DqAll K H (v :: vs) (d :: ds)
end
section
variable {X : Cx} {pins : List (Addr × Obj)} {σ : L2.St} {H : Hp} {s : Shared}
theorem reads_key {h : Heap} : ∀ {k : Key} {u : Value}, RelV (kV k) u → Reads h u (keyD k) []
  | .inl i, u, r => by obtain ⟨t, rfl⟩ := r; exact .int i t
  | .inr x, u, r => by obtain ⟨t, rfl⟩ := r; exact .str x t
theorem reads_keys {h : Heap} : ∀ {ks : List Key} {us : List Value}, Vals (ks.map kV) us → ReadsAll h us (ks.map keyD) []
  | [], _, .nil => .nil
  | _ :: _, _, .cons r t => .cons (reads_key r) (reads_keys t)
theorem readsAll_cons0 {h : Heap} {v : Value} {vs : List Value} {d : PyData} {ds : List PyData} (a : Reads h v d []) (b : ReadsAll h vs ds []) : ReadsAll h (v :: vs) (d :: ds) [] := .cons a b
/-- the keys of a dict whose keys are ints and texts; its values -/
theorem kv_keys {prog : Program} {w : World} {h : Heap} : ∀ {kvs : List (Key × V)} {vs : List (Key × Value)} {es : List DictEntry}, KV kvs vs → Pairs (mixKind prog w) es vs →
    ReadsAll h (es.map (·.key)) (kvs.map fun p => keyD p.1) [] ∧ Vals (kvs.map (·.2)) (es.map (·.val))
  | [], _, _, .nil, .nil => ⟨.nil, .nil⟩
  | _ :: _, _, _, .cons r t, .cons e3 e4 u => by
    obtain ⟨h1, h2⟩ := kv_keys (h := h) t u
    obtain ⟨e1, e2⟩ := r
    have e3 := (mixKind_is prog w _ _).symm.trans e3
    refine ⟨readsAll_cons0 ?_ h1, .cons ?_ h2⟩
    · rcases keyIs_shape e3 with ⟨i, tk, z1, z2⟩ | ⟨x, tk, z1, z2⟩
      · dsimp only; rw [z2, e1, z1]; exact .int i tk
      · dsimp only; rw [z2, e1, z1]; exact .str x tk
    · dsimp only; rw [e4]; exact e2
/-- the start-up's table of modules stands in the base -/
def SysB (base : Heap) : Prop := ∃ mm, base.Ns sysModules mm
theorem sys_free (I : Inv X pins σ H s) (S : SysB X.base) {a : Addr} {o : HO} (e : H a = some o) : a ≠ sysModules := by
  obtain ⟨mm, ob, es, ep, h1, _⟩ := S
  intro z
  rw [z, (I.bs _ _ h1).2] at e
  cases e
theorem sys_seq (I : Inv X pins σ H s) (S : SysB X.base) {a : Addr} {o : Obj} {its : Array Value} {n : Nat} (e : s.heap.get? a = some o) (d : o.data = .seq its n) : a ≠ sysModules := by
  obtain ⟨mm, ob, es, ep, h1, h2, _⟩ := S
  intro z
  rw [z, I.bk _ _ h1] at e
  cases e
  rw [h2] at d
  cases d
theorem keysT {Hh : Hp} (hok : HOk X.prog X.w H s.heap) : ∀ {kvs : List (List Key × V)} {xs : List (List Key × Addr × Value)},
    Paired (fun (p : List Key × V) (q : List Key × Addr × Value) => p.1 = q.1 ∧ H q.2.1 = some (.tup (p.1.map kV)) ∧ RelV p.2 q.2.2) kvs xs →
    ReadsAll s.heap ((xs.map (entryOfKey (tupleKind (mixKind X.prog X.w)))).map (·.key)) (kvs.map fun p => .tuple (p.1.map keyD)) [] ∧ Vals (kvs.map (·.2)) ((xs.map (entryOfKey (tupleKind (mixKind X.prog X.w)))).map (·.val))
  | [], _, .nil => ⟨.nil, .nil⟩
  | _ :: _, _, .cons r t => by
    obtain ⟨h1, h2⟩ := keysT (Hh := Hh) hok t
    obtain ⟨e1, e2, e3⟩ := r
    obtain ⟨_, its, rv, o, ho, hc, n, hd⟩ := hok _ _ e2
    exact ⟨readsAll_cons0 (.tuple ho hc hd (by simpa using reads_keys rv)) h1, .cons e3 h2⟩
mutual
theorem Dq.reads (I : Inv X pins σ H s) (S : SysB X.base) : ∀ {v : V} {d : PyData} {u : Value}, Dq X.K H v d → RelV v u → ∃ as, Reads s.heap u d as ∧ sysModules ∉ as
  | _, _, _, .non, r => by cases r; exact ⟨_, .none, by simp⟩
  | _, _, _, .bl b, r => by cases r; exact ⟨_, .bool b, by simp⟩
  | _, _, _, .int i, r => by obtain ⟨t, rfl⟩ := r; exact ⟨_, .int i t, by simp⟩
  | _, _, _, .str x, r => by obtain ⟨t, rfl⟩ := r; exact ⟨_, .str x t, by simp⟩
  | _, _, _, .lst hs ha, r => by
    cases r
    obtain ⟨its, rv, ⟨o, n, ho, hc, _, hd⟩, _⟩ := I.list hs
    obtain ⟨as, hr, hn⟩ := DqAll.reads I S ha rv
    exact ⟨_, .list ho hc hd hr, fun z => (List.mem_cons.mp z).elim (fun e => sys_seq I S ho hd e.symm) hn⟩
  | _, _, _, .tup hs ha, r => by
    cases r
    obtain ⟨its, rv, ⟨o, ho, hc, n, hd⟩, _⟩ := I.tuple hs
    obtain ⟨as, hr, hn⟩ := DqAll.reads I S ha rv
    exact ⟨_, .tuple ho hc hd hr, hn⟩
  | _, _, _, .dic hs hk hv ha, r => by
    cases r
    obtain ⟨_, hy, vs, rkv, o, es, ep, ho, hx, hd, _, hp, _⟩ := hs.ok I.hok
    obtain ⟨h1, h2⟩ := kv_keys (h := s.heap) rkv hp
    obtain ⟨as, hr, hn⟩ := DqAll.reads I S ha h2
    subst hv
    refine ⟨_, .dict ho hx.1 hd (by rw [hk]; exact h1) hr, fun z => ?_⟩
    rcases List.mem_cons.mp z with e | z
    · exact (beq_eq_false_iff_ne.mp hy) e.symm
    · exact hn (by simpa using z)
  | _, _, _, .dicT hs hk hv ha, r => by
    cases r
    obtain ⟨_, hy, xs, rp, o, es, ep, ho, hx, hd, he, _⟩ := hs.ok I.hok
    obtain ⟨h1, h2⟩ := keysT (Hh := H) I.hok rp
    rw [← he] at h1 h2
    obtain ⟨as, hr, hn⟩ := DqAll.reads I S ha h2
    subst hv
    refine ⟨_, .dict ho hx.1 hd (by rw [hk]; exact h1) hr, fun z => ?_⟩
    rcases List.mem_cons.mp z with e | z
    · exact (beq_eq_false_iff_ne.mp hy) e.symm
    · exact hn (by simpa using z)
theorem DqAll.reads (I : Inv X pins σ H s) (S : SysB X.base) : ∀ {vs : List V} {ds : List PyData} {us : List Value}, DqAll X.K H vs ds → Vals vs us → ∃ as, ReadsAll s.heap us ds as ∧ sysModules ∉ as
  | _, _, _, .nil, .nil => ⟨_, .nil, by simp⟩
  | _, _, _, .cons h1 h2, .cons r1 r2 => by
    obtain ⟨as, q1, n1⟩ := Dq.reads I S h1 r1
    obtain ⟨bs, q2, n2⟩ := DqAll.reads I S h2 r2
    exact ⟨_, .cons q1 q2, fun z => (List.mem_append.mp z).elim n1 n2⟩
end
end
/-- repr of a datum that stands at an address -/
def rRep (K : PySem.W.Frag) : List V → Hp → VK → Prop := fun xs H Q => ∃ (a : Addr) (d : PyData), xs = [.ref a] ∧ Dq K H (.ref a) d ∧ d.showable = true ∧ d.depth ≤ 60 ∧ d.shown.length ≤ sizeLine ∧ Q (.str d.shown) H
theorem call_rep {X : Cx} (g : X.A.guards = some []) (S : SysB X.base) (hu : X.A.units + 64 < cLine) : CallR X (.builtin "repr") (rRep X.K) := by
  intro pins s σ H xs us Q I r h
  obtain ⟨a, d, rfl, hd, hs, hp, hz, q⟩ := h
  obtain ⟨u, rfl, ru⟩ := vals1 r
  cases (show u = Value.ref a from ru)
  obtain ⟨as, hr, hn⟩ := Dq.reads I S hd rfl
  refine repr_of_reads' hr hs (fun _ => hn) g (by omega) (fun _ _ e => e) (fun h' u tk k => ?_) hz
  exact ⟨.str d.shown, H, I.kept k, ⟨_, rfl⟩, q⟩
/-- a power of a great int, the exponent written -/
def CPowW (i j : Int) : Prop := 0 ≤ j ∧ (Builtin.Int.intBits i : Int) * j ≤ 2 ^ 27
theorem op_powW {X : Cx} : OpR X (binaryOp .Pow) (rI CPowW fun i j => .int (i ^ j.toNat)) := opI fun _ _ _ _ _ _ _ hc q => PyProof.Rows.pow_int hc.1 hc.2 q
end Ct

set_option Elab.async false
set_option linter.all false
set_option maxRecDepth 100000
set_option maxHeartbeats 4000000
/-! Own kit C: exceptions of own classes (an __init__ of their own) as values: made by place and by name, their fields read, isinstance. -/
namespace PySem
namespace CtX
open PySem.W PySem.Calls PyProof.Rows PySem.HandSPX
section
variable {M : Model} {A : Around} {E : Value → Shared → Prop} {h : Heap} {g : Array GenState} {d : Drawn} {t : Nat} {os : OsState}
variable {nm q : Str} {C N : Addr} {bs bm bmB : List Value} {hdct : Bool} {sn : List Str} {sub : List Value} {ab : Bool} {col : Option Bool} {dd : Option Addr} {k0 k1 k2 k3 k5 : Option Value} {B newId initId : String} {kw : List (Str × Value)}
theorem kw_new_check (F : ExcBaseFacts B newId initId bmB) (hT : ∀ X : String, bm.contains (.type X) = bmB.contains (.type X)) {Q : Unit → Shared → Prop}
    (hC : h.get? C = some (excClassObj nm q C N bs bm hdct sn sub ab col dd k0 k1 k2 k3 k5 newId)) (hq : Q () ⟨h, g, d, t, os⟩) :
    wpAny M A (checkBuiltinCall newId ⟨[.ref C], kw⟩) Q E ⟨h, g, d, t, os⟩ := by
  have hc : (Value.ref C :: bm).contains (.type B) = true := by rw [List.contains_cons, hT, F.hasB, Bool.or_true]
  have hst := F.noStar
  simp only [checkBuiltinCall, F.newKind, F.newSplit, F.newRow]
  repeat (first
    | refine wpAny_loadPart_at hC ?_
    | (refine wpAny_isSubtype_exc hC ?_; rw [hc])
    | refine wpAny_staticBase_exc hC ?_
    | refine wpAny_madeBy_exc hC ?_
    | simp only [bne_self_eq_false, Bool.false_eq_true, if_false]
    | wp_step)
  exact hq
end
section
variable {prog : Program} {w : World} {A : Around} {E : Value → Shared → Prop} {R : Result → Shared → Prop} {h : Heap} {g : Array GenState} {d : Drawn} {t : Nat} {os : OsState}
variable {nm q : Str} {C N : Addr} {bs bm bmB : List Value} {hdct : Bool} {sn : List Str} {sub : List Value} {ab : Bool} {col : Option Bool} {dd : Option Addr} {k0 k1 k2 k3 k5 : Option Value} {B newId initId : String} {kw : List (Str × Value)}
theorem kw_new (F : ExcBaseFacts B newId initId bmB) (hT : ∀ X : String, bm.contains (.type X) = bmB.contains (.type X)) (hC : h.get? C = some (excClassObj nm q C N bs bm hdct sn sub ab col dd k0 k1 k2 k3 k5 newId))
    (hq : R (.ok (.ret (.ref (h.objs.size + 1)))) ⟨(h.push (W.kdv_tup [])).push (excO C h.objs.size), g, d, t, os⟩) :
    codeAny (model prog w) A (.builtin newId ⟨[.ref C], kw⟩) R ⟨h, g, d, t, os⟩ := by
  have he := F.ends
  have c1 : (Value.ref C :: bm).contains (.type B) = true := by rw [List.contains_cons, hT, F.hasB, Bool.or_true]
  have c2 : (Value.ref C :: bm).contains (.type "AttributeError") = false := by rw [List.contains_cons, hT, F.noAttr]; rfl
  have c3 : (Value.ref C :: bm).contains (.type "NameError") = false := by rw [List.contains_cons, hT, F.noName]; rfl
  refine codeAny_builtinAt F.entry ?_
  unfold Builtin.«BaseException.__new__»
  refine wpAt_bind ?_
  show wpAt _ _ _ (stack >>= _) _ _ _
  refine wpAt_bind (wpAt_stack fun p below => wpAt_of_wpAny ?_)
  wp_walk
  refine wpAt_of_wpAny ?_
  rw [F.owner]
  repeat (first
    | with_reducible refine wpAny_madeHere_exc F.canon hC ?_
    | with_reducible refine wpAny_loadPart_at hC ?_
    | (with_reducible refine wpAny_isSubtype_exc hC ?_; first | rw [c1] | rw [c2] | rw [c3])
    | wp_step)
  show R _ _
  rw [Heap.size_push]
  exact hq
theorem kw_type_call (F : ExcBaseFacts B newId initId bmB) (hT : ∀ X : String, bm.contains (.type X) = bmB.contains (.type X)) {fI : Addr} {Q : Fin → Shared → Prop}
    (hC : h.get? C = some (excClassObj nm q C N bs bm hdct sn sub ab col dd k0 k1 k2 k3 k5 newId))
    (hi : W.Looks (model prog w) h (typeLookup (.ref C) "__init__") (some (.ref fI))) (hb : ∀ self, W.Looks (model prog w) h (bindSpecial (.ref fI) self) (.ref fI, [self]))
    (hq : codeAny (model prog w) A (.call (.ref fI) ⟨[.ref (h.objs.size + 1)], kw⟩)
      (fun r s' => match r with | .ok (.ret v) => v = .none ∧ Q (.done (.ret (.ref (h.objs.size + 1)))) s' | .ok _ => False | .error e => E e s')
      ⟨(h.push (W.kdv_tup [])).push (excO C h.objs.size), g, d, t, os⟩) :
    wpAny (model prog w) A (Builtin.«type.__call__» ⟨[.ref C], kw⟩) Q E ⟨h, g, d, t, os⟩ := by
  repeat (first | with_reducible refine wpAny_loadPart_at hC ?_ | with_reducible refine wpAny_madeBy_exc hC ?_ | wp_step)
  refine codeAny_call_builtin_code (Code.quiet_builtin _ F.quiet) (kw_new_check F hT hC ?_)
  refine kw_new F hT hC ?_
  show wpAny _ _ _ _ _ _
  have k : ∀ b o, h.get? b = some o → ((h.push (W.kdv_tup [])).push (excO C h.objs.size)).get? b = some o := fun b o e => Heap.get?_push_of_some _ (Heap.get?_push_of_some _ e)
  have hC1 := k _ _ hC
  have hnew : ((h.push (W.kdv_tup [])).push (excO C h.objs.size)).get? (h.objs.size + 1) = some (excO C h.objs.size) := by heap_get
  have hself : (Value.ref C :: bm).contains (.ref C) = true := by simp
  have i1 := hi.keeps k
  have b1 := (hb (.ref (h.objs.size + 1))).keeps k
  unfold isInstance
  repeat (first | with_reducible refine wpAny_loadPart_at hnew ?_ | (with_reducible refine wpAny_isSubtype_exc hC1 ?_; rw [hself]) | wp_step)
  show wpAny _ _ (typeLookup (.ref C) _) _ _ _
  refine i1.at (wpAny_holding (wpAny_bind (b1.at (wpAny_bind (wpAny_call (codeAny_mono hq ?_))))))
  intro r s' z
  rcases r with e | (v | _ | _ | _)
  · exact z
  all_goals first | exact z.elim | skip
  obtain ⟨rfl, z⟩ := z
  first
    | exact wpAny_pure (wpAny_pure z)
    | (wp_walk; exact z)
theorem kw_call (F : ExcBaseFacts B newId initId bmB) (hT : ∀ X : String, bm.contains (.type X) = bmB.contains (.type X)) {fI : Addr}
    (hC : h.get? C = some (excClassObj nm q C N bs bm hdct sn sub ab col dd k0 k1 k2 k3 k5 newId))
    (hi : W.Looks (model prog w) h (typeLookup (.ref C) "__init__") (some (.ref fI))) (hb : ∀ self, W.Looks (model prog w) h (bindSpecial (.ref fI) self) (.ref fI, [self]))
    (hq : codeAny (model prog w) (A.under (.builtin "type.__call__" ⟨[.ref C], kw⟩)) (.call (.ref fI) ⟨[.ref (h.objs.size + 1)], kw⟩) (W.InitBack (h.objs.size + 1) R)
      ⟨(h.push (W.kdv_tup [])).push (excO C h.objs.size), g, d, t, os⟩) :
    codeAny (model prog w) A (.call (.ref C) ⟨[], kw⟩) R ⟨h, g, d, t, os⟩ := by
  have f1 := tc_lookup
  have f2 := tc_bind (.ref C)
  have ty : (⟨h, g, d, t, os⟩ : Shared).TypeIs (.ref C) "type" := ⟨_, hC, rfl⟩
  refine codeAny_of_tree ?_
  show wpAny _ _ (callAny (.ref C) _) _ _ _
  repeat (any_goals (first | assumption | with_reducible refine wpAny_loadPart_at hC ?_ | wp_step))
  refine ⟨rfl, ?_⟩
  refine codeAny_call_builtin_at (Code.quiet_builtin _ (by decide +kernel)) entry_typeCall (wpAny_check_type_call_sub hC (kw_type_call F hT hC hi hb ?_))
  refine codeAny_mono hq fun r s' z => ?_
  rcases r with e | (v | _ | _ | _) <;> exact z
end
end CtX
end PySem
namespace Ct
open PySem PySem.Spec L2
/-- what the walk asks of an exception class of one's own at C, its __init__ at fI -/
structure XCls (K : PySem.W.Frag) (C fI : Addr) : Prop where
  ox : OexC K C
  xe : ExcC K C
  iC : PySem.W.findIn K (.ref C) "__init__" = some (some (.ref fI))
  tI : PySem.W.typeIn K (.ref fI) = some (.type "function")
/-- the heap behind C(v): the exception at a, its dict at d with the one field -/
def mkH (H : Hp) (a d C : Addr) (f : Str) (v : V) : Hp := upd (upd H d (exd d [(f, v)])) a (exo a C (some d))
/-- what __init__(self, f): self.f = f promises -/
def spXI (C : Addr) (f : Str) : Sp := fun vs H Q _ => ∃ (a : Addr) (v : V), vs = [.ref a, v] ∧ H a = some (exo a C none) ∧ ∀ d, H d = none → d ≠ a → Q .non (mkH H a d C f v)
theorem mkH_new {H : Hp} {a d C : Addr} {f : Str} {v : V} {o : HO} : mkH (upd H a o) a d C f v = mkH H a d C f v := by
  funext b
  unfold mkH
  by_cases hb : b = a
  · rw [hb, upd_same, upd_same]
  · rw [upd_ne hb, upd_ne hb]
    by_cases hd : b = d
    · rw [hd, upd_same, upd_same]
    · rw [upd_ne hd, upd_ne hd, upd_ne hb]
/-- C(e), C(f=e): a new exception -/
def tMkX (C : Addr) (f : Str) (te : TE) : TE := fun σ H Q => te σ H fun v H1 => ∀ a d, H1 a = none → H1 d = none → d ≠ a → Q (.ref a) (mkH H1 a d C f v)
section
variable {X : Cx} {k : Nat} {C fI : Addr} {fd : FuncData} {x f pn : Str} {p pos kp : Pos} {e : Expr} {te : TE}
theorem run_mkX {pins : List (Addr × Obj)} {σ : L2.St} {H : Hp} {s : Shared} {Q : VK} {u : Value} {v : V} {pos kwn : Bool} (T : XCls X.K C fI) (F : FnOk X.prog X.w X.K X.mg X.base CX0 k fI fd ["self", pn] (spXI C f)) (hr : Room (k + 1) X.A)
    (hb : ∀ (s : Shared) (a w : Value), BindsTo s fd ⟨[a, w], []⟩ [("self", a), (pn, w)]) (I : Inv X pins σ H s) (r : RelV v u) (h : ∀ a d, H a = none → H d = none → d ≠ a → Q (.ref a) (mkH H a d C f v)) :
    wpAny (model X.prog X.w) X.A (call (.ref C) [u]) (EP X pins σ Q) X.xe s := by
  obtain ⟨nm, q, N, bs, bm, sn, sub, ab, col, dd, k0, k1, k2, k3, k5, hC, hbm⟩ := T.ox.cls
  obtain ⟨hp, g, dr, tk, os⟩ := s
  have kk : ∀ b o, hp.get? b = some o → ((hp.push (PySem.W.kdv_tup [u])).push (PySem.HandSPX.excO C hp.objs.size)).get? b = some o := fun b o e => Heap.get?_push_of_some _ (Heap.get?_push_of_some _ e)
  have hget : ((hp.push (PySem.W.kdv_tup [u])).push (PySem.HandSPX.excO C hp.objs.size)).get? (hp.objs.size + 1) = some (PySem.HandSPX.excO C hp.objs.size) := by heap_get
  have I2 : Inv X pins σ (upd H (hp.objs.size + 1) (exo (hp.objs.size + 1) C none)) ⟨(hp.push (PySem.W.kdv_tup [u])).push (PySem.HandSPX.excO C hp.objs.size), g, dr, tk, os⟩ :=
    I.laid (t' := tk) kk (Nat.le_succ _) (exo_ok hget)
  have hn : H (hp.objs.size + 1) = none := I.hok.fresh (Nat.le_succ _)
  have hq : spXI C f [.ref (hp.objs.size + 1), v] (upd H (hp.objs.size + 1) (exo (hp.objs.size + 1) C none)) (fun z H2 => z = .non ∧ Q (.ref (hp.objs.size + 1)) H2) E0 := by
    refine ⟨_, v, rfl, upd_same, fun d hd hne => ⟨rfl, ?_⟩⟩
    rw [mkH_new]
    rw [upd_ne hne] at hd
    exact h _ d hn hd hne
  have rr : Vals [V.ref (hp.objs.size + 1), v] [Value.ref (hp.objs.size + 1), u] := .cons rfl (.cons r .nil)
  refine wpAny_call (PySem.HandSPX.call_own PySem.F.excBase_ValueError (fun Y => PySem.HandSPX.refsVE_contains Y bm hbm) (I.kIn _ _ hC) (PySem.W.looks_findIn I.kIn T.iC) (fun self => PySem.W.bind_fn I.kIn self T.tI) (by show 1 ≤ sizeLine; decide)
    (codeAny_mono (F.run _ X.stack _ _ ⟨[.ref (hp.objs.size + 1), u], []⟩ [.ref (hp.objs.size + 1), u] _ _ _ (hr.make C [u] []) (I2.env0.make C [u] []) (hb _ _ _) rr hq) ?_))
  intro r s' z
  match r, z with
  | .error er, z => exact False.elim z
  | .ok .next, z => exact False.elim z
  | .ok .brk, z => exact False.elim z
  | .ok .cont, z => exact False.elim z
  | .ok (.ret u), z =>
    obtain ⟨v', H', I3, rv, ev, q3⟩ := I2.after z
    subst ev
    exact ⟨rv, .ref (hp.objs.size + 1), H', I3, rfl, q3⟩
theorem run_mkXk {pins : List (Addr × Obj)} {σ : L2.St} {H : Hp} {s : Shared} {Q : VK} {u : Value} {v : V} {kn : Str} (T : XCls X.K C fI) (F : FnOk X.prog X.w X.K X.mg X.base CX0 k fI fd ["self", pn] (spXI C f)) (hr : Room (k + 1) X.A)
    (hb : ∀ (s : Shared) (a w : Value), BindsTo s fd ⟨[a], [(kn, w)]⟩ [("self", a), (pn, w)]) (I : Inv X pins σ H s) (r : RelV v u) (h : ∀ a d, H a = none → H d = none → d ≠ a → Q (.ref a) (mkH H a d C f v)) :
    wpAny (model X.prog X.w) X.A (call (.ref C) [] [(kn, u)]) (EP X pins σ Q) X.xe s := by
  obtain ⟨nm, q, N, bs, bm, sn, sub, ab, col, dd, k0, k1, k2, k3, k5, hC, hbm⟩ := T.ox.cls
  obtain ⟨hp, g, dr, tk, os⟩ := s
  have kk : ∀ b o, hp.get? b = some o → ((hp.push (PySem.W.kdv_tup [])).push (PySem.HandSPX.excO C hp.objs.size)).get? b = some o := fun b o e => Heap.get?_push_of_some _ (Heap.get?_push_of_some _ e)
  have hget : ((hp.push (PySem.W.kdv_tup [])).push (PySem.HandSPX.excO C hp.objs.size)).get? (hp.objs.size + 1) = some (PySem.HandSPX.excO C hp.objs.size) := by heap_get
  have I2 : Inv X pins σ (upd H (hp.objs.size + 1) (exo (hp.objs.size + 1) C none)) ⟨(hp.push (PySem.W.kdv_tup [])).push (PySem.HandSPX.excO C hp.objs.size), g, dr, tk, os⟩ :=
    I.laid (t' := tk) kk (Nat.le_succ _) (exo_ok hget)
  have hn : H (hp.objs.size + 1) = none := I.hok.fresh (Nat.le_succ _)
  have hq : spXI C f [.ref (hp.objs.size + 1), v] (upd H (hp.objs.size + 1) (exo (hp.objs.size + 1) C none)) (fun z H2 => z = .non ∧ Q (.ref (hp.objs.size + 1)) H2) E0 := by
    refine ⟨_, v, rfl, upd_same, fun d hd hne => ⟨rfl, ?_⟩⟩
    rw [mkH_new]
    rw [upd_ne hne] at hd
    exact h _ d hn hd hne
  have rr : Vals [V.ref (hp.objs.size + 1), v] [Value.ref (hp.objs.size + 1), u] := .cons rfl (.cons r .nil)
  refine wpAny_call (PySem.CtX.kw_call PySem.F.excBase_ValueError (fun Y => PySem.HandSPX.refsVE_contains Y bm hbm) (I.kIn _ _ hC) (PySem.W.looks_findIn I.kIn T.iC) (fun self => PySem.W.bind_fn I.kIn self T.tI)
    (codeAny_mono (F.run _ X.stack _ _ ⟨[.ref (hp.objs.size + 1)], [(kn, u)]⟩ [.ref (hp.objs.size + 1), u] _ _ _ (hr.make C [] [(kn, u)]) (I2.env0.make C [] [(kn, u)]) (hb _ _ _) rr hq) ?_))
  intro r s' z
  match r, z with
  | .error er, z => exact False.elim z
  | .ok .next, z => exact False.elim z
  | .ok .brk, z => exact False.elim z
  | .ok .cont, z => exact False.elim z
  | .ok (.ret u), z =>
    obtain ⟨v', H', I3, rv, ev, q3⟩ := I2.after z
    subst ev
    exact ⟨rv, .ref (hp.objs.size + 1), H', I3, rfl, q3⟩
theorem pe_mkX (T : XCls X.K C fI) (F : FnOk X.prog X.w X.K X.mg X.base CX0 k fI fd ["self", pn] (spXI C f)) (hr : Room (k + 1) X.A) (hb : ∀ (s : Shared) (a w : Value), BindsTo s fd ⟨[a, w], []⟩ [("self", a), (pn, w)])
    (hg : Gl X x) (hm : X.mg x = some (.ref C)) (he : PE X e te) (hdb : (x == ("__debug__" : Str)) = false := by decide) (hs : starEach [e] X.env = (false, eval e X.env) :: starEach [] X.env := by rfl) :
    PE X (.Call (.Name x p) [e] [] pos) (tMkX C f te) := by
  constructor
  intro pins s σ H Q I h
  refine wpAny_Call_Name_kw (ld_glob I hg hm ?_ hdb)
  refine PySem.W.callWith_K (h₀ := X.base) I.ok.mod.kin T.ox.kC ?_ hs (by rfl)
  rw [hs]
  show wpAny _ _ (spliced ((false, eval e X.env) :: backTo pos (starEach [] X.env))) _ _ s
  refine Calls.spliced_cons (thn (he.run pins s σ H _ I h) ?_)
  rintro u s1 ⟨v, H1, I1, r1, q1⟩
  exact Calls.spliced_nil ⟨I1.kIn, run_mkX (pos := true) (kwn := true) T F hr hb I1 r1 q1⟩
/-- C(f=e) -/
theorem pe_mkXk {kn : Str} (T : XCls X.K C fI) (F : FnOk X.prog X.w X.K X.mg X.base CX0 k fI fd ["self", pn] (spXI C f)) (hr : Room (k + 1) X.A) (hb : ∀ (s : Shared) (a w : Value), BindsTo s fd ⟨[a], [(kn, w)]⟩ [("self", a), (pn, w)])
    (hg : Gl X x) (hm : X.mg x = some (.ref C)) (he : PE X e te) (hdb : (x == ("__debug__" : Str)) = false := by decide) :
    PE X (.Call (.Name x p) [] [⟨some kn, e, kp⟩] pos) (tMkX C f te) := by
  constructor
  intro pins s σ H Q I h
  refine wpAny_Call_Name_kw (ld_glob I hg hm ?_ hdb)
  refine PySem.W.callWith_KW0 (h₀ := X.base) I.ok.mod.kin T.ox.kC (by rfl) ?_ (by rfl)
  have pk : PK X [⟨some kn, e, kp⟩] (tCons te tNil) := pk_cons he pk_nil
  refine thn (pk.run pos pins s σ H (fun vs H1 => ∃ v, vs = [v] ∧ ∀ a d, H1 a = none → H1 d = none → d ≠ a → Q (.ref a) (mkH H1 a d C f v)) I ?_) ?_
  · show te σ H _
    have mono : (fun v H1 => ∀ a d, H1 a = none → H1 d = none → d ≠ a → Q (.ref a) (mkH H1 a d C f v)) = fun (v : V) (H1 : Hp) => ∃ w, [v] = [w] ∧ ∀ a d, H1 a = none → H1 d = none → d ≠ a → Q (.ref a) (mkH H1 a d C f w) := by
      funext v H1
      refine propext ⟨fun z => ⟨v, rfl, z⟩, fun ⟨w, e, z⟩ => ?_⟩
      cases e
      exact z
    have h' := h
    unfold tMkX at h'
    rw [mono] at h'
    exact h'
  · rintro us s1 ⟨vs, H1, I1, r1, v, rfl, q1⟩
    obtain ⟨u, rfl, ru⟩ := vals1 r1
    exact ⟨I1.kIn, run_mkXk T F hr hb I1 ru q1⟩
/-- e.n of an exception -/
def tXF (K : PySem.W.Frag) (n : Str) (te : TE) : TE := fun σ H Q => te σ H fun x H1 => ∃ (a C d : Addr) (fs : List (Str × V)) (v : V), x = .ref a ∧ H1 a = some (exo a C (some d)) ∧ H1 d = some (exd d fs) ∧ ExcC K C ∧ PySem.W.findIn K (.ref C) n = some none ∧ fs.lookup n = some v ∧ Q v H1
theorem exo_inst {pins : List (Addr × Obj)} {σ : L2.St} {H : Hp} {s : Shared} {a d : Addr} {fs : List (Str × V)} (I : Inv X pins σ H s) (ea : H a = some (exo a C (some d))) (ed : H d = some (exd d fs)) :
    ∃ (ox od : Obj) (mA : Str → Option Value), PySem.W.InstAt s.heap a ox C (some od) ∧ (∀ name, PySem.W.lookIn name od = some (mA name)) ∧ ∀ f, RelO (fs.lookup f) (mA f) := by
  obtain ⟨t1, ho⟩ := exo_at I.hok ea
  obtain ⟨mA, hns, hr⟩ := exd_at I.hok ed
  obtain ⟨od, hod, hl⟩ := lookIn_ns hns
  exact ⟨_, od, mA, ⟨ho, rfl, rfl, hod⟩, hl, hr⟩
theorem pe_xF {n : Str} (he : PE X e te) (hb : attributeBase e n X.env (eval e X.env) = eval e X.env := by rfl) : PE X (.Attribute e n pos) (tXF X.K n te) := by
  constructor
  intro pins s σ H Q I h
  refine attr_of hb (thn (he.run pins s σ H _ I h) ?_)
  rintro u s1 ⟨x, H1, I1, rx, a, C, d, fs, v, ex, ea, ed, T, hno, l, q⟩
  subst ex
  cases (show u = Value.ref a from rx)
  obtain ⟨ox, od, mA, J, hl, hr⟩ := exo_inst I1 ea ed
  obtain ⟨u, hu, ru⟩ := RelO.some_of (v := v) (o := mA n) (by rw [← l]; exact hr n)
  exact PySem.HandSPX.exc_get I1.kIn J T.hg T.hk T.hs (PySem.W.findObj_own T.hd hno rfl (by rw [hl, hu])) (handed_of ru) ⟨v, H1, I1.tok _, ru, q⟩
/-- isinstance(x, c) of an exception: one class -/
def rIsX (K : PySem.W.Frag) : List V → Hp → VK → Prop := fun xs H Q => ∃ (a C d : Addr) (fs : List (Str × V)) (c : V) (cu : Value) (b : Bool), xs = [.ref a, c] ∧ H a = some (exo a C (some d)) ∧ H d = some (exd d fs) ∧ ExcC K C ∧ ClsV c cu ∧
  PySem.W.kitOne K (.ref C) cu = some b ∧ Q (.bl b) H
theorem call_isX : CallR X (.builtin "isinstance") (rIsX X.K) := by
  intro pins s σ H xs us Q I r h
  obtain ⟨a, C, d, fs, c, cu, b, rfl, ea, ed, T, kc, e, q⟩ := h
  obtain ⟨u1, u2, rfl, r1, r2⟩ := vals2 r
  cases (show u1 = Value.ref a from r1)
  have e2 := kc.eq r2
  subst e2
  obtain ⟨ox, od, mA, J, hl, hr⟩ := exo_inst I ea ed
  obtain ⟨cd, hcd, _⟩ := PySem.W.any_some T.hd
  exact PySem.W.kia_one (PySem.W.kitx_exc (by rw [hcd]; rfl) T.hg T.hk T.hs T.ha T.hn T.ht T.hm) I.kIn J e (fun z => (nomatch z)) fun tk => ⟨.bl b, H, I.tok tk, rfl, q⟩
end
end Ct

set_option Elab.async false
set_option linter.all false
set_option maxRecDepth 100000
set_option maxHeartbeats 2000000
/-! Own kit D: bundles (a def as the top has left it; a def that keeps its promise), calls by bundle. -/
namespace Ct
open PySem PySem.Spec PyProof.Rows L2
/-- a def of the text, as it stands behind the top -/
def DFE (K : PySem.W.Frag) (mg : Str → Option Value) (nm : Str) (st : Stmt) (ps : List Str) : Prop := ∃ f fd, Fun K nm nm st f fd ∧ mg nm = some (.ref f) ∧ Binds K fd ps []
/-- a def that keeps a promise -/
def Has (P : Program) (w : World) (K : PySem.W.Frag) (mg : Str → Option Value) (base : Heap) (CX : CXT) (k : Nat) (nm : Str) (ps : List Str) (sp : Sp) : Prop :=
  ∃ f fd, mg nm = some (.ref f) ∧ PySem.W.keepIn K (.ref f) = true ∧ Binds K fd ps [] ∧ FnOk P w K mg base CX k f fd ps sp
def HasG (P : Program) (w : World) (K : PySem.W.Frag) (mg : Str → Option Value) (base : Heap) (CX : CXT) (k : Nat) (nm : Str) (ps : List Str) (sp : Sp) : Prop :=
  ∃ f fd, mg nm = some (.ref f) ∧ PySem.W.keepIn K (.ref f) = true ∧ Binds K fd ps [] ∧ GFn P w K mg base CX k f fd ps sp
section
variable {P : Program} {w : World} {K : PySem.W.Frag} {mg : Str → Option Value} {base : Heap} {CX : CXT} {k : Nat} {nm : Str} {ps : List Str} {sp : Sp} {st : Stmt}
theorem dfe_mk {h : Heap} {f : Addr} {oc : Value} {od an : Option Addr} {osl : Array (Option Value)} {kV doc pm cdv ct : Value} (X : K.In h) (G : h.Ns mainGlobals mg) (a : PySem.W.nsIn K mainGlobals nm = some (some (.ref f)))
    (l : K.lookup f = some ⟨oc, od, .func (PySem.W.fnOf nm nm (defArgs st) (defBody st) (defScope st) .none kV doc pm an cdv ct), osl⟩) (c : PySem.W.codeIn K cdv nm = true) (kp : PySem.W.keepIn K (.ref f) = true)
    (b : ∀ (kV doc pm : Value) (an : Option Addr) (cdv ct : Value) (us : List Value), us.length = ps.length → bindArgs (PySem.W.fnOf nm nm (defArgs st) (defBody st) (defScope st) .none kV doc pm an cdv ct) ⟨us, []⟩ = pure (ps.zip us)) : DFE K mg nm st ps :=
  have F := fun_mk (st := st) l c kp
  ⟨f, _, F, PySem.W.mg_of X G a, F.binds b⟩
/-- THE RULE for a def by its bundle -/
theorem has_of {N : List Str} (D : DFE K mg nm st ps) (S : FnScope N ps (defScope st)) (len : ∀ vs H Q E, sp vs H Q E → vs.length = ps.length)
    (body : ∀ (f : Addr) (cdv : Value) (A : Around) (outer : List Env) (s : Shared) (H : Hp) (vs : List V) (Q : VK) (E : XK), Room k (A.deeper (envOfC nm (defScope st) s.heap.objs.size f cdv)) → sp vs H Q E →
      ∃ t, PSs (cxOf CX0 P w K mg base N nm (defScope st) f cdv A outer s H E).nox (defBody st) t ∧ t { nx := fun _ H' => Q .non H', rt := Q } (start N vs) H) : Has P w K mg base CX0 (k + 1) nm ps sp := by
  obtain ⟨f, fd, F, g, b⟩ := D
  exact ⟨f, fd, g, F.kp, b, F.ok S len (body f)⟩
theorem hasG_of {N : List Str} (D : DFE K mg nm st ps) (S : FnScope N ps (defScope st)) (len : ∀ vs H Q E, sp vs H Q E → vs.length = ps.length)
    (body : ∀ (f : Addr) (cdv : Value) (A : Around) (outer : List Env) (s : Shared) (H : Hp) (vs : List V) (Q : VK) (E : XK), A.guards = some [] → Room k (A.deeper (envOfC nm (defScope st) s.heap.objs.size f cdv)) → sp vs H Q E →
      ∃ t, PSs (cxOf CX0 P w K mg base N nm (defScope st) f cdv A outer s H E).nox (defBody st) t ∧ t { nx := fun _ H' => Q .non H', rt := Q } (start N vs) H) : HasG P w K mg base CX0 (k + 1) nm ps sp := by
  obtain ⟨f, fd, F, g, b⟩ := D
  refine ⟨f, fd, g, F.kp, b, gfn_of F S len (fun cdv A o s H vs Q E ga hr h => ?_)⟩
  obtain ⟨t, h1, h2⟩ := body f cdv A o s H vs Q E ga hr h
  exact ⟨t, h1.nox, h2⟩
/-- .. at its place: a law's own def -/
theorem law_of {N : List Str} {f : Addr} {fd : FuncData} (F : Fun K nm nm st f fd) (S : FnScope N ps (defScope st)) (len : ∀ vs H Q E, sp vs H Q E → vs.length = ps.length)
    (body : ∀ (cdv : Value) (A : Around) (outer : List Env) (s : Shared) (H : Hp) (vs : List V) (Q : VK) (E : XK), A.guards = some [] → Room k (A.deeper (envOfC nm (defScope st) s.heap.objs.size f cdv)) → sp vs H Q E →
      ∃ t, PSs (cxOf CX0 P w K mg base N nm (defScope st) f cdv A outer s H E).nox (defBody st) t ∧ t { nx := fun _ H' => Q .non H', rt := Q } (start N vs) H) : GFn P w K mg base CX0 (k + 1) f fd ps sp :=
  gfn_of F S len fun cdv A o s H vs Q E ga hr h => by
    obtain ⟨t, h1, h2⟩ := body cdv A o s H vs Q E ga hr h
    exact ⟨t, h1.nox, h2⟩
theorem Has.mono {j : Nat} (h : Has P w K mg base CX j nm ps sp) (l : j ≤ k) : Has P w K mg base CX k nm ps sp := by
  obtain ⟨f, fd, g, kp, b, F⟩ := h
  exact ⟨f, fd, g, kp, b, F.mono l⟩
theorem Has.g (h : Has P w K mg base CX k nm ps sp) : HasG P w K mg base CX k nm ps sp := by
  obtain ⟨f, fd, g, kp, b, F⟩ := h
  exact ⟨f, fd, g, kp, b, .of F⟩
end
section
variable {X : Cx} {k j : Nat} {nm : Str} {ps : List Str} {sp : Sp} {e : Expr} {es : List Expr} {t : TA} {p pos : Pos}
/-- f(e, ..) by its bundle, nothing raised -/
theorem pe_h (h : Has X.prog X.w X.K X.mg X.base CX0 j nm ps sp) (hr : Room k X.A) (l : j ≤ k) (hg : Gl X nm) (ha : PA X (e :: es) t) (hdb : (nm == ("__debug__" : Str)) = false := by decide)
    (he : starEach (e :: es) X.env = (false, eval e X.env) :: starEach es X.env := by rfl) (hpl : (backTo pos (starEach es X.env)).any (·.1) = false := by rfl) : PE X (.Call (.Name nm p) (e :: es) [] pos) (tCall sp [] E0 t) := by
  obtain ⟨f, fd, g, kp, b, F⟩ := h
  exact pe_call F (hr.mono l) hg g kp b .nil pass0 ha hdb he hpl
theorem pe_h0 (h : Has X.prog X.w X.K X.mg X.base CX0 j nm ps sp) (hr : Room k X.A) (l : j ≤ k) (hg : Gl X nm) (hdb : (nm == ("__debug__" : Str)) = false := by decide) : PE X (.Call (.Name nm p) [] [] pos) (tCall sp [] E0 tNil) := by
  obtain ⟨f, fd, g, kp, b, F⟩ := h
  exact pe_call0 F (hr.mono l) hg g kp b .nil pass0 hdb
theorem pe_hG (h : HasG X.prog X.w X.K X.mg X.base CX0 j nm ps sp) (gd : X.A.guards = some []) (hr : Room k X.A) (l : j ≤ k) (hg : Gl X nm) (ha : PA X (e :: es) t) (hdb : (nm == ("__debug__" : Str)) = false := by decide)
    (he : starEach (e :: es) X.env = (false, eval e X.env) :: starEach es X.env := by rfl) (hpl : (backTo pos (starEach es X.env)).any (·.1) = false := by rfl) : PE X (.Call (.Name nm p) (e :: es) [] pos) (tCall sp [] E0 t) := by
  obtain ⟨f, fd, g, kp, b, F⟩ := h
  exact pe_callG F gd (hr.mono l) hg g kp b .nil pass0 ha hdb he hpl
/-- a class or a def of the module as a value -/
theorem pe_ref {x : Str} {a : Addr} {pos : Pos} (hg : Gl X x) (hm : X.mg x = some (.ref a)) (hd : (x == ("__debug__" : Str)) = false := by decide) : PE X (.Name x pos) (tC (.ref a)) := pe_glob hg hm rfl hd
/-- a field of an exception, the written part named (within a comprehension) -/
theorem pe_xFk {K : PySem.W.Frag} {n : Str} {te : TE} (hK : X.K = K) (he : PE X e te) (hb : attributeBase e n X.env (eval e X.env) = eval e X.env := by rfl) : PE X (.Attribute e n pos) (tXF K n te) := by
  subst hK
  exact pe_xF he hb
/-- slots, short -/
theorem ps_sv (i : Nat) {x : Str} {e : Expr} {te : TE} {pos' : Pos} (hN : X.N.Nodup) (he : PE X e te) (hi : X.N[i]? = some x := by rfl) (hx : Loc X.env.scope x := by first | exact Or.inl rfl | exact Or.inr rfl) (hs : swapsWith e (some (.Name x pos')) pos.line X.env = pure false := by rfl)
    (hf : X.fn x = true ∨ X.env.scope.names.lookup x = some .local := by first | exact .inl rfl | exact .inr rfl | assumption) : PS X (.Assign [.Name x pos'] e pos) (tAsg te (gName i)) := ps_set hN hi hx he hs hf
end
end Ct

set_option Elab.async false
set_option linter.all false
set_option maxRecDepth 100000
set_option maxHeartbeats 2000000
/-! Own kit E: what a law's source of draws promises: source, draw, pick. -/
namespace Ct
open PySem PySem.Spec PyProof.Rows L2
def SrcOk (r m : Int) : Prop := 0 ≤ r ∧ 0 ≤ m ∧ m ≤ 2147483647
/-- source(script, start): a new list of two ints -/
def spSource (K : PySem.W.Frag) : Sp := fun vs H Q _ => ∃ (a : Addr) (ns : List Int) (st : Int), vs = [.ref a, .int st] ∧ 0 ≤ st ∧ st ≤ 100 ∧ SqL K H a (ns.map V.int) ∧ ns.length ≤ 63 ∧ (∀ z ∈ ns, Builtin.Int.intBits z ≤ 1048576) ∧
  ∀ p r m, H p = none → SrcOk r m → Q (.ref p) (upd H p (.lst [.int r, .int m]))
/-- draw(source, span): a number below span; the source turns -/
def spDraw : Sp := fun vs H Q _ => ∃ (p : Addr) (r m n : Int), vs = [.ref p, .int n] ∧ H p = some (.lst [.int r, .int m]) ∧ SrcOk r m ∧ 1 ≤ n ∧ n ≤ 1000000000 ∧
  ∀ r' m' k, SrcOk r' m' → 0 ≤ k → k < n → Q (.int k) (upd H p (.lst [.int r', .int m']))
/-- pick(source, things): one of the things -/
def spPick (K : PySem.W.Frag) : Sp := fun vs H Q _ => ∃ (p q : Addr) (r m : Int) (xs : List V), vs = [.ref p, .ref q] ∧ q ≠ p ∧ H p = some (.lst [.int r, .int m]) ∧ SrcOk r m ∧ (SqL K H q xs ∨ SqT K H q xs) ∧ xs ≠ [] ∧ xs.length ≤ 1000000 ∧
  ∀ r' m' x, SrcOk r' m' → x ∈ xs → Q x (upd H p (.lst [.int r', .int m']))
theorem sqL_upd {K : PySem.W.Frag} {H : Hp} {p q : Addr} {o : HO} {xs : List V} (h : SqL K H q xs) (n : q ≠ p) : SqL K (upd H p o) q xs := by
  rcases h with (h | ⟨u, h⟩) | h
  · exact .inl (.inl (by rw [upd_ne n]; exact h))
  · exact .inl (.inr ⟨u, by rw [upd_ne n]; exact h⟩)
  · exact .inr h
theorem sqT_upd {K : PySem.W.Frag} {H : Hp} {p q : Addr} {o : HO} {xs : List V} (h : SqT K H q xs) (n : q ≠ p) : SqT K (upd H p o) q xs := by
  rcases h with (h | ⟨u, h⟩) | h
  · exact .inl (.inl (by rw [upd_ne n]; exact h))
  · exact .inl (.inr ⟨u, by rw [upd_ne n]; exact h⟩)
  · exact .inr h
theorem at_in {xs : List V} {k : Int} (h0 : 0 ≤ k) (h1 : k < (xs.length : Nat)) : ∃ x, x ∈ xs ∧ atI xs k = some x := by
  obtain ⟨j, rfl⟩ := Int.eq_ofNat_of_zero_le h0
  have hj : j < xs.length := by omega
  exact ⟨xs[j], List.getElem_mem hj, atI_nat (List.getElem?_eq_getElem hj)⟩
theorem ints_at {ns : List Int} {i : Nat} {y : V} (h : (ns.map V.int)[i]? = some y) : ∃ z, ns[i]? = some z ∧ z ∈ ns ∧ y = .int z := by
  rw [List.getElem?_map] at h
  cases e : ns[i]? with
  | none => rw [e] at h; cases h
  | some z => rw [e] at h; exact ⟨z, rfl, List.mem_of_getElem? e, (Option.some.inj h).symm⟩
theorem pow_ok {x : Int} {n : Nat} {j : Int} (h : Builtin.Int.intBits x ≤ n) (h0 : 0 ≤ j) (hz : (n : Int) * j ≤ 2 ^ 27) : CPowW x j := by
  refine ⟨h0, Int.le_trans (Int.mul_le_mul_of_nonneg_right ?_ h0) hz⟩
  omega
theorem bits_small {x : Int} {n : Nat} (h0 : 0 ≤ x) (h : x < 2 ^ n) : Builtin.Int.intBits x ≤ n := by
  refine intBits_le_iff.mpr ?_
  have e : ((x.natAbs : Nat) : Int) = x := by omega
  have z : ((x.natAbs : Nat) : Int) < ((2 ^ n : Nat) : Int) := by rw [e, Int.natCast_pow]; exact h
  omega
end Ct

set_option Elab.async false
set_option linter.all false
set_option maxRecDepth 100000
set_option maxHeartbeats 2000000
/-! Own kit F: for over enumerate; heaps that only grow. -/
namespace Ct
open PySem PySem.Spec PyProof.Rows L2
theorem for_enum {K : PySem.W.Frag} {a : Addr} {xs : List V} {g : TG} {tb : TS} {D : Ends} {σ : L2.St} {H : Hp} (Pv : Nat → L2.St → Hp → Prop) (h0 : Pv 0 σ H) (hl : ∀ i σ H, i ≤ xs.length → Pv i σ H → SqL K H a xs)
    (hs : ∀ i x σ H T, xs[i]? = some x → Pv i σ H → H T = none → g (.ref T) σ (upd H T (.tup [.int (i : Nat), x])) fun σ2 H2 => tb { D with nx := Pv (i + 1), ct := Pv (i + 1), bk := D.nx } σ2 H2)
    (hd : ∀ σ H, Pv xs.length σ H → D.nx σ H) :
    ∃ W : Nat → Nat → L2.St → Hp → Prop, (∃ m, W 0 m σ H) ∧ ∀ i m σ H, W i m σ H →
      ((Ite K a).stop i H ∧ D.nx σ H) ∨ ((Ite K a).go i H ∧ ∃ N : L2.St → Hp → Prop, (∀ σ' H', N σ' H' → ∃ m', m' < m ∧ W (i + 1) m' σ' H') ∧ ∀ x H', (Ite K a).yld i H x H' → g x σ H' fun σ2 H2 => tb { D with nx := N, ct := N, bk := D.nx } σ2 H2) := by
  refine ⟨fun i m σ H => m = xs.length - i ∧ i ≤ xs.length ∧ Pv i σ H, ⟨xs.length, rfl, Nat.zero_le _, h0⟩, ?_⟩
  rintro i m σ H ⟨rfl, hi, p⟩
  have q := hl i σ H hi p
  rcases Nat.lt_or_ge i xs.length with lt | ge
  · right
    refine ⟨⟨xs, xs[i], q, List.getElem?_eq_getElem lt⟩, Pv (i + 1), fun σ' H' p' => ⟨_, by omega, rfl, lt, p'⟩, ?_⟩
    rintro _ _ ⟨T, x, rfl, hT, rfl, hx⟩
    exact hs i x σ H T (hx xs q) p hT
  · left
    have e : i = xs.length := Nat.le_antisymm hi ge
    subst e
    exact ⟨⟨xs, q, Nat.le_refl _⟩, hd σ H p⟩
theorem same_upd {H H' : Hp} {p : Addr} {o : HO} (s : Same H H') (h : H p = none) : Same H (upd H' p o) := fun b u e => by
  rw [upd_ne (ne_of_none e h)]
  exact s b u e
theorem same_new {H : Hp} {p : Addr} {o : HO} (h : H p = none) : Same H (upd H p o) := same_upd (Same.refl H) h
/-- only locked things are tracked: a store leaves them -/
theorem only_upd {H H' : Hp} {p : Addr} {o u : HO} (on : Only H) (s : Same H H') (h : H' p = some u) (n : ∀ ob x, u ≠ .frz ob x) : Same H (upd H' p o) := fun b v e => by
  rcases on b with z | ⟨ob, xs, z⟩
  · rw [z] at e; cases e
  · rw [z] at e; cases e
    have q := s b _ z
    rw [upd_ne (ne_of q h (Ne.symm (n _ _)))]
    exact q
/-- a store at p leaves what is of other content -/
theorem upd_other {H : Hp} {p b : Addr} {o u v : HO} (h : H p = some u) (e : H b = some v) (n : v ≠ u) : upd H p o b = some v := by
  rw [upd_ne (ne_of e h n)]
  exact e
theorem same_t {K : PySem.W.Frag} {H H' : Hp} {a : Addr} {xs : List V} (s : Same H H') (h : SqT K H a xs) : SqT K H' a xs := by
  rcases h with (h | ⟨o, h⟩) | h
  · exact .inl (.inl (s _ _ h))
  · exact .inl (.inr ⟨o, s _ _ h⟩)
  · exact .inr h
theorem same_rd {H H' : Hp} {a : Addr} {u : HO} (s : Same H H') (h : Rd H a u) : Rd H' a u := by
  rcases h with h | ⟨o, h⟩
  · exact .inl (s _ _ h)
  · exact .inr ⟨o, s _ _ h⟩
mutual
theorem Dq.same {K : PySem.W.Frag} {H H' : Hp} (s : Same H H') : ∀ {v : V} {d : PyData}, Dq K H v d → Dq K H' v d
  | _, _, .non => .non
  | _, _, .bl b => .bl b
  | _, _, .int i => .int i
  | _, _, .str x => .str x
  | _, _, .lst h a => .lst (s.seq h) (DqAll.same s a)
  | _, _, .tup h a => .tup (same_t s h) (DqAll.same s a)
  | _, _, .dic h k e a => .dic (same_rd s h) k e (DqAll.same s a)
  | _, _, .dicT h k e a => .dicT (same_rd s h) k e (DqAll.same s a)
theorem DqAll.same {K : PySem.W.Frag} {H H' : Hp} (s : Same H H') : ∀ {vs : List V} {ds : List PyData}, DqAll K H vs ds → DqAll K H' vs ds
  | _, _, .nil => .nil
  | _, _, .cons a b => .cons (Dq.same s a) (DqAll.same s b)
end
end Ct

set_option Elab.async false
set_option linter.all false
set_option maxRecDepth 100000
set_option maxHeartbeats 2000000
namespace P61
open PySem PySem.Spec PyProof.Rows L2 Ct
def top (i : Nat) : Stmt := PySem.Challenge.pw_cornerturn_k61_errors_by_hand.main.body.getD i (.Pass ⟨0, 0, 0, 0⟩)
/-- the built-ins that the text leaves as they are -/
structure Bn (mg : Str → Option Value) : Prop where
  z_int : mg "int" = none
  z_len : mg "len" = none
  z_range : mg "range" = none
  z_max : mg "max" = none
  z_min : mg "min" = none
  z_isinstance : mg "isinstance" = none
  z_list : mg "list" = none
  z_dict : mg "dict" = none
  z_repr : mg "repr" = none
  z_enumerate : mg "enumerate" = none
  z_ValueError : mg "ValueError" = none
section
variable {P : Program} {w : World} {K : PySem.W.Frag} {mg : Str → Option Value} {base : Heap}
abbrev sSource : Stmt := top 14
theorem scSource : FnScope ["script", "start", "mixed", "cell", "rest"] ["script", "start"] (defScope sSource) := ⟨rfl, rfl, rfl, by decide +kernel, rfl, by decide +kernel, by decide +kernel⟩
theorem has_source (T : Bn mg) (D : DFE K mg "_law_source" sSource ["script", "start"]) : Has P w K mg base CX0 1 "_law_source" ["script", "start"] (spSource K) := by
  refine has_of D scSource (fun vs H Q E h => ?_) (fun f cdv A outer s H vs Q E hr h => ?_)
  · obtain ⟨a, ns, st, rfl, _⟩ := h; rfl
  · obtain ⟨a, ns, st, rfl, st0, st1, hS, hlen, hbits, k⟩ := h
    have nd := scSource.nd
    refine ⟨_, (pss_cons (ps_sv 2 nd (pe_op op_add pe_int (pv 1)))
      (pss_cons (ps_for PassesOwn.never rfl (pi_list (pv 0)) (pg_name (i := 3) nd rfl (by first | exact Or.inl rfl | exact Or.inr rfl)) (pss_one (ps_sv 2 nd (pe_op op_add (pe_op op_mod (pe_callTy call_int1 (by rfl) T.z_int (by decide +kernel) (pa_cons (pe_op op_powW (pe_callTy call_int1 (by rfl) T.z_int (by decide +kernel) (pa_cons (pe_op op_add (pe_op op_mul (pv 2) pe_int) (pe_callTy call_int1 (by rfl) T.z_int (by decide +kernel) (pa_cons (pv 3) pa_nil))) pa_nil)) pe_int) pa_nil)) pe_int) pe_int))))
      (pss_cons (ps_sv 4 nd pe_int)
      (pss_cons (ps_if (PW.pt (pw_and (pt_cmpR op_lt (pv 1) (pe_callB call_len (by rfl) T.z_len (by decide +kernel) (pa_cons (pv 0) pa_nil)) (by first | exact nomark _ | rfl)) (pw_and1 (pt_cmpR op_ge (pe_ix ix_list (pv 0) (pv 1) (fun _ _ => rfl)) (pe_op op_powW pe_int pe_int) (by first | exact nomark _ | rfl))))) (pss_one (ps_sv 4 nd (pe_op op_sub (pe_ix ix_list (pv 0) (pv 1) (fun _ _ => rfl)) (pe_op op_powW pe_int pe_int)))) pss_nil)
      (pss_one (ps_ret (pe_lst (pa_cons (pv 4) (pa_cons (pv 2) pa_nil))))))))), ?_⟩
    -- mixed = 83 + start; the loop
    refine ⟨_, rfl, _, _, rfl, rfl, _, rfl, a, rfl, ⟨_, hS⟩, for_list (K := K) (a := a) (xs := ns.map V.int) (fun i σ H' => H' = H ∧ ∃ (m : Int) (c : Option V), σ = [some (.ref a), some (.int st), some (.int m), c, none] ∧ 0 ≤ m ∧ m ≤ 2147483647)
      ⟨rfl, _, none, rfl, by omega, by omega⟩ (fun i σ H' _ ⟨e, _⟩ => by rw [e]; exact hS) ?_ ?_⟩
    · rintro i y σ H' hi ⟨rfl, m, c, rfl, m0, m1⟩
      obtain ⟨z, _, hz, rfl⟩ := ints_at hi
      have b1 : Builtin.Int.intBits (m * 50021 + z) ≤ 1048577 := intBits_add_le (m := 1048576) (n := 1048576) (Nat.le_trans (bits_small (n := 64) (by omega) (by omega)) (by decide)) (hbits z hz)
      refine ⟨_, rfl, _, _, rfl, rfl, .inl ⟨by omega, by omega⟩, _, rfl, .inl ⟨_, rfl, _, _, rfl, rfl, .inl ⟨_, rfl, _, _, rfl, rfl, pow_ok b1 (by decide) (by decide), .inl ⟨_, rfl, _, _, rfl, rfl, by show (0 : Int) < 2147483563; decide, _, _, rfl, rfl, ?_⟩⟩⟩⟩
      have q0 := Int.emod_nonneg ((m * 50021 + z) ^ (3 : Int).toNat) (show (2147483563 : Int) ≠ 0 by decide)
      have q1 := Int.emod_lt_of_pos ((m * 50021 + z) ^ (3 : Int).toNat) (show (0 : Int) < 2147483563 by decide)
      exact ⟨rfl, _, _, rfl, by omega, by omega⟩
    · rintro σ H' ⟨rfl, m, c, rfl, m0, m1⟩
      have p18 : CPowW 10 18 := pow_ok (n := 4) (by decide +kernel) (by decide) (by decide)
      -- start < len(script) and script[start] >= 10 ** 18
      refine ⟨_, rfl, _, rfl, _, _, rfl, .inl ⟨_, hS, rfl⟩, _, _, rfl, rfl, _, rfl, ?_⟩
      refine ite2 (fun c1 => ?_) (fun _ => iteF ?_)
      · have c1 := of_decide_eq_true c1
        obtain ⟨y, hy, ey⟩ := at_in st0 c1
        obtain ⟨z, hz, rfl⟩ := List.mem_map.mp hy
        refine ⟨_, rfl, _, rfl, a, _, st, _, rfl, rfl, hS, ey, _, _, rfl, rfl, p18, _, _, rfl, rfl, _, rfl, ?_⟩
        refine ite2 (fun c2 => ?_) (fun _ => ?_)
        · have c2 : (10 : Int) ^ (18 : Int).toNat ≤ z := of_decide_eq_true c2
          refine ⟨_, rfl, _, rfl, a, _, st, _, rfl, rfl, hS, ey, _, _, rfl, rfl, p18, _, _, rfl, rfl, _, rfl, _, rfl, (by show 2 ≤ sizeLine; decide), fun p hp => ?_⟩
          exact k p _ _ hp ⟨by omega, m0, m1⟩
        · refine ⟨_, rfl, _, rfl, (by show 2 ≤ sizeLine; decide), fun p hp => ?_⟩
          exact k p _ _ hp ⟨by decide, m0, m1⟩
      · refine ⟨_, rfl, _, rfl, (by show 2 ≤ sizeLine; decide), fun p hp => ?_⟩
        exact k p _ _ hp ⟨by decide, m0, m1⟩
end
end P61

set_option Elab.async false
set_option linter.all false
set_option maxRecDepth 100000
set_option maxHeartbeats 2000000
namespace P61
open PySem PySem.Spec PyProof.Rows L2 Ct
section
variable {P : Program} {w : World} {K : PySem.W.Frag} {mg : Str → Option Value} {base : Heap}
abbrev sDraw : Stmt := top 15
theorem scDraw : FnScope ["source", "span", "found"] ["source", "span"] (defScope sDraw) := ⟨rfl, rfl, rfl, by decide +kernel, rfl, by decide +kernel, by decide +kernel⟩
theorem has_draw (T : Bn mg) (D : DFE K mg "_law_draw" sDraw ["source", "span"]) : Has P w K mg base CX0 1 "_law_draw" ["source", "span"] spDraw := by
  refine has_of D scDraw (fun vs H Q E h => ?_) (fun f cdv A outer s H vs Q E hr h => ?_)
  · obtain ⟨p, r, m, n, rfl, _⟩ := h; rfl
  · obtain ⟨p, r, m, n, rfl, hp, ⟨r0, m0, m1⟩, n1, n2, k⟩ := h
    have nd := scDraw.nd
    refine ⟨_, (pss_cons (ps_if (pt_cmpR op_ge (pe_ix ix_list (pv 0) pe_int (fun _ _ => rfl)) (pv 1) (by first | exact nomark _ | rfl)) (pss_cons (ps_sv 2 nd (pe_op op_mod (pe_callTy call_int1 (by rfl) T.z_int (by decide +kernel) (pa_cons (pe_ix ix_list (pv 0) pe_int (fun _ _ => rfl)) pa_nil)) (pv 1)))
      (pss_cons (ps_asg (pe_op op_fdivW (pe_ix ix_list (pv 0) pe_int (fun _ _ => rfl)) (pv 1)) (pg_sub (pv 0) pe_int set_list))
      (pss_one (ps_ret (pv 2))))) pss_nil)
      (pss_cons (ps_asg (pe_op op_mod (pe_callTy call_int1 (by rfl) T.z_int (by decide +kernel) (pa_cons (pe_op op_add (pe_op op_mul (pe_ix ix_list (pv 0) pe_int (fun _ _ => rfl)) pe_int) pe_int) pa_nil)) pe_int) (pg_sub (pv 0) pe_int set_list))
      (pss_one (ps_ret (pe_op op_mod (pe_callTy call_int1 (by rfl) T.z_int (by decide +kernel) (pa_cons (pe_op op_fdivW (pe_op op_mod (pe_callTy call_int1 (by rfl) T.z_int (by decide +kernel) (pa_cons (pe_op op_powW (pe_callTy call_int1 (by rfl) T.z_int (by decide +kernel) (pa_cons (pe_ix ix_list (pv 0) pe_int (fun _ _ => rfl)) pa_nil)) pe_int) pa_nil)) pe_int) pe_int) pa_nil)) (pv 1)))))), ?_⟩
    -- source[0] >= span
    refine ⟨_, rfl, p, _, 0, _, rfl, rfl, SqL.of hp, rfl, _, rfl, _, _, rfl, rfl, _, rfl, ?_⟩
    refine ite2 (fun c1 => ?_) (fun _ => ?_)
    · refine ⟨_, rfl, p, _, 0, _, rfl, rfl, SqL.of hp, rfl, .inl ⟨_, rfl, _, rfl, _, _, rfl, rfl, (show 0 < n by omega), ?_⟩⟩
      refine ⟨_, rfl, p, _, 0, _, rfl, rfl, SqL.of hp, rfl, _, rfl, _, _, rfl, rfl, wide_div (b := 32) (by omega) (by omega) (by decide) (by decide), _, rfl, p, _, 0, 0, rfl, rfl, hp, rfl, ?_⟩
      refine ⟨_, rfl, ?_⟩
      exact k _ _ _ ⟨Int.ediv_nonneg r0 (by omega), m0, m1⟩ (Int.emod_nonneg _ (by omega)) (Int.emod_lt_of_pos _ (by omega))
    · have q0 := Int.emod_nonneg (m * 69621 + 4241) (show (2147483647 : Int) ≠ 0 by decide)
      have q1 := Int.emod_lt_of_pos (m * 69621 + 4241) (show (0 : Int) < 2147483647 by decide)
      refine ⟨_, rfl, p, _, 1, _, rfl, rfl, SqL.of hp, rfl, _, _, rfl, rfl, .inl ⟨by omega, by omega⟩, _, _, rfl, rfl, .inl ⟨_, rfl, _, _, rfl, rfl, (show (0 : Int) < 2147483647 by decide), ?_⟩⟩
      refine ⟨_, rfl, p, _, 1, 1, rfl, rfl, hp, rfl, ?_⟩
      refine ⟨_, rfl, p, _, 1, _, rfl, rfl, SqL.of upd_same, rfl, .inl ⟨_, rfl, ?_⟩⟩
      refine ⟨_, _, rfl, rfl, pow_ok (n := 32) (bits_small q0 (by omega)) (by decide) (by decide), .inl ⟨_, rfl, ?_⟩⟩
      refine ⟨_, _, rfl, rfl, (show (0 : Int) < 1000000007 by decide), _, _, rfl, rfl, wide_div (b := 8) (by decide) (by decide) (by decide) (by decide), .inl ⟨_, rfl, ?_⟩⟩
      refine ⟨_, rfl, _, _, rfl, rfl, (show 0 < n by omega), ?_⟩
      exact k _ _ _ ⟨r0, q0, by omega⟩ (Int.emod_nonneg _ (by omega)) (Int.emod_lt_of_pos _ (by omega))
abbrev sPick : Stmt := top 16
theorem scPick : FnScope ["source", "things"] ["source", "things"] (defScope sPick) := ⟨rfl, rfl, rfl, by decide +kernel, rfl, by decide +kernel, by decide +kernel⟩
theorem has_pick (T : Bn mg) (D : DFE K mg "_law_pick" sPick ["source", "things"]) (h_law_draw : Has P w K mg base CX0 1 "_law_draw" ["source", "span"] spDraw) : Has P w K mg base CX0 2 "_law_pick" ["source", "things"] (spPick K) := by
  refine has_of D scPick (fun vs H Q E h => ?_) (fun f cdv A outer s H vs Q E hr h => ?_)
  · obtain ⟨p, q, r, m, xs, rfl, _⟩ := h; rfl
  · obtain ⟨p, q, r, m, xs, rfl, ne, hp, ok, hx, hne, hl, k⟩ := h
    have nd := scPick.nd
    refine ⟨_, (pss_one (ps_ret (pe_ix ix_seq (pv 1) (pe_h h_law_draw hr (by decide) rfl (pa_cons (pv 0) (pa_cons (pe_callB call_len (by rfl) T.z_len (by decide +kernel) (pa_cons (pv 1) pa_nil)) pa_nil))) (fun _ _ => rfl)))), ?_⟩
    have n1 : 1 ≤ xs.length := by
      cases xs with
      | nil => exact absurd rfl hne
      | cons _ _ => simp
    refine ⟨_, rfl, _, rfl, _, rfl, _, xs.length, rfl, ?_, p, r, m, _, rfl, hp, ok, by omega, by omega, fun r' m' j ok' j0 j1 => ?_⟩
    · rcases hx with hx | hx
      · exact .inl ⟨_, hx, rfl⟩
      · exact .inr ⟨_, hx, rfl⟩
    · obtain ⟨x, hm, ex⟩ := at_in j0 j1
      rcases hx with hx | hx
      · exact .inl ⟨q, xs, _, x, rfl, rfl, sqL_upd hx ne, ex, k _ _ _ ok' hm⟩
      · exact .inr (.inl ⟨q, xs, _, x, rfl, rfl, sqT_upd hx ne, ex, k _ _ _ ok' hm⟩)
end
end P61

set_option Elab.async false
set_option linter.all false
set_option maxRecDepth 100000
set_option maxHeartbeats 2000000
namespace P61
open PySem PySem.Spec PyProof.Rows L2 Ct
/-! the error classes, in the sequence of the law's list -/
def clsN : List Str := ["BadPlaces", "BadTies", "NoPlace", "BadPlan", "BadPiece", "BadMove", "BadTie", "HasGlue", "TooMany", "TooFar", "BadText"]
def fldN : List Str := ["value", "value", "value", "value", "value", "value", "position", "piece", "count", "count", "line"]
def fld (i : Nat) : Str := fldN.getD i ""
structure Er (K : PySem.W.Frag) (mg : Str → Option Value) (C fI : Nat → Addr) (CW : Addr) : Prop where
  g : ∀ i nm, clsN[i]? = some nm → mg nm = some (.ref (C i))
  x : ∀ i, i < 11 → XCls K (C i) (fI i)
  no : ∀ i, i < 11 → PySem.W.findIn K (.ref (C i)) (fld i) = some none
  isi : ∀ i j, i < 11 → j < 11 → PySem.W.kitOne K (.ref (C i)) (.ref (C j)) = some (decide (i = j))
  isW : ∀ i, i < 11 → PySem.W.kitOne K (.ref (C i)) (.ref CW) = some true
  isV : ∀ i, i < 11 → PySem.W.kitOne K (.ref (C i)) (.type "ValueError") = some true
  gW : mg "WebError" = some (.ref CW)
/-- an error of the i-th class that holds v -/
def ErrAt (C : Nat → Addr) (H : Hp) (i : Nat) (a : Addr) (v : V) : Prop := ∃ d, H a = some (exo a (C i) (some d)) ∧ H d = some (exd d [(fld i, v)])
def row (i : Nat) : List V := (List.range 11).map fun j => .bl (decide (i = j))
/-- kinds(error): a new row of truth values -/
def spKinds (C : Nat → Addr) : Sp := fun vs H Q _ => ∃ (a : Addr) (i : Nat) (v : V), vs = [.ref a] ∧ i < 11 ∧ ErrAt C H i a v ∧ ∀ p H', Same H H' → H p = none → H' p = some (.lst (row i)) → Q (.ref p) H'
section
variable {P : Program} {w : World} {K : PySem.W.Frag} {mg : Str → Option Value} {base : Heap} {C fI : Nat → Addr} {CW : Addr}
theorem ErrAt.same {H H' : Hp} {i : Nat} {a : Addr} {v : V} (s : Same H H') (h : ErrAt C H i a v) : ErrAt C H' i a v := by
  obtain ⟨d, h1, h2⟩ := h
  exact ⟨d, s _ _ h1, s _ _ h2⟩
abbrev sKinds : Stmt := top 17
theorem scKinds : FnScope ["error", "found"] ["error"] (defScope sKinds) := ⟨rfl, rfl, rfl, by decide +kernel, rfl, by decide +kernel, by decide +kernel⟩
theorem is_step {H : Hp} {σ : L2.St} {a : Addr} {i j : Nat} {v : V} {Q : VK} (R : Er K mg C fI CW) (hi : i < 11) (hj : j < 11) (e : ErrAt C H i a v) (hσ : σ[0]? = some (some (.ref a))) (q : Q (.bl (decide (i = j))) H) :
    tCB (rIsX K) (tCons (tVar 0) (tCons (tC (.ref (C j))) tNil)) σ H Q := by
  obtain ⟨d, h1, h2⟩ := e
  exact ⟨_, hσ, a, _, d, _, _, _, _, rfl, h1, h2, (R.x i hi).xe, .own _, R.isi i j hi hj, q⟩
theorem has_kinds (T : Bn mg) (R : Er K mg C fI CW) (D : DFE K mg "_law_kinds" sKinds ["error"]) : Has P w K mg base CX0 1 "_law_kinds" ["error"] (spKinds C) := by
  refine has_of D scKinds (fun vs H Q E h => ?_) (fun f cdv A outer s H vs Q E hr h => ?_)
  · obtain ⟨a, i, v, rfl, _⟩ := h; rfl
  · obtain ⟨a, i, v, rfl, hi, he, k⟩ := h
    have nd := scKinds.nd
    refine ⟨_, (pss_cons (ps_sv 1 nd (pe_lst (pa_cons (pe_callB call_isX (by rfl) T.z_isinstance (by decide +kernel) (pa_cons (pv 0) (pa_cons (pe_ref rfl (R.g 0 _ rfl)) pa_nil))) (pa_cons (pe_callB call_isX (by rfl) T.z_isinstance (by decide +kernel) (pa_cons (pv 0) (pa_cons (pe_ref rfl (R.g 1 _ rfl)) pa_nil))) (pa_cons (pe_callB call_isX (by rfl) T.z_isinstance (by decide +kernel) (pa_cons (pv 0) (pa_cons (pe_ref rfl (R.g 2 _ rfl)) pa_nil))) pa_nil)))))
      (pss_cons (ps_sv 1 nd (pe_op op_cat (pv 1) (pe_lst (pa_cons (pe_callB call_isX (by rfl) T.z_isinstance (by decide +kernel) (pa_cons (pv 0) (pa_cons (pe_ref rfl (R.g 3 _ rfl)) pa_nil))) (pa_cons (pe_callB call_isX (by rfl) T.z_isinstance (by decide +kernel) (pa_cons (pv 0) (pa_cons (pe_ref rfl (R.g 4 _ rfl)) pa_nil))) (pa_cons (pe_callB call_isX (by rfl) T.z_isinstance (by decide +kernel) (pa_cons (pv 0) (pa_cons (pe_ref rfl (R.g 5 _ rfl)) pa_nil))) pa_nil))))))
      (pss_cons (ps_sv 1 nd (pe_op op_cat (pv 1) (pe_lst (pa_cons (pe_callB call_isX (by rfl) T.z_isinstance (by decide +kernel) (pa_cons (pv 0) (pa_cons (pe_ref rfl (R.g 6 _ rfl)) pa_nil))) (pa_cons (pe_callB call_isX (by rfl) T.z_isinstance (by decide +kernel) (pa_cons (pv 0) (pa_cons (pe_ref rfl (R.g 7 _ rfl)) pa_nil))) (pa_cons (pe_callB call_isX (by rfl) T.z_isinstance (by decide +kernel) (pa_cons (pv 0) (pa_cons (pe_ref rfl (R.g 8 _ rfl)) pa_nil))) pa_nil))))))
      (pss_one (ps_ret (pe_op op_cat (pv 1) (pe_lst (pa_cons (pe_callB call_isX (by rfl) T.z_isinstance (by decide +kernel) (pa_cons (pv 0) (pa_cons (pe_ref rfl (R.g 9 _ rfl)) pa_nil))) (pa_cons (pe_callB call_isX (by rfl) T.z_isinstance (by decide +kernel) (pa_cons (pv 0) (pa_cons (pe_ref rfl (R.g 10 _ rfl)) pa_nil))) pa_nil))))))))), ?_⟩
    refine is_step R hi (by decide) he rfl (is_step R hi (by decide) he rfl (is_step R hi (by decide) he rfl ⟨(by show 3 ≤ sizeLine; decide), fun p1 n1 => ?_⟩))
    have s1 := same_new (o := .lst [.bl (decide (i = 0)), .bl (decide (i = 1)), .bl (decide (i = 2))]) n1
    refine ⟨_, rfl, is_step R hi (by decide) (he.same s1) rfl (is_step R hi (by decide) (he.same s1) rfl (is_step R hi (by decide) (he.same s1) rfl ⟨(by show 3 ≤ sizeLine; decide), fun p2 n2 => ?_⟩))⟩
    have m2 := s1.free n2
    have s2 := same_upd (o := .lst [.bl (decide (i = 3)), .bl (decide (i = 4)), .bl (decide (i = 5))]) s1 m2
    have ne12 : p1 ≠ p2 := ne_of_none upd_same n2
    refine ⟨_, _, _, _, rfl, rfl, (by rw [upd_ne ne12]; exact upd_same), upd_same, (by show 6 ≤ sizeLine; decide), fun p3 n3 => ?_⟩
    have m3 := s2.free n3
    have s3 := same_upd (o := .lst ([.bl (decide (i = 0)), .bl (decide (i = 1)), .bl (decide (i = 2))] ++ [.bl (decide (i = 3)), .bl (decide (i = 4)), .bl (decide (i = 5))])) s2 m3
    refine ⟨_, rfl, is_step R hi (by decide) (he.same s3) rfl (is_step R hi (by decide) (he.same s3) rfl (is_step R hi (by decide) (he.same s3) rfl ⟨(by show 3 ≤ sizeLine; decide), fun p4 n4 => ?_⟩))⟩
    have m4 := s3.free n4
    have s4 := same_upd (o := .lst [.bl (decide (i = 6)), .bl (decide (i = 7)), .bl (decide (i = 8))]) s3 m4
    have ne34 : p3 ≠ p4 := ne_of_none upd_same n4
    refine ⟨_, _, _, _, rfl, rfl, (by rw [upd_ne ne34]; exact upd_same), upd_same, (by show 9 ≤ sizeLine; decide), fun p5 n5 => ?_⟩
    have m5 := s4.free n5
    have s5 := same_upd (o := .lst (([.bl (decide (i = 0)), .bl (decide (i = 1)), .bl (decide (i = 2))] ++ [.bl (decide (i = 3)), .bl (decide (i = 4)), .bl (decide (i = 5))]) ++ [.bl (decide (i = 6)), .bl (decide (i = 7)), .bl (decide (i = 8))])) s4 m5
    refine ⟨_, rfl, is_step R hi (by decide) (he.same s5) rfl (is_step R hi (by decide) (he.same s5) rfl ⟨(by show 2 ≤ sizeLine; decide), fun p6 n6 => ?_⟩)⟩
    have m6 := s5.free n6
    have s6 := same_upd (o := .lst [.bl (decide (i = 9)), .bl (decide (i = 10))]) s5 m6
    have ne56 : p5 ≠ p6 := ne_of_none upd_same n6
    refine ⟨_, _, _, _, rfl, rfl, (by rw [upd_ne ne56]; exact upd_same), upd_same, (by show 11 ≤ sizeLine; decide), fun p7 n7 => ?_⟩
    exact k p7 _ (same_upd s6 (s6.free n7)) (s6.free n7) upd_same
end
end P61

set_option Elab.async false
set_option linter.all false
set_option maxRecDepth 100000
set_option maxHeartbeats 4000000
namespace P61
open PySem PySem.Spec PyProof.Rows L2 Ct
/-- a class whose __init__ keeps its promise -/
def HasX (P : Program) (w : World) (K : PySem.W.Frag) (mg : Str → Option Value) (base : Heap) (k : Nat) (C fI : Addr) (f : Str) : Prop :=
  XCls K C fI ∧ ∃ fd, FnOk P w K mg base CX0 k fI fd ["self", f] (spXI C f) ∧ (∀ (s : Shared) (a w : Value), BindsTo s fd ⟨[a, w], []⟩ [("self", a), (f, w)]) ∧ ∀ (s : Shared) (a w : Value), BindsTo s fd ⟨[a], [(f, w)]⟩ [("self", a), (f, w)]
section
variable {X : Cx} {k j : Nat} {C fI : Addr} {x f : Str} {p pos kp : Pos} {e : Expr} {te : TE}
theorem pe_mp (h : HasX X.prog X.w X.K X.mg X.base k C fI f) (hr : Room j X.A) (l : k + 1 ≤ j) (hg : Gl X x) (hm : X.mg x = some (.ref C)) (he : PE X e te) (hdb : (x == ("__debug__" : Str)) = false := by decide)
    (hs : starEach [e] X.env = (false, eval e X.env) :: starEach [] X.env := by rfl) : PE X (.Call (.Name x p) [e] [] pos) (tMkX C f te) := by
  obtain ⟨T, fd, F, b, _⟩ := h
  exact pe_mkX T F (hr.mono l) b hg hm he hdb hs
theorem pe_mkw (h : HasX X.prog X.w X.K X.mg X.base k C fI f) (hr : Room j X.A) (l : k + 1 ≤ j) (hg : Gl X x) (hm : X.mg x = some (.ref C)) (he : PE X e te) (hdb : (x == ("__debug__" : Str)) = false := by decide) :
    PE X (.Call (.Name x p) [] [⟨some f, e, kp⟩] pos) (tMkX C f te) := by
  obtain ⟨T, fd, F, _, b⟩ := h
  exact pe_mkXk T F (hr.mono l) b hg hm he hdb
end
/-- the eleven errors, each with v -/
def spMade (C : Nat → Addr) : Sp := fun vs H Q _ => ∃ (v : V), vs = [v] ∧ ∀ (p : Addr) (es : List V) (H' : Hp), Same H H' → H' p = some (.lst es) → H p = none → es.length = 11 → (∀ i, i < 11 → ∃ a, es[i]? = some (.ref a) ∧ ErrAt C H' i a v) → Q (.ref p) H'
section
variable {P : Program} {w : World} {K : PySem.W.Frag} {mg : Str → Option Value} {base : Heap} {C fI : Nat → Addr} {CW : Addr}
theorem mk_step {H : Hp} {a d : Addr} {i : Nat} {v : V} (ha : H a = none) (hd : H d = none) (ne : d ≠ a) : Same H (mkH H a d (C i) (fld i) v) ∧ ErrAt C (mkH H a d (C i) (fld i) v) i a v := by
  refine ⟨fun b o e => ?_, d, upd_same, ?_⟩
  · unfold mkH
    rw [upd_ne (ne_of_none e ha), upd_ne (ne_of_none e hd)]
    exact e
  · unfold mkH
    rw [upd_ne ne]
    exact upd_same
abbrev sByPlace : Stmt := top 18
theorem scByPlace : FnScope ["thing", "found"] ["thing"] (defScope sByPlace) := ⟨rfl, rfl, rfl, by decide +kernel, rfl, by decide +kernel, by decide +kernel⟩
theorem has_by_place (R : Er K mg C fI CW) (hX : ∀ i, i < 11 → HasX P w K mg base 1 (C i) (fI i) (fld i)) (D : DFE K mg "_law_by_place" sByPlace ["thing"]) : Has P w K mg base CX0 3 "_law_by_place" ["thing"] (spMade C) := by
  refine has_of D scByPlace (fun vs H Q E h => ?_) (fun f cdv A outer s H vs Q E hr h => ?_)
  · obtain ⟨v, rfl, _⟩ := h; rfl
  · obtain ⟨v, rfl, k⟩ := h
    have nd := scByPlace.nd
    refine ⟨_, (pss_cons (ps_sv 1 nd (pe_lst (pa_cons (pe_mp (hX 0 (by decide)) hr (by decide) rfl (R.g 0 _ rfl) (pv 0)) (pa_cons (pe_mp (hX 1 (by decide)) hr (by decide) rfl (R.g 1 _ rfl) (pv 0)) (pa_cons (pe_mp (hX 2 (by decide)) hr (by decide) rfl (R.g 2 _ rfl) (pv 0)) (pa_cons (pe_mp (hX 3 (by decide)) hr (by decide) rfl (R.g 3 _ rfl) (pv 0)) (pa_cons (pe_mp (hX 4 (by decide)) hr (by decide) rfl (R.g 4 _ rfl) (pv 0)) (pa_cons (pe_mp (hX 5 (by decide)) hr (by decide) rfl (R.g 5 _ rfl) (pv 0)) pa_nil))))))))
    (pss_one (ps_ret (pe_op op_cat (pv 1) (pe_lst (pa_cons (pe_mp (hX 6 (by decide)) hr (by decide) rfl (R.g 6 _ rfl) (pv 0)) (pa_cons (pe_mp (hX 7 (by decide)) hr (by decide) rfl (R.g 7 _ rfl) (pv 0)) (pa_cons (pe_mp (hX 8 (by decide)) hr (by decide) rfl (R.g 8 _ rfl) (pv 0)) (pa_cons (pe_mp (hX 9 (by decide)) hr (by decide) rfl (R.g 9 _ rfl) (pv 0)) (pa_cons (pe_mp (hX 10 (by decide)) hr (by decide) rfl (R.g 10 _ rfl) (pv 0)) pa_nil)))))))))), ?_⟩
    have s := Same.refl H
    refine ⟨_, rfl, fun a0 d0 na0 nd0 ne0 => ?_⟩
    obtain ⟨t0, e0⟩ := mk_step (C := C) (i := 0) (v := v) na0 nd0 ne0
    generalize mkH H a0 d0 (C 0) (fld 0) v = G0 at t0 e0 ⊢
    replace s := s.trans t0
    refine ⟨_, rfl, fun a1 d1 na1 nd1 ne1 => ?_⟩
    obtain ⟨t1, e1⟩ := mk_step (C := C) (i := 1) (v := v) na1 nd1 ne1
    generalize mkH G0 a1 d1 (C 1) (fld 1) v = G1 at t1 e1 ⊢
    replace e0 := e0.same t1
    replace s := s.trans t1
    refine ⟨_, rfl, fun a2 d2 na2 nd2 ne2 => ?_⟩
    obtain ⟨t2, e2⟩ := mk_step (C := C) (i := 2) (v := v) na2 nd2 ne2
    generalize mkH G1 a2 d2 (C 2) (fld 2) v = G2 at t2 e2 ⊢
    replace e0 := e0.same t2
    replace e1 := e1.same t2
    replace s := s.trans t2
    refine ⟨_, rfl, fun a3 d3 na3 nd3 ne3 => ?_⟩
    obtain ⟨t3, e3⟩ := mk_step (C := C) (i := 3) (v := v) na3 nd3 ne3
    generalize mkH G2 a3 d3 (C 3) (fld 3) v = G3 at t3 e3 ⊢
    replace e0 := e0.same t3
    replace e1 := e1.same t3
    replace e2 := e2.same t3
    replace s := s.trans t3
    refine ⟨_, rfl, fun a4 d4 na4 nd4 ne4 => ?_⟩
    obtain ⟨t4, e4⟩ := mk_step (C := C) (i := 4) (v := v) na4 nd4 ne4
    generalize mkH G3 a4 d4 (C 4) (fld 4) v = G4 at t4 e4 ⊢
    replace e0 := e0.same t4
    replace e1 := e1.same t4
    replace e2 := e2.same t4
    replace e3 := e3.same t4
    replace s := s.trans t4
    refine ⟨_, rfl, fun a5 d5 na5 nd5 ne5 => ?_⟩
    obtain ⟨t5, e5⟩ := mk_step (C := C) (i := 5) (v := v) na5 nd5 ne5
    generalize mkH G4 a5 d5 (C 5) (fld 5) v = G5 at t5 e5 ⊢
    replace e0 := e0.same t5
    replace e1 := e1.same t5
    replace e2 := e2.same t5
    replace e3 := e3.same t5
    replace e4 := e4.same t5
    replace s := s.trans t5
    refine ⟨(by show 6 ≤ sizeLine; decide), fun p0 np0 => ?_⟩
    have u0 := same_new (o := .lst ([V.ref a0, V.ref a1, V.ref a2, V.ref a3, V.ref a4, V.ref a5] : List V)) np0
    have hl0 : (upd G5 p0 (.lst ([V.ref a0, V.ref a1, V.ref a2, V.ref a3, V.ref a4, V.ref a5] : List V))) p0 = some (.lst ([V.ref a0, V.ref a1, V.ref a2, V.ref a3, V.ref a4, V.ref a5] : List V)) := upd_same
    generalize upd G5 p0 (.lst ([V.ref a0, V.ref a1, V.ref a2, V.ref a3, V.ref a4, V.ref a5] : List V)) = U0 at u0 hl0 ⊢
    replace e0 := e0.same u0
    replace e1 := e1.same u0
    replace e2 := e2.same u0
    replace e3 := e3.same u0
    replace e4 := e4.same u0
    replace e5 := e5.same u0
    replace s := s.trans u0
    have hl := hl0
    refine ⟨_, rfl, _, rfl, fun a6 d6 na6 nd6 ne6 => ?_⟩
    obtain ⟨t6, e6⟩ := mk_step (C := C) (i := 6) (v := v) na6 nd6 ne6
    generalize mkH U0 a6 d6 (C 6) (fld 6) v = G6 at t6 e6 ⊢
    replace e0 := e0.same t6
    replace e1 := e1.same t6
    replace e2 := e2.same t6
    replace e3 := e3.same t6
    replace e4 := e4.same t6
    replace e5 := e5.same t6
    replace s := s.trans t6
    replace hl := t6 _ _ hl
    refine ⟨_, rfl, fun a7 d7 na7 nd7 ne7 => ?_⟩
    obtain ⟨t7, e7⟩ := mk_step (C := C) (i := 7) (v := v) na7 nd7 ne7
    generalize mkH G6 a7 d7 (C 7) (fld 7) v = G7 at t7 e7 ⊢
    replace e0 := e0.same t7
    replace e1 := e1.same t7
    replace e2 := e2.same t7
    replace e3 := e3.same t7
    replace e4 := e4.same t7
    replace e5 := e5.same t7
    replace e6 := e6.same t7
    replace s := s.trans t7
    replace hl := t7 _ _ hl
    refine ⟨_, rfl, fun a8 d8 na8 nd8 ne8 => ?_⟩
    obtain ⟨t8, e8⟩ := mk_step (C := C) (i := 8) (v := v) na8 nd8 ne8
    generalize mkH G7 a8 d8 (C 8) (fld 8) v = G8 at t8 e8 ⊢
    replace e0 := e0.same t8
    replace e1 := e1.same t8
    replace e2 := e2.same t8
    replace e3 := e3.same t8
    replace e4 := e4.same t8
    replace e5 := e5.same t8
    replace e6 := e6.same t8
    replace e7 := e7.same t8
    replace s := s.trans t8
    replace hl := t8 _ _ hl
    refine ⟨_, rfl, fun a9 d9 na9 nd9 ne9 => ?_⟩
    obtain ⟨t9, e9⟩ := mk_step (C := C) (i := 9) (v := v) na9 nd9 ne9
    generalize mkH G8 a9 d9 (C 9) (fld 9) v = G9 at t9 e9 ⊢
    replace e0 := e0.same t9
    replace e1 := e1.same t9
    replace e2 := e2.same t9
    replace e3 := e3.same t9
    replace e4 := e4.same t9
    replace e5 := e5.same t9
    replace e6 := e6.same t9
    replace e7 := e7.same t9
    replace e8 := e8.same t9
    replace s := s.trans t9
    replace hl := t9 _ _ hl
    refine ⟨_, rfl, fun a10 d10 na10 nd10 ne10 => ?_⟩
    obtain ⟨t10, e10⟩ := mk_step (C := C) (i := 10) (v := v) na10 nd10 ne10
    generalize mkH G9 a10 d10 (C 10) (fld 10) v = G10 at t10 e10 ⊢
    replace e0 := e0.same t10
    replace e1 := e1.same t10
    replace e2 := e2.same t10
    replace e3 := e3.same t10
    replace e4 := e4.same t10
    replace e5 := e5.same t10
    replace e6 := e6.same t10
    replace e7 := e7.same t10
    replace e8 := e8.same t10
    replace e9 := e9.same t10
    replace s := s.trans t10
    replace hl := t10 _ _ hl
    refine ⟨(by show 5 ≤ sizeLine; decide), fun p1 np1 => ?_⟩
    have u1 := same_new (o := .lst ([V.ref a6, V.ref a7, V.ref a8, V.ref a9, V.ref a10] : List V)) np1
    have hl1 : (upd G10 p1 (.lst ([V.ref a6, V.ref a7, V.ref a8, V.ref a9, V.ref a10] : List V))) p1 = some (.lst ([V.ref a6, V.ref a7, V.ref a8, V.ref a9, V.ref a10] : List V)) := upd_same
    generalize upd G10 p1 (.lst ([V.ref a6, V.ref a7, V.ref a8, V.ref a9, V.ref a10] : List V)) = U1 at u1 hl1 ⊢
    replace e0 := e0.same u1
    replace e1 := e1.same u1
    replace e2 := e2.same u1
    replace e3 := e3.same u1
    replace e4 := e4.same u1
    replace e5 := e5.same u1
    replace e6 := e6.same u1
    replace e7 := e7.same u1
    replace e8 := e8.same u1
    replace e9 := e9.same u1
    replace e10 := e10.same u1
    replace s := s.trans u1
    replace hl := u1 _ _ hl
    refine ⟨_, _, _, _, rfl, rfl, hl, hl1, (by show 11 ≤ sizeLine; decide), fun p2 np2 => ?_⟩
    have u2 := same_new (o := .lst (([V.ref a0, V.ref a1, V.ref a2, V.ref a3, V.ref a4, V.ref a5] : List V) ++ ([V.ref a6, V.ref a7, V.ref a8, V.ref a9, V.ref a10] : List V))) np2
    have nH := s.free np2
    have hl : (upd U1 p2 (.lst (([V.ref a0, V.ref a1, V.ref a2, V.ref a3, V.ref a4, V.ref a5] : List V) ++ ([V.ref a6, V.ref a7, V.ref a8, V.ref a9, V.ref a10] : List V)))) p2 = some (.lst (([V.ref a0, V.ref a1, V.ref a2, V.ref a3, V.ref a4, V.ref a5] : List V) ++ ([V.ref a6, V.ref a7, V.ref a8, V.ref a9, V.ref a10] : List V))) := upd_same
    generalize upd U1 p2 (.lst (([V.ref a0, V.ref a1, V.ref a2, V.ref a3, V.ref a4, V.ref a5] : List V) ++ ([V.ref a6, V.ref a7, V.ref a8, V.ref a9, V.ref a10] : List V))) = U2 at u2 hl ⊢
    replace e0 := e0.same u2
    replace e1 := e1.same u2
    replace e2 := e2.same u2
    replace e3 := e3.same u2
    replace e4 := e4.same u2
    replace e5 := e5.same u2
    replace e6 := e6.same u2
    replace e7 := e7.same u2
    replace e8 := e8.same u2
    replace e9 := e9.same u2
    replace e10 := e10.same u2
    replace s := s.trans u2
    refine k p2 _ _ s hl nH rfl fun i hi => ?_
    rcases i with _ | _ | _ | _ | _ | _ | _ | _ | _ | _ | _ | i
    · exact ⟨_, rfl, e0⟩
    · exact ⟨_, rfl, e1⟩
    · exact ⟨_, rfl, e2⟩
    · exact ⟨_, rfl, e3⟩
    · exact ⟨_, rfl, e4⟩
    · exact ⟨_, rfl, e5⟩
    · exact ⟨_, rfl, e6⟩
    · exact ⟨_, rfl, e7⟩
    · exact ⟨_, rfl, e8⟩
    · exact ⟨_, rfl, e9⟩
    · exact ⟨_, rfl, e10⟩
    · omega
abbrev sByName : Stmt := top 19
theorem scByName : FnScope ["thing", "found"] ["thing"] (defScope sByName) := ⟨rfl, rfl, rfl, by decide +kernel, rfl, by decide +kernel, by decide +kernel⟩
theorem has_by_name (R : Er K mg C fI CW) (hX : ∀ i, i < 11 → HasX P w K mg base 1 (C i) (fI i) (fld i)) (D : DFE K mg "_law_by_name" sByName ["thing"]) : Has P w K mg base CX0 3 "_law_by_name" ["thing"] (spMade C) := by
  refine has_of D scByName (fun vs H Q E h => ?_) (fun f cdv A outer s H vs Q E hr h => ?_)
  · obtain ⟨v, rfl, _⟩ := h; rfl
  · obtain ⟨v, rfl, k⟩ := h
    have nd := scByName.nd
    refine ⟨_, (pss_cons (ps_sv 1 nd (pe_lst (pa_cons (pe_mkw (f := fld 0) (hX 0 (by decide)) hr (by decide) rfl (R.g 0 _ rfl) (pv 0)) (pa_cons (pe_mkw (f := fld 1) (hX 1 (by decide)) hr (by decide) rfl (R.g 1 _ rfl) (pv 0)) (pa_cons (pe_mkw (f := fld 2) (hX 2 (by decide)) hr (by decide) rfl (R.g 2 _ rfl) (pv 0)) (pa_cons (pe_mkw (f := fld 3) (hX 3 (by decide)) hr (by decide) rfl (R.g 3 _ rfl) (pv 0)) pa_nil))))))
    (pss_cons (ps_sv 1 nd (pe_op op_cat (pv 1) (pe_lst (pa_cons (pe_mkw (f := fld 4) (hX 4 (by decide)) hr (by decide) rfl (R.g 4 _ rfl) (pv 0)) (pa_cons (pe_mkw (f := fld 5) (hX 5 (by decide)) hr (by decide) rfl (R.g 5 _ rfl) (pv 0)) (pa_cons (pe_mkw (f := fld 6) (hX 6 (by decide)) hr (by decide) rfl (R.g 6 _ rfl) (pv 0)) (pa_cons (pe_mkw (f := fld 7) (hX 7 (by decide)) hr (by decide) rfl (R.g 7 _ rfl) (pv 0)) pa_nil)))))))
    (pss_one (ps_ret (pe_op op_cat (pv 1) (pe_lst (pa_cons (pe_mkw (f := fld 8) (hX 8 (by decide)) hr (by decide) rfl (R.g 8 _ rfl) (pv 0)) (pa_cons (pe_mkw (f := fld 9) (hX 9 (by decide)) hr (by decide) rfl (R.g 9 _ rfl) (pv 0)) (pa_cons (pe_mkw (f := fld 10) (hX 10 (by decide)) hr (by decide) rfl (R.g 10 _ rfl) (pv 0)) pa_nil))))))))), ?_⟩
    have s := Same.refl H
    refine ⟨_, rfl, fun a0 d0 na0 nd0 ne0 => ?_⟩
    obtain ⟨t0, e0⟩ := mk_step (C := C) (i := 0) (v := v) na0 nd0 ne0
    generalize mkH H a0 d0 (C 0) (fld 0) v = G0 at t0 e0 ⊢
    replace s := s.trans t0
    refine ⟨_, rfl, fun a1 d1 na1 nd1 ne1 => ?_⟩
    obtain ⟨t1, e1⟩ := mk_step (C := C) (i := 1) (v := v) na1 nd1 ne1
    generalize mkH G0 a1 d1 (C 1) (fld 1) v = G1 at t1 e1 ⊢
    replace e0 := e0.same t1
    replace s := s.trans t1
    refine ⟨_, rfl, fun a2 d2 na2 nd2 ne2 => ?_⟩
    obtain ⟨t2, e2⟩ := mk_step (C := C) (i := 2) (v := v) na2 nd2 ne2
    generalize mkH G1 a2 d2 (C 2) (fld 2) v = G2 at t2 e2 ⊢
    replace e0 := e0.same t2
    replace e1 := e1.same t2
    replace s := s.trans t2
    refine ⟨_, rfl, fun a3 d3 na3 nd3 ne3 => ?_⟩
    obtain ⟨t3, e3⟩ := mk_step (C := C) (i := 3) (v := v) na3 nd3 ne3
    generalize mkH G2 a3 d3 (C 3) (fld 3) v = G3 at t3 e3 ⊢
    replace e0 := e0.same t3
    replace e1 := e1.same t3
    replace e2 := e2.same t3
    replace s := s.trans t3
    refine ⟨(by show 4 ≤ sizeLine; decide), fun p0 np0 => ?_⟩
    have u0 := same_new (o := .lst ([V.ref a0, V.ref a1, V.ref a2, V.ref a3] : List V)) np0
    have hl0 : (upd G3 p0 (.lst ([V.ref a0, V.ref a1, V.ref a2, V.ref a3] : List V))) p0 = some (.lst ([V.ref a0, V.ref a1, V.ref a2, V.ref a3] : List V)) := upd_same
    generalize upd G3 p0 (.lst ([V.ref a0, V.ref a1, V.ref a2, V.ref a3] : List V)) = U0 at u0 hl0 ⊢
    replace e0 := e0.same u0
    replace e1 := e1.same u0
    replace e2 := e2.same u0
    replace e3 := e3.same u0
    replace s := s.trans u0
    have hl := hl0
    refine ⟨_, rfl, _, rfl, fun a4 d4 na4 nd4 ne4 => ?_⟩
    obtain ⟨t4, e4⟩ := mk_step (C := C) (i := 4) (v := v) na4 nd4 ne4
    generalize mkH U0 a4 d4 (C 4) (fld 4) v = G4 at t4 e4 ⊢
    replace e0 := e0.same t4
    replace e1 := e1.same t4
    replace e2 := e2.same t4
    replace e3 := e3.same t4
    replace s := s.trans t4
    replace hl := t4 _ _ hl
    refine ⟨_, rfl, fun a5 d5 na5 nd5 ne5 => ?_⟩
    obtain ⟨t5, e5⟩ := mk_step (C := C) (i := 5) (v := v) na5 nd5 ne5
    generalize mkH G4 a5 d5 (C 5) (fld 5) v = G5 at t5 e5 ⊢
    replace e0 := e0.same t5
    replace e1 := e1.same t5
    replace e2 := e2.same t5
    replace e3 := e3.same t5
    replace e4 := e4.same t5
    replace s := s.trans t5
    replace hl := t5 _ _ hl
    refine ⟨_, rfl, fun a6 d6 na6 nd6 ne6 => ?_⟩
    obtain ⟨t6, e6⟩ := mk_step (C := C) (i := 6) (v := v) na6 nd6 ne6
    generalize mkH G5 a6 d6 (C 6) (fld 6) v = G6 at t6 e6 ⊢
    replace e0 := e0.same t6
    replace e1 := e1.same t6
    replace e2 := e2.same t6
    replace e3 := e3.same t6
    replace e4 := e4.same t6
    replace e5 := e5.same t6
    replace s := s.trans t6
    replace hl := t6 _ _ hl
    refine ⟨_, rfl, fun a7 d7 na7 nd7 ne7 => ?_⟩
    obtain ⟨t7, e7⟩ := mk_step (C := C) (i := 7) (v := v) na7 nd7 ne7
    generalize mkH G6 a7 d7 (C 7) (fld 7) v = G7 at t7 e7 ⊢
    replace e0 := e0.same t7
    replace e1 := e1.same t7
    replace e2 := e2.same t7
    replace e3 := e3.same t7
    replace e4 := e4.same t7
    replace e5 := e5.same t7
    replace e6 := e6.same t7
    replace s := s.trans t7
    replace hl := t7 _ _ hl
    refine ⟨(by show 4 ≤ sizeLine; decide), fun p1 np1 => ?_⟩
    have u1 := same_new (o := .lst ([V.ref a4, V.ref a5, V.ref a6, V.ref a7] : List V)) np1
    have hl1 : (upd G7 p1 (.lst ([V.ref a4, V.ref a5, V.ref a6, V.ref a7] : List V))) p1 = some (.lst ([V.ref a4, V.ref a5, V.ref a6, V.ref a7] : List V)) := upd_same
    generalize upd G7 p1 (.lst ([V.ref a4, V.ref a5, V.ref a6, V.ref a7] : List V)) = U1 at u1 hl1 ⊢
    replace e0 := e0.same u1
    replace e1 := e1.same u1
    replace e2 := e2.same u1
    replace e3 := e3.same u1
    replace e4 := e4.same u1
    replace e5 := e5.same u1
    replace e6 := e6.same u1
    replace e7 := e7.same u1
    replace s := s.trans u1
    replace hl := u1 _ _ hl
    refine ⟨_, _, _, _, rfl, rfl, hl, hl1, (by show 8 ≤ sizeLine; decide), fun p2 np2 => ?_⟩
    have u2 := same_new (o := .lst (([V.ref a0, V.ref a1, V.ref a2, V.ref a3] : List V) ++ ([V.ref a4, V.ref a5, V.ref a6, V.ref a7] : List V))) np2
    have nH := s.free np2
    have hl : (upd U1 p2 (.lst (([V.ref a0, V.ref a1, V.ref a2, V.ref a3] : List V) ++ ([V.ref a4, V.ref a5, V.ref a6, V.ref a7] : List V)))) p2 = some (.lst (([V.ref a0, V.ref a1, V.ref a2, V.ref a3] : List V) ++ ([V.ref a4, V.ref a5, V.ref a6, V.ref a7] : List V))) := upd_same
    generalize upd U1 p2 (.lst (([V.ref a0, V.ref a1, V.ref a2, V.ref a3] : List V) ++ ([V.ref a4, V.ref a5, V.ref a6, V.ref a7] : List V))) = U2 at u2 hl ⊢
    replace e0 := e0.same u2
    replace e1 := e1.same u2
    replace e2 := e2.same u2
    replace e3 := e3.same u2
    replace e4 := e4.same u2
    replace e5 := e5.same u2
    replace e6 := e6.same u2
    replace e7 := e7.same u2
    replace s := s.trans u2
    refine ⟨_, rfl, _, rfl, fun a8 d8 na8 nd8 ne8 => ?_⟩
    obtain ⟨t8, e8⟩ := mk_step (C := C) (i := 8) (v := v) na8 nd8 ne8
    generalize mkH U2 a8 d8 (C 8) (fld 8) v = G8 at t8 e8 ⊢
    replace e0 := e0.same t8
    replace e1 := e1.same t8
    replace e2 := e2.same t8
    replace e3 := e3.same t8
    replace e4 := e4.same t8
    replace e5 := e5.same t8
    replace e6 := e6.same t8
    replace e7 := e7.same t8
    replace s := s.trans t8
    replace hl := t8 _ _ hl
    refine ⟨_, rfl, fun a9 d9 na9 nd9 ne9 => ?_⟩
    obtain ⟨t9, e9⟩ := mk_step (C := C) (i := 9) (v := v) na9 nd9 ne9
    generalize mkH G8 a9 d9 (C 9) (fld 9) v = G9 at t9 e9 ⊢
    replace e0 := e0.same t9
    replace e1 := e1.same t9
    replace e2 := e2.same t9
    replace e3 := e3.same t9
    replace e4 := e4.same t9
    replace e5 := e5.same t9
    replace e6 := e6.same t9
    replace e7 := e7.same t9
    replace e8 := e8.same t9
    replace s := s.trans t9
    replace hl := t9 _ _ hl
    refine ⟨_, rfl, fun a10 d10 na10 nd10 ne10 => ?_⟩
    obtain ⟨t10, e10⟩ := mk_step (C := C) (i := 10) (v := v) na10 nd10 ne10
    generalize mkH G9 a10 d10 (C 10) (fld 10) v = G10 at t10 e10 ⊢
    replace e0 := e0.same t10
    replace e1 := e1.same t10
    replace e2 := e2.same t10
    replace e3 := e3.same t10
    replace e4 := e4.same t10
    replace e5 := e5.same t10
    replace e6 := e6.same t10
    replace e7 := e7.same t10
    replace e8 := e8.same t10
    replace e9 := e9.same t10
    replace s := s.trans t10
    replace hl := t10 _ _ hl
    refine ⟨(by show 3 ≤ sizeLine; decide), fun p3 np3 => ?_⟩
    have u3 := same_new (o := .lst ([V.ref a8, V.ref a9, V.ref a10] : List V)) np3
    have hl3 : (upd G10 p3 (.lst ([V.ref a8, V.ref a9, V.ref a10] : List V))) p3 = some (.lst ([V.ref a8, V.ref a9, V.ref a10] : List V)) := upd_same
    generalize upd G10 p3 (.lst ([V.ref a8, V.ref a9, V.ref a10] : List V)) = U3 at u3 hl3 ⊢
    replace e0 := e0.same u3
    replace e1 := e1.same u3
    replace e2 := e2.same u3
    replace e3 := e3.same u3
    replace e4 := e4.same u3
    replace e5 := e5.same u3
    replace e6 := e6.same u3
    replace e7 := e7.same u3
    replace e8 := e8.same u3
    replace e9 := e9.same u3
    replace e10 := e10.same u3
    replace s := s.trans u3
    replace hl := u3 _ _ hl
    refine ⟨_, _, _, _, rfl, rfl, hl, hl3, (by show 11 ≤ sizeLine; decide), fun p4 np4 => ?_⟩
    have u4 := same_new (o := .lst ((([V.ref a0, V.ref a1, V.ref a2, V.ref a3] : List V) ++ ([V.ref a4, V.ref a5, V.ref a6, V.ref a7] : List V)) ++ ([V.ref a8, V.ref a9, V.ref a10] : List V))) np4
    have nH := s.free np4
    have hl : (upd U3 p4 (.lst ((([V.ref a0, V.ref a1, V.ref a2, V.ref a3] : List V) ++ ([V.ref a4, V.ref a5, V.ref a6, V.ref a7] : List V)) ++ ([V.ref a8, V.ref a9, V.ref a10] : List V)))) p4 = some (.lst ((([V.ref a0, V.ref a1, V.ref a2, V.ref a3] : List V) ++ ([V.ref a4, V.ref a5, V.ref a6, V.ref a7] : List V)) ++ ([V.ref a8, V.ref a9, V.ref a10] : List V))) := upd_same
    generalize upd U3 p4 (.lst ((([V.ref a0, V.ref a1, V.ref a2, V.ref a3] : List V) ++ ([V.ref a4, V.ref a5, V.ref a6, V.ref a7] : List V)) ++ ([V.ref a8, V.ref a9, V.ref a10] : List V))) = U4 at u4 hl ⊢
    replace e0 := e0.same u4
    replace e1 := e1.same u4
    replace e2 := e2.same u4
    replace e3 := e3.same u4
    replace e4 := e4.same u4
    replace e5 := e5.same u4
    replace e6 := e6.same u4
    replace e7 := e7.same u4
    replace e8 := e8.same u4
    replace e9 := e9.same u4
    replace e10 := e10.same u4
    replace s := s.trans u4
    refine k p4 _ _ s hl nH rfl fun i hi => ?_
    rcases i with _ | _ | _ | _ | _ | _ | _ | _ | _ | _ | _ | i
    · exact ⟨_, rfl, e0⟩
    · exact ⟨_, rfl, e1⟩
    · exact ⟨_, rfl, e2⟩
    · exact ⟨_, rfl, e3⟩
    · exact ⟨_, rfl, e4⟩
    · exact ⟨_, rfl, e5⟩
    · exact ⟨_, rfl, e6⟩
    · exact ⟨_, rfl, e7⟩
    · exact ⟨_, rfl, e8⟩
    · exact ⟨_, rfl, e9⟩
    · exact ⟨_, rfl, e10⟩
    · omega
end
end P61

set_option Elab.async false
set_option linter.all false
set_option maxRecDepth 100000
set_option maxHeartbeats 4000000
namespace P61
open PySem PySem.Spec PyProof.Rows L2 Ct
/-- the rows of errors, each with v -/
def Errs (C : Nat → Addr) (H : Hp) (es : List V) (v : V) : Prop := es.length = 11 ∧ ∀ i, i < 11 → ∃ a, es[i]? = some (.ref a) ∧ ErrAt C H i a v
theorem Errs.same {C : Nat → Addr} {H H' : Hp} {es : List V} {v : V} (s : Same H H') (h : Errs C H es v) : Errs C H' es v := ⟨h.1, fun i hi => by
  obtain ⟨a, h1, h2⟩ := h.2 i hi
  exact ⟨a, h1, h2.same s⟩⟩
def spStored (K : PySem.W.Frag) (C : Nat → Addr) : Sp := fun vs H Q _ => ∃ (p : Addr) (es : List V) (v : V), vs = [.ref p] ∧ SqL K H p es ∧ Errs C H es v ∧ ∀ q H', Same H H' → H q = none → H' q = some (.lst (List.replicate 11 v)) → Q (.ref q) H'
section
variable {P : Program} {w : World} {K : PySem.W.Frag} {mg : Str → Option Value} {base : Heap} {C fI : Nat → Addr} {CW : Addr}
theorem xf_ix (R : Er K mg C fI CW) (i : Nat) (hi : i < 11) {σ : L2.St} {H : Hp} {p : Addr} {es : List V} {v : V} {Q : VK} (hσ : σ[0]? = some (some (.ref p))) (hS : SqL K H p es) (e : Errs C H es v) (q : Q v H) :
    tXF K (fld i) (tOp (rIxL K) (tVar 0) (tC (.int (i : Nat)))) σ H Q := by
  obtain ⟨a, h1, h2⟩ := e.2 i hi
  obtain ⟨d, h3, h4⟩ := h2
  exact ⟨_, hσ, p, es, _, _, rfl, rfl, hS, atI_nat h1, a, C i, d, _, v, rfl, h3, h4, (R.x i hi).xe, R.no i hi, by simp [List.lookup], q⟩
abbrev sStored : Stmt := top 20
theorem scStored : FnScope ["errors", "found", "error"] ["errors"] (defScope sStored) := ⟨rfl, rfl, rfl, by decide +kernel, rfl, by decide +kernel, by decide +kernel⟩
theorem has_stored (R : Er K mg C fI CW) (D : DFE K mg "_law_stored" sStored ["errors"]) : Has P w K mg base CX0 1 "_law_stored" ["errors"] (spStored K C) := by
  refine has_of D scStored (fun vs H Q E h => ?_) (fun f cdv A outer s H vs Q E hr h => ?_)
  · obtain ⟨p, es, v, rfl, _⟩ := h; rfl
  · obtain ⟨p, es, v, rfl, hS, he, k⟩ := h
    have nd := scStored.nd
    refine ⟨_, (pss_cons (ps_sv 1 nd (pe_op op_cat (pe_lc (own := [("error", 2)]) (g := gName 2) (tt := tYes) rfl nd (pi_list (pe_slice sl_list (pv 0) po_none (po_some pe_int))) (blkOk_by (own := [("error", 2)]) (N := ["errors", "found", "error"]) (sc := defScope sStored) (by decide +kernel)) (fun _ _ _ _ _ => (pg_name (i := 2) nd rfl (by first | exact Or.inl rfl | exact Or.inr rfl))) (fun _ _ _ _ _ => pts_nil) (fun _ _ _ _ _ => (pe_xFk (K := K) rfl (pv 2)))) (pe_lst (pa_cons (pe_xF (pe_ix ix_list (pv 0) pe_int (fun _ _ => rfl))) (pa_cons (pe_xF (pe_ix ix_list (pv 0) pe_int (fun _ _ => rfl))) pa_nil)))))
      (pss_one (ps_ret (pe_op op_cat (pv 1) (pe_lst (pa_cons (pe_xF (pe_ix ix_list (pv 0) pe_int (fun _ _ => rfl))) (pa_cons (pe_xF (pe_ix ix_list (pv 0) pe_int (fun _ _ => rfl))) (pa_cons (pe_xF (pe_ix ix_list (pv 0) pe_int (fun _ _ => rfl))) pa_nil)))))))), ?_⟩
    refine ⟨_, rfl, _, rfl, p, es, rfl, hS, fun p0 n0 => ?_⟩
    have cut : cutV es none (some 6) = es.take 6 := by
      unfold cutV
      rw [he.1]
      rfl
    have s0 := same_new (o := .lst (es.take 6)) n0
    have h0 : (upd H p0 (.lst (es.take 6))) p0 = some (.lst (es.take 6)) := upd_same
    rw [cut]
    generalize upd H p0 (.lst (es.take 6)) = H0 at s0 h0 ⊢
    refine ⟨p0, rfl, ⟨_, SqL.of h0⟩, fun D nD => ?_⟩
    have l6 : (es.take 6).length = 6 := by rw [List.length_take, he.1]; rfl
    refine lc_list (K := K) (a := p0) (xs := es.take 6) (fun i H1 => Same H0 H1 ∧ H1 D = some (.lst (List.replicate i v))) ⟨same_new nD, upd_same⟩ (fun i H1 _ ⟨s1, _⟩ => SqL.of (s1 _ _ h0)) ?_ ?_
    · rintro i x H1 hx ⟨s1, hD⟩
      have hi : i < 6 := by
        have := (List.getElem?_eq_some_iff.mp hx).1
        omega
      obtain ⟨a, ha, hea⟩ := he.2 i (by omega)
      rw [List.getElem?_take_of_lt hi, ha] at hx
      cases hx
      have hea1 := hea.same (s0.trans s1)
      have fv : fld i = "value" := by
        rcases i with _ | _ | _ | _ | _ | _ | i <;> first | rfl | omega
      obtain ⟨d, h1, h2⟩ := hea1
      refine ⟨rfl, _, rfl, a, C i, d, _, v, rfl, h1, h2, (R.x i (by omega)).xe, by rw [← fv]; exact R.no i (by omega), by rw [fv]; simp [List.lookup], _, hD, by rw [List.length_replicate]; exact small1000 (by omega), same_upd s1 nD, ?_⟩
      rw [upd_same, ← List.replicate_succ']
    · rintro H1 ⟨s1, hD⟩
      rw [l6] at hD
      have s01 := s0.trans s1
      have he1 := he.same s01
      refine xf_ix R 6 (by decide) rfl (s01.seq hS) he1 (xf_ix R 7 (by decide) rfl (s01.seq hS) he1 ⟨(by show 2 ≤ sizeLine; decide), fun p2 n2 => ?_⟩)
      have s2 := same_new (o := .lst [v, v]) n2
      have h2 : (upd H1 p2 (.lst [v, v])) p2 = some (.lst [v, v]) := upd_same
      generalize upd H1 p2 (.lst [v, v]) = H2 at s2 h2 ⊢
      refine ⟨_, _, _, _, rfl, rfl, s2 _ _ hD, h2, (by show 8 ≤ sizeLine; decide), fun p3 n3 => ?_⟩
      have s3 := same_new (o := .lst (List.replicate 6 v ++ [v, v])) n3
      have h3 : (upd H2 p3 (.lst (List.replicate 6 v ++ [v, v]))) p3 = some (.lst (List.replicate 6 v ++ [v, v])) := upd_same
      generalize upd H2 p3 (.lst (List.replicate 6 v ++ [v, v])) = H3 at s3 h3 ⊢
      have s03 := (s01.trans s2).trans s3
      have he3 := he.same s03
      refine ⟨_, rfl, xf_ix R 8 (by decide) rfl (s03.seq hS) he3 (xf_ix R 9 (by decide) rfl (s03.seq hS) he3 (xf_ix R 10 (by decide) rfl (s03.seq hS) he3 ⟨(by show 3 ≤ sizeLine; decide), fun p4 n4 => ?_⟩))⟩
      have s4 := same_new (o := .lst [v, v, v]) n4
      have h4 : (upd H3 p4 (.lst [v, v, v])) p4 = some (.lst [v, v, v]) := upd_same
      generalize upd H3 p4 (.lst [v, v, v]) = H4 at s4 h4 ⊢
      refine ⟨_, _, _, _, rfl, rfl, s4 _ _ h3, h4, (by show 11 ≤ sizeLine; decide), fun p5 n5 => ?_⟩
      have s05 := s03.trans s4
      exact k p5 _ (same_upd s05 (s05.free n5)) (s05.free n5) upd_same
end
end P61

set_option Elab.async false
set_option linter.all false
set_option maxRecDepth 100000
set_option maxHeartbeats 4000000
namespace P61
open PySem PySem.Spec PyProof.Rows L2 Ct
/-! the things that the law draws, with what has been put in behind them -/
def ddl (m : Bool) : List (Key × V) := if m then [(.inr "a", .int 1), (.inr "more", .int 0)] else [(.inr "a", .int 1)]
def bsl (b : Bool) : List V := if b then [.int 5] else [.str "a", .non]
def lsl (b : Bool) (n : Nat) : List V := bsl b ++ List.replicate n (.int 0)
inductive Th (H : Hp) (j : Nat) : V → Prop
  | non : Th H j .non
  | bl : Th H j (.bl true)
  | int (i : Int) : -3 ≤ i → i < 60 → Th H j (.int i)
  | str : Th H j (.str "x")
  | tup (a : Addr) : H a = some (.tup [.int 1]) → Th H j (.ref a)
  | lst (a : Addr) (b : Bool) (n : Nat) : H a = some (.lst (lsl b n)) → n ≤ j → Th H j (.ref a)
  | dic (a : Addr) (m : Bool) : H a = some (.dK (ddl m)) → Th H j (.ref a)
theorem Th.same {H H' : Hp} {j : Nat} {v : V} (s : Same H H') (h : Th H j v) : Th H' j v := by
  cases h with
  | non => exact .non
  | bl => exact .bl
  | int i h0 h1 => exact .int i h0 h1
  | str => exact .str
  | tup a h => exact .tup a (s _ _ h)
  | lst a b n h hn => exact .lst a b n (s _ _ h) hn
  | dic a m h => exact .dic a m (s _ _ h)
theorem Th.more {H : Hp} {j k : Nat} {v : V} (h : Th H j v) (l : j ≤ k) : Th H k v := by
  cases h with
  | non => exact .non
  | bl => exact .bl
  | int i h0 h1 => exact .int i h0 h1
  | str => exact .str
  | tup a h => exact .tup a h
  | lst a b n h hn => exact .lst a b n h (Nat.le_trans hn l)
  | dic a m h => exact .dic a m h
theorem lsl_more (b : Bool) (n : Nat) : lsl b n ++ [.int 0] = lsl b (n + 1) := by
  unfold lsl
  rw [List.append_assoc, ← List.replicate_succ']
theorem lsl_head (b : Bool) (n : Nat) (x : V) (r : List V) (h : lsl b n = x :: r) : x = .int 5 ∨ x = .str "a" := by
  cases b
  · exact .inr (List.cons.inj h).1.symm
  · exact .inl (List.cons.inj h).1.symm
theorem lsl_inj {b b' : Bool} {n n' : Nat} (h : lsl b n = lsl b' n') : b = b' := by
  cases b <;> cases b' <;> first | rfl | exact absurd (List.cons.inj h).1 (by intro z; cases z)
/-- a list gets a 0 more -/
theorem Th.put {H : Hp} {j : Nat} {v : V} {a : Addr} {b : Bool} {n : Nat} (ha : H a = some (.lst (lsl b n))) (hn : n ≤ j) (h : Th H j v) : Th (upd H a (.lst (lsl b (n + 1)))) (j + 1) v := by
  cases h with
  | non => exact .non
  | bl => exact .bl
  | int i h0 h1 => exact .int i h0 h1
  | str => exact .str
  | tup c h => exact .tup c (upd_other ha h (by intro z; cases z))
  | lst c b' n' h hn' =>
    by_cases e : c = a
    · subst e
      rw [ha] at h
      exact .lst c b (n + 1) upd_same (by omega)
    · exact .lst c b' n' (by rw [upd_ne e]; exact h) (by omega)
  | dic c m h => exact .dic c m (upd_other ha h (by intro z; cases z))
/-- a dict gets the entry -/
theorem Th.putD {H : Hp} {j : Nat} {v : V} {a : Addr} {m : Bool} (ha : H a = some (.dK (ddl m))) (h : Th H j v) : Th (upd H a (.dK (ddl true))) j v := by
  cases h with
  | non => exact .non
  | bl => exact .bl
  | int i h0 h1 => exact .int i h0 h1
  | str => exact .str
  | tup c h => exact .tup c (upd_other ha h (by intro z; cases z))
  | lst c b' n' h hn' => exact .lst c b' n' (upd_other ha h (by intro z; cases z)) hn'
  | dic c m' h =>
    by_cases e : c = a
    · subst e
      exact .dic c true upd_same
    · exact .dic c m' (by rw [upd_ne e]; exact h)
/-! what is shown of them -/
def Fine (d : PyData) : Bool := d.showable && decide (d.depth ≤ 5) && decide ((listText (List.replicate 11 d.shown)).length ≤ 100000)
def lsd (b : Bool) (n : Nat) : List PyData := (if b then [.int 5] else [.str "a", .none]) ++ List.replicate n (.int 0)
def ddd (m : Bool) : List (PyData × PyData) := if m then [(.str "a", .int 1), (.str "more", .int 0)] else [(.str "a", .int 1)]
theorem fine_int : ∀ k : _root_.Fin 63, Fine (.int ((k.val : Int) - 3)) = true := by decide +kernel
theorem fine_lst : ∀ (b : Bool) (n : _root_.Fin 9), Fine (.list (lsd b n.val)) = true := by decide +kernel
theorem fine_dic : ∀ m : Bool, Fine (.dict (ddd m)) = true := by decide +kernel
section
variable {K : PySem.W.Frag} {H : Hp}
theorem dqAll_zeros : ∀ n : Nat, DqAll K H (List.replicate n (.int 0)) (List.replicate n (.int 0))
  | 0 => .nil
  | n + 1 => .cons (.int 0) (dqAll_zeros n)
theorem dq_lsl (b : Bool) (n : Nat) : DqAll K H (lsl b n) (lsd b n) := by
  cases b
  · exact .cons (.str "a") (.cons .non (dqAll_zeros n))
  · exact .cons (.int 5) (dqAll_zeros n)
theorem Th.data {j : Nat} {v : V} (h : Th H j v) (hj : j ≤ 8) : ∃ d, Dq K H v d ∧ Fine d = true := by
  cases h with
  | non => exact ⟨_, .non, by decide +kernel⟩
  | bl => exact ⟨_, .bl true, by decide +kernel⟩
  | int i h0 h1 =>
    refine ⟨_, .int i, ?_⟩
    have q := fine_int ⟨(i + 3).toNat, by omega⟩
    have e : (((i + 3).toNat : Nat) : Int) - 3 = i := by omega
    rw [e] at q
    exact q
  | str => exact ⟨_, .str "x", by decide +kernel⟩
  | tup a h => exact ⟨_, .tup (SqT.of h) (.cons (.int 1) .nil), by decide +kernel⟩
  | lst a b n h hn => exact ⟨_, .lst (SqL.of h) (dq_lsl b n), fine_lst b ⟨n, by omega⟩⟩
  | dic a m h =>
    refine ⟨.dict (ddd m), ?_, fine_dic m⟩
    cases m
    · exact .dic (.of h) rfl rfl (.cons (.int 1) .nil)
    · exact .dic (.of h) rfl rfl (.cons (.int 1) (.cons (.int 0) .nil))
theorem dqAll_rep {v : V} {d : PyData} (h : Dq K H v d) : ∀ n : Nat, DqAll K H (List.replicate n v) (List.replicate n d)
  | 0 => .nil
  | n + 1 => .cons h (dqAll_rep h n)
theorem shownAll_rep (d : PyData) : ∀ n : Nat, PyData.shownAll (List.replicate n d) = List.replicate n d.shown
  | 0 => by simp [PyData.shownAll]
  | n + 1 => by rw [List.replicate_succ, List.replicate_succ, PyData.shownAll, shownAll_rep d n]
theorem showableAll_rep {d : PyData} (h : d.showable = true) : ∀ n : Nat, PyData.showableAll (List.replicate n d) = true
  | 0 => by simp [PyData.showableAll]
  | n + 1 => by rw [List.replicate_succ, PyData.showableAll, h, showableAll_rep h n]; rfl
theorem depthAll_rep {d : PyData} {m : Nat} (h : d.depth ≤ m) : ∀ n : Nat, PyData.depthAll (List.replicate n d) ≤ m
  | 0 => by simp [PyData.depthAll]
  | n + 1 => by rw [List.replicate_succ, PyData.depthAll]; exact Nat.max_le.mpr ⟨h, depthAll_rep h n⟩
/-- repr of a list of eleven times the thing -/
theorem rep_of {q : Addr} {v : V} {d : PyData} (hq : H q = some (.lst (List.replicate 11 v))) (hd : Dq K H v d) (f : Fine d = true) : Dq K H (.ref q) (.list (List.replicate 11 d)) ∧ (PyData.list (List.replicate 11 d)).showable = true ∧ (PyData.list (List.replicate 11 d)).depth ≤ 60 ∧ (PyData.list (List.replicate 11 d)).shown.length ≤ sizeLine := by
  unfold Fine at f
  rw [Bool.and_eq_true, Bool.and_eq_true] at f
  obtain ⟨⟨f1, f2⟩, f3⟩ := f
  have f2 := of_decide_eq_true f2
  have f3 := of_decide_eq_true f3
  refine ⟨.lst (SqL.of hq) (dqAll_rep hd 11), ?_, ?_, ?_⟩
  · rw [PyData.showable]; exact showableAll_rep f1 11
  · rw [PyData.depth]
    have := depthAll_rep f2 11
    omega
  · rw [PyData.shown, shownAll_rep]
    exact Nat.le_trans f3 (by decide)
/-- isinstance(thing, list), isinstance(thing, dict) -/
theorem Th.isList {j : Nat} {v : V} (h : Th H j v) : (∃ t, TyX K H v t ∧ PySem.W.kitOne K t (.type "list") = some false) ∨ ∃ a b n, v = .ref a ∧ H a = some (.lst (lsl b n)) ∧ n ≤ j ∧ TyX K H v (.type "list") := by
  cases h with
  | non => exact .inl ⟨_, .base .non, kit_ty (by decide +kernel)⟩
  | bl => exact .inl ⟨_, .base (.bl _), kit_ty (by decide +kernel)⟩
  | int i h0 h1 => exact .inl ⟨_, .base (.int _), kit_ty (by decide +kernel)⟩
  | str => exact .inl ⟨_, .base (.str _), kit_ty (by decide +kernel)⟩
  | tup a h => exact .inl ⟨_, .base (.tup h), kit_ty (by decide +kernel)⟩
  | lst a b n h hn => exact .inr ⟨a, b, n, rfl, h, hn, .base (.lst h)⟩
  | dic a m h => exact .inl ⟨_, .base (.dK h), kit_ty (by decide +kernel)⟩
theorem Th.isDict {j : Nat} {v : V} (h : Th H j v) : (∃ t, TyX K H v t ∧ PySem.W.kitOne K t (.type "dict") = some false) ∨ ∃ a m, v = .ref a ∧ H a = some (.dK (ddl m)) ∧ TyX K H v (.type "dict") := by
  cases h with
  | non => exact .inl ⟨_, .base .non, kit_ty (by decide +kernel)⟩
  | bl => exact .inl ⟨_, .base (.bl _), kit_ty (by decide +kernel)⟩
  | int i h0 h1 => exact .inl ⟨_, .base (.int _), kit_ty (by decide +kernel)⟩
  | str => exact .inl ⟨_, .base (.str _), kit_ty (by decide +kernel)⟩
  | tup a h => exact .inl ⟨_, .base (.tup h), kit_ty (by decide +kernel)⟩
  | lst a b n h hn => exact .inl ⟨_, .base (.lst h), kit_ty (by decide +kernel)⟩
  | dic a m h => exact .inr ⟨a, m, rfl, h, .base (.dK h)⟩
end
end P61

set_option Elab.async false
set_option linter.all false
set_option maxRecDepth 100000
set_option maxHeartbeats 4000000
namespace P61
open PySem PySem.Spec PyProof.Rows L2 Ct
def spLaw (K : PySem.W.Frag) : Sp := fun vs H Q _ => ∃ (a : Addr) (ns : List Int), vs = [.ref a] ∧ Only H ∧ SqL K H a (ns.map V.int) ∧ ns.length ≤ 63 ∧ (∀ z ∈ ns, Builtin.Int.intBits z ≤ 1048576) ∧ ∀ H', Q (.bl true) H'
def rowV (n : Nat) (i : Nat) : List V := (List.range i).map fun k => .bl (decide (V.int (0 + ((k : Nat) : Int)) = V.int ((n : Nat) : Int)))
def datRow (n : Nat) : PyData := .list ((List.range 11).map fun k => .bool (decide (n = k)))
theorem datRow_ok : ∀ n : _root_.Fin 11, SeqAt.shaped (datRow n.val) = true ∧ PyData.eqv (datRow n.val) (datRow n.val) = true := by decide +kernel
theorem rowV_row (n : Nat) : rowV n 11 = row n := by
  unfold rowV row
  refine List.map_congr_left fun k _ => ?_
  congr 1
  refine decide_eq_decide.mpr ⟨fun z => ?_, fun z => by rw [z, Int.zero_add]⟩
  have q := V.int.inj z
  omega
theorem dpAll_bools {K : PySem.W.Frag} {H : Hp} (f : Nat → Bool) : ∀ l : List Nat, DpAll K H (l.map fun k => .bl (f k)) (l.map fun k => .bool (f k))
  | [] => .nil
  | _ :: r => .cons (.bl _) (dpAll_bools f r)
theorem put_dd (m : Bool) : putK (ddl m) (Sum.inr ("more" : Str) : Key) (V.int 0) = ddl true := by
  cases m <;> rfl
/-- what stands in the turn of the inner loops -/
structure St6 (C : Nat → Addr) (H0 H : Hp) (L2 L3 p1 p2 : Addr) (t1 : Addr) (v2 : V) (es1 es2 : List V) (v : V) (j : Nat) : Prop where
  s : Same H0 H
  l2 : H L2 = some (.lst [.ref t1, v2])
  l3 : H L3 = some (.lst [.ref p1, .ref p2])
  e1 : H p1 = some (.lst es1)
  e2 : H p2 = some (.lst es2)
  r1 : Errs C H es1 v
  r2 : Errs C H es2 v
  h1 : Th H j (.ref t1)
  h2 : Th H j v2
  h : Th H j v
section
variable {C : Nat → Addr} {H0 H H' : Hp} {L2 L3 p1 p2 t1 : Addr} {v2 v : V} {es1 es2 : List V} {j : Nat}
theorem St6.same (S : St6 C H0 H L2 L3 p1 p2 t1 v2 es1 es2 v j) (k : Same H H') : St6 C H0 H' L2 L3 p1 p2 t1 v2 es1 es2 v j :=
  ⟨S.s.trans k, k _ _ S.l2, k _ _ S.l3, k _ _ S.e1, k _ _ S.e2, S.r1.same k, S.r2.same k, S.h1.same k, S.h2.same k, S.h.same k⟩
theorem St6.more {k : Nat} (S : St6 C H0 H L2 L3 p1 p2 t1 v2 es1 es2 v j) (l : j ≤ k) : St6 C H0 H L2 L3 p1 p2 t1 v2 es1 es2 v k :=
  ⟨S.s, S.l2, S.l3, S.e1, S.e2, S.r1, S.r2, S.h1.more l, S.h2.more l, S.h.more l⟩
theorem Errs.store {es : List V} {a : Addr} {o u : HO} (h : Errs C H es v) (ha : H a = some u) (n1 : ∀ φ, u ≠ .ext φ) : Errs C (upd H a o) es v := ⟨h.1, fun i hi => by
  obtain ⟨b, h1, d, h2, h3⟩ := h.2 i hi
  exact ⟨b, h1, d, upd_other ha h2 (fun z => n1 _ z.symm), upd_other ha h3 (fun z => n1 _ z.symm)⟩⟩
theorem errs_ne {es : List V} (h : Errs C H es v) (b : Bool) (n : Nat) : es ≠ lsl b n := fun z => by
  obtain ⟨a, h1, _⟩ := h.2 0 (by decide)
  cases es with
  | nil => cases h1
  | cons x r =>
    cases h1
    rcases lsl_head b n _ _ z.symm with q | q <;> cases q
theorem St6.put (on : Only H0) (S : St6 C H0 H L2 L3 p1 p2 t1 v2 es1 es2 v j) {a : Addr} {b : Bool} {n : Nat} (ha : H a = some (.lst (lsl b n))) (hn : n ≤ j) : St6 C H0 (upd H a (.lst (lsl b (n + 1)))) L2 L3 p1 p2 t1 v2 es1 es2 v (j + 1) := by
  have nr : ∀ {x : V} {r : List V} {c : Addr}, x = .ref c → HO.lst (x :: r) ≠ .lst (lsl b n) := fun {x r c} e z => by
    have z' := HO.lst.inj z
    subst e
    rcases lsl_head b n _ _ z'.symm with q | q <;> cases q
  exact ⟨only_upd on S.s ha (fun _ _ z => by cases z), upd_other ha S.l2 (nr rfl), upd_other ha S.l3 (nr rfl), upd_other ha S.e1 (fun z => errs_ne S.r1 b n (HO.lst.inj z)), upd_other ha S.e2 (fun z => errs_ne S.r2 b n (HO.lst.inj z)),
    S.r1.store ha (fun _ z => by cases z), S.r2.store ha (fun _ z => by cases z), S.h1.put ha hn, S.h2.put ha hn, S.h.put ha hn⟩
theorem St6.putD (on : Only H0) (S : St6 C H0 H L2 L3 p1 p2 t1 v2 es1 es2 v j) {a : Addr} {m : Bool} (ha : H a = some (.dK (ddl m))) : St6 C H0 (upd H a (.dK (ddl true))) L2 L3 p1 p2 t1 v2 es1 es2 v j :=
  ⟨only_upd on S.s ha (fun _ _ z => by cases z), upd_other ha S.l2 (by intro z; cases z), upd_other ha S.l3 (by intro z; cases z), upd_other ha S.e1 (by intro z; cases z), upd_other ha S.e2 (by intro z; cases z),
    S.r1.store ha (fun _ z => by cases z), S.r2.store ha (fun _ z => by cases z), S.h1.putD ha, S.h2.putD ha, S.h.putD ha⟩
end
section
variable {P : Program} {w : World} {K : PySem.W.Frag} {mg : Str → Option Value} {base : Heap} {C fI : Nat → Addr} {CW : Addr}
abbrev sLaw : Stmt := top 21
theorem scLaw : FnScope ["script", "start", "source", "some", "thing", "errors", "at", "error", "spot"] ["script"] (defScope sLaw) := ⟨rfl, rfl, rfl, by decide +kernel, rfl, by decide +kernel, by decide +kernel⟩
theorem has_law (T : Bn mg) (R : Er K mg C fI CW) (SB : SysB base) {f : Addr} {fd : FuncData} (D : Fun K "law" "law" sLaw f fd) (h_law_source : Has P w K mg base CX0 1 "_law_source" ["script", "start"] (spSource K)) (h_law_draw : Has P w K mg base CX0 1 "_law_draw" ["source", "span"] spDraw)
    (h_law_pick : Has P w K mg base CX0 2 "_law_pick" ["source", "things"] (spPick K)) (h_law_kinds : Has P w K mg base CX0 1 "_law_kinds" ["error"] (spKinds C)) (h_law_by_place : Has P w K mg base CX0 3 "_law_by_place" ["thing"] (spMade C))
    (h_law_by_name : Has P w K mg base CX0 3 "_law_by_name" ["thing"] (spMade C)) (h_law_stored : Has P w K mg base CX0 1 "_law_stored" ["errors"] (spStored K C)) : GFn P w K mg base CX0 5 f fd ["script"] (spLaw K) := by
  refine law_of D scLaw (fun vs H Q E h => ?_) (fun cdv A outer s H vs Q E gd hr h => ?_)
  · obtain ⟨a, ns, rfl, _⟩ := h; rfl
  · obtain ⟨a, ns, rfl, on, hS, hlen, hbits, k⟩ := h
    have nd := scLaw.nd
    refine ⟨_, (pss_cons (ps_for PassesOwn.never rfl (pi_range1 rfl T.z_range (pa_cons (pe_callB (call_max2 rfl) (by rfl) T.z_max (by decide +kernel) (pa_cons pe_int (pa_cons (pe_callB (call_min2 rfl) (by rfl) T.z_min (by decide +kernel) (pa_cons pe_int (pa_cons (pe_callB call_len (by rfl) T.z_len (by decide +kernel) (pa_cons (pv 0) pa_nil)) pa_nil))) pa_nil))) pa_nil)) (pg_name (i := 1) nd rfl (by first | exact Or.inl rfl | exact Or.inr rfl)) (pss_cons (ps_sv 2 nd (pe_h h_law_source hr (by decide) rfl (pa_cons (pv 0) (pa_cons (pv 1) pa_nil))))
    (pss_cons (ps_sv 3 nd (pe_lst (pa_cons (pe_lst (pa_cons pe_int pa_nil)) (pa_cons (pe_lst (pa_cons pe_str (pa_cons pe_non pa_nil))) (pa_cons (pe_disp (pps_cons pe_str pe_int pps_nil) (by rfl) (by rfl) (fun z => by cases z) (by decide)) (pa_cons pe_non (pa_cons pe_str (pa_cons (pe_tup (pa_cons pe_int pa_nil)) (pa_cons pe_bl (pa_cons (pe_op op_sub pe_int pe_int) (pa_cons (pe_h h_law_draw hr (by decide) rfl (pa_cons (pv 2) (pa_cons pe_int pa_nil))) pa_nil)))))))))))
    (pss_one (ps_for PassesOwn.never rfl (pi_list (pe_lst (pa_cons (pe_h h_law_pick hr (by decide) rfl (pa_cons (pv 2) (pa_cons (pe_slice sl_list (pv 3) po_none (po_some pe_int)) pa_nil))) (pa_cons (pe_h h_law_pick hr (by decide) rfl (pa_cons (pv 2) (pa_cons (pv 3) pa_nil))) pa_nil)))) (pg_name (i := 4) nd rfl (by first | exact Or.inl rfl | exact Or.inr rfl)) (pss_one (ps_for PassesOwn.never rfl (pi_list (pe_lst (pa_cons (pe_h h_law_by_place hr (by decide) rfl (pa_cons (pv 4) pa_nil)) (pa_cons (pe_h h_law_by_name hr (by decide) rfl (pa_cons (pv 4) pa_nil)) pa_nil)))) (pg_name (i := 5) nd rfl (by first | exact Or.inl rfl | exact Or.inr rfl)) (pss_cons (ps_for PassesOwn.never rfl (pi_enum (by rfl) T.z_enumerate (pa_cons (pv 5) pa_nil)) (pg_tup rfl (pgs_cons (pg_name (i := 6) nd rfl (by first | exact Or.inl rfl | exact Or.inr rfl)) (pgs_cons (pg_name (i := 7) nd rfl (by first | exact Or.inl rfl | exact Or.inr rfl)) pgs_nil))) (pss_cons (ps_if (PW.pt (pw_or (pt_not (pt_val (pe_callB call_isX (by rfl) T.z_isinstance (by decide +kernel) (pa_cons (pv 7) (pa_cons (pe_ref rfl R.gW) pa_nil))))) (pw_or1 (pt_not (pt_val (pe_callB call_isX (by rfl) T.z_isinstance (by decide +kernel) (pa_cons (pv 7) (pa_cons (pe_bltn (v := .ty "ValueError") rfl T.z_ValueError (by decide +kernel) rfl) pa_nil)))))))) (pss_one (ps_ret pe_bl)) pss_nil)
    (pss_one (ps_if (pt_cmpR (op_neD hr.units) (pe_h h_law_kinds hr (by decide) rfl (pa_cons (pv 7) pa_nil)) (pe_lc (own := [("spot", 8)]) (g := gName 8) (tt := tYes) rfl nd (pi_range1 rfl T.z_range (pa_cons pe_int pa_nil)) (blkOk_by (own := [("spot", 8)]) (N := ["script", "start", "source", "some", "thing", "errors", "at", "error", "spot"]) (sc := defScope sLaw) (by decide +kernel)) (fun _ _ _ _ _ => (pg_name (i := 8) nd rfl (by first | exact Or.inl rfl | exact Or.inr rfl))) (fun _ _ _ _ _ => pts_nil) (fun _ _ _ _ _ => (pe_cmpR op_eq (pv 8) (pv 6) (by first | exact nomark _ | rfl)))) (by first | exact nomark _ | rfl)) (pss_one (ps_ret pe_bl)) pss_nil))))
    (pss_cons (ps_if (pt_val (pe_callB call_isi (by rfl) T.z_isinstance (by decide +kernel) (pa_cons (pv 4) (pa_cons (pe_bltn (v := .ty "list") rfl T.z_list (by decide +kernel) rfl) pa_nil)))) (pss_one (ps_expr (pe_bm PySem.F.plainAttrs_list PySem.F.slot_list_append PySem.F.type_list_append mt_append (pv 4) (pa_cons pe_int pa_nil)))) pss_nil)
    (pss_cons (ps_if (pt_val (pe_callB call_isi (by rfl) T.z_isinstance (by decide +kernel) (pa_cons (pv 4) (pa_cons (pe_bltn (v := .ty "dict") rfl T.z_dict (by decide +kernel) rfl) pa_nil)))) (pss_one (ps_dput (hu_of hr) (pv 4) pe_str pe_int rfl)) pss_nil)
    (pss_one (ps_if (pt_cmpR op_ne (pe_callB (call_rep gd SB hr.units) (by rfl) T.z_repr (by decide +kernel) (pa_cons (pe_h h_law_stored hr (by decide) rfl (pa_cons (pv 5) pa_nil)) pa_nil)) (pe_callB (call_rep gd SB hr.units) (by rfl) T.z_repr (by decide +kernel) (pa_cons (pe_op op_rep (pe_lst (pa_cons (pv 4) pa_nil)) pe_int) pa_nil)) (by first | exact nomark _ | rfl)) (pss_one (ps_ret pe_bl)) pss_nil))))))))))))
    (pss_one (ps_ret pe_bl))), ?_⟩
    -- for start in range(max(1, min(4, len(script))))
    refine ⟨_, rfl, _, _, rfl, .inl ⟨_, hS, rfl⟩, _, _, rfl, _, _, rfl, _, rfl, ?_, ?_, ?_⟩
    · split <;> (try split) <;> omega
    · split <;> (try split) <;> omega
    have hj : (if (if (((ns.map V.int).length : Nat) : Int) < 4 then (((ns.map V.int).length : Nat) : Int) else 4) > 1 then (if (((ns.map V.int).length : Nat) : Int) < 4 then (((ns.map V.int).length : Nat) : Int) else 4) else 1) ≤ 4 := by split <;> (try split) <;> omega
    generalize (if (if (((ns.map V.int).length : Nat) : Int) < 4 then (((ns.map V.int).length : Nat) : Int) else 4) > 1 then (if (((ns.map V.int).length : Nat) : Int) < 4 then (((ns.map V.int).length : Nat) : Int) else 4) else 1) = jj at hj ⊢
    refine for_range (lo := 0) (n := jj.toNat) (fun i σ H' => ∃ s1 s2 s3 s4 s5 s6 s7 s8 : Option V, σ = [some (.ref a), s1, s2, s3, s4, s5, s6, s7, s8] ∧ Same H H') ⟨none, none, none, none, none, none, none, none, rfl, Same.refl H⟩ ?_ ?_
    · rintro i σ H1 hi ⟨s1, s2, s3, s4, s5, s6, s7, s8, rfl, sm⟩
      refine ⟨_, rfl, _, rfl, a, ns, _, rfl, by omega, by omega, sm.seq hS, hlen, hbits, fun ps r m nps ok => ?_⟩
      have u0 := same_new (o := .lst [.int r, .int m]) nps
      have hp : (upd H1 ps (.lst [.int r, .int m])) ps = some (.lst [.int r, .int m]) := upd_same
      generalize upd H1 ps (.lst [.int r, .int m]) = H2 at u0 hp ⊢
      replace sm := sm.trans u0
      -- the drawn things
      refine ⟨(by show 1 ≤ sizeLine; decide), fun q1 n1 => ?_⟩
      have u1 := same_new (o := .lst [.int 5]) n1
      have g1 : (upd H2 q1 (.lst [.int 5])) q1 = some (.lst [.int 5]) := upd_same
      generalize upd H2 q1 (.lst [.int 5]) = H3 at u1 g1 ⊢
      refine ⟨(by show 2 ≤ sizeLine; decide), fun q2 n2 => ?_⟩
      have u2 := same_new (o := .lst [.str "a", .non]) n2
      have g2 : (upd H3 q2 (.lst [.str "a", .non])) q2 = some (.lst [.str "a", .non]) := upd_same
      generalize upd H3 q2 (.lst [.str "a", .non]) = H4 at u2 g2 ⊢
      refine fun q3 n3 => ⟨upd_same, [(.inr "a", .int 1)], rfl, by decide, ?_⟩
      rw [upd_upd]
      have u3 := same_new (o := .dK (ddl false)) n3
      have g3 : (upd H4 q3 (.dK (ddl false))) q3 = some (.dK (ddl false)) := upd_same
      have em : mergeK [] [((Sum.inr ("a" : Str) : Key), V.int 1)] = ddl false := by rfl
      rw [em]
      generalize upd H4 q3 (.dK (ddl false)) = H5 at u3 g3 ⊢
      refine ⟨(by show 1 ≤ sizeLine; decide), fun q6 n6 => ?_⟩
      have u6 := same_new (o := .tup [.int 1]) n6
      have g6 : (upd H5 q6 (.tup [.int 1])) q6 = some (.tup [.int 1]) := upd_same
      generalize upd H5 q6 (.tup [.int 1]) = H6 at u6 g6 ⊢
      have u16 := (u2.trans u3).trans u6
      replace g1 := u16 _ _ g1
      replace g2 := (u3.trans u6) _ _ g2
      replace g3 := u6 _ _ g3
      replace hp := (u1.trans u16) _ _ hp
      replace sm := sm.trans (u1.trans u16)
      refine ⟨_, _, rfl, rfl, _, rfl, ps, r, m, 60, rfl, hp, ok, by decide, by decide, fun r' m' dn ok' d0 d1 => ?_⟩
      have smd : Same H (upd H6 ps (.lst [.int r', .int m'])) := only_upd on sm hp (fun _ _ z => by cases z)
      have ne1 : q1 ≠ ps := ne_of g1 hp (by intro z; cases z)
      have ne2 : q2 ≠ ps := ne_of g2 hp (by intro z; cases z)
      have ne3 : q3 ≠ ps := ne_of g3 hp (by intro z; cases z)
      have ne6 : q6 ≠ ps := ne_of g6 hp (by intro z; cases z)
      have k1 : (upd H6 ps (.lst [.int r', .int m'])) q1 = some (.lst (lsl true 0)) := by rw [upd_ne ne1]; exact g1
      have k2 : (upd H6 ps (.lst [.int r', .int m'])) q2 = some (.lst (lsl false 0)) := by rw [upd_ne ne2]; exact g2
      have k3 : (upd H6 ps (.lst [.int r', .int m'])) q3 = some (.dK (ddl false)) := by rw [upd_ne ne3]; exact g3
      have k6 : (upd H6 ps (.lst [.int r', .int m'])) q6 = some (.tup [.int 1]) := by rw [upd_ne ne6]; exact g6
      have hp7 : (upd H6 ps (.lst [.int r', .int m'])) ps = some (.lst [.int r', .int m']) := upd_same
      generalize upd H6 ps (.lst [.int r', .int m']) = H7 at smd k1 k2 k3 k6 hp7 ⊢
      refine ⟨(by show 9 ≤ sizeLine; decide), fun qs nqs => ?_⟩
      have u8 := same_new (o := .lst [.ref q1, .ref q2, .ref q3, .non, .str "x", .ref q6, .bl true, .int (0 - 3), .int dn]) nqs
      have gs : (upd H7 qs (.lst [.ref q1, .ref q2, .ref q3, .non, .str "x", .ref q6, .bl true, .int (0 - 3), .int dn])) qs = some (.lst [.ref q1, .ref q2, .ref q3, .non, .str "x", .ref q6, .bl true, .int (0 - 3), .int dn]) := upd_same
      generalize upd H7 qs (.lst [.ref q1, .ref q2, .ref q3, .non, .str "x", .ref q6, .bl true, .int (0 - 3), .int dn]) = H8 at u8 gs ⊢
      replace k1 := u8 _ _ k1
      replace k2 := u8 _ _ k2
      replace k3 := u8 _ _ k3
      replace k6 := u8 _ _ k6
      replace hp7 := u8 _ _ hp7
      replace smd := smd.trans u8
      have nes : qs ≠ ps := ne_of gs hp7 (by intro z; cases z)
      -- the first pick
      refine ⟨_, rfl, _, rfl, 3, rfl, qs, _, rfl, SqL.of gs, fun qc nqc => ?_⟩
      have cut : cutV [V.ref q1, .ref q2, .ref q3, .non, .str "x", .ref q6, .bl true, .int (0 - 3), .int dn] none (some 3) = [.ref q1, .ref q2, .ref q3] := by rfl
      rw [cut]
      have u9 := same_new (o := .lst [.ref q1, .ref q2, .ref q3]) nqc
      have gc : (upd H8 qc (.lst [.ref q1, .ref q2, .ref q3])) qc = some (.lst [.ref q1, .ref q2, .ref q3]) := upd_same
      generalize upd H8 qc (.lst [.ref q1, .ref q2, .ref q3]) = H9 at u9 gc ⊢
      replace gs := u9 _ _ gs
      replace k1 := u9 _ _ k1
      replace k2 := u9 _ _ k2
      replace k3 := u9 _ _ k3
      replace k6 := u9 _ _ k6
      replace hp7 := u9 _ _ hp7
      replace smd := smd.trans u9
      have nec : qc ≠ ps := ne_of gc hp7 (by intro z; cases z)
      refine ⟨ps, qc, r', m', _, rfl, nec, hp7, ok', .inl (SqL.of gc), by simp, (by show 3 ≤ 1000000; decide), fun r2 m2 x1 ok2 hx1 => ?_⟩
      obtain ⟨t1, rfl, ht1⟩ : ∃ t1, x1 = .ref t1 ∧ (t1 = q1 ∨ t1 = q2 ∨ t1 = q3) := by
        simp only [List.mem_cons, List.not_mem_nil, or_false] at hx1
        rcases hx1 with e | e | e
        · exact ⟨_, e, .inl rfl⟩
        · exact ⟨_, e, .inr (.inl rfl)⟩
        · exact ⟨_, e, .inr (.inr rfl)⟩
      replace smd := only_upd (o := .lst [.int r2, .int m2]) on smd hp7 (fun _ _ z => by cases z)
      replace k1 : (upd H9 ps (.lst [.int r2, .int m2])) q1 = some (.lst (lsl true 0)) := by rw [upd_ne ne1]; exact k1
      replace k2 : (upd H9 ps (.lst [.int r2, .int m2])) q2 = some (.lst (lsl false 0)) := by rw [upd_ne ne2]; exact k2
      replace k3 : (upd H9 ps (.lst [.int r2, .int m2])) q3 = some (.dK (ddl false)) := by rw [upd_ne ne3]; exact k3
      replace k6 : (upd H9 ps (.lst [.int r2, .int m2])) q6 = some (.tup [.int 1]) := by rw [upd_ne ne6]; exact k6
      replace gs := (upd_ne (H := H9) (o := .lst [.int r2, .int m2]) nes).trans gs
      replace hp7 : (upd H9 ps (.lst [.int r2, .int m2])) ps = some (.lst [.int r2, .int m2]) := upd_same
      generalize upd H9 ps (.lst [.int r2, .int m2]) = HA at smd k1 k2 k3 k6 gs hp7 ⊢
      -- the second pick
      refine ⟨_, rfl, _, rfl, ps, qs, r2, m2, _, rfl, nes, hp7, ok2, .inl (SqL.of gs), by simp, (by show 9 ≤ 1000000; decide), fun r3 m3 x2 ok3 hx2 => ?_⟩
      replace smd := only_upd (o := .lst [.int r3, .int m3]) on smd hp7 (fun _ _ z => by cases z)
      replace k1 : (upd HA ps (.lst [.int r3, .int m3])) q1 = some (.lst (lsl true 0)) := by rw [upd_ne ne1]; exact k1
      replace k2 : (upd HA ps (.lst [.int r3, .int m3])) q2 = some (.lst (lsl false 0)) := by rw [upd_ne ne2]; exact k2
      replace k3 : (upd HA ps (.lst [.int r3, .int m3])) q3 = some (.dK (ddl false)) := by rw [upd_ne ne3]; exact k3
      replace k6 : (upd HA ps (.lst [.int r3, .int m3])) q6 = some (.tup [.int 1]) := by rw [upd_ne ne6]; exact k6
      generalize upd HA ps (.lst [.int r3, .int m3]) = HB at smd k1 k2 k3 k6 ⊢
      have th1 : Th HB 0 (.ref t1) := by
        rcases ht1 with rfl | rfl | rfl
        · exact .lst _ true 0 k1 (Nat.le_refl _)
        · exact .lst _ false 0 k2 (Nat.le_refl _)
        · exact .dic _ false k3
      have th2 : Th HB 0 x2 := by
        simp only [List.mem_cons, List.not_mem_nil, or_false] at hx2
        rcases hx2 with rfl | rfl | rfl | rfl | rfl | rfl | rfl | rfl | rfl
        · exact .lst _ true 0 k1 (Nat.le_refl _)
        · exact .lst _ false 0 k2 (Nat.le_refl _)
        · exact .dic _ false k3
        · exact .non
        · exact .str
        · exact .tup _ k6
        · exact .bl
        · exact .int _ (by decide) (by decide)
        · exact .int _ (by omega) (by omega)
      clear k1 k2 k3 k6 gs gc hp7 hx2
      refine ⟨(by show 2 ≤ sizeLine; decide), fun L2 nL2 => ?_⟩
      have u10 := same_new (o := .lst [.ref t1, x2]) nL2
      have g2L : (upd HB L2 (.lst [.ref t1, x2])) L2 = some (.lst [.ref t1, x2]) := upd_same
      generalize upd HB L2 (.lst [.ref t1, x2]) = HC at u10 g2L ⊢
      replace smd := smd.trans u10
      replace th1 := th1.same u10
      replace th2 := th2.same u10
      refine ⟨L2, rfl, ⟨_, SqL.of g2L⟩, ?_⟩
      clear hp ok u0 u1 u2 u3 u6 u16 g1 g2 g3 g6 u8 u9 u10 sm ht1 ok2 ok3 ok'
      refine for_list (K := K) (a := L2) (xs := [.ref t1, x2]) (fun i2 σ H' => ∃ s4 s5 s6 s7 s8 : Option V, σ = [some (.ref a), some (.int (0 + (i : Int))), some (.ref ps), some (.ref qs), s4, s5, s6, s7, s8] ∧ Same H H' ∧ H' L2 = some (.lst [.ref t1, x2]) ∧ Th H' (2 * i2) (.ref t1) ∧ Th H' (2 * i2) x2)
        ⟨s4, s5, s6, s7, s8, rfl, smd, g2L, th1, th2⟩ (fun i2 σ H' _ ⟨_, _, _, _, _, _, _, z, _⟩ => SqL.of z) ?_ ?_
      · clear smd g2L th1 th2
        rintro i2 y σ H2' hy ⟨s4, s5, s6, s7, s8, rfl, smd, g2L, th1, th2⟩
        have hi2 : i2 < 2 := (List.getElem?_eq_some_iff.mp hy).1
        have th : Th H2' (2 * i2) y := by
          rcases i2 with _ | _ | i2
          · cases hy; exact th1
          · cases hy; exact th2
          · omega
        -- the two rows of errors
        refine ⟨_, rfl, y, rfl, fun p1 es1 H5 u5 e1 _ len1 r1 => ?_⟩
        refine ⟨_, rfl, y, rfl, fun p2 es2 H6 u6 e2 _ len2 r2 => ?_⟩
        refine ⟨(by show 2 ≤ sizeLine; decide), fun L3 nL3 => ?_⟩
        have u7 := same_new (o := .lst [.ref p1, .ref p2]) nL3
        have g3L : (upd H6 L3 (.lst [.ref p1, .ref p2])) L3 = some (.lst [.ref p1, .ref p2]) := upd_same
        generalize upd H6 L3 (.lst [.ref p1, .ref p2]) = H7 at u7 g3L ⊢
        have u57 := (u5.trans u6).trans u7
        have S0 : St6 C H H7 L2 L3 p1 p2 t1 x2 es1 es2 y (2 * i2) :=
          ⟨smd.trans u57, u57 _ _ g2L, g3L, (u6.trans u7) _ _ e1, u7 _ _ e2, (Errs.same (C := C) (u6.trans u7) ⟨len1, r1⟩), (Errs.same (C := C) u7 ⟨len2, r2⟩), th1.same u57, th2.same u57, th.same u57⟩
        clear u5 u6 u7 u57 e1 e2 r1 r2 len1 len2 nL3 smd g2L th1 th2 th g3L
        refine ⟨L3, rfl, ⟨_, SqL.of S0.l3⟩, ?_⟩
        refine for_list (K := K) (a := L3) (xs := [.ref p1, .ref p2]) (fun j σ H' => ∃ s5 s6 s7 s8 : Option V, σ = [some (.ref a), some (.int (0 + (i : Int))), some (.ref ps), some (.ref qs), some y, s5, s6, s7, s8] ∧ St6 C H H' L2 L3 p1 p2 t1 x2 es1 es2 y (2 * i2 + j))
          ⟨s5, s6, s7, s8, rfl, S0⟩ (fun j σ H' _ ⟨_, _, _, _, _, S⟩ => SqL.of S.l3) ?_ ?_
        · clear S0
          rintro j z σ H8 hz ⟨s5, s6, s7, s8, rfl, S⟩
          have hj2 : j < 2 := (List.getElem?_eq_some_iff.mp hz).1
          obtain ⟨pz, es, rfl, get⟩ : ∃ pz es, z = .ref pz ∧ ∀ Hn jn, St6 C H Hn L2 L3 p1 p2 t1 x2 es1 es2 y jn → Hn pz = some (.lst es) ∧ Errs C Hn es y := by
            rcases j with _ | _ | j
            · cases hz; exact ⟨p1, es1, rfl, fun _ _ S => ⟨S.e1, S.r1⟩⟩
            · cases hz; exact ⟨p2, es2, rfl, fun _ _ S => ⟨S.e2, S.r2⟩⟩
            · omega
          have lenE : es.length = 11 := (get _ _ S).2.1
          -- each error is of its class alone
          refine ⟨_, rfl, pz, es, rfl, SqL.of (get _ _ S).1, ?_⟩
          refine for_enum (K := K) (a := pz) (xs := es) (fun n σ Hn => ∃ s6 s7 s8 : Option V, σ = [some (.ref a), some (.int (0 + (i : Int))), some (.ref ps), some (.ref qs), some y, some (.ref pz), s6, s7, s8] ∧ St6 C H Hn L2 L3 p1 p2 t1 x2 es1 es2 y (2 * i2 + j))
            ⟨s6, s7, s8, rfl, S⟩ (fun n σ Hn _ ⟨_, _, _, _, S⟩ => SqL.of (get _ _ S).1) ?_ ?_
          · clear S
            rintro n x σ Hn Tn hx ⟨s6, s7, s8, rfl, S⟩ nT
            have hn : n < 11 := by
              have := (List.getElem?_eq_some_iff.mp hx).1
              omega
            refine ⟨Tn, _, rfl, SqT.of upd_same, rfl, _, _, rfl, _, _, rfl, rfl, ?_⟩
            replace S := S.same (same_new (o := .tup [.int ((n : Nat) : Int), x]) nT)
            generalize upd Hn Tn (.tup [.int ((n : Nat) : Int), x]) = Hm at S ⊢
            obtain ⟨ea, hea, he⟩ := (get _ _ S).2.2 n hn
            rw [hx] at hea
            cases hea
            obtain ⟨d, d1, d2⟩ := id he
            refine ⟨_, rfl, ea, _, d, _, _, _, _, rfl, d1, d2, (R.x n hn).xe, .own _, R.isW n hn, _, rfl, ?_⟩
            refine iteF ⟨_, rfl, ea, _, d, _, _, _, _, rfl, d1, d2, (R.x n hn).xe, .ty _, R.isV n hn, _, rfl, ?_⟩
            refine iteF ?_
            refine ⟨_, rfl, ea, n, y, rfl, hn, he, fun pk Hk sk nk ek => ?_⟩
            replace S := S.same sk
            refine ⟨11, rfl, by decide, by decide, fun Dc nD => ?_⟩
            refine lc_range (lo := 0) (n := 11) (fun i3 H9 => Same Hk H9 ∧ H9 Dc = some (.lst (rowV n i3))) ⟨same_new nD, upd_same⟩ ?_ ?_
            · rintro i3 H9 hi3 ⟨s9, hD⟩
              refine ⟨rfl, _, rfl, _, rfl, rfl, _, hD, ?_, same_upd s9 nD, ?_⟩
              · unfold rowV
                rw [List.length_map, List.length_range]
                exact small1000 (by omega)
              · rw [upd_same]
                unfold rowV
                rw [List.range_succ, List.map_append]
                rfl
            · rintro H9 ⟨s9, hD⟩
              replace S := S.same s9
              obtain ⟨sh, eq⟩ := datRow_ok ⟨n, hn⟩
              rw [rowV_row] at hD
              refine ⟨datRow n, datRow n, .lst (SqL.of (s9 _ _ ek)) (dpAll_bools _ _), .lst (SqL.of hD) (dpAll_bools _ _), sh, sh, _, rfl, ?_⟩
              rw [eq]
              exact iteF ⟨_, _, _, rfl, S⟩
          · rintro σ Hn ⟨s6, s7, s8, rfl, S⟩
            clear s5
            -- a list gets a 0, a dict an entry
            have part1 : (∃ t, TyX K Hn y t ∧ PySem.W.kitOne K t (.type "list") = some false) ∨ ∃ a b n, y = .ref a ∧ Hn a = some (.lst (lsl b n)) ∧ n ≤ 2 * i2 + j ∧ TyX K Hn y (.type "list") := S.h.isList
            rcases part1 with ⟨t, ty, ki⟩ | ⟨c, b, n, rfl, hc, hn, ty⟩
            case' inl =>
              refine ⟨_, rfl, _, _, _, _, _, rfl, .ty _, ty, ki, _, rfl, iteF ?_⟩
              replace S := S.more (Nat.le_succ _)
            case' inr =>
              refine ⟨_, rfl, _, _, _, _, _, rfl, .ty _, ty, kit_ty (r := true) (by decide +kernel), _, rfl, iteT ?_⟩
              refine ⟨_, rfl, .inl ⟨rfl, _, SqL.of hc⟩, c, _, _, rfl, rfl, hc, ?_, ?_⟩
              · have : (lsl b n).length ≤ n + 2 := by unfold lsl; cases b <;> simp [bsl]
                exact small1000 (by omega)
              rw [lsl_more]
              replace S := S.put on hc hn
              generalize upd Hn c (.lst (lsl b (n + 1))) = Hn at S ⊢
            all_goals
              rcases S.h.isDict with ⟨t, ty, ki⟩ | ⟨c, m, e, hc, ty⟩
              case' inl =>
                refine ⟨_, rfl, _, _, _, _, _, rfl, .ty _, ty, ki, _, rfl, iteF ?_⟩
              case' inr =>
                cases e
                refine ⟨_, rfl, _, _, _, _, _, rfl, .ty _, ty, kit_ty (r := true) (by decide +kernel), _, rfl, iteT ?_⟩
                refine ⟨_, rfl, c, _, rfl, DPut.k (k := Sum.inr "more") hc (by cases m <;> exact small1000 (by decide)), ?_⟩
                rw [put_dd]
                replace S := S.putD on hc
                generalize upd _ c (.dK (ddl true)) = Hn at S ⊢
              all_goals
                obtain ⟨dd, hd, hf⟩ := S.h.data (by omega)
                refine ⟨_, rfl, pz, es, _, rfl, SqL.of (get _ _ S).1, (get _ _ S).2, fun q Hq sq nq eq => ?_⟩
                obtain ⟨f1, f2, f3, f4⟩ := rep_of eq (hd.same sq) hf
                refine ⟨q, _, rfl, f1, f2, f3, f4, ?_⟩
                refine ⟨_, rfl, (by show 1 ≤ sizeLine; decide), fun r1 nr1 => ?_⟩
                refine ⟨r1, 11, _, rfl, rfl, upd_same, by decide, by decide, (by show 11 ≤ sizeLine; decide), fun r2 nr2 => ?_⟩
                have v1 : ∀ z : V, Same Hq (upd Hq r1 (.lst [z])) := fun z => same_new nr1
                obtain ⟨f5, f6, f7, f8⟩ := rep_of upd_same (hd.same (sq.trans ((v1 _).trans (same_new nr2)))) hf
                refine ⟨r2, _, rfl, f5, f6, f7, f8, ?_⟩
                refine ⟨rfl, _, rfl, iteNS rfl ?_⟩
                exact ⟨_, _, _, _, rfl, S.same (sq.trans ((v1 _).trans (same_new nr2)))⟩
        · rintro σ H8 ⟨s5, s6, s7, s8, rfl, S⟩
          exact ⟨_, _, _, _, _, rfl, S.s, S.l2, S.h1.more (by show 2 * i2 + 2 ≤ 2 * (i2 + 1); omega), S.h2.more (by show 2 * i2 + 2 ≤ 2 * (i2 + 1); omega)⟩
      · rintro σ H8 ⟨s4, s5, s6, s7, s8, rfl, smd, _⟩
        exact ⟨_, _, _, _, _, _, _, _, rfl, smd⟩
    · rintro σ H1 ⟨s1, s2, s3, s4, s5, s6, s7, s8, rfl, sm⟩
      exact k H1
end
end P61

set_option Elab.async false
set_option linter.all false
set_option maxRecDepth 100000
set_option maxHeartbeats 4000000
namespace P61
open PySem PySem.Spec PyProof.Rows L2 Ct
section
variable {P : Program} {w : World} {K : PySem.W.Frag} {mg : Str → Option Value} {base : Heap}
theorem xcls_mk {h : Heap} {C fI N : Addr} {nm q : Str} {bs bm sn' : List Value} {sn : List Str} {sub : List Value} {ab : Bool} {col : Option Bool} {dd : Option Addr} {k0 k1 k2 k3 k5 : Option Value} (X : K.In h)
    (xL : K.lookup C = some (excClassObj nm q C N bs bm true sn sub ab col dd k0 k1 k2 k3 k5 "ValueError.__new__")) (hbm : PySem.HandSPX.refsVE bm = true) (sa : PySem.W.findIn K (.ref C) "__setattr__" = some (some (.builtin "object.__setattr__")))
    (hs : PySem.W.subIn K (.ref C) (.type "BaseException") = some true) (ty : PySem.W.typeIn K (.ref C) = some (.type "type")) (kC : PySem.W.keepIn K (.ref C) = true) (hg : PySem.W.findIn K (.ref C) "__getattribute__" = some (some (.builtin "BaseException.__getattribute__")))
    (hk : PySem.W.findIn K (.ref C) "__getattr__" = some none) (hd : PySem.W.hasDictIn K C = true) (ha : PySem.W.findIn K (.ref C) "__class__" = some (some (.builtin "object.__class__")))
    (hn : PySem.W.specialIn K (.builtin "object.__class__") "__get__" = some (some (.builtin "getset_descriptor.__get__"))) (ht : PySem.W.takesIn K (.builtin "object.__class__") = some true) (hm : PySem.W.mroIn K C (.type "object") = some true)
    (iC : PySem.W.findIn K (.ref C) "__init__" = some (some (.ref fI))) (tI : PySem.W.typeIn K (.ref fI) = some (.type "function")) : XCls K C fI :=
  ⟨⟨⟨nm, q, N, bs, bm, sn, sub, ab, col, dd, k0, k1, k2, k3, k5, xL, hbm⟩, sa, hs, ty, kC⟩, ⟨hg, hk, hs, hd, ha, hn, ht, hm⟩, iC, tI⟩

abbrev sX0 : Stmt := inClass (top 2) 0
theorem scX0 : FnScope ["self", "value"] ["self", "value"] (defScope sX0) := ⟨rfl, rfl, rfl, by decide +kernel, rfl, by decide +kernel, by decide +kernel⟩
theorem hasX0 {C fI : Addr} {fd : FuncData} (F : Fun K "__init__" "BadPlaces.__init__" sX0 fI fd) (T : XCls K C fI) (no : PySem.W.findIn K (.ref C) (fld 0) = some none) : HasX P w K mg base 1 C fI (fld 0) := by
  refine ⟨T, fd, F.ok scX0 (fun vs H Q E h => ?_) (fun cdv A outer s H vs Q E hr h => ?_), fun s a w => ?_, fun s a w => ?_⟩
  · obtain ⟨a, v, rfl, _⟩ := h; rfl
  · obtain ⟨a, v, rfl, ha, k⟩ := h
    exact ⟨_, pss_one (ps_ost (pv 0) (pv 1)), _, rfl, _, rfl, a, C, rfl, T.ox, no, .inl ⟨ha, fun dx n ne => k dx n ne⟩⟩
  · obtain ⟨oc, od, kV, doc, pm, an, cdv, ct, osl, rfl, lk, hcd⟩ := F.ex
    exact .of_eq rfl
  · obtain ⟨oc, od, kV, doc, pm, an, cdv, ct, osl, rfl, lk, hcd⟩ := F.ex
    exact .of_eq rfl

abbrev sX1 : Stmt := inClass (top 3) 0
theorem scX1 : FnScope ["self", "value"] ["self", "value"] (defScope sX1) := ⟨rfl, rfl, rfl, by decide +kernel, rfl, by decide +kernel, by decide +kernel⟩
theorem hasX1 {C fI : Addr} {fd : FuncData} (F : Fun K "__init__" "BadTies.__init__" sX1 fI fd) (T : XCls K C fI) (no : PySem.W.findIn K (.ref C) (fld 1) = some none) : HasX P w K mg base 1 C fI (fld 1) := by
  refine ⟨T, fd, F.ok scX1 (fun vs H Q E h => ?_) (fun cdv A outer s H vs Q E hr h => ?_), fun s a w => ?_, fun s a w => ?_⟩
  · obtain ⟨a, v, rfl, _⟩ := h; rfl
  · obtain ⟨a, v, rfl, ha, k⟩ := h
    exact ⟨_, pss_one (ps_ost (pv 0) (pv 1)), _, rfl, _, rfl, a, C, rfl, T.ox, no, .inl ⟨ha, fun dx n ne => k dx n ne⟩⟩
  · obtain ⟨oc, od, kV, doc, pm, an, cdv, ct, osl, rfl, lk, hcd⟩ := F.ex
    exact .of_eq rfl
  · obtain ⟨oc, od, kV, doc, pm, an, cdv, ct, osl, rfl, lk, hcd⟩ := F.ex
    exact .of_eq rfl

abbrev sX2 : Stmt := inClass (top 5) 0
theorem scX2 : FnScope ["self", "value"] ["self", "value"] (defScope sX2) := ⟨rfl, rfl, rfl, by decide +kernel, rfl, by decide +kernel, by decide +kernel⟩
theorem hasX2 {C fI : Addr} {fd : FuncData} (F : Fun K "__init__" "NoPlace.__init__" sX2 fI fd) (T : XCls K C fI) (no : PySem.W.findIn K (.ref C) (fld 2) = some none) : HasX P w K mg base 1 C fI (fld 2) := by
  refine ⟨T, fd, F.ok scX2 (fun vs H Q E h => ?_) (fun cdv A outer s H vs Q E hr h => ?_), fun s a w => ?_, fun s a w => ?_⟩
  · obtain ⟨a, v, rfl, _⟩ := h; rfl
  · obtain ⟨a, v, rfl, ha, k⟩ := h
    exact ⟨_, pss_one (ps_ost (pv 0) (pv 1)), _, rfl, _, rfl, a, C, rfl, T.ox, no, .inl ⟨ha, fun dx n ne => k dx n ne⟩⟩
  · obtain ⟨oc, od, kV, doc, pm, an, cdv, ct, osl, rfl, lk, hcd⟩ := F.ex
    exact .of_eq rfl
  · obtain ⟨oc, od, kV, doc, pm, an, cdv, ct, osl, rfl, lk, hcd⟩ := F.ex
    exact .of_eq rfl

abbrev sX3 : Stmt := inClass (top 6) 0
theorem scX3 : FnScope ["self", "value"] ["self", "value"] (defScope sX3) := ⟨rfl, rfl, rfl, by decide +kernel, rfl, by decide +kernel, by decide +kernel⟩
theorem hasX3 {C fI : Addr} {fd : FuncData} (F : Fun K "__init__" "BadPlan.__init__" sX3 fI fd) (T : XCls K C fI) (no : PySem.W.findIn K (.ref C) (fld 3) = some none) : HasX P w K mg base 1 C fI (fld 3) := by
  refine ⟨T, fd, F.ok scX3 (fun vs H Q E h => ?_) (fun cdv A outer s H vs Q E hr h => ?_), fun s a w => ?_, fun s a w => ?_⟩
  · obtain ⟨a, v, rfl, _⟩ := h; rfl
  · obtain ⟨a, v, rfl, ha, k⟩ := h
    exact ⟨_, pss_one (ps_ost (pv 0) (pv 1)), _, rfl, _, rfl, a, C, rfl, T.ox, no, .inl ⟨ha, fun dx n ne => k dx n ne⟩⟩
  · obtain ⟨oc, od, kV, doc, pm, an, cdv, ct, osl, rfl, lk, hcd⟩ := F.ex
    exact .of_eq rfl
  · obtain ⟨oc, od, kV, doc, pm, an, cdv, ct, osl, rfl, lk, hcd⟩ := F.ex
    exact .of_eq rfl

abbrev sX4 : Stmt := inClass (top 7) 0
theorem scX4 : FnScope ["self", "value"] ["self", "value"] (defScope sX4) := ⟨rfl, rfl, rfl, by decide +kernel, rfl, by decide +kernel, by decide +kernel⟩
theorem hasX4 {C fI : Addr} {fd : FuncData} (F : Fun K "__init__" "BadPiece.__init__" sX4 fI fd) (T : XCls K C fI) (no : PySem.W.findIn K (.ref C) (fld 4) = some none) : HasX P w K mg base 1 C fI (fld 4) := by
  refine ⟨T, fd, F.ok scX4 (fun vs H Q E h => ?_) (fun cdv A outer s H vs Q E hr h => ?_), fun s a w => ?_, fun s a w => ?_⟩
  · obtain ⟨a, v, rfl, _⟩ := h; rfl
  · obtain ⟨a, v, rfl, ha, k⟩ := h
    exact ⟨_, pss_one (ps_ost (pv 0) (pv 1)), _, rfl, _, rfl, a, C, rfl, T.ox, no, .inl ⟨ha, fun dx n ne => k dx n ne⟩⟩
  · obtain ⟨oc, od, kV, doc, pm, an, cdv, ct, osl, rfl, lk, hcd⟩ := F.ex
    exact .of_eq rfl
  · obtain ⟨oc, od, kV, doc, pm, an, cdv, ct, osl, rfl, lk, hcd⟩ := F.ex
    exact .of_eq rfl

abbrev sX5 : Stmt := inClass (top 10) 0
theorem scX5 : FnScope ["self", "value"] ["self", "value"] (defScope sX5) := ⟨rfl, rfl, rfl, by decide +kernel, rfl, by decide +kernel, by decide +kernel⟩
theorem hasX5 {C fI : Addr} {fd : FuncData} (F : Fun K "__init__" "BadMove.__init__" sX5 fI fd) (T : XCls K C fI) (no : PySem.W.findIn K (.ref C) (fld 5) = some none) : HasX P w K mg base 1 C fI (fld 5) := by
  refine ⟨T, fd, F.ok scX5 (fun vs H Q E h => ?_) (fun cdv A outer s H vs Q E hr h => ?_), fun s a w => ?_, fun s a w => ?_⟩
  · obtain ⟨a, v, rfl, _⟩ := h; rfl
  · obtain ⟨a, v, rfl, ha, k⟩ := h
    exact ⟨_, pss_one (ps_ost (pv 0) (pv 1)), _, rfl, _, rfl, a, C, rfl, T.ox, no, .inl ⟨ha, fun dx n ne => k dx n ne⟩⟩
  · obtain ⟨oc, od, kV, doc, pm, an, cdv, ct, osl, rfl, lk, hcd⟩ := F.ex
    exact .of_eq rfl
  · obtain ⟨oc, od, kV, doc, pm, an, cdv, ct, osl, rfl, lk, hcd⟩ := F.ex
    exact .of_eq rfl

abbrev sX6 : Stmt := inClass (top 4) 0
theorem scX6 : FnScope ["self", "position"] ["self", "position"] (defScope sX6) := ⟨rfl, rfl, rfl, by decide +kernel, rfl, by decide +kernel, by decide +kernel⟩
theorem hasX6 {C fI : Addr} {fd : FuncData} (F : Fun K "__init__" "BadTie.__init__" sX6 fI fd) (T : XCls K C fI) (no : PySem.W.findIn K (.ref C) (fld 6) = some none) : HasX P w K mg base 1 C fI (fld 6) := by
  refine ⟨T, fd, F.ok scX6 (fun vs H Q E h => ?_) (fun cdv A outer s H vs Q E hr h => ?_), fun s a w => ?_, fun s a w => ?_⟩
  · obtain ⟨a, v, rfl, _⟩ := h; rfl
  · obtain ⟨a, v, rfl, ha, k⟩ := h
    exact ⟨_, pss_one (ps_ost (pv 0) (pv 1)), _, rfl, _, rfl, a, C, rfl, T.ox, no, .inl ⟨ha, fun dx n ne => k dx n ne⟩⟩
  · obtain ⟨oc, od, kV, doc, pm, an, cdv, ct, osl, rfl, lk, hcd⟩ := F.ex
    exact .of_eq rfl
  · obtain ⟨oc, od, kV, doc, pm, an, cdv, ct, osl, rfl, lk, hcd⟩ := F.ex
    exact .of_eq rfl

abbrev sX7 : Stmt := inClass (top 8) 0
theorem scX7 : FnScope ["self", "piece"] ["self", "piece"] (defScope sX7) := ⟨rfl, rfl, rfl, by decide +kernel, rfl, by decide +kernel, by decide +kernel⟩
theorem hasX7 {C fI : Addr} {fd : FuncData} (F : Fun K "__init__" "HasGlue.__init__" sX7 fI fd) (T : XCls K C fI) (no : PySem.W.findIn K (.ref C) (fld 7) = some none) : HasX P w K mg base 1 C fI (fld 7) := by
  refine ⟨T, fd, F.ok scX7 (fun vs H Q E h => ?_) (fun cdv A outer s H vs Q E hr h => ?_), fun s a w => ?_, fun s a w => ?_⟩
  · obtain ⟨a, v, rfl, _⟩ := h; rfl
  · obtain ⟨a, v, rfl, ha, k⟩ := h
    exact ⟨_, pss_one (ps_ost (pv 0) (pv 1)), _, rfl, _, rfl, a, C, rfl, T.ox, no, .inl ⟨ha, fun dx n ne => k dx n ne⟩⟩
  · obtain ⟨oc, od, kV, doc, pm, an, cdv, ct, osl, rfl, lk, hcd⟩ := F.ex
    exact .of_eq rfl
  · obtain ⟨oc, od, kV, doc, pm, an, cdv, ct, osl, rfl, lk, hcd⟩ := F.ex
    exact .of_eq rfl

abbrev sX8 : Stmt := inClass (top 9) 0
theorem scX8 : FnScope ["self", "count"] ["self", "count"] (defScope sX8) := ⟨rfl, rfl, rfl, by decide +kernel, rfl, by decide +kernel, by decide +kernel⟩
theorem hasX8 {C fI : Addr} {fd : FuncData} (F : Fun K "__init__" "TooMany.__init__" sX8 fI fd) (T : XCls K C fI) (no : PySem.W.findIn K (.ref C) (fld 8) = some none) : HasX P w K mg base 1 C fI (fld 8) := by
  refine ⟨T, fd, F.ok scX8 (fun vs H Q E h => ?_) (fun cdv A outer s H vs Q E hr h => ?_), fun s a w => ?_, fun s a w => ?_⟩
  · obtain ⟨a, v, rfl, _⟩ := h; rfl
  · obtain ⟨a, v, rfl, ha, k⟩ := h
    exact ⟨_, pss_one (ps_ost (pv 0) (pv 1)), _, rfl, _, rfl, a, C, rfl, T.ox, no, .inl ⟨ha, fun dx n ne => k dx n ne⟩⟩
  · obtain ⟨oc, od, kV, doc, pm, an, cdv, ct, osl, rfl, lk, hcd⟩ := F.ex
    exact .of_eq rfl
  · obtain ⟨oc, od, kV, doc, pm, an, cdv, ct, osl, rfl, lk, hcd⟩ := F.ex
    exact .of_eq rfl

abbrev sX9 : Stmt := inClass (top 11) 0
theorem scX9 : FnScope ["self", "count"] ["self", "count"] (defScope sX9) := ⟨rfl, rfl, rfl, by decide +kernel, rfl, by decide +kernel, by decide +kernel⟩
theorem hasX9 {C fI : Addr} {fd : FuncData} (F : Fun K "__init__" "TooFar.__init__" sX9 fI fd) (T : XCls K C fI) (no : PySem.W.findIn K (.ref C) (fld 9) = some none) : HasX P w K mg base 1 C fI (fld 9) := by
  refine ⟨T, fd, F.ok scX9 (fun vs H Q E h => ?_) (fun cdv A outer s H vs Q E hr h => ?_), fun s a w => ?_, fun s a w => ?_⟩
  · obtain ⟨a, v, rfl, _⟩ := h; rfl
  · obtain ⟨a, v, rfl, ha, k⟩ := h
    exact ⟨_, pss_one (ps_ost (pv 0) (pv 1)), _, rfl, _, rfl, a, C, rfl, T.ox, no, .inl ⟨ha, fun dx n ne => k dx n ne⟩⟩
  · obtain ⟨oc, od, kV, doc, pm, an, cdv, ct, osl, rfl, lk, hcd⟩ := F.ex
    exact .of_eq rfl
  · obtain ⟨oc, od, kV, doc, pm, an, cdv, ct, osl, rfl, lk, hcd⟩ := F.ex
    exact .of_eq rfl

abbrev sX10 : Stmt := inClass (top 12) 0
theorem scX10 : FnScope ["self", "line"] ["self", "line"] (defScope sX10) := ⟨rfl, rfl, rfl, by decide +kernel, rfl, by decide +kernel, by decide +kernel⟩
theorem hasX10 {C fI : Addr} {fd : FuncData} (F : Fun K "__init__" "BadText.__init__" sX10 fI fd) (T : XCls K C fI) (no : PySem.W.findIn K (.ref C) (fld 10) = some none) : HasX P w K mg base 1 C fI (fld 10) := by
  refine ⟨T, fd, F.ok scX10 (fun vs H Q E h => ?_) (fun cdv A outer s H vs Q E hr h => ?_), fun s a w => ?_, fun s a w => ?_⟩
  · obtain ⟨a, v, rfl, _⟩ := h; rfl
  · obtain ⟨a, v, rfl, ha, k⟩ := h
    exact ⟨_, pss_one (ps_ost (pv 0) (pv 1)), _, rfl, _, rfl, a, C, rfl, T.ox, no, .inl ⟨ha, fun dx n ne => k dx n ne⟩⟩
  · obtain ⟨oc, od, kV, doc, pm, an, cdv, ct, osl, rfl, lk, hcd⟩ := F.ex
    exact .of_eq rfl
  · obtain ⟨oc, od, kV, doc, pm, an, cdv, ct, osl, rfl, lk, hcd⟩ := F.ex
    exact .of_eq rfl

def pick11 (C0 C1 C2 C3 C4 C5 C6 C7 C8 C9 C10 : Addr) (i : Nat) : Addr := [C0, C1, C2, C3, C4, C5, C6, C7, C8, C9, C10].getD i 0

theorem fin_mk {l : PySem.W.OpenLaw} {h : Heap} {fa : Addr} (X : K.In h) (G : h.Ns mainGlobals mg) (hfa : mg "law" = some (.ref fa))
    {CW C0 C1 C2 C3 C4 C5 C6 C7 C8 C9 C10 f0 f1 f2 f3 f4 f5 f6 f7 f8 f9 f10 : Addr}
    {n0 : Addr} {nm0 q0 : Str} {bs0 bm0 : List Value} {sn0 : List Str} {sub0 : List Value} {ab0 : Bool} {col0 : Option Bool} {dd0 : Option Addr} {k00 k10 k20 k30 k50 : Option Value}
    {oc0 : Value} {od0 an0 : Option Addr} {os0 : Array (Option Value)} {kV0 do0 pm0 cd0 ct0 : Value}
    {n1 : Addr} {nm1 q1 : Str} {bs1 bm1 : List Value} {sn1 : List Str} {sub1 : List Value} {ab1 : Bool} {col1 : Option Bool} {dd1 : Option Addr} {k01 k11 k21 k31 k51 : Option Value}
    {oc1 : Value} {od1 an1 : Option Addr} {os1 : Array (Option Value)} {kV1 do1 pm1 cd1 ct1 : Value}
    {n2 : Addr} {nm2 q2 : Str} {bs2 bm2 : List Value} {sn2 : List Str} {sub2 : List Value} {ab2 : Bool} {col2 : Option Bool} {dd2 : Option Addr} {k02 k12 k22 k32 k52 : Option Value}
    {oc2 : Value} {od2 an2 : Option Addr} {os2 : Array (Option Value)} {kV2 do2 pm2 cd2 ct2 : Value}
    {n3 : Addr} {nm3 q3 : Str} {bs3 bm3 : List Value} {sn3 : List Str} {sub3 : List Value} {ab3 : Bool} {col3 : Option Bool} {dd3 : Option Addr} {k03 k13 k23 k33 k53 : Option Value}
    {oc3 : Value} {od3 an3 : Option Addr} {os3 : Array (Option Value)} {kV3 do3 pm3 cd3 ct3 : Value}
    {n4 : Addr} {nm4 q4 : Str} {bs4 bm4 : List Value} {sn4 : List Str} {sub4 : List Value} {ab4 : Bool} {col4 : Option Bool} {dd4 : Option Addr} {k04 k14 k24 k34 k54 : Option Value}
    {oc4 : Value} {od4 an4 : Option Addr} {os4 : Array (Option Value)} {kV4 do4 pm4 cd4 ct4 : Value}
    {n5 : Addr} {nm5 q5 : Str} {bs5 bm5 : List Value} {sn5 : List Str} {sub5 : List Value} {ab5 : Bool} {col5 : Option Bool} {dd5 : Option Addr} {k05 k15 k25 k35 k55 : Option Value}
    {oc5 : Value} {od5 an5 : Option Addr} {os5 : Array (Option Value)} {kV5 do5 pm5 cd5 ct5 : Value}
    {n6 : Addr} {nm6 q6 : Str} {bs6 bm6 : List Value} {sn6 : List Str} {sub6 : List Value} {ab6 : Bool} {col6 : Option Bool} {dd6 : Option Addr} {k06 k16 k26 k36 k56 : Option Value}
    {oc6 : Value} {od6 an6 : Option Addr} {os6 : Array (Option Value)} {kV6 do6 pm6 cd6 ct6 : Value}
    {n7 : Addr} {nm7 q7 : Str} {bs7 bm7 : List Value} {sn7 : List Str} {sub7 : List Value} {ab7 : Bool} {col7 : Option Bool} {dd7 : Option Addr} {k07 k17 k27 k37 k57 : Option Value}
    {oc7 : Value} {od7 an7 : Option Addr} {os7 : Array (Option Value)} {kV7 do7 pm7 cd7 ct7 : Value}
    {n8 : Addr} {nm8 q8 : Str} {bs8 bm8 : List Value} {sn8 : List Str} {sub8 : List Value} {ab8 : Bool} {col8 : Option Bool} {dd8 : Option Addr} {k08 k18 k28 k38 k58 : Option Value}
    {oc8 : Value} {od8 an8 : Option Addr} {os8 : Array (Option Value)} {kV8 do8 pm8 cd8 ct8 : Value}
    {n9 : Addr} {nm9 q9 : Str} {bs9 bm9 : List Value} {sn9 : List Str} {sub9 : List Value} {ab9 : Bool} {col9 : Option Bool} {dd9 : Option Addr} {k09 k19 k29 k39 k59 : Option Value}
    {oc9 : Value} {od9 an9 : Option Addr} {os9 : Array (Option Value)} {kV9 do9 pm9 cd9 ct9 : Value}
    {n10 : Addr} {nm10 q10 : Str} {bs10 bm10 : List Value} {sn10 : List Str} {sub10 : List Value} {ab10 : Bool} {col10 : Option Bool} {dd10 : Option Addr} {k010 k110 k210 k310 k510 : Option Value}
    {oc10 : Value} {od10 an10 : Option Addr} {os10 : Array (Option Value)} {kV10 do10 pm10 cd10 ct10 : Value}
    {fa0 : Addr} {uo0 : Value} {ud0 ua0 : Option Addr} {us0 : Array (Option Value)} {uk0 uc0 up0 ue0 ut0 : Value}
    {fa1 : Addr} {uo1 : Value} {ud1 ua1 : Option Addr} {us1 : Array (Option Value)} {uk1 uc1 up1 ue1 ut1 : Value}
    {fa2 : Addr} {uo2 : Value} {ud2 ua2 : Option Addr} {us2 : Array (Option Value)} {uk2 uc2 up2 ue2 ut2 : Value}
    {fa3 : Addr} {uo3 : Value} {ud3 ua3 : Option Addr} {us3 : Array (Option Value)} {uk3 uc3 up3 ue3 ut3 : Value}
    {fa4 : Addr} {uo4 : Value} {ud4 ua4 : Option Addr} {us4 : Array (Option Value)} {uk4 uc4 up4 ue4 ut4 : Value}
    {fa5 : Addr} {uo5 : Value} {ud5 ua5 : Option Addr} {us5 : Array (Option Value)} {uk5 uc5 up5 ue5 ut5 : Value}
    {fa6 : Addr} {uo6 : Value} {ud6 ua6 : Option Addr} {us6 : Array (Option Value)} {uk6 uc6 up6 ue6 ut6 : Value}
    {fa7 : Addr} {uo7 : Value} {ud7 ua7 : Option Addr} {us7 : Array (Option Value)} {uk7 uc7 up7 ue7 ut7 : Value}
    (aW : PySem.W.nsIn K mainGlobals "WebError" = some (some (.ref CW)))
    (a0 : PySem.W.nsIn K mainGlobals "BadPlaces" = some (some (.ref C0)))
    (x0 : K.lookup C0 = some (excClassObj nm0 q0 C0 n0 bs0 bm0 true sn0 sub0 ab0 col0 dd0 k00 k10 k20 k30 k50 "ValueError.__new__"))
    (v0 : PySem.HandSPX.refsVE bm0 = true)
    (s0 : PySem.W.findIn K (.ref C0) "__setattr__" = some (some (.builtin "object.__setattr__")))
    (b0 : PySem.W.subIn K (.ref C0) (.type "BaseException") = some true)
    (t0 : PySem.W.typeIn K (.ref C0) = some (.type "type"))
    (kp0 : PySem.W.keepIn K (.ref C0) = true)
    (g0 : PySem.W.findIn K (.ref C0) "__getattribute__" = some (some (.builtin "BaseException.__getattribute__")))
    (gg0 : PySem.W.findIn K (.ref C0) "__getattr__" = some none)
    (d0 : PySem.W.hasDictIn K C0 = true)
    (cl0 : PySem.W.findIn K (.ref C0) "__class__" = some (some (.builtin "object.__class__")))
    (m0 : PySem.W.mroIn K C0 (.type "object") = some true)
    (no0 : PySem.W.findIn K (.ref C0) (fld 0) = some none)
    (i0 : PySem.W.findIn K (.ref C0) "__init__" = some (some (.ref f0)))
    (ti0 : PySem.W.typeIn K (.ref f0) = some (.type "function"))
    (l0 : K.lookup f0 = some ⟨oc0, od0, .func (PySem.W.fnOf "__init__" "BadPlaces.__init__" (defArgs sX0) (defBody sX0) (defScope sX0) .none kV0 do0 pm0 an0 cd0 ct0), os0⟩)
    (c0 : PySem.W.codeIn K cd0 "BadPlaces.__init__" = true)
    (kf0 : PySem.W.keepIn K (.ref f0) = true)
    (w0 : PySem.W.kitOne K (.ref C0) (.ref CW) = some true)
    (ve0 : PySem.W.kitOne K (.ref C0) (.type "ValueError") = some true)
    (a1 : PySem.W.nsIn K mainGlobals "BadTies" = some (some (.ref C1)))
    (x1 : K.lookup C1 = some (excClassObj nm1 q1 C1 n1 bs1 bm1 true sn1 sub1 ab1 col1 dd1 k01 k11 k21 k31 k51 "ValueError.__new__"))
    (v1 : PySem.HandSPX.refsVE bm1 = true)
    (s1 : PySem.W.findIn K (.ref C1) "__setattr__" = some (some (.builtin "object.__setattr__")))
    (b1 : PySem.W.subIn K (.ref C1) (.type "BaseException") = some true)
    (t1 : PySem.W.typeIn K (.ref C1) = some (.type "type"))
    (kp1 : PySem.W.keepIn K (.ref C1) = true)
    (g1 : PySem.W.findIn K (.ref C1) "__getattribute__" = some (some (.builtin "BaseException.__getattribute__")))
    (gg1 : PySem.W.findIn K (.ref C1) "__getattr__" = some none)
    (d1 : PySem.W.hasDictIn K C1 = true)
    (cl1 : PySem.W.findIn K (.ref C1) "__class__" = some (some (.builtin "object.__class__")))
    (m1 : PySem.W.mroIn K C1 (.type "object") = some true)
    (no1 : PySem.W.findIn K (.ref C1) (fld 1) = some none)
    (i1 : PySem.W.findIn K (.ref C1) "__init__" = some (some (.ref f1)))
    (ti1 : PySem.W.typeIn K (.ref f1) = some (.type "function"))
    (l1 : K.lookup f1 = some ⟨oc1, od1, .func (PySem.W.fnOf "__init__" "BadTies.__init__" (defArgs sX1) (defBody sX1) (defScope sX1) .none kV1 do1 pm1 an1 cd1 ct1), os1⟩)
    (c1 : PySem.W.codeIn K cd1 "BadTies.__init__" = true)
    (kf1 : PySem.W.keepIn K (.ref f1) = true)
    (w1 : PySem.W.kitOne K (.ref C1) (.ref CW) = some true)
    (ve1 : PySem.W.kitOne K (.ref C1) (.type "ValueError") = some true)
    (a2 : PySem.W.nsIn K mainGlobals "NoPlace" = some (some (.ref C2)))
    (x2 : K.lookup C2 = some (excClassObj nm2 q2 C2 n2 bs2 bm2 true sn2 sub2 ab2 col2 dd2 k02 k12 k22 k32 k52 "ValueError.__new__"))
    (v2 : PySem.HandSPX.refsVE bm2 = true)
    (s2 : PySem.W.findIn K (.ref C2) "__setattr__" = some (some (.builtin "object.__setattr__")))
    (b2 : PySem.W.subIn K (.ref C2) (.type "BaseException") = some true)
    (t2 : PySem.W.typeIn K (.ref C2) = some (.type "type"))
    (kp2 : PySem.W.keepIn K (.ref C2) = true)
    (g2 : PySem.W.findIn K (.ref C2) "__getattribute__" = some (some (.builtin "BaseException.__getattribute__")))
    (gg2 : PySem.W.findIn K (.ref C2) "__getattr__" = some none)
    (d2 : PySem.W.hasDictIn K C2 = true)
    (cl2 : PySem.W.findIn K (.ref C2) "__class__" = some (some (.builtin "object.__class__")))
    (m2 : PySem.W.mroIn K C2 (.type "object") = some true)
    (no2 : PySem.W.findIn K (.ref C2) (fld 2) = some none)
    (i2 : PySem.W.findIn K (.ref C2) "__init__" = some (some (.ref f2)))
    (ti2 : PySem.W.typeIn K (.ref f2) = some (.type "function"))
    (l2 : K.lookup f2 = some ⟨oc2, od2, .func (PySem.W.fnOf "__init__" "NoPlace.__init__" (defArgs sX2) (defBody sX2) (defScope sX2) .none kV2 do2 pm2 an2 cd2 ct2), os2⟩)
    (c2 : PySem.W.codeIn K cd2 "NoPlace.__init__" = true)
    (kf2 : PySem.W.keepIn K (.ref f2) = true)
    (w2 : PySem.W.kitOne K (.ref C2) (.ref CW) = some true)
    (ve2 : PySem.W.kitOne K (.ref C2) (.type "ValueError") = some true)
    (a3 : PySem.W.nsIn K mainGlobals "BadPlan" = some (some (.ref C3)))
    (x3 : K.lookup C3 = some (excClassObj nm3 q3 C3 n3 bs3 bm3 true sn3 sub3 ab3 col3 dd3 k03 k13 k23 k33 k53 "ValueError.__new__"))
    (v3 : PySem.HandSPX.refsVE bm3 = true)
    (s3 : PySem.W.findIn K (.ref C3) "__setattr__" = some (some (.builtin "object.__setattr__")))
    (b3 : PySem.W.subIn K (.ref C3) (.type "BaseException") = some true)
    (t3 : PySem.W.typeIn K (.ref C3) = some (.type "type"))
    (kp3 : PySem.W.keepIn K (.ref C3) = true)
    (g3 : PySem.W.findIn K (.ref C3) "__getattribute__" = some (some (.builtin "BaseException.__getattribute__")))
    (gg3 : PySem.W.findIn K (.ref C3) "__getattr__" = some none)
    (d3 : PySem.W.hasDictIn K C3 = true)
    (cl3 : PySem.W.findIn K (.ref C3) "__class__" = some (some (.builtin "object.__class__")))
    (m3 : PySem.W.mroIn K C3 (.type "object") = some true)
    (no3 : PySem.W.findIn K (.ref C3) (fld 3) = some none)
    (i3 : PySem.W.findIn K (.ref C3) "__init__" = some (some (.ref f3)))
    (ti3 : PySem.W.typeIn K (.ref f3) = some (.type "function"))
    (l3 : K.lookup f3 = some ⟨oc3, od3, .func (PySem.W.fnOf "__init__" "BadPlan.__init__" (defArgs sX3) (defBody sX3) (defScope sX3) .none kV3 do3 pm3 an3 cd3 ct3), os3⟩)
    (c3 : PySem.W.codeIn K cd3 "BadPlan.__init__" = true)
    (kf3 : PySem.W.keepIn K (.ref f3) = true)
    (w3 : PySem.W.kitOne K (.ref C3) (.ref CW) = some true)
    (ve3 : PySem.W.kitOne K (.ref C3) (.type "ValueError") = some true)
    (a4 : PySem.W.nsIn K mainGlobals "BadPiece" = some (some (.ref C4)))
    (x4 : K.lookup C4 = some (excClassObj nm4 q4 C4 n4 bs4 bm4 true sn4 sub4 ab4 col4 dd4 k04 k14 k24 k34 k54 "ValueError.__new__"))
    (v4 : PySem.HandSPX.refsVE bm4 = true)
    (s4 : PySem.W.findIn K (.ref C4) "__setattr__" = some (some (.builtin "object.__setattr__")))
    (b4 : PySem.W.subIn K (.ref C4) (.type "BaseException") = some true)
    (t4 : PySem.W.typeIn K (.ref C4) = some (.type "type"))
    (kp4 : PySem.W.keepIn K (.ref C4) = true)
    (g4 : PySem.W.findIn K (.ref C4) "__getattribute__" = some (some (.builtin "BaseException.__getattribute__")))
    (gg4 : PySem.W.findIn K (.ref C4) "__getattr__" = some none)
    (d4 : PySem.W.hasDictIn K C4 = true)
    (cl4 : PySem.W.findIn K (.ref C4) "__class__" = some (some (.builtin "object.__class__")))
    (m4 : PySem.W.mroIn K C4 (.type "object") = some true)
    (no4 : PySem.W.findIn K (.ref C4) (fld 4) = some none)
    (i4 : PySem.W.findIn K (.ref C4) "__init__" = some (some (.ref f4)))
    (ti4 : PySem.W.typeIn K (.ref f4) = some (.type "function"))
    (l4 : K.lookup f4 = some ⟨oc4, od4, .func (PySem.W.fnOf "__init__" "BadPiece.__init__" (defArgs sX4) (defBody sX4) (defScope sX4) .none kV4 do4 pm4 an4 cd4 ct4), os4⟩)
    (c4 : PySem.W.codeIn K cd4 "BadPiece.__init__" = true)
    (kf4 : PySem.W.keepIn K (.ref f4) = true)
    (w4 : PySem.W.kitOne K (.ref C4) (.ref CW) = some true)
    (ve4 : PySem.W.kitOne K (.ref C4) (.type "ValueError") = some true)
    (a5 : PySem.W.nsIn K mainGlobals "BadMove" = some (some (.ref C5)))
    (x5 : K.lookup C5 = some (excClassObj nm5 q5 C5 n5 bs5 bm5 true sn5 sub5 ab5 col5 dd5 k05 k15 k25 k35 k55 "ValueError.__new__"))
    (v5 : PySem.HandSPX.refsVE bm5 = true)
    (s5 : PySem.W.findIn K (.ref C5) "__setattr__" = some (some (.builtin "object.__setattr__")))
    (b5 : PySem.W.subIn K (.ref C5) (.type "BaseException") = some true)
    (t5 : PySem.W.typeIn K (.ref C5) = some (.type "type"))
    (kp5 : PySem.W.keepIn K (.ref C5) = true)
    (g5 : PySem.W.findIn K (.ref C5) "__getattribute__" = some (some (.builtin "BaseException.__getattribute__")))
    (gg5 : PySem.W.findIn K (.ref C5) "__getattr__" = some none)
    (d5 : PySem.W.hasDictIn K C5 = true)
    (cl5 : PySem.W.findIn K (.ref C5) "__class__" = some (some (.builtin "object.__class__")))
    (m5 : PySem.W.mroIn K C5 (.type "object") = some true)
    (no5 : PySem.W.findIn K (.ref C5) (fld 5) = some none)
    (i5 : PySem.W.findIn K (.ref C5) "__init__" = some (some (.ref f5)))
    (ti5 : PySem.W.typeIn K (.ref f5) = some (.type "function"))
    (l5 : K.lookup f5 = some ⟨oc5, od5, .func (PySem.W.fnOf "__init__" "BadMove.__init__" (defArgs sX5) (defBody sX5) (defScope sX5) .none kV5 do5 pm5 an5 cd5 ct5), os5⟩)
    (c5 : PySem.W.codeIn K cd5 "BadMove.__init__" = true)
    (kf5 : PySem.W.keepIn K (.ref f5) = true)
    (w5 : PySem.W.kitOne K (.ref C5) (.ref CW) = some true)
    (ve5 : PySem.W.kitOne K (.ref C5) (.type "ValueError") = some true)
    (a6 : PySem.W.nsIn K mainGlobals "BadTie" = some (some (.ref C6)))
    (x6 : K.lookup C6 = some (excClassObj nm6 q6 C6 n6 bs6 bm6 true sn6 sub6 ab6 col6 dd6 k06 k16 k26 k36 k56 "ValueError.__new__"))
    (v6 : PySem.HandSPX.refsVE bm6 = true)
    (s6 : PySem.W.findIn K (.ref C6) "__setattr__" = some (some (.builtin "object.__setattr__")))
    (b6 : PySem.W.subIn K (.ref C6) (.type "BaseException") = some true)
    (t6 : PySem.W.typeIn K (.ref C6) = some (.type "type"))
    (kp6 : PySem.W.keepIn K (.ref C6) = true)
    (g6 : PySem.W.findIn K (.ref C6) "__getattribute__" = some (some (.builtin "BaseException.__getattribute__")))
    (gg6 : PySem.W.findIn K (.ref C6) "__getattr__" = some none)
    (d6 : PySem.W.hasDictIn K C6 = true)
    (cl6 : PySem.W.findIn K (.ref C6) "__class__" = some (some (.builtin "object.__class__")))
    (m6 : PySem.W.mroIn K C6 (.type "object") = some true)
    (no6 : PySem.W.findIn K (.ref C6) (fld 6) = some none)
    (i6 : PySem.W.findIn K (.ref C6) "__init__" = some (some (.ref f6)))
    (ti6 : PySem.W.typeIn K (.ref f6) = some (.type "function"))
    (l6 : K.lookup f6 = some ⟨oc6, od6, .func (PySem.W.fnOf "__init__" "BadTie.__init__" (defArgs sX6) (defBody sX6) (defScope sX6) .none kV6 do6 pm6 an6 cd6 ct6), os6⟩)
    (c6 : PySem.W.codeIn K cd6 "BadTie.__init__" = true)
    (kf6 : PySem.W.keepIn K (.ref f6) = true)
    (w6 : PySem.W.kitOne K (.ref C6) (.ref CW) = some true)
    (ve6 : PySem.W.kitOne K (.ref C6) (.type "ValueError") = some true)
    (a7 : PySem.W.nsIn K mainGlobals "HasGlue" = some (some (.ref C7)))
    (x7 : K.lookup C7 = some (excClassObj nm7 q7 C7 n7 bs7 bm7 true sn7 sub7 ab7 col7 dd7 k07 k17 k27 k37 k57 "ValueError.__new__"))
    (v7 : PySem.HandSPX.refsVE bm7 = true)
    (s7 : PySem.W.findIn K (.ref C7) "__setattr__" = some (some (.builtin "object.__setattr__")))
    (b7 : PySem.W.subIn K (.ref C7) (.type "BaseException") = some true)
    (t7 : PySem.W.typeIn K (.ref C7) = some (.type "type"))
    (kp7 : PySem.W.keepIn K (.ref C7) = true)
    (g7 : PySem.W.findIn K (.ref C7) "__getattribute__" = some (some (.builtin "BaseException.__getattribute__")))
    (gg7 : PySem.W.findIn K (.ref C7) "__getattr__" = some none)
    (d7 : PySem.W.hasDictIn K C7 = true)
    (cl7 : PySem.W.findIn K (.ref C7) "__class__" = some (some (.builtin "object.__class__")))
    (m7 : PySem.W.mroIn K C7 (.type "object") = some true)
    (no7 : PySem.W.findIn K (.ref C7) (fld 7) = some none)
    (i7 : PySem.W.findIn K (.ref C7) "__init__" = some (some (.ref f7)))
    (ti7 : PySem.W.typeIn K (.ref f7) = some (.type "function"))
    (l7 : K.lookup f7 = some ⟨oc7, od7, .func (PySem.W.fnOf "__init__" "HasGlue.__init__" (defArgs sX7) (defBody sX7) (defScope sX7) .none kV7 do7 pm7 an7 cd7 ct7), os7⟩)
    (c7 : PySem.W.codeIn K cd7 "HasGlue.__init__" = true)
    (kf7 : PySem.W.keepIn K (.ref f7) = true)
    (w7 : PySem.W.kitOne K (.ref C7) (.ref CW) = some true)
    (ve7 : PySem.W.kitOne K (.ref C7) (.type "ValueError") = some true)
    (a8 : PySem.W.nsIn K mainGlobals "TooMany" = some (some (.ref C8)))
    (x8 : K.lookup C8 = some (excClassObj nm8 q8 C8 n8 bs8 bm8 true sn8 sub8 ab8 col8 dd8 k08 k18 k28 k38 k58 "ValueError.__new__"))
    (v8 : PySem.HandSPX.refsVE bm8 = true)
    (s8 : PySem.W.findIn K (.ref C8) "__setattr__" = some (some (.builtin "object.__setattr__")))
    (b8 : PySem.W.subIn K (.ref C8) (.type "BaseException") = some true)
    (t8 : PySem.W.typeIn K (.ref C8) = some (.type "type"))
    (kp8 : PySem.W.keepIn K (.ref C8) = true)
    (g8 : PySem.W.findIn K (.ref C8) "__getattribute__" = some (some (.builtin "BaseException.__getattribute__")))
    (gg8 : PySem.W.findIn K (.ref C8) "__getattr__" = some none)
    (d8 : PySem.W.hasDictIn K C8 = true)
    (cl8 : PySem.W.findIn K (.ref C8) "__class__" = some (some (.builtin "object.__class__")))
    (m8 : PySem.W.mroIn K C8 (.type "object") = some true)
    (no8 : PySem.W.findIn K (.ref C8) (fld 8) = some none)
    (i8 : PySem.W.findIn K (.ref C8) "__init__" = some (some (.ref f8)))
    (ti8 : PySem.W.typeIn K (.ref f8) = some (.type "function"))
    (l8 : K.lookup f8 = some ⟨oc8, od8, .func (PySem.W.fnOf "__init__" "TooMany.__init__" (defArgs sX8) (defBody sX8) (defScope sX8) .none kV8 do8 pm8 an8 cd8 ct8), os8⟩)
    (c8 : PySem.W.codeIn K cd8 "TooMany.__init__" = true)
    (kf8 : PySem.W.keepIn K (.ref f8) = true)
    (w8 : PySem.W.kitOne K (.ref C8) (.ref CW) = some true)
    (ve8 : PySem.W.kitOne K (.ref C8) (.type "ValueError") = some true)
    (a9 : PySem.W.nsIn K mainGlobals "TooFar" = some (some (.ref C9)))
    (x9 : K.lookup C9 = some (excClassObj nm9 q9 C9 n9 bs9 bm9 true sn9 sub9 ab9 col9 dd9 k09 k19 k29 k39 k59 "ValueError.__new__"))
    (v9 : PySem.HandSPX.refsVE bm9 = true)
    (s9 : PySem.W.findIn K (.ref C9) "__setattr__" = some (some (.builtin "object.__setattr__")))
    (b9 : PySem.W.subIn K (.ref C9) (.type "BaseException") = some true)
    (t9 : PySem.W.typeIn K (.ref C9) = some (.type "type"))
    (kp9 : PySem.W.keepIn K (.ref C9) = true)
    (g9 : PySem.W.findIn K (.ref C9) "__getattribute__" = some (some (.builtin "BaseException.__getattribute__")))
    (gg9 : PySem.W.findIn K (.ref C9) "__getattr__" = some none)
    (d9 : PySem.W.hasDictIn K C9 = true)
    (cl9 : PySem.W.findIn K (.ref C9) "__class__" = some (some (.builtin "object.__class__")))
    (m9 : PySem.W.mroIn K C9 (.type "object") = some true)
    (no9 : PySem.W.findIn K (.ref C9) (fld 9) = some none)
    (i9 : PySem.W.findIn K (.ref C9) "__init__" = some (some (.ref f9)))
    (ti9 : PySem.W.typeIn K (.ref f9) = some (.type "function"))
    (l9 : K.lookup f9 = some ⟨oc9, od9, .func (PySem.W.fnOf "__init__" "TooFar.__init__" (defArgs sX9) (defBody sX9) (defScope sX9) .none kV9 do9 pm9 an9 cd9 ct9), os9⟩)
    (c9 : PySem.W.codeIn K cd9 "TooFar.__init__" = true)
    (kf9 : PySem.W.keepIn K (.ref f9) = true)
    (w9 : PySem.W.kitOne K (.ref C9) (.ref CW) = some true)
    (ve9 : PySem.W.kitOne K (.ref C9) (.type "ValueError") = some true)
    (a10 : PySem.W.nsIn K mainGlobals "BadText" = some (some (.ref C10)))
    (x10 : K.lookup C10 = some (excClassObj nm10 q10 C10 n10 bs10 bm10 true sn10 sub10 ab10 col10 dd10 k010 k110 k210 k310 k510 "ValueError.__new__"))
    (v10 : PySem.HandSPX.refsVE bm10 = true)
    (s10 : PySem.W.findIn K (.ref C10) "__setattr__" = some (some (.builtin "object.__setattr__")))
    (b10 : PySem.W.subIn K (.ref C10) (.type "BaseException") = some true)
    (t10 : PySem.W.typeIn K (.ref C10) = some (.type "type"))
    (kp10 : PySem.W.keepIn K (.ref C10) = true)
    (g10 : PySem.W.findIn K (.ref C10) "__getattribute__" = some (some (.builtin "BaseException.__getattribute__")))
    (gg10 : PySem.W.findIn K (.ref C10) "__getattr__" = some none)
    (d10 : PySem.W.hasDictIn K C10 = true)
    (cl10 : PySem.W.findIn K (.ref C10) "__class__" = some (some (.builtin "object.__class__")))
    (m10 : PySem.W.mroIn K C10 (.type "object") = some true)
    (no10 : PySem.W.findIn K (.ref C10) (fld 10) = some none)
    (i10 : PySem.W.findIn K (.ref C10) "__init__" = some (some (.ref f10)))
    (ti10 : PySem.W.typeIn K (.ref f10) = some (.type "function"))
    (l10 : K.lookup f10 = some ⟨oc10, od10, .func (PySem.W.fnOf "__init__" "BadText.__init__" (defArgs sX10) (defBody sX10) (defScope sX10) .none kV10 do10 pm10 an10 cd10 ct10), os10⟩)
    (c10 : PySem.W.codeIn K cd10 "BadText.__init__" = true)
    (kf10 : PySem.W.keepIn K (.ref f10) = true)
    (w10 : PySem.W.kitOne K (.ref C10) (.ref CW) = some true)
    (ve10 : PySem.W.kitOne K (.ref C10) (.type "ValueError") = some true)
    (sp : PySem.W.specialIn K (.builtin "object.__class__") "__get__" = some (some (.builtin "getset_descriptor.__get__")))
    (tk : PySem.W.takesIn K (.builtin "object.__class__") = some true)
    (e0_1 : PySem.W.kitOne K (.ref C0) (.ref C1) = some false)
    (e0_2 : PySem.W.kitOne K (.ref C0) (.ref C2) = some false)
    (e0_3 : PySem.W.kitOne K (.ref C0) (.ref C3) = some false)
    (e0_4 : PySem.W.kitOne K (.ref C0) (.ref C4) = some false)
    (e0_5 : PySem.W.kitOne K (.ref C0) (.ref C5) = some false)
    (e0_6 : PySem.W.kitOne K (.ref C0) (.ref C6) = some false)
    (e0_7 : PySem.W.kitOne K (.ref C0) (.ref C7) = some false)
    (e0_8 : PySem.W.kitOne K (.ref C0) (.ref C8) = some false)
    (e0_9 : PySem.W.kitOne K (.ref C0) (.ref C9) = some false)
    (e0_10 : PySem.W.kitOne K (.ref C0) (.ref C10) = some false)
    (e1_0 : PySem.W.kitOne K (.ref C1) (.ref C0) = some false)
    (e1_2 : PySem.W.kitOne K (.ref C1) (.ref C2) = some false)
    (e1_3 : PySem.W.kitOne K (.ref C1) (.ref C3) = some false)
    (e1_4 : PySem.W.kitOne K (.ref C1) (.ref C4) = some false)
    (e1_5 : PySem.W.kitOne K (.ref C1) (.ref C5) = some false)
    (e1_6 : PySem.W.kitOne K (.ref C1) (.ref C6) = some false)
    (e1_7 : PySem.W.kitOne K (.ref C1) (.ref C7) = some false)
    (e1_8 : PySem.W.kitOne K (.ref C1) (.ref C8) = some false)
    (e1_9 : PySem.W.kitOne K (.ref C1) (.ref C9) = some false)
    (e1_10 : PySem.W.kitOne K (.ref C1) (.ref C10) = some false)
    (e2_0 : PySem.W.kitOne K (.ref C2) (.ref C0) = some false)
    (e2_1 : PySem.W.kitOne K (.ref C2) (.ref C1) = some false)
    (e2_3 : PySem.W.kitOne K (.ref C2) (.ref C3) = some false)
    (e2_4 : PySem.W.kitOne K (.ref C2) (.ref C4) = some false)
    (e2_5 : PySem.W.kitOne K (.ref C2) (.ref C5) = some false)
    (e2_6 : PySem.W.kitOne K (.ref C2) (.ref C6) = some false)
    (e2_7 : PySem.W.kitOne K (.ref C2) (.ref C7) = some false)
    (e2_8 : PySem.W.kitOne K (.ref C2) (.ref C8) = some false)
    (e2_9 : PySem.W.kitOne K (.ref C2) (.ref C9) = some false)
    (e2_10 : PySem.W.kitOne K (.ref C2) (.ref C10) = some false)
    (e3_0 : PySem.W.kitOne K (.ref C3) (.ref C0) = some false)
    (e3_1 : PySem.W.kitOne K (.ref C3) (.ref C1) = some false)
    (e3_2 : PySem.W.kitOne K (.ref C3) (.ref C2) = some false)
    (e3_4 : PySem.W.kitOne K (.ref C3) (.ref C4) = some false)
    (e3_5 : PySem.W.kitOne K (.ref C3) (.ref C5) = some false)
    (e3_6 : PySem.W.kitOne K (.ref C3) (.ref C6) = some false)
    (e3_7 : PySem.W.kitOne K (.ref C3) (.ref C7) = some false)
    (e3_8 : PySem.W.kitOne K (.ref C3) (.ref C8) = some false)
    (e3_9 : PySem.W.kitOne K (.ref C3) (.ref C9) = some false)
    (e3_10 : PySem.W.kitOne K (.ref C3) (.ref C10) = some false)
    (e4_0 : PySem.W.kitOne K (.ref C4) (.ref C0) = some false)
    (e4_1 : PySem.W.kitOne K (.ref C4) (.ref C1) = some false)
    (e4_2 : PySem.W.kitOne K (.ref C4) (.ref C2) = some false)
    (e4_3 : PySem.W.kitOne K (.ref C4) (.ref C3) = some false)
    (e4_5 : PySem.W.kitOne K (.ref C4) (.ref C5) = some false)
    (e4_6 : PySem.W.kitOne K (.ref C4) (.ref C6) = some false)
    (e4_7 : PySem.W.kitOne K (.ref C4) (.ref C7) = some false)
    (e4_8 : PySem.W.kitOne K (.ref C4) (.ref C8) = some false)
    (e4_9 : PySem.W.kitOne K (.ref C4) (.ref C9) = some false)
    (e4_10 : PySem.W.kitOne K (.ref C4) (.ref C10) = some false)
    (e5_0 : PySem.W.kitOne K (.ref C5) (.ref C0) = some false)
    (e5_1 : PySem.W.kitOne K (.ref C5) (.ref C1) = some false)
    (e5_2 : PySem.W.kitOne K (.ref C5) (.ref C2) = some false)
    (e5_3 : PySem.W.kitOne K (.ref C5) (.ref C3) = some false)
    (e5_4 : PySem.W.kitOne K (.ref C5) (.ref C4) = some false)
    (e5_6 : PySem.W.kitOne K (.ref C5) (.ref C6) = some false)
    (e5_7 : PySem.W.kitOne K (.ref C5) (.ref C7) = some false)
    (e5_8 : PySem.W.kitOne K (.ref C5) (.ref C8) = some false)
    (e5_9 : PySem.W.kitOne K (.ref C5) (.ref C9) = some false)
    (e5_10 : PySem.W.kitOne K (.ref C5) (.ref C10) = some false)
    (e6_0 : PySem.W.kitOne K (.ref C6) (.ref C0) = some false)
    (e6_1 : PySem.W.kitOne K (.ref C6) (.ref C1) = some false)
    (e6_2 : PySem.W.kitOne K (.ref C6) (.ref C2) = some false)
    (e6_3 : PySem.W.kitOne K (.ref C6) (.ref C3) = some false)
    (e6_4 : PySem.W.kitOne K (.ref C6) (.ref C4) = some false)
    (e6_5 : PySem.W.kitOne K (.ref C6) (.ref C5) = some false)
    (e6_7 : PySem.W.kitOne K (.ref C6) (.ref C7) = some false)
    (e6_8 : PySem.W.kitOne K (.ref C6) (.ref C8) = some false)
    (e6_9 : PySem.W.kitOne K (.ref C6) (.ref C9) = some false)
    (e6_10 : PySem.W.kitOne K (.ref C6) (.ref C10) = some false)
    (e7_0 : PySem.W.kitOne K (.ref C7) (.ref C0) = some false)
    (e7_1 : PySem.W.kitOne K (.ref C7) (.ref C1) = some false)
    (e7_2 : PySem.W.kitOne K (.ref C7) (.ref C2) = some false)
    (e7_3 : PySem.W.kitOne K (.ref C7) (.ref C3) = some false)
    (e7_4 : PySem.W.kitOne K (.ref C7) (.ref C4) = some false)
    (e7_5 : PySem.W.kitOne K (.ref C7) (.ref C5) = some false)
    (e7_6 : PySem.W.kitOne K (.ref C7) (.ref C6) = some false)
    (e7_8 : PySem.W.kitOne K (.ref C7) (.ref C8) = some false)
    (e7_9 : PySem.W.kitOne K (.ref C7) (.ref C9) = some false)
    (e7_10 : PySem.W.kitOne K (.ref C7) (.ref C10) = some false)
    (e8_0 : PySem.W.kitOne K (.ref C8) (.ref C0) = some false)
    (e8_1 : PySem.W.kitOne K (.ref C8) (.ref C1) = some false)
    (e8_2 : PySem.W.kitOne K (.ref C8) (.ref C2) = some false)
    (e8_3 : PySem.W.kitOne K (.ref C8) (.ref C3) = some false)
    (e8_4 : PySem.W.kitOne K (.ref C8) (.ref C4) = some false)
    (e8_5 : PySem.W.kitOne K (.ref C8) (.ref C5) = some false)
    (e8_6 : PySem.W.kitOne K (.ref C8) (.ref C6) = some false)
    (e8_7 : PySem.W.kitOne K (.ref C8) (.ref C7) = some false)
    (e8_9 : PySem.W.kitOne K (.ref C8) (.ref C9) = some false)
    (e8_10 : PySem.W.kitOne K (.ref C8) (.ref C10) = some false)
    (e9_0 : PySem.W.kitOne K (.ref C9) (.ref C0) = some false)
    (e9_1 : PySem.W.kitOne K (.ref C9) (.ref C1) = some false)
    (e9_2 : PySem.W.kitOne K (.ref C9) (.ref C2) = some false)
    (e9_3 : PySem.W.kitOne K (.ref C9) (.ref C3) = some false)
    (e9_4 : PySem.W.kitOne K (.ref C9) (.ref C4) = some false)
    (e9_5 : PySem.W.kitOne K (.ref C9) (.ref C5) = some false)
    (e9_6 : PySem.W.kitOne K (.ref C9) (.ref C6) = some false)
    (e9_7 : PySem.W.kitOne K (.ref C9) (.ref C7) = some false)
    (e9_8 : PySem.W.kitOne K (.ref C9) (.ref C8) = some false)
    (e9_10 : PySem.W.kitOne K (.ref C9) (.ref C10) = some false)
    (e10_0 : PySem.W.kitOne K (.ref C10) (.ref C0) = some false)
    (e10_1 : PySem.W.kitOne K (.ref C10) (.ref C1) = some false)
    (e10_2 : PySem.W.kitOne K (.ref C10) (.ref C2) = some false)
    (e10_3 : PySem.W.kitOne K (.ref C10) (.ref C3) = some false)
    (e10_4 : PySem.W.kitOne K (.ref C10) (.ref C4) = some false)
    (e10_5 : PySem.W.kitOne K (.ref C10) (.ref C5) = some false)
    (e10_6 : PySem.W.kitOne K (.ref C10) (.ref C6) = some false)
    (e10_7 : PySem.W.kitOne K (.ref C10) (.ref C7) = some false)
    (e10_8 : PySem.W.kitOne K (.ref C10) (.ref C8) = some false)
    (e10_9 : PySem.W.kitOne K (.ref C10) (.ref C9) = some false)
    (da0 : PySem.W.nsIn K mainGlobals "_law_source" = some (some (.ref fa0)))
    (dl0 : K.lookup fa0 = some ⟨uo0, ud0, .func (PySem.W.fnOf "_law_source" "_law_source" (defArgs sSource) (defBody sSource) (defScope sSource) .none uk0 uc0 up0 ua0 ue0 ut0), us0⟩)
    (dc0 : PySem.W.codeIn K ue0 "_law_source" = true)
    (dk0 : PySem.W.keepIn K (.ref fa0) = true)
    (da1 : PySem.W.nsIn K mainGlobals "_law_draw" = some (some (.ref fa1)))
    (dl1 : K.lookup fa1 = some ⟨uo1, ud1, .func (PySem.W.fnOf "_law_draw" "_law_draw" (defArgs sDraw) (defBody sDraw) (defScope sDraw) .none uk1 uc1 up1 ua1 ue1 ut1), us1⟩)
    (dc1 : PySem.W.codeIn K ue1 "_law_draw" = true)
    (dk1 : PySem.W.keepIn K (.ref fa1) = true)
    (da2 : PySem.W.nsIn K mainGlobals "_law_pick" = some (some (.ref fa2)))
    (dl2 : K.lookup fa2 = some ⟨uo2, ud2, .func (PySem.W.fnOf "_law_pick" "_law_pick" (defArgs sPick) (defBody sPick) (defScope sPick) .none uk2 uc2 up2 ua2 ue2 ut2), us2⟩)
    (dc2 : PySem.W.codeIn K ue2 "_law_pick" = true)
    (dk2 : PySem.W.keepIn K (.ref fa2) = true)
    (da3 : PySem.W.nsIn K mainGlobals "_law_kinds" = some (some (.ref fa3)))
    (dl3 : K.lookup fa3 = some ⟨uo3, ud3, .func (PySem.W.fnOf "_law_kinds" "_law_kinds" (defArgs sKinds) (defBody sKinds) (defScope sKinds) .none uk3 uc3 up3 ua3 ue3 ut3), us3⟩)
    (dc3 : PySem.W.codeIn K ue3 "_law_kinds" = true)
    (dk3 : PySem.W.keepIn K (.ref fa3) = true)
    (da4 : PySem.W.nsIn K mainGlobals "_law_by_place" = some (some (.ref fa4)))
    (dl4 : K.lookup fa4 = some ⟨uo4, ud4, .func (PySem.W.fnOf "_law_by_place" "_law_by_place" (defArgs sByPlace) (defBody sByPlace) (defScope sByPlace) .none uk4 uc4 up4 ua4 ue4 ut4), us4⟩)
    (dc4 : PySem.W.codeIn K ue4 "_law_by_place" = true)
    (dk4 : PySem.W.keepIn K (.ref fa4) = true)
    (da5 : PySem.W.nsIn K mainGlobals "_law_by_name" = some (some (.ref fa5)))
    (dl5 : K.lookup fa5 = some ⟨uo5, ud5, .func (PySem.W.fnOf "_law_by_name" "_law_by_name" (defArgs sByName) (defBody sByName) (defScope sByName) .none uk5 uc5 up5 ua5 ue5 ut5), us5⟩)
    (dc5 : PySem.W.codeIn K ue5 "_law_by_name" = true)
    (dk5 : PySem.W.keepIn K (.ref fa5) = true)
    (da6 : PySem.W.nsIn K mainGlobals "_law_stored" = some (some (.ref fa6)))
    (dl6 : K.lookup fa6 = some ⟨uo6, ud6, .func (PySem.W.fnOf "_law_stored" "_law_stored" (defArgs sStored) (defBody sStored) (defScope sStored) .none uk6 uc6 up6 ua6 ue6 ut6), us6⟩)
    (dc6 : PySem.W.codeIn K ue6 "_law_stored" = true)
    (dk6 : PySem.W.keepIn K (.ref fa6) = true)
    (da7 : PySem.W.nsIn K mainGlobals "law" = some (some (.ref fa7)))
    (dl7 : K.lookup fa7 = some ⟨uo7, ud7, .func (PySem.W.fnOf "law" "law" (defArgs sLaw) (defBody sLaw) (defScope sLaw) .none uk7 uc7 up7 ua7 ue7 ut7), us7⟩)
    (dc7 : PySem.W.codeIn K ue7 "law" = true)
    (dk7 : PySem.W.keepIn K (.ref fa7) = true)
    (zint : PySem.W.nsIn K mainGlobals "int" = some none)
    (zlen : PySem.W.nsIn K mainGlobals "len" = some none)
    (zrange : PySem.W.nsIn K mainGlobals "range" = some none)
    (zmax : PySem.W.nsIn K mainGlobals "max" = some none)
    (zmin : PySem.W.nsIn K mainGlobals "min" = some none)
    (zisinstance : PySem.W.nsIn K mainGlobals "isinstance" = some none)
    (zlist : PySem.W.nsIn K mainGlobals "list" = some none)
    (zdict : PySem.W.nsIn K mainGlobals "dict" = some none)
    (zrepr : PySem.W.nsIn K mainGlobals "repr" = some none)
    (zenumerate : PySem.W.nsIn K mainGlobals "enumerate" = some none)
    (zValueError : PySem.W.nsIn K mainGlobals "ValueError" = some none) :
    ∃ fd : FuncData, (∀ (s : Shared) (v : Value), BindsTo s fd ⟨[v], []⟩ [("script", v)]) ∧ ∀ base : Heap, K.In base → base.Ns mainGlobals mg → (∃ mm, base.Ns sysModules mm) → GFn l.prog w K mg base CX0 5 fa fd ["script"] (spLaw K) := by
  have e := hfa.symm.trans (PySem.W.mg_of X G da7)
  cases e
  have T : Bn mg := ⟨PySem.W.mg_none_of X G zint, PySem.W.mg_none_of X G zlen, PySem.W.mg_none_of X G zrange, PySem.W.mg_none_of X G zmax, PySem.W.mg_none_of X G zmin, PySem.W.mg_none_of X G zisinstance, PySem.W.mg_none_of X G zlist, PySem.W.mg_none_of X G zdict, PySem.W.mg_none_of X G zrepr, PySem.W.mg_none_of X G zenumerate, PySem.W.mg_none_of X G zValueError⟩
  have X0 : XCls K C0 f0 := xcls_mk (sn' := []) X x0 v0 s0 b0 t0 kp0 g0 gg0 d0 cl0 sp tk m0 i0 ti0
  have F0 := fun_mk (st := sX0) l0 c0 kf0
  have X1 : XCls K C1 f1 := xcls_mk (sn' := []) X x1 v1 s1 b1 t1 kp1 g1 gg1 d1 cl1 sp tk m1 i1 ti1
  have F1 := fun_mk (st := sX1) l1 c1 kf1
  have X2 : XCls K C2 f2 := xcls_mk (sn' := []) X x2 v2 s2 b2 t2 kp2 g2 gg2 d2 cl2 sp tk m2 i2 ti2
  have F2 := fun_mk (st := sX2) l2 c2 kf2
  have X3 : XCls K C3 f3 := xcls_mk (sn' := []) X x3 v3 s3 b3 t3 kp3 g3 gg3 d3 cl3 sp tk m3 i3 ti3
  have F3 := fun_mk (st := sX3) l3 c3 kf3
  have X4 : XCls K C4 f4 := xcls_mk (sn' := []) X x4 v4 s4 b4 t4 kp4 g4 gg4 d4 cl4 sp tk m4 i4 ti4
  have F4 := fun_mk (st := sX4) l4 c4 kf4
  have X5 : XCls K C5 f5 := xcls_mk (sn' := []) X x5 v5 s5 b5 t5 kp5 g5 gg5 d5 cl5 sp tk m5 i5 ti5
  have F5 := fun_mk (st := sX5) l5 c5 kf5
  have X6 : XCls K C6 f6 := xcls_mk (sn' := []) X x6 v6 s6 b6 t6 kp6 g6 gg6 d6 cl6 sp tk m6 i6 ti6
  have F6 := fun_mk (st := sX6) l6 c6 kf6
  have X7 : XCls K C7 f7 := xcls_mk (sn' := []) X x7 v7 s7 b7 t7 kp7 g7 gg7 d7 cl7 sp tk m7 i7 ti7
  have F7 := fun_mk (st := sX7) l7 c7 kf7
  have X8 : XCls K C8 f8 := xcls_mk (sn' := []) X x8 v8 s8 b8 t8 kp8 g8 gg8 d8 cl8 sp tk m8 i8 ti8
  have F8 := fun_mk (st := sX8) l8 c8 kf8
  have X9 : XCls K C9 f9 := xcls_mk (sn' := []) X x9 v9 s9 b9 t9 kp9 g9 gg9 d9 cl9 sp tk m9 i9 ti9
  have F9 := fun_mk (st := sX9) l9 c9 kf9
  have X10 : XCls K C10 f10 := xcls_mk (sn' := []) X x10 v10 s10 b10 t10 kp10 g10 gg10 d10 cl10 sp tk m10 i10 ti10
  have F10 := fun_mk (st := sX10) l10 c10 kf10
  have self : ∀ c : Value, PySem.W.kitOne K c c = some true := fun c => by unfold PySem.W.kitOne; rw [if_pos (by simp)]
  have R : Er K mg (pick11 C0 C1 C2 C3 C4 C5 C6 C7 C8 C9 C10) (pick11 f0 f1 f2 f3 f4 f5 f6 f7 f8 f9 f10) CW := by
    refine ⟨fun i nm e => ?_, fun i hi => ?_, fun i hi => ?_, fun i j hi hj => ?_, fun i hi => ?_, fun i hi => ?_, PySem.W.mg_of X G aW⟩
    · rcases i with _ | _ | _ | _ | _ | _ | _ | _ | _ | _ | _ | i
      · cases e; exact PySem.W.mg_of X G a0
      · cases e; exact PySem.W.mg_of X G a1
      · cases e; exact PySem.W.mg_of X G a2
      · cases e; exact PySem.W.mg_of X G a3
      · cases e; exact PySem.W.mg_of X G a4
      · cases e; exact PySem.W.mg_of X G a5
      · cases e; exact PySem.W.mg_of X G a6
      · cases e; exact PySem.W.mg_of X G a7
      · cases e; exact PySem.W.mg_of X G a8
      · cases e; exact PySem.W.mg_of X G a9
      · cases e; exact PySem.W.mg_of X G a10
      · cases e
    · rcases i with _ | _ | _ | _ | _ | _ | _ | _ | _ | _ | _ | i
      · exact X0
      · exact X1
      · exact X2
      · exact X3
      · exact X4
      · exact X5
      · exact X6
      · exact X7
      · exact X8
      · exact X9
      · exact X10
      · omega
    · rcases i with _ | _ | _ | _ | _ | _ | _ | _ | _ | _ | _ | i
      · exact no0
      · exact no1
      · exact no2
      · exact no3
      · exact no4
      · exact no5
      · exact no6
      · exact no7
      · exact no8
      · exact no9
      · exact no10
      · omega
    · rcases i with _ | _ | _ | _ | _ | _ | _ | _ | _ | _ | _ | i
      · rcases j with _ | _ | _ | _ | _ | _ | _ | _ | _ | _ | _ | j
        · exact self _
        · exact e0_1
        · exact e0_2
        · exact e0_3
        · exact e0_4
        · exact e0_5
        · exact e0_6
        · exact e0_7
        · exact e0_8
        · exact e0_9
        · exact e0_10
        · omega
      · rcases j with _ | _ | _ | _ | _ | _ | _ | _ | _ | _ | _ | j
        · exact e1_0
        · exact self _
        · exact e1_2
        · exact e1_3
        · exact e1_4
        · exact e1_5
        · exact e1_6
        · exact e1_7
        · exact e1_8
        · exact e1_9
        · exact e1_10
        · omega
      · rcases j with _ | _ | _ | _ | _ | _ | _ | _ | _ | _ | _ | j
        · exact e2_0
        · exact e2_1
        · exact self _
        · exact e2_3
        · exact e2_4
        · exact e2_5
        · exact e2_6
        · exact e2_7
        · exact e2_8
        · exact e2_9
        · exact e2_10
        · omega
      · rcases j with _ | _ | _ | _ | _ | _ | _ | _ | _ | _ | _ | j
        · exact e3_0
        · exact e3_1
        · exact e3_2
        · exact self _
        · exact e3_4
        · exact e3_5
        · exact e3_6
        · exact e3_7
        · exact e3_8
        · exact e3_9
        · exact e3_10
        · omega
      · rcases j with _ | _ | _ | _ | _ | _ | _ | _ | _ | _ | _ | j
        · exact e4_0
        · exact e4_1
        · exact e4_2
        · exact e4_3
        · exact self _
        · exact e4_5
        · exact e4_6
        · exact e4_7
        · exact e4_8
        · exact e4_9
        · exact e4_10
        · omega
      · rcases j with _ | _ | _ | _ | _ | _ | _ | _ | _ | _ | _ | j
        · exact e5_0
        · exact e5_1
        · exact e5_2
        · exact e5_3
        · exact e5_4
        · exact self _
        · exact e5_6
        · exact e5_7
        · exact e5_8
        · exact e5_9
        · exact e5_10
        · omega
      · rcases j with _ | _ | _ | _ | _ | _ | _ | _ | _ | _ | _ | j
        · exact e6_0
        · exact e6_1
        · exact e6_2
        · exact e6_3
        · exact e6_4
        · exact e6_5
        · exact self _
        · exact e6_7
        · exact e6_8
        · exact e6_9
        · exact e6_10
        · omega
      · rcases j with _ | _ | _ | _ | _ | _ | _ | _ | _ | _ | _ | j
        · exact e7_0
        · exact e7_1
        · exact e7_2
        · exact e7_3
        · exact e7_4
        · exact e7_5
        · exact e7_6
        · exact self _
        · exact e7_8
        · exact e7_9
        · exact e7_10
        · omega
      · rcases j with _ | _ | _ | _ | _ | _ | _ | _ | _ | _ | _ | j
        · exact e8_0
        · exact e8_1
        · exact e8_2
        · exact e8_3
        · exact e8_4
        · exact e8_5
        · exact e8_6
        · exact e8_7
        · exact self _
        · exact e8_9
        · exact e8_10
        · omega
      · rcases j with _ | _ | _ | _ | _ | _ | _ | _ | _ | _ | _ | j
        · exact e9_0
        · exact e9_1
        · exact e9_2
        · exact e9_3
        · exact e9_4
        · exact e9_5
        · exact e9_6
        · exact e9_7
        · exact e9_8
        · exact self _
        · exact e9_10
        · omega
      · rcases j with _ | _ | _ | _ | _ | _ | _ | _ | _ | _ | _ | j
        · exact e10_0
        · exact e10_1
        · exact e10_2
        · exact e10_3
        · exact e10_4
        · exact e10_5
        · exact e10_6
        · exact e10_7
        · exact e10_8
        · exact e10_9
        · exact self _
        · omega
      · omega
    · rcases i with _ | _ | _ | _ | _ | _ | _ | _ | _ | _ | _ | i
      · exact w0
      · exact w1
      · exact w2
      · exact w3
      · exact w4
      · exact w5
      · exact w6
      · exact w7
      · exact w8
      · exact w9
      · exact w10
      · omega
    · rcases i with _ | _ | _ | _ | _ | _ | _ | _ | _ | _ | _ | i
      · exact ve0
      · exact ve1
      · exact ve2
      · exact ve3
      · exact ve4
      · exact ve5
      · exact ve6
      · exact ve7
      · exact ve8
      · exact ve9
      · exact ve10
      · omega
  have D0 : DFE K mg "_law_source" sSource ["script", "start"] := dfe_mk X G da0 dl0 dc0 dk0 (fun _ _ _ _ _ _ us hl => match us, hl with | [_, _], _ => rfl)
  have D1 : DFE K mg "_law_draw" sDraw ["source", "span"] := dfe_mk X G da1 dl1 dc1 dk1 (fun _ _ _ _ _ _ us hl => match us, hl with | [_, _], _ => rfl)
  have D2 : DFE K mg "_law_pick" sPick ["source", "things"] := dfe_mk X G da2 dl2 dc2 dk2 (fun _ _ _ _ _ _ us hl => match us, hl with | [_, _], _ => rfl)
  have D3 : DFE K mg "_law_kinds" sKinds ["error"] := dfe_mk X G da3 dl3 dc3 dk3 (fun _ _ _ _ _ _ us hl => match us, hl with | [_], _ => rfl)
  have D4 : DFE K mg "_law_by_place" sByPlace ["thing"] := dfe_mk X G da4 dl4 dc4 dk4 (fun _ _ _ _ _ _ us hl => match us, hl with | [_], _ => rfl)
  have D5 : DFE K mg "_law_by_name" sByName ["thing"] := dfe_mk X G da5 dl5 dc5 dk5 (fun _ _ _ _ _ _ us hl => match us, hl with | [_], _ => rfl)
  have D6 : DFE K mg "_law_stored" sStored ["errors"] := dfe_mk X G da6 dl6 dc6 dk6 (fun _ _ _ _ _ _ us hl => match us, hl with | [_], _ => rfl)
  have FL := fun_mk (st := sLaw) dl7 dc7 dk7
  refine ⟨PySem.W.fnOf "law" "law" (defArgs sLaw) (defBody sLaw) (defScope sLaw) .none uk7 uc7 up7 ua7 ue7 ut7, fun s v => .of_eq rfl, fun base KB _ SB => ?_⟩
  have hX : ∀ i, i < 11 → HasX l.prog w K mg base 1 ((pick11 C0 C1 C2 C3 C4 C5 C6 C7 C8 C9 C10) i) ((pick11 f0 f1 f2 f3 f4 f5 f6 f7 f8 f9 f10) i) (fld i) := fun i hi => by
    rcases i with _ | _ | _ | _ | _ | _ | _ | _ | _ | _ | _ | i
    · exact hasX0 F0 X0 no0
    · exact hasX1 F1 X1 no1
    · exact hasX2 F2 X2 no2
    · exact hasX3 F3 X3 no3
    · exact hasX4 F4 X4 no4
    · exact hasX5 F5 X5 no5
    · exact hasX6 F6 X6 no6
    · exact hasX7 F7 X7 no7
    · exact hasX8 F8 X8 no8
    · exact hasX9 F9 X9 no9
    · exact hasX10 F10 X10 no10
    · omega
  have h1 : Has l.prog w K mg base CX0 1 "_law_source" ["script", "start"] (spSource K) := has_source T D0
  have h2 : Has l.prog w K mg base CX0 1 "_law_draw" ["source", "span"] spDraw := has_draw T D1
  have h3 : Has l.prog w K mg base CX0 2 "_law_pick" ["source", "things"] (spPick K) := has_pick T D2 h2
  have h4 : Has l.prog w K mg base CX0 1 "_law_kinds" ["error"] (spKinds (pick11 C0 C1 C2 C3 C4 C5 C6 C7 C8 C9 C10)) := has_kinds T R D3
  exact has_law T R SB FL h1 h2 h3 h4 (has_by_place R hX D4) (has_by_name R hX D5) (has_stored R D6)

end
end P61

open PySem PySem.W PyProof.Rows
set_option Elab.async false
set_option maxRecDepth 100000 in
set_option maxHeartbeats 0 in
theorem PySem.Challenge.cw_cornerturn_k61_errors_by_hand_holds : PySem.Challenge.rw_cornerturn_k61_errors_by_hand.Holds := by
  w_on; o_law; k_head; (case hw => w_witness2)
  k_fill
  refine Ct.walk_gK (l := PySem.Challenge.rw_cornerturn_k61_errors_by_hand) (n := 63) (k := 5) (x := "script") (CX := L2.CX0) (sp := P61.spLaw) rfl (by decide +kernel) (by decide) rfl ⟨rfl, by decide, by decide⟩ (fun w h Y => PySem.W.kIn_of Y) ?F ?S (fun _ _ _ _ z => z)
  case F =>
    intro w mg fa h KX G hmg
    refine' P61.fin_mk KX G hmg ?zzaW ?zza0 ?zzx0 ?zzv0 ?zzs0 ?zzb0 ?zzt0 ?zzkp0 ?zzg0 ?zzgg0 ?zzd0 ?zzcl0 ?zzm0 ?zzno0 ?zzi0 ?zzti0 ?zzl0 ?zzc0 ?zzkf0 ?zzw0 ?zzve0 ?zza1 ?zzx1 ?zzv1 ?zzs1 ?zzb1 ?zzt1 ?zzkp1 ?zzg1 ?zzgg1 ?zzd1 ?zzcl1 ?zzm1 ?zzno1 ?zzi1 ?zzti1 ?zzl1 ?zzc1 ?zzkf1 ?zzw1 ?zzve1 ?zza2 ?zzx2 ?zzv2 ?zzs2 ?zzb2 ?zzt2 ?zzkp2 ?zzg2 ?zzgg2 ?zzd2 ?zzcl2 ?zzm2 ?zzno2 ?zzi2 ?zzti2 ?zzl2 ?zzc2 ?zzkf2 ?zzw2 ?zzve2 ?zza3 ?zzx3 ?zzv3 ?zzs3 ?zzb3 ?zzt3 ?zzkp3 ?zzg3 ?zzgg3 ?zzd3 ?zzcl3 ?zzm3 ?zzno3 ?zzi3 ?zzti3 ?zzl3 ?zzc3 ?zzkf3 ?zzw3 ?zzve3 ?zza4 ?zzx4 ?zzv4 ?zzs4 ?zzb4 ?zzt4 ?zzkp4 ?zzg4 ?zzgg4 ?zzd4 ?zzcl4 ?zzm4 ?zzno4 ?zzi4 ?zzti4 ?zzl4 ?zzc4 ?zzkf4 ?zzw4 ?zzve4 ?zza5 ?zzx5 ?zzv5 ?zzs5 ?zzb5 ?zzt5 ?zzkp5 ?zzg5 ?zzgg5 ?zzd5 ?zzcl5 ?zzm5 ?zzno5 ?zzi5 ?zzti5 ?zzl5 ?zzc5 ?zzkf5 ?zzw5 ?zzve5 ?zza6 ?zzx6 ?zzv6 ?zzs6 ?zzb6 ?zzt6 ?zzkp6 ?zzg6 ?zzgg6 ?zzd6 ?zzcl6 ?zzm6 ?zzno6 ?zzi6 ?zzti6 ?zzl6 ?zzc6 ?zzkf6 ?zzw6 ?zzve6 ?zza7 ?zzx7 ?zzv7 ?zzs7 ?zzb7 ?zzt7 ?zzkp7 ?zzg7 ?zzgg7 ?zzd7 ?zzcl7 ?zzm7 ?zzno7 ?zzi7 ?zzti7 ?zzl7 ?zzc7 ?zzkf7 ?zzw7 ?zzve7 ?zza8 ?zzx8 ?zzv8 ?zzs8 ?zzb8 ?zzt8 ?zzkp8 ?zzg8 ?zzgg8 ?zzd8 ?zzcl8 ?zzm8 ?zzno8 ?zzi8 ?zzti8 ?zzl8 ?zzc8 ?zzkf8 ?zzw8 ?zzve8 ?zza9 ?zzx9 ?zzv9 ?zzs9 ?zzb9 ?zzt9 ?zzkp9 ?zzg9 ?zzgg9 ?zzd9 ?zzcl9 ?zzm9 ?zzno9 ?zzi9 ?zzti9 ?zzl9 ?zzc9 ?zzkf9 ?zzw9 ?zzve9 ?zza10 ?zzx10 ?zzv10 ?zzs10 ?zzb10 ?zzt10 ?zzkp10 ?zzg10 ?zzgg10 ?zzd10 ?zzcl10 ?zzm10 ?zzno10 ?zzi10 ?zzti10 ?zzl10 ?zzc10 ?zzkf10 ?zzw10 ?zzve10 ?zzsp ?zztk ?zze0_1 ?zze0_2 ?zze0_3 ?zze0_4 ?zze0_5 ?zze0_6 ?zze0_7 ?zze0_8 ?zze0_9 ?zze0_10 ?zze1_0 ?zze1_2 ?zze1_3 ?zze1_4 ?zze1_5 ?zze1_6 ?zze1_7 ?zze1_8 ?zze1_9 ?zze1_10 ?zze2_0 ?zze2_1 ?zze2_3 ?zze2_4 ?zze2_5 ?zze2_6 ?zze2_7 ?zze2_8 ?zze2_9 ?zze2_10 ?zze3_0 ?zze3_1 ?zze3_2 ?zze3_4 ?zze3_5 ?zze3_6 ?zze3_7 ?zze3_8 ?zze3_9 ?zze3_10 ?zze4_0 ?zze4_1 ?zze4_2 ?zze4_3 ?zze4_5 ?zze4_6 ?zze4_7 ?zze4_8 ?zze4_9 ?zze4_10 ?zze5_0 ?zze5_1 ?zze5_2 ?zze5_3 ?zze5_4 ?zze5_6 ?zze5_7 ?zze5_8 ?zze5_9 ?zze5_10 ?zze6_0 ?zze6_1 ?zze6_2 ?zze6_3 ?zze6_4 ?zze6_5 ?zze6_7 ?zze6_8 ?zze6_9 ?zze6_10 ?zze7_0 ?zze7_1 ?zze7_2 ?zze7_3 ?zze7_4 ?zze7_5 ?zze7_6 ?zze7_8 ?zze7_9 ?zze7_10 ?zze8_0 ?zze8_1 ?zze8_2 ?zze8_3 ?zze8_4 ?zze8_5 ?zze8_6 ?zze8_7 ?zze8_9 ?zze8_10 ?zze9_0 ?zze9_1 ?zze9_2 ?zze9_3 ?zze9_4 ?zze9_5 ?zze9_6 ?zze9_7 ?zze9_8 ?zze9_10 ?zze10_0 ?zze10_1 ?zze10_2 ?zze10_3 ?zze10_4 ?zze10_5 ?zze10_6 ?zze10_7 ?zze10_8 ?zze10_9 ?zzda0 ?zzdl0 ?zzdc0 ?zzdk0 ?zzda1 ?zzdl1 ?zzdc1 ?zzdk1 ?zzda2 ?zzdl2 ?zzdc2 ?zzdk2 ?zzda3 ?zzdl3 ?zzdc3 ?zzdk3 ?zzda4 ?zzdl4 ?zzdc4 ?zzdk4 ?zzda5 ?zzdl5 ?zzdc5 ?zzdk5 ?zzda6 ?zzdl6 ?zzdc6 ?zzdk6 ?zzda7 ?zzdl7 ?zzdc7 ?zzdk7 ?zzzint ?zzzlen ?zzzrange ?zzzmax ?zzzmin ?zzzisinstance ?zzzlist ?zzzdict ?zzzrepr ?zzzenumerate ?zzzValueError
    (case zzaW => k_is)
    (case zza0 => k_is)
    (case zzx0 => k_is)
    (case zzv0 => rfl)
    (case zzs0 => k_is)
    (case zzb0 => k_is)
    (case zzt0 => k_is)
    (case zzkp0 => k_is)
    (case zzg0 => k_is)
    (case zzgg0 => k_is)
    (case zzd0 => k_is)
    (case zzcl0 => k_is)
    (case zzm0 => k_is)
    (case zzno0 => (show PySem.W.findIn _ _ "value" = _; k_is))
    (case zzi0 => k_is)
    (case zzti0 => k_is)
    (case zzl0 => k_is)
    (case zzc0 => k_is)
    (case zzkf0 => k_is)
    (case zzw0 => kit_is)
    (case zzve0 => kit_is)
    (case zza1 => k_is)
    (case zzx1 => k_is)
    (case zzv1 => rfl)
    (case zzs1 => k_is)
    (case zzb1 => k_is)
    (case zzt1 => k_is)
    (case zzkp1 => k_is)
    (case zzg1 => k_is)
    (case zzgg1 => k_is)
    (case zzd1 => k_is)
    (case zzcl1 => k_is)
    (case zzm1 => k_is)
    (case zzno1 => (show PySem.W.findIn _ _ "value" = _; k_is))
    (case zzi1 => k_is)
    (case zzti1 => k_is)
    (case zzl1 => k_is)
    (case zzc1 => k_is)
    (case zzkf1 => k_is)
    (case zzw1 => kit_is)
    (case zzve1 => kit_is)
    (case zza2 => k_is)
    (case zzx2 => k_is)
    (case zzv2 => rfl)
    (case zzs2 => k_is)
    (case zzb2 => k_is)
    (case zzt2 => k_is)
    (case zzkp2 => k_is)
    (case zzg2 => k_is)
    (case zzgg2 => k_is)
    (case zzd2 => k_is)
    (case zzcl2 => k_is)
    (case zzm2 => k_is)
    (case zzno2 => (show PySem.W.findIn _ _ "value" = _; k_is))
    (case zzi2 => k_is)
    (case zzti2 => k_is)
    (case zzl2 => k_is)
    (case zzc2 => k_is)
    (case zzkf2 => k_is)
    (case zzw2 => kit_is)
    (case zzve2 => kit_is)
    (case zza3 => k_is)
    (case zzx3 => k_is)
    (case zzv3 => rfl)
    (case zzs3 => k_is)
    (case zzb3 => k_is)
    (case zzt3 => k_is)
    (case zzkp3 => k_is)
    (case zzg3 => k_is)
    (case zzgg3 => k_is)
    (case zzd3 => k_is)
    (case zzcl3 => k_is)
    (case zzm3 => k_is)
    (case zzno3 => (show PySem.W.findIn _ _ "value" = _; k_is))
    (case zzi3 => k_is)
    (case zzti3 => k_is)
    (case zzl3 => k_is)
    (case zzc3 => k_is)
    (case zzkf3 => k_is)
    (case zzw3 => kit_is)
    (case zzve3 => kit_is)
    (case zza4 => k_is)
    (case zzx4 => k_is)
    (case zzv4 => rfl)
    (case zzs4 => k_is)
    (case zzb4 => k_is)
    (case zzt4 => k_is)
    (case zzkp4 => k_is)
    (case zzg4 => k_is)
    (case zzgg4 => k_is)
    (case zzd4 => k_is)
    (case zzcl4 => k_is)
    (case zzm4 => k_is)
    (case zzno4 => (show PySem.W.findIn _ _ "value" = _; k_is))
    (case zzi4 => k_is)
    (case zzti4 => k_is)
    (case zzl4 => k_is)
    (case zzc4 => k_is)
    (case zzkf4 => k_is)
    (case zzw4 => kit_is)
    (case zzve4 => kit_is)
    (case zza5 => k_is)
    (case zzx5 => k_is)
    (case zzv5 => rfl)
    (case zzs5 => k_is)
    (case zzb5 => k_is)
    (case zzt5 => k_is)
    (case zzkp5 => k_is)
    (case zzg5 => k_is)
    (case zzgg5 => k_is)
    (case zzd5 => k_is)
    (case zzcl5 => k_is)
    (case zzm5 => k_is)
    (case zzno5 => (show PySem.W.findIn _ _ "value" = _; k_is))
    (case zzi5 => k_is)
    (case zzti5 => k_is)
    (case zzl5 => k_is)
    (case zzc5 => k_is)
    (case zzkf5 => k_is)
    (case zzw5 => kit_is)
    (case zzve5 => kit_is)
    (case zza6 => k_is)
    (case zzx6 => k_is)
    (case zzv6 => rfl)
    (case zzs6 => k_is)
    (case zzb6 => k_is)
    (case zzt6 => k_is)
    (case zzkp6 => k_is)
    (case zzg6 => k_is)
    (case zzgg6 => k_is)
    (case zzd6 => k_is)
    (case zzcl6 => k_is)
    (case zzm6 => k_is)
    (case zzno6 => (show PySem.W.findIn _ _ "position" = _; k_is))
    (case zzi6 => k_is)
    (case zzti6 => k_is)
    (case zzl6 => k_is)
    (case zzc6 => k_is)
    (case zzkf6 => k_is)
    (case zzw6 => kit_is)
    (case zzve6 => kit_is)
    (case zza7 => k_is)
    (case zzx7 => k_is)
    (case zzv7 => rfl)
    (case zzs7 => k_is)
    (case zzb7 => k_is)
    (case zzt7 => k_is)
    (case zzkp7 => k_is)
    (case zzg7 => k_is)
    (case zzgg7 => k_is)
    (case zzd7 => k_is)
    (case zzcl7 => k_is)
    (case zzm7 => k_is)
    (case zzno7 => (show PySem.W.findIn _ _ "piece" = _; k_is))
    (case zzi7 => k_is)
    (case zzti7 => k_is)
    (case zzl7 => k_is)
    (case zzc7 => k_is)
    (case zzkf7 => k_is)
    (case zzw7 => kit_is)
    (case zzve7 => kit_is)
    (case zza8 => k_is)
    (case zzx8 => k_is)
    (case zzv8 => rfl)
    (case zzs8 => k_is)
    (case zzb8 => k_is)
    (case zzt8 => k_is)
    (case zzkp8 => k_is)
    (case zzg8 => k_is)
    (case zzgg8 => k_is)
    (case zzd8 => k_is)
    (case zzcl8 => k_is)
    (case zzm8 => k_is)
    (case zzno8 => (show PySem.W.findIn _ _ "count" = _; k_is))
    (case zzi8 => k_is)
    (case zzti8 => k_is)
    (case zzl8 => k_is)
    (case zzc8 => k_is)
    (case zzkf8 => k_is)
    (case zzw8 => kit_is)
    (case zzve8 => kit_is)
    (case zza9 => k_is)
    (case zzx9 => k_is)
    (case zzv9 => rfl)
    (case zzs9 => k_is)
    (case zzb9 => k_is)
    (case zzt9 => k_is)
    (case zzkp9 => k_is)
    (case zzg9 => k_is)
    (case zzgg9 => k_is)
    (case zzd9 => k_is)
    (case zzcl9 => k_is)
    (case zzm9 => k_is)
    (case zzno9 => (show PySem.W.findIn _ _ "count" = _; k_is))
    (case zzi9 => k_is)
    (case zzti9 => k_is)
    (case zzl9 => k_is)
    (case zzc9 => k_is)
    (case zzkf9 => k_is)
    (case zzw9 => kit_is)
    (case zzve9 => kit_is)
    (case zza10 => k_is)
    (case zzx10 => k_is)
    (case zzv10 => rfl)
    (case zzs10 => k_is)
    (case zzb10 => k_is)
    (case zzt10 => k_is)
    (case zzkp10 => k_is)
    (case zzg10 => k_is)
    (case zzgg10 => k_is)
    (case zzd10 => k_is)
    (case zzcl10 => k_is)
    (case zzm10 => k_is)
    (case zzno10 => (show PySem.W.findIn _ _ "line" = _; k_is))
    (case zzi10 => k_is)
    (case zzti10 => k_is)
    (case zzl10 => k_is)
    (case zzc10 => k_is)
    (case zzkf10 => k_is)
    (case zzw10 => kit_is)
    (case zzve10 => kit_is)
    (case zzsp => k_is)
    (case zztk => k_is)
    (case zze0_1 => kit_is)
    (case zze0_2 => kit_is)
    (case zze0_3 => kit_is)
    (case zze0_4 => kit_is)
    (case zze0_5 => kit_is)
    (case zze0_6 => kit_is)
    (case zze0_7 => kit_is)
    (case zze0_8 => kit_is)
    (case zze0_9 => kit_is)
    (case zze0_10 => kit_is)
    (case zze1_0 => kit_is)
    (case zze1_2 => kit_is)
    (case zze1_3 => kit_is)
    (case zze1_4 => kit_is)
    (case zze1_5 => kit_is)
    (case zze1_6 => kit_is)
    (case zze1_7 => kit_is)
    (case zze1_8 => kit_is)
    (case zze1_9 => kit_is)
    (case zze1_10 => kit_is)
    (case zze2_0 => kit_is)
    (case zze2_1 => kit_is)
    (case zze2_3 => kit_is)
    (case zze2_4 => kit_is)
    (case zze2_5 => kit_is)
    (case zze2_6 => kit_is)
    (case zze2_7 => kit_is)
    (case zze2_8 => kit_is)
    (case zze2_9 => kit_is)
    (case zze2_10 => kit_is)
    (case zze3_0 => kit_is)
    (case zze3_1 => kit_is)
    (case zze3_2 => kit_is)
    (case zze3_4 => kit_is)
    (case zze3_5 => kit_is)
    (case zze3_6 => kit_is)
    (case zze3_7 => kit_is)
    (case zze3_8 => kit_is)
    (case zze3_9 => kit_is)
    (case zze3_10 => kit_is)
    (case zze4_0 => kit_is)
    (case zze4_1 => kit_is)
    (case zze4_2 => kit_is)
    (case zze4_3 => kit_is)
    (case zze4_5 => kit_is)
    (case zze4_6 => kit_is)
    (case zze4_7 => kit_is)
    (case zze4_8 => kit_is)
    (case zze4_9 => kit_is)
    (case zze4_10 => kit_is)
    (case zze5_0 => kit_is)
    (case zze5_1 => kit_is)
    (case zze5_2 => kit_is)
    (case zze5_3 => kit_is)
    (case zze5_4 => kit_is)
    (case zze5_6 => kit_is)
    (case zze5_7 => kit_is)
    (case zze5_8 => kit_is)
    (case zze5_9 => kit_is)
    (case zze5_10 => kit_is)
    (case zze6_0 => kit_is)
    (case zze6_1 => kit_is)
    (case zze6_2 => kit_is)
    (case zze6_3 => kit_is)
    (case zze6_4 => kit_is)
    (case zze6_5 => kit_is)
    (case zze6_7 => kit_is)
    (case zze6_8 => kit_is)
    (case zze6_9 => kit_is)
    (case zze6_10 => kit_is)
    (case zze7_0 => kit_is)
    (case zze7_1 => kit_is)
    (case zze7_2 => kit_is)
    (case zze7_3 => kit_is)
    (case zze7_4 => kit_is)
    (case zze7_5 => kit_is)
    (case zze7_6 => kit_is)
    (case zze7_8 => kit_is)
    (case zze7_9 => kit_is)
    (case zze7_10 => kit_is)
    (case zze8_0 => kit_is)
    (case zze8_1 => kit_is)
    (case zze8_2 => kit_is)
    (case zze8_3 => kit_is)
    (case zze8_4 => kit_is)
    (case zze8_5 => kit_is)
    (case zze8_6 => kit_is)
    (case zze8_7 => kit_is)
    (case zze8_9 => kit_is)
    (case zze8_10 => kit_is)
    (case zze9_0 => kit_is)
    (case zze9_1 => kit_is)
    (case zze9_2 => kit_is)
    (case zze9_3 => kit_is)
    (case zze9_4 => kit_is)
    (case zze9_5 => kit_is)
    (case zze9_6 => kit_is)
    (case zze9_7 => kit_is)
    (case zze9_8 => kit_is)
    (case zze9_10 => kit_is)
    (case zze10_0 => kit_is)
    (case zze10_1 => kit_is)
    (case zze10_2 => kit_is)
    (case zze10_3 => kit_is)
    (case zze10_4 => kit_is)
    (case zze10_5 => kit_is)
    (case zze10_6 => kit_is)
    (case zze10_7 => kit_is)
    (case zze10_8 => kit_is)
    (case zze10_9 => kit_is)
    (case zzda0 => k_is)
    (case zzdl0 => k_is)
    (case zzdc0 => k_is)
    (case zzdk0 => k_is)
    (case zzda1 => k_is)
    (case zzdl1 => k_is)
    (case zzdc1 => k_is)
    (case zzdk1 => k_is)
    (case zzda2 => k_is)
    (case zzdl2 => k_is)
    (case zzdc2 => k_is)
    (case zzdk2 => k_is)
    (case zzda3 => k_is)
    (case zzdl3 => k_is)
    (case zzdc3 => k_is)
    (case zzdk3 => k_is)
    (case zzda4 => k_is)
    (case zzdl4 => k_is)
    (case zzdc4 => k_is)
    (case zzdk4 => k_is)
    (case zzda5 => k_is)
    (case zzdl5 => k_is)
    (case zzdc5 => k_is)
    (case zzdk5 => k_is)
    (case zzda6 => k_is)
    (case zzdl6 => k_is)
    (case zzdc6 => k_is)
    (case zzdk6 => k_is)
    (case zzda7 => k_is)
    (case zzdl7 => k_is)
    (case zzdc7 => k_is)
    (case zzdk7 => k_is)
    (case zzzint => k_is)
    (case zzzlen => k_is)
    (case zzzrange => k_is)
    (case zzzmax => k_is)
    (case zzzmin => k_is)
    (case zzzisinstance => k_is)
    (case zzzlist => k_is)
    (case zzzdict => k_is)
    (case zzzrepr => k_is)
    (case zzzenumerate => k_is)
    (case zzzValueError => k_is)
  case S =>
    intro K H a ns hl hb on hS
    exact ⟨a, ns, rfl, on, hS, hl, hb, fun _ => rfl⟩
#print axioms PySem.Challenge.cw_cornerturn_k61_errors_by_hand_holds
