import PyProof.Rows.All
import Wide.All
import OpenK.AllK
import Wide.FinOn
import PySem.Challenge.RW_sleepmany_k11_kinds_known
import HandS.ForMost
import HandS.IsInst
import HandS.Wide
import HandS.EndBits
import HandS.Evl
import HandS.Strs
set_option Elab.async false
set_option linter.all false
set_option maxRecDepth 100000
set_option maxHeartbeats 2000000
namespace Lb
open PySem PySem.Spec PyProof.Rows L2

/-! ### 1. Defs that show things: called where no showing is under way -/
section
variable (P : Program) (w : World) (K : PySem.W.Frag) (mg : Str → Option Value) (base : Heap)
/-- a def keeps sp wherever nothing is being shown -/
structure FnG (k : Nat) (f : Addr) (fd : FuncData) (ps : List Str) (sp : Sp) : Prop where
  many : ∀ vs H Q E, sp vs H Q E → vs.length = ps.length
  go : ∀ (A : Around) (outer : List Env) (s : Shared) (H : Hp) (args : Args) (us : List Value) (vs : List V) (Q : VK) (E : XK),
    Room k A → A.guards = some [] → Env0 P w K mg base A outer s H → BindsTo s fd args (ps.zip us) → Vals vs us → sp vs H Q E →
      codeAny (model P w) A (.call (.ref f) args) (CR CX0 outer P w H s Q E) s
/-- a def of the module that can be called by its name -/
structure Cal (k : Nat) (x : Str) (sp : Sp) : Prop where
  ex : ∃ (f : Addr) (fd : FuncData) (ps : List Str), FnOk P w K mg base CX0 k f fd ps sp ∧ mg x = some (.ref f) ∧ PySem.W.keepIn K (.ref f) = true ∧ Binds K fd ps []
structure CalG (k : Nat) (x : Str) (sp : Sp) : Prop where
  ex : ∃ (f : Addr) (fd : FuncData) (ps : List Str), FnG P w K mg base k f fd ps sp ∧ mg x = some (.ref f) ∧ PySem.W.keepIn K (.ref f) = true ∧ Binds K fd ps []
end
section
variable {P : Program} {w : World} {K : PySem.W.Frag} {mg : Str → Option Value} {base : Heap}
theorem fnG_of {x qual : Str} {st : Stmt} {f : Addr} {fd : FuncData} {N ps : List Str} {k : Nat} {sp : Sp} (F : Fun K x qual st f fd)
    (S : FnScope N ps (defScope st)) (many : ∀ vs H Q E, sp vs H Q E → vs.length = ps.length)
    (body : ∀ (cdv : Value) (A : Around) (outer : List Env) (s : Shared) (H : Hp) (vs : List V) (Q : VK) (E : XK), A.guards = some [] →
      Room k (A.deeper (envOfC qual (defScope st) s.heap.objs.size f cdv)) → sp vs H Q E →
      ∃ t, PSs (cxOf CX0 P w K mg base N qual (defScope st) f cdv A outer s H E).nox (defBody st) t ∧ t { nx := fun _ H' => Q .non H', rt := Q } (L2.start N vs) H) :
    FnG P w K mg base (k + 1) f fd ps sp := by
  obtain ⟨oc, od, kV, doc, pm, an, cdv, ct, osl, rfl, lk, hcd⟩ := F.ex
  constructor
  · exact many
  intro A outer s H args us vs Q E room noG e0 bindsTo vals wish
  have old : ∀ b o, base.get? b = some o → s.heap.get? b = some o := fun b o z => (e0.bs b o z).1
  have inK := e0.mod.kin.keeps old
  have kinds : ∀ y ∈ ps.zip us, (defScope st).names.lookup y.1 = some .local ∨
      ((defScope st).names.lookup y.1 = some .cell ∧ ((cellsFrom (s.heap.objs.size + 1) (defScope st).names []).lookup y.1).isSome = true) := by
    rintro ⟨n, v⟩ hy
    exact (S.par n (List.of_mem_zip hy).1).imp id fun q => ⟨q, PySem.W.cellsFrom_some _ _ _ (.inl q)⟩
  refine codeAny_call_function room.depth (inK _ _ lk) rfl S.co S.gen rfl (PySem.W.codeRec_of inK hcd) (bindsTo _ _ _ _ ?_)
  refine wpAny_newFunctionEnv_cells S.kind kinds ?_
  rintro env rfl s1 x
  refine ⟨(e0.mod.nolimit.keeps old).keeps x.toInCall.keep, codeAny_func ?_⟩
  obtain ⟨t, ht, hq⟩ := body cdv A outer s H vs Q E noG (room.deeper _) wish
  have J0 := inv_start (CX := CX0) (E := E) S room.hd e0 (many _ _ _ _ wish) vals x
  refine wpAny_mono (ht.nox.run [] s1 (L2.start N vs) H _ J0 hq) ?_ fun e s' hs => hs
  intro fl s' hs
  cases fl with
  | next =>
    obtain ⟨σ', H', J, q⟩ := hs
    exact ⟨V.non, H', J.os, J.bare, J.base, J.hok, rfl, q⟩
  | ret u =>
    obtain ⟨v, σ', H', J, rv, q⟩ := hs
    exact ⟨v, H', J.os, J.bare, J.base, J.hok, rv, q⟩
  | brk => exact (let ⟨_, _, _, q⟩ := hs; q : False).elim
  | cont => exact (let ⟨_, _, _, q⟩ := hs; q : False).elim
end
section
variable {X : Cx} {x : Str} {p pos : Pos} {e : Expr} {es : List Expr} {t : TA} {k j : Nat} {sp : Sp}
theorem pe_n (c : Cal X.prog X.w X.K X.mg X.base k x sp) (hr : Room j X.A) (hk : k ≤ j) (hg : Gl X x) (ha : PA X (e :: es) t)
    (h1 : (x == ("__debug__" : Str)) = false := by decide) (h2 : starEach (e :: es) X.env = (false, eval e X.env) :: starEach es X.env := by rfl)
    (h3 : (backTo pos (starEach es X.env)).any (·.1) = false := by rfl) : PE X (.Call (.Name x p) (e :: es) [] pos) (tCall sp [] E0 t) := by
  obtain ⟨f, fd, ps, F, hm, kp, b⟩ := c.ex
  exact pe_call F (hr.mono hk) hg hm kp b .nil pass0 ha h1 h2 h3
def tG (sp : Sp) (t : TA) : TE := fun σ H Q => t σ H fun vs H1 => sp vs H1 Q E0
theorem pe_g (c : CalG X.prog X.w X.K X.mg X.base k x sp) (noG : X.A.guards = some []) (hr : Room j X.A) (hk : k ≤ j) (hg : Gl X x) (ha : PA X (e :: es) t)
    (h1 : (x == ("__debug__" : Str)) = false := by decide) (h2 : starEach (e :: es) X.env = (false, eval e X.env) :: starEach es X.env := by rfl)
    (h3 : (backTo pos (starEach es X.env)).any (·.1) = false := by rfl) : PE X (.Call (.Name x p) (e :: es) [] pos) (tG sp t) := by
  obtain ⟨f, fd, ps, F, hm, kp, b⟩ := c.ex
  constructor
  intro pins s σ H Q I h
  refine wpAny_Call_Name_kw (ld_glob I hg hm ?_ h1)
  refine PySem.W.callWith_K (h₀ := X.base) I.ok.mod.kin kp (thn (ha.run pos pins s σ H _ I h) ?_) h2 h3
  rintro us s1 ⟨vs, H1, I1, r, q⟩
  refine ⟨I1.kIn, ?_⟩
  have len : us.length = ps.length := r.length.symm.trans (F.many _ _ _ _ q)
  have bt := b s1 us I1.kIn (by rw [List.append_nil]; exact len)
  rw [List.append_nil] at bt
  refine wpAny_call (codeAny_mono (F.go X.A X.stack s1 H1 ⟨us, []⟩ us vs Q E0 (hr.mono hk) noG I1.env0 bt r q) ?_)
  intro z s' hq
  cases z with
  | error e => exact False.elim hq
  | ok fl => cases fl with
    | ret u => exact I1.after hq
    | next => exact False.elim hq
    | brk => exact False.elim hq
    | cont => exact False.elim hq
end
end Lb

set_option maxHeartbeats 2000000
namespace Lb
open PySem PySem.Spec PyProof.Rows L2
/-! ### 2. The law's own call: nothing is being shown there -/
/-- the abstract heap of the start: the script alone, where it is not the module's -/
theorem start_heap {P : Program} {w : World} {K : PySem.W.Frag} {h : Heap} {a : Addr} {vs : List Value} {ns : List Int} (KX : K.In h)
    (ha : h.get? a = some { cls := .type "list", data := .seq vs.toArray }) (hi : IntsAre vs ns) (hl : ns.length ≤ sizeLine) :
    ∃ H : Hp, Only H ∧ SqL K H a (ns.map V.int) ∧ HOk P w H h ∧ (∀ b, H b ≠ none → b = a) ∧ (H a ≠ none → K.lookup a = none) := by
  have rv := vals_ints hi
  cases hk : K.lookup a with
  | some o =>
    have e := (KX a o hk).symm.trans ha
    cases e
    refine ⟨fun _ => none, fun _ => .inl rfl, .inr ?_, (fun b u z => nomatch z), fun b z => absurd rfl z, fun z => absurd rfl z⟩
    exact ⟨_, vs.toArray, _, hk, rfl, rfl, rfl, by rw [List.size_toArray, hi.length]; exact hl, by simpa using rv⟩
  | none =>
    refine ⟨fun b => if b = a then some (.frz { cls := .type "list", data := .seq vs.toArray } (.lst (ns.map V.int))) else none, ?_, .inl (.inr ⟨_, if_pos rfl⟩), ?_, ?_, fun _ => rfl⟩
    · intro b
      by_cases hb : b = a
      · exact .inr ⟨_, _, if_pos hb⟩
      · exact .inl (if_neg hb)
    · intro b u z
      by_cases hb : b = a
      · subst hb
        have z2 := (if_pos rfl).symm.trans z
        cases z2
        exact ⟨ha, by rw [List.length_map]; exact hl, vs, _, rv, ha⟩
      · have z2 := (if_neg hb).symm.trans z
        cases z2
    · intro b z
      by_cases hb : b = a
      · exact hb
      · exact absurd (if_neg hb) z
theorem law_at {P : Program} {w : World} {K : PySem.W.Frag} {mg mb : Str → Option Value} {k : Nat} {fa a : Addr} {fd : FuncData} {x : Str} {sp : Sp} {s : Shared} {vs : List Value} {ns : List Int}
    (KX : K.In s.heap) (hns : s.heap.Ns mainGlobals mg) (hb : s.heap.Ns builtinsNs mb) (hbb : ∀ x : Str, x ≠ "__name__" → mb x = bootBuiltins x) (hlim : s.heap.NoLimit) (hg : s.gens = #[])
    (ha : s.heap.get? a = some { cls := .type "list", data := .seq vs.toArray }) (hi : IntsAre vs ns) (hl : ns.length ≤ sizeLine) (hr : Room k callerA)
    (F : ∀ base : Heap, K.In base → base.Ns mainGlobals mg → FnG P w K mg base k fa fd [x] sp) (hbind : ∀ (s : Shared) (u : Value), BindsTo s fd ⟨[u], []⟩ [(x, u)])
    (hsp : ∀ H : Hp, Only H → SqL K H a (ns.map V.int) → sp [.ref a] H (fun v _ => v = .bl true) E0) :
    codeAny (model P w) callerA (.call (.ref fa) ⟨[.ref a], []⟩) (fun r s' => r = .ok (.ret (.bool true)) ∧ OldK s.heap s'.heap ∧ s'.os = s.os ∧ AllBare s'.gens) s := by
  obtain ⟨H, hO, hS, hok, hA, hK⟩ := start_heap (P := P) (w := w) KX ha hi hl
  have untracked : ∀ {b : Addr} {o : Obj}, s.heap.get? b = some o → b ≠ a → H b = none := fun {b o} _ ne => by
    cases q : H b with
    | none => rfl
    | some u => exact absurd (hA b (by rw [q]; exact fun z => nomatch z)) ne
  have dictNe : ∀ {b : Addr} {o : Obj} {es : Array DictEntry} {ep : Nat}, s.heap.get? b = some o → o.data = .dict es ep → b ≠ a := by
    intro b o es ep e d z
    subst z
    have e2 := e.symm.trans ha
    cases e2
    exact nomatch d
  have nsB : ∀ {b : Addr} {m : Str → Option Value}, s.heap.Ns b m → (hidT s.heap H).Ns b m := by
    rintro b m ⟨o, es, ep, e, d, r⟩
    exact ⟨o, es, ep, hidT_get e (untracked e (dictNe e d)), d, r⟩
  have kB : K.In (hidT s.heap H) := by
    intro b o e
    refine hidT_get (KX b o e) ?_
    cases q : H b with
    | none => rfl
    | some u =>
      have z : b = a := hA b (by rw [q]; exact fun z => nomatch z)
      subst z
      have n := hK (by rw [q]; exact fun z => nomatch z)
      rw [n] at e
      cases e
  obtain ⟨mc, l1, l2⟩ := hlim
  have hM : Mod K mg (hidT s.heap H) := ⟨kB, nsB hns, ⟨mb, nsB hb, hbb⟩, ⟨mc, nsB l1, l2⟩⟩
  have e0 : Env0 P w K mg (hidT s.heap H) callerA [] s H :=
    { frames := rfl, mod := hM, bs := fun b o e => of_hidT e, bsz := Nat.le_of_eq (hidT_size _ _), funs := trivial, frf := (fun b hb => nomatch hb), hok := hok, bare := .of_eq hg }
  have run := (F _ kB (nsB hns)).go callerA [] s H ⟨[.ref a], []⟩ [.ref a] [.ref a] _ _ hr rfl e0 (hbind s (.ref a)) (.cons rfl .nil) (hsp H hO hS)
  refine codeAny_mono run ?_
  intro r s' h
  cases r with
  | error e => exact False.elim h
  | ok fl =>
    cases fl with
    | next => exact False.elim h
    | brk => exact False.elim h
    | cont => exact False.elim h
    | ret u =>
      obtain ⟨v, H', os, bare, un, hok', rv, rfl⟩ := h
      obtain rfl : u = Value.bool true := rv
      refine ⟨rfl, OldK.of_keep ?_, os, bare⟩
      intro b o e
      rcases hO b with q | ⟨ob, xs, q⟩
      · exact un.keep b o e q (fun z => nomatch z) (fun z => nomatch z)
      · have e1 := (hok b _ q).1
        have e2 := (hok' b _ (un.frzs b ob _ q)).1
        rw [e1] at e
        cases e
        exact e2
theorem walkG {l : PySem.W.OpenLaw} {n k : Nat} {q : Program} {loose : List Str} {XP : (Str → Option Value) → Heap → Prop} {YP : World → Heap → Prop} {d : DefRec} {K : Params → PySem.W.Frag} {sp : PySem.W.Frag → Sp} {x : Str}
    (hn : l.most = some n) (hn2 : n ≤ sizeLine) (hdf : d.params.defaults = []) (hr : Room k callerA) (hY : ∀ (w : World) (h : Heap), YP w h → (K w.params).In h)
    (F : ∀ (w : World) (mg : Str → Option Value) (fa : Addr) (h : Heap), (K w.params).In h → h.Ns mainGlobals mg → mg d.name = some (.ref fa) →
      ∃ fd : FuncData, (∀ (s : Shared) (u : Value), BindsTo s fd ⟨[u], []⟩ [(x, u)]) ∧
        ∀ base : Heap, (K w.params).In base → base.Ns mainGlobals mg → FnG l.prog w (K w.params) mg base k fa fd [x] (sp (K w.params)))
    (hsp : ∀ (K : PySem.W.Frag) (H : Hp) (a : Addr) (ns : List Int), ns.length ≤ n → (∀ z ∈ ns, Builtin.Int.intBits z ≤ 1048576) → Only H → SqL K H a (ns.map V.int) → sp K [.ref a] H (fun v _ => v = .bl true) E0) :
    PySem.W.WalkO q loose XP YP l.row.toRowW d [] (fun f vs => PySem.call f vs) := by
  refine Att.attach_callB hn hdf ?_
  intro w s₀ s₁ mg mb fa o pm cd doc a vs ns G Y ho hd hcd hmg hobj hints hlen hbits hg
  have KX := hY w _ Y
  obtain ⟨fd, hb, hF⟩ := F w mg fa _ KX G.T.g hmg
  exact law_at KX G.T.g G.T.b G.T.builtins G.T.nolimit hg hobj hints (Nat.le_trans hlen hn2) hr hF hb fun H hO hS => hsp _ H a ns hlen hbits hO hS
end Lb

set_option maxHeartbeats 2000000
namespace Lb
open PySem PySem.Spec PyProof.Rows L2
/-! ### 3. Things: plain data, as they lie in the abstract heap, away from the object at b -/
def sD : V → PyData
  | .bl x => .bool x
  | .int i => .int i
  | .str z => .str z
  | _ => .none
def isSc : V → Bool
  | .non | .bl _ | .int _ | .str _ => true
  | _ => false
def keyD : Key → PyData
  | .inl i => .int i
  | .inr z => .str z
mutual
/-- the value v is the thing d -/
def Dat (b : Addr) (H : Hp) : PyData → V → Prop
  | .none, v => v = .non
  | .bool x, v => v = .bl x
  | .int i, v => v = .int i
  | .str z, v => v = .str z
  | .list ds, v => ∃ a vs, v = .ref a ∧ a ≠ b ∧ H a = some (.lst vs) ∧ Dats b H ds vs
  | .tuple ds, v => ∃ a vs, v = .ref a ∧ a ≠ b ∧ H a = some (.tup vs) ∧ Dats b H ds vs
  | .dict kvs, v => ∃ a es, v = .ref a ∧ a ≠ b ∧ H a = some (.dK es) ∧ kvs = es.map (fun e => (keyD e.1, sD e.2)) ∧ es.all (fun e => isSc e.2) = true
def Dats (b : Addr) (H : Hp) : List PyData → List V → Prop
  | [], vs => vs = []
  | d :: ds, vs => ∃ v r, vs = v :: r ∧ Dat b H d v ∧ Dats b H ds r
end
/-- all but the object at b stays -/
def Kp (b : Addr) (H H' : Hp) : Prop := ∀ a o, a ≠ b → H a = some o → H' a = some o
theorem Kp.refl {b : Addr} (H : Hp) : Kp b H H := fun _ _ _ h => h
theorem Kp.trans {b : Addr} {H H1 H2 : Hp} (x : Kp b H H1) (y : Kp b H1 H2) : Kp b H H2 := fun a o n h => y a o n (x a o n h)
theorem Kp.new {b p : Addr} {H : Hp} {o : HO} (h : H p = none) : Kp b H (upd H p o) := fun a u _ z => by
  rw [upd_ne (ne_of_none z h)]
  exact z
theorem Kp.own {b : Addr} {H : Hp} {o : HO} : Kp b H (upd H b o) := fun a u n z => by
  rw [upd_ne n]
  exact z
theorem Kp.of_same {b : Addr} {H H' : Hp} (h : Same H H') : Kp b H H' := fun a o _ z => h a o z
mutual
theorem Dat.mono {b : Addr} {H H' : Hp} (k : Kp b H H') : ∀ {d : PyData} {v : V}, Dat b H d v → Dat b H' d v
  | .none, _, h => by simpa only [Dat] using h
  | .bool _, _, h => by simpa only [Dat] using h
  | .int _, _, h => by simpa only [Dat] using h
  | .str _, _, h => by simpa only [Dat] using h
  | .list ds, v, h => by
    simp only [Dat] at h ⊢
    obtain ⟨a, vs, e, n, z, q⟩ := h
    exact ⟨a, vs, e, n, k a _ n z, Dats.mono k q⟩
  | .tuple ds, v, h => by
    simp only [Dat] at h ⊢
    obtain ⟨a, vs, e, n, z, q⟩ := h
    exact ⟨a, vs, e, n, k a _ n z, Dats.mono k q⟩
  | .dict kvs, v, h => by
    simp only [Dat] at h ⊢
    obtain ⟨a, es, e, n, z, q⟩ := h
    exact ⟨a, es, e, n, k a _ n z, q⟩
theorem Dats.mono {b : Addr} {H H' : Hp} (k : Kp b H H') : ∀ {ds : List PyData} {vs : List V}, Dats b H ds vs → Dats b H' ds vs
  | [], _, h => by simpa only [Dats] using h
  | d :: ds, vs, h => by
    simp only [Dats] at h ⊢
    obtain ⟨v, r, e, x, y⟩ := h
    exact ⟨v, r, e, Dat.mono k x, Dats.mono k y⟩
end
theorem Dats.length {b : Addr} {H : Hp} : ∀ {ds : List PyData} {vs : List V}, Dats b H ds vs → ds.length = vs.length
  | [], _, h => by
    simp only [Dats] at h
    rw [h]
    rfl
  | d :: ds, vs, h => by
    simp only [Dats] at h
    obtain ⟨v, r, rfl, _, y⟩ := h
    rw [List.length_cons, List.length_cons, Dats.length y]
theorem Dats.get {b : Addr} {H : Hp} : ∀ {ds : List PyData} {vs : List V} {i : Nat} {v : V}, Dats b H ds vs → vs[i]? = some v → ∃ d, ds[i]? = some d ∧ Dat b H d v
  | [], vs, i, v, h, e => by
    simp only [Dats] at h
    rw [h] at e
    simp at e
  | d :: ds, vs, i, v, h, e => by
    simp only [Dats] at h
    obtain ⟨x, r, rfl, y, z⟩ := h
    cases i with
    | zero =>
      simp at e
      subst e
      exact ⟨d, rfl, y⟩
    | succ i =>
      simp at e
      obtain ⟨d', h1, h2⟩ := Dats.get z e
      exact ⟨d', by simpa using h1, h2⟩
theorem Dats.app {b : Addr} {H : Hp} : ∀ {ds es : List PyData} {vs us : List V}, Dats b H ds vs → Dats b H es us → Dats b H (ds ++ es) (vs ++ us)
  | [], es, vs, us, h, k => by
    simp only [Dats] at h
    rw [h]
    exact k
  | d :: ds, es, vs, us, h, k => by
    simp only [Dats] at h
    obtain ⟨x, r, rfl, y, z⟩ := h
    show Dats b H (d :: (ds ++ es)) (x :: (r ++ us))
    simp only [Dats]
    exact ⟨x, r ++ us, rfl, y, Dats.app z k⟩
theorem Dats.tk {b : Addr} {H : Hp} : ∀ {ds : List PyData} {vs : List V} (n : Nat), Dats b H ds vs → Dats b H (ds.take n) (vs.take n)
  | ds, vs, 0, h => by
    show Dats b H [] []
    simp only [Dats]
  | [], vs, n + 1, h => by
    simp only [Dats] at h
    rw [h]
    simp only [List.take_nil, Dats]
  | d :: ds, vs, n + 1, h => by
    simp only [Dats] at h
    obtain ⟨x, r, rfl, y, z⟩ := h
    show Dats b H (d :: ds.take n) (x :: r.take n)
    simp only [Dats]
    exact ⟨x, _, rfl, y, Dats.tk n z⟩
theorem Dats.dp {b : Addr} {H : Hp} : ∀ {ds : List PyData} {vs : List V} (n : Nat), Dats b H ds vs → Dats b H (ds.drop n) (vs.drop n)
  | ds, vs, 0, h => h
  | [], vs, n + 1, h => by
    simp only [Dats] at h
    rw [h]
    simp only [List.drop_nil, Dats]
  | d :: ds, vs, n + 1, h => by
    simp only [Dats] at h
    obtain ⟨x, r, rfl, y, z⟩ := h
    exact Dats.dp n z
theorem dats_strs {b : Addr} {H : Hp} : ∀ ws : List Str, Dats b H (ws.map PyData.str) (ws.map V.str)
  | [] => by simp only [List.map_nil, Dats]
  | x :: r => by
    simp only [List.map_cons, Dats, Dat]
    exact ⟨_, _, rfl, rfl, dats_strs r⟩
/-! how they lie in the heap itself -/
theorem reads_sc {h : Heap} {v : V} {u : Value} (s : isSc v = true) (r : RelV v u) : Reads h u (sD v) [] := by
  cases v with
  | non => cases (show u = Value.none from r); exact .none
  | bl x => cases (show u = Value.bool x from r); exact .bool x
  | int i => obtain ⟨t, e⟩ := (show ∃ t, u = Value.int i t from r); cases e; exact .int i t
  | str z => obtain ⟨t, e⟩ := (show ∃ t, u = Value.str z t from r); cases e; exact .str z t
  | byt x => cases s
  | flt x => cases s
  | ref x => cases s
  | ty x => cases s
theorem reads_key {h : Heap} {k : Key} {u : Value} (s : keyIs k u = true) : Reads h u (keyD k) [] := by
  rcases keyIs_shape s with ⟨i, t, rfl, rfl⟩ | ⟨x, t, rfl, rfl⟩
  · exact .int i t
  · exact .str x t
theorem reads_kv {P : Program} {w : World} {h : Heap} : ∀ {es : List (Key × V)} {vs : List (Key × Value)} {ds : List DictEntry}, KV es vs → Pairs (mixKind P w) ds vs → es.all (fun e => isSc e.2) = true →
    ReadsAll h (ds.map (·.key)) (es.map fun e => keyD e.1) [] ∧ ReadsAll h (ds.map (·.val)) (es.map fun e => sD e.2) []
  | _, _, _, .nil, .nil, _ => ⟨.nil, .nil⟩
  | _, _, _, .cons (a := x) (b := y) r t, .cons (e := n) k v p, a => by
    simp only [List.all_cons, Bool.and_eq_true] at a
    obtain ⟨h1, h2⟩ := reads_kv (h := h) t p a.2
    constructor
    · have k2 : keyIs x.1 n.key = true := by rw [r.1]; exact k
      have q := ReadsAll.cons (reads_key (h := h) k2) h1
      simpa using q
    · have v2 : RelV x.2 n.val := by rw [v]; exact r.2
      have q := ReadsAll.cons (reads_sc (h := h) a.1 v2) h2
      simpa using q
mutual
theorem reads_of {P : Program} {w : World} {b : Addr} {H : Hp} {h : Heap} (ok : HOk P w H h) : ∀ {d : PyData} {v : V} {u : Value}, Dat b H d v → RelV v u → ∃ as, Reads h u d as
  | .none, v, u, q, r => by
    simp only [Dat] at q
    subst q
    exact ⟨_, reads_sc (v := .non) rfl r⟩
  | .bool x, v, u, q, r => by
    simp only [Dat] at q
    subst q
    exact ⟨_, reads_sc (v := .bl x) rfl r⟩
  | .int x, v, u, q, r => by
    simp only [Dat] at q
    subst q
    exact ⟨_, reads_sc (v := .int x) rfl r⟩
  | .str x, v, u, q, r => by
    simp only [Dat] at q
    subst q
    exact ⟨_, reads_sc (v := .str x) rfl r⟩
  | .list ds, v, u, q, r => by
    simp only [Dat] at q
    obtain ⟨a, vs, rfl, _, z, y⟩ := q
    obtain rfl : u = Value.ref a := r
    obtain ⟨_, its, n, rv, e⟩ := ok a _ z
    obtain ⟨as, k⟩ := reads_all ok y rv
    exact ⟨_, .list e rfl rfl k⟩
  | .tuple ds, v, u, q, r => by
    simp only [Dat] at q
    obtain ⟨a, vs, rfl, _, z, y⟩ := q
    obtain rfl : u = Value.ref a := r
    obtain ⟨_, its, rv, o, e1, e2, n, e3⟩ := ok a _ z
    obtain ⟨as, k⟩ := reads_all ok y rv
    exact ⟨_, .tuple e1 e2 e3 k⟩
  | .dict kvs, v, u, q, r => by
    simp only [Dat] at q
    obtain ⟨a, es, rfl, _, z, y, sc⟩ := q
    obtain rfl : u = Value.ref a := r
    obtain ⟨_, _, vs, kv, o, ds, ep, e1, e2, e3, _, p, _⟩ := ok a _ z
    obtain ⟨k1, k2⟩ := reads_kv (h := h) kv p sc
    subst y
    refine ⟨_, .dict e1 e2.1 e3 (as := []) (bs := []) ?_ ?_⟩
    · rw [List.map_map]
      exact k1
    · rw [List.map_map]
      exact k2
theorem reads_all {P : Program} {w : World} {b : Addr} {H : Hp} {h : Heap} (ok : HOk P w H h) : ∀ {ds : List PyData} {vs : List V} {us : List Value}, Dats b H ds vs → Vals vs us → ∃ as, ReadsAll h us ds as
  | [], vs, us, q, r => by
    simp only [Dats] at q
    subst q
    cases r
    exact ⟨_, .nil⟩
  | d :: ds, vs, us, q, r => by
    simp only [Dats] at q
    obtain ⟨x, t, rfl, y, z⟩ := q
    cases r with
    | cons r1 r2 =>
      obtain ⟨as, k1⟩ := reads_of ok y r1
      obtain ⟨bs, k2⟩ := reads_all ok z r2
      exact ⟨_, .cons k1 k2⟩
end
end Lb

set_option maxHeartbeats 2000000
namespace Lb
open PySem PySem.Spec PyProof.Rows L2
/-! ### 4. repr of a thing -/
/-- a part of a list that is shown: no dict, or a dict itself (of plain values) -/
def itemOk : PyData → Bool
  | .dict _ => true
  | d => !d.hasDict
def topOk : PyData → Bool
  | .list ds => ds.all itemOk
  | .tuple ds => ds.all itemOk
  | d => itemOk d
theorem reads_item {P : Program} {w : World} {b : Addr} {H : Hp} {h : Heap} (ok : HOk P w H h) {d : PyData} {v : V} {u : Value} (q : Dat b H d v) (r : RelV v u) (k : itemOk d = true) :
    ∃ as, Reads h u d as ∧ (d.hasDict = true → sysModules ∉ as) := by
  by_cases hd : d.hasDict = true
  · cases d with
    | dict kvs =>
      simp only [Dat] at q
      obtain ⟨a, es, rfl, _, z, y, sc⟩ := q
      obtain rfl : u = Value.ref a := r
      obtain ⟨_, ns, vs, kv, o, ds, ep, e1, e2, e3, _, p, _⟩ := ok a _ z
      obtain ⟨k1, k2⟩ := reads_kv (h := h) kv p sc
      subst y
      refine ⟨a :: ([] ++ []), .dict e1 e2.1 e3 (as := []) (bs := []) ?_ ?_, fun _ hm => ?_⟩
      · rw [List.map_map]
        exact k1
      · rw [List.map_map]
        exact k2
      · have z : sysModules = a := by simpa using hm
        rw [← z] at ns
        simp at ns
    | _ => simp [itemOk, hd] at k
  · obtain ⟨as, k⟩ := reads_of ok q r
    exact ⟨as, k, fun z => absurd z hd⟩
theorem repr_items {P : Program} {w : World} {b : Addr} {H : Hp} {h : Heap} (ok : HOk P w H h) : ∀ {ds : List PyData} {vs : List V} {us : List Value}, Dats b H ds vs → Vals vs us → ds.all itemOk = true →
    PyData.showableAll ds = true → (∀ t ∈ PyData.shownAll ds, t.length ≤ sizeLine) → ∃ bs, ReadAtMost h (PyData.depthAll ds) bs ∧ ReprAllK P w bs h (PyData.depthAll ds) us (PyData.shownAll ds)
  | [], vs, us, q, r, _, _, _ => by
    simp only [Dats] at q
    subst q
    cases r
    exact ⟨[], (fun _ z => nomatch z), by simp only [PyData.shownAll]; exact .nil⟩
  | d :: ds, vs, us, q, r, k, sh, sz => by
    simp only [Dats] at q
    obtain ⟨x, t, rfl, y, z⟩ := q
    simp only [List.all_cons, Bool.and_eq_true] at k
    simp only [PyData.showableAll, Bool.and_eq_true] at sh
    simp only [PyData.shownAll] at sz
    cases r with
    | cons r1 r2 =>
      obtain ⟨as, k1, k2⟩ := reads_item ok y r1 k.1
      obtain ⟨b1, m1, p1⟩ := ReprK.of_reads (prog := P) (w := w) k1 sh.1 k2 (sz _ List.mem_cons_self)
      obtain ⟨b2, m2, p2⟩ := repr_items ok z r2 k.2 sh.2 fun t ht => sz t (List.mem_cons_of_mem _ ht)
      simp only [PyData.depthAll, PyData.shownAll]
      have l1 := Nat.le_max_left d.depth (PyData.depthAll ds)
      have l2 := Nat.le_max_right d.depth (PyData.depthAll ds)
      exact ⟨b1 ++ b2, (m1.mono l1).append (m2.mono l2), .cons ((p1.more fun _ hb => List.mem_append_left _ hb).level_le l1) (p2.more_le (fun _ hb => List.mem_append_right _ hb) l2)⟩
/-- what repr asks of a thing -/
structure Shows (d : PyData) : Prop where
  sh : d.showable = true
  top : topOk d = true
  dep : d.depth ≤ 50
  len : d.shown.length ≤ 1000000
theorem Shows.sz {d : PyData} (h : Shows d) : d.shown.length ≤ sizeLine := Nat.le_trans h.len (by decide)
def rRepr : List V → Hp → VK → Prop := fun xs H Q => ∃ (b : Addr) (v : V) (d : PyData), xs = [v] ∧ Dat b H d v ∧ Shows d ∧ Q (.str d.shown) H
theorem call_repr {X : Cx} {k : Nat} (noG : X.A.guards = some []) (hr : Room k X.A) : CallR X (.builtin "repr") rRepr := by
  rintro pins s σ H xs us Q I r ⟨b, v, d, rfl, q, S, wish⟩
  obtain ⟨u, rfl, r1⟩ := vals1 r
  have un := hr.un
  have fin : ∀ h' t tk, (∀ c o, s.heap.get? c = some o → h'.get? c = some o) → EP X pins σ Q (.str d.shown t) { s with heap := h', toks := tk } :=
    fun h' t tk hk => ⟨.str d.shown, H, I.kept hk, ⟨t, rfl⟩, wish⟩
  cases d with
  | none =>
    simp only [Dat] at q
    subst q
    obtain rfl : u = Value.none := r1
    have z := fin s.heap s.toks (s.toks + 1) fun _ _ e => e
    simp only [PyData.shown] at z
    exact PySem.P.repr_of_none z
  | bool x =>
    simp only [Dat] at q
    subst q
    obtain rfl : u = Value.bool x := r1
    have z := fin s.heap s.toks (s.toks + 1) fun _ _ e => e
    simp only [PyData.shown] at z
    exact PySem.P.repr_of_bool z
  | int i =>
    simp only [Dat] at q
    subst q
    obtain ⟨t, rfl⟩ : ∃ t, u = Value.int i t := r1
    have z := fin s.heap s.toks (s.toks + 1) fun _ _ e => e
    simp only [PyData.shown] at z
    exact PySem.P.repr_of_int (by simpa [PyData.showable] using S.sh) z
  | str x =>
    simp only [Dat] at q
    subst q
    obtain ⟨t, rfl⟩ : ∃ t, u = Value.str x t := r1
    have z := fin s.heap s.toks (s.toks + 1) fun _ _ e => e
    have sz := S.sz
    simp only [PyData.shown] at z sz
    exact PySem.P.repr_of_str z sz
  | list ds =>
    have q0 := q
    simp only [Dat] at q
    obtain ⟨a, vs, rfl, _, z, y⟩ := q
    obtain rfl : u = Value.ref a := r1
    obtain ⟨_, its, n, rv, e⟩ := I.hok a _ z
    have sz := S.sz
    have sh := S.sh
    have dep := S.dep
    simp only [PyData.shown] at sz fin
    simp only [PyData.showable] at sh
    simp only [PyData.depth] at dep
    obtain ⟨bs, m, p⟩ := repr_items I.hok y rv S.top sh fun t ht => Nat.le_trans (listText_mem_le ht) sz
    obtain ⟨as, rd⟩ := reads_of I.hok q0 (show RelV (.ref a) (.ref a) from rfl)
    have na : a ∉ bs := not_mem_of_deeper rd (by simp only [PyData.depth]; omega) m
    refine call_repr_slot (by omega) ⟨_, e, rfl⟩ F.slot_list_repr.toG ?_
    cases its with
    | nil =>
      cases rv
      have y2 := y.length
      have e2 : ds = [] := List.length_eq_zero_iff.mp y2
      subst e2
      simp only [PyData.shownAll, listText_nil] at fin
      exact call_list_repr_empty ⟨_, e, rfl⟩ e rfl ⟨_, _, rfl, fin s.heap _ _ fun _ _ e => e⟩
    | cons x l =>
      refine call_list_reprK (h₀ := s.heap) e rfl rfl na (by simpa using p.length_eq) (fun i y e => p.item i y (by simpa using e)) (A := X.A.in1) noG (fun c _ => Clear.nil c) ?_ (fun _ _ e => e) (fun h' t tk hk => ⟨_, _, rfl, fin h' t tk hk⟩) sz
      show X.A.units + 1 + (PyData.depthAll ds + 1) < cLine
      omega
  | tuple ds =>
    have q0 := q
    simp only [Dat] at q
    obtain ⟨a, vs, rfl, _, z, y⟩ := q
    obtain rfl : u = Value.ref a := r1
    obtain ⟨_, its, rv, o, e, e2, n, e3⟩ := I.hok a _ z
    have sz := S.sz
    have sh := S.sh
    have dep := S.dep
    simp only [PyData.shown] at sz fin
    simp only [PyData.showable] at sh
    simp only [PyData.depth] at dep
    obtain ⟨bs, m, p⟩ := repr_items I.hok y rv S.top sh fun t ht => Nat.le_trans (tupleText_mem_le ht) sz
    obtain ⟨as, rd⟩ := reads_of I.hok q0 (show RelV (.ref a) (.ref a) from rfl)
    have na : a ∉ bs := not_mem_of_deeper rd (by simp only [PyData.depth]; omega) m
    refine call_repr_slot (by omega) ⟨_, e, e2⟩ F.slot_tuple_repr ?_
    refine call_tuple_reprK (h₀ := s.heap) e e2 e3 na p (A := X.A.in1) noG (fun c _ => Clear.nil c) ?_ (fun _ _ e => e) (fun h' t tk hk => ⟨_, _, rfl, fin h' t tk hk⟩) sz
    show X.A.units + 1 + (PyData.depthAll ds + 1) < cLine
    omega
  | dict kvs =>
    have q0 := q
    simp only [Dat] at q
    obtain ⟨a, es, rfl, _⟩ := q
    obtain ⟨as, rd, ns⟩ := reads_item I.hok q0 r1 rfl
    obtain rfl : u = Value.ref a := r1
    have dep := S.dep
    exact repr_of_reads' rd S.sh ns noG (by omega) (fun _ _ e => e) fin S.sz
end Lb

set_option maxHeartbeats 3200000
namespace Lb
open PySem PySem.Spec PyProof.Rows L2
/-! ### 5. len(set(texts)) -/
/-- each text at its first place -/
def uq (xs : List Str) : List Str := xs.foldl (fun s x => if x ∈ s then s else s ++ [x]) []
theorem uq_snoc (xs : List Str) (x : Str) : uq (xs ++ [x]) = if x ∈ uq xs then uq xs else uq xs ++ [x] := by
  unfold uq
  rw [List.foldl_append]
  rfl
theorem uq_ind {P : List Str → Prop} (h0 : P []) (h1 : ∀ l x, P l → P (l ++ [x])) (xs : List Str) : P xs := by
  have q : ∀ ys : List Str, P ys.reverse := by
    intro ys
    induction ys with
    | nil => exact h0
    | cons y r ih =>
      rw [List.reverse_cons]
      exact h1 _ _ ih
  have := q xs.reverse
  rwa [List.reverse_reverse] at this
theorem uq_mem (xs : List Str) : ∀ k, k ∈ uq xs ↔ k ∈ xs := by
  refine uq_ind (P := fun xs => ∀ k, k ∈ uq xs ↔ k ∈ xs) (fun k => Iff.rfl) (fun l x ih k => ?_) xs
  rw [uq_snoc]
  by_cases h : x ∈ uq l
  · rw [if_pos h, ih, List.mem_append, List.mem_singleton]
    constructor
    · exact .inl
    · rintro (z | rfl)
      · exact z
      · exact (ih _).mp h
  · rw [if_neg h, List.mem_append, List.mem_append, ih]
theorem uq_len (xs : List Str) : (uq xs).length ≤ xs.length ∧ ((uq xs).length = xs.length ↔ xs.Nodup) := by
  refine uq_ind (P := fun xs => (uq xs).length ≤ xs.length ∧ ((uq xs).length = xs.length ↔ xs.Nodup)) ⟨Nat.le_refl _, fun _ => List.nodup_nil, fun _ => rfl⟩ (fun l x ih => ?_) xs
  rw [uq_snoc, List.length_append, List.length_singleton]
  have nd : (l ++ [x]).Nodup ↔ (l.Nodup ∧ x ∉ l) := by
    rw [List.nodup_append]
    constructor
    · rintro ⟨h1, _, h3⟩
      exact ⟨h1, fun z => h3 x z x (List.mem_singleton.mpr rfl) rfl⟩
    · rintro ⟨h1, h2⟩
      refine ⟨h1, List.nodup_cons.mpr ⟨(fun z => nomatch z), List.nodup_nil⟩, fun a ha b hb e => ?_⟩
      rw [List.mem_singleton.mp hb] at e
      exact h2 (e ▸ ha)
  rw [nd]
  by_cases h : x ∈ uq l
  · rw [if_pos h]
    refine ⟨by omega, fun z => by omega, fun z => absurd ((uq_mem l x).mp h) z.2⟩
  · rw [if_neg h, List.length_append, List.length_singleton]
    have hx : x ∉ l := fun z => h ((uq_mem l x).mpr z)
    refine ⟨by omega, fun z => ⟨ih.2.mp (by omega), hx⟩, fun z => ?_⟩
    have := ih.2.mpr z.1
    omega
section
variable {prog : Program} {w : World} {A : Around}
/-- the set that is made is held by what has been met -/
abbrev Holds (prog : Program) (w : World) (h : Heap) (S : Addr) (xs : List Str) : Prop := h.SetOf (PySem.strKind prog w) S (fun k => decide (k ∈ uq xs)) (uq xs).length
theorem set_loop {R : Result → Shared → Prop} {I : Addr} {fp wr : List Addr} {G : Array GenState → Array GenState → Prop} {n : Nat} {P : Nat → Value → Prop} {St : Nat → Shared → Prop}
    (W : WalksS prog w A.in1 I fp wr G n P St) (S : Addr) (out : S ∉ fp) (xs : List Str) (len : xs.length = n) (few : n + 1 < scanBound) (at_ : ∀ i v, P i v → ∃ x t, xs[i]? = some x ∧ v = .str x t) :
    ∀ (left i : Nat) (s : Shared), i + left = n → St i s → Holds prog w s.heap S (xs.take i) →
      (∀ s', Moved (S :: wr) G s s' → Holds prog w s'.heap S xs → R (.ok (.ret .none)) s') → codeAny (model prog w) A (.builtin "set.update.loop" ⟨[.ref S, .ref I], []⟩) R s := by
  have outW : S ∉ wr := fun z => out (W.sub _ z)
  have more : ∀ b ∈ wr, b ∈ S :: wr := fun b z => List.mem_cons_of_mem _ z
  have keep : ∀ {s s' : Shared} {ys : List Str}, Moved wr G s s' → Holds prog w s.heap S ys → Holds prog w s'.heap S ys := by
    rintro s s' ys m ⟨o, es, ep, t, ho, r⟩
    exact ⟨o, es, ep, t, m.heap S _ outW ho, r⟩
  intro left
  induction left with
  | zero =>
    intro i s e st held fin
    have ei : i = n := by omega
    subst ei
    rw [List.take_of_length_le (Nat.le_of_eq len)] at held
    refine codeAny_builtin F.entry_set_update_loop ?_
    rw [Around.under_plainId F.plain_set_update_loop _]
    show wpAny _ A.in1 (pyNext (.ref I) >>= _) _ _ s
    refine wpAny_bind (W.done s _ _ st fun s' m => ?_)
    show wpAny _ A.in1 (ret Value.none) _ _ s'
    exact wpAny_pure (fin s' (m.mono more) (keep m held))
  | succ left ih =>
    intro i s e st held fin
    have lt : i < n := by omega
    refine codeAny_builtin F.entry_set_update_loop ?_
    rw [Around.under_plainId F.plain_set_update_loop _]
    show wpAny _ A.in1 (pyNext (.ref I) >>= _) _ _ s
    refine wpAny_bind (W.item i s _ _ lt st fun v s' here st' m => ?_)
    obtain ⟨x, t, ex, rfl⟩ := at_ i v here
    have held' := keep m held
    show wpAny _ A.in1 (holding [Value.str x t] (setAdd S (.str x t)) >>= _) _ _ s'
    refine wpAny_bind (wpAny_holding ?_)
    unfold setAdd
    refine wpAny_holding ?_
    refine wpAny_bind ((PySem.strKind prog w).pyHash (k := x) (strKind_is _ _ _ _) ?_)
    have room : (uq (xs.take i)).length + 1 < scanBound := by
      have h1 := (uq_len (xs.take i)).1
      have h2 : (xs.take i).length ≤ i := by rw [List.length_take]; exact Nat.min_le_left _ _
      omega
    refine wpAny_setAddHashed_of (knd := PySem.strKind prog w) (s := { s' with toks := s'.toks + 1 }) (strKind_is _ _ _ _) rfl held' room fun h' but new => ?_
    have next : Holds prog w h' S (xs.take (i + 1)) := by
      have et : xs.take (i + 1) = xs.take i ++ [x] := by
        rw [List.take_add_one, ex]
        rfl
      show h'.SetOf (PySem.strKind prog w) S (fun k => decide (k ∈ uq (xs.take (i + 1)))) (uq (xs.take (i + 1))).length
      rw [et, uq_snoc]
      by_cases h : x ∈ uq (xs.take i)
      · rw [if_pos h]
        refine SetOf_congr new (fun k => ?_) (by rw [decide_eq_true h]; rfl)
        by_cases hk : k = x
        · subst hk
          simp [h]
        · simp [hk]
      · rw [if_neg h]
        refine SetOf_congr new (fun k => ?_) (by rw [decide_eq_false h, List.length_append]; rfl)
        by_cases hk : k = x
        · subst hk
          simp
        · simp [hk]
    refine wpAny_pure ⟨plainId_quiet F.plain_set_update_loop _, ih (i + 1) _ (by omega) (W.frame _ s' _ _ st' (Nat.le_succ _) fun b hb o e => ?_) next fun s2 m2 held2 => ?_⟩
    · rw [but.2 b (fun z : b = S => out (z ▸ hb))]
      exact e
    · refine fin s2 (Moved.trans W.gtrans ((m.mono more).then_heap (Nat.le_succ _) fun b o hb e => ?_) m2) held2
      rw [but.2 b (fun z : b = S => hb (z ▸ List.mem_cons_self))]
      exact e
end
theorem strs_get : ∀ {xs : List Str} {us : List Value} {i : Nat} {v : Value}, Vals (xs.map V.str) us → us[i]? = some v → ∃ x t, xs[i]? = some x ∧ v = .str x t
  | [], _, i, v, .nil, e => by simp at e
  | x :: r, _, 0, v, .cons h _, e => by
    obtain ⟨t, rfl⟩ := h
    simp at e
    exact ⟨x, t, rfl, e.symm⟩
  | x :: r, _, i + 1, v, .cons _ h, e => by
    obtain ⟨y, t, h1, h2⟩ := strs_get h (by simpa using e)
    exact ⟨y, t, by simpa using h1, h2⟩
/-- a set without members, as set.__new__ lays it -/
abbrev bareSet (led : Bool) : Obj := { cls := .type "set", dict := none, data := .set #[] 0 (.fresh 0 0 led) }
section
variable {prog : Program} {w : World} {A : Around} {E : Value → Shared → Prop} {s : Shared}
theorem set_of_texts {l : Addr} {its : List Value} {xs : List Str} {Q : Value → Shared → Prop} (calm : A.handled = none) (hl : s.heap.IsList l its.toArray) (rv : Vals (xs.map V.str) its) (few : xs.length + 1 < scanBound)
    (h : ∀ (h' : Heap) (tk : Nat), Holds prog w h' s.heap.objs.size xs → (∀ b o, b < s.heap.objs.size → s.heap.get? b = some o → h'.get? b = some o) → Q (.ref s.heap.objs.size) { s with heap := h', toks := tk }) :
    wpAny (model prog w) A (call (.type "set") [.ref l]) Q E s := by
  obtain ⟨c, tl, m0⟩ := F.called_set.mro
  have m1 := F.called_set.made
  have m2 := F.called_set.sub
  have m3 := F.called_set.notType
  have m4 := F.called_set.canCreate
  have m5 := F.typeCall_set_1 (.ref l)
  have lenI : xs.length = its.length := by rw [← rv.length, List.length_map]
  refine wpAny_call (codeAny_of_tree ?_)
  show wpAny _ _ (callAny (.type "set") _) _ _ _
  refine wpAny_pure ⟨Code.quiet_builtin _ (by decide +kernel), codeAny_builtin F.entry_type_call ?_⟩
  rw [Around.under_plain (weight_type_call_type "set" [.ref l] []) rfl]
  repeat any_goals first | assumption | wp_step
  refine codeAny_mono (code_set_new_1 (.ref l) (E := E) (Q₁ := fun v s1 => ∃ led : Bool, v = .ref s.heap.objs.size ∧ s1 = { s with heap := s.heap.push (bareSet led) }) fun led => ⟨led, rfl, rfl⟩) ?_
  intro r s1 hr
  cases r with
  | error e => exact hr
  | ok fl =>
    cases fl with
    | ret v =>
      obtain ⟨led, rfl, rfl⟩ := hr
      have at1 : (s.heap.push (bareSet led)).get? s.heap.objs.size = some (bareSet led) := Heap.get?_push_size _ rfl
      have ty1 : Shared.TypeIs { s with heap := s.heap.push (bareSet led) } (.ref s.heap.objs.size) "set" := ⟨_, at1, rfl⟩
      have m6 := F.called_set.init.lookup
      have m7 := F.called_set.init.bind (.ref s.heap.objs.size)
      repeat any_goals first | assumption | wp_step
      refine codeAny_mono (codeAny_call_builtin (R := wants (fun r s2 => r = .none ∧ ∃ h' tk, s2 = { s with heap := h', toks := tk } ∧ Holds prog w h' s.heap.objs.size xs ∧
        (∀ b o, b < s.heap.objs.size → s.heap.get? b = some o → h'.get? b = some o)) E) F.called_set.init.plain F.entry_set_init (check_set_init_1 ty1 ?_)) ?_
      · obtain ⟨⟨oc, od, dt, sl⟩, ho, hc, n, hd⟩ := hl
        simp only at hc hd
        subst hc
        subst hd
        have at2 : (s.heap.push (bareSet led)).get? l = some { cls := .type "list", dict := od, data := .seq its.toArray n, slots := sl } := Heap.get?_push_of_some _ ho
        have m8 := F.sub_list_set
        have m9 := F.sub_list_frozenset
        have m10 : (Value.type "list" == Value.type "dict") = false := by decide
        have isl : (s.heap.push (bareSet led)).IsList l its.toArray := ⟨_, at2, rfl, n, rfl⟩
        unfold Builtin.«set.__init__» noKeywords Builtin.Frozenset.updateFrom
        generalize eIt : pyIter = It
        wp_walk
        subst eIt
        refine wpAny_pyIter_list isl ?_
        refine wpAny_bind (wpAny_runValue ?_)
        have below : l < s.heap.objs.size := Heap.lt_size ho
        have calm3 : A.in1.in1.in1.handled = none := by simp [calm]
        have ne1 : l ≠ (s.heap.push (bareSet led)).objs.size := by
          rw [Heap.size_push]
          exact Nat.ne_of_lt (Nat.lt_succ_of_lt below)
        have out : s.heap.objs.size ∉ [(s.heap.push (bareSet led)).objs.size, l] := by
          rw [Heap.size_push]
          intro z
          rcases List.mem_cons.mp z with z | z
          · exact absurd z (Nat.ne_of_lt (Nat.lt_succ_self _))
          · exact absurd (List.mem_singleton.mp z) (Nat.ne_of_gt below)
        refine set_loop ((Walks.list calm3 _ l ne1 its.toArray).toS) s.heap.objs.size out xs (by rw [List.size_toArray]; exact lenI) (by rw [List.size_toArray, ← lenI]; exact few)
          (fun i v hv => strs_get rv (by simpa using hv)) its.toArray.size 0 _ (by omega) ⟨⟨_, Heap.get?_push_size _ rfl, rfl, rfl⟩, (isl.push _)⟩ ?_ ?_
        · have at3 : ((s.heap.push (bareSet led)).push { cls := .type "list_iterator", data := .fields #[.ref l, .int 0 0] }).get? s.heap.objs.size = some (bareSet led) := Heap.get?_push_of_some _ at1
          exact SetOf_congr ((setObjOf_fresh (knd := PySem.strKind prog w) led).setOf at3 (by unfold scanBound; omega)) (fun _ => rfl) rfl
        · intro s3 m held
          obtain ⟨h3, g3, d3, t3, o3⟩ := s3
          obtain rfl : g3 = s.gens := m.gens
          obtain rfl : d3 = s.drawn := m.drawn
          obtain rfl : o3 = s.os := m.os
          show wpAny _ _ _ _ _ _
          refine wpAny_pure ?_
          show wpAny _ _ (ret Value.none) _ _ _
          refine wpAny_pure ⟨rfl, h3, t3, rfl, held, fun b o hb e => ?_⟩
          refine m.heap b o ?_ (Heap.get?_push_of_some _ (Heap.get?_push_of_some _ e))
          rw [Heap.size_push]
          intro z
          rcases List.mem_cons.mp z with z | z
          · exact absurd z (Nat.ne_of_lt hb)
          · exact absurd (List.mem_singleton.mp z) (Nat.ne_of_lt (Nat.lt_succ_of_lt hb))
      · intro r2 s2 hr2
        cases r2 with
        | error e => exact hr2
        | ok f2 =>
          cases f2 with
          | ret v2 =>
            obtain ⟨rfl, h3, t3, rfl, held, k3⟩ := hr2
            repeat any_goals first | assumption | wp_step
            exact h _ _ held k3
          | _ => exact hr2.elim
    | _ => exact hr.elim
end
/-- len(set(e)), e a list of texts -/
def tLenTexts (K : PySem.W.Frag) (ta : TE) : TE := fun σ H Q => ta σ H fun x H1 => ∃ (l : Addr) (xs : List Str), x = .ref l ∧ SqL K H1 l (xs.map V.str) ∧ xs.length ≤ 1000 ∧ Q (.int (uq xs).length) H1
theorem pe_lenTexts {X : Cx} {a : Expr} {ta : TE} {p p2 q pos : Pos} (calm : X.calm = true) (h1 : Gl X "len") (n1 : X.mg "len" = none) (h2 : Gl X "set") (n2 : X.mg "set" = none) (ha : PE X a ta)
    (hs : starEach [a] X.env = (false, eval a X.env) :: starEach [] X.env := by rfl) : PE X (.Call (.Name "len" p) [.Call (.Name "set" p2) [a] [] q] [] pos) (tLenTexts X.K ta) := by
  constructor
  intro pins s σ H Q I h
  refine Call_ (ld_blt I h1 n1 boot_len ?_)
  refine PyProof.Rows.callWith_builtin1 (PyProof.Rows.args_cons ?_ rfl) rfl rfl
  refine Call_ (ld_blt I h2 n2 boot_set ?_)
  refine PyProof.Rows.callWith_type1 (PyProof.Rows.args_cons (thn (ha.run pins s σ H _ I h) ?_) hs) hs rfl
  rintro v s1 ⟨x, H1, I1, r1, l, xs, rfl, sq, few, wish⟩
  refine PyProof.Rows.args_nil ?_
  cases r1
  obtain ⟨its, rv, pl, _⟩ := I1.list sq
  have b : scanBound = 4096 := rfl
  refine set_of_texts (I1.ok.hd calm) pl.isList rv (by omega) fun h' tk held keep => ?_
  refine PyProof.Rows.args_nil ?_
  obtain ⟨o, es, ep, t, ho, hex, hd, _, _, _, hf, hn⟩ := held
  have I2 : Inv X pins σ H1 { s1 with heap := h', toks := tk } := I1.kept fun b o e => keep b o (Heap.lt_size e) e
  have lim := (uq_len xs).1
  exact call_len_set ho hex hd hf (by rw [hn]; omega) ⟨.int (uq xs).length, H1, I2.tok _, ⟨_, by rw [hn]⟩, wish⟩
end Lb

set_option maxHeartbeats 2000000
namespace Lb
open PySem PySem.Spec PyProof.Rows L2
/-! ### 6. The law's bag of numbers -/
def rGetL (K : PySem.W.Frag) : V → V → Hp → VK → Prop := fun x y H Q => ∃ (p : Addr) (xs : List V) (i : Nat) (v : V), x = .ref p ∧ y = .int i ∧ SqL K H p xs ∧ xs[i]? = some v ∧ Q v H
theorem get_list {X : Cx} : PGet X (rGetL X.K) := by
  rintro pins s σ H x y u v Q I rx ry ⟨p, xs, i, z, rfl, rfl, sq, at_, wish⟩
  cases rx
  obtain ⟨t, rfl⟩ := ry
  obtain ⟨its, r, pl, hz⟩ := I.list sq
  obtain ⟨k, ek, rk⟩ := r.get at_
  have lt : i < xs.length := (List.getElem?_eq_some_iff.mp at_).1
  have l63 := line63
  exact wpAny_getItem_list pl.isList (Int.natCast_nonneg i) (by omega) (by simpa using ek) ⟨z, H, I, rk, wish⟩
structure Bag (H : Hp) (b c : Addr) : Prop where
  ex : ∃ (n st p : Int) (ns : List Int), H b = some (.lst [.int n, .int st, .int p, .ref c]) ∧ H c = some (.lst (ns.map V.int)) ∧ 0 ≤ n ∧ 0 ≤ p ∧ (∀ z ∈ ns, 0 ≤ z) ∧ ns.length ≤ 63
  ne : c ≠ b
theorem Bag.kp {H H' : Hp} {b c : Addr} (B : Bag H b c) (h : ∀ a, a ≠ b → H' a = H a) {n st p : Int} (e : H' b = some (.lst [.int n, .int st, .int p, .ref c])) (h1 : 0 ≤ n) (h2 : 0 ≤ p) : Bag H' b c := by
  obtain ⟨n0, st0, p0, ns, _, e2, _, _, k1, k2⟩ := B.ex
  exact ⟨⟨n, st, p, ns, e, by rw [h c B.ne]; exact e2, h1, h2, k1, k2⟩, B.ne⟩
theorem Bag.new {H : Hp} {b c q : Addr} {o : HO} (B : Bag H b c) (f : H q = none) : Bag (upd H q o) b c := by
  obtain ⟨n0, st0, p0, ns, e1, e2, r⟩ := B.ex
  exact ⟨⟨n0, st0, p0, ns, by rw [upd_ne (ne_of_none e1 f)]; exact e1, by rw [upd_ne (ne_of_none e2 f)]; exact e2, r⟩, B.ne⟩
theorem Bag.same {H H' : Hp} {b c : Addr} (B : Bag H b c) (h : Same H H') : Bag H' b c := by
  obtain ⟨n0, st0, p0, ns, e1, e2, r⟩ := B.ex
  exact ⟨⟨n0, st0, p0, ns, h _ _ e1, h _ _ e2, r⟩, B.ne⟩
/-- an object that the bag does not have may be changed -/
theorem Bag.other {H : Hp} {b c q : Addr} {o : HO} (B : Bag H b c) (n1 : q ≠ b) (n2 : q ≠ c) : Bag (upd H q o) b c := by
  obtain ⟨n0, st0, p0, ns, e1, e2, r⟩ := B.ex
  exact ⟨⟨n0, st0, p0, ns, by rw [upd_ne n1.symm]; exact e1, by rw [upd_ne n2.symm]; exact e2, r⟩, B.ne⟩
def spTake : Sp := fun vs H Q _ => ∃ (b c : Addr) (many : Int), vs = [.ref b, .int many] ∧ Bag H b c ∧ 0 < many ∧ many ≤ 10 ^ 60 ∧
  ∀ (v : Int) (H' : Hp), 0 ≤ v → v < many → Bag H' b c → (∀ a, a ≠ b → H' a = H a) → Q (.int v) H'
def spBag (K : PySem.W.Frag) : Sp := fun vs H Q _ => ∃ (a : Addr) (ns : List Int), vs = [.ref a] ∧ SqL K H a (ns.map V.int) ∧ ns.length ≤ 63 ∧
  ∀ (b c : Addr) (H' : Hp), H b = none → H c = none → Same H H' → Bag H' b c → Q (.ref b) H'
/-- what is not the module's own -/
structure Blt (mg : Str → Option Value) : Prop where
  len : mg "len" = none
  abs_ : mg "abs" = none
  isinstance_ : mg "isinstance" = none
  int : mg "int" = none
  bool_ : mg "bool" = none
  str_ : mg "str" = none
  list_ : mg "list" = none
  tuple_ : mg "tuple" = none
  set_ : mg "set" = none
  range_ : mg "range" = none
  all_ : mg "all" = none
  repr_ : mg "repr" = none
theorem many_log {m : Int} (h0 : 0 < m) (h : m ≤ 10 ^ 60) : CDivW 0 m := by
  refine ⟨h0, ?_⟩
  have e : m.natAbs < 2 ^ 200 := by
    have : m < 2 ^ 200 := Int.lt_of_le_of_lt h (by decide)
    omega
  exact Nat.lt_of_lt_of_le (PySem.Flt.log2_lt_of (by decide) e) (by decide)
theorem cdiv_any {i j k : Int} (h : CDivW k j) : CDivW i j := h
end Lb

set_option maxHeartbeats 2000000
namespace Lb
open PySem PySem.Spec PyProof.Rows L2
/-! ### 7. Parts of lists and texts, comprehensions -/
theorem sIx_pos {n d : Nat} {k : Int} (h : 0 ≤ k) : HT.sIx n d (some k) = min k.toNat n := by
  have e : k = (k.toNat : Int) := by omega
  rw [e, HT.sIx_nat]
  congr 1
theorem cut_to {xs : List V} {k : Int} (h : 0 ≤ k) : cutV xs none (some k) = xs.take k.toNat := by
  unfold cutV
  rw [HT.sIx_none, sIx_pos h, List.drop_zero, Nat.sub_zero]
  by_cases l : k.toNat ≤ xs.length
  · rw [Nat.min_eq_left l]
  · rw [Nat.min_eq_right (by omega), List.take_of_length_le (by omega), List.take_of_length_le (by omega)]
theorem cut_from {xs : List V} {k : Int} (h : 0 ≤ k) : cutV xs (some k) none = xs.drop k.toNat := by
  unfold cutV
  rw [HT.sIx_none, sIx_pos h]
  by_cases l : k.toNat ≤ xs.length
  · rw [Nat.min_eq_left l, List.take_of_length_le (by rw [List.length_drop]; exact Nat.le_refl _)]
  · rw [Nat.min_eq_right (by omega), List.drop_of_length_le (by omega), List.drop_of_length_le (by omega)]
    exact List.take_nil
theorem cutS_to {z : Str} {k : Int} (h : 0 ≤ k) : cutS z none (some k) = ⟨(z.cps.toList.take k.toNat).toArray⟩ := by
  have e : z.length = z.cps.toList.length := by simp [Str.length]
  unfold cutS
  rw [HT.sIx_none, sIx_pos h, List.drop_zero, Nat.sub_zero]
  by_cases l : k.toNat ≤ z.length
  · rw [Nat.min_eq_left l]
  · rw [Nat.min_eq_right (by omega), List.take_of_length_le (by omega), List.take_of_length_le (by omega)]
theorem cutS_from {z : Str} {k : Int} (h : 0 ≤ k) : cutS z (some k) none = ⟨(z.cps.toList.drop k.toNat).toArray⟩ := by
  have e : z.length = z.cps.toList.length := by simp [Str.length]
  unfold cutS
  rw [HT.sIx_none, sIx_pos h]
  by_cases l : k.toNat ≤ z.length
  · rw [Nat.min_eq_left l, List.take_of_length_le (by rw [List.length_drop, e]; exact Nat.le_refl _)]
  · rw [Nat.min_eq_right (by omega), List.drop_of_length_le (by omega), List.drop_of_length_le (by omega), List.take_nil]
/-- a comprehension over a text's signs -/
theorem lc_text {x : Str} {g : TG} {tt : TT} {te : TE} {vs : List Nat} {σ : L2.St} {H1 : Hp} {D : Addr} {Qd : Hp → Prop} (Pv : Nat → Hp → Prop) (h0 : Pv 0 (upd H1 D (.lst [])))
    (hs : ∀ i c H, x.cps.toList[i]? = some c → Pv i H → g (.str ⟨#[c]⟩) (wipe σ vs) H fun σ2 H2 => wipe σ2 vs = wipe σ vs ∧ tt σ2 H2 fun b H3 =>
      if b = true then te σ2 H3 fun y H4 => ∃ acc, H4 D = some (.lst acc) ∧ acc.length < sizeLine ∧ Pv (i + 1) (upd H4 D (.lst (acc ++ [y]))) else Pv (i + 1) H3) (hd : ∀ H, Pv x.cps.toList.length H → Qd H) :
    ∃ W : Nat → Nat → Hp → Prop, (∃ m, W 0 m (upd H1 D (.lst []))) ∧ ∀ i m H, W i m H →
      ((Its x).stop i H ∧ Qd H) ∨ ((Its x).go i H ∧ ∃ Nx : Hp → Prop, (∀ H', Nx H' → ∃ m', m' < m ∧ W (i + 1) m' H') ∧ ∀ y H', (Its x).yld i H y H' → g y (wipe σ vs) H' fun σ2 H2 => wipe σ2 vs = wipe σ vs ∧ tt σ2 H2 fun b H3 =>
        if b = true then te σ2 H3 fun y H4 => ∃ acc, H4 D = some (.lst acc) ∧ acc.length < sizeLine ∧ Nx (upd H4 D (.lst (acc ++ [y]))) else Nx H3) := by
  have sz : x.cps.toList.length = x.cps.size := by simp
  refine ⟨fun i m H => i + m = x.cps.size ∧ Pv i H, ⟨x.cps.size, by omega, h0⟩, ?_⟩
  rintro i m H ⟨e, p⟩
  by_cases lt : i < x.cps.size
  · refine .inr ⟨lt, Pv (i + 1), fun H' p' => ⟨m - 1, by omega, by omega, p'⟩, ?_⟩
    rintro y H' ⟨rfl, c, hc, rfl⟩
    exact hs i c _ (by simpa using hc) p
  · have ei : i = x.cps.size := by omega
    refine .inl ⟨Nat.le_of_eq ei.symm, hd H ?_⟩
    rw [sz, ← ei]
    exact p
/-- a list that grows at D, all else stays -/
structure Mk (H : Hp) (D : Addr) (l : List V) (H' : Hp) : Prop where
  new : H D = none
  same : Same H H'
  at_ : H' D = some (.lst l)
theorem Mk.start {H : Hp} {D : Addr} (h : H D = none) : Mk H D [] (upd H D (.lst [])) := ⟨h, fun b o e => by rw [upd_ne (ne_of_none e h)]; exact e, upd_same⟩
theorem Mk.next {H H1 H4 : Hp} {D : Addr} {l : List V} {y : V} (M : Mk H D l H1) (s : Same H1 H4) : Mk H D (l ++ [y]) (upd H4 D (.lst (l ++ [y]))) :=
  ⟨M.new, fun b o e => by rw [upd_ne (ne_of_none e M.new)]; exact s _ _ (M.same _ _ e), upd_same⟩
theorem Mk.rest {H H1 H4 : Hp} {D : Addr} {l : List V} (M : Mk H D l H1) (s : Same H1 H4) : Mk H D l H4 := ⟨M.new, M.same.trans s, s _ _ M.at_⟩
theorem same_new {H : Hp} {p : Addr} {o : HO} (h : H p = none) : Same H (upd H p o) := fun b x e => by
  rw [upd_ne (ne_of_none e h)]
  exact e
theorem sz_ok {n : Nat} (h : n ≤ 100000) : n ≤ sizeLine := Nat.le_trans h (by decide)
theorem sz_lo {n : Nat} (h : n < 100000) : n < sizeLine := Nat.lt_of_lt_of_le h (by decide)
end Lb

set_option maxHeartbeats 2000000
namespace Lb
open PySem PySem.Spec PyProof.Rows L2
/-! ### 8. The kinds of things -/
theorem pe_k {X : Cx} {x : Str} {v : V} {pos : Pos} (hg : Gl X x) (h : ∃ u, X.mg x = some u ∧ RelV v u) (hd : (x == ("__debug__" : Str)) = false := by decide) : PE X (.Name x pos) (tC v) := by
  obtain ⟨u, a, r⟩ := h
  exact pe_glob hg a r hd
def tyN : PyData → String
  | .none => "NoneType"
  | .bool _ => "bool"
  | .int _ => "int"
  | .str _ => "str"
  | .list _ => "list"
  | .tuple _ => "tuple"
  | .dict _ => "dict"
theorem ty_of {K : PySem.W.Frag} {b : Addr} {H : Hp} {d : PyData} {v : V} (h : Dat b H d v) : TyX K H v (.type (tyN d)) := by
  cases d with
  | none => simp only [Dat] at h; subst h; exact .base .non
  | bool x => simp only [Dat] at h; subst h; exact .base (.bl x)
  | int x => simp only [Dat] at h; subst h; exact .base (.int x)
  | str x => simp only [Dat] at h; subst h; exact .base (.str x)
  | list ds => simp only [Dat] at h; obtain ⟨a, vs, rfl, _, e, _⟩ := h; exact .base (.lst e)
  | tuple ds => simp only [Dat] at h; obtain ⟨a, vs, rfl, _, e, _⟩ := h; exact .base (.tup e)
  | dict ds => simp only [Dat] at h; obtain ⟨a, vs, rfl, _, e, _⟩ := h; exact .base (.dK e)
def isInt : PyData → Bool
  | .int _ | .bool _ => true
  | _ => false
def isBool : PyData → Bool
  | .bool _ => true
  | _ => false
def isStr : PyData → Bool
  | .str _ => true
  | _ => false
def isList : PyData → Bool
  | .list _ => true
  | _ => false
section
variable {K : PySem.W.Frag}
theorem kit_int (d : PyData) : PySem.W.kitOne K (.type (tyN d)) (.type "int") = some (isInt d) := by
  cases d with
  | none => exact kit_ty (show kitB "NoneType" "int" = some false by decide +kernel)
  | bool _ => exact kit_ty (show kitB "bool" "int" = some true by decide +kernel)
  | int _ => exact kit_ty (show kitB "int" "int" = some true by decide +kernel)
  | str _ => exact kit_ty (show kitB "str" "int" = some false by decide +kernel)
  | list _ => exact kit_ty (show kitB "list" "int" = some false by decide +kernel)
  | tuple _ => exact kit_ty (show kitB "tuple" "int" = some false by decide +kernel)
  | dict _ => exact kit_ty (show kitB "dict" "int" = some false by decide +kernel)
theorem kit_bool (d : PyData) : PySem.W.kitOne K (.type (tyN d)) (.type "bool") = some (isBool d) := by
  cases d with
  | none => exact kit_ty (show kitB "NoneType" "bool" = some false by decide +kernel)
  | bool _ => exact kit_ty (show kitB "bool" "bool" = some true by decide +kernel)
  | int _ => exact kit_ty (show kitB "int" "bool" = some false by decide +kernel)
  | str _ => exact kit_ty (show kitB "str" "bool" = some false by decide +kernel)
  | list _ => exact kit_ty (show kitB "list" "bool" = some false by decide +kernel)
  | tuple _ => exact kit_ty (show kitB "tuple" "bool" = some false by decide +kernel)
  | dict _ => exact kit_ty (show kitB "dict" "bool" = some false by decide +kernel)
theorem kit_str (d : PyData) : PySem.W.kitOne K (.type (tyN d)) (.type "str") = some (isStr d) := by
  cases d with
  | none => exact kit_ty (show kitB "NoneType" "str" = some false by decide +kernel)
  | bool _ => exact kit_ty (show kitB "bool" "str" = some false by decide +kernel)
  | int _ => exact kit_ty (show kitB "int" "str" = some false by decide +kernel)
  | str _ => exact kit_ty (show kitB "str" "str" = some true by decide +kernel)
  | list _ => exact kit_ty (show kitB "list" "str" = some false by decide +kernel)
  | tuple _ => exact kit_ty (show kitB "tuple" "str" = some false by decide +kernel)
  | dict _ => exact kit_ty (show kitB "dict" "str" = some false by decide +kernel)
theorem kit_list (d : PyData) : PySem.W.kitOne K (.type (tyN d)) (.type "list") = some (isList d) := by
  cases d with
  | none => exact kit_ty (show kitB "NoneType" "list" = some false by decide +kernel)
  | bool _ => exact kit_ty (show kitB "bool" "list" = some false by decide +kernel)
  | int _ => exact kit_ty (show kitB "int" "list" = some false by decide +kernel)
  | str _ => exact kit_ty (show kitB "str" "list" = some false by decide +kernel)
  | list _ => exact kit_ty (show kitB "list" "list" = some true by decide +kernel)
  | tuple _ => exact kit_ty (show kitB "tuple" "list" = some false by decide +kernel)
  | dict _ => exact kit_ty (show kitB "dict" "list" = some false by decide +kernel)
end
def isWhole : PyData → Bool
  | .int _ => true
  | _ => false
theorem whole_eq (d : PyData) : isWhole d = (isInt d && !isBool d) := by cases d <;> rfl
def within (lo hi : Int) : PyData → Bool
  | .int i => decide (lo ≤ i) && decide (i ≤ hi)
  | _ => false
def signOk (c : Nat) : Bool := decide (97 ≤ c) && decide (c ≤ 122)
def nameS (z : Str) : Bool := decide (1 ≤ z.length) && decide (z.length ≤ 8) && z.cps.toList.all signOk
def isName : PyData → Bool
  | .str z => nameS z
  | _ => false
def textsOf (ds : List PyData) : List Str := ds.filterMap fun d => match d with
  | .str z => some z
  | _ => none
def isStroke : PyData → Bool
  | .list ds => decide (ds.length ≤ 40) && (ds.all isName && decide (textsOf ds).Nodup)
  | _ => false
/-- parts of a thing are of a small size -/
def textOk (z : Str) : Prop := z.length ≤ 1000 ∧ ∀ c ∈ z.cps.toList, c < 1114112
def smallS : PyData → Prop
  | .str z => textOk z
  | _ => True
def small : PyData → Prop
  | .str z => textOk z
  | .list ds => ds.length ≤ 1000 ∧ ∀ d ∈ ds, smallS d
  | .tuple ds => ds.length ≤ 1000
  | _ => True
theorem small.s {d : PyData} (h : small d) : smallS d := by cases d <;> first | exact h | trivial
/-- a def of one thing that tells a truth -/
def spD (C : PyData → Prop) (g : PyData → Bool) : Sp := fun vs H Q _ => ∃ (b : Addr) (v : V) (d : PyData), vs = [v] ∧ Dat b H d v ∧ C d ∧ ∀ H', Same H H' → Q (.bl (g d)) H'
def spW : Sp := fun vs H Q _ => ∃ (b : Addr) (v : V) (d : PyData) (lo hi : Int), vs = [v, .int lo, .int hi] ∧ Dat b H d v ∧ ∀ H', Same H H' → Q (.bl (within lo hi d)) H'
theorem Dat.same {b : Addr} {H H' : Hp} {d : PyData} {v : V} (h : Dat b H d v) (s : Same H H') : Dat b H' d v := h.mono (.of_same s)
theorem Dats.same {b : Addr} {H H' : Hp} {d : List PyData} {v : List V} (h : Dats b H d v) (s : Same H H') : Dats b H' d v := h.mono (.of_same s)
theorem dat_str {b : Addr} {H : Hp} {d : PyData} {v : V} (h : Dat b H d v) (k : isStr d = true) : ∃ z, d = .str z ∧ v = .str z := by
  cases d with
  | str z => exact ⟨z, rfl, by simpa only [Dat] using h⟩
  | _ => cases k
theorem dat_int {b : Addr} {H : Hp} {d : PyData} {v : V} (h : Dat b H d v) (k : isWhole d = true) : ∃ i, d = .int i ∧ v = .int i := by
  cases d with
  | int i => exact ⟨i, rfl, by simpa only [Dat] using h⟩
  | _ => cases k
theorem dat_list {b : Addr} {H : Hp} {d : PyData} {v : V} (h : Dat b H d v) (k : isList d = true) : ∃ ds a vs, d = .list ds ∧ v = .ref a ∧ a ≠ b ∧ H a = some (.lst vs) ∧ Dats b H ds vs := by
  cases d with
  | list ds =>
    simp only [Dat] at h
    obtain ⟨a, vs, r⟩ := h
    exact ⟨ds, a, vs, rfl, r⟩
  | _ => cases k
/-! one sign against another -/
theorem sign_lt (a c : Nat) : decide ((⟨#[c]⟩ : Str).cps.toList < (⟨#[a]⟩ : Str).cps.toList) = decide (c < a) := by
  have h : ([c] < [a]) ↔ c < a := by
    constructor
    · intro z
      cases z with
      | rel h => exact h
      | cons h => cases h
    · exact fun z => List.Lex.rel z
  exact decide_eq_decide.mpr h
theorem str_a : Str.ofString "a" = ⟨#[97]⟩ := by decide +kernel
theorem str_z : Str.ofString "z" = ⟨#[122]⟩ := by decide +kernel
theorem letters_are : (Str.ofString "abcdefghijklmnopqrstuvwxyz").cps.toList = List.range' 97 26 := by decide +kernel
theorem letters_mem (c : Nat) : decide (c ∈ (Str.ofString "abcdefghijklmnopqrstuvwxyz").cps.toList) = signOk c := by
  rw [letters_are]
  unfold signOk
  rw [← Bool.decide_and]
  refine decide_eq_decide.mpr ?_
  rw [List.mem_range'_1]
  omega
theorem len_str (z : Str) : z.length = z.cps.toList.length := by simp [Str.length]
theorem hu64_of {k : Nat} {A : Around} (hr : Room k A) : A.units + 64 < cLine := by
  have := hr.un
  omega
theorem dp_signs {K : PySem.W.Frag} {H : Hp} : ∀ cs : List Nat, DpAll K H (cs.map fun c => V.str ⟨#[c]⟩) (cs.map fun c => PyData.str ⟨#[c]⟩)
  | [] => .nil
  | c :: r => .cons (.str _) (dp_signs r)
theorem lay_signs : ∀ cs : List Nat, (∀ c ∈ cs, c < 1114112) → PyData.canLayAll0 (cs.map fun c => PyData.str ⟨#[c]⟩) = true ∧ PyData.depthAll (cs.map fun c => PyData.str ⟨#[c]⟩) = 0
  | [], _ => ⟨rfl, rfl⟩
  | c :: r, h => by
    obtain ⟨h1, h2⟩ := lay_signs r fun x hx => h x (List.mem_cons_of_mem _ hx)
    have hc := h c List.mem_cons_self
    constructor
    · simp only [List.map_cons, PyData.canLayAll0, PyData.canLay0, h1, Bool.and_true]
      simp [PyData.strOk, hc]
    · simp only [List.map_cons, PyData.depthAll, PyData.depth, h2]
      rfl
theorem shaped_signs {cs : List Nat} (h : ∀ c ∈ cs, c < 1114112) : SeqAt.shaped (.list (cs.map fun c => PyData.str ⟨#[c]⟩)) = true := by
  obtain ⟨h1, h2⟩ := lay_signs cs h
  unfold SeqAt.shaped
  simp only [PyData.canLay0, h1, PyData.depth, h2]
  rfl
end Lb

set_option maxHeartbeats 2000000
namespace Lb
open PySem PySem.Spec PyProof.Rows L2
/-! ### 9. How long a thing is when it is shown -/
theorem listText_le : ∀ ts : List Str, (listText ts).length ≤ piled ts + 2
  | [] => by rw [listText_nil]; decide
  | t :: r => by
    have h := textFrom_length_pos r 1 (("[" : Str) ++ (if (0 : Nat) > 0 then ", " else "" : String) ++ t) (by decide)
    have e0 : (textFrom 0 "[" (t :: r)).length = (textFrom 1 (("[" : Str) ++ (if (0 : Nat) > 0 then ", " else "" : String) ++ t) r).length := rfl
    have e1 : (("[" : Str) ++ (if (0 : Nat) > 0 then ", " else "" : String) ++ t).length = 1 + t.length := by
      rw [strLen_append, strLen_append]
      rfl
    have e2 : (listText (t :: r)).length = (textFrom 0 "[" (t :: r)).length + 1 := by
      unfold listText
      rw [strLen_append]
      rfl
    rw [e2, e0, h, e1, piled_cons]
    omega
theorem tupleText_le (ts : List Str) : (tupleText ts).length ≤ piled ts + 5 := by
  unfold tupleText
  rw [strLen_append, strLen_append]
  have e1 : (("(" : String) : Str).length = 1 := rfl
  have e3 : (((if ts.length == 1 then ",)" else ")" : String) : Str)).length ≤ 2 := by split <;> decide
  rw [e1]
  by_cases h : ts = []
  · subst h
    have e4 : (Str.join ", " []).length = 0 := rfl
    omega
  · have := join_length_add ts h
    omega
theorem piled_le {m : Nat} : ∀ {ts : List Str}, (∀ t ∈ ts, t.length ≤ m) → piled ts ≤ ts.length * (m + 2)
  | [], _ => by rw [piled_nil]; exact Nat.zero_le _
  | t :: r, h => by
    have h1 := h t List.mem_cons_self
    have h2 := piled_le fun u hu => h u (List.mem_cons_of_mem _ hu)
    rw [piled_cons, List.length_cons, Nat.add_mul, Nat.one_mul]
    omega
theorem shownAll_len : ∀ ds : List PyData, (PyData.shownAll ds).length = ds.length
  | [] => rfl
  | d :: ds => by simp only [PyData.shownAll, List.length_cons, shownAll_len ds]
theorem shownAll_mem {m : Nat} : ∀ {ds : List PyData}, (∀ d ∈ ds, d.shown.length ≤ m) → ∀ t ∈ PyData.shownAll ds, t.length ≤ m
  | [], _, t, ht => by simp only [PyData.shownAll] at ht; cases ht
  | d :: ds, h, t, ht => by
    simp only [PyData.shownAll] at ht
    rcases List.mem_cons.mp ht with rfl | ht
    · exact h d List.mem_cons_self
    · exact shownAll_mem (fun x hx => h x (List.mem_cons_of_mem _ hx)) t ht
theorem showAll_of : ∀ {ds : List PyData}, (∀ d ∈ ds, d.showable = true) → PyData.showableAll ds = true
  | [], _ => rfl
  | d :: ds, h => by
    simp only [PyData.showableAll, h d List.mem_cons_self, showAll_of fun x hx => h x (List.mem_cons_of_mem _ hx), Bool.and_true]
theorem depthAll_of {n : Nat} : ∀ {ds : List PyData}, (∀ d ∈ ds, d.depth ≤ n) → PyData.depthAll ds ≤ n
  | [], _ => Nat.zero_le _
  | d :: ds, h => by
    simp only [PyData.depthAll]
    exact Nat.max_le.mpr ⟨h d List.mem_cons_self, depthAll_of fun x hx => h x (List.mem_cons_of_mem _ hx)⟩
/-- a part of a list that is shown -/
structure Part (d : PyData) : Prop where
  ok : itemOk d = true
  sh : d.showable = true
  dep : d.depth ≤ 10
  len : d.shown.length ≤ 10000
theorem shows_list {ds : List PyData} (h : ∀ d ∈ ds, Part d) (n : ds.length ≤ 90) : Shows (.list ds) where
  sh := showAll_of fun d hd => (h d hd).sh
  top := List.all_eq_true.mpr fun d hd => (h d hd).ok
  dep := by
    have := depthAll_of fun d hd => (h d hd).dep
    simp only [PyData.depth]
    omega
  len := by
    have h1 := piled_le (shownAll_mem fun d hd => (h d hd).len)
    rw [shownAll_len] at h1
    have h2 := listText_le (PyData.shownAll ds)
    have h3 : ds.length * (10000 + 2) ≤ 90 * 10002 := Nat.mul_le_mul n (Nat.le_refl _)
    simp only [PyData.shown]
    omega
theorem shows_tuple {ds : List PyData} (h : ∀ d ∈ ds, Part d) (n : ds.length ≤ 90) : Shows (.tuple ds) where
  sh := showAll_of fun d hd => (h d hd).sh
  top := List.all_eq_true.mpr fun d hd => (h d hd).ok
  dep := by
    have := depthAll_of fun d hd => (h d hd).dep
    simp only [PyData.depth]
    omega
  len := by
    have h1 := piled_le (shownAll_mem fun d hd => (h d hd).len)
    rw [shownAll_len] at h1
    have h2 := tupleText_le (PyData.shownAll ds)
    have h3 : ds.length * (10000 + 2) ≤ 90 * 10002 := Nat.mul_le_mul n (Nat.le_refl _)
    simp only [PyData.shown]
    omega
theorem part_str {z : Str} (h : textOk z) (n : z.length ≤ 900) : Part (.str z) where
  ok := rfl
  sh := rfl
  dep := Nat.zero_le _
  len := by
    have := StrLaws.reprText_len z fun c hc => Nat.lt_trans (h.2 c hc) (by decide)
    simp only [PyData.shown]
    omega
theorem part_int {i : Int} (h : i.natAbs.log2 < 1920) : Part (.int i) where
  ok := rfl
  sh := by simp only [PyData.showable, h, decide_true]
  dep := Nat.zero_le _
  len := by
    have := int_text_len_1921 h
    simp only [PyData.shown]
    omega
theorem part_bool (b : Bool) : Part (.bool b) where
  ok := rfl
  sh := rfl
  dep := Nat.zero_le _
  len := by cases b <;> decide +kernel
/-- what no list is, is shown where it is a part -/
theorem Part.shows {d : PyData} (h : Part d) (k : topOk d = true) : Shows d := ⟨h.sh, k, Nat.le_trans h.dep (by decide), Nat.le_trans h.len (by decide)⟩
theorem eqv_bools : ∀ bs : List Bool, PyData.eqvAll (bs.map PyData.bool) (bs.map PyData.bool) = true
  | [] => rfl
  | b :: r => by simp only [List.map_cons, PyData.eqvAll, PyData.eqv, beq_self_eq_true, eqv_bools r, Bool.and_true]
theorem dp_bools {K : PySem.W.Frag} {H : Hp} : ∀ bs : List Bool, DpAll K H (bs.map V.bl) (bs.map PyData.bool)
  | [] => .nil
  | b :: r => .cons (.bl b) (dp_bools r)
theorem dat_bools {b : Addr} {H : Hp} : ∀ bs : List Bool, Dats b H (bs.map PyData.bool) (bs.map V.bl)
  | [] => by simp only [List.map_nil, Dats]
  | x :: r => by
    simp only [List.map_cons, Dats, Dat]
    exact ⟨_, _, rfl, rfl, dat_bools r⟩
theorem shaped_bools (bs : List Bool) : SeqAt.shaped (.list (bs.map PyData.bool)) = true := by
  have h1 : ∀ l : List Bool, PyData.canLayAll0 (l.map PyData.bool) = true ∧ PyData.depthAll (l.map PyData.bool) = 0 := by
    intro l
    induction l with
    | nil => exact ⟨rfl, rfl⟩
    | cons x r ih =>
      simp only [List.map_cons, PyData.canLayAll0, PyData.canLay0, PyData.depthAll, PyData.depth, ih.1, ih.2]
      exact ⟨rfl, rfl⟩
  unfold SeqAt.shaped
  simp only [PyData.canLay0, (h1 bs).1, PyData.depth, (h1 bs).2]
  rfl
end Lb

set_option maxHeartbeats 2000000
namespace Lb
open PySem PySem.Spec PyProof.Rows L2
/-! ### 10. Texts by their codes -/
theorem cps_app (x y : Str) : (x ++ y).cps.toList = x.cps.toList ++ y.cps.toList := by
  rw [Str.cps_append]
  simp
theorem join_signs : ∀ cs : List Nat, (Txt.join (Str.ofString "") (cs.map fun c => (⟨#[c]⟩ : Str))).cps.toList = cs := by
  intro cs
  rw [TL.join_eq]
  have e0 : (Str.ofString "").cps.toList = [] := by decide +kernel
  induction cs with
  | nil => rfl
  | cons c r ih =>
    cases r with
    | nil => rfl
    | cons d t =>
      show ((⟨#[c]⟩ : Str) ++ Str.ofString "" ++ Str.join (Str.ofString "") ((d :: t).map fun c => (⟨#[c]⟩ : Str))).cps.toList = _
      rw [cps_app, cps_app, ih, e0]
      rfl
theorem textOk_of {z : Str} {n : Nat} (h : z.cps.toList.length ≤ n) (n1 : n ≤ 1000) (k : ∀ c ∈ z.cps.toList, c < 1114112) : textOk z := ⟨by rw [len_str]; omega, k⟩
theorem textOk_app {x y : Str} (hx : textOk x) (hy : textOk y) (h : x.length + y.length ≤ 1000) : textOk (x ++ y) := by
  refine ⟨?_, fun c hc => ?_⟩
  · rw [strLen_append]
    exact h
  · rw [cps_app] at hc
    exact (List.mem_append.mp hc).elim (hx.2 c) (hy.2 c)
theorem textOk_to {z : Str} {k : Int} (h : 0 ≤ k) (hz : textOk z) : textOk (cutS z none (some k)) ∧ (cutS z none (some k)).length ≤ z.length := by
  rw [cutS_to h]
  have e : (⟨(z.cps.toList.take k.toNat).toArray⟩ : Str).cps.toList = z.cps.toList.take k.toNat := by simp
  have l : (⟨(z.cps.toList.take k.toNat).toArray⟩ : Str).length ≤ z.length := by
    rw [len_str, e, len_str z, List.length_take]
    exact Nat.min_le_right _ _
  refine ⟨⟨Nat.le_trans l hz.1, fun c hc => ?_⟩, l⟩
  rw [e] at hc
  exact hz.2 c (List.mem_of_mem_take hc)
theorem textOk_from {z : Str} {k : Int} (h : 0 ≤ k) (hz : textOk z) : textOk (cutS z (some k) none) ∧ (cutS z (some k) none).length ≤ z.length := by
  rw [cutS_from h]
  have e : (⟨(z.cps.toList.drop k.toNat).toArray⟩ : Str).cps.toList = z.cps.toList.drop k.toNat := by simp
  have l : (⟨(z.cps.toList.drop k.toNat).toArray⟩ : Str).length ≤ z.length := by
    rw [len_str, e, len_str z, List.length_drop]
    exact Nat.sub_le _ _
  refine ⟨⟨Nat.le_trans l hz.1, fun c hc => ?_⟩, l⟩
  rw [e] at hc
  exact hz.2 c (List.mem_of_mem_drop hc)
theorem atI_int {α : Type} {xs : List α} {v : Int} {x : α} (h0 : 0 ≤ v) (h : xs[v.toNat]? = some x) : atI xs v = some x := by
  have q := atI_nat h
  rwa [Int.toNat_of_nonneg h0] at q
/-- a sign of a text -/
theorem sign_at {z : Str} (hz : textOk z) {v : Int} (h0 : 0 ≤ v) (h1 : v < (z.length : Int)) : ∃ c, atI z.cps.toList v = some c ∧ c ∈ z.cps.toList ∧ textOk ⟨#[c]⟩ ∧ (⟨#[c]⟩ : Str).length = 1 := by
  have l := len_str z
  have lt : v.toNat < z.cps.toList.length := by omega
  refine ⟨z.cps.toList[v.toNat], ?_, List.getElem_mem _, ⟨by show 1 ≤ 1000; decide, fun c hc => ?_⟩, rfl⟩
  · exact atI_int h0 (List.getElem?_eq_getElem lt)
  · have e : c = z.cps.toList[v.toNat] := by simpa using hc
    rw [e]
    exact hz.2 _ (List.getElem_mem _)
/-- an item of a list at a drawn place -/
theorem item_at {xs : List V} {v : Int} (h0 : 0 ≤ v) (h1 : v < (xs.length : Int)) : ∃ x, xs[v.toNat]? = some x ∧ atI xs v = some x := by
  have lt : v.toNat < xs.length := by omega
  exact ⟨xs[v.toNat], List.getElem?_eq_getElem lt, atI_int h0 (List.getElem?_eq_getElem lt)⟩
theorem dp_strs {K : PySem.W.Frag} {H : Hp} : ∀ ws : List Str, DpAll K H (ws.map V.str) (ws.map PyData.str)
  | [] => .nil
  | _ :: r => .cons (.str _) (dp_strs r)
theorem shaped_strs {ws : List Str} (h : ∀ z ∈ ws, textOk z) : SeqAt.shaped (.list (ws.map PyData.str)) = true := by
  have q : ∀ l : List Str, (∀ z ∈ l, textOk z) → PyData.canLayAll0 (l.map PyData.str) = true ∧ PyData.depthAll (l.map PyData.str) = 0 := by
    intro l
    induction l with
    | nil => exact fun _ => ⟨rfl, rfl⟩
    | cons z r ih =>
      intro hl
      obtain ⟨h1, h2⟩ := ih fun x hx => hl x (List.mem_cons_of_mem _ hx)
      have hz := (hl z List.mem_cons_self).2
      constructor
      · simp only [List.map_cons, PyData.canLayAll0, PyData.canLay0, h1, Bool.and_true]
        unfold PyData.strOk
        rw [← Array.all_toList]
        exact List.all_eq_true.mpr fun c hc => decide_eq_true (hz c hc)
      · simp only [List.map_cons, PyData.depthAll, PyData.depth, h2]
        rfl
  obtain ⟨h1, h2⟩ := q ws h
  unfold SeqAt.shaped
  simp only [PyData.canLay0, h1, PyData.depth, h2]
  rfl
theorem eqv_nil (ws : List Str) : PyData.eqv (.list (ws.map PyData.str)) (.list []) = ws.isEmpty := by
  cases ws <;> simp only [List.map_nil, List.map_cons, PyData.eqv, PyData.eqvAll, List.isEmpty_nil, List.isEmpty_cons]
/-! what the draws leave -/
theorem kp_of {b : Addr} {H H' : Hp} (h : ∀ a, a ≠ b → H' a = H a) : Kp b H H' := fun a o n e => by
  rw [h a n]
  exact e
theorem Bag.at_b {H : Hp} {b c : Addr} (B : Bag H b c) : ∃ o, H b = some o := by
  obtain ⟨_, _, _, _, e, _⟩ := B.ex
  exact ⟨_, e⟩
theorem Bag.ne_new {H : Hp} {b c p : Addr} (B : Bag H b c) (h : H p = none) : p ≠ b := by
  obtain ⟨o, e⟩ := B.at_b
  exact (ne_of_none e h).symm
theorem Bag.nc_new {H : Hp} {b c p : Addr} (B : Bag H b c) (h : H p = none) : p ≠ c := by
  obtain ⟨_, _, _, _, _, e, _⟩ := B.ex
  exact (ne_of_none e h).symm
/-- new there, new ahead -/
theorem Kp.free {b p : Addr} {H H' : Hp} (k : Kp b H H') (h : H' p = none) (n : p ≠ b) : H p = none := by
  cases q : H p with
  | none => rfl
  | some o =>
    rw [k p o n q] at h
    cases h
end Lb

set_option maxHeartbeats 2000000
namespace Kk
open PySem PySem.Spec PyProof.Rows L2 Lb
def topS (i : Nat) : Stmt := PySem.Challenge.pw_sleepmany_k11_kinds_known.main.body.getD i (.Pass ⟨0, 0, 0, 0⟩)
abbrev st_L_bag : Stmt := topS 14
abbrev N_L_bag : List Str := ["_law_script", "_law_cell"]
abbrev P_L_bag : List Str := ["_law_script"]
theorem sc_L_bag : FnScope N_L_bag P_L_bag (defScope st_L_bag) := ⟨rfl, rfl, rfl, by decide +kernel, rfl, by decide +kernel, by decide +kernel⟩
abbrev st_L_take : Stmt := topS 15
abbrev N_L_take : List Str := ["_law_bag_here", "_law_many", "_law_cell", "_law_value", "_law_first", "_law_second"]
abbrev P_L_take : List Str := ["_law_bag_here", "_law_many"]
theorem sc_L_take : FnScope N_L_take P_L_take (defScope st_L_take) := ⟨rfl, rfl, rfl, by decide +kernel, rfl, by decide +kernel, by decide +kernel⟩
section
variable {P : Program} {w : World} {K : PySem.W.Frag} {mg : Str → Option Value} {base : Heap}
theorem ok_take {f : Addr} {fd : FuncData} (F : Fun K "_law_take" "_law_take" st_L_take f fd) (B : Blt mg) : FnOk P w K mg base CX0 1 f fd P_L_take spTake := by
  refine F.ok sc_L_take (fun vs H Q E h => ?_) (fun cdv A outer s H vs Q E hr h => ?_)
  · obtain ⟨b, c, many, rfl, _⟩ := h
    rfl
  · obtain ⟨b, c, many, rfl, G, m0, m1, q⟩ := h
    refine ⟨_, (Evl.pss_cut (ps_if (pt_cmpR op_eq (pe_ix ix_list (pv 0) pe_int (fun _ _ => rfl)) pe_int (nomark _)) (pss_cons (ps_set (i := 2) sc_L_take.nd rfl (Or.inl rfl) pe_int)
      (Evl.pss_cut (ps_if (pt_cmpR op_lt (pe_ix ix_list (pv 0) pe_int (fun _ _ => rfl)) (pe_callB call_len (by rfl) B.len (by decide +kernel) (pa_cons (pe_ix ix_list (pv 0) pe_int (fun _ _ => rfl)) pa_nil)) (nomark _)) (pss_one (ps_set (i := 2) sc_L_take.nd rfl (Or.inl rfl) (pe_ix ix_list (pe_ix ix_list (pv 0) pe_int (fun _ _ => rfl)) (pe_ix ix_list (pv 0) pe_int (fun _ _ => rfl)) (fun _ _ => rfl)))) pss_nil)
      (pss_cons (ps_augS (pv 0) pe_int get_list pe_int ip_add set_list)
      (Evl.pss_cut (ps_if (pt_cmpR op_ge (pv 2) pe_int (nomark _)) (pss_one (ps_asg (pv 2) (pg_sub (pv 0) pe_int set_list))) pss_nil)
      (pss_one (ps_asg (pe_op op_mod (pe_op op_add (pe_op op_add (pe_op op_mul (pe_ix ix_list (pv 0) pe_int (fun _ _ => rfl)) pe_int) (pe_op op_mod (pv 2) pe_int)) (pe_op op_mul pe_int (pe_ix ix_list (pv 0) pe_int (fun _ _ => rfl)))) pe_int) (pg_sub (pv 0) pe_int set_list))))))) pss_nil)
      (pss_cons (ps_if (pt_cmpR op_gt (pe_ix ix_list (pv 0) pe_int (fun _ _ => rfl)) pe_int (nomark _)) (pss_cons (ps_set (i := 3) sc_L_take.nd rfl (Or.inl rfl) (pe_op op_mod (pe_ix ix_list (pv 0) pe_int (fun _ _ => rfl)) (pv 1)))
      (pss_cons (ps_asg (pe_op op_fdivW (pe_ix ix_list (pv 0) pe_int (fun _ _ => rfl)) (pv 1)) (pg_sub (pv 0) pe_int set_list))
      (pss_one (ps_ret (pv 3))))) pss_nil)
      (pss_cons (ps_set (i := 4) sc_L_take.nd rfl (Or.inl rfl) (pe_op op_mod (pe_op op_mul (pe_op op_add (pe_ix ix_list (pv 0) pe_int (fun _ _ => rfl)) pe_int) pe_int) pe_int))
      (pss_cons (ps_set (i := 5) sc_L_take.nd rfl (Or.inl rfl) (pe_op op_mod (pe_op op_mul (pe_op op_mod (pe_op op_mul (pv 4) (pv 4)) pe_int) pe_int) pe_int))
      (pss_cons (ps_if (pt_cmpR op_gt (pv 1) pe_int (nomark _)) (pss_one (ps_ret (pe_op op_mod (pe_op op_add (pe_op op_mul (pv 5) pe_int) (pv 4)) (pv 1)))) pss_nil)
      (pss_one (ps_ret (pe_op op_mod (pe_op op_fdivW (pv 5) pe_int) (pv 1))))))))), ?_⟩
    obtain ⟨n, st, p, ns, e1, e2, n0, p0, ns0, nl⟩ := G.ex
    refine ⟨fun σ' H' => ∃ x2, σ' = [some (.ref b), some (.int many), x2, none, none, none] ∧ Bag H' b c ∧ (∀ a, a ≠ b → H' a = H a), ?_, ?_⟩
    · refine ⟨.ref b, rfl, b, _, 0, _, rfl, rfl, SqL.of e1, rfl, rfl, _, rfl, ite2 (fun _ => ?_) (fun _ => ⟨none, rfl, G, fun _ _ => rfl⟩)⟩
      refine ⟨fun σ' H' => ∃ z : Int, 0 ≤ z ∧ σ' = [some (.ref b), some (.int many), some (.int z), none, none, none] ∧ H' = H, ?_, ?_⟩
      · refine ⟨.ref b, rfl, b, _, 2, _, rfl, rfl, SqL.of e1, rfl, .ref b, rfl, b, _, 3, _, rfl, rfl, SqL.of e1, rfl, .ref c, _, rfl, .inl ⟨_, SqL.of e2, rfl⟩, p, _, rfl, rfl, _, rfl, ite2 (fun lt => ?_) (fun _ => ⟨0, by decide, rfl, rfl⟩)⟩
        have lt2 : p < ((ns.map V.int).length : Int) := of_decide_eq_true lt
        rw [List.length_map] at lt2
        have lt3 : p.toNat < ns.length := by omega
        refine ⟨.ref b, rfl, b, _, 3, _, rfl, rfl, SqL.of e1, rfl, .ref b, rfl, b, _, 2, _, rfl, rfl, SqL.of e1, rfl, c, _, p, .int ns[p.toNat], rfl, rfl, SqL.of e2, at_of (j := p.toNat) (by omega) ?_, ns[p.toNat], ns0 _ (List.getElem_mem _), rfl, rfl⟩
        rw [List.getElem?_map, List.getElem?_eq_getElem lt3]
        rfl
      · rintro σ' H' ⟨z, z0, rfl, rfl⟩
        -- bag[2] += 1
        refine ⟨.ref b, rfl, b, _, 2, _, rfl, rfl, SqL.of e1, rfl, p, 1, rfl, rfl, b, _, 2, 2, rfl, rfl, e1, rfl, ?_⟩
        refine ⟨fun σ2 H2 => ∃ n2 : Int, 0 ≤ n2 ∧ σ2 = [some (.ref b), some (.int many), some (.int z), none, none, none] ∧ H2 b = some (.lst [.int n2, .int st, .int (p + 1), .ref c]) ∧ (∀ a, a ≠ b → H2 a = H' a), ?_, ?_⟩
        · refine ⟨.int z, rfl, _, _, rfl, rfl, _, rfl, ite2 (fun _ => ?_) (fun _ => ?_)⟩
          · refine ⟨.int z, rfl, .ref b, rfl, b, _, 0, 0, rfl, rfl, upd_same, rfl, z, z0, rfl, upd_same, fun a ha => ?_⟩
            rw [upd_ne ha, upd_ne ha]
          · exact ⟨n, n0, rfl, upd_same, fun a ha => upd_ne ha⟩
        · rintro σ2 H2 ⟨n2, n20, rfl, f1, f2⟩
          refine ⟨.ref b, rfl, b, _, 1, _, rfl, rfl, SqL.of f1, rfl, st, 48271, rfl, rfl, .inr ⟨by decide, by decide⟩, .int z, rfl, z, 2147483647, rfl, rfl, (by show (0 : Int) < 2147483647; decide), _, _, rfl, rfl,
            .ref b, rfl, b, _, 2, _, rfl, rfl, SqL.of f1, rfl, 7919, p + 1, rfl, rfl, .inl ⟨by decide, by decide⟩, _, _, rfl, rfl, _, 2147483647, rfl, rfl, (by show (0 : Int) < 2147483647; decide), .ref b, rfl, b, _, 1, 1, rfl, rfl, f1, rfl, some (.int z), rfl, ?_, fun a ha => ?_⟩
          · exact G.kp (fun a ha => by rw [upd_ne ha, f2 a ha]) (Eq.trans upd_same rfl) n20 (by omega)
          · rw [upd_ne ha, f2 a ha]
    · rintro σ' H' ⟨x2, rfl, G', hk⟩
      obtain ⟨n, st, p, ns, e1, e2, n0, p0, ns0, nl⟩ := G'.ex
      refine ⟨.ref b, rfl, b, _, 0, _, rfl, rfl, SqL.of e1, rfl, n, 0, rfl, rfl, _, rfl, ite2 (fun _ => ?_) (fun _ => ?_)⟩
      · refine ⟨.ref b, rfl, b, _, 0, _, rfl, rfl, SqL.of e1, rfl, .int many, rfl, n, many, rfl, rfl, m0, ?_⟩
        refine ⟨.ref b, rfl, b, _, 0, _, rfl, rfl, SqL.of e1, rfl, .int many, rfl, n, many, rfl, rfl, cdiv_any (many_log m0 m1), .ref b, rfl, b, _, 0, 0, rfl, rfl, e1, rfl, .int (n % many), rfl, ?_⟩
        refine q _ _ (Int.emod_nonneg _ (by omega)) (Int.emod_lt_of_pos _ m0) ?_ fun a ha => ?_
        · exact G'.kp (fun a ha => upd_ne ha) (Eq.trans upd_same rfl) (Int.ediv_nonneg n0 (by omega)) p0
        · rw [upd_ne ha, hk a ha]
      · refine ⟨.ref b, rfl, b, _, 1, _, rfl, rfl, SqL.of e1, rfl, st, 1, rfl, rfl, _, 39373, rfl, rfl, .inr ⟨by decide, by decide⟩, _, 1000000007, rfl, rfl, (by show (0 : Int) < 1000000007; decide), ?_⟩
        refine ⟨_, rfl, _, rfl, _, _, rfl, rfl, .inl ⟨show -(2 ^ 64) < (st + 1) * 39373 % 1000000007 by omega, show (st + 1) * 39373 % 1000000007 < 2 ^ 64 by omega⟩, _, 998244353, rfl, rfl, (by show (0 : Int) < 998244353; decide), _, 30011, rfl, rfl, .inr ⟨by decide, by decide⟩, _, 998244353, rfl, rfl, (by show (0 : Int) < 998244353; decide), ?_⟩
        refine ⟨.int many, rfl, many, 1000000, rfl, rfl, _, rfl, ite2 (fun _ => ?_) (fun _ => ?_)⟩
        · refine ⟨_, rfl, _, 1000000007, rfl, rfl, .inr ⟨by decide, by decide⟩, _, rfl, _, _, rfl, rfl, .int many, rfl, _, many, rfl, rfl, m0, ?_⟩
          exact q _ _ (Int.emod_nonneg _ (by omega)) (Int.emod_lt_of_pos _ m0) G' hk
        · refine ⟨_, rfl, _, 7, rfl, rfl, ⟨by decide, by decide⟩, .int many, rfl, _, many, rfl, rfl, m0, ?_⟩
          exact q _ _ (Int.emod_nonneg _ (by omega)) (Int.emod_lt_of_pos _ m0) G' hk
theorem ok_bag {f : Addr} {fd : FuncData} (F : Fun K "_law_bag" "_law_bag" st_L_bag f fd) (B : Blt mg) : FnOk P w K mg base CX0 1 f fd P_L_bag (spBag K) := by
  refine F.ok sc_L_bag (fun vs H Q E h => ?_) (fun cdv A outer s H vs Q E hr h => ?_)
  · obtain ⟨a, ns, rfl, _⟩ := h
    rfl
  · obtain ⟨a, ns, rfl, hS, nl, q⟩ := h
    refine ⟨_, (pss_one (ps_ret (pe_lst (pa_cons pe_int (pa_cons pe_int (pa_cons pe_int (pa_cons (pe_lc (own := [("_law_cell", 1)]) (g := gName 1) (tt := tYes) rfl sc_L_bag.nd (pi_list (pe_slice sl_list (pv 0) po_none (po_some pe_int))) (blkOk_by (N := N_L_bag) (sc := defScope st_L_bag) (by decide +kernel)) (fun _ _ _ _ _ => pg_name (i := 1) sc_L_bag.nd rfl (Or.inl rfl)) (fun _ _ _ _ _ => pts_nil) (fun _ _ _ _ _ => (pe_callB call_abs (by rfl) B.abs_ (by decide +kernel) (pa_cons (pv 1) pa_nil)))) pa_nil))))))), ?_⟩
    refine ⟨.ref a, rfl, 63, rfl, a, ns.map V.int, rfl, hS, fun d nd => ?_⟩
    rw [cut_to (by decide)]
    have e63 : (ns.map V.int).take (63 : Int).toNat = ns.map V.int := List.take_of_length_le (by rw [List.length_map]; exact nl)
    rw [e63]
    refine ⟨d, rfl, ⟨_, SqL.of upd_same⟩, fun D hD => lc_list (K := K) (a := d) (xs := ns.map V.int) (fun i H' => Mk (upd H d (.lst (ns.map V.int))) D ((ns.take i).map fun z => V.int (if z < 0 then -z else z)) H') (Mk.start hD) (fun i H' _ M => SqL.of (M.same _ _ upd_same)) ?_ ?_⟩
    · intro i x H' hi M
      obtain ⟨z, hz, rfl⟩ : ∃ z, ns[i]? = some z ∧ V.int z = x := by
        rw [List.getElem?_map] at hi
        exact Option.map_eq_some_iff.mp hi
      refine ⟨rfl, .int z, rfl, z, rfl, _, M.at_, ?_, ?_⟩
      · rw [List.length_map, List.length_take]
        exact sz_lo (by omega)
      · rw [List.take_add_one, hz, List.map_append]
        exact M.next (Same.refl _)
    · intro H' M
      rw [List.length_map, List.take_length] at M
      refine ⟨by show 4 ≤ sizeLine; decide, fun b nb => ?_⟩
      have s0 : Same H H' := (same_new nd).trans M.same
      have n2 : H D = none := (same_new nd).free M.new
      have nDb : D ≠ b := ne_of_none M.at_ nb
      refine q b D _ (s0.free nb) n2 (s0.trans (same_new nb)) ⟨⟨0, 1234567891, 0, ns.map fun z => if z < 0 then -z else z, upd_same, ?_, by decide, by decide, ?_, by rw [List.length_map]; exact nl⟩, nDb⟩
      · rw [upd_ne nDb, List.map_map]
        exact M.at_
      · intro z hz
        obtain ⟨y, _, rfl⟩ := List.mem_map.mp hz
        split <;> omega
end
end Kk

set_option maxHeartbeats 2000000
namespace Kk
open PySem PySem.Spec PyProof.Rows L2 Lb
structure Con (mg : Str → Option Value) : Prop where
  GREATEST_LENGTH : ∃ u, mg "GREATEST_LENGTH" = some u ∧ RelV (.int (10 ^ 9)) u
  GREATEST_REST : ∃ u, mg "GREATEST_REST" = some u ∧ RelV (.int (10 ^ 18)) u
  GREATEST_BEATS : ∃ u, mg "GREATEST_BEATS" = some u ∧ RelV (.int (10 ^ 30)) u
  MOST_LETTERS : ∃ u, mg "MOST_LETTERS" = some u ∧ RelV (.int 8) u
  MOST_SLEEPERS : ∃ u, mg "MOST_SLEEPERS" = some u ∧ RelV (.int 40) u
abbrev st_is_whole : Stmt := topS 6
abbrev N_is_whole : List Str := ["thing"]
abbrev P_is_whole : List Str := ["thing"]
theorem sc_is_whole : FnScope N_is_whole P_is_whole (defScope st_is_whole) := ⟨rfl, rfl, rfl, by decide +kernel, rfl, by decide +kernel, by decide +kernel⟩
abbrev st_is_within : Stmt := topS 7
abbrev N_is_within : List Str := ["thing", "least", "greatest"]
abbrev P_is_within : List Str := ["thing", "least", "greatest"]
theorem sc_is_within : FnScope N_is_within P_is_within (defScope st_is_within) := ⟨rfl, rfl, rfl, by decide +kernel, rfl, by decide +kernel, by decide +kernel⟩
abbrev st_is_name : Stmt := topS 8
abbrev N_is_name : List Str := ["thing", "sign"]
abbrev P_is_name : List Str := ["thing"]
theorem sc_is_name : FnScope N_is_name P_is_name (defScope st_is_name) := ⟨rfl, rfl, rfl, by decide +kernel, rfl, by decide +kernel, by decide +kernel⟩
abbrev st_is_length : Stmt := topS 9
abbrev N_is_length : List Str := ["thing"]
abbrev P_is_length : List Str := ["thing"]
theorem sc_is_length : FnScope N_is_length P_is_length (defScope st_is_length) := ⟨rfl, rfl, rfl, by decide +kernel, rfl, by decide +kernel, by decide +kernel⟩
abbrev st_is_rest : Stmt := topS 10
abbrev N_is_rest : List Str := ["thing"]
abbrev P_is_rest : List Str := ["thing"]
theorem sc_is_rest : FnScope N_is_rest P_is_rest (defScope st_is_rest) := ⟨rfl, rfl, rfl, by decide +kernel, rfl, by decide +kernel, by decide +kernel⟩
abbrev st_are_beats : Stmt := topS 11
abbrev N_are_beats : List Str := ["thing"]
abbrev P_are_beats : List Str := ["thing"]
theorem sc_are_beats : FnScope N_are_beats P_are_beats (defScope st_are_beats) := ⟨rfl, rfl, rfl, by decide +kernel, rfl, by decide +kernel, by decide +kernel⟩
abbrev st_is_stroke : Stmt := topS 12
abbrev N_is_stroke : List Str := ["thing", "part"]
abbrev P_is_stroke : List Str := ["thing"]
theorem sc_is_stroke : FnScope N_is_stroke P_is_stroke (defScope st_is_stroke) := ⟨rfl, rfl, rfl, by decide +kernel, rfl, by decide +kernel, by decide +kernel⟩
section
variable {P : Program} {w : World} {K : PySem.W.Frag} {mg : Str → Option Value} {base : Heap}
theorem ok_whole {f : Addr} {fd : FuncData} (F : Fun K "is_whole" "is_whole" st_is_whole f fd) (B : Blt mg) : FnOk P w K mg base CX0 1 f fd P_is_whole (spD (fun _ => True) isWhole) := by
  refine F.ok sc_is_whole (fun vs H Q E h => ?_) (fun cdv A outer s H vs Q E hr h => ?_)
  · obtain ⟨b, v, d, rfl, _⟩ := h
    rfl
  · obtain ⟨b, v, d, rfl, D, _, q⟩ := h
    refine ⟨_, (pss_one (ps_ret (pe_and (pe_callB call_isi (by rfl) B.isinstance_ (by decide +kernel) (pa_cons (pv 0) (pa_cons (pe_bltn (v := .ty "int") (by rfl) B.int (by decide +kernel) rfl) pa_nil))) (pe_one (pe_not (pe_callB call_isi (by rfl) B.isinstance_ (by decide +kernel) (pa_cons (pv 0) (pa_cons (pe_bltn (v := .ty "bool") (by rfl) B.bool_ (by decide +kernel) rfl) pa_nil)))))))), ?_⟩
    refine ⟨v, rfl, v, .ty "int", _, _, _, rfl, .ty _, ty_of D, kit_int d, _, rfl, ?_⟩
    have q' := q _ (Same.refl H)
    rw [whole_eq] at q'
    cases hi : isInt d with
    | false =>
      rw [hi] at q'
      exact iteF q'
    | true =>
      rw [hi] at q'
      exact iteT ⟨v, rfl, v, .ty "bool", _, _, _, rfl, .ty _, ty_of D, kit_bool d, _, rfl, q'⟩
theorem ok_within {f : Addr} {fd : FuncData} (F : Fun K "is_within" "is_within" st_is_within f fd) (c_is_whole : Cal P w K mg base 1 "is_whole" (spD (fun _ => True) isWhole)) : FnOk P w K mg base CX0 2 f fd P_is_within spW := by
  refine F.ok sc_is_within (fun vs H Q E h => ?_) (fun cdv A outer s H vs Q E hr h => ?_)
  · obtain ⟨b, v, d, lo, hi, rfl, _⟩ := h
    rfl
  · obtain ⟨b, v, d, lo, hi, rfl, D, q⟩ := h
    refine ⟨_, (pss_one (ps_ret (pe_and (pe_n c_is_whole hr (by decide) (by rfl) (pa_cons (pv 0) pa_nil)) (pe_one (pe_chain op_le op_le (pv 1) (pv 0) (pv 2)))))), ?_⟩
    refine ⟨v, rfl, b, v, d, rfl, D, trivial, fun H1 s1 => ⟨_, rfl, ?_⟩⟩
    cases hw : isWhole d with
    | false =>
      have q' := q _ s1
      have e : within lo hi d = false := by cases d <;> first | rfl | cases hw
      rw [e] at q'
      exact iteF q'
    | true =>
      obtain ⟨i, rfl, rfl⟩ := dat_int D hw
      have q' := q _ s1
      refine iteT ⟨.int lo, rfl, .int i, rfl, lo, i, rfl, rfl, _, rfl, ?_⟩
      cases h1 : decide (lo ≤ i) with
      | false =>
        have e : within lo hi (.int i) = false := by simp only [within, h1, Bool.false_and]
        rw [e] at q'
        exact iteF q'
      | true =>
        have e : within lo hi (.int i) = decide (i ≤ hi) := by simp only [within, h1, Bool.true_and]
        rw [e] at q'
        exact iteT ⟨.int hi, rfl, i, hi, rfl, rfl, q'⟩
theorem ok_name {f : Addr} {fd : FuncData} (F : Fun K "is_name" "is_name" st_is_name f fd) (B : Blt mg) (M : Con mg) : FnOk P w K mg base CX0 1 f fd P_is_name (spD smallS isName) := by
  refine F.ok sc_is_name (fun vs H Q E h => ?_) (fun cdv A outer s H vs Q E hr h => ?_)
  · obtain ⟨b, v, d, rfl, _⟩ := h
    rfl
  · obtain ⟨b, v, d, rfl, D, sm, q⟩ := h
    refine ⟨_, (pss_cons (ps_if (pw_or (pt_not (pt_val (pe_callB call_isi (by rfl) B.isinstance_ (by decide +kernel) (pa_cons (pv 0) (pa_cons (pe_bltn (v := .ty "str") (by rfl) B.str_ (by decide +kernel) rfl) pa_nil))))) (pw_or1 (pt_not (pt_chain op_le op_le pe_int (pe_callB call_len (by rfl) B.len (by decide +kernel) (pa_cons (pv 0) pa_nil)) (pe_k (by rfl) M.MOST_LETTERS))))).pt (pss_one (ps_ret pe_bl)) pss_nil)
      (pss_one (ps_ret (pe_callB (cr_all rfl) (by rfl) B.all_ (by decide +kernel) (pa_cons (pe_lc (own := [("sign", 1)]) (g := gName 1) (tt := tYes) rfl sc_is_name.nd (pi_str (pv 0)) (blkOk_by (N := N_is_name) (sc := defScope st_is_name) (by decide +kernel)) (fun _ _ _ _ _ => pg_name (i := 1) sc_is_name.nd rfl (Or.inl rfl)) (fun _ _ _ _ _ => pts_nil) (fun _ _ _ _ _ => (pe_chain op_le_str op_le_str pe_str (pv 1) pe_str))) pa_nil))))), ?_⟩
    refine ⟨v, rfl, v, .ty "str", _, _, _, rfl, .ty _, ty_of D, kit_str d, _, rfl, ?_⟩
    cases hs : isStr d with
    | false =>
      have q' := q _ (Same.refl H)
      have e : isName d = false := by cases d <;> first | rfl | cases hs
      rw [e] at q'
      exact iteT (iteT q')
    | true =>
      obtain ⟨z, rfl, rfl⟩ := dat_str D hs
      have zl : z.length ≤ 1000 := sm.1
      refine iteF ⟨.str z, rfl, .str z, _, rfl, ⟨sz_ok (by omega), rfl⟩, 1, _, rfl, rfl, _, rfl, ?_⟩
      have q0 := q _ (Same.refl H)
      cases h1 : decide ((1 : Int) ≤ (z.length : Int)) with
      | false =>
        have e : isName (.str z) = false := by
          have := of_decide_eq_false h1
          have e1 : decide (1 ≤ z.length) = false := decide_eq_false (by omega)
          simp only [isName, nameS, e1, Bool.false_and]
        rw [e] at q0
        exact iteF ⟨_, rfl, iteT q0⟩
      | true =>
        refine iteT ⟨_, 8, rfl, rfl, _, rfl, ?_⟩
        cases h2 : decide ((z.length : Int) ≤ 8) with
        | false =>
          have e : isName (.str z) = false := by
            have := of_decide_eq_false h2
            have e1 : decide (z.length ≤ 8) = false := decide_eq_false (by omega)
            simp only [isName, nameS, e1, Bool.false_and, Bool.and_false]
          rw [e] at q0
          exact iteT q0
        | true =>
          have g1 := of_decide_eq_true h1
          have g2 := of_decide_eq_true h2
          have e : isName (.str z) = z.cps.toList.all signOk := by
            have e1 : decide (1 ≤ z.length) = true := decide_eq_true (by omega)
            have e2 : decide (z.length ≤ 8) = true := decide_eq_true (by omega)
            simp only [isName, nameS, e1, e2, Bool.true_and]
          refine iteF ⟨.str z, rfl, z, rfl, fun R hR => lc_text (x := z) (fun i H' => Mk H R ((z.cps.toList.take i).map fun c => V.bl (signOk c)) H') (Mk.start hR) ?_ ?_⟩
          · intro i c H' hc M'
            refine ⟨rfl, .str ⟨#[c]⟩, rfl, _, ⟨#[c]⟩, rfl, rfl, _, rfl, ?_⟩
            have fin : ∀ x : Bool, x = signOk c → ∃ acc, H' R = some (.lst acc) ∧ acc.length < sizeLine ∧ Mk H R ((z.cps.toList.take (i + 1)).map fun c => V.bl (signOk c)) (upd H' R (.lst (acc ++ [V.bl x]))) := by
              rintro x rfl
              refine ⟨_, M'.at_, ?_, ?_⟩
              · rw [List.length_map, List.length_take]
                have := len_str z
                exact sz_lo (by omega)
              · rw [List.take_add_one, hc, List.map_append]
                exact M'.next (Same.refl _)
            rw [str_a, sign_lt]
            cases h3 : decide (c < 97) with
            | true =>
              have := of_decide_eq_true h3
              exact iteF (fin false (by unfold signOk; rw [decide_eq_false (show ¬ 97 ≤ c by omega)]; rfl))
            | false =>
              have := of_decide_eq_false h3
              refine iteT ⟨⟨#[c]⟩, _, rfl, rfl, ?_⟩
              rw [str_z, sign_lt]
              refine fin _ ?_
              unfold signOk
              rw [decide_eq_true (show 97 ≤ c by omega), Bool.true_and]
              by_cases h4 : c ≤ 122
              · rw [decide_eq_true h4, decide_eq_false (show ¬ 122 < c by omega)]
                rfl
              · rw [decide_eq_false h4, decide_eq_true (show 122 < c by omega)]
                rfl
          · intro H' M'
            rw [List.take_length] at M'
            refine ⟨R, z.cps.toList.map signOk, rfl, SqL.of ?_, ?_⟩
            · rw [List.map_map]
              exact M'.at_
            · have q' := q _ M'.same
              rw [e] at q'
              have e3 : (z.cps.toList.map signOk).all id = z.cps.toList.all signOk := by
                rw [List.all_map]
                rfl
              rw [e3]
              exact q'
end
end Kk

set_option maxHeartbeats 2000000
namespace Kk
open PySem PySem.Spec PyProof.Rows L2 Lb
theorem texts_all {b : Addr} {H : Hp} : ∀ {ds : List PyData} {vs : List V}, Dats b H ds vs → ds.all isName = true → vs = (textsOf ds).map V.str ∧ (textsOf ds).length = ds.length
  | [], vs, h, _ => by
    simp only [Dats] at h
    exact ⟨h, rfl⟩
  | d :: ds, vs, h, k => by
    simp only [Dats] at h
    obtain ⟨v, r, rfl, h1, h2⟩ := h
    simp only [List.all_cons, Bool.and_eq_true] at k
    obtain ⟨e1, e2⟩ := texts_all h2 k.2
    cases d with
    | str z =>
      simp only [Dat] at h1
      subst h1
      refine ⟨?_, ?_⟩
      · rw [e1]
        rfl
      · show ((z :: textsOf ds).length = _)
        rw [List.length_cons, e2, List.length_cons]
    | _ => simp [isName] at k
section
variable {P : Program} {w : World} {K : PySem.W.Frag} {mg : Str → Option Value} {base : Heap}
theorem ok_length {f : Addr} {fd : FuncData} (F : Fun K "is_length" "is_length" st_is_length f fd) (M : Con mg) (c_is_within : Cal P w K mg base 2 "is_within" spW) : FnOk P w K mg base CX0 3 f fd P_is_length (spD (fun _ => True) (within 1 (10 ^ 9))) := by
  refine F.ok sc_is_length (fun vs H Q E h => ?_) (fun cdv A outer s H vs Q E hr h => ?_)
  · obtain ⟨b, v, d, rfl, _⟩ := h
    rfl
  · obtain ⟨b, v, d, rfl, D, _, q⟩ := h
    exact ⟨_, (pss_one (ps_ret (pe_n c_is_within hr (by decide) (by rfl) (pa_cons (pv 0) (pa_cons pe_int (pa_cons (pe_k (by rfl) M.GREATEST_LENGTH) pa_nil)))))), v, rfl, b, v, d, 1, _, rfl, D, q⟩
theorem ok_rest {f : Addr} {fd : FuncData} (F : Fun K "is_rest" "is_rest" st_is_rest f fd) (M : Con mg) (c_is_within : Cal P w K mg base 2 "is_within" spW) : FnOk P w K mg base CX0 3 f fd P_is_rest (spD (fun _ => True) (within 1 (10 ^ 18))) := by
  refine F.ok sc_is_rest (fun vs H Q E h => ?_) (fun cdv A outer s H vs Q E hr h => ?_)
  · obtain ⟨b, v, d, rfl, _⟩ := h
    rfl
  · obtain ⟨b, v, d, rfl, D, _, q⟩ := h
    exact ⟨_, (pss_one (ps_ret (pe_n c_is_within hr (by decide) (by rfl) (pa_cons (pv 0) (pa_cons pe_int (pa_cons (pe_k (by rfl) M.GREATEST_REST) pa_nil)))))), v, rfl, b, v, d, 1, _, rfl, D, q⟩
theorem ok_beats {f : Addr} {fd : FuncData} (F : Fun K "are_beats" "are_beats" st_are_beats f fd) (M : Con mg) (c_is_within : Cal P w K mg base 2 "is_within" spW) : FnOk P w K mg base CX0 3 f fd P_are_beats (spD (fun _ => True) (within 0 (10 ^ 30))) := by
  refine F.ok sc_are_beats (fun vs H Q E h => ?_) (fun cdv A outer s H vs Q E hr h => ?_)
  · obtain ⟨b, v, d, rfl, _⟩ := h
    rfl
  · obtain ⟨b, v, d, rfl, D, _, q⟩ := h
    exact ⟨_, (pss_one (ps_ret (pe_n c_is_within hr (by decide) (by rfl) (pa_cons (pv 0) (pa_cons pe_int (pa_cons (pe_k (by rfl) M.GREATEST_BEATS) pa_nil)))))), v, rfl, b, v, d, 0, _, rfl, D, q⟩
theorem ok_stroke {f : Addr} {fd : FuncData} (F : Fun K "is_stroke" "is_stroke" st_is_stroke f fd) (B : Blt mg) (M : Con mg) (c_is_name : Cal P w K mg base 1 "is_name" (spD smallS isName)) : FnOk P w K mg base CX0 2 f fd P_is_stroke (spD small isStroke) := by
  refine F.ok sc_is_stroke (fun vs H Q E h => ?_) (fun cdv A outer s H vs Q E hr h => ?_)
  · obtain ⟨b, v, d, rfl, _⟩ := h
    rfl
  · obtain ⟨b, v, d, rfl, D, sm, q⟩ := h
    refine ⟨_, (pss_cons (ps_if (pw_or (pt_not (pt_val (pe_callB call_isi (by rfl) B.isinstance_ (by decide +kernel) (pa_cons (pv 0) (pa_cons (pe_bltn (v := .ty "list") (by rfl) B.list_ (by decide +kernel) rfl) pa_nil))))) (pw_or1 (pt_cmpR op_gt (pe_callB call_len (by rfl) B.len (by decide +kernel) (pa_cons (pv 0) pa_nil)) (pe_k (by rfl) M.MOST_SLEEPERS) (nomark _)))).pt (pss_one (ps_ret pe_bl)) pss_nil)
      (pss_one (ps_ret (pe_and (pe_callB (cr_all rfl) (by rfl) B.all_ (by decide +kernel) (pa_cons (pe_lc (own := [("part", 1)]) (g := gName 1) (tt := tYes) rfl sc_is_stroke.nd (pi_list (pv 0)) (blkOk_by (N := N_is_stroke) (sc := defScope st_is_stroke) (by decide +kernel)) (fun _ _ _ _ _ => pg_name (i := 1) sc_is_stroke.nd rfl (Or.inl rfl)) (fun _ _ _ _ _ => pts_nil) (fun _ _ _ _ _ => (pe_n c_is_name hr (by decide) (by rfl) (pa_cons (pv 1) pa_nil)))) pa_nil)) (pe_one (pe_cmpR op_eq (pe_lenTexts rfl (by rfl) B.len (by rfl) B.set_ (pv 0)) (pe_callB call_len (by rfl) B.len (by decide +kernel) (pa_cons (pv 0) pa_nil)) (nomark _))))))), ?_⟩
    refine ⟨v, rfl, v, .ty "list", _, _, _, rfl, .ty _, ty_of D, kit_list d, _, rfl, ?_⟩
    have q0 := q _ (Same.refl H)
    cases hs : isList d with
    | false =>
      have e : isStroke d = false := by cases d <;> first | rfl | cases hs
      rw [e] at q0
      exact iteT (iteT q0)
    | true =>
      obtain ⟨ds, a, vs, rfl, rfl, na, ha, hd⟩ := dat_list D hs
      obtain ⟨sl, ss⟩ := (show ds.length ≤ 1000 ∧ ∀ d ∈ ds, smallS d from sm)
      have lv := hd.length
      refine iteF ⟨.ref a, rfl, .ref a, _, rfl, .inl ⟨_, SqL.of ha, rfl⟩, _, 40, rfl, rfl, _, rfl, ?_⟩
      cases h1 : decide ((40 : Int) < (vs.length : Int)) with
      | true =>
        have := of_decide_eq_true h1
        have e : isStroke (.list ds) = false := by
          have e1 : decide (ds.length ≤ 40) = false := decide_eq_false (by omega)
          simp only [isStroke, e1, Bool.false_and]
        rw [e] at q0
        exact iteT q0
      | false =>
        have g1 := of_decide_eq_false h1
        have e : isStroke (.list ds) = (ds.all isName && decide (textsOf ds).Nodup) := by
          have e1 : decide (ds.length ≤ 40) = true := decide_eq_true (by omega)
          simp only [isStroke, e1, Bool.true_and]
        refine iteF ⟨.ref a, rfl, a, rfl, ⟨_, SqL.of ha⟩, fun R hR => lc_list (K := K) (a := a) (xs := vs) (fun i H' => Mk H R ((ds.take i).map fun c => V.bl (isName c)) H') (Mk.start hR) (fun i H' _ M' => SqL.of (M'.same _ _ ha)) ?_ ?_⟩
        · intro i x H' hi M'
          obtain ⟨dx, hx, Dx⟩ := hd.get hi
          refine ⟨rfl, x, rfl, b, x, dx, rfl, Dx.same M'.same, ss _ (List.mem_of_getElem? hx), fun H2 s2 => ⟨_, s2 _ _ M'.at_, ?_, ?_⟩⟩
          · rw [List.length_map, List.length_take]
            exact sz_lo (by omega)
          · rw [List.take_add_one, hx, List.map_append]
            exact M'.next s2
        · intro H' M'
          rw [← lv, List.take_length] at M'
          refine ⟨R, ds.map isName, rfl, SqL.of ?_, _, rfl, ?_⟩
          · rw [List.map_map]
            exact M'.at_
          · have e3 : (ds.map isName).all id = ds.all isName := by
              rw [List.all_map]
              rfl
            rw [e3]
            have q' := q _ M'.same
            rw [e] at q'
            cases h2 : ds.all isName with
            | false =>
              rw [h2] at q'
              exact iteF q'
            | true =>
              rw [h2] at q'
              obtain ⟨tv, tl⟩ := texts_all hd h2
              have ha' : SqL K H' a ((textsOf ds).map V.str) := by
                rw [← tv]
                exact SqL.of (M'.same _ _ ha)
              refine iteT ⟨.ref a, rfl, a, textsOf ds, rfl, ha', by omega, .ref a, rfl, .ref a, _, rfl, .inl ⟨_, SqL.of (M'.same _ _ ha), rfl⟩, rfl, ?_⟩
              have e4 : decide (V.int (uq (textsOf ds)).length = V.int (vs.length : Int)) = decide (textsOf ds).Nodup := by
                refine decide_eq_decide.mpr ?_
                rw [← (uq_len (textsOf ds)).2, tl, lv]
                constructor
                · intro z
                  have := V.int.inj z
                  omega
                · intro z
                  rw [z]
              show Q (.bl (decide (V.int (uq (textsOf ds)).length = V.int (vs.length : Int)))) H'
              rw [e4]
              exact q'
end
end Kk

set_option maxHeartbeats 2000000
namespace Kk
open PySem PySem.Spec PyProof.Rows L2 Lb
abbrev st_L_alike : Stmt := topS 16
abbrev N_L_alike : List Str := ["_law_found", "_law_due_here"]
abbrev P_L_alike : List Str := ["_law_found", "_law_due_here"]
theorem sc_L_alike : FnScope N_L_alike P_L_alike (defScope st_L_alike) := ⟨rfl, rfl, rfl, by decide +kernel, rfl, by decide +kernel, by decide +kernel⟩
abbrev st_L_whole : Stmt := topS 17
abbrev N_L_whole : List Str := ["_law_thing_here", "_law_low", "_law_high"]
abbrev P_L_whole : List Str := ["_law_thing_here", "_law_low", "_law_high"]
theorem sc_L_whole : FnScope N_L_whole P_L_whole (defScope st_L_whole) := ⟨rfl, rfl, rfl, by decide +kernel, rfl, by decide +kernel, by decide +kernel⟩
abbrev st_L_name : Stmt := topS 18
abbrev N_L_name : List Str := ["_law_thing_here", "_law_sign"]
abbrev P_L_name : List Str := ["_law_thing_here"]
theorem sc_L_name : FnScope N_L_name P_L_name (defScope st_L_name) := ⟨rfl, rfl, rfl, by decide +kernel, rfl, by decide +kernel, by decide +kernel⟩
abbrev st_L_stroke : Stmt := topS 19
abbrev N_L_stroke : List Str := ["_law_thing_here", "_law_at"]
abbrev P_L_stroke : List Str := ["_law_thing_here"]
theorem sc_L_stroke : FnScope N_L_stroke P_L_stroke (defScope st_L_stroke) := ⟨rfl, rfl, rfl, by decide +kernel, rfl, by decide +kernel, by decide +kernel⟩
def spAlike : Sp := fun vs H Q _ => ∃ (a c : Addr) (bs : List Bool), vs = [.ref a, .ref c] ∧ H a = some (.lst (bs.map V.bl)) ∧ H c = some (.lst (bs.map V.bl)) ∧ bs.length ≤ 90 ∧ ∀ H', Same H H' → Q (.bl true) H'
section
variable {P : Program} {w : World} {K : PySem.W.Frag} {mg : Str → Option Value} {base : Heap}
theorem ok_alike {f : Addr} {fd : FuncData} (F : Fun K "_law_alike" "_law_alike" st_L_alike f fd) (B : Blt mg) : FnG P w K mg base 1 f fd P_L_alike spAlike := by
  refine fnG_of F sc_L_alike (fun vs H Q E h => ?_) (fun cdv A outer s H vs Q E noG hr h => ?_)
  · obtain ⟨a, c, bs, rfl, _⟩ := h
    rfl
  · obtain ⟨a, c, bs, rfl, ha, hc, nl, q⟩ := h
    refine ⟨_, (pss_one (ps_ret (pe_and (pe_cmpR (op_eqD (hu64_of hr)) (pv 0) (pv 1) (nomark _)) (pe_one (pe_cmpR op_eq (pe_callB (call_repr noG hr) (by rfl) B.repr_ (by decide +kernel) (pa_cons (pv 0) pa_nil)) (pe_callB (call_repr noG hr) (by rfl) B.repr_ (by decide +kernel) (pa_cons (pv 1) pa_nil)) (nomark _)))))), ?_⟩
    have sh : Shows (.list (bs.map PyData.bool)) := shows_list (fun d hd => by
      obtain ⟨b, _, rfl⟩ := List.mem_map.mp hd
      exact part_bool b) (by rw [List.length_map]; exact nl)
    have da : Dat (a + 1) H (.list (bs.map PyData.bool)) (.ref a) := by
      simp only [Dat]
      exact ⟨a, _, rfl, (Nat.ne_of_lt (Nat.lt_succ_self a)), ha, dat_bools bs⟩
    have dc : Dat (c + 1) H (.list (bs.map PyData.bool)) (.ref c) := by
      simp only [Dat]
      exact ⟨c, _, rfl, (Nat.ne_of_lt (Nat.lt_succ_self c)), hc, dat_bools bs⟩
    refine ⟨.ref a, rfl, .ref c, rfl, _, _, .lst (SqL.of ha) (dp_bools bs), .lst (SqL.of hc) (dp_bools bs), shaped_bools bs, shaped_bools bs, _, rfl, ?_⟩
    have e : PyData.eqv (.list (bs.map PyData.bool)) (.list (bs.map PyData.bool)) = true := by simp only [PyData.eqv, eqv_bools]
    rw [e]
    refine iteT ⟨.ref a, rfl, _, _, _, rfl, da, sh, .ref c, rfl, _, _, _, rfl, dc, sh, rfl, ?_⟩
    rw [decide_eq_true rfl]
    exact q _ (Same.refl H)
theorem ok_Lwhole {f : Addr} {fd : FuncData} (F : Fun K "_law_whole" "_law_whole" st_L_whole f fd) (B : Blt mg) : FnOk P w K mg base CX0 1 f fd P_L_whole spW := by
  refine F.ok sc_L_whole (fun vs H Q E h => ?_) (fun cdv A outer s H vs Q E hr h => ?_)
  · obtain ⟨b, v, d, lo, hi, rfl, _⟩ := h
    rfl
  · obtain ⟨b, v, d, lo, hi, rfl, D, q⟩ := h
    refine ⟨_, (pss_one (ps_ret (pe_and (pe_callB call_isi (by rfl) B.isinstance_ (by decide +kernel) (pa_cons (pv 0) (pa_cons (pe_bltn (v := .ty "int") (by rfl) B.int (by decide +kernel) rfl) pa_nil))) (pe_and (pe_not (pe_callB call_isi (by rfl) B.isinstance_ (by decide +kernel) (pa_cons (pv 0) (pa_cons (pe_bltn (v := .ty "bool") (by rfl) B.bool_ (by decide +kernel) rfl) pa_nil)))) (pe_one (pe_chain op_le op_le (pv 1) (pv 0) (pv 2))))))), ?_⟩
    refine ⟨v, rfl, v, .ty "int", _, _, _, rfl, .ty _, ty_of D, kit_int d, _, rfl, ?_⟩
    have q' := q _ (Same.refl H)
    cases hw : isWhole d with
    | false =>
      have e : within lo hi d = false := by cases d <;> first | rfl | cases hw
      rw [e] at q'
      cases h1 : isInt d with
      | false => exact iteF q'
      | true =>
        have h2 : isBool d = true := by
          have z := whole_eq d
          rw [hw, h1] at z
          cases hb : isBool d with
          | true => rfl
          | false => rw [hb] at z; cases z
        refine iteT ⟨v, rfl, v, .ty "bool", _, _, _, rfl, .ty _, ty_of D, kit_bool d, _, rfl, _, rfl, ?_⟩
        rw [h2]
        exact iteF q'
    | true =>
      obtain ⟨i, rfl, rfl⟩ := dat_int D hw
      refine iteT ⟨.int i, rfl, .int i, .ty "bool", _, _, _, rfl, .ty _, ty_of D, kit_bool (.int i), _, rfl, _, rfl, iteT ?_⟩
      refine ⟨.int lo, rfl, .int i, rfl, lo, i, rfl, rfl, _, rfl, ?_⟩
      cases h1 : decide (lo ≤ i) with
      | false =>
        have e : within lo hi (.int i) = false := by simp only [within, h1, Bool.false_and]
        rw [e] at q'
        exact iteF q'
      | true =>
        have e : within lo hi (.int i) = decide (i ≤ hi) := by simp only [within, h1, Bool.true_and]
        rw [e] at q'
        exact iteT ⟨.int hi, rfl, i, hi, rfl, rfl, q'⟩
theorem filter_all (cs : List Nat) : PyData.eqv (.list ((cs.filter fun c => !signOk c).map fun c => PyData.str ⟨#[c]⟩)) (.list []) = cs.all signOk := by
  have h : ∀ l : List PyData, PyData.eqvAll l [] = l.isEmpty := fun l => by cases l <;> simp only [PyData.eqvAll, List.isEmpty_nil, List.isEmpty_cons]
  simp only [PyData.eqv, h]
  induction cs with
  | nil => rfl
  | cons c r ih =>
    rw [List.filter_cons, List.all_cons]
    cases hc : signOk c with
    | true => simpa using ih
    | false => simp
theorem ok_Lname {f : Addr} {fd : FuncData} (F : Fun K "_law_name" "_law_name" st_L_name f fd) (B : Blt mg) : FnOk P w K mg base CX0 1 f fd P_L_name (spD smallS isName) := by
  refine F.ok sc_L_name (fun vs H Q E h => ?_) (fun cdv A outer s H vs Q E hr h => ?_)
  · obtain ⟨b, v, d, rfl, _⟩ := h
    rfl
  · obtain ⟨b, v, d, rfl, D, sm, q⟩ := h
    refine ⟨_, (pss_cons (ps_if (pw_or (pt_not (pt_val (pe_callB call_isi (by rfl) B.isinstance_ (by decide +kernel) (pa_cons (pv 0) (pa_cons (pe_bltn (v := .ty "str") (by rfl) B.str_ (by decide +kernel) rfl) pa_nil))))) (pw_or (pt_cmpR op_lt (pe_callB call_len (by rfl) B.len (by decide +kernel) (pa_cons (pv 0) pa_nil)) pe_int (nomark _)) (pw_or1 (pt_cmpR op_gt (pe_callB call_len (by rfl) B.len (by decide +kernel) (pa_cons (pv 0) pa_nil)) pe_int (nomark _))))).pt (pss_one (ps_ret pe_bl)) pss_nil)
      (pss_one (ps_ret (pe_cmpR (op_eqD (hu64_of hr)) (pe_lc (own := [("_law_sign", 1)]) (g := gName 1) (tt := _) rfl sc_L_name.nd (pi_str (pv 0)) (blkOk_by (N := N_L_name) (sc := defScope st_L_name) (by decide +kernel)) (fun _ _ _ _ _ => pg_name (i := 1) sc_L_name.nd rfl (Or.inl rfl)) (fun _ _ _ _ _ => pts_one (pt_cmpR op_notIn_sign (pv 1) pe_str rfl)) (fun _ _ _ _ _ => (pv 1))) (pe_lst (pa_nil)) (nomark _))))), ?_⟩
    refine ⟨v, rfl, v, .ty "str", _, _, _, rfl, .ty _, ty_of D, kit_str d, _, rfl, ?_⟩
    have q0 := q _ (Same.refl H)
    cases hs : isStr d with
    | false =>
      have e : isName d = false := by cases d <;> first | rfl | cases hs
      rw [e] at q0
      exact iteT (iteT q0)
    | true =>
      obtain ⟨z, rfl, rfl⟩ := dat_str D hs
      have zl : z.length ≤ 1000 := sm.1
      refine iteF ⟨.str z, rfl, .str z, _, rfl, ⟨sz_ok (by omega), rfl⟩, _, 1, rfl, rfl, _, rfl, ?_⟩
      cases h1 : decide ((z.length : Int) < 1) with
      | true =>
        have e : isName (.str z) = false := by
          have := of_decide_eq_true h1
          have e1 : decide (1 ≤ z.length) = false := decide_eq_false (by omega)
          simp only [isName, nameS, e1, Bool.false_and]
        rw [e] at q0
        exact iteT (iteT q0)
      | false =>
        refine iteF ⟨.str z, rfl, .str z, _, rfl, ⟨sz_ok (by omega), rfl⟩, _, 8, rfl, rfl, _, rfl, ?_⟩
        cases h2 : decide ((8 : Int) < (z.length : Int)) with
        | true =>
          have e : isName (.str z) = false := by
            have := of_decide_eq_true h2
            have e1 : decide (z.length ≤ 8) = false := decide_eq_false (by omega)
            simp only [isName, nameS, e1, Bool.false_and, Bool.and_false]
          rw [e] at q0
          exact iteT q0
        | false =>
          have g1 := of_decide_eq_false h1
          have g2 := of_decide_eq_false h2
          have e : isName (.str z) = z.cps.toList.all signOk := by
            have e1 : decide (1 ≤ z.length) = true := decide_eq_true (by omega)
            have e2 : decide (z.length ≤ 8) = true := decide_eq_true (by omega)
            simp only [isName, nameS, e1, e2, Bool.true_and]
          have lz := len_str z
          refine iteF ⟨.str z, rfl, z, rfl, fun R hR => lc_text (x := z) (fun i H' => Mk H R (((z.cps.toList.take i).filter fun c => !signOk c).map fun c => V.str ⟨#[c]⟩) H') (Mk.start hR) ?_ ?_⟩
          · intro i c H' hc M'
            refine ⟨rfl, .str ⟨#[c]⟩, rfl, c, _, rfl, rfl, _, rfl, ?_⟩
            rw [letters_mem]
            have lt : (z.cps.toList.take (i + 1)).filter (fun c => !signOk c) = (z.cps.toList.take i).filter (fun c => !signOk c) ++ (if signOk c then [] else [c]) := by
              rw [List.take_add_one, hc, List.filter_append]
              cases hk : signOk c <;> simp [hk]
            rw [lt]
            cases hk : signOk c with
            | true => exact iteF (by simpa using M')
            | false =>
              refine iteT ⟨_, rfl, _, M'.at_, ?_, ?_⟩
              · rw [List.length_map]
                have h3 := List.length_filter_le (fun c => !signOk c) (z.cps.toList.take i)
                rw [List.length_take] at h3
                exact sz_lo (by omega)
              · rw [List.map_append]
                exact M'.next (Same.refl _)
          · intro H' M'
            rw [List.take_length] at M'
            refine ⟨by decide, fun p np => ?_⟩
            have M2 := M'.rest (same_new (o := .lst []) np)
            refine ⟨_, _, .lst (SqL.of M2.at_) (dp_signs _), .lst (SqL.of upd_same) .nil, shaped_signs (fun c hc => sm.2 c (List.mem_filter.mp hc).1), rfl, ?_⟩
            rw [filter_all, ← e]
            exact q _ M2.same
end
end Kk

set_option maxHeartbeats 2000000
namespace Kk
open PySem PySem.Spec PyProof.Rows L2 Lb
abbrev st_L_due : Stmt := topS 20
abbrev N_L_due : List Str := ["_law_thing_here", "_law_whole_here", "_law_found"]
abbrev P_L_due : List Str := ["_law_thing_here"]
theorem sc_L_due : FnScope N_L_due P_L_due (defScope st_L_due) := ⟨rfl, rfl, rfl, by decide +kernel, rfl, by decide +kernel, by decide +kernel⟩
abbrev st_L_asked : Stmt := topS 21
abbrev N_L_asked : List Str := ["_law_thing_here", "_law_found"]
abbrev P_L_asked : List Str := ["_law_thing_here"]
theorem sc_L_asked : FnScope N_L_asked P_L_asked (defScope st_L_asked) := ⟨rfl, rfl, rfl, by decide +kernel, rfl, by decide +kernel, by decide +kernel⟩
theorem texts_app (a b : List PyData) : textsOf (a ++ b) = textsOf a ++ textsOf b := List.filterMap_append
theorem texts_step {ds : List PyData} {i : Nat} {z : Str} (h : ds[i]? = some (.str z)) : textsOf (ds.take (i + 1)) = textsOf (ds.take i) ++ [z] := by
  rw [List.take_add_one, h, texts_app]
  rfl
theorem texts_twice {ds : List PyData} {i : Nat} {z : Str} (h : ds[i]? = some (.str z)) (m : z ∈ textsOf (ds.take i)) : ¬ (textsOf ds).Nodup := by
  intro nd
  have e : textsOf ds = textsOf (ds.take (i + 1)) ++ textsOf (ds.drop (i + 1)) := by rw [← texts_app, List.take_append_drop]
  rw [e, texts_step h] at nd
  have n2 := (List.nodup_append.mp nd).1
  exact (List.nodup_append.mp n2).2.2 z m z (List.mem_singleton.mpr rfl) rfl
theorem in_texts (z : Str) (ts : List Str) : inV (.str z) (ts.map V.str) = decide (z ∈ ts) := by
  unfold inV
  rw [List.any_map]
  induction ts with
  | nil => rfl
  | cons t r ih =>
    rw [List.any_cons, ih]
    show ((t == z) || decide (z ∈ r)) = decide (z ∈ t :: r)
    by_cases e : t = z
    · subst e
      simp
    · have e2 : (t == z) = false := by simpa using e
      have e3 : (z ∈ t :: r) ↔ z ∈ r := by
        rw [List.mem_cons]
        exact ⟨fun q => q.resolve_left fun k => e k.symm, .inr⟩
      rw [e2, Bool.false_or]
      exact decide_eq_decide.mpr e3.symm
section
variable {P : Program} {w : World} {K : PySem.W.Frag} {mg : Str → Option Value} {base : Heap}
theorem ok_Lstroke {f : Addr} {fd : FuncData} (F : Fun K "_law_stroke" "_law_stroke" st_L_stroke f fd) (B : Blt mg) (c_L_name : Cal P w K mg base 1 "_law_name" (spD smallS isName)) : FnOk P w K mg base CX0 2 f fd P_L_stroke (spD small isStroke) := by
  refine F.ok sc_L_stroke (fun vs H Q E h => ?_) (fun cdv A outer s H vs Q E hr h => ?_)
  · obtain ⟨b, v, d, rfl, _⟩ := h
    rfl
  · obtain ⟨b, v, d, rfl, D, sm, q⟩ := h
    refine ⟨_, (pss_cons (ps_if (pw_or (pt_not (pt_val (pe_callB call_isi (by rfl) B.isinstance_ (by decide +kernel) (pa_cons (pv 0) (pa_cons (pe_bltn (v := .ty "list") (by rfl) B.list_ (by decide +kernel) rfl) pa_nil))))) (pw_or1 (pt_cmpR op_gt (pe_callB call_len (by rfl) B.len (by decide +kernel) (pa_cons (pv 0) pa_nil)) pe_int (nomark _)))).pt (pss_one (ps_ret pe_bl)) pss_nil)
      (pss_cons (ps_for PassesOwn.never rfl (pi_range1 (by rfl) B.range_ (pa_cons (pe_callB call_len (by rfl) B.len (by decide +kernel) (pa_cons (pv 0) pa_nil)) pa_nil)) (pg_name (i := 1) sc_L_stroke.nd rfl (Or.inl rfl)) (pss_one (ps_if (pw_or (pt_not (pt_val (pe_n c_L_name hr (by decide) (by rfl) (pa_cons (pe_ix ix_list (pv 0) (pv 1) (fun _ _ => rfl)) pa_nil)))) (pw_or1 (pt_cmpR op_in_seq (pe_ix ix_list (pv 0) (pv 1) (fun _ _ => rfl)) (pe_slice sl_list (pv 0) po_none (po_some (pv 1))) rfl))).pt (pss_one (ps_ret pe_bl)) pss_nil)))
      (pss_one (ps_ret pe_bl)))), ?_⟩
    refine ⟨v, rfl, v, .ty "list", _, _, _, rfl, .ty _, ty_of D, kit_list d, _, rfl, ?_⟩
    have q0 := q _ (Same.refl H)
    cases hs : isList d with
    | false =>
      have e : isStroke d = false := by cases d <;> first | rfl | cases hs
      rw [e] at q0
      exact iteT (iteT q0)
    | true =>
      obtain ⟨ds, a, vs, rfl, rfl, na, ha, hd⟩ := dat_list D hs
      obtain ⟨sl, ss⟩ := (show ds.length ≤ 1000 ∧ ∀ d ∈ ds, smallS d from sm)
      have lv := hd.length
      refine iteF ⟨.ref a, rfl, .ref a, _, rfl, .inl ⟨_, SqL.of ha, rfl⟩, _, 40, rfl, rfl, _, rfl, ?_⟩
      cases h1 : decide ((40 : Int) < (vs.length : Int)) with
      | true =>
        have := of_decide_eq_true h1
        have e : isStroke (.list ds) = false := by
          have e1 : decide (ds.length ≤ 40) = false := decide_eq_false (by omega)
          simp only [isStroke, e1, Bool.false_and]
        rw [e] at q0
        exact iteT q0
      | false =>
        have g1 := of_decide_eq_false h1
        have e : isStroke (.list ds) = (ds.all isName && decide (textsOf ds).Nodup) := by
          have e1 : decide (ds.length ≤ 40) = true := decide_eq_true (by omega)
          simp only [isStroke, e1, Bool.true_and]
        refine iteF ⟨.ref a, rfl, .ref a, _, rfl, .inl ⟨_, SqL.of ha, rfl⟩, _, rfl, by omega, by omega, for_range (n := vs.length) (fun i σ H' => ∃ x1, σ = [some (.ref a), x1] ∧ Same H H' ∧ (ds.take i).all isName = true ∧ (textsOf (ds.take i)).Nodup)
          ⟨none, rfl, Same.refl H, rfl, List.nodup_nil⟩ ?_ ?_⟩
        · rintro i σ H' hi ⟨x1, rfl, s1, k1, k2⟩
          have hi2 : i < ds.length := by omega
          obtain ⟨x, hx⟩ : ∃ x, vs[i]? = some x := ⟨vs[i], List.getElem?_eq_getElem hi⟩
          obtain ⟨dx, hdx, Dx⟩ := hd.get hx
          have ei : (0 : Int) + (i : Int) = (i : Int) := by omega
          refine ⟨.ref a, rfl, _, rfl, a, vs, _, x, rfl, rfl, SqL.of (s1 _ _ ha), at_of (j := i) ei hx, b, x, dx, rfl, Dx.same s1, ss _ (List.mem_of_getElem? hdx), fun H2 s2 => ⟨_, rfl, ?_⟩⟩
          cases hn : isName dx with
          | false =>
            have q' := q _ (s1.trans s2)
            have e2 : ds.all isName = false := by
              cases ha2 : ds.all isName with
              | false => rfl
              | true =>
                have := List.all_eq_true.mp ha2 dx (List.mem_of_getElem? hdx)
                rw [hn] at this
                cases this
            rw [e, e2] at q'
            exact iteT (iteT q')
          | true =>
            obtain ⟨z, rfl, rfl⟩ := dat_str Dx (by cases dx <;> first | rfl | cases hn)
            have s3 := s1.trans s2
            refine iteF ⟨.ref a, rfl, _, rfl, a, vs, _, .str z, rfl, rfl, SqL.of (s3 _ _ ha), at_of (j := i) ei hx, .ref a, rfl, .int (0 + (i : Int)), rfl, _, rfl, a, vs, rfl, SqL.of (s3 _ _ ha), fun p np => ?_⟩
            rw [cut_to (by omega)]
            have ht : (0 + (i : Int)).toNat = i := by omega
            rw [ht]
            obtain ⟨tv, tl⟩ := texts_all (hd.tk i) k1
            have s4 := s3.trans (same_new (o := .lst (vs.take i)) np)
            refine ⟨p, (textsOf (ds.take i)).map V.str, rfl, .inl ?_, rfl, ?_, _, rfl, ?_⟩
            · rw [← tv]
              exact SqL.of upd_same
            · rw [List.all_map]
              exact List.all_eq_true.mpr fun _ _ => rfl
            · show if inV (.str z) ((textsOf (ds.take i)).map V.str) = true then _ else _
              rw [in_texts]
              refine ite2 (fun m => ?_) (fun m => ?_)
              · have m2 := of_decide_eq_true m
                have q' := q _ s4
                rw [e, decide_eq_false (texts_twice hdx m2), Bool.and_false] at q'
                exact q'
              · have m2 : z ∉ textsOf (ds.take i) := fun y => m (decide_eq_true y)
                refine ⟨_, rfl, s4, ?_, ?_⟩
                · rw [List.take_add_one, hdx, List.all_append, k1]
                  simp [hn]
                · rw [texts_step hdx]
                  refine List.nodup_append.mpr ⟨k2, List.nodup_cons.mpr ⟨(fun y => nomatch y), List.nodup_nil⟩, fun x hx y hy e => ?_⟩
                  rw [List.mem_singleton.mp hy] at e
                  exact m2 (e ▸ hx)
        · rintro σ H' ⟨x1, rfl, s1, k1, k2⟩
          rw [← lv, List.take_length] at k1 k2
          have q' := q _ s1
          rw [e, k1, decide_eq_true k2] at q'
          exact q'
def six (d : PyData) : List Bool := [isWhole d, isName d, within 1 (10 ^ 9) d, within 1 (10 ^ 18) d, within 0 (10 ^ 30) d, isStroke d]
def spSix : Sp := fun vs H Q _ => ∃ (b : Addr) (v : V) (d : PyData), vs = [v] ∧ Dat b H d v ∧ small d ∧ ∀ (H' : Hp) (p : Addr), Same H H' → H p = none → H' p = some (.lst ((six d).map V.bl)) → Q (.ref p) H'
theorem ok_asked {f : Addr} {fd : FuncData} (F : Fun K "_law_asked" "_law_asked" st_L_asked f fd) (c_is_whole : Cal P w K mg base 1 "is_whole" (spD (fun _ => True) isWhole)) (c_is_name : Cal P w K mg base 1 "is_name" (spD smallS isName))
    (c_is_length : Cal P w K mg base 3 "is_length" (spD (fun _ => True) (within 1 (10 ^ 9)))) (c_is_rest : Cal P w K mg base 3 "is_rest" (spD (fun _ => True) (within 1 (10 ^ 18)))) (c_are_beats : Cal P w K mg base 3 "are_beats" (spD (fun _ => True) (within 0 (10 ^ 30))))
    (c_is_stroke : Cal P w K mg base 2 "is_stroke" (spD small isStroke)) : FnOk P w K mg base CX0 4 f fd P_L_asked spSix := by
  refine F.ok sc_L_asked (fun vs H Q E h => ?_) (fun cdv A outer s H vs Q E hr h => ?_)
  · obtain ⟨b, v, d, rfl, _⟩ := h
    rfl
  · obtain ⟨b, v, d, rfl, D, sm, q⟩ := h
    refine ⟨_, (pss_cons (ps_set (i := 1) sc_L_asked.nd rfl (Or.inl rfl) (pe_lst (pa_cons (pe_n c_is_whole hr (by decide) (by rfl) (pa_cons (pv 0) pa_nil)) (pa_cons (pe_n c_is_name hr (by decide) (by rfl) (pa_cons (pv 0) pa_nil)) (pa_cons (pe_n c_is_length hr (by decide) (by rfl) (pa_cons (pv 0) pa_nil)) (pa_cons (pe_n c_is_rest hr (by decide) (by rfl) (pa_cons (pv 0) pa_nil)) pa_nil))))))
      (pss_one (ps_ret (pe_op op_cat (pv 1) (pe_lst (pa_cons (pe_n c_are_beats hr (by decide) (by rfl) (pa_cons (pv 0) pa_nil)) (pa_cons (pe_n c_is_stroke hr (by decide) (by rfl) (pa_cons (pv 0) pa_nil)) pa_nil))))))), ?_⟩
    refine ⟨v, rfl, b, v, d, rfl, D, trivial, fun H1 s1 => ?_⟩
    refine ⟨v, rfl, b, v, d, rfl, D.same s1, sm.s, fun H2 s2 => ?_⟩
    have t2 := s1.trans s2
    refine ⟨v, rfl, b, v, d, rfl, D.same t2, trivial, fun H3 s3 => ?_⟩
    have t3 := t2.trans s3
    refine ⟨v, rfl, b, v, d, rfl, D.same t3, trivial, fun H4 s4 => ⟨by show 4 ≤ sizeLine; decide, fun p np => ?_⟩⟩
    have t4 := (t3.trans s4).trans (same_new (o := .lst [.bl (isWhole d), .bl (isName d), .bl (within 1 (10 ^ 9) d), .bl (within 1 (10 ^ 18) d)]) np)
    refine ⟨_, rfl, v, rfl, b, v, d, rfl, D.same t4, trivial, fun H5 s5 => ?_⟩
    refine ⟨v, rfl, b, v, d, rfl, (D.same t4).same s5, sm, fun H6 s6 => ⟨by show 2 ≤ sizeLine; decide, fun c nc => ?_⟩⟩
    have t6 := t4.trans (s5.trans s6)
    have hp : H6 p = some (.lst [.bl (isWhole d), .bl (isName d), .bl (within 1 (10 ^ 9) d), .bl (within 1 (10 ^ 18) d)]) := s6 _ _ (s5 _ _ upd_same)
    refine ⟨p, c, _, _, rfl, rfl, (same_new nc) _ _ hp, upd_same, by show 4 + 2 ≤ sizeLine; decide, fun r nr => ?_⟩
    have t7 := t6.trans (same_new (o := .lst [.bl (within 0 (10 ^ 30) d), .bl (isStroke d)]) nc)
    exact q _ r (t7.trans (same_new nr)) (t7.free nr) upd_same
theorem ok_due {f : Addr} {fd : FuncData} (F : Fun K "_law_due" "_law_due" st_L_due f fd) (B : Blt mg) (c_L_name : Cal P w K mg base 1 "_law_name" (spD smallS isName)) (c_L_whole : Cal P w K mg base 1 "_law_whole" spW)
    (c_L_stroke : Cal P w K mg base 2 "_law_stroke" (spD small isStroke)) : FnOk P w K mg base CX0 3 f fd P_L_due spSix := by
  refine F.ok sc_L_due (fun vs H Q E h => ?_) (fun cdv A outer s H vs Q E hr h => ?_)
  · obtain ⟨b, v, d, rfl, _⟩ := h
    rfl
  · obtain ⟨b, v, d, rfl, D, sm, q⟩ := h
    refine ⟨_, (Evl.pss_cut (ps_set (i := 1) sc_L_due.nd rfl (Or.inl rfl) (pe_and (pe_callB call_isi (by rfl) B.isinstance_ (by decide +kernel) (pa_cons (pv 0) (pa_cons (pe_bltn (v := .ty "int") (by rfl) B.int (by decide +kernel) rfl) pa_nil))) (pe_one (pe_not (pe_callB call_isi (by rfl) B.isinstance_ (by decide +kernel) (pa_cons (pv 0) (pa_cons (pe_bltn (v := .ty "bool") (by rfl) B.bool_ (by decide +kernel) rfl) pa_nil)))))))
      (pss_cons (ps_set (i := 2) sc_L_due.nd rfl (Or.inl rfl) (pe_lst (pa_cons (pv 1) (pa_cons (pe_n c_L_name hr (by decide) (by rfl) (pa_cons (pv 0) pa_nil)) (pa_cons (pe_n c_L_whole hr (by decide) (by rfl) (pa_cons (pv 0) (pa_cons pe_int (pa_cons (pe_op op_pow pe_int pe_int) pa_nil)))) (pa_cons (pe_n c_L_whole hr (by decide) (by rfl) (pa_cons (pv 0) (pa_cons pe_int (pa_cons (pe_op op_pow pe_int pe_int) pa_nil)))) pa_nil))))))
      (pss_one (ps_ret (pe_op op_cat (pv 2) (pe_lst (pa_cons (pe_n c_L_whole hr (by decide) (by rfl) (pa_cons (pv 0) (pa_cons pe_int (pa_cons (pe_op op_pow pe_int pe_int) pa_nil)))) (pa_cons (pe_n c_L_stroke hr (by decide) (by rfl) (pa_cons (pv 0) pa_nil)) pa_nil)))))))), ?_⟩
    refine ⟨fun σ' H' => σ' = [some v, some (.bl (isWhole d)), none] ∧ H' = H, ?_, ?_⟩
    · refine ⟨v, rfl, v, .ty "int", _, _, _, rfl, .ty _, ty_of D, kit_int d, _, rfl, ?_⟩
      rw [whole_eq]
      cases hi : isInt d with
      | false => exact iteF ⟨rfl, rfl⟩
      | true => exact iteT ⟨v, rfl, v, .ty "bool", _, _, _, rfl, .ty _, ty_of D, kit_bool d, _, rfl, rfl, rfl⟩
    · rintro σ' H1 ⟨rfl, rfl⟩
      refine ⟨_, rfl, v, rfl, b, v, d, rfl, D, sm.s, fun H2 s2 => ?_⟩
      refine ⟨v, rfl, 10, 9, rfl, rfl, ⟨by decide, by decide, by decide⟩, b, v, d, 1, 10 ^ 9, rfl, D.same s2, fun H3 s3 => ?_⟩
      have t3 := s2.trans s3
      refine ⟨v, rfl, 10, 18, rfl, rfl, ⟨by decide, by decide, by decide⟩, b, v, d, 1, 10 ^ 18, rfl, D.same t3, fun H4 s4 => ⟨by show 4 ≤ sizeLine; decide, fun p np => ?_⟩⟩
      have t4 := (t3.trans s4).trans (same_new (o := .lst [.bl (isWhole d), .bl (isName d), .bl (within 1 (10 ^ 9) d), .bl (within 1 (10 ^ 18) d)]) np)
      refine ⟨_, rfl, v, rfl, 10, 30, rfl, rfl, ⟨by decide, by decide, by decide⟩, b, v, d, 0, 10 ^ 30, rfl, D.same t4, fun H5 s5 => ?_⟩
      refine ⟨v, rfl, b, v, d, rfl, (D.same t4).same s5, sm, fun H6 s6 => ⟨by show 2 ≤ sizeLine; decide, fun c nc => ?_⟩⟩
      have t6 := t4.trans (s5.trans s6)
      have hp : H6 p = some (.lst [.bl (isWhole d), .bl (isName d), .bl (within 1 (10 ^ 9) d), .bl (within 1 (10 ^ 18) d)]) := s6 _ _ (s5 _ _ upd_same)
      refine ⟨p, c, _, _, rfl, rfl, (same_new nc) _ _ hp, upd_same, by show 4 + 2 ≤ sizeLine; decide, fun r nr => ?_⟩
      have t7 := t6.trans (same_new (o := .lst [.bl (within 0 (10 ^ 30) d), .bl (isStroke d)]) nc)
      exact q _ r (t7.trans (same_new nr)) (t7.free nr) upd_same
end
end Kk

set_option maxHeartbeats 2000000
namespace Kk
open PySem PySem.Spec PyProof.Rows L2 Lb
abbrev st_L_word : Stmt := topS 22
abbrev N_L_word : List Str := ["_law_bag_here", "_law_letters", "_law_word_here", "_law_at", "_law_signs", "_law_sign", "_law_k"]
abbrev P_L_word : List Str := ["_law_bag_here"]
theorem sc_L_word : FnScope N_L_word P_L_word (defScope st_L_word) := ⟨rfl, rfl, rfl, by decide +kernel, rfl, by decide +kernel, by decide +kernel⟩
abbrev st_L_number : Stmt := topS 23
abbrev N_L_number : List Str := ["_law_bag_here", "_law_near"]
abbrev P_L_number : List Str := ["_law_bag_here"]
theorem sc_L_number : FnScope N_L_number P_L_number (defScope st_L_number) := ⟨rfl, rfl, rfl, by decide +kernel, rfl, by decide +kernel, by decide +kernel⟩
abbrev st_L_names : Stmt := topS 24
abbrev N_L_names : List Str := ["_law_bag_here", "_law_many", "_law_letters", "_law_first", "_law_k"]
abbrev P_L_names : List Str := ["_law_bag_here", "_law_many"]
theorem sc_L_names : FnScope N_L_names P_L_names (defScope st_L_names) := ⟨rfl, rfl, rfl, by decide +kernel, rfl, by decide +kernel, by decide +kernel⟩
def spWord : Sp := fun vs H Q _ => ∃ (b c : Addr), vs = [.ref b] ∧ Bag H b c ∧ ∀ (z : Str) (H' : Hp), textOk z → z.length ≤ 30 → Bag H' b c → Kp b H H' → Q (.str z) H'
def spNumber : Sp := fun vs H Q _ => ∃ (b c : Addr), vs = [.ref b] ∧ Bag H b c ∧ ∀ (i : Int) (H' : Hp), i.natAbs ≤ 10 ^ 41 → Bag H' b c → Kp b H H' → Q (.int i) H'
def spNames : Sp := fun vs H Q _ => ∃ (b c : Addr) (many : Int), vs = [.ref b, .int many] ∧ Bag H b c ∧ 0 ≤ many ∧ many ≤ 52 ∧
  ∀ (ws : List Str) (p : Addr) (H' : Hp), (∀ z ∈ ws, textOk z ∧ z.length ≤ 30) → (ws.length : Int) = many → p ≠ b → p ≠ c → H' p = some (.lst (ws.map V.str)) → Bag H' b c → Kp b H H' → Q (.ref p) H'
theorem lettersOk : textOk (Str.ofString "abcdefghijklmnopqrstuvwxyz") := ⟨by decide +kernel, by rw [letters_are]; exact fun c hc => by have := List.mem_range'_1.mp hc; omega⟩
section
variable {P : Program} {w : World} {K : PySem.W.Frag} {mg : Str → Option Value} {base : Heap}
theorem ok_number {f : Addr} {fd : FuncData} (F : Fun K "_law_number" "_law_number" st_L_number f fd) (c_L_take : Cal P w K mg base 1 "_law_take" spTake) : FnOk P w K mg base CX0 2 f fd P_L_number spNumber := by
  refine F.ok sc_L_number (fun vs H Q E h => ?_) (fun cdv A outer s H vs Q E hr h => ?_)
  · obtain ⟨b, c, rfl, _⟩ := h
    rfl
  · obtain ⟨b, c, rfl, G, q⟩ := h
    refine ⟨_, (pss_cons (ps_set (i := 1) sc_L_number.nd rfl (Or.inl rfl) (pe_op op_sub (pe_n c_L_take hr (by decide) (by rfl) (pa_cons (pv 0) (pa_cons pe_int pa_nil))) pe_int))
      (pss_one (ps_ret (pe_op op_add (pe_ix ix_list (pe_lst (pa_cons pe_int (pa_cons pe_int (pa_cons (pe_op op_pow pe_int pe_int) (pa_cons (pe_op op_pow pe_int pe_int) (pa_cons (pe_op op_pow pe_int pe_int) (pa_cons (pe_un un_neg (pe_op op_pow pe_int pe_int)) (pa_cons (pe_op op_pow pe_int pe_int) pa_nil)))))))) (pe_n c_L_take hr (by decide) (by rfl) (pa_cons (pv 0) (pa_cons pe_int pa_nil))) (fun _ _ => rfl)) (pv 1))))), ?_⟩
    refine ⟨.ref b, rfl, b, c, 5, rfl, G, by decide, by decide, fun v H1 v0 v1 G1 k1 => ⟨v, 2, rfl, rfl, ?_⟩⟩
    refine ⟨10, 9, rfl, rfl, ⟨by decide, by decide, by decide⟩, 10, 18, rfl, rfl, ⟨by decide, by decide, by decide⟩, 10, 30, rfl, rfl, ⟨by decide, by decide, by decide⟩, 10, 9, rfl, rfl, ⟨by decide, by decide, by decide⟩, _, rfl, 10, 40, rfl, rfl, ⟨by decide, by decide, by decide⟩, by show 7 ≤ sizeLine; decide, fun p np => ?_⟩
    have G2 := G1.new (o := .lst [.int 0, .int 1, .int (10 ^ 9), .int (10 ^ 18), .int (10 ^ 30), .int (-(10 ^ 9)), .int (10 ^ 40)]) np
    refine ⟨.ref b, rfl, b, c, 7, rfl, G2, by decide, by decide, fun u H2 u0 u1 G3 k3 => ?_⟩
    have pb := G1.ne_new np
    have hp : H2 p = some (.lst [.int 0, .int 1, .int (10 ^ 9), .int (10 ^ 18), .int (10 ^ 30), .int (-(10 ^ 9)), .int (10 ^ 40)]) := by
      rw [k3 p pb]
      exact upd_same
    obtain ⟨x, hx, ax⟩ := item_at (xs := [.int 0, .int 1, .int (10 ^ 9), .int (10 ^ 18), .int (10 ^ 30), .int (-(10 ^ 9)), .int (10 ^ 40)]) u0 u1
    obtain ⟨i, rfl, hi⟩ : ∃ i : Int, x = .int i ∧ i.natAbs ≤ 10 ^ 40 := by
      have m := List.mem_of_getElem? hx
      simp only [List.mem_cons, List.not_mem_nil, or_false] at m
      rcases m with rfl | rfl | rfl | rfl | rfl | rfl | rfl <;> exact ⟨_, rfl, by decide⟩
    refine ⟨p, _, u, .int i, rfl, rfl, SqL.of hp, ax, _, rfl, i, _, rfl, rfl, ?_⟩
    refine q _ _ ?_ G3 ((kp_of k1).trans ((Kp.new np).trans (kp_of k3)))
    have : (10 : Nat) ^ 41 = 10 * 10 ^ 40 := by decide
    omega
theorem ok_names {f : Addr} {fd : FuncData} (F : Fun K "_law_names" "_law_names" st_L_names f fd) (B : Blt mg) (c_L_take : Cal P w K mg base 1 "_law_take" spTake) : FnOk P w K mg base CX0 2 f fd P_L_names spNames := by
  refine F.ok sc_L_names (fun vs H Q E h => ?_) (fun cdv A outer s H vs Q E hr h => ?_)
  · obtain ⟨b, c, many, rfl, _⟩ := h
    rfl
  · obtain ⟨b, c, many, rfl, G, m0, m1, q⟩ := h
    refine ⟨_, (pss_cons (ps_set (i := 2) sc_L_names.nd rfl (Or.inr rfl) pe_str)
      (pss_cons (ps_set (i := 3) sc_L_names.nd rfl (Or.inr rfl) (pe_n c_L_take hr (by decide) (by rfl) (pa_cons (pv 0) (pa_cons pe_int pa_nil))))
      (pss_one (ps_ret (pe_lc (own := [("_law_k", 4)]) (g := gName 4) (tt := tYes) rfl sc_L_names.nd (pi_range1 (by rfl) B.range_ (pa_cons (pv 1) pa_nil)) (blkOk_by (N := N_L_names) (sc := defScope st_L_names) (by decide +kernel)) (fun _ _ _ _ _ => pg_name (i := 4) sc_L_names.nd rfl (Or.inl rfl)) (fun _ _ _ _ _ => pts_nil) (fun _ _ _ _ _ => (pe_op op_add_str (pe_ix ix_str (pv 2) (pe_op op_mod (pe_op op_add (pv 3) (pv 4)) pe_int) (fun _ _ => rfl)) (pe_slice sl_str pe_str po_none (po_some (pe_op op_fdivW (pv 4) pe_int)))))))))), ?_⟩
    refine ⟨.ref b, rfl, b, c, 26, rfl, G, by decide, by decide, fun v H1 v0 v1 G1 k1 => ?_⟩
    refine ⟨_, rfl, many, rfl, by omega, by omega, fun D hD => lc_range (lo := 0) (n := many.toNat) (fun i H' => ∃ ws : List Str, (∀ z ∈ ws, textOk z ∧ z.length ≤ 30) ∧ ws.length = i ∧ Mk H1 D (ws.map V.str) H') ⟨[], (fun _ z => nomatch z), rfl, Mk.start hD⟩ ?_ ?_⟩
    · rintro i H' hi ⟨ws, w1, w2, M⟩
      have i2 : (i : Int) < 52 := by omega
      refine ⟨rfl, _, rfl, _, rfl, _, rfl, v, _, rfl, rfl, _, 26, rfl, rfl, by show (0 : Int) < 26; decide, ?_⟩
      have r0 : 0 ≤ (v + (0 + (i : Int))) % 26 := Int.emod_nonneg _ (by decide)
      have r1 : (v + (0 + (i : Int))) % 26 < 26 := Int.emod_lt_of_pos _ (by decide)
      obtain ⟨x, hx, _, xt, xl⟩ := sign_at lettersOk r0 (by
        have e : (Str.ofString "abcdefghijklmnopqrstuvwxyz").length = 26 := by decide +kernel
        rw [e]
        exact r1)
      refine ⟨_, _, x, rfl, rfl, sz_ok (by decide +kernel), hx, _, rfl, _, 26, rfl, rfl, ⟨by decide, by decide⟩, _, rfl, ?_⟩
      have d0 : 0 ≤ (0 + (i : Int)) / 26 := Int.ediv_nonneg (by omega) (by decide)
      have abOk : textOk (Str.ofString "ab") := ⟨by decide +kernel, by decide +kernel⟩
      have abLen : (Str.ofString "ab").length = 2 := by decide +kernel
      obtain ⟨t1, t2⟩ := textOk_to d0 abOk
      refine ⟨_, rfl, sz_ok (by rw [abLen]; decide), _, _, rfl, rfl, sz_ok (by omega), _, M.at_, sz_lo (by rw [List.length_map]; omega), ?_⟩
      refine ⟨ws ++ [(⟨#[x]⟩ : Str) ++ cutS (Str.ofString "ab") none (some ((0 + (i : Int)) / 26))], ?_, by rw [List.length_append, w2]; rfl, ?_⟩
      · intro z hz
        rcases List.mem_append.mp hz with hz | hz
        · exact w1 z hz
        · rw [List.mem_singleton.mp hz]
          exact ⟨textOk_app xt t1 (by omega), by rw [strLen_append]; omega⟩
      · rw [List.map_append]
        exact M.next (Same.refl _)
    · rintro H' ⟨ws, w1, w2, M⟩
      exact q ws D H' w1 (by omega) (G1.ne_new hD) (G1.nc_new hD) M.at_ (G1.same M.same) ((kp_of k1).trans (.of_same M.same))
theorem ok_word {f : Addr} {fd : FuncData} (F : Fun K "_law_word" "_law_word" st_L_word f fd) (B : Blt mg) (c_L_take : Cal P w K mg base 1 "_law_take" spTake) : FnOk P w K mg base CX0 2 f fd P_L_word spWord := by
  refine F.ok sc_L_word (fun vs H Q E h => ?_) (fun cdv A outer s H vs Q E hr h => ?_)
  · obtain ⟨b, c, rfl, _⟩ := h
    rfl
  · obtain ⟨b, c, rfl, G, q⟩ := h
    refine ⟨_, (pss_cons (ps_set (i := 1) sc_L_word.nd rfl (Or.inr rfl) pe_str)
      (pss_cons (ps_set (i := 2) sc_L_word.nd rfl (Or.inl rfl) (pe_join pe_str (pe_lc (own := [("_law_k", 6)]) (g := gName 6) (tt := tYes) rfl sc_L_word.nd (pi_range1 (by rfl) B.range_ (pa_cons (pe_n c_L_take hr (by decide) (by rfl) (pa_cons (pv 0) (pa_cons pe_int pa_nil))) pa_nil)) (blkOk_by (N := N_L_word) (sc := defScope st_L_word) (by decide +kernel)) (fun _ _ _ _ _ => pg_name (i := 6) sc_L_word.nd rfl (Or.inl rfl)) (fun _ _ _ _ _ => pts_nil) (fun _ _ _ _ _ => (pe_ix ix_str (pv 1) (pe_n c_L_take hr (by decide) (by rfl) (pa_cons (pv 0) (pa_cons pe_int pa_nil))) (fun _ _ => rfl))))))
      (pss_cons (ps_set (i := 3) sc_L_word.nd rfl (Or.inl rfl) (pe_n c_L_take hr (by decide) (by rfl) (pa_cons (pv 0) (pa_cons (pe_op op_add (pe_callB call_len (by rfl) B.len (by decide +kernel) (pa_cons (pv 2) pa_nil)) pe_int) pa_nil))))
      (pss_cons (ps_set (i := 4) sc_L_word.nd rfl (Or.inl rfl) pe_str)
      (pss_cons (ps_set (i := 5) sc_L_word.nd rfl (Or.inl rfl) (pe_ix ix_str (pv 4) (pe_n c_L_take hr (by decide) (by rfl) (pa_cons (pv 0) (pa_cons (pe_callB call_len (by rfl) B.len (by decide +kernel) (pa_cons (pv 4) pa_nil)) pa_nil))) (fun _ _ => rfl)))
      (pss_cons (ps_if (pt_cmpR op_eq (pe_n c_L_take hr (by decide) (by rfl) (pa_cons (pv 0) (pa_cons pe_int pa_nil))) pe_int (nomark _)) (pss_one (ps_ret (pe_op op_add_str (pe_op op_add_str (pe_slice sl_str (pv 2) po_none (po_some (pv 3))) (pv 5)) (pe_slice sl_str (pv 2) (po_some (pe_op op_add (pv 3) pe_int)) po_none)))) pss_nil)
      (pss_one (ps_ret (pv 2))))))))), ?_⟩
    refine ⟨⟨_, rfl⟩, .ref b, rfl, b, c, 10, rfl, G, by decide, by decide, fun n H1 n0 n1 G1 k1 => ⟨n, rfl, by omega, by omega, fun D hD =>
      lc_range (lo := 0) (n := n.toNat) (fun i H' => ∃ cs : List Nat, (∀ c ∈ cs, c < 1114112) ∧ cs.length = i ∧ H' D = some (.lst (cs.map fun c => V.str ⟨#[c]⟩)) ∧ Bag H' b c ∧ Kp b H1 H') ⟨[], (fun _ z => nomatch z), rfl, upd_same, G1.new hD, Kp.new hD⟩ ?_ ?_⟩⟩
    · rintro i H' hi ⟨cs, w1, w2, aD, G2, k2⟩
      have Db := G1.ne_new hD
      have Dc := G1.nc_new hD
      refine ⟨rfl, _, rfl, .ref b, rfl, b, c, 26, rfl, G2, by decide, by decide, fun v H2 v0 v1 G3 k3 => ?_⟩
      obtain ⟨x, hx, xm, xt, xl⟩ := sign_at lettersOk v0 (by
        have e : (Str.ofString "abcdefghijklmnopqrstuvwxyz").length = 26 := by decide +kernel
        rw [e]
        exact v1)
      refine ⟨_, v, x, rfl, rfl, sz_ok (by decide +kernel), hx, _, ((k3 D Db).trans aD), sz_lo (by rw [List.length_map]; omega), cs ++ [x], ?_, by rw [List.length_append, w2]; rfl, ?_, G3.other Db Dc, fun a o na e => ?_⟩
      · intro y hy
        rcases List.mem_append.mp hy with hy | hy
        · exact w1 y hy
        · rw [List.mem_singleton.mp hy]
          exact lettersOk.2 x xm
      · rw [List.map_append]
        exact upd_same
      · rw [upd_ne (ne_of_none e hD), k3 a na]
        exact k2 a o na e
    · rintro H2 ⟨cs, w1, w2, aD, G2, k2⟩
      have ne : ∀ y : Nat, y < 1000 → y ≤ 16777216 := fun y hy => by omega
      refine ⟨_, D, cs.map fun c => (⟨#[c]⟩ : Str), rfl, rfl, .inl (SqL.of ?_), ?_, ?_⟩
      · rw [List.map_map]
        exact aD
      · have e1 : ∀ l : List Nat, ((l.map fun c => (⟨#[c]⟩ : Str)).map (·.length)).sum = l.length := fun l => by
          induction l with
          | nil => rfl
          | cons c r ih =>
            rw [List.map_cons, List.map_cons, List.sum_cons, ih, List.length_cons]
            show 1 + r.length = r.length + 1
            omega
        have e2 : (Str.ofString "").length = 0 := by decide +kernel
        rw [e1, e2]
        omega
      · have ej := join_signs cs
        have wk : textOk (Txt.join (Str.ofString "") (cs.map fun c => (⟨#[c]⟩ : Str))) := textOk_of (n := 9) (by rw [ej]; omega) (by decide) (by rw [ej]; exact w1)
        have wl : (Txt.join (Str.ofString "") (cs.map fun c => (⟨#[c]⟩ : Str))).length ≤ 9 := by rw [Lb.len_str, ej]; omega
        generalize Txt.join (Str.ofString "") (cs.map fun c => (⟨#[c]⟩ : Str)) = z at wk wl
        have kk := (kp_of k1).trans k2
        -- _law_at
        refine ⟨.ref b, rfl, .str z, rfl, .str z, _, rfl, ⟨sz_ok (by omega), rfl⟩, _, 1, rfl, rfl, b, c, _, rfl, G2, by omega, by omega, fun t H3 t0 t1 G3 k3 => ?_⟩
        -- _law_sign
        refine ⟨.str _, rfl, .ref b, rfl, .str _, rfl, .str _, _, rfl, ⟨sz_ok (by decide +kernel), rfl⟩, b, c, _, rfl, G3, by decide +kernel, by decide +kernel, fun u H4 u0 u1 G4 k4 => ?_⟩
        obtain ⟨y, hy, ym, yt, yl⟩ := sign_at (z := Str.ofString _) ⟨by decide +kernel, by decide +kernel⟩ u0 u1
        refine ⟨_, u, y, rfl, rfl, sz_ok (by decide +kernel), hy, ?_⟩
        have k5 := kk.trans ((kp_of k3).trans (kp_of k4))
        refine ⟨.ref b, rfl, b, c, 4, rfl, G4, by decide, by decide, fun x H5 x0 x1 G5 k6 => ⟨rfl, _, rfl, ite2 (fun _ => ?_) (fun _ => ?_)⟩⟩
        · obtain ⟨a1, a2⟩ := textOk_to t0 wk
          obtain ⟨b1, b2⟩ := textOk_from (k := t + 1) (by omega) wk
          refine ⟨.str z, rfl, .int t, rfl, t, rfl, z, rfl, sz_ok (by omega), .str ⟨#[y]⟩, rfl, _, _, rfl, rfl, sz_ok (by omega), .str z, rfl, .int t, rfl, t, 1, rfl, rfl, _, rfl, z, rfl, sz_ok (by omega), _, _, rfl, rfl, sz_ok (by rw [strLen_append]; omega), ?_⟩
          refine q _ _ (textOk_app (textOk_app a1 yt (by omega)) b1 (by rw [strLen_append]; omega)) (by rw [strLen_append, strLen_append]; omega) G5 (k5.trans (kp_of k6))
        · exact ⟨.str z, rfl, q z _ wk (by omega) G5 (k5.trans (kp_of k6))⟩
end
end Kk

set_option maxHeartbeats 4000000
namespace Kk
open PySem PySem.Spec PyProof.Rows L2 Lb
abbrev st_L_odd : Stmt := topS 25
abbrev N_L_odd : List Str := ["_law_bag_here", "_law_some"]
abbrev P_L_odd : List Str := ["_law_bag_here"]
theorem sc_L_odd : FnScope N_L_odd P_L_odd (defScope st_L_odd) := ⟨rfl, rfl, rfl, by decide +kernel, rfl, by decide +kernel, by decide +kernel⟩
section
variable {b : Addr} {H : Hp}
theorem dats_nil : Dats b H [] [] := by simp only [Dats]
theorem dats_cons {d : PyData} {v : V} {ds : List PyData} {vs : List V} (h : Dat b H d v) (k : Dats b H ds vs) : Dats b H (d :: ds) (v :: vs) := by
  simp only [Dats]
  exact ⟨v, vs, rfl, h, k⟩
theorem dat_none : Dat b H .none .non := by simp only [Dat]
theorem dat_bool (x : Bool) : Dat b H (.bool x) (.bl x) := by simp only [Dat]
theorem dat_num (x : Int) : Dat b H (.int x) (.int x) := by simp only [Dat]
theorem dat_text (x : Str) : Dat b H (.str x) (.str x) := by simp only [Dat]
theorem dat_lst {a : Addr} {vs : List V} {ds : List PyData} (n : a ≠ b) (e : H a = some (.lst vs)) (k : Dats b H ds vs) : Dat b H (.list ds) (.ref a) := by
  simp only [Dat]
  exact ⟨a, vs, rfl, n, e, k⟩
theorem dat_tup {a : Addr} {vs : List V} {ds : List PyData} (n : a ≠ b) (e : H a = some (.tup vs)) (k : Dats b H ds vs) : Dat b H (.tuple ds) (.ref a) := by
  simp only [Dat]
  exact ⟨a, vs, rfl, n, e, k⟩
theorem dat_dict {a : Addr} {es : List (Key × V)} {kvs : List (PyData × PyData)} (n : a ≠ b) (e : H a = some (.dK es)) (h : kvs = es.map (fun e => (keyD e.1, sD e.2))) (k : es.all (fun e => isSc e.2) = true) : Dat b H (.dict kvs) (.ref a) := by
  simp only [Dat]
  exact ⟨a, es, rfl, n, e, h, k⟩
end
def ab : PyData := .str (Str.ofString "ab")
def odds : List PyData := [.none, .bool true, .bool false, .str (Str.ofString ""), .str (Str.ofString "5"), .tuple [], .list [], .dict [], .tuple [ab], .list [.list [ab]], .list [.none], .list [.int 1], .list [ab, .int 5], .str (Str.ofString "ab cd"), .list [.tuple []], .dict [(ab, .int 1)]]
instance (z : Str) : Decidable (textOk z) := by unfold textOk; infer_instance
instance (d : PyData) : Decidable (smallS d) := by cases d <;> (unfold smallS; infer_instance)
instance (d : PyData) : Decidable (small d) := by cases d <;> (unfold small; infer_instance)
def oddOk (d : PyData) : Bool := itemOk d && d.showable && decide (d.depth ≤ 10) && decide (d.shown.length ≤ 10000) && topOk d && decide (small d)
theorem odds_all : odds.all oddOk = true := by decide +kernel
theorem odds_ok (d : PyData) (h : d ∈ odds) : Part d ∧ Shows d ∧ small d := by
  have q := List.all_eq_true.mp odds_all d h
  simp only [oddOk, Bool.and_eq_true, decide_eq_true_eq] at q
  obtain ⟨⟨⟨⟨⟨h1, h2⟩, h3⟩, h4⟩, h5⟩, h6⟩ := q
  have p : Part d := ⟨h1, h2, h3, h4⟩
  exact ⟨p, p.shows h5, h6⟩
def spOdd : Sp := fun vs H Q _ => ∃ (b c : Addr), vs = [.ref b] ∧ Bag H b c ∧ ∀ (v : V) (d : PyData) (H' : Hp), Dat b H' d v → Part d → Shows d → small d → Bag H' b c → Kp b H H' → Q v H'
section
variable {P : Program} {w : World} {K : PySem.W.Frag} {mg : Str → Option Value} {base : Heap}
theorem ok_odd {f : Addr} {fd : FuncData} (F : Fun K "_law_odd" "_law_odd" st_L_odd f fd) (c_L_take : Cal P w K mg base 1 "_law_take" spTake) : FnOk P w K mg base CX0 2 f fd P_L_odd spOdd := by
  refine F.ok sc_L_odd (fun vs H Q E h => ?_) (fun cdv A outer s H vs Q E hr h => ?_)
  · obtain ⟨b, c, rfl, _⟩ := h
    rfl
  · obtain ⟨b, c, rfl, G, q⟩ := h
    refine ⟨_, (pss_cons (ps_set (i := 1) sc_L_odd.nd rfl (Or.inl rfl) (pe_lst (pa_cons pe_non (pa_cons pe_bl (pa_cons pe_bl (pa_cons pe_str (pa_cons pe_str (pa_cons (pe_tup (pa_nil)) (pa_cons (pe_lst (pa_nil)) (pa_cons pe_dnewK (pa_cons (pe_tup (pa_cons pe_str pa_nil)) (pa_cons (pe_lst (pa_cons (pe_lst (pa_cons pe_str pa_nil)) pa_nil)) (pa_cons (pe_lst (pa_cons pe_non pa_nil)) (pa_cons (pe_lst (pa_cons pe_int pa_nil)) (pa_cons (pe_lst (pa_cons pe_str (pa_cons pe_int pa_nil))) (pa_cons pe_str (pa_cons (pe_lst (pa_cons (pe_tup (pa_nil)) pa_nil)) pa_nil)))))))))))))))))
      (pss_one (ps_ret (pe_ix ix_list (pe_op op_cat (pv 1) (pe_lst (pa_cons (pe_disp (pps_cons pe_str pe_int pps_nil) rfl rfl (by simp) (by decide)) pa_nil))) (pe_n c_L_take hr (by decide) (by rfl) (pa_cons (pv 0) (pa_cons pe_int pa_nil))) (fun _ _ => rfl))))), ?_⟩
    refine ⟨by show 0 ≤ sizeLine; decide, fun p5 n_p5 => ?_⟩
    have s_p5 := same_new (o := .tup []) n_p5
    have b_p5 := G.ne_new n_p5
    have G_p5 := G.new (o := .tup []) n_p5
    refine ⟨by show 0 ≤ sizeLine; decide, fun p6 n_p6 => ?_⟩
    have s_p6 := same_new (o := .lst []) n_p6
    have b_p6 := G_p5.ne_new n_p6
    have G_p6 := G_p5.new (o := .lst []) n_p6
    intro p7 n_p7
    have s_p7 := same_new (o := .dK []) n_p7
    have b_p7 := G_p6.ne_new n_p7
    have G_p7 := G_p6.new (o := .dK []) n_p7
    refine ⟨by show 1 ≤ sizeLine; decide, fun p8 n_p8 => ?_⟩
    have s_p8 := same_new (o := .tup [.str (Str.ofString "ab")]) n_p8
    have b_p8 := G_p7.ne_new n_p8
    have G_p8 := G_p7.new (o := .tup [.str (Str.ofString "ab")]) n_p8
    refine ⟨by show 1 ≤ sizeLine; decide, fun q9 n_q9 => ?_⟩
    have s_q9 := same_new (o := .lst [.str (Str.ofString "ab")]) n_q9
    have b_q9 := G_p8.ne_new n_q9
    have G_q9 := G_p8.new (o := .lst [.str (Str.ofString "ab")]) n_q9
    refine ⟨by show 1 ≤ sizeLine; decide, fun p9 n_p9 => ?_⟩
    have s_p9 := same_new (o := .lst [.ref q9]) n_p9
    have b_p9 := G_q9.ne_new n_p9
    have G_p9 := G_q9.new (o := .lst [.ref q9]) n_p9
    refine ⟨by show 1 ≤ sizeLine; decide, fun p10 n_p10 => ?_⟩
    have s_p10 := same_new (o := .lst [.non]) n_p10
    have b_p10 := G_p9.ne_new n_p10
    have G_p10 := G_p9.new (o := .lst [.non]) n_p10
    refine ⟨by show 1 ≤ sizeLine; decide, fun p11 n_p11 => ?_⟩
    have s_p11 := same_new (o := .lst [.int 1]) n_p11
    have b_p11 := G_p10.ne_new n_p11
    have G_p11 := G_p10.new (o := .lst [.int 1]) n_p11
    refine ⟨by show 2 ≤ sizeLine; decide, fun p12 n_p12 => ?_⟩
    have s_p12 := same_new (o := .lst [.str (Str.ofString "ab"), .int 5]) n_p12
    have b_p12 := G_p11.ne_new n_p12
    have G_p12 := G_p11.new (o := .lst [.str (Str.ofString "ab"), .int 5]) n_p12
    refine ⟨by show 0 ≤ sizeLine; decide, fun q14 n_q14 => ?_⟩
    have s_q14 := same_new (o := .tup []) n_q14
    have b_q14 := G_p12.ne_new n_q14
    have G_q14 := G_p12.new (o := .tup []) n_q14
    refine ⟨by show 1 ≤ sizeLine; decide, fun p14 n_p14 => ?_⟩
    have s_p14 := same_new (o := .lst [.ref q14]) n_p14
    have b_p14 := G_q14.ne_new n_p14
    have G_p14 := G_q14.new (o := .lst [.ref q14]) n_p14
    refine ⟨by show 15 ≤ sizeLine; decide, fun lL n_lL => ?_⟩
    have s_lL := same_new (o := .lst [.non, .bl true, .bl false, .str (Str.ofString ""), .str (Str.ofString "5"), .ref p5, .ref p6, .ref p7, .ref p8, .ref p9, .ref p10, .ref p11, .ref p12, .str (Str.ofString "ab cd"), .ref p14]) n_lL
    have b_lL := G_p14.ne_new n_lL
    have G_lL := G_p14.new (o := .lst [.non, .bl true, .bl false, .str (Str.ofString ""), .str (Str.ofString "5"), .ref p5, .ref p6, .ref p7, .ref p8, .ref p9, .ref p10, .ref p11, .ref p12, .str (Str.ofString "ab cd"), .ref p14]) n_lL
    refine ⟨.ref lL, rfl, fun dd n_dd => ⟨upd_same, [(Sum.inr (Str.ofString "ab"), .int 1)], rfl, by decide, ?_⟩⟩
    rw [upd_upd]
    have s_dd := same_new (o := .dK (mergeK [] [(Sum.inr (Str.ofString "ab"), .int 1)])) n_dd
    have b_dd := G_lL.ne_new n_dd
    have G_dd := G_lL.new (o := .dK (mergeK [] [(Sum.inr (Str.ofString "ab"), .int 1)])) n_dd
    refine ⟨by show 1 ≤ sizeLine; decide, fun l2 n_l2 => ?_⟩
    have s_l2 := same_new (o := .lst [.ref dd]) n_l2
    have b_l2 := G_dd.ne_new n_l2
    have G_l2 := G_dd.new (o := .lst [.ref dd]) n_l2
    refine ⟨lL, l2, _, _, rfl, rfl, s_l2 _ _ (s_dd _ _ (upd_same)), upd_same, by show 15 + 1 ≤ sizeLine; decide, fun r n_r => ?_⟩
    have s_r := same_new (o := .lst [.non, .bl true, .bl false, .str (Str.ofString ""), .str (Str.ofString "5"), .ref p5, .ref p6, .ref p7, .ref p8, .ref p9, .ref p10, .ref p11, .ref p12, .str (Str.ofString "ab cd"), .ref p14, .ref dd]) n_r
    have b_r := G_l2.ne_new n_r
    have G_r := G_l2.new (o := .lst [.non, .bl true, .bl false, .str (Str.ofString ""), .str (Str.ofString "5"), .ref p5, .ref p6, .ref p7, .ref p8, .ref p9, .ref p10, .ref p11, .ref p12, .str (Str.ofString "ab cd"), .ref p14, .ref dd]) n_r
    refine ⟨.ref b, rfl, b, c, 16, rfl, G_r, by decide, by decide, fun u H2 u0 u1 G2 k2 => ?_⟩
    have sAll := (((((((((((((s_p5.trans s_p6).trans s_p7).trans s_p8).trans s_q9).trans s_p9).trans s_p10).trans s_p11).trans s_p12).trans s_q14).trans s_p14).trans s_lL).trans s_dd).trans s_l2).trans s_r
    have ds : Dats b H2 odds [.non, .bl true, .bl false, .str (Str.ofString ""), .str (Str.ofString "5"), .ref p5, .ref p6, .ref p7, .ref p8, .ref p9, .ref p10, .ref p11, .ref p12, .str (Str.ofString "ab cd"), .ref p14, .ref dd] := by
      refine Dats.mono (kp_of k2) ?_
      refine dats_cons dat_none (dats_cons (dat_bool _) (dats_cons (dat_bool _) (dats_cons (dat_text _) (dats_cons (dat_text _) ?_))))
      refine dats_cons (dat_tup b_p5 (s_r _ _ (s_l2 _ _ (s_dd _ _ (s_lL _ _ (s_p14 _ _ (s_q14 _ _ (s_p12 _ _ (s_p11 _ _ (s_p10 _ _ (s_p9 _ _ (s_q9 _ _ (s_p8 _ _ (s_p7 _ _ (s_p6 _ _ (upd_same))))))))))))))) dats_nil) ?_
      refine dats_cons (dat_lst b_p6 (s_r _ _ (s_l2 _ _ (s_dd _ _ (s_lL _ _ (s_p14 _ _ (s_q14 _ _ (s_p12 _ _ (s_p11 _ _ (s_p10 _ _ (s_p9 _ _ (s_q9 _ _ (s_p8 _ _ (s_p7 _ _ (upd_same)))))))))))))) dats_nil) ?_
      refine dats_cons (dat_dict b_p7 (s_r _ _ (s_l2 _ _ (s_dd _ _ (s_lL _ _ (s_p14 _ _ (s_q14 _ _ (s_p12 _ _ (s_p11 _ _ (s_p10 _ _ (s_p9 _ _ (s_q9 _ _ (s_p8 _ _ (upd_same))))))))))))) rfl rfl) ?_
      refine dats_cons (dat_tup b_p8 (s_r _ _ (s_l2 _ _ (s_dd _ _ (s_lL _ _ (s_p14 _ _ (s_q14 _ _ (s_p12 _ _ (s_p11 _ _ (s_p10 _ _ (s_p9 _ _ (s_q9 _ _ (upd_same)))))))))))) (dats_cons (dat_text _) dats_nil)) ?_
      refine dats_cons (dat_lst b_p9 (s_r _ _ (s_l2 _ _ (s_dd _ _ (s_lL _ _ (s_p14 _ _ (s_q14 _ _ (s_p12 _ _ (s_p11 _ _ (s_p10 _ _ (upd_same)))))))))) (dats_cons (dat_lst b_q9 (s_r _ _ (s_l2 _ _ (s_dd _ _ (s_lL _ _ (s_p14 _ _ (s_q14 _ _ (s_p12 _ _ (s_p11 _ _ (s_p10 _ _ (s_p9 _ _ (upd_same))))))))))) (dats_cons (dat_text _) dats_nil)) dats_nil)) ?_
      refine dats_cons (dat_lst b_p10 (s_r _ _ (s_l2 _ _ (s_dd _ _ (s_lL _ _ (s_p14 _ _ (s_q14 _ _ (s_p12 _ _ (s_p11 _ _ (upd_same))))))))) (dats_cons dat_none dats_nil)) ?_
      refine dats_cons (dat_lst b_p11 (s_r _ _ (s_l2 _ _ (s_dd _ _ (s_lL _ _ (s_p14 _ _ (s_q14 _ _ (s_p12 _ _ (upd_same)))))))) (dats_cons (dat_num _) dats_nil)) ?_
      refine dats_cons (dat_lst b_p12 (s_r _ _ (s_l2 _ _ (s_dd _ _ (s_lL _ _ (s_p14 _ _ (s_q14 _ _ (upd_same))))))) (dats_cons (dat_text _) (dats_cons (dat_num _) dats_nil))) ?_
      refine dats_cons (dat_text _) ?_
      refine dats_cons (dat_lst b_p14 (s_r _ _ (s_l2 _ _ (s_dd _ _ (s_lL _ _ (upd_same))))) (dats_cons (dat_tup b_q14 (s_r _ _ (s_l2 _ _ (s_dd _ _ (s_lL _ _ (s_p14 _ _ (upd_same)))))) dats_nil) dats_nil)) ?_
      exact dats_cons (dat_dict b_dd (s_r _ _ (s_l2 _ _ (upd_same))) rfl rfl) dats_nil
    obtain ⟨x, hx, ax⟩ := item_at (xs := [.non, .bl true, .bl false, .str (Str.ofString ""), .str (Str.ofString "5"), .ref p5, .ref p6, .ref p7, .ref p8, .ref p9, .ref p10, .ref p11, .ref p12, .str (Str.ofString "ab cd"), .ref p14, .ref dd]) u0 u1
    obtain ⟨d, hd, Dx⟩ := ds.get hx
    obtain ⟨o1, o2, o3⟩ := odds_ok d (List.mem_of_getElem? hd)
    have hr2 : H2 r = some (.lst [.non, .bl true, .bl false, .str (Str.ofString ""), .str (Str.ofString "5"), .ref p5, .ref p6, .ref p7, .ref p8, .ref p9, .ref p10, .ref p11, .ref p12, .str (Str.ofString "ab cd"), .ref p14, .ref dd]) := (k2 r b_r).trans upd_same
    exact ⟨r, _, u, x, rfl, rfl, SqL.of hr2, ax, q x d H2 Dx o1 o2 o3 G2 ((Kp.of_same sAll).trans (kp_of k2))⟩
end
end Kk

set_option maxHeartbeats 4000000
namespace Kk
open PySem PySem.Spec PyProof.Rows L2 Lb
abbrev st_L_list : Stmt := topS 26
abbrev N_L_list : List Str := ["_law_bag_here", "_law_names_here", "_law_way", "_law_at"]
abbrev P_L_list : List Str := ["_law_bag_here"]
theorem sc_L_list : FnScope N_L_list P_L_list (defScope st_L_list) := ⟨rfl, rfl, rfl, by decide +kernel, rfl, by decide +kernel, by decide +kernel⟩
abbrev st_L_thing : Stmt := topS 27
abbrev N_L_thing : List Str := ["_law_bag_here", "_law_way", "_law_names_here"]
abbrev P_L_thing : List Str := ["_law_bag_here"]
theorem sc_L_thing : FnScope N_L_thing P_L_thing (defScope st_L_thing) := ⟨rfl, rfl, rfl, by decide +kernel, rfl, by decide +kernel, by decide +kernel⟩
def good (d : PyData) : Prop := Part d ∧ smallS d
theorem good_str {z : Str} (h : textOk z) (l : z.length ≤ 30) : good (.str z) := ⟨part_str h (by omega), h⟩
def spList : Sp := fun vs H Q _ => ∃ (b c : Addr), vs = [.ref b] ∧ Bag H b c ∧ ∀ (ds : List PyData) (us : List V) (a : Addr) (H' : Hp), a ≠ b → H' a = some (.lst us) → Dats b H' ds us → ds.length ≤ 60 → (∀ d ∈ ds, good d) → Bag H' b c → Kp b H H' → Q (.ref a) H'
def spThing : Sp := fun vs H Q _ => ∃ (b c : Addr), vs = [.ref b] ∧ Bag H b c ∧ ∀ (v : V) (d : PyData) (H' : Hp), Dat b H' d v → Shows d → small d → Bag H' b c → Kp b H H' → Q v H'
section
variable {P : Program} {w : World} {K : PySem.W.Frag} {mg : Str → Option Value} {base : Heap}
theorem good_app {a b : List PyData} (h1 : ∀ d ∈ a, good d) (h2 : ∀ d ∈ b, good d) : ∀ d ∈ a ++ b, good d := fun d h => (List.mem_append.mp h).elim (h1 d) (h2 d)
theorem ok_list {f : Addr} {fd : FuncData} (F : Fun K "_law_list" "_law_list" st_L_list f fd) (B : Blt mg) (c_L_take : Cal P w K mg base 1 "_law_take" spTake) (c_L_names : Cal P w K mg base 2 "_law_names" spNames) (c_L_odd : Cal P w K mg base 2 "_law_odd" spOdd)
    (c_L_word : Cal P w K mg base 2 "_law_word" spWord) : FnOk P w K mg base CX0 3 f fd P_L_list spList := by
  refine F.ok sc_L_list (fun vs H Q E h => ?_) (fun cdv A outer s H vs Q E hr h => ?_)
  · obtain ⟨b, c, rfl, _⟩ := h
    rfl
  · obtain ⟨b, c, rfl, G, q⟩ := h
    refine ⟨_, (pss_cons (ps_set (i := 1) sc_L_list.nd rfl (Or.inl rfl) (pe_n c_L_names hr (by decide) (by rfl) (pa_cons (pv 0) (pa_cons (pe_ix ix_list (pe_lst (pa_cons (pe_n c_L_take hr (by decide) (by rfl) (pa_cons (pv 0) (pa_cons pe_int pa_nil))) (pa_cons (pe_op op_add pe_int (pe_n c_L_take hr (by decide) (by rfl) (pa_cons (pv 0) (pa_cons pe_int pa_nil)))) pa_nil))) (pe_n c_L_take hr (by decide) (by rfl) (pa_cons (pv 0) (pa_cons pe_int pa_nil))) (fun _ _ => rfl)) pa_nil))))
      (pss_cons (ps_set (i := 2) sc_L_list.nd rfl (Or.inl rfl) (pe_n c_L_take hr (by decide) (by rfl) (pa_cons (pv 0) (pa_cons pe_int pa_nil))))
      (pss_cons (ps_set (i := 3) sc_L_list.nd rfl (Or.inl rfl) (pe_n c_L_take hr (by decide) (by rfl) (pa_cons (pv 0) (pa_cons (pe_op op_add (pe_callB call_len (by rfl) B.len (by decide +kernel) (pa_cons (pv 1) pa_nil)) pe_int) pa_nil))))
      (pss_cons (ps_if (pt_cmpR op_eq (pv 2) pe_int (nomark _)) (pss_one (ps_ret (pe_op op_cat (pe_op op_cat (pe_slice sl_list (pv 1) po_none (po_some (pv 3))) (pe_lst (pa_cons (pe_n c_L_odd hr (by decide) (by rfl) (pa_cons (pv 0) pa_nil)) pa_nil))) (pe_slice sl_list (pv 1) (po_some (pv 3)) po_none)))) pss_nil)
      (pss_cons (ps_if (pt_cmpR op_eq (pv 2) pe_int (nomark _)) (pss_one (ps_ret (pe_op op_cat (pe_op op_cat (pe_slice sl_list (pv 1) po_none (po_some (pv 3))) (pe_lst (pa_cons (pe_n c_L_word hr (by decide) (by rfl) (pa_cons (pv 0) pa_nil)) pa_nil))) (pe_slice sl_list (pv 1) (po_some (pe_op op_add (pv 3) pe_int)) po_none)))) pss_nil)
      (pss_cons (ps_if (pw_and (pt_cmpR op_eq (pv 2) pe_int (nomark _)) (pw_and1 (pt_cmpR (op_neD (hu64_of hr)) (pv 1) (pe_lst (pa_nil)) (nomark _)))).pt (pss_one (ps_ret (pe_op op_cat (pe_op op_cat (pe_slice sl_list (pv 1) po_none (po_some (pv 3))) (pe_lst (pa_cons (pe_ix ix_list (pv 1) (pe_n c_L_take hr (by decide) (by rfl) (pa_cons (pv 0) (pa_cons (pe_callB call_len (by rfl) B.len (by decide +kernel) (pa_cons (pv 1) pa_nil)) pa_nil))) (fun _ _ => rfl)) pa_nil))) (pe_slice sl_list (pv 1) (po_some (pe_op op_add (pv 3) (pe_n c_L_take hr (by decide) (by rfl) (pa_cons (pv 0) (pa_cons pe_int pa_nil))))) po_none)))) pss_nil)
      (pss_one (ps_ret (pv 1))))))))), ?_⟩
    refine ⟨.ref b, rfl, .ref b, rfl, b, c, 6, rfl, G, by decide, by decide, fun v1 H1 v10 v11 G1 k1 => ?_⟩
    refine ⟨.ref b, rfl, b, c, 3, rfl, G1, by decide, by decide, fun v2 H2 v20 v21 G2 k2 => ⟨39, v2, rfl, rfl, by show 2 ≤ sizeLine; decide, fun p np => ?_⟩⟩
    have pb := G2.ne_new np
    have G3 := G2.new (o := .lst [.int v1, .int (39 + v2)]) np
    refine ⟨.ref b, rfl, b, c, 2, rfl, G3, by decide, by decide, fun v3 H4 v30 v31 G4 k4 => ?_⟩
    have hp : H4 p = some (.lst [.int v1, .int (39 + v2)]) := (k4 p pb).trans upd_same
    obtain ⟨x, hx, ax⟩ := item_at (xs := [.int v1, .int (39 + v2)]) v30 v31
    obtain ⟨many, rfl, m0, m1⟩ : ∃ many : Int, x = .int many ∧ 0 ≤ many ∧ many ≤ 52 := by
      have m := List.mem_of_getElem? hx
      simp only [List.mem_cons, List.not_mem_nil, or_false] at m
      rcases m with rfl | rfl <;> exact ⟨_, rfl, by omega, by omega⟩
    have k5 : Kp b H H4 := (kp_of k1).trans ((kp_of k2).trans ((Kp.new np).trans (kp_of k4)))
    refine ⟨p, _, v3, _, rfl, rfl, SqL.of hp, ax, b, c, many, rfl, G4, m0, m1, fun ws n H5 ok wl nb nc hn G5 k6 => ?_⟩
    have okN : ∀ d ∈ ws.map PyData.str, good d := fun d hd => by
      obtain ⟨z, hz, rfl⟩ := List.mem_map.mp hd
      exact good_str (ok z hz).1 (ok z hz).2
    have len : (ws.map V.str).length = ws.length := List.length_map _
    have lenD : (ws.map PyData.str).length = ws.length := List.length_map _
    -- way, at
    refine ⟨.ref b, rfl, b, c, 4, rfl, G5, by decide, by decide, fun way H6 way0 way1 G6 k7 => ?_⟩
    refine ⟨.ref b, rfl, .ref n, rfl, .ref n, _, rfl, .inl ⟨_, SqL.of ((k7 n nb).trans hn), rfl⟩, _, 1, rfl, rfl, b, c, _, rfl, G6, by omega, by omega, fun at_ H7 at0 at1 G7 k8 => ?_⟩
    have hn7 : H7 n = some (.lst (ws.map V.str)) := (k8 n nb).trans ((k7 n nb).trans hn)
    have k9 : Kp b H H7 := k5.trans (k6.trans ((kp_of k7).trans (kp_of k8)))
    have dN : Dats b H7 (ws.map PyData.str) (ws.map V.str) := dats_strs ws
    have tkL : ((ws.map V.str).take at_.toNat).length ≤ 52 := by rw [List.length_take]; omega
    have dpL : ∀ j : Nat, ((ws.map V.str).drop j).length ≤ 52 := fun j => by rw [List.length_drop]; omega
    have tkG : ∀ d ∈ (ws.map PyData.str).take at_.toNat, good d := fun d hd => okN d (List.mem_of_mem_take hd)
    have dpG : ∀ j : Nat, ∀ d ∈ (ws.map PyData.str).drop j, good d := fun j d hd => okN d (List.mem_of_mem_drop hd)
    refine ⟨_, rfl, rfl, _, rfl, ite2 (fun _ => ?_) (fun _ => ?_)⟩
    · -- way == 0
      refine ⟨.ref n, rfl, .int at_, rfl, _, rfl, n, _, rfl, SqL.of hn7, fun p1 n1 => ?_⟩
      rw [cut_to at0]
      have g1 := G7.new (o := .lst ((ws.map V.str).take at_.toNat)) n1
      have p1b := G7.ne_new n1
      refine ⟨.ref b, rfl, b, c, rfl, g1, fun x d H8 Dx pd sd sm G8 k10 => ⟨by show 1 ≤ sizeLine; decide, fun p2 n2 => ?_⟩⟩
      have h1 : H8 p1 = some (.lst ((ws.map V.str).take at_.toNat)) := k10 _ _ p1b upd_same
      have hn8 : H8 n = some (.lst (ws.map V.str)) := k10 _ _ nb (by rw [upd_ne (ne_of_none hn7 n1)]; exact hn7)
      refine ⟨p1, p2, _, _, rfl, rfl, same_new n2 _ _ h1, upd_same, sz_ok (by show _ + 1 ≤ _; omega), fun p3 n3 => ?_⟩
      refine ⟨.ref n, rfl, .int at_, rfl, _, rfl, n, _, rfl, SqL.of (same_new n3 _ _ (same_new n2 _ _ hn8)), fun p4 n4 => ?_⟩
      rw [cut_from at0]
      have dl := dpL at_.toNat
      refine ⟨p3, p4, _, _, rfl, rfl, same_new n4 _ _ upd_same, upd_same, sz_ok (by rw [List.length_append]; show _ + 1 + _ ≤ _; omega), fun p5 n5 => ?_⟩
      have g2 := ((G8.new (o := .lst [x]) n2).new (o := .lst ((ws.map V.str).take at_.toNat ++ [x])) n3).new (o := .lst ((ws.map V.str).drop at_.toNat)) n4
      have sK : Same H8 _ := (same_new n2).trans ((same_new n3).trans ((same_new n4).trans (same_new (o := .lst ((ws.map V.str).take at_.toNat ++ [x] ++ (ws.map V.str).drop at_.toNat)) n5)))
      refine q (((ws.map PyData.str).take at_.toNat ++ [d]) ++ (ws.map PyData.str).drop at_.toNat) _ p5 _ (g2.ne_new n5) upd_same ?_ ?_ ?_ (g2.new n5) (k9.trans ((Kp.new n1).trans (k10.trans (.of_same sK))))
      · exact (((dats_strs ws).tk _).app (dats_cons (Dx.same sK) dats_nil)).app ((dats_strs ws).dp _)
      · rw [List.length_append, List.length_append, List.length_take, List.length_drop]
        show min _ _ + 1 + _ ≤ 60
        omega
      · exact good_app (good_app tkG fun y hy => by rw [List.mem_singleton.mp hy]; exact ⟨pd, sm.s⟩) (dpG _)
    refine ⟨_, rfl, rfl, _, rfl, ite2 (fun _ => ?_) (fun _ => ?_)⟩
    · -- way == 1
      refine ⟨.ref n, rfl, .int at_, rfl, _, rfl, n, _, rfl, SqL.of hn7, fun p1 n1 => ?_⟩
      rw [cut_to at0]
      have g1 := G7.new (o := .lst ((ws.map V.str).take at_.toNat)) n1
      have p1b := G7.ne_new n1
      refine ⟨.ref b, rfl, b, c, rfl, g1, fun z H8 zk zl G8 k10 => ⟨by show 1 ≤ sizeLine; decide, fun p2 n2 => ?_⟩⟩
      have h1 : H8 p1 = some (.lst ((ws.map V.str).take at_.toNat)) := k10 _ _ p1b upd_same
      have hn8 : H8 n = some (.lst (ws.map V.str)) := k10 _ _ nb (by rw [upd_ne (ne_of_none hn7 n1)]; exact hn7)
      refine ⟨p1, p2, _, _, rfl, rfl, same_new n2 _ _ h1, upd_same, sz_ok (by show _ + 1 ≤ _; omega), fun p3 n3 => ?_⟩
      refine ⟨.ref n, rfl, .int at_, rfl, at_, 1, rfl, rfl, _, rfl, n, _, rfl, SqL.of (same_new n3 _ _ (same_new n2 _ _ hn8)), fun p4 n4 => ?_⟩
      rw [cut_from (by omega)]
      have dl := dpL (at_ + 1).toNat
      refine ⟨p3, p4, _, _, rfl, rfl, same_new n4 _ _ upd_same, upd_same, sz_ok (by rw [List.length_append]; show _ + 1 + _ ≤ _; omega), fun p5 n5 => ?_⟩
      have g2 := ((G8.new (o := .lst [.str z]) n2).new (o := .lst ((ws.map V.str).take at_.toNat ++ [.str z])) n3).new (o := .lst ((ws.map V.str).drop (at_ + 1).toNat)) n4
      have sK : Same H8 _ := (same_new n2).trans ((same_new n3).trans ((same_new n4).trans (same_new (o := .lst ((ws.map V.str).take at_.toNat ++ [.str z] ++ (ws.map V.str).drop (at_ + 1).toNat)) n5)))
      refine q (((ws.map PyData.str).take at_.toNat ++ [.str z]) ++ (ws.map PyData.str).drop (at_ + 1).toNat) _ p5 _ (g2.ne_new n5) upd_same ?_ ?_ ?_ (g2.new n5) (k9.trans ((Kp.new n1).trans (k10.trans (.of_same sK))))
      · exact (((dats_strs ws).tk _).app (dats_cons (dat_text z) dats_nil)).app ((dats_strs ws).dp _)
      · rw [List.length_append, List.length_append, List.length_take, List.length_drop]
        show min _ _ + 1 + _ ≤ 60
        omega
      · exact good_app (good_app tkG fun y hy => by rw [List.mem_singleton.mp hy]; exact good_str zk zl) (dpG _)
    have last : ∀ H', Same H7 H' → Q (.ref n) H' := fun H' s' => q (ws.map PyData.str) _ n H' nb (s' _ _ hn7) (dats_strs ws) (by omega) okN (G7.same s') (k9.trans (.of_same s'))
    refine ⟨_, rfl, rfl, _, rfl, ite2 (fun _ => ?_) (fun _ => ?_)⟩
    · refine ⟨.ref n, rfl, by show 0 ≤ sizeLine; decide, fun p0 n0 => ?_⟩
      have s0 := same_new (o := .lst []) n0
      refine ⟨_, _, .lst (SqL.of (s0 _ _ hn7)) (dp_strs ws), .lst (SqL.of upd_same) .nil, shaped_strs (fun z hz => (ok z hz).1), rfl, _, rfl, ?_⟩
      rw [eqv_nil]
      cases he : ws.isEmpty with
      | true => exact iteF ⟨.ref n, rfl, last _ s0⟩
      | false =>
        have pos : 0 < ws.length := by
          cases ws with
          | nil => cases he
          | cons _ _ => exact Nat.succ_pos _
        have G0 := G7.new (o := .lst []) n0
        have hn0 := s0 _ _ hn7
        refine iteT ⟨.ref n, rfl, .int at_, rfl, _, rfl, n, _, rfl, SqL.of hn0, fun p1 n1 => ?_⟩
        rw [cut_to at0]
        have g1 := G0.new (o := .lst ((ws.map V.str).take at_.toNat)) n1
        have p1b := G0.ne_new n1
        have hn1 := same_new (o := .lst ((ws.map V.str).take at_.toNat)) n1 _ _ hn0
        refine ⟨.ref n, rfl, .ref b, rfl, .ref n, rfl, .ref n, _, rfl, .inl ⟨_, SqL.of hn1, rfl⟩, b, c, _, rfl, g1, by omega, by omega, fun v H8 v0 v1 G8 k10 => ?_⟩
        have hn8 : H8 n = some (.lst (ws.map V.str)) := (k10 n nb).trans hn1
        have h1 : H8 p1 = some (.lst ((ws.map V.str).take at_.toNat)) := (k10 p1 p1b).trans upd_same
        obtain ⟨x, hx, ax⟩ := item_at (xs := ws.map V.str) v0 v1
        obtain ⟨d, hd, Dx⟩ := (dats_strs (b := b) (H := H8) ws).get hx
        refine ⟨n, _, v, x, rfl, rfl, SqL.of hn8, ax, by show 1 ≤ sizeLine; decide, fun p2 n2 => ?_⟩
        refine ⟨p1, p2, _, _, rfl, rfl, same_new n2 _ _ h1, upd_same, sz_ok (by show _ + 1 ≤ _; omega), fun p3 n3 => ?_⟩
        have G9 := (G8.new (o := .lst [x]) n2).new (o := .lst ((ws.map V.str).take at_.toNat ++ [x])) n3
        have p3b := (G8.new (o := .lst [x]) n2).ne_new n3
        have hn9 := same_new (o := .lst ((ws.map V.str).take at_.toNat ++ [x])) n3 _ _ (same_new (o := .lst [x]) n2 _ _ hn8)
        refine ⟨.ref n, rfl, .int at_, rfl, .ref b, rfl, b, c, 2, rfl, G9, by decide, by decide, fun y H10 y0 y1 G10 k11 => ⟨at_, y, rfl, rfl, _, rfl, n, _, rfl, SqL.of ((k11 n nb).trans hn9), fun p4 n4 => ?_⟩⟩
        rw [cut_from (by omega)]
        have dl := dpL (at_ + y).toNat
        have h3 : H10 p3 = some (.lst ((ws.map V.str).take at_.toNat ++ [x])) := (k11 p3 p3b).trans upd_same
        refine ⟨p3, p4, _, _, rfl, rfl, same_new n4 _ _ h3, upd_same, sz_ok (by rw [List.length_append]; show _ + 1 + _ ≤ _; omega), fun p5 n5 => ?_⟩
        have g2 := G10.new (o := .lst ((ws.map V.str).drop (at_ + y).toNat)) n4
        have sK : Same H10 _ := (same_new n4).trans (same_new (o := .lst ((ws.map V.str).take at_.toNat ++ [x] ++ (ws.map V.str).drop (at_ + y).toNat)) n5)
        refine q (((ws.map PyData.str).take at_.toNat ++ [d]) ++ (ws.map PyData.str).drop (at_ + y).toNat) _ p5 _ (g2.ne_new n5) upd_same ?_ ?_ ?_ (g2.new n5) (k9.trans ((Kp.new n0).trans ((Kp.new n1).trans ((kp_of k10).trans ((Kp.new n2).trans ((Kp.new n3).trans ((kp_of k11).trans (.of_same sK))))))))
        · obtain ⟨z, hz, rfl⟩ := List.mem_map.mp (List.mem_of_getElem? hd)
          obtain ⟨z2, e2, rfl⟩ := dat_str Dx rfl
          cases e2
          exact (((dats_strs ws).tk _).app (dats_cons (dat_text _) dats_nil)).app ((dats_strs ws).dp _)
        · rw [List.length_append, List.length_append, List.length_take, List.length_drop]
          show min _ _ + 1 + _ ≤ 60
          omega
        · exact good_app (good_app tkG fun y hy => by rw [List.mem_singleton.mp hy]; exact okN d (List.mem_of_getElem? hd)) (dpG _)
    · exact iteF ⟨.ref n, rfl, last _ (Same.refl _)⟩
theorem ok_thing {f : Addr} {fd : FuncData} (F : Fun K "_law_thing" "_law_thing" st_L_thing f fd) (B : Blt mg) (c_L_take : Cal P w K mg base 1 "_law_take" spTake) (c_L_list : Cal P w K mg base 3 "_law_list" spList) (c_L_odd : Cal P w K mg base 2 "_law_odd" spOdd)
    (c_L_word : Cal P w K mg base 2 "_law_word" spWord) (c_L_number : Cal P w K mg base 2 "_law_number" spNumber) : FnOk P w K mg base CX0 4 f fd P_L_thing spThing := by
  refine F.ok sc_L_thing (fun vs H Q E h => ?_) (fun cdv A outer s H vs Q E hr h => ?_)
  · obtain ⟨b, c, rfl, _⟩ := h
    rfl
  · obtain ⟨b, c, rfl, G, q⟩ := h
    refine ⟨_, (pss_cons (ps_set (i := 1) sc_L_thing.nd rfl (Or.inl rfl) (pe_n c_L_take hr (by decide) (by rfl) (pa_cons (pv 0) (pa_cons pe_int pa_nil))))
      (pss_cons (ps_if (pt_cmpR op_eq (pv 1) pe_int (nomark _)) (pss_one (ps_ret (pe_n c_L_odd hr (by decide) (by rfl) (pa_cons (pv 0) pa_nil)))) pss_nil)
      (pss_cons (ps_if (pt_cmpR op_eq (pv 1) pe_int (nomark _)) (pss_one (ps_ret (pe_n c_L_word hr (by decide) (by rfl) (pa_cons (pv 0) pa_nil)))) pss_nil)
      (pss_cons (ps_if (pt_cmpR op_eq (pv 1) pe_int (nomark _)) (pss_one (ps_ret (pe_n c_L_number hr (by decide) (by rfl) (pa_cons (pv 0) pa_nil)))) pss_nil)
      (pss_cons (ps_set (i := 2) sc_L_thing.nd rfl (Or.inl rfl) (pe_n c_L_list hr (by decide) (by rfl) (pa_cons (pv 0) pa_nil)))
      (pss_one (ps_ret (pe_ix ix_list (pe_lst (pa_cons (pv 2) (pa_cons (pe_callTy call_tuple_of (by rfl) B.tuple_ (by decide +kernel) (pa_cons (pv 2) pa_nil)) pa_nil))) (pe_callTy call_int1 (by rfl) B.int (by decide +kernel) (pa_cons (pe_cmpR op_eq (pe_n c_L_take hr (by decide) (by rfl) (pa_cons (pv 0) (pa_cons pe_int pa_nil))) pe_int (nomark _)) pa_nil)) (fun _ _ => rfl))))))))), ?_⟩
    refine ⟨.ref b, rfl, b, c, 5, rfl, G, by decide, by decide, fun way H1 way0 way1 G1 k1 => ?_⟩
    have k1' := kp_of k1
    refine ⟨_, rfl, rfl, _, rfl, ite2 (fun _ => ?_) (fun _ => ?_)⟩
    · exact ⟨.ref b, rfl, b, c, rfl, G1, fun v d H2 Dv pd sd sm G2 k2 => q v d H2 Dv sd sm G2 (k1'.trans k2)⟩
    refine ⟨_, rfl, rfl, _, rfl, ite2 (fun _ => ?_) (fun _ => ?_)⟩
    · exact ⟨.ref b, rfl, b, c, rfl, G1, fun z H2 zk zl G2 k2 => q (.str z) (.str z) H2 (dat_text z) ((part_str zk (by omega)).shows rfl) zk G2 (k1'.trans k2)⟩
    refine ⟨_, rfl, rfl, _, rfl, ite2 (fun _ => ?_) (fun _ => ?_)⟩
    · refine ⟨.ref b, rfl, b, c, rfl, G1, fun i H2 hi G2 k2 => q (.int i) (.int i) H2 (dat_num i) ((part_int ?_).shows rfl) trivial G2 (k1'.trans k2)⟩
      have h2 : i.natAbs < 2 ^ 200 := Nat.lt_of_le_of_lt hi (by decide)
      exact Nat.lt_of_lt_of_le (PySem.Flt.log2_lt_of (by decide) h2) (by decide)
    · refine ⟨.ref b, rfl, b, c, rfl, G1, fun ds us a H2 nb ha dd dl gd G2 k2 => ?_⟩
      refine ⟨.ref a, rfl, .ref a, rfl, a, us, rfl, .inl ⟨SqL.of ha, fun t nt => ⟨by show 2 ≤ sizeLine; decide, fun p np => ?_⟩⟩⟩
      have st := same_new (o := .tup us) nt
      have sp := same_new (o := .lst [.ref a, .ref t]) np
      have Gt := G2.new (o := .tup us) nt
      have Gp := Gt.new (o := .lst [.ref a, .ref t]) np
      have tb := G2.ne_new nt
      have pb := Gt.ne_new np
      refine ⟨.ref b, rfl, b, c, 8, rfl, Gp, by decide, by decide, fun v H3 v0 v1 G3 k3 => ⟨rfl, .inr ⟨_, rfl, ?_⟩⟩⟩
      have kAll := k1'.trans (k2.trans ((Kp.of_same st).trans ((Kp.of_same sp).trans (kp_of k3))))
      have ha3 : H3 a = some (.lst us) := (k3 a nb).trans (sp _ _ (st _ _ ha))
      have ht3 : H3 t = some (.tup us) := (k3 t tb).trans (sp _ _ upd_same)
      have hp3 : H3 p = some (.lst [.ref a, .ref t]) := (k3 p pb).trans upd_same
      have d3 : Dats b H3 ds us := ((dd.same st).same sp).mono (kp_of k3)
      have pt : ∀ d ∈ ds, Part d := fun d hd => (gd d hd).1
      have fin0 : Q (.ref a) H3 := q _ (.list ds) H3 (dat_lst nb ha3 d3) (shows_list pt (by omega)) ⟨by omega, fun d hd => (gd d hd).2⟩ G3 kAll
      have fin1 : Q (.ref t) H3 := q _ (.tuple ds) H3 (dat_tup tb ht3 d3) (shows_tuple pt (by omega)) (show ds.length ≤ 1000 by omega) G3 kAll
      cases hb : decide (V.int v = V.int 0) with
      | true => exact ⟨p, _, 1, .ref t, rfl, rfl, SqL.of hp3, rfl, fin1⟩
      | false => exact ⟨p, _, 0, .ref a, rfl, rfl, SqL.of hp3, rfl, fin0⟩
end
end Kk

set_option maxHeartbeats 4000000
namespace Kk
open PySem PySem.Spec PyProof.Rows L2 Lb
abbrev st_law : Stmt := topS 28
abbrev N_law : List Str := ["_law_script", "_law_bag_here", "_law_k", "_law_thing_here", "_law_kept", "_law_turn"]
abbrev P_law : List Str := ["_law_script"]
theorem sc_law : FnScope N_law P_law (defScope st_law) := ⟨rfl, rfl, rfl, by decide +kernel, rfl, by decide +kernel, by decide +kernel⟩
def spLaw (K : PySem.W.Frag) : Sp := fun vs H Q _ => ∃ (a : Addr) (ns : List Int), vs = [.ref a] ∧ SqL K H a (ns.map V.int) ∧ ns.length ≤ 63 ∧ ∀ H', Q (.bl true) H'
section
variable {P : Program} {w : World} {K : PySem.W.Frag} {mg : Str → Option Value} {base : Heap}
theorem ok_law {f : Addr} {fd : FuncData} (F : Fun K "law" "law" st_law f fd) (B : Blt mg) (c_L_bag : Cal P w K mg base 1 "_law_bag" (spBag K)) (c_L_thing : Cal P w K mg base 4 "_law_thing" spThing) (c_L_asked : Cal P w K mg base 4 "_law_asked" spSix) (c_L_due : Cal P w K mg base 3 "_law_due" spSix)
    (c_L_alike : CalG P w K mg base 1 "_law_alike" spAlike) : FnG P w K mg base 5 f fd P_law (spLaw K) := by
  refine fnG_of F sc_law (fun vs H Q E h => ?_) (fun cdv A outer s H vs Q E noG hr h => ?_)
  · obtain ⟨a, ns, rfl, _⟩ := h
    rfl
  · obtain ⟨a, ns, rfl, hS, nl, q⟩ := h
    refine ⟨_, (pss_cons (ps_set (i := 1) sc_law.nd rfl (Or.inl rfl) (pe_n c_L_bag hr (by decide) (by rfl) (pa_cons (pv 0) pa_nil)))
      (pss_cons (ps_for PassesOwn.never rfl (pi_range1 (by rfl) B.range_ (pa_cons pe_int pa_nil)) (pg_name (i := 2) sc_law.nd rfl (Or.inl rfl)) (pss_cons (ps_set (i := 3) sc_law.nd rfl (Or.inl rfl) (pe_n c_L_thing hr (by decide) (by rfl) (pa_cons (pv 1) pa_nil)))
      (pss_cons (ps_set (i := 4) sc_law.nd rfl (Or.inl rfl) (pe_callB (call_repr noG hr) (by rfl) B.repr_ (by decide +kernel) (pa_cons (pv 3) pa_nil)))
      (pss_one (ps_for PassesOwn.never rfl (pi_range1 (by rfl) B.range_ (pa_cons pe_int pa_nil)) (pg_name (i := 5) sc_law.nd rfl (Or.inl rfl)) (pss_one (ps_if (pw_or (pt_not (pt_val (pe_g c_L_alike noG hr (by decide) (by rfl) (pa_cons (pe_n c_L_asked hr (by decide) (by rfl) (pa_cons (pv 3) pa_nil)) (pa_cons (pe_n c_L_due hr (by decide) (by rfl) (pa_cons (pv 3) pa_nil)) pa_nil))))) (pw_or1 (pt_cmpR op_ne (pe_callB (call_repr noG hr) (by rfl) B.repr_ (by decide +kernel) (pa_cons (pv 3) pa_nil)) (pv 4) (nomark _)))).pt (pss_one (ps_ret pe_bl)) pss_nil)))))))
      (pss_one (ps_ret pe_bl)))), ?_⟩
    refine ⟨.ref a, rfl, a, ns, rfl, hS, nl, fun b c H1 _ _ _ G1 => ?_⟩
    refine ⟨40, rfl, by decide, by decide, for_range (n := 40) (fun i σ H' => ∃ x2 x3 x4 x5, σ = [some (.ref a), some (.ref b), x2, x3, x4, x5] ∧ Bag H' b c) ⟨none, none, none, none, rfl, G1⟩ ?_ ?_⟩
    · rintro i σ H2 hi ⟨x2, x3, x4, x5, rfl, G2⟩
      refine ⟨.ref b, rfl, b, c, rfl, G2, fun v d H3 Dv sd sm G3 _ => ?_⟩
      refine ⟨v, rfl, b, v, d, rfl, Dv, sd, ?_⟩
      refine ⟨2, rfl, by decide, by decide, for_range (n := 2) (fun j σ H' => ∃ y5, σ = [some (.ref a), some (.ref b), some (.int (0 + (i : Int))), some v, some (.str d.shown), y5] ∧ Same H3 H') ⟨x5, rfl, Same.refl _⟩ ?_ ?_⟩
      · rintro j σ H4 hj ⟨y5, rfl, s4⟩
        have D4 := Dv.same s4
        refine ⟨v, rfl, b, v, d, rfl, D4, sm, fun H5 p5 s5 n5 h5 => ?_⟩
        refine ⟨v, rfl, b, v, d, rfl, D4.same s5, sm, fun H6 p6 s6 n6 h6 => ?_⟩
        refine ⟨p5, p6, six d, rfl, s6 _ _ h5, h6, by show 6 ≤ 90; decide, fun H7 s7 => ⟨_, rfl, ?_⟩⟩
        have s47 := s4.trans (s5.trans (s6.trans s7))
        refine iteF ⟨v, rfl, b, v, d, rfl, Dv.same s47, sd, _, rfl, rfl, _, rfl, ?_⟩
        rw [decide_eq_true rfl]
        exact iteF ⟨_, rfl, s47⟩
      · rintro σ H4 ⟨y5, rfl, s4⟩
        exact ⟨_, _, _, _, rfl, G3.same s4⟩
    · rintro σ H2 ⟨x2, x3, x4, x5, rfl, G2⟩
      exact q _
end
end Kk

set_option maxHeartbeats 4000000
namespace Lb
open PySem PySem.Spec PyProof.Rows L2
/-! ### 11. What the top has left -/
/-- a def of the text stands under its name -/
structure DefIn (K : PySem.W.Frag) (mg : Str → Option Value) (x : Str) (st : Stmt) : Prop where
  ex : ∃ (f : Addr) (fd : FuncData), Fun K x x st f fd ∧ mg x = some (.ref f)
theorem def_in {K : PySem.W.Frag} {h : Heap} {mg : Str → Option Value} {x : Str} {st : Stmt} (X : K.In h) (G : h.Ns mainGlobals mg) {f : Addr} {od an : Option Addr} {sl : Array (Option Value)} {oc kV dc pm cd ct : Value}
    (a : PySem.W.nsIn K mainGlobals x = some (some (.ref f))) (l : K.lookup f = some ⟨oc, od, .func (PySem.W.fnOf x x (defArgs st) (defBody st) (defScope st) .none kV dc pm an cd ct), sl⟩)
    (c : PySem.W.codeIn K cd x = true) (k : PySem.W.keepIn K (.ref f) = true) : DefIn K mg x st := ⟨f, _, fun_mk l c k, PySem.W.mg_of X G a⟩
theorem int_in {K : PySem.W.Frag} {h : Heap} {mg : Str → Option Value} {x : Str} {n : Int} {t : Tok} (X : K.In h) (G : h.Ns mainGlobals mg) (a : PySem.W.nsIn K mainGlobals x = some (some (.int n t))) : ∃ u, mg x = some u ∧ RelV (.int n) u :=
  ⟨_, PySem.W.mg_of X G a, t, rfl⟩
section
variable {P : Program} {w : World} {K : PySem.W.Frag} {mg : Str → Option Value} {base : Heap} {x : Str} {st : Stmt} {k : Nat} {sp : Sp} {ps : List Str}
theorem DefIn.cal (D : DefIn K mg x st) (hb : ∀ f fd, Fun K x x st f fd → Binds K fd ps []) (ok : ∀ f fd, Fun K x x st f fd → FnOk P w K mg base CX0 k f fd ps sp) : Cal P w K mg base k x sp := by
  obtain ⟨f, fd, F, m⟩ := D.ex
  exact ⟨f, fd, ps, ok f fd F, m, F.kp, hb f fd F⟩
theorem DefIn.calG (D : DefIn K mg x st) (hb : ∀ f fd, Fun K x x st f fd → Binds K fd ps []) (ok : ∀ f fd, Fun K x x st f fd → FnG P w K mg base k f fd ps sp) : CalG P w K mg base k x sp := by
  obtain ⟨f, fd, F, m⟩ := D.ex
  exact ⟨f, fd, ps, ok f fd F, m, F.kp, hb f fd F⟩
end
end Lb
namespace Kk
open PySem PySem.Spec PyProof.Rows L2 Lb
structure Top (K : PySem.W.Frag) (mg : Str → Option Value) : Prop where
  B : Blt mg
  M : Con mg
  d_L_take : DefIn K mg "_law_take" st_L_take
  d_L_bag : DefIn K mg "_law_bag" st_L_bag
  d_is_whole : DefIn K mg "is_whole" st_is_whole
  d_is_within : DefIn K mg "is_within" st_is_within
  d_is_name : DefIn K mg "is_name" st_is_name
  d_is_length : DefIn K mg "is_length" st_is_length
  d_is_rest : DefIn K mg "is_rest" st_is_rest
  d_are_beats : DefIn K mg "are_beats" st_are_beats
  d_is_stroke : DefIn K mg "is_stroke" st_is_stroke
  d_L_alike : DefIn K mg "_law_alike" st_L_alike
  d_L_whole : DefIn K mg "_law_whole" st_L_whole
  d_L_name : DefIn K mg "_law_name" st_L_name
  d_L_stroke : DefIn K mg "_law_stroke" st_L_stroke
  d_L_due : DefIn K mg "_law_due" st_L_due
  d_L_asked : DefIn K mg "_law_asked" st_L_asked
  d_L_word : DefIn K mg "_law_word" st_L_word
  d_L_number : DefIn K mg "_law_number" st_L_number
  d_L_names : DefIn K mg "_law_names" st_L_names
  d_L_odd : DefIn K mg "_law_odd" st_L_odd
  d_L_list : DefIn K mg "_law_list" st_L_list
  d_L_thing : DefIn K mg "_law_thing" st_L_thing
  d_law : DefIn K mg "law" st_law
section
variable {P : Program} {w : World} {K : PySem.W.Frag} {mg : Str → Option Value} {base : Heap}
theorem law_ok {f : Addr} {fd : FuncData} (T : Top K mg) (F0 : Fun K "law" "law" st_law f fd) : FnG P w K mg base 5 f fd P_law (spLaw K) := by
  have c_L_take : Cal P w K mg base 1 "_law_take" spTake := T.d_L_take.cal (fun _ _ F => F.binds (ps := P_L_take) fun _ _ _ _ _ _ us hl => match us, hl with | [_, _], _ => rfl) fun _ _ F => ok_take F T.B
  have c_L_bag : Cal P w K mg base 1 "_law_bag" (spBag K) := T.d_L_bag.cal (fun _ _ F => F.binds (ps := P_L_bag) fun _ _ _ _ _ _ us hl => match us, hl with | [_], _ => rfl) fun _ _ F => ok_bag F T.B
  have c_is_whole : Cal P w K mg base 1 "is_whole" (spD (fun _ => True) isWhole) := T.d_is_whole.cal (fun _ _ F => F.binds (ps := P_is_whole) fun _ _ _ _ _ _ us hl => match us, hl with | [_], _ => rfl) fun _ _ F => ok_whole F T.B
  have c_is_within : Cal P w K mg base 2 "is_within" spW := T.d_is_within.cal (fun _ _ F => F.binds (ps := P_is_within) fun _ _ _ _ _ _ us hl => match us, hl with | [_, _, _], _ => rfl) fun _ _ F => ok_within F c_is_whole
  have c_is_name : Cal P w K mg base 1 "is_name" (spD smallS isName) := T.d_is_name.cal (fun _ _ F => F.binds (ps := P_is_name) fun _ _ _ _ _ _ us hl => match us, hl with | [_], _ => rfl) fun _ _ F => ok_name F T.B T.M
  have c_is_length : Cal P w K mg base 3 "is_length" (spD (fun _ => True) (within 1 (10 ^ 9))) := T.d_is_length.cal (fun _ _ F => F.binds (ps := P_is_length) fun _ _ _ _ _ _ us hl => match us, hl with | [_], _ => rfl) fun _ _ F => ok_length F T.M c_is_within
  have c_is_rest : Cal P w K mg base 3 "is_rest" (spD (fun _ => True) (within 1 (10 ^ 18))) := T.d_is_rest.cal (fun _ _ F => F.binds (ps := P_is_rest) fun _ _ _ _ _ _ us hl => match us, hl with | [_], _ => rfl) fun _ _ F => ok_rest F T.M c_is_within
  have c_are_beats : Cal P w K mg base 3 "are_beats" (spD (fun _ => True) (within 0 (10 ^ 30))) := T.d_are_beats.cal (fun _ _ F => F.binds (ps := P_are_beats) fun _ _ _ _ _ _ us hl => match us, hl with | [_], _ => rfl) fun _ _ F => ok_beats F T.M c_is_within
  have c_is_stroke : Cal P w K mg base 2 "is_stroke" (spD small isStroke) := T.d_is_stroke.cal (fun _ _ F => F.binds (ps := P_is_stroke) fun _ _ _ _ _ _ us hl => match us, hl with | [_], _ => rfl) fun _ _ F => ok_stroke F T.B T.M c_is_name
  have c_L_alike : CalG P w K mg base 1 "_law_alike" spAlike := T.d_L_alike.calG (fun _ _ F => F.binds (ps := P_L_alike) fun _ _ _ _ _ _ us hl => match us, hl with | [_, _], _ => rfl) fun _ _ F => ok_alike F T.B
  have c_L_whole : Cal P w K mg base 1 "_law_whole" spW := T.d_L_whole.cal (fun _ _ F => F.binds (ps := P_L_whole) fun _ _ _ _ _ _ us hl => match us, hl with | [_, _, _], _ => rfl) fun _ _ F => ok_Lwhole F T.B
  have c_L_name : Cal P w K mg base 1 "_law_name" (spD smallS isName) := T.d_L_name.cal (fun _ _ F => F.binds (ps := P_L_name) fun _ _ _ _ _ _ us hl => match us, hl with | [_], _ => rfl) fun _ _ F => ok_Lname F T.B
  have c_L_stroke : Cal P w K mg base 2 "_law_stroke" (spD small isStroke) := T.d_L_stroke.cal (fun _ _ F => F.binds (ps := P_L_stroke) fun _ _ _ _ _ _ us hl => match us, hl with | [_], _ => rfl) fun _ _ F => ok_Lstroke F T.B c_L_name
  have c_L_due : Cal P w K mg base 3 "_law_due" spSix := T.d_L_due.cal (fun _ _ F => F.binds (ps := P_L_due) fun _ _ _ _ _ _ us hl => match us, hl with | [_], _ => rfl) fun _ _ F => ok_due F T.B c_L_name c_L_whole c_L_stroke
  have c_L_asked : Cal P w K mg base 4 "_law_asked" spSix := T.d_L_asked.cal (fun _ _ F => F.binds (ps := P_L_asked) fun _ _ _ _ _ _ us hl => match us, hl with | [_], _ => rfl) fun _ _ F => ok_asked F c_is_whole c_is_name c_is_length c_is_rest c_are_beats c_is_stroke
  have c_L_word : Cal P w K mg base 2 "_law_word" spWord := T.d_L_word.cal (fun _ _ F => F.binds (ps := P_L_word) fun _ _ _ _ _ _ us hl => match us, hl with | [_], _ => rfl) fun _ _ F => ok_word F T.B c_L_take
  have c_L_number : Cal P w K mg base 2 "_law_number" spNumber := T.d_L_number.cal (fun _ _ F => F.binds (ps := P_L_number) fun _ _ _ _ _ _ us hl => match us, hl with | [_], _ => rfl) fun _ _ F => ok_number F c_L_take
  have c_L_names : Cal P w K mg base 2 "_law_names" spNames := T.d_L_names.cal (fun _ _ F => F.binds (ps := P_L_names) fun _ _ _ _ _ _ us hl => match us, hl with | [_, _], _ => rfl) fun _ _ F => ok_names F T.B c_L_take
  have c_L_odd : Cal P w K mg base 2 "_law_odd" spOdd := T.d_L_odd.cal (fun _ _ F => F.binds (ps := P_L_odd) fun _ _ _ _ _ _ us hl => match us, hl with | [_], _ => rfl) fun _ _ F => ok_odd F c_L_take
  have c_L_list : Cal P w K mg base 3 "_law_list" spList := T.d_L_list.cal (fun _ _ F => F.binds (ps := P_L_list) fun _ _ _ _ _ _ us hl => match us, hl with | [_], _ => rfl) fun _ _ F => ok_list F T.B c_L_take c_L_names c_L_odd c_L_word
  have c_L_thing : Cal P w K mg base 4 "_law_thing" spThing := T.d_L_thing.cal (fun _ _ F => F.binds (ps := P_L_thing) fun _ _ _ _ _ _ us hl => match us, hl with | [_], _ => rfl) fun _ _ F => ok_thing F T.B c_L_take c_L_list c_L_odd c_L_word c_L_number
  exact ok_law F0 T.B c_L_bag c_L_thing c_L_asked c_L_due c_L_alike
end
theorem all_mk {l : PySem.W.OpenLaw} {w : World} {K : PySem.W.Frag} {mg : Str → Option Value} {fa : Addr} (T : Top K mg) (hfa : mg "law" = some (.ref fa)) :
    ∃ fd : FuncData, (∀ (s : Shared) (v : Value), BindsTo s fd ⟨[v], []⟩ [("_law_script", v)]) ∧ ∀ base : Heap, K.In base → base.Ns mainGlobals mg → FnG l.prog w K mg base 5 fa fd ["_law_script"] (spLaw K) := by
  obtain ⟨f, fd, F, m⟩ := T.d_law.ex
  rw [m] at hfa
  cases hfa
  refine ⟨fd, ?_, fun base _ _ => law_ok T F⟩
  obtain ⟨oc, od, kV, doc, pm, an, cdv, ct, osl, rfl, lk, hcd⟩ := F.ex
  exact fun s v => .of_eq rfl
theorem top_mk {K : PySem.W.Frag} {h : Heap} {mg : Str → Option Value} (X : K.In h) (G : h.Ns mainGlobals mg)
    {f0 : Addr} {od0 an0 : Option Addr} {sl0 : Array (Option Value)} {oc0 kV0 dc0 pm0 cd0 ct0 : Value}
    {f1 : Addr} {od1 an1 : Option Addr} {sl1 : Array (Option Value)} {oc1 kV1 dc1 pm1 cd1 ct1 : Value}
    {f2 : Addr} {od2 an2 : Option Addr} {sl2 : Array (Option Value)} {oc2 kV2 dc2 pm2 cd2 ct2 : Value}
    {f3 : Addr} {od3 an3 : Option Addr} {sl3 : Array (Option Value)} {oc3 kV3 dc3 pm3 cd3 ct3 : Value}
    {f4 : Addr} {od4 an4 : Option Addr} {sl4 : Array (Option Value)} {oc4 kV4 dc4 pm4 cd4 ct4 : Value}
    {f5 : Addr} {od5 an5 : Option Addr} {sl5 : Array (Option Value)} {oc5 kV5 dc5 pm5 cd5 ct5 : Value}
    {f6 : Addr} {od6 an6 : Option Addr} {sl6 : Array (Option Value)} {oc6 kV6 dc6 pm6 cd6 ct6 : Value}
    {f7 : Addr} {od7 an7 : Option Addr} {sl7 : Array (Option Value)} {oc7 kV7 dc7 pm7 cd7 ct7 : Value}
    {f8 : Addr} {od8 an8 : Option Addr} {sl8 : Array (Option Value)} {oc8 kV8 dc8 pm8 cd8 ct8 : Value}
    {f9 : Addr} {od9 an9 : Option Addr} {sl9 : Array (Option Value)} {oc9 kV9 dc9 pm9 cd9 ct9 : Value}
    {f10 : Addr} {od10 an10 : Option Addr} {sl10 : Array (Option Value)} {oc10 kV10 dc10 pm10 cd10 ct10 : Value}
    {f11 : Addr} {od11 an11 : Option Addr} {sl11 : Array (Option Value)} {oc11 kV11 dc11 pm11 cd11 ct11 : Value}
    {f12 : Addr} {od12 an12 : Option Addr} {sl12 : Array (Option Value)} {oc12 kV12 dc12 pm12 cd12 ct12 : Value}
    {f13 : Addr} {od13 an13 : Option Addr} {sl13 : Array (Option Value)} {oc13 kV13 dc13 pm13 cd13 ct13 : Value}
    {f14 : Addr} {od14 an14 : Option Addr} {sl14 : Array (Option Value)} {oc14 kV14 dc14 pm14 cd14 ct14 : Value}
    {f15 : Addr} {od15 an15 : Option Addr} {sl15 : Array (Option Value)} {oc15 kV15 dc15 pm15 cd15 ct15 : Value}
    {f16 : Addr} {od16 an16 : Option Addr} {sl16 : Array (Option Value)} {oc16 kV16 dc16 pm16 cd16 ct16 : Value}
    {f17 : Addr} {od17 an17 : Option Addr} {sl17 : Array (Option Value)} {oc17 kV17 dc17 pm17 cd17 ct17 : Value}
    {f18 : Addr} {od18 an18 : Option Addr} {sl18 : Array (Option Value)} {oc18 kV18 dc18 pm18 cd18 ct18 : Value}
    {f19 : Addr} {od19 an19 : Option Addr} {sl19 : Array (Option Value)} {oc19 kV19 dc19 pm19 cd19 ct19 : Value}
    {f20 : Addr} {od20 an20 : Option Addr} {sl20 : Array (Option Value)} {oc20 kV20 dc20 pm20 cd20 ct20 : Value}
    {f21 : Addr} {od21 an21 : Option Addr} {sl21 : Array (Option Value)} {oc21 kV21 dc21 pm21 cd21 ct21 : Value}
    {t0 : Tok}    {t1 : Tok}    {t2 : Tok}    {t3 : Tok}    {t4 : Tok}
    (a0 : PySem.W.nsIn K mainGlobals "_law_take" = some (some (.ref f0))) (l0 : K.lookup f0 = some ⟨oc0, od0, .func (PySem.W.fnOf "_law_take" "_law_take" (defArgs st_L_take) (defBody st_L_take) (defScope st_L_take) .none kV0 dc0 pm0 an0 cd0 ct0), sl0⟩)
    (c0 : PySem.W.codeIn K cd0 "_law_take" = true) (k0 : PySem.W.keepIn K (.ref f0) = true)
    (a1 : PySem.W.nsIn K mainGlobals "_law_bag" = some (some (.ref f1))) (l1 : K.lookup f1 = some ⟨oc1, od1, .func (PySem.W.fnOf "_law_bag" "_law_bag" (defArgs st_L_bag) (defBody st_L_bag) (defScope st_L_bag) .none kV1 dc1 pm1 an1 cd1 ct1), sl1⟩)
    (c1 : PySem.W.codeIn K cd1 "_law_bag" = true) (k1 : PySem.W.keepIn K (.ref f1) = true)
    (a2 : PySem.W.nsIn K mainGlobals "is_whole" = some (some (.ref f2))) (l2 : K.lookup f2 = some ⟨oc2, od2, .func (PySem.W.fnOf "is_whole" "is_whole" (defArgs st_is_whole) (defBody st_is_whole) (defScope st_is_whole) .none kV2 dc2 pm2 an2 cd2 ct2), sl2⟩)
    (c2 : PySem.W.codeIn K cd2 "is_whole" = true) (k2 : PySem.W.keepIn K (.ref f2) = true)
    (a3 : PySem.W.nsIn K mainGlobals "is_within" = some (some (.ref f3))) (l3 : K.lookup f3 = some ⟨oc3, od3, .func (PySem.W.fnOf "is_within" "is_within" (defArgs st_is_within) (defBody st_is_within) (defScope st_is_within) .none kV3 dc3 pm3 an3 cd3 ct3), sl3⟩)
    (c3 : PySem.W.codeIn K cd3 "is_within" = true) (k3 : PySem.W.keepIn K (.ref f3) = true)
    (a4 : PySem.W.nsIn K mainGlobals "is_name" = some (some (.ref f4))) (l4 : K.lookup f4 = some ⟨oc4, od4, .func (PySem.W.fnOf "is_name" "is_name" (defArgs st_is_name) (defBody st_is_name) (defScope st_is_name) .none kV4 dc4 pm4 an4 cd4 ct4), sl4⟩)
    (c4 : PySem.W.codeIn K cd4 "is_name" = true) (k4 : PySem.W.keepIn K (.ref f4) = true)
    (a5 : PySem.W.nsIn K mainGlobals "is_length" = some (some (.ref f5))) (l5 : K.lookup f5 = some ⟨oc5, od5, .func (PySem.W.fnOf "is_length" "is_length" (defArgs st_is_length) (defBody st_is_length) (defScope st_is_length) .none kV5 dc5 pm5 an5 cd5 ct5), sl5⟩)
    (c5 : PySem.W.codeIn K cd5 "is_length" = true) (k5 : PySem.W.keepIn K (.ref f5) = true)
    (a6 : PySem.W.nsIn K mainGlobals "is_rest" = some (some (.ref f6))) (l6 : K.lookup f6 = some ⟨oc6, od6, .func (PySem.W.fnOf "is_rest" "is_rest" (defArgs st_is_rest) (defBody st_is_rest) (defScope st_is_rest) .none kV6 dc6 pm6 an6 cd6 ct6), sl6⟩)
    (c6 : PySem.W.codeIn K cd6 "is_rest" = true) (k6 : PySem.W.keepIn K (.ref f6) = true)
    (a7 : PySem.W.nsIn K mainGlobals "are_beats" = some (some (.ref f7))) (l7 : K.lookup f7 = some ⟨oc7, od7, .func (PySem.W.fnOf "are_beats" "are_beats" (defArgs st_are_beats) (defBody st_are_beats) (defScope st_are_beats) .none kV7 dc7 pm7 an7 cd7 ct7), sl7⟩)
    (c7 : PySem.W.codeIn K cd7 "are_beats" = true) (k7 : PySem.W.keepIn K (.ref f7) = true)
    (a8 : PySem.W.nsIn K mainGlobals "is_stroke" = some (some (.ref f8))) (l8 : K.lookup f8 = some ⟨oc8, od8, .func (PySem.W.fnOf "is_stroke" "is_stroke" (defArgs st_is_stroke) (defBody st_is_stroke) (defScope st_is_stroke) .none kV8 dc8 pm8 an8 cd8 ct8), sl8⟩)
    (c8 : PySem.W.codeIn K cd8 "is_stroke" = true) (k8 : PySem.W.keepIn K (.ref f8) = true)
    (a9 : PySem.W.nsIn K mainGlobals "_law_alike" = some (some (.ref f9))) (l9 : K.lookup f9 = some ⟨oc9, od9, .func (PySem.W.fnOf "_law_alike" "_law_alike" (defArgs st_L_alike) (defBody st_L_alike) (defScope st_L_alike) .none kV9 dc9 pm9 an9 cd9 ct9), sl9⟩)
    (c9 : PySem.W.codeIn K cd9 "_law_alike" = true) (k9 : PySem.W.keepIn K (.ref f9) = true)
    (a10 : PySem.W.nsIn K mainGlobals "_law_whole" = some (some (.ref f10))) (l10 : K.lookup f10 = some ⟨oc10, od10, .func (PySem.W.fnOf "_law_whole" "_law_whole" (defArgs st_L_whole) (defBody st_L_whole) (defScope st_L_whole) .none kV10 dc10 pm10 an10 cd10 ct10), sl10⟩)
    (c10 : PySem.W.codeIn K cd10 "_law_whole" = true) (k10 : PySem.W.keepIn K (.ref f10) = true)
    (a11 : PySem.W.nsIn K mainGlobals "_law_name" = some (some (.ref f11))) (l11 : K.lookup f11 = some ⟨oc11, od11, .func (PySem.W.fnOf "_law_name" "_law_name" (defArgs st_L_name) (defBody st_L_name) (defScope st_L_name) .none kV11 dc11 pm11 an11 cd11 ct11), sl11⟩)
    (c11 : PySem.W.codeIn K cd11 "_law_name" = true) (k11 : PySem.W.keepIn K (.ref f11) = true)
    (a12 : PySem.W.nsIn K mainGlobals "_law_stroke" = some (some (.ref f12))) (l12 : K.lookup f12 = some ⟨oc12, od12, .func (PySem.W.fnOf "_law_stroke" "_law_stroke" (defArgs st_L_stroke) (defBody st_L_stroke) (defScope st_L_stroke) .none kV12 dc12 pm12 an12 cd12 ct12), sl12⟩)
    (c12 : PySem.W.codeIn K cd12 "_law_stroke" = true) (k12 : PySem.W.keepIn K (.ref f12) = true)
    (a13 : PySem.W.nsIn K mainGlobals "_law_due" = some (some (.ref f13))) (l13 : K.lookup f13 = some ⟨oc13, od13, .func (PySem.W.fnOf "_law_due" "_law_due" (defArgs st_L_due) (defBody st_L_due) (defScope st_L_due) .none kV13 dc13 pm13 an13 cd13 ct13), sl13⟩)
    (c13 : PySem.W.codeIn K cd13 "_law_due" = true) (k13 : PySem.W.keepIn K (.ref f13) = true)
    (a14 : PySem.W.nsIn K mainGlobals "_law_asked" = some (some (.ref f14))) (l14 : K.lookup f14 = some ⟨oc14, od14, .func (PySem.W.fnOf "_law_asked" "_law_asked" (defArgs st_L_asked) (defBody st_L_asked) (defScope st_L_asked) .none kV14 dc14 pm14 an14 cd14 ct14), sl14⟩)
    (c14 : PySem.W.codeIn K cd14 "_law_asked" = true) (k14 : PySem.W.keepIn K (.ref f14) = true)
    (a15 : PySem.W.nsIn K mainGlobals "_law_word" = some (some (.ref f15))) (l15 : K.lookup f15 = some ⟨oc15, od15, .func (PySem.W.fnOf "_law_word" "_law_word" (defArgs st_L_word) (defBody st_L_word) (defScope st_L_word) .none kV15 dc15 pm15 an15 cd15 ct15), sl15⟩)
    (c15 : PySem.W.codeIn K cd15 "_law_word" = true) (k15 : PySem.W.keepIn K (.ref f15) = true)
    (a16 : PySem.W.nsIn K mainGlobals "_law_number" = some (some (.ref f16))) (l16 : K.lookup f16 = some ⟨oc16, od16, .func (PySem.W.fnOf "_law_number" "_law_number" (defArgs st_L_number) (defBody st_L_number) (defScope st_L_number) .none kV16 dc16 pm16 an16 cd16 ct16), sl16⟩)
    (c16 : PySem.W.codeIn K cd16 "_law_number" = true) (k16 : PySem.W.keepIn K (.ref f16) = true)
    (a17 : PySem.W.nsIn K mainGlobals "_law_names" = some (some (.ref f17))) (l17 : K.lookup f17 = some ⟨oc17, od17, .func (PySem.W.fnOf "_law_names" "_law_names" (defArgs st_L_names) (defBody st_L_names) (defScope st_L_names) .none kV17 dc17 pm17 an17 cd17 ct17), sl17⟩)
    (c17 : PySem.W.codeIn K cd17 "_law_names" = true) (k17 : PySem.W.keepIn K (.ref f17) = true)
    (a18 : PySem.W.nsIn K mainGlobals "_law_odd" = some (some (.ref f18))) (l18 : K.lookup f18 = some ⟨oc18, od18, .func (PySem.W.fnOf "_law_odd" "_law_odd" (defArgs st_L_odd) (defBody st_L_odd) (defScope st_L_odd) .none kV18 dc18 pm18 an18 cd18 ct18), sl18⟩)
    (c18 : PySem.W.codeIn K cd18 "_law_odd" = true) (k18 : PySem.W.keepIn K (.ref f18) = true)
    (a19 : PySem.W.nsIn K mainGlobals "_law_list" = some (some (.ref f19))) (l19 : K.lookup f19 = some ⟨oc19, od19, .func (PySem.W.fnOf "_law_list" "_law_list" (defArgs st_L_list) (defBody st_L_list) (defScope st_L_list) .none kV19 dc19 pm19 an19 cd19 ct19), sl19⟩)
    (c19 : PySem.W.codeIn K cd19 "_law_list" = true) (k19 : PySem.W.keepIn K (.ref f19) = true)
    (a20 : PySem.W.nsIn K mainGlobals "_law_thing" = some (some (.ref f20))) (l20 : K.lookup f20 = some ⟨oc20, od20, .func (PySem.W.fnOf "_law_thing" "_law_thing" (defArgs st_L_thing) (defBody st_L_thing) (defScope st_L_thing) .none kV20 dc20 pm20 an20 cd20 ct20), sl20⟩)
    (c20 : PySem.W.codeIn K cd20 "_law_thing" = true) (k20 : PySem.W.keepIn K (.ref f20) = true)
    (a21 : PySem.W.nsIn K mainGlobals "law" = some (some (.ref f21))) (l21 : K.lookup f21 = some ⟨oc21, od21, .func (PySem.W.fnOf "law" "law" (defArgs st_law) (defBody st_law) (defScope st_law) .none kV21 dc21 pm21 an21 cd21 ct21), sl21⟩)
    (c21 : PySem.W.codeIn K cd21 "law" = true) (k21 : PySem.W.keepIn K (.ref f21) = true)
    (z0 : PySem.W.nsIn K mainGlobals "len" = some none)
    (z1 : PySem.W.nsIn K mainGlobals "abs" = some none)
    (z2 : PySem.W.nsIn K mainGlobals "isinstance" = some none)
    (z3 : PySem.W.nsIn K mainGlobals "int" = some none)
    (z4 : PySem.W.nsIn K mainGlobals "bool" = some none)
    (z5 : PySem.W.nsIn K mainGlobals "str" = some none)
    (z6 : PySem.W.nsIn K mainGlobals "list" = some none)
    (z7 : PySem.W.nsIn K mainGlobals "tuple" = some none)
    (z8 : PySem.W.nsIn K mainGlobals "set" = some none)
    (z9 : PySem.W.nsIn K mainGlobals "range" = some none)
    (z10 : PySem.W.nsIn K mainGlobals "all" = some none)
    (z11 : PySem.W.nsIn K mainGlobals "repr" = some none)
    (m0 : PySem.W.nsIn K mainGlobals "GREATEST_LENGTH" = some (some (.int (10 ^ 9) t0)))
    (m1 : PySem.W.nsIn K mainGlobals "GREATEST_REST" = some (some (.int (10 ^ 18) t1)))
    (m2 : PySem.W.nsIn K mainGlobals "GREATEST_BEATS" = some (some (.int (10 ^ 30) t2)))
    (m3 : PySem.W.nsIn K mainGlobals "MOST_LETTERS" = some (some (.int (8) t3)))
    (m4 : PySem.W.nsIn K mainGlobals "MOST_SLEEPERS" = some (some (.int (40) t4)))
    : Top K mg := ⟨⟨PySem.W.mg_none_of X G z0, PySem.W.mg_none_of X G z1, PySem.W.mg_none_of X G z2, PySem.W.mg_none_of X G z3, PySem.W.mg_none_of X G z4, PySem.W.mg_none_of X G z5, PySem.W.mg_none_of X G z6, PySem.W.mg_none_of X G z7, PySem.W.mg_none_of X G z8, PySem.W.mg_none_of X G z9, PySem.W.mg_none_of X G z10, PySem.W.mg_none_of X G z11⟩, ⟨int_in X G m0, int_in X G m1, int_in X G m2, int_in X G m3, int_in X G m4⟩, def_in X G a0 l0 c0 k0, def_in X G a1 l1 c1 k1, def_in X G a2 l2 c2 k2, def_in X G a3 l3 c3 k3, def_in X G a4 l4 c4 k4, def_in X G a5 l5 c5 k5, def_in X G a6 l6 c6 k6, def_in X G a7 l7 c7 k7, def_in X G a8 l8 c8 k8, def_in X G a9 l9 c9 k9, def_in X G a10 l10 c10 k10, def_in X G a11 l11 c11 k11, def_in X G a12 l12 c12 k12, def_in X G a13 l13 c13 k13, def_in X G a14 l14 c14 k14, def_in X G a15 l15 c15 k15, def_in X G a16 l16 c16 k16, def_in X G a17 l17 c17 k17, def_in X G a18 l18 c18 k18, def_in X G a19 l19 c19 k19, def_in X G a20 l20 c20 k20, def_in X G a21 l21 c21 k21⟩
end Kk
open PySem PySem.W PyProof.Rows
set_option maxRecDepth 100000 in
set_option maxHeartbeats 0 in
theorem PySem.Challenge.cw_sleepmany_k11_kinds_known_holds : PySem.Challenge.rw_sleepmany_k11_kinds_known.Holds := by
  w_on; o_law; k_head; (case hw => w_witness2)
  k_fill
  refine Lb.walkG (l := PySem.Challenge.rw_sleepmany_k11_kinds_known) (n := 63) (k := 5) (x := "_law_script") (sp := Kk.spLaw) rfl (by decide) rfl ⟨rfl, by decide, by decide⟩ (fun w h Y => PySem.W.kIn_of Y) ?F (fun K H a ns hl _ _ hS => ⟨a, ns, rfl, hS, hl, fun _ => rfl⟩)
  case F =>
    intro w mg fa h KX G hmg
    refine' Kk.all_mk (Kk.top_mk KX G ?a0 ?l0 ?c0 ?k0 ?a1 ?l1 ?c1 ?k1 ?a2 ?l2 ?c2 ?k2 ?a3 ?l3 ?c3 ?k3 ?a4 ?l4 ?c4 ?k4 ?a5 ?l5 ?c5 ?k5 ?a6 ?l6 ?c6 ?k6 ?a7 ?l7 ?c7 ?k7 ?a8 ?l8 ?c8 ?k8 ?a9 ?l9 ?c9 ?k9 ?a10 ?l10 ?c10 ?k10 ?a11 ?l11 ?c11 ?k11 ?a12 ?l12 ?c12 ?k12 ?a13 ?l13 ?c13 ?k13 ?a14 ?l14 ?c14 ?k14 ?a15 ?l15 ?c15 ?k15 ?a16 ?l16 ?c16 ?k16 ?a17 ?l17 ?c17 ?k17 ?a18 ?l18 ?c18 ?k18 ?a19 ?l19 ?c19 ?k19 ?a20 ?l20 ?c20 ?k20 ?a21 ?l21 ?c21 ?k21 ?z0 ?z1 ?z2 ?z3 ?z4 ?z5 ?z6 ?z7 ?z8 ?z9 ?z10 ?z11 ?m0 ?m1 ?m2 ?m3 ?m4) hmg
    (case a0 => k_is)
    (case l0 => k_is)
    (case c0 => k_is)
    (case k0 => k_is)
    (case a1 => k_is)
    (case l1 => k_is)
    (case c1 => k_is)
    (case k1 => k_is)
    (case a2 => k_is)
    (case l2 => k_is)
    (case c2 => k_is)
    (case k2 => k_is)
    (case a3 => k_is)
    (case l3 => k_is)
    (case c3 => k_is)
    (case k3 => k_is)
    (case a4 => k_is)
    (case l4 => k_is)
    (case c4 => k_is)
    (case k4 => k_is)
    (case a5 => k_is)
    (case l5 => k_is)
    (case c5 => k_is)
    (case k5 => k_is)
    (case a6 => k_is)
    (case l6 => k_is)
    (case c6 => k_is)
    (case k6 => k_is)
    (case a7 => k_is)
    (case l7 => k_is)
    (case c7 => k_is)
    (case k7 => k_is)
    (case a8 => k_is)
    (case l8 => k_is)
    (case c8 => k_is)
    (case k8 => k_is)
    (case a9 => k_is)
    (case l9 => k_is)
    (case c9 => k_is)
    (case k9 => k_is)
    (case a10 => k_is)
    (case l10 => k_is)
    (case c10 => k_is)
    (case k10 => k_is)
    (case a11 => k_is)
    (case l11 => k_is)
    (case c11 => k_is)
    (case k11 => k_is)
    (case a12 => k_is)
    (case l12 => k_is)
    (case c12 => k_is)
    (case k12 => k_is)
    (case a13 => k_is)
    (case l13 => k_is)
    (case c13 => k_is)
    (case k13 => k_is)
    (case a14 => k_is)
    (case l14 => k_is)
    (case c14 => k_is)
    (case k14 => k_is)
    (case a15 => k_is)
    (case l15 => k_is)
    (case c15 => k_is)
    (case k15 => k_is)
    (case a16 => k_is)
    (case l16 => k_is)
    (case c16 => k_is)
    (case k16 => k_is)
    (case a17 => k_is)
    (case l17 => k_is)
    (case c17 => k_is)
    (case k17 => k_is)
    (case a18 => k_is)
    (case l18 => k_is)
    (case c18 => k_is)
    (case k18 => k_is)
    (case a19 => k_is)
    (case l19 => k_is)
    (case c19 => k_is)
    (case k19 => k_is)
    (case a20 => k_is)
    (case l20 => k_is)
    (case c20 => k_is)
    (case k20 => k_is)
    (case a21 => k_is)
    (case l21 => k_is)
    (case c21 => k_is)
    (case k21 => k_is)
    (case z0 => k_is)
    (case z1 => k_is)
    (case z2 => k_is)
    (case z3 => k_is)
    (case z4 => k_is)
    (case z5 => k_is)
    (case z6 => k_is)
    (case z7 => k_is)
    (case z8 => k_is)
    (case z9 => k_is)
    (case z10 => k_is)
    (case z11 => k_is)
    (case m0 => k_is)
    (case m1 => k_is)
    (case m2 => k_is)
    (case m3 => k_is)
    (case m4 => k_is)
#print axioms PySem.Challenge.cw_sleepmany_k11_kinds_known_holds

