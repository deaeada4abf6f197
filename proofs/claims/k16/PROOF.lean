import PyProof.Rows.All
import Wide.All
import OpenK.AllK
import Wide.FinOn
import PySem.Challenge.RW_sleepmany_k16_refusals_apart
import HandS.ForMost
import HandS.IsInst
import HandS.Wide
import HandS.EndBits
import HandS.Evl
import HandS.Strs
import HandS.Exc
import HandS.ExcOwn
import HandS.ExcInit
import HandS.ExcField
import HandS.ExcIs
import HandS.WordsExc
import HandS.FStr
import HandS.Flow
import KE.KExcIs
import HandS.HotCalls
import HandS.Conv
import HandS.Style
import HandS.ExcValue
import HandS.TryMany
import HandS.DictEq
import HandS.DeepEq
import PyProof.P3Eq
set_option Elab.async false
set_option linter.all false
set_option maxRecDepth 100000
set_option maxHeartbeats 2000000
namespace Lb
open PySem PySem.Spec PyProof.Rows L2

/-! ### 1. Defs that show things: called where no showing is under way -/
section
variable (P : Program) (w : World) (K : PySem.W.Frag) (mg : Str → Option Value) (base : Heap)
/-- a def keeps sp wherever nothing is being shown -/
structure FnG (k : Nat) (f : Addr) (fd : FuncData) (ps : List Str) (sp : Sp) : Prop where
  many : ∀ vs H Q E, sp vs H Q E → vs.length = ps.length
  go : ∀ (A : Around) (outer : List Env) (s : Shared) (H : Hp) (args : Args) (us : List Value) (vs : List V) (Q : VK) (E : XK),
    Room k A → A.guards = some [] → Env0 P w K mg base A outer s H → BindsTo s fd args (ps.zip us) → Vals vs us → sp vs H Q E →
      codeAny (model P w) A (.call (.ref f) args) (CR CX0 outer P w H s Q E) s
/-- a def of the module that can be called by its name -/
structure Cal (k : Nat) (x : Str) (sp : Sp) : Prop where
  ex : ∃ (f : Addr) (fd : FuncData) (ps : List Str), FnOk P w K mg base CX0 k f fd ps sp ∧ mg x = some (.ref f) ∧ PySem.W.keepIn K (.ref f) = true ∧ Binds K fd ps []
structure CalG (k : Nat) (x : Str) (sp : Sp) : Prop where
  ex : ∃ (f : Addr) (fd : FuncData) (ps : List Str), FnG P w K mg base k f fd ps sp ∧ mg x = some (.ref f) ∧ PySem.W.keepIn K (.ref f) = true ∧ Binds K fd ps []
end
section
variable {P : Program} {w : World} {K : PySem.W.Frag} {mg : Str → Option Value} {base : Heap}
theorem fnG_of {x qual : Str} {st : Stmt} {f : Addr} {fd : FuncData} {N ps : List Str} {k : Nat} {sp : Sp} (F : Fun K x qual st f fd)
    (S : FnScope N ps (defScope st)) (many : ∀ vs H Q E, sp vs H Q E → vs.length = ps.length)
    (body : ∀ (cdv : Value) (A : Around) (outer : List Env) (s : Shared) (H : Hp) (vs : List V) (Q : VK) (E : XK), A.guards = some [] →
      Room k (A.deeper (envOfC qual (defScope st) s.heap.objs.size f cdv)) → sp vs H Q E →
      ∃ t, PSs (cxOf CX0 P w K mg base N qual (defScope st) f cdv A outer s H E).nox (defBody st) t ∧ t { nx := fun _ H' => Q .non H', rt := Q } (L2.start N vs) H) :
    FnG P w K mg base (k + 1) f fd ps sp := by
  obtain ⟨oc, od, kV, doc, pm, an, cdv, ct, osl, rfl, lk, hcd⟩ := F.ex
  constructor
  · exact many
  intro A outer s H args us vs Q E room noG e0 bindsTo vals wish
  have old : ∀ b o, base.get? b = some o → s.heap.get? b = some o := fun b o z => (e0.bs b o z).1
  have inK := e0.mod.kin.keeps old
  have kinds : ∀ y ∈ ps.zip us, (defScope st).names.lookup y.1 = some .local ∨
      ((defScope st).names.lookup y.1 = some .cell ∧ ((cellsFrom (s.heap.objs.size + 1) (defScope st).names []).lookup y.1).isSome = true) := by
    rintro ⟨n, v⟩ hy
    exact (S.par n (List.of_mem_zip hy).1).imp id fun q => ⟨q, PySem.W.cellsFrom_some _ _ _ (.inl q)⟩
  refine codeAny_call_function room.depth (inK _ _ lk) rfl S.co S.gen rfl (PySem.W.codeRec_of inK hcd) (bindsTo _ _ _ _ ?_)
  refine wpAny_newFunctionEnv_cells S.kind kinds ?_
  rintro env rfl s1 x
  refine ⟨(e0.mod.nolimit.keeps old).keeps x.toInCall.keep, codeAny_func ?_⟩
  obtain ⟨t, ht, hq⟩ := body cdv A outer s H vs Q E noG (room.deeper _) wish
  have J0 := inv_start (CX := CX0) (E := E) S room.hd e0 (many _ _ _ _ wish) vals x
  refine wpAny_mono (ht.nox.run [] s1 (L2.start N vs) H _ J0 hq) ?_ fun e s' hs => hs
  intro fl s' hs
  cases fl with
  | next =>
    obtain ⟨σ', H', J, q⟩ := hs
    exact ⟨V.non, H', J.os, J.bare, J.base, J.hok, rfl, q⟩
  | ret u =>
    obtain ⟨v, σ', H', J, rv, q⟩ := hs
    exact ⟨v, H', J.os, J.bare, J.base, J.hok, rv, q⟩
  | brk => exact (let ⟨_, _, _, q⟩ := hs; q : False).elim
  | cont => exact (let ⟨_, _, _, q⟩ := hs; q : False).elim
end
section
variable {X : Cx} {x : Str} {p pos : Pos} {e : Expr} {es : List Expr} {t : TA} {k j : Nat} {sp : Sp}
theorem pe_n (c : Cal X.prog X.w X.K X.mg X.base k x sp) (hr : Room j X.A) (hk : k ≤ j) (hg : Gl X x) (ha : PA X (e :: es) t)
    (h1 : (x == ("__debug__" : Str)) = false := by decide) (h2 : starEach (e :: es) X.env = (false, eval e X.env) :: starEach es X.env := by rfl)
    (h3 : (backTo pos (starEach es X.env)).any (·.1) = false := by rfl) : PE X (.Call (.Name x p) (e :: es) [] pos) (tCall sp [] E0 t) := by
  obtain ⟨f, fd, ps, F, hm, kp, b⟩ := c.ex
  exact pe_call F (hr.mono hk) hg hm kp b .nil pass0 ha h1 h2 h3
def tG (sp : Sp) (t : TA) : TE := fun σ H Q => t σ H fun vs H1 => sp vs H1 Q E0
theorem pe_g (c : CalG X.prog X.w X.K X.mg X.base k x sp) (noG : X.A.guards = some []) (hr : Room j X.A) (hk : k ≤ j) (hg : Gl X x) (ha : PA X (e :: es) t)
    (h1 : (x == ("__debug__" : Str)) = false := by decide) (h2 : starEach (e :: es) X.env = (false, eval e X.env) :: starEach es X.env := by rfl)
    (h3 : (backTo pos (starEach es X.env)).any (·.1) = false := by rfl) : PE X (.Call (.Name x p) (e :: es) [] pos) (tG sp t) := by
  obtain ⟨f, fd, ps, F, hm, kp, b⟩ := c.ex
  constructor
  intro pins s σ H Q I h
  refine wpAny_Call_Name_kw (ld_glob I hg hm ?_ h1)
  refine PySem.W.callWith_K (h₀ := X.base) I.ok.mod.kin kp (thn (ha.run pos pins s σ H _ I h) ?_) h2 h3
  rintro us s1 ⟨vs, H1, I1, r, q⟩
  refine ⟨I1.kIn, ?_⟩
  have len : us.length = ps.length := r.length.symm.trans (F.many _ _ _ _ q)
  have bt := b s1 us I1.kIn (by rw [List.append_nil]; exact len)
  rw [List.append_nil] at bt
  refine wpAny_call (codeAny_mono (F.go X.A X.stack s1 H1 ⟨us, []⟩ us vs Q E0 (hr.mono hk) noG I1.env0 bt r q) ?_)
  intro z s' hq
  cases z with
  | error e => exact False.elim hq
  | ok fl => cases fl with
    | ret u => exact I1.after hq
    | next => exact False.elim hq
    | brk => exact False.elim hq
    | cont => exact False.elim hq
end
end Lb

set_option maxHeartbeats 2000000
namespace Lb
open PySem PySem.Spec PyProof.Rows L2
/-! ### 2. The law's own call: nothing is being shown there -/
/-- the abstract heap of the start: the script alone, where it is not the module's -/
theorem start_heap {P : Program} {w : World} {K : PySem.W.Frag} {h : Heap} {a : Addr} {vs : List Value} {ns : List Int} (KX : K.In h)
    (ha : h.get? a = some { cls := .type "list", data := .seq vs.toArray }) (hi : IntsAre vs ns) (hl : ns.length ≤ sizeLine) :
    ∃ H : Hp, Only H ∧ SqL K H a (ns.map V.int) ∧ HOk P w H h ∧ (∀ b, H b ≠ none → b = a) ∧ (H a ≠ none → K.lookup a = none) := by
  have rv := vals_ints hi
  cases hk : K.lookup a with
  | some o =>
    have e := (KX a o hk).symm.trans ha
    cases e
    refine ⟨fun _ => none, fun _ => .inl rfl, .inr ?_, (fun b u z => nomatch z), fun b z => absurd rfl z, fun z => absurd rfl z⟩
    exact ⟨_, vs.toArray, _, hk, rfl, rfl, rfl, by rw [List.size_toArray, hi.length]; exact hl, by simpa using rv⟩
  | none =>
    refine ⟨fun b => if b = a then some (.frz { cls := .type "list", data := .seq vs.toArray } (.lst (ns.map V.int))) else none, ?_, .inl (.inr ⟨_, if_pos rfl⟩), ?_, ?_, fun _ => rfl⟩
    · intro b
      by_cases hb : b = a
      · exact .inr ⟨_, _, if_pos hb⟩
      · exact .inl (if_neg hb)
    · intro b u z
      by_cases hb : b = a
      · subst hb
        have z2 := (if_pos rfl).symm.trans z
        cases z2
        exact ⟨ha, by rw [List.length_map]; exact hl, vs, _, rv, ha⟩
      · have z2 := (if_neg hb).symm.trans z
        cases z2
    · intro b z
      by_cases hb : b = a
      · exact hb
      · exact absurd (if_neg hb) z
theorem law_at {P : Program} {w : World} {K : PySem.W.Frag} {mg mb : Str → Option Value} {k : Nat} {fa a : Addr} {fd : FuncData} {x : Str} {sp : Sp} {s : Shared} {vs : List Value} {ns : List Int}
    (KX : K.In s.heap) (hns : s.heap.Ns mainGlobals mg) (hb : s.heap.Ns builtinsNs mb) (hbb : ∀ x : Str, x ≠ "__name__" → mb x = bootBuiltins x) (hlim : s.heap.NoLimit) (hg : s.gens = #[])
    (ha : s.heap.get? a = some { cls := .type "list", data := .seq vs.toArray }) (hi : IntsAre vs ns) (hl : ns.length ≤ sizeLine) (hr : Room k callerA)
    (F : ∀ base : Heap, K.In base → base.Ns mainGlobals mg → FnG P w K mg base k fa fd [x] sp) (hbind : ∀ (s : Shared) (u : Value), BindsTo s fd ⟨[u], []⟩ [(x, u)])
    (hsp : ∀ H : Hp, Only H → SqL K H a (ns.map V.int) → sp [.ref a] H (fun v _ => v = .bl true) E0) :
    codeAny (model P w) callerA (.call (.ref fa) ⟨[.ref a], []⟩) (fun r s' => r = .ok (.ret (.bool true)) ∧ OldK s.heap s'.heap ∧ s'.os = s.os ∧ AllBare s'.gens) s := by
  obtain ⟨H, hO, hS, hok, hA, hK⟩ := start_heap (P := P) (w := w) KX ha hi hl
  have untracked : ∀ {b : Addr} {o : Obj}, s.heap.get? b = some o → b ≠ a → H b = none := fun {b o} _ ne => by
    cases q : H b with
    | none => rfl
    | some u => exact absurd (hA b (by rw [q]; exact fun z => nomatch z)) ne
  have dictNe : ∀ {b : Addr} {o : Obj} {es : Array DictEntry} {ep : Nat}, s.heap.get? b = some o → o.data = .dict es ep → b ≠ a := by
    intro b o es ep e d z
    subst z
    have e2 := e.symm.trans ha
    cases e2
    exact nomatch d
  have nsB : ∀ {b : Addr} {m : Str → Option Value}, s.heap.Ns b m → (hidT s.heap H).Ns b m := by
    rintro b m ⟨o, es, ep, e, d, r⟩
    exact ⟨o, es, ep, hidT_get e (untracked e (dictNe e d)), d, r⟩
  have kB : K.In (hidT s.heap H) := by
    intro b o e
    refine hidT_get (KX b o e) ?_
    cases q : H b with
    | none => rfl
    | some u =>
      have z : b = a := hA b (by rw [q]; exact fun z => nomatch z)
      subst z
      have n := hK (by rw [q]; exact fun z => nomatch z)
      rw [n] at e
      cases e
  obtain ⟨mc, l1, l2⟩ := hlim
  have hM : Mod K mg (hidT s.heap H) := ⟨kB, nsB hns, ⟨mb, nsB hb, hbb⟩, ⟨mc, nsB l1, l2⟩⟩
  have e0 : Env0 P w K mg (hidT s.heap H) callerA [] s H :=
    { frames := rfl, mod := hM, bs := fun b o e => of_hidT e, bsz := Nat.le_of_eq (hidT_size _ _), funs := trivial, frf := (fun b hb => nomatch hb), hok := hok, bare := .of_eq hg }
  have run := (F _ kB (nsB hns)).go callerA [] s H ⟨[.ref a], []⟩ [.ref a] [.ref a] _ _ hr rfl e0 (hbind s (.ref a)) (.cons rfl .nil) (hsp H hO hS)
  refine codeAny_mono run ?_
  intro r s' h
  cases r with
  | error e => exact False.elim h
  | ok fl =>
    cases fl with
    | next => exact False.elim h
    | brk => exact False.elim h
    | cont => exact False.elim h
    | ret u =>
      obtain ⟨v, H', os, bare, un, hok', rv, rfl⟩ := h
      obtain rfl : u = Value.bool true := rv
      refine ⟨rfl, OldK.of_keep ?_, os, bare⟩
      intro b o e
      rcases hO b with q | ⟨ob, xs, q⟩
      · exact un.keep b o e q (fun z => nomatch z) (fun z => nomatch z)
      · have e1 := (hok b _ q).1
        have e2 := (hok' b _ (un.frzs b ob _ q)).1
        rw [e1] at e
        cases e
        exact e2
theorem walkG {l : PySem.W.OpenLaw} {n k : Nat} {q : Program} {loose : List Str} {XP : (Str → Option Value) → Heap → Prop} {YP : World → Heap → Prop} {d : DefRec} {K : Params → PySem.W.Frag} {sp : PySem.W.Frag → Sp} {x : Str}
    (hn : l.most = some n) (hn2 : n ≤ sizeLine) (hdf : d.params.defaults = []) (hr : Room k callerA) (hY : ∀ (w : World) (h : Heap), YP w h → (K w.params).In h)
    (F : ∀ (w : World) (mg : Str → Option Value) (fa : Addr) (h : Heap), (K w.params).In h → h.Ns mainGlobals mg → mg d.name = some (.ref fa) →
      ∃ fd : FuncData, (∀ (s : Shared) (u : Value), BindsTo s fd ⟨[u], []⟩ [(x, u)]) ∧
        ∀ base : Heap, (K w.params).In base → base.Ns mainGlobals mg → FnG l.prog w (K w.params) mg base k fa fd [x] (sp (K w.params)))
    (hsp : ∀ (K : PySem.W.Frag) (H : Hp) (a : Addr) (ns : List Int), ns.length ≤ n → (∀ z ∈ ns, Builtin.Int.intBits z ≤ 1048576) → Only H → SqL K H a (ns.map V.int) → sp K [.ref a] H (fun v _ => v = .bl true) E0) :
    PySem.W.WalkO q loose XP YP l.row.toRowW d [] (fun f vs => PySem.call f vs) := by
  refine Att.attach_callB hn hdf ?_
  intro w s₀ s₁ mg mb fa o pm cd doc a vs ns G Y ho hd hcd hmg hobj hints hlen hbits hg
  have KX := hY w _ Y
  obtain ⟨fd, hb, hF⟩ := F w mg fa _ KX G.T.g hmg
  exact law_at KX G.T.g G.T.b G.T.builtins G.T.nolimit hg hobj hints (Nat.le_trans hlen hn2) hr hF hb fun H hO hS => hsp _ H a ns hlen hbits hO hS
end Lb

set_option maxHeartbeats 2000000
namespace Lb
open PySem PySem.Spec PyProof.Rows L2
/-! ### 3. Things: plain data, as they lie in the abstract heap, away from the object at b -/
def sD : V → PyData
  | .bl x => .bool x
  | .int i => .int i
  | .str z => .str z
  | _ => .none
def isSc : V → Bool
  | .non | .bl _ | .int _ | .str _ => true
  | _ => false
def keyD : Key → PyData
  | .inl i => .int i
  | .inr z => .str z
mutual
/-- the value v is the thing d -/
def Dat (b : Addr) (H : Hp) : PyData → V → Prop
  | .none, v => v = .non
  | .bool x, v => v = .bl x
  | .int i, v => v = .int i
  | .str z, v => v = .str z
  | .list ds, v => ∃ a vs, v = .ref a ∧ a ≠ b ∧ H a = some (.lst vs) ∧ Dats b H ds vs
  | .tuple ds, v => ∃ a vs, v = .ref a ∧ a ≠ b ∧ H a = some (.tup vs) ∧ Dats b H ds vs
  | .dict kvs, v => ∃ a es, v = .ref a ∧ a ≠ b ∧ H a = some (.dK es) ∧ kvs = es.map (fun e => (keyD e.1, sD e.2)) ∧ es.all (fun e => isSc e.2) = true
def Dats (b : Addr) (H : Hp) : List PyData → List V → Prop
  | [], vs => vs = []
  | d :: ds, vs => ∃ v r, vs = v :: r ∧ Dat b H d v ∧ Dats b H ds r
end
/-- all but the object at b stays -/
def Kp (b : Addr) (H H' : Hp) : Prop := ∀ a o, a ≠ b → H a = some o → H' a = some o
theorem Kp.refl {b : Addr} (H : Hp) : Kp b H H := fun _ _ _ h => h
theorem Kp.trans {b : Addr} {H H1 H2 : Hp} (x : Kp b H H1) (y : Kp b H1 H2) : Kp b H H2 := fun a o n h => y a o n (x a o n h)
theorem Kp.new {b p : Addr} {H : Hp} {o : HO} (h : H p = none) : Kp b H (upd H p o) := fun a u _ z => by
  rw [upd_ne (ne_of_none z h)]
  exact z
theorem Kp.own {b : Addr} {H : Hp} {o : HO} : Kp b H (upd H b o) := fun a u n z => by
  rw [upd_ne n]
  exact z
theorem Kp.of_same {b : Addr} {H H' : Hp} (h : Same H H') : Kp b H H' := fun a o _ z => h a o z
mutual
theorem Dat.mono {b : Addr} {H H' : Hp} (k : Kp b H H') : ∀ {d : PyData} {v : V}, Dat b H d v → Dat b H' d v
  | .none, _, h => by simpa only [Dat] using h
  | .bool _, _, h => by simpa only [Dat] using h
  | .int _, _, h => by simpa only [Dat] using h
  | .str _, _, h => by simpa only [Dat] using h
  | .list ds, v, h => by
    simp only [Dat] at h ⊢
    obtain ⟨a, vs, e, n, z, q⟩ := h
    exact ⟨a, vs, e, n, k a _ n z, Dats.mono k q⟩
  | .tuple ds, v, h => by
    simp only [Dat] at h ⊢
    obtain ⟨a, vs, e, n, z, q⟩ := h
    exact ⟨a, vs, e, n, k a _ n z, Dats.mono k q⟩
  | .dict kvs, v, h => by
    simp only [Dat] at h ⊢
    obtain ⟨a, es, e, n, z, q⟩ := h
    exact ⟨a, es, e, n, k a _ n z, q⟩
theorem Dats.mono {b : Addr} {H H' : Hp} (k : Kp b H H') : ∀ {ds : List PyData} {vs : List V}, Dats b H ds vs → Dats b H' ds vs
  | [], _, h => by simpa only [Dats] using h
  | d :: ds, vs, h => by
    simp only [Dats] at h ⊢
    obtain ⟨v, r, e, x, y⟩ := h
    exact ⟨v, r, e, Dat.mono k x, Dats.mono k y⟩
end
theorem Dats.length {b : Addr} {H : Hp} : ∀ {ds : List PyData} {vs : List V}, Dats b H ds vs → ds.length = vs.length
  | [], _, h => by
    simp only [Dats] at h
    rw [h]
    rfl
  | d :: ds, vs, h => by
    simp only [Dats] at h
    obtain ⟨v, r, rfl, _, y⟩ := h
    rw [List.length_cons, List.length_cons, Dats.length y]
theorem Dats.get {b : Addr} {H : Hp} : ∀ {ds : List PyData} {vs : List V} {i : Nat} {v : V}, Dats b H ds vs → vs[i]? = some v → ∃ d, ds[i]? = some d ∧ Dat b H d v
  | [], vs, i, v, h, e => by
    simp only [Dats] at h
    rw [h] at e
    simp at e
  | d :: ds, vs, i, v, h, e => by
    simp only [Dats] at h
    obtain ⟨x, r, rfl, y, z⟩ := h
    cases i with
    | zero =>
      simp at e
      subst e
      exact ⟨d, rfl, y⟩
    | succ i =>
      simp at e
      obtain ⟨d', h1, h2⟩ := Dats.get z e
      exact ⟨d', by simpa using h1, h2⟩
theorem Dats.app {b : Addr} {H : Hp} : ∀ {ds es : List PyData} {vs us : List V}, Dats b H ds vs → Dats b H es us → Dats b H (ds ++ es) (vs ++ us)
  | [], es, vs, us, h, k => by
    simp only [Dats] at h
    rw [h]
    exact k
  | d :: ds, es, vs, us, h, k => by
    simp only [Dats] at h
    obtain ⟨x, r, rfl, y, z⟩ := h
    show Dats b H (d :: (ds ++ es)) (x :: (r ++ us))
    simp only [Dats]
    exact ⟨x, r ++ us, rfl, y, Dats.app z k⟩
theorem Dats.tk {b : Addr} {H : Hp} : ∀ {ds : List PyData} {vs : List V} (n : Nat), Dats b H ds vs → Dats b H (ds.take n) (vs.take n)
  | ds, vs, 0, h => by
    show Dats b H [] []
    simp only [Dats]
  | [], vs, n + 1, h => by
    simp only [Dats] at h
    rw [h]
    simp only [List.take_nil, Dats]
  | d :: ds, vs, n + 1, h => by
    simp only [Dats] at h
    obtain ⟨x, r, rfl, y, z⟩ := h
    show Dats b H (d :: ds.take n) (x :: r.take n)
    simp only [Dats]
    exact ⟨x, _, rfl, y, Dats.tk n z⟩
theorem Dats.dp {b : Addr} {H : Hp} : ∀ {ds : List PyData} {vs : List V} (n : Nat), Dats b H ds vs → Dats b H (ds.drop n) (vs.drop n)
  | ds, vs, 0, h => h
  | [], vs, n + 1, h => by
    simp only [Dats] at h
    rw [h]
    simp only [List.drop_nil, Dats]
  | d :: ds, vs, n + 1, h => by
    simp only [Dats] at h
    obtain ⟨x, r, rfl, y, z⟩ := h
    exact Dats.dp n z
theorem dats_strs {b : Addr} {H : Hp} : ∀ ws : List Str, Dats b H (ws.map PyData.str) (ws.map V.str)
  | [] => by simp only [List.map_nil, Dats]
  | x :: r => by
    simp only [List.map_cons, Dats, Dat]
    exact ⟨_, _, rfl, rfl, dats_strs r⟩
/-! how they lie in the heap itself -/
theorem reads_sc {h : Heap} {v : V} {u : Value} (s : isSc v = true) (r : RelV v u) : Reads h u (sD v) [] := by
  cases v with
  | non => cases (show u = Value.none from r); exact .none
  | bl x => cases (show u = Value.bool x from r); exact .bool x
  | int i => obtain ⟨t, e⟩ := (show ∃ t, u = Value.int i t from r); cases e; exact .int i t
  | str z => obtain ⟨t, e⟩ := (show ∃ t, u = Value.str z t from r); cases e; exact .str z t
  | byt x => cases s
  | flt x => cases s
  | ref x => cases s
  | ty x => cases s
theorem reads_key {h : Heap} {k : Key} {u : Value} (s : keyIs k u = true) : Reads h u (keyD k) [] := by
  rcases keyIs_shape s with ⟨i, t, rfl, rfl⟩ | ⟨x, t, rfl, rfl⟩
  · exact .int i t
  · exact .str x t
theorem reads_kv {P : Program} {w : World} {h : Heap} : ∀ {es : List (Key × V)} {vs : List (Key × Value)} {ds : List DictEntry}, KV es vs → Pairs (mixKind P w) ds vs → es.all (fun e => isSc e.2) = true →
    ReadsAll h (ds.map (·.key)) (es.map fun e => keyD e.1) [] ∧ ReadsAll h (ds.map (·.val)) (es.map fun e => sD e.2) []
  | _, _, _, .nil, .nil, _ => ⟨.nil, .nil⟩
  | _, _, _, .cons (a := x) (b := y) r t, .cons (e := n) k v p, a => by
    simp only [List.all_cons, Bool.and_eq_true] at a
    obtain ⟨h1, h2⟩ := reads_kv (h := h) t p a.2
    constructor
    · have k2 : keyIs x.1 n.key = true := by rw [r.1]; exact k
      have q := ReadsAll.cons (reads_key (h := h) k2) h1
      simpa using q
    · have v2 : RelV x.2 n.val := by rw [v]; exact r.2
      have q := ReadsAll.cons (reads_sc (h := h) a.1 v2) h2
      simpa using q
mutual
theorem reads_of {P : Program} {w : World} {b : Addr} {H : Hp} {h : Heap} (ok : HOk P w H h) : ∀ {d : PyData} {v : V} {u : Value}, Dat b H d v → RelV v u → ∃ as, Reads h u d as
  | .none, v, u, q, r => by
    simp only [Dat] at q
    subst q
    exact ⟨_, reads_sc (v := .non) rfl r⟩
  | .bool x, v, u, q, r => by
    simp only [Dat] at q
    subst q
    exact ⟨_, reads_sc (v := .bl x) rfl r⟩
  | .int x, v, u, q, r => by
    simp only [Dat] at q
    subst q
    exact ⟨_, reads_sc (v := .int x) rfl r⟩
  | .str x, v, u, q, r => by
    simp only [Dat] at q
    subst q
    exact ⟨_, reads_sc (v := .str x) rfl r⟩
  | .list ds, v, u, q, r => by
    simp only [Dat] at q
    obtain ⟨a, vs, rfl, _, z, y⟩ := q
    obtain rfl : u = Value.ref a := r
    obtain ⟨_, its, n, rv, e⟩ := ok a _ z
    obtain ⟨as, k⟩ := reads_all ok y rv
    exact ⟨_, .list e rfl rfl k⟩
  | .tuple ds, v, u, q, r => by
    simp only [Dat] at q
    obtain ⟨a, vs, rfl, _, z, y⟩ := q
    obtain rfl : u = Value.ref a := r
    obtain ⟨_, its, rv, o, e1, e2, n, e3⟩ := ok a _ z
    obtain ⟨as, k⟩ := reads_all ok y rv
    exact ⟨_, .tuple e1 e2 e3 k⟩
  | .dict kvs, v, u, q, r => by
    simp only [Dat] at q
    obtain ⟨a, es, rfl, _, z, y, sc⟩ := q
    obtain rfl : u = Value.ref a := r
    obtain ⟨_, _, vs, kv, o, ds, ep, e1, e2, e3, _, p, _⟩ := ok a _ z
    obtain ⟨k1, k2⟩ := reads_kv (h := h) kv p sc
    subst y
    refine ⟨_, .dict e1 e2.1 e3 (as := []) (bs := []) ?_ ?_⟩
    · rw [List.map_map]
      exact k1
    · rw [List.map_map]
      exact k2
theorem reads_all {P : Program} {w : World} {b : Addr} {H : Hp} {h : Heap} (ok : HOk P w H h) : ∀ {ds : List PyData} {vs : List V} {us : List Value}, Dats b H ds vs → Vals vs us → ∃ as, ReadsAll h us ds as
  | [], vs, us, q, r => by
    simp only [Dats] at q
    subst q
    cases r
    exact ⟨_, .nil⟩
  | d :: ds, vs, us, q, r => by
    simp only [Dats] at q
    obtain ⟨x, t, rfl, y, z⟩ := q
    cases r with
    | cons r1 r2 =>
      obtain ⟨as, k1⟩ := reads_of ok y r1
      obtain ⟨bs, k2⟩ := reads_all ok z r2
      exact ⟨_, .cons k1 k2⟩
end
end Lb

set_option maxHeartbeats 2000000
namespace Lb
open PySem PySem.Spec PyProof.Rows L2
/-! ### 4. repr of a thing -/
/-- a part of a list that is shown: no dict, or a dict itself (of plain values) -/
def itemOk : PyData → Bool
  | .dict _ => true
  | d => !d.hasDict
def topOk : PyData → Bool
  | .list ds => ds.all itemOk
  | .tuple ds => ds.all itemOk
  | d => itemOk d
theorem reads_item {P : Program} {w : World} {b : Addr} {H : Hp} {h : Heap} (ok : HOk P w H h) {d : PyData} {v : V} {u : Value} (q : Dat b H d v) (r : RelV v u) (k : itemOk d = true) :
    ∃ as, Reads h u d as ∧ (d.hasDict = true → sysModules ∉ as) := by
  by_cases hd : d.hasDict = true
  · cases d with
    | dict kvs =>
      simp only [Dat] at q
      obtain ⟨a, es, rfl, _, z, y, sc⟩ := q
      obtain rfl : u = Value.ref a := r
      obtain ⟨_, ns, vs, kv, o, ds, ep, e1, e2, e3, _, p, _⟩ := ok a _ z
      obtain ⟨k1, k2⟩ := reads_kv (h := h) kv p sc
      subst y
      refine ⟨a :: ([] ++ []), .dict e1 e2.1 e3 (as := []) (bs := []) ?_ ?_, fun _ hm => ?_⟩
      · rw [List.map_map]
        exact k1
      · rw [List.map_map]
        exact k2
      · have z : sysModules = a := by simpa using hm
        rw [← z] at ns
        simp at ns
    | _ => simp [itemOk, hd] at k
  · obtain ⟨as, k⟩ := reads_of ok q r
    exact ⟨as, k, fun z => absurd z hd⟩
theorem repr_items {P : Program} {w : World} {b : Addr} {H : Hp} {h : Heap} (ok : HOk P w H h) : ∀ {ds : List PyData} {vs : List V} {us : List Value}, Dats b H ds vs → Vals vs us → ds.all itemOk = true →
    PyData.showableAll ds = true → (∀ t ∈ PyData.shownAll ds, t.length ≤ sizeLine) → ∃ bs, ReadAtMost h (PyData.depthAll ds) bs ∧ ReprAllK P w bs h (PyData.depthAll ds) us (PyData.shownAll ds)
  | [], vs, us, q, r, _, _, _ => by
    simp only [Dats] at q
    subst q
    cases r
    exact ⟨[], (fun _ z => nomatch z), by simp only [PyData.shownAll]; exact .nil⟩
  | d :: ds, vs, us, q, r, k, sh, sz => by
    simp only [Dats] at q
    obtain ⟨x, t, rfl, y, z⟩ := q
    simp only [List.all_cons, Bool.and_eq_true] at k
    simp only [PyData.showableAll, Bool.and_eq_true] at sh
    simp only [PyData.shownAll] at sz
    cases r with
    | cons r1 r2 =>
      obtain ⟨as, k1, k2⟩ := reads_item ok y r1 k.1
      obtain ⟨b1, m1, p1⟩ := ReprK.of_reads (prog := P) (w := w) k1 sh.1 k2 (sz _ List.mem_cons_self)
      obtain ⟨b2, m2, p2⟩ := repr_items ok z r2 k.2 sh.2 fun t ht => sz t (List.mem_cons_of_mem _ ht)
      simp only [PyData.depthAll, PyData.shownAll]
      have l1 := Nat.le_max_left d.depth (PyData.depthAll ds)
      have l2 := Nat.le_max_right d.depth (PyData.depthAll ds)
      exact ⟨b1 ++ b2, (m1.mono l1).append (m2.mono l2), .cons ((p1.more fun _ hb => List.mem_append_left _ hb).level_le l1) (p2.more_le (fun _ hb => List.mem_append_right _ hb) l2)⟩
/-- what repr asks of a thing -/
structure Shows (d : PyData) : Prop where
  sh : d.showable = true
  top : topOk d = true
  dep : d.depth ≤ 50
  len : d.shown.length ≤ 1000000
theorem Shows.sz {d : PyData} (h : Shows d) : d.shown.length ≤ sizeLine := Nat.le_trans h.len (by decide)
def rRepr : List V → Hp → VK → Prop := fun xs H Q => ∃ (b : Addr) (v : V) (d : PyData), xs = [v] ∧ Dat b H d v ∧ Shows d ∧ Q (.str d.shown) H
theorem call_repr {X : Cx} {k : Nat} (noG : X.A.guards = some []) (hr : Room k X.A) : CallR X (.builtin "repr") rRepr := by
  rintro pins s σ H xs us Q I r ⟨b, v, d, rfl, q, S, wish⟩
  obtain ⟨u, rfl, r1⟩ := vals1 r
  have un := hr.un
  have fin : ∀ h' t tk, (∀ c o, s.heap.get? c = some o → h'.get? c = some o) → EP X pins σ Q (.str d.shown t) { s with heap := h', toks := tk } :=
    fun h' t tk hk => ⟨.str d.shown, H, I.kept hk, ⟨t, rfl⟩, wish⟩
  cases d with
  | none =>
    simp only [Dat] at q
    subst q
    obtain rfl : u = Value.none := r1
    have z := fin s.heap s.toks (s.toks + 1) fun _ _ e => e
    simp only [PyData.shown] at z
    exact PySem.P.repr_of_none z
  | bool x =>
    simp only [Dat] at q
    subst q
    obtain rfl : u = Value.bool x := r1
    have z := fin s.heap s.toks (s.toks + 1) fun _ _ e => e
    simp only [PyData.shown] at z
    exact PySem.P.repr_of_bool z
  | int i =>
    simp only [Dat] at q
    subst q
    obtain ⟨t, rfl⟩ : ∃ t, u = Value.int i t := r1
    have z := fin s.heap s.toks (s.toks + 1) fun _ _ e => e
    simp only [PyData.shown] at z
    exact PySem.P.repr_of_int (by simpa [PyData.showable] using S.sh) z
  | str x =>
    simp only [Dat] at q
    subst q
    obtain ⟨t, rfl⟩ : ∃ t, u = Value.str x t := r1
    have z := fin s.heap s.toks (s.toks + 1) fun _ _ e => e
    have sz := S.sz
    simp only [PyData.shown] at z sz
    exact PySem.P.repr_of_str z sz
  | list ds =>
    have q0 := q
    simp only [Dat] at q
    obtain ⟨a, vs, rfl, _, z, y⟩ := q
    obtain rfl : u = Value.ref a := r1
    obtain ⟨_, its, n, rv, e⟩ := I.hok a _ z
    have sz := S.sz
    have sh := S.sh
    have dep := S.dep
    simp only [PyData.shown] at sz fin
    simp only [PyData.showable] at sh
    simp only [PyData.depth] at dep
    obtain ⟨bs, m, p⟩ := repr_items I.hok y rv S.top sh fun t ht => Nat.le_trans (listText_mem_le ht) sz
    obtain ⟨as, rd⟩ := reads_of I.hok q0 (show RelV (.ref a) (.ref a) from rfl)
    have na : a ∉ bs := not_mem_of_deeper rd (by simp only [PyData.depth]; omega) m
    refine call_repr_slot (by omega) ⟨_, e, rfl⟩ F.slot_list_repr.toG ?_
    cases its with
    | nil =>
      cases rv
      have y2 := y.length
      have e2 : ds = [] := List.length_eq_zero_iff.mp y2
      subst e2
      simp only [PyData.shownAll, listText_nil] at fin
      exact call_list_repr_empty ⟨_, e, rfl⟩ e rfl ⟨_, _, rfl, fin s.heap _ _ fun _ _ e => e⟩
    | cons x l =>
      refine call_list_reprK (h₀ := s.heap) e rfl rfl na (by simpa using p.length_eq) (fun i y e => p.item i y (by simpa using e)) (A := X.A.in1) noG (fun c _ => Clear.nil c) ?_ (fun _ _ e => e) (fun h' t tk hk => ⟨_, _, rfl, fin h' t tk hk⟩) sz
      show X.A.units + 1 + (PyData.depthAll ds + 1) < cLine
      omega
  | tuple ds =>
    have q0 := q
    simp only [Dat] at q
    obtain ⟨a, vs, rfl, _, z, y⟩ := q
    obtain rfl : u = Value.ref a := r1
    obtain ⟨_, its, rv, o, e, e2, n, e3⟩ := I.hok a _ z
    have sz := S.sz
    have sh := S.sh
    have dep := S.dep
    simp only [PyData.shown] at sz fin
    simp only [PyData.showable] at sh
    simp only [PyData.depth] at dep
    obtain ⟨bs, m, p⟩ := repr_items I.hok y rv S.top sh fun t ht => Nat.le_trans (tupleText_mem_le ht) sz
    obtain ⟨as, rd⟩ := reads_of I.hok q0 (show RelV (.ref a) (.ref a) from rfl)
    have na : a ∉ bs := not_mem_of_deeper rd (by simp only [PyData.depth]; omega) m
    refine call_repr_slot (by omega) ⟨_, e, e2⟩ F.slot_tuple_repr ?_
    refine call_tuple_reprK (h₀ := s.heap) e e2 e3 na p (A := X.A.in1) noG (fun c _ => Clear.nil c) ?_ (fun _ _ e => e) (fun h' t tk hk => ⟨_, _, rfl, fin h' t tk hk⟩) sz
    show X.A.units + 1 + (PyData.depthAll ds + 1) < cLine
    omega
  | dict kvs =>
    have q0 := q
    simp only [Dat] at q
    obtain ⟨a, es, rfl, _⟩ := q
    obtain ⟨as, rd, ns⟩ := reads_item I.hok q0 r1 rfl
    obtain rfl : u = Value.ref a := r1
    have dep := S.dep
    exact repr_of_reads' rd S.sh ns noG (by omega) (fun _ _ e => e) fin S.sz
end Lb

set_option maxHeartbeats 3200000
namespace Lb
open PySem PySem.Spec PyProof.Rows L2
/-! ### 5. len(set(texts)) -/
/-- each text at its first place -/
def uq (xs : List Str) : List Str := xs.foldl (fun s x => if x ∈ s then s else s ++ [x]) []
theorem uq_snoc (xs : List Str) (x : Str) : uq (xs ++ [x]) = if x ∈ uq xs then uq xs else uq xs ++ [x] := by
  unfold uq
  rw [List.foldl_append]
  rfl
theorem uq_ind {P : List Str → Prop} (h0 : P []) (h1 : ∀ l x, P l → P (l ++ [x])) (xs : List Str) : P xs := by
  have q : ∀ ys : List Str, P ys.reverse := by
    intro ys
    induction ys with
    | nil => exact h0
    | cons y r ih =>
      rw [List.reverse_cons]
      exact h1 _ _ ih
  have := q xs.reverse
  rwa [List.reverse_reverse] at this
theorem uq_mem (xs : List Str) : ∀ k, k ∈ uq xs ↔ k ∈ xs := by
  refine uq_ind (P := fun xs => ∀ k, k ∈ uq xs ↔ k ∈ xs) (fun k => Iff.rfl) (fun l x ih k => ?_) xs
  rw [uq_snoc]
  by_cases h : x ∈ uq l
  · rw [if_pos h, ih, List.mem_append, List.mem_singleton]
    constructor
    · exact .inl
    · rintro (z | rfl)
      · exact z
      · exact (ih _).mp h
  · rw [if_neg h, List.mem_append, List.mem_append, ih]
theorem uq_len (xs : List Str) : (uq xs).length ≤ xs.length ∧ ((uq xs).length = xs.length ↔ xs.Nodup) := by
  refine uq_ind (P := fun xs => (uq xs).length ≤ xs.length ∧ ((uq xs).length = xs.length ↔ xs.Nodup)) ⟨Nat.le_refl _, fun _ => List.nodup_nil, fun _ => rfl⟩ (fun l x ih => ?_) xs
  rw [uq_snoc, List.length_append, List.length_singleton]
  have nd : (l ++ [x]).Nodup ↔ (l.Nodup ∧ x ∉ l) := by
    rw [List.nodup_append]
    constructor
    · rintro ⟨h1, _, h3⟩
      exact ⟨h1, fun z => h3 x z x (List.mem_singleton.mpr rfl) rfl⟩
    · rintro ⟨h1, h2⟩
      refine ⟨h1, List.nodup_cons.mpr ⟨(fun z => nomatch z), List.nodup_nil⟩, fun a ha b hb e => ?_⟩
      rw [List.mem_singleton.mp hb] at e
      exact h2 (e ▸ ha)
  rw [nd]
  by_cases h : x ∈ uq l
  · rw [if_pos h]
    refine ⟨by omega, fun z => by omega, fun z => absurd ((uq_mem l x).mp h) z.2⟩
  · rw [if_neg h, List.length_append, List.length_singleton]
    have hx : x ∉ l := fun z => h ((uq_mem l x).mpr z)
    refine ⟨by omega, fun z => ⟨ih.2.mp (by omega), hx⟩, fun z => ?_⟩
    have := ih.2.mpr z.1
    omega
section
variable {prog : Program} {w : World} {A : Around}
/-- the set that is made is held by what has been met -/
abbrev Holds (prog : Program) (w : World) (h : Heap) (S : Addr) (xs : List Str) : Prop := h.SetOf (PySem.strKind prog w) S (fun k => decide (k ∈ uq xs)) (uq xs).length
theorem set_loop {R : Result → Shared → Prop} {I : Addr} {fp wr : List Addr} {G : Array GenState → Array GenState → Prop} {n : Nat} {P : Nat → Value → Prop} {St : Nat → Shared → Prop}
    (W : WalksS prog w A.in1 I fp wr G n P St) (S : Addr) (out : S ∉ fp) (xs : List Str) (len : xs.length = n) (few : n + 1 < scanBound) (at_ : ∀ i v, P i v → ∃ x t, xs[i]? = some x ∧ v = .str x t) :
    ∀ (left i : Nat) (s : Shared), i + left = n → St i s → Holds prog w s.heap S (xs.take i) →
      (∀ s', Moved (S :: wr) G s s' → Holds prog w s'.heap S xs → R (.ok (.ret .none)) s') → codeAny (model prog w) A (.builtin "set.update.loop" ⟨[.ref S, .ref I], []⟩) R s := by
  have outW : S ∉ wr := fun z => out (W.sub _ z)
  have more : ∀ b ∈ wr, b ∈ S :: wr := fun b z => List.mem_cons_of_mem _ z
  have keep : ∀ {s s' : Shared} {ys : List Str}, Moved wr G s s' → Holds prog w s.heap S ys → Holds prog w s'.heap S ys := by
    rintro s s' ys m ⟨o, es, ep, t, ho, r⟩
    exact ⟨o, es, ep, t, m.heap S _ outW ho, r⟩
  intro left
  induction left with
  | zero =>
    intro i s e st held fin
    have ei : i = n := by omega
    subst ei
    rw [List.take_of_length_le (Nat.le_of_eq len)] at held
    refine codeAny_builtin F.entry_set_update_loop ?_
    rw [Around.under_plainId F.plain_set_update_loop _]
    show wpAny _ A.in1 (pyNext (.ref I) >>= _) _ _ s
    refine wpAny_bind (W.done s _ _ st fun s' m => ?_)
    show wpAny _ A.in1 (ret Value.none) _ _ s'
    exact wpAny_pure (fin s' (m.mono more) (keep m held))
  | succ left ih =>
    intro i s e st held fin
    have lt : i < n := by omega
    refine codeAny_builtin F.entry_set_update_loop ?_
    rw [Around.under_plainId F.plain_set_update_loop _]
    show wpAny _ A.in1 (pyNext (.ref I) >>= _) _ _ s
    refine wpAny_bind (W.item i s _ _ lt st fun v s' here st' m => ?_)
    obtain ⟨x, t, ex, rfl⟩ := at_ i v here
    have held' := keep m held
    show wpAny _ A.in1 (holding [Value.str x t] (setAdd S (.str x t)) >>= _) _ _ s'
    refine wpAny_bind (wpAny_holding ?_)
    unfold setAdd
    refine wpAny_holding ?_
    refine wpAny_bind ((PySem.strKind prog w).pyHash (k := x) (strKind_is _ _ _ _) ?_)
    have room : (uq (xs.take i)).length + 1 < scanBound := by
      have h1 := (uq_len (xs.take i)).1
      have h2 : (xs.take i).length ≤ i := by rw [List.length_take]; exact Nat.min_le_left _ _
      omega
    refine wpAny_setAddHashed_of (knd := PySem.strKind prog w) (s := { s' with toks := s'.toks + 1 }) (strKind_is _ _ _ _) rfl held' room fun h' but new => ?_
    have next : Holds prog w h' S (xs.take (i + 1)) := by
      have et : xs.take (i + 1) = xs.take i ++ [x] := by
        rw [List.take_add_one, ex]
        rfl
      show h'.SetOf (PySem.strKind prog w) S (fun k => decide (k ∈ uq (xs.take (i + 1)))) (uq (xs.take (i + 1))).length
      rw [et, uq_snoc]
      by_cases h : x ∈ uq (xs.take i)
      · rw [if_pos h]
        refine SetOf_congr new (fun k => ?_) (by rw [decide_eq_true h]; rfl)
        by_cases hk : k = x
        · subst hk
          simp [h]
        · simp [hk]
      · rw [if_neg h]
        refine SetOf_congr new (fun k => ?_) (by rw [decide_eq_false h, List.length_append]; rfl)
        by_cases hk : k = x
        · subst hk
          simp
        · simp [hk]
    refine wpAny_pure ⟨plainId_quiet F.plain_set_update_loop _, ih (i + 1) _ (by omega) (W.frame _ s' _ _ st' (Nat.le_succ _) fun b hb o e => ?_) next fun s2 m2 held2 => ?_⟩
    · rw [but.2 b (fun z : b = S => out (z ▸ hb))]
      exact e
    · refine fin s2 (Moved.trans W.gtrans ((m.mono more).then_heap (Nat.le_succ _) fun b o hb e => ?_) m2) held2
      rw [but.2 b (fun z : b = S => hb (z ▸ List.mem_cons_self))]
      exact e
end
theorem strs_get : ∀ {xs : List Str} {us : List Value} {i : Nat} {v : Value}, Vals (xs.map V.str) us → us[i]? = some v → ∃ x t, xs[i]? = some x ∧ v = .str x t
  | [], _, i, v, .nil, e => by simp at e
  | x :: r, _, 0, v, .cons h _, e => by
    obtain ⟨t, rfl⟩ := h
    simp at e
    exact ⟨x, t, rfl, e.symm⟩
  | x :: r, _, i + 1, v, .cons _ h, e => by
    obtain ⟨y, t, h1, h2⟩ := strs_get h (by simpa using e)
    exact ⟨y, t, by simpa using h1, h2⟩
/-- a set without members, as set.__new__ lays it -/
abbrev bareSet (led : Bool) : Obj := { cls := .type "set", dict := none, data := .set #[] 0 (.fresh 0 0 led) }
section
variable {prog : Program} {w : World} {A : Around} {E : Value → Shared → Prop} {s : Shared}
theorem set_of_texts {l : Addr} {its : List Value} {xs : List Str} {Q : Value → Shared → Prop} (calm : A.handled = none) (hl : s.heap.IsList l its.toArray) (rv : Vals (xs.map V.str) its) (few : xs.length + 1 < scanBound)
    (h : ∀ (h' : Heap) (tk : Nat), Holds prog w h' s.heap.objs.size xs → (∀ b o, b < s.heap.objs.size → s.heap.get? b = some o → h'.get? b = some o) → Q (.ref s.heap.objs.size) { s with heap := h', toks := tk }) :
    wpAny (model prog w) A (call (.type "set") [.ref l]) Q E s := by
  obtain ⟨c, tl, m0⟩ := F.called_set.mro
  have m1 := F.called_set.made
  have m2 := F.called_set.sub
  have m3 := F.called_set.notType
  have m4 := F.called_set.canCreate
  have m5 := F.typeCall_set_1 (.ref l)
  have lenI : xs.length = its.length := by rw [← rv.length, List.length_map]
  refine wpAny_call (codeAny_of_tree ?_)
  show wpAny _ _ (callAny (.type "set") _) _ _ _
  refine wpAny_pure ⟨Code.quiet_builtin _ (by decide +kernel), codeAny_builtin F.entry_type_call ?_⟩
  rw [Around.under_plain (weight_type_call_type "set" [.ref l] []) rfl]
  repeat any_goals first | assumption | wp_step
  refine codeAny_mono (code_set_new_1 (.ref l) (E := E) (Q₁ := fun v s1 => ∃ led : Bool, v = .ref s.heap.objs.size ∧ s1 = { s with heap := s.heap.push (bareSet led) }) fun led => ⟨led, rfl, rfl⟩) ?_
  intro r s1 hr
  cases r with
  | error e => exact hr
  | ok fl =>
    cases fl with
    | ret v =>
      obtain ⟨led, rfl, rfl⟩ := hr
      have at1 : (s.heap.push (bareSet led)).get? s.heap.objs.size = some (bareSet led) := Heap.get?_push_size _ rfl
      have ty1 : Shared.TypeIs { s with heap := s.heap.push (bareSet led) } (.ref s.heap.objs.size) "set" := ⟨_, at1, rfl⟩
      have m6 := F.called_set.init.lookup
      have m7 := F.called_set.init.bind (.ref s.heap.objs.size)
      repeat any_goals first | assumption | wp_step
      refine codeAny_mono (codeAny_call_builtin (R := wants (fun r s2 => r = .none ∧ ∃ h' tk, s2 = { s with heap := h', toks := tk } ∧ Holds prog w h' s.heap.objs.size xs ∧
        (∀ b o, b < s.heap.objs.size → s.heap.get? b = some o → h'.get? b = some o)) E) F.called_set.init.plain F.entry_set_init (check_set_init_1 ty1 ?_)) ?_
      · obtain ⟨⟨oc, od, dt, sl⟩, ho, hc, n, hd⟩ := hl
        simp only at hc hd
        subst hc
        subst hd
        have at2 : (s.heap.push (bareSet led)).get? l = some { cls := .type "list", dict := od, data := .seq its.toArray n, slots := sl } := Heap.get?_push_of_some _ ho
        have m8 := F.sub_list_set
        have m9 := F.sub_list_frozenset
        have m10 : (Value.type "list" == Value.type "dict") = false := by decide
        have isl : (s.heap.push (bareSet led)).IsList l its.toArray := ⟨_, at2, rfl, n, rfl⟩
        unfold Builtin.«set.__init__» noKeywords Builtin.Frozenset.updateFrom
        generalize eIt : pyIter = It
        wp_walk
        subst eIt
        refine wpAny_pyIter_list isl ?_
        refine wpAny_bind (wpAny_runValue ?_)
        have below : l < s.heap.objs.size := Heap.lt_size ho
        have calm3 : A.in1.in1.in1.handled = none := by simp [calm]
        have ne1 : l ≠ (s.heap.push (bareSet led)).objs.size := by
          rw [Heap.size_push]
          exact Nat.ne_of_lt (Nat.lt_succ_of_lt below)
        have out : s.heap.objs.size ∉ [(s.heap.push (bareSet led)).objs.size, l] := by
          rw [Heap.size_push]
          intro z
          rcases List.mem_cons.mp z with z | z
          · exact absurd z (Nat.ne_of_lt (Nat.lt_succ_self _))
          · exact absurd (List.mem_singleton.mp z) (Nat.ne_of_gt below)
        refine set_loop ((Walks.list calm3 _ l ne1 its.toArray).toS) s.heap.objs.size out xs (by rw [List.size_toArray]; exact lenI) (by rw [List.size_toArray, ← lenI]; exact few)
          (fun i v hv => strs_get rv (by simpa using hv)) its.toArray.size 0 _ (by omega) ⟨⟨_, Heap.get?_push_size _ rfl, rfl, rfl⟩, (isl.push _)⟩ ?_ ?_
        · have at3 : ((s.heap.push (bareSet led)).push { cls := .type "list_iterator", data := .fields #[.ref l, .int 0 0] }).get? s.heap.objs.size = some (bareSet led) := Heap.get?_push_of_some _ at1
          exact SetOf_congr ((setObjOf_fresh (knd := PySem.strKind prog w) led).setOf at3 (by unfold scanBound; omega)) (fun _ => rfl) rfl
        · intro s3 m held
          obtain ⟨h3, g3, d3, t3, o3⟩ := s3
          obtain rfl : g3 = s.gens := m.gens
          obtain rfl : d3 = s.drawn := m.drawn
          obtain rfl : o3 = s.os := m.os
          show wpAny _ _ _ _ _ _
          refine wpAny_pure ?_
          show wpAny _ _ (ret Value.none) _ _ _
          refine wpAny_pure ⟨rfl, h3, t3, rfl, held, fun b o hb e => ?_⟩
          refine m.heap b o ?_ (Heap.get?_push_of_some _ (Heap.get?_push_of_some _ e))
          rw [Heap.size_push]
          intro z
          rcases List.mem_cons.mp z with z | z
          · exact absurd z (Nat.ne_of_lt hb)
          · exact absurd (List.mem_singleton.mp z) (Nat.ne_of_lt (Nat.lt_succ_of_lt hb))
      · intro r2 s2 hr2
        cases r2 with
        | error e => exact hr2
        | ok f2 =>
          cases f2 with
          | ret v2 =>
            obtain ⟨rfl, h3, t3, rfl, held, k3⟩ := hr2
            repeat any_goals first | assumption | wp_step
            exact h _ _ held k3
          | _ => exact hr2.elim
    | _ => exact hr.elim
end
/-- len(set(e)), e a list of texts -/
def tLenTexts (K : PySem.W.Frag) (ta : TE) : TE := fun σ H Q => ta σ H fun x H1 => ∃ (l : Addr) (xs : List Str), x = .ref l ∧ SqL K H1 l (xs.map V.str) ∧ xs.length ≤ 1000 ∧ Q (.int (uq xs).length) H1
theorem pe_lenTexts {X : Cx} {a : Expr} {ta : TE} {p p2 q pos : Pos} (calm : X.calm = true) (h1 : Gl X "len") (n1 : X.mg "len" = none) (h2 : Gl X "set") (n2 : X.mg "set" = none) (ha : PE X a ta)
    (hs : starEach [a] X.env = (false, eval a X.env) :: starEach [] X.env := by rfl) : PE X (.Call (.Name "len" p) [.Call (.Name "set" p2) [a] [] q] [] pos) (tLenTexts X.K ta) := by
  constructor
  intro pins s σ H Q I h
  refine Call_ (ld_blt I h1 n1 boot_len ?_)
  refine PyProof.Rows.callWith_builtin1 (PyProof.Rows.args_cons ?_ rfl) rfl rfl
  refine Call_ (ld_blt I h2 n2 boot_set ?_)
  refine PyProof.Rows.callWith_type1 (PyProof.Rows.args_cons (thn (ha.run pins s σ H _ I h) ?_) hs) hs rfl
  rintro v s1 ⟨x, H1, I1, r1, l, xs, rfl, sq, few, wish⟩
  refine PyProof.Rows.args_nil ?_
  cases r1
  obtain ⟨its, rv, pl, _⟩ := I1.list sq
  have b : scanBound = 4096 := rfl
  refine set_of_texts (I1.ok.hd calm) pl.isList rv (by omega) fun h' tk held keep => ?_
  refine PyProof.Rows.args_nil ?_
  obtain ⟨o, es, ep, t, ho, hex, hd, _, _, _, hf, hn⟩ := held
  have I2 : Inv X pins σ H1 { s1 with heap := h', toks := tk } := I1.kept fun b o e => keep b o (Heap.lt_size e) e
  have lim := (uq_len xs).1
  exact call_len_set ho hex hd hf (by rw [hn]; omega) ⟨.int (uq xs).length, H1, I2.tok _, ⟨_, by rw [hn]⟩, wish⟩
end Lb

set_option maxHeartbeats 2000000
namespace Lb
open PySem PySem.Spec PyProof.Rows L2
/-! ### 6. The law's bag of numbers -/
def rGetL (K : PySem.W.Frag) : V → V → Hp → VK → Prop := fun x y H Q => ∃ (p : Addr) (xs : List V) (i : Nat) (v : V), x = .ref p ∧ y = .int i ∧ SqL K H p xs ∧ xs[i]? = some v ∧ Q v H
theorem get_list {X : Cx} : PGet X (rGetL X.K) := by
  rintro pins s σ H x y u v Q I rx ry ⟨p, xs, i, z, rfl, rfl, sq, at_, wish⟩
  cases rx
  obtain ⟨t, rfl⟩ := ry
  obtain ⟨its, r, pl, hz⟩ := I.list sq
  obtain ⟨k, ek, rk⟩ := r.get at_
  have lt : i < xs.length := (List.getElem?_eq_some_iff.mp at_).1
  have l63 := line63
  exact wpAny_getItem_list pl.isList (Int.natCast_nonneg i) (by omega) (by simpa using ek) ⟨z, H, I, rk, wish⟩
structure Bag (H : Hp) (b c : Addr) : Prop where
  ex : ∃ (n st p : Int) (ns : List Int), H b = some (.lst [.int n, .int st, .int p, .ref c]) ∧ H c = some (.lst (ns.map V.int)) ∧ 0 ≤ n ∧ 0 ≤ p ∧ (∀ z ∈ ns, 0 ≤ z) ∧ ns.length ≤ 63
  ne : c ≠ b
theorem Bag.kp {H H' : Hp} {b c : Addr} (B : Bag H b c) (h : ∀ a, a ≠ b → H' a = H a) {n st p : Int} (e : H' b = some (.lst [.int n, .int st, .int p, .ref c])) (h1 : 0 ≤ n) (h2 : 0 ≤ p) : Bag H' b c := by
  obtain ⟨n0, st0, p0, ns, _, e2, _, _, k1, k2⟩ := B.ex
  exact ⟨⟨n, st, p, ns, e, by rw [h c B.ne]; exact e2, h1, h2, k1, k2⟩, B.ne⟩
theorem Bag.new {H : Hp} {b c q : Addr} {o : HO} (B : Bag H b c) (f : H q = none) : Bag (upd H q o) b c := by
  obtain ⟨n0, st0, p0, ns, e1, e2, r⟩ := B.ex
  exact ⟨⟨n0, st0, p0, ns, by rw [upd_ne (ne_of_none e1 f)]; exact e1, by rw [upd_ne (ne_of_none e2 f)]; exact e2, r⟩, B.ne⟩
theorem Bag.same {H H' : Hp} {b c : Addr} (B : Bag H b c) (h : Same H H') : Bag H' b c := by
  obtain ⟨n0, st0, p0, ns, e1, e2, r⟩ := B.ex
  exact ⟨⟨n0, st0, p0, ns, h _ _ e1, h _ _ e2, r⟩, B.ne⟩
/-- an object that the bag does not have may be changed -/
theorem Bag.other {H : Hp} {b c q : Addr} {o : HO} (B : Bag H b c) (n1 : q ≠ b) (n2 : q ≠ c) : Bag (upd H q o) b c := by
  obtain ⟨n0, st0, p0, ns, e1, e2, r⟩ := B.ex
  exact ⟨⟨n0, st0, p0, ns, by rw [upd_ne n1.symm]; exact e1, by rw [upd_ne n2.symm]; exact e2, r⟩, B.ne⟩
def spTake : Sp := fun vs H Q _ => ∃ (b c : Addr) (many : Int), vs = [.ref b, .int many] ∧ Bag H b c ∧ 0 < many ∧ many ≤ 10 ^ 60 ∧
  ∀ (v : Int) (H' : Hp), 0 ≤ v → v < many → Bag H' b c → (∀ a, a ≠ b → H' a = H a) → Q (.int v) H'
def spBag (K : PySem.W.Frag) : Sp := fun vs H Q _ => ∃ (a : Addr) (ns : List Int), vs = [.ref a] ∧ SqL K H a (ns.map V.int) ∧ ns.length ≤ 63 ∧
  ∀ (b c : Addr) (H' : Hp), H b = none → H c = none → Same H H' → Bag H' b c → Q (.ref b) H'
/-- what is not the module's own -/
structure Blt (mg : Str → Option Value) : Prop where
  len : mg "len" = none
  abs_ : mg "abs" = none
  isinstance_ : mg "isinstance" = none
  int : mg "int" = none
  bool_ : mg "bool" = none
  str_ : mg "str" = none
  list_ : mg "list" = none
  tuple_ : mg "tuple" = none
  set_ : mg "set" = none
  range_ : mg "range" = none
  all_ : mg "all" = none
  repr_ : mg "repr" = none
theorem many_log {m : Int} (h0 : 0 < m) (h : m ≤ 10 ^ 60) : CDivW 0 m := by
  refine ⟨h0, ?_⟩
  have e : m.natAbs < 2 ^ 200 := by
    have : m < 2 ^ 200 := Int.lt_of_le_of_lt h (by decide)
    omega
  exact Nat.lt_of_lt_of_le (PySem.Flt.log2_lt_of (by decide) e) (by decide)
theorem cdiv_any {i j k : Int} (h : CDivW k j) : CDivW i j := h
end Lb

set_option maxHeartbeats 2000000
namespace Lb
open PySem PySem.Spec PyProof.Rows L2
/-! ### 7. Parts of lists and texts, comprehensions -/
theorem sIx_pos {n d : Nat} {k : Int} (h : 0 ≤ k) : HT.sIx n d (some k) = min k.toNat n := by
  have e : k = (k.toNat : Int) := by omega
  rw [e, HT.sIx_nat]
  congr 1
theorem cut_to {xs : List V} {k : Int} (h : 0 ≤ k) : cutV xs none (some k) = xs.take k.toNat := by
  unfold cutV
  rw [HT.sIx_none, sIx_pos h, List.drop_zero, Nat.sub_zero]
  by_cases l : k.toNat ≤ xs.length
  · rw [Nat.min_eq_left l]
  · rw [Nat.min_eq_right (by omega), List.take_of_length_le (by omega), List.take_of_length_le (by omega)]
theorem cut_from {xs : List V} {k : Int} (h : 0 ≤ k) : cutV xs (some k) none = xs.drop k.toNat := by
  unfold cutV
  rw [HT.sIx_none, sIx_pos h]
  by_cases l : k.toNat ≤ xs.length
  · rw [Nat.min_eq_left l, List.take_of_length_le (by rw [List.length_drop]; exact Nat.le_refl _)]
  · rw [Nat.min_eq_right (by omega), List.drop_of_length_le (by omega), List.drop_of_length_le (by omega)]
    exact List.take_nil
theorem cutS_to {z : Str} {k : Int} (h : 0 ≤ k) : cutS z none (some k) = ⟨(z.cps.toList.take k.toNat).toArray⟩ := by
  have e : z.length = z.cps.toList.length := by simp [Str.length]
  unfold cutS
  rw [HT.sIx_none, sIx_pos h, List.drop_zero, Nat.sub_zero]
  by_cases l : k.toNat ≤ z.length
  · rw [Nat.min_eq_left l]
  · rw [Nat.min_eq_right (by omega), List.take_of_length_le (by omega), List.take_of_length_le (by omega)]
theorem cutS_from {z : Str} {k : Int} (h : 0 ≤ k) : cutS z (some k) none = ⟨(z.cps.toList.drop k.toNat).toArray⟩ := by
  have e : z.length = z.cps.toList.length := by simp [Str.length]
  unfold cutS
  rw [HT.sIx_none, sIx_pos h]
  by_cases l : k.toNat ≤ z.length
  · rw [Nat.min_eq_left l, List.take_of_length_le (by rw [List.length_drop, e]; exact Nat.le_refl _)]
  · rw [Nat.min_eq_right (by omega), List.drop_of_length_le (by omega), List.drop_of_length_le (by omega), List.take_nil]
/-- a comprehension over a text's signs -/
theorem lc_text {x : Str} {g : TG} {tt : TT} {te : TE} {vs : List Nat} {σ : L2.St} {H1 : Hp} {D : Addr} {Qd : Hp → Prop} (Pv : Nat → Hp → Prop) (h0 : Pv 0 (upd H1 D (.lst [])))
    (hs : ∀ i c H, x.cps.toList[i]? = some c → Pv i H → g (.str ⟨#[c]⟩) (wipe σ vs) H fun σ2 H2 => wipe σ2 vs = wipe σ vs ∧ tt σ2 H2 fun b H3 =>
      if b = true then te σ2 H3 fun y H4 => ∃ acc, H4 D = some (.lst acc) ∧ acc.length < sizeLine ∧ Pv (i + 1) (upd H4 D (.lst (acc ++ [y]))) else Pv (i + 1) H3) (hd : ∀ H, Pv x.cps.toList.length H → Qd H) :
    ∃ W : Nat → Nat → Hp → Prop, (∃ m, W 0 m (upd H1 D (.lst []))) ∧ ∀ i m H, W i m H →
      ((Its x).stop i H ∧ Qd H) ∨ ((Its x).go i H ∧ ∃ Nx : Hp → Prop, (∀ H', Nx H' → ∃ m', m' < m ∧ W (i + 1) m' H') ∧ ∀ y H', (Its x).yld i H y H' → g y (wipe σ vs) H' fun σ2 H2 => wipe σ2 vs = wipe σ vs ∧ tt σ2 H2 fun b H3 =>
        if b = true then te σ2 H3 fun y H4 => ∃ acc, H4 D = some (.lst acc) ∧ acc.length < sizeLine ∧ Nx (upd H4 D (.lst (acc ++ [y]))) else Nx H3) := by
  have sz : x.cps.toList.length = x.cps.size := by simp
  refine ⟨fun i m H => i + m = x.cps.size ∧ Pv i H, ⟨x.cps.size, by omega, h0⟩, ?_⟩
  rintro i m H ⟨e, p⟩
  by_cases lt : i < x.cps.size
  · refine .inr ⟨lt, Pv (i + 1), fun H' p' => ⟨m - 1, by omega, by omega, p'⟩, ?_⟩
    rintro y H' ⟨rfl, c, hc, rfl⟩
    exact hs i c _ (by simpa using hc) p
  · have ei : i = x.cps.size := by omega
    refine .inl ⟨Nat.le_of_eq ei.symm, hd H ?_⟩
    rw [sz, ← ei]
    exact p
/-- a list that grows at D, all else stays -/
structure Mk (H : Hp) (D : Addr) (l : List V) (H' : Hp) : Prop where
  new : H D = none
  same : Same H H'
  at_ : H' D = some (.lst l)
theorem Mk.start {H : Hp} {D : Addr} (h : H D = none) : Mk H D [] (upd H D (.lst [])) := ⟨h, fun b o e => by rw [upd_ne (ne_of_none e h)]; exact e, upd_same⟩
theorem Mk.next {H H1 H4 : Hp} {D : Addr} {l : List V} {y : V} (M : Mk H D l H1) (s : Same H1 H4) : Mk H D (l ++ [y]) (upd H4 D (.lst (l ++ [y]))) :=
  ⟨M.new, fun b o e => by rw [upd_ne (ne_of_none e M.new)]; exact s _ _ (M.same _ _ e), upd_same⟩
theorem Mk.rest {H H1 H4 : Hp} {D : Addr} {l : List V} (M : Mk H D l H1) (s : Same H1 H4) : Mk H D l H4 := ⟨M.new, M.same.trans s, s _ _ M.at_⟩
theorem same_new {H : Hp} {p : Addr} {o : HO} (h : H p = none) : Same H (upd H p o) := fun b x e => by
  rw [upd_ne (ne_of_none e h)]
  exact e
theorem sz_ok {n : Nat} (h : n ≤ 100000) : n ≤ sizeLine := Nat.le_trans h (by decide)
theorem sz_lo {n : Nat} (h : n < 100000) : n < sizeLine := Nat.lt_of_lt_of_le h (by decide)
end Lb

set_option maxHeartbeats 2000000
namespace Lb
open PySem PySem.Spec PyProof.Rows L2
/-! ### 8. The kinds of things -/
theorem pe_k {X : Cx} {x : Str} {v : V} {pos : Pos} (hg : Gl X x) (h : ∃ u, X.mg x = some u ∧ RelV v u) (hd : (x == ("__debug__" : Str)) = false := by decide) : PE X (.Name x pos) (tC v) := by
  obtain ⟨u, a, r⟩ := h
  exact pe_glob hg a r hd
def tyN : PyData → String
  | .none => "NoneType"
  | .bool _ => "bool"
  | .int _ => "int"
  | .str _ => "str"
  | .list _ => "list"
  | .tuple _ => "tuple"
  | .dict _ => "dict"
theorem ty_of {K : PySem.W.Frag} {b : Addr} {H : Hp} {d : PyData} {v : V} (h : Dat b H d v) : TyX K H v (.type (tyN d)) := by
  cases d with
  | none => simp only [Dat] at h; subst h; exact .base .non
  | bool x => simp only [Dat] at h; subst h; exact .base (.bl x)
  | int x => simp only [Dat] at h; subst h; exact .base (.int x)
  | str x => simp only [Dat] at h; subst h; exact .base (.str x)
  | list ds => simp only [Dat] at h; obtain ⟨a, vs, rfl, _, e, _⟩ := h; exact .base (.lst e)
  | tuple ds => simp only [Dat] at h; obtain ⟨a, vs, rfl, _, e, _⟩ := h; exact .base (.tup e)
  | dict ds => simp only [Dat] at h; obtain ⟨a, vs, rfl, _, e, _⟩ := h; exact .base (.dK e)
def isInt : PyData → Bool
  | .int _ | .bool _ => true
  | _ => false
def isBool : PyData → Bool
  | .bool _ => true
  | _ => false
def isStr : PyData → Bool
  | .str _ => true
  | _ => false
def isList : PyData → Bool
  | .list _ => true
  | _ => false
section
variable {K : PySem.W.Frag}
theorem kit_int (d : PyData) : PySem.W.kitOne K (.type (tyN d)) (.type "int") = some (isInt d) := by
  cases d with
  | none => exact kit_ty (show kitB "NoneType" "int" = some false by decide +kernel)
  | bool _ => exact kit_ty (show kitB "bool" "int" = some true by decide +kernel)
  | int _ => exact kit_ty (show kitB "int" "int" = some true by decide +kernel)
  | str _ => exact kit_ty (show kitB "str" "int" = some false by decide +kernel)
  | list _ => exact kit_ty (show kitB "list" "int" = some false by decide +kernel)
  | tuple _ => exact kit_ty (show kitB "tuple" "int" = some false by decide +kernel)
  | dict _ => exact kit_ty (show kitB "dict" "int" = some false by decide +kernel)
theorem kit_bool (d : PyData) : PySem.W.kitOne K (.type (tyN d)) (.type "bool") = some (isBool d) := by
  cases d with
  | none => exact kit_ty (show kitB "NoneType" "bool" = some false by decide +kernel)
  | bool _ => exact kit_ty (show kitB "bool" "bool" = some true by decide +kernel)
  | int _ => exact kit_ty (show kitB "int" "bool" = some false by decide +kernel)
  | str _ => exact kit_ty (show kitB "str" "bool" = some false by decide +kernel)
  | list _ => exact kit_ty (show kitB "list" "bool" = some false by decide +kernel)
  | tuple _ => exact kit_ty (show kitB "tuple" "bool" = some false by decide +kernel)
  | dict _ => exact kit_ty (show kitB "dict" "bool" = some false by decide +kernel)
theorem kit_str (d : PyData) : PySem.W.kitOne K (.type (tyN d)) (.type "str") = some (isStr d) := by
  cases d with
  | none => exact kit_ty (show kitB "NoneType" "str" = some false by decide +kernel)
  | bool _ => exact kit_ty (show kitB "bool" "str" = some false by decide +kernel)
  | int _ => exact kit_ty (show kitB "int" "str" = some false by decide +kernel)
  | str _ => exact kit_ty (show kitB "str" "str" = some true by decide +kernel)
  | list _ => exact kit_ty (show kitB "list" "str" = some false by decide +kernel)
  | tuple _ => exact kit_ty (show kitB "tuple" "str" = some false by decide +kernel)
  | dict _ => exact kit_ty (show kitB "dict" "str" = some false by decide +kernel)
theorem kit_list (d : PyData) : PySem.W.kitOne K (.type (tyN d)) (.type "list") = some (isList d) := by
  cases d with
  | none => exact kit_ty (show kitB "NoneType" "list" = some false by decide +kernel)
  | bool _ => exact kit_ty (show kitB "bool" "list" = some false by decide +kernel)
  | int _ => exact kit_ty (show kitB "int" "list" = some false by decide +kernel)
  | str _ => exact kit_ty (show kitB "str" "list" = some false by decide +kernel)
  | list _ => exact kit_ty (show kitB "list" "list" = some true by decide +kernel)
  | tuple _ => exact kit_ty (show kitB "tuple" "list" = some false by decide +kernel)
  | dict _ => exact kit_ty (show kitB "dict" "list" = some false by decide +kernel)
end
def isWhole : PyData → Bool
  | .int _ => true
  | _ => false
theorem whole_eq (d : PyData) : isWhole d = (isInt d && !isBool d) := by cases d <;> rfl
def within (lo hi : Int) : PyData → Bool
  | .int i => decide (lo ≤ i) && decide (i ≤ hi)
  | _ => false
def signOk (c : Nat) : Bool := decide (97 ≤ c) && decide (c ≤ 122)
def nameS (z : Str) : Bool := decide (1 ≤ z.length) && decide (z.length ≤ 8) && z.cps.toList.all signOk
def isName : PyData → Bool
  | .str z => nameS z
  | _ => false
def textsOf (ds : List PyData) : List Str := ds.filterMap fun d => match d with
  | .str z => some z
  | _ => none
def isStroke : PyData → Bool
  | .list ds => decide (ds.length ≤ 40) && (ds.all isName && decide (textsOf ds).Nodup)
  | _ => false
/-- parts of a thing are of a small size -/
def textOk (z : Str) : Prop := z.length ≤ 1000 ∧ ∀ c ∈ z.cps.toList, c < 1114112
def smallS : PyData → Prop
  | .str z => textOk z
  | _ => True
def small : PyData → Prop
  | .str z => textOk z
  | .list ds => ds.length ≤ 1000 ∧ ∀ d ∈ ds, smallS d
  | .tuple ds => ds.length ≤ 1000
  | _ => True
theorem small.s {d : PyData} (h : small d) : smallS d := by cases d <;> first | exact h | trivial
/-- a def of one thing that tells a truth -/
def spD (C : PyData → Prop) (g : PyData → Bool) : Sp := fun vs H Q _ => ∃ (b : Addr) (v : V) (d : PyData), vs = [v] ∧ Dat b H d v ∧ C d ∧ ∀ H', Same H H' → Q (.bl (g d)) H'
def spW : Sp := fun vs H Q _ => ∃ (b : Addr) (v : V) (d : PyData) (lo hi : Int), vs = [v, .int lo, .int hi] ∧ Dat b H d v ∧ ∀ H', Same H H' → Q (.bl (within lo hi d)) H'
theorem Dat.same {b : Addr} {H H' : Hp} {d : PyData} {v : V} (h : Dat b H d v) (s : Same H H') : Dat b H' d v := h.mono (.of_same s)
theorem Dats.same {b : Addr} {H H' : Hp} {d : List PyData} {v : List V} (h : Dats b H d v) (s : Same H H') : Dats b H' d v := h.mono (.of_same s)
theorem dat_str {b : Addr} {H : Hp} {d : PyData} {v : V} (h : Dat b H d v) (k : isStr d = true) : ∃ z, d = .str z ∧ v = .str z := by
  cases d with
  | str z => exact ⟨z, rfl, by simpa only [Dat] using h⟩
  | _ => cases k
theorem dat_int {b : Addr} {H : Hp} {d : PyData} {v : V} (h : Dat b H d v) (k : isWhole d = true) : ∃ i, d = .int i ∧ v = .int i := by
  cases d with
  | int i => exact ⟨i, rfl, by simpa only [Dat] using h⟩
  | _ => cases k
theorem dat_list {b : Addr} {H : Hp} {d : PyData} {v : V} (h : Dat b H d v) (k : isList d = true) : ∃ ds a vs, d = .list ds ∧ v = .ref a ∧ a ≠ b ∧ H a = some (.lst vs) ∧ Dats b H ds vs := by
  cases d with
  | list ds =>
    simp only [Dat] at h
    obtain ⟨a, vs, r⟩ := h
    exact ⟨ds, a, vs, rfl, r⟩
  | _ => cases k
/-! one sign against another -/
theorem sign_lt (a c : Nat) : decide ((⟨#[c]⟩ : Str).cps.toList < (⟨#[a]⟩ : Str).cps.toList) = decide (c < a) := by
  have h : ([c] < [a]) ↔ c < a := by
    constructor
    · intro z
      cases z with
      | rel h => exact h
      | cons h => cases h
    · exact fun z => List.Lex.rel z
  exact decide_eq_decide.mpr h
theorem str_a : Str.ofString "a" = ⟨#[97]⟩ := by decide +kernel
theorem str_z : Str.ofString "z" = ⟨#[122]⟩ := by decide +kernel
theorem letters_are : (Str.ofString "abcdefghijklmnopqrstuvwxyz").cps.toList = List.range' 97 26 := by decide +kernel
theorem letters_mem (c : Nat) : decide (c ∈ (Str.ofString "abcdefghijklmnopqrstuvwxyz").cps.toList) = signOk c := by
  rw [letters_are]
  unfold signOk
  rw [← Bool.decide_and]
  refine decide_eq_decide.mpr ?_
  rw [List.mem_range'_1]
  omega
theorem len_str (z : Str) : z.length = z.cps.toList.length := by simp [Str.length]
theorem hu64_of {k : Nat} {A : Around} (hr : Room k A) : A.units + 64 < cLine := by
  have := hr.un
  omega
theorem dp_signs {K : PySem.W.Frag} {H : Hp} : ∀ cs : List Nat, DpAll K H (cs.map fun c => V.str ⟨#[c]⟩) (cs.map fun c => PyData.str ⟨#[c]⟩)
  | [] => .nil
  | c :: r => .cons (.str _) (dp_signs r)
theorem lay_signs : ∀ cs : List Nat, (∀ c ∈ cs, c < 1114112) → PyData.canLayAll0 (cs.map fun c => PyData.str ⟨#[c]⟩) = true ∧ PyData.depthAll (cs.map fun c => PyData.str ⟨#[c]⟩) = 0
  | [], _ => ⟨rfl, rfl⟩
  | c :: r, h => by
    obtain ⟨h1, h2⟩ := lay_signs r fun x hx => h x (List.mem_cons_of_mem _ hx)
    have hc := h c List.mem_cons_self
    constructor
    · simp only [List.map_cons, PyData.canLayAll0, PyData.canLay0, h1, Bool.and_true]
      simp [PyData.strOk, hc]
    · simp only [List.map_cons, PyData.depthAll, PyData.depth, h2]
      rfl
theorem shaped_signs {cs : List Nat} (h : ∀ c ∈ cs, c < 1114112) : SeqAt.shaped (.list (cs.map fun c => PyData.str ⟨#[c]⟩)) = true := by
  obtain ⟨h1, h2⟩ := lay_signs cs h
  unfold SeqAt.shaped
  simp only [PyData.canLay0, h1, PyData.depth, h2]
  rfl
end Lb

set_option maxHeartbeats 2000000
namespace Lb
open PySem PySem.Spec PyProof.Rows L2
/-! ### 9. How long a thing is when it is shown -/
theorem listText_le : ∀ ts : List Str, (listText ts).length ≤ piled ts + 2
  | [] => by rw [listText_nil]; decide
  | t :: r => by
    have h := textFrom_length_pos r 1 (("[" : Str) ++ (if (0 : Nat) > 0 then ", " else "" : String) ++ t) (by decide)
    have e0 : (textFrom 0 "[" (t :: r)).length = (textFrom 1 (("[" : Str) ++ (if (0 : Nat) > 0 then ", " else "" : String) ++ t) r).length := rfl
    have e1 : (("[" : Str) ++ (if (0 : Nat) > 0 then ", " else "" : String) ++ t).length = 1 + t.length := by
      rw [strLen_append, strLen_append]
      rfl
    have e2 : (listText (t :: r)).length = (textFrom 0 "[" (t :: r)).length + 1 := by
      unfold listText
      rw [strLen_append]
      rfl
    rw [e2, e0, h, e1, piled_cons]
    omega
theorem tupleText_le (ts : List Str) : (tupleText ts).length ≤ piled ts + 5 := by
  unfold tupleText
  rw [strLen_append, strLen_append]
  have e1 : (("(" : String) : Str).length = 1 := rfl
  have e3 : (((if ts.length == 1 then ",)" else ")" : String) : Str)).length ≤ 2 := by split <;> decide
  rw [e1]
  by_cases h : ts = []
  · subst h
    have e4 : (Str.join ", " []).length = 0 := rfl
    omega
  · have := join_length_add ts h
    omega
theorem piled_le {m : Nat} : ∀ {ts : List Str}, (∀ t ∈ ts, t.length ≤ m) → piled ts ≤ ts.length * (m + 2)
  | [], _ => by rw [piled_nil]; exact Nat.zero_le _
  | t :: r, h => by
    have h1 := h t List.mem_cons_self
    have h2 := piled_le fun u hu => h u (List.mem_cons_of_mem _ hu)
    rw [piled_cons, List.length_cons, Nat.add_mul, Nat.one_mul]
    omega
theorem shownAll_len : ∀ ds : List PyData, (PyData.shownAll ds).length = ds.length
  | [] => rfl
  | d :: ds => by simp only [PyData.shownAll, List.length_cons, shownAll_len ds]
theorem shownAll_mem {m : Nat} : ∀ {ds : List PyData}, (∀ d ∈ ds, d.shown.length ≤ m) → ∀ t ∈ PyData.shownAll ds, t.length ≤ m
  | [], _, t, ht => by simp only [PyData.shownAll] at ht; cases ht
  | d :: ds, h, t, ht => by
    simp only [PyData.shownAll] at ht
    rcases List.mem_cons.mp ht with rfl | ht
    · exact h d List.mem_cons_self
    · exact shownAll_mem (fun x hx => h x (List.mem_cons_of_mem _ hx)) t ht
theorem showAll_of : ∀ {ds : List PyData}, (∀ d ∈ ds, d.showable = true) → PyData.showableAll ds = true
  | [], _ => rfl
  | d :: ds, h => by
    simp only [PyData.showableAll, h d List.mem_cons_self, showAll_of fun x hx => h x (List.mem_cons_of_mem _ hx), Bool.and_true]
theorem depthAll_of {n : Nat} : ∀ {ds : List PyData}, (∀ d ∈ ds, d.depth ≤ n) → PyData.depthAll ds ≤ n
  | [], _ => Nat.zero_le _
  | d :: ds, h => by
    simp only [PyData.depthAll]
    exact Nat.max_le.mpr ⟨h d List.mem_cons_self, depthAll_of fun x hx => h x (List.mem_cons_of_mem _ hx)⟩
/-- a part of a list that is shown -/
structure Part (d : PyData) : Prop where
  ok : itemOk d = true
  sh : d.showable = true
  dep : d.depth ≤ 10
  len : d.shown.length ≤ 10000
theorem shows_list {ds : List PyData} (h : ∀ d ∈ ds, Part d) (n : ds.length ≤ 90) : Shows (.list ds) where
  sh := showAll_of fun d hd => (h d hd).sh
  top := List.all_eq_true.mpr fun d hd => (h d hd).ok
  dep := by
    have := depthAll_of fun d hd => (h d hd).dep
    simp only [PyData.depth]
    omega
  len := by
    have h1 := piled_le (shownAll_mem fun d hd => (h d hd).len)
    rw [shownAll_len] at h1
    have h2 := listText_le (PyData.shownAll ds)
    have h3 : ds.length * (10000 + 2) ≤ 90 * 10002 := Nat.mul_le_mul n (Nat.le_refl _)
    simp only [PyData.shown]
    omega
theorem shows_tuple {ds : List PyData} (h : ∀ d ∈ ds, Part d) (n : ds.length ≤ 90) : Shows (.tuple ds) where
  sh := showAll_of fun d hd => (h d hd).sh
  top := List.all_eq_true.mpr fun d hd => (h d hd).ok
  dep := by
    have := depthAll_of fun d hd => (h d hd).dep
    simp only [PyData.depth]
    omega
  len := by
    have h1 := piled_le (shownAll_mem fun d hd => (h d hd).len)
    rw [shownAll_len] at h1
    have h2 := tupleText_le (PyData.shownAll ds)
    have h3 : ds.length * (10000 + 2) ≤ 90 * 10002 := Nat.mul_le_mul n (Nat.le_refl _)
    simp only [PyData.shown]
    omega
theorem part_str {z : Str} (h : textOk z) (n : z.length ≤ 900) : Part (.str z) where
  ok := rfl
  sh := rfl
  dep := Nat.zero_le _
  len := by
    have := StrLaws.reprText_len z fun c hc => Nat.lt_trans (h.2 c hc) (by decide)
    simp only [PyData.shown]
    omega
theorem part_int {i : Int} (h : i.natAbs.log2 < 1920) : Part (.int i) where
  ok := rfl
  sh := by simp only [PyData.showable, h, decide_true]
  dep := Nat.zero_le _
  len := by
    have := int_text_len_1921 h
    simp only [PyData.shown]
    omega
theorem part_bool (b : Bool) : Part (.bool b) where
  ok := rfl
  sh := rfl
  dep := Nat.zero_le _
  len := by cases b <;> decide +kernel
/-- what no list is, is shown where it is a part -/
theorem Part.shows {d : PyData} (h : Part d) (k : topOk d = true) : Shows d := ⟨h.sh, k, Nat.le_trans h.dep (by decide), Nat.le_trans h.len (by decide)⟩
theorem eqv_bools : ∀ bs : List Bool, PyData.eqvAll (bs.map PyData.bool) (bs.map PyData.bool) = true
  | [] => rfl
  | b :: r => by simp only [List.map_cons, PyData.eqvAll, PyData.eqv, beq_self_eq_true, eqv_bools r, Bool.and_true]
theorem dp_bools {K : PySem.W.Frag} {H : Hp} : ∀ bs : List Bool, DpAll K H (bs.map V.bl) (bs.map PyData.bool)
  | [] => .nil
  | b :: r => .cons (.bl b) (dp_bools r)
theorem dat_bools {b : Addr} {H : Hp} : ∀ bs : List Bool, Dats b H (bs.map PyData.bool) (bs.map V.bl)
  | [] => by simp only [List.map_nil, Dats]
  | x :: r => by
    simp only [List.map_cons, Dats, Dat]
    exact ⟨_, _, rfl, rfl, dat_bools r⟩
theorem shaped_bools (bs : List Bool) : SeqAt.shaped (.list (bs.map PyData.bool)) = true := by
  have h1 : ∀ l : List Bool, PyData.canLayAll0 (l.map PyData.bool) = true ∧ PyData.depthAll (l.map PyData.bool) = 0 := by
    intro l
    induction l with
    | nil => exact ⟨rfl, rfl⟩
    | cons x r ih =>
      simp only [List.map_cons, PyData.canLayAll0, PyData.canLay0, PyData.depthAll, PyData.depth, ih.1, ih.2]
      exact ⟨rfl, rfl⟩
  unfold SeqAt.shaped
  simp only [PyData.canLay0, (h1 bs).1, PyData.depth, (h1 bs).2]
  rfl
end Lb

set_option maxHeartbeats 2000000
namespace Lb
open PySem PySem.Spec PyProof.Rows L2
/-! ### 10. Texts by their codes -/
theorem cps_app (x y : Str) : (x ++ y).cps.toList = x.cps.toList ++ y.cps.toList := by
  rw [Str.cps_append]
  simp
theorem join_signs : ∀ cs : List Nat, (Txt.join (Str.ofString "") (cs.map fun c => (⟨#[c]⟩ : Str))).cps.toList = cs := by
  intro cs
  rw [TL.join_eq]
  have e0 : (Str.ofString "").cps.toList = [] := by decide +kernel
  induction cs with
  | nil => rfl
  | cons c r ih =>
    cases r with
    | nil => rfl
    | cons d t =>
      show ((⟨#[c]⟩ : Str) ++ Str.ofString "" ++ Str.join (Str.ofString "") ((d :: t).map fun c => (⟨#[c]⟩ : Str))).cps.toList = _
      rw [cps_app, cps_app, ih, e0]
      rfl
theorem textOk_of {z : Str} {n : Nat} (h : z.cps.toList.length ≤ n) (n1 : n ≤ 1000) (k : ∀ c ∈ z.cps.toList, c < 1114112) : textOk z := ⟨by rw [len_str]; omega, k⟩
theorem textOk_app {x y : Str} (hx : textOk x) (hy : textOk y) (h : x.length + y.length ≤ 1000) : textOk (x ++ y) := by
  refine ⟨?_, fun c hc => ?_⟩
  · rw [strLen_append]
    exact h
  · rw [cps_app] at hc
    exact (List.mem_append.mp hc).elim (hx.2 c) (hy.2 c)
theorem textOk_to {z : Str} {k : Int} (h : 0 ≤ k) (hz : textOk z) : textOk (cutS z none (some k)) ∧ (cutS z none (some k)).length ≤ z.length := by
  rw [cutS_to h]
  have e : (⟨(z.cps.toList.take k.toNat).toArray⟩ : Str).cps.toList = z.cps.toList.take k.toNat := by simp
  have l : (⟨(z.cps.toList.take k.toNat).toArray⟩ : Str).length ≤ z.length := by
    rw [len_str, e, len_str z, List.length_take]
    exact Nat.min_le_right _ _
  refine ⟨⟨Nat.le_trans l hz.1, fun c hc => ?_⟩, l⟩
  rw [e] at hc
  exact hz.2 c (List.mem_of_mem_take hc)
theorem textOk_from {z : Str} {k : Int} (h : 0 ≤ k) (hz : textOk z) : textOk (cutS z (some k) none) ∧ (cutS z (some k) none).length ≤ z.length := by
  rw [cutS_from h]
  have e : (⟨(z.cps.toList.drop k.toNat).toArray⟩ : Str).cps.toList = z.cps.toList.drop k.toNat := by simp
  have l : (⟨(z.cps.toList.drop k.toNat).toArray⟩ : Str).length ≤ z.length := by
    rw [len_str, e, len_str z, List.length_drop]
    exact Nat.sub_le _ _
  refine ⟨⟨Nat.le_trans l hz.1, fun c hc => ?_⟩, l⟩
  rw [e] at hc
  exact hz.2 c (List.mem_of_mem_drop hc)
theorem atI_int {α : Type} {xs : List α} {v : Int} {x : α} (h0 : 0 ≤ v) (h : xs[v.toNat]? = some x) : atI xs v = some x := by
  have q := atI_nat h
  rwa [Int.toNat_of_nonneg h0] at q
/-- a sign of a text -/
theorem sign_at {z : Str} (hz : textOk z) {v : Int} (h0 : 0 ≤ v) (h1 : v < (z.length : Int)) : ∃ c, atI z.cps.toList v = some c ∧ c ∈ z.cps.toList ∧ textOk ⟨#[c]⟩ ∧ (⟨#[c]⟩ : Str).length = 1 := by
  have l := len_str z
  have lt : v.toNat < z.cps.toList.length := by omega
  refine ⟨z.cps.toList[v.toNat], ?_, List.getElem_mem _, ⟨by show 1 ≤ 1000; decide, fun c hc => ?_⟩, rfl⟩
  · exact atI_int h0 (List.getElem?_eq_getElem lt)
  · have e : c = z.cps.toList[v.toNat] := by simpa using hc
    rw [e]
    exact hz.2 _ (List.getElem_mem _)
/-- an item of a list at a drawn place -/
theorem item_at {xs : List V} {v : Int} (h0 : 0 ≤ v) (h1 : v < (xs.length : Int)) : ∃ x, xs[v.toNat]? = some x ∧ atI xs v = some x := by
  have lt : v.toNat < xs.length := by omega
  exact ⟨xs[v.toNat], List.getElem?_eq_getElem lt, atI_int h0 (List.getElem?_eq_getElem lt)⟩
theorem dp_strs {K : PySem.W.Frag} {H : Hp} : ∀ ws : List Str, DpAll K H (ws.map V.str) (ws.map PyData.str)
  | [] => .nil
  | _ :: r => .cons (.str _) (dp_strs r)
theorem shaped_strs {ws : List Str} (h : ∀ z ∈ ws, textOk z) : SeqAt.shaped (.list (ws.map PyData.str)) = true := by
  have q : ∀ l : List Str, (∀ z ∈ l, textOk z) → PyData.canLayAll0 (l.map PyData.str) = true ∧ PyData.depthAll (l.map PyData.str) = 0 := by
    intro l
    induction l with
    | nil => exact fun _ => ⟨rfl, rfl⟩
    | cons z r ih =>
      intro hl
      obtain ⟨h1, h2⟩ := ih fun x hx => hl x (List.mem_cons_of_mem _ hx)
      have hz := (hl z List.mem_cons_self).2
      constructor
      · simp only [List.map_cons, PyData.canLayAll0, PyData.canLay0, h1, Bool.and_true]
        unfold PyData.strOk
        rw [← Array.all_toList]
        exact List.all_eq_true.mpr fun c hc => decide_eq_true (hz c hc)
      · simp only [List.map_cons, PyData.depthAll, PyData.depth, h2]
        rfl
  obtain ⟨h1, h2⟩ := q ws h
  unfold SeqAt.shaped
  simp only [PyData.canLay0, h1, PyData.depth, h2]
  rfl
theorem eqv_nil (ws : List Str) : PyData.eqv (.list (ws.map PyData.str)) (.list []) = ws.isEmpty := by
  cases ws <;> simp only [List.map_nil, List.map_cons, PyData.eqv, PyData.eqvAll, List.isEmpty_nil, List.isEmpty_cons]
/-! what the draws leave -/
theorem kp_of {b : Addr} {H H' : Hp} (h : ∀ a, a ≠ b → H' a = H a) : Kp b H H' := fun a o n e => by
  rw [h a n]
  exact e
theorem Bag.at_b {H : Hp} {b c : Addr} (B : Bag H b c) : ∃ o, H b = some o := by
  obtain ⟨_, _, _, _, e, _⟩ := B.ex
  exact ⟨_, e⟩
theorem Bag.ne_new {H : Hp} {b c p : Addr} (B : Bag H b c) (h : H p = none) : p ≠ b := by
  obtain ⟨o, e⟩ := B.at_b
  exact (ne_of_none e h).symm
theorem Bag.nc_new {H : Hp} {b c p : Addr} (B : Bag H b c) (h : H p = none) : p ≠ c := by
  obtain ⟨_, _, _, _, _, e, _⟩ := B.ex
  exact (ne_of_none e h).symm
/-- new there, new ahead -/
theorem Kp.free {b p : Addr} {H H' : Hp} (k : Kp b H H') (h : H' p = none) (n : p ≠ b) : H p = none := by
  cases q : H p with
  | none => rfl
  | some o =>
    rw [k p o n q] at h
    cases h
end Lb

set_option maxHeartbeats 2000000
namespace Lb
open PySem PySem.Spec PyProof.Rows L2
/-! ### 21. Own classes: len, repr, == and != by their own methods -/
section
variable {X : Cx} {pins : List (Addr × Obj)} {σ : L2.St} {H : Hp} {s : Shared} {k : Nat} {f C : Addr} {fd : FuncData} {ps : List Str} {sp : Sp} {us : List Value} {vs : List V} {Q : VK}
theorem inst_at (I : Inv X pins σ H s) {x dx : Addr} {fs : List (Str × V)} (e : H x = some (.ins C dx fs)) : ∃ ox od, PySem.W.InstAt s.heap x ox C (some od) := by
  obtain ⟨mA, O, _⟩ := ins_get I.hok e
  obtain ⟨od, J, _⟩ := O.look
  exact ⟨_, od, J⟩
theorem run1 (F : FnOk X.prog X.w X.K X.mg X.base CX0 k f fd ps sp) (hr : Room k X.A.in1) (b : Binds X.K fd ps []) (I : Inv X pins σ H s) (r : Vals vs us) (h : sp vs H Q E0) :
    wpAny (model X.prog X.w) X.A.in1 (call (.ref f) us) (EP X pins σ Q) X.xe s := by
  have len : us.length = ps.length := r.length.symm.trans (F.len _ _ _ _ h)
  have bt := b s us I.kIn (by rw [List.append_nil]; exact len)
  rw [List.append_nil] at bt
  refine wpAny_call (codeAny_mono (F.run X.A.in1 X.stack s H ⟨us, []⟩ us vs Q E0 hr I.env0.in1 bt r h) ?_)
  intro z s' hq
  cases z with
  | error e => exact False.elim hq
  | ok fl => cases fl with
    | ret u => exact I.after hq
    | next => exact False.elim hq
    | brk => exact False.elim hq
    | cont => exact False.elim hq
theorem run1G (F : FnG X.prog X.w X.K X.mg X.base k f fd ps sp) (noG : X.A.guards = some []) (hr : Room k X.A.in1) (b : Binds X.K fd ps []) (I : Inv X pins σ H s) (r : Vals vs us) (h : sp vs H Q E0) :
    wpAny (model X.prog X.w) X.A.in1 (call (.ref f) us) (EP X pins σ Q) X.xe s := by
  have len : us.length = ps.length := r.length.symm.trans (F.many _ _ _ _ h)
  have bt := b s us I.kIn (by rw [List.append_nil]; exact len)
  rw [List.append_nil] at bt
  refine wpAny_call (codeAny_mono (F.go X.A.in1 X.stack s H ⟨us, []⟩ us vs Q E0 hr noG I.env0.in1 bt r h) ?_)
  intro z s' hq
  cases z with
  | error e => exact False.elim hq
  | ok fl => cases fl with
    | ret u => exact I.after hq
    | next => exact False.elim hq
    | brk => exact False.elim hq
    | cont => exact False.elim hq
end
/-- a special method of the class at C, by its name -/
structure Spc (P : Program) (w : World) (K : PySem.W.Frag) (mg : Str → Option Value) (base : Heap) (k : Nat) (C : Addr) (m : Str) (sp : Sp) : Prop where
  ex : ∃ (f : Addr) (fd : FuncData) (ps : List Str), PySem.W.findIn K (.ref C) m = some (some (.ref f)) ∧ PySem.W.isFn K (.ref f) = true ∧ FnOk P w K mg base CX0 k f fd ps sp ∧ Binds K fd ps []
structure SpcG (P : Program) (w : World) (K : PySem.W.Frag) (mg : Str → Option Value) (base : Heap) (k : Nat) (C : Addr) (m : Str) (sp : Sp) : Prop where
  ex : ∃ (f : Addr) (fd : FuncData) (ps : List Str), PySem.W.findIn K (.ref C) m = some (some (.ref f)) ∧ PySem.W.isFn K (.ref f) = true ∧ FnG P w K mg base k f fd ps sp ∧ Binds K fd ps []
def rLenO (C : Addr) (sp : Sp) : List V → Hp → VK → Prop := fun xs H Q => ∃ (x dx : Addr) (fs : List (Str × V)), xs = [.ref x] ∧ H x = some (.ins C dx fs) ∧ sp [.ref x] H (fun v H' => ∃ n : Nat, v = .int n ∧ n < 1000000 ∧ Q (.int n) H') E0
theorem call_lenO {X : Cx} {k j : Nat} {C : Addr} {sp : Sp} (c : Spc X.prog X.w X.K X.mg X.base k C "__len__" sp) (hr : Room j X.A) (hk : k + 1 ≤ j) : CallR X (.builtin "len") (rLenO C sp) := by
  rintro pins s σ H xs us Q I r ⟨x, dx, fs, rfl, e, h⟩
  obtain ⟨f, fd, ps, a1, a2, F, b⟩ := c.ex
  obtain ⟨u, rfl, r1⟩ := vals1 r
  obtain rfl : u = Value.ref x := r1
  obtain ⟨ox, od, J⟩ := inst_at I e
  obtain ⟨m, fr⟩ := I.fr
  refine PySem.W.len_K fr I.ok.mod.kin J a1 a2 (wpAny_mono (run1 F (hr.mono hk).in1 b I (.cons (show RelV (.ref x) (.ref x) from rfl) .nil) h) ?_ fun _ _ z => z)
  rintro v s' ⟨z, H', I', rv, n, rfl, lt, q⟩
  obtain ⟨t, rfl⟩ := rv
  exact ⟨⟨by omega, by omega⟩, .int n, H', I'.tok _, ⟨_, rfl⟩, q⟩
def rReprO (C : Addr) (sp : Sp) : List V → Hp → VK → Prop := fun xs H Q => ∃ (x dx : Addr) (fs : List (Str × V)), xs = [.ref x] ∧ H x = some (.ins C dx fs) ∧ sp [.ref x] H (fun v H' => ∃ z : Str, v = .str z ∧ Q (.str z) H') E0
theorem call_reprO {X : Cx} {k j : Nat} {C : Addr} {sp : Sp} (c : SpcG X.prog X.w X.K X.mg X.base k C "__repr__" sp) (noG : X.A.guards = some []) (hr : Room j X.A) (hk : k + 1 ≤ j) : CallR X (.builtin "repr") (rReprO C sp) := by
  rintro pins s σ H xs us Q I r ⟨x, dx, fs, rfl, e, h⟩
  obtain ⟨f, fd, ps, a1, a2, F, b⟩ := c.ex
  obtain ⟨u, rfl, r1⟩ := vals1 r
  obtain rfl : u = Value.ref x := r1
  obtain ⟨ox, od, J⟩ := inst_at I e
  obtain ⟨m, fr⟩ := I.fr
  have un := hr.un
  refine PySem.W.repr_K (by show X.A.units + 1 < cLine; omega) fr I.ok.mod.kin J a1 a2 (wpAny_mono (run1G F noG (hr.mono hk).in1 b I (.cons (show RelV (.ref x) (.ref x) from rfl) .nil) h) ?_ fun _ _ z => z)
  rintro v s' ⟨z, H', I', rv, y, rfl, q⟩
  obtain ⟨t, rfl⟩ := rv
  exact ⟨.str y, H', I', ⟨t, rfl⟩, q⟩
/-! == and != of an instance: the right side of the same class, or no instance at all -/
def rCmpO (C : Addr) (sp : Sp) (g : Bool → Bool) : V → V → Hp → VK → Prop := fun x y H Q => ∃ (a dx b dy : Addr) (fs gs : List (Str × V)), x = .ref a ∧ y = .ref b ∧ H a = some (.ins C dx fs) ∧ H b = some (.ins C dy gs) ∧
  sp [.ref a, .ref b] H (fun v H' => ∃ k : Bool, v = .bl k ∧ Q (.bl (g k)) H') E0
section
variable {prog : Program} {w : World} {A : Around} {E : Value → Shared → Prop} {s : Shared} {K : PySem.W.Frag} {x C f : Addr} {ox : Obj} {od : Option Obj} {name : Str}
theorem bound_slot {M : Model} {args : List Value} {id B : String} {Q : Option Value → Shared → Prop} (X : K.In s.heap) (I : PySem.W.InstAt s.heap x ox C od) (hs : PySem.W.findIn K (.ref C) name = some (some (.builtin id))) (S : Slot B name id)
    (h : wpAny M A (call (.builtin id) (.ref x :: args)) (fun v => Q (some v)) E s) : wpAny M A (callSpecialIfBound? (.ref x) name args) Q E s := by
  simp only [callSpecialIfBound?, bindSpecialIfBound?]
  refine wpAny_holding (wpAny_bind (wpAny_bind (wpAny_bind (I.type.here ((PySem.W.looks_findIn X hs).here ?_)))))
  simp only [S.bind]
  refine wpAny_bind (wpAny_askSetting (wpAny_ite ?_))
  have fin : wpAny M A (call (.builtin id) ([.ref x] ++ args) >>= fun v => pure (some v)) Q E s := wpAny_bind (wpAny_mono h (fun _ _ z => wpAny_pure z) fun _ _ z => z)
  split
  · exact wpAny_bind (wpAny_pure (wpAny_pure fin))
  · exact wpAny_tryCatch (wpAny_bind (wpAny_pure (wpAny_pure fin)))
/-- object.__ne__ asks the own __eq__ -/
theorem ne_by_eq {b : Value} {Q : Fin → Shared → Prop} (X : K.In s.heap) (I : PySem.W.InstAt s.heap x ox C od) (hu : A.units < cLine) (hs : PySem.W.findIn K (.ref C) "__eq__" = some (some (.ref f))) (hf : PySem.W.isFn K (.ref f) = true)
    (h : wpAny (model prog w) A (call (.ref f) [.ref x, b]) (fun v s' => ∃ k, v = .bool k ∧ Q (.done (.ret (.bool (!k)))) s') E s) :
    wpAny (model prog w) A (Builtin.«object.__ne__» ⟨[.ref x, b], []⟩) Q E s := by
  unfold Builtin.«object.__ne__»
  refine wpAny_bind (wpAny_of_eq (a := ((Value.ref x : Value), [b])) (by first | rfl | (simp only [slotArgs]; rfl)) ?_)
  refine wpAny_bind (wpAny_cRoomFor hu ?_)
  refine wpAny_bind (m := callSpecialIfBound? (.ref x) (Str.ofString "__eq__") [b]) (PySem.W.ifBound_K X I hs hf (wpAny_mono h ?_ fun _ _ z => z))
  rintro v s' ⟨k, rfl, q⟩
  refine wpAny_bind (wpAny_truthy_bool ?_)
  exact wpAny_pure q
theorem cmp_ne {b : Value} {tb : Value} {Q : Value → Shared → Prop} (hu : A.units + 1 < cLine) (X : K.In s.heap) (I : PySem.W.InstAt s.heap x ox C od) (hb : PySem.W.Looks (model prog w) s.heap (typeOf b) tb) (hn : PySem.W.notFirst K C tb = true)
    (h1 : PySem.W.findIn K (.ref C) "__ne__" = some (some (.builtin "object.__ne__"))) (h2 : PySem.W.subIn K (.ref C) (.type "object") = some true)
    (hs : PySem.W.findIn K (.ref C) "__eq__" = some (some (.ref f))) (hf : PySem.W.isFn K (.ref f) = true)
    (h : wpAny (model prog w) A.in1 (call (.ref f) [.ref x, b]) (fun v s' => ∃ k, v = .bool k ∧ Q (.bool (!k)) s') E s) : wpAny (model prog w) A (richCompare .NotEq (.ref x) b) Q E s := by
  have one : wpAny (model prog w) A (tryCompare (.ref x) (Str.ofString "__ne__") b) (fun r s' => ∃ v, r = some v ∧ Q v s') E s := by
    unfold tryCompare
    refine wpAny_bind (bound_slot X I h1 F.cmp_object.ne ?_)
    refine wpAny_call (codeAny_call_builtin F.cmp_object.ne.plain F.cmpEntry_ne ?_)
    refine PySem.W.check_slot (owner := "object") (n := "__ne__") F.cmpKind_ne F.cmpSplit_ne ((I.type (M := model prog w)).andThen (PySem.W.looks_subIn X h2)) (F.cmpArgs_ne _ _) ?_
    refine ne_by_eq (A := A.in1) X I (by show A.units + 1 < cLine; exact hu) hs hf (wpAny_mono h ?_ fun _ _ z => z)
    rintro v s' ⟨k, rfl, q⟩
    exact ⟨k, rfl, wpAny_pure ⟨_, rfl, q⟩⟩
  unfold richCompare
  simp only [oneThing_ref]
  refine wpAny_holding (wpAny_bind (wpAny_cRoomFor (by omega) ?_))
  rw [cmpInfo_NotEq]
  dsimp only
  refine wpAny_bind (I.type.here (wpAny_bind (hb.here ?_)))
  have go : wpAny (model prog w) A (tryCompare (.ref x) (Str.ofString "__ne__") b >>= fun r => match r with
      | some v => pure v
      | _ => (do
        let r2 ← tryCompare b (Str.ofString "__ne__") (.ref x)
        match r2 with
          | some v => pure v
          | _ => do
            rule "compare.ne-identity"
            let z ← isSame (.ref x) b
            pure (Value.bool !z))) Q E s := by
    refine wpAny_bind (wpAny_mono one ?_ fun _ _ z => z)
    rintro r s' ⟨v, rfl, q⟩
    exact wpAny_pure q
  split
  · rename_i q
    have e : PySem.W.subIn K tb (.ref C) = some false := by
      rcases Bool.or_eq_true_iff.mp hn with e | e
      · rw [beq_iff_eq.mp e] at q
        simp at q
      · exact beq_iff_eq.mp e
    refine wpAny_bind ((PySem.W.looks_subIn X e).here ?_)
    simp only [Bool.false_eq_true, if_false]
    exact go
  · refine wpAny_bind (wpAny_pure ?_)
    simp only [Bool.false_eq_true, if_false]
    exact go
end
end Lb

set_option maxHeartbeats 2000000
namespace Lb
open PySem PySem.Spec PyProof.Rows L2
/-! ### 22. != of two instances of one class; data in an f-string -/
structure NeC (K : PySem.W.Frag) (C : Addr) : Prop where
  ne : PySem.W.findIn K (.ref C) "__ne__" = some (some (.builtin "object.__ne__"))
  ob : PySem.W.subIn K (.ref C) (.type "object") = some true
theorem op_neO {X : Cx} {k j : Nat} {C : Addr} {sp : Sp} (c : Spc X.prog X.w X.K X.mg X.base k C "__eq__" sp) (n : NeC X.K C) (hr : Room j X.A) (hk : k + 1 ≤ j) : OpR X (compareOp .NotEq) (rCmpO C sp (!·)) := by
  rintro pins s σ H x y u v Q I rx ry ⟨a, dx, b, dy, fs, gs, rfl, rfl, ea, eb, h⟩
  obtain ⟨f, fd, ps, a1, a2, F, bd⟩ := c.ex
  obtain rfl : u = Value.ref a := rx
  obtain rfl : v = Value.ref b := ry
  obtain ⟨ox, od, J⟩ := inst_at I ea
  obtain ⟨oy, oe, J2⟩ := inst_at I eb
  have un := hr.un
  refine PySem.W.cmp_ofNotEq (cmp_ne (by omega) I.kIn J J2.type (by unfold PySem.W.notFirst; simp) n.ne n.ob a1 a2 (wpAny_mono (run1 F (hr.mono hk).in1 bd I (.cons (show RelV (.ref a) (.ref a) from rfl) (.cons (show RelV (.ref b) (.ref b) from rfl) .nil)) h) ?_ fun _ _ z => z))
  rintro r s' ⟨z, H', I', rv, q, rfl, w⟩
  obtain rfl : r = Value.bool q := rv
  exact ⟨q, rfl, .bl (!q), H', I', rfl, w⟩
def tFmtD (te : TE) : TE := fun σ H Q => te σ H fun x H1 => ∃ (b a : Addr) (d : PyData), x = .ref a ∧ Dat b H1 d x ∧ Shows d ∧ d.hasDict = false ∧ Q (.str d.shown) H1
theorem pe_fmtD {X : Cx} {k : Nat} {e : Expr} {te : TE} {pos : Pos} (noG : X.A.guards = some []) (hr : Room k X.A) (he : PE X e te) : PE X (.FormattedValue e (-1) none pos) (tFmtD te) := by
  constructor
  intro pins s σ H Q I h
  refine wpAny_FormattedValue_plain (thn (he.run pins s σ H _ I h) ?_)
  rintro v s1 ⟨x, H1, I1, r1, b, a, d, rfl, D, S, nd, q⟩
  obtain ⟨as, rd⟩ := reads_of I1.hok D r1
  obtain rfl : v = Value.ref a := r1
  have un := hr.un
  have dep := S.dep
  exact formatField_of_reads rd S.sh (PyData.noDict_hsm nd) noG (by omega) (fun _ _ z => z) (fun h' u tk hk => ⟨.str d.shown, H1, I1.kept hk, ⟨u, rfl⟩, q⟩) S.sz
/-! ### 23. Own errors with one field: made, raised, caught, asked -/
/-- __init__(self, v): self.fld = v -/
def spXI (C : Addr) (fld : Str) : Sp := fun vs H Q _ => ∃ (a : Addr) (v : V), vs = [.ref a, v] ∧ H a = some (exo a C none) ∧ ∀ dx, H dx = none → dx ≠ a → Q .non (upd (upd H dx (exd dx [(fld, v)])) a (exo a C (some dx)))
structure XC (P : Program) (w : World) (K : PySem.W.Frag) (mg : Str → Option Value) (base : Heap) (k : Nat) (x : Str) (C : Addr) (fld : Str) : Prop where
  o : OexC K C
  m : mg x = some (.ref C)
  i : ∃ (fI : Addr) (fd : FuncData) (ps : List Str), PySem.W.findIn K (.ref C) "__init__" = some (some (.ref fI)) ∧ PySem.W.typeIn K (.ref fI) = some (.type "function") ∧ FnOk P w K mg base CX0 k fI fd ps (spXI C fld) ∧ Binds K fd ps []
/-- how the way out of such a raise is read, once its argument is there -/
theorem raise_in {C : Addr} {fld : Str} {v : V} {H1 : Hp} {Q : XK} (q : ∀ (d : Addr) (H' : Hp), Same H1 H' → H1 d = none → H' d = some (.xd [(fld, v)]) → Q (.ref C) (some d) H') :
    [v].length ≤ 1000 ∧ ∀ a, H1 a = none → spXI C fld (.ref a :: ([v] ++ [])) (upd H1 a (exo a C none))
      (fun u H2 => u = .non ∧ ∃ (d : Addr) (fs : List (Str × V)), H2 a = some (exo a C (some d)) ∧ H2 d = some (exd d fs) ∧ H1 d = none ∧ Q (.ref C) (some d) (upd (del H2 a) d (.xd fs))) (fun _ _ _ => False) := by
  refine ⟨by show 1 ≤ 1000; decide, fun a na => ⟨a, v, rfl, upd_same, fun dx nd ne => ⟨rfl, dx, [(fld, v)], upd_same, ?_, ?_, ?_⟩⟩⟩
  · rw [upd_ne ne, upd_same]
  · rw [upd_ne ne] at nd
    exact nd
  · rw [upd_ne ne] at nd
    refine q dx _ (fun c o z => ?_) nd upd_same
    have ca : c ≠ a := ne_of_none z na
    have cd : c ≠ dx := ne_of_none z nd
    rw [upd_ne cd, del_ne ca, upd_ne ca, upd_ne cd, upd_ne ca]
    exact z
def tRaiseX (C : Addr) (fld : Str) (W : WX) (ta : TA) : TS := fun _ σ H => tMkO C (spXI C fld) [] ta σ H fun cls d H' => W cls d σ H'
theorem ps_raiseX {X : Cx} {k j : Nat} {x fld : Str} {C : Addr} {W : WX} {e : Expr} {ta : TA} {p pos pos2 : Pos} (c : XC X.prog X.w X.K X.mg X.base k x C fld) (calm : X.calm = true) (tk : Takes X W) (hr : Room j X.A) (hk : k + 1 ≤ j) (hg : Gl X x) (ha : PA X [e] ta)
    (h1 : (x == ("__debug__" : Str)) = false := by decide) (h2 : starEach [e] X.env = (false, eval e X.env) :: starEach [] X.env := by rfl) (h3 : (backTo pos (starEach [] X.env)).any (·.1) = false := by rfl) :
    PS X (.Raise (some (.Call (.Name x p) [e] [] pos)) none pos2) (tRaiseX C fld W ta) := by
  obtain ⟨fI, fd, ps, i1, i2, F, b⟩ := c.i
  exact ps_raise (pos := pos2) calm tk (pmk_oex (p := p) (pos := pos) c.o i1 i2 F (hr.mono hk) b .nil (fun _ _ _ _ _ _ _ z => z.elim) hg c.m ha h1 h2 h3)
/-- isinstance(e, c), isinstance(e, (c, ..)): e the error that the suite holds -/
def rIsX (K : PySem.W.Frag) (a : Addr) (cls : Value) (d : Option Addr) : List V → Hp → VK → Prop := fun xs H Q => ∃ (D dd : Addr) (fs : List (Str × V)) (c : V) (cv : Value) (b : Bool), cls = .ref D ∧ d = some dd ∧ H dd = some (.xd fs) ∧ ExcC K D ∧
  xs = [.ref a, c] ∧ ClsV c cv ∧ PySem.W.kitOne K (.ref D) cv = some b ∧ Q (.bl b) H
def rIsXT (K : PySem.W.Frag) (a : Addr) (cls : Value) (d : Option Addr) : List V → Hp → VK → Prop := fun xs H Q => ∃ (D dd tp : Addr) (fs : List (Str × V)) (cs : List V) (us : List Value) (b : Bool), cls = .ref D ∧ d = some dd ∧ H dd = some (.xd fs) ∧ ExcC K D ∧
  xs = [.ref a, .ref tp] ∧ H tp = some (.tup cs) ∧ Paired ClsV cs us ∧ PySem.W.kitAny K (.ref D) us = some b ∧ Q (.bl b) H
section
variable {X : Cx} {a : Addr} {oe : Obj} {cls : Value} {d : Option Addr} {pn : List (Addr × Obj)}
theorem held_at {pins : List (Addr × Obj)} {σ : L2.St} {H : Hp} {s : Shared} {D dd : Addr} {fs : List (Str × V)} (I : Inv (X.suite a ((a, oe) :: pn)) pins σ H s) (hz : Zc (.ref D) (some dd) oe) (hf : ∃ vs, oe.data = .fields vs) (e : H dd = some (.xd fs)) :
    ∃ od, PySem.W.InstAt s.heap a oe D (some od) := by
  obtain ⟨hget, _⟩ := I.pin (a, oe) (List.mem_append.mpr (.inl List.mem_cons_self))
  obtain ⟨vs, hv⟩ := hf
  obtain ⟨mA, ⟨od, es, ep, h1, _⟩, _⟩ := I.hok dd _ e
  exact ⟨od, hget, hz.1, by unfold PySem.W.notCls; rw [hv], by rw [hz.2]; exact h1⟩
theorem cls_some {K : PySem.W.Frag} {D : Addr} (h : PySem.W.hasDictIn K D = true) : (PySem.W.clsIn K D).isSome = true := by
  obtain ⟨cd, hc, _⟩ := PySem.W.any_some h
  rw [hc]
  rfl
theorem call_isX (hz : Zc cls d oe) (hf : ∃ vs, oe.data = .fields vs) : CallR (X.suite a ((a, oe) :: pn)) (.builtin "isinstance") (rIsX X.K a cls d) := by
  rintro pins s σ H xs us Q I r ⟨D, dd, fs, c, cv, b, rfl, rfl, e, C, rfl, k, kt, q⟩
  obtain ⟨u1, u2, rfl, r1, r2⟩ := vals2 r
  obtain rfl : u1 = Value.ref a := r1
  obtain rfl := k.eq r2
  obtain ⟨od, J⟩ := held_at I hz hf e
  exact PySem.W.kia_one (PySem.W.kitx_exc (cls_some C.hd) C.hg C.hk C.hs C.ha C.hn C.ht C.hm) I.kIn J kt (fun z => nomatch z) fun tk => ⟨.bl b, H, I.kept (t' := tk) fun _ _ z => z, rfl, q⟩
theorem call_isXT (hz : Zc cls d oe) (hf : ∃ vs, oe.data = .fields vs) : CallR (X.suite a ((a, oe) :: pn)) (.builtin "isinstance") (rIsXT X.K a cls d) := by
  rintro pins s σ H xs us Q I r ⟨D, dd, tp, fs, cs, ws, b, rfl, rfl, e, C, rfl, hT, k, kt, q⟩
  obtain ⟨u1, u2, rfl, r1, r2⟩ := vals2 r
  obtain rfl : u1 = Value.ref a := r1
  obtain rfl : u2 = Value.ref tp := r2
  obtain ⟨od, J⟩ := held_at I hz hf e
  obtain ⟨_, its, rv, o, h1, h2, n, h3⟩ := I.hok tp _ hT
  obtain rfl := ClsV.all k rv
  obtain ⟨oc, odd, dt, sl⟩ := o
  simp only at h2 h3
  subst h2
  subst h3
  exact PySem.W.kia_tup (PySem.W.kitx_exc (cls_some C.hd) C.hg C.hk C.hs C.ha C.hn C.ht C.hm) I.kIn J h1 kt (fun z => nomatch z) fun tk => ⟨.bl b, H, I.kept (t' := tk) fun _ _ z => z, rfl, q⟩
end
/-- a def that may raise, called where it does not -/
theorem passX {X : Cx} : Passes (L2.CX X.prog X.w) X E0 := by
  rintro pins σ H s e s' I ⟨_, _, _, _, _, _, _, _, _, _, _, _, z⟩
  exact z.elim
structure CalX (P : Program) (w : World) (K : PySem.W.Frag) (mg : Str → Option Value) (base : Heap) (k : Nat) (x : Str) (sp : Sp) : Prop where
  ex : ∃ (f : Addr) (fd : FuncData) (ps : List Str), FnOk P w K mg base (L2.CX P w) k f fd ps sp ∧ mg x = some (.ref f) ∧ PySem.W.keepIn K (.ref f) = true ∧ Binds K fd ps []
section
variable {X : Cx} {x : Str} {p pos : Pos} {e : Expr} {es : List Expr} {t : TA} {k j : Nat} {sp : Sp}
theorem pe_x (c : CalX X.prog X.w X.K X.mg X.base k x sp) (hr : Room j X.A) (hk : k ≤ j) (hg : Gl X x) (ha : PA X (e :: es) t)
    (h1 : (x == ("__debug__" : Str)) = false := by decide) (h2 : starEach (e :: es) X.env = (false, eval e X.env) :: starEach es X.env := by rfl)
    (h3 : (backTo pos (starEach es X.env)).any (·.1) = false := by rfl) : PE X (.Call (.Name x p) (e :: es) [] pos) (tCall sp [] E0 t) := by
  obtain ⟨f, fd, ps, F, hm, kp, b⟩ := c.ex
  exact pe_call F (hr.mono hk) hg hm kp b .nil passX ha h1 h2 h3
theorem pe_xs {W : WX} (c : CalX X.prog X.w X.K X.mg X.base k x sp) (tk : Takes X W) (hr : Room j X.A) (hk : k ≤ j) (hg : Gl X x) (ha : PA X (e :: es) t)
    (h1 : (x == ("__debug__" : Str)) = false := by decide) (h2 : starEach (e :: es) X.env = (false, eval e X.env) :: starEach es X.env := by rfl)
    (h3 : (backTo pos (starEach es X.env)).any (·.1) = false := by rfl) : PE X (.Call (.Name x p) (e :: es) [] pos) (tCallS sp (WE W) t) := by
  obtain ⟨f, fd, ps, F, hm, kp, b⟩ := c.ex
  exact pe_callS F (hr.mono hk) hg hm kp b (fun σ => passAt tk σ) ha h1 h2 h3
end
end Lb

set_option maxHeartbeats 4000000
namespace Lb
open PySem PySem.Spec PyProof.Rows L2
/-! ### 24. What the top has left: defs, methods, classes -/
/-- a def of the text stands under its name -/
structure DefIn (K : PySem.W.Frag) (mg : Str → Option Value) (x : Str) (st : Stmt) : Prop where
  ex : ∃ (f : Addr) (fd : FuncData), Fun K x x st f fd ∧ mg x = some (.ref f)
theorem def_in {K : PySem.W.Frag} {h : Heap} {mg : Str → Option Value} {x : Str} {st : Stmt} (X : K.In h) (G : h.Ns mainGlobals mg) {f : Addr} {od an : Option Addr} {sl : Array (Option Value)} {oc kV dc pm cd ct : Value}
    (a : PySem.W.nsIn K mainGlobals x = some (some (.ref f))) (l : K.lookup f = some ⟨oc, od, .func (PySem.W.fnOf x x (defArgs st) (defBody st) (defScope st) .none kV dc pm an cd ct), sl⟩)
    (c : PySem.W.codeIn K cd x = true) (k : PySem.W.keepIn K (.ref f) = true) : DefIn K mg x st := ⟨f, _, fun_mk l c k, PySem.W.mg_of X G a⟩
theorem int_in {K : PySem.W.Frag} {h : Heap} {mg : Str → Option Value} {x : Str} {n : Int} {t : Tok} (X : K.In h) (G : h.Ns mainGlobals mg) (a : PySem.W.nsIn K mainGlobals x = some (some (.int n t))) : ∃ u, mg x = some u ∧ RelV (.int n) u :=
  ⟨_, PySem.W.mg_of X G a, t, rfl⟩
/-- a method stands in its class -/
structure MethIn (K : PySem.W.Frag) (C : Addr) (x qual : Str) (st : Stmt) : Prop where
  ex : ∃ (f : Addr) (fd : FuncData), Fun K x qual st f fd ∧ PySem.W.findIn K (.ref C) x = some (some (.ref f)) ∧ PySem.W.isFn K (.ref f) = true
theorem meth_in {K : PySem.W.Frag} {C : Addr} {x qual : Str} {st : Stmt} {f : Addr} {od an : Option Addr} {sl : Array (Option Value)} {oc kV dc pm cd ct : Value}
    (a : PySem.W.findIn K (.ref C) x = some (some (.ref f))) (l : K.lookup f = some ⟨oc, od, .func (PySem.W.fnOf x qual (defArgs st) (defBody st) (defScope st) .none kV dc pm an cd ct), sl⟩)
    (c : PySem.W.codeIn K cd qual = true) (k : PySem.W.keepIn K (.ref f) = true) (n : PySem.W.isFn K (.ref f) = true) : MethIn K C x qual st := ⟨f, _, fun_mk l c k, a, n⟩
section
variable {P : Program} {w : World} {K : PySem.W.Frag} {mg : Str → Option Value} {base : Heap} {x : Str} {st : Stmt} {k : Nat} {sp : Sp} {ps : List Str}
theorem DefIn.cal (D : DefIn K mg x st) (hb : ∀ f fd, Fun K x x st f fd → Binds K fd ps []) (ok : ∀ f fd, Fun K x x st f fd → FnOk P w K mg base CX0 k f fd ps sp) : Cal P w K mg base k x sp := by
  obtain ⟨f, fd, F, m⟩ := D.ex
  exact ⟨f, fd, ps, ok f fd F, m, F.kp, hb f fd F⟩
theorem DefIn.calG (D : DefIn K mg x st) (hb : ∀ f fd, Fun K x x st f fd → Binds K fd ps []) (ok : ∀ f fd, Fun K x x st f fd → FnG P w K mg base k f fd ps sp) : CalG P w K mg base k x sp := by
  obtain ⟨f, fd, F, m⟩ := D.ex
  exact ⟨f, fd, ps, ok f fd F, m, F.kp, hb f fd F⟩
theorem DefIn.calX (D : DefIn K mg x st) (hb : ∀ f fd, Fun K x x st f fd → Binds K fd ps []) (ok : ∀ f fd, Fun K x x st f fd → FnOk P w K mg base (L2.CX P w) k f fd ps sp) : CalX P w K mg base k x sp := by
  obtain ⟨f, fd, F, m⟩ := D.ex
  exact ⟨f, fd, ps, ok f fd F, m, F.kp, hb f fd F⟩
end
theorem kit_ty {K : PySem.W.Frag} {D : Addr} {T : String} {b : Bool} (m : PySem.W.kitMeta T = true) (s : PySem.W.subIn K (.ref D) (.type T) = some b) : PySem.W.kitOne K (.ref D) (.type T) = some b := by
  unfold PySem.W.kitOne PySem.W.kitCls
  rw [if_neg (by simp)]
  exact (if_pos m).trans s
theorem kit_no {K : PySem.W.Frag} {D C : Addr} {b : Bool} (n : (D == C) = false) (c : PySem.W.isClsIn K C = true) (t : PySem.W.typeIn K (.ref C) = some (.type "type")) (s : PySem.W.subIn K (.ref D) (.ref C) = some b) : PySem.W.kitOne K (.ref D) (.ref C) = some b := by
  have c2 : (PySem.W.clsIn K C).isSome = true := c
  have e : ((PySem.W.clsIn K C).isSome && PySem.W.typeIn K (.ref C) == some (.type "type")) = true := by rw [c2, t] <;> rfl
  have ne : ¬ ((Value.ref D == Value.ref C) = true) := fun z => by
    have z2 := beq_iff_eq.mp z
    cases z2
    rw [beq_self_eq_true] at n
    cases n
  unfold PySem.W.kitOne PySem.W.kitCls
  rw [if_neg ne]
  exact (if_pos e).trans s
theorem kit_no3 {K : PySem.W.Frag} {t a b c : Value} (h1 : PySem.W.kitOne K t a = some false) (h2 : PySem.W.kitOne K t b = some false) (h3 : PySem.W.kitOne K t c = some false) : PySem.W.kitAny K t [a, b, c] = some false := by
  simp only [PySem.W.kitAny, h1, h2, h3]
theorem refs_se {S : Addr} : PySem.HandSPX.refsVE [.ref S, .type "ValueError", .type "Exception", .type "BaseException", .type "object"] = true := by
  show PySem.HandSPX.refsVE [.type "ValueError", .type "Exception", .type "BaseException", .type "object"] = true
  decide +kernel
end Lb

set_option maxHeartbeats 4000000
namespace Lb
open PySem PySem.Spec PyProof.Rows L2
/-! ### 25. A caught error that is handed on to a def -/
section
variable (P : Program) (w : World) (K : PySem.W.Frag) (mg : Str → Option Value) (base : Heap)
/-- a def that is handed the error at p, of the class cls, with its fields at d -/
structure FnE (k : Nat) (f : Addr) (fd : FuncData) (ps : List Str) (sp : Addr → Value → Option Addr → Sp) : Prop where
  many : ∀ a cls d vs H Q E, sp a cls d vs H Q E → vs.length = ps.length
  go : ∀ (A : Around) (outer : List Env) (s : Shared) (H : Hp) (args : Args) (us : List Value) (vs : List V) (Q : VK) (E : XK) (p : Addr × Obj) (cls : Value) (d : Option Addr),
    L2H.RoomH k A → L2H.PinOk outer H s p → Zc cls d p.2 → (∃ fs, p.2.data = .fields fs) → Env0 P w K mg base A outer s H → BindsTo s fd args (ps.zip us) → Vals vs us → sp p.1 cls d vs H Q E →
      codeAny (model P w) A (.call (.ref f) args) (CR CX0 outer P w H s Q E) s
structure CalE (k : Nat) (x : Str) (sp : Addr → Value → Option Addr → Sp) : Prop where
  ex : ∃ (f : Addr) (fd : FuncData) (ps : List Str), FnE P w K mg base k f fd ps sp ∧ mg x = some (.ref f) ∧ PySem.W.keepIn K (.ref f) = true ∧ Binds K fd ps []
end
section
variable {P : Program} {w : World} {K : PySem.W.Frag} {mg : Str → Option Value} {base : Heap}
theorem fnE_of {x qual : Str} {st : Stmt} {f : Addr} {fd : FuncData} {N ps : List Str} {k : Nat} {sp : Addr → Value → Option Addr → Sp} (F : Fun K x qual st f fd)
    (S : FnScope N ps (defScope st)) (many : ∀ a cls d vs H Q E, sp a cls d vs H Q E → vs.length = ps.length)
    (body : ∀ (cdv : Value) (A : Around) (outer : List Env) (s : Shared) (H : Hp) (vs : List V) (Q : VK) (E : XK) (p : Addr × Obj) (cls : Value) (d : Option Addr),
      L2H.RoomH k (A.deeper (envOfC qual (defScope st) s.heap.objs.size f cdv)) → Zc cls d p.2 → (∃ fs, p.2.data = .fields fs) → sp p.1 cls d vs H Q E →
      ∃ t, PSs (L2H.cxH CX0 P w K mg base N qual (defScope st) f cdv A outer s H E p).nox (defBody st) t ∧ t { nx := fun _ H' => Q .non H', rt := Q } (L2.start N vs) H) :
    FnE P w K mg base (k + 1) f fd ps sp := by
  obtain ⟨oc, od, kV, doc, pm, an, cdv, ct, osl, rfl, lk, hcd⟩ := F.ex
  constructor
  · exact many
  intro A outer s H args us vs Q E p cls d room pin z fl e0 bindsTo vals wish
  have old : ∀ b o, base.get? b = some o → s.heap.get? b = some o := fun b o y => (e0.bs b o y).1
  have inK := e0.mod.kin.keeps old
  have kinds : ∀ y ∈ ps.zip us, (defScope st).names.lookup y.1 = some .local ∨
      ((defScope st).names.lookup y.1 = some .cell ∧ ((cellsFrom (s.heap.objs.size + 1) (defScope st).names []).lookup y.1).isSome = true) := by
    rintro ⟨n, v⟩ hy
    exact (S.par n (List.of_mem_zip hy).1).imp id fun q => ⟨q, PySem.W.cellsFrom_some _ _ _ (.inl q)⟩
  refine codeAny_call_function room.depth (inK _ _ lk) rfl S.co S.gen rfl (PySem.W.codeRec_of inK hcd) (bindsTo _ _ _ _ ?_)
  refine wpAny_newFunctionEnv_cells S.kind kinds ?_
  rintro env rfl s1 x
  refine ⟨(e0.mod.nolimit.keeps old).keeps x.toInCall.keep, codeAny_func ?_⟩
  obtain ⟨t, ht, hq⟩ := body cdv A outer s H vs Q E p cls d (room.deeper _) z fl wish
  have J0 := L2H.inv_startH (CX := CX0) (E := E) S pin e0 (many _ _ _ _ _ _ _ wish) vals x
  refine wpAny_mono (ht.nox.run [] s1 (L2.start N vs) H _ J0 hq) ?_ fun e s' hs => hs
  intro flow s' hs
  cases flow with
  | next =>
    obtain ⟨σ', H', J, q⟩ := hs
    exact ⟨V.non, H', J.os, J.bare, J.base, J.hok, rfl, q⟩
  | ret u =>
    obtain ⟨v, σ', H', J, rv, q⟩ := hs
    exact ⟨v, H', J.os, J.bare, J.base, J.hok, rv, q⟩
  | brk => exact (let ⟨_, _, _, q⟩ := hs; q : False).elim
  | cont => exact (let ⟨_, _, _, q⟩ := hs; q : False).elim
end
section
variable {X : Cx} {cls : Value} {d : Option Addr} {p : Addr × Obj}
theorem pin_at {pins : List (Addr × Obj)} {σ : L2.St} {H : Hp} {s : Shared} {D dd : Addr} {fs : List (Str × V)} (hp : p ∈ X.pn) (I : Inv X pins σ H s) (hz : Zc (.ref D) (some dd) p.2) (hf : ∃ vs, p.2.data = .fields vs) (e : H dd = some (.xd fs)) :
    ∃ od, PySem.W.InstAt s.heap p.1 p.2 D (some od) := by
  obtain ⟨hget, _⟩ := I.pin p (List.mem_append_left _ hp)
  obtain ⟨vs, hv⟩ := hf
  obtain ⟨mA, ⟨od, es, ep, h1, _⟩, _⟩ := I.hok dd _ e
  exact ⟨od, hget, hz.1, by unfold PySem.W.notCls; rw [hv], by rw [hz.2]; exact h1⟩
theorem call_isP (hp : p ∈ X.pn) (hz : Zc cls d p.2) (hf : ∃ vs, p.2.data = .fields vs) : CallR X (.builtin "isinstance") (rIsX X.K p.1 cls d) := by
  rintro pins s σ H xs us Q I r ⟨D, dd, fs, c, cv, b, rfl, rfl, e, C, rfl, k, kt, q⟩
  obtain ⟨u1, u2, rfl, r1, r2⟩ := vals2 r
  obtain rfl : u1 = Value.ref p.1 := r1
  obtain rfl := k.eq r2
  obtain ⟨od, J⟩ := pin_at hp I hz hf e
  exact PySem.W.kia_one (PySem.W.kitx_exc (cls_some C.hd) C.hg C.hk C.hs C.ha C.hn C.ht C.hm) I.kIn J kt (fun y => nomatch y) fun tk => ⟨.bl b, H, I.kept (t' := tk) fun _ _ y => y, rfl, q⟩
theorem call_isPT (hp : p ∈ X.pn) (hz : Zc cls d p.2) (hf : ∃ vs, p.2.data = .fields vs) : CallR X (.builtin "isinstance") (rIsXT X.K p.1 cls d) := by
  rintro pins s σ H xs us Q I r ⟨D, dd, tp, fs, cs, ws, b, rfl, rfl, e, C, rfl, hT, k, kt, q⟩
  obtain ⟨u1, u2, rfl, r1, r2⟩ := vals2 r
  obtain rfl : u1 = Value.ref p.1 := r1
  obtain rfl : u2 = Value.ref tp := r2
  obtain ⟨od, J⟩ := pin_at hp I hz hf e
  obtain ⟨_, its, rv, o, h1, h2, n, h3⟩ := I.hok tp _ hT
  obtain rfl := ClsV.all k rv
  obtain ⟨oc, odd, dt, sl⟩ := o
  simp only at h2 h3
  subst h2
  subst h3
  exact PySem.W.kia_tup (PySem.W.kitx_exc (cls_some C.hd) C.hg C.hk C.hs C.ha C.hn C.ht C.hm) I.kIn J h1 kt (fun y => nomatch y) fun tk => ⟨.bl b, H, I.kept (t' := tk) fun _ _ y => y, rfl, q⟩
theorem pe_xp {C : Addr} {e : Expr} {te : TE} {pos : Pos} {n : Str} (T : XfC X.K C) (hno : PySem.W.findIn X.K (.ref C) n = some none) (hp : p ∈ X.pn) (hz : Zc cls d p.2) (hf : ∃ vs, p.2.data = .fields vs) (he : PE X e te)
    (hb : attributeBase e n X.env (eval e X.env) = eval e X.env := by rfl) : PE X (.Attribute e n pos) (tXf p.1 cls d C n te) := by
  constructor
  intro pins s σ H Q I h
  refine attr_of hb (thn (he.run pins s σ H _ I h) ?_)
  rintro u s1 ⟨x, H1, I1, rx, rfl, rfl, dd, fs, v, rfl, ea, l, q⟩
  obtain rfl : u = Value.ref p.1 := rx
  obtain ⟨hget, _⟩ := I1.pin p (List.mem_append_left _ hp)
  obtain ⟨vs, hv⟩ := hf
  obtain ⟨mA, hns, hr⟩ : ObjOk X.prog X.w H1 s1.heap dd (.xd fs) := I1.hok dd _ ea
  obtain ⟨od, ho, hl⟩ := lookIn_ns hns
  obtain ⟨y, hu, ru⟩ := RelO.some_of (v := v) (o := mA n) (by rw [← l]; exact hr n)
  have J : PySem.W.InstAt s1.heap p.1 p.2 C (some od) := ⟨hget, hz.1, by unfold PySem.W.notCls; rw [hv], by rw [hz.2]; exact ho⟩
  exact HandSPX.exc_get I1.kIn J T.ga T.gg T.exC (PySem.W.findObj_own T.hdC hno rfl (by rw [hl, hu])) (handed_of ru) ⟨v, H1, I1.tok _, ru, q⟩
end
/-- f(e) in the suite that holds e -/
def tE (sp : Addr → Value → Option Addr → Sp) (a : Addr) (cls : Value) (d : Option Addr) (t : TA) : TE := fun σ H Q => t σ H fun vs H1 => sp a cls d vs H1 Q E0
theorem pe_e {X : Cx} {x : Str} {q pos : Pos} {e : Expr} {es : List Expr} {t : TA} {k j : Nat} {sp : Addr → Value → Option Addr → Sp} {a : Addr} {oe : Obj} {cls : Value} {d : Option Addr} {pn : List (Addr × Obj)} (c : CalE X.prog X.w X.K X.mg X.base k x sp) (hr : Room j X.A) (hk : k ≤ j)
    (hz : Zc cls d oe) (hf : ∃ vs, oe.data = .fields vs) (hg : Gl (X.suite a ((a, oe) :: pn)) x) (ha : PA (X.suite a ((a, oe) :: pn)) (e :: es) t)
    (h1 : (x == ("__debug__" : Str)) = false := by decide) (h2 : starEach (e :: es) X.env = (false, eval e X.env) :: starEach es X.env := by rfl)
    (h3 : (backTo pos (starEach es X.env)).any (·.1) = false := by rfl) : PE (X.suite a ((a, oe) :: pn)) (.Call (.Name x q) (e :: es) [] pos) (tE sp a cls d t) := by
  obtain ⟨f, fd, ps, F, hm, kp, b⟩ := c.ex
  constructor
  intro pins s σ H Q I h
  refine wpAny_Call_Name_kw (ld_glob I hg hm ?_ h1)
  refine PySem.W.callWith_K (h₀ := X.base) I.ok.mod.kin kp (thn (ha.run pos pins s σ H _ I h) ?_) h2 h3
  rintro us s1 ⟨vs, H1, I1, r, y⟩
  refine ⟨I1.kIn, ?_⟩
  have len : us.length = ps.length := r.length.symm.trans (F.many _ _ _ _ _ _ _ y)
  have bt := b s1 us I1.kIn (by rw [List.append_nil]; exact len)
  rw [List.append_nil] at bt
  obtain ⟨g1, g2, g3, g4, g5⟩ := I1.pin (a, oe) (List.mem_append_left _ List.mem_cons_self)
  have pin : L2H.PinOk (X.suite a ((a, oe) :: pn)).stack H1 s1 (a, oe) := by
    refine ⟨g1, g2, fun hm => ?_, g5⟩
    exact (List.mem_cons.mp (I1.stkSub a hm)).elim g3 g4
  have hm := hr.mono hk
  refine wpAny_call (codeAny_mono (F.go _ _ s1 H1 ⟨us, []⟩ us vs Q E0 (a, oe) cls d ⟨hm.dp, hm.un⟩ pin hz hf I1.env0 bt r y) ?_)
  intro z s' hq
  cases z with
  | error e => exact False.elim hq
  | ok fl => cases fl with
    | ret u => exact I1.after hq
    | next => exact False.elim hq
    | brk => exact False.elim hq
    | cont => exact False.elim hq
/-! ### 26. Makings and methods that may raise, within a try -/
def tMakeX (C : Addr) (sp : Sp) (E : L2.St → XK) (t : TA) : TE := fun σ H Q => t σ H fun vs H1 => ∀ x dx, H1 x = none → H1 dx = none → dx ≠ x →
  sp (.ref x :: vs) (upd (upd H1 dx (.own x)) x (.ins C dx [])) (fun v H2 => v = .non ∧ Q (.ref x) H2) (E σ)
theorem pe_makeX {X : Cx} {C f : Addr} {k j : Nat} {fd : FuncData} {ps : List Str} {sp : Sp} {W : WX} {x : Str} {p pos : Pos} {e : Expr} {es : List Expr} {t : TA} (M : L2.Mk X.K C f) (F : FnOk X.prog X.w X.K X.mg X.base (L2.CX X.prog X.w) k f fd ps sp) (tk : Takes X W) (hr : Room j X.A) (hk : k + 1 ≤ j)
    (hg : Gl X x) (hm : X.mg x = some (.ref C)) (hb : Binds X.K fd ps []) (ha : PA X (e :: es) t)
    (h1 : (x == ("__debug__" : Str)) = false := by decide) (h2 : starEach (e :: es) X.env = (false, eval e X.env) :: starEach es X.env := by rfl)
    (h3 : (backTo pos (starEach es X.env)).any (·.1) = false := by rfl) : PE X (.Call (.Name x p) (e :: es) [] pos) (tMakeX C sp (WE W) t) := by
  constructor
  intro pins s σ H Q I h
  refine wpAny_Call_Name_kw (ld_glob I hg hm ?_ h1)
  refine PySem.W.callWith_K (h₀ := X.base) I.ok.mod.kin M.kp (thn (ha.run pos pins s σ H _ I h) ?_) h2 h3
  rintro us s1 ⟨vs, H1, I1, r, q⟩
  refine ⟨I1.kIn, ?_⟩
  have wish := q (s1.heap.objs.size + 1) s1.heap.objs.size (I1.hok.fresh (Nat.le_succ _)) (I1.hok.fresh (Nat.le_refl _)) (Nat.ne_of_lt (Nat.lt_succ_self _))
  have I2 := Inv.made (C := C) I1
  have r2 : Vals (V.ref (s1.heap.objs.size + 1) :: vs) (Value.ref (s1.heap.objs.size + 1) :: us) := .cons rfl r
  have len : (Value.ref (s1.heap.objs.size + 1) :: us).length = ps.length := r2.length.symm.trans (F.len _ _ _ _ wish)
  have bt := hb { s1 with heap := _ } (Value.ref (s1.heap.objs.size + 1) :: us) I2.kIn (by rw [List.append_nil]; exact len)
  rw [List.append_nil] at bt
  have rm : Room (k + 1) X.A := hr.mono hk
  refine wpAny_call (make_map (f := f) I1.kIn M.makes M.init (beq_iff_eq.mp M.fn) (codeAny_mono (F.run _ X.stack _ _ ⟨Value.ref (s1.heap.objs.size + 1) :: us, []⟩ _ _ _ (WE W σ) (rm.make C us []) (I2.env0.make C us []) bt r2 wish) ?_))
  intro z s' hq
  cases z with
  | error e => exact passAt tk σ pins _ _ e s' I2 hq
  | ok fl => cases fl with
    | ret u =>
      obtain ⟨v, H', I3, rv, rfl, q3⟩ := I2.after hq
      exact ⟨rv, ⟨V.ref (s1.heap.objs.size + 1), H', I3, rfl, q3⟩⟩
    | next => exact False.elim hq
    | brk => exact False.elim hq
    | cont => exact False.elim hq
def tMethX (C : Addr) (m : Str) (sp : Sp) (E : L2.St → XK) (ta : TE) (t : TA) : TE := fun σ H Q => ta σ H fun x H1 => ∃ a dx fs, x = .ref a ∧ H1 a = some (.ins C dx fs) ∧ fs.lookup m = none ∧ t σ H1 fun vs H2 => sp (x :: vs) H2 Q (E σ)
theorem pe_methX {X : Cx} {C f : Addr} {k j : Nat} {fd : FuncData} {ps : List Str} {sp : Sp} {W : WX} {m : Str} {pos apos : Pos} {e o : Expr} {es : List Expr} {ta : TE} {t : TA} {pl : Sem Bool} (he : PE X o ta) (c : Cls X.K C) (hm : Meth X.K C m f)
    (F : FnOk X.prog X.w X.K X.mg X.base (L2.CX X.prog X.w) k f fd ps sp) (tk : Takes X W) (hr : Room j X.A) (hk : k ≤ j) (hb : Binds X.K fd ps []) (ha : PA X (e :: es) t)
    (h2 : starEach (e :: es) X.env = (false, eval e X.env) :: starEach es X.env := by rfl) (h3 : (backTo pos (starEach es X.env)).any (·.1) = false := by rfl)
    (ht : eval (.Call (.Attribute o m apos) (e :: es) [] pos) X.env = (do
      let ov ← eval o X.env; standAt apos.atName
      let (f, first) ← holding [ov] (getMethod ov m pl); callWith pos f first (backTo pos (starEach (e :: es) X.env)) (backToKw pos (keywordEach [] X.env))) := by rfl) :
    PE X (.Call (.Attribute o m apos) (e :: es) [] pos) (tMethX C m sp (WE W) ta t) := by
  constructor
  intro pins s σ H Q I h
  refine PySem.W.methodCall_KW (pl := pl) (thn (he.run pins s σ H _ I h) ?_) ht
  rintro u s1 ⟨x, H1, I1, rx, a, dx, fs, rfl, ea, l, q⟩
  obtain rfl : u = Value.ref a := rx
  refine getmeth_ok I1 ea c hm l ?_
  refine PySem.W.callWith_K (first := [.ref a]) (h₀ := X.base) I.ok.mod.kin hm.kp (thn (ha.run pos pins s1 σ H1 _ I1 q) ?_) h2 h3
  rintro us s2 ⟨vs, H2, I2, r, q2⟩
  exact ⟨I2.kIn, run_fnS (us := .ref a :: us) (vs := .ref a :: vs) F (hr.mono hk) hb (passAt tk σ) I2 (.cons rfl r) q2⟩
/-! ### 27. == by the own method, the other side any thing -/
def rEqO (K : PySem.W.Frag) (C : Addr) (sp : Sp) (g : Bool → Bool) : V → V → Hp → VK → Prop := fun x y H Q => ∃ (a dx : Addr) (fs : List (Str × V)) (tb : Value), x = .ref a ∧ H a = some (.ins C dx fs) ∧ TyX K H y tb ∧ PySem.W.notFirst K C tb = true ∧
  sp [.ref a, y] H (fun v H' => ∃ k : Bool, v = .bl k ∧ Q (.bl (g k)) H') E0
theorem op_eqO {X : Cx} {k j : Nat} {C : Addr} {sp : Sp} (c : Spc X.prog X.w X.K X.mg X.base k C "__eq__" sp) (hr : Room j X.A) (hk : k ≤ j) : OpR X (compareOp .Eq) (rEqO X.K C sp id) := by
  rintro pins s σ H x y u v Q I rx ry ⟨a, dx, fs, tb, rfl, ea, ty, nf, h⟩
  obtain ⟨f, fd, ps, a1, a2, F, bd⟩ := c.ex
  obtain rfl : u = Value.ref a := rx
  obtain ⟨ox, od, J⟩ := inst_at I ea
  obtain ⟨Pz, Z, pz, _⟩ := kit_of I ry ty
  obtain ⟨m, fr⟩ := I.fr
  have un := hr.un
  refine PySem.W.cmp_ofEq (PySem.W.cmp_K (op := .Eq) (by omega) fr I.ok.mod.kin J (Z.ty _ _ I.kIn pz) nf a1 a2 (wpAny_mono (run_fn F (hr.mono hk) bd .nil pass0 I (.cons (show RelV (.ref a) (.ref a) from rfl) (.cons ry .nil)) h) ?_ fun _ _ z => z))
  rintro r s' ⟨z, H', I', rv, q, rfl, w⟩
  obtain rfl : r = Value.bool q := rv
  exact ⟨.bl q, H', I', rfl, w⟩
theorem notFirst_ty {K : PySem.W.Frag} {C : Addr} {T : String} {l : List Value} (h : fastBuiltinMro T = some l) (k : ∀ v ∈ l, ∃ t, v = .type t) : PySem.W.notFirst K C (.type T) = true := by
  unfold PySem.W.notFirst PySem.W.subIn
  simp only [h, Option.map_some]
  have e : l.contains (Value.ref C) = false := by
    cases q : l.contains (Value.ref C) with
    | false => rfl
    | true =>
      obtain ⟨t, z⟩ := k _ (List.contains_iff_mem.mp q)
      cases z
  rw [e]
  simp
end Lb

set_option maxHeartbeats 4000000
namespace Lb
open PySem PySem.Spec PyProof.Rows L2
theorem mro_of (d : PyData) : ∃ l, fastBuiltinMro (tyN d) = some l ∧ ∀ v ∈ l, ∃ t, v = Value.type t := by
  have go : ∀ {T : String} {l : List Value}, fastBuiltinMro T = some l → (l.all fun v => match v with | .type _ => true | _ => false) = true → ∃ l, fastBuiltinMro T = some l ∧ ∀ v ∈ l, ∃ t, v = Value.type t := by
    intro T l h k
    refine ⟨l, h, fun v hv => ?_⟩
    have := List.all_eq_true.mp k v hv
    cases v with
    | type t => exact ⟨t, rfl⟩
    | _ => cases this
  cases d with
  | none => exact go (show fastBuiltinMro "NoneType" = some [.type "NoneType", .type "object"] by decide +kernel) (by decide +kernel)
  | bool _ => exact go (show fastBuiltinMro "bool" = some [.type "bool", .type "int", .type "object"] by decide +kernel) (by decide +kernel)
  | int _ => exact go (show fastBuiltinMro "int" = some [.type "int", .type "object"] by decide +kernel) (by decide +kernel)
  | str _ => exact go (show fastBuiltinMro "str" = some [.type "str", .type "object"] by decide +kernel) (by decide +kernel)
  | list _ => exact go (show fastBuiltinMro "list" = some [.type "list", .type "object"] by decide +kernel) (by decide +kernel)
  | tuple _ => exact go (show fastBuiltinMro "tuple" = some [.type "tuple", .type "object"] by decide +kernel) (by decide +kernel)
  | dict _ => exact go (show fastBuiltinMro "dict" = some [.type "dict", .type "object"] by decide +kernel) (by decide +kernel)
theorem notFirst_of {K : PySem.W.Frag} {C : Addr} (d : PyData) : PySem.W.notFirst K C (.type (tyN d)) = true := by
  obtain ⟨l, h, k⟩ := mro_of d
  exact notFirst_ty h k
theorem kit_notOwn {K : PySem.W.Frag} {C : Addr} (c : PySem.W.isClsIn K C = true) (t : PySem.W.typeIn K (.ref C) = some (.type "type")) (d : PyData) : PySem.W.kitOne K (.type (tyN d)) (.ref C) = some false := by
  have c2 : (PySem.W.clsIn K C).isSome = true := c
  have e : ((PySem.W.clsIn K C).isSome && PySem.W.typeIn K (.ref C) == some (.type "type")) = true := by rw [c2, t] <;> rfl
  obtain ⟨l, h, k⟩ := mro_of d
  have e2 : l.contains (Value.ref C) = false := by
    cases q : l.contains (Value.ref C) with
    | false => rfl
    | true =>
      obtain ⟨t, z⟩ := k _ (List.contains_iff_mem.mp q)
      cases z
  unfold PySem.W.kitOne PySem.W.kitCls
  rw [if_neg (by simp)]
  refine (if_pos e).trans ?_
  unfold PySem.W.subIn
  simp only [h, Option.map_some, e2]
end Lb

set_option maxHeartbeats 4000000
namespace Lb
open PySem PySem.Spec PyProof.Rows L2
/-! ### 31. Own errors as values -/
/-- C(v), C's own __init__ keeping v as its field -/
def tMkV (C : Addr) (fld : Str) (ta : TA) : TE := fun σ H Q => ta σ H fun vs H1 => ∃ v, vs = [v] ∧ ∀ (a d : Addr) (H2 : Hp), H1 a = none → H1 d = none → d ≠ a → Same H1 H2 → H2 a = some (exo a C (some d)) → H2 d = some (exd d [(fld, v)]) → Q (.ref a) H2
theorem pe_mkV {X : Cx} {x fld : Str} {C : Addr} {k j : Nat} {e : Expr} {ta : TA} {p pos : Pos} (c : XC X.prog X.w X.K X.mg X.base k x C fld) (hr : Room j X.A) (hk : k + 1 ≤ j) (hg : Gl X x) (ha : PA X [e] ta)
    (h1 : (x == ("__debug__" : Str)) = false := by decide) (h2 : starEach [e] X.env = (false, eval e X.env) :: starEach [] X.env := by rfl) (h3 : (backTo pos (starEach [] X.env)).any (·.1) = false := by rfl) :
    PE X (.Call (.Name x p) [e] [] pos) (tMkV C fld ta) := by
  obtain ⟨fI, fd, ps, i1, i2, F1, hb⟩ := c.i
  have T := c.o
  constructor
  intro pins s σ H Q I h
  obtain ⟨nm, qn, N, bs, bm, sn, sub, ab, col, dd, k0, k1, k2, k3, k5, hC, hbm⟩ := T.cls
  refine wpAny_Call_Name_kw (ld_glob I hg c.m ?_ h1)
  refine PySem.W.callWith_K (h₀ := X.base) I.ok.mod.kin T.kC (thn (ha.run pos pins s σ H _ I h) ?_) h2 h3
  rintro us s1 ⟨vs, H1, I1, r1, v, rfl, q1⟩
  refine ⟨I1.kIn, ?_⟩
  show wpAny _ _ (call (.ref C) us) _ _ _
  obtain ⟨hp, g, dr, tk, os⟩ := s1
  have up : hp.objs.size ≤ hp.objs.size + 1 := Nat.le_succ _
  have na : H1 (hp.objs.size + 1) = none := I1.hok.fresh up
  have wish : spXI C fld [.ref (hp.objs.size + 1), v] (upd H1 (hp.objs.size + 1) (exo (hp.objs.size + 1) C none)) (fun u H2 => u = .non ∧ Q (.ref (hp.objs.size + 1)) H2) (fun _ _ _ => False) := by
    refine ⟨_, v, rfl, upd_same, fun dx nd ne => ⟨rfl, ?_⟩⟩
    rw [upd_ne ne] at nd
    refine q1 _ dx _ na nd ne (fun y o z => ?_) upd_same (by rw [upd_ne ne, upd_same])
    have ya := ne_of_none z na
    rw [upd_ne ya, upd_ne (ne_of_none z nd), upd_ne ya]
    exact z
  have there : ∀ b o, hp.get? b = some o → ((hp.push (PySem.W.kdv_tup us)).push (PySem.HandSPX.excO C hp.objs.size)).get? b = some o := fun b o e => Heap.get?_push_of_some _ (Heap.get?_push_of_some _ e)
  have mine : ((hp.push (PySem.W.kdv_tup us)).push (PySem.HandSPX.excO C hp.objs.size)).get? (hp.objs.size + 1) = some (PySem.HandSPX.excO C hp.objs.size) := by heap_get
  have I2 : Inv X pins σ (upd H1 (hp.objs.size + 1) (exo (hp.objs.size + 1) C none)) ⟨(hp.push (PySem.W.kdv_tup us)).push (PySem.HandSPX.excO C hp.objs.size), g, dr, tk, os⟩ :=
    I1.laid (t' := tk) (a := hp.objs.size + 1) (o := exo (hp.objs.size + 1) C none) there up (exo_ok mine)
  have r2 : Vals [V.ref (hp.objs.size + 1), v] (Value.ref (hp.objs.size + 1) :: us) := .cons rfl r1
  have len : (Value.ref (hp.objs.size + 1) :: us).length = ps.length := r2.length.symm.trans (F1.len _ _ _ _ wish)
  have few : us.length ≤ sizeLine := by
    rw [← r1.length]
    show 1 ≤ sizeLine
    decide
  have bt := hb ⟨(hp.push (PySem.W.kdv_tup us)).push (PySem.HandSPX.excO C hp.objs.size), g, dr, tk, os⟩ (Value.ref (hp.objs.size + 1) :: us) I2.kIn (by rw [List.append_nil]; exact len)
  rw [List.append_nil] at bt
  have rm : Room (k + 1) X.A := hr.mono hk
  refine wpAny_call (PySem.HandSPX.call_own F.excBase_ValueError (fun Y => PySem.HandSPX.refsVE_contains Y bm hbm) (I1.kIn _ _ hC) (PySem.W.looks_findIn I1.kIn i1) (fun self => PySem.W.bind_fn I1.kIn self i2) few
    (codeAny_mono (F1.run _ X.stack _ _ ⟨Value.ref (hp.objs.size + 1) :: us, []⟩ _ _ _ (fun _ _ _ => False) (rm.make C us []) (I2.env0.make C us []) bt r2 wish) ?_))
  intro r s' hq
  cases r with
  | error er => exact False.elim hq
  | ok fl => cases fl with
    | ret u =>
      obtain ⟨z, H', I3, rv, rfl, q3⟩ := I2.after hq
      exact ⟨rv, ⟨V.ref (hp.objs.size + 1), H', I3, rfl, q3⟩⟩
    | next => exact False.elim hq
    | brk => exact False.elim hq
    | cont => exact False.elim hq
section
variable {X : Cx} {C : Addr} {bmB : List Value} {B newId initId : String} {x : Str} {p pos : Pos}
/-- C(), no own __init__ -/
theorem pe_exc0 (F : ExcBaseFacts B newId initId bmB) (q : PySem.W.excIn X.K C bmB newId = true) (gC : X.mg x = some (.ref C)) (kC : PySem.W.keepIn X.K (.ref C) = true) (hg : Gl X x) (h1 : (x == ("__debug__" : Str)) = false := by decide) :
    PE X (.Call (.Name x p) [] [] pos) (fun _ H Q => ∀ a, H a = none → Q (.ref a) (upd H a (ExO (.ref C) a))) := by
  constructor
  intro pins s σ H Q I h
  refine wpAny_Call_Name_kw (ld_glob I hg gC ?_ h1)
  refine PySem.W.callWith_K0 I.kIn kC ?_
  show wpAny _ _ (call (.ref C) []) _ _ _
  obtain ⟨bm, N, nm, qn, bs, hdct, sn, sub, ab, col, dd, k0, k1, k2, k3, k5, mN, hC, hN, hni, T⟩ := exc_obj I.kIn q
  refine wpAny_call_exc_subT F T hC hN hni (fun h' a hm => ?_) (Nat.zero_le _)
  have na : H a = none := I.hok.gone hm.new
  obtain ⟨t, ht, _, _⟩ := hm.there
  exact ⟨.ref a, _, I.laidN hm.keeps hm.new na (exO_ok ht ⟨rfl, rfl⟩ rfl rfl rfl (show 4 < 6 by decide)), rfl, h a na⟩
/-- raise C() -/
theorem ps_raise0 {W : WX} {pos2 : Pos} (F : ExcBaseFacts B newId initId bmB) (q : PySem.W.excIn X.K C bmB newId = true) (gC : X.mg x = some (.ref C)) (kC : PySem.W.keepIn X.K (.ref C) = true) (r : Raises X (.ref C)) (calm : X.calm = true) (tk : Takes X W) (hg : Gl X x)
    (h1 : (x == ("__debug__" : Str)) = false := by decide) : PS X (.Raise (some (.Call (.Name x p) [] [] pos)) none pos2) (fun _ σ H => W (.ref C) none σ H) := by
  have mk : PMk X (.Call (.Name x p) [] [] pos) (fun _ H Q => Q (.ref C) none H) := by
    intro pins s σ H Q I h
    refine wpAny_Call_Name_kw (ld_glob I hg gC ?_ h1)
    refine PySem.W.callWith_K0 I.kIn kC ?_
    show wpAny _ _ (call (.ref C) []) _ _ _
    obtain ⟨bm, N, nm, qn, bs, hdct, sn, sub, ab, col, dd, k0, k1, k2, k3, k5, mN, hC, hN, hni, T⟩ := exc_obj I.kIn q
    refine wpAny_call_exc_subT F T hC hN hni (fun h' a hm => ?_) (Nat.zero_le _)
    exact mk_of I hm r h (I.hok.gone hm.new)
  exact ps_raise (pos := pos2) calm tk mk
end
/-- an error of the class at C lies at a -/
def ErrAt (C : Addr) (H : Hp) (a : Addr) : Prop := (∃ d fs, H a = some (exo a C (some d)) ∧ H d = some (exd d fs)) ∨ H a = some (ExO (.ref C) a)
theorem ErrAt.same {C : Addr} {H H' : Hp} {a : Addr} (e : ErrAt C H a) (s : Same H H') : ErrAt C H' a := by
  rcases e with ⟨d, fs, h1, h2⟩ | h
  · exact .inl ⟨d, fs, s _ _ h1, s _ _ h2⟩
  · exact .inr (s _ _ h)
theorem err_inst {X : Cx} {pins : List (Addr × Obj)} {σ : L2.St} {H : Hp} {s : Shared} {C a : Addr} (I : Inv X pins σ H s) (e : ErrAt C H a) : ∃ oe od, PySem.W.InstAt s.heap a oe C od := by
  rcases e with ⟨d, fs, h1, h2⟩ | h
  · obtain ⟨t1, hg⟩ := exo_at I.hok h1
    obtain ⟨mA, ⟨od, es, ep, e1, _⟩, _⟩ := exd_at I.hok h2
    exact ⟨_, some od, hg, rfl, rfl, e1⟩
  · obtain ⟨⟨oe, vs, hg, hz, hd, _⟩, _, _⟩ := I.hok a _ h
    exact ⟨oe, none, hg, hz.1, by unfold PySem.W.notCls; rw [hd], by rw [hz.2]; exact True.intro⟩
def rIsV (K : PySem.W.Frag) : List V → Hp → VK → Prop := fun xs H Q => ∃ (a C : Addr) (c : V) (cv : Value) (b : Bool), xs = [.ref a, c] ∧ ErrAt C H a ∧ ExcC K C ∧ ClsV c cv ∧ PySem.W.kitOne K (.ref C) cv = some b ∧ Q (.bl b) H
theorem call_isV {X : Cx} : CallR X (.builtin "isinstance") (rIsV X.K) := by
  rintro pins s σ H xs us Q I r ⟨a, C, c, cv, b, rfl, e, E, k, kt, q⟩
  obtain ⟨u1, u2, rfl, r1, r2⟩ := vals2 r
  obtain rfl : u1 = Value.ref a := r1
  obtain rfl := k.eq r2
  obtain ⟨oe, od, J⟩ := err_inst I e
  exact PySem.W.kia_one (PySem.W.kitx_exc (cls_some E.hd) E.hg E.hk E.hs E.ha E.hn E.ht E.hm) I.kIn J kt (fun y => nomatch y) fun tk => ⟨.bl b, H, I.kept (t' := tk) fun _ _ y => y, rfl, q⟩
/-- a field of such an error -/
def tFV (K : PySem.W.Frag) (f : Str) (te : TE) : TE := fun σ H Q => te σ H fun x H1 => ∃ (a C d : Addr) (fs : List (Str × V)) (v : V), x = .ref a ∧ XfC K C ∧ PySem.W.findIn K (.ref C) f = some none ∧ H1 a = some (exo a C (some d)) ∧ H1 d = some (exd d fs) ∧ fs.lookup f = some v ∧ Q v H1
theorem pe_fV {X : Cx} {e : Expr} {te : TE} {pos : Pos} {n : Str} (he : PE X e te) (hb : attributeBase e n X.env (eval e X.env) = eval e X.env := by rfl) : PE X (.Attribute e n pos) (tFV X.K n te) := by
  constructor
  intro pins s σ H Q I h
  refine attr_of hb (thn (he.run pins s σ H _ I h) ?_)
  rintro u s1 ⟨x, H1, I1, rx, a, C, d, fs, v, rfl, T, hno, h1, h2, l, q⟩
  obtain rfl : u = Value.ref a := rx
  obtain ⟨t1, hg⟩ := exo_at I1.hok h1
  obtain ⟨mA, hns, hr⟩ := exd_at I1.hok h2
  obtain ⟨od, ho, hl⟩ := lookIn_ns hns
  obtain ⟨y, hu, ru⟩ := RelO.some_of (v := v) (o := mA n) (by rw [← l]; exact hr n)
  have J : PySem.W.InstAt s1.heap a _ C (some od) := ⟨hg, rfl, rfl, ho⟩
  exact HandSPX.exc_get I1.kIn J T.ga T.gg T.exC (PySem.W.findObj_own T.hdC hno rfl (by rw [hl, hu])) (handed_of ru) ⟨v, H1, I1.tok _, ru, q⟩
end Lb

set_option maxHeartbeats 4000000
namespace Lb
open PySem PySem.Spec PyProof.Rows L2
/-! ### 32. try with several clauses, some of which give the error a name -/
abbrev Cl := Value × Option Nat × (Addr → Value → Option Addr → TS)
def wMix (K : PySem.W.Frag) (Wout : WX) (D : Ends) : List Cl → WX
  | [] => Wout
  | (c, none, ts) :: r => fun cls d σ H => ∃ b, PySem.W.exmOne K cls c = some b ∧ (b = true → ∀ a, H a = none → ts a cls d D σ H) ∧ (b = false → wMix K Wout D r cls d σ H)
  | (c, some i, ts) :: r => fun cls d σ H => ∃ b, PySem.W.exmOne K cls c = some b ∧
      (b = true → ∀ a, H a = none → ts a cls d { nx := fun σ' H' => D.nx (σ'.set i none) H', rt := D.rt, bk := fun σ' H' => D.bk (σ'.set i none) H', ct := fun σ' H' => D.ct (σ'.set i none) H' } (σ.set i (some (.ref a))) H) ∧ (b = false → wMix K Wout D r cls d σ H)
/-- how one clause's suite is read -/
def SuOk (X : Cx) (st : List Stmt) (ts : Addr → Value → Option Addr → TS) : Prop := ∀ (a : Addr) (oe : Obj) (cls : Value) (d : Option Addr) (pn : List (Addr × Obj)), Zc cls d oe → (∃ vs, oe.data = .fields vs) → PSs (X.suite a ((a, oe) :: pn)) st (ts a cls d)
inductive HdMix (X : Cx) : List ExceptHandler → List Cl → Prop
  | nil : HdMix X [] []
  | bare {x : Str} {c : Value} {ts : Addr → Value → Option Addr → TS} {b₀ : Stmt} {suite : List Stmt} {np pos' : Pos} {hds : List ExceptHandler} {l : List Cl} (hc : Names X x c) (su : SuOk X (b₀ :: suite) ts) (r : HdMix X hds l) :
      HdMix X (.ExceptHandler (some (.Name x np)) none (b₀ :: suite) pos' :: hds) ((c, none, ts) :: l)
  | named {x n : Str} {i : Nat} {c : Value} {ts : Addr → Value → Option Addr → TS} {b₀ : Stmt} {suite : List Stmt} {np pos' : Pos} {hds : List ExceptHandler} {l : List Cl} (hN : X.N.Nodup) (hi : X.N[i]? = some n) (hl : X.env.kindOf n = some .local) (hc : Names X x c) (su : SuOk X (b₀ :: suite) ts) (r : HdMix X hds l) :
      HdMix X (.ExceptHandler (some (.Name x np)) (some n) (b₀ :: suite) pos' :: hds) ((c, some i, ts) :: l)
section
variable {X : Cx} {body : List Stmt} {h₀ : ExceptHandler} {hds : List ExceptHandler} {l : List Cl} {pos : Pos} {tb : WX → TS} {Wout : WX}
theorem ps_try_mix (stk : X.stack = X.env :: X.outer) (frm : X.env.frame = some X.env.locals) (tk : Takes X Wout)
    (hb : ∀ (W : WX) (pn : List (Addr × Obj)) (xe : Value → Shared → Prop), Takes (X.tr pn xe) W → PassesOwn (model X.prog X.w) X.A X.env xe → PSs (X.tr pn xe) body (tb W)) (hh : HdMix X (h₀ :: hds) l) :
    PS X (.Try body (h₀ :: hds) [] [] pos) (fun D σ H => tb (wMix X.K Wout D l) D σ H) := by
  constructor
  intro pins s σ H D I h
  have okX := I.ok
  have frames : X.A.frames = some (X.env :: X.outer) := by rw [okX.frames, stk]
  refine wpAny_Try_except ?_
  let caught : Value → Shared → Prop := fun e s₁ => wpAny (model X.prog X.w) X.A (noteFrame e X.env) (fun _ s₂ => wpAny (model X.prog X.w) X.A (setFlight e none) (fun _ s₃ => wpAny (model X.prog X.w) X.A (handleBy e X.env (h₀ :: hds)) (SP X pins D) X.xe s₃) X.xe s₂) X.xe s₁
  have takes : Takes (X.tr (X.pn ++ pins) caught) (wMix X.K Wout D l) := by
    rintro u s' ⟨a, B, sI, pins', σ', H', cls, d, rfl, J', ground, upS, sky, na, osE, bareE, want⟩
    have J : Inv X pins σ' H' sI := J'.ofTry okX
    have sky2 : Sky B (X.env :: X.outer) a (Zc cls d) X.env.locals s'.heap := by rw [← stk]; exact sky
    show wpAny (model X.prog X.w) X.A (noteFrame (.ref a) X.env) _ _ _
    refine Sky.land Zc.steady frames frm sky2 ?_
    intro hA flA upA
    have JA : Inv X pins σ' H' { s' with heap := hA } := J.landed ground flA.1 (upS.trans upA) osE bareE
    obtain ⟨oA, vA, getA, zA, dataA⟩ := flA.there
    have off : a ∉ frs (X.env :: X.outer) := by
      intro mem
      obtain ⟨_, o', e', no⟩ := flA.2.2.1.mem mem
      rw [getA] at e'
      cases e'
      exact no _ dataA
    have offL : a ≠ X.env.locals := by
      intro z
      exact off (List.mem_filterMap.mpr ⟨X.env, List.mem_cons_self, by rw [frm, z]⟩)
    have offF : a ∉ X.fs := by
      intro mem
      obtain ⟨e, he, q⟩ := List.mem_filterMap.mp mem
      exact off (List.mem_filterMap.mpr ⟨e, List.mem_cons_of_mem _ he, q⟩)
    have SA := JA.suite getA dataA na offL offF
    have typed : PySem.W.Looks (model X.prog X.w) hA (typeOf (.ref a)) cls := fun A Q E s k q => wpAny_typeOf_ref (k _ _ getA) (by rw [zA.1]; exact q)
    have test : ∀ {x : Str} {c : Value} {np : Pos} {Q E : Value → Shared → Prop}, Names X x c → Q c { s' with heap := hA } → wpAny (model X.prog X.w) (X.A.mark (some (.ref a))) (eval (.Name x np) X.env) Q E { s' with heap := hA } := by
      intro x c np Q E nm q
      obtain ⟨hg, hdb, hm | ⟨hm, hv, hnn⟩⟩ := nm
      · exact ld_glob (X := X.suite a ((a, oA) :: (X.pn ++ pins))) SA hg hm q hdb
      · exact ld_blt (X := X.suite a ((a, oA) :: (X.pn ++ pins))) SA hg hm hv q hnn hdb
    have go : ∀ {hs' : List ExceptHandler} {l' : List Cl}, HdMix X hs' l' → wMix X.K Wout D l' cls d σ' H' → wpAny (model X.prog X.w) X.A (handleBy (.ref a) X.env hs') (SP X pins D) X.xe { s' with heap := hA } := by
      intro hs' l' hk
      induction hk with
      | nil =>
        intro want
        refine wpAny_handleBy_nil ?_
        obtain ⟨_, _, _, oe, vs, T, oT, tr, he, hz, hd, h1, _⟩ := id flA
        unfold PySem.passOn
        refine wpAny_bind (wpAny_field he hd h1 ?_)
        rw [if_neg (by simp : ¬ ((Value.ref T == Value.none) = true))]
        have fin : wpAny (model X.prog X.w) X.A (setFlight (.ref a) X.env.frame) (fun _ s4 => wpAny (model X.prog X.w) X.A (throw (.ref a) : Sem Flow) (SP X pins D) X.xe s4) X.xe { s' with heap := hA } := by
          rw [frm]
          refine HandSPX.setFlight_upZ flA ?_
          intro hB heldB upB
          refine wpAny_throw (tk _ _ ⟨a, B, sI, pins, σ', H', cls, d, rfl, J, ground, (upS.trans upA).trans upB, ?_, na, osE, bareE, want⟩)
          exact .inr (.inr (by rw [stk]; exact heldB))
        first
        | exact wpAny_bind (wpAny_pure (wpAny_bind fin))
        | exact wpAny_bind fin
      | @bare x c ts b₀ suite np pos' hds2 l2 nm su r ih =>
        rintro ⟨b, hb1, yes, no⟩
        refine wpAny_handleBy_cons (codeAny_handlers_test ?_) (by intro z; cases z)
        refine test nm ((PySem.W.exm_one (M := model X.prog X.w) JA.kIn typed hb1).here ?_)
        cases b with
        | false => exact ih (no rfl)
        | true =>
          refine codeAny_handlers_suite ?_
          refine HandSPX.lands_againZ flA ?_
          intro hB flB upB
          have JB : Inv X pins σ' H' { s' with heap := hB } := J.landed ground flB.1 ((upS.trans upA).trans upB) osE bareE
          obtain ⟨oB, vB, getB, zB, dataB⟩ := flB.there
          have SB := JB.suite getB dataB na offL offF
          refine wpAny_mono ((su a oB cls d (X.pn ++ pins) zB ⟨_, dataB⟩).run [] _ _ H' _ SB (yes rfl a na)) ?_ (fun _ _ z => z.elim)
          intro flow s6 hsp
          cases flow with
          | next => exact (let ⟨_, _, S6, q6⟩ := hsp; ⟨_, _, S6.unsuite okX, q6⟩)
          | brk => exact (let ⟨_, _, S6, q6⟩ := hsp; ⟨_, _, S6.unsuite okX, q6⟩)
          | cont => exact (let ⟨_, _, S6, q6⟩ := hsp; ⟨_, _, S6.unsuite okX, q6⟩)
          | ret u => exact (let ⟨_, _, _, S6, r6, q6⟩ := hsp; ⟨_, _, _, S6.unsuite okX, r6, q6⟩)
      | @named x n i c ts b₀ suite np pos' hds2 l2 hN hi hl nm su r ih =>
        rintro ⟨b, hb1, yes, no⟩
        refine wpAny_handleBy_cons (codeAny_handlers_test ?_) (by intro z; cases z)
        refine test nm ((PySem.W.exm_one (M := model X.prog X.w) JA.kIn typed hb1).here ?_)
        cases b with
        | false => exact ih (no rfl)
        | true =>
          refine codeAny_handlers_suite_as ?_
          refine HandSPX.lands_againZ flA ?_
          intro hB flB upB
          have JB : Inv X pins σ' H' { s' with heap := hB } := J.landed ground flB.1 ((upS.trans upA).trans upB) osE bareE
          obtain ⟨oB, vB, getB, zB, dataB⟩ := flB.there
          have SB := JB.suite getB dataB na offL offF
          refine store_ok (X := X.suite a ((a, oB) :: (X.pn ++ pins))) (v := .ref a) SB hN hi (.inl hl) rfl (fun s5 S5 => ?_) (.inr hl)
          refine wpAny_mono ((su a oB cls d (X.pn ++ pins) zB ⟨_, dataB⟩).run [] s5 _ H' _ S5 (yes rfl a na)) ?_ (fun _ _ z => z.elim)
          intro flow s6 hsp
          have over : ∀ {σ6 : L2.St} {H6 : Hp} {Q : Shared → Prop}, Inv (X.suite a ((a, oB) :: (X.pn ++ pins))) [] σ6 H6 s6 → (∀ s7, Inv X pins (σ6.set i none) H6 s7 → Q s7) →
              wpAny (model X.prog X.w) X.A (do bindName X.env n .none; unbindBehindTheSuite X.env n pos') (fun _ s7 => Q s7) X.xe s6 := by
            intro σ6 H6 Q S6 hq
            exact gone_ok (S6.unsuite okX) hN hi hl hq
          cases flow with
          | next => exact (let ⟨_, _, S6, q6⟩ := hsp; over S6 fun s7 J7 => ⟨_, _, J7, q6⟩)
          | brk => exact (let ⟨_, _, S6, q6⟩ := hsp; over S6 fun s7 J7 => ⟨_, _, J7, q6⟩)
          | cont => exact (let ⟨_, _, S6, q6⟩ := hsp; over S6 fun s7 J7 => ⟨_, _, J7, q6⟩)
          | ret u => exact (let ⟨_, _, _, S6, r6, q6⟩ := hsp; over S6 fun s7 J7 => ⟨_, _, _, J7, r6, q6⟩)
    exact go hh want
  refine wpAny_mono ((hb (wMix X.K Wout D l) (X.pn ++ pins) caught takes PassesOwn.looking).run [] s σ H D (I.toTry _) h) ?_ (fun e s1 he => he)
  intro flow s1 hsp
  cases flow with
  | next => exact (let ⟨_, _, J', q⟩ := hsp; wpAny_execs_nil ⟨_, _, J'.ofTry okX, q⟩)
  | brk => exact (let ⟨_, _, J', q⟩ := hsp; ⟨_, _, J'.ofTry okX, q⟩)
  | cont => exact (let ⟨_, _, J', q⟩ := hsp; ⟨_, _, J'.ofTry okX, q⟩)
  | ret u => exact (let ⟨_, _, _, J', r, q⟩ := hsp; ⟨_, _, _, J'.ofTry okX, r, q⟩)
end
end Lb

set_option maxHeartbeats 4000000
namespace Lb
open PySem PySem.Spec PyProof.Rows L2
/-! ### 33. An own error without own __init__, made of something -/
def tExc1 (C : Addr) (ta : TA) : TE := fun σ H Q => ta σ H fun vs H1 => ∃ v, vs = [v] ∧ ∀ a, H1 a = none → Q (.ref a) (upd H1 a (ExO (.ref C) a))
theorem pe_exc1 {X : Cx} {C : Addr} {bmB : List Value} {B newId initId : String} {x : Str} {e : Expr} {ta : TA} {p pos : Pos} (F : ExcBaseFacts B newId initId bmB) (q : PySem.W.excIn X.K C bmB newId = true) (gC : X.mg x = some (.ref C)) (kC : PySem.W.keepIn X.K (.ref C) = true) (hg : Gl X x) (ha : PA X [e] ta)
    (h1 : (x == ("__debug__" : Str)) = false := by decide) (h2 : starEach [e] X.env = (false, eval e X.env) :: starEach [] X.env := by rfl) (h3 : (backTo pos (starEach [] X.env)).any (·.1) = false := by rfl) :
    PE X (.Call (.Name x p) [e] [] pos) (tExc1 C ta) := by
  constructor
  intro pins s σ H Q I h
  refine wpAny_Call_Name_kw (ld_glob I hg gC ?_ h1)
  refine PySem.W.callWith_K (h₀ := X.base) I.ok.mod.kin kC (thn (ha.run pos pins s σ H _ I h) ?_) h2 h3
  rintro us s1 ⟨vs, H1, I1, r1, v, rfl, q1⟩
  refine ⟨I1.kIn, ?_⟩
  show wpAny _ _ (call (.ref C) us) _ _ _
  have few : us.length ≤ sizeLine := by
    rw [← r1.length]
    show 1 ≤ sizeLine
    decide
  obtain ⟨bm, N, nm, qn, bs, hdct, sn, sub, ab, col, dd, k0, k1, k2, k3, k5, mN, hC, hN, hni, T⟩ := exc_obj I1.kIn q
  refine wpAny_call_exc_subT F T hC hN hni (fun h' a hm => ?_) few
  have na : H1 a = none := I1.hok.gone hm.new
  obtain ⟨t, ht, _, _⟩ := hm.there
  exact ⟨.ref a, _, I1.laidN hm.keeps hm.new na (exO_ok ht ⟨rfl, rfl⟩ rfl rfl rfl (show 4 < 6 by decide)), rfl, q1 a na⟩
/-! ### 34. What an error's class object says -/
/-- an own error class that stands on SE, and that on ValueError -/
abbrev veT : List Value := [.type "ValueError", .type "Exception", .type "BaseException", .type "object"]
structure XL (K : PySem.W.Frag) (C : Addr) (bm : List Value) : Prop where
  ex : ∃ nm q N bs sn sub ab col dd k0 k1 k2 k3 k5, K.lookup C = some (excClassObj nm q C N bs bm true sn sub ab col dd k0 k1 k2 k3 k5 "ValueError.__new__")
section
variable {K : PySem.W.Frag} {C : Addr} {bm : List Value}
theorem XL.cls (x : XL K C bm) : ∃ cd, PySem.W.clsIn K C = some cd ∧ cd.mro = .ref C :: bm ∧ cd.hasDict = true := by
  obtain ⟨nm, q, N, bs, sn, sub, ab, col, dd, k0, k1, k2, k3, k5, L⟩ := x.ex
  unfold PySem.W.clsIn
  rw [L]
  exact ⟨_, rfl, rfl, rfl⟩
theorem XL.mro (x : XL K C bm) (base : Value) : PySem.W.mroIn K C base = some ((Value.ref C :: bm).contains base) := by
  obtain ⟨cd, h1, h2, _⟩ := x.cls
  unfold PySem.W.mroIn
  rw [h1]
  show (if cd.mro.isEmpty = true then none else some (cd.mro.contains base)) = _
  rw [h2]
  rfl
theorem XL.sub (x : XL K C bm) (base : Value) : PySem.W.subIn K (.ref C) base = some ((Value.ref C :: bm).contains base) := x.mro base
theorem XL.ty (x : XL K C bm) : PySem.W.typeIn K (.ref C) = some (.type "type") := by
  obtain ⟨nm, q, N, bs, sn, sub, ab, col, dd, k0, k1, k2, k3, k5, L⟩ := x.ex
  show (K.lookup C).map (·.cls) = _
  rw [L]
  rfl
theorem XL.hd (x : XL K C bm) : PySem.W.hasDictIn K C = true := by
  obtain ⟨cd, h1, _, h3⟩ := x.cls
  unfold PySem.W.hasDictIn
  rw [h1]
  exact h3
theorem XL.isC (x : XL K C bm) : PySem.W.isClsIn K C = true := by
  obtain ⟨cd, h1, _⟩ := x.cls
  unfold PySem.W.isClsIn
  rw [h1]
  rfl
/-- isinstance of an error of this class, asked for another own class -/
theorem XL.kit (x : XL K C bm) {D : Addr} {bd : List Value} (y : XL K D bd) : PySem.W.kitOne K (.ref C) (.ref D) = some ((Value.ref C :: bm).contains (.ref D)) := by
  have c2 : (PySem.W.clsIn K D).isSome = true := y.isC
  have e : ((PySem.W.clsIn K D).isSome && PySem.W.typeIn K (.ref D) == some (.type "type")) = true := by rw [c2, y.ty] <;> rfl
  unfold PySem.W.kitOne PySem.W.kitCls
  by_cases h : (Value.ref C == Value.ref D) = true
  · rw [if_pos h]
    have h2 := beq_iff_eq.mp h
    rw [← h2]
    simp
  · rw [if_neg h]
    exact (if_pos e).trans (x.sub _)
theorem XL.kitT (x : XL K C bm) {T : String} (m : PySem.W.kitMeta T = true) : PySem.W.kitOne K (.ref C) (.type T) = some ((Value.ref C :: bm).contains (.type T)) := kit_ty m (x.sub _)
theorem XL.exm (x : XL K C bm) {D : Addr} {bd : List Value} (y : XL K D bd) (b : (Value.ref D :: bd).contains (.type "BaseException") = true) : PySem.W.exmOne K (.ref C) (.ref D) = some ((Value.ref C :: bm).contains (.ref D)) :=
  PySem.W.exm_ref (by rw [y.sub, b]) y.hd y.ty (x.sub _)
end
/-! ### 35. A thing beside itself -/
def rSelf (b : Addr) : V → V → Hp → VK → Prop := fun x y H Q => x = y ∧ ((∃ d, Dat b H d x ∧ SeqAt.shaped d = true) ∨ (∃ a ks, x = .ref a ∧ H a = some (.dK ks) ∧ ∀ p ∈ ks, ∃ u, valV ks p.1 = some u ∧ p.2 = u ∧ flatB u = true)) ∧ Q (.bl true) H
theorem op_eqSelf {X : Cx} {b : Addr} (hu : X.A.units + 64 < cLine) : OpR X (compareOp .Eq) (rSelf b) := by
  rintro pins s σ H x y v u Q I rx ry ⟨rfl, h, q⟩
  rcases h with ⟨d, D, sd⟩ | ⟨a, ks, rfl, e, hk⟩
  · obtain ⟨as, r1⟩ := reads_of I.hok D rx
    obtain ⟨bs, r2⟩ := reads_of I.hok D ry
    refine SeqAt.compareEq_shaped r1 r2 sd sd hu ?_
    rw [SeqAt.eqv_refl d (SeqAt.canLay_of_shaped sd)]
    exact ⟨.bl true, H, I, rfl, q⟩
  · refine op_eqV hu pins s σ H _ _ v u Q I rx ry ⟨1, by decide, .inr ⟨a, a, ks, ks, rfl, rfl, e, e, rfl, fun p hp => ?_⟩, q⟩
    obtain ⟨u, h1, h2, h3⟩ := hk p hp
    exact ⟨u, h1, .inl ⟨h2, by rw [h2]; exact h3⟩⟩
/-! ### 36. Things of few parts, that may grow by one part -/
def fitS : PyData → Bool
  | .none => true
  | .bool _ => true
  | .int i => decide (i.natAbs.log2 < 1920) && decide ((PyData.int i).shown.length ≤ 45)
  | .str z => PyData.strOk z && decide ((PyData.str z).shown.length ≤ 45)
  | _ => false
def fit (n : Nat) : Nat → PyData → Bool
  | 0, d => fitS d
  | k + 1, .list ds => decide (ds.length ≤ n) && ds.all (fit n k)
  | k + 1, .tuple ds => decide (ds.length ≤ n) && ds.all (fit n k)
  | _ + 1, d => fitS d
def fitD : PyData → Bool
  | .dict kvs => decide (kvs.length ≤ 1) && (PyData.dict kvs).showable && decide ((PyData.dict kvs).shown.length ≤ 45) && decide ((PyData.dict kvs).depth ≤ 2)
  | _ => false
theorem fit_sc {n : Nat} {d : PyData} (h : fitS d = true) : ∀ k, fit n k d = true
  | 0 => h
  | k + 1 => by
    cases d with
    | list _ => cases h
    | tuple _ => cases h
    | dict _ => cases h
    | none => exact h
    | bool _ => exact h
    | int _ => exact h
    | str _ => exact h
theorem fit_more {n : Nat} : ∀ {k : Nat} {d : PyData}, fit n k d = true → fit (n + 1) k d = true
  | 0, _, h => h
  | k + 1, .list ds, h => by
    simp only [fit, Bool.and_eq_true, decide_eq_true_eq, List.all_eq_true] at h ⊢
    exact ⟨Nat.le_succ_of_le h.1, fun d hd => fit_more (h.2 d hd)⟩
  | k + 1, .tuple ds, h => by
    simp only [fit, Bool.and_eq_true, decide_eq_true_eq, List.all_eq_true] at h ⊢
    exact ⟨Nat.le_succ_of_le h.1, fun d hd => fit_more (h.2 d hd)⟩
  | k + 1, .none, h => h
  | k + 1, .bool _, h => h
  | k + 1, .int _, h => h
  | k + 1, .str _, h => h
  | k + 1, .dict _, h => h
mutual
/-- the value v is the thing d, all its objects being such as fp says -/
def DatP (fp : Addr → Prop) (H : Hp) : PyData → V → Prop
  | .none, v => v = .non
  | .bool x, v => v = .bl x
  | .int i, v => v = .int i
  | .str z, v => v = .str z
  | .list ds, v => ∃ a vs, v = .ref a ∧ fp a ∧ H a = some (.lst vs) ∧ DatPs fp H ds vs
  | .tuple ds, v => ∃ a vs, v = .ref a ∧ fp a ∧ H a = some (.tup vs) ∧ DatPs fp H ds vs
  | .dict kvs, v => ∃ a es, v = .ref a ∧ fp a ∧ H a = some (.dK es) ∧ kvs = es.map (fun e => (keyD e.1, sD e.2)) ∧ es.all (fun e => isSc e.2) = true
def DatPs (fp : Addr → Prop) (H : Hp) : List PyData → List V → Prop
  | [], vs => vs = []
  | d :: ds, vs => ∃ v r, vs = v :: r ∧ DatP fp H d v ∧ DatPs fp H ds r
end
mutual
theorem DatP.conv {fp fq : Addr → Prop} {H H' : Hp} (k : ∀ a o, fp a → H a = some o → fq a ∧ H' a = some o) : ∀ {d : PyData} {v : V}, DatP fp H d v → DatP fq H' d v
  | .none, _, h => by simpa only [DatP] using h
  | .bool _, _, h => by simpa only [DatP] using h
  | .int _, _, h => by simpa only [DatP] using h
  | .str _, _, h => by simpa only [DatP] using h
  | .list ds, v, h => by
    simp only [DatP] at h ⊢
    obtain ⟨a, vs, e, n, z, q⟩ := h
    exact ⟨a, vs, e, (k a _ n z).1, (k a _ n z).2, DatPs.conv k q⟩
  | .tuple ds, v, h => by
    simp only [DatP] at h ⊢
    obtain ⟨a, vs, e, n, z, q⟩ := h
    exact ⟨a, vs, e, (k a _ n z).1, (k a _ n z).2, DatPs.conv k q⟩
  | .dict kvs, v, h => by
    simp only [DatP] at h ⊢
    obtain ⟨a, es, e, n, z, q⟩ := h
    exact ⟨a, es, e, (k a _ n z).1, (k a _ n z).2, q⟩
theorem DatPs.conv {fp fq : Addr → Prop} {H H' : Hp} (k : ∀ a o, fp a → H a = some o → fq a ∧ H' a = some o) : ∀ {ds : List PyData} {vs : List V}, DatPs fp H ds vs → DatPs fq H' ds vs
  | [], _, h => by simpa only [DatPs] using h
  | d :: ds, vs, h => by
    simp only [DatPs] at h ⊢
    obtain ⟨v, r, e, x, y⟩ := h
    exact ⟨v, r, e, DatP.conv k x, DatPs.conv k y⟩
end
mutual
theorem DatP.dat {fp : Addr → Prop} {H : Hp} {b : Addr} (k : ∀ a, fp a → a ≠ b) : ∀ {d : PyData} {v : V}, DatP fp H d v → Dat b H d v
  | .none, _, h => by simpa only [DatP, Dat] using h
  | .bool _, _, h => by simpa only [DatP, Dat] using h
  | .int _, _, h => by simpa only [DatP, Dat] using h
  | .str _, _, h => by simpa only [DatP, Dat] using h
  | .list ds, v, h => by
    simp only [DatP, Dat] at h ⊢
    obtain ⟨a, vs, e, n, z, q⟩ := h
    exact ⟨a, vs, e, k a n, z, DatPs.dat k q⟩
  | .tuple ds, v, h => by
    simp only [DatP, Dat] at h ⊢
    obtain ⟨a, vs, e, n, z, q⟩ := h
    exact ⟨a, vs, e, k a n, z, DatPs.dat k q⟩
  | .dict kvs, v, h => by
    simp only [DatP, Dat] at h ⊢
    obtain ⟨a, es, e, n, z, q⟩ := h
    exact ⟨a, es, e, k a n, z, q⟩
theorem DatPs.dat {fp : Addr → Prop} {H : Hp} {b : Addr} (k : ∀ a, fp a → a ≠ b) : ∀ {ds : List PyData} {vs : List V}, DatPs fp H ds vs → Dats b H ds vs
  | [], _, h => by simpa only [DatPs, Dats] using h
  | d :: ds, vs, h => by
    simp only [DatPs, Dats] at h ⊢
    obtain ⟨v, r, e, x, y⟩ := h
    exact ⟨v, r, e, DatP.dat k x, DatPs.dat k y⟩
end
theorem DatPs.get {fp : Addr → Prop} {H : Hp} : ∀ {ds : List PyData} {vs : List V} {i : Nat} {v : V}, DatPs fp H ds vs → vs[i]? = some v → ∃ d, ds[i]? = some d ∧ DatP fp H d v
  | [], vs, i, v, h, e => by
    simp only [DatPs] at h
    rw [h] at e
    simp at e
  | d :: ds, vs, i, v, h, e => by
    simp only [DatPs] at h
    obtain ⟨x, r, rfl, y, z⟩ := h
    cases i with
    | zero =>
      simp at e
      subst e
      exact ⟨d, rfl, y⟩
    | succ i =>
      simp at e
      obtain ⟨d', h1, h2⟩ := DatPs.get z e
      exact ⟨d', by simpa using h1, h2⟩
theorem DatPs.app {fp : Addr → Prop} {H : Hp} : ∀ {ds es : List PyData} {vs us : List V}, DatPs fp H ds vs → DatPs fp H es us → DatPs fp H (ds ++ es) (vs ++ us)
  | [], es, vs, us, h, k => by
    simp only [DatPs] at h
    rw [h]
    exact k
  | d :: ds, es, vs, us, h, k => by
    simp only [DatPs] at h
    obtain ⟨x, r, rfl, y, z⟩ := h
    show DatPs fp H (d :: (ds ++ es)) (x :: (r ++ us))
    simp only [DatPs]
    exact ⟨x, r ++ us, rfl, y, DatPs.app z k⟩
section
variable {fp : Addr → Prop} {H : Hp}
theorem pats_nil : DatPs fp H [] [] := by simp only [DatPs]
theorem pats_cons {d : PyData} {v : V} {ds : List PyData} {vs : List V} (h : DatP fp H d v) (k : DatPs fp H ds vs) : DatPs fp H (d :: ds) (v :: vs) := by
  simp only [DatPs]
  exact ⟨v, vs, rfl, h, k⟩
theorem pat_none : DatP fp H .none .non := by simp only [DatP]
theorem pat_bool (x : Bool) : DatP fp H (.bool x) (.bl x) := by simp only [DatP]
theorem pat_num (x : Int) : DatP fp H (.int x) (.int x) := by simp only [DatP]
theorem pat_text (x : Str) : DatP fp H (.str x) (.str x) := by simp only [DatP]
theorem pat_lst {a : Addr} {vs : List V} {ds : List PyData} (n : fp a) (e : H a = some (.lst vs)) (k : DatPs fp H ds vs) : DatP fp H (.list ds) (.ref a) := by
  simp only [DatP]
  exact ⟨a, vs, rfl, n, e, k⟩
theorem pat_tup {a : Addr} {vs : List V} {ds : List PyData} (n : fp a) (e : H a = some (.tup vs)) (k : DatPs fp H ds vs) : DatP fp H (.tuple ds) (.ref a) := by
  simp only [DatP]
  exact ⟨a, vs, rfl, n, e, k⟩
theorem pat_dict {a : Addr} {es : List (Key × V)} {kvs : List (PyData × PyData)} (n : fp a) (e : H a = some (.dK es)) (h : kvs = es.map (fun e => (keyD e.1, sD e.2))) (k : es.all (fun e => isSc e.2) = true) : DatP fp H (.dict kvs) (.ref a) := by
  simp only [DatP]
  exact ⟨a, es, rfl, n, e, h, k⟩
end
section
variable {fp : Addr → Prop} {a : Addr} {H : Hp} {xs : List V} {z : Str}
theorem dat_sc {H' : Hp} {d : PyData} {v : V} (h : fitS d = true) (D : DatP fp H d v) : DatP fp H' d v := by
  cases d with
  | none => simpa only [DatP] using D
  | bool _ => simpa only [DatP] using D
  | int _ => simpa only [DatP] using D
  | str _ => simpa only [DatP] using D
  | list _ => cases h
  | tuple _ => cases h
  | dict _ => cases h
theorem dats_grow {H' : Hp} {p q : PyData → Bool} (g : ∀ d v, DatP fp H d v → p d = true → ∃ e, DatP fp H' e v ∧ q e = true) : ∀ {ds : List PyData} {vs : List V}, DatPs fp H ds vs → ds.all p = true → ∃ es, DatPs fp H' es vs ∧ es.all q = true ∧ es.length = ds.length
  | [], vs, h, _ => by
    simp only [DatPs] at h
    subst h
    exact ⟨[], by simp only [DatPs], rfl, rfl⟩
  | d :: ds, vs, h, k => by
    simp only [DatPs] at h
    obtain ⟨v, r, rfl, D, R⟩ := h
    simp only [List.all_cons, Bool.and_eq_true] at k
    obtain ⟨e, h1, h2⟩ := g d v D k.1
    obtain ⟨es, h3, h4, h5⟩ := dats_grow g R k.2
    refine ⟨e :: es, ?_, ?_, by rw [List.length_cons, List.length_cons, h5]⟩
    · simp only [DatPs]
      exact ⟨v, r, rfl, h1, h3⟩
    · simp only [List.all_cons, h2, h4, Bool.and_true]
/-- a text more at the end of a list: what was a thing of few parts is one -/
theorem dat_grow (ha : H a = some (.lst xs)) (fz : fitS (.str z) = true) (n : Nat) : ∀ (k : Nat) (d : PyData) (v : V), DatP fp H d v → fit n k d = true → ∃ e, DatP fp (upd H a (.lst (xs ++ [.str z]))) e v ∧ fit (n + 1) k e = true
  | 0, d, v, D, h => ⟨d, dat_sc h D, h⟩
  | k + 1, .none, v, D, h => ⟨_, dat_sc h D, h⟩
  | k + 1, .bool _, v, D, h => ⟨_, dat_sc h D, h⟩
  | k + 1, .int _, v, D, h => ⟨_, dat_sc h D, h⟩
  | k + 1, .str _, v, D, h => ⟨_, dat_sc h D, h⟩
  | k + 1, .dict _, v, D, h => by cases h
  | k + 1, .list ds, v, D, h => by
    simp only [fit, Bool.and_eq_true, decide_eq_true_eq] at h
    simp only [DatP] at D
    obtain ⟨c, vs, rfl, nb, e, R⟩ := D
    obtain ⟨es, R2, h2, h3⟩ := dats_grow (dat_grow ha fz n k) R h.2
    by_cases hc : c = a
    · subst hc
      rw [ha] at e
      cases e
      refine ⟨.list (es ++ [.str z]), ?_, ?_⟩
      · simp only [DatP]
        exact ⟨c, _, rfl, nb, upd_same, R2.app (pats_cons (pat_text z) pats_nil)⟩
      · simp only [fit, List.length_append, List.length_singleton, List.all_append, List.all_cons, List.all_nil, h2, fit_sc fz k, h3, Bool.and_true, decide_eq_true_eq]
        omega
    · refine ⟨.list es, ?_, ?_⟩
      · simp only [DatP]
        exact ⟨c, vs, rfl, nb, by rw [upd_ne hc]; exact e, R2⟩
      · simp only [fit, h2, h3, Bool.and_true, decide_eq_true_eq]
        omega
  | k + 1, .tuple ds, v, D, h => by
    simp only [fit, Bool.and_eq_true, decide_eq_true_eq] at h
    simp only [DatP] at D
    obtain ⟨c, vs, rfl, nb, e, R⟩ := D
    obtain ⟨es, R2, h2, h3⟩ := dats_grow (dat_grow ha fz n k) R h.2
    have hc : c ≠ a := fun q => by
      rw [q, ha] at e
      cases e
    refine ⟨.tuple es, ?_, ?_⟩
    · simp only [DatP]
      exact ⟨c, vs, rfl, nb, by rw [upd_ne hc]; exact e, R2⟩
    · simp only [fit, h2, h3, Bool.and_true, decide_eq_true_eq]
      omega
end
/-- such a thing, or a dict of one part at most -/
def Thg (fp : Addr → Prop) (n : Nat) (H : Hp) (v : V) : Prop := ∃ d, DatP fp H d v ∧ (fit n 2 d || fitD d) = true
theorem Thg.conv {fp fq : Addr → Prop} {n : Nat} {H H' : Hp} {v : V} (h : Thg fp n H v) (k : ∀ a o, fp a → H a = some o → fq a ∧ H' a = some o) : Thg fq n H' v := by
  obtain ⟨d, D, f⟩ := h
  exact ⟨d, D.conv k, f⟩
theorem Thg.same {fp : Addr → Prop} {n : Nat} {H H' : Hp} {v : V} (h : Thg fp n H v) (s : Same H H') : Thg fp n H' v := h.conv fun a o p e => ⟨p, s a o e⟩
theorem Thg.grow {fp : Addr → Prop} {a : Addr} {n : Nat} {H : Hp} {v : V} {xs : List V} {z : Str} (h : Thg fp n H v) (ha : H a = some (.lst xs)) (fz : fitS (.str z) = true) : Thg fp (n + 1) (upd H a (.lst (xs ++ [.str z]))) v := by
  obtain ⟨d, D, f⟩ := h
  rcases Bool.or_eq_true_iff.mp f with f | f
  · obtain ⟨e, h1, h2⟩ := dat_grow ha fz n 2 d v D f
    exact ⟨e, h1, by rw [h2]; rfl⟩
  · refine ⟨d, ?_, by rw [f]; exact Bool.or_true _⟩
    cases d with
    | dict kvs =>
      simp only [DatP] at D ⊢
      obtain ⟨c, es, rfl, nb, e, r⟩ := D
      have hc : c ≠ a := fun q => by
        rw [q, ha] at e
        cases e
      exact ⟨c, es, rfl, nb, by rw [upd_ne hc]; exact e, r⟩
    | _ => cases f
theorem Thg.more {fp : Addr → Prop} {n : Nat} {H : Hp} {v : V} (h : Thg fp n H v) : Thg fp (n + 1) H v := by
  obtain ⟨d, D, f⟩ := h
  refine ⟨d, D, ?_⟩
  rcases Bool.or_eq_true_iff.mp f with f | f
  · rw [fit_more f]
    rfl
  · rw [f]
    exact Bool.or_true _
theorem Thg.up {fp : Addr → Prop} {n : Nat} {H : Hp} {v : V} (h : Thg fp n H v) : ∀ {m : Nat}, n ≤ m → Thg fp m H v := by
  intro m l
  obtain ⟨j, rfl⟩ : ∃ j, m = n + j := ⟨m - n, by omega⟩
  clear l
  induction j with
  | zero => exact h
  | succ j ih => exact ih.more
/-! how long such a thing is when it is shown -/
structure FB (m dp : Nat) (d : PyData) : Prop where
  lay : d.canLay0 = true
  sh : d.showable = true
  dep : d.depth ≤ dp
  len : d.shown.length ≤ m
theorem fb_sc {d : PyData} (h : fitS d = true) : FB 45 0 d := by
  cases d with
  | none => exact ⟨rfl, rfl, Nat.le_refl _, by decide +kernel⟩
  | bool x => exact ⟨rfl, rfl, Nat.le_refl _, by cases x <;> decide +kernel⟩
  | int i =>
    simp only [fitS, Bool.and_eq_true, decide_eq_true_eq] at h
    exact ⟨rfl, by simp only [PyData.showable, h.1, decide_true], Nat.le_refl _, h.2⟩
  | str z =>
    simp only [fitS, Bool.and_eq_true, decide_eq_true_eq] at h
    exact ⟨h.1, rfl, Nat.le_refl _, h.2⟩
  | list _ => cases h
  | tuple _ => cases h
  | dict _ => cases h
theorem layAll_of : ∀ {ds : List PyData}, (∀ d ∈ ds, d.canLay0 = true) → PyData.canLayAll0 ds = true
  | [], _ => rfl
  | d :: ds, h => by
    simp only [PyData.canLayAll0, h d List.mem_cons_self, layAll_of fun x hx => h x (List.mem_cons_of_mem _ hx), Bool.and_true]
theorem fb_list {m dp n : Nat} {ds : List PyData} (h : ∀ d ∈ ds, FB m dp d) (l : ds.length ≤ n) : FB (n * (m + 2) + 5) (dp + 1) (.list ds) where
  lay := layAll_of fun d hd => (h d hd).lay
  sh := showAll_of fun d hd => (h d hd).sh
  dep := by
    have := depthAll_of fun d hd => (h d hd).dep
    simp only [PyData.depth]
    omega
  len := by
    have h1 := piled_le (shownAll_mem fun d hd => (h d hd).len)
    rw [shownAll_len] at h1
    have h2 := listText_le (PyData.shownAll ds)
    have h3 : ds.length * (m + 2) ≤ n * (m + 2) := Nat.mul_le_mul l (Nat.le_refl _)
    simp only [PyData.shown]
    omega
theorem fb_tuple {m dp n : Nat} {ds : List PyData} (h : ∀ d ∈ ds, FB m dp d) (l : ds.length ≤ n) : FB (n * (m + 2) + 5) (dp + 1) (.tuple ds) where
  lay := layAll_of fun d hd => (h d hd).lay
  sh := showAll_of fun d hd => (h d hd).sh
  dep := by
    have := depthAll_of fun d hd => (h d hd).dep
    simp only [PyData.depth]
    omega
  len := by
    have h1 := piled_le (shownAll_mem fun d hd => (h d hd).len)
    rw [shownAll_len] at h1
    have h2 := tupleText_le (PyData.shownAll ds)
    have h3 : ds.length * (m + 2) ≤ n * (m + 2) := Nat.mul_le_mul l (Nat.le_refl _)
    simp only [PyData.shown]
    omega
theorem FB.le {m m' dp dp' : Nat} {d : PyData} (h : FB m dp d) (h1 : m ≤ m') (h2 : dp ≤ dp') : FB m' dp' d := ⟨h.lay, h.sh, Nat.le_trans h.dep h2, Nat.le_trans h.len h1⟩
theorem fb_1 {d : PyData} (h : fit 13 1 d = true) : FB 616 1 d := by
  cases d with
  | list ds =>
    simp only [fit, Bool.and_eq_true, decide_eq_true_eq, List.all_eq_true] at h
    exact fb_list (fun d hd => fb_sc (h.2 d hd)) h.1
  | tuple ds =>
    simp only [fit, Bool.and_eq_true, decide_eq_true_eq, List.all_eq_true] at h
    exact fb_tuple (fun d hd => fb_sc (h.2 d hd)) h.1
  | _ => exact (fb_sc h).le (by decide) (by decide)
theorem fb_2 {d : PyData} (h : fit 13 2 d = true) : FB 8039 2 d := by
  cases d with
  | list ds =>
    simp only [fit, Bool.and_eq_true, decide_eq_true_eq, List.all_eq_true] at h
    exact fb_list (m := 616) (fun d hd => fb_1 (h.2 d hd)) h.1
  | tuple ds =>
    simp only [fit, Bool.and_eq_true, decide_eq_true_eq, List.all_eq_true] at h
    exact fb_tuple (m := 616) (fun d hd => fb_1 (h.2 d hd)) h.1
  | _ => exact (fb_sc h).le (by decide) (by decide)
theorem item_of {d : PyData} (h : d.canLay0 = true) : itemOk d = true := by
  have q := PyData.hasDict_of_canLay d h
  cases d with
  | dict _ => cases h
  | _ => exact congrArg (!·) q
theorem part_fit {d : PyData} (h : (fit 13 2 d || fitD d) = true) : Part d := by
  rcases Bool.or_eq_true_iff.mp h with h | h
  · have f := fb_2 h
    exact ⟨item_of f.lay, f.sh, Nat.le_trans f.dep (by decide), Nat.le_trans f.len (by decide)⟩
  · cases d with
    | dict kvs =>
      simp only [fitD, Bool.and_eq_true, decide_eq_true_eq] at h
      exact ⟨rfl, h.1.1.2, Nat.le_trans h.2 (by decide), Nat.le_trans h.1.2 (by decide)⟩
    | _ => cases h
/-- such things in a list -/
theorem thgs_dats {fp : Addr → Prop} {n : Nat} {H : Hp} : ∀ {vs : List V}, (∀ v ∈ vs, Thg fp n H v) → ∃ ds, DatPs fp H ds vs ∧ ∀ d ∈ ds, (fit n 2 d || fitD d) = true
  | [], _ => ⟨[], by simp only [DatPs], fun _ z => nomatch z⟩
  | v :: vs, h => by
    obtain ⟨d, D, f⟩ := h v List.mem_cons_self
    obtain ⟨ds, R, g⟩ := thgs_dats fun x hx => h x (List.mem_cons_of_mem _ hx)
    refine ⟨d :: ds, by simp only [DatPs]; exact ⟨v, vs, rfl, D, R⟩, fun x hx => ?_⟩
    rcases List.mem_cons.mp hx with rfl | hx
    · exact f
    · exact g x hx
theorem Thg.self {fp : Addr → Prop} {b : Addr} {H : Hp} {v : V} {Q : VK} (h : Thg fp 13 H v) (nb : ∀ a, fp a → a ≠ b) (q : Q (.bl true) H) : rSelf b v v H Q := by
  obtain ⟨d, D, f⟩ := h
  refine ⟨rfl, ?_, q⟩
  rcases Bool.or_eq_true_iff.mp f with f | f
  · have fb := fb_2 f
    refine .inl ⟨d, D.dat nb, ?_⟩
    unfold SeqAt.shaped
    rw [fb.lay, decide_eq_true (Nat.le_trans fb.dep (by decide))]
    rfl
  · cases d with
    | dict kvs =>
      simp only [fitD, Bool.and_eq_true, decide_eq_true_eq] at f
      simp only [DatP] at D
      obtain ⟨a, es, rfl, _, e, rfl, sc⟩ := D
      rw [List.length_map] at f
      refine .inr ⟨a, es, rfl, e, fun p hp => ?_⟩
      cases es with
      | nil => cases hp
      | cons x r =>
        cases r with
        | cons y t =>
          have := f.1.1.1
          simp only [List.length_cons] at this
          omega
        | nil =>
          obtain rfl := List.mem_singleton.mp hp
          simp only [List.all_cons, Bool.and_eq_true] at sc
          refine ⟨p.2, by simp [valV], rfl, ?_⟩
          obtain ⟨pk, pv⟩ := p
          cases pv <;> first | rfl | exact sc.1
    | _ => cases f
end Lb

set_option maxHeartbeats 4000000
namespace Kk
open PySem PySem.Spec PyProof.Rows L2 Lb
def topS (i : Nat) : Stmt := PySem.Challenge.pw_sleepmany_k16_refusals_apart.main.body.getD i (.Pass ⟨0, 0, 0, 0⟩)
abbrev st_L_bag : Stmt := topS 19
abbrev N_L_bag : List Str := ["_law_script", "_law_cell"]
abbrev P_L_bag : List Str := ["_law_script"]
theorem sc_L_bag : FnScope N_L_bag P_L_bag (defScope st_L_bag) := ⟨rfl, rfl, rfl, by decide +kernel, rfl, by decide +kernel, by decide +kernel⟩
abbrev st_L_take : Stmt := topS 20
abbrev N_L_take : List Str := ["_law_bag_here", "_law_many", "_law_cell", "_law_value", "_law_first", "_law_second"]
abbrev P_L_take : List Str := ["_law_bag_here", "_law_many"]
theorem sc_L_take : FnScope N_L_take P_L_take (defScope st_L_take) := ⟨rfl, rfl, rfl, by decide +kernel, rfl, by decide +kernel, by decide +kernel⟩
abbrev st_Wrong_init : Stmt := inClass (topS 2) 0
abbrev N_Wrong_init : List Str := ["self", "at"]
abbrev P_Wrong_init : List Str := ["self", "at"]
theorem sc_Wrong_init : FnScope N_Wrong_init P_Wrong_init (defScope st_Wrong_init) := ⟨rfl, rfl, rfl, by decide +kernel, rfl, by decide +kernel, by decide +kernel⟩
abbrev st_TooGreat_init : Stmt := inClass (topS 3) 0
abbrev N_TooGreat_init : List Str := ["self", "length"]
abbrev P_TooGreat_init : List Str := ["self", "length"]
theorem sc_TooGreat_init : FnScope N_TooGreat_init P_TooGreat_init (defScope st_TooGreat_init) := ⟨rfl, rfl, rfl, by decide +kernel, rfl, by decide +kernel, by decide +kernel⟩
abbrev st_Twice_init : Stmt := inClass (topS 4) 0
abbrev N_Twice_init : List Str := ["self", "name"]
abbrev P_Twice_init : List Str := ["self", "name"]
theorem sc_Twice_init : FnScope N_Twice_init P_Twice_init (defScope st_Twice_init) := ⟨rfl, rfl, rfl, by decide +kernel, rfl, by decide +kernel, by decide +kernel⟩
abbrev st_TooMany_init : Stmt := inClass (topS 6) 0
abbrev N_TooMany_init : List Str := ["self", "most"]
abbrev P_TooMany_init : List Str := ["self", "most"]
theorem sc_TooMany_init : FnScope N_TooMany_init P_TooMany_init (defScope st_TooMany_init) := ⟨rfl, rfl, rfl, by decide +kernel, rfl, by decide +kernel, by decide +kernel⟩
abbrev st_NoHall_init : Stmt := inClass (topS 7) 0
abbrev N_NoHall_init : List Str := ["self", "at"]
abbrev P_NoHall_init : List Str := ["self", "at"]
theorem sc_NoHall_init : FnScope N_NoHall_init P_NoHall_init (defScope st_NoHall_init) := ⟨rfl, rfl, rfl, by decide +kernel, rfl, by decide +kernel, by decide +kernel⟩
abbrev st_NoRow_init : Stmt := inClass (topS 8) 0
abbrev N_NoRow_init : List Str := ["self", "number"]
abbrev P_NoRow_init : List Str := ["self", "number"]
theorem sc_NoRow_init : FnScope N_NoRow_init P_NoRow_init (defScope st_NoRow_init) := ⟨rfl, rfl, rfl, by decide +kernel, rfl, by decide +kernel, by decide +kernel⟩
abbrev st_NoWay_init : Stmt := inClass (topS 9) 0
abbrev N_NoWay_init : List Str := ["self", "at"]
abbrev P_NoWay_init : List Str := ["self", "at"]
theorem sc_NoWay_init : FnScope N_NoWay_init P_NoWay_init (defScope st_NoWay_init) := ⟨rfl, rfl, rfl, by decide +kernel, rfl, by decide +kernel, by decide +kernel⟩
abbrev st_Full_init : Stmt := inClass (topS 10) 0
abbrev N_Full_init : List Str := ["self", "most"]
abbrev P_Full_init : List Str := ["self", "most"]
theorem sc_Full_init : FnScope N_Full_init P_Full_init (defScope st_Full_init) := ⟨rfl, rfl, rfl, by decide +kernel, rfl, by decide +kernel, by decide +kernel⟩
abbrev st_NoSleeper_init : Stmt := inClass (topS 11) 0
abbrev N_NoSleeper_init : List Str := ["self", "name"]
abbrev P_NoSleeper_init : List Str := ["self", "name"]
theorem sc_NoSleeper_init : FnScope N_NoSleeper_init P_NoSleeper_init (defScope st_NoSleeper_init) := ⟨rfl, rfl, rfl, by decide +kernel, rfl, by decide +kernel, by decide +kernel⟩
abbrev st_NoBeat_init : Stmt := inClass (topS 12) 0
abbrev N_NoBeat_init : List Str := ["self", "beat"]
abbrev P_NoBeat_init : List Str := ["self", "beat"]
theorem sc_NoBeat_init : FnScope N_NoBeat_init P_NoBeat_init (defScope st_NoBeat_init) := ⟨rfl, rfl, rfl, by decide +kernel, rfl, by decide +kernel, by decide +kernel⟩
abbrev st_Stopped_init : Stmt := inClass (topS 14) 0
abbrev N_Stopped_init : List Str := ["self", "at"]
abbrev P_Stopped_init : List Str := ["self", "at"]
theorem sc_Stopped_init : FnScope N_Stopped_init P_Stopped_init (defScope st_Stopped_init) := ⟨rfl, rfl, rfl, by decide +kernel, rfl, by decide +kernel, by decide +kernel⟩
section
variable {P : Program} {w : World} {K : PySem.W.Frag} {mg : Str → Option Value} {base : Heap} {SE : Addr} {c : Nat → Addr}
theorem ok_take {f : Addr} {fd : FuncData} (F : Fun K "_law_take" "_law_take" st_L_take f fd) (B : Blt mg) : FnOk P w K mg base CX0 1 f fd P_L_take spTake := by
  refine F.ok sc_L_take (fun vs H Q E h => ?_) (fun cdv A outer s H vs Q E hr h => ?_)
  · obtain ⟨b, c, many, rfl, _⟩ := h
    rfl
  · obtain ⟨b, c, many, rfl, G, m0, m1, q⟩ := h
    refine ⟨_, (Evl.pss_cut (ps_if (pt_cmpR op_eq (pe_ix ix_list (pv 0) pe_int (fun _ _ => rfl)) pe_int (nomark _)) (pss_cons (ps_set (i := 2) sc_L_take.nd rfl (Or.inl rfl) pe_int)
      (Evl.pss_cut (ps_if (pt_cmpR op_lt (pe_ix ix_list (pv 0) pe_int (fun _ _ => rfl)) (pe_callB call_len (by rfl) B.len (by decide +kernel) (pa_cons (pe_ix ix_list (pv 0) pe_int (fun _ _ => rfl)) pa_nil)) (nomark _)) (pss_one (ps_set (i := 2) sc_L_take.nd rfl (Or.inl rfl) (pe_ix ix_list (pe_ix ix_list (pv 0) pe_int (fun _ _ => rfl)) (pe_ix ix_list (pv 0) pe_int (fun _ _ => rfl)) (fun _ _ => rfl)))) pss_nil)
      (pss_cons (ps_augS (pv 0) pe_int get_list pe_int ip_add set_list)
      (Evl.pss_cut (ps_if (pt_cmpR op_ge (pv 2) pe_int (nomark _)) (pss_one (ps_asg (pv 2) (pg_sub (pv 0) pe_int set_list))) pss_nil)
      (pss_one (ps_asg (pe_op op_mod (pe_op op_add (pe_op op_add (pe_op op_mul (pe_ix ix_list (pv 0) pe_int (fun _ _ => rfl)) pe_int) (pe_op op_mod (pv 2) pe_int)) (pe_op op_mul pe_int (pe_ix ix_list (pv 0) pe_int (fun _ _ => rfl)))) pe_int) (pg_sub (pv 0) pe_int set_list))))))) pss_nil)
      (pss_cons (ps_if (pt_cmpR op_gt (pe_ix ix_list (pv 0) pe_int (fun _ _ => rfl)) pe_int (nomark _)) (pss_cons (ps_set (i := 3) sc_L_take.nd rfl (Or.inl rfl) (pe_op op_mod (pe_ix ix_list (pv 0) pe_int (fun _ _ => rfl)) (pv 1)))
      (pss_cons (ps_asg (pe_op op_fdivW (pe_ix ix_list (pv 0) pe_int (fun _ _ => rfl)) (pv 1)) (pg_sub (pv 0) pe_int set_list))
      (pss_one (ps_ret (pv 3))))) pss_nil)
      (pss_cons (ps_set (i := 4) sc_L_take.nd rfl (Or.inl rfl) (pe_op op_mod (pe_op op_mul (pe_op op_add (pe_ix ix_list (pv 0) pe_int (fun _ _ => rfl)) pe_int) pe_int) pe_int))
      (pss_cons (ps_set (i := 5) sc_L_take.nd rfl (Or.inl rfl) (pe_op op_mod (pe_op op_mul (pe_op op_mod (pe_op op_mul (pv 4) (pv 4)) pe_int) pe_int) pe_int))
      (pss_cons (ps_if (pt_cmpR op_gt (pv 1) pe_int (nomark _)) (pss_one (ps_ret (pe_op op_mod (pe_op op_add (pe_op op_mul (pv 5) pe_int) (pv 4)) (pv 1)))) pss_nil)
      (pss_one (ps_ret (pe_op op_mod (pe_op op_fdivW (pv 5) pe_int) (pv 1))))))))), ?_⟩
    obtain ⟨n, st, p, ns, e1, e2, n0, p0, ns0, nl⟩ := G.ex
    refine ⟨fun σ' H' => ∃ x2, σ' = [some (.ref b), some (.int many), x2, none, none, none] ∧ Bag H' b c ∧ (∀ a, a ≠ b → H' a = H a), ?_, ?_⟩
    · refine ⟨.ref b, rfl, b, _, 0, _, rfl, rfl, SqL.of e1, rfl, rfl, _, rfl, ite2 (fun _ => ?_) (fun _ => ⟨none, rfl, G, fun _ _ => rfl⟩)⟩
      refine ⟨fun σ' H' => ∃ z : Int, 0 ≤ z ∧ σ' = [some (.ref b), some (.int many), some (.int z), none, none, none] ∧ H' = H, ?_, ?_⟩
      · refine ⟨.ref b, rfl, b, _, 2, _, rfl, rfl, SqL.of e1, rfl, .ref b, rfl, b, _, 3, _, rfl, rfl, SqL.of e1, rfl, .ref c, _, rfl, .inl ⟨_, SqL.of e2, rfl⟩, p, _, rfl, rfl, _, rfl, ite2 (fun lt => ?_) (fun _ => ⟨0, by decide, rfl, rfl⟩)⟩
        have lt2 : p < ((ns.map V.int).length : Int) := of_decide_eq_true lt
        rw [List.length_map] at lt2
        have lt3 : p.toNat < ns.length := by omega
        refine ⟨.ref b, rfl, b, _, 3, _, rfl, rfl, SqL.of e1, rfl, .ref b, rfl, b, _, 2, _, rfl, rfl, SqL.of e1, rfl, c, _, p, .int ns[p.toNat], rfl, rfl, SqL.of e2, at_of (j := p.toNat) (by omega) ?_, ns[p.toNat], ns0 _ (List.getElem_mem _), rfl, rfl⟩
        rw [List.getElem?_map, List.getElem?_eq_getElem lt3]
        rfl
      · rintro σ' H' ⟨z, z0, rfl, rfl⟩
        -- bag[2] += 1
        refine ⟨.ref b, rfl, b, _, 2, _, rfl, rfl, SqL.of e1, rfl, p, 1, rfl, rfl, b, _, 2, 2, rfl, rfl, e1, rfl, ?_⟩
        refine ⟨fun σ2 H2 => ∃ n2 : Int, 0 ≤ n2 ∧ σ2 = [some (.ref b), some (.int many), some (.int z), none, none, none] ∧ H2 b = some (.lst [.int n2, .int st, .int (p + 1), .ref c]) ∧ (∀ a, a ≠ b → H2 a = H' a), ?_, ?_⟩
        · refine ⟨.int z, rfl, _, _, rfl, rfl, _, rfl, ite2 (fun _ => ?_) (fun _ => ?_)⟩
          · refine ⟨.int z, rfl, .ref b, rfl, b, _, 0, 0, rfl, rfl, upd_same, rfl, z, z0, rfl, upd_same, fun a ha => ?_⟩
            rw [upd_ne ha, upd_ne ha]
          · exact ⟨n, n0, rfl, upd_same, fun a ha => upd_ne ha⟩
        · rintro σ2 H2 ⟨n2, n20, rfl, f1, f2⟩
          refine ⟨.ref b, rfl, b, _, 1, _, rfl, rfl, SqL.of f1, rfl, st, 48271, rfl, rfl, .inr ⟨by decide, by decide⟩, .int z, rfl, z, 2147483647, rfl, rfl, (by show (0 : Int) < 2147483647; decide), _, _, rfl, rfl,
            .ref b, rfl, b, _, 2, _, rfl, rfl, SqL.of f1, rfl, 7919, p + 1, rfl, rfl, .inl ⟨by decide, by decide⟩, _, _, rfl, rfl, _, 2147483647, rfl, rfl, (by show (0 : Int) < 2147483647; decide), .ref b, rfl, b, _, 1, 1, rfl, rfl, f1, rfl, some (.int z), rfl, ?_, fun a ha => ?_⟩
          · exact G.kp (fun a ha => by rw [upd_ne ha, f2 a ha]) (Eq.trans upd_same rfl) n20 (by omega)
          · rw [upd_ne ha, f2 a ha]
    · rintro σ' H' ⟨x2, rfl, G', hk⟩
      obtain ⟨n, st, p, ns, e1, e2, n0, p0, ns0, nl⟩ := G'.ex
      refine ⟨.ref b, rfl, b, _, 0, _, rfl, rfl, SqL.of e1, rfl, n, 0, rfl, rfl, _, rfl, ite2 (fun _ => ?_) (fun _ => ?_)⟩
      · refine ⟨.ref b, rfl, b, _, 0, _, rfl, rfl, SqL.of e1, rfl, .int many, rfl, n, many, rfl, rfl, m0, ?_⟩
        refine ⟨.ref b, rfl, b, _, 0, _, rfl, rfl, SqL.of e1, rfl, .int many, rfl, n, many, rfl, rfl, cdiv_any (many_log m0 m1), .ref b, rfl, b, _, 0, 0, rfl, rfl, e1, rfl, .int (n % many), rfl, ?_⟩
        refine q _ _ (Int.emod_nonneg _ (by omega)) (Int.emod_lt_of_pos _ m0) ?_ fun a ha => ?_
        · exact G'.kp (fun a ha => upd_ne ha) (Eq.trans upd_same rfl) (Int.ediv_nonneg n0 (by omega)) p0
        · rw [upd_ne ha, hk a ha]
      · refine ⟨.ref b, rfl, b, _, 1, _, rfl, rfl, SqL.of e1, rfl, st, 1, rfl, rfl, _, 39373, rfl, rfl, .inr ⟨by decide, by decide⟩, _, 1000000007, rfl, rfl, (by show (0 : Int) < 1000000007; decide), ?_⟩
        refine ⟨_, rfl, _, rfl, _, _, rfl, rfl, .inl ⟨show -(2 ^ 64) < (st + 1) * 39373 % 1000000007 by omega, show (st + 1) * 39373 % 1000000007 < 2 ^ 64 by omega⟩, _, 998244353, rfl, rfl, (by show (0 : Int) < 998244353; decide), _, 30011, rfl, rfl, .inr ⟨by decide, by decide⟩, _, 998244353, rfl, rfl, (by show (0 : Int) < 998244353; decide), ?_⟩
        refine ⟨.int many, rfl, many, 1000000, rfl, rfl, _, rfl, ite2 (fun _ => ?_) (fun _ => ?_)⟩
        · refine ⟨_, rfl, _, 1000000007, rfl, rfl, .inr ⟨by decide, by decide⟩, _, rfl, _, _, rfl, rfl, .int many, rfl, _, many, rfl, rfl, m0, ?_⟩
          exact q _ _ (Int.emod_nonneg _ (by omega)) (Int.emod_lt_of_pos _ m0) G' hk
        · refine ⟨_, rfl, _, 7, rfl, rfl, ⟨by decide, by decide⟩, .int many, rfl, _, many, rfl, rfl, m0, ?_⟩
          exact q _ _ (Int.emod_nonneg _ (by omega)) (Int.emod_lt_of_pos _ m0) G' hk
theorem ok_bag {f : Addr} {fd : FuncData} (F : Fun K "_law_bag" "_law_bag" st_L_bag f fd) (B : Blt mg) : FnOk P w K mg base CX0 1 f fd P_L_bag (spBag K) := by
  refine F.ok sc_L_bag (fun vs H Q E h => ?_) (fun cdv A outer s H vs Q E hr h => ?_)
  · obtain ⟨a, ns, rfl, _⟩ := h
    rfl
  · obtain ⟨a, ns, rfl, hS, nl, q⟩ := h
    refine ⟨_, (pss_one (ps_ret (pe_lst (pa_cons pe_int (pa_cons pe_int (pa_cons pe_int (pa_cons (pe_lc (own := [("_law_cell", 1)]) (g := gName 1) (tt := tYes) rfl sc_L_bag.nd (pi_list (pe_slice sl_list (pv 0) po_none (po_some pe_int))) (blkOk_by (N := N_L_bag) (sc := defScope st_L_bag) (by decide +kernel)) (fun _ _ _ _ _ => pg_name (i := 1) sc_L_bag.nd rfl (Or.inl rfl)) (fun _ _ _ _ _ => pts_nil) (fun _ _ _ _ _ => (pe_callB call_abs (by rfl) B.abs_ (by decide +kernel) (pa_cons (pv 1) pa_nil)))) pa_nil))))))), ?_⟩
    refine ⟨.ref a, rfl, 63, rfl, a, ns.map V.int, rfl, hS, fun d nd => ?_⟩
    rw [cut_to (by decide)]
    have e63 : (ns.map V.int).take (63 : Int).toNat = ns.map V.int := List.take_of_length_le (by rw [List.length_map]; exact nl)
    rw [e63]
    refine ⟨d, rfl, ⟨_, SqL.of upd_same⟩, fun D hD => lc_list (K := K) (a := d) (xs := ns.map V.int) (fun i H' => Lb.Mk (upd H d (.lst (ns.map V.int))) D ((ns.take i).map fun z => V.int (if z < 0 then -z else z)) H') (Lb.Mk.start hD) (fun i H' _ M => SqL.of (M.same _ _ upd_same)) ?_ ?_⟩
    · intro i x H' hi M
      obtain ⟨z, hz, rfl⟩ : ∃ z, ns[i]? = some z ∧ V.int z = x := by
        rw [List.getElem?_map] at hi
        exact Option.map_eq_some_iff.mp hi
      refine ⟨rfl, .int z, rfl, z, rfl, _, M.at_, ?_, ?_⟩
      · rw [List.length_map, List.length_take]
        exact sz_lo (by omega)
      · rw [List.take_add_one, hz, List.map_append]
        exact M.next (Same.refl _)
    · intro H' M
      rw [List.length_map, List.take_length] at M
      refine ⟨by show 4 ≤ sizeLine; decide, fun b nb => ?_⟩
      have s0 : Same H H' := (same_new nd).trans M.same
      have n2 : H D = none := (same_new nd).free M.new
      have nDb : D ≠ b := ne_of_none M.at_ nb
      refine q b D _ (s0.free nb) n2 (s0.trans (same_new nb)) ⟨⟨0, 1234567891, 0, ns.map fun z => if z < 0 then -z else z, upd_same, ?_, by decide, by decide, ?_, by rw [List.length_map]; exact nl⟩, nDb⟩
      · rw [upd_ne nDb, List.map_map]
        exact M.at_
      · intro z hz
        obtain ⟨y, _, rfl⟩ := List.mem_map.mp hz
        split <;> omega
theorem ok_i_Wrong {C : Addr} {f : Addr} {fd : FuncData} (F : Fun K "__init__" "Wrong.__init__" st_Wrong_init f fd) (O : OexC K C) (no : PySem.W.findIn K (.ref C) "at" = some none) : FnOk P w K mg base CX0 1 f fd P_Wrong_init (spXI C "at") := by
  refine F.ok sc_Wrong_init (fun vs H Q E h => ?_) (fun cdv A outer s H vs Q E hr h => ?_)
  · obtain ⟨a, v, rfl, _⟩ := h
    rfl
  · obtain ⟨a, v, rfl, e, q⟩ := h
    refine ⟨_, (pss_one (ps_ost (pv 0) (pv 1))), ?_⟩
    exact ⟨v, rfl, .ref a, rfl, a, C, rfl, O, no, .inl ⟨e, q⟩⟩
theorem ok_i_TooGreat {C : Addr} {f : Addr} {fd : FuncData} (F : Fun K "__init__" "TooGreat.__init__" st_TooGreat_init f fd) (O : OexC K C) (no : PySem.W.findIn K (.ref C) "length" = some none) : FnOk P w K mg base CX0 1 f fd P_TooGreat_init (spXI C "length") := by
  refine F.ok sc_TooGreat_init (fun vs H Q E h => ?_) (fun cdv A outer s H vs Q E hr h => ?_)
  · obtain ⟨a, v, rfl, _⟩ := h
    rfl
  · obtain ⟨a, v, rfl, e, q⟩ := h
    refine ⟨_, (pss_one (ps_ost (pv 0) (pv 1))), ?_⟩
    exact ⟨v, rfl, .ref a, rfl, a, C, rfl, O, no, .inl ⟨e, q⟩⟩
theorem ok_i_Twice {C : Addr} {f : Addr} {fd : FuncData} (F : Fun K "__init__" "Twice.__init__" st_Twice_init f fd) (O : OexC K C) (no : PySem.W.findIn K (.ref C) "name" = some none) : FnOk P w K mg base CX0 1 f fd P_Twice_init (spXI C "name") := by
  refine F.ok sc_Twice_init (fun vs H Q E h => ?_) (fun cdv A outer s H vs Q E hr h => ?_)
  · obtain ⟨a, v, rfl, _⟩ := h
    rfl
  · obtain ⟨a, v, rfl, e, q⟩ := h
    refine ⟨_, (pss_one (ps_ost (pv 0) (pv 1))), ?_⟩
    exact ⟨v, rfl, .ref a, rfl, a, C, rfl, O, no, .inl ⟨e, q⟩⟩
theorem ok_i_TooMany {C : Addr} {f : Addr} {fd : FuncData} (F : Fun K "__init__" "TooMany.__init__" st_TooMany_init f fd) (O : OexC K C) (no : PySem.W.findIn K (.ref C) "most" = some none) : FnOk P w K mg base CX0 1 f fd P_TooMany_init (spXI C "most") := by
  refine F.ok sc_TooMany_init (fun vs H Q E h => ?_) (fun cdv A outer s H vs Q E hr h => ?_)
  · obtain ⟨a, v, rfl, _⟩ := h
    rfl
  · obtain ⟨a, v, rfl, e, q⟩ := h
    refine ⟨_, (pss_one (ps_ost (pv 0) (pv 1))), ?_⟩
    exact ⟨v, rfl, .ref a, rfl, a, C, rfl, O, no, .inl ⟨e, q⟩⟩
theorem ok_i_NoHall {C : Addr} {f : Addr} {fd : FuncData} (F : Fun K "__init__" "NoHall.__init__" st_NoHall_init f fd) (O : OexC K C) (no : PySem.W.findIn K (.ref C) "at" = some none) : FnOk P w K mg base CX0 1 f fd P_NoHall_init (spXI C "at") := by
  refine F.ok sc_NoHall_init (fun vs H Q E h => ?_) (fun cdv A outer s H vs Q E hr h => ?_)
  · obtain ⟨a, v, rfl, _⟩ := h
    rfl
  · obtain ⟨a, v, rfl, e, q⟩ := h
    refine ⟨_, (pss_one (ps_ost (pv 0) (pv 1))), ?_⟩
    exact ⟨v, rfl, .ref a, rfl, a, C, rfl, O, no, .inl ⟨e, q⟩⟩
theorem ok_i_NoRow {C : Addr} {f : Addr} {fd : FuncData} (F : Fun K "__init__" "NoRow.__init__" st_NoRow_init f fd) (O : OexC K C) (no : PySem.W.findIn K (.ref C) "number" = some none) : FnOk P w K mg base CX0 1 f fd P_NoRow_init (spXI C "number") := by
  refine F.ok sc_NoRow_init (fun vs H Q E h => ?_) (fun cdv A outer s H vs Q E hr h => ?_)
  · obtain ⟨a, v, rfl, _⟩ := h
    rfl
  · obtain ⟨a, v, rfl, e, q⟩ := h
    refine ⟨_, (pss_one (ps_ost (pv 0) (pv 1))), ?_⟩
    exact ⟨v, rfl, .ref a, rfl, a, C, rfl, O, no, .inl ⟨e, q⟩⟩
theorem ok_i_NoWay {C : Addr} {f : Addr} {fd : FuncData} (F : Fun K "__init__" "NoWay.__init__" st_NoWay_init f fd) (O : OexC K C) (no : PySem.W.findIn K (.ref C) "at" = some none) : FnOk P w K mg base CX0 1 f fd P_NoWay_init (spXI C "at") := by
  refine F.ok sc_NoWay_init (fun vs H Q E h => ?_) (fun cdv A outer s H vs Q E hr h => ?_)
  · obtain ⟨a, v, rfl, _⟩ := h
    rfl
  · obtain ⟨a, v, rfl, e, q⟩ := h
    refine ⟨_, (pss_one (ps_ost (pv 0) (pv 1))), ?_⟩
    exact ⟨v, rfl, .ref a, rfl, a, C, rfl, O, no, .inl ⟨e, q⟩⟩
theorem ok_i_Full {C : Addr} {f : Addr} {fd : FuncData} (F : Fun K "__init__" "Full.__init__" st_Full_init f fd) (O : OexC K C) (no : PySem.W.findIn K (.ref C) "most" = some none) : FnOk P w K mg base CX0 1 f fd P_Full_init (spXI C "most") := by
  refine F.ok sc_Full_init (fun vs H Q E h => ?_) (fun cdv A outer s H vs Q E hr h => ?_)
  · obtain ⟨a, v, rfl, _⟩ := h
    rfl
  · obtain ⟨a, v, rfl, e, q⟩ := h
    refine ⟨_, (pss_one (ps_ost (pv 0) (pv 1))), ?_⟩
    exact ⟨v, rfl, .ref a, rfl, a, C, rfl, O, no, .inl ⟨e, q⟩⟩
theorem ok_i_NoSleeper {C : Addr} {f : Addr} {fd : FuncData} (F : Fun K "__init__" "NoSleeper.__init__" st_NoSleeper_init f fd) (O : OexC K C) (no : PySem.W.findIn K (.ref C) "name" = some none) : FnOk P w K mg base CX0 1 f fd P_NoSleeper_init (spXI C "name") := by
  refine F.ok sc_NoSleeper_init (fun vs H Q E h => ?_) (fun cdv A outer s H vs Q E hr h => ?_)
  · obtain ⟨a, v, rfl, _⟩ := h
    rfl
  · obtain ⟨a, v, rfl, e, q⟩ := h
    refine ⟨_, (pss_one (ps_ost (pv 0) (pv 1))), ?_⟩
    exact ⟨v, rfl, .ref a, rfl, a, C, rfl, O, no, .inl ⟨e, q⟩⟩
theorem ok_i_NoBeat {C : Addr} {f : Addr} {fd : FuncData} (F : Fun K "__init__" "NoBeat.__init__" st_NoBeat_init f fd) (O : OexC K C) (no : PySem.W.findIn K (.ref C) "beat" = some none) : FnOk P w K mg base CX0 1 f fd P_NoBeat_init (spXI C "beat") := by
  refine F.ok sc_NoBeat_init (fun vs H Q E h => ?_) (fun cdv A outer s H vs Q E hr h => ?_)
  · obtain ⟨a, v, rfl, _⟩ := h
    rfl
  · obtain ⟨a, v, rfl, e, q⟩ := h
    refine ⟨_, (pss_one (ps_ost (pv 0) (pv 1))), ?_⟩
    exact ⟨v, rfl, .ref a, rfl, a, C, rfl, O, no, .inl ⟨e, q⟩⟩
theorem ok_i_Stopped {C : Addr} {f : Addr} {fd : FuncData} (F : Fun K "__init__" "Stopped.__init__" st_Stopped_init f fd) (O : OexC K C) (no : PySem.W.findIn K (.ref C) "at" = some none) : FnOk P w K mg base CX0 1 f fd P_Stopped_init (spXI C "at") := by
  refine F.ok sc_Stopped_init (fun vs H Q E h => ?_) (fun cdv A outer s H vs Q E hr h => ?_)
  · obtain ⟨a, v, rfl, _⟩ := h
    rfl
  · obtain ⟨a, v, rfl, e, q⟩ := h
    refine ⟨_, (pss_one (ps_ost (pv 0) (pv 1))), ?_⟩
    exact ⟨v, rfl, .ref a, rfl, a, C, rfl, O, no, .inl ⟨e, q⟩⟩
end
/-- what the written part says of the errors -/
structure Er (K : PySem.W.Frag) (mg : Str → Option Value) (SE : Addr) (c : Nat → Addr) : Prop where
  g_SleepError : mg "SleepError" = some (.ref SE)
  g_Wrong : mg "Wrong" = some (.ref (c 0))
  g_TooGreat : mg "TooGreat" = some (.ref (c 1))
  g_Twice : mg "Twice" = some (.ref (c 2))
  g_NotSo : mg "NotSo" = some (.ref (c 3))
  g_TooMany : mg "TooMany" = some (.ref (c 4))
  g_NoHall : mg "NoHall" = some (.ref (c 5))
  g_NoRow : mg "NoRow" = some (.ref (c 6))
  g_NoWay : mg "NoWay" = some (.ref (c 7))
  g_Full : mg "Full" = some (.ref (c 8))
  g_NoSleeper : mg "NoSleeper" = some (.ref (c 9))
  g_NoBeat : mg "NoBeat" = some (.ref (c 10))
  g_Nothing : mg "Nothing" = some (.ref (c 11))
  g_Stopped : mg "Stopped" = some (.ref (c 12))
  g_NoText : mg "NoText" = some (.ref (c 13))
  g_NoLine : mg "NoLine" = some (.ref (c 14))
  g_NoHouse : mg "NoHouse" = some (.ref (c 15))
  xs : XL K SE veT
  xl : ∀ i, i < 16 → XL K (c i) (.ref SE :: veT)
  nd : ∀ i j, i < 16 → j < 16 → c i = c j → i = j
  nS : ∀ i, i < 16 → c i ≠ SE
  eS : ExcC K SE
  ec : ∀ i, i < 16 → ExcC K (c i)
  no_Wrong : PySem.W.findIn K (.ref (c 0)) "at" = some none
  no_TooGreat : PySem.W.findIn K (.ref (c 1)) "length" = some none
  no_Twice : PySem.W.findIn K (.ref (c 2)) "name" = some none
  no_TooMany : PySem.W.findIn K (.ref (c 4)) "most" = some none
  no_NoHall : PySem.W.findIn K (.ref (c 5)) "at" = some none
  no_NoRow : PySem.W.findIn K (.ref (c 6)) "number" = some none
  no_NoWay : PySem.W.findIn K (.ref (c 7)) "at" = some none
  no_Full : PySem.W.findIn K (.ref (c 8)) "most" = some none
  no_NoSleeper : PySem.W.findIn K (.ref (c 9)) "name" = some none
  no_NoBeat : PySem.W.findIn K (.ref (c 10)) "beat" = some none
  no_Stopped : PySem.W.findIn K (.ref (c 12)) "at" = some none
  q_NotSo : PySem.W.excIn K (c 3) veT "ValueError.__new__" = true
  k_NotSo : PySem.W.keepIn K (.ref (c 3)) = true
  q_Nothing : PySem.W.excIn K (c 11) veT "ValueError.__new__" = true
  k_Nothing : PySem.W.keepIn K (.ref (c 11)) = true
  q_NoText : PySem.W.excIn K (c 13) veT "ValueError.__new__" = true
  k_NoText : PySem.W.keepIn K (.ref (c 13)) = true
  q_NoLine : PySem.W.excIn K (c 14) veT "ValueError.__new__" = true
  k_NoLine : PySem.W.keepIn K (.ref (c 14)) = true
  q_NoHouse : PySem.W.excIn K (c 15) veT "ValueError.__new__" = true
  k_NoHouse : PySem.W.keepIn K (.ref (c 15)) = true
  q_SleepError : PySem.W.excIn K SE veT "ValueError.__new__" = true
  k_SleepError : PySem.W.keepIn K (.ref SE) = true
section
variable {K : PySem.W.Frag} {mg : Str → Option Value} {SE : Addr} {c : Nat → Addr}
theorem Er.has (S : Er K mg SE c) {i j : Nat} (hi : i < 16) (hj : j < 16) : (Value.ref (c i) :: Value.ref SE :: veT).contains (.ref (c j)) = decide (i = j) := by
  by_cases h : i = j
  · subst h
    rw [decide_eq_true rfl]
    exact List.contains_iff_mem.mpr List.mem_cons_self
  · rw [decide_eq_false h]
    cases q : (Value.ref (c i) :: Value.ref SE :: veT).contains (.ref (c j)) with
    | false => rfl
    | true =>
      have m := List.contains_iff_mem.mp q
      rcases List.mem_cons.mp m with e | m
      · injection e with e
        exact absurd (S.nd j i hj hi e).symm h
      rcases List.mem_cons.mp m with e | m
      · injection e with e
        exact absurd e (S.nS j hj)
      · simp [veT] at m
theorem Er.kit (S : Er K mg SE c) {i j : Nat} (hi : i < 16) (hj : j < 16) : PySem.W.kitOne K (.ref (c i)) (.ref (c j)) = some (decide (i = j)) := by
  rw [(S.xl i hi).kit (S.xl j hj), S.has hi hj]
theorem Er.kS (S : Er K mg SE c) {i : Nat} (hi : i < 16) : PySem.W.kitOne K (.ref (c i)) (.ref SE) = some true := by
  rw [(S.xl i hi).kit S.xs]
  simp
theorem Er.kV (S : Er K mg SE c) {i : Nat} (hi : i < 16) : PySem.W.kitOne K (.ref (c i)) (.type "ValueError") = some true := by
  rw [(S.xl i hi).kitT (by decide +kernel)]
  simp [veT]
theorem Er.kSV (S : Er K mg SE c) : PySem.W.kitOne K (.ref SE) (.type "ValueError") = some true := by
  rw [S.xs.kitT (by decide +kernel)]
  simp [veT]
theorem Er.kSn (S : Er K mg SE c) {j : Nat} (hj : j < 16) : PySem.W.kitOne K (.ref SE) (.ref (c j)) = some false := by
  rw [S.xs.kit (S.xl j hj)]
  cases q : (Value.ref SE :: veT).contains (.ref (c j)) with
  | false => rfl
  | true =>
    have m := List.contains_iff_mem.mp q
    rcases List.mem_cons.mp m with e | m
    · injection e with e
      exact absurd e (S.nS j hj)
    · simp [veT] at m
theorem Er.exm (S : Er K mg SE c) {i j : Nat} (hi : i < 16) (hj : j < 16) : PySem.W.exmOne K (.ref (c i)) (.ref (c j)) = some (decide (i = j)) := by
  rw [(S.xl i hi).exm (S.xl j hj) (by simp [veT]), S.has hi hj]
theorem Er.exS (S : Er K mg SE c) {i : Nat} (hi : i < 16) : PySem.W.exmOne K (.ref (c i)) (.ref SE) = some true := by
  rw [(S.xl i hi).exm S.xs (by simp [veT])]
  simp
theorem Er.sub (S : Er K mg SE c) {i : Nat} (hi : i < 16) : PySem.W.subIn K (.ref (c i)) (.type "BaseException") = some true := by
  rw [(S.xl i hi).sub]
  simp [veT]
theorem Er.xf (S : Er K mg SE c) {i : Nat} (hi : i < 16) : XfC K (c i) := ⟨(S.ec i hi).hg, (S.ec i hi).hk, (S.ec i hi).hs, (S.ec i hi).hd⟩
end
end Kk

set_option maxHeartbeats 4000000
namespace Kk
open PySem PySem.Spec PyProof.Rows L2 Lb
abbrev st_L_thing : Stmt := topS 21
abbrev N_L_thing : List Str := ["_law_bag_here", "_law_some"]
abbrev P_L_thing : List Str := ["_law_bag_here"]
theorem sc_L_thing : FnScope N_L_thing P_L_thing (defScope st_L_thing) := ⟨rfl, rfl, rfl, by decide +kernel, rfl, by decide +kernel, by decide +kernel⟩
def things : List PyData := [.int 0, .int 1, .int (-5), .int (10 ^ 40), .bool true, .none, .str (Str.ofString ""), .str (Str.ofString "ab"), .str (Str.ofString "two words"), .list [.int 1, .list [.int 2]], .tuple [.int 3, .str (Str.ofString "a")], .dict [(.str (Str.ofString "a"), .int 1)], .list [], .tuple [], .bool false, .dict []]
theorem things_all : things.all (fun d => fit 2 2 d || fitD d) = true := by decide +kernel
/-- a thing is drawn: all of it is new -/
def spThing : Sp := fun vs H Q _ => ∃ (b c : Addr), vs = [.ref b] ∧ Bag H b c ∧ ∀ (v : V) (H' : Hp), Thg (fun a => H a = none) 2 H' v → Bag H' b c → Kp b H H' → Q v H'
section
variable {P : Program} {w : World} {K : PySem.W.Frag} {mg : Str → Option Value} {base : Heap} {SE : Addr} {c : Nat → Addr}
theorem ok_thing {f : Addr} {fd : FuncData} (F : Fun K "_law_thing" "_law_thing" st_L_thing f fd) (c_L_take : Cal P w K mg base 1 "_law_take" spTake) : FnOk P w K mg base CX0 2 f fd P_L_thing spThing := by
  refine F.ok sc_L_thing (fun vs H Q E h => ?_) (fun cdv A outer s H vs Q E hr h => ?_)
  · obtain ⟨b, c, rfl, _⟩ := h
    rfl
  · obtain ⟨b, c, rfl, G, q⟩ := h
    refine ⟨_, (pss_cons (ps_set (i := 1) sc_L_thing.nd rfl (Or.inl rfl) (pe_lst (pa_cons pe_int (pa_cons pe_int (pa_cons (pe_un un_neg pe_int) (pa_cons (pe_op op_pow pe_int pe_int) (pa_cons pe_bl (pa_cons pe_non (pa_cons pe_str (pa_cons pe_str (pa_cons pe_str (pa_cons (pe_lst (pa_cons pe_int (pa_cons (pe_lst (pa_cons pe_int pa_nil)) pa_nil))) (pa_cons (pe_tup (pa_cons pe_int (pa_cons pe_str pa_nil))) (pa_cons (pe_disp (pps_cons pe_str pe_int pps_nil) rfl rfl (by simp) (by decide)) (pa_cons (pe_lst (pa_nil)) (pa_cons (pe_tup (pa_nil)) (pa_cons pe_bl (pa_cons pe_dnewK pa_nil))))))))))))))))))
      (pss_one (ps_ret (pe_ix ix_list (pv 1) (pe_n c_L_take hr (by decide) (by rfl) (pa_cons (pv 0) (pa_cons pe_int pa_nil))) (fun _ _ => rfl))))), ?_⟩
    refine ⟨_, rfl, 10, 40, rfl, rfl, ⟨by decide, by decide, by decide⟩, by show 1 ≤ sizeLine; decide, fun o1 n_o1 => ?_⟩
    have s_o1 := same_new (o := .lst [.int 2]) n_o1
    have b_o1 := G.ne_new n_o1
    have f_o1 : H o1 = none := n_o1
    have G_o1 := G.new (o := .lst [.int 2]) n_o1
    refine ⟨by show 2 ≤ sizeLine; decide, fun o2 n_o2 => ?_⟩
    have s_o2 := same_new (o := .lst [.int 1, .ref o1]) n_o2
    have b_o2 := G_o1.ne_new n_o2
    have f_o2 : H o2 = none := s_o1.free n_o2
    have G_o2 := G_o1.new (o := .lst [.int 1, .ref o1]) n_o2
    refine ⟨by show 2 ≤ sizeLine; decide, fun o3 n_o3 => ?_⟩
    have s_o3 := same_new (o := .tup [.int 3, .str (Str.ofString "a")]) n_o3
    have b_o3 := G_o2.ne_new n_o3
    have f_o3 : H o3 = none := (s_o1.trans s_o2).free n_o3
    have G_o3 := G_o2.new (o := .tup [.int 3, .str (Str.ofString "a")]) n_o3
    refine fun o4 n_o4 => ⟨upd_same, [(Sum.inr (Str.ofString "a"), .int 1)], rfl, by decide, ?_⟩
    rw [upd_upd]
    have s_o4 := same_new (o := .dK (mergeK [] [(Sum.inr (Str.ofString "a"), .int 1)])) n_o4
    have b_o4 := G_o3.ne_new n_o4
    have f_o4 : H o4 = none := ((s_o1.trans s_o2).trans s_o3).free n_o4
    have G_o4 := G_o3.new (o := .dK (mergeK [] [(Sum.inr (Str.ofString "a"), .int 1)])) n_o4
    refine ⟨by show 0 ≤ sizeLine; decide, fun o5 n_o5 => ?_⟩
    have s_o5 := same_new (o := .lst []) n_o5
    have b_o5 := G_o4.ne_new n_o5
    have f_o5 : H o5 = none := (((s_o1.trans s_o2).trans s_o3).trans s_o4).free n_o5
    have G_o5 := G_o4.new (o := .lst []) n_o5
    refine ⟨by show 0 ≤ sizeLine; decide, fun o6 n_o6 => ?_⟩
    have s_o6 := same_new (o := .tup []) n_o6
    have b_o6 := G_o5.ne_new n_o6
    have f_o6 : H o6 = none := ((((s_o1.trans s_o2).trans s_o3).trans s_o4).trans s_o5).free n_o6
    have G_o6 := G_o5.new (o := .tup []) n_o6
    intro o7 n_o7
    have s_o7 := same_new (o := .dK []) n_o7
    have b_o7 := G_o6.ne_new n_o7
    have f_o7 : H o7 = none := (((((s_o1.trans s_o2).trans s_o3).trans s_o4).trans s_o5).trans s_o6).free n_o7
    have G_o7 := G_o6.new (o := .dK []) n_o7
    refine ⟨by show 16 ≤ sizeLine; decide, fun lL n_lL => ?_⟩
    have s_lL := same_new (o := .lst [.int 0, .int 1, .int (-5), .int (10 ^ 40), .bl true, .non, .str (Str.ofString ""), .str (Str.ofString "ab"), .str (Str.ofString "two words"), .ref o2, .ref o3, .ref o4, .ref o5, .ref o6, .bl false, .ref o7]) n_lL
    have b_lL := G_o7.ne_new n_lL
    have f_lL : H lL = none := ((((((s_o1.trans s_o2).trans s_o3).trans s_o4).trans s_o5).trans s_o6).trans s_o7).free n_lL
    have G_lL := G_o7.new (o := .lst [.int 0, .int 1, .int (-5), .int (10 ^ 40), .bl true, .non, .str (Str.ofString ""), .str (Str.ofString "ab"), .str (Str.ofString "two words"), .ref o2, .ref o3, .ref o4, .ref o5, .ref o6, .bl false, .ref o7]) n_lL
    have ds : DatPs (fun a => H a = none) _ things [.int 0, .int 1, .int (-5), .int (10 ^ 40), .bl true, .non, .str (Str.ofString ""), .str (Str.ofString "ab"), .str (Str.ofString "two words"), .ref o2, .ref o3, .ref o4, .ref o5, .ref o6, .bl false, .ref o7] := (pats_cons (pat_num _) (pats_cons (pat_num _) (pats_cons (pat_num _) (pats_cons (pat_num _) (pats_cons (pat_bool _) (pats_cons pat_none (pats_cons (pat_text _) (pats_cons (pat_text _) (pats_cons (pat_text _) (pats_cons (pat_lst f_o2 (s_lL _ _ (s_o7 _ _ (s_o6 _ _ (s_o5 _ _ (s_o4 _ _ (s_o3 _ _ (upd_same))))))) (pats_cons (pat_num _) (pats_cons (pat_lst f_o1 (s_lL _ _ (s_o7 _ _ (s_o6 _ _ (s_o5 _ _ (s_o4 _ _ (s_o3 _ _ (s_o2 _ _ (upd_same)))))))) (pats_cons (pat_num _) pats_nil)) pats_nil))) (pats_cons (pat_tup f_o3 (s_lL _ _ (s_o7 _ _ (s_o6 _ _ (s_o5 _ _ (s_o4 _ _ (upd_same)))))) (pats_cons (pat_num _) (pats_cons (pat_text _) pats_nil))) (pats_cons (pat_dict f_o4 (s_lL _ _ (s_o7 _ _ (s_o6 _ _ (s_o5 _ _ (upd_same))))) rfl rfl) (pats_cons (pat_lst f_o5 (s_lL _ _ (s_o7 _ _ (s_o6 _ _ (upd_same)))) pats_nil) (pats_cons (pat_tup f_o6 (s_lL _ _ (s_o7 _ _ (upd_same))) pats_nil) (pats_cons (pat_bool _) (pats_cons (pat_dict f_o7 (s_lL _ _ (upd_same)) rfl rfl) pats_nil))))))))))))))))
    refine ⟨.ref lL, rfl, .ref b, rfl, b, c, 16, rfl, G_lL, by decide, by decide, fun u H2 u0 u1 G2 k2 => ?_⟩
    obtain ⟨ob, eb⟩ := G.at_b
    have ds2 : DatPs (fun a => H a = none) H2 things [.int 0, .int 1, .int (-5), .int (10 ^ 40), .bl true, .non, .str (Str.ofString ""), .str (Str.ofString "ab"), .str (Str.ofString "two words"), .ref o2, .ref o3, .ref o4, .ref o5, .ref o6, .bl false, .ref o7] := ds.conv fun a o p e => ⟨p, (k2 a (fun z => by rw [z, eb] at p; cases p)).trans e⟩
    obtain ⟨x, hx, ax⟩ := item_at (xs := [.int 0, .int 1, .int (-5), .int (10 ^ 40), .bl true, .non, .str (Str.ofString ""), .str (Str.ofString "ab"), .str (Str.ofString "two words"), .ref o2, .ref o3, .ref o4, .ref o5, .ref o6, .bl false, .ref o7]) u0 u1
    obtain ⟨d, hd, Dx⟩ := ds2.get hx
    have hr2 : H2 lL = some (.lst [.int 0, .int 1, .int (-5), .int (10 ^ 40), .bl true, .non, .str (Str.ofString ""), .str (Str.ofString "ab"), .str (Str.ofString "two words"), .ref o2, .ref o3, .ref o4, .ref o5, .ref o6, .bl false, .ref o7]) := (k2 lL b_lL).trans upd_same
    exact ⟨lL, _, u, x, rfl, rfl, SqL.of hr2, ax, q x H2 ⟨d, Dx, List.all_eq_true.mp things_all d (List.mem_of_getElem? hd)⟩ G2 ((Kp.of_same (((((((s_o1.trans s_o2).trans s_o3).trans s_o4).trans s_o5).trans s_o6).trans s_o7).trans s_lL)).trans (kp_of k2))⟩
end
end Kk

set_option maxHeartbeats 4000000
namespace Kk
open PySem PySem.Spec PyProof.Rows L2 Lb
abbrev st_L_kinds : Stmt := topS 22
abbrev N_L_kinds : List Str := ["_law_e", "_law_found"]
abbrev P_L_kinds : List Str := ["_law_e"]
theorem sc_L_kinds : FnScope N_L_kinds P_L_kinds (defScope st_L_kinds) := ⟨rfl, rfl, rfl, by decide +kernel, rfl, by decide +kernel, by decide +kernel⟩
abbrev st_L_made : Stmt := topS 23
abbrev N_L_made : List Str := ["_law_some", "_law_found"]
abbrev P_L_made : List Str := ["_law_some"]
theorem sc_L_made : FnScope N_L_made P_L_made (defScope st_L_made) := ⟨rfl, rfl, rfl, by decide +kernel, rfl, by decide +kernel, by decide +kernel⟩
abbrev st_L_kept : Stmt := topS 24
abbrev N_L_kept : List Str := ["_law_made_here", "_law_found"]
abbrev P_L_kept : List Str := ["_law_made_here"]
theorem sc_L_kept : FnScope N_L_kept P_L_kept (defScope st_L_kept) := ⟨rfl, rfl, rfl, by decide +kernel, rfl, by decide +kernel, by decide +kernel⟩
structure BltV (mg : Str → Option Value) : Prop extends Blt mg where
  ValueError_ : mg "ValueError" = none
/-- an error with its field, one without -/
def ErF (C : Addr) (f : Str) (H : Hp) (a : Addr) (v : V) : Prop := ∃ d, H a = some (exo a C (some d)) ∧ H d = some (exd d [(f, v)])
def Er0 (C : Addr) (H : Hp) (a : Addr) : Prop := H a = some (ExO (.ref C) a)
theorem ErF.same {C : Addr} {f : Str} {H H' : Hp} {a : Addr} {v : V} (h : ErF C f H a v) (k : ∀ y φ, H y = some (.ext φ) → H' y = some (.ext φ)) : ErF C f H' a v := by
  obtain ⟨d, h1, h2⟩ := h
  exact ⟨d, k _ _ h1, k _ _ h2⟩
theorem Er0.same {C : Addr} {H H' : Hp} {a : Addr} (h : Er0 C H a) (k : ∀ y φ, H y = some (.ext φ) → H' y = some (.ext φ)) : Er0 C H' a := k _ _ h
theorem ErF.at {C : Addr} {f : Str} {H : Hp} {a : Addr} {v : V} (h : ErF C f H a v) : ErrAt C H a := by
  obtain ⟨d, h1, h2⟩ := h
  exact .inl ⟨d, _, h1, h2⟩
theorem Er0.at {C : Addr} {H : Hp} {a : Addr} (h : Er0 C H a) : ErrAt C H a := .inr h
def Errs (c : Nat → Addr) (H : Hp) (es : List Addr) (vs : List V) : Prop := ∃ (e0 e1 e2 e3 e4 e5 e6 e7 e8 e9 e10 e11 e12 e13 e14 e15 : Addr) (v0 v1 v2 v3 v4 v5 v6 v7 v8 v9 v10 : V), es = [e0, e1, e2, e3, e4, e5, e6, e7, e8, e9, e10, e11, e12, e13, e14, e15] ∧ vs = [v0, v1, v2, v3, v4, v5, v6, v7, v8, v9, v10] ∧ ErF (c 0) "at" H e0 v0 ∧ ErF (c 1) "length" H e1 v1 ∧ ErF (c 2) "name" H e2 v2 ∧ Er0 (c 3) H e3 ∧ ErF (c 4) "most" H e4 v3 ∧ ErF (c 5) "at" H e5 v4 ∧ ErF (c 6) "number" H e6 v5 ∧ ErF (c 7) "at" H e7 v6 ∧ ErF (c 8) "most" H e8 v7 ∧ ErF (c 9) "name" H e9 v8 ∧ ErF (c 10) "beat" H e10 v9 ∧ Er0 (c 11) H e11 ∧ ErF (c 12) "at" H e12 v10 ∧ Er0 (c 13) H e13 ∧ Er0 (c 14) H e14 ∧ Er0 (c 15) H e15
theorem Errs.keep {c : Nat → Addr} {H H' : Hp} {es : List Addr} {vs : List V} (h : Errs c H es vs) (k : ∀ y φ, H y = some (.ext φ) → H' y = some (.ext φ)) : Errs c H' es vs := by
  obtain ⟨e0, e1, e2, e3, e4, e5, e6, e7, e8, e9, e10, e11, e12, e13, e14, e15, v0, v1, v2, v3, v4, v5, v6, v7, v8, v9, v10, rfl, rfl, h0, h1, h2, h3, h4, h5, h6, h7, h8, h9, h10, h11, h12, h13, h14, h15⟩ := h
  exact ⟨_, _, _, _, _, _, _, _, _, _, _, _, _, _, _, _, _, _, _, _, _, _, _, _, _, _, _, rfl, rfl, h0.same k, h1.same k, h2.same k, h3.same k, h4.same k, h5.same k, h6.same k, h7.same k, h8.same k, h9.same k, h10.same k, h11.same k, h12.same k, h13.same k, h14.same k, h15.same k⟩
theorem all16 {p : Nat → Prop} (h0 : p 0) (h1 : p 1) (h2 : p 2) (h3 : p 3) (h4 : p 4) (h5 : p 5) (h6 : p 6) (h7 : p 7) (h8 : p 8) (h9 : p 9) (h10 : p 10) (h11 : p 11) (h12 : p 12) (h13 : p 13) (h14 : p 14) (h15 : p 15) : ∀ i, i < 16 → p i := fun i hi => match i, hi with
  | 0, _ => h0
  | 1, _ => h1
  | 2, _ => h2
  | 3, _ => h3
  | 4, _ => h4
  | 5, _ => h5
  | 6, _ => h6
  | 7, _ => h7
  | 8, _ => h8
  | 9, _ => h9
  | 10, _ => h10
  | 11, _ => h11
  | 12, _ => h12
  | 13, _ => h13
  | 14, _ => h14
  | 15, _ => h15
  | n + 16, h => absurd h (by omega)
theorem Errs.at {c : Nat → Addr} {H : Hp} {es : List Addr} {vs : List V} (h : Errs c H es vs) : ∀ i, i < 16 → ∃ a, es[i]? = some a ∧ ErrAt (c i) H a := by
  obtain ⟨e0, e1, e2, e3, e4, e5, e6, e7, e8, e9, e10, e11, e12, e13, e14, e15, v0, v1, v2, v3, v4, v5, v6, v7, v8, v9, v10, rfl, rfl, h0, h1, h2, h3, h4, h5, h6, h7, h8, h9, h10, h11, h12, h13, h14, h15⟩ := h
  exact all16 ⟨e0, rfl, h0.at⟩ ⟨e1, rfl, h1.at⟩ ⟨e2, rfl, h2.at⟩ ⟨e3, rfl, h3.at⟩ ⟨e4, rfl, h4.at⟩ ⟨e5, rfl, h5.at⟩ ⟨e6, rfl, h6.at⟩ ⟨e7, rfl, h7.at⟩ ⟨e8, rfl, h8.at⟩ ⟨e9, rfl, h9.at⟩ ⟨e10, rfl, h10.at⟩ ⟨e11, rfl, h11.at⟩ ⟨e12, rfl, h12.at⟩ ⟨e13, rfl, h13.at⟩ ⟨e14, rfl, h14.at⟩ ⟨e15, rfl, h15.at⟩
def spKinds (K : PySem.W.Frag) (c : Nat → Addr) : Sp := fun vs H Q _ => ∃ (a C : Addr) (g : Nat → Bool), vs = [.ref a] ∧ ErrAt C H a ∧ ExcC K C ∧ (∀ j, j < 16 → PySem.W.kitOne K (.ref C) (.ref (c j)) = some (g j)) ∧
  ∀ (l : Addr) (H' : Hp), Same H H' → H' l = some (.lst [.bl (g 0), .bl (g 1), .bl (g 2), .bl (g 3), .bl (g 4), .bl (g 5), .bl (g 6), .bl (g 7), .bl (g 8), .bl (g 9), .bl (g 10), .bl (g 11), .bl (g 12), .bl (g 13), .bl (g 14), .bl (g 15)]) → Q (.ref l) H'
def spMade (c : Nat → Addr) : Sp := fun vs H Q _ => ∃ (sa : Addr) (xs : List V), vs = [.ref sa] ∧ xs.length = 11 ∧ H sa = some (.lst xs) ∧
  ∀ (m : Addr) (es : List Addr) (H' : Hp), H m = none → Same H H' → H' m = some (.lst (es.map V.ref)) → Errs c H' es xs → Q (.ref m) H'
def spKept (c : Nat → Addr) : Sp := fun vs H Q _ => ∃ (m : Addr) (es : List Addr) (xs : List V), vs = [.ref m] ∧ H m = some (.lst (es.map V.ref)) ∧ Errs c H es xs ∧
  ∀ (p : Addr) (H' : Hp), Same H H' → H' p = some (.lst xs) → Q (.ref p) H'
section
variable {P : Program} {w : World} {K : PySem.W.Frag} {mg : Str → Option Value} {base : Heap} {SE : Addr} {c : Nat → Addr}
theorem ok_kinds {f : Addr} {fd : FuncData} (F : Fun K "_law_kinds" "_law_kinds" st_L_kinds f fd) (B : Blt mg) (S : Er K mg SE c) : FnOk P w K mg base CX0 1 f fd P_L_kinds (spKinds K c) := by
  have g_Wrong := S.g_Wrong
  have g_TooGreat := S.g_TooGreat
  have g_Twice := S.g_Twice
  have g_NotSo := S.g_NotSo
  have g_TooMany := S.g_TooMany
  have g_NoHall := S.g_NoHall
  have g_NoRow := S.g_NoRow
  have g_NoWay := S.g_NoWay
  have g_Full := S.g_Full
  have g_NoSleeper := S.g_NoSleeper
  have g_NoBeat := S.g_NoBeat
  have g_Nothing := S.g_Nothing
  have g_Stopped := S.g_Stopped
  have g_NoText := S.g_NoText
  have g_NoLine := S.g_NoLine
  have g_NoHouse := S.g_NoHouse
  refine F.ok sc_L_kinds (fun vs H Q E h => ?_) (fun cdv A outer s H vs Q E hr h => ?_)
  · obtain ⟨a, C, g, rfl, _⟩ := h
    rfl
  · obtain ⟨a, C, g, rfl, EA, EC, kt, q⟩ := h
    refine ⟨_, (pss_cons (ps_set (i := 1) sc_L_kinds.nd rfl (Or.inl rfl) (pe_lst (pa_cons (pe_callB call_isV (by rfl) B.isinstance_ (by decide +kernel) (pa_cons (pv 0) (pa_cons (pe_glob (v := V.ref _) (by rfl) g_Wrong rfl) pa_nil))) (pa_cons (pe_callB call_isV (by rfl) B.isinstance_ (by decide +kernel) (pa_cons (pv 0) (pa_cons (pe_glob (v := V.ref _) (by rfl) g_TooGreat rfl) pa_nil))) (pa_cons (pe_callB call_isV (by rfl) B.isinstance_ (by decide +kernel) (pa_cons (pv 0) (pa_cons (pe_glob (v := V.ref _) (by rfl) g_Twice rfl) pa_nil))) (pa_cons (pe_callB call_isV (by rfl) B.isinstance_ (by decide +kernel) (pa_cons (pv 0) (pa_cons (pe_glob (v := V.ref _) (by rfl) g_NotSo rfl) pa_nil))) pa_nil))))))
      (pss_cons (ps_set (i := 1) sc_L_kinds.nd rfl (Or.inl rfl) (pe_op op_cat (pv 1) (pe_lst (pa_cons (pe_callB call_isV (by rfl) B.isinstance_ (by decide +kernel) (pa_cons (pv 0) (pa_cons (pe_glob (v := V.ref _) (by rfl) g_TooMany rfl) pa_nil))) (pa_cons (pe_callB call_isV (by rfl) B.isinstance_ (by decide +kernel) (pa_cons (pv 0) (pa_cons (pe_glob (v := V.ref _) (by rfl) g_NoHall rfl) pa_nil))) (pa_cons (pe_callB call_isV (by rfl) B.isinstance_ (by decide +kernel) (pa_cons (pv 0) (pa_cons (pe_glob (v := V.ref _) (by rfl) g_NoRow rfl) pa_nil))) (pa_cons (pe_callB call_isV (by rfl) B.isinstance_ (by decide +kernel) (pa_cons (pv 0) (pa_cons (pe_glob (v := V.ref _) (by rfl) g_NoWay rfl) pa_nil))) pa_nil)))))))
      (pss_cons (ps_set (i := 1) sc_L_kinds.nd rfl (Or.inl rfl) (pe_op op_cat (pv 1) (pe_lst (pa_cons (pe_callB call_isV (by rfl) B.isinstance_ (by decide +kernel) (pa_cons (pv 0) (pa_cons (pe_glob (v := V.ref _) (by rfl) g_Full rfl) pa_nil))) (pa_cons (pe_callB call_isV (by rfl) B.isinstance_ (by decide +kernel) (pa_cons (pv 0) (pa_cons (pe_glob (v := V.ref _) (by rfl) g_NoSleeper rfl) pa_nil))) (pa_cons (pe_callB call_isV (by rfl) B.isinstance_ (by decide +kernel) (pa_cons (pv 0) (pa_cons (pe_glob (v := V.ref _) (by rfl) g_NoBeat rfl) pa_nil))) (pa_cons (pe_callB call_isV (by rfl) B.isinstance_ (by decide +kernel) (pa_cons (pv 0) (pa_cons (pe_glob (v := V.ref _) (by rfl) g_Nothing rfl) pa_nil))) pa_nil)))))))
      (pss_one (ps_ret (pe_op op_cat (pv 1) (pe_lst (pa_cons (pe_callB call_isV (by rfl) B.isinstance_ (by decide +kernel) (pa_cons (pv 0) (pa_cons (pe_glob (v := V.ref _) (by rfl) g_Stopped rfl) pa_nil))) (pa_cons (pe_callB call_isV (by rfl) B.isinstance_ (by decide +kernel) (pa_cons (pv 0) (pa_cons (pe_glob (v := V.ref _) (by rfl) g_NoText rfl) pa_nil))) (pa_cons (pe_callB call_isV (by rfl) B.isinstance_ (by decide +kernel) (pa_cons (pv 0) (pa_cons (pe_glob (v := V.ref _) (by rfl) g_NoLine rfl) pa_nil))) (pa_cons (pe_callB call_isV (by rfl) B.isinstance_ (by decide +kernel) (pa_cons (pv 0) (pa_cons (pe_glob (v := V.ref _) (by rfl) g_NoHouse rfl) pa_nil))) pa_nil))))))))))), ?_⟩
    refine ⟨.ref a, rfl, a, C, .ref (c 0), _, g 0, rfl, EA, EC, .own _, kt 0 (by decide), .ref a, rfl, a, C, .ref (c 1), _, g 1, rfl, EA, EC, .own _, kt 1 (by decide), .ref a, rfl, a, C, .ref (c 2), _, g 2, rfl, EA, EC, .own _, kt 2 (by decide), .ref a, rfl, a, C, .ref (c 3), _, g 3, rfl, EA, EC, .own _, kt 3 (by decide), by show 4 ≤ sizeLine; decide, fun l1 n1 => ?_⟩
    have s1 := same_new (o := .lst [.bl (g 0), .bl (g 1), .bl (g 2), .bl (g 3)]) n1
    replace EA := EA.same s1
    refine ⟨.ref l1, rfl, .ref a, rfl, a, C, .ref (c 4), _, g 4, rfl, EA, EC, .own _, kt 4 (by decide), .ref a, rfl, a, C, .ref (c 5), _, g 5, rfl, EA, EC, .own _, kt 5 (by decide), .ref a, rfl, a, C, .ref (c 6), _, g 6, rfl, EA, EC, .own _, kt 6 (by decide), .ref a, rfl, a, C, .ref (c 7), _, g 7, rfl, EA, EC, .own _, kt 7 (by decide), by show 4 ≤ sizeLine; decide, fun k2 m2 => ?_⟩
    have r2 := same_new (o := .lst [.bl (g 4), .bl (g 5), .bl (g 6), .bl (g 7)]) m2
    replace EA := EA.same r2
    refine ⟨l1, k2, [.bl (g 0), .bl (g 1), .bl (g 2), .bl (g 3)], [.bl (g 4), .bl (g 5), .bl (g 6), .bl (g 7)], rfl, rfl, r2 _ _ upd_same, upd_same, by show 4 + 4 ≤ sizeLine; decide, fun l2 n2 => ?_⟩
    have s2 := same_new (o := .lst [.bl (g 0), .bl (g 1), .bl (g 2), .bl (g 3), .bl (g 4), .bl (g 5), .bl (g 6), .bl (g 7)]) n2
    replace EA := EA.same s2
    refine ⟨.ref l2, rfl, .ref a, rfl, a, C, .ref (c 8), _, g 8, rfl, EA, EC, .own _, kt 8 (by decide), .ref a, rfl, a, C, .ref (c 9), _, g 9, rfl, EA, EC, .own _, kt 9 (by decide), .ref a, rfl, a, C, .ref (c 10), _, g 10, rfl, EA, EC, .own _, kt 10 (by decide), .ref a, rfl, a, C, .ref (c 11), _, g 11, rfl, EA, EC, .own _, kt 11 (by decide), by show 4 ≤ sizeLine; decide, fun k3 m3 => ?_⟩
    have r3 := same_new (o := .lst [.bl (g 8), .bl (g 9), .bl (g 10), .bl (g 11)]) m3
    replace EA := EA.same r3
    refine ⟨l2, k3, [.bl (g 0), .bl (g 1), .bl (g 2), .bl (g 3), .bl (g 4), .bl (g 5), .bl (g 6), .bl (g 7)], [.bl (g 8), .bl (g 9), .bl (g 10), .bl (g 11)], rfl, rfl, r3 _ _ upd_same, upd_same, by show 8 + 4 ≤ sizeLine; decide, fun l3 n3 => ?_⟩
    have s3 := same_new (o := .lst [.bl (g 0), .bl (g 1), .bl (g 2), .bl (g 3), .bl (g 4), .bl (g 5), .bl (g 6), .bl (g 7), .bl (g 8), .bl (g 9), .bl (g 10), .bl (g 11)]) n3
    replace EA := EA.same s3
    refine ⟨.ref l3, rfl, .ref a, rfl, a, C, .ref (c 12), _, g 12, rfl, EA, EC, .own _, kt 12 (by decide), .ref a, rfl, a, C, .ref (c 13), _, g 13, rfl, EA, EC, .own _, kt 13 (by decide), .ref a, rfl, a, C, .ref (c 14), _, g 14, rfl, EA, EC, .own _, kt 14 (by decide), .ref a, rfl, a, C, .ref (c 15), _, g 15, rfl, EA, EC, .own _, kt 15 (by decide), by show 4 ≤ sizeLine; decide, fun k4 m4 => ?_⟩
    have r4 := same_new (o := .lst [.bl (g 12), .bl (g 13), .bl (g 14), .bl (g 15)]) m4
    replace EA := EA.same r4
    refine ⟨l3, k4, [.bl (g 0), .bl (g 1), .bl (g 2), .bl (g 3), .bl (g 4), .bl (g 5), .bl (g 6), .bl (g 7), .bl (g 8), .bl (g 9), .bl (g 10), .bl (g 11)], [.bl (g 12), .bl (g 13), .bl (g 14), .bl (g 15)], rfl, rfl, r4 _ _ upd_same, upd_same, by show 12 + 4 ≤ sizeLine; decide, fun l4 n4 => ?_⟩
    have s4 := same_new (o := .lst [.bl (g 0), .bl (g 1), .bl (g 2), .bl (g 3), .bl (g 4), .bl (g 5), .bl (g 6), .bl (g 7), .bl (g 8), .bl (g 9), .bl (g 10), .bl (g 11), .bl (g 12), .bl (g 13), .bl (g 14), .bl (g 15)]) n4
    replace EA := EA.same s4
    exact q l4 _ ((((((s1.trans r2).trans s2).trans r3).trans s3).trans r4).trans s4) upd_same
theorem ok_made {f : Addr} {fd : FuncData} (F : Fun K "_law_made" "_law_made" st_L_made f fd) (S : Er K mg SE c) (c_Wrong : XC P w K mg base 1 "Wrong" (c 0) "at") (c_TooGreat : XC P w K mg base 1 "TooGreat" (c 1) "length") (c_Twice : XC P w K mg base 1 "Twice" (c 2) "name") (c_TooMany : XC P w K mg base 1 "TooMany" (c 4) "most") (c_NoHall : XC P w K mg base 1 "NoHall" (c 5) "at") (c_NoRow : XC P w K mg base 1 "NoRow" (c 6) "number") (c_NoWay : XC P w K mg base 1 "NoWay" (c 7) "at") (c_Full : XC P w K mg base 1 "Full" (c 8) "most") (c_NoSleeper : XC P w K mg base 1 "NoSleeper" (c 9) "name") (c_NoBeat : XC P w K mg base 1 "NoBeat" (c 10) "beat") (c_Stopped : XC P w K mg base 1 "Stopped" (c 12) "at") : FnOk P w K mg base CX0 3 f fd P_L_made (spMade c) := by
  have g_Wrong := S.g_Wrong
  have g_TooGreat := S.g_TooGreat
  have g_Twice := S.g_Twice
  have g_NotSo := S.g_NotSo
  have g_TooMany := S.g_TooMany
  have g_NoHall := S.g_NoHall
  have g_NoRow := S.g_NoRow
  have g_NoWay := S.g_NoWay
  have g_Full := S.g_Full
  have g_NoSleeper := S.g_NoSleeper
  have g_NoBeat := S.g_NoBeat
  have g_Nothing := S.g_Nothing
  have g_Stopped := S.g_Stopped
  have g_NoText := S.g_NoText
  have g_NoLine := S.g_NoLine
  have g_NoHouse := S.g_NoHouse
  have q_NotSo := S.q_NotSo
  have k_NotSo := S.k_NotSo
  have q_Nothing := S.q_Nothing
  have k_Nothing := S.k_Nothing
  have q_NoText := S.q_NoText
  have k_NoText := S.k_NoText
  have q_NoLine := S.q_NoLine
  have k_NoLine := S.k_NoLine
  have q_NoHouse := S.q_NoHouse
  have k_NoHouse := S.k_NoHouse
  refine F.ok sc_L_made (fun vs H Q E h => ?_) (fun cdv A outer s H vs Q E hr h => ?_)
  · obtain ⟨sa, xs, rfl, _⟩ := h
    rfl
  · obtain ⟨sa, xs, rfl, hl, hs, q⟩ := h
    refine ⟨_, (pss_cons (ps_set (i := 1) sc_L_made.nd rfl (Or.inl rfl) (pe_lst (pa_cons (pe_mkV c_Wrong hr (by decide) (by rfl) (pa_cons (pe_ix ix_list (pv 0) pe_int (fun _ _ => rfl)) pa_nil)) (pa_cons (pe_mkV c_TooGreat hr (by decide) (by rfl) (pa_cons (pe_ix ix_list (pv 0) pe_int (fun _ _ => rfl)) pa_nil)) (pa_cons (pe_mkV c_Twice hr (by decide) (by rfl) (pa_cons (pe_ix ix_list (pv 0) pe_int (fun _ _ => rfl)) pa_nil)) (pa_cons (pe_exc0 PySem.F.excBase_ValueError q_NotSo g_NotSo k_NotSo (by rfl)) (pa_cons (pe_mkV c_TooMany hr (by decide) (by rfl) (pa_cons (pe_ix ix_list (pv 0) pe_int (fun _ _ => rfl)) pa_nil)) (pa_cons (pe_mkV c_NoHall hr (by decide) (by rfl) (pa_cons (pe_ix ix_list (pv 0) pe_int (fun _ _ => rfl)) pa_nil)) pa_nil))))))))
      (pss_cons (ps_set (i := 1) sc_L_made.nd rfl (Or.inl rfl) (pe_op op_cat (pv 1) (pe_lst (pa_cons (pe_mkV c_NoRow hr (by decide) (by rfl) (pa_cons (pe_ix ix_list (pv 0) pe_int (fun _ _ => rfl)) pa_nil)) (pa_cons (pe_mkV c_NoWay hr (by decide) (by rfl) (pa_cons (pe_ix ix_list (pv 0) pe_int (fun _ _ => rfl)) pa_nil)) (pa_cons (pe_mkV c_Full hr (by decide) (by rfl) (pa_cons (pe_ix ix_list (pv 0) pe_int (fun _ _ => rfl)) pa_nil)) (pa_cons (pe_mkV c_NoSleeper hr (by decide) (by rfl) (pa_cons (pe_ix ix_list (pv 0) pe_int (fun _ _ => rfl)) pa_nil)) (pa_cons (pe_mkV c_NoBeat hr (by decide) (by rfl) (pa_cons (pe_ix ix_list (pv 0) pe_int (fun _ _ => rfl)) pa_nil)) (pa_cons (pe_exc0 PySem.F.excBase_ValueError q_Nothing g_Nothing k_Nothing (by rfl)) pa_nil)))))))))
      (pss_one (ps_ret (pe_op op_cat (pv 1) (pe_lst (pa_cons (pe_mkV c_Stopped hr (by decide) (by rfl) (pa_cons (pe_ix ix_list (pv 0) pe_int (fun _ _ => rfl)) pa_nil)) (pa_cons (pe_exc0 PySem.F.excBase_ValueError q_NoText g_NoText k_NoText (by rfl)) (pa_cons (pe_exc0 PySem.F.excBase_ValueError q_NoLine g_NoLine k_NoLine (by rfl)) (pa_cons (pe_exc0 PySem.F.excBase_ValueError q_NoHouse g_NoHouse k_NoHouse (by rfl)) pa_nil)))))))))), ?_⟩
    obtain ⟨v0, v1, v2, v3, v4, v5, v6, v7, v8, v9, v10, rfl⟩ : ∃ v0 v1 v2 v3 v4 v5 v6 v7 v8 v9 v10, xs = [v0, v1, v2, v3, v4, v5, v6, v7, v8, v9, v10] := by
      match xs, hl with
      | [v0, v1, v2, v3, v4, v5, v6, v7, v8, v9, v10], _ => exact ⟨_, _, _, _, _, _, _, _, _, _, _, rfl⟩
    refine ⟨.ref sa, rfl, sa, _, 0, v0, rfl, rfl, SqL.of hs, rfl, v0, rfl, fun e0 d0 H0 x0 y0 z0 s0 p0 r0 => ?_⟩
    replace hs := s0 _ _ hs
    refine ⟨.ref sa, rfl, sa, _, 1, v1, rfl, rfl, SqL.of hs, rfl, v1, rfl, fun e1 d1 H1 x1 y1 z1 s1 p1 r1 => ?_⟩
    replace hs := s1 _ _ hs
    refine ⟨.ref sa, rfl, sa, _, 2, v2, rfl, rfl, SqL.of hs, rfl, v2, rfl, fun e2 d2 H2 x2 y2 z2 s2 p2 r2 => ?_⟩
    replace hs := s2 _ _ hs
    refine fun e3 x3 => ?_
    have s3 := same_new (o := ExO (.ref (c 3)) e3) x3
    replace hs := s3 _ _ hs
    refine ⟨.ref sa, rfl, sa, _, 3, v3, rfl, rfl, SqL.of hs, rfl, v3, rfl, fun e4 d4 H4 x4 y4 z4 s4 p4 r4 => ?_⟩
    replace hs := s4 _ _ hs
    refine ⟨.ref sa, rfl, sa, _, 4, v4, rfl, rfl, SqL.of hs, rfl, v4, rfl, fun e5 d5 H5 x5 y5 z5 s5 p5 r5 => ?_⟩
    replace hs := s5 _ _ hs
    refine ⟨by show 6 ≤ sizeLine; decide, fun l1 n1 => ?_⟩
    have t1 := same_new (o := .lst [.ref e0, .ref e1, .ref e2, .ref e3, .ref e4, .ref e5]) n1
    replace hs := t1 _ _ hs
    refine ⟨.ref l1, rfl, ?_⟩
    refine ⟨.ref sa, rfl, sa, _, 5, v5, rfl, rfl, SqL.of hs, rfl, v5, rfl, fun e6 d6 H6 x6 y6 z6 s6 p6 r6 => ?_⟩
    replace hs := s6 _ _ hs
    refine ⟨.ref sa, rfl, sa, _, 6, v6, rfl, rfl, SqL.of hs, rfl, v6, rfl, fun e7 d7 H7 x7 y7 z7 s7 p7 r7 => ?_⟩
    replace hs := s7 _ _ hs
    refine ⟨.ref sa, rfl, sa, _, 7, v7, rfl, rfl, SqL.of hs, rfl, v7, rfl, fun e8 d8 H8 x8 y8 z8 s8 p8 r8 => ?_⟩
    replace hs := s8 _ _ hs
    refine ⟨.ref sa, rfl, sa, _, 8, v8, rfl, rfl, SqL.of hs, rfl, v8, rfl, fun e9 d9 H9 x9 y9 z9 s9 p9 r9 => ?_⟩
    replace hs := s9 _ _ hs
    refine ⟨.ref sa, rfl, sa, _, 9, v9, rfl, rfl, SqL.of hs, rfl, v9, rfl, fun e10 d10 H10 x10 y10 z10 s10 p10 r10 => ?_⟩
    replace hs := s10 _ _ hs
    refine fun e11 x11 => ?_
    have s11 := same_new (o := ExO (.ref (c 11)) e11) x11
    replace hs := s11 _ _ hs
    refine ⟨by show 6 ≤ sizeLine; decide, fun k2 m2 => ?_⟩
    have u2 := same_new (o := .lst [.ref e6, .ref e7, .ref e8, .ref e9, .ref e10, .ref e11]) m2
    replace hs := u2 _ _ hs
    refine ⟨l1, k2, [.ref e0, .ref e1, .ref e2, .ref e3, .ref e4, .ref e5], [.ref e6, .ref e7, .ref e8, .ref e9, .ref e10, .ref e11], rfl, rfl, ?_, upd_same, by show 6 + 6 ≤ sizeLine; decide, fun l2 n2 => ?_⟩
    · exact ((((((s6.trans s7).trans s8).trans s9).trans s10).trans s11).trans u2) _ _ upd_same
    have t2 := same_new (o := .lst [.ref e0, .ref e1, .ref e2, .ref e3, .ref e4, .ref e5, .ref e6, .ref e7, .ref e8, .ref e9, .ref e10, .ref e11]) n2
    replace hs := t2 _ _ hs
    refine ⟨.ref l2, rfl, ?_⟩
    refine ⟨.ref sa, rfl, sa, _, 10, v10, rfl, rfl, SqL.of hs, rfl, v10, rfl, fun e12 d12 H12 x12 y12 z12 s12 p12 r12 => ?_⟩
    replace hs := s12 _ _ hs
    refine fun e13 x13 => ?_
    have s13 := same_new (o := ExO (.ref (c 13)) e13) x13
    replace hs := s13 _ _ hs
    refine fun e14 x14 => ?_
    have s14 := same_new (o := ExO (.ref (c 14)) e14) x14
    replace hs := s14 _ _ hs
    refine fun e15 x15 => ?_
    have s15 := same_new (o := ExO (.ref (c 15)) e15) x15
    replace hs := s15 _ _ hs
    refine ⟨by show 4 ≤ sizeLine; decide, fun k3 m3 => ?_⟩
    have u3 := same_new (o := .lst [.ref e12, .ref e13, .ref e14, .ref e15]) m3
    refine ⟨l2, k3, [.ref e0, .ref e1, .ref e2, .ref e3, .ref e4, .ref e5, .ref e6, .ref e7, .ref e8, .ref e9, .ref e10, .ref e11], [.ref e12, .ref e13, .ref e14, .ref e15], rfl, rfl, ?_, upd_same, by show 12 + 4 ≤ sizeLine; decide, fun l3 n3 => ?_⟩
    · exact ((((s12.trans s13).trans s14).trans s15).trans u3) _ _ upd_same
    have t3 := same_new (o := .lst [.ref e0, .ref e1, .ref e2, .ref e3, .ref e4, .ref e5, .ref e6, .ref e7, .ref e8, .ref e9, .ref e10, .ref e11, .ref e12, .ref e13, .ref e14, .ref e15]) n3
    refine q l3 [e0, e1, e2, e3, e4, e5, e6, e7, e8, e9, e10, e11, e12, e13, e14, e15] _ ((((((((((((((((((((s0.trans s1).trans s2).trans s3).trans s4).trans s5).trans t1).trans s6).trans s7).trans s8).trans s9).trans s10).trans s11).trans u2).trans t2).trans s12).trans s13).trans s14).trans s15).trans u3).free n3) ((((((((((((((((((((s0.trans s1).trans s2).trans s3).trans s4).trans s5).trans t1).trans s6).trans s7).trans s8).trans s9).trans s10).trans s11).trans u2).trans t2).trans s12).trans s13).trans s14).trans s15).trans u3).trans t3) upd_same ⟨_, _, _, _, _, _, _, _, _, _, _, _, _, _, _, _, _, _, _, _, _, _, _, _, _, _, _, rfl, rfl, ?_, ?_, ?_, ?_, ?_, ?_, ?_, ?_, ?_, ?_, ?_, ?_, ?_, ?_, ?_, ?_⟩
    · exact ErF.same ⟨d0, p0, r0⟩ fun y φ e => (((((((((((((((((((s1.trans s2).trans s3).trans s4).trans s5).trans t1).trans s6).trans s7).trans s8).trans s9).trans s10).trans s11).trans u2).trans t2).trans s12).trans s13).trans s14).trans s15).trans u3).trans t3) _ _ e
    · exact ErF.same ⟨d1, p1, r1⟩ fun y φ e => ((((((((((((((((((s2.trans s3).trans s4).trans s5).trans t1).trans s6).trans s7).trans s8).trans s9).trans s10).trans s11).trans u2).trans t2).trans s12).trans s13).trans s14).trans s15).trans u3).trans t3) _ _ e
    · exact ErF.same ⟨d2, p2, r2⟩ fun y φ e => (((((((((((((((((s3.trans s4).trans s5).trans t1).trans s6).trans s7).trans s8).trans s9).trans s10).trans s11).trans u2).trans t2).trans s12).trans s13).trans s14).trans s15).trans u3).trans t3) _ _ e
    · exact ((((((((((((((((s4.trans s5).trans t1).trans s6).trans s7).trans s8).trans s9).trans s10).trans s11).trans u2).trans t2).trans s12).trans s13).trans s14).trans s15).trans u3).trans t3) _ _ upd_same
    · exact ErF.same ⟨d4, p4, r4⟩ fun y φ e => (((((((((((((((s5.trans t1).trans s6).trans s7).trans s8).trans s9).trans s10).trans s11).trans u2).trans t2).trans s12).trans s13).trans s14).trans s15).trans u3).trans t3) _ _ e
    · exact ErF.same ⟨d5, p5, r5⟩ fun y φ e => ((((((((((((((t1.trans s6).trans s7).trans s8).trans s9).trans s10).trans s11).trans u2).trans t2).trans s12).trans s13).trans s14).trans s15).trans u3).trans t3) _ _ e
    · exact ErF.same ⟨d6, p6, r6⟩ fun y φ e => ((((((((((((s7.trans s8).trans s9).trans s10).trans s11).trans u2).trans t2).trans s12).trans s13).trans s14).trans s15).trans u3).trans t3) _ _ e
    · exact ErF.same ⟨d7, p7, r7⟩ fun y φ e => (((((((((((s8.trans s9).trans s10).trans s11).trans u2).trans t2).trans s12).trans s13).trans s14).trans s15).trans u3).trans t3) _ _ e
    · exact ErF.same ⟨d8, p8, r8⟩ fun y φ e => ((((((((((s9.trans s10).trans s11).trans u2).trans t2).trans s12).trans s13).trans s14).trans s15).trans u3).trans t3) _ _ e
    · exact ErF.same ⟨d9, p9, r9⟩ fun y φ e => (((((((((s10.trans s11).trans u2).trans t2).trans s12).trans s13).trans s14).trans s15).trans u3).trans t3) _ _ e
    · exact ErF.same ⟨d10, p10, r10⟩ fun y φ e => ((((((((s11.trans u2).trans t2).trans s12).trans s13).trans s14).trans s15).trans u3).trans t3) _ _ e
    · exact (((((((u2.trans t2).trans s12).trans s13).trans s14).trans s15).trans u3).trans t3) _ _ upd_same
    · exact ErF.same ⟨d12, p12, r12⟩ fun y φ e => ((((s13.trans s14).trans s15).trans u3).trans t3) _ _ e
    · exact (((s14.trans s15).trans u3).trans t3) _ _ upd_same
    · exact ((s15.trans u3).trans t3) _ _ upd_same
    · exact (u3.trans t3) _ _ upd_same
theorem ok_kept {f : Addr} {fd : FuncData} (F : Fun K "_law_kept" "_law_kept" st_L_kept f fd) (S : Er K mg SE c) : FnOk P w K mg base CX0 1 f fd P_L_kept (spKept c) := by
  refine F.ok sc_L_kept (fun vs H Q E h => ?_) (fun cdv A outer s H vs Q E hr h => ?_)
  · obtain ⟨m, es, xs, rfl, _⟩ := h
    rfl
  · obtain ⟨m, es, xs, rfl, hm, h, q⟩ := h
    refine ⟨_, (pss_cons (ps_set (i := 1) sc_L_kept.nd rfl (Or.inl rfl) (pe_lst (pa_cons (pe_fV (pe_ix ix_list (pv 0) pe_int (fun _ _ => rfl))) (pa_cons (pe_fV (pe_ix ix_list (pv 0) pe_int (fun _ _ => rfl))) (pa_cons (pe_fV (pe_ix ix_list (pv 0) pe_int (fun _ _ => rfl))) (pa_cons (pe_fV (pe_ix ix_list (pv 0) pe_int (fun _ _ => rfl))) (pa_cons (pe_fV (pe_ix ix_list (pv 0) pe_int (fun _ _ => rfl))) (pa_cons (pe_fV (pe_ix ix_list (pv 0) pe_int (fun _ _ => rfl))) pa_nil))))))))
      (pss_one (ps_ret (pe_op op_cat (pv 1) (pe_lst (pa_cons (pe_fV (pe_ix ix_list (pv 0) pe_int (fun _ _ => rfl))) (pa_cons (pe_fV (pe_ix ix_list (pv 0) pe_int (fun _ _ => rfl))) (pa_cons (pe_fV (pe_ix ix_list (pv 0) pe_int (fun _ _ => rfl))) (pa_cons (pe_fV (pe_ix ix_list (pv 0) pe_int (fun _ _ => rfl))) (pa_cons (pe_fV (pe_ix ix_list (pv 0) pe_int (fun _ _ => rfl))) pa_nil)))))))))), ?_⟩
    obtain ⟨e0, e1, e2, e3, e4, e5, e6, e7, e8, e9, e10, e11, e12, e13, e14, e15, v0, v1, v2, v3, v4, v5, v6, v7, v8, v9, v10, rfl, rfl, h0, h1, h2, h3, h4, h5, h6, h7, h8, h9, h10, h11, h12, h13, h14, h15⟩ := h
    obtain ⟨d0, p0, r0⟩ := h0
    obtain ⟨d1, p1, r1⟩ := h1
    obtain ⟨d2, p2, r2⟩ := h2
    obtain ⟨d4, p4, r4⟩ := h4
    obtain ⟨d5, p5, r5⟩ := h5
    obtain ⟨d6, p6, r6⟩ := h6
    obtain ⟨d7, p7, r7⟩ := h7
    obtain ⟨d8, p8, r8⟩ := h8
    obtain ⟨d9, p9, r9⟩ := h9
    obtain ⟨d10, p10, r10⟩ := h10
    obtain ⟨d12, p12, r12⟩ := h12
    refine ⟨.ref m, rfl, m, _, 0, .ref e0, rfl, rfl, SqL.of hm, rfl, e0, c 0, d0, _, v0, rfl, S.xf (by decide), S.no_Wrong, p0, r0, rfl, .ref m, rfl, m, _, 1, .ref e1, rfl, rfl, SqL.of hm, rfl, e1, c 1, d1, _, v1, rfl, S.xf (by decide), S.no_TooGreat, p1, r1, rfl, .ref m, rfl, m, _, 2, .ref e2, rfl, rfl, SqL.of hm, rfl, e2, c 2, d2, _, v2, rfl, S.xf (by decide), S.no_Twice, p2, r2, rfl, .ref m, rfl, m, _, 4, .ref e4, rfl, rfl, SqL.of hm, rfl, e4, c 4, d4, _, v3, rfl, S.xf (by decide), S.no_TooMany, p4, r4, rfl, .ref m, rfl, m, _, 5, .ref e5, rfl, rfl, SqL.of hm, rfl, e5, c 5, d5, _, v4, rfl, S.xf (by decide), S.no_NoHall, p5, r5, rfl, .ref m, rfl, m, _, 6, .ref e6, rfl, rfl, SqL.of hm, rfl, e6, c 6, d6, _, v5, rfl, S.xf (by decide), S.no_NoRow, p6, r6, rfl, by show 6 ≤ sizeLine; decide, fun l1 n1 => ?_⟩
    have s1 := same_new (o := .lst [v0, v1, v2, v3, v4, v5]) n1
    refine ⟨.ref l1, rfl, .ref m, rfl, m, _, 7, .ref e7, rfl, rfl, SqL.of (s1 _ _ hm), rfl, e7, c 7, d7, _, v6, rfl, S.xf (by decide), S.no_NoWay, (s1 _ _ p7), (s1 _ _ r7), rfl, .ref m, rfl, m, _, 8, .ref e8, rfl, rfl, SqL.of (s1 _ _ hm), rfl, e8, c 8, d8, _, v7, rfl, S.xf (by decide), S.no_Full, (s1 _ _ p8), (s1 _ _ r8), rfl, .ref m, rfl, m, _, 9, .ref e9, rfl, rfl, SqL.of (s1 _ _ hm), rfl, e9, c 9, d9, _, v8, rfl, S.xf (by decide), S.no_NoSleeper, (s1 _ _ p9), (s1 _ _ r9), rfl, .ref m, rfl, m, _, 10, .ref e10, rfl, rfl, SqL.of (s1 _ _ hm), rfl, e10, c 10, d10, _, v9, rfl, S.xf (by decide), S.no_NoBeat, (s1 _ _ p10), (s1 _ _ r10), rfl, .ref m, rfl, m, _, 12, .ref e12, rfl, rfl, SqL.of (s1 _ _ hm), rfl, e12, c 12, d12, _, v10, rfl, S.xf (by decide), S.no_Stopped, (s1 _ _ p12), (s1 _ _ r12), rfl, by show 5 ≤ sizeLine; decide, fun l2 n2 => ?_⟩
    have s2 := same_new (o := .lst [v6, v7, v8, v9, v10]) n2
    exact ⟨l1, l2, [v0, v1, v2, v3, v4, v5], [v6, v7, v8, v9, v10], rfl, rfl, s2 _ _ upd_same, upd_same, by show 6 + 5 ≤ sizeLine; decide, fun p np => q p _ ((s1.trans s2).trans (same_new np)) upd_same⟩
end
end Kk

set_option maxHeartbeats 4000000
namespace Kk
open PySem PySem.Spec PyProof.Rows L2 Lb
abbrev st_L_taken : Stmt := topS 25
abbrev N_L_taken : List Str := ["_law_thing_here", "_law_at", "_law_found"]
abbrev P_L_taken : List Str := ["_law_thing_here", "_law_at"]
theorem sc_L_taken : FnScope N_L_taken P_L_taken (defScope st_L_taken) := ⟨rfl, rfl, rfl, by decide +kernel, rfl, by decide +kernel, by decide +kernel⟩
theorem ix_listK {X : Cx} {K : PySem.W.Frag} (h : X.K = K) : IxR X (rIxL K) := by
  rw [← h]
  exact ix_list
theorem raise_at {C : Addr} {fld : Str} {W : WX} {i : Nat} {v : V} {D : Ends} {σ : L2.St} {H : Hp} (hv : σ[i]? = some (some v)) (q : ∀ d H', Same H H' → H d = none → H' d = some (.xd [(fld, v)]) → W (.ref C) (some d) σ H') :
    tRaiseX C fld W (tCons (tVar i) tNil) D σ H := ⟨v, hv, raise_in (Q := fun cls d H' => W cls d σ H') q⟩
def spTaken : Sp := fun vs H Q _ => ∃ (fp : Addr → Prop) (b : Addr) (v : V) (at_ : Int), vs = [v, .int at_] ∧ Thg fp 13 H v ∧ (∀ a, fp a → a ≠ b) ∧ 0 ≤ at_ ∧ at_ < 4 ∧ ∀ H', Same H H' → Q (.int at_) H'
section
variable {P : Program} {w : World} {K : PySem.W.Frag} {mg : Str → Option Value} {base : Heap} {SE : Addr} {c : Nat → Addr}
theorem ok_taken {f : Addr} {fd : FuncData} (F : Fun K "_law_taken" "_law_taken" st_L_taken f fd) (B : BltV mg) (S : Er K mg SE c) (c_Wrong : XC P w K mg base 1 "Wrong" (c 0) "at") (c_NoHall : XC P w K mg base 1 "NoHall" (c 5) "at") (c_Stopped : XC P w K mg base 1 "Stopped" (c 12) "at") :
    FnOk P w K mg base CX0 3 f fd P_L_taken spTaken := by
  have g_SleepError := S.g_SleepError
  have g_Wrong := S.g_Wrong
  have g_NoHall := S.g_NoHall
  have g_Nothing := S.g_Nothing
  have g_Stopped := S.g_Stopped
  have q_Nothing := S.q_Nothing
  have k_Nothing := S.k_Nothing
  have s_Nothing := S.sub (i := 11) (by decide)
  have t_Nothing := (S.xl 11 (by decide)).ty
  have x_NoHall := S.xf (i := 5) (by decide)
  have x_Wrong := S.xf (i := 0) (by decide)
  have no_NoHall := S.no_NoHall
  have no_Wrong := S.no_Wrong
  refine F.ok sc_L_taken (fun vs H Q E h => ?_) (fun cdv A outer s H vs Q E hr h => ?_)
  · obtain ⟨fp, b, v, at_, rfl, _⟩ := h
    rfl
  · obtain ⟨fp, b, v, at_, rfl, T, nb, h0, h4, q⟩ := h
    have hu := hu64_of hr
    refine ⟨_, (pss_one (ps_try_mix (tb := _) (Wout := fun _ _ _ _ => False) rfl rfl takes0
      (fun W pn xe tk po => by exact (pss_cons (ps_if (pt_cmpR op_eq (pv 1) pe_int (nomark _)) (pss_one (ps_raiseX c_Wrong rfl tk hr (by decide) (by rfl) (pa_cons (pv 0) pa_nil))) pss_nil)
      (pss_cons (ps_if (pt_cmpR op_eq (pv 1) pe_int (nomark _)) (pss_one (ps_raiseX c_NoHall rfl tk hr (by decide) (by rfl) (pa_cons (pv 0) pa_nil))) pss_nil)
      (pss_cons (ps_if (pt_cmpR op_eq (pv 1) pe_int (nomark _)) (pss_one (ps_raise0 PySem.F.excBase_ValueError q_Nothing g_Nothing k_Nothing (raises_own s_Nothing t_Nothing) rfl tk (by rfl))) pss_nil)
      (pss_one (ps_raiseX c_Stopped rfl tk hr (by decide) (by rfl) (pa_cons (pv 0) pa_nil)))))))
      (HdMix.bare ⟨rfl, by decide, Or.inl g_Nothing⟩ (fun a oe cls d pn hz hf => by exact (pss_one (ps_ret pe_int)))
      (HdMix.named (i := 2) sc_L_taken.nd rfl rfl ⟨rfl, by decide, Or.inl g_NoHall⟩ (fun a oe cls d pn hz hf => by exact (pss_one (ps_ret (pe_ix (ix_listK (K := K) rfl) (pe_lst (pa_cons pe_int (pa_cons pe_int pa_nil))) (pe_callTy call_int1 (by rfl) B.int (by decide +kernel) (pa_cons (pe_cmpR (op_eqSelf (b := b) hu) (pe_xf x_NoHall no_NoHall hz hf (pv 2)) (pv 0) (nomark _)) pa_nil)) (fun _ _ => rfl)))))
      (HdMix.named (i := 2) sc_L_taken.nd rfl rfl ⟨rfl, by decide, Or.inl g_Wrong⟩ (fun a oe cls d pn hz hf => by exact (pss_one (ps_ret (pe_ix (ix_listK (K := K) rfl) (pe_lst (pa_cons pe_int (pa_cons pe_int pa_nil))) (pe_callTy call_int1 (by rfl) B.int (by decide +kernel) (pa_cons (pe_cmpR (op_eqSelf (b := b) hu) (pe_xf x_Wrong no_Wrong hz hf (pv 2)) (pv 0) (nomark _)) pa_nil)) (fun _ _ => rfl)))))
      (HdMix.named (i := 2) sc_L_taken.nd rfl rfl ⟨rfl, by decide, Or.inl g_SleepError⟩ (fun a oe cls d pn hz hf => by exact (pss_one (ps_ret (pe_ix (ix_listK (K := K) rfl) (pe_lst (pa_cons pe_int (pa_cons pe_int pa_nil))) (pe_callTy call_int1 (by rfl) B.int (by decide +kernel) (pa_cons (pe_callB (call_isX hz hf) (by rfl) B.isinstance_ (by decide +kernel) (pa_cons (pv 2) (pa_cons (pe_glob (v := V.ref _) (by rfl) g_Stopped rfl) pa_nil))) pa_nil)) (fun _ _ => rfl)))))
      HdMix.nil)))))), ?_⟩
    have cases4 : at_ = 0 ∨ at_ = 1 ∨ at_ = 2 ∨ at_ = 3 := by omega
    rcases cases4 with rfl | rfl | rfl | rfl
    · refine ⟨_, rfl, rfl, _, rfl, iteT (raise_at (v := v) rfl fun d H1 s1 nd hd => ?_)⟩
      refine ⟨false, S.exm (i := 0) (j := 11) (by decide) (by decide), (fun z => nomatch z), fun _ => ⟨false, S.exm (i := 0) (j := 5) (by decide) (by decide), (fun z => nomatch z), fun _ => ⟨true, S.exm (i := 0) (j := 0) (by decide) (by decide), fun _ a na => ?_, fun z => nomatch z⟩⟩⟩
      refine ⟨by show 2 ≤ sizeLine; decide, fun l nl => ?_⟩
      have sl := same_new (o := .lst [.int 9, .int 0]) nl
      refine ⟨.ref a, rfl, rfl, rfl, d, _, _, rfl, sl _ _ hd, rfl, v, rfl, ((T.same s1).same sl).self nb ?_⟩
      exact .inr ⟨true, rfl, l, _, 1, .int 0, rfl, rfl, SqL.of upd_same, rfl, q _ (s1.trans sl)⟩
    · refine ⟨_, rfl, rfl, _, rfl, iteF ?_⟩
      refine ⟨_, rfl, rfl, _, rfl, iteT (raise_at (v := v) rfl fun d H1 s1 nd hd => ?_)⟩
      refine ⟨false, S.exm (i := 5) (j := 11) (by decide) (by decide), (fun z => nomatch z), fun _ => ⟨true, S.exm (i := 5) (j := 5) (by decide) (by decide), fun _ a na => ?_, fun z => nomatch z⟩⟩
      refine ⟨by show 2 ≤ sizeLine; decide, fun l nl => ?_⟩
      have sl := same_new (o := .lst [.int 9, .int 1]) nl
      refine ⟨.ref a, rfl, rfl, rfl, d, _, _, rfl, sl _ _ hd, rfl, v, rfl, ((T.same s1).same sl).self nb ?_⟩
      exact .inr ⟨true, rfl, l, _, 1, .int 1, rfl, rfl, SqL.of upd_same, rfl, q _ (s1.trans sl)⟩
    · refine ⟨_, rfl, rfl, _, rfl, iteF ?_⟩
      refine ⟨_, rfl, rfl, _, rfl, iteF ?_⟩
      refine ⟨_, rfl, rfl, _, rfl, iteT ?_⟩
      exact ⟨true, S.exm (i := 11) (j := 11) (by decide) (by decide), fun _ a na => q _ (Same.refl _), fun z => nomatch z⟩
    · refine ⟨_, rfl, rfl, _, rfl, iteF ?_⟩
      refine ⟨_, rfl, rfl, _, rfl, iteF ?_⟩
      refine ⟨_, rfl, rfl, _, rfl, iteF (raise_at (v := v) (D := ⟨fun _ _ => True, fun _ _ => True, fun _ _ => True, fun _ _ => True⟩) rfl fun d H1 s1 nd hd => ?_)⟩
      refine ⟨false, S.exm (i := 12) (j := 11) (by decide) (by decide), (fun z => nomatch z), fun _ => ⟨false, S.exm (i := 12) (j := 5) (by decide) (by decide), (fun z => nomatch z), fun _ => ⟨false, S.exm (i := 12) (j := 0) (by decide) (by decide), (fun z => nomatch z), fun _ =>
        ⟨true, S.exS (i := 12) (by decide), fun _ a na => ?_, fun z => nomatch z⟩⟩⟩⟩
      refine ⟨by show 2 ≤ sizeLine; decide, fun l nl => ?_⟩
      have sl := same_new (o := .lst [.int 9, .int 3]) nl
      refine ⟨.ref a, rfl, c 12, d, _, .ref (c 12), _, true, rfl, rfl, sl _ _ hd, S.ec 12 (by decide), rfl, .own _, S.kit (i := 12) (j := 12) (by decide) (by decide), ?_⟩
      exact .inr ⟨true, rfl, l, _, 1, .int 3, rfl, rfl, SqL.of upd_same, rfl, q _ (s1.trans sl)⟩
end
end Kk

set_option maxHeartbeats 4000000
namespace Kk
open PySem PySem.Spec PyProof.Rows L2 Lb
abbrev st_law : Stmt := topS 26
abbrev N_law : List Str := ["_law_script", "_law_bag_here", "_law_k", "_law_some", "_law_made_here", "_law_at", "_law_one", "_law_plain_one", "_law_j"]
abbrev P_law : List Str := ["_law_script"]
theorem sc_law : FnScope N_law P_law (defScope st_law) := ⟨rfl, rfl, rfl, by decide +kernel, rfl, by decide +kernel, by decide +kernel⟩
theorem cmpT {a : Str} {p q : Prop} (h : q) : if (!decide (V.str a = V.str a)) = true then p else q := by
  rw [decide_eq_true rfl]
  exact iteF h
theorem cmpI {a : Int} {p q : Prop} (h : q) : if (!decide (V.int a = V.int a)) = true then p else q := by
  rw [decide_eq_true rfl]
  exact iteF h
def spLaw (K : PySem.W.Frag) : Sp := fun vs H Q _ => ∃ (a : Addr) (ns : List Int), vs = [.ref a] ∧ SqL K H a (ns.map V.int) ∧ ns.length ≤ 63 ∧ ∀ H', Q (.bl true) H'
section
variable {P : Program} {w : World} {K : PySem.W.Frag} {mg : Str → Option Value} {base : Heap} {SE : Addr} {c : Nat → Addr}
theorem ok_law {f : Addr} {fd : FuncData} (F : Fun K "law" "law" st_law f fd) (B : BltV mg) (S : Er K mg SE c) (c_L_bag : Cal P w K mg base 1 "_law_bag" (spBag K)) (c_L_take : Cal P w K mg base 1 "_law_take" spTake) (c_L_thing : Cal P w K mg base 2 "_law_thing" spThing)
    (c_L_made : Cal P w K mg base 3 "_law_made" (spMade c)) (c_L_kinds : Cal P w K mg base 1 "_law_kinds" (spKinds K c)) (c_L_kept : Cal P w K mg base 1 "_law_kept" (spKept c)) (c_L_taken : Cal P w K mg base 3 "_law_taken" spTaken) :
    FnG P w K mg base 4 f fd P_law (spLaw K) := by
  have g_SleepError := S.g_SleepError
  have q_SleepError := S.q_SleepError
  have k_SleepError := S.k_SleepError
  refine fnG_of F sc_law (fun vs H Q E h => ?_) (fun cdv A outer s H vs Q E noG hr h => ?_)
  · obtain ⟨a, ns, rfl, _⟩ := h
    rfl
  · obtain ⟨a, ns0, rfl, hS, nl, q⟩ := h
    refine ⟨_, (pss_cons (ps_set (i := 1) sc_law.nd rfl (Or.inr rfl) (pe_n c_L_bag hr (by decide) (by rfl) (pa_cons (pv 0) pa_nil)))
      (pss_cons (ps_for PassesOwn.never rfl (pi_range1 (by rfl) B.range_ (pa_cons pe_int pa_nil)) (pg_name (i := 2) sc_law.nd rfl (Or.inl rfl)) (pss_cons (ps_setLc (i := 3) (own := [("_law_j", 8)]) (g := gName 8) (tt := tYes) rfl sc_law.nd rfl rfl (sw_true rfl rfl rfl (by decide +kernel)) (pi_range1 (by rfl) B.range_ (pa_cons pe_int pa_nil)) (blkOk_by (N := N_law) (sc := defScope st_law) (by decide +kernel)) (fun _ _ _ _ _ => pg_name (i := 8) sc_law.nd rfl (Or.inl rfl)) (fun _ _ _ _ _ => pts_nil) (fun _ _ _ _ _ => (pe_n c_L_thing hr (by decide) (by rfl) (pa_cons (pv 1) pa_nil))))
      (pss_cons (ps_set (i := 4) sc_law.nd rfl (Or.inl rfl) (pe_n c_L_made hr (by decide) (by rfl) (pa_cons (pv 3) pa_nil)))
      (pss_cons (ps_for PassesOwn.never rfl (pi_range1 (by rfl) B.range_ (pa_cons pe_int pa_nil)) (pg_name (i := 5) sc_law.nd rfl (Or.inr rfl)) (pss_cons (ps_if (PW.pt (pw_or (pt_not (pt_val (pe_callB call_isV (by rfl) B.isinstance_ (by decide +kernel) (pa_cons (pe_ix ix_list (pv 4) (pv 5) (fun _ _ => rfl)) (pa_cons (pe_glob (v := V.ref _) (by rfl) g_SleepError rfl) pa_nil))))) (pw_or1 (pt_not (pt_val (pe_callB call_isV (by rfl) B.isinstance_ (by decide +kernel) (pa_cons (pe_ix ix_list (pv 4) (pv 5) (fun _ _ => rfl)) (pa_cons (pe_bltn (v := .ty "ValueError") (by rfl) B.ValueError_ (by decide +kernel) rfl) pa_nil)))))))) (pss_one (ps_ret pe_bl)) pss_nil)
      (pss_one (ps_if (pt_cmpR (op_neD (hu64_of hr)) (pe_n c_L_kinds hr (by decide) (by rfl) (pa_cons (pe_ix ix_list (pv 4) (pv 5) (fun _ _ => rfl)) pa_nil)) (pe_lc (own := [("_law_j", 8)]) (g := gName 8) (tt := tYes) rfl sc_law.nd (pi_range1 (by rfl) B.range_ (pa_cons pe_int pa_nil)) (blkOk_by (N := N_law) (sc := defScope st_law) (by decide +kernel)) (fun _ _ _ _ _ => pg_name (i := 8) sc_law.nd rfl (Or.inl rfl)) (fun _ _ _ _ _ => pts_nil) (fun _ _ _ _ _ => (pe_cmpR op_eq (pv 8) (pv 5) (nomark _)))) (nomark _)) (pss_one (ps_ret pe_bl)) pss_nil))))
      (pss_cons (ps_for PassesOwn.never rfl (pi_list (pv 3)) (pg_name (i := 6) sc_law.nd rfl (Or.inl rfl)) (pss_one (ps_if (pt_val (pe_callB call_isi (by rfl) B.isinstance_ (by decide +kernel) (pa_cons (pv 6) (pa_cons (pe_bltn (v := .ty "list") (by rfl) B.list_ (by decide +kernel) rfl) pa_nil)))) (pss_one (ps_expr (pe_bm PySem.F.plainAttrs_list PySem.F.slot_list_append PySem.F.type_list_append mt_append (pv 6) (pa_cons pe_str pa_nil)))) pss_nil)))
      (pss_cons (ps_if (pt_cmpR op_ne (pe_callB (call_repr noG hr) (by rfl) B.repr_ (by decide +kernel) (pa_cons (pe_n c_L_kept hr (by decide) (by rfl) (pa_cons (pv 4) pa_nil)) pa_nil)) (pe_callB (call_repr noG hr) (by rfl) B.repr_ (by decide +kernel) (pa_cons (pv 3) pa_nil)) (nomark _)) (pss_one (ps_ret pe_bl)) pss_nil)
      (pss_cons (ps_set (i := 5) sc_law.nd rfl (Or.inr rfl) (pe_n c_L_take hr (by decide) (by rfl) (pa_cons (pv 1) (pa_cons pe_int pa_nil))))
      (pss_one (ps_if (pt_cmpR op_ne (pe_n c_L_taken hr (by decide) (by rfl) (pa_cons (pe_ix ix_list (pv 3) (pe_n c_L_take hr (by decide) (by rfl) (pa_cons (pv 1) (pa_cons pe_int pa_nil))) (fun _ _ => rfl)) (pa_cons (pv 5) pa_nil))) (pv 5) (nomark _)) (pss_one (ps_ret pe_bl)) pss_nil)))))))))
      (pss_cons (ps_set (i := 7) sc_law.nd rfl (Or.inl rfl) (pe_exc1 PySem.F.excBase_ValueError q_SleepError g_SleepError k_SleepError (by rfl) (pa_cons pe_str pa_nil)))
      (pss_one (ps_ret (pe_and (pe_callB call_isV (by rfl) B.isinstance_ (by decide +kernel) (pa_cons (pv 7) (pa_cons (pe_bltn (v := .ty "ValueError") (by rfl) B.ValueError_ (by decide +kernel) rfl) pa_nil))) (pe_one (pe_cmpR op_notIn_seq pe_bl (pe_n c_L_kinds hr (by decide) (by rfl) (pa_cons (pv 7) pa_nil)) rfl)))))))), ?_⟩
    refine ⟨.ref a, rfl, a, ns0, rfl, hS, nl, fun b c0 H1 _ _ _ G1 => ?_⟩
    refine ⟨3, rfl, by decide, by decide, for_range (n := 3) (fun i σ H' => ∃ (x2 x3 x4 x5 x6 x7 x8 : Option V), σ = [some (.ref a), some (.ref b), x2, x3, x4, x5, x6, x7, x8] ∧ Bag H' b c0) ⟨none, none, none, none, none, none, none, rfl, G1⟩ ?_ ?_⟩
    · rintro i σ H2 hi ⟨x2, x3, x4, x5, x6, x7, x8, rfl, G2⟩
      refine ⟨11, rfl, by decide, by decide, fun D hD => lc_range (lo := 0) (n := 11) (fun j H' => ∃ vs : List V, vs.length = j ∧ H' D = some (.lst vs) ∧ Bag H' b c0 ∧ ∀ v ∈ vs, Thg (fun y => y ≠ b ∧ y ≠ c0 ∧ y ≠ D) 2 H' v) ⟨[], rfl, upd_same, G2.new hD, fun _ z => nomatch z⟩ ?_ ?_⟩
      · rintro j H' hj ⟨vs, lv, hv, Gj, th⟩
        have Db := G2.ne_new hD
        have Dc := G2.nc_new hD
        refine ⟨rfl, .ref b, rfl, b, c0, rfl, Gj, fun v H3 tv G3 k3 => ⟨vs, k3 _ _ Db hv, sz_lo (by omega), vs ++ [v], ?_, upd_same, G3.other Db Dc, fun x hx => ?_⟩⟩
        · rw [List.length_append, lv]
          rfl
        · rcases List.mem_append.mp hx with hx | hx
          · exact (th x hx).conv fun y o p e => ⟨p, by rw [upd_ne p.2.2]; exact k3 _ _ p.1 e⟩
          · obtain rfl := List.mem_singleton.mp hx
            refine tv.conv fun y o p e => ?_
            have yD : y ≠ D := (ne_of_none hv p).symm
            exact ⟨⟨Gj.ne_new p, Gj.nc_new p, yD⟩, by rw [upd_ne yD]; exact e⟩
      · rintro H3 ⟨vs, lv, hv, G3, th⟩
        have Db := G2.ne_new hD
        refine ⟨.ref D, rfl, D, vs, rfl, lv, hv, fun m es H4 nm s4 hm er => ?_⟩
        refine ⟨16, rfl, by decide, by decide, for_range (n := 16) (fun j σ' H' => ∃ (y5 : Option V), σ' = [some (.ref a), some (.ref b), some (.int (0 + (i : Int))), some (.ref D), some (.ref m), y5, x6, x7, x8] ∧ Same H4 H') ⟨x5, rfl, Same.refl _⟩ ?_ ?_⟩
        · rintro j σ' H5 hj ⟨y5, rfl, s5⟩
          obtain ⟨e, he, ea⟩ := er.at j hj
          have ea5 := ea.same s5
          have hm5 := s5 _ _ hm
          have at5 : atI (es.map V.ref) (0 + (j : Int)) = some (.ref e) := atI_int (by omega) (by
            have z : (0 + (j : Int)).toNat = j := by omega
            rw [z, List.getElem?_map, he]
            rfl)
          refine ⟨.ref m, rfl, _, rfl, m, _, _, .ref e, rfl, rfl, SqL.of hm5, at5, e, c j, .ref SE, _, true, rfl, ea5, S.ec j hj, .own _, S.kS hj, _, rfl, iteF ?_⟩
          refine ⟨.ref m, rfl, _, rfl, m, _, _, .ref e, rfl, rfl, SqL.of hm5, at5, e, c j, .ty "ValueError", _, true, rfl, ea5, S.ec j hj, .ty _, S.kV hj, _, rfl, iteF ?_⟩
          refine ⟨.ref m, rfl, _, rfl, m, _, _, .ref e, rfl, rfl, SqL.of hm5, at5, e, c j, fun t => decide (j = t), rfl, ea5, S.ec j hj, fun t ht => S.kit hj ht, fun l H6 s6 hl => ?_⟩
          refine ⟨16, rfl, by decide, by decide, fun R hR => lc_range (lo := 0) (n := 16) (fun t H' => Lb.Mk H6 R ((List.range t).map fun u => V.bl (decide (j = u))) H') (Lb.Mk.start hR) ?_ ?_⟩
          · intro t H' ht M
            have ee : V.bl (decide (V.int (0 + (t : Int)) = V.int (0 + (j : Int)))) = V.bl (decide (j = t)) := by
              congr 1
              exact decide_eq_decide.mpr ⟨fun z => by injection z with z; omega, fun z => by rw [z]⟩
            refine ⟨rfl, _, rfl, _, rfl, rfl, _, M.at_, ?_, ?_⟩
            · rw [List.length_map, List.length_range]
              exact sz_lo (by omega)
            · show Lb.Mk H6 R _ (upd H' R (.lst (_ ++ [V.bl (decide (V.int (0 + (t : Int)) = V.int (0 + (j : Int))))])))
              rw [ee, List.range_succ, List.map_append]
              exact M.next (Same.refl _)
          · intro H' M
            have hl' : H' l = some (.lst (((List.range 16).map fun u => decide (j = u)).map V.bl)) := M.same _ _ hl
            have hR' : H' R = some (.lst (((List.range 16).map fun u => decide (j = u)).map V.bl)) := by
              rw [List.map_map]
              exact M.at_
            refine ⟨.list (((List.range 16).map fun u => decide (j = u)).map PyData.bool), .list (((List.range 16).map fun u => decide (j = u)).map PyData.bool), .lst (SqL.of hl') (dp_bools _), .lst (SqL.of hR') (dp_bools _), shaped_bools _, shaped_bools _, _, rfl, ?_⟩
            have eq : PyData.eqv (.list (((List.range 16).map fun u => decide (j = u)).map PyData.bool)) (.list (((List.range 16).map fun u => decide (j = u)).map PyData.bool)) = true := by
              rw [PyData.eqv]
              exact eqv_bools _
            rw [eq]
            exact iteF ⟨_, rfl, (s5.trans s6).trans M.same⟩
        · rintro σ' H5 ⟨y5, rfl, s5⟩
          have s35 := s4.trans s5
          have th5 : ∀ v ∈ vs, Thg (fun y => y ≠ b ∧ y ≠ c0 ∧ y ≠ D ∧ y ≠ m) (2 + 0) H5 v := fun v hx => (th v hx).conv fun y o p e => ⟨⟨p.1, p.2.1, p.2.2, ne_of_none e nm⟩, s35 _ _ e⟩
          have hv5 := s35 _ _ hv
          refine ⟨.ref D, rfl, D, rfl, ⟨_, SqL.of hv5⟩, for_list (K := K) (a := D) (xs := vs) (fun j σ' H' => ∃ (y6 : Option V), σ' = [some (.ref a), some (.ref b), some (.int (0 + (i : Int))), some (.ref D), some (.ref m), y5, y6, x7, x8] ∧ Bag H' b c0 ∧ H' D = some (.lst vs) ∧ H' m = some (.lst (es.map V.ref)) ∧ Errs c H' es vs ∧ ∀ v ∈ vs, Thg (fun y => y ≠ b ∧ y ≠ c0 ∧ y ≠ D ∧ y ≠ m) (2 + j) H' v)
            ⟨x6, rfl, G3.same s35, hv5, s5 _ _ hm, er.keep fun y φ e => s5 _ _ e, th5⟩ (fun j σ' H' _ p => by obtain ⟨_, _, _, h, _⟩ := p; exact SqL.of h) ?_ ?_⟩
          · rintro j v σ' H6 hj ⟨y6, rfl, G6, hD6, hm6, er6, th6⟩
            have jl : j < 11 := by
              rw [← lv]
              exact (List.getElem?_eq_some_iff.mp hj).1
            obtain ⟨d, Dv, fd⟩ := th6 v (List.mem_of_getElem? hj)
            have Dv2 := Dv.dat (b := b) fun y p => p.1
            refine ⟨v, rfl, v, .ty "list", _, _, _, rfl, .ty _, ty_of Dv2, kit_list d, _, rfl, ?_⟩
            cases d with
            | list ds =>
              simp only [DatP] at Dv
              obtain ⟨a1, xs, rfl, np, ha, R⟩ := Dv
              have len := (R.dat (b := b) fun y p => p.1).length
              have fl : ds.length ≤ 2 + j := by
                rcases Bool.or_eq_true_iff.mp fd with f | f
                · simp only [fit, Bool.and_eq_true, decide_eq_true_eq] at f
                  exact f.1
                · cases f
              refine iteT ⟨.ref a1, rfl, .inl ⟨rfl, _, SqL.of ha⟩, a1, _, .str (Str.ofString "more"), rfl, rfl, ha, sz_lo (by omega), ?_⟩
              refine ⟨_, rfl, G6.other np.1 np.2.1, by rw [upd_ne np.2.2.1.symm]; exact hD6, by rw [upd_ne np.2.2.2.symm]; exact hm6, er6.keep fun y φ e => ?_, fun x hx => (th6 x hx).grow ha (by decide +kernel)⟩
              rw [upd_ne (fun z => by rw [z, ha] at e; cases e)]
              exact e
            | _ => exact iteF ⟨_, rfl, G6, hD6, hm6, er6, fun x hx => (th6 x hx).more⟩
          · rintro σ' H6 ⟨y6, rfl, G6, hD6, hm6, er6, th6⟩
            refine ⟨.ref m, rfl, m, es, vs, rfl, hm6, er6, fun p H7 s7 hp => ?_⟩
            have th7 : ∀ v ∈ vs, Thg (fun y => y ≠ b ∧ y ≠ c0 ∧ y ≠ D ∧ y ≠ m) 13 H7 v := fun v hx => ((th6 v hx).up (by rw [lv]; decide)).same s7
            obtain ⟨ds, R, fs⟩ := thgs_dats th7
            have hD7 := s7 _ _ hD6
            have R2 := R.dat (b := b) fun y p => p.1
            have len := R2.length
            have G7 := G6.same s7
            have pb : p ≠ b := fun z => by
              obtain ⟨n, st, q, l, e, _⟩ := G7.ex
              rw [z, e] at hp
              cases hp
              cases lv
            have Dp : Dat b H7 (.list ds) (.ref p) := by
              simp only [Dat]
              exact ⟨p, vs, rfl, pb, hp, R2⟩
            have DD : Dat b H7 (.list ds) (.ref D) := by
              simp only [Dat]
              exact ⟨D, vs, rfl, Db, hD7, R2⟩
            have sh : Shows (.list ds) := shows_list (fun d hd => part_fit (fs d hd)) (by omega)
            refine ⟨b, _, _, rfl, Dp, sh, .ref D, rfl, b, _, _, rfl, DD, sh, rfl, _, rfl, cmpT ?_⟩
            refine ⟨.ref b, rfl, b, c0, 4, rfl, G7, by decide, by decide, fun u H8 u0 u1 G8 k8 => ?_⟩
            refine ⟨.ref D, rfl, .ref b, rfl, b, c0, 11, rfl, G8, by decide, by decide, fun t H9 t0 t1 G9 k9 => ?_⟩
            obtain ⟨x, hx, ax⟩ := item_at (xs := vs) t0 (by rw [lv]; exact t1)
            have th9 : Thg (fun y => y ≠ b ∧ y ≠ c0 ∧ y ≠ D ∧ y ≠ m) 13 H9 x := (th7 x (List.mem_of_getElem? hx)).conv fun y o q e => ⟨q, by rw [k9 y q.1, k8 y q.1]; exact e⟩
            have hD9 : H9 D = some (.lst vs) := by
              rw [k9 D Db, k8 D Db]
              exact hD7
            refine ⟨D, _, t, x, rfl, rfl, SqL.of hD9, ax, .int u, rfl, _, b, x, u, rfl, th9, fun y q => q.1, u0, u1, fun H10 s10 => ?_⟩
            refine ⟨.int u, rfl, rfl, _, rfl, cmpI ?_⟩
            exact ⟨_, _, _, _, _, _, _, rfl, G9.same s10⟩
    · rintro σ H2 ⟨x2, x3, x4, x5, x6, x7, x8, rfl, G2⟩
      refine ⟨_, rfl, fun e ne => ?_⟩
      refine ⟨.ref e, rfl, e, SE, .ty "ValueError", _, true, rfl, .inr upd_same, S.eS, .ty _, S.kSV, _, rfl, iteT ?_⟩
      refine ⟨.ref e, rfl, e, SE, fun _ => false, rfl, .inr upd_same, S.eS, fun t ht => S.kSn ht, fun l H3 s3 hl => ?_⟩
      exact ⟨l, _, rfl, .inl (SqL.of hl), rfl, rfl, q _⟩
end
end Kk

set_option maxHeartbeats 4000000
namespace Kk
open PySem PySem.Spec PyProof.Rows L2 Lb
theorem nd_of {l : List Addr} (h : l.Nodup) (e : l.length = 16 := by rfl) : ∀ i j, i < 16 → j < 16 → l.getD i 0 = l.getD j 0 → i = j := by
  intro i j hi hj q
  rw [← e] at hi hj
  have p := List.pairwise_iff_getElem.mp h
  rw [List.getD_eq_getElem?_getD, List.getD_eq_getElem?_getD, List.getElem?_eq_getElem hi, List.getElem?_eq_getElem hj] at q
  rcases Nat.lt_trichotomy i j with z | z | z
  · exact absurd q (p i j hi hj z)
  · exact z
  · exact absurd q.symm (p j i hj hi z)
theorem nS_of {l : List Addr} {S : Addr} (h : S ∉ l) (e : l.length = 16 := by rfl) : ∀ i, i < 16 → l.getD i 0 ≠ S := by
  intro i hi q
  rw [← e] at hi
  rw [List.getD_eq_getElem?_getD, List.getElem?_eq_getElem hi] at q
  exact h (q ▸ List.getElem_mem hi)
section
variable {K : PySem.W.Frag} {C SE : Addr} {bm : List Value}
theorem exc_of (x : XL K C bm) (h1 : (Value.ref C :: bm).contains (.type "BaseException") = true) (h2 : (Value.ref C :: bm).contains (.type "object") = true) (ga : PySem.W.findIn K (.ref C) "__getattribute__" = some (some (.builtin "BaseException.__getattribute__"))) (gg : PySem.W.findIn K (.ref C) "__getattr__" = some none)
    (ca : PySem.W.findIn K (.ref C) "__class__" = some (some (.builtin "object.__class__"))) (hn : PySem.W.specialIn K (.builtin "object.__class__") "__get__" = some (some (.builtin "getset_descriptor.__get__"))) (ht : PySem.W.takesIn K (.builtin "object.__class__") = some true) : ExcC K C :=
  ⟨ga, gg, by rw [x.sub, h1], x.hd, ca, hn, ht, by rw [x.mro, h2]⟩
theorem oex_of (x : XL K C (.ref SE :: veT)) (sa : PySem.W.findIn K (.ref C) "__setattr__" = some (some (.builtin "object.__setattr__"))) (kC : PySem.W.keepIn K (.ref C) = true) : OexC K C := by
  have x0 := x
  obtain ⟨nm, q, N, bs, sn, sub, ab, col, dd, k0, k1, k2, k3, k5, L⟩ := x.ex
  exact ⟨⟨nm, q, N, bs, _, sn, sub, ab, col, dd, k0, k1, k2, k3, k5, L, refs_se⟩, sa, by rw [x0.sub]; simp [veT], x0.ty, kC⟩
end
structure Top (K : PySem.W.Frag) (mg : Str → Option Value) (SE : Addr) (c : Nat → Addr) : Prop where
  B : BltV mg
  d_L_take : DefIn K mg "_law_take" st_L_take
  d_L_bag : DefIn K mg "_law_bag" st_L_bag
  d_L_thing : DefIn K mg "_law_thing" st_L_thing
  d_L_kinds : DefIn K mg "_law_kinds" st_L_kinds
  d_L_made : DefIn K mg "_law_made" st_L_made
  d_L_kept : DefIn K mg "_law_kept" st_L_kept
  d_L_taken : DefIn K mg "_law_taken" st_L_taken
  d_law : DefIn K mg "law" st_law
  er : Er K mg SE c
  i_Wrong : OexC K (c 0) ∧ ∃ (f : Addr) (fd : FuncData), Fun K "__init__" "Wrong.__init__" st_Wrong_init f fd ∧ PySem.W.findIn K (.ref (c 0)) "__init__" = some (some (.ref f)) ∧ PySem.W.typeIn K (.ref f) = some (.type "function")
  i_TooGreat : OexC K (c 1) ∧ ∃ (f : Addr) (fd : FuncData), Fun K "__init__" "TooGreat.__init__" st_TooGreat_init f fd ∧ PySem.W.findIn K (.ref (c 1)) "__init__" = some (some (.ref f)) ∧ PySem.W.typeIn K (.ref f) = some (.type "function")
  i_Twice : OexC K (c 2) ∧ ∃ (f : Addr) (fd : FuncData), Fun K "__init__" "Twice.__init__" st_Twice_init f fd ∧ PySem.W.findIn K (.ref (c 2)) "__init__" = some (some (.ref f)) ∧ PySem.W.typeIn K (.ref f) = some (.type "function")
  i_TooMany : OexC K (c 4) ∧ ∃ (f : Addr) (fd : FuncData), Fun K "__init__" "TooMany.__init__" st_TooMany_init f fd ∧ PySem.W.findIn K (.ref (c 4)) "__init__" = some (some (.ref f)) ∧ PySem.W.typeIn K (.ref f) = some (.type "function")
  i_NoHall : OexC K (c 5) ∧ ∃ (f : Addr) (fd : FuncData), Fun K "__init__" "NoHall.__init__" st_NoHall_init f fd ∧ PySem.W.findIn K (.ref (c 5)) "__init__" = some (some (.ref f)) ∧ PySem.W.typeIn K (.ref f) = some (.type "function")
  i_NoRow : OexC K (c 6) ∧ ∃ (f : Addr) (fd : FuncData), Fun K "__init__" "NoRow.__init__" st_NoRow_init f fd ∧ PySem.W.findIn K (.ref (c 6)) "__init__" = some (some (.ref f)) ∧ PySem.W.typeIn K (.ref f) = some (.type "function")
  i_NoWay : OexC K (c 7) ∧ ∃ (f : Addr) (fd : FuncData), Fun K "__init__" "NoWay.__init__" st_NoWay_init f fd ∧ PySem.W.findIn K (.ref (c 7)) "__init__" = some (some (.ref f)) ∧ PySem.W.typeIn K (.ref f) = some (.type "function")
  i_Full : OexC K (c 8) ∧ ∃ (f : Addr) (fd : FuncData), Fun K "__init__" "Full.__init__" st_Full_init f fd ∧ PySem.W.findIn K (.ref (c 8)) "__init__" = some (some (.ref f)) ∧ PySem.W.typeIn K (.ref f) = some (.type "function")
  i_NoSleeper : OexC K (c 9) ∧ ∃ (f : Addr) (fd : FuncData), Fun K "__init__" "NoSleeper.__init__" st_NoSleeper_init f fd ∧ PySem.W.findIn K (.ref (c 9)) "__init__" = some (some (.ref f)) ∧ PySem.W.typeIn K (.ref f) = some (.type "function")
  i_NoBeat : OexC K (c 10) ∧ ∃ (f : Addr) (fd : FuncData), Fun K "__init__" "NoBeat.__init__" st_NoBeat_init f fd ∧ PySem.W.findIn K (.ref (c 10)) "__init__" = some (some (.ref f)) ∧ PySem.W.typeIn K (.ref f) = some (.type "function")
  i_Stopped : OexC K (c 12) ∧ ∃ (f : Addr) (fd : FuncData), Fun K "__init__" "Stopped.__init__" st_Stopped_init f fd ∧ PySem.W.findIn K (.ref (c 12)) "__init__" = some (some (.ref f)) ∧ PySem.W.typeIn K (.ref f) = some (.type "function")
section
variable {P : Program} {w : World} {K : PySem.W.Frag} {mg : Str → Option Value} {base : Heap} {SE : Addr} {c : Nat → Addr}
theorem law_ok {f : Addr} {fd : FuncData} (T : Top K mg SE c) (F0 : Fun K "law" "law" st_law f fd) : FnG P w K mg base 4 f fd P_law (spLaw K) := by
  have B0 : Blt mg := T.B.toBlt
  have c_L_take : Cal P w K mg base 1 "_law_take" spTake := T.d_L_take.cal (fun _ _ F => F.binds (ps := P_L_take) fun _ _ _ _ _ _ us hl => match us, hl with | [_, _], _ => rfl) fun _ _ F => ok_take F B0
  have c_L_bag : Cal P w K mg base 1 "_law_bag" (spBag K) := T.d_L_bag.cal (fun _ _ F => F.binds (ps := P_L_bag) fun _ _ _ _ _ _ us hl => match us, hl with | [_], _ => rfl) fun _ _ F => ok_bag F B0
  have c_L_thing : Cal P w K mg base 2 "_law_thing" spThing := T.d_L_thing.cal (fun _ _ F => F.binds (ps := P_L_thing) fun _ _ _ _ _ _ us hl => match us, hl with | [_], _ => rfl) fun _ _ F => ok_thing F c_L_take
  have c_L_kinds : Cal P w K mg base 1 "_law_kinds" (spKinds K c) := T.d_L_kinds.cal (fun _ _ F => F.binds (ps := P_L_kinds) fun _ _ _ _ _ _ us hl => match us, hl with | [_], _ => rfl) fun _ _ F => ok_kinds F B0 T.er
  have c_Wrong : XC P w K mg base 1 "Wrong" (c 0) "at" := by
    obtain ⟨O, f1, fd1, F1, a1, t1⟩ := T.i_Wrong
    exact ⟨O, T.er.g_Wrong, f1, fd1, P_Wrong_init, a1, t1, ok_i_Wrong F1 O T.er.no_Wrong, F1.binds (ps := P_Wrong_init) fun _ _ _ _ _ _ us hl => match us, hl with | [_, _], _ => rfl⟩
  have c_TooGreat : XC P w K mg base 1 "TooGreat" (c 1) "length" := by
    obtain ⟨O, f1, fd1, F1, a1, t1⟩ := T.i_TooGreat
    exact ⟨O, T.er.g_TooGreat, f1, fd1, P_TooGreat_init, a1, t1, ok_i_TooGreat F1 O T.er.no_TooGreat, F1.binds (ps := P_TooGreat_init) fun _ _ _ _ _ _ us hl => match us, hl with | [_, _], _ => rfl⟩
  have c_Twice : XC P w K mg base 1 "Twice" (c 2) "name" := by
    obtain ⟨O, f1, fd1, F1, a1, t1⟩ := T.i_Twice
    exact ⟨O, T.er.g_Twice, f1, fd1, P_Twice_init, a1, t1, ok_i_Twice F1 O T.er.no_Twice, F1.binds (ps := P_Twice_init) fun _ _ _ _ _ _ us hl => match us, hl with | [_, _], _ => rfl⟩
  have c_TooMany : XC P w K mg base 1 "TooMany" (c 4) "most" := by
    obtain ⟨O, f1, fd1, F1, a1, t1⟩ := T.i_TooMany
    exact ⟨O, T.er.g_TooMany, f1, fd1, P_TooMany_init, a1, t1, ok_i_TooMany F1 O T.er.no_TooMany, F1.binds (ps := P_TooMany_init) fun _ _ _ _ _ _ us hl => match us, hl with | [_, _], _ => rfl⟩
  have c_NoHall : XC P w K mg base 1 "NoHall" (c 5) "at" := by
    obtain ⟨O, f1, fd1, F1, a1, t1⟩ := T.i_NoHall
    exact ⟨O, T.er.g_NoHall, f1, fd1, P_NoHall_init, a1, t1, ok_i_NoHall F1 O T.er.no_NoHall, F1.binds (ps := P_NoHall_init) fun _ _ _ _ _ _ us hl => match us, hl with | [_, _], _ => rfl⟩
  have c_NoRow : XC P w K mg base 1 "NoRow" (c 6) "number" := by
    obtain ⟨O, f1, fd1, F1, a1, t1⟩ := T.i_NoRow
    exact ⟨O, T.er.g_NoRow, f1, fd1, P_NoRow_init, a1, t1, ok_i_NoRow F1 O T.er.no_NoRow, F1.binds (ps := P_NoRow_init) fun _ _ _ _ _ _ us hl => match us, hl with | [_, _], _ => rfl⟩
  have c_NoWay : XC P w K mg base 1 "NoWay" (c 7) "at" := by
    obtain ⟨O, f1, fd1, F1, a1, t1⟩ := T.i_NoWay
    exact ⟨O, T.er.g_NoWay, f1, fd1, P_NoWay_init, a1, t1, ok_i_NoWay F1 O T.er.no_NoWay, F1.binds (ps := P_NoWay_init) fun _ _ _ _ _ _ us hl => match us, hl with | [_, _], _ => rfl⟩
  have c_Full : XC P w K mg base 1 "Full" (c 8) "most" := by
    obtain ⟨O, f1, fd1, F1, a1, t1⟩ := T.i_Full
    exact ⟨O, T.er.g_Full, f1, fd1, P_Full_init, a1, t1, ok_i_Full F1 O T.er.no_Full, F1.binds (ps := P_Full_init) fun _ _ _ _ _ _ us hl => match us, hl with | [_, _], _ => rfl⟩
  have c_NoSleeper : XC P w K mg base 1 "NoSleeper" (c 9) "name" := by
    obtain ⟨O, f1, fd1, F1, a1, t1⟩ := T.i_NoSleeper
    exact ⟨O, T.er.g_NoSleeper, f1, fd1, P_NoSleeper_init, a1, t1, ok_i_NoSleeper F1 O T.er.no_NoSleeper, F1.binds (ps := P_NoSleeper_init) fun _ _ _ _ _ _ us hl => match us, hl with | [_, _], _ => rfl⟩
  have c_NoBeat : XC P w K mg base 1 "NoBeat" (c 10) "beat" := by
    obtain ⟨O, f1, fd1, F1, a1, t1⟩ := T.i_NoBeat
    exact ⟨O, T.er.g_NoBeat, f1, fd1, P_NoBeat_init, a1, t1, ok_i_NoBeat F1 O T.er.no_NoBeat, F1.binds (ps := P_NoBeat_init) fun _ _ _ _ _ _ us hl => match us, hl with | [_, _], _ => rfl⟩
  have c_Stopped : XC P w K mg base 1 "Stopped" (c 12) "at" := by
    obtain ⟨O, f1, fd1, F1, a1, t1⟩ := T.i_Stopped
    exact ⟨O, T.er.g_Stopped, f1, fd1, P_Stopped_init, a1, t1, ok_i_Stopped F1 O T.er.no_Stopped, F1.binds (ps := P_Stopped_init) fun _ _ _ _ _ _ us hl => match us, hl with | [_, _], _ => rfl⟩
  have c_L_made : Cal P w K mg base 3 "_law_made" (spMade c) := T.d_L_made.cal (fun _ _ F => F.binds (ps := P_L_made) fun _ _ _ _ _ _ us hl => match us, hl with | [_], _ => rfl) fun _ _ F => ok_made F T.er c_Wrong c_TooGreat c_Twice c_TooMany c_NoHall c_NoRow c_NoWay c_Full c_NoSleeper c_NoBeat c_Stopped
  have c_L_kept : Cal P w K mg base 1 "_law_kept" (spKept c) := T.d_L_kept.cal (fun _ _ F => F.binds (ps := P_L_kept) fun _ _ _ _ _ _ us hl => match us, hl with | [_], _ => rfl) fun _ _ F => ok_kept F T.er
  have c_L_taken : Cal P w K mg base 3 "_law_taken" spTaken := T.d_L_taken.cal (fun _ _ F => F.binds (ps := P_L_taken) fun _ _ _ _ _ _ us hl => match us, hl with | [_, _], _ => rfl) fun _ _ F => ok_taken F T.B T.er c_Wrong c_NoHall c_Stopped
  exact ok_law F0 T.B T.er c_L_bag c_L_take c_L_thing c_L_made c_L_kinds c_L_kept c_L_taken
end
theorem all_mk {l : PySem.W.OpenLaw} {w : World} {K : PySem.W.Frag} {mg : Str → Option Value} {fa SE : Addr} {c : Nat → Addr} (T : Top K mg SE c) (hfa : mg "law" = some (.ref fa)) :
    ∃ fd : FuncData, (∀ (s : Shared) (v : Value), BindsTo s fd ⟨[v], []⟩ [("_law_script", v)]) ∧ ∀ base : Heap, K.In base → base.Ns mainGlobals mg → FnG l.prog w K mg base 4 fa fd ["_law_script"] (spLaw K) := by
  obtain ⟨f, fd, F, m⟩ := T.d_law.ex
  rw [m] at hfa
  cases hfa
  refine ⟨fd, ?_, fun base _ _ => law_ok T F⟩
  obtain ⟨oc, od, kV, doc, pm, an, cdv, ct, osl, rfl, lk, hcd⟩ := F.ex
  exact fun s v => .of_eq rfl
theorem top_mk {K : PySem.W.Frag} {h : Heap} {mg : Str → Option Value} (X : K.In h) (G : h.Ns mainGlobals mg)
    {f13 : Addr} {od13 an13 : Option Addr} {sl13 : Array (Option Value)} {oc13 kV13 dc13 pm13 cd13 ct13 : Value}
    {f14 : Addr} {od14 an14 : Option Addr} {sl14 : Array (Option Value)} {oc14 kV14 dc14 pm14 cd14 ct14 : Value}
    {f15 : Addr} {od15 an15 : Option Addr} {sl15 : Array (Option Value)} {oc15 kV15 dc15 pm15 cd15 ct15 : Value}
    {f16 : Addr} {od16 an16 : Option Addr} {sl16 : Array (Option Value)} {oc16 kV16 dc16 pm16 cd16 ct16 : Value}
    {f17 : Addr} {od17 an17 : Option Addr} {sl17 : Array (Option Value)} {oc17 kV17 dc17 pm17 cd17 ct17 : Value}
    {f18 : Addr} {od18 an18 : Option Addr} {sl18 : Array (Option Value)} {oc18 kV18 dc18 pm18 cd18 ct18 : Value}
    {f19 : Addr} {od19 an19 : Option Addr} {sl19 : Array (Option Value)} {oc19 kV19 dc19 pm19 cd19 ct19 : Value}
    {f20 : Addr} {od20 an20 : Option Addr} {sl20 : Array (Option Value)} {oc20 kV20 dc20 pm20 cd20 ct20 : Value}
    {SE : Addr}
    {C0 : Addr}
    {C1 : Addr}
    {C2 : Addr}
    {C3 : Addr}
    {C4 : Addr}
    {C5 : Addr}
    {C6 : Addr}
    {C7 : Addr}
    {C8 : Addr}
    {C9 : Addr}
    {C10 : Addr}
    {C11 : Addr}
    {C12 : Addr}
    {C13 : Addr}
    {C14 : Addr}
    {C15 : Addr}
    {nm_SE q_SE : Str} {N_SE : Addr} {bs_SE : List Value} {sn_SE : List Str} {sub_SE : List Value} {ab_SE : Bool} {col_SE : Option Bool} {dd_SE : Option Addr} {m0_SE m1_SE m2_SE m3_SE m5_SE : Option Value}
    {nm_C0 q_C0 : Str} {N_C0 : Addr} {bs_C0 : List Value} {sn_C0 : List Str} {sub_C0 : List Value} {ab_C0 : Bool} {col_C0 : Option Bool} {dd_C0 : Option Addr} {m0_C0 m1_C0 m2_C0 m3_C0 m5_C0 : Option Value}
    {nm_C1 q_C1 : Str} {N_C1 : Addr} {bs_C1 : List Value} {sn_C1 : List Str} {sub_C1 : List Value} {ab_C1 : Bool} {col_C1 : Option Bool} {dd_C1 : Option Addr} {m0_C1 m1_C1 m2_C1 m3_C1 m5_C1 : Option Value}
    {nm_C2 q_C2 : Str} {N_C2 : Addr} {bs_C2 : List Value} {sn_C2 : List Str} {sub_C2 : List Value} {ab_C2 : Bool} {col_C2 : Option Bool} {dd_C2 : Option Addr} {m0_C2 m1_C2 m2_C2 m3_C2 m5_C2 : Option Value}
    {nm_C3 q_C3 : Str} {N_C3 : Addr} {bs_C3 : List Value} {sn_C3 : List Str} {sub_C3 : List Value} {ab_C3 : Bool} {col_C3 : Option Bool} {dd_C3 : Option Addr} {m0_C3 m1_C3 m2_C3 m3_C3 m5_C3 : Option Value}
    {nm_C4 q_C4 : Str} {N_C4 : Addr} {bs_C4 : List Value} {sn_C4 : List Str} {sub_C4 : List Value} {ab_C4 : Bool} {col_C4 : Option Bool} {dd_C4 : Option Addr} {m0_C4 m1_C4 m2_C4 m3_C4 m5_C4 : Option Value}
    {nm_C5 q_C5 : Str} {N_C5 : Addr} {bs_C5 : List Value} {sn_C5 : List Str} {sub_C5 : List Value} {ab_C5 : Bool} {col_C5 : Option Bool} {dd_C5 : Option Addr} {m0_C5 m1_C5 m2_C5 m3_C5 m5_C5 : Option Value}
    {nm_C6 q_C6 : Str} {N_C6 : Addr} {bs_C6 : List Value} {sn_C6 : List Str} {sub_C6 : List Value} {ab_C6 : Bool} {col_C6 : Option Bool} {dd_C6 : Option Addr} {m0_C6 m1_C6 m2_C6 m3_C6 m5_C6 : Option Value}
    {nm_C7 q_C7 : Str} {N_C7 : Addr} {bs_C7 : List Value} {sn_C7 : List Str} {sub_C7 : List Value} {ab_C7 : Bool} {col_C7 : Option Bool} {dd_C7 : Option Addr} {m0_C7 m1_C7 m2_C7 m3_C7 m5_C7 : Option Value}
    {nm_C8 q_C8 : Str} {N_C8 : Addr} {bs_C8 : List Value} {sn_C8 : List Str} {sub_C8 : List Value} {ab_C8 : Bool} {col_C8 : Option Bool} {dd_C8 : Option Addr} {m0_C8 m1_C8 m2_C8 m3_C8 m5_C8 : Option Value}
    {nm_C9 q_C9 : Str} {N_C9 : Addr} {bs_C9 : List Value} {sn_C9 : List Str} {sub_C9 : List Value} {ab_C9 : Bool} {col_C9 : Option Bool} {dd_C9 : Option Addr} {m0_C9 m1_C9 m2_C9 m3_C9 m5_C9 : Option Value}
    {nm_C10 q_C10 : Str} {N_C10 : Addr} {bs_C10 : List Value} {sn_C10 : List Str} {sub_C10 : List Value} {ab_C10 : Bool} {col_C10 : Option Bool} {dd_C10 : Option Addr} {m0_C10 m1_C10 m2_C10 m3_C10 m5_C10 : Option Value}
    {nm_C11 q_C11 : Str} {N_C11 : Addr} {bs_C11 : List Value} {sn_C11 : List Str} {sub_C11 : List Value} {ab_C11 : Bool} {col_C11 : Option Bool} {dd_C11 : Option Addr} {m0_C11 m1_C11 m2_C11 m3_C11 m5_C11 : Option Value}
    {nm_C12 q_C12 : Str} {N_C12 : Addr} {bs_C12 : List Value} {sn_C12 : List Str} {sub_C12 : List Value} {ab_C12 : Bool} {col_C12 : Option Bool} {dd_C12 : Option Addr} {m0_C12 m1_C12 m2_C12 m3_C12 m5_C12 : Option Value}
    {nm_C13 q_C13 : Str} {N_C13 : Addr} {bs_C13 : List Value} {sn_C13 : List Str} {sub_C13 : List Value} {ab_C13 : Bool} {col_C13 : Option Bool} {dd_C13 : Option Addr} {m0_C13 m1_C13 m2_C13 m3_C13 m5_C13 : Option Value}
    {nm_C14 q_C14 : Str} {N_C14 : Addr} {bs_C14 : List Value} {sn_C14 : List Str} {sub_C14 : List Value} {ab_C14 : Bool} {col_C14 : Option Bool} {dd_C14 : Option Addr} {m0_C14 m1_C14 m2_C14 m3_C14 m5_C14 : Option Value}
    {nm_C15 q_C15 : Str} {N_C15 : Addr} {bs_C15 : List Value} {sn_C15 : List Str} {sub_C15 : List Value} {ab_C15 : Bool} {col_C15 : Option Bool} {dd_C15 : Option Addr} {m0_C15 m1_C15 m2_C15 m3_C15 m5_C15 : Option Value}
    {f84 : Addr} {od84 an84 : Option Addr} {sl84 : Array (Option Value)} {oc84 kV84 dc84 pm84 cd84 ct84 : Value}
    {f86 : Addr} {od86 an86 : Option Addr} {sl86 : Array (Option Value)} {oc86 kV86 dc86 pm86 cd86 ct86 : Value}
    {f88 : Addr} {od88 an88 : Option Addr} {sl88 : Array (Option Value)} {oc88 kV88 dc88 pm88 cd88 ct88 : Value}
    {f90 : Addr} {od90 an90 : Option Addr} {sl90 : Array (Option Value)} {oc90 kV90 dc90 pm90 cd90 ct90 : Value}
    {f92 : Addr} {od92 an92 : Option Addr} {sl92 : Array (Option Value)} {oc92 kV92 dc92 pm92 cd92 ct92 : Value}
    {f94 : Addr} {od94 an94 : Option Addr} {sl94 : Array (Option Value)} {oc94 kV94 dc94 pm94 cd94 ct94 : Value}
    {f96 : Addr} {od96 an96 : Option Addr} {sl96 : Array (Option Value)} {oc96 kV96 dc96 pm96 cd96 ct96 : Value}
    {f98 : Addr} {od98 an98 : Option Addr} {sl98 : Array (Option Value)} {oc98 kV98 dc98 pm98 cd98 ct98 : Value}
    {f100 : Addr} {od100 an100 : Option Addr} {sl100 : Array (Option Value)} {oc100 kV100 dc100 pm100 cd100 ct100 : Value}
    {f102 : Addr} {od102 an102 : Option Addr} {sl102 : Array (Option Value)} {oc102 kV102 dc102 pm102 cd102 ct102 : Value}
    {f104 : Addr} {od104 an104 : Option Addr} {sl104 : Array (Option Value)} {oc104 kV104 dc104 pm104 cd104 ct104 : Value}
    (z0 : PySem.W.nsIn K mainGlobals "len" = some none)
    (z1 : PySem.W.nsIn K mainGlobals "abs" = some none)
    (z2 : PySem.W.nsIn K mainGlobals "isinstance" = some none)
    (z3 : PySem.W.nsIn K mainGlobals "int" = some none)
    (z4 : PySem.W.nsIn K mainGlobals "bool" = some none)
    (z5 : PySem.W.nsIn K mainGlobals "str" = some none)
    (z6 : PySem.W.nsIn K mainGlobals "list" = some none)
    (z7 : PySem.W.nsIn K mainGlobals "tuple" = some none)
    (z8 : PySem.W.nsIn K mainGlobals "set" = some none)
    (z9 : PySem.W.nsIn K mainGlobals "range" = some none)
    (z10 : PySem.W.nsIn K mainGlobals "all" = some none)
    (z11 : PySem.W.nsIn K mainGlobals "repr" = some none)
    (z12 : PySem.W.nsIn K mainGlobals "ValueError" = some none)
    (a13 : PySem.W.nsIn K mainGlobals "_law_take" = some (some (.ref f13)))
    (l13 : K.lookup f13 = some ⟨oc13, od13, .func (PySem.W.fnOf "_law_take" "_law_take" (defArgs st_L_take) (defBody st_L_take) (defScope st_L_take) .none kV13 dc13 pm13 an13 cd13 ct13), sl13⟩)
    (c13 : PySem.W.codeIn K cd13 "_law_take" = true)
    (k13 : PySem.W.keepIn K (.ref f13) = true)
    (a14 : PySem.W.nsIn K mainGlobals "_law_bag" = some (some (.ref f14)))
    (l14 : K.lookup f14 = some ⟨oc14, od14, .func (PySem.W.fnOf "_law_bag" "_law_bag" (defArgs st_L_bag) (defBody st_L_bag) (defScope st_L_bag) .none kV14 dc14 pm14 an14 cd14 ct14), sl14⟩)
    (c14 : PySem.W.codeIn K cd14 "_law_bag" = true)
    (k14 : PySem.W.keepIn K (.ref f14) = true)
    (a15 : PySem.W.nsIn K mainGlobals "_law_thing" = some (some (.ref f15)))
    (l15 : K.lookup f15 = some ⟨oc15, od15, .func (PySem.W.fnOf "_law_thing" "_law_thing" (defArgs st_L_thing) (defBody st_L_thing) (defScope st_L_thing) .none kV15 dc15 pm15 an15 cd15 ct15), sl15⟩)
    (c15 : PySem.W.codeIn K cd15 "_law_thing" = true)
    (k15 : PySem.W.keepIn K (.ref f15) = true)
    (a16 : PySem.W.nsIn K mainGlobals "_law_kinds" = some (some (.ref f16)))
    (l16 : K.lookup f16 = some ⟨oc16, od16, .func (PySem.W.fnOf "_law_kinds" "_law_kinds" (defArgs st_L_kinds) (defBody st_L_kinds) (defScope st_L_kinds) .none kV16 dc16 pm16 an16 cd16 ct16), sl16⟩)
    (c16 : PySem.W.codeIn K cd16 "_law_kinds" = true)
    (k16 : PySem.W.keepIn K (.ref f16) = true)
    (a17 : PySem.W.nsIn K mainGlobals "_law_made" = some (some (.ref f17)))
    (l17 : K.lookup f17 = some ⟨oc17, od17, .func (PySem.W.fnOf "_law_made" "_law_made" (defArgs st_L_made) (defBody st_L_made) (defScope st_L_made) .none kV17 dc17 pm17 an17 cd17 ct17), sl17⟩)
    (c17 : PySem.W.codeIn K cd17 "_law_made" = true)
    (k17 : PySem.W.keepIn K (.ref f17) = true)
    (a18 : PySem.W.nsIn K mainGlobals "_law_kept" = some (some (.ref f18)))
    (l18 : K.lookup f18 = some ⟨oc18, od18, .func (PySem.W.fnOf "_law_kept" "_law_kept" (defArgs st_L_kept) (defBody st_L_kept) (defScope st_L_kept) .none kV18 dc18 pm18 an18 cd18 ct18), sl18⟩)
    (c18 : PySem.W.codeIn K cd18 "_law_kept" = true)
    (k18 : PySem.W.keepIn K (.ref f18) = true)
    (a19 : PySem.W.nsIn K mainGlobals "_law_taken" = some (some (.ref f19)))
    (l19 : K.lookup f19 = some ⟨oc19, od19, .func (PySem.W.fnOf "_law_taken" "_law_taken" (defArgs st_L_taken) (defBody st_L_taken) (defScope st_L_taken) .none kV19 dc19 pm19 an19 cd19 ct19), sl19⟩)
    (c19 : PySem.W.codeIn K cd19 "_law_taken" = true)
    (k19 : PySem.W.keepIn K (.ref f19) = true)
    (a20 : PySem.W.nsIn K mainGlobals "law" = some (some (.ref f20)))
    (l20 : K.lookup f20 = some ⟨oc20, od20, .func (PySem.W.fnOf "law" "law" (defArgs st_law) (defBody st_law) (defScope st_law) .none kV20 dc20 pm20 an20 cd20 ct20), sl20⟩)
    (c20 : PySem.W.codeIn K cd20 "law" = true)
    (k20 : PySem.W.keepIn K (.ref f20) = true)
    (gSE : PySem.W.nsIn K mainGlobals "SleepError" = some (some (.ref SE)))
    (gC0 : PySem.W.nsIn K mainGlobals "Wrong" = some (some (.ref C0)))
    (gC1 : PySem.W.nsIn K mainGlobals "TooGreat" = some (some (.ref C1)))
    (gC2 : PySem.W.nsIn K mainGlobals "Twice" = some (some (.ref C2)))
    (gC3 : PySem.W.nsIn K mainGlobals "NotSo" = some (some (.ref C3)))
    (gC4 : PySem.W.nsIn K mainGlobals "TooMany" = some (some (.ref C4)))
    (gC5 : PySem.W.nsIn K mainGlobals "NoHall" = some (some (.ref C5)))
    (gC6 : PySem.W.nsIn K mainGlobals "NoRow" = some (some (.ref C6)))
    (gC7 : PySem.W.nsIn K mainGlobals "NoWay" = some (some (.ref C7)))
    (gC8 : PySem.W.nsIn K mainGlobals "Full" = some (some (.ref C8)))
    (gC9 : PySem.W.nsIn K mainGlobals "NoSleeper" = some (some (.ref C9)))
    (gC10 : PySem.W.nsIn K mainGlobals "NoBeat" = some (some (.ref C10)))
    (gC11 : PySem.W.nsIn K mainGlobals "Nothing" = some (some (.ref C11)))
    (gC12 : PySem.W.nsIn K mainGlobals "Stopped" = some (some (.ref C12)))
    (gC13 : PySem.W.nsIn K mainGlobals "NoText" = some (some (.ref C13)))
    (gC14 : PySem.W.nsIn K mainGlobals "NoLine" = some (some (.ref C14)))
    (gC15 : PySem.W.nsIn K mainGlobals "NoHouse" = some (some (.ref C15)))
    (xSE : K.lookup SE = some (excClassObj nm_SE q_SE SE N_SE bs_SE [.type "ValueError", .type "Exception", .type "BaseException", .type "object"] true sn_SE sub_SE ab_SE col_SE dd_SE m0_SE m1_SE m2_SE m3_SE m5_SE "ValueError.__new__"))
    (xC0 : K.lookup C0 = some (excClassObj nm_C0 q_C0 C0 N_C0 bs_C0 [.ref SE, .type "ValueError", .type "Exception", .type "BaseException", .type "object"] true sn_C0 sub_C0 ab_C0 col_C0 dd_C0 m0_C0 m1_C0 m2_C0 m3_C0 m5_C0 "ValueError.__new__"))
    (xC1 : K.lookup C1 = some (excClassObj nm_C1 q_C1 C1 N_C1 bs_C1 [.ref SE, .type "ValueError", .type "Exception", .type "BaseException", .type "object"] true sn_C1 sub_C1 ab_C1 col_C1 dd_C1 m0_C1 m1_C1 m2_C1 m3_C1 m5_C1 "ValueError.__new__"))
    (xC2 : K.lookup C2 = some (excClassObj nm_C2 q_C2 C2 N_C2 bs_C2 [.ref SE, .type "ValueError", .type "Exception", .type "BaseException", .type "object"] true sn_C2 sub_C2 ab_C2 col_C2 dd_C2 m0_C2 m1_C2 m2_C2 m3_C2 m5_C2 "ValueError.__new__"))
    (xC3 : K.lookup C3 = some (excClassObj nm_C3 q_C3 C3 N_C3 bs_C3 [.ref SE, .type "ValueError", .type "Exception", .type "BaseException", .type "object"] true sn_C3 sub_C3 ab_C3 col_C3 dd_C3 m0_C3 m1_C3 m2_C3 m3_C3 m5_C3 "ValueError.__new__"))
    (xC4 : K.lookup C4 = some (excClassObj nm_C4 q_C4 C4 N_C4 bs_C4 [.ref SE, .type "ValueError", .type "Exception", .type "BaseException", .type "object"] true sn_C4 sub_C4 ab_C4 col_C4 dd_C4 m0_C4 m1_C4 m2_C4 m3_C4 m5_C4 "ValueError.__new__"))
    (xC5 : K.lookup C5 = some (excClassObj nm_C5 q_C5 C5 N_C5 bs_C5 [.ref SE, .type "ValueError", .type "Exception", .type "BaseException", .type "object"] true sn_C5 sub_C5 ab_C5 col_C5 dd_C5 m0_C5 m1_C5 m2_C5 m3_C5 m5_C5 "ValueError.__new__"))
    (xC6 : K.lookup C6 = some (excClassObj nm_C6 q_C6 C6 N_C6 bs_C6 [.ref SE, .type "ValueError", .type "Exception", .type "BaseException", .type "object"] true sn_C6 sub_C6 ab_C6 col_C6 dd_C6 m0_C6 m1_C6 m2_C6 m3_C6 m5_C6 "ValueError.__new__"))
    (xC7 : K.lookup C7 = some (excClassObj nm_C7 q_C7 C7 N_C7 bs_C7 [.ref SE, .type "ValueError", .type "Exception", .type "BaseException", .type "object"] true sn_C7 sub_C7 ab_C7 col_C7 dd_C7 m0_C7 m1_C7 m2_C7 m3_C7 m5_C7 "ValueError.__new__"))
    (xC8 : K.lookup C8 = some (excClassObj nm_C8 q_C8 C8 N_C8 bs_C8 [.ref SE, .type "ValueError", .type "Exception", .type "BaseException", .type "object"] true sn_C8 sub_C8 ab_C8 col_C8 dd_C8 m0_C8 m1_C8 m2_C8 m3_C8 m5_C8 "ValueError.__new__"))
    (xC9 : K.lookup C9 = some (excClassObj nm_C9 q_C9 C9 N_C9 bs_C9 [.ref SE, .type "ValueError", .type "Exception", .type "BaseException", .type "object"] true sn_C9 sub_C9 ab_C9 col_C9 dd_C9 m0_C9 m1_C9 m2_C9 m3_C9 m5_C9 "ValueError.__new__"))
    (xC10 : K.lookup C10 = some (excClassObj nm_C10 q_C10 C10 N_C10 bs_C10 [.ref SE, .type "ValueError", .type "Exception", .type "BaseException", .type "object"] true sn_C10 sub_C10 ab_C10 col_C10 dd_C10 m0_C10 m1_C10 m2_C10 m3_C10 m5_C10 "ValueError.__new__"))
    (xC11 : K.lookup C11 = some (excClassObj nm_C11 q_C11 C11 N_C11 bs_C11 [.ref SE, .type "ValueError", .type "Exception", .type "BaseException", .type "object"] true sn_C11 sub_C11 ab_C11 col_C11 dd_C11 m0_C11 m1_C11 m2_C11 m3_C11 m5_C11 "ValueError.__new__"))
    (xC12 : K.lookup C12 = some (excClassObj nm_C12 q_C12 C12 N_C12 bs_C12 [.ref SE, .type "ValueError", .type "Exception", .type "BaseException", .type "object"] true sn_C12 sub_C12 ab_C12 col_C12 dd_C12 m0_C12 m1_C12 m2_C12 m3_C12 m5_C12 "ValueError.__new__"))
    (xC13 : K.lookup C13 = some (excClassObj nm_C13 q_C13 C13 N_C13 bs_C13 [.ref SE, .type "ValueError", .type "Exception", .type "BaseException", .type "object"] true sn_C13 sub_C13 ab_C13 col_C13 dd_C13 m0_C13 m1_C13 m2_C13 m3_C13 m5_C13 "ValueError.__new__"))
    (xC14 : K.lookup C14 = some (excClassObj nm_C14 q_C14 C14 N_C14 bs_C14 [.ref SE, .type "ValueError", .type "Exception", .type "BaseException", .type "object"] true sn_C14 sub_C14 ab_C14 col_C14 dd_C14 m0_C14 m1_C14 m2_C14 m3_C14 m5_C14 "ValueError.__new__"))
    (xC15 : K.lookup C15 = some (excClassObj nm_C15 q_C15 C15 N_C15 bs_C15 [.ref SE, .type "ValueError", .type "Exception", .type "BaseException", .type "object"] true sn_C15 sub_C15 ab_C15 col_C15 dd_C15 m0_C15 m1_C15 m2_C15 m3_C15 m5_C15 "ValueError.__new__"))
    (hn : PySem.W.specialIn K (.builtin "object.__class__") "__get__" = some (some (.builtin "getset_descriptor.__get__")))
    (ht : PySem.W.takesIn K (.builtin "object.__class__") = some true)
    (q21 : PySem.W.findIn K (.ref SE) "__getattribute__" = some (some (.builtin "BaseException.__getattribute__")))
    (q22 : PySem.W.findIn K (.ref SE) "__getattr__" = some none)
    (q23 : PySem.W.findIn K (.ref SE) "__class__" = some (some (.builtin "object.__class__")))
    (q24 : PySem.W.findIn K (.ref C0) "__getattribute__" = some (some (.builtin "BaseException.__getattribute__")))
    (q25 : PySem.W.findIn K (.ref C0) "__getattr__" = some none)
    (q26 : PySem.W.findIn K (.ref C0) "__class__" = some (some (.builtin "object.__class__")))
    (q27 : PySem.W.findIn K (.ref C1) "__getattribute__" = some (some (.builtin "BaseException.__getattribute__")))
    (q28 : PySem.W.findIn K (.ref C1) "__getattr__" = some none)
    (q29 : PySem.W.findIn K (.ref C1) "__class__" = some (some (.builtin "object.__class__")))
    (q30 : PySem.W.findIn K (.ref C2) "__getattribute__" = some (some (.builtin "BaseException.__getattribute__")))
    (q31 : PySem.W.findIn K (.ref C2) "__getattr__" = some none)
    (q32 : PySem.W.findIn K (.ref C2) "__class__" = some (some (.builtin "object.__class__")))
    (q33 : PySem.W.findIn K (.ref C3) "__getattribute__" = some (some (.builtin "BaseException.__getattribute__")))
    (q34 : PySem.W.findIn K (.ref C3) "__getattr__" = some none)
    (q35 : PySem.W.findIn K (.ref C3) "__class__" = some (some (.builtin "object.__class__")))
    (q36 : PySem.W.findIn K (.ref C4) "__getattribute__" = some (some (.builtin "BaseException.__getattribute__")))
    (q37 : PySem.W.findIn K (.ref C4) "__getattr__" = some none)
    (q38 : PySem.W.findIn K (.ref C4) "__class__" = some (some (.builtin "object.__class__")))
    (q39 : PySem.W.findIn K (.ref C5) "__getattribute__" = some (some (.builtin "BaseException.__getattribute__")))
    (q40 : PySem.W.findIn K (.ref C5) "__getattr__" = some none)
    (q41 : PySem.W.findIn K (.ref C5) "__class__" = some (some (.builtin "object.__class__")))
    (q42 : PySem.W.findIn K (.ref C6) "__getattribute__" = some (some (.builtin "BaseException.__getattribute__")))
    (q43 : PySem.W.findIn K (.ref C6) "__getattr__" = some none)
    (q44 : PySem.W.findIn K (.ref C6) "__class__" = some (some (.builtin "object.__class__")))
    (q45 : PySem.W.findIn K (.ref C7) "__getattribute__" = some (some (.builtin "BaseException.__getattribute__")))
    (q46 : PySem.W.findIn K (.ref C7) "__getattr__" = some none)
    (q47 : PySem.W.findIn K (.ref C7) "__class__" = some (some (.builtin "object.__class__")))
    (q48 : PySem.W.findIn K (.ref C8) "__getattribute__" = some (some (.builtin "BaseException.__getattribute__")))
    (q49 : PySem.W.findIn K (.ref C8) "__getattr__" = some none)
    (q50 : PySem.W.findIn K (.ref C8) "__class__" = some (some (.builtin "object.__class__")))
    (q51 : PySem.W.findIn K (.ref C9) "__getattribute__" = some (some (.builtin "BaseException.__getattribute__")))
    (q52 : PySem.W.findIn K (.ref C9) "__getattr__" = some none)
    (q53 : PySem.W.findIn K (.ref C9) "__class__" = some (some (.builtin "object.__class__")))
    (q54 : PySem.W.findIn K (.ref C10) "__getattribute__" = some (some (.builtin "BaseException.__getattribute__")))
    (q55 : PySem.W.findIn K (.ref C10) "__getattr__" = some none)
    (q56 : PySem.W.findIn K (.ref C10) "__class__" = some (some (.builtin "object.__class__")))
    (q57 : PySem.W.findIn K (.ref C11) "__getattribute__" = some (some (.builtin "BaseException.__getattribute__")))
    (q58 : PySem.W.findIn K (.ref C11) "__getattr__" = some none)
    (q59 : PySem.W.findIn K (.ref C11) "__class__" = some (some (.builtin "object.__class__")))
    (q60 : PySem.W.findIn K (.ref C12) "__getattribute__" = some (some (.builtin "BaseException.__getattribute__")))
    (q61 : PySem.W.findIn K (.ref C12) "__getattr__" = some none)
    (q62 : PySem.W.findIn K (.ref C12) "__class__" = some (some (.builtin "object.__class__")))
    (q63 : PySem.W.findIn K (.ref C13) "__getattribute__" = some (some (.builtin "BaseException.__getattribute__")))
    (q64 : PySem.W.findIn K (.ref C13) "__getattr__" = some none)
    (q65 : PySem.W.findIn K (.ref C13) "__class__" = some (some (.builtin "object.__class__")))
    (q66 : PySem.W.findIn K (.ref C14) "__getattribute__" = some (some (.builtin "BaseException.__getattribute__")))
    (q67 : PySem.W.findIn K (.ref C14) "__getattr__" = some none)
    (q68 : PySem.W.findIn K (.ref C14) "__class__" = some (some (.builtin "object.__class__")))
    (q69 : PySem.W.findIn K (.ref C15) "__getattribute__" = some (some (.builtin "BaseException.__getattribute__")))
    (q70 : PySem.W.findIn K (.ref C15) "__getattr__" = some none)
    (q71 : PySem.W.findIn K (.ref C15) "__class__" = some (some (.builtin "object.__class__")))
    (q72 : PySem.W.findIn K (.ref C0) "at" = some none)
    (q73 : PySem.W.findIn K (.ref C1) "length" = some none)
    (q74 : PySem.W.findIn K (.ref C2) "name" = some none)
    (q75 : PySem.W.findIn K (.ref C4) "most" = some none)
    (q76 : PySem.W.findIn K (.ref C5) "at" = some none)
    (q77 : PySem.W.findIn K (.ref C6) "number" = some none)
    (q78 : PySem.W.findIn K (.ref C7) "at" = some none)
    (q79 : PySem.W.findIn K (.ref C8) "most" = some none)
    (q80 : PySem.W.findIn K (.ref C9) "name" = some none)
    (q81 : PySem.W.findIn K (.ref C10) "beat" = some none)
    (q82 : PySem.W.findIn K (.ref C12) "at" = some none)
    (qNotSo : PySem.W.excIn K C3 [.type "ValueError", .type "Exception", .type "BaseException", .type "object"] "ValueError.__new__" = true)
    (kNotSo : PySem.W.keepIn K (.ref C3) = true)
    (qNothing : PySem.W.excIn K C11 [.type "ValueError", .type "Exception", .type "BaseException", .type "object"] "ValueError.__new__" = true)
    (kNothing : PySem.W.keepIn K (.ref C11) = true)
    (qNoText : PySem.W.excIn K C13 [.type "ValueError", .type "Exception", .type "BaseException", .type "object"] "ValueError.__new__" = true)
    (kNoText : PySem.W.keepIn K (.ref C13) = true)
    (qNoLine : PySem.W.excIn K C14 [.type "ValueError", .type "Exception", .type "BaseException", .type "object"] "ValueError.__new__" = true)
    (kNoLine : PySem.W.keepIn K (.ref C14) = true)
    (qNoHouse : PySem.W.excIn K C15 [.type "ValueError", .type "Exception", .type "BaseException", .type "object"] "ValueError.__new__" = true)
    (kNoHouse : PySem.W.keepIn K (.ref C15) = true)
    (qSleepError : PySem.W.excIn K SE [.type "ValueError", .type "Exception", .type "BaseException", .type "object"] "ValueError.__new__" = true)
    (kSleepError : PySem.W.keepIn K (.ref SE) = true)
    (nd : ([C0, C1, C2, C3, C4, C5, C6, C7, C8, C9, C10, C11, C12, C13, C14, C15] : List Addr).Nodup)
    (nS : SE ∉ ([C0, C1, C2, C3, C4, C5, C6, C7, C8, C9, C10, C11, C12, C13, C14, C15] : List Addr))
    (q83 : PySem.W.findIn K (.ref C0) "__setattr__" = some (some (.builtin "object.__setattr__")))
    (kCWrong : PySem.W.keepIn K (.ref C0) = true)
    (a84 : PySem.W.findIn K (.ref C0) "__init__" = some (some (.ref f84)))
    (l84 : K.lookup f84 = some ⟨oc84, od84, .func (PySem.W.fnOf "__init__" "Wrong.__init__" (defArgs st_Wrong_init) (defBody st_Wrong_init) (defScope st_Wrong_init) .none kV84 dc84 pm84 an84 cd84 ct84), sl84⟩)
    (c84 : PySem.W.codeIn K cd84 "Wrong.__init__" = true)
    (k84 : PySem.W.keepIn K (.ref f84) = true)
    (n84 : PySem.W.isFn K (.ref f84) = true)
    (tI84 : PySem.W.typeIn K (.ref f84) = some (.type "function"))
    (q85 : PySem.W.findIn K (.ref C1) "__setattr__" = some (some (.builtin "object.__setattr__")))
    (kCTooGreat : PySem.W.keepIn K (.ref C1) = true)
    (a86 : PySem.W.findIn K (.ref C1) "__init__" = some (some (.ref f86)))
    (l86 : K.lookup f86 = some ⟨oc86, od86, .func (PySem.W.fnOf "__init__" "TooGreat.__init__" (defArgs st_TooGreat_init) (defBody st_TooGreat_init) (defScope st_TooGreat_init) .none kV86 dc86 pm86 an86 cd86 ct86), sl86⟩)
    (c86 : PySem.W.codeIn K cd86 "TooGreat.__init__" = true)
    (k86 : PySem.W.keepIn K (.ref f86) = true)
    (n86 : PySem.W.isFn K (.ref f86) = true)
    (tI86 : PySem.W.typeIn K (.ref f86) = some (.type "function"))
    (q87 : PySem.W.findIn K (.ref C2) "__setattr__" = some (some (.builtin "object.__setattr__")))
    (kCTwice : PySem.W.keepIn K (.ref C2) = true)
    (a88 : PySem.W.findIn K (.ref C2) "__init__" = some (some (.ref f88)))
    (l88 : K.lookup f88 = some ⟨oc88, od88, .func (PySem.W.fnOf "__init__" "Twice.__init__" (defArgs st_Twice_init) (defBody st_Twice_init) (defScope st_Twice_init) .none kV88 dc88 pm88 an88 cd88 ct88), sl88⟩)
    (c88 : PySem.W.codeIn K cd88 "Twice.__init__" = true)
    (k88 : PySem.W.keepIn K (.ref f88) = true)
    (n88 : PySem.W.isFn K (.ref f88) = true)
    (tI88 : PySem.W.typeIn K (.ref f88) = some (.type "function"))
    (q89 : PySem.W.findIn K (.ref C4) "__setattr__" = some (some (.builtin "object.__setattr__")))
    (kCTooMany : PySem.W.keepIn K (.ref C4) = true)
    (a90 : PySem.W.findIn K (.ref C4) "__init__" = some (some (.ref f90)))
    (l90 : K.lookup f90 = some ⟨oc90, od90, .func (PySem.W.fnOf "__init__" "TooMany.__init__" (defArgs st_TooMany_init) (defBody st_TooMany_init) (defScope st_TooMany_init) .none kV90 dc90 pm90 an90 cd90 ct90), sl90⟩)
    (c90 : PySem.W.codeIn K cd90 "TooMany.__init__" = true)
    (k90 : PySem.W.keepIn K (.ref f90) = true)
    (n90 : PySem.W.isFn K (.ref f90) = true)
    (tI90 : PySem.W.typeIn K (.ref f90) = some (.type "function"))
    (q91 : PySem.W.findIn K (.ref C5) "__setattr__" = some (some (.builtin "object.__setattr__")))
    (kCNoHall : PySem.W.keepIn K (.ref C5) = true)
    (a92 : PySem.W.findIn K (.ref C5) "__init__" = some (some (.ref f92)))
    (l92 : K.lookup f92 = some ⟨oc92, od92, .func (PySem.W.fnOf "__init__" "NoHall.__init__" (defArgs st_NoHall_init) (defBody st_NoHall_init) (defScope st_NoHall_init) .none kV92 dc92 pm92 an92 cd92 ct92), sl92⟩)
    (c92 : PySem.W.codeIn K cd92 "NoHall.__init__" = true)
    (k92 : PySem.W.keepIn K (.ref f92) = true)
    (n92 : PySem.W.isFn K (.ref f92) = true)
    (tI92 : PySem.W.typeIn K (.ref f92) = some (.type "function"))
    (q93 : PySem.W.findIn K (.ref C6) "__setattr__" = some (some (.builtin "object.__setattr__")))
    (kCNoRow : PySem.W.keepIn K (.ref C6) = true)
    (a94 : PySem.W.findIn K (.ref C6) "__init__" = some (some (.ref f94)))
    (l94 : K.lookup f94 = some ⟨oc94, od94, .func (PySem.W.fnOf "__init__" "NoRow.__init__" (defArgs st_NoRow_init) (defBody st_NoRow_init) (defScope st_NoRow_init) .none kV94 dc94 pm94 an94 cd94 ct94), sl94⟩)
    (c94 : PySem.W.codeIn K cd94 "NoRow.__init__" = true)
    (k94 : PySem.W.keepIn K (.ref f94) = true)
    (n94 : PySem.W.isFn K (.ref f94) = true)
    (tI94 : PySem.W.typeIn K (.ref f94) = some (.type "function"))
    (q95 : PySem.W.findIn K (.ref C7) "__setattr__" = some (some (.builtin "object.__setattr__")))
    (kCNoWay : PySem.W.keepIn K (.ref C7) = true)
    (a96 : PySem.W.findIn K (.ref C7) "__init__" = some (some (.ref f96)))
    (l96 : K.lookup f96 = some ⟨oc96, od96, .func (PySem.W.fnOf "__init__" "NoWay.__init__" (defArgs st_NoWay_init) (defBody st_NoWay_init) (defScope st_NoWay_init) .none kV96 dc96 pm96 an96 cd96 ct96), sl96⟩)
    (c96 : PySem.W.codeIn K cd96 "NoWay.__init__" = true)
    (k96 : PySem.W.keepIn K (.ref f96) = true)
    (n96 : PySem.W.isFn K (.ref f96) = true)
    (tI96 : PySem.W.typeIn K (.ref f96) = some (.type "function"))
    (q97 : PySem.W.findIn K (.ref C8) "__setattr__" = some (some (.builtin "object.__setattr__")))
    (kCFull : PySem.W.keepIn K (.ref C8) = true)
    (a98 : PySem.W.findIn K (.ref C8) "__init__" = some (some (.ref f98)))
    (l98 : K.lookup f98 = some ⟨oc98, od98, .func (PySem.W.fnOf "__init__" "Full.__init__" (defArgs st_Full_init) (defBody st_Full_init) (defScope st_Full_init) .none kV98 dc98 pm98 an98 cd98 ct98), sl98⟩)
    (c98 : PySem.W.codeIn K cd98 "Full.__init__" = true)
    (k98 : PySem.W.keepIn K (.ref f98) = true)
    (n98 : PySem.W.isFn K (.ref f98) = true)
    (tI98 : PySem.W.typeIn K (.ref f98) = some (.type "function"))
    (q99 : PySem.W.findIn K (.ref C9) "__setattr__" = some (some (.builtin "object.__setattr__")))
    (kCNoSleeper : PySem.W.keepIn K (.ref C9) = true)
    (a100 : PySem.W.findIn K (.ref C9) "__init__" = some (some (.ref f100)))
    (l100 : K.lookup f100 = some ⟨oc100, od100, .func (PySem.W.fnOf "__init__" "NoSleeper.__init__" (defArgs st_NoSleeper_init) (defBody st_NoSleeper_init) (defScope st_NoSleeper_init) .none kV100 dc100 pm100 an100 cd100 ct100), sl100⟩)
    (c100 : PySem.W.codeIn K cd100 "NoSleeper.__init__" = true)
    (k100 : PySem.W.keepIn K (.ref f100) = true)
    (n100 : PySem.W.isFn K (.ref f100) = true)
    (tI100 : PySem.W.typeIn K (.ref f100) = some (.type "function"))
    (q101 : PySem.W.findIn K (.ref C10) "__setattr__" = some (some (.builtin "object.__setattr__")))
    (kCNoBeat : PySem.W.keepIn K (.ref C10) = true)
    (a102 : PySem.W.findIn K (.ref C10) "__init__" = some (some (.ref f102)))
    (l102 : K.lookup f102 = some ⟨oc102, od102, .func (PySem.W.fnOf "__init__" "NoBeat.__init__" (defArgs st_NoBeat_init) (defBody st_NoBeat_init) (defScope st_NoBeat_init) .none kV102 dc102 pm102 an102 cd102 ct102), sl102⟩)
    (c102 : PySem.W.codeIn K cd102 "NoBeat.__init__" = true)
    (k102 : PySem.W.keepIn K (.ref f102) = true)
    (n102 : PySem.W.isFn K (.ref f102) = true)
    (tI102 : PySem.W.typeIn K (.ref f102) = some (.type "function"))
    (q103 : PySem.W.findIn K (.ref C12) "__setattr__" = some (some (.builtin "object.__setattr__")))
    (kCStopped : PySem.W.keepIn K (.ref C12) = true)
    (a104 : PySem.W.findIn K (.ref C12) "__init__" = some (some (.ref f104)))
    (l104 : K.lookup f104 = some ⟨oc104, od104, .func (PySem.W.fnOf "__init__" "Stopped.__init__" (defArgs st_Stopped_init) (defBody st_Stopped_init) (defScope st_Stopped_init) .none kV104 dc104 pm104 an104 cd104 ct104), sl104⟩)
    (c104 : PySem.W.codeIn K cd104 "Stopped.__init__" = true)
    (k104 : PySem.W.keepIn K (.ref f104) = true)
    (n104 : PySem.W.isFn K (.ref f104) = true)
    (tI104 : PySem.W.typeIn K (.ref f104) = some (.type "function"))
    : Top K mg SE (fun i => ([C0, C1, C2, C3, C4, C5, C6, C7, C8, C9, C10, C11, C12, C13, C14, C15] : List Addr).getD i 0) := 
    { B := ⟨⟨PySem.W.mg_none_of X G z0, PySem.W.mg_none_of X G z1, PySem.W.mg_none_of X G z2, PySem.W.mg_none_of X G z3, PySem.W.mg_none_of X G z4, PySem.W.mg_none_of X G z5, PySem.W.mg_none_of X G z6, PySem.W.mg_none_of X G z7, PySem.W.mg_none_of X G z8, PySem.W.mg_none_of X G z9, PySem.W.mg_none_of X G z10, PySem.W.mg_none_of X G z11⟩, PySem.W.mg_none_of X G z12⟩,
      d_L_take := def_in X G a13 l13 c13 k13,
      d_L_bag := def_in X G a14 l14 c14 k14,
      d_L_thing := def_in X G a15 l15 c15 k15,
      d_L_kinds := def_in X G a16 l16 c16 k16,
      d_L_made := def_in X G a17 l17 c17 k17,
      d_L_kept := def_in X G a18 l18 c18 k18,
      d_L_taken := def_in X G a19 l19 c19 k19,
      d_law := def_in X G a20 l20 c20 k20,
      er := ⟨(PySem.W.mg_of X G gSE),
        (PySem.W.mg_of X G gC0), (PySem.W.mg_of X G gC1), (PySem.W.mg_of X G gC2), (PySem.W.mg_of X G gC3), (PySem.W.mg_of X G gC4), (PySem.W.mg_of X G gC5), (PySem.W.mg_of X G gC6), (PySem.W.mg_of X G gC7), (PySem.W.mg_of X G gC8), (PySem.W.mg_of X G gC9), (PySem.W.mg_of X G gC10), (PySem.W.mg_of X G gC11), (PySem.W.mg_of X G gC12), (PySem.W.mg_of X G gC13), (PySem.W.mg_of X G gC14), (PySem.W.mg_of X G gC15),
        ⟨⟨nm_SE, q_SE, N_SE, bs_SE, sn_SE, sub_SE, ab_SE, col_SE, dd_SE, m0_SE, m1_SE, m2_SE, m3_SE, m5_SE, xSE⟩⟩, all16 (⟨⟨nm_C0, q_C0, N_C0, bs_C0, sn_C0, sub_C0, ab_C0, col_C0, dd_C0, m0_C0, m1_C0, m2_C0, m3_C0, m5_C0, xC0⟩⟩ : XL K C0 (.ref SE :: veT)) (⟨⟨nm_C1, q_C1, N_C1, bs_C1, sn_C1, sub_C1, ab_C1, col_C1, dd_C1, m0_C1, m1_C1, m2_C1, m3_C1, m5_C1, xC1⟩⟩ : XL K C1 (.ref SE :: veT)) (⟨⟨nm_C2, q_C2, N_C2, bs_C2, sn_C2, sub_C2, ab_C2, col_C2, dd_C2, m0_C2, m1_C2, m2_C2, m3_C2, m5_C2, xC2⟩⟩ : XL K C2 (.ref SE :: veT)) (⟨⟨nm_C3, q_C3, N_C3, bs_C3, sn_C3, sub_C3, ab_C3, col_C3, dd_C3, m0_C3, m1_C3, m2_C3, m3_C3, m5_C3, xC3⟩⟩ : XL K C3 (.ref SE :: veT)) (⟨⟨nm_C4, q_C4, N_C4, bs_C4, sn_C4, sub_C4, ab_C4, col_C4, dd_C4, m0_C4, m1_C4, m2_C4, m3_C4, m5_C4, xC4⟩⟩ : XL K C4 (.ref SE :: veT)) (⟨⟨nm_C5, q_C5, N_C5, bs_C5, sn_C5, sub_C5, ab_C5, col_C5, dd_C5, m0_C5, m1_C5, m2_C5, m3_C5, m5_C5, xC5⟩⟩ : XL K C5 (.ref SE :: veT)) (⟨⟨nm_C6, q_C6, N_C6, bs_C6, sn_C6, sub_C6, ab_C6, col_C6, dd_C6, m0_C6, m1_C6, m2_C6, m3_C6, m5_C6, xC6⟩⟩ : XL K C6 (.ref SE :: veT)) (⟨⟨nm_C7, q_C7, N_C7, bs_C7, sn_C7, sub_C7, ab_C7, col_C7, dd_C7, m0_C7, m1_C7, m2_C7, m3_C7, m5_C7, xC7⟩⟩ : XL K C7 (.ref SE :: veT)) (⟨⟨nm_C8, q_C8, N_C8, bs_C8, sn_C8, sub_C8, ab_C8, col_C8, dd_C8, m0_C8, m1_C8, m2_C8, m3_C8, m5_C8, xC8⟩⟩ : XL K C8 (.ref SE :: veT)) (⟨⟨nm_C9, q_C9, N_C9, bs_C9, sn_C9, sub_C9, ab_C9, col_C9, dd_C9, m0_C9, m1_C9, m2_C9, m3_C9, m5_C9, xC9⟩⟩ : XL K C9 (.ref SE :: veT)) (⟨⟨nm_C10, q_C10, N_C10, bs_C10, sn_C10, sub_C10, ab_C10, col_C10, dd_C10, m0_C10, m1_C10, m2_C10, m3_C10, m5_C10, xC10⟩⟩ : XL K C10 (.ref SE :: veT)) (⟨⟨nm_C11, q_C11, N_C11, bs_C11, sn_C11, sub_C11, ab_C11, col_C11, dd_C11, m0_C11, m1_C11, m2_C11, m3_C11, m5_C11, xC11⟩⟩ : XL K C11 (.ref SE :: veT)) (⟨⟨nm_C12, q_C12, N_C12, bs_C12, sn_C12, sub_C12, ab_C12, col_C12, dd_C12, m0_C12, m1_C12, m2_C12, m3_C12, m5_C12, xC12⟩⟩ : XL K C12 (.ref SE :: veT)) (⟨⟨nm_C13, q_C13, N_C13, bs_C13, sn_C13, sub_C13, ab_C13, col_C13, dd_C13, m0_C13, m1_C13, m2_C13, m3_C13, m5_C13, xC13⟩⟩ : XL K C13 (.ref SE :: veT)) (⟨⟨nm_C14, q_C14, N_C14, bs_C14, sn_C14, sub_C14, ab_C14, col_C14, dd_C14, m0_C14, m1_C14, m2_C14, m3_C14, m5_C14, xC14⟩⟩ : XL K C14 (.ref SE :: veT)) (⟨⟨nm_C15, q_C15, N_C15, bs_C15, sn_C15, sub_C15, ab_C15, col_C15, dd_C15, m0_C15, m1_C15, m2_C15, m3_C15, m5_C15, xC15⟩⟩ : XL K C15 (.ref SE :: veT)),
        nd_of nd, nS_of nS, (exc_of (⟨⟨nm_SE, q_SE, N_SE, bs_SE, sn_SE, sub_SE, ab_SE, col_SE, dd_SE, m0_SE, m1_SE, m2_SE, m3_SE, m5_SE, xSE⟩⟩ : XL K SE veT) (by simp [veT]) (by simp [veT]) q21 q22 q23 hn ht),
        all16 (exc_of (⟨⟨nm_C0, q_C0, N_C0, bs_C0, sn_C0, sub_C0, ab_C0, col_C0, dd_C0, m0_C0, m1_C0, m2_C0, m3_C0, m5_C0, xC0⟩⟩ : XL K C0 (.ref SE :: veT)) (by simp [veT]) (by simp [veT]) q24 q25 q26 hn ht) (exc_of (⟨⟨nm_C1, q_C1, N_C1, bs_C1, sn_C1, sub_C1, ab_C1, col_C1, dd_C1, m0_C1, m1_C1, m2_C1, m3_C1, m5_C1, xC1⟩⟩ : XL K C1 (.ref SE :: veT)) (by simp [veT]) (by simp [veT]) q27 q28 q29 hn ht) (exc_of (⟨⟨nm_C2, q_C2, N_C2, bs_C2, sn_C2, sub_C2, ab_C2, col_C2, dd_C2, m0_C2, m1_C2, m2_C2, m3_C2, m5_C2, xC2⟩⟩ : XL K C2 (.ref SE :: veT)) (by simp [veT]) (by simp [veT]) q30 q31 q32 hn ht) (exc_of (⟨⟨nm_C3, q_C3, N_C3, bs_C3, sn_C3, sub_C3, ab_C3, col_C3, dd_C3, m0_C3, m1_C3, m2_C3, m3_C3, m5_C3, xC3⟩⟩ : XL K C3 (.ref SE :: veT)) (by simp [veT]) (by simp [veT]) q33 q34 q35 hn ht) (exc_of (⟨⟨nm_C4, q_C4, N_C4, bs_C4, sn_C4, sub_C4, ab_C4, col_C4, dd_C4, m0_C4, m1_C4, m2_C4, m3_C4, m5_C4, xC4⟩⟩ : XL K C4 (.ref SE :: veT)) (by simp [veT]) (by simp [veT]) q36 q37 q38 hn ht) (exc_of (⟨⟨nm_C5, q_C5, N_C5, bs_C5, sn_C5, sub_C5, ab_C5, col_C5, dd_C5, m0_C5, m1_C5, m2_C5, m3_C5, m5_C5, xC5⟩⟩ : XL K C5 (.ref SE :: veT)) (by simp [veT]) (by simp [veT]) q39 q40 q41 hn ht) (exc_of (⟨⟨nm_C6, q_C6, N_C6, bs_C6, sn_C6, sub_C6, ab_C6, col_C6, dd_C6, m0_C6, m1_C6, m2_C6, m3_C6, m5_C6, xC6⟩⟩ : XL K C6 (.ref SE :: veT)) (by simp [veT]) (by simp [veT]) q42 q43 q44 hn ht) (exc_of (⟨⟨nm_C7, q_C7, N_C7, bs_C7, sn_C7, sub_C7, ab_C7, col_C7, dd_C7, m0_C7, m1_C7, m2_C7, m3_C7, m5_C7, xC7⟩⟩ : XL K C7 (.ref SE :: veT)) (by simp [veT]) (by simp [veT]) q45 q46 q47 hn ht) (exc_of (⟨⟨nm_C8, q_C8, N_C8, bs_C8, sn_C8, sub_C8, ab_C8, col_C8, dd_C8, m0_C8, m1_C8, m2_C8, m3_C8, m5_C8, xC8⟩⟩ : XL K C8 (.ref SE :: veT)) (by simp [veT]) (by simp [veT]) q48 q49 q50 hn ht) (exc_of (⟨⟨nm_C9, q_C9, N_C9, bs_C9, sn_C9, sub_C9, ab_C9, col_C9, dd_C9, m0_C9, m1_C9, m2_C9, m3_C9, m5_C9, xC9⟩⟩ : XL K C9 (.ref SE :: veT)) (by simp [veT]) (by simp [veT]) q51 q52 q53 hn ht) (exc_of (⟨⟨nm_C10, q_C10, N_C10, bs_C10, sn_C10, sub_C10, ab_C10, col_C10, dd_C10, m0_C10, m1_C10, m2_C10, m3_C10, m5_C10, xC10⟩⟩ : XL K C10 (.ref SE :: veT)) (by simp [veT]) (by simp [veT]) q54 q55 q56 hn ht) (exc_of (⟨⟨nm_C11, q_C11, N_C11, bs_C11, sn_C11, sub_C11, ab_C11, col_C11, dd_C11, m0_C11, m1_C11, m2_C11, m3_C11, m5_C11, xC11⟩⟩ : XL K C11 (.ref SE :: veT)) (by simp [veT]) (by simp [veT]) q57 q58 q59 hn ht) (exc_of (⟨⟨nm_C12, q_C12, N_C12, bs_C12, sn_C12, sub_C12, ab_C12, col_C12, dd_C12, m0_C12, m1_C12, m2_C12, m3_C12, m5_C12, xC12⟩⟩ : XL K C12 (.ref SE :: veT)) (by simp [veT]) (by simp [veT]) q60 q61 q62 hn ht) (exc_of (⟨⟨nm_C13, q_C13, N_C13, bs_C13, sn_C13, sub_C13, ab_C13, col_C13, dd_C13, m0_C13, m1_C13, m2_C13, m3_C13, m5_C13, xC13⟩⟩ : XL K C13 (.ref SE :: veT)) (by simp [veT]) (by simp [veT]) q63 q64 q65 hn ht) (exc_of (⟨⟨nm_C14, q_C14, N_C14, bs_C14, sn_C14, sub_C14, ab_C14, col_C14, dd_C14, m0_C14, m1_C14, m2_C14, m3_C14, m5_C14, xC14⟩⟩ : XL K C14 (.ref SE :: veT)) (by simp [veT]) (by simp [veT]) q66 q67 q68 hn ht) (exc_of (⟨⟨nm_C15, q_C15, N_C15, bs_C15, sn_C15, sub_C15, ab_C15, col_C15, dd_C15, m0_C15, m1_C15, m2_C15, m3_C15, m5_C15, xC15⟩⟩ : XL K C15 (.ref SE :: veT)) (by simp [veT]) (by simp [veT]) q69 q70 q71 hn ht),
        q72, q73, q74, q75, q76, q77, q78, q79, q80, q81, q82,
        qNotSo, kNotSo, qNothing, kNothing, qNoText, kNoText, qNoLine, kNoLine, qNoHouse, kNoHouse, qSleepError, kSleepError⟩,
      i_Wrong := ⟨oex_of (⟨⟨nm_C0, q_C0, N_C0, bs_C0, sn_C0, sub_C0, ab_C0, col_C0, dd_C0, m0_C0, m1_C0, m2_C0, m3_C0, m5_C0, xC0⟩⟩ : XL K C0 (.ref SE :: veT)) q83 kCWrong, _, _, fun_mk l84 c84 k84, a84, tI84⟩,
      i_TooGreat := ⟨oex_of (⟨⟨nm_C1, q_C1, N_C1, bs_C1, sn_C1, sub_C1, ab_C1, col_C1, dd_C1, m0_C1, m1_C1, m2_C1, m3_C1, m5_C1, xC1⟩⟩ : XL K C1 (.ref SE :: veT)) q85 kCTooGreat, _, _, fun_mk l86 c86 k86, a86, tI86⟩,
      i_Twice := ⟨oex_of (⟨⟨nm_C2, q_C2, N_C2, bs_C2, sn_C2, sub_C2, ab_C2, col_C2, dd_C2, m0_C2, m1_C2, m2_C2, m3_C2, m5_C2, xC2⟩⟩ : XL K C2 (.ref SE :: veT)) q87 kCTwice, _, _, fun_mk l88 c88 k88, a88, tI88⟩,
      i_TooMany := ⟨oex_of (⟨⟨nm_C4, q_C4, N_C4, bs_C4, sn_C4, sub_C4, ab_C4, col_C4, dd_C4, m0_C4, m1_C4, m2_C4, m3_C4, m5_C4, xC4⟩⟩ : XL K C4 (.ref SE :: veT)) q89 kCTooMany, _, _, fun_mk l90 c90 k90, a90, tI90⟩,
      i_NoHall := ⟨oex_of (⟨⟨nm_C5, q_C5, N_C5, bs_C5, sn_C5, sub_C5, ab_C5, col_C5, dd_C5, m0_C5, m1_C5, m2_C5, m3_C5, m5_C5, xC5⟩⟩ : XL K C5 (.ref SE :: veT)) q91 kCNoHall, _, _, fun_mk l92 c92 k92, a92, tI92⟩,
      i_NoRow := ⟨oex_of (⟨⟨nm_C6, q_C6, N_C6, bs_C6, sn_C6, sub_C6, ab_C6, col_C6, dd_C6, m0_C6, m1_C6, m2_C6, m3_C6, m5_C6, xC6⟩⟩ : XL K C6 (.ref SE :: veT)) q93 kCNoRow, _, _, fun_mk l94 c94 k94, a94, tI94⟩,
      i_NoWay := ⟨oex_of (⟨⟨nm_C7, q_C7, N_C7, bs_C7, sn_C7, sub_C7, ab_C7, col_C7, dd_C7, m0_C7, m1_C7, m2_C7, m3_C7, m5_C7, xC7⟩⟩ : XL K C7 (.ref SE :: veT)) q95 kCNoWay, _, _, fun_mk l96 c96 k96, a96, tI96⟩,
      i_Full := ⟨oex_of (⟨⟨nm_C8, q_C8, N_C8, bs_C8, sn_C8, sub_C8, ab_C8, col_C8, dd_C8, m0_C8, m1_C8, m2_C8, m3_C8, m5_C8, xC8⟩⟩ : XL K C8 (.ref SE :: veT)) q97 kCFull, _, _, fun_mk l98 c98 k98, a98, tI98⟩,
      i_NoSleeper := ⟨oex_of (⟨⟨nm_C9, q_C9, N_C9, bs_C9, sn_C9, sub_C9, ab_C9, col_C9, dd_C9, m0_C9, m1_C9, m2_C9, m3_C9, m5_C9, xC9⟩⟩ : XL K C9 (.ref SE :: veT)) q99 kCNoSleeper, _, _, fun_mk l100 c100 k100, a100, tI100⟩,
      i_NoBeat := ⟨oex_of (⟨⟨nm_C10, q_C10, N_C10, bs_C10, sn_C10, sub_C10, ab_C10, col_C10, dd_C10, m0_C10, m1_C10, m2_C10, m3_C10, m5_C10, xC10⟩⟩ : XL K C10 (.ref SE :: veT)) q101 kCNoBeat, _, _, fun_mk l102 c102 k102, a102, tI102⟩,
      i_Stopped := ⟨oex_of (⟨⟨nm_C12, q_C12, N_C12, bs_C12, sn_C12, sub_C12, ab_C12, col_C12, dd_C12, m0_C12, m1_C12, m2_C12, m3_C12, m5_C12, xC12⟩⟩ : XL K C12 (.ref SE :: veT)) q103 kCStopped, _, _, fun_mk l104 c104 k104, a104, tI104⟩ }
end Kk

open PySem PySem.W PyProof.Rows
set_option maxRecDepth 100000 in
set_option maxHeartbeats 0 in
theorem PySem.Challenge.cw_sleepmany_k16_refusals_apart_holds : PySem.Challenge.rw_sleepmany_k16_refusals_apart.Holds := by
  w_on; o_law; k_head; (case hw => w_witness2)
  k_fill
  refine Lb.walkG (l := PySem.Challenge.rw_sleepmany_k16_refusals_apart) (n := 63) (k := 4) (x := "_law_script") (sp := Kk.spLaw) rfl (by decide) rfl ⟨rfl, by decide, by decide⟩ (fun w h Y => PySem.W.kIn_of Y) ?F (fun K H a ns hl _ _ hS => ⟨a, ns, rfl, hS, hl, fun _ => rfl⟩)
  case F =>
    intro w mg fa h KX G hmg
    refine' Kk.all_mk (Kk.top_mk KX G ?z0 ?z1 ?z2 ?z3 ?z4 ?z5 ?z6 ?z7 ?z8 ?z9 ?z10 ?z11 ?z12 ?a13 ?l13 ?c13 ?k13 ?a14 ?l14 ?c14 ?k14 ?a15 ?l15 ?c15 ?k15 ?a16 ?l16 ?c16 ?k16 ?a17 ?l17 ?c17 ?k17 ?a18 ?l18 ?c18 ?k18 ?a19 ?l19 ?c19 ?k19 ?a20 ?l20 ?c20 ?k20 ?gSE ?gC0 ?gC1 ?gC2 ?gC3 ?gC4 ?gC5 ?gC6 ?gC7 ?gC8 ?gC9 ?gC10 ?gC11 ?gC12 ?gC13 ?gC14 ?gC15 ?xSE ?xC0 ?xC1 ?xC2 ?xC3 ?xC4 ?xC5 ?xC6 ?xC7 ?xC8 ?xC9 ?xC10 ?xC11 ?xC12 ?xC13 ?xC14 ?xC15 ?hn ?ht ?q21 ?q22 ?q23 ?q24 ?q25 ?q26 ?q27 ?q28 ?q29 ?q30 ?q31 ?q32 ?q33 ?q34 ?q35 ?q36 ?q37 ?q38 ?q39 ?q40 ?q41 ?q42 ?q43 ?q44 ?q45 ?q46 ?q47 ?q48 ?q49 ?q50 ?q51 ?q52 ?q53 ?q54 ?q55 ?q56 ?q57 ?q58 ?q59 ?q60 ?q61 ?q62 ?q63 ?q64 ?q65 ?q66 ?q67 ?q68 ?q69 ?q70 ?q71 ?q72 ?q73 ?q74 ?q75 ?q76 ?q77 ?q78 ?q79 ?q80 ?q81 ?q82 ?qNotSo ?kNotSo ?qNothing ?kNothing ?qNoText ?kNoText ?qNoLine ?kNoLine ?qNoHouse ?kNoHouse ?qSleepError ?kSleepError ?nd ?nS ?q83 ?kCWrong ?a84 ?l84 ?c84 ?k84 ?n84 ?tI84 ?q85 ?kCTooGreat ?a86 ?l86 ?c86 ?k86 ?n86 ?tI86 ?q87 ?kCTwice ?a88 ?l88 ?c88 ?k88 ?n88 ?tI88 ?q89 ?kCTooMany ?a90 ?l90 ?c90 ?k90 ?n90 ?tI90 ?q91 ?kCNoHall ?a92 ?l92 ?c92 ?k92 ?n92 ?tI92 ?q93 ?kCNoRow ?a94 ?l94 ?c94 ?k94 ?n94 ?tI94 ?q95 ?kCNoWay ?a96 ?l96 ?c96 ?k96 ?n96 ?tI96 ?q97 ?kCFull ?a98 ?l98 ?c98 ?k98 ?n98 ?tI98 ?q99 ?kCNoSleeper ?a100 ?l100 ?c100 ?k100 ?n100 ?tI100 ?q101 ?kCNoBeat ?a102 ?l102 ?c102 ?k102 ?n102 ?tI102 ?q103 ?kCStopped ?a104 ?l104 ?c104 ?k104 ?n104 ?tI104) hmg
    (case z0 => k_is)
    (case z1 => k_is)
    (case z2 => k_is)
    (case z3 => k_is)
    (case z4 => k_is)
    (case z5 => k_is)
    (case z6 => k_is)
    (case z7 => k_is)
    (case z8 => k_is)
    (case z9 => k_is)
    (case z10 => k_is)
    (case z11 => k_is)
    (case z12 => k_is)
    (case a13 => k_is)
    (case l13 => k_is)
    (case c13 => k_is)
    (case k13 => k_is)
    (case a14 => k_is)
    (case l14 => k_is)
    (case c14 => k_is)
    (case k14 => k_is)
    (case a15 => k_is)
    (case l15 => k_is)
    (case c15 => k_is)
    (case k15 => k_is)
    (case a16 => k_is)
    (case l16 => k_is)
    (case c16 => k_is)
    (case k16 => k_is)
    (case a17 => k_is)
    (case l17 => k_is)
    (case c17 => k_is)
    (case k17 => k_is)
    (case a18 => k_is)
    (case l18 => k_is)
    (case c18 => k_is)
    (case k18 => k_is)
    (case a19 => k_is)
    (case l19 => k_is)
    (case c19 => k_is)
    (case k19 => k_is)
    (case a20 => k_is)
    (case l20 => k_is)
    (case c20 => k_is)
    (case k20 => k_is)
    (case gSE => k_is)
    (case gC0 => k_is)
    (case gC1 => k_is)
    (case gC2 => k_is)
    (case gC3 => k_is)
    (case gC4 => k_is)
    (case gC5 => k_is)
    (case gC6 => k_is)
    (case gC7 => k_is)
    (case gC8 => k_is)
    (case gC9 => k_is)
    (case gC10 => k_is)
    (case gC11 => k_is)
    (case gC12 => k_is)
    (case gC13 => k_is)
    (case gC14 => k_is)
    (case gC15 => k_is)
    (case xSE => k_is)
    (case xC0 => k_is)
    (case xC1 => k_is)
    (case xC2 => k_is)
    (case xC3 => k_is)
    (case xC4 => k_is)
    (case xC5 => k_is)
    (case xC6 => k_is)
    (case xC7 => k_is)
    (case xC8 => k_is)
    (case xC9 => k_is)
    (case xC10 => k_is)
    (case xC11 => k_is)
    (case xC12 => k_is)
    (case xC13 => k_is)
    (case xC14 => k_is)
    (case xC15 => k_is)
    (case hn => k_is)
    (case ht => k_is)
    (case q21 => k_is)
    (case q22 => k_is)
    (case q23 => k_is)
    (case q24 => k_is)
    (case q25 => k_is)
    (case q26 => k_is)
    (case q27 => k_is)
    (case q28 => k_is)
    (case q29 => k_is)
    (case q30 => k_is)
    (case q31 => k_is)
    (case q32 => k_is)
    (case q33 => k_is)
    (case q34 => k_is)
    (case q35 => k_is)
    (case q36 => k_is)
    (case q37 => k_is)
    (case q38 => k_is)
    (case q39 => k_is)
    (case q40 => k_is)
    (case q41 => k_is)
    (case q42 => k_is)
    (case q43 => k_is)
    (case q44 => k_is)
    (case q45 => k_is)
    (case q46 => k_is)
    (case q47 => k_is)
    (case q48 => k_is)
    (case q49 => k_is)
    (case q50 => k_is)
    (case q51 => k_is)
    (case q52 => k_is)
    (case q53 => k_is)
    (case q54 => k_is)
    (case q55 => k_is)
    (case q56 => k_is)
    (case q57 => k_is)
    (case q58 => k_is)
    (case q59 => k_is)
    (case q60 => k_is)
    (case q61 => k_is)
    (case q62 => k_is)
    (case q63 => k_is)
    (case q64 => k_is)
    (case q65 => k_is)
    (case q66 => k_is)
    (case q67 => k_is)
    (case q68 => k_is)
    (case q69 => k_is)
    (case q70 => k_is)
    (case q71 => k_is)
    (case q72 => k_is)
    (case q73 => k_is)
    (case q74 => k_is)
    (case q75 => k_is)
    (case q76 => k_is)
    (case q77 => k_is)
    (case q78 => k_is)
    (case q79 => k_is)
    (case q80 => k_is)
    (case q81 => k_is)
    (case q82 => k_is)
    (case qNotSo => k_exc)
    (case kNotSo => k_is)
    (case qNothing => k_exc)
    (case kNothing => k_is)
    (case qNoText => k_exc)
    (case kNoText => k_is)
    (case qNoLine => k_exc)
    (case kNoLine => k_is)
    (case qNoHouse => k_exc)
    (case kNoHouse => k_is)
    (case qSleepError => k_exc)
    (case kSleepError => k_is)
    (case nd => decide)
    (case nS => decide)
    (case q83 => k_is)
    (case kCWrong => k_is)
    (case a84 => k_is)
    (case l84 => k_is)
    (case c84 => k_is)
    (case k84 => k_is)
    (case n84 => k_is)
    (case tI84 => k_is)
    (case q85 => k_is)
    (case kCTooGreat => k_is)
    (case a86 => k_is)
    (case l86 => k_is)
    (case c86 => k_is)
    (case k86 => k_is)
    (case n86 => k_is)
    (case tI86 => k_is)
    (case q87 => k_is)
    (case kCTwice => k_is)
    (case a88 => k_is)
    (case l88 => k_is)
    (case c88 => k_is)
    (case k88 => k_is)
    (case n88 => k_is)
    (case tI88 => k_is)
    (case q89 => k_is)
    (case kCTooMany => k_is)
    (case a90 => k_is)
    (case l90 => k_is)
    (case c90 => k_is)
    (case k90 => k_is)
    (case n90 => k_is)
    (case tI90 => k_is)
    (case q91 => k_is)
    (case kCNoHall => k_is)
    (case a92 => k_is)
    (case l92 => k_is)
    (case c92 => k_is)
    (case k92 => k_is)
    (case n92 => k_is)
    (case tI92 => k_is)
    (case q93 => k_is)
    (case kCNoRow => k_is)
    (case a94 => k_is)
    (case l94 => k_is)
    (case c94 => k_is)
    (case k94 => k_is)
    (case n94 => k_is)
    (case tI94 => k_is)
    (case q95 => k_is)
    (case kCNoWay => k_is)
    (case a96 => k_is)
    (case l96 => k_is)
    (case c96 => k_is)
    (case k96 => k_is)
    (case n96 => k_is)
    (case tI96 => k_is)
    (case q97 => k_is)
    (case kCFull => k_is)
    (case a98 => k_is)
    (case l98 => k_is)
    (case c98 => k_is)
    (case k98 => k_is)
    (case n98 => k_is)
    (case tI98 => k_is)
    (case q99 => k_is)
    (case kCNoSleeper => k_is)
    (case a100 => k_is)
    (case l100 => k_is)
    (case c100 => k_is)
    (case k100 => k_is)
    (case n100 => k_is)
    (case tI100 => k_is)
    (case q101 => k_is)
    (case kCNoBeat => k_is)
    (case a102 => k_is)
    (case l102 => k_is)
    (case c102 => k_is)
    (case k102 => k_is)
    (case n102 => k_is)
    (case tI102 => k_is)
    (case q103 => k_is)
    (case kCStopped => k_is)
    (case a104 => k_is)
    (case l104 => k_is)
    (case c104 => k_is)
    (case k104 => k_is)
    (case n104 => k_is)
    (case tI104 => k_is)
#print axioms PySem.Challenge.cw_sleepmany_k16_refusals_apart_holds

