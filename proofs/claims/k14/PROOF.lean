import PyProof.Rows.All
import Wide.All
import OpenK.AllK
import Wide.FinOn
import PySem.Challenge.RW_sleepmany_k14_books_told_refused
import HandS.ForMost
import HandS.IsInst
import HandS.Wide
import HandS.EndBits
import HandS.Evl
import HandS.Strs
import HandS.Exc
import HandS.ExcOwn
import HandS.ExcInit
import HandS.ExcField
import HandS.ExcIs
import HandS.WordsExc
import HandS.FStr
import HandS.Flow
import KE.KExcIs
import HandS.HotCalls
import HandS.Conv
import HandS.Style
import HandS.SortInts
set_option Elab.async false
set_option linter.all false
set_option maxRecDepth 100000
set_option maxHeartbeats 2000000
namespace Lb
open PySem PySem.Spec PyProof.Rows L2

/-! ### 1. Defs that show things: called where no showing is under way -/
section
variable (P : Program) (w : World) (K : PySem.W.Frag) (mg : Str → Option Value) (base : Heap)
/-- a def keeps sp wherever nothing is being shown -/
structure FnG (k : Nat) (f : Addr) (fd : FuncData) (ps : List Str) (sp : Sp) : Prop where
  many : ∀ vs H Q E, sp vs H Q E → vs.length = ps.length
  go : ∀ (A : Around) (outer : List Env) (s : Shared) (H : Hp) (args : Args) (us : List Value) (vs : List V) (Q : VK) (E : XK),
    Room k A → A.guards = some [] → Env0 P w K mg base A outer s H → BindsTo s fd args (ps.zip us) → Vals vs us → sp vs H Q E →
      codeAny (model P w) A (.call (.ref f) args) (CR CX0 outer P w H s Q E) s
/-- a def of the module that can be called by its name -/
structure Cal (k : Nat) (x : Str) (sp : Sp) : Prop where
  ex : ∃ (f : Addr) (fd : FuncData) (ps : List Str), FnOk P w K mg base CX0 k f fd ps sp ∧ mg x = some (.ref f) ∧ PySem.W.keepIn K (.ref f) = true ∧ Binds K fd ps []
structure CalG (k : Nat) (x : Str) (sp : Sp) : Prop where
  ex : ∃ (f : Addr) (fd : FuncData) (ps : List Str), FnG P w K mg base k f fd ps sp ∧ mg x = some (.ref f) ∧ PySem.W.keepIn K (.ref f) = true ∧ Binds K fd ps []
end
section
variable {P : Program} {w : World} {K : PySem.W.Frag} {mg : Str → Option Value} {base : Heap}
theorem fnG_of {x qual : Str} {st : Stmt} {f : Addr} {fd : FuncData} {N ps : List Str} {k : Nat} {sp : Sp} (F : Fun K x qual st f fd)
    (S : FnScope N ps (defScope st)) (many : ∀ vs H Q E, sp vs H Q E → vs.length = ps.length)
    (body : ∀ (cdv : Value) (A : Around) (outer : List Env) (s : Shared) (H : Hp) (vs : List V) (Q : VK) (E : XK), A.guards = some [] →
      Room k (A.deeper (envOfC qual (defScope st) s.heap.objs.size f cdv)) → sp vs H Q E →
      ∃ t, PSs (cxOf CX0 P w K mg base N qual (defScope st) f cdv A outer s H E).nox (defBody st) t ∧ t { nx := fun _ H' => Q .non H', rt := Q } (L2.start N vs) H) :
    FnG P w K mg base (k + 1) f fd ps sp := by
  obtain ⟨oc, od, kV, doc, pm, an, cdv, ct, osl, rfl, lk, hcd⟩ := F.ex
  constructor
  · exact many
  intro A outer s H args us vs Q E room noG e0 bindsTo vals wish
  have old : ∀ b o, base.get? b = some o → s.heap.get? b = some o := fun b o z => (e0.bs b o z).1
  have inK := e0.mod.kin.keeps old
  have kinds : ∀ y ∈ ps.zip us, (defScope st).names.lookup y.1 = some .local ∨
      ((defScope st).names.lookup y.1 = some .cell ∧ ((cellsFrom (s.heap.objs.size + 1) (defScope st).names []).lookup y.1).isSome = true) := by
    rintro ⟨n, v⟩ hy
    exact (S.par n (List.of_mem_zip hy).1).imp id fun q => ⟨q, PySem.W.cellsFrom_some _ _ _ (.inl q)⟩
  refine codeAny_call_function room.depth (inK _ _ lk) rfl S.co S.gen rfl (PySem.W.codeRec_of inK hcd) (bindsTo _ _ _ _ ?_)
  refine wpAny_newFunctionEnv_cells S.kind kinds ?_
  rintro env rfl s1 x
  refine ⟨(e0.mod.nolimit.keeps old).keeps x.toInCall.keep, codeAny_func ?_⟩
  obtain ⟨t, ht, hq⟩ := body cdv A outer s H vs Q E noG (room.deeper _) wish
  have J0 := inv_start (CX := CX0) (E := E) S room.hd e0 (many _ _ _ _ wish) vals x
  refine wpAny_mono (ht.nox.run [] s1 (L2.start N vs) H _ J0 hq) ?_ fun e s' hs => hs
  intro fl s' hs
  cases fl with
  | next =>
    obtain ⟨σ', H', J, q⟩ := hs
    exact ⟨V.non, H', J.os, J.bare, J.base, J.hok, rfl, q⟩
  | ret u =>
    obtain ⟨v, σ', H', J, rv, q⟩ := hs
    exact ⟨v, H', J.os, J.bare, J.base, J.hok, rv, q⟩
  | brk => exact (let ⟨_, _, _, q⟩ := hs; q : False).elim
  | cont => exact (let ⟨_, _, _, q⟩ := hs; q : False).elim
end
section
variable {X : Cx} {x : Str} {p pos : Pos} {e : Expr} {es : List Expr} {t : TA} {k j : Nat} {sp : Sp}
theorem pe_n (c : Cal X.prog X.w X.K X.mg X.base k x sp) (hr : Room j X.A) (hk : k ≤ j) (hg : Gl X x) (ha : PA X (e :: es) t)
    (h1 : (x == ("__debug__" : Str)) = false := by decide) (h2 : starEach (e :: es) X.env = (false, eval e X.env) :: starEach es X.env := by rfl)
    (h3 : (backTo pos (starEach es X.env)).any (·.1) = false := by rfl) : PE X (.Call (.Name x p) (e :: es) [] pos) (tCall sp [] E0 t) := by
  obtain ⟨f, fd, ps, F, hm, kp, b⟩ := c.ex
  exact pe_call F (hr.mono hk) hg hm kp b .nil pass0 ha h1 h2 h3
def tG (sp : Sp) (t : TA) : TE := fun σ H Q => t σ H fun vs H1 => sp vs H1 Q E0
theorem pe_g (c : CalG X.prog X.w X.K X.mg X.base k x sp) (noG : X.A.guards = some []) (hr : Room j X.A) (hk : k ≤ j) (hg : Gl X x) (ha : PA X (e :: es) t)
    (h1 : (x == ("__debug__" : Str)) = false := by decide) (h2 : starEach (e :: es) X.env = (false, eval e X.env) :: starEach es X.env := by rfl)
    (h3 : (backTo pos (starEach es X.env)).any (·.1) = false := by rfl) : PE X (.Call (.Name x p) (e :: es) [] pos) (tG sp t) := by
  obtain ⟨f, fd, ps, F, hm, kp, b⟩ := c.ex
  constructor
  intro pins s σ H Q I h
  refine wpAny_Call_Name_kw (ld_glob I hg hm ?_ h1)
  refine PySem.W.callWith_K (h₀ := X.base) I.ok.mod.kin kp (thn (ha.run pos pins s σ H _ I h) ?_) h2 h3
  rintro us s1 ⟨vs, H1, I1, r, q⟩
  refine ⟨I1.kIn, ?_⟩
  have len : us.length = ps.length := r.length.symm.trans (F.many _ _ _ _ q)
  have bt := b s1 us I1.kIn (by rw [List.append_nil]; exact len)
  rw [List.append_nil] at bt
  refine wpAny_call (codeAny_mono (F.go X.A X.stack s1 H1 ⟨us, []⟩ us vs Q E0 (hr.mono hk) noG I1.env0 bt r q) ?_)
  intro z s' hq
  cases z with
  | error e => exact False.elim hq
  | ok fl => cases fl with
    | ret u => exact I1.after hq
    | next => exact False.elim hq
    | brk => exact False.elim hq
    | cont => exact False.elim hq
end
end Lb

set_option maxHeartbeats 2000000
namespace Lb
open PySem PySem.Spec PyProof.Rows L2
/-! ### 2. The law's own call: nothing is being shown there -/
/-- the abstract heap of the start: the script alone, where it is not the module's -/
theorem start_heap {P : Program} {w : World} {K : PySem.W.Frag} {h : Heap} {a : Addr} {vs : List Value} {ns : List Int} (KX : K.In h)
    (ha : h.get? a = some { cls := .type "list", data := .seq vs.toArray }) (hi : IntsAre vs ns) (hl : ns.length ≤ sizeLine) :
    ∃ H : Hp, Only H ∧ SqL K H a (ns.map V.int) ∧ HOk P w H h ∧ (∀ b, H b ≠ none → b = a) ∧ (H a ≠ none → K.lookup a = none) := by
  have rv := vals_ints hi
  cases hk : K.lookup a with
  | some o =>
    have e := (KX a o hk).symm.trans ha
    cases e
    refine ⟨fun _ => none, fun _ => .inl rfl, .inr ?_, (fun b u z => nomatch z), fun b z => absurd rfl z, fun z => absurd rfl z⟩
    exact ⟨_, vs.toArray, _, hk, rfl, rfl, rfl, by rw [List.size_toArray, hi.length]; exact hl, by simpa using rv⟩
  | none =>
    refine ⟨fun b => if b = a then some (.frz { cls := .type "list", data := .seq vs.toArray } (.lst (ns.map V.int))) else none, ?_, .inl (.inr ⟨_, if_pos rfl⟩), ?_, ?_, fun _ => rfl⟩
    · intro b
      by_cases hb : b = a
      · exact .inr ⟨_, _, if_pos hb⟩
      · exact .inl (if_neg hb)
    · intro b u z
      by_cases hb : b = a
      · subst hb
        have z2 := (if_pos rfl).symm.trans z
        cases z2
        exact ⟨ha, by rw [List.length_map]; exact hl, vs, _, rv, ha⟩
      · have z2 := (if_neg hb).symm.trans z
        cases z2
    · intro b z
      by_cases hb : b = a
      · exact hb
      · exact absurd (if_neg hb) z
theorem law_at {P : Program} {w : World} {K : PySem.W.Frag} {mg mb : Str → Option Value} {k : Nat} {fa a : Addr} {fd : FuncData} {x : Str} {sp : Sp} {s : Shared} {vs : List Value} {ns : List Int}
    (KX : K.In s.heap) (hns : s.heap.Ns mainGlobals mg) (hb : s.heap.Ns builtinsNs mb) (hbb : ∀ x : Str, x ≠ "__name__" → mb x = bootBuiltins x) (hlim : s.heap.NoLimit) (hg : s.gens = #[])
    (ha : s.heap.get? a = some { cls := .type "list", data := .seq vs.toArray }) (hi : IntsAre vs ns) (hl : ns.length ≤ sizeLine) (hr : Room k callerA)
    (F : ∀ base : Heap, K.In base → base.Ns mainGlobals mg → FnG P w K mg base k fa fd [x] sp) (hbind : ∀ (s : Shared) (u : Value), BindsTo s fd ⟨[u], []⟩ [(x, u)])
    (hsp : ∀ H : Hp, Only H → SqL K H a (ns.map V.int) → sp [.ref a] H (fun v _ => v = .bl true) E0) :
    codeAny (model P w) callerA (.call (.ref fa) ⟨[.ref a], []⟩) (fun r s' => r = .ok (.ret (.bool true)) ∧ OldK s.heap s'.heap ∧ s'.os = s.os ∧ AllBare s'.gens) s := by
  obtain ⟨H, hO, hS, hok, hA, hK⟩ := start_heap (P := P) (w := w) KX ha hi hl
  have untracked : ∀ {b : Addr} {o : Obj}, s.heap.get? b = some o → b ≠ a → H b = none := fun {b o} _ ne => by
    cases q : H b with
    | none => rfl
    | some u => exact absurd (hA b (by rw [q]; exact fun z => nomatch z)) ne
  have dictNe : ∀ {b : Addr} {o : Obj} {es : Array DictEntry} {ep : Nat}, s.heap.get? b = some o → o.data = .dict es ep → b ≠ a := by
    intro b o es ep e d z
    subst z
    have e2 := e.symm.trans ha
    cases e2
    exact nomatch d
  have nsB : ∀ {b : Addr} {m : Str → Option Value}, s.heap.Ns b m → (hidT s.heap H).Ns b m := by
    rintro b m ⟨o, es, ep, e, d, r⟩
    exact ⟨o, es, ep, hidT_get e (untracked e (dictNe e d)), d, r⟩
  have kB : K.In (hidT s.heap H) := by
    intro b o e
    refine hidT_get (KX b o e) ?_
    cases q : H b with
    | none => rfl
    | some u =>
      have z : b = a := hA b (by rw [q]; exact fun z => nomatch z)
      subst z
      have n := hK (by rw [q]; exact fun z => nomatch z)
      rw [n] at e
      cases e
  obtain ⟨mc, l1, l2⟩ := hlim
  have hM : Mod K mg (hidT s.heap H) := ⟨kB, nsB hns, ⟨mb, nsB hb, hbb⟩, ⟨mc, nsB l1, l2⟩⟩
  have e0 : Env0 P w K mg (hidT s.heap H) callerA [] s H :=
    { frames := rfl, mod := hM, bs := fun b o e => of_hidT e, bsz := Nat.le_of_eq (hidT_size _ _), funs := trivial, frf := (fun b hb => nomatch hb), hok := hok, bare := .of_eq hg }
  have run := (F _ kB (nsB hns)).go callerA [] s H ⟨[.ref a], []⟩ [.ref a] [.ref a] _ _ hr rfl e0 (hbind s (.ref a)) (.cons rfl .nil) (hsp H hO hS)
  refine codeAny_mono run ?_
  intro r s' h
  cases r with
  | error e => exact False.elim h
  | ok fl =>
    cases fl with
    | next => exact False.elim h
    | brk => exact False.elim h
    | cont => exact False.elim h
    | ret u =>
      obtain ⟨v, H', os, bare, un, hok', rv, rfl⟩ := h
      obtain rfl : u = Value.bool true := rv
      refine ⟨rfl, OldK.of_keep ?_, os, bare⟩
      intro b o e
      rcases hO b with q | ⟨ob, xs, q⟩
      · exact un.keep b o e q (fun z => nomatch z) (fun z => nomatch z)
      · have e1 := (hok b _ q).1
        have e2 := (hok' b _ (un.frzs b ob _ q)).1
        rw [e1] at e
        cases e
        exact e2
theorem walkG {l : PySem.W.OpenLaw} {n k : Nat} {q : Program} {loose : List Str} {XP : (Str → Option Value) → Heap → Prop} {YP : World → Heap → Prop} {d : DefRec} {K : Params → PySem.W.Frag} {sp : PySem.W.Frag → Sp} {x : Str}
    (hn : l.most = some n) (hn2 : n ≤ sizeLine) (hdf : d.params.defaults = []) (hr : Room k callerA) (hY : ∀ (w : World) (h : Heap), YP w h → (K w.params).In h)
    (F : ∀ (w : World) (mg : Str → Option Value) (fa : Addr) (h : Heap), (K w.params).In h → h.Ns mainGlobals mg → mg d.name = some (.ref fa) →
      ∃ fd : FuncData, (∀ (s : Shared) (u : Value), BindsTo s fd ⟨[u], []⟩ [(x, u)]) ∧
        ∀ base : Heap, (K w.params).In base → base.Ns mainGlobals mg → FnG l.prog w (K w.params) mg base k fa fd [x] (sp (K w.params)))
    (hsp : ∀ (K : PySem.W.Frag) (H : Hp) (a : Addr) (ns : List Int), ns.length ≤ n → (∀ z ∈ ns, Builtin.Int.intBits z ≤ 1048576) → Only H → SqL K H a (ns.map V.int) → sp K [.ref a] H (fun v _ => v = .bl true) E0) :
    PySem.W.WalkO q loose XP YP l.row.toRowW d [] (fun f vs => PySem.call f vs) := by
  refine Att.attach_callB hn hdf ?_
  intro w s₀ s₁ mg mb fa o pm cd doc a vs ns G Y ho hd hcd hmg hobj hints hlen hbits hg
  have KX := hY w _ Y
  obtain ⟨fd, hb, hF⟩ := F w mg fa _ KX G.T.g hmg
  exact law_at KX G.T.g G.T.b G.T.builtins G.T.nolimit hg hobj hints (Nat.le_trans hlen hn2) hr hF hb fun H hO hS => hsp _ H a ns hlen hbits hO hS
end Lb

set_option maxHeartbeats 2000000
namespace Lb
open PySem PySem.Spec PyProof.Rows L2
/-! ### 3. Things: plain data, as they lie in the abstract heap, away from the object at b -/
def sD : V → PyData
  | .bl x => .bool x
  | .int i => .int i
  | .str z => .str z
  | _ => .none
def isSc : V → Bool
  | .non | .bl _ | .int _ | .str _ => true
  | _ => false
def keyD : Key → PyData
  | .inl i => .int i
  | .inr z => .str z
mutual
/-- the value v is the thing d -/
def Dat (b : Addr) (H : Hp) : PyData → V → Prop
  | .none, v => v = .non
  | .bool x, v => v = .bl x
  | .int i, v => v = .int i
  | .str z, v => v = .str z
  | .list ds, v => ∃ a vs, v = .ref a ∧ a ≠ b ∧ H a = some (.lst vs) ∧ Dats b H ds vs
  | .tuple ds, v => ∃ a vs, v = .ref a ∧ a ≠ b ∧ H a = some (.tup vs) ∧ Dats b H ds vs
  | .dict kvs, v => ∃ a es, v = .ref a ∧ a ≠ b ∧ H a = some (.dK es) ∧ kvs = es.map (fun e => (keyD e.1, sD e.2)) ∧ es.all (fun e => isSc e.2) = true
def Dats (b : Addr) (H : Hp) : List PyData → List V → Prop
  | [], vs => vs = []
  | d :: ds, vs => ∃ v r, vs = v :: r ∧ Dat b H d v ∧ Dats b H ds r
end
/-- all but the object at b stays -/
def Kp (b : Addr) (H H' : Hp) : Prop := ∀ a o, a ≠ b → H a = some o → H' a = some o
theorem Kp.refl {b : Addr} (H : Hp) : Kp b H H := fun _ _ _ h => h
theorem Kp.trans {b : Addr} {H H1 H2 : Hp} (x : Kp b H H1) (y : Kp b H1 H2) : Kp b H H2 := fun a o n h => y a o n (x a o n h)
theorem Kp.new {b p : Addr} {H : Hp} {o : HO} (h : H p = none) : Kp b H (upd H p o) := fun a u _ z => by
  rw [upd_ne (ne_of_none z h)]
  exact z
theorem Kp.own {b : Addr} {H : Hp} {o : HO} : Kp b H (upd H b o) := fun a u n z => by
  rw [upd_ne n]
  exact z
theorem Kp.of_same {b : Addr} {H H' : Hp} (h : Same H H') : Kp b H H' := fun a o _ z => h a o z
mutual
theorem Dat.mono {b : Addr} {H H' : Hp} (k : Kp b H H') : ∀ {d : PyData} {v : V}, Dat b H d v → Dat b H' d v
  | .none, _, h => by simpa only [Dat] using h
  | .bool _, _, h => by simpa only [Dat] using h
  | .int _, _, h => by simpa only [Dat] using h
  | .str _, _, h => by simpa only [Dat] using h
  | .list ds, v, h => by
    simp only [Dat] at h ⊢
    obtain ⟨a, vs, e, n, z, q⟩ := h
    exact ⟨a, vs, e, n, k a _ n z, Dats.mono k q⟩
  | .tuple ds, v, h => by
    simp only [Dat] at h ⊢
    obtain ⟨a, vs, e, n, z, q⟩ := h
    exact ⟨a, vs, e, n, k a _ n z, Dats.mono k q⟩
  | .dict kvs, v, h => by
    simp only [Dat] at h ⊢
    obtain ⟨a, es, e, n, z, q⟩ := h
    exact ⟨a, es, e, n, k a _ n z, q⟩
theorem Dats.mono {b : Addr} {H H' : Hp} (k : Kp b H H') : ∀ {ds : List PyData} {vs : List V}, Dats b H ds vs → Dats b H' ds vs
  | [], _, h => by simpa only [Dats] using h
  | d :: ds, vs, h => by
    simp only [Dats] at h ⊢
    obtain ⟨v, r, e, x, y⟩ := h
    exact ⟨v, r, e, Dat.mono k x, Dats.mono k y⟩
end
theorem Dats.length {b : Addr} {H : Hp} : ∀ {ds : List PyData} {vs : List V}, Dats b H ds vs → ds.length = vs.length
  | [], _, h => by
    simp only [Dats] at h
    rw [h]
    rfl
  | d :: ds, vs, h => by
    simp only [Dats] at h
    obtain ⟨v, r, rfl, _, y⟩ := h
    rw [List.length_cons, List.length_cons, Dats.length y]
theorem Dats.get {b : Addr} {H : Hp} : ∀ {ds : List PyData} {vs : List V} {i : Nat} {v : V}, Dats b H ds vs → vs[i]? = some v → ∃ d, ds[i]? = some d ∧ Dat b H d v
  | [], vs, i, v, h, e => by
    simp only [Dats] at h
    rw [h] at e
    simp at e
  | d :: ds, vs, i, v, h, e => by
    simp only [Dats] at h
    obtain ⟨x, r, rfl, y, z⟩ := h
    cases i with
    | zero =>
      simp at e
      subst e
      exact ⟨d, rfl, y⟩
    | succ i =>
      simp at e
      obtain ⟨d', h1, h2⟩ := Dats.get z e
      exact ⟨d', by simpa using h1, h2⟩
theorem Dats.app {b : Addr} {H : Hp} : ∀ {ds es : List PyData} {vs us : List V}, Dats b H ds vs → Dats b H es us → Dats b H (ds ++ es) (vs ++ us)
  | [], es, vs, us, h, k => by
    simp only [Dats] at h
    rw [h]
    exact k
  | d :: ds, es, vs, us, h, k => by
    simp only [Dats] at h
    obtain ⟨x, r, rfl, y, z⟩ := h
    show Dats b H (d :: (ds ++ es)) (x :: (r ++ us))
    simp only [Dats]
    exact ⟨x, r ++ us, rfl, y, Dats.app z k⟩
theorem Dats.tk {b : Addr} {H : Hp} : ∀ {ds : List PyData} {vs : List V} (n : Nat), Dats b H ds vs → Dats b H (ds.take n) (vs.take n)
  | ds, vs, 0, h => by
    show Dats b H [] []
    simp only [Dats]
  | [], vs, n + 1, h => by
    simp only [Dats] at h
    rw [h]
    simp only [List.take_nil, Dats]
  | d :: ds, vs, n + 1, h => by
    simp only [Dats] at h
    obtain ⟨x, r, rfl, y, z⟩ := h
    show Dats b H (d :: ds.take n) (x :: r.take n)
    simp only [Dats]
    exact ⟨x, _, rfl, y, Dats.tk n z⟩
theorem Dats.dp {b : Addr} {H : Hp} : ∀ {ds : List PyData} {vs : List V} (n : Nat), Dats b H ds vs → Dats b H (ds.drop n) (vs.drop n)
  | ds, vs, 0, h => h
  | [], vs, n + 1, h => by
    simp only [Dats] at h
    rw [h]
    simp only [List.drop_nil, Dats]
  | d :: ds, vs, n + 1, h => by
    simp only [Dats] at h
    obtain ⟨x, r, rfl, y, z⟩ := h
    exact Dats.dp n z
theorem dats_strs {b : Addr} {H : Hp} : ∀ ws : List Str, Dats b H (ws.map PyData.str) (ws.map V.str)
  | [] => by simp only [List.map_nil, Dats]
  | x :: r => by
    simp only [List.map_cons, Dats, Dat]
    exact ⟨_, _, rfl, rfl, dats_strs r⟩
/-! how they lie in the heap itself -/
theorem reads_sc {h : Heap} {v : V} {u : Value} (s : isSc v = true) (r : RelV v u) : Reads h u (sD v) [] := by
  cases v with
  | non => cases (show u = Value.none from r); exact .none
  | bl x => cases (show u = Value.bool x from r); exact .bool x
  | int i => obtain ⟨t, e⟩ := (show ∃ t, u = Value.int i t from r); cases e; exact .int i t
  | str z => obtain ⟨t, e⟩ := (show ∃ t, u = Value.str z t from r); cases e; exact .str z t
  | byt x => cases s
  | flt x => cases s
  | ref x => cases s
  | ty x => cases s
theorem reads_key {h : Heap} {k : Key} {u : Value} (s : keyIs k u = true) : Reads h u (keyD k) [] := by
  rcases keyIs_shape s with ⟨i, t, rfl, rfl⟩ | ⟨x, t, rfl, rfl⟩
  · exact .int i t
  · exact .str x t
theorem reads_kv {P : Program} {w : World} {h : Heap} : ∀ {es : List (Key × V)} {vs : List (Key × Value)} {ds : List DictEntry}, KV es vs → Pairs (mixKind P w) ds vs → es.all (fun e => isSc e.2) = true →
    ReadsAll h (ds.map (·.key)) (es.map fun e => keyD e.1) [] ∧ ReadsAll h (ds.map (·.val)) (es.map fun e => sD e.2) []
  | _, _, _, .nil, .nil, _ => ⟨.nil, .nil⟩
  | _, _, _, .cons (a := x) (b := y) r t, .cons (e := n) k v p, a => by
    simp only [List.all_cons, Bool.and_eq_true] at a
    obtain ⟨h1, h2⟩ := reads_kv (h := h) t p a.2
    constructor
    · have k2 : keyIs x.1 n.key = true := by rw [r.1]; exact k
      have q := ReadsAll.cons (reads_key (h := h) k2) h1
      simpa using q
    · have v2 : RelV x.2 n.val := by rw [v]; exact r.2
      have q := ReadsAll.cons (reads_sc (h := h) a.1 v2) h2
      simpa using q
mutual
theorem reads_of {P : Program} {w : World} {b : Addr} {H : Hp} {h : Heap} (ok : HOk P w H h) : ∀ {d : PyData} {v : V} {u : Value}, Dat b H d v → RelV v u → ∃ as, Reads h u d as
  | .none, v, u, q, r => by
    simp only [Dat] at q
    subst q
    exact ⟨_, reads_sc (v := .non) rfl r⟩
  | .bool x, v, u, q, r => by
    simp only [Dat] at q
    subst q
    exact ⟨_, reads_sc (v := .bl x) rfl r⟩
  | .int x, v, u, q, r => by
    simp only [Dat] at q
    subst q
    exact ⟨_, reads_sc (v := .int x) rfl r⟩
  | .str x, v, u, q, r => by
    simp only [Dat] at q
    subst q
    exact ⟨_, reads_sc (v := .str x) rfl r⟩
  | .list ds, v, u, q, r => by
    simp only [Dat] at q
    obtain ⟨a, vs, rfl, _, z, y⟩ := q
    obtain rfl : u = Value.ref a := r
    obtain ⟨_, its, n, rv, e⟩ := ok a _ z
    obtain ⟨as, k⟩ := reads_all ok y rv
    exact ⟨_, .list e rfl rfl k⟩
  | .tuple ds, v, u, q, r => by
    simp only [Dat] at q
    obtain ⟨a, vs, rfl, _, z, y⟩ := q
    obtain rfl : u = Value.ref a := r
    obtain ⟨_, its, rv, o, e1, e2, n, e3⟩ := ok a _ z
    obtain ⟨as, k⟩ := reads_all ok y rv
    exact ⟨_, .tuple e1 e2 e3 k⟩
  | .dict kvs, v, u, q, r => by
    simp only [Dat] at q
    obtain ⟨a, es, rfl, _, z, y, sc⟩ := q
    obtain rfl : u = Value.ref a := r
    obtain ⟨_, _, vs, kv, o, ds, ep, e1, e2, e3, _, p, _⟩ := ok a _ z
    obtain ⟨k1, k2⟩ := reads_kv (h := h) kv p sc
    subst y
    refine ⟨_, .dict e1 e2.1 e3 (as := []) (bs := []) ?_ ?_⟩
    · rw [List.map_map]
      exact k1
    · rw [List.map_map]
      exact k2
theorem reads_all {P : Program} {w : World} {b : Addr} {H : Hp} {h : Heap} (ok : HOk P w H h) : ∀ {ds : List PyData} {vs : List V} {us : List Value}, Dats b H ds vs → Vals vs us → ∃ as, ReadsAll h us ds as
  | [], vs, us, q, r => by
    simp only [Dats] at q
    subst q
    cases r
    exact ⟨_, .nil⟩
  | d :: ds, vs, us, q, r => by
    simp only [Dats] at q
    obtain ⟨x, t, rfl, y, z⟩ := q
    cases r with
    | cons r1 r2 =>
      obtain ⟨as, k1⟩ := reads_of ok y r1
      obtain ⟨bs, k2⟩ := reads_all ok z r2
      exact ⟨_, .cons k1 k2⟩
end
end Lb

set_option maxHeartbeats 2000000
namespace Lb
open PySem PySem.Spec PyProof.Rows L2
/-! ### 4. repr of a thing -/
/-- a part of a list that is shown: no dict, or a dict itself (of plain values) -/
def itemOk : PyData → Bool
  | .dict _ => true
  | d => !d.hasDict
def topOk : PyData → Bool
  | .list ds => ds.all itemOk
  | .tuple ds => ds.all itemOk
  | d => itemOk d
theorem reads_item {P : Program} {w : World} {b : Addr} {H : Hp} {h : Heap} (ok : HOk P w H h) {d : PyData} {v : V} {u : Value} (q : Dat b H d v) (r : RelV v u) (k : itemOk d = true) :
    ∃ as, Reads h u d as ∧ (d.hasDict = true → sysModules ∉ as) := by
  by_cases hd : d.hasDict = true
  · cases d with
    | dict kvs =>
      simp only [Dat] at q
      obtain ⟨a, es, rfl, _, z, y, sc⟩ := q
      obtain rfl : u = Value.ref a := r
      obtain ⟨_, ns, vs, kv, o, ds, ep, e1, e2, e3, _, p, _⟩ := ok a _ z
      obtain ⟨k1, k2⟩ := reads_kv (h := h) kv p sc
      subst y
      refine ⟨a :: ([] ++ []), .dict e1 e2.1 e3 (as := []) (bs := []) ?_ ?_, fun _ hm => ?_⟩
      · rw [List.map_map]
        exact k1
      · rw [List.map_map]
        exact k2
      · have z : sysModules = a := by simpa using hm
        rw [← z] at ns
        simp at ns
    | _ => simp [itemOk, hd] at k
  · obtain ⟨as, k⟩ := reads_of ok q r
    exact ⟨as, k, fun z => absurd z hd⟩
theorem repr_items {P : Program} {w : World} {b : Addr} {H : Hp} {h : Heap} (ok : HOk P w H h) : ∀ {ds : List PyData} {vs : List V} {us : List Value}, Dats b H ds vs → Vals vs us → ds.all itemOk = true →
    PyData.showableAll ds = true → (∀ t ∈ PyData.shownAll ds, t.length ≤ sizeLine) → ∃ bs, ReadAtMost h (PyData.depthAll ds) bs ∧ ReprAllK P w bs h (PyData.depthAll ds) us (PyData.shownAll ds)
  | [], vs, us, q, r, _, _, _ => by
    simp only [Dats] at q
    subst q
    cases r
    exact ⟨[], (fun _ z => nomatch z), by simp only [PyData.shownAll]; exact .nil⟩
  | d :: ds, vs, us, q, r, k, sh, sz => by
    simp only [Dats] at q
    obtain ⟨x, t, rfl, y, z⟩ := q
    simp only [List.all_cons, Bool.and_eq_true] at k
    simp only [PyData.showableAll, Bool.and_eq_true] at sh
    simp only [PyData.shownAll] at sz
    cases r with
    | cons r1 r2 =>
      obtain ⟨as, k1, k2⟩ := reads_item ok y r1 k.1
      obtain ⟨b1, m1, p1⟩ := ReprK.of_reads (prog := P) (w := w) k1 sh.1 k2 (sz _ List.mem_cons_self)
      obtain ⟨b2, m2, p2⟩ := repr_items ok z r2 k.2 sh.2 fun t ht => sz t (List.mem_cons_of_mem _ ht)
      simp only [PyData.depthAll, PyData.shownAll]
      have l1 := Nat.le_max_left d.depth (PyData.depthAll ds)
      have l2 := Nat.le_max_right d.depth (PyData.depthAll ds)
      exact ⟨b1 ++ b2, (m1.mono l1).append (m2.mono l2), .cons ((p1.more fun _ hb => List.mem_append_left _ hb).level_le l1) (p2.more_le (fun _ hb => List.mem_append_right _ hb) l2)⟩
/-- what repr asks of a thing -/
structure Shows (d : PyData) : Prop where
  sh : d.showable = true
  top : topOk d = true
  dep : d.depth ≤ 50
  len : d.shown.length ≤ 1000000
theorem Shows.sz {d : PyData} (h : Shows d) : d.shown.length ≤ sizeLine := Nat.le_trans h.len (by decide)
def rRepr : List V → Hp → VK → Prop := fun xs H Q => ∃ (b : Addr) (v : V) (d : PyData), xs = [v] ∧ Dat b H d v ∧ Shows d ∧ Q (.str d.shown) H
theorem call_repr {X : Cx} {k : Nat} (noG : X.A.guards = some []) (hr : Room k X.A) : CallR X (.builtin "repr") rRepr := by
  rintro pins s σ H xs us Q I r ⟨b, v, d, rfl, q, S, wish⟩
  obtain ⟨u, rfl, r1⟩ := vals1 r
  have un := hr.un
  have fin : ∀ h' t tk, (∀ c o, s.heap.get? c = some o → h'.get? c = some o) → EP X pins σ Q (.str d.shown t) { s with heap := h', toks := tk } :=
    fun h' t tk hk => ⟨.str d.shown, H, I.kept hk, ⟨t, rfl⟩, wish⟩
  cases d with
  | none =>
    simp only [Dat] at q
    subst q
    obtain rfl : u = Value.none := r1
    have z := fin s.heap s.toks (s.toks + 1) fun _ _ e => e
    simp only [PyData.shown] at z
    exact PySem.P.repr_of_none z
  | bool x =>
    simp only [Dat] at q
    subst q
    obtain rfl : u = Value.bool x := r1
    have z := fin s.heap s.toks (s.toks + 1) fun _ _ e => e
    simp only [PyData.shown] at z
    exact PySem.P.repr_of_bool z
  | int i =>
    simp only [Dat] at q
    subst q
    obtain ⟨t, rfl⟩ : ∃ t, u = Value.int i t := r1
    have z := fin s.heap s.toks (s.toks + 1) fun _ _ e => e
    simp only [PyData.shown] at z
    exact PySem.P.repr_of_int (by simpa [PyData.showable] using S.sh) z
  | str x =>
    simp only [Dat] at q
    subst q
    obtain ⟨t, rfl⟩ : ∃ t, u = Value.str x t := r1
    have z := fin s.heap s.toks (s.toks + 1) fun _ _ e => e
    have sz := S.sz
    simp only [PyData.shown] at z sz
    exact PySem.P.repr_of_str z sz
  | list ds =>
    have q0 := q
    simp only [Dat] at q
    obtain ⟨a, vs, rfl, _, z, y⟩ := q
    obtain rfl : u = Value.ref a := r1
    obtain ⟨_, its, n, rv, e⟩ := I.hok a _ z
    have sz := S.sz
    have sh := S.sh
    have dep := S.dep
    simp only [PyData.shown] at sz fin
    simp only [PyData.showable] at sh
    simp only [PyData.depth] at dep
    obtain ⟨bs, m, p⟩ := repr_items I.hok y rv S.top sh fun t ht => Nat.le_trans (listText_mem_le ht) sz
    obtain ⟨as, rd⟩ := reads_of I.hok q0 (show RelV (.ref a) (.ref a) from rfl)
    have na : a ∉ bs := not_mem_of_deeper rd (by simp only [PyData.depth]; omega) m
    refine call_repr_slot (by omega) ⟨_, e, rfl⟩ F.slot_list_repr.toG ?_
    cases its with
    | nil =>
      cases rv
      have y2 := y.length
      have e2 : ds = [] := List.length_eq_zero_iff.mp y2
      subst e2
      simp only [PyData.shownAll, listText_nil] at fin
      exact call_list_repr_empty ⟨_, e, rfl⟩ e rfl ⟨_, _, rfl, fin s.heap _ _ fun _ _ e => e⟩
    | cons x l =>
      refine call_list_reprK (h₀ := s.heap) e rfl rfl na (by simpa using p.length_eq) (fun i y e => p.item i y (by simpa using e)) (A := X.A.in1) noG (fun c _ => Clear.nil c) ?_ (fun _ _ e => e) (fun h' t tk hk => ⟨_, _, rfl, fin h' t tk hk⟩) sz
      show X.A.units + 1 + (PyData.depthAll ds + 1) < cLine
      omega
  | tuple ds =>
    have q0 := q
    simp only [Dat] at q
    obtain ⟨a, vs, rfl, _, z, y⟩ := q
    obtain rfl : u = Value.ref a := r1
    obtain ⟨_, its, rv, o, e, e2, n, e3⟩ := I.hok a _ z
    have sz := S.sz
    have sh := S.sh
    have dep := S.dep
    simp only [PyData.shown] at sz fin
    simp only [PyData.showable] at sh
    simp only [PyData.depth] at dep
    obtain ⟨bs, m, p⟩ := repr_items I.hok y rv S.top sh fun t ht => Nat.le_trans (tupleText_mem_le ht) sz
    obtain ⟨as, rd⟩ := reads_of I.hok q0 (show RelV (.ref a) (.ref a) from rfl)
    have na : a ∉ bs := not_mem_of_deeper rd (by simp only [PyData.depth]; omega) m
    refine call_repr_slot (by omega) ⟨_, e, e2⟩ F.slot_tuple_repr ?_
    refine call_tuple_reprK (h₀ := s.heap) e e2 e3 na p (A := X.A.in1) noG (fun c _ => Clear.nil c) ?_ (fun _ _ e => e) (fun h' t tk hk => ⟨_, _, rfl, fin h' t tk hk⟩) sz
    show X.A.units + 1 + (PyData.depthAll ds + 1) < cLine
    omega
  | dict kvs =>
    have q0 := q
    simp only [Dat] at q
    obtain ⟨a, es, rfl, _⟩ := q
    obtain ⟨as, rd, ns⟩ := reads_item I.hok q0 r1 rfl
    obtain rfl : u = Value.ref a := r1
    have dep := S.dep
    exact repr_of_reads' rd S.sh ns noG (by omega) (fun _ _ e => e) fin S.sz
end Lb

set_option maxHeartbeats 3200000
namespace Lb
open PySem PySem.Spec PyProof.Rows L2
/-! ### 5. len(set(texts)) -/
/-- each text at its first place -/
def uq (xs : List Str) : List Str := xs.foldl (fun s x => if x ∈ s then s else s ++ [x]) []
theorem uq_snoc (xs : List Str) (x : Str) : uq (xs ++ [x]) = if x ∈ uq xs then uq xs else uq xs ++ [x] := by
  unfold uq
  rw [List.foldl_append]
  rfl
theorem uq_ind {P : List Str → Prop} (h0 : P []) (h1 : ∀ l x, P l → P (l ++ [x])) (xs : List Str) : P xs := by
  have q : ∀ ys : List Str, P ys.reverse := by
    intro ys
    induction ys with
    | nil => exact h0
    | cons y r ih =>
      rw [List.reverse_cons]
      exact h1 _ _ ih
  have := q xs.reverse
  rwa [List.reverse_reverse] at this
theorem uq_mem (xs : List Str) : ∀ k, k ∈ uq xs ↔ k ∈ xs := by
  refine uq_ind (P := fun xs => ∀ k, k ∈ uq xs ↔ k ∈ xs) (fun k => Iff.rfl) (fun l x ih k => ?_) xs
  rw [uq_snoc]
  by_cases h : x ∈ uq l
  · rw [if_pos h, ih, List.mem_append, List.mem_singleton]
    constructor
    · exact .inl
    · rintro (z | rfl)
      · exact z
      · exact (ih _).mp h
  · rw [if_neg h, List.mem_append, List.mem_append, ih]
theorem uq_len (xs : List Str) : (uq xs).length ≤ xs.length ∧ ((uq xs).length = xs.length ↔ xs.Nodup) := by
  refine uq_ind (P := fun xs => (uq xs).length ≤ xs.length ∧ ((uq xs).length = xs.length ↔ xs.Nodup)) ⟨Nat.le_refl _, fun _ => List.nodup_nil, fun _ => rfl⟩ (fun l x ih => ?_) xs
  rw [uq_snoc, List.length_append, List.length_singleton]
  have nd : (l ++ [x]).Nodup ↔ (l.Nodup ∧ x ∉ l) := by
    rw [List.nodup_append]
    constructor
    · rintro ⟨h1, _, h3⟩
      exact ⟨h1, fun z => h3 x z x (List.mem_singleton.mpr rfl) rfl⟩
    · rintro ⟨h1, h2⟩
      refine ⟨h1, List.nodup_cons.mpr ⟨(fun z => nomatch z), List.nodup_nil⟩, fun a ha b hb e => ?_⟩
      rw [List.mem_singleton.mp hb] at e
      exact h2 (e ▸ ha)
  rw [nd]
  by_cases h : x ∈ uq l
  · rw [if_pos h]
    refine ⟨by omega, fun z => by omega, fun z => absurd ((uq_mem l x).mp h) z.2⟩
  · rw [if_neg h, List.length_append, List.length_singleton]
    have hx : x ∉ l := fun z => h ((uq_mem l x).mpr z)
    refine ⟨by omega, fun z => ⟨ih.2.mp (by omega), hx⟩, fun z => ?_⟩
    have := ih.2.mpr z.1
    omega
section
variable {prog : Program} {w : World} {A : Around}
/-- the set that is made is held by what has been met -/
abbrev Holds (prog : Program) (w : World) (h : Heap) (S : Addr) (xs : List Str) : Prop := h.SetOf (PySem.strKind prog w) S (fun k => decide (k ∈ uq xs)) (uq xs).length
theorem set_loop {R : Result → Shared → Prop} {I : Addr} {fp wr : List Addr} {G : Array GenState → Array GenState → Prop} {n : Nat} {P : Nat → Value → Prop} {St : Nat → Shared → Prop}
    (W : WalksS prog w A.in1 I fp wr G n P St) (S : Addr) (out : S ∉ fp) (xs : List Str) (len : xs.length = n) (few : n + 1 < scanBound) (at_ : ∀ i v, P i v → ∃ x t, xs[i]? = some x ∧ v = .str x t) :
    ∀ (left i : Nat) (s : Shared), i + left = n → St i s → Holds prog w s.heap S (xs.take i) →
      (∀ s', Moved (S :: wr) G s s' → Holds prog w s'.heap S xs → R (.ok (.ret .none)) s') → codeAny (model prog w) A (.builtin "set.update.loop" ⟨[.ref S, .ref I], []⟩) R s := by
  have outW : S ∉ wr := fun z => out (W.sub _ z)
  have more : ∀ b ∈ wr, b ∈ S :: wr := fun b z => List.mem_cons_of_mem _ z
  have keep : ∀ {s s' : Shared} {ys : List Str}, Moved wr G s s' → Holds prog w s.heap S ys → Holds prog w s'.heap S ys := by
    rintro s s' ys m ⟨o, es, ep, t, ho, r⟩
    exact ⟨o, es, ep, t, m.heap S _ outW ho, r⟩
  intro left
  induction left with
  | zero =>
    intro i s e st held fin
    have ei : i = n := by omega
    subst ei
    rw [List.take_of_length_le (Nat.le_of_eq len)] at held
    refine codeAny_builtin F.entry_set_update_loop ?_
    rw [Around.under_plainId F.plain_set_update_loop _]
    show wpAny _ A.in1 (pyNext (.ref I) >>= _) _ _ s
    refine wpAny_bind (W.done s _ _ st fun s' m => ?_)
    show wpAny _ A.in1 (ret Value.none) _ _ s'
    exact wpAny_pure (fin s' (m.mono more) (keep m held))
  | succ left ih =>
    intro i s e st held fin
    have lt : i < n := by omega
    refine codeAny_builtin F.entry_set_update_loop ?_
    rw [Around.under_plainId F.plain_set_update_loop _]
    show wpAny _ A.in1 (pyNext (.ref I) >>= _) _ _ s
    refine wpAny_bind (W.item i s _ _ lt st fun v s' here st' m => ?_)
    obtain ⟨x, t, ex, rfl⟩ := at_ i v here
    have held' := keep m held
    show wpAny _ A.in1 (holding [Value.str x t] (setAdd S (.str x t)) >>= _) _ _ s'
    refine wpAny_bind (wpAny_holding ?_)
    unfold setAdd
    refine wpAny_holding ?_
    refine wpAny_bind ((PySem.strKind prog w).pyHash (k := x) (strKind_is _ _ _ _) ?_)
    have room : (uq (xs.take i)).length + 1 < scanBound := by
      have h1 := (uq_len (xs.take i)).1
      have h2 : (xs.take i).length ≤ i := by rw [List.length_take]; exact Nat.min_le_left _ _
      omega
    refine wpAny_setAddHashed_of (knd := PySem.strKind prog w) (s := { s' with toks := s'.toks + 1 }) (strKind_is _ _ _ _) rfl held' room fun h' but new => ?_
    have next : Holds prog w h' S (xs.take (i + 1)) := by
      have et : xs.take (i + 1) = xs.take i ++ [x] := by
        rw [List.take_add_one, ex]
        rfl
      show h'.SetOf (PySem.strKind prog w) S (fun k => decide (k ∈ uq (xs.take (i + 1)))) (uq (xs.take (i + 1))).length
      rw [et, uq_snoc]
      by_cases h : x ∈ uq (xs.take i)
      · rw [if_pos h]
        refine SetOf_congr new (fun k => ?_) (by rw [decide_eq_true h]; rfl)
        by_cases hk : k = x
        · subst hk
          simp [h]
        · simp [hk]
      · rw [if_neg h]
        refine SetOf_congr new (fun k => ?_) (by rw [decide_eq_false h, List.length_append]; rfl)
        by_cases hk : k = x
        · subst hk
          simp
        · simp [hk]
    refine wpAny_pure ⟨plainId_quiet F.plain_set_update_loop _, ih (i + 1) _ (by omega) (W.frame _ s' _ _ st' (Nat.le_succ _) fun b hb o e => ?_) next fun s2 m2 held2 => ?_⟩
    · rw [but.2 b (fun z : b = S => out (z ▸ hb))]
      exact e
    · refine fin s2 (Moved.trans W.gtrans ((m.mono more).then_heap (Nat.le_succ _) fun b o hb e => ?_) m2) held2
      rw [but.2 b (fun z : b = S => hb (z ▸ List.mem_cons_self))]
      exact e
end
theorem strs_get : ∀ {xs : List Str} {us : List Value} {i : Nat} {v : Value}, Vals (xs.map V.str) us → us[i]? = some v → ∃ x t, xs[i]? = some x ∧ v = .str x t
  | [], _, i, v, .nil, e => by simp at e
  | x :: r, _, 0, v, .cons h _, e => by
    obtain ⟨t, rfl⟩ := h
    simp at e
    exact ⟨x, t, rfl, e.symm⟩
  | x :: r, _, i + 1, v, .cons _ h, e => by
    obtain ⟨y, t, h1, h2⟩ := strs_get h (by simpa using e)
    exact ⟨y, t, by simpa using h1, h2⟩
/-- a set without members, as set.__new__ lays it -/
abbrev bareSet (led : Bool) : Obj := { cls := .type "set", dict := none, data := .set #[] 0 (.fresh 0 0 led) }
section
variable {prog : Program} {w : World} {A : Around} {E : Value → Shared → Prop} {s : Shared}
theorem set_of_texts {l : Addr} {its : List Value} {xs : List Str} {Q : Value → Shared → Prop} (calm : A.handled = none) (hl : s.heap.IsList l its.toArray) (rv : Vals (xs.map V.str) its) (few : xs.length + 1 < scanBound)
    (h : ∀ (h' : Heap) (tk : Nat), Holds prog w h' s.heap.objs.size xs → (∀ b o, b < s.heap.objs.size → s.heap.get? b = some o → h'.get? b = some o) → Q (.ref s.heap.objs.size) { s with heap := h', toks := tk }) :
    wpAny (model prog w) A (call (.type "set") [.ref l]) Q E s := by
  obtain ⟨c, tl, m0⟩ := F.called_set.mro
  have m1 := F.called_set.made
  have m2 := F.called_set.sub
  have m3 := F.called_set.notType
  have m4 := F.called_set.canCreate
  have m5 := F.typeCall_set_1 (.ref l)
  have lenI : xs.length = its.length := by rw [← rv.length, List.length_map]
  refine wpAny_call (codeAny_of_tree ?_)
  show wpAny _ _ (callAny (.type "set") _) _ _ _
  refine wpAny_pure ⟨Code.quiet_builtin _ (by decide +kernel), codeAny_builtin F.entry_type_call ?_⟩
  rw [Around.under_plain (weight_type_call_type "set" [.ref l] []) rfl]
  repeat any_goals first | assumption | wp_step
  refine codeAny_mono (code_set_new_1 (.ref l) (E := E) (Q₁ := fun v s1 => ∃ led : Bool, v = .ref s.heap.objs.size ∧ s1 = { s with heap := s.heap.push (bareSet led) }) fun led => ⟨led, rfl, rfl⟩) ?_
  intro r s1 hr
  cases r with
  | error e => exact hr
  | ok fl =>
    cases fl with
    | ret v =>
      obtain ⟨led, rfl, rfl⟩ := hr
      have at1 : (s.heap.push (bareSet led)).get? s.heap.objs.size = some (bareSet led) := Heap.get?_push_size _ rfl
      have ty1 : Shared.TypeIs { s with heap := s.heap.push (bareSet led) } (.ref s.heap.objs.size) "set" := ⟨_, at1, rfl⟩
      have m6 := F.called_set.init.lookup
      have m7 := F.called_set.init.bind (.ref s.heap.objs.size)
      repeat any_goals first | assumption | wp_step
      refine codeAny_mono (codeAny_call_builtin (R := wants (fun r s2 => r = .none ∧ ∃ h' tk, s2 = { s with heap := h', toks := tk } ∧ Holds prog w h' s.heap.objs.size xs ∧
        (∀ b o, b < s.heap.objs.size → s.heap.get? b = some o → h'.get? b = some o)) E) F.called_set.init.plain F.entry_set_init (check_set_init_1 ty1 ?_)) ?_
      · obtain ⟨⟨oc, od, dt, sl⟩, ho, hc, n, hd⟩ := hl
        simp only at hc hd
        subst hc
        subst hd
        have at2 : (s.heap.push (bareSet led)).get? l = some { cls := .type "list", dict := od, data := .seq its.toArray n, slots := sl } := Heap.get?_push_of_some _ ho
        have m8 := F.sub_list_set
        have m9 := F.sub_list_frozenset
        have m10 : (Value.type "list" == Value.type "dict") = false := by decide
        have isl : (s.heap.push (bareSet led)).IsList l its.toArray := ⟨_, at2, rfl, n, rfl⟩
        unfold Builtin.«set.__init__» noKeywords Builtin.Frozenset.updateFrom
        generalize eIt : pyIter = It
        wp_walk
        subst eIt
        refine wpAny_pyIter_list isl ?_
        refine wpAny_bind (wpAny_runValue ?_)
        have below : l < s.heap.objs.size := Heap.lt_size ho
        have calm3 : A.in1.in1.in1.handled = none := by simp [calm]
        have ne1 : l ≠ (s.heap.push (bareSet led)).objs.size := by
          rw [Heap.size_push]
          exact Nat.ne_of_lt (Nat.lt_succ_of_lt below)
        have out : s.heap.objs.size ∉ [(s.heap.push (bareSet led)).objs.size, l] := by
          rw [Heap.size_push]
          intro z
          rcases List.mem_cons.mp z with z | z
          · exact absurd z (Nat.ne_of_lt (Nat.lt_succ_self _))
          · exact absurd (List.mem_singleton.mp z) (Nat.ne_of_gt below)
        refine set_loop ((Walks.list calm3 _ l ne1 its.toArray).toS) s.heap.objs.size out xs (by rw [List.size_toArray]; exact lenI) (by rw [List.size_toArray, ← lenI]; exact few)
          (fun i v hv => strs_get rv (by simpa using hv)) its.toArray.size 0 _ (by omega) ⟨⟨_, Heap.get?_push_size _ rfl, rfl, rfl⟩, (isl.push _)⟩ ?_ ?_
        · have at3 : ((s.heap.push (bareSet led)).push { cls := .type "list_iterator", data := .fields #[.ref l, .int 0 0] }).get? s.heap.objs.size = some (bareSet led) := Heap.get?_push_of_some _ at1
          exact SetOf_congr ((setObjOf_fresh (knd := PySem.strKind prog w) led).setOf at3 (by unfold scanBound; omega)) (fun _ => rfl) rfl
        · intro s3 m held
          obtain ⟨h3, g3, d3, t3, o3⟩ := s3
          obtain rfl : g3 = s.gens := m.gens
          obtain rfl : d3 = s.drawn := m.drawn
          obtain rfl : o3 = s.os := m.os
          show wpAny _ _ _ _ _ _
          refine wpAny_pure ?_
          show wpAny _ _ (ret Value.none) _ _ _
          refine wpAny_pure ⟨rfl, h3, t3, rfl, held, fun b o hb e => ?_⟩
          refine m.heap b o ?_ (Heap.get?_push_of_some _ (Heap.get?_push_of_some _ e))
          rw [Heap.size_push]
          intro z
          rcases List.mem_cons.mp z with z | z
          · exact absurd z (Nat.ne_of_lt hb)
          · exact absurd (List.mem_singleton.mp z) (Nat.ne_of_lt (Nat.lt_succ_of_lt hb))
      · intro r2 s2 hr2
        cases r2 with
        | error e => exact hr2
        | ok f2 =>
          cases f2 with
          | ret v2 =>
            obtain ⟨rfl, h3, t3, rfl, held, k3⟩ := hr2
            repeat any_goals first | assumption | wp_step
            exact h _ _ held k3
          | _ => exact hr2.elim
    | _ => exact hr.elim
end
/-- len(set(e)), e a list of texts -/
def tLenTexts (K : PySem.W.Frag) (ta : TE) : TE := fun σ H Q => ta σ H fun x H1 => ∃ (l : Addr) (xs : List Str), x = .ref l ∧ SqL K H1 l (xs.map V.str) ∧ xs.length ≤ 1000 ∧ Q (.int (uq xs).length) H1
theorem pe_lenTexts {X : Cx} {a : Expr} {ta : TE} {p p2 q pos : Pos} (calm : X.calm = true) (h1 : Gl X "len") (n1 : X.mg "len" = none) (h2 : Gl X "set") (n2 : X.mg "set" = none) (ha : PE X a ta)
    (hs : starEach [a] X.env = (false, eval a X.env) :: starEach [] X.env := by rfl) : PE X (.Call (.Name "len" p) [.Call (.Name "set" p2) [a] [] q] [] pos) (tLenTexts X.K ta) := by
  constructor
  intro pins s σ H Q I h
  refine Call_ (ld_blt I h1 n1 boot_len ?_)
  refine PyProof.Rows.callWith_builtin1 (PyProof.Rows.args_cons ?_ rfl) rfl rfl
  refine Call_ (ld_blt I h2 n2 boot_set ?_)
  refine PyProof.Rows.callWith_type1 (PyProof.Rows.args_cons (thn (ha.run pins s σ H _ I h) ?_) hs) hs rfl
  rintro v s1 ⟨x, H1, I1, r1, l, xs, rfl, sq, few, wish⟩
  refine PyProof.Rows.args_nil ?_
  cases r1
  obtain ⟨its, rv, pl, _⟩ := I1.list sq
  have b : scanBound = 4096 := rfl
  refine set_of_texts (I1.ok.hd calm) pl.isList rv (by omega) fun h' tk held keep => ?_
  refine PyProof.Rows.args_nil ?_
  obtain ⟨o, es, ep, t, ho, hex, hd, _, _, _, hf, hn⟩ := held
  have I2 : Inv X pins σ H1 { s1 with heap := h', toks := tk } := I1.kept fun b o e => keep b o (Heap.lt_size e) e
  have lim := (uq_len xs).1
  exact call_len_set ho hex hd hf (by rw [hn]; omega) ⟨.int (uq xs).length, H1, I2.tok _, ⟨_, by rw [hn]⟩, wish⟩
end Lb

set_option maxHeartbeats 2000000
namespace Lb
open PySem PySem.Spec PyProof.Rows L2
/-! ### 6. The law's bag of numbers -/
def rGetL (K : PySem.W.Frag) : V → V → Hp → VK → Prop := fun x y H Q => ∃ (p : Addr) (xs : List V) (i : Nat) (v : V), x = .ref p ∧ y = .int i ∧ SqL K H p xs ∧ xs[i]? = some v ∧ Q v H
theorem get_list {X : Cx} : PGet X (rGetL X.K) := by
  rintro pins s σ H x y u v Q I rx ry ⟨p, xs, i, z, rfl, rfl, sq, at_, wish⟩
  cases rx
  obtain ⟨t, rfl⟩ := ry
  obtain ⟨its, r, pl, hz⟩ := I.list sq
  obtain ⟨k, ek, rk⟩ := r.get at_
  have lt : i < xs.length := (List.getElem?_eq_some_iff.mp at_).1
  have l63 := line63
  exact wpAny_getItem_list pl.isList (Int.natCast_nonneg i) (by omega) (by simpa using ek) ⟨z, H, I, rk, wish⟩
structure Bag (H : Hp) (b c : Addr) : Prop where
  ex : ∃ (n st p : Int) (ns : List Int), H b = some (.lst [.int n, .int st, .int p, .ref c]) ∧ H c = some (.lst (ns.map V.int)) ∧ 0 ≤ n ∧ 0 ≤ p ∧ (∀ z ∈ ns, 0 ≤ z) ∧ ns.length ≤ 63
  ne : c ≠ b
theorem Bag.kp {H H' : Hp} {b c : Addr} (B : Bag H b c) (h : ∀ a, a ≠ b → H' a = H a) {n st p : Int} (e : H' b = some (.lst [.int n, .int st, .int p, .ref c])) (h1 : 0 ≤ n) (h2 : 0 ≤ p) : Bag H' b c := by
  obtain ⟨n0, st0, p0, ns, _, e2, _, _, k1, k2⟩ := B.ex
  exact ⟨⟨n, st, p, ns, e, by rw [h c B.ne]; exact e2, h1, h2, k1, k2⟩, B.ne⟩
theorem Bag.new {H : Hp} {b c q : Addr} {o : HO} (B : Bag H b c) (f : H q = none) : Bag (upd H q o) b c := by
  obtain ⟨n0, st0, p0, ns, e1, e2, r⟩ := B.ex
  exact ⟨⟨n0, st0, p0, ns, by rw [upd_ne (ne_of_none e1 f)]; exact e1, by rw [upd_ne (ne_of_none e2 f)]; exact e2, r⟩, B.ne⟩
theorem Bag.same {H H' : Hp} {b c : Addr} (B : Bag H b c) (h : Same H H') : Bag H' b c := by
  obtain ⟨n0, st0, p0, ns, e1, e2, r⟩ := B.ex
  exact ⟨⟨n0, st0, p0, ns, h _ _ e1, h _ _ e2, r⟩, B.ne⟩
/-- an object that the bag does not have may be changed -/
theorem Bag.other {H : Hp} {b c q : Addr} {o : HO} (B : Bag H b c) (n1 : q ≠ b) (n2 : q ≠ c) : Bag (upd H q o) b c := by
  obtain ⟨n0, st0, p0, ns, e1, e2, r⟩ := B.ex
  exact ⟨⟨n0, st0, p0, ns, by rw [upd_ne n1.symm]; exact e1, by rw [upd_ne n2.symm]; exact e2, r⟩, B.ne⟩
def spTake : Sp := fun vs H Q _ => ∃ (b c : Addr) (many : Int), vs = [.ref b, .int many] ∧ Bag H b c ∧ 0 < many ∧ many ≤ 10 ^ 60 ∧
  ∀ (v : Int) (H' : Hp), 0 ≤ v → v < many → Bag H' b c → (∀ a, a ≠ b → H' a = H a) → Q (.int v) H'
def spBag (K : PySem.W.Frag) : Sp := fun vs H Q _ => ∃ (a : Addr) (ns : List Int), vs = [.ref a] ∧ SqL K H a (ns.map V.int) ∧ ns.length ≤ 63 ∧
  ∀ (b c : Addr) (H' : Hp), H b = none → H c = none → Same H H' → Bag H' b c → Q (.ref b) H'
/-- what is not the module's own -/
structure Blt (mg : Str → Option Value) : Prop where
  len : mg "len" = none
  abs_ : mg "abs" = none
  isinstance_ : mg "isinstance" = none
  int : mg "int" = none
  bool_ : mg "bool" = none
  str_ : mg "str" = none
  list_ : mg "list" = none
  tuple_ : mg "tuple" = none
  set_ : mg "set" = none
  range_ : mg "range" = none
  all_ : mg "all" = none
  repr_ : mg "repr" = none
theorem many_log {m : Int} (h0 : 0 < m) (h : m ≤ 10 ^ 60) : CDivW 0 m := by
  refine ⟨h0, ?_⟩
  have e : m.natAbs < 2 ^ 200 := by
    have : m < 2 ^ 200 := Int.lt_of_le_of_lt h (by decide)
    omega
  exact Nat.lt_of_lt_of_le (PySem.Flt.log2_lt_of (by decide) e) (by decide)
theorem cdiv_any {i j k : Int} (h : CDivW k j) : CDivW i j := h
end Lb

set_option maxHeartbeats 2000000
namespace Lb
open PySem PySem.Spec PyProof.Rows L2
/-! ### 7. Parts of lists and texts, comprehensions -/
theorem sIx_pos {n d : Nat} {k : Int} (h : 0 ≤ k) : HT.sIx n d (some k) = min k.toNat n := by
  have e : k = (k.toNat : Int) := by omega
  rw [e, HT.sIx_nat]
  congr 1
theorem cut_to {xs : List V} {k : Int} (h : 0 ≤ k) : cutV xs none (some k) = xs.take k.toNat := by
  unfold cutV
  rw [HT.sIx_none, sIx_pos h, List.drop_zero, Nat.sub_zero]
  by_cases l : k.toNat ≤ xs.length
  · rw [Nat.min_eq_left l]
  · rw [Nat.min_eq_right (by omega), List.take_of_length_le (by omega), List.take_of_length_le (by omega)]
theorem cut_from {xs : List V} {k : Int} (h : 0 ≤ k) : cutV xs (some k) none = xs.drop k.toNat := by
  unfold cutV
  rw [HT.sIx_none, sIx_pos h]
  by_cases l : k.toNat ≤ xs.length
  · rw [Nat.min_eq_left l, List.take_of_length_le (by rw [List.length_drop]; exact Nat.le_refl _)]
  · rw [Nat.min_eq_right (by omega), List.drop_of_length_le (by omega), List.drop_of_length_le (by omega)]
    exact List.take_nil
theorem cutS_to {z : Str} {k : Int} (h : 0 ≤ k) : cutS z none (some k) = ⟨(z.cps.toList.take k.toNat).toArray⟩ := by
  have e : z.length = z.cps.toList.length := by simp [Str.length]
  unfold cutS
  rw [HT.sIx_none, sIx_pos h, List.drop_zero, Nat.sub_zero]
  by_cases l : k.toNat ≤ z.length
  · rw [Nat.min_eq_left l]
  · rw [Nat.min_eq_right (by omega), List.take_of_length_le (by omega), List.take_of_length_le (by omega)]
theorem cutS_from {z : Str} {k : Int} (h : 0 ≤ k) : cutS z (some k) none = ⟨(z.cps.toList.drop k.toNat).toArray⟩ := by
  have e : z.length = z.cps.toList.length := by simp [Str.length]
  unfold cutS
  rw [HT.sIx_none, sIx_pos h]
  by_cases l : k.toNat ≤ z.length
  · rw [Nat.min_eq_left l, List.take_of_length_le (by rw [List.length_drop, e]; exact Nat.le_refl _)]
  · rw [Nat.min_eq_right (by omega), List.drop_of_length_le (by omega), List.drop_of_length_le (by omega), List.take_nil]
/-- a comprehension over a text's signs -/
theorem lc_text {x : Str} {g : TG} {tt : TT} {te : TE} {vs : List Nat} {σ : L2.St} {H1 : Hp} {D : Addr} {Qd : Hp → Prop} (Pv : Nat → Hp → Prop) (h0 : Pv 0 (upd H1 D (.lst [])))
    (hs : ∀ i c H, x.cps.toList[i]? = some c → Pv i H → g (.str ⟨#[c]⟩) (wipe σ vs) H fun σ2 H2 => wipe σ2 vs = wipe σ vs ∧ tt σ2 H2 fun b H3 =>
      if b = true then te σ2 H3 fun y H4 => ∃ acc, H4 D = some (.lst acc) ∧ acc.length < sizeLine ∧ Pv (i + 1) (upd H4 D (.lst (acc ++ [y]))) else Pv (i + 1) H3) (hd : ∀ H, Pv x.cps.toList.length H → Qd H) :
    ∃ W : Nat → Nat → Hp → Prop, (∃ m, W 0 m (upd H1 D (.lst []))) ∧ ∀ i m H, W i m H →
      ((Its x).stop i H ∧ Qd H) ∨ ((Its x).go i H ∧ ∃ Nx : Hp → Prop, (∀ H', Nx H' → ∃ m', m' < m ∧ W (i + 1) m' H') ∧ ∀ y H', (Its x).yld i H y H' → g y (wipe σ vs) H' fun σ2 H2 => wipe σ2 vs = wipe σ vs ∧ tt σ2 H2 fun b H3 =>
        if b = true then te σ2 H3 fun y H4 => ∃ acc, H4 D = some (.lst acc) ∧ acc.length < sizeLine ∧ Nx (upd H4 D (.lst (acc ++ [y]))) else Nx H3) := by
  have sz : x.cps.toList.length = x.cps.size := by simp
  refine ⟨fun i m H => i + m = x.cps.size ∧ Pv i H, ⟨x.cps.size, by omega, h0⟩, ?_⟩
  rintro i m H ⟨e, p⟩
  by_cases lt : i < x.cps.size
  · refine .inr ⟨lt, Pv (i + 1), fun H' p' => ⟨m - 1, by omega, by omega, p'⟩, ?_⟩
    rintro y H' ⟨rfl, c, hc, rfl⟩
    exact hs i c _ (by simpa using hc) p
  · have ei : i = x.cps.size := by omega
    refine .inl ⟨Nat.le_of_eq ei.symm, hd H ?_⟩
    rw [sz, ← ei]
    exact p
/-- a list that grows at D, all else stays -/
structure Mk (H : Hp) (D : Addr) (l : List V) (H' : Hp) : Prop where
  new : H D = none
  same : Same H H'
  at_ : H' D = some (.lst l)
theorem Mk.start {H : Hp} {D : Addr} (h : H D = none) : Mk H D [] (upd H D (.lst [])) := ⟨h, fun b o e => by rw [upd_ne (ne_of_none e h)]; exact e, upd_same⟩
theorem Mk.next {H H1 H4 : Hp} {D : Addr} {l : List V} {y : V} (M : Mk H D l H1) (s : Same H1 H4) : Mk H D (l ++ [y]) (upd H4 D (.lst (l ++ [y]))) :=
  ⟨M.new, fun b o e => by rw [upd_ne (ne_of_none e M.new)]; exact s _ _ (M.same _ _ e), upd_same⟩
theorem Mk.rest {H H1 H4 : Hp} {D : Addr} {l : List V} (M : Mk H D l H1) (s : Same H1 H4) : Mk H D l H4 := ⟨M.new, M.same.trans s, s _ _ M.at_⟩
theorem same_new {H : Hp} {p : Addr} {o : HO} (h : H p = none) : Same H (upd H p o) := fun b x e => by
  rw [upd_ne (ne_of_none e h)]
  exact e
theorem sz_ok {n : Nat} (h : n ≤ 100000) : n ≤ sizeLine := Nat.le_trans h (by decide)
theorem sz_lo {n : Nat} (h : n < 100000) : n < sizeLine := Nat.lt_of_lt_of_le h (by decide)
end Lb

set_option maxHeartbeats 2000000
namespace Lb
open PySem PySem.Spec PyProof.Rows L2
/-! ### 8. The kinds of things -/
theorem pe_k {X : Cx} {x : Str} {v : V} {pos : Pos} (hg : Gl X x) (h : ∃ u, X.mg x = some u ∧ RelV v u) (hd : (x == ("__debug__" : Str)) = false := by decide) : PE X (.Name x pos) (tC v) := by
  obtain ⟨u, a, r⟩ := h
  exact pe_glob hg a r hd
def tyN : PyData → String
  | .none => "NoneType"
  | .bool _ => "bool"
  | .int _ => "int"
  | .str _ => "str"
  | .list _ => "list"
  | .tuple _ => "tuple"
  | .dict _ => "dict"
theorem ty_of {K : PySem.W.Frag} {b : Addr} {H : Hp} {d : PyData} {v : V} (h : Dat b H d v) : TyX K H v (.type (tyN d)) := by
  cases d with
  | none => simp only [Dat] at h; subst h; exact .base .non
  | bool x => simp only [Dat] at h; subst h; exact .base (.bl x)
  | int x => simp only [Dat] at h; subst h; exact .base (.int x)
  | str x => simp only [Dat] at h; subst h; exact .base (.str x)
  | list ds => simp only [Dat] at h; obtain ⟨a, vs, rfl, _, e, _⟩ := h; exact .base (.lst e)
  | tuple ds => simp only [Dat] at h; obtain ⟨a, vs, rfl, _, e, _⟩ := h; exact .base (.tup e)
  | dict ds => simp only [Dat] at h; obtain ⟨a, vs, rfl, _, e, _⟩ := h; exact .base (.dK e)
def isInt : PyData → Bool
  | .int _ | .bool _ => true
  | _ => false
def isBool : PyData → Bool
  | .bool _ => true
  | _ => false
def isStr : PyData → Bool
  | .str _ => true
  | _ => false
def isList : PyData → Bool
  | .list _ => true
  | _ => false
section
variable {K : PySem.W.Frag}
theorem kit_int (d : PyData) : PySem.W.kitOne K (.type (tyN d)) (.type "int") = some (isInt d) := by
  cases d with
  | none => exact kit_ty (show kitB "NoneType" "int" = some false by decide +kernel)
  | bool _ => exact kit_ty (show kitB "bool" "int" = some true by decide +kernel)
  | int _ => exact kit_ty (show kitB "int" "int" = some true by decide +kernel)
  | str _ => exact kit_ty (show kitB "str" "int" = some false by decide +kernel)
  | list _ => exact kit_ty (show kitB "list" "int" = some false by decide +kernel)
  | tuple _ => exact kit_ty (show kitB "tuple" "int" = some false by decide +kernel)
  | dict _ => exact kit_ty (show kitB "dict" "int" = some false by decide +kernel)
theorem kit_bool (d : PyData) : PySem.W.kitOne K (.type (tyN d)) (.type "bool") = some (isBool d) := by
  cases d with
  | none => exact kit_ty (show kitB "NoneType" "bool" = some false by decide +kernel)
  | bool _ => exact kit_ty (show kitB "bool" "bool" = some true by decide +kernel)
  | int _ => exact kit_ty (show kitB "int" "bool" = some false by decide +kernel)
  | str _ => exact kit_ty (show kitB "str" "bool" = some false by decide +kernel)
  | list _ => exact kit_ty (show kitB "list" "bool" = some false by decide +kernel)
  | tuple _ => exact kit_ty (show kitB "tuple" "bool" = some false by decide +kernel)
  | dict _ => exact kit_ty (show kitB "dict" "bool" = some false by decide +kernel)
theorem kit_str (d : PyData) : PySem.W.kitOne K (.type (tyN d)) (.type "str") = some (isStr d) := by
  cases d with
  | none => exact kit_ty (show kitB "NoneType" "str" = some false by decide +kernel)
  | bool _ => exact kit_ty (show kitB "bool" "str" = some false by decide +kernel)
  | int _ => exact kit_ty (show kitB "int" "str" = some false by decide +kernel)
  | str _ => exact kit_ty (show kitB "str" "str" = some true by decide +kernel)
  | list _ => exact kit_ty (show kitB "list" "str" = some false by decide +kernel)
  | tuple _ => exact kit_ty (show kitB "tuple" "str" = some false by decide +kernel)
  | dict _ => exact kit_ty (show kitB "dict" "str" = some false by decide +kernel)
theorem kit_list (d : PyData) : PySem.W.kitOne K (.type (tyN d)) (.type "list") = some (isList d) := by
  cases d with
  | none => exact kit_ty (show kitB "NoneType" "list" = some false by decide +kernel)
  | bool _ => exact kit_ty (show kitB "bool" "list" = some false by decide +kernel)
  | int _ => exact kit_ty (show kitB "int" "list" = some false by decide +kernel)
  | str _ => exact kit_ty (show kitB "str" "list" = some false by decide +kernel)
  | list _ => exact kit_ty (show kitB "list" "list" = some true by decide +kernel)
  | tuple _ => exact kit_ty (show kitB "tuple" "list" = some false by decide +kernel)
  | dict _ => exact kit_ty (show kitB "dict" "list" = some false by decide +kernel)
end
def isWhole : PyData → Bool
  | .int _ => true
  | _ => false
theorem whole_eq (d : PyData) : isWhole d = (isInt d && !isBool d) := by cases d <;> rfl
def within (lo hi : Int) : PyData → Bool
  | .int i => decide (lo ≤ i) && decide (i ≤ hi)
  | _ => false
def signOk (c : Nat) : Bool := decide (97 ≤ c) && decide (c ≤ 122)
def nameS (z : Str) : Bool := decide (1 ≤ z.length) && decide (z.length ≤ 8) && z.cps.toList.all signOk
def isName : PyData → Bool
  | .str z => nameS z
  | _ => false
def textsOf (ds : List PyData) : List Str := ds.filterMap fun d => match d with
  | .str z => some z
  | _ => none
def isStroke : PyData → Bool
  | .list ds => decide (ds.length ≤ 40) && (ds.all isName && decide (textsOf ds).Nodup)
  | _ => false
/-- parts of a thing are of a small size -/
def textOk (z : Str) : Prop := z.length ≤ 1000 ∧ ∀ c ∈ z.cps.toList, c < 1114112
def smallS : PyData → Prop
  | .str z => textOk z
  | _ => True
def small : PyData → Prop
  | .str z => textOk z
  | .list ds => ds.length ≤ 1000 ∧ ∀ d ∈ ds, smallS d
  | .tuple ds => ds.length ≤ 1000
  | _ => True
theorem small.s {d : PyData} (h : small d) : smallS d := by cases d <;> first | exact h | trivial
/-- a def of one thing that tells a truth -/
def spD (C : PyData → Prop) (g : PyData → Bool) : Sp := fun vs H Q _ => ∃ (b : Addr) (v : V) (d : PyData), vs = [v] ∧ Dat b H d v ∧ C d ∧ ∀ H', Same H H' → Q (.bl (g d)) H'
def spW : Sp := fun vs H Q _ => ∃ (b : Addr) (v : V) (d : PyData) (lo hi : Int), vs = [v, .int lo, .int hi] ∧ Dat b H d v ∧ ∀ H', Same H H' → Q (.bl (within lo hi d)) H'
theorem Dat.same {b : Addr} {H H' : Hp} {d : PyData} {v : V} (h : Dat b H d v) (s : Same H H') : Dat b H' d v := h.mono (.of_same s)
theorem Dats.same {b : Addr} {H H' : Hp} {d : List PyData} {v : List V} (h : Dats b H d v) (s : Same H H') : Dats b H' d v := h.mono (.of_same s)
theorem dat_str {b : Addr} {H : Hp} {d : PyData} {v : V} (h : Dat b H d v) (k : isStr d = true) : ∃ z, d = .str z ∧ v = .str z := by
  cases d with
  | str z => exact ⟨z, rfl, by simpa only [Dat] using h⟩
  | _ => cases k
theorem dat_int {b : Addr} {H : Hp} {d : PyData} {v : V} (h : Dat b H d v) (k : isWhole d = true) : ∃ i, d = .int i ∧ v = .int i := by
  cases d with
  | int i => exact ⟨i, rfl, by simpa only [Dat] using h⟩
  | _ => cases k
theorem dat_list {b : Addr} {H : Hp} {d : PyData} {v : V} (h : Dat b H d v) (k : isList d = true) : ∃ ds a vs, d = .list ds ∧ v = .ref a ∧ a ≠ b ∧ H a = some (.lst vs) ∧ Dats b H ds vs := by
  cases d with
  | list ds =>
    simp only [Dat] at h
    obtain ⟨a, vs, r⟩ := h
    exact ⟨ds, a, vs, rfl, r⟩
  | _ => cases k
/-! one sign against another -/
theorem sign_lt (a c : Nat) : decide ((⟨#[c]⟩ : Str).cps.toList < (⟨#[a]⟩ : Str).cps.toList) = decide (c < a) := by
  have h : ([c] < [a]) ↔ c < a := by
    constructor
    · intro z
      cases z with
      | rel h => exact h
      | cons h => cases h
    · exact fun z => List.Lex.rel z
  exact decide_eq_decide.mpr h
theorem str_a : Str.ofString "a" = ⟨#[97]⟩ := by decide +kernel
theorem str_z : Str.ofString "z" = ⟨#[122]⟩ := by decide +kernel
theorem letters_are : (Str.ofString "abcdefghijklmnopqrstuvwxyz").cps.toList = List.range' 97 26 := by decide +kernel
theorem letters_mem (c : Nat) : decide (c ∈ (Str.ofString "abcdefghijklmnopqrstuvwxyz").cps.toList) = signOk c := by
  rw [letters_are]
  unfold signOk
  rw [← Bool.decide_and]
  refine decide_eq_decide.mpr ?_
  rw [List.mem_range'_1]
  omega
theorem len_str (z : Str) : z.length = z.cps.toList.length := by simp [Str.length]
theorem hu64_of {k : Nat} {A : Around} (hr : Room k A) : A.units + 64 < cLine := by
  have := hr.un
  omega
theorem dp_signs {K : PySem.W.Frag} {H : Hp} : ∀ cs : List Nat, DpAll K H (cs.map fun c => V.str ⟨#[c]⟩) (cs.map fun c => PyData.str ⟨#[c]⟩)
  | [] => .nil
  | c :: r => .cons (.str _) (dp_signs r)
theorem lay_signs : ∀ cs : List Nat, (∀ c ∈ cs, c < 1114112) → PyData.canLayAll0 (cs.map fun c => PyData.str ⟨#[c]⟩) = true ∧ PyData.depthAll (cs.map fun c => PyData.str ⟨#[c]⟩) = 0
  | [], _ => ⟨rfl, rfl⟩
  | c :: r, h => by
    obtain ⟨h1, h2⟩ := lay_signs r fun x hx => h x (List.mem_cons_of_mem _ hx)
    have hc := h c List.mem_cons_self
    constructor
    · simp only [List.map_cons, PyData.canLayAll0, PyData.canLay0, h1, Bool.and_true]
      simp [PyData.strOk, hc]
    · simp only [List.map_cons, PyData.depthAll, PyData.depth, h2]
      rfl
theorem shaped_signs {cs : List Nat} (h : ∀ c ∈ cs, c < 1114112) : SeqAt.shaped (.list (cs.map fun c => PyData.str ⟨#[c]⟩)) = true := by
  obtain ⟨h1, h2⟩ := lay_signs cs h
  unfold SeqAt.shaped
  simp only [PyData.canLay0, h1, PyData.depth, h2]
  rfl
end Lb

set_option maxHeartbeats 2000000
namespace Lb
open PySem PySem.Spec PyProof.Rows L2
/-! ### 9. How long a thing is when it is shown -/
theorem listText_le : ∀ ts : List Str, (listText ts).length ≤ piled ts + 2
  | [] => by rw [listText_nil]; decide
  | t :: r => by
    have h := textFrom_length_pos r 1 (("[" : Str) ++ (if (0 : Nat) > 0 then ", " else "" : String) ++ t) (by decide)
    have e0 : (textFrom 0 "[" (t :: r)).length = (textFrom 1 (("[" : Str) ++ (if (0 : Nat) > 0 then ", " else "" : String) ++ t) r).length := rfl
    have e1 : (("[" : Str) ++ (if (0 : Nat) > 0 then ", " else "" : String) ++ t).length = 1 + t.length := by
      rw [strLen_append, strLen_append]
      rfl
    have e2 : (listText (t :: r)).length = (textFrom 0 "[" (t :: r)).length + 1 := by
      unfold listText
      rw [strLen_append]
      rfl
    rw [e2, e0, h, e1, piled_cons]
    omega
theorem tupleText_le (ts : List Str) : (tupleText ts).length ≤ piled ts + 5 := by
  unfold tupleText
  rw [strLen_append, strLen_append]
  have e1 : (("(" : String) : Str).length = 1 := rfl
  have e3 : (((if ts.length == 1 then ",)" else ")" : String) : Str)).length ≤ 2 := by split <;> decide
  rw [e1]
  by_cases h : ts = []
  · subst h
    have e4 : (Str.join ", " []).length = 0 := rfl
    omega
  · have := join_length_add ts h
    omega
theorem piled_le {m : Nat} : ∀ {ts : List Str}, (∀ t ∈ ts, t.length ≤ m) → piled ts ≤ ts.length * (m + 2)
  | [], _ => by rw [piled_nil]; exact Nat.zero_le _
  | t :: r, h => by
    have h1 := h t List.mem_cons_self
    have h2 := piled_le fun u hu => h u (List.mem_cons_of_mem _ hu)
    rw [piled_cons, List.length_cons, Nat.add_mul, Nat.one_mul]
    omega
theorem shownAll_len : ∀ ds : List PyData, (PyData.shownAll ds).length = ds.length
  | [] => rfl
  | d :: ds => by simp only [PyData.shownAll, List.length_cons, shownAll_len ds]
theorem shownAll_mem {m : Nat} : ∀ {ds : List PyData}, (∀ d ∈ ds, d.shown.length ≤ m) → ∀ t ∈ PyData.shownAll ds, t.length ≤ m
  | [], _, t, ht => by simp only [PyData.shownAll] at ht; cases ht
  | d :: ds, h, t, ht => by
    simp only [PyData.shownAll] at ht
    rcases List.mem_cons.mp ht with rfl | ht
    · exact h d List.mem_cons_self
    · exact shownAll_mem (fun x hx => h x (List.mem_cons_of_mem _ hx)) t ht
theorem showAll_of : ∀ {ds : List PyData}, (∀ d ∈ ds, d.showable = true) → PyData.showableAll ds = true
  | [], _ => rfl
  | d :: ds, h => by
    simp only [PyData.showableAll, h d List.mem_cons_self, showAll_of fun x hx => h x (List.mem_cons_of_mem _ hx), Bool.and_true]
theorem depthAll_of {n : Nat} : ∀ {ds : List PyData}, (∀ d ∈ ds, d.depth ≤ n) → PyData.depthAll ds ≤ n
  | [], _ => Nat.zero_le _
  | d :: ds, h => by
    simp only [PyData.depthAll]
    exact Nat.max_le.mpr ⟨h d List.mem_cons_self, depthAll_of fun x hx => h x (List.mem_cons_of_mem _ hx)⟩
/-- a part of a list that is shown -/
structure Part (d : PyData) : Prop where
  ok : itemOk d = true
  sh : d.showable = true
  dep : d.depth ≤ 10
  len : d.shown.length ≤ 10000
theorem shows_list {ds : List PyData} (h : ∀ d ∈ ds, Part d) (n : ds.length ≤ 90) : Shows (.list ds) where
  sh := showAll_of fun d hd => (h d hd).sh
  top := List.all_eq_true.mpr fun d hd => (h d hd).ok
  dep := by
    have := depthAll_of fun d hd => (h d hd).dep
    simp only [PyData.depth]
    omega
  len := by
    have h1 := piled_le (shownAll_mem fun d hd => (h d hd).len)
    rw [shownAll_len] at h1
    have h2 := listText_le (PyData.shownAll ds)
    have h3 : ds.length * (10000 + 2) ≤ 90 * 10002 := Nat.mul_le_mul n (Nat.le_refl _)
    simp only [PyData.shown]
    omega
theorem shows_tuple {ds : List PyData} (h : ∀ d ∈ ds, Part d) (n : ds.length ≤ 90) : Shows (.tuple ds) where
  sh := showAll_of fun d hd => (h d hd).sh
  top := List.all_eq_true.mpr fun d hd => (h d hd).ok
  dep := by
    have := depthAll_of fun d hd => (h d hd).dep
    simp only [PyData.depth]
    omega
  len := by
    have h1 := piled_le (shownAll_mem fun d hd => (h d hd).len)
    rw [shownAll_len] at h1
    have h2 := tupleText_le (PyData.shownAll ds)
    have h3 : ds.length * (10000 + 2) ≤ 90 * 10002 := Nat.mul_le_mul n (Nat.le_refl _)
    simp only [PyData.shown]
    omega
theorem part_str {z : Str} (h : textOk z) (n : z.length ≤ 900) : Part (.str z) where
  ok := rfl
  sh := rfl
  dep := Nat.zero_le _
  len := by
    have := StrLaws.reprText_len z fun c hc => Nat.lt_trans (h.2 c hc) (by decide)
    simp only [PyData.shown]
    omega
theorem part_int {i : Int} (h : i.natAbs.log2 < 1920) : Part (.int i) where
  ok := rfl
  sh := by simp only [PyData.showable, h, decide_true]
  dep := Nat.zero_le _
  len := by
    have := int_text_len_1921 h
    simp only [PyData.shown]
    omega
theorem part_bool (b : Bool) : Part (.bool b) where
  ok := rfl
  sh := rfl
  dep := Nat.zero_le _
  len := by cases b <;> decide +kernel
/-- what no list is, is shown where it is a part -/
theorem Part.shows {d : PyData} (h : Part d) (k : topOk d = true) : Shows d := ⟨h.sh, k, Nat.le_trans h.dep (by decide), Nat.le_trans h.len (by decide)⟩
theorem eqv_bools : ∀ bs : List Bool, PyData.eqvAll (bs.map PyData.bool) (bs.map PyData.bool) = true
  | [] => rfl
  | b :: r => by simp only [List.map_cons, PyData.eqvAll, PyData.eqv, beq_self_eq_true, eqv_bools r, Bool.and_true]
theorem dp_bools {K : PySem.W.Frag} {H : Hp} : ∀ bs : List Bool, DpAll K H (bs.map V.bl) (bs.map PyData.bool)
  | [] => .nil
  | b :: r => .cons (.bl b) (dp_bools r)
theorem dat_bools {b : Addr} {H : Hp} : ∀ bs : List Bool, Dats b H (bs.map PyData.bool) (bs.map V.bl)
  | [] => by simp only [List.map_nil, Dats]
  | x :: r => by
    simp only [List.map_cons, Dats, Dat]
    exact ⟨_, _, rfl, rfl, dat_bools r⟩
theorem shaped_bools (bs : List Bool) : SeqAt.shaped (.list (bs.map PyData.bool)) = true := by
  have h1 : ∀ l : List Bool, PyData.canLayAll0 (l.map PyData.bool) = true ∧ PyData.depthAll (l.map PyData.bool) = 0 := by
    intro l
    induction l with
    | nil => exact ⟨rfl, rfl⟩
    | cons x r ih =>
      simp only [List.map_cons, PyData.canLayAll0, PyData.canLay0, PyData.depthAll, PyData.depth, ih.1, ih.2]
      exact ⟨rfl, rfl⟩
  unfold SeqAt.shaped
  simp only [PyData.canLay0, (h1 bs).1, PyData.depth, (h1 bs).2]
  rfl
end Lb

set_option maxHeartbeats 2000000
namespace Lb
open PySem PySem.Spec PyProof.Rows L2
/-! ### 10. Texts by their codes -/
theorem cps_app (x y : Str) : (x ++ y).cps.toList = x.cps.toList ++ y.cps.toList := by
  rw [Str.cps_append]
  simp
theorem join_signs : ∀ cs : List Nat, (Txt.join (Str.ofString "") (cs.map fun c => (⟨#[c]⟩ : Str))).cps.toList = cs := by
  intro cs
  rw [TL.join_eq]
  have e0 : (Str.ofString "").cps.toList = [] := by decide +kernel
  induction cs with
  | nil => rfl
  | cons c r ih =>
    cases r with
    | nil => rfl
    | cons d t =>
      show ((⟨#[c]⟩ : Str) ++ Str.ofString "" ++ Str.join (Str.ofString "") ((d :: t).map fun c => (⟨#[c]⟩ : Str))).cps.toList = _
      rw [cps_app, cps_app, ih, e0]
      rfl
theorem textOk_of {z : Str} {n : Nat} (h : z.cps.toList.length ≤ n) (n1 : n ≤ 1000) (k : ∀ c ∈ z.cps.toList, c < 1114112) : textOk z := ⟨by rw [len_str]; omega, k⟩
theorem textOk_app {x y : Str} (hx : textOk x) (hy : textOk y) (h : x.length + y.length ≤ 1000) : textOk (x ++ y) := by
  refine ⟨?_, fun c hc => ?_⟩
  · rw [strLen_append]
    exact h
  · rw [cps_app] at hc
    exact (List.mem_append.mp hc).elim (hx.2 c) (hy.2 c)
theorem textOk_to {z : Str} {k : Int} (h : 0 ≤ k) (hz : textOk z) : textOk (cutS z none (some k)) ∧ (cutS z none (some k)).length ≤ z.length := by
  rw [cutS_to h]
  have e : (⟨(z.cps.toList.take k.toNat).toArray⟩ : Str).cps.toList = z.cps.toList.take k.toNat := by simp
  have l : (⟨(z.cps.toList.take k.toNat).toArray⟩ : Str).length ≤ z.length := by
    rw [len_str, e, len_str z, List.length_take]
    exact Nat.min_le_right _ _
  refine ⟨⟨Nat.le_trans l hz.1, fun c hc => ?_⟩, l⟩
  rw [e] at hc
  exact hz.2 c (List.mem_of_mem_take hc)
theorem textOk_from {z : Str} {k : Int} (h : 0 ≤ k) (hz : textOk z) : textOk (cutS z (some k) none) ∧ (cutS z (some k) none).length ≤ z.length := by
  rw [cutS_from h]
  have e : (⟨(z.cps.toList.drop k.toNat).toArray⟩ : Str).cps.toList = z.cps.toList.drop k.toNat := by simp
  have l : (⟨(z.cps.toList.drop k.toNat).toArray⟩ : Str).length ≤ z.length := by
    rw [len_str, e, len_str z, List.length_drop]
    exact Nat.sub_le _ _
  refine ⟨⟨Nat.le_trans l hz.1, fun c hc => ?_⟩, l⟩
  rw [e] at hc
  exact hz.2 c (List.mem_of_mem_drop hc)
theorem atI_int {α : Type} {xs : List α} {v : Int} {x : α} (h0 : 0 ≤ v) (h : xs[v.toNat]? = some x) : atI xs v = some x := by
  have q := atI_nat h
  rwa [Int.toNat_of_nonneg h0] at q
/-- a sign of a text -/
theorem sign_at {z : Str} (hz : textOk z) {v : Int} (h0 : 0 ≤ v) (h1 : v < (z.length : Int)) : ∃ c, atI z.cps.toList v = some c ∧ c ∈ z.cps.toList ∧ textOk ⟨#[c]⟩ ∧ (⟨#[c]⟩ : Str).length = 1 := by
  have l := len_str z
  have lt : v.toNat < z.cps.toList.length := by omega
  refine ⟨z.cps.toList[v.toNat], ?_, List.getElem_mem _, ⟨by show 1 ≤ 1000; decide, fun c hc => ?_⟩, rfl⟩
  · exact atI_int h0 (List.getElem?_eq_getElem lt)
  · have e : c = z.cps.toList[v.toNat] := by simpa using hc
    rw [e]
    exact hz.2 _ (List.getElem_mem _)
/-- an item of a list at a drawn place -/
theorem item_at {xs : List V} {v : Int} (h0 : 0 ≤ v) (h1 : v < (xs.length : Int)) : ∃ x, xs[v.toNat]? = some x ∧ atI xs v = some x := by
  have lt : v.toNat < xs.length := by omega
  exact ⟨xs[v.toNat], List.getElem?_eq_getElem lt, atI_int h0 (List.getElem?_eq_getElem lt)⟩
theorem dp_strs {K : PySem.W.Frag} {H : Hp} : ∀ ws : List Str, DpAll K H (ws.map V.str) (ws.map PyData.str)
  | [] => .nil
  | _ :: r => .cons (.str _) (dp_strs r)
theorem shaped_strs {ws : List Str} (h : ∀ z ∈ ws, textOk z) : SeqAt.shaped (.list (ws.map PyData.str)) = true := by
  have q : ∀ l : List Str, (∀ z ∈ l, textOk z) → PyData.canLayAll0 (l.map PyData.str) = true ∧ PyData.depthAll (l.map PyData.str) = 0 := by
    intro l
    induction l with
    | nil => exact fun _ => ⟨rfl, rfl⟩
    | cons z r ih =>
      intro hl
      obtain ⟨h1, h2⟩ := ih fun x hx => hl x (List.mem_cons_of_mem _ hx)
      have hz := (hl z List.mem_cons_self).2
      constructor
      · simp only [List.map_cons, PyData.canLayAll0, PyData.canLay0, h1, Bool.and_true]
        unfold PyData.strOk
        rw [← Array.all_toList]
        exact List.all_eq_true.mpr fun c hc => decide_eq_true (hz c hc)
      · simp only [List.map_cons, PyData.depthAll, PyData.depth, h2]
        rfl
  obtain ⟨h1, h2⟩ := q ws h
  unfold SeqAt.shaped
  simp only [PyData.canLay0, h1, PyData.depth, h2]
  rfl
theorem eqv_nil (ws : List Str) : PyData.eqv (.list (ws.map PyData.str)) (.list []) = ws.isEmpty := by
  cases ws <;> simp only [List.map_nil, List.map_cons, PyData.eqv, PyData.eqvAll, List.isEmpty_nil, List.isEmpty_cons]
/-! what the draws leave -/
theorem kp_of {b : Addr} {H H' : Hp} (h : ∀ a, a ≠ b → H' a = H a) : Kp b H H' := fun a o n e => by
  rw [h a n]
  exact e
theorem Bag.at_b {H : Hp} {b c : Addr} (B : Bag H b c) : ∃ o, H b = some o := by
  obtain ⟨_, _, _, _, e, _⟩ := B.ex
  exact ⟨_, e⟩
theorem Bag.ne_new {H : Hp} {b c p : Addr} (B : Bag H b c) (h : H p = none) : p ≠ b := by
  obtain ⟨o, e⟩ := B.at_b
  exact (ne_of_none e h).symm
theorem Bag.nc_new {H : Hp} {b c p : Addr} (B : Bag H b c) (h : H p = none) : p ≠ c := by
  obtain ⟨_, _, _, _, _, e, _⟩ := B.ex
  exact (ne_of_none e h).symm
/-- new there, new ahead -/
theorem Kp.free {b p : Addr} {H H' : Hp} (k : Kp b H H') (h : H' p = none) (n : p ≠ b) : H p = none := by
  cases q : H p with
  | none => rfl
  | some o =>
    rw [k p o n q] at h
    cases h
end Lb

set_option maxHeartbeats 2000000
namespace Lb
open PySem PySem.Spec PyProof.Rows L2
/-! ### 21. Own classes: len, repr, == and != by their own methods -/
section
variable {X : Cx} {pins : List (Addr × Obj)} {σ : L2.St} {H : Hp} {s : Shared} {k : Nat} {f C : Addr} {fd : FuncData} {ps : List Str} {sp : Sp} {us : List Value} {vs : List V} {Q : VK}
theorem inst_at (I : Inv X pins σ H s) {x dx : Addr} {fs : List (Str × V)} (e : H x = some (.ins C dx fs)) : ∃ ox od, PySem.W.InstAt s.heap x ox C (some od) := by
  obtain ⟨mA, O, _⟩ := ins_get I.hok e
  obtain ⟨od, J, _⟩ := O.look
  exact ⟨_, od, J⟩
theorem run1 (F : FnOk X.prog X.w X.K X.mg X.base CX0 k f fd ps sp) (hr : Room k X.A.in1) (b : Binds X.K fd ps []) (I : Inv X pins σ H s) (r : Vals vs us) (h : sp vs H Q E0) :
    wpAny (model X.prog X.w) X.A.in1 (call (.ref f) us) (EP X pins σ Q) X.xe s := by
  have len : us.length = ps.length := r.length.symm.trans (F.len _ _ _ _ h)
  have bt := b s us I.kIn (by rw [List.append_nil]; exact len)
  rw [List.append_nil] at bt
  refine wpAny_call (codeAny_mono (F.run X.A.in1 X.stack s H ⟨us, []⟩ us vs Q E0 hr I.env0.in1 bt r h) ?_)
  intro z s' hq
  cases z with
  | error e => exact False.elim hq
  | ok fl => cases fl with
    | ret u => exact I.after hq
    | next => exact False.elim hq
    | brk => exact False.elim hq
    | cont => exact False.elim hq
theorem run1G (F : FnG X.prog X.w X.K X.mg X.base k f fd ps sp) (noG : X.A.guards = some []) (hr : Room k X.A.in1) (b : Binds X.K fd ps []) (I : Inv X pins σ H s) (r : Vals vs us) (h : sp vs H Q E0) :
    wpAny (model X.prog X.w) X.A.in1 (call (.ref f) us) (EP X pins σ Q) X.xe s := by
  have len : us.length = ps.length := r.length.symm.trans (F.many _ _ _ _ h)
  have bt := b s us I.kIn (by rw [List.append_nil]; exact len)
  rw [List.append_nil] at bt
  refine wpAny_call (codeAny_mono (F.go X.A.in1 X.stack s H ⟨us, []⟩ us vs Q E0 hr noG I.env0.in1 bt r h) ?_)
  intro z s' hq
  cases z with
  | error e => exact False.elim hq
  | ok fl => cases fl with
    | ret u => exact I.after hq
    | next => exact False.elim hq
    | brk => exact False.elim hq
    | cont => exact False.elim hq
end
/-- a special method of the class at C, by its name -/
structure Spc (P : Program) (w : World) (K : PySem.W.Frag) (mg : Str → Option Value) (base : Heap) (k : Nat) (C : Addr) (m : Str) (sp : Sp) : Prop where
  ex : ∃ (f : Addr) (fd : FuncData) (ps : List Str), PySem.W.findIn K (.ref C) m = some (some (.ref f)) ∧ PySem.W.isFn K (.ref f) = true ∧ FnOk P w K mg base CX0 k f fd ps sp ∧ Binds K fd ps []
structure SpcG (P : Program) (w : World) (K : PySem.W.Frag) (mg : Str → Option Value) (base : Heap) (k : Nat) (C : Addr) (m : Str) (sp : Sp) : Prop where
  ex : ∃ (f : Addr) (fd : FuncData) (ps : List Str), PySem.W.findIn K (.ref C) m = some (some (.ref f)) ∧ PySem.W.isFn K (.ref f) = true ∧ FnG P w K mg base k f fd ps sp ∧ Binds K fd ps []
def rLenO (C : Addr) (sp : Sp) : List V → Hp → VK → Prop := fun xs H Q => ∃ (x dx : Addr) (fs : List (Str × V)), xs = [.ref x] ∧ H x = some (.ins C dx fs) ∧ sp [.ref x] H (fun v H' => ∃ n : Nat, v = .int n ∧ n < 1000000 ∧ Q (.int n) H') E0
theorem call_lenO {X : Cx} {k j : Nat} {C : Addr} {sp : Sp} (c : Spc X.prog X.w X.K X.mg X.base k C "__len__" sp) (hr : Room j X.A) (hk : k + 1 ≤ j) : CallR X (.builtin "len") (rLenO C sp) := by
  rintro pins s σ H xs us Q I r ⟨x, dx, fs, rfl, e, h⟩
  obtain ⟨f, fd, ps, a1, a2, F, b⟩ := c.ex
  obtain ⟨u, rfl, r1⟩ := vals1 r
  obtain rfl : u = Value.ref x := r1
  obtain ⟨ox, od, J⟩ := inst_at I e
  obtain ⟨m, fr⟩ := I.fr
  refine PySem.W.len_K fr I.ok.mod.kin J a1 a2 (wpAny_mono (run1 F (hr.mono hk).in1 b I (.cons (show RelV (.ref x) (.ref x) from rfl) .nil) h) ?_ fun _ _ z => z)
  rintro v s' ⟨z, H', I', rv, n, rfl, lt, q⟩
  obtain ⟨t, rfl⟩ := rv
  exact ⟨⟨by omega, by omega⟩, .int n, H', I'.tok _, ⟨_, rfl⟩, q⟩
def rReprO (C : Addr) (sp : Sp) : List V → Hp → VK → Prop := fun xs H Q => ∃ (x dx : Addr) (fs : List (Str × V)), xs = [.ref x] ∧ H x = some (.ins C dx fs) ∧ sp [.ref x] H (fun v H' => ∃ z : Str, v = .str z ∧ Q (.str z) H') E0
theorem call_reprO {X : Cx} {k j : Nat} {C : Addr} {sp : Sp} (c : SpcG X.prog X.w X.K X.mg X.base k C "__repr__" sp) (noG : X.A.guards = some []) (hr : Room j X.A) (hk : k + 1 ≤ j) : CallR X (.builtin "repr") (rReprO C sp) := by
  rintro pins s σ H xs us Q I r ⟨x, dx, fs, rfl, e, h⟩
  obtain ⟨f, fd, ps, a1, a2, F, b⟩ := c.ex
  obtain ⟨u, rfl, r1⟩ := vals1 r
  obtain rfl : u = Value.ref x := r1
  obtain ⟨ox, od, J⟩ := inst_at I e
  obtain ⟨m, fr⟩ := I.fr
  have un := hr.un
  refine PySem.W.repr_K (by show X.A.units + 1 < cLine; omega) fr I.ok.mod.kin J a1 a2 (wpAny_mono (run1G F noG (hr.mono hk).in1 b I (.cons (show RelV (.ref x) (.ref x) from rfl) .nil) h) ?_ fun _ _ z => z)
  rintro v s' ⟨z, H', I', rv, y, rfl, q⟩
  obtain ⟨t, rfl⟩ := rv
  exact ⟨.str y, H', I', ⟨t, rfl⟩, q⟩
/-! == and != of an instance: the right side of the same class, or no instance at all -/
def rCmpO (C : Addr) (sp : Sp) (g : Bool → Bool) : V → V → Hp → VK → Prop := fun x y H Q => ∃ (a dx b dy : Addr) (fs gs : List (Str × V)), x = .ref a ∧ y = .ref b ∧ H a = some (.ins C dx fs) ∧ H b = some (.ins C dy gs) ∧
  sp [.ref a, .ref b] H (fun v H' => ∃ k : Bool, v = .bl k ∧ Q (.bl (g k)) H') E0
section
variable {prog : Program} {w : World} {A : Around} {E : Value → Shared → Prop} {s : Shared} {K : PySem.W.Frag} {x C f : Addr} {ox : Obj} {od : Option Obj} {name : Str}
theorem bound_slot {M : Model} {args : List Value} {id B : String} {Q : Option Value → Shared → Prop} (X : K.In s.heap) (I : PySem.W.InstAt s.heap x ox C od) (hs : PySem.W.findIn K (.ref C) name = some (some (.builtin id))) (S : Slot B name id)
    (h : wpAny M A (call (.builtin id) (.ref x :: args)) (fun v => Q (some v)) E s) : wpAny M A (callSpecialIfBound? (.ref x) name args) Q E s := by
  simp only [callSpecialIfBound?, bindSpecialIfBound?]
  refine wpAny_holding (wpAny_bind (wpAny_bind (wpAny_bind (I.type.here ((PySem.W.looks_findIn X hs).here ?_)))))
  simp only [S.bind]
  refine wpAny_bind (wpAny_askSetting (wpAny_ite ?_))
  have fin : wpAny M A (call (.builtin id) ([.ref x] ++ args) >>= fun v => pure (some v)) Q E s := wpAny_bind (wpAny_mono h (fun _ _ z => wpAny_pure z) fun _ _ z => z)
  split
  · exact wpAny_bind (wpAny_pure (wpAny_pure fin))
  · exact wpAny_tryCatch (wpAny_bind (wpAny_pure (wpAny_pure fin)))
/-- object.__ne__ asks the own __eq__ -/
theorem ne_by_eq {b : Value} {Q : Fin → Shared → Prop} (X : K.In s.heap) (I : PySem.W.InstAt s.heap x ox C od) (hu : A.units < cLine) (hs : PySem.W.findIn K (.ref C) "__eq__" = some (some (.ref f))) (hf : PySem.W.isFn K (.ref f) = true)
    (h : wpAny (model prog w) A (call (.ref f) [.ref x, b]) (fun v s' => ∃ k, v = .bool k ∧ Q (.done (.ret (.bool (!k)))) s') E s) :
    wpAny (model prog w) A (Builtin.«object.__ne__» ⟨[.ref x, b], []⟩) Q E s := by
  unfold Builtin.«object.__ne__»
  refine wpAny_bind (wpAny_of_eq (a := ((Value.ref x : Value), [b])) (by first | rfl | (simp only [slotArgs]; rfl)) ?_)
  refine wpAny_bind (wpAny_cRoomFor hu ?_)
  refine wpAny_bind (m := callSpecialIfBound? (.ref x) (Str.ofString "__eq__") [b]) (PySem.W.ifBound_K X I hs hf (wpAny_mono h ?_ fun _ _ z => z))
  rintro v s' ⟨k, rfl, q⟩
  refine wpAny_bind (wpAny_truthy_bool ?_)
  exact wpAny_pure q
theorem cmp_ne {b : Value} {tb : Value} {Q : Value → Shared → Prop} (hu : A.units + 1 < cLine) (X : K.In s.heap) (I : PySem.W.InstAt s.heap x ox C od) (hb : PySem.W.Looks (model prog w) s.heap (typeOf b) tb) (hn : PySem.W.notFirst K C tb = true)
    (h1 : PySem.W.findIn K (.ref C) "__ne__" = some (some (.builtin "object.__ne__"))) (h2 : PySem.W.subIn K (.ref C) (.type "object") = some true)
    (hs : PySem.W.findIn K (.ref C) "__eq__" = some (some (.ref f))) (hf : PySem.W.isFn K (.ref f) = true)
    (h : wpAny (model prog w) A.in1 (call (.ref f) [.ref x, b]) (fun v s' => ∃ k, v = .bool k ∧ Q (.bool (!k)) s') E s) : wpAny (model prog w) A (richCompare .NotEq (.ref x) b) Q E s := by
  have one : wpAny (model prog w) A (tryCompare (.ref x) (Str.ofString "__ne__") b) (fun r s' => ∃ v, r = some v ∧ Q v s') E s := by
    unfold tryCompare
    refine wpAny_bind (bound_slot X I h1 F.cmp_object.ne ?_)
    refine wpAny_call (codeAny_call_builtin F.cmp_object.ne.plain F.cmpEntry_ne ?_)
    refine PySem.W.check_slot (owner := "object") (n := "__ne__") F.cmpKind_ne F.cmpSplit_ne ((I.type (M := model prog w)).andThen (PySem.W.looks_subIn X h2)) (F.cmpArgs_ne _ _) ?_
    refine ne_by_eq (A := A.in1) X I (by show A.units + 1 < cLine; exact hu) hs hf (wpAny_mono h ?_ fun _ _ z => z)
    rintro v s' ⟨k, rfl, q⟩
    exact ⟨k, rfl, wpAny_pure ⟨_, rfl, q⟩⟩
  unfold richCompare
  simp only [oneThing_ref]
  refine wpAny_holding (wpAny_bind (wpAny_cRoomFor (by omega) ?_))
  rw [cmpInfo_NotEq]
  dsimp only
  refine wpAny_bind (I.type.here (wpAny_bind (hb.here ?_)))
  have go : wpAny (model prog w) A (tryCompare (.ref x) (Str.ofString "__ne__") b >>= fun r => match r with
      | some v => pure v
      | _ => (do
        let r2 ← tryCompare b (Str.ofString "__ne__") (.ref x)
        match r2 with
          | some v => pure v
          | _ => do
            rule "compare.ne-identity"
            let z ← isSame (.ref x) b
            pure (Value.bool !z))) Q E s := by
    refine wpAny_bind (wpAny_mono one ?_ fun _ _ z => z)
    rintro r s' ⟨v, rfl, q⟩
    exact wpAny_pure q
  split
  · rename_i q
    have e : PySem.W.subIn K tb (.ref C) = some false := by
      rcases Bool.or_eq_true_iff.mp hn with e | e
      · rw [beq_iff_eq.mp e] at q
        simp at q
      · exact beq_iff_eq.mp e
    refine wpAny_bind ((PySem.W.looks_subIn X e).here ?_)
    simp only [Bool.false_eq_true, if_false]
    exact go
  · refine wpAny_bind (wpAny_pure ?_)
    simp only [Bool.false_eq_true, if_false]
    exact go
end
end Lb

set_option maxHeartbeats 2000000
namespace Lb
open PySem PySem.Spec PyProof.Rows L2
/-! ### 22. != of two instances of one class; data in an f-string -/
structure NeC (K : PySem.W.Frag) (C : Addr) : Prop where
  ne : PySem.W.findIn K (.ref C) "__ne__" = some (some (.builtin "object.__ne__"))
  ob : PySem.W.subIn K (.ref C) (.type "object") = some true
theorem op_neO {X : Cx} {k j : Nat} {C : Addr} {sp : Sp} (c : Spc X.prog X.w X.K X.mg X.base k C "__eq__" sp) (n : NeC X.K C) (hr : Room j X.A) (hk : k + 1 ≤ j) : OpR X (compareOp .NotEq) (rCmpO C sp (!·)) := by
  rintro pins s σ H x y u v Q I rx ry ⟨a, dx, b, dy, fs, gs, rfl, rfl, ea, eb, h⟩
  obtain ⟨f, fd, ps, a1, a2, F, bd⟩ := c.ex
  obtain rfl : u = Value.ref a := rx
  obtain rfl : v = Value.ref b := ry
  obtain ⟨ox, od, J⟩ := inst_at I ea
  obtain ⟨oy, oe, J2⟩ := inst_at I eb
  have un := hr.un
  refine PySem.W.cmp_ofNotEq (cmp_ne (by omega) I.kIn J J2.type (by unfold PySem.W.notFirst; simp) n.ne n.ob a1 a2 (wpAny_mono (run1 F (hr.mono hk).in1 bd I (.cons (show RelV (.ref a) (.ref a) from rfl) (.cons (show RelV (.ref b) (.ref b) from rfl) .nil)) h) ?_ fun _ _ z => z))
  rintro r s' ⟨z, H', I', rv, q, rfl, w⟩
  obtain rfl : r = Value.bool q := rv
  exact ⟨q, rfl, .bl (!q), H', I', rfl, w⟩
def tFmtD (te : TE) : TE := fun σ H Q => te σ H fun x H1 => ∃ (b a : Addr) (d : PyData), x = .ref a ∧ Dat b H1 d x ∧ Shows d ∧ d.hasDict = false ∧ Q (.str d.shown) H1
theorem pe_fmtD {X : Cx} {k : Nat} {e : Expr} {te : TE} {pos : Pos} (noG : X.A.guards = some []) (hr : Room k X.A) (he : PE X e te) : PE X (.FormattedValue e (-1) none pos) (tFmtD te) := by
  constructor
  intro pins s σ H Q I h
  refine wpAny_FormattedValue_plain (thn (he.run pins s σ H _ I h) ?_)
  rintro v s1 ⟨x, H1, I1, r1, b, a, d, rfl, D, S, nd, q⟩
  obtain ⟨as, rd⟩ := reads_of I1.hok D r1
  obtain rfl : v = Value.ref a := r1
  have un := hr.un
  have dep := S.dep
  exact formatField_of_reads rd S.sh (PyData.noDict_hsm nd) noG (by omega) (fun _ _ z => z) (fun h' u tk hk => ⟨.str d.shown, H1, I1.kept hk, ⟨u, rfl⟩, q⟩) S.sz
/-! ### 23. Own errors with one field: made, raised, caught, asked -/
/-- __init__(self, v): self.fld = v -/
def spXI (C : Addr) (fld : Str) : Sp := fun vs H Q _ => ∃ (a : Addr) (v : V), vs = [.ref a, v] ∧ H a = some (exo a C none) ∧ ∀ dx, H dx = none → dx ≠ a → Q .non (upd (upd H dx (exd dx [(fld, v)])) a (exo a C (some dx)))
structure XC (P : Program) (w : World) (K : PySem.W.Frag) (mg : Str → Option Value) (base : Heap) (k : Nat) (x : Str) (C : Addr) (fld : Str) : Prop where
  o : OexC K C
  m : mg x = some (.ref C)
  i : ∃ (fI : Addr) (fd : FuncData) (ps : List Str), PySem.W.findIn K (.ref C) "__init__" = some (some (.ref fI)) ∧ PySem.W.typeIn K (.ref fI) = some (.type "function") ∧ FnOk P w K mg base CX0 k fI fd ps (spXI C fld) ∧ Binds K fd ps []
/-- how the way out of such a raise is read, once its argument is there -/
theorem raise_in {C : Addr} {fld : Str} {v : V} {H1 : Hp} {Q : XK} (q : ∀ (d : Addr) (H' : Hp), Same H1 H' → H1 d = none → H' d = some (.xd [(fld, v)]) → Q (.ref C) (some d) H') :
    [v].length ≤ 1000 ∧ ∀ a, H1 a = none → spXI C fld (.ref a :: ([v] ++ [])) (upd H1 a (exo a C none))
      (fun u H2 => u = .non ∧ ∃ (d : Addr) (fs : List (Str × V)), H2 a = some (exo a C (some d)) ∧ H2 d = some (exd d fs) ∧ H1 d = none ∧ Q (.ref C) (some d) (upd (del H2 a) d (.xd fs))) (fun _ _ _ => False) := by
  refine ⟨by show 1 ≤ 1000; decide, fun a na => ⟨a, v, rfl, upd_same, fun dx nd ne => ⟨rfl, dx, [(fld, v)], upd_same, ?_, ?_, ?_⟩⟩⟩
  · rw [upd_ne ne, upd_same]
  · rw [upd_ne ne] at nd
    exact nd
  · rw [upd_ne ne] at nd
    refine q dx _ (fun c o z => ?_) nd upd_same
    have ca : c ≠ a := ne_of_none z na
    have cd : c ≠ dx := ne_of_none z nd
    rw [upd_ne cd, del_ne ca, upd_ne ca, upd_ne cd, upd_ne ca]
    exact z
def tRaiseX (C : Addr) (fld : Str) (W : WX) (ta : TA) : TS := fun _ σ H => tMkO C (spXI C fld) [] ta σ H fun cls d H' => W cls d σ H'
theorem ps_raiseX {X : Cx} {k j : Nat} {x fld : Str} {C : Addr} {W : WX} {e : Expr} {ta : TA} {p pos pos2 : Pos} (c : XC X.prog X.w X.K X.mg X.base k x C fld) (calm : X.calm = true) (tk : Takes X W) (hr : Room j X.A) (hk : k + 1 ≤ j) (hg : Gl X x) (ha : PA X [e] ta)
    (h1 : (x == ("__debug__" : Str)) = false := by decide) (h2 : starEach [e] X.env = (false, eval e X.env) :: starEach [] X.env := by rfl) (h3 : (backTo pos (starEach [] X.env)).any (·.1) = false := by rfl) :
    PS X (.Raise (some (.Call (.Name x p) [e] [] pos)) none pos2) (tRaiseX C fld W ta) := by
  obtain ⟨fI, fd, ps, i1, i2, F, b⟩ := c.i
  exact ps_raise (pos := pos2) calm tk (pmk_oex (p := p) (pos := pos) c.o i1 i2 F (hr.mono hk) b .nil (fun _ _ _ _ _ _ _ z => z.elim) hg c.m ha h1 h2 h3)
/-- isinstance(e, c), isinstance(e, (c, ..)): e the error that the suite holds -/
def rIsX (K : PySem.W.Frag) (a : Addr) (cls : Value) (d : Option Addr) : List V → Hp → VK → Prop := fun xs H Q => ∃ (D dd : Addr) (fs : List (Str × V)) (c : V) (cv : Value) (b : Bool), cls = .ref D ∧ d = some dd ∧ H dd = some (.xd fs) ∧ ExcC K D ∧
  xs = [.ref a, c] ∧ ClsV c cv ∧ PySem.W.kitOne K (.ref D) cv = some b ∧ Q (.bl b) H
def rIsXT (K : PySem.W.Frag) (a : Addr) (cls : Value) (d : Option Addr) : List V → Hp → VK → Prop := fun xs H Q => ∃ (D dd tp : Addr) (fs : List (Str × V)) (cs : List V) (us : List Value) (b : Bool), cls = .ref D ∧ d = some dd ∧ H dd = some (.xd fs) ∧ ExcC K D ∧
  xs = [.ref a, .ref tp] ∧ H tp = some (.tup cs) ∧ Paired ClsV cs us ∧ PySem.W.kitAny K (.ref D) us = some b ∧ Q (.bl b) H
section
variable {X : Cx} {a : Addr} {oe : Obj} {cls : Value} {d : Option Addr} {pn : List (Addr × Obj)}
theorem held_at {pins : List (Addr × Obj)} {σ : L2.St} {H : Hp} {s : Shared} {D dd : Addr} {fs : List (Str × V)} (I : Inv (X.suite a ((a, oe) :: pn)) pins σ H s) (hz : Zc (.ref D) (some dd) oe) (hf : ∃ vs, oe.data = .fields vs) (e : H dd = some (.xd fs)) :
    ∃ od, PySem.W.InstAt s.heap a oe D (some od) := by
  obtain ⟨hget, _⟩ := I.pin (a, oe) (List.mem_append.mpr (.inl List.mem_cons_self))
  obtain ⟨vs, hv⟩ := hf
  obtain ⟨mA, ⟨od, es, ep, h1, _⟩, _⟩ := I.hok dd _ e
  exact ⟨od, hget, hz.1, by unfold PySem.W.notCls; rw [hv], by rw [hz.2]; exact h1⟩
theorem cls_some {K : PySem.W.Frag} {D : Addr} (h : PySem.W.hasDictIn K D = true) : (PySem.W.clsIn K D).isSome = true := by
  obtain ⟨cd, hc, _⟩ := PySem.W.any_some h
  rw [hc]
  rfl
theorem call_isX (hz : Zc cls d oe) (hf : ∃ vs, oe.data = .fields vs) : CallR (X.suite a ((a, oe) :: pn)) (.builtin "isinstance") (rIsX X.K a cls d) := by
  rintro pins s σ H xs us Q I r ⟨D, dd, fs, c, cv, b, rfl, rfl, e, C, rfl, k, kt, q⟩
  obtain ⟨u1, u2, rfl, r1, r2⟩ := vals2 r
  obtain rfl : u1 = Value.ref a := r1
  obtain rfl := k.eq r2
  obtain ⟨od, J⟩ := held_at I hz hf e
  exact PySem.W.kia_one (PySem.W.kitx_exc (cls_some C.hd) C.hg C.hk C.hs C.ha C.hn C.ht C.hm) I.kIn J kt (fun z => nomatch z) fun tk => ⟨.bl b, H, I.kept (t' := tk) fun _ _ z => z, rfl, q⟩
theorem call_isXT (hz : Zc cls d oe) (hf : ∃ vs, oe.data = .fields vs) : CallR (X.suite a ((a, oe) :: pn)) (.builtin "isinstance") (rIsXT X.K a cls d) := by
  rintro pins s σ H xs us Q I r ⟨D, dd, tp, fs, cs, ws, b, rfl, rfl, e, C, rfl, hT, k, kt, q⟩
  obtain ⟨u1, u2, rfl, r1, r2⟩ := vals2 r
  obtain rfl : u1 = Value.ref a := r1
  obtain rfl : u2 = Value.ref tp := r2
  obtain ⟨od, J⟩ := held_at I hz hf e
  obtain ⟨_, its, rv, o, h1, h2, n, h3⟩ := I.hok tp _ hT
  obtain rfl := ClsV.all k rv
  obtain ⟨oc, odd, dt, sl⟩ := o
  simp only at h2 h3
  subst h2
  subst h3
  exact PySem.W.kia_tup (PySem.W.kitx_exc (cls_some C.hd) C.hg C.hk C.hs C.ha C.hn C.ht C.hm) I.kIn J h1 kt (fun z => nomatch z) fun tk => ⟨.bl b, H, I.kept (t' := tk) fun _ _ z => z, rfl, q⟩
end
/-- a def that may raise, called where it does not -/
theorem passX {X : Cx} : Passes (L2.CX X.prog X.w) X E0 := by
  rintro pins σ H s e s' I ⟨_, _, _, _, _, _, _, _, _, _, _, _, z⟩
  exact z.elim
structure CalX (P : Program) (w : World) (K : PySem.W.Frag) (mg : Str → Option Value) (base : Heap) (k : Nat) (x : Str) (sp : Sp) : Prop where
  ex : ∃ (f : Addr) (fd : FuncData) (ps : List Str), FnOk P w K mg base (L2.CX P w) k f fd ps sp ∧ mg x = some (.ref f) ∧ PySem.W.keepIn K (.ref f) = true ∧ Binds K fd ps []
section
variable {X : Cx} {x : Str} {p pos : Pos} {e : Expr} {es : List Expr} {t : TA} {k j : Nat} {sp : Sp}
theorem pe_x (c : CalX X.prog X.w X.K X.mg X.base k x sp) (hr : Room j X.A) (hk : k ≤ j) (hg : Gl X x) (ha : PA X (e :: es) t)
    (h1 : (x == ("__debug__" : Str)) = false := by decide) (h2 : starEach (e :: es) X.env = (false, eval e X.env) :: starEach es X.env := by rfl)
    (h3 : (backTo pos (starEach es X.env)).any (·.1) = false := by rfl) : PE X (.Call (.Name x p) (e :: es) [] pos) (tCall sp [] E0 t) := by
  obtain ⟨f, fd, ps, F, hm, kp, b⟩ := c.ex
  exact pe_call F (hr.mono hk) hg hm kp b .nil passX ha h1 h2 h3
theorem pe_xs {W : WX} (c : CalX X.prog X.w X.K X.mg X.base k x sp) (tk : Takes X W) (hr : Room j X.A) (hk : k ≤ j) (hg : Gl X x) (ha : PA X (e :: es) t)
    (h1 : (x == ("__debug__" : Str)) = false := by decide) (h2 : starEach (e :: es) X.env = (false, eval e X.env) :: starEach es X.env := by rfl)
    (h3 : (backTo pos (starEach es X.env)).any (·.1) = false := by rfl) : PE X (.Call (.Name x p) (e :: es) [] pos) (tCallS sp (WE W) t) := by
  obtain ⟨f, fd, ps, F, hm, kp, b⟩ := c.ex
  exact pe_callS F (hr.mono hk) hg hm kp b (fun σ => passAt tk σ) ha h1 h2 h3
end
end Lb

set_option maxHeartbeats 4000000
namespace Lb
open PySem PySem.Spec PyProof.Rows L2
/-! ### 24. What the top has left: defs, methods, classes -/
/-- a def of the text stands under its name -/
structure DefIn (K : PySem.W.Frag) (mg : Str → Option Value) (x : Str) (st : Stmt) : Prop where
  ex : ∃ (f : Addr) (fd : FuncData), Fun K x x st f fd ∧ mg x = some (.ref f)
theorem def_in {K : PySem.W.Frag} {h : Heap} {mg : Str → Option Value} {x : Str} {st : Stmt} (X : K.In h) (G : h.Ns mainGlobals mg) {f : Addr} {od an : Option Addr} {sl : Array (Option Value)} {oc kV dc pm cd ct : Value}
    (a : PySem.W.nsIn K mainGlobals x = some (some (.ref f))) (l : K.lookup f = some ⟨oc, od, .func (PySem.W.fnOf x x (defArgs st) (defBody st) (defScope st) .none kV dc pm an cd ct), sl⟩)
    (c : PySem.W.codeIn K cd x = true) (k : PySem.W.keepIn K (.ref f) = true) : DefIn K mg x st := ⟨f, _, fun_mk l c k, PySem.W.mg_of X G a⟩
theorem int_in {K : PySem.W.Frag} {h : Heap} {mg : Str → Option Value} {x : Str} {n : Int} {t : Tok} (X : K.In h) (G : h.Ns mainGlobals mg) (a : PySem.W.nsIn K mainGlobals x = some (some (.int n t))) : ∃ u, mg x = some u ∧ RelV (.int n) u :=
  ⟨_, PySem.W.mg_of X G a, t, rfl⟩
/-- a method stands in its class -/
structure MethIn (K : PySem.W.Frag) (C : Addr) (x qual : Str) (st : Stmt) : Prop where
  ex : ∃ (f : Addr) (fd : FuncData), Fun K x qual st f fd ∧ PySem.W.findIn K (.ref C) x = some (some (.ref f)) ∧ PySem.W.isFn K (.ref f) = true
theorem meth_in {K : PySem.W.Frag} {C : Addr} {x qual : Str} {st : Stmt} {f : Addr} {od an : Option Addr} {sl : Array (Option Value)} {oc kV dc pm cd ct : Value}
    (a : PySem.W.findIn K (.ref C) x = some (some (.ref f))) (l : K.lookup f = some ⟨oc, od, .func (PySem.W.fnOf x qual (defArgs st) (defBody st) (defScope st) .none kV dc pm an cd ct), sl⟩)
    (c : PySem.W.codeIn K cd qual = true) (k : PySem.W.keepIn K (.ref f) = true) (n : PySem.W.isFn K (.ref f) = true) : MethIn K C x qual st := ⟨f, _, fun_mk l c k, a, n⟩
section
variable {P : Program} {w : World} {K : PySem.W.Frag} {mg : Str → Option Value} {base : Heap} {x : Str} {st : Stmt} {k : Nat} {sp : Sp} {ps : List Str}
theorem DefIn.cal (D : DefIn K mg x st) (hb : ∀ f fd, Fun K x x st f fd → Binds K fd ps []) (ok : ∀ f fd, Fun K x x st f fd → FnOk P w K mg base CX0 k f fd ps sp) : Cal P w K mg base k x sp := by
  obtain ⟨f, fd, F, m⟩ := D.ex
  exact ⟨f, fd, ps, ok f fd F, m, F.kp, hb f fd F⟩
theorem DefIn.calG (D : DefIn K mg x st) (hb : ∀ f fd, Fun K x x st f fd → Binds K fd ps []) (ok : ∀ f fd, Fun K x x st f fd → FnG P w K mg base k f fd ps sp) : CalG P w K mg base k x sp := by
  obtain ⟨f, fd, F, m⟩ := D.ex
  exact ⟨f, fd, ps, ok f fd F, m, F.kp, hb f fd F⟩
theorem DefIn.calX (D : DefIn K mg x st) (hb : ∀ f fd, Fun K x x st f fd → Binds K fd ps []) (ok : ∀ f fd, Fun K x x st f fd → FnOk P w K mg base (L2.CX P w) k f fd ps sp) : CalX P w K mg base k x sp := by
  obtain ⟨f, fd, F, m⟩ := D.ex
  exact ⟨f, fd, ps, ok f fd F, m, F.kp, hb f fd F⟩
end
theorem kit_ty {K : PySem.W.Frag} {D : Addr} {T : String} {b : Bool} (m : PySem.W.kitMeta T = true) (s : PySem.W.subIn K (.ref D) (.type T) = some b) : PySem.W.kitOne K (.ref D) (.type T) = some b := by
  unfold PySem.W.kitOne PySem.W.kitCls
  rw [if_neg (by simp)]
  exact (if_pos m).trans s
theorem kit_no {K : PySem.W.Frag} {D C : Addr} {b : Bool} (n : (D == C) = false) (c : PySem.W.isClsIn K C = true) (t : PySem.W.typeIn K (.ref C) = some (.type "type")) (s : PySem.W.subIn K (.ref D) (.ref C) = some b) : PySem.W.kitOne K (.ref D) (.ref C) = some b := by
  have c2 : (PySem.W.clsIn K C).isSome = true := c
  have e : ((PySem.W.clsIn K C).isSome && PySem.W.typeIn K (.ref C) == some (.type "type")) = true := by rw [c2, t] <;> rfl
  have ne : ¬ ((Value.ref D == Value.ref C) = true) := fun z => by
    have z2 := beq_iff_eq.mp z
    cases z2
    rw [beq_self_eq_true] at n
    cases n
  unfold PySem.W.kitOne PySem.W.kitCls
  rw [if_neg ne]
  exact (if_pos e).trans s
theorem kit_no3 {K : PySem.W.Frag} {t a b c : Value} (h1 : PySem.W.kitOne K t a = some false) (h2 : PySem.W.kitOne K t b = some false) (h3 : PySem.W.kitOne K t c = some false) : PySem.W.kitAny K t [a, b, c] = some false := by
  simp only [PySem.W.kitAny, h1, h2, h3]
theorem refs_se {S : Addr} : PySem.HandSPX.refsVE [.ref S, .type "ValueError", .type "Exception", .type "BaseException", .type "object"] = true := by
  show PySem.HandSPX.refsVE [.type "ValueError", .type "Exception", .type "BaseException", .type "object"] = true
  decide +kernel
end Lb

set_option maxHeartbeats 4000000
namespace Lb
open PySem PySem.Spec PyProof.Rows L2
/-! ### 25. A caught error that is handed on to a def -/
section
variable (P : Program) (w : World) (K : PySem.W.Frag) (mg : Str → Option Value) (base : Heap)
/-- a def that is handed the error at p, of the class cls, with its fields at d -/
structure FnE (k : Nat) (f : Addr) (fd : FuncData) (ps : List Str) (sp : Addr → Value → Option Addr → Sp) : Prop where
  many : ∀ a cls d vs H Q E, sp a cls d vs H Q E → vs.length = ps.length
  go : ∀ (A : Around) (outer : List Env) (s : Shared) (H : Hp) (args : Args) (us : List Value) (vs : List V) (Q : VK) (E : XK) (p : Addr × Obj) (cls : Value) (d : Option Addr),
    L2H.RoomH k A → L2H.PinOk outer H s p → Zc cls d p.2 → (∃ fs, p.2.data = .fields fs) → Env0 P w K mg base A outer s H → BindsTo s fd args (ps.zip us) → Vals vs us → sp p.1 cls d vs H Q E →
      codeAny (model P w) A (.call (.ref f) args) (CR CX0 outer P w H s Q E) s
structure CalE (k : Nat) (x : Str) (sp : Addr → Value → Option Addr → Sp) : Prop where
  ex : ∃ (f : Addr) (fd : FuncData) (ps : List Str), FnE P w K mg base k f fd ps sp ∧ mg x = some (.ref f) ∧ PySem.W.keepIn K (.ref f) = true ∧ Binds K fd ps []
end
section
variable {P : Program} {w : World} {K : PySem.W.Frag} {mg : Str → Option Value} {base : Heap}
theorem fnE_of {x qual : Str} {st : Stmt} {f : Addr} {fd : FuncData} {N ps : List Str} {k : Nat} {sp : Addr → Value → Option Addr → Sp} (F : Fun K x qual st f fd)
    (S : FnScope N ps (defScope st)) (many : ∀ a cls d vs H Q E, sp a cls d vs H Q E → vs.length = ps.length)
    (body : ∀ (cdv : Value) (A : Around) (outer : List Env) (s : Shared) (H : Hp) (vs : List V) (Q : VK) (E : XK) (p : Addr × Obj) (cls : Value) (d : Option Addr),
      L2H.RoomH k (A.deeper (envOfC qual (defScope st) s.heap.objs.size f cdv)) → Zc cls d p.2 → (∃ fs, p.2.data = .fields fs) → sp p.1 cls d vs H Q E →
      ∃ t, PSs (L2H.cxH CX0 P w K mg base N qual (defScope st) f cdv A outer s H E p).nox (defBody st) t ∧ t { nx := fun _ H' => Q .non H', rt := Q } (L2.start N vs) H) :
    FnE P w K mg base (k + 1) f fd ps sp := by
  obtain ⟨oc, od, kV, doc, pm, an, cdv, ct, osl, rfl, lk, hcd⟩ := F.ex
  constructor
  · exact many
  intro A outer s H args us vs Q E p cls d room pin z fl e0 bindsTo vals wish
  have old : ∀ b o, base.get? b = some o → s.heap.get? b = some o := fun b o y => (e0.bs b o y).1
  have inK := e0.mod.kin.keeps old
  have kinds : ∀ y ∈ ps.zip us, (defScope st).names.lookup y.1 = some .local ∨
      ((defScope st).names.lookup y.1 = some .cell ∧ ((cellsFrom (s.heap.objs.size + 1) (defScope st).names []).lookup y.1).isSome = true) := by
    rintro ⟨n, v⟩ hy
    exact (S.par n (List.of_mem_zip hy).1).imp id fun q => ⟨q, PySem.W.cellsFrom_some _ _ _ (.inl q)⟩
  refine codeAny_call_function room.depth (inK _ _ lk) rfl S.co S.gen rfl (PySem.W.codeRec_of inK hcd) (bindsTo _ _ _ _ ?_)
  refine wpAny_newFunctionEnv_cells S.kind kinds ?_
  rintro env rfl s1 x
  refine ⟨(e0.mod.nolimit.keeps old).keeps x.toInCall.keep, codeAny_func ?_⟩
  obtain ⟨t, ht, hq⟩ := body cdv A outer s H vs Q E p cls d (room.deeper _) z fl wish
  have J0 := L2H.inv_startH (CX := CX0) (E := E) S pin e0 (many _ _ _ _ _ _ _ wish) vals x
  refine wpAny_mono (ht.nox.run [] s1 (L2.start N vs) H _ J0 hq) ?_ fun e s' hs => hs
  intro flow s' hs
  cases flow with
  | next =>
    obtain ⟨σ', H', J, q⟩ := hs
    exact ⟨V.non, H', J.os, J.bare, J.base, J.hok, rfl, q⟩
  | ret u =>
    obtain ⟨v, σ', H', J, rv, q⟩ := hs
    exact ⟨v, H', J.os, J.bare, J.base, J.hok, rv, q⟩
  | brk => exact (let ⟨_, _, _, q⟩ := hs; q : False).elim
  | cont => exact (let ⟨_, _, _, q⟩ := hs; q : False).elim
end
section
variable {X : Cx} {cls : Value} {d : Option Addr} {p : Addr × Obj}
theorem pin_at {pins : List (Addr × Obj)} {σ : L2.St} {H : Hp} {s : Shared} {D dd : Addr} {fs : List (Str × V)} (hp : p ∈ X.pn) (I : Inv X pins σ H s) (hz : Zc (.ref D) (some dd) p.2) (hf : ∃ vs, p.2.data = .fields vs) (e : H dd = some (.xd fs)) :
    ∃ od, PySem.W.InstAt s.heap p.1 p.2 D (some od) := by
  obtain ⟨hget, _⟩ := I.pin p (List.mem_append_left _ hp)
  obtain ⟨vs, hv⟩ := hf
  obtain ⟨mA, ⟨od, es, ep, h1, _⟩, _⟩ := I.hok dd _ e
  exact ⟨od, hget, hz.1, by unfold PySem.W.notCls; rw [hv], by rw [hz.2]; exact h1⟩
theorem call_isP (hp : p ∈ X.pn) (hz : Zc cls d p.2) (hf : ∃ vs, p.2.data = .fields vs) : CallR X (.builtin "isinstance") (rIsX X.K p.1 cls d) := by
  rintro pins s σ H xs us Q I r ⟨D, dd, fs, c, cv, b, rfl, rfl, e, C, rfl, k, kt, q⟩
  obtain ⟨u1, u2, rfl, r1, r2⟩ := vals2 r
  obtain rfl : u1 = Value.ref p.1 := r1
  obtain rfl := k.eq r2
  obtain ⟨od, J⟩ := pin_at hp I hz hf e
  exact PySem.W.kia_one (PySem.W.kitx_exc (cls_some C.hd) C.hg C.hk C.hs C.ha C.hn C.ht C.hm) I.kIn J kt (fun y => nomatch y) fun tk => ⟨.bl b, H, I.kept (t' := tk) fun _ _ y => y, rfl, q⟩
theorem call_isPT (hp : p ∈ X.pn) (hz : Zc cls d p.2) (hf : ∃ vs, p.2.data = .fields vs) : CallR X (.builtin "isinstance") (rIsXT X.K p.1 cls d) := by
  rintro pins s σ H xs us Q I r ⟨D, dd, tp, fs, cs, ws, b, rfl, rfl, e, C, rfl, hT, k, kt, q⟩
  obtain ⟨u1, u2, rfl, r1, r2⟩ := vals2 r
  obtain rfl : u1 = Value.ref p.1 := r1
  obtain rfl : u2 = Value.ref tp := r2
  obtain ⟨od, J⟩ := pin_at hp I hz hf e
  obtain ⟨_, its, rv, o, h1, h2, n, h3⟩ := I.hok tp _ hT
  obtain rfl := ClsV.all k rv
  obtain ⟨oc, odd, dt, sl⟩ := o
  simp only at h2 h3
  subst h2
  subst h3
  exact PySem.W.kia_tup (PySem.W.kitx_exc (cls_some C.hd) C.hg C.hk C.hs C.ha C.hn C.ht C.hm) I.kIn J h1 kt (fun y => nomatch y) fun tk => ⟨.bl b, H, I.kept (t' := tk) fun _ _ y => y, rfl, q⟩
theorem pe_xp {C : Addr} {e : Expr} {te : TE} {pos : Pos} {n : Str} (T : XfC X.K C) (hno : PySem.W.findIn X.K (.ref C) n = some none) (hp : p ∈ X.pn) (hz : Zc cls d p.2) (hf : ∃ vs, p.2.data = .fields vs) (he : PE X e te)
    (hb : attributeBase e n X.env (eval e X.env) = eval e X.env := by rfl) : PE X (.Attribute e n pos) (tXf p.1 cls d C n te) := by
  constructor
  intro pins s σ H Q I h
  refine attr_of hb (thn (he.run pins s σ H _ I h) ?_)
  rintro u s1 ⟨x, H1, I1, rx, rfl, rfl, dd, fs, v, rfl, ea, l, q⟩
  obtain rfl : u = Value.ref p.1 := rx
  obtain ⟨hget, _⟩ := I1.pin p (List.mem_append_left _ hp)
  obtain ⟨vs, hv⟩ := hf
  obtain ⟨mA, hns, hr⟩ : ObjOk X.prog X.w H1 s1.heap dd (.xd fs) := I1.hok dd _ ea
  obtain ⟨od, ho, hl⟩ := lookIn_ns hns
  obtain ⟨y, hu, ru⟩ := RelO.some_of (v := v) (o := mA n) (by rw [← l]; exact hr n)
  have J : PySem.W.InstAt s1.heap p.1 p.2 C (some od) := ⟨hget, hz.1, by unfold PySem.W.notCls; rw [hv], by rw [hz.2]; exact ho⟩
  exact HandSPX.exc_get I1.kIn J T.ga T.gg T.exC (PySem.W.findObj_own T.hdC hno rfl (by rw [hl, hu])) (handed_of ru) ⟨v, H1, I1.tok _, ru, q⟩
end
/-- f(e) in the suite that holds e -/
def tE (sp : Addr → Value → Option Addr → Sp) (a : Addr) (cls : Value) (d : Option Addr) (t : TA) : TE := fun σ H Q => t σ H fun vs H1 => sp a cls d vs H1 Q E0
theorem pe_e {X : Cx} {x : Str} {q pos : Pos} {e : Expr} {es : List Expr} {t : TA} {k j : Nat} {sp : Addr → Value → Option Addr → Sp} {a : Addr} {oe : Obj} {cls : Value} {d : Option Addr} {pn : List (Addr × Obj)} (c : CalE X.prog X.w X.K X.mg X.base k x sp) (hr : Room j X.A) (hk : k ≤ j)
    (hz : Zc cls d oe) (hf : ∃ vs, oe.data = .fields vs) (hg : Gl (X.suite a ((a, oe) :: pn)) x) (ha : PA (X.suite a ((a, oe) :: pn)) (e :: es) t)
    (h1 : (x == ("__debug__" : Str)) = false := by decide) (h2 : starEach (e :: es) X.env = (false, eval e X.env) :: starEach es X.env := by rfl)
    (h3 : (backTo pos (starEach es X.env)).any (·.1) = false := by rfl) : PE (X.suite a ((a, oe) :: pn)) (.Call (.Name x q) (e :: es) [] pos) (tE sp a cls d t) := by
  obtain ⟨f, fd, ps, F, hm, kp, b⟩ := c.ex
  constructor
  intro pins s σ H Q I h
  refine wpAny_Call_Name_kw (ld_glob I hg hm ?_ h1)
  refine PySem.W.callWith_K (h₀ := X.base) I.ok.mod.kin kp (thn (ha.run pos pins s σ H _ I h) ?_) h2 h3
  rintro us s1 ⟨vs, H1, I1, r, y⟩
  refine ⟨I1.kIn, ?_⟩
  have len : us.length = ps.length := r.length.symm.trans (F.many _ _ _ _ _ _ _ y)
  have bt := b s1 us I1.kIn (by rw [List.append_nil]; exact len)
  rw [List.append_nil] at bt
  obtain ⟨g1, g2, g3, g4, g5⟩ := I1.pin (a, oe) (List.mem_append_left _ List.mem_cons_self)
  have pin : L2H.PinOk (X.suite a ((a, oe) :: pn)).stack H1 s1 (a, oe) := by
    refine ⟨g1, g2, fun hm => ?_, g5⟩
    exact (List.mem_cons.mp (I1.stkSub a hm)).elim g3 g4
  have hm := hr.mono hk
  refine wpAny_call (codeAny_mono (F.go _ _ s1 H1 ⟨us, []⟩ us vs Q E0 (a, oe) cls d ⟨hm.dp, hm.un⟩ pin hz hf I1.env0 bt r y) ?_)
  intro z s' hq
  cases z with
  | error e => exact False.elim hq
  | ok fl => cases fl with
    | ret u => exact I1.after hq
    | next => exact False.elim hq
    | brk => exact False.elim hq
    | cont => exact False.elim hq
/-! ### 26. Makings and methods that may raise, within a try -/
def tMakeX (C : Addr) (sp : Sp) (E : L2.St → XK) (t : TA) : TE := fun σ H Q => t σ H fun vs H1 => ∀ x dx, H1 x = none → H1 dx = none → dx ≠ x →
  sp (.ref x :: vs) (upd (upd H1 dx (.own x)) x (.ins C dx [])) (fun v H2 => v = .non ∧ Q (.ref x) H2) (E σ)
theorem pe_makeX {X : Cx} {C f : Addr} {k j : Nat} {fd : FuncData} {ps : List Str} {sp : Sp} {W : WX} {x : Str} {p pos : Pos} {e : Expr} {es : List Expr} {t : TA} (M : L2.Mk X.K C f) (F : FnOk X.prog X.w X.K X.mg X.base (L2.CX X.prog X.w) k f fd ps sp) (tk : Takes X W) (hr : Room j X.A) (hk : k + 1 ≤ j)
    (hg : Gl X x) (hm : X.mg x = some (.ref C)) (hb : Binds X.K fd ps []) (ha : PA X (e :: es) t)
    (h1 : (x == ("__debug__" : Str)) = false := by decide) (h2 : starEach (e :: es) X.env = (false, eval e X.env) :: starEach es X.env := by rfl)
    (h3 : (backTo pos (starEach es X.env)).any (·.1) = false := by rfl) : PE X (.Call (.Name x p) (e :: es) [] pos) (tMakeX C sp (WE W) t) := by
  constructor
  intro pins s σ H Q I h
  refine wpAny_Call_Name_kw (ld_glob I hg hm ?_ h1)
  refine PySem.W.callWith_K (h₀ := X.base) I.ok.mod.kin M.kp (thn (ha.run pos pins s σ H _ I h) ?_) h2 h3
  rintro us s1 ⟨vs, H1, I1, r, q⟩
  refine ⟨I1.kIn, ?_⟩
  have wish := q (s1.heap.objs.size + 1) s1.heap.objs.size (I1.hok.fresh (Nat.le_succ _)) (I1.hok.fresh (Nat.le_refl _)) (Nat.ne_of_lt (Nat.lt_succ_self _))
  have I2 := Inv.made (C := C) I1
  have r2 : Vals (V.ref (s1.heap.objs.size + 1) :: vs) (Value.ref (s1.heap.objs.size + 1) :: us) := .cons rfl r
  have len : (Value.ref (s1.heap.objs.size + 1) :: us).length = ps.length := r2.length.symm.trans (F.len _ _ _ _ wish)
  have bt := hb { s1 with heap := _ } (Value.ref (s1.heap.objs.size + 1) :: us) I2.kIn (by rw [List.append_nil]; exact len)
  rw [List.append_nil] at bt
  have rm : Room (k + 1) X.A := hr.mono hk
  refine wpAny_call (make_map (f := f) I1.kIn M.makes M.init (beq_iff_eq.mp M.fn) (codeAny_mono (F.run _ X.stack _ _ ⟨Value.ref (s1.heap.objs.size + 1) :: us, []⟩ _ _ _ (WE W σ) (rm.make C us []) (I2.env0.make C us []) bt r2 wish) ?_))
  intro z s' hq
  cases z with
  | error e => exact passAt tk σ pins _ _ e s' I2 hq
  | ok fl => cases fl with
    | ret u =>
      obtain ⟨v, H', I3, rv, rfl, q3⟩ := I2.after hq
      exact ⟨rv, ⟨V.ref (s1.heap.objs.size + 1), H', I3, rfl, q3⟩⟩
    | next => exact False.elim hq
    | brk => exact False.elim hq
    | cont => exact False.elim hq
def tMethX (C : Addr) (m : Str) (sp : Sp) (E : L2.St → XK) (ta : TE) (t : TA) : TE := fun σ H Q => ta σ H fun x H1 => ∃ a dx fs, x = .ref a ∧ H1 a = some (.ins C dx fs) ∧ fs.lookup m = none ∧ t σ H1 fun vs H2 => sp (x :: vs) H2 Q (E σ)
theorem pe_methX {X : Cx} {C f : Addr} {k j : Nat} {fd : FuncData} {ps : List Str} {sp : Sp} {W : WX} {m : Str} {pos apos : Pos} {e o : Expr} {es : List Expr} {ta : TE} {t : TA} {pl : Sem Bool} (he : PE X o ta) (c : Cls X.K C) (hm : Meth X.K C m f)
    (F : FnOk X.prog X.w X.K X.mg X.base (L2.CX X.prog X.w) k f fd ps sp) (tk : Takes X W) (hr : Room j X.A) (hk : k ≤ j) (hb : Binds X.K fd ps []) (ha : PA X (e :: es) t)
    (h2 : starEach (e :: es) X.env = (false, eval e X.env) :: starEach es X.env := by rfl) (h3 : (backTo pos (starEach es X.env)).any (·.1) = false := by rfl)
    (ht : eval (.Call (.Attribute o m apos) (e :: es) [] pos) X.env = (do
      let ov ← eval o X.env; standAt apos.atName
      let (f, first) ← holding [ov] (getMethod ov m pl); callWith pos f first (backTo pos (starEach (e :: es) X.env)) (backToKw pos (keywordEach [] X.env))) := by rfl) :
    PE X (.Call (.Attribute o m apos) (e :: es) [] pos) (tMethX C m sp (WE W) ta t) := by
  constructor
  intro pins s σ H Q I h
  refine PySem.W.methodCall_KW (pl := pl) (thn (he.run pins s σ H _ I h) ?_) ht
  rintro u s1 ⟨x, H1, I1, rx, a, dx, fs, rfl, ea, l, q⟩
  obtain rfl : u = Value.ref a := rx
  refine getmeth_ok I1 ea c hm l ?_
  refine PySem.W.callWith_K (first := [.ref a]) (h₀ := X.base) I.ok.mod.kin hm.kp (thn (ha.run pos pins s1 σ H1 _ I1 q) ?_) h2 h3
  rintro us s2 ⟨vs, H2, I2, r, q2⟩
  exact ⟨I2.kIn, run_fnS (us := .ref a :: us) (vs := .ref a :: vs) F (hr.mono hk) hb (passAt tk σ) I2 (.cons rfl r) q2⟩
/-! ### 27. == by the own method, the other side any thing -/
def rEqO (K : PySem.W.Frag) (C : Addr) (sp : Sp) (g : Bool → Bool) : V → V → Hp → VK → Prop := fun x y H Q => ∃ (a dx : Addr) (fs : List (Str × V)) (tb : Value), x = .ref a ∧ H a = some (.ins C dx fs) ∧ TyX K H y tb ∧ PySem.W.notFirst K C tb = true ∧
  sp [.ref a, y] H (fun v H' => ∃ k : Bool, v = .bl k ∧ Q (.bl (g k)) H') E0
theorem op_eqO {X : Cx} {k j : Nat} {C : Addr} {sp : Sp} (c : Spc X.prog X.w X.K X.mg X.base k C "__eq__" sp) (hr : Room j X.A) (hk : k ≤ j) : OpR X (compareOp .Eq) (rEqO X.K C sp id) := by
  rintro pins s σ H x y u v Q I rx ry ⟨a, dx, fs, tb, rfl, ea, ty, nf, h⟩
  obtain ⟨f, fd, ps, a1, a2, F, bd⟩ := c.ex
  obtain rfl : u = Value.ref a := rx
  obtain ⟨ox, od, J⟩ := inst_at I ea
  obtain ⟨Pz, Z, pz, _⟩ := kit_of I ry ty
  obtain ⟨m, fr⟩ := I.fr
  have un := hr.un
  refine PySem.W.cmp_ofEq (PySem.W.cmp_K (op := .Eq) (by omega) fr I.ok.mod.kin J (Z.ty _ _ I.kIn pz) nf a1 a2 (wpAny_mono (run_fn F (hr.mono hk) bd .nil pass0 I (.cons (show RelV (.ref a) (.ref a) from rfl) (.cons ry .nil)) h) ?_ fun _ _ z => z))
  rintro r s' ⟨z, H', I', rv, q, rfl, w⟩
  obtain rfl : r = Value.bool q := rv
  exact ⟨.bl q, H', I', rfl, w⟩
theorem notFirst_ty {K : PySem.W.Frag} {C : Addr} {T : String} {l : List Value} (h : fastBuiltinMro T = some l) (k : ∀ v ∈ l, ∃ t, v = .type t) : PySem.W.notFirst K C (.type T) = true := by
  unfold PySem.W.notFirst PySem.W.subIn
  simp only [h, Option.map_some]
  have e : l.contains (Value.ref C) = false := by
    cases q : l.contains (Value.ref C) with
    | false => rfl
    | true =>
      obtain ⟨t, z⟩ := k _ (List.contains_iff_mem.mp q)
      cases z
  rw [e]
  simp
end Lb

set_option maxHeartbeats 4000000
namespace Lb
open PySem PySem.Spec PyProof.Rows L2
theorem mro_of (d : PyData) : ∃ l, fastBuiltinMro (tyN d) = some l ∧ ∀ v ∈ l, ∃ t, v = Value.type t := by
  have go : ∀ {T : String} {l : List Value}, fastBuiltinMro T = some l → (l.all fun v => match v with | .type _ => true | _ => false) = true → ∃ l, fastBuiltinMro T = some l ∧ ∀ v ∈ l, ∃ t, v = Value.type t := by
    intro T l h k
    refine ⟨l, h, fun v hv => ?_⟩
    have := List.all_eq_true.mp k v hv
    cases v with
    | type t => exact ⟨t, rfl⟩
    | _ => cases this
  cases d with
  | none => exact go (show fastBuiltinMro "NoneType" = some [.type "NoneType", .type "object"] by decide +kernel) (by decide +kernel)
  | bool _ => exact go (show fastBuiltinMro "bool" = some [.type "bool", .type "int", .type "object"] by decide +kernel) (by decide +kernel)
  | int _ => exact go (show fastBuiltinMro "int" = some [.type "int", .type "object"] by decide +kernel) (by decide +kernel)
  | str _ => exact go (show fastBuiltinMro "str" = some [.type "str", .type "object"] by decide +kernel) (by decide +kernel)
  | list _ => exact go (show fastBuiltinMro "list" = some [.type "list", .type "object"] by decide +kernel) (by decide +kernel)
  | tuple _ => exact go (show fastBuiltinMro "tuple" = some [.type "tuple", .type "object"] by decide +kernel) (by decide +kernel)
  | dict _ => exact go (show fastBuiltinMro "dict" = some [.type "dict", .type "object"] by decide +kernel) (by decide +kernel)
theorem notFirst_of {K : PySem.W.Frag} {C : Addr} (d : PyData) : PySem.W.notFirst K C (.type (tyN d)) = true := by
  obtain ⟨l, h, k⟩ := mro_of d
  exact notFirst_ty h k
theorem kit_notOwn {K : PySem.W.Frag} {C : Addr} (c : PySem.W.isClsIn K C = true) (t : PySem.W.typeIn K (.ref C) = some (.type "type")) (d : PyData) : PySem.W.kitOne K (.type (tyN d)) (.ref C) = some false := by
  have c2 : (PySem.W.clsIn K C).isSome = true := c
  have e : ((PySem.W.clsIn K C).isSome && PySem.W.typeIn K (.ref C) == some (.type "type")) = true := by rw [c2, t] <;> rfl
  obtain ⟨l, h, k⟩ := mro_of d
  have e2 : l.contains (Value.ref C) = false := by
    cases q : l.contains (Value.ref C) with
    | false => rfl
    | true =>
      obtain ⟨t, z⟩ := k _ (List.contains_iff_mem.mp q)
      cases z
  unfold PySem.W.kitOne PySem.W.kitCls
  rw [if_neg (by simp)]
  refine (if_pos e).trans ?_
  unfold PySem.W.subIn
  simp only [h, Option.map_some, e2]
end Lb

set_option maxHeartbeats 2000000
namespace Kk
open PySem PySem.Spec PyProof.Rows L2 Lb
def topS (i : Nat) : Stmt := PySem.Challenge.pw_sleepmany_k14_books_told_refused.main.body.getD i (.Pass ⟨0, 0, 0, 0⟩)
abbrev st_L_bag : Stmt := topS 17
abbrev N_L_bag : List Str := ["_law_script", "_law_cell"]
abbrev P_L_bag : List Str := ["_law_script"]
theorem sc_L_bag : FnScope N_L_bag P_L_bag (defScope st_L_bag) := ⟨rfl, rfl, rfl, by decide +kernel, rfl, by decide +kernel, by decide +kernel⟩
abbrev st_L_take : Stmt := topS 18
abbrev N_L_take : List Str := ["_law_bag_here", "_law_many", "_law_cell", "_law_value", "_law_first", "_law_second"]
abbrev P_L_take : List Str := ["_law_bag_here", "_law_many"]
theorem sc_L_take : FnScope N_L_take P_L_take (defScope st_L_take) := ⟨rfl, rfl, rfl, by decide +kernel, rfl, by decide +kernel, by decide +kernel⟩
structure Con (mg : Str → Option Value) : Prop where
  GREATEST_LENGTH : ∃ u, mg "GREATEST_LENGTH" = some u ∧ RelV (.int (10 ^ 9)) u
  MOST_SLEEPERS : ∃ u, mg "MOST_SLEEPERS" = some u ∧ RelV (.int 40) u
abbrev st_is_whole : Stmt := topS 9
abbrev N_is_whole : List Str := ["thing"]
abbrev P_is_whole : List Str := ["thing"]
theorem sc_is_whole : FnScope N_is_whole P_is_whole (defScope st_is_whole) := ⟨rfl, rfl, rfl, by decide +kernel, rfl, by decide +kernel, by decide +kernel⟩
abbrev st_is_within : Stmt := topS 10
abbrev N_is_within : List Str := ["thing", "least", "greatest"]
abbrev P_is_within : List Str := ["thing", "least", "greatest"]
theorem sc_is_within : FnScope N_is_within P_is_within (defScope st_is_within) := ⟨rfl, rfl, rfl, by decide +kernel, rfl, by decide +kernel, by decide +kernel⟩
abbrev st_is_length : Stmt := topS 11
abbrev N_is_length : List Str := ["thing"]
abbrev P_is_length : List Str := ["thing"]
theorem sc_is_length : FnScope N_is_length P_is_length (defScope st_is_length) := ⟨rfl, rfl, rfl, by decide +kernel, rfl, by decide +kernel, by decide +kernel⟩
abbrev st_are_lengths : Stmt := topS 13
abbrev N_are_lengths : List Str := ["thing", "part"]
abbrev P_are_lengths : List Str := ["thing"]
theorem sc_are_lengths : FnScope N_are_lengths P_are_lengths (defScope st_are_lengths) := ⟨rfl, rfl, rfl, by decide +kernel, rfl, by decide +kernel, by decide +kernel⟩
def areL : PyData → Bool
  | .list ds => (decide (1 ≤ ds.length) && decide (ds.length ≤ 40)) && ds.all (within 1 (10 ^ 9))
  | _ => false
def smallL : PyData → Prop
  | .list ds => ds.length ≤ 1000
  | _ => True
section
variable {P : Program} {w : World} {K : PySem.W.Frag} {mg : Str → Option Value} {base : Heap}
theorem ok_take {f : Addr} {fd : FuncData} (F : Fun K "_law_take" "_law_take" st_L_take f fd) (B : Blt mg) : FnOk P w K mg base CX0 1 f fd P_L_take spTake := by
  refine F.ok sc_L_take (fun vs H Q E h => ?_) (fun cdv A outer s H vs Q E hr h => ?_)
  · obtain ⟨b, c, many, rfl, _⟩ := h
    rfl
  · obtain ⟨b, c, many, rfl, G, m0, m1, q⟩ := h
    refine ⟨_, (Evl.pss_cut (ps_if (pt_cmpR op_eq (pe_ix ix_list (pv 0) pe_int (fun _ _ => rfl)) pe_int (nomark _)) (pss_cons (ps_set (i := 2) sc_L_take.nd rfl (Or.inl rfl) pe_int)
      (Evl.pss_cut (ps_if (pt_cmpR op_lt (pe_ix ix_list (pv 0) pe_int (fun _ _ => rfl)) (pe_callB call_len (by rfl) B.len (by decide +kernel) (pa_cons (pe_ix ix_list (pv 0) pe_int (fun _ _ => rfl)) pa_nil)) (nomark _)) (pss_one (ps_set (i := 2) sc_L_take.nd rfl (Or.inl rfl) (pe_ix ix_list (pe_ix ix_list (pv 0) pe_int (fun _ _ => rfl)) (pe_ix ix_list (pv 0) pe_int (fun _ _ => rfl)) (fun _ _ => rfl)))) pss_nil)
      (pss_cons (ps_augS (pv 0) pe_int get_list pe_int ip_add set_list)
      (Evl.pss_cut (ps_if (pt_cmpR op_ge (pv 2) pe_int (nomark _)) (pss_one (ps_asg (pv 2) (pg_sub (pv 0) pe_int set_list))) pss_nil)
      (pss_one (ps_asg (pe_op op_mod (pe_op op_add (pe_op op_add (pe_op op_mul (pe_ix ix_list (pv 0) pe_int (fun _ _ => rfl)) pe_int) (pe_op op_mod (pv 2) pe_int)) (pe_op op_mul pe_int (pe_ix ix_list (pv 0) pe_int (fun _ _ => rfl)))) pe_int) (pg_sub (pv 0) pe_int set_list))))))) pss_nil)
      (pss_cons (ps_if (pt_cmpR op_gt (pe_ix ix_list (pv 0) pe_int (fun _ _ => rfl)) pe_int (nomark _)) (pss_cons (ps_set (i := 3) sc_L_take.nd rfl (Or.inl rfl) (pe_op op_mod (pe_ix ix_list (pv 0) pe_int (fun _ _ => rfl)) (pv 1)))
      (pss_cons (ps_asg (pe_op op_fdivW (pe_ix ix_list (pv 0) pe_int (fun _ _ => rfl)) (pv 1)) (pg_sub (pv 0) pe_int set_list))
      (pss_one (ps_ret (pv 3))))) pss_nil)
      (pss_cons (ps_set (i := 4) sc_L_take.nd rfl (Or.inl rfl) (pe_op op_mod (pe_op op_mul (pe_op op_add (pe_ix ix_list (pv 0) pe_int (fun _ _ => rfl)) pe_int) pe_int) pe_int))
      (pss_cons (ps_set (i := 5) sc_L_take.nd rfl (Or.inl rfl) (pe_op op_mod (pe_op op_mul (pe_op op_mod (pe_op op_mul (pv 4) (pv 4)) pe_int) pe_int) pe_int))
      (pss_cons (ps_if (pt_cmpR op_gt (pv 1) pe_int (nomark _)) (pss_one (ps_ret (pe_op op_mod (pe_op op_add (pe_op op_mul (pv 5) pe_int) (pv 4)) (pv 1)))) pss_nil)
      (pss_one (ps_ret (pe_op op_mod (pe_op op_fdivW (pv 5) pe_int) (pv 1))))))))), ?_⟩
    obtain ⟨n, st, p, ns, e1, e2, n0, p0, ns0, nl⟩ := G.ex
    refine ⟨fun σ' H' => ∃ x2, σ' = [some (.ref b), some (.int many), x2, none, none, none] ∧ Bag H' b c ∧ (∀ a, a ≠ b → H' a = H a), ?_, ?_⟩
    · refine ⟨.ref b, rfl, b, _, 0, _, rfl, rfl, SqL.of e1, rfl, rfl, _, rfl, ite2 (fun _ => ?_) (fun _ => ⟨none, rfl, G, fun _ _ => rfl⟩)⟩
      refine ⟨fun σ' H' => ∃ z : Int, 0 ≤ z ∧ σ' = [some (.ref b), some (.int many), some (.int z), none, none, none] ∧ H' = H, ?_, ?_⟩
      · refine ⟨.ref b, rfl, b, _, 2, _, rfl, rfl, SqL.of e1, rfl, .ref b, rfl, b, _, 3, _, rfl, rfl, SqL.of e1, rfl, .ref c, _, rfl, .inl ⟨_, SqL.of e2, rfl⟩, p, _, rfl, rfl, _, rfl, ite2 (fun lt => ?_) (fun _ => ⟨0, by decide, rfl, rfl⟩)⟩
        have lt2 : p < ((ns.map V.int).length : Int) := of_decide_eq_true lt
        rw [List.length_map] at lt2
        have lt3 : p.toNat < ns.length := by omega
        refine ⟨.ref b, rfl, b, _, 3, _, rfl, rfl, SqL.of e1, rfl, .ref b, rfl, b, _, 2, _, rfl, rfl, SqL.of e1, rfl, c, _, p, .int ns[p.toNat], rfl, rfl, SqL.of e2, at_of (j := p.toNat) (by omega) ?_, ns[p.toNat], ns0 _ (List.getElem_mem _), rfl, rfl⟩
        rw [List.getElem?_map, List.getElem?_eq_getElem lt3]
        rfl
      · rintro σ' H' ⟨z, z0, rfl, rfl⟩
        -- bag[2] += 1
        refine ⟨.ref b, rfl, b, _, 2, _, rfl, rfl, SqL.of e1, rfl, p, 1, rfl, rfl, b, _, 2, 2, rfl, rfl, e1, rfl, ?_⟩
        refine ⟨fun σ2 H2 => ∃ n2 : Int, 0 ≤ n2 ∧ σ2 = [some (.ref b), some (.int many), some (.int z), none, none, none] ∧ H2 b = some (.lst [.int n2, .int st, .int (p + 1), .ref c]) ∧ (∀ a, a ≠ b → H2 a = H' a), ?_, ?_⟩
        · refine ⟨.int z, rfl, _, _, rfl, rfl, _, rfl, ite2 (fun _ => ?_) (fun _ => ?_)⟩
          · refine ⟨.int z, rfl, .ref b, rfl, b, _, 0, 0, rfl, rfl, upd_same, rfl, z, z0, rfl, upd_same, fun a ha => ?_⟩
            rw [upd_ne ha, upd_ne ha]
          · exact ⟨n, n0, rfl, upd_same, fun a ha => upd_ne ha⟩
        · rintro σ2 H2 ⟨n2, n20, rfl, f1, f2⟩
          refine ⟨.ref b, rfl, b, _, 1, _, rfl, rfl, SqL.of f1, rfl, st, 48271, rfl, rfl, .inr ⟨by decide, by decide⟩, .int z, rfl, z, 2147483647, rfl, rfl, (by show (0 : Int) < 2147483647; decide), _, _, rfl, rfl,
            .ref b, rfl, b, _, 2, _, rfl, rfl, SqL.of f1, rfl, 7919, p + 1, rfl, rfl, .inl ⟨by decide, by decide⟩, _, _, rfl, rfl, _, 2147483647, rfl, rfl, (by show (0 : Int) < 2147483647; decide), .ref b, rfl, b, _, 1, 1, rfl, rfl, f1, rfl, some (.int z), rfl, ?_, fun a ha => ?_⟩
          · exact G.kp (fun a ha => by rw [upd_ne ha, f2 a ha]) (Eq.trans upd_same rfl) n20 (by omega)
          · rw [upd_ne ha, f2 a ha]
    · rintro σ' H' ⟨x2, rfl, G', hk⟩
      obtain ⟨n, st, p, ns, e1, e2, n0, p0, ns0, nl⟩ := G'.ex
      refine ⟨.ref b, rfl, b, _, 0, _, rfl, rfl, SqL.of e1, rfl, n, 0, rfl, rfl, _, rfl, ite2 (fun _ => ?_) (fun _ => ?_)⟩
      · refine ⟨.ref b, rfl, b, _, 0, _, rfl, rfl, SqL.of e1, rfl, .int many, rfl, n, many, rfl, rfl, m0, ?_⟩
        refine ⟨.ref b, rfl, b, _, 0, _, rfl, rfl, SqL.of e1, rfl, .int many, rfl, n, many, rfl, rfl, cdiv_any (many_log m0 m1), .ref b, rfl, b, _, 0, 0, rfl, rfl, e1, rfl, .int (n % many), rfl, ?_⟩
        refine q _ _ (Int.emod_nonneg _ (by omega)) (Int.emod_lt_of_pos _ m0) ?_ fun a ha => ?_
        · exact G'.kp (fun a ha => upd_ne ha) (Eq.trans upd_same rfl) (Int.ediv_nonneg n0 (by omega)) p0
        · rw [upd_ne ha, hk a ha]
      · refine ⟨.ref b, rfl, b, _, 1, _, rfl, rfl, SqL.of e1, rfl, st, 1, rfl, rfl, _, 39373, rfl, rfl, .inr ⟨by decide, by decide⟩, _, 1000000007, rfl, rfl, (by show (0 : Int) < 1000000007; decide), ?_⟩
        refine ⟨_, rfl, _, rfl, _, _, rfl, rfl, .inl ⟨show -(2 ^ 64) < (st + 1) * 39373 % 1000000007 by omega, show (st + 1) * 39373 % 1000000007 < 2 ^ 64 by omega⟩, _, 998244353, rfl, rfl, (by show (0 : Int) < 998244353; decide), _, 30011, rfl, rfl, .inr ⟨by decide, by decide⟩, _, 998244353, rfl, rfl, (by show (0 : Int) < 998244353; decide), ?_⟩
        refine ⟨.int many, rfl, many, 1000000, rfl, rfl, _, rfl, ite2 (fun _ => ?_) (fun _ => ?_)⟩
        · refine ⟨_, rfl, _, 1000000007, rfl, rfl, .inr ⟨by decide, by decide⟩, _, rfl, _, _, rfl, rfl, .int many, rfl, _, many, rfl, rfl, m0, ?_⟩
          exact q _ _ (Int.emod_nonneg _ (by omega)) (Int.emod_lt_of_pos _ m0) G' hk
        · refine ⟨_, rfl, _, 7, rfl, rfl, ⟨by decide, by decide⟩, .int many, rfl, _, many, rfl, rfl, m0, ?_⟩
          exact q _ _ (Int.emod_nonneg _ (by omega)) (Int.emod_lt_of_pos _ m0) G' hk
theorem ok_bag {f : Addr} {fd : FuncData} (F : Fun K "_law_bag" "_law_bag" st_L_bag f fd) (B : Blt mg) : FnOk P w K mg base CX0 1 f fd P_L_bag (spBag K) := by
  refine F.ok sc_L_bag (fun vs H Q E h => ?_) (fun cdv A outer s H vs Q E hr h => ?_)
  · obtain ⟨a, ns, rfl, _⟩ := h
    rfl
  · obtain ⟨a, ns, rfl, hS, nl, q⟩ := h
    refine ⟨_, (pss_one (ps_ret (pe_lst (pa_cons pe_int (pa_cons pe_int (pa_cons pe_int (pa_cons (pe_lc (own := [("_law_cell", 1)]) (g := gName 1) (tt := tYes) rfl sc_L_bag.nd (pi_list (pe_slice sl_list (pv 0) po_none (po_some pe_int))) (blkOk_by (N := N_L_bag) (sc := defScope st_L_bag) (by decide +kernel)) (fun _ _ _ _ _ => pg_name (i := 1) sc_L_bag.nd rfl (Or.inl rfl)) (fun _ _ _ _ _ => pts_nil) (fun _ _ _ _ _ => (pe_callB call_abs (by rfl) B.abs_ (by decide +kernel) (pa_cons (pv 1) pa_nil)))) pa_nil))))))), ?_⟩
    refine ⟨.ref a, rfl, 63, rfl, a, ns.map V.int, rfl, hS, fun d nd => ?_⟩
    rw [cut_to (by decide)]
    have e63 : (ns.map V.int).take (63 : Int).toNat = ns.map V.int := List.take_of_length_le (by rw [List.length_map]; exact nl)
    rw [e63]
    refine ⟨d, rfl, ⟨_, SqL.of upd_same⟩, fun D hD => lc_list (K := K) (a := d) (xs := ns.map V.int) (fun i H' => Lb.Mk (upd H d (.lst (ns.map V.int))) D ((ns.take i).map fun z => V.int (if z < 0 then -z else z)) H') (Lb.Mk.start hD) (fun i H' _ M => SqL.of (M.same _ _ upd_same)) ?_ ?_⟩
    · intro i x H' hi M
      obtain ⟨z, hz, rfl⟩ : ∃ z, ns[i]? = some z ∧ V.int z = x := by
        rw [List.getElem?_map] at hi
        exact Option.map_eq_some_iff.mp hi
      refine ⟨rfl, .int z, rfl, z, rfl, _, M.at_, ?_, ?_⟩
      · rw [List.length_map, List.length_take]
        exact sz_lo (by omega)
      · rw [List.take_add_one, hz, List.map_append]
        exact M.next (Same.refl _)
    · intro H' M
      rw [List.length_map, List.take_length] at M
      refine ⟨by show 4 ≤ sizeLine; decide, fun b nb => ?_⟩
      have s0 : Same H H' := (same_new nd).trans M.same
      have n2 : H D = none := (same_new nd).free M.new
      have nDb : D ≠ b := ne_of_none M.at_ nb
      refine q b D _ (s0.free nb) n2 (s0.trans (same_new nb)) ⟨⟨0, 1234567891, 0, ns.map fun z => if z < 0 then -z else z, upd_same, ?_, by decide, by decide, ?_, by rw [List.length_map]; exact nl⟩, nDb⟩
      · rw [upd_ne nDb, List.map_map]
        exact M.at_
      · intro z hz
        obtain ⟨y, _, rfl⟩ := List.mem_map.mp hz
        split <;> omega
theorem ok_whole {f : Addr} {fd : FuncData} (F : Fun K "is_whole" "is_whole" st_is_whole f fd) (B : Blt mg) : FnOk P w K mg base CX0 1 f fd P_is_whole (spD (fun _ => True) isWhole) := by
  refine F.ok sc_is_whole (fun vs H Q E h => ?_) (fun cdv A outer s H vs Q E hr h => ?_)
  · obtain ⟨b, v, d, rfl, _⟩ := h
    rfl
  · obtain ⟨b, v, d, rfl, D, _, q⟩ := h
    refine ⟨_, (pss_one (ps_ret (pe_and (pe_callB call_isi (by rfl) B.isinstance_ (by decide +kernel) (pa_cons (pv 0) (pa_cons (pe_bltn (v := .ty "int") (by rfl) B.int (by decide +kernel) rfl) pa_nil))) (pe_one (pe_not (pe_callB call_isi (by rfl) B.isinstance_ (by decide +kernel) (pa_cons (pv 0) (pa_cons (pe_bltn (v := .ty "bool") (by rfl) B.bool_ (by decide +kernel) rfl) pa_nil)))))))), ?_⟩
    refine ⟨v, rfl, v, .ty "int", _, _, _, rfl, .ty _, ty_of D, kit_int d, _, rfl, ?_⟩
    have q' := q _ (Same.refl H)
    rw [whole_eq] at q'
    cases hi : isInt d with
    | false =>
      rw [hi] at q'
      exact iteF q'
    | true =>
      rw [hi] at q'
      exact iteT ⟨v, rfl, v, .ty "bool", _, _, _, rfl, .ty _, ty_of D, kit_bool d, _, rfl, q'⟩
theorem ok_within {f : Addr} {fd : FuncData} (F : Fun K "is_within" "is_within" st_is_within f fd) (c_is_whole : Cal P w K mg base 1 "is_whole" (spD (fun _ => True) isWhole)) : FnOk P w K mg base CX0 2 f fd P_is_within spW := by
  refine F.ok sc_is_within (fun vs H Q E h => ?_) (fun cdv A outer s H vs Q E hr h => ?_)
  · obtain ⟨b, v, d, lo, hi, rfl, _⟩ := h
    rfl
  · obtain ⟨b, v, d, lo, hi, rfl, D, q⟩ := h
    refine ⟨_, (pss_one (ps_ret (pe_and (pe_n c_is_whole hr (by decide) (by rfl) (pa_cons (pv 0) pa_nil)) (pe_one (pe_chain op_le op_le (pv 1) (pv 0) (pv 2)))))), ?_⟩
    refine ⟨v, rfl, b, v, d, rfl, D, trivial, fun H1 s1 => ⟨_, rfl, ?_⟩⟩
    cases hw : isWhole d with
    | false =>
      have q' := q _ s1
      have e : within lo hi d = false := by cases d <;> first | rfl | cases hw
      rw [e] at q'
      exact iteF q'
    | true =>
      obtain ⟨i, rfl, rfl⟩ := dat_int D hw
      have q' := q _ s1
      refine iteT ⟨.int lo, rfl, .int i, rfl, lo, i, rfl, rfl, _, rfl, ?_⟩
      cases h1 : decide (lo ≤ i) with
      | false =>
        have e : within lo hi (.int i) = false := by simp only [within, h1, Bool.false_and]
        rw [e] at q'
        exact iteF q'
      | true =>
        have e : within lo hi (.int i) = decide (i ≤ hi) := by simp only [within, h1, Bool.true_and]
        rw [e] at q'
        exact iteT ⟨.int hi, rfl, i, hi, rfl, rfl, q'⟩
theorem ok_length {f : Addr} {fd : FuncData} (F : Fun K "is_length" "is_length" st_is_length f fd) (M : Con mg) (c_is_within : Cal P w K mg base 2 "is_within" spW) : FnOk P w K mg base CX0 3 f fd P_is_length (spD (fun _ => True) (within 1 (10 ^ 9))) := by
  refine F.ok sc_is_length (fun vs H Q E h => ?_) (fun cdv A outer s H vs Q E hr h => ?_)
  · obtain ⟨b, v, d, rfl, _⟩ := h
    rfl
  · obtain ⟨b, v, d, rfl, D, _, q⟩ := h
    exact ⟨_, (pss_one (ps_ret (pe_n c_is_within hr (by decide) (by rfl) (pa_cons (pv 0) (pa_cons pe_int (pa_cons (pe_k (by rfl) M.GREATEST_LENGTH) pa_nil)))))), v, rfl, b, v, d, 1, _, rfl, D, q⟩
theorem ok_are {f : Addr} {fd : FuncData} (F : Fun K "are_lengths" "are_lengths" st_are_lengths f fd) (B : Blt mg) (M : Con mg) (c_is_length : Cal P w K mg base 3 "is_length" (spD (fun _ => True) (within 1 (10 ^ 9)))) : FnOk P w K mg base CX0 4 f fd P_are_lengths (spD smallL areL) := by
  refine F.ok sc_are_lengths (fun vs H Q E h => ?_) (fun cdv A outer s H vs Q E hr h => ?_)
  · obtain ⟨b, v, d, rfl, _⟩ := h
    rfl
  · obtain ⟨b, v, d, rfl, D, sm, q⟩ := h
    refine ⟨_, (pss_cons (ps_if (pw_or (pt_not (pt_val (pe_callB call_isi (by rfl) B.isinstance_ (by decide +kernel) (pa_cons (pv 0) (pa_cons (pe_bltn (v := .ty "list") (by rfl) B.list_ (by decide +kernel) rfl) pa_nil))))) (pw_or1 (pt_not (pt_chain op_le op_le pe_int (pe_callB call_len (by rfl) B.len (by decide +kernel) (pa_cons (pv 0) pa_nil)) (pe_k (by rfl) M.MOST_SLEEPERS))))).pt (pss_one (ps_ret pe_bl)) pss_nil)
      (pss_one (ps_ret (pe_callB (cr_all rfl) (by rfl) B.all_ (by decide +kernel) (pa_cons (pe_lc (own := [("part", 1)]) (g := gName 1) (tt := tYes) rfl sc_are_lengths.nd (pi_list (pv 0)) (blkOk_by (N := N_are_lengths) (sc := defScope st_are_lengths) (by decide +kernel)) (fun _ _ _ _ _ => pg_name (i := 1) sc_are_lengths.nd rfl (Or.inl rfl)) (fun _ _ _ _ _ => pts_nil) (fun _ _ _ _ _ => (pe_n c_is_length hr (by decide) (by rfl) (pa_cons (pv 1) pa_nil)))) pa_nil))))), ?_⟩
    refine ⟨v, rfl, v, .ty "list", _, _, _, rfl, .ty _, ty_of D, kit_list d, _, rfl, ?_⟩
    have q0 := q _ (Same.refl H)
    cases hs : isList d with
    | false =>
      have e : areL d = false := by cases d <;> first | rfl | cases hs
      rw [e] at q0
      exact iteT (iteT q0)
    | true =>
      obtain ⟨ds, a, vs, rfl, rfl, na, ha, hd⟩ := dat_list D hs
      have sl : ds.length ≤ 1000 := sm
      have lv := hd.length
      refine iteF ⟨.ref a, rfl, .ref a, _, rfl, .inl ⟨_, SqL.of ha, rfl⟩, 1, _, rfl, rfl, _, rfl, ?_⟩
      cases h1 : decide ((1 : Int) ≤ (vs.length : Int)) with
      | false =>
        have e : areL (.list ds) = false := by
          have := of_decide_eq_false h1
          have e1 : decide (1 ≤ ds.length) = false := decide_eq_false (by omega)
          simp only [areL, e1, Bool.false_and]
        rw [e] at q0
        exact iteF ⟨_, rfl, iteT q0⟩
      | true =>
        refine iteT ⟨_, 40, rfl, rfl, _, rfl, ?_⟩
        cases h2 : decide ((vs.length : Int) ≤ 40) with
        | false =>
          have e : areL (.list ds) = false := by
            have := of_decide_eq_false h2
            have e1 : decide (ds.length ≤ 40) = false := decide_eq_false (by omega)
            simp only [areL, e1, Bool.false_and, Bool.and_false]
          rw [e] at q0
          exact iteT q0
        | true =>
          have g1 := of_decide_eq_true h1
          have g2 := of_decide_eq_true h2
          have e : areL (.list ds) = ds.all (within 1 (10 ^ 9)) := by
            have e1 : decide (1 ≤ ds.length) = true := decide_eq_true (by omega)
            have e2 : decide (ds.length ≤ 40) = true := decide_eq_true (by omega)
            simp only [areL, e1, e2, Bool.true_and]
          refine iteF ⟨.ref a, rfl, a, rfl, ⟨_, SqL.of ha⟩, fun R hR => lc_list (K := K) (a := a) (xs := vs) (fun i H' => Lb.Mk H R ((ds.take i).map fun c => V.bl (within 1 (10 ^ 9) c)) H') (Lb.Mk.start hR) (fun i H' _ M' => SqL.of (M'.same _ _ ha)) ?_ ?_⟩
          · intro i x H' hi M'
            obtain ⟨dx, hx, Dx⟩ := hd.get hi
            refine ⟨rfl, x, rfl, b, x, dx, rfl, Dx.same M'.same, trivial, fun H2 s2 => ⟨_, s2 _ _ M'.at_, ?_, ?_⟩⟩
            · rw [List.length_map, List.length_take]
              exact sz_lo (by omega)
            · rw [List.take_add_one, hx, List.map_append]
              exact M'.next s2
          · intro H' M'
            rw [← lv, List.take_length] at M'
            refine ⟨R, ds.map (within 1 (10 ^ 9)), rfl, SqL.of ?_, ?_⟩
            · rw [List.map_map]
              exact M'.at_
            · have e3 : (ds.map (within 1 (10 ^ 9))).all id = ds.all (within 1 (10 ^ 9)) := by
                rw [List.all_map]
                rfl
              have q' := q _ M'.same
              rw [e] at q'
              rw [e3]
              exact q'
end
end Kk

set_option maxHeartbeats 2000000
namespace Kk
open PySem PySem.Spec PyProof.Rows L2 Lb
abbrev st_Wrong_init : Stmt := inClass (topS 2) 0
abbrev N_Wrong_init : List Str := ["self", "at"]
abbrev P_Wrong_init : List Str := ["self", "at"]
theorem sc_Wrong_init : FnScope N_Wrong_init P_Wrong_init (defScope st_Wrong_init) := ⟨rfl, rfl, rfl, by decide +kernel, rfl, by decide +kernel, by decide +kernel⟩
abbrev st_plain : Stmt := topS 15
abbrev N_plain : List Str := ["many"]
abbrev P_plain : List Str := ["many"]
theorem sc_plain : FnScope N_plain P_plain (defScope st_plain) := ⟨rfl, rfl, rfl, by decide +kernel, rfl, by decide +kernel, by decide +kernel⟩
abbrev st_Book_init : Stmt := inClass (topS 14) 0
abbrev N_Book_init : List Str := ["self", "lengths"]
abbrev P_Book_init : List Str := ["self", "lengths"]
theorem sc_Book_init : FnScope N_Book_init P_Book_init (defScope st_Book_init) := ⟨rfl, rfl, rfl, by decide +kernel, rfl, by decide +kernel, by decide +kernel⟩
abbrev st_Book_lengths : Stmt := inClass (topS 14) 1
abbrev N_Book_lengths : List Str := ["self"]
abbrev P_Book_lengths : List Str := ["self"]
theorem sc_Book_lengths : FnScope N_Book_lengths P_Book_lengths (defScope st_Book_lengths) := ⟨rfl, rfl, rfl, by decide +kernel, rfl, by decide +kernel, by decide +kernel⟩
abbrev st_Book_sleep : Stmt := inClass (topS 14) 2
abbrev N_Book_sleep : List Str := ["self", "many"]
abbrev P_Book_sleep : List Str := ["self", "many"]
theorem sc_Book_sleep : FnScope N_Book_sleep P_Book_sleep (defScope st_Book_sleep) := ⟨rfl, rfl, rfl, by decide +kernel, rfl, by decide +kernel, by decide +kernel⟩
abbrev st_Book_eq : Stmt := inClass (topS 14) 3
abbrev N_Book_eq : List Str := ["self", "other"]
abbrev P_Book_eq : List Str := ["self", "other"]
theorem sc_Book_eq : FnScope N_Book_eq P_Book_eq (defScope st_Book_eq) := ⟨rfl, rfl, rfl, by decide +kernel, rfl, by decide +kernel, by decide +kernel⟩
abbrev st_Book_len : Stmt := inClass (topS 14) 4
abbrev N_Book_len : List Str := ["self"]
abbrev P_Book_len : List Str := ["self"]
theorem sc_Book_len : FnScope N_Book_len P_Book_len (defScope st_Book_len) := ⟨rfl, rfl, rfl, by decide +kernel, rfl, by decide +kernel, by decide +kernel⟩
abbrev st_Book_repr : Stmt := inClass (topS 14) 5
abbrev N_Book_repr : List Str := ["self"]
abbrev P_Book_repr : List Str := ["self"]
theorem sc_Book_repr : FnScope N_Book_repr P_Book_repr (defScope st_Book_repr) := ⟨rfl, rfl, rfl, by decide +kernel, rfl, by decide +kernel, by decide +kernel⟩
def okN (ns : List Int) : Prop := 1 ≤ ns.length ∧ ns.length ≤ 40 ∧ ∀ n ∈ ns, 1 ≤ n ∧ n ≤ 10 ^ 9
/-- a Book of these lengths at x -/
def BookAt (C : Addr) (H : Hp) (x : Addr) (ns : List Int) : Prop := ∃ dx t, H x = some (.ins C dx [(("kept" : Str), .ref t)]) ∧ H t = some (.tup (ns.map V.int))
theorem BookAt.same {C : Addr} {H H' : Hp} {x : Addr} {ns : List Int} (b : BookAt C H x ns) (s : Same H H') : BookAt C H' x ns := by
  obtain ⟨dx, t, e1, e2⟩ := b
  exact ⟨dx, t, s _ _ e1, s _ _ e2⟩
theorem dats_ints {b : Addr} {H : Hp} : ∀ ns : List Int, Dats b H (ns.map PyData.int) (ns.map V.int)
  | [] => by simp only [List.map_nil, Dats]
  | x :: r => by
    simp only [List.map_cons, Dats, Dat]
    exact ⟨_, _, rfl, rfl, dats_ints r⟩
theorem dat_intsL {H : Hp} {a : Addr} {ns : List Int} (e : H a = some (.lst (ns.map V.int))) : Dat (a + 1) H (.list (ns.map PyData.int)) (.ref a) := by
  simp only [Dat]
  exact ⟨a, _, rfl, (Nat.ne_of_lt (Nat.lt_succ_self a)), e, dats_ints ns⟩
theorem areL_ok {ns : List Int} (h : okN ns) : areL (.list (ns.map PyData.int)) = true := by
  obtain ⟨h1, h2, h3⟩ := h
  have e1 : decide (1 ≤ (ns.map PyData.int).length) = true := decide_eq_true (by rw [List.length_map]; exact h1)
  have e2 : decide ((ns.map PyData.int).length ≤ 40) = true := decide_eq_true (by rw [List.length_map]; exact h2)
  simp only [areL, e1, e2, Bool.true_and]
  refine List.all_eq_true.mpr fun d hd => ?_
  obtain ⟨n, hn, rfl⟩ := List.mem_map.mp hd
  obtain ⟨k1, k2⟩ := h3 n hn
  simp only [within, decide_eq_true k1, decide_eq_true k2, Bool.true_and]
theorem eqv_ints : ∀ ns ms : List Int, PyData.eqvAll (ns.map PyData.int) (ms.map PyData.int) = decide (ns = ms)
  | [], [] => by simp [PyData.eqvAll]
  | [], _ :: _ => by simp [PyData.eqvAll]
  | _ :: _, [] => by simp [PyData.eqvAll]
  | n :: ns, m :: ms => by
    simp only [List.map_cons, PyData.eqvAll, PyData.eqv, eqv_ints ns ms]
    by_cases e : n = m
    · subst e
      simp
    · have e2 : (n == m) = false := by simpa using e
      rw [e2, Bool.false_and]
      exact (decide_eq_false fun z => e (List.cons.inj z).1).symm
theorem dp_ints {K : PySem.W.Frag} {H : Hp} : ∀ ns : List Int, DpAll K H (ns.map V.int) (ns.map PyData.int)
  | [] => .nil
  | n :: r => .cons (.int n) (dp_ints r)
theorem lay_ints : ∀ ns : List Int, PyData.canLayAll0 (ns.map PyData.int) = true ∧ PyData.depthAll (ns.map PyData.int) = 0
  | [] => ⟨rfl, rfl⟩
  | n :: r => by
    obtain ⟨h1, h2⟩ := lay_ints r
    simp only [List.map_cons, PyData.canLayAll0, PyData.canLay0, PyData.depthAll, PyData.depth, h1, h2]
    exact ⟨rfl, rfl⟩
theorem shaped_intsT (ns : List Int) : SeqAt.shaped (.tuple (ns.map PyData.int)) = true := by
  unfold SeqAt.shaped
  simp only [PyData.canLay0, (lay_ints ns).1, PyData.depth, (lay_ints ns).2]
  rfl
theorem shaped_intsL (ns : List Int) : SeqAt.shaped (.list (ns.map PyData.int)) = true := by
  unfold SeqAt.shaped
  simp only [PyData.canLay0, (lay_ints ns).1, PyData.depth, (lay_ints ns).2]
  rfl
theorem log_ok {n : Int} (h : n.natAbs ≤ 10 ^ 30) : n.natAbs.log2 < 1920 := Nat.lt_of_lt_of_le (PySem.Flt.log2_lt_of (by decide) (Nat.lt_of_le_of_lt h (by decide : 10 ^ 30 < 2 ^ 100))) (by decide)
theorem shows_ints {ns : List Int} (h : ∀ n ∈ ns, n.natAbs ≤ 10 ^ 30) (l : ns.length ≤ 90) : Shows (.list (ns.map PyData.int)) := shows_list (fun d hd => by
  obtain ⟨n, hn, rfl⟩ := List.mem_map.mp hd
  exact part_int (log_ok (h n hn))) (by rw [List.length_map]; exact l)
theorem nodict_ints : ∀ ns : List Int, PyData.hasDictAll (ns.map PyData.int) = false
  | [] => rfl
  | n :: r => by simp only [List.map_cons, PyData.hasDictAll, PyData.hasDict, nodict_ints r, Bool.or_false]
/-- what the written part says of Book -/
structure BkC (K : PySem.W.Frag) (mg : Str → Option Value) (C : Addr) : Prop where
  cl : Cls K C
  nk : NoAttr K C "kept"
  g : mg "Book" = some (.ref C)
  ha : PySem.W.findIn K (.ref C) "__class__" = some (some (.builtin "object.__class__"))
  hn : PySem.W.specialIn K (.builtin "object.__class__") "__get__" = some (some (.builtin "getset_descriptor.__get__"))
  ht : PySem.W.takesIn K (.builtin "object.__class__") = some true
  hm : PySem.W.mroIn K C (.type "object") = some true
/-- no thing is a Book -/
structure BkC2 (K : PySem.W.Frag) (C : Addr) : Prop where
  c : PySem.W.isClsIn K C = true
  t : PySem.W.typeIn K (.ref C) = some (.type "type")
theorem kit_self {K : PySem.W.Frag} {t : Value} : PySem.W.kitOne K t t = some true := by
  unfold PySem.W.kitOne
  rw [if_pos (by simp)]
theorem BkC.ty {K : PySem.W.Frag} {mg : Str → Option Value} {C : Addr} (T : BkC K mg C) {H : Hp} {x : Addr} {ns : List Int} (b : BookAt C H x ns) : TyX K H (.ref x) (.ref C) := by
  obtain ⟨dx, t, e, _⟩ := b
  exact .base (.ins e T.cl T.ha T.hn T.ht T.hm)
def bookText (ns : List Int) : Str := (Str.ofString "Book(" ++ (PyData.list (ns.map PyData.int)).shown) ++ Str.ofString ")"
/-- lists of numbers that a Book takes -/
theorem dats_inv {b : Addr} {H : Hp} : ∀ {ns : List Int} {vs : List V}, Dats b H (ns.map PyData.int) vs → vs = ns.map V.int
  | [], vs, h => by simpa only [List.map_nil, Dats] using h
  | n :: r, vs, h => by
    simp only [List.map_cons, Dats, Dat] at h
    obtain ⟨v, t, rfl, rfl, h2⟩ := h
    rw [List.map_cons, dats_inv h2]
theorem within_int {lo hi : Int} {d : PyData} (h : within lo hi d = true) : ∃ i, d = .int i ∧ lo ≤ i ∧ i ≤ hi := by
  cases d with
  | int i =>
    simp only [within, Bool.and_eq_true, decide_eq_true_eq] at h
    exact ⟨i, rfl, h.1, h.2⟩
  | _ => cases h
theorem all_ints : ∀ {ds : List PyData}, ds.all (within 1 (10 ^ 9)) = true → ∃ ns : List Int, ds = ns.map PyData.int ∧ ∀ n ∈ ns, 1 ≤ n ∧ n ≤ 10 ^ 9
  | [], _ => ⟨[], rfl, fun _ z => nomatch z⟩
  | d :: r, h => by
    rw [List.all_cons, Bool.and_eq_true] at h
    obtain ⟨i, rfl, k⟩ := within_int h.1
    obtain ⟨ns, rfl, k2⟩ := all_ints h.2
    refine ⟨i :: ns, rfl, fun n hn => ?_⟩
    rcases List.mem_cons.mp hn with rfl | hn
    · exact k
    · exact k2 n hn
theorem areL_inv {d : PyData} (h : areL d = true) : ∃ ns : List Int, d = .list (ns.map PyData.int) ∧ okN ns := by
  cases d with
  | list ds =>
    simp only [areL, Bool.and_eq_true, decide_eq_true_eq] at h
    obtain ⟨⟨h1, h2⟩, h3⟩ := h
    obtain ⟨ns, rfl, k⟩ := all_ints h3
    rw [List.length_map] at h1 h2
    exact ⟨ns, rfl, h1, h2, k⟩
  | _ => cases h
/-- what a refusal with Wrong(0) leaves -/
def Refuses (WR : Addr) (H : Hp) (E : XK) : Prop := ∀ (e : Addr) (H' : Hp), Same H H' → H e = none → H' e = some (.xd [(("at" : Str), .int 0)]) → E (.ref WR) (some e) H'
def spBInit (C WR : Addr) : Sp := fun vs H Q E => ∃ (b x dx : Addr) (v : V) (d : PyData), vs = [.ref x, v] ∧ H x = some (.ins C dx []) ∧ Dat b H d v ∧ smallL d ∧
  (∀ ns : List Int, d = .list (ns.map PyData.int) → okN ns → ∀ (t : Addr) (H1 : Hp), Same H H1 → H1 t = none → Q .non (upd (upd H1 t (.tup (ns.map V.int))) x (.ins C dx [(("kept" : Str), .ref t)]))) ∧
  (areL d = false → Refuses WR H E)
def spLengths (C : Addr) : Sp := fun vs H Q _ => ∃ (x : Addr) (ns : List Int), vs = [.ref x] ∧ BookAt C H x ns ∧ ∀ l, H l = none → Q (.ref l) (upd H l (.lst (ns.map V.int)))
def spSleep (C WR : Addr) : Sp := fun vs H Q E => ∃ (b x : Addr) (ns : List Int) (v : V) (d : PyData), vs = [.ref x, v] ∧ BookAt C H x ns ∧ Dat b H d v ∧
  (∀ (m : Nat) (n : Int), d = .int ((m : Int) + 1) → ns[m]? = some n → ∀ H', Same H H' → Q (.int n) H') ∧ (within 1 (ns.length : Int) d = false → Refuses WR H E)
/-- the other side: a Book, or a thing -/
def spBEq (C : Addr) : Sp := fun vs H Q _ => ∃ (x : Addr) (y : V) (ns : List Int), vs = [.ref x, y] ∧ BookAt C H x ns ∧
  ((∃ (z : Addr) (ms : List Int), y = .ref z ∧ BookAt C H z ms ∧ Q (.bl (decide (ns = ms))) H) ∨ ∃ (b : Addr) (d : PyData), Dat b H d y ∧ Q (.bl false) H)
def spBLen (C : Addr) : Sp := fun vs H Q _ => ∃ (x : Addr) (ns : List Int), vs = [.ref x] ∧ BookAt C H x ns ∧ Q (.int ns.length) H
def spBRepr (C : Addr) : Sp := fun vs H Q _ => ∃ (x : Addr) (ns : List Int), vs = [.ref x] ∧ BookAt C H x ns ∧ okN ns ∧ ∀ H', Same H H' → Q (.str (bookText ns)) H'
theorem make_bookR {C WR : Addr} {H1 : Hp} {a x dx : Addr} {ns : List Int} {R : VK} {E : XK} (e : H1 a = some (.lst (ns.map V.int))) (ok : okN ns) (nx : H1 x = none) (nd : H1 dx = none) (ne : dx ≠ x) (q : ∀ H2, Same H1 H2 → BookAt C H2 x ns → R .non H2) :
    spBInit C WR [.ref x, .ref a] (upd (upd H1 dx (.own x)) x (.ins C dx [])) R E := by
  have s0 : Same H1 (upd (upd H1 dx (.own x)) x (.ins C dx [])) := fun b o z => by
    rw [upd_ne (ne_of_none z nx), upd_ne (ne_of_none z nd)]
    exact z
  refine ⟨_, x, dx, _, _, rfl, upd_same, dat_intsL (s0 _ _ e), (show (ns.map PyData.int).length ≤ 1000 by rw [List.length_map]; have := ok.2.1; omega), fun ms em okm t H2 s2 nt => ?_, fun h => by rw [areL_ok ok] at h; cases h⟩
  have emn : ms = ns := by
    have e2 : ns.map PyData.int = ms.map PyData.int := by injection em
    exact ((List.map_inj_right (fun x y z => by injection z)).mp e2).symm
  subst emn
  have xt : t ≠ x := fun z => by
    have := s2 x _ upd_same
    rw [← z, nt] at this
    cases this
  refine q _ (fun b o z => ?_) ⟨dx, t, upd_same, by rw [upd_ne xt]; exact upd_same⟩
  have hb := s2 b o (s0 b o z)
  rw [upd_ne (ne_of_none z nx), upd_ne (ne_of_none hb nt)]
  exact hb
section
variable {P : Program} {w : World} {K : PySem.W.Frag} {mg : Str → Option Value} {base : Heap} {C WR : Addr}
theorem ok_wrinit {f : Addr} {fd : FuncData} (F : Fun K "__init__" "Wrong.__init__" st_Wrong_init f fd) (O : OexC K WR) (no : PySem.W.findIn K (.ref WR) "at" = some none) : FnOk P w K mg base CX0 1 f fd P_Wrong_init (spXI WR "at") := by
  refine F.ok sc_Wrong_init (fun vs H Q E h => ?_) (fun cdv A outer s H vs Q E hr h => ?_)
  · obtain ⟨a, v, rfl, _⟩ := h
    rfl
  · obtain ⟨a, v, rfl, e, q⟩ := h
    refine ⟨_, (pss_one (ps_ost (pv 0) (pv 1))), ?_⟩
    exact ⟨v, rfl, .ref a, rfl, a, WR, rfl, O, no, .inl ⟨e, q⟩⟩
theorem ok_binit {f : Addr} {fd : FuncData} (F : Fun K "__init__" "Book.__init__" st_Book_init f fd) (B : Blt mg) (T : BkC K mg C) (c_are_lengths : Cal P w K mg base 4 "are_lengths" (spD smallL areL)) (c_Wrong : XC P w K mg base 1 "Wrong" WR "at") :
    FnOk P w K mg base (L2.CX P w) 5 f fd P_Book_init (spBInit C WR) := by
  refine F.okX sc_Book_init (fun vs H Q E h => ?_) (fun cdv A outer s H vs Q E hr h => ?_)
  · obtain ⟨b, x, dx, v, d, rfl, _⟩ := h
    rfl
  · obtain ⟨b, x, dx, v, d, rfl, hx, Dv, sm, q1, q2⟩ := h
    refine ⟨_, (pss_cons (ps_if (pt_not (pt_val (pe_n c_are_lengths hr (by decide) (by rfl) (pa_cons (pv 1) pa_nil)))) (pss_one (ps_raiseX c_Wrong rfl (takes_of rfl rfl rfl rfl) hr (by decide) (by rfl) (pa_cons pe_int pa_nil))) pss_nil)
      (pss_one (ps_fld (pv 0) (pe_callTy call_tuple_of (by rfl) B.tuple_ (by decide +kernel) (pa_cons (pv 1) pa_nil)) rfl))), ?_⟩
    refine ⟨v, rfl, _, _, _, rfl, Dv, sm, fun H1 s1 => ⟨_, rfl, ?_⟩⟩
    cases hd : areL d with
    | false => exact iteT (raise_in fun e H2 s2 ne he => q2 hd e H2 (s1.trans s2) (s1.free ne) he)
    | true =>
      obtain ⟨ns, rfl, ok⟩ := areL_inv hd
      have Dv2 := Dv
      simp only [Dat] at Dv2
      obtain ⟨a, vs, rfl, _, ha, hds⟩ := Dv2
      obtain rfl := dats_inv hds
      refine iteF ⟨.ref a, rfl, a, _, rfl, .inl ⟨SqL.of (s1 _ _ ha), fun t nt => ?_⟩⟩
      refine ⟨.ref x, rfl, x, C, dx, [], rfl, ?_, T.cl, T.nk, by decide, q1 ns rfl ok t H1 s1 nt⟩
      exact same_new nt _ _ (s1 _ _ hx)
theorem ok_lengths {f : Addr} {fd : FuncData} (F : Fun K "lengths" "Book.lengths" st_Book_lengths f fd) (B : Blt mg) (T : BkC K mg C) : FnOk P w K mg base CX0 1 f fd P_Book_lengths (spLengths C) := by
  refine F.ok sc_Book_lengths (fun vs H Q E h => ?_) (fun cdv A outer s H vs Q E hr h => ?_)
  · obtain ⟨x, ns, rfl, _⟩ := h
    rfl
  · obtain ⟨x, ns, rfl, ⟨dx, t, hx, ht⟩, q⟩ := h
    refine ⟨_, (pss_one (ps_ret (pe_callTy call_list_of (by rfl) B.list_ (by decide +kernel) (pa_cons (pe_fld (pv 0) rfl) pa_nil)))), ?_⟩
    exact ⟨.ref x, rfl, x, C, dx, _, .ref t, rfl, hx, T.cl, T.nk, rfl, t, _, rfl, .inr (SqT.of ht), q⟩
theorem ok_sleep {f : Addr} {fd : FuncData} (F : Fun K "sleep" "Book.sleep" st_Book_sleep f fd) (B : Blt mg) (T : BkC K mg C) (c_is_within : Cal P w K mg base 2 "is_within" spW) (c_Wrong : XC P w K mg base 1 "Wrong" WR "at") : FnOk P w K mg base (L2.CX P w) 3 f fd P_Book_sleep (spSleep C WR) := by
  refine F.okX sc_Book_sleep (fun vs H Q E h => ?_) (fun cdv A outer s H vs Q E hr h => ?_)
  · obtain ⟨b, x, ns, v, d, rfl, _⟩ := h
    rfl
  · obtain ⟨b, x, ns, v, d, rfl, ⟨dx, t, hx, ht⟩, Dv, q1, q2⟩ := h
    refine ⟨_, (pss_cons (ps_if (pt_not (pt_val (pe_n c_is_within hr (by decide) (by rfl) (pa_cons (pv 1) (pa_cons pe_int (pa_cons (pe_callB call_len (by rfl) B.len (by decide +kernel) (pa_cons (pe_fld (pv 0) rfl) pa_nil)) pa_nil)))))) (pss_one (ps_raiseX c_Wrong rfl (takes_of rfl rfl rfl rfl) hr (by decide) (by rfl) (pa_cons pe_int pa_nil))) pss_nil)
      (pss_one (ps_ret (pe_ix ix_tup (pe_fld (pv 0) rfl) (pe_op op_sub (pv 1) pe_int) (fun _ _ => rfl))))), ?_⟩
    refine ⟨v, rfl, .ref x, rfl, x, C, dx, _, .ref t, rfl, hx, T.cl, T.nk, rfl, .ref t, _, rfl, .inr ⟨_, SqT.of ht, rfl⟩, b, _, d, 1, _, rfl, Dv, fun H1 s1 => ⟨_, rfl, ?_⟩⟩
    rw [List.length_map]
    cases hd : within 1 (ns.length : Int) d with
    | false => exact iteT (raise_in fun e H2 s2 ne he => q2 hd e H2 (s1.trans s2) (s1.free ne) he)
    | true =>
      obtain ⟨i, rfl, i1, i2⟩ := within_int hd
      simp only [Dat] at Dv
      subst Dv
      obtain ⟨m, rfl⟩ : ∃ m : Nat, i = (m : Int) + 1 := ⟨(i - 1).toNat, by omega⟩
      have lt : m < ns.length := by omega
      refine iteF ⟨.ref x, rfl, x, C, dx, _, .ref t, rfl, s1 _ _ hx, T.cl, T.nk, rfl, _, rfl, _, 1, rfl, rfl, t, _, _, .int ns[m], rfl, rfl, SqT.of (s1 _ _ ht), at_of (j := m) (by omega) ?_, q1 m _ rfl (List.getElem?_eq_getElem lt) _ s1⟩
      rw [List.getElem?_map, List.getElem?_eq_getElem lt]
      rfl
theorem ok_beq {f : Addr} {fd : FuncData} (F : Fun K "__eq__" "Book.__eq__" st_Book_eq f fd) (B : Blt mg) (T : BkC K mg C) (T2 : BkC2 K C) : FnOk P w K mg base CX0 1 f fd P_Book_eq (spBEq C) := by
  have g_Book := T.g
  refine F.ok sc_Book_eq (fun vs H Q E h => ?_) (fun cdv A outer s H vs Q E hr h => ?_)
  · obtain ⟨x, y, ns, rfl, _⟩ := h
    rfl
  · obtain ⟨x, y, ns, rfl, bx, h2⟩ := h
    refine ⟨_, (pss_one (ps_ret (pe_and (pe_callB call_isi (by rfl) B.isinstance_ (by decide +kernel) (pa_cons (pv 1) (pa_cons (pe_glob (v := V.ref _) (by rfl) g_Book rfl) pa_nil))) (pe_one (pe_cmpR (op_eqD (hu64_of hr)) (pe_fld (pv 0) rfl) (pe_fld (pv 1) rfl) (nomark _)))))), ?_⟩
    rcases h2 with ⟨z, ms, rfl, bz, q⟩ | ⟨b, d, Dy, q⟩
    · refine ⟨.ref z, rfl, .ref z, .ref C, _, _, _, rfl, .own C, T.ty bz, kit_self, _, rfl, iteT ?_⟩
      obtain ⟨dx, t, hx, ht⟩ := bx
      obtain ⟨dy, u, hy, hu⟩ := bz
      refine ⟨.ref x, rfl, x, C, dx, _, .ref t, rfl, hx, T.cl, T.nk, rfl, .ref z, rfl, z, C, dy, _, .ref u, rfl, hy, T.cl, T.nk, rfl, _, _, .tup (SqT.of ht) (dp_ints ns), .tup (SqT.of hu) (dp_ints ms), shaped_intsT ns, shaped_intsT ms, ?_⟩
      simp only [PyData.eqv, eqv_ints]
      exact q
    · exact ⟨y, rfl, y, .ref C, _, _, _, rfl, .own C, ty_of Dy, kit_notOwn T2.c T2.t d, _, rfl, iteF q⟩
theorem ok_blen {f : Addr} {fd : FuncData} (F : Fun K "__len__" "Book.__len__" st_Book_len f fd) (B : Blt mg) (T : BkC K mg C) : FnOk P w K mg base CX0 1 f fd P_Book_len (spBLen C) := by
  refine F.ok sc_Book_len (fun vs H Q E h => ?_) (fun cdv A outer s H vs Q E hr h => ?_)
  · obtain ⟨x, ns, rfl, _⟩ := h
    rfl
  · obtain ⟨x, ns, rfl, ⟨dx, t, hx, ht⟩, q⟩ := h
    refine ⟨_, (pss_one (ps_ret (pe_callB call_len (by rfl) B.len (by decide +kernel) (pa_cons (pe_fld (pv 0) rfl) pa_nil)))), ?_⟩
    exact ⟨.ref x, rfl, x, C, dx, _, .ref t, rfl, hx, T.cl, T.nk, rfl, .ref t, _, rfl, .inr ⟨_, SqT.of ht, rfl⟩, by rw [List.length_map]; exact q⟩
theorem ok_brepr {f : Addr} {fd : FuncData} (F : Fun K "__repr__" "Book.__repr__" st_Book_repr f fd) (B : Blt mg) (T : BkC K mg C) : FnG P w K mg base 1 f fd P_Book_repr (spBRepr C) := by
  refine fnG_of F sc_Book_repr (fun vs H Q E h => ?_) (fun cdv A outer s H vs Q E noG hr h => ?_)
  · obtain ⟨x, ns, rfl, _⟩ := h
    rfl
  · obtain ⟨x, ns, rfl, ⟨dx, t, hx, ht⟩, ok, q⟩ := h
    refine ⟨_, (pss_one (ps_ret (pe_joined (PJ.cons pe_str (PJ.cons (pe_fmtD noG hr (pe_callTy call_list_of (by rfl) B.list_ (by decide +kernel) (pa_cons (pe_fld (pv 0) rfl) pa_nil))) (PJ.cons pe_str PJ.nil)))))), ?_⟩
    have sh : Shows (.list (ns.map PyData.int)) := shows_ints (fun n hn => by
      have := ok.2.2 n hn
      have e : (10 : Nat) ^ 9 ≤ 10 ^ 30 := by decide
      omega) (by have := ok.2.1; omega)
    have e0 : Str.empty ++ Str.ofString "Book(" = Str.ofString "Book(" := by decide +kernel
    have l0 : (Str.ofString "Book(").length = 5 := by decide +kernel
    have l1 : (Str.ofString ")").length = 1 := by decide +kernel
    have sl := sh.len
    refine ⟨_, rfl, by rw [e0]; decide +kernel, .ref x, rfl, x, C, dx, _, .ref t, rfl, hx, T.cl, T.nk, rfl, t, _, rfl, .inr (SqT.of ht), fun l nl => ?_⟩
    refine ⟨_, l, _, rfl, dat_intsL upd_same, sh, by simp only [PyData.hasDict, nodict_ints], _, rfl, ?_, _, rfl, ?_, ?_⟩
    · rw [e0, strLen_append, l0]
      exact Nat.le_trans (show _ ≤ 2000000 by omega) (by decide)
    · rw [e0, strLen_append, strLen_append, l0, l1]
      exact Nat.le_trans (show _ ≤ 2000000 by omega) (by decide)
    · show Q (.str (((Str.empty ++ Str.ofString "Book(") ++ (PyData.list (ns.map PyData.int)).shown) ++ Str.ofString ")")) _
      rw [e0]
      exact q _ (same_new nl)
end
end Kk

set_option maxHeartbeats 2000000
namespace Kk
open PySem PySem.Spec PyProof.Rows L2 Lb
abbrev st_L_spans : Stmt := topS 19
abbrev N_L_spans : List Str := ["_law_bag_here", "_law_many", "_law_most", "_law_way", "_law_one", "_law_found", "_law_k", "_law_some"]
abbrev P_L_spans : List Str := ["_law_bag_here", "_law_many", "_law_most"]
theorem sc_L_spans : FnScope N_L_spans P_L_spans (defScope st_L_spans) := ⟨rfl, rfl, rfl, by decide +kernel, rfl, by decide +kernel, by decide +kernel⟩
abbrev st_L_whole : Stmt := topS 20
abbrev N_L_whole : List Str := ["_law_thing", "_law_low", "_law_high"]
abbrev P_L_whole : List Str := ["_law_thing", "_law_low", "_law_high"]
theorem sc_L_whole : FnScope N_L_whole P_L_whole (defScope st_L_whole) := ⟨rfl, rfl, rfl, by decide +kernel, rfl, by decide +kernel, by decide +kernel⟩
abbrev st_L_is_book : Stmt := topS 21
abbrev N_L_is_book : List Str := ["_law_thing", "_law_one"]
abbrev P_L_is_book : List Str := ["_law_thing"]
theorem sc_L_is_book : FnScope N_L_is_book P_L_is_book (defScope st_L_is_book) := ⟨rfl, rfl, rfl, by decide +kernel, rfl, by decide +kernel, by decide +kernel⟩
structure BltM (mg : Str → Option Value) : Prop extends Blt mg where
  max_ : mg "max" = none
  min_ : mg "min" = none
  sorted_ : mg "sorted" = none
  ValueError_ : mg "ValueError" = none
/-- Book as it is made and asked -/
structure BkF (P : Program) (w : World) (K : PySem.W.Frag) (mg : Str → Option Value) (base : Heap) (C WR : Addr) : Prop where
  mak : ∃ (f : Addr) (fd : FuncData) (ps : List Str), L2.Mk K C f ∧ FnOk P w K mg base (L2.CX P w) 5 f fd ps (spBInit C WR) ∧ Binds K fd ps []
  ln : ∃ (f : Addr) (fd : FuncData) (ps : List Str), Meth K C "lengths" f ∧ FnOk P w K mg base CX0 1 f fd ps (spLengths C) ∧ Binds K fd ps []
  sl : ∃ (f : Addr) (fd : FuncData) (ps : List Str), Meth K C "sleep" f ∧ FnOk P w K mg base (L2.CX P w) 3 f fd ps (spSleep C WR) ∧ Binds K fd ps []
def rows (m : Nat) : List Int := (List.range m).map fun i => (1 : Int) + (i : Nat)
theorem rows_len (m : Nat) : (rows m).length = m := by
  unfold rows
  rw [List.length_map, List.length_range]
theorem rows_ok {m : Nat} (h1 : 1 ≤ m) (h2 : m ≤ 40) : okN (rows m) := by
  refine ⟨by rw [rows_len]; exact h1, by rw [rows_len]; exact h2, fun n hn => ?_⟩
  obtain ⟨i, hi, rfl⟩ := List.mem_map.mp hn
  have := List.mem_range.mp hi
  omega
theorem rows_rg (m : Nat) : rgV 1 ((m : Int) + 1) = (rows m).map V.int := by
  unfold rgV rows
  rw [List.map_map, show ((m : Int) + 1 - 1).toNat = m by omega]
  rfl
theorem rows_in {m : Nat} (h2 : m ≤ 41) : ∀ n ∈ rows m, 1 ≤ n ∧ n ≤ 10 ^ 9 := fun n hn => by
  obtain ⟨i, hi, rfl⟩ := List.mem_map.mp hn
  have := List.mem_range.mp hi
  omega
def spPlain (C WR : Addr) : Sp := fun vs H Q E => ∃ (b : Addr) (v : V) (d : PyData), vs = [v] ∧ Dat b H d v ∧
  (∀ m : Nat, d = .int (m : Int) → 1 ≤ m → m ≤ 40 → ∀ (x : Addr) (H' : Hp), H x = none → Same H H' → BookAt C H' x (rows m) → Q (.ref x) H') ∧ (within 1 40 d = false → Refuses WR H E)
def spSpans : Sp := fun vs H Q _ => ∃ (b c : Addr) (m : Nat) (most : Int), vs = [.ref b, .int (m : Int), .int most] ∧ Bag H b c ∧ 1 ≤ m ∧ m ≤ 41 ∧ 1 ≤ most ∧ most ≤ 10 ^ 9 ∧
  ∀ (ns : List Int) (p : Addr) (H' : Hp), ns.length = m → (∀ n ∈ ns, 1 ≤ n ∧ n ≤ 10 ^ 9) → p ≠ b → H p = none → H' p = some (.lst (ns.map V.int)) → Bag H' b c → Kp b H H' → Q (.ref p) H'
section
variable {P : Program} {w : World} {K : PySem.W.Frag} {mg : Str → Option Value} {base : Heap} {C WR : Addr}
theorem ok_plain {f : Addr} {fd : FuncData} (F : Fun K "plain" "plain" st_plain f fd) (B : Blt mg) (M : Con mg) (T : BkC K mg C) (BF : BkF P w K mg base C WR) (c_is_within : Cal P w K mg base 2 "is_within" spW) (c_Wrong : XC P w K mg base 1 "Wrong" WR "at") :
    FnOk P w K mg base (L2.CX P w) 7 f fd P_plain (spPlain C WR) := by
  have g_Book := T.g
  obtain ⟨fB, fdB, psB, M_Book, F_Book, b_Book⟩ := BF.mak
  refine F.okX sc_plain (fun vs H Q E h => ?_) (fun cdv A outer s H vs Q E hr h => ?_)
  · obtain ⟨b, v, d, rfl, _⟩ := h
    rfl
  · obtain ⟨b, v, d, rfl, Dv, q1, q2⟩ := h
    refine ⟨_, (pss_cons (ps_if (pt_not (pt_val (pe_n c_is_within hr (by decide) (by rfl) (pa_cons (pv 0) (pa_cons pe_int (pa_cons (pe_k (by rfl) M.MOST_SLEEPERS) pa_nil)))))) (pss_one (ps_raiseX c_Wrong rfl (takes_of rfl rfl rfl rfl) hr (by decide) (by rfl) (pa_cons pe_int pa_nil))) pss_nil)
      (pss_one (ps_ret (pe_makeX M_Book F_Book (takes_of rfl rfl rfl rfl) hr (by decide) (by rfl) g_Book b_Book (pa_cons (pe_listRg rfl (by rfl) B.list_ (prg_2 (by rfl) B.range_ pe_int (pe_op op_add (pv 0) pe_int))) pa_nil))))), ?_⟩
    refine ⟨v, rfl, b, _, d, 1, _, rfl, Dv, fun H1 s1 => ⟨_, rfl, ?_⟩⟩
    cases hd : within 1 40 d with
    | false => exact iteT (raise_in fun e H2 s2 ne he => q2 hd e H2 (s1.trans s2) (s1.free ne) he)
    | true =>
      obtain ⟨i, rfl, i1, i2⟩ := within_int hd
      simp only [Dat] at Dv
      subst Dv
      obtain ⟨m, rfl⟩ : ∃ m : Nat, i = (m : Int) := ⟨i.toNat, by omega⟩
      refine iteF ⟨_, rfl, _, _, rfl, rfl, _, _, rfl, rfl, RgOk.of_le (by decide) (by omega) (by decide) (by omega), fun l nl => ?_⟩
      rw [rows_rg]
      intro x dx nx nd ne
      refine make_bookR upd_same (rows_ok (by omega) (by omega)) nx nd ne fun H2 s2 bk => ⟨rfl, ?_⟩
      exact q1 m rfl (by omega) (by omega) x H2 (s1.free ((same_new nl).free nx)) (s1.trans ((same_new nl).trans s2)) bk
theorem ok_spans {f : Addr} {fd : FuncData} (F : Fun K "_law_spans" "_law_spans" st_L_spans f fd) (B : BltM mg) (c_L_take : Cal P w K mg base 1 "_law_take" spTake) : FnOk P w K mg base CX0 2 f fd P_L_spans spSpans := by
  refine F.ok sc_L_spans (fun vs H Q E h => ?_) (fun cdv A outer s H vs Q E hr h => ?_)
  · obtain ⟨b, c, m, most, rfl, _⟩ := h
    rfl
  · obtain ⟨b, c, m, most, rfl, G, m1, m2, o1, o2, q⟩ := h
    refine ⟨_, (pss_cons (ps_set (i := 3) sc_L_spans.nd rfl (Or.inl rfl) (pe_n c_L_take hr (by decide) (by rfl) (pa_cons (pv 0) (pa_cons pe_int pa_nil))))
      (pss_cons (ps_if (pt_cmpR op_lt (pv 3) pe_int (nomark _)) (pss_one (ps_ret (pe_lc (own := [("_law_k", 6)]) (g := gName 6) (tt := tYes) rfl sc_L_spans.nd (pi_range1 (by rfl) B.range_ (pa_cons (pv 1) pa_nil)) (blkOk_by (N := N_L_spans) (sc := defScope st_L_spans) (by decide +kernel)) (fun _ _ _ _ _ => pg_name (i := 6) sc_L_spans.nd rfl (Or.inl rfl)) (fun _ _ _ _ _ => pts_nil) (fun _ _ _ _ _ => (pe_op op_add (pv 6) pe_int))))) pss_nil)
      (pss_cons (ps_set (i := 4) sc_L_spans.nd rfl (Or.inl rfl) (pe_op op_add pe_int (pe_n c_L_take hr (by decide) (by rfl) (pa_cons (pv 0) (pa_cons (pv 2) pa_nil)))))
      (pss_cons (ps_set (i := 5) sc_L_spans.nd rfl (Or.inl rfl) (pe_lst (pa_nil)))
      (pss_cons (ps_for PassesOwn.never rfl (pi_range1 (by rfl) B.range_ (pa_cons (pv 1) pa_nil)) (pg_name (i := 6) sc_L_spans.nd rfl (Or.inl rfl)) (pss_cons (ps_set (i := 7) sc_L_spans.nd rfl (Or.inl rfl) (pe_lst (pa_cons (pe_op op_add pe_int (pe_n c_L_take hr (by decide) (by rfl) (pa_cons (pv 0) (pa_cons (pe_callB (call_min2 rfl) (by rfl) B.min_ (by decide +kernel) (pa_cons pe_int (pa_cons (pv 2) pa_nil))) pa_nil)))) (pa_cons (pe_op op_add pe_int (pe_n c_L_take hr (by decide) (by rfl) (pa_cons (pv 0) (pa_cons (pv 2) pa_nil)))) (pa_cons (pv 4) (pa_cons (pe_ix ix_list (pe_lst (pa_cons pe_int (pa_cons (pv 2) pa_nil))) (pe_n c_L_take hr (by decide) (by rfl) (pa_cons (pv 0) (pa_cons pe_int pa_nil))) (fun _ _ => rfl)) pa_nil))))))
      (pss_one (ps_expr (pe_bm PySem.F.plainAttrs_list PySem.F.slot_list_append PySem.F.type_list_append mt_append (pv 5) (pa_cons (pe_ix ix_list (pv 7) (pe_op op_sub (pv 3) pe_int) (fun _ _ => rfl)) pa_nil))))))
      (pss_one (ps_ret (pv 5)))))))), ?_⟩
    have o60 : most ≤ 10 ^ 60 := Int.le_trans o2 (by decide)
    refine ⟨.ref b, rfl, b, c, 6, rfl, G, by decide, by decide, fun way H1 w0 w1 G1 k1 => ⟨_, rfl, way, 2, rfl, rfl, _, rfl, ite2 (fun _ => ?_) (fun hw => ?_)⟩⟩
    · refine ⟨_, rfl, (m : Int), rfl, by omega, by omega, fun D hD => lc_range (lo := 0) (n := (m : Int).toNat) (fun i H' => Lb.Mk H1 D ((rows i).map V.int) H') (Lb.Mk.start hD) ?_ ?_⟩
      · intro i H' hi M
        refine ⟨rfl, _, rfl, _, 1, rfl, rfl, _, M.at_, sz_lo (by rw [List.length_map, rows_len]; omega), ?_⟩
        have e : rows (i + 1) = rows i ++ [0 + (i : Int) + 1] := by
          unfold rows
          rw [List.range_succ, List.map_append]
          congr 1
          show [(1 : Int) + (i : Int)] = _
          rw [show (1 : Int) + (i : Int) = 0 + (i : Int) + 1 by omega]
        rw [e, List.map_append]
        exact M.next (Same.refl _)
      · intro H' M
        rw [Int.toNat_natCast] at M
        have nD : H D = none := by
          cases e : H D with
          | none => rfl
          | some o =>
            have := kp_of k1 D o (G1.ne_new hD) e
            rw [hD] at this
            cases this
        exact q (rows m) D H' (rows_len m) (rows_in m2) (G1.ne_new hD) nD M.at_ (G1.same M.same) ((kp_of k1).trans (.of_same M.same))
    · have w2 : 2 ≤ way := by simpa using hw
      refine ⟨.ref b, rfl, .int most, rfl, b, c, most, rfl, G1, by omega, o60, fun one H2 n0 n1 G2 k2 => ⟨1, one, rfl, rfl, ?_⟩⟩
      refine ⟨by show 0 ≤ sizeLine; decide, fun D nD => ?_⟩
      have Db := G2.ne_new nD
      have Dc := G2.nc_new nD
      refine ⟨_, rfl, (m : Int), rfl, by omega, by omega, for_range (lo := 0) (n := (m : Int).toNat) (fun i σ' H' => ∃ (ns : List Int) (o6 o7 : Option V), σ' = [some (.ref b), some (.int (m : Int)), some (.int most), some (.int way), some (.int (1 + one)), some (.ref D), o6, o7] ∧ ns.length = i ∧ (∀ n ∈ ns, 1 ≤ n ∧ n ≤ 10 ^ 9) ∧
        H' D = some (.lst (ns.map V.int)) ∧ Bag H' b c ∧ Kp b H2 H') ⟨[], none, none, rfl, rfl, (fun _ z => nomatch z), upd_same, G2.new nD, .new nD⟩ ?_ ?_⟩
      · rintro i σ' H' hi ⟨ns, o6, o7, rfl, nl, nn, hD, G', k'⟩
        have mn : 0 < (if most < 4 then most else 4) ∧ (if most < 4 then most else 4) ≤ 10 ^ 9 := by split <;> omega
        refine ⟨.ref b, rfl, .int most, rfl, 4, most, rfl, b, c, _, rfl, G', mn.1, Int.le_trans mn.2 (by decide), fun v1 H3 a1 a2 G3 k3 => ⟨1, v1, rfl, rfl, ?_⟩⟩
        refine ⟨.ref b, rfl, .int most, rfl, b, c, most, rfl, G3, by omega, o60, fun v2 H4 c1 c2 G4 k4 => ⟨1, v2, rfl, rfl, .int (1 + one), rfl, ?_⟩⟩
        refine ⟨.int most, rfl, by show 2 ≤ sizeLine; decide, fun p np => ?_⟩
        refine ⟨.ref b, rfl, b, c, 2, rfl, G4.new np, by decide, by decide, fun v4 H5 u0 u1 G5 k5 => ?_⟩
        have hp := k5 p (G4.ne_new np)
        rw [upd_same] at hp
        obtain ⟨x, hx, ax⟩ := item_at (xs := [.int 1, .int most]) u0 u1
        obtain ⟨z, rfl, z1, z2⟩ : ∃ z : Int, x = .int z ∧ 1 ≤ z ∧ z ≤ 10 ^ 9 := by
          have m := List.mem_of_getElem? hx
          simp only [List.mem_cons, List.not_mem_nil, or_false] at m
          rcases m with rfl | rfl
          · exact ⟨_, rfl, by decide, by decide⟩
          · exact ⟨_, rfl, o1, o2⟩
        refine ⟨p, _, v4, .int z, rfl, rfl, SqL.of hp, ax, by show 4 ≤ sizeLine; decide, fun r nr => ?_⟩
        have hD4 : H4 D = some (.lst (ns.map V.int)) := by rw [k4 D Db, k3 D Db]; exact hD
        have hD5 : H5 D = some (.lst (ns.map V.int)) := by rw [k5 D Db, upd_ne (ne_of_none hD4 np)]; exact hD4
        obtain ⟨y, hy, ay⟩ := item_at (xs := [V.int (1 + v1), .int (1 + v2), .int (1 + one), .int z]) (v := way - 2) (by omega) (by show way - 2 < 4; omega)
        obtain ⟨t, rfl, t1, t2⟩ : ∃ t : Int, y = .int t ∧ 1 ≤ t ∧ t ≤ 10 ^ 9 := by
          have m := List.mem_of_getElem? hy
          simp only [List.mem_cons, List.not_mem_nil, or_false] at m
          rcases m with rfl | rfl | rfl | rfl
          · refine ⟨_, rfl, by omega, ?_⟩
            have : v1 < 4 := by split at a2 <;> omega
            omega
          · exact ⟨_, rfl, by omega, by omega⟩
          · exact ⟨_, rfl, by omega, by omega⟩
          · exact ⟨_, rfl, z1, z2⟩
        have Dr := ne_of_none hD5 nr
        refine ⟨.ref D, rfl, .inl ⟨rfl, _, SqL.of (by rw [upd_ne Dr]; exact hD5)⟩, .ref r, rfl, .int way, rfl, way, 2, rfl, rfl, r, _, way - 2, .int t, rfl, rfl, SqL.of upd_same, ay, ?_⟩
        refine ⟨D, ns.map V.int, .int t, rfl, rfl, by rw [upd_ne Dr]; exact hD5, sz_lo (by rw [List.length_map]; omega), ?_⟩
        refine ⟨ns ++ [t], _, _, rfl, by rw [List.length_append, nl]; rfl, ?_, ?_, ?_, ?_⟩
        · intro n hn
          rcases List.mem_append.mp hn with hn | hn
          · exact nn n hn
          · rw [List.mem_singleton.mp hn]
            exact ⟨t1, t2⟩
        · rw [List.map_append]
          exact upd_same
        · exact (G5.new nr).other Db Dc
        · have kk : Kp b H2 (upd H5 r (.lst [V.int (1 + v1), .int (1 + v2), .int (1 + one), .int z])) := k'.trans ((kp_of k3).trans ((kp_of k4).trans ((Kp.new np).trans ((kp_of k5).trans (.new nr)))))
          intro x o xb ex
          rw [upd_ne (ne_of_none ex nD)]
          exact kk x o xb ex
      · rintro σ' H' ⟨ns, o6, o7, rfl, nl, nn, hD, G', k'⟩
        rw [Int.toNat_natCast] at nl
        have kk := (kp_of k1).trans (kp_of k2)
        have nD0 : H D = none := by
          cases e : H D with
          | none => rfl
          | some o =>
            have := kk D o Db e
            rw [nD] at this
            cases this
        exact ⟨.ref D, rfl, q ns D H' nl nn Db nD0 hD G' (kk.trans k')⟩
theorem ok_Lwhole {f : Addr} {fd : FuncData} (F : Fun K "_law_whole" "_law_whole" st_L_whole f fd) (B : Blt mg) : FnOk P w K mg base CX0 1 f fd P_L_whole spW := by
  refine F.ok sc_L_whole (fun vs H Q E h => ?_) (fun cdv A outer s H vs Q E hr h => ?_)
  · obtain ⟨b, v, d, lo, hi, rfl, _⟩ := h
    rfl
  · obtain ⟨b, v, d, lo, hi, rfl, D, q⟩ := h
    refine ⟨_, (pss_one (ps_ret (pe_and (pe_callB call_isi (by rfl) B.isinstance_ (by decide +kernel) (pa_cons (pv 0) (pa_cons (pe_bltn (v := .ty "int") (by rfl) B.int (by decide +kernel) rfl) pa_nil))) (pe_and (pe_not (pe_callB call_isi (by rfl) B.isinstance_ (by decide +kernel) (pa_cons (pv 0) (pa_cons (pe_bltn (v := .ty "bool") (by rfl) B.bool_ (by decide +kernel) rfl) pa_nil)))) (pe_one (pe_chain op_le op_le (pv 1) (pv 0) (pv 2))))))), ?_⟩
    refine ⟨v, rfl, v, .ty "int", _, _, _, rfl, .ty _, ty_of D, kit_int d, _, rfl, ?_⟩
    have q' := q _ (Same.refl H)
    cases hw : isWhole d with
    | false =>
      have e : within lo hi d = false := by cases d <;> first | rfl | cases hw
      rw [e] at q'
      cases h1 : isInt d with
      | false => exact iteF q'
      | true =>
        have h2 : isBool d = true := by
          have z := whole_eq d
          rw [hw, h1] at z
          cases hb : isBool d with
          | true => rfl
          | false => rw [hb] at z; cases z
        refine iteT ⟨v, rfl, v, .ty "bool", _, _, _, rfl, .ty _, ty_of D, kit_bool d, _, rfl, _, rfl, ?_⟩
        rw [h2]
        exact iteF q'
    | true =>
      obtain ⟨i, rfl, rfl⟩ := dat_int D hw
      refine iteT ⟨.int i, rfl, .int i, .ty "bool", _, _, _, rfl, .ty _, ty_of D, kit_bool (.int i), _, rfl, _, rfl, iteT ?_⟩
      refine ⟨.int lo, rfl, .int i, rfl, lo, i, rfl, rfl, _, rfl, ?_⟩
      cases h1 : decide (lo ≤ i) with
      | false =>
        have e : within lo hi (.int i) = false := by simp only [within, h1, Bool.false_and]
        rw [e] at q'
        exact iteF q'
      | true =>
        have e : within lo hi (.int i) = decide (i ≤ hi) := by simp only [within, h1, Bool.true_and]
        rw [e] at q'
        exact iteT ⟨.int hi, rfl, i, hi, rfl, rfl, q'⟩
theorem ok_isbook {f : Addr} {fd : FuncData} (F : Fun K "_law_is_book" "_law_is_book" st_L_is_book f fd) (B : Blt mg) (c_L_whole : Cal P w K mg base 1 "_law_whole" spW) : FnOk P w K mg base CX0 2 f fd P_L_is_book (spD smallL areL) := by
  refine F.ok sc_L_is_book (fun vs H Q E h => ?_) (fun cdv A outer s H vs Q E hr h => ?_)
  · obtain ⟨b, v, d, rfl, _⟩ := h
    rfl
  · obtain ⟨b, v, d, rfl, D, sm, q⟩ := h
    refine ⟨_, (pss_cons (ps_if (pw_or (pt_not (pt_val (pe_callB call_isi (by rfl) B.isinstance_ (by decide +kernel) (pa_cons (pv 0) (pa_cons (pe_bltn (v := .ty "list") (by rfl) B.list_ (by decide +kernel) rfl) pa_nil))))) (pw_or1 (pt_not (pt_chain op_le op_le pe_int (pe_callB call_len (by rfl) B.len (by decide +kernel) (pa_cons (pv 0) pa_nil)) pe_int)))).pt (pss_one (ps_ret pe_bl)) pss_nil)
      (pss_one (ps_ret (pe_callB (cr_all rfl) (by rfl) B.all_ (by decide +kernel) (pa_cons (pe_lc (own := [("_law_one", 1)]) (g := gName 1) (tt := tYes) rfl sc_L_is_book.nd (pi_list (pv 0)) (blkOk_by (N := N_L_is_book) (sc := defScope st_L_is_book) (by decide +kernel)) (fun _ _ _ _ _ => pg_name (i := 1) sc_L_is_book.nd rfl (Or.inl rfl)) (fun _ _ _ _ _ => pts_nil) (fun _ _ _ _ _ => (pe_n c_L_whole hr (by decide) (by rfl) (pa_cons (pv 1) (pa_cons pe_int (pa_cons (pe_op op_pow pe_int pe_int) pa_nil)))))) pa_nil))))), ?_⟩
    refine ⟨v, rfl, v, .ty "list", _, _, _, rfl, .ty _, ty_of D, kit_list d, _, rfl, ?_⟩
    have q0 := q _ (Same.refl H)
    cases hs : isList d with
    | false =>
      have e : areL d = false := by cases d <;> first | rfl | cases hs
      rw [e] at q0
      exact iteT (iteT q0)
    | true =>
      obtain ⟨ds, a, vs, rfl, rfl, na, ha, hd⟩ := dat_list D hs
      have sl : ds.length ≤ 1000 := sm
      have lv := hd.length
      refine iteF ⟨.ref a, rfl, .ref a, _, rfl, .inl ⟨_, SqL.of ha, rfl⟩, 1, _, rfl, rfl, _, rfl, ?_⟩
      cases h1 : decide ((1 : Int) ≤ (vs.length : Int)) with
      | false =>
        have e : areL (.list ds) = false := by
          have := of_decide_eq_false h1
          have e1 : decide (1 ≤ ds.length) = false := decide_eq_false (by omega)
          simp only [areL, e1, Bool.false_and]
        rw [e] at q0
        exact iteF ⟨_, rfl, iteT q0⟩
      | true =>
        refine iteT ⟨_, 40, rfl, rfl, _, rfl, ?_⟩
        cases h2 : decide ((vs.length : Int) ≤ 40) with
        | false =>
          have e : areL (.list ds) = false := by
            have := of_decide_eq_false h2
            have e1 : decide (ds.length ≤ 40) = false := decide_eq_false (by omega)
            simp only [areL, e1, Bool.false_and, Bool.and_false]
          rw [e] at q0
          exact iteT q0
        | true =>
          have g1 := of_decide_eq_true h1
          have g2 := of_decide_eq_true h2
          have e : areL (.list ds) = ds.all (within 1 (10 ^ 9)) := by
            have e1 : decide (1 ≤ ds.length) = true := decide_eq_true (by omega)
            have e2 : decide (ds.length ≤ 40) = true := decide_eq_true (by omega)
            simp only [areL, e1, e2, Bool.true_and]
          refine iteF ⟨.ref a, rfl, a, rfl, ⟨_, SqL.of ha⟩, fun R hR => lc_list (K := K) (a := a) (xs := vs) (fun i H' => Lb.Mk H R ((ds.take i).map fun c => V.bl (within 1 (10 ^ 9) c)) H') (Lb.Mk.start hR) (fun i H' _ M' => SqL.of (M'.same _ _ ha)) ?_ ?_⟩
          · intro i x H' hi M'
            obtain ⟨dx, hx, Dx⟩ := hd.get hi
            refine ⟨rfl, x, rfl, 10, 9, rfl, rfl, ⟨by decide, by decide, by decide⟩, b, x, dx, 1, _, rfl, Dx.same M'.same, fun H2 s2 => ⟨_, s2 _ _ M'.at_, ?_, ?_⟩⟩
            · rw [List.length_map, List.length_take]
              exact sz_lo (by omega)
            · rw [List.take_add_one, hx, List.map_append]
              exact M'.next s2
          · intro H' M'
            rw [← lv, List.take_length] at M'
            refine ⟨R, ds.map (within 1 (10 ^ 9)), rfl, SqL.of ?_, ?_⟩
            · rw [List.map_map]
              exact M'.at_
            · have e3 : (ds.map (within 1 (10 ^ 9))).all id = ds.all (within 1 (10 ^ 9)) := by
                rw [List.all_map]
                rfl
              have q' := q _ M'.same
              rw [e] at q'
              rw [e3]
              exact q'
end
end Kk

set_option maxHeartbeats 4000000
namespace Kk
open PySem PySem.Spec PyProof.Rows L2 Lb
abbrev st_L_odd : Stmt := topS 22
abbrev N_L_odd : List Str := ["_law_bag_here", "_law_some"]
abbrev P_L_odd : List Str := ["_law_bag_here"]
theorem sc_L_odd : FnScope N_L_odd P_L_odd (defScope st_L_odd) := ⟨rfl, rfl, rfl, by decide +kernel, rfl, by decide +kernel, by decide +kernel⟩
section
variable {b : Addr} {H : Hp}
theorem dats_nil : Dats b H [] [] := by simp only [Dats]
theorem dats_cons {d : PyData} {v : V} {ds : List PyData} {vs : List V} (h : Dat b H d v) (k : Dats b H ds vs) : Dats b H (d :: ds) (v :: vs) := by
  simp only [Dats]
  exact ⟨v, vs, rfl, h, k⟩
theorem dat_none : Dat b H .none .non := by simp only [Dat]
theorem dat_bool (x : Bool) : Dat b H (.bool x) (.bl x) := by simp only [Dat]
theorem dat_num (x : Int) : Dat b H (.int x) (.int x) := by simp only [Dat]
theorem dat_text (x : Str) : Dat b H (.str x) (.str x) := by simp only [Dat]
theorem dat_lst {a : Addr} {vs : List V} {ds : List PyData} (n : a ≠ b) (e : H a = some (.lst vs)) (k : Dats b H ds vs) : Dat b H (.list ds) (.ref a) := by
  simp only [Dat]
  exact ⟨a, vs, rfl, n, e, k⟩
theorem dat_tup {a : Addr} {vs : List V} {ds : List PyData} (n : a ≠ b) (e : H a = some (.tup vs)) (k : Dats b H ds vs) : Dat b H (.tuple ds) (.ref a) := by
  simp only [Dat]
  exact ⟨a, vs, rfl, n, e, k⟩
theorem dat_dict {a : Addr} {es : List (Key × V)} {kvs : List (PyData × PyData)} (n : a ≠ b) (e : H a = some (.dK es)) (h : kvs = es.map (fun e => (keyD e.1, sD e.2))) (k : es.all (fun e => isSc e.2) = true) : Dat b H (.dict kvs) (.ref a) := by
  simp only [Dat]
  exact ⟨a, es, rfl, n, e, h, k⟩
end
theorem rep_one {α : Type} (x : α) : ∀ n : Nat, (List.replicate n [x]).flatten = List.replicate n x
  | 0 => rfl
  | n + 1 => by rw [List.replicate_succ, List.flatten_cons, rep_one x n, List.replicate_succ]; rfl
theorem dats_rep {b : Addr} {H : Hp} {d : PyData} {v : V} (h : Dat b H d v) : ∀ n : Nat, Dats b H (List.replicate n d) (List.replicate n v)
  | 0 => dats_nil
  | n + 1 => by
    rw [List.replicate_succ, List.replicate_succ]
    exact dats_cons h (dats_rep h n)
theorem dat_rep {b : Addr} {H : Hp} {a : Addr} {d : PyData} {v : V} {n : Int} (ne : a ≠ b) (e : H a = some (.lst (List.replicate n.toNat [v]).flatten)) (h : Unit → Dat b H d v) : Dat b H (.list (List.replicate n.toNat d)) (.ref a) := by
  rw [rep_one] at e
  exact dat_lst ne e (dats_rep (h ()) _)
def odds : List PyData := [.int 0, .int (-1), .int (10 ^ 9 + 1), .int (10 ^ 30), .bool true, .bool false, .none, .str (Str.ofString "3"), .str (Str.ofString ""), .list [.int 3], .tuple [.int 3], .dict [], .list (List.replicate 300 (.int 5)), .list [.list [.list [.list [.list [.tuple [.int 7]]]]]]]
instance (d : PyData) : Decidable (smallL d) := by cases d <;> (unfold smallL; infer_instance)
def oddOk (d : PyData) : Bool := itemOk d && d.showable && decide (d.depth ≤ 10) && decide (d.shown.length ≤ 10000) && topOk d && decide (smallL d)
theorem odds_all : odds.all oddOk = true := by decide +kernel
theorem odd_ok {d : PyData} (q : oddOk d = true) : Part d ∧ Shows d ∧ smallL d := by
  simp only [oddOk, Bool.and_eq_true, decide_eq_true_eq] at q
  obtain ⟨⟨⟨⟨⟨h1, h2⟩, h3⟩, h4⟩, h5⟩, h6⟩ := q
  have p : Part d := ⟨h1, h2, h3, h4⟩
  exact ⟨p, p.shows h5, h6⟩
def spOdd : Sp := fun vs H Q _ => ∃ (b c : Addr), vs = [.ref b] ∧ Bag H b c ∧ ∀ (v : V) (d : PyData) (H' : Hp), Dat b H' d v → d ∈ odds → Bag H' b c → Kp b H H' → Q v H'
section
variable {P : Program} {w : World} {K : PySem.W.Frag} {mg : Str → Option Value} {base : Heap}
theorem ok_odd {f : Addr} {fd : FuncData} (F : Fun K "_law_odd" "_law_odd" st_L_odd f fd) (c_L_take : Cal P w K mg base 1 "_law_take" spTake) : FnOk P w K mg base CX0 2 f fd P_L_odd spOdd := by
  refine F.ok sc_L_odd (fun vs H Q E h => ?_) (fun cdv A outer s H vs Q E hr h => ?_)
  · obtain ⟨b, c, rfl, _⟩ := h
    rfl
  · obtain ⟨b, c, rfl, G, q⟩ := h
    refine ⟨_, (pss_cons (ps_set (i := 1) sc_L_odd.nd rfl (Or.inl rfl) (pe_lst (pa_cons pe_int (pa_cons (pe_un un_neg pe_int) (pa_cons (pe_op op_add (pe_op op_pow pe_int pe_int) pe_int) (pa_cons (pe_op op_pow pe_int pe_int) (pa_cons pe_bl (pa_cons pe_bl (pa_cons pe_non (pa_cons pe_str (pa_cons pe_str (pa_cons (pe_lst (pa_cons pe_int pa_nil)) (pa_cons (pe_tup (pa_cons pe_int pa_nil)) (pa_cons pe_dnewK (pa_cons (pe_op op_rep (pe_lst (pa_cons pe_int pa_nil)) pe_int) (pa_cons (pe_lst (pa_cons (pe_lst (pa_cons (pe_lst (pa_cons (pe_lst (pa_cons (pe_lst (pa_cons (pe_tup (pa_cons pe_int pa_nil)) pa_nil)) pa_nil)) pa_nil)) pa_nil)) pa_nil)) pa_nil))))))))))))))))
      (pss_one (ps_ret (pe_ix ix_list (pv 1) (pe_n c_L_take hr (by decide) (by rfl) (pa_cons (pv 0) (pa_cons pe_int pa_nil))) (fun _ _ => rfl))))), ?_⟩
    refine ⟨_, rfl, 10, 9, rfl, rfl, ⟨by decide, by decide, by decide⟩, _, _, rfl, rfl, 10, 30, rfl, rfl, ⟨by decide, by decide, by decide⟩, by show 1 ≤ sizeLine; decide, fun o1 n_o1 => ?_⟩
    have s_o1 := same_new (o := .lst [.int 3]) n_o1
    have b_o1 := G.ne_new n_o1
    have G_o1 := G.new (o := .lst [.int 3]) n_o1
    refine ⟨by show 1 ≤ sizeLine; decide, fun o2 n_o2 => ?_⟩
    have s_o2 := same_new (o := .tup [.int 3]) n_o2
    have b_o2 := G_o1.ne_new n_o2
    have G_o2 := G_o1.new (o := .tup [.int 3]) n_o2
    intro o3 n_o3
    have s_o3 := same_new (o := .dK []) n_o3
    have b_o3 := G_o2.ne_new n_o3
    have G_o3 := G_o2.new (o := .dK []) n_o3
    refine ⟨by show 1 ≤ sizeLine; decide, fun o4 n_o4 => ?_⟩
    have s_o4 := same_new (o := .lst [.int 5]) n_o4
    have b_o4 := G_o3.ne_new n_o4
    have G_o4 := G_o3.new (o := .lst [.int 5]) n_o4
    refine ⟨o4, 300, _, rfl, rfl, upd_same, by decide, by decide, by show 1 * 300 ≤ sizeLine; decide, fun o5 n_o5 => ?_⟩
    have s_o5 := same_new (o := .lst (List.replicate (Int.toNat 300) [V.int 5]).flatten) n_o5
    have b_o5 := G_o4.ne_new n_o5
    have G_o5 := G_o4.new (o := .lst (List.replicate (Int.toNat 300) [V.int 5]).flatten) n_o5
    refine ⟨by show 1 ≤ sizeLine; decide, fun o6 n_o6 => ?_⟩
    have s_o6 := same_new (o := .tup [.int 7]) n_o6
    have b_o6 := G_o5.ne_new n_o6
    have G_o6 := G_o5.new (o := .tup [.int 7]) n_o6
    refine ⟨by show 1 ≤ sizeLine; decide, fun o7 n_o7 => ?_⟩
    have s_o7 := same_new (o := .lst [.ref o6]) n_o7
    have b_o7 := G_o6.ne_new n_o7
    have G_o7 := G_o6.new (o := .lst [.ref o6]) n_o7
    refine ⟨by show 1 ≤ sizeLine; decide, fun o8 n_o8 => ?_⟩
    have s_o8 := same_new (o := .lst [.ref o7]) n_o8
    have b_o8 := G_o7.ne_new n_o8
    have G_o8 := G_o7.new (o := .lst [.ref o7]) n_o8
    refine ⟨by show 1 ≤ sizeLine; decide, fun o9 n_o9 => ?_⟩
    have s_o9 := same_new (o := .lst [.ref o8]) n_o9
    have b_o9 := G_o8.ne_new n_o9
    have G_o9 := G_o8.new (o := .lst [.ref o8]) n_o9
    refine ⟨by show 1 ≤ sizeLine; decide, fun o10 n_o10 => ?_⟩
    have s_o10 := same_new (o := .lst [.ref o9]) n_o10
    have b_o10 := G_o9.ne_new n_o10
    have G_o10 := G_o9.new (o := .lst [.ref o9]) n_o10
    refine ⟨by show 1 ≤ sizeLine; decide, fun o11 n_o11 => ?_⟩
    have s_o11 := same_new (o := .lst [.ref o10]) n_o11
    have b_o11 := G_o10.ne_new n_o11
    have G_o11 := G_o10.new (o := .lst [.ref o10]) n_o11
    refine ⟨by show 14 ≤ sizeLine; decide, fun lL n_lL => ?_⟩
    have s_lL := same_new (o := .lst [.int 0, .int (-1), .int (10 ^ 9 + 1), .int (10 ^ 30), .bl true, .bl false, .non, .str (Str.ofString "3"), .str (Str.ofString ""), .ref o1, .ref o2, .ref o3, .ref o5, .ref o11]) n_lL
    have b_lL := G_o11.ne_new n_lL
    have G_lL := G_o11.new (o := .lst [.int 0, .int (-1), .int (10 ^ 9 + 1), .int (10 ^ 30), .bl true, .bl false, .non, .str (Str.ofString "3"), .str (Str.ofString ""), .ref o1, .ref o2, .ref o3, .ref o5, .ref o11]) n_lL
    have ds : Dats b _ odds [.int 0, .int (-1), .int (10 ^ 9 + 1), .int (10 ^ 30), .bl true, .bl false, .non, .str (Str.ofString "3"), .str (Str.ofString ""), .ref o1, .ref o2, .ref o3, .ref o5, .ref o11] := (dats_cons (dat_num _) (dats_cons (dat_num _) (dats_cons (dat_num _) (dats_cons (dat_num _) (dats_cons (dat_bool _) (dats_cons (dat_bool _) (dats_cons dat_none (dats_cons (dat_text _) (dats_cons (dat_text _) (dats_cons (dat_lst b_o1 (s_lL _ _ (s_o11 _ _ (s_o10 _ _ (s_o9 _ _ (s_o8 _ _ (s_o7 _ _ (s_o6 _ _ (s_o5 _ _ (s_o4 _ _ (s_o3 _ _ (s_o2 _ _ (upd_same)))))))))))) (dats_cons (dat_num _) dats_nil)) (dats_cons (dat_tup b_o2 (s_lL _ _ (s_o11 _ _ (s_o10 _ _ (s_o9 _ _ (s_o8 _ _ (s_o7 _ _ (s_o6 _ _ (s_o5 _ _ (s_o4 _ _ (s_o3 _ _ (upd_same))))))))))) (dats_cons (dat_num _) dats_nil)) (dats_cons (dat_dict b_o3 (s_lL _ _ (s_o11 _ _ (s_o10 _ _ (s_o9 _ _ (s_o8 _ _ (s_o7 _ _ (s_o6 _ _ (s_o5 _ _ (s_o4 _ _ (upd_same)))))))))) rfl rfl) (dats_cons (dat_rep b_o5 (s_lL _ _ (s_o11 _ _ (s_o10 _ _ (s_o9 _ _ (s_o8 _ _ (s_o7 _ _ (s_o6 _ _ (upd_same)))))))) (fun _ => (dat_num _))) (dats_cons (dat_lst b_o11 (s_lL _ _ (upd_same)) (dats_cons (dat_lst b_o10 (s_lL _ _ (s_o11 _ _ (upd_same))) (dats_cons (dat_lst b_o9 (s_lL _ _ (s_o11 _ _ (s_o10 _ _ (upd_same)))) (dats_cons (dat_lst b_o8 (s_lL _ _ (s_o11 _ _ (s_o10 _ _ (s_o9 _ _ (upd_same))))) (dats_cons (dat_lst b_o7 (s_lL _ _ (s_o11 _ _ (s_o10 _ _ (s_o9 _ _ (s_o8 _ _ (upd_same)))))) (dats_cons (dat_tup b_o6 (s_lL _ _ (s_o11 _ _ (s_o10 _ _ (s_o9 _ _ (s_o8 _ _ (s_o7 _ _ (upd_same))))))) (dats_cons (dat_num _) dats_nil)) dats_nil)) dats_nil)) dats_nil)) dats_nil)) dats_nil)) dats_nil))))))))))))))
    refine ⟨.ref lL, rfl, .ref b, rfl, b, c, 14, rfl, G_lL, by decide, by decide, fun u H2 u0 u1 G2 k2 => ?_⟩
    have ds2 := Dats.mono (kp_of k2) ds
    obtain ⟨x, hx, ax⟩ := item_at (xs := [.int 0, .int (-1), .int (10 ^ 9 + 1), .int (10 ^ 30), .bl true, .bl false, .non, .str (Str.ofString "3"), .str (Str.ofString ""), .ref o1, .ref o2, .ref o3, .ref o5, .ref o11]) u0 u1
    obtain ⟨d, hd, Dx⟩ := ds2.get hx
    have hr2 : H2 lL = some (.lst [.int 0, .int (-1), .int (10 ^ 9 + 1), .int (10 ^ 30), .bl true, .bl false, .non, .str (Str.ofString "3"), .str (Str.ofString ""), .ref o1, .ref o2, .ref o3, .ref o5, .ref o11]) := (k2 lL b_lL).trans upd_same
    exact ⟨lL, _, u, x, rfl, rfl, SqL.of hr2, ax, q x d H2 Dx (List.mem_of_getElem? hd) G2 ((Kp.of_same (((((((((((s_o1.trans s_o2).trans s_o3).trans s_o4).trans s_o5).trans s_o6).trans s_o7).trans s_o8).trans s_o9).trans s_o10).trans s_o11).trans s_lL)).trans (kp_of k2))⟩
end
end Kk

set_option maxHeartbeats 4000000
namespace Kk
open PySem PySem.Spec PyProof.Rows L2 Lb
abbrev st_L_handed : Stmt := topS 23
abbrev N_L_handed : List Str := ["_law_bag_here", "_law_way", "_law_many", "_law_some", "_law_at", "_law_odd_here"]
abbrev P_L_handed : List Str := ["_law_bag_here"]
theorem sc_L_handed : FnScope N_L_handed P_L_handed (defScope st_L_handed) := ⟨rfl, rfl, rfl, by decide +kernel, rfl, by decide +kernel, by decide +kernel⟩
def odds2a : List PyData := [.none, .tuple [], .list [], .int 5, .str (Str.ofString "12"), .dict []]
def odds2b : List PyData := [.dict [(.int 1, .int 2)], .bool true, .list (List.replicate 399 (.int 5)), .list [.list [.list [.list [.list [.list [.list []]]]]]]]
theorem odds2_all : (odds2a ++ odds2b).all oddOk = true := by decide +kernel
theorem odds2_mem {d t : PyData} (h : d ∈ odds2a ++ t :: odds2b) : d = t ∨ oddOk d = true := by
  rcases List.mem_append.mp h with h | h
  · exact .inr (List.all_eq_true.mp odds2_all d (List.mem_append_left _ h))
  · rcases List.mem_cons.mp h with h | h
    · exact .inl h
    · exact .inr (List.all_eq_true.mp odds2_all d (List.mem_append_right _ h))
def inN (ns : List Int) : Prop := ∀ n ∈ ns, 1 ≤ n ∧ n ≤ 10 ^ 9
theorem part_ints {ns : List Int} (h : inN ns) : ∀ d ∈ ns.map PyData.int, Part d := fun d hd => by
  obtain ⟨n, hn, rfl⟩ := List.mem_map.mp hd
  refine part_int (log_ok ?_)
  have := h n hn
  have e : (10 : Nat) ^ 9 ≤ 10 ^ 30 := by decide
  omega
def spHanded : Sp := fun vs H Q _ => ∃ (b c : Addr), vs = [.ref b] ∧ Bag H b c ∧ ∀ (v : V) (d : PyData) (H' : Hp), Dat b H' d v → Shows d → smallL d → (∀ a, v = .ref a → H a = none) → Bag H' b c → Kp b H H' → Q v H'
section
variable {P : Program} {w : World} {K : PySem.W.Frag} {mg : Str → Option Value} {base : Heap}
theorem ok_handed {f : Addr} {fd : FuncData} (F : Fun K "_law_handed" "_law_handed" st_L_handed f fd) (B : Blt mg) (c_L_take : Cal P w K mg base 1 "_law_take" spTake) (c_L_spans : Cal P w K mg base 2 "_law_spans" spSpans) (c_L_odd : Cal P w K mg base 2 "_law_odd" spOdd) : FnOk P w K mg base CX0 3 f fd P_L_handed spHanded := by
  refine F.ok sc_L_handed (fun vs H Q E h => ?_) (fun cdv A outer s H vs Q E hr h => ?_)
  · obtain ⟨b, c, rfl, _⟩ := h
    rfl
  · obtain ⟨b, c, rfl, G, q⟩ := h
    refine ⟨_, (pss_cons (ps_set (i := 1) sc_L_handed.nd rfl (Or.inl rfl) (pe_n c_L_take hr (by decide) (by rfl) (pa_cons (pv 0) (pa_cons pe_int pa_nil))))
      (pss_cons (ps_set (i := 2) sc_L_handed.nd rfl (Or.inl rfl) (pe_ix ix_list (pe_lst (pa_cons (pe_op op_add pe_int (pe_n c_L_take hr (by decide) (by rfl) (pa_cons (pv 0) (pa_cons pe_int pa_nil)))) (pa_cons (pe_op op_add pe_int (pe_n c_L_take hr (by decide) (by rfl) (pa_cons (pv 0) (pa_cons pe_int pa_nil)))) pa_nil))) (pe_n c_L_take hr (by decide) (by rfl) (pa_cons (pv 0) (pa_cons pe_int pa_nil))) (fun _ _ => rfl)))
      (pss_cons (ps_set (i := 3) sc_L_handed.nd rfl (Or.inl rfl) (pe_n c_L_spans hr (by decide) (by rfl) (pa_cons (pv 0) (pa_cons (pv 2) (pa_cons (pe_ix ix_list (pe_lst (pa_cons pe_int (pa_cons (pe_op op_pow pe_int pe_int) pa_nil))) (pe_n c_L_take hr (by decide) (by rfl) (pa_cons (pv 0) (pa_cons pe_int pa_nil))) (fun _ _ => rfl)) pa_nil)))))
      (pss_cons (ps_set (i := 4) sc_L_handed.nd rfl (Or.inl rfl) (pe_n c_L_take hr (by decide) (by rfl) (pa_cons (pv 0) (pa_cons (pe_callB call_len (by rfl) B.len (by decide +kernel) (pa_cons (pv 3) pa_nil)) pa_nil))))
      (pss_cons (ps_if (pt_cmpR op_eq (pv 1) pe_int (nomark _)) (pss_one (ps_ret (pe_op op_cat (pe_op op_cat (pe_slice sl_list (pv 3) po_none (po_some (pv 4))) (pe_lst (pa_cons (pe_n c_L_odd hr (by decide) (by rfl) (pa_cons (pv 0) pa_nil)) pa_nil))) (pe_slice sl_list (pv 3) (po_some (pe_op op_add (pv 4) pe_int)) po_none)))) pss_nil)
      (pss_cons (ps_if (pt_cmpR op_eq (pv 1) pe_int (nomark _)) (pss_cons (ps_set (i := 5) sc_L_handed.nd rfl (Or.inl rfl) (pe_lst (pa_cons pe_non (pa_cons (pe_tup (pa_nil)) (pa_cons (pe_lst (pa_nil)) (pa_cons pe_int (pa_cons pe_str (pa_cons pe_dnewK (pa_cons (pe_callTy call_tuple_of (by rfl) B.tuple_ (by decide +kernel) (pa_cons (pv 3) pa_nil)) (pa_cons (pe_disp (pps_cons pe_int pe_int pps_nil) rfl rfl (by simp) (by decide)) (pa_cons pe_bl (pa_cons (pe_op op_rep (pe_lst (pa_cons pe_int pa_nil)) pe_int) (pa_cons (pe_lst (pa_cons (pe_lst (pa_cons (pe_lst (pa_cons (pe_lst (pa_cons (pe_lst (pa_cons (pe_lst (pa_cons (pe_lst (pa_nil)) pa_nil)) pa_nil)) pa_nil)) pa_nil)) pa_nil)) pa_nil)) pa_nil)))))))))))))
      (pss_one (ps_ret (pe_ix ix_list (pv 5) (pe_n c_L_take hr (by decide) (by rfl) (pa_cons (pv 0) (pa_cons pe_int pa_nil))) (fun _ _ => rfl))))) pss_nil)
      (pss_cons (ps_if (pt_cmpR op_eq (pv 1) pe_int (nomark _)) (pss_one (ps_ret (pe_op op_cat (pe_op op_cat (pe_slice sl_list (pv 3) po_none (po_some (pv 4))) (pe_lst (pa_cons (pe_ix ix_list (pe_lst (pa_cons pe_int (pa_cons (pe_op op_pow pe_int pe_int) pa_nil))) (pe_n c_L_take hr (by decide) (by rfl) (pa_cons (pv 0) (pa_cons pe_int pa_nil))) (fun _ _ => rfl)) pa_nil))) (pe_slice sl_list (pv 3) (po_some (pe_op op_add (pv 4) pe_int)) po_none)))) pss_nil)
      (pss_one (ps_ret (pv 3)))))))))), ?_⟩
    refine ⟨.ref b, rfl, b, c, 6, rfl, G, by decide, by decide, fun way H1 w0 w1 G1 k1 => ?_⟩
    refine ⟨.ref b, rfl, b, c, 6, rfl, G1, by decide, by decide, fun v1 H2 a1 a2 G2 k2 => ⟨1, v1, rfl, rfl, ?_⟩⟩
    refine ⟨.ref b, rfl, b, c, 3, rfl, G2, by decide, by decide, fun v2 H3 c1 c2 G3 k3 => ⟨39, v2, rfl, rfl, by show 2 ≤ sizeLine; decide, fun p np => ?_⟩⟩
    refine ⟨.ref b, rfl, b, c, 2, rfl, G3.new np, by decide, by decide, fun v3 H4 u0 u1 G4 k4 => ?_⟩
    have hp := k4 p (G3.ne_new np)
    rw [upd_same] at hp
    obtain ⟨y, hy, ay⟩ := item_at (xs := [V.int (1 + v1), .int (39 + v2)]) u0 u1
    obtain ⟨m, rfl, m1, m2⟩ : ∃ m : Nat, y = .int (m : Int) ∧ 1 ≤ m ∧ m ≤ 41 := by
      have mm := List.mem_of_getElem? hy
      simp only [List.mem_cons, List.not_mem_nil, or_false] at mm
      rcases mm with rfl | rfl
      · exact ⟨(1 + v1).toNat, by rw [Int.toNat_of_nonneg (by omega)], by omega, by omega⟩
      · exact ⟨(39 + v2).toNat, by rw [Int.toNat_of_nonneg (by omega)], by omega, by omega⟩
    refine ⟨p, _, v3, .int (m : Int), rfl, rfl, SqL.of hp, ay, ?_⟩
    refine ⟨.ref b, rfl, .int (m : Int), rfl, 10, 9, rfl, rfl, ⟨by decide, by decide, by decide⟩, by show 2 ≤ sizeLine; decide, fun r nr => ?_⟩
    refine ⟨.ref b, rfl, b, c, 2, rfl, G4.new nr, by decide, by decide, fun v4 H5 u2 u3 G5 k5 => ?_⟩
    have hr5 := k5 r (G4.ne_new nr)
    rw [upd_same] at hr5
    obtain ⟨t, ht, at_⟩ := item_at (xs := [V.int 9, .int (10 ^ 9)]) u2 u3
    obtain ⟨most, rfl, o1, o2⟩ : ∃ z : Int, t = .int z ∧ 1 ≤ z ∧ z ≤ 10 ^ 9 := by
      have mm := List.mem_of_getElem? ht
      simp only [List.mem_cons, List.not_mem_nil, or_false] at mm
      rcases mm with rfl | rfl <;> exact ⟨_, rfl, by decide, by decide⟩
    refine ⟨r, _, v4, .int most, rfl, rfl, SqL.of hr5, at_, b, c, m, most, rfl, G5, m1, m2, o1, o2, fun ns l H6 nl6 in6 lb nol hl6 G6 k6 => ?_⟩
    have k06 : Kp b H H5 := (kp_of k1).trans ((kp_of k2).trans ((kp_of k3).trans ((Kp.new np).trans ((kp_of k4).trans ((Kp.new nr).trans (kp_of k5))))))
    refine ⟨.ref b, rfl, .ref l, rfl, .ref l, _, rfl, .inl ⟨_, SqL.of hl6, rfl⟩, b, c, _, rfl, G6, by rw [List.length_map]; omega, by rw [List.length_map]; exact Int.le_trans (show (ns.length : Int) ≤ 41 by omega) (by decide), fun at0 H7 x0 x1 G7 k7 => ?_⟩
    rw [List.length_map] at x1
    have hl7 : H7 l = some (.lst (ns.map V.int)) := by
      rw [k7 l lb]
      exact hl6
    have k07 : Kp b H H7 := k06.trans (k6.trans (kp_of k7))
    have lenV : (ns.map V.int).length = ns.length := List.length_map _
    have pin := part_ints in6
    have tkP : ∀ d ∈ (ns.map PyData.int).take at0.toNat, Part d := fun d hd => pin d (List.mem_of_mem_take hd)
    have dpP : ∀ d ∈ (ns.map PyData.int).drop (at0 + 1).toNat, Part d := fun d hd => pin d (List.mem_of_mem_drop hd)
    -- one thing put in at a place
    have put : ∀ {H8 : Hp} {x : V} {d : PyData} {p5 : Addr}, Bag H8 b c → Kp b H H8 → p5 ≠ b → H p5 = none → Part d → Dat b H8 d x → H8 p5 = some (.lst ((ns.map V.int).take at0.toNat ++ [x] ++ (ns.map V.int).drop (at0 + 1).toNat)) → Q (.ref p5) H8 := by
      intro H8 x d p5 G8 k8 p5b n5 pd Dx e
      refine q (.ref p5) (.list (((ns.map PyData.int).take at0.toNat ++ [d]) ++ (ns.map PyData.int).drop (at0 + 1).toNat)) H8 ?_ ?_ ?_ ?_ G8 k8
      · exact dat_lst p5b e ((((dats_ints ns).tk _).app (dats_cons Dx dats_nil)).app ((dats_ints ns).dp _))
      · refine shows_list (fun y hy => ?_) ?_
        · rcases List.mem_append.mp hy with hy | hy
          · rcases List.mem_append.mp hy with hy | hy
            · exact tkP y hy
            · rw [List.mem_singleton.mp hy]
              exact pd
          · exact dpP y hy
        · rw [List.length_append, List.length_append, List.length_take, List.length_drop, List.length_map]
          show min _ _ + 1 + _ ≤ 90
          omega
      · show (((ns.map PyData.int).take at0.toNat ++ [d]) ++ (ns.map PyData.int).drop (at0 + 1).toNat).length ≤ 1000
        rw [List.length_append, List.length_append, List.length_take, List.length_drop, List.length_map]
        show min _ _ + 1 + _ ≤ 1000
        omega
      · intro a e
        cases e
        exact n5
    have tkL : ((ns.map V.int).take at0.toNat).length ≤ 41 := by rw [List.length_take]; omega
    have dpL : ((ns.map V.int).drop (at0 + 1).toNat).length ≤ 41 := by rw [List.length_drop]; omega
    refine ⟨_, rfl, rfl, _, rfl, ite2 (fun _ => ?_) (fun _ => ?_)⟩
    · -- one odd thing
      refine ⟨.ref l, rfl, .int at0, rfl, _, rfl, l, _, rfl, SqL.of hl7, fun p1 n1 => ?_⟩
      rw [cut_to x0]
      have p1b := G7.ne_new n1
      refine ⟨.ref b, rfl, b, c, rfl, G7.new n1, fun x d H8 Dx md G8 k10 => ⟨by show 1 ≤ sizeLine; decide, fun p2 n2 => ?_⟩⟩
      have h1 : H8 p1 = some (.lst ((ns.map V.int).take at0.toNat)) := k10 _ _ p1b upd_same
      have hn8 : H8 l = some (.lst (ns.map V.int)) := k10 _ _ lb (by rw [upd_ne (ne_of_none hl7 n1)]; exact hl7)
      refine ⟨p1, p2, _, _, rfl, rfl, same_new n2 _ _ h1, upd_same, sz_ok (by show _ + 1 ≤ _; omega), fun p3 n3 => ?_⟩
      refine ⟨.ref l, rfl, .int at0, rfl, at0, 1, rfl, rfl, _, rfl, l, _, rfl, SqL.of (same_new n3 _ _ (same_new n2 _ _ hn8)), fun p4 n4 => ?_⟩
      rw [cut_from (by omega)]
      refine ⟨p3, p4, _, _, rfl, rfl, same_new n4 _ _ upd_same, upd_same, sz_ok (by rw [List.length_append]; show _ + 1 + _ ≤ _; omega), fun p5 n5 => ?_⟩
      have g2 := ((G8.new (o := .lst [x]) n2).new (o := .lst ((ns.map V.int).take at0.toNat ++ [x])) n3).new (o := .lst ((ns.map V.int).drop (at0 + 1).toNat)) n4
      have sK0 : Same H8 _ := (same_new n2).trans ((same_new n3).trans (same_new (o := .lst ((ns.map V.int).drop (at0 + 1).toNat)) n4))
      have kk := k07.trans ((Kp.new n1).trans (k10.trans (.of_same sK0)))
      exact put (g2.new n5) (kk.trans (.new n5)) (g2.ne_new n5) (kk.free n5 (g2.ne_new n5)) (odd_ok (List.all_eq_true.mp odds_all d md)).1 (Dx.same (sK0.trans (same_new n5))) upd_same
    refine ⟨_, rfl, rfl, _, rfl, ite2 (fun _ => ?_) (fun _ => ?_)⟩
    · -- something else
      refine ⟨by show 0 ≤ sizeLine; decide, fun o1 n_o1 => ?_⟩
      have s_o1 := same_new (o := .tup []) n_o1
      have b_o1 := G7.ne_new n_o1
      have G_o1 := G7.new (o := .tup []) n_o1
      refine ⟨by show 0 ≤ sizeLine; decide, fun o2 n_o2 => ?_⟩
      have s_o2 := same_new (o := .lst []) n_o2
      have b_o2 := G_o1.ne_new n_o2
      have G_o2 := G_o1.new (o := .lst []) n_o2
      intro o3 n_o3
      have s_o3 := same_new (o := .dK []) n_o3
      have b_o3 := G_o2.ne_new n_o3
      have G_o3 := G_o2.new (o := .dK []) n_o3
      refine ⟨.ref l, rfl, l, _, rfl, .inl ⟨SqL.of (s_o3 _ _ (s_o2 _ _ (s_o1 _ _ (hl7)))), fun o4 n_o4 => ?_⟩⟩
      have s_o4 := same_new (o := .tup (ns.map V.int)) n_o4
      have b_o4 := G_o3.ne_new n_o4
      have G_o4 := G_o3.new (o := .tup (ns.map V.int)) n_o4
      refine fun o5 n_o5 => ⟨upd_same, [(Sum.inl 1, .int 2)], rfl, by decide, ?_⟩
      rw [upd_upd]
      have s_o5 := same_new (o := .dK (mergeK [] [(Sum.inl 1, .int 2)])) n_o5
      have b_o5 := G_o4.ne_new n_o5
      have G_o5 := G_o4.new (o := .dK (mergeK [] [(Sum.inl 1, .int 2)])) n_o5
      refine ⟨by show 1 ≤ sizeLine; decide, fun o6 n_o6 => ?_⟩
      have s_o6 := same_new (o := .lst [.int 5]) n_o6
      have b_o6 := G_o5.ne_new n_o6
      have G_o6 := G_o5.new (o := .lst [.int 5]) n_o6
      refine ⟨o6, 399, _, rfl, rfl, upd_same, by decide, by decide, by show 1 * 399 ≤ sizeLine; decide, fun o7 n_o7 => ?_⟩
      have s_o7 := same_new (o := .lst (List.replicate (Int.toNat 399) [V.int 5]).flatten) n_o7
      have b_o7 := G_o6.ne_new n_o7
      have G_o7 := G_o6.new (o := .lst (List.replicate (Int.toNat 399) [V.int 5]).flatten) n_o7
      refine ⟨by show 0 ≤ sizeLine; decide, fun o8 n_o8 => ?_⟩
      have s_o8 := same_new (o := .lst []) n_o8
      have b_o8 := G_o7.ne_new n_o8
      have G_o8 := G_o7.new (o := .lst []) n_o8
      refine ⟨by show 1 ≤ sizeLine; decide, fun o9 n_o9 => ?_⟩
      have s_o9 := same_new (o := .lst [.ref o8]) n_o9
      have b_o9 := G_o8.ne_new n_o9
      have G_o9 := G_o8.new (o := .lst [.ref o8]) n_o9
      refine ⟨by show 1 ≤ sizeLine; decide, fun o10 n_o10 => ?_⟩
      have s_o10 := same_new (o := .lst [.ref o9]) n_o10
      have b_o10 := G_o9.ne_new n_o10
      have G_o10 := G_o9.new (o := .lst [.ref o9]) n_o10
      refine ⟨by show 1 ≤ sizeLine; decide, fun o11 n_o11 => ?_⟩
      have s_o11 := same_new (o := .lst [.ref o10]) n_o11
      have b_o11 := G_o10.ne_new n_o11
      have G_o11 := G_o10.new (o := .lst [.ref o10]) n_o11
      refine ⟨by show 1 ≤ sizeLine; decide, fun o12 n_o12 => ?_⟩
      have s_o12 := same_new (o := .lst [.ref o11]) n_o12
      have b_o12 := G_o11.ne_new n_o12
      have G_o12 := G_o11.new (o := .lst [.ref o11]) n_o12
      refine ⟨by show 1 ≤ sizeLine; decide, fun o13 n_o13 => ?_⟩
      have s_o13 := same_new (o := .lst [.ref o12]) n_o13
      have b_o13 := G_o12.ne_new n_o13
      have G_o13 := G_o12.new (o := .lst [.ref o12]) n_o13
      refine ⟨by show 1 ≤ sizeLine; decide, fun o14 n_o14 => ?_⟩
      have s_o14 := same_new (o := .lst [.ref o13]) n_o14
      have b_o14 := G_o13.ne_new n_o14
      have G_o14 := G_o13.new (o := .lst [.ref o13]) n_o14
      refine ⟨by show 11 ≤ sizeLine; decide, fun lL n_lL => ?_⟩
      have s_lL := same_new (o := .lst [.non, .ref o1, .ref o2, .int 5, .str (Str.ofString "12"), .ref o3, .ref o4, .ref o5, .bl true, .ref o7, .ref o14]) n_lL
      have b_lL := G_o14.ne_new n_lL
      have G_lL := G_o14.new (o := .lst [.non, .ref o1, .ref o2, .int 5, .str (Str.ofString "12"), .ref o3, .ref o4, .ref o5, .bl true, .ref o7, .ref o14]) n_lL
      have ds : Dats b _ (odds2a ++ .tuple (ns.map PyData.int) :: odds2b) [.non, .ref o1, .ref o2, .int 5, .str (Str.ofString "12"), .ref o3, .ref o4, .ref o5, .bl true, .ref o7, .ref o14] := (dats_cons dat_none (dats_cons (dat_tup b_o1 (s_lL _ _ (s_o14 _ _ (s_o13 _ _ (s_o12 _ _ (s_o11 _ _ (s_o10 _ _ (s_o9 _ _ (s_o8 _ _ (s_o7 _ _ (s_o6 _ _ (s_o5 _ _ (s_o4 _ _ (s_o3 _ _ (s_o2 _ _ (upd_same))))))))))))))) dats_nil) (dats_cons (dat_lst b_o2 (s_lL _ _ (s_o14 _ _ (s_o13 _ _ (s_o12 _ _ (s_o11 _ _ (s_o10 _ _ (s_o9 _ _ (s_o8 _ _ (s_o7 _ _ (s_o6 _ _ (s_o5 _ _ (s_o4 _ _ (s_o3 _ _ (upd_same)))))))))))))) dats_nil) (dats_cons (dat_num _) (dats_cons (dat_text _) (dats_cons (dat_dict b_o3 (s_lL _ _ (s_o14 _ _ (s_o13 _ _ (s_o12 _ _ (s_o11 _ _ (s_o10 _ _ (s_o9 _ _ (s_o8 _ _ (s_o7 _ _ (s_o6 _ _ (s_o5 _ _ (s_o4 _ _ (upd_same))))))))))))) rfl rfl) (dats_cons (dat_tup b_o4 (s_lL _ _ (s_o14 _ _ (s_o13 _ _ (s_o12 _ _ (s_o11 _ _ (s_o10 _ _ (s_o9 _ _ (s_o8 _ _ (s_o7 _ _ (s_o6 _ _ (s_o5 _ _ (upd_same)))))))))))) (dats_ints ns)) (dats_cons (dat_dict b_o5 (s_lL _ _ (s_o14 _ _ (s_o13 _ _ (s_o12 _ _ (s_o11 _ _ (s_o10 _ _ (s_o9 _ _ (s_o8 _ _ (s_o7 _ _ (s_o6 _ _ (upd_same))))))))))) rfl rfl) (dats_cons (dat_bool _) (dats_cons (dat_rep b_o7 (s_lL _ _ (s_o14 _ _ (s_o13 _ _ (s_o12 _ _ (s_o11 _ _ (s_o10 _ _ (s_o9 _ _ (s_o8 _ _ (upd_same))))))))) (fun _ => (dat_num _))) (dats_cons (dat_lst b_o14 (s_lL _ _ (upd_same)) (dats_cons (dat_lst b_o13 (s_lL _ _ (s_o14 _ _ (upd_same))) (dats_cons (dat_lst b_o12 (s_lL _ _ (s_o14 _ _ (s_o13 _ _ (upd_same)))) (dats_cons (dat_lst b_o11 (s_lL _ _ (s_o14 _ _ (s_o13 _ _ (s_o12 _ _ (upd_same))))) (dats_cons (dat_lst b_o10 (s_lL _ _ (s_o14 _ _ (s_o13 _ _ (s_o12 _ _ (s_o11 _ _ (upd_same)))))) (dats_cons (dat_lst b_o9 (s_lL _ _ (s_o14 _ _ (s_o13 _ _ (s_o12 _ _ (s_o11 _ _ (s_o10 _ _ (upd_same))))))) (dats_cons (dat_lst b_o8 (s_lL _ _ (s_o14 _ _ (s_o13 _ _ (s_o12 _ _ (s_o11 _ _ (s_o10 _ _ (s_o9 _ _ (upd_same)))))))) dats_nil) dats_nil)) dats_nil)) dats_nil)) dats_nil)) dats_nil)) dats_nil)) dats_nil)))))))))))
      have f_o1 : H7 o1 = none := n_o1
      have f_o2 : H7 o2 = none := (s_o1.free n_o2)
      have f_o3 : H7 o3 = none := ((s_o1.trans s_o2).free n_o3)
      have f_o4 : H7 o4 = none := (((s_o1.trans s_o2).trans s_o3).free n_o4)
      have f_o5 : H7 o5 = none := ((((s_o1.trans s_o2).trans s_o3).trans s_o4).free n_o5)
      have f_o7 : H7 o7 = none := ((((((s_o1.trans s_o2).trans s_o3).trans s_o4).trans s_o5).trans s_o6).free n_o7)
      have f_o14 : H7 o14 = none := (((((((((((((s_o1.trans s_o2).trans s_o3).trans s_o4).trans s_o5).trans s_o6).trans s_o7).trans s_o8).trans s_o9).trans s_o10).trans s_o11).trans s_o12).trans s_o13).free n_o14)
      refine ⟨.ref lL, rfl, .ref b, rfl, b, c, 11, rfl, G_lL, by decide, by decide, fun u H8 y0 y1 G8 k8 => ?_⟩
      have ds2 := Dats.mono (kp_of k8) ds
      obtain ⟨x, hx, ax⟩ := item_at (xs := [.non, .ref o1, .ref o2, .int 5, .str (Str.ofString "12"), .ref o3, .ref o4, .ref o5, .bl true, .ref o7, .ref o14]) y0 y1
      obtain ⟨d, hd, Dx⟩ := ds2.get hx
      have hr2 : H8 lL = some (.lst [.non, .ref o1, .ref o2, .int 5, .str (Str.ofString "12"), .ref o3, .ref o4, .ref o5, .bl true, .ref o7, .ref o14]) := (k8 lL b_lL).trans upd_same
      have sm : Shows d ∧ smallL d := by
        rcases odds2_mem (List.mem_of_getElem? hd) with rfl | h
        · exact ⟨shows_tuple pin (by rw [List.length_map]; omega), trivial⟩
        · exact (odd_ok h).2
      refine ⟨lL, _, u, x, rfl, rfl, SqL.of hr2, ax, q x d H8 Dx sm.1 sm.2 (fun a ea => ?_) G8 (k07.trans ((Kp.of_same ((((((((((((((s_o1.trans s_o2).trans s_o3).trans s_o4).trans s_o5).trans s_o6).trans s_o7).trans s_o8).trans s_o9).trans s_o10).trans s_o11).trans s_o12).trans s_o13).trans s_o14).trans s_lL)).trans (kp_of k8)))⟩
      have mx := List.mem_of_getElem? hx
      subst ea
      simp only [List.mem_cons, List.not_mem_nil, or_false, reduceCtorEq, false_or, V.ref.injEq] at mx
      rcases mx with rfl | rfl | rfl | rfl | rfl | rfl | rfl
      · exact k07.free f_o1 b_o1
      · exact k07.free f_o2 b_o2
      · exact k07.free f_o3 b_o3
      · exact k07.free f_o4 b_o4
      · exact k07.free f_o5 b_o5
      · exact k07.free f_o7 b_o7
      · exact k07.free f_o14 b_o14
    refine ⟨_, rfl, rfl, _, rfl, ite2 (fun _ => ?_) (fun _ => ?_)⟩
    · -- one length at its bounds
      refine ⟨.ref l, rfl, .int at0, rfl, _, rfl, l, _, rfl, SqL.of hl7, fun p1 n1 => ?_⟩
      rw [cut_to x0]
      have p1b := G7.ne_new n1
      refine ⟨10, 9, rfl, rfl, ⟨by decide, by decide, by decide⟩, by show 2 ≤ sizeLine; decide, fun p0 n0 => ?_⟩
      have p0b := (G7.new (o := .lst ((ns.map V.int).take at0.toNat)) n1).ne_new n0
      refine ⟨.ref b, rfl, b, c, 2, rfl, (G7.new n1).new n0, by decide, by decide, fun u H8 y0 y1 G8 k10' => ?_⟩
      have k10 := kp_of k10'
      obtain ⟨x, hx, ax⟩ := item_at (xs := [V.int 1, .int (10 ^ 9)]) y0 y1
      obtain ⟨z, rfl, z1, z2⟩ : ∃ z : Int, x = .int z ∧ 1 ≤ z ∧ z ≤ 10 ^ 9 := by
        have mm := List.mem_of_getElem? hx
        simp only [List.mem_cons, List.not_mem_nil, or_false] at mm
        rcases mm with rfl | rfl <;> exact ⟨_, rfl, by decide, by decide⟩
      have hp0 : H8 p0 = some (.lst [V.int 1, .int (10 ^ 9)]) := k10 _ _ p0b upd_same
      refine ⟨p0, _, u, .int z, rfl, rfl, SqL.of hp0, ax, by show 1 ≤ sizeLine; decide, fun p2 n2 => ?_⟩
      have h1 : H8 p1 = some (.lst ((ns.map V.int).take at0.toNat)) := k10 _ _ p1b (by rw [upd_ne (ne_of_none upd_same n0)]; exact upd_same)
      have hn8 : H8 l = some (.lst (ns.map V.int)) := k10 _ _ lb (same_new n0 _ _ (by rw [upd_ne (ne_of_none hl7 n1)]; exact hl7))
      refine ⟨p1, p2, _, _, rfl, rfl, same_new n2 _ _ h1, upd_same, sz_ok (by show _ + 1 ≤ _; omega), fun p3 n3 => ?_⟩
      refine ⟨.ref l, rfl, .int at0, rfl, at0, 1, rfl, rfl, _, rfl, l, _, rfl, SqL.of (same_new n3 _ _ (same_new n2 _ _ hn8)), fun p4 n4 => ?_⟩
      rw [cut_from (by omega)]
      refine ⟨p3, p4, _, _, rfl, rfl, same_new n4 _ _ upd_same, upd_same, sz_ok (by rw [List.length_append]; show _ + 1 + _ ≤ _; omega), fun p5 n5 => ?_⟩
      have g2 := ((G8.new (o := .lst [.int z]) n2).new (o := .lst ((ns.map V.int).take at0.toNat ++ [.int z])) n3).new (o := .lst ((ns.map V.int).drop (at0 + 1).toNat)) n4
      have sK0 : Same H8 _ := (same_new n2).trans ((same_new n3).trans (same_new (o := .lst ((ns.map V.int).drop (at0 + 1).toNat)) n4))
      have kk := k07.trans ((Kp.new n1).trans ((Kp.new n0).trans (k10.trans (.of_same sK0))))
      have pz : Part (.int z) := part_ints (ns := [z]) (fun n hn => by rw [List.mem_singleton.mp hn]; exact ⟨z1, z2⟩) _ (List.mem_singleton.mpr rfl)
      exact put (g2.new n5) (kk.trans (.new n5)) (g2.ne_new n5) (kk.free n5 (g2.ne_new n5)) pz (dat_num z) upd_same
    · refine ⟨.ref l, rfl, q (.ref l) (.list (ns.map PyData.int)) H7 (dat_lst lb hl7 (dats_ints ns)) (shows_list pin (by rw [List.length_map]; omega)) (show (ns.map PyData.int).length ≤ 1000 by rw [List.length_map]; omega) (fun a e => ?_) G7 k07⟩
      cases e
      exact k06.free nol lb
end
end Kk

set_option maxHeartbeats 4000000
namespace Kk
open PySem PySem.Spec PyProof.Rows L2 Lb
abbrev st_L_refused : Stmt := topS 24
abbrev N_L_refused : List Str := ["_law_e", "_law_alone"]
abbrev P_L_refused : List Str := ["_law_e"]
theorem sc_L_refused : FnScope N_L_refused P_L_refused (defScope st_L_refused) := ⟨rfl, rfl, rfl, by decide +kernel, rfl, by decide +kernel, by decide +kernel⟩
abbrev st_L_made : Stmt := topS 25
abbrev N_L_made : List Str := ["_law_thing", "_law_book", "_law_e"]
abbrev P_L_made : List Str := ["_law_thing"]
theorem sc_L_made : FnScope N_L_made P_L_made (defScope st_L_made) := ⟨rfl, rfl, rfl, by decide +kernel, rfl, by decide +kernel, by decide +kernel⟩
abbrev st_L_told : Stmt := topS 26
abbrev N_L_told : List Str := ["_law_book", "_law_way", "_law_many", "_law_found", "_law_e"]
abbrev P_L_told : List Str := ["_law_book", "_law_way", "_law_many"]
theorem sc_L_told : FnScope N_L_told P_L_told (defScope st_L_told) := ⟨rfl, rfl, rfl, by decide +kernel, rfl, by decide +kernel, by decide +kernel⟩
/-- what the written part says of the errors -/
structure ErC (K : PySem.W.Frag) (mg : Str → Option Value) (SE WR NS TG TM : Addr) : Prop where
  gS : mg "SleepError" = some (.ref SE)
  gW : mg "Wrong" = some (.ref WR)
  gN : mg "NotSo" = some (.ref NS)
  gT : mg "TooGreat" = some (.ref TG)
  gM : mg "TooMany" = some (.ref TM)
  ex : PySem.W.exmOne K (.ref WR) (.ref SE) = some true
  ec : ExcC K WR
  kv : PySem.W.kitOne K (.ref WR) (.type "ValueError") = some true
  kn : PySem.W.kitAny K (.ref WR) [.ref NS, .ref TG, .ref TM] = some false
  xf : XfC K WR
  no : PySem.W.findIn K (.ref WR) "at" = some none
def spRefused (WR : Addr) : Addr → Value → Option Addr → Sp := fun a cls d vs H Q _ => ∃ dd : Addr, vs = [.ref a] ∧ cls = .ref WR ∧ d = some dd ∧ H dd = some (.xd [(("at" : Str), .int 0)]) ∧
  ∀ (p : Addr) (H' : Hp), Same H H' → H' p = some (.tup [.str (Str.ofString "wrong"), .int 0]) → Q (.ref p) H'
def spMade (C : Addr) : Sp := fun vs H Q _ => ∃ (b : Addr) (v : V) (d : PyData), vs = [v] ∧ Dat b H d v ∧ smallL d ∧
  (∀ ns : List Int, d = .list (ns.map PyData.int) → okN ns → ∀ (p x : Addr) (H' : Hp), Same H H' → H' p = some (.tup [.str (Str.ofString "told"), .ref x]) → BookAt C H' x ns → Q (.ref p) H') ∧
  (areL d = false → ∀ (p : Addr) (H' : Hp), Same H H' → H' p = some (.tup [.str (Str.ofString "wrong"), .int 0]) → Q (.ref p) H')
def spTold (C : Addr) : Sp := fun vs H Q _ => ∃ (b x : Addr) (ns : List Int) (v : V) (d : PyData) (way : Int), vs = [.ref x, .int way, v] ∧ BookAt C H x ns ∧ Dat b H d v ∧
  ((way = 0 ∧ (∀ (m : Nat) (n : Int), d = .int ((m : Int) + 1) → ns[m]? = some n → ∀ (p : Addr) (H' : Hp), Same H H' → H' p = some (.tup [.str (Str.ofString "told"), .int n]) → Q (.ref p) H') ∧
    (within 1 (ns.length : Int) d = false → ∀ (p : Addr) (H' : Hp), Same H H' → H' p = some (.tup [.str (Str.ofString "wrong"), .int 0]) → Q (.ref p) H')) ∨
  (way = 1 ∧ (∀ m : Nat, d = .int (m : Int) → 1 ≤ m → m ≤ 40 → ∀ (p l : Addr) (H' : Hp), Same H H' → H' p = some (.tup [.str (Str.ofString "told"), .ref l]) → H' l = some (.lst ((rows m).map V.int)) → Q (.ref p) H') ∧
    (within 1 40 d = false → ∀ (p : Addr) (H' : Hp), Same H H' → H' p = some (.tup [.str (Str.ofString "wrong"), .int 0]) → Q (.ref p) H')))
section
variable {P : Program} {w : World} {K : PySem.W.Frag} {mg : Str → Option Value} {base : Heap} {C SE WR NS TG TM : Addr}
theorem ok_refused {f : Addr} {fd : FuncData} (F : Fun K "_law_refused" "_law_refused" st_L_refused f fd) (B : BltM mg) (S : ErC K mg SE WR NS TG TM) : FnE P w K mg base 1 f fd P_L_refused (spRefused WR) := by
  have g_TooGreat := S.gT
  have g_NotSo := S.gN
  have g_TooMany := S.gM
  have g_Wrong := S.gW
  refine fnE_of F sc_L_refused (fun a cls d vs H Q E h => ?_) (fun cdv A outer s H vs Q E pp cls d hr hz hf h => ?_)
  · obtain ⟨dd, rfl, _⟩ := h
    rfl
  · obtain ⟨dd, rfl, rfl, rfl, hd, q⟩ := h
    refine ⟨_, (pss_cons (ps_set (i := 1) sc_L_refused.nd rfl (Or.inl rfl) (pe_and (pe_callB (call_isP (List.mem_singleton.mpr rfl) hz hf) (by rfl) B.isinstance_ (by decide +kernel) (pa_cons (pv 0) (pa_cons (pe_glob (v := V.ref _) (by rfl) g_Wrong rfl) pa_nil))) (pe_and (pe_callB (call_isP (List.mem_singleton.mpr rfl) hz hf) (by rfl) B.isinstance_ (by decide +kernel) (pa_cons (pv 0) (pa_cons (pe_bltn (v := .ty "ValueError") (by rfl) B.ValueError_ (by decide +kernel) rfl) pa_nil))) (pe_one (pe_not (pe_callB (call_isPT (List.mem_singleton.mpr rfl) hz hf) (by rfl) B.isinstance_ (by decide +kernel) (pa_cons (pv 0) (pa_cons (pe_tup (pa_cons (pe_glob (v := V.ref _) (by rfl) g_NotSo rfl) (pa_cons (pe_glob (v := V.ref _) (by rfl) g_TooGreat rfl) (pa_cons (pe_glob (v := V.ref _) (by rfl) g_TooMany rfl) pa_nil)))) pa_nil))))))))
      (pss_one (ps_ret (pe_ifExp (pw_and (pt_val (pv 1)) (pw_and1 (pt_not (pt_val (pe_callB call_isi (by rfl) B.isinstance_ (by decide +kernel) (pa_cons (pe_xp S.xf S.no (List.mem_singleton.mpr rfl) hz hf (pv 0)) (pa_cons (pe_bltn (v := .ty "bool") (by rfl) B.bool_ (by decide +kernel) rfl) pa_nil))))))).pt (pe_tup (pa_cons pe_str (pa_cons (pe_xp S.xf S.no (List.mem_singleton.mpr rfl) hz hf (pv 0)) pa_nil))) (pe_tup (pa_cons pe_str pa_nil)))))), ?_⟩
    refine ⟨.ref pp.1, rfl, WR, dd, _, .ref WR, _, true, rfl, rfl, hd, S.ec, rfl, .own WR, kit_self, _, rfl, iteT ?_⟩
    refine ⟨.ref pp.1, rfl, WR, dd, _, .ty "ValueError", _, true, rfl, rfl, hd, S.ec, rfl, .ty _, S.kv, _, rfl, iteT ?_⟩
    refine ⟨.ref pp.1, rfl, by show 3 ≤ sizeLine; decide, fun tp nt => ?_⟩
    have hd2 : (upd H tp (.tup [.ref NS, .ref TG, .ref TM])) dd = some (.xd [(("at" : Str), .int 0)]) := by
      rw [upd_ne (ne_of_none hd nt)]
      exact hd
    refine ⟨WR, dd, tp, _, _, _, false, rfl, rfl, hd2, S.ec, rfl, upd_same, .cons (.own NS) (.cons (.own TG) (.cons (.own TM) .nil)), S.kn, _, rfl, ?_⟩
    refine ⟨_, rfl, _, rfl, iteT ?_⟩
    refine ⟨.ref pp.1, rfl, rfl, rfl, dd, _, _, rfl, hd2, rfl, .int 0, .ty "bool", _, _, _, rfl, .ty _, .base (.int 0), kit_bool (.int 0), _, rfl, ?_⟩
    refine ⟨.ref pp.1, rfl, rfl, rfl, dd, _, _, rfl, hd2, rfl, by show 2 ≤ sizeLine; decide, fun p np => ?_⟩
    exact q p _ ((same_new nt).trans (same_new np)) upd_same
theorem ok_made {f : Addr} {fd : FuncData} (F : Fun K "_law_made" "_law_made" st_L_made f fd) (B : BltM mg) (T : BkC K mg C) (BF : BkF P w K mg base C WR) (S : ErC K mg SE WR NS TG TM) (c_L_refused : CalE P w K mg base 1 "_law_refused" (spRefused WR)) : FnOk P w K mg base CX0 7 f fd P_L_made (spMade C) := by
  have g_Book := T.g
  have g_SleepError := S.gS
  obtain ⟨fB, fdB, psB, M_Book, F_Book, b_Book⟩ := BF.mak
  refine F.ok sc_L_made (fun vs H Q E h => ?_) (fun cdv A outer s H vs Q E hr h => ?_)
  · obtain ⟨b, v, d, rfl, _⟩ := h
    rfl
  · obtain ⟨b, v, d, rfl, Dv, sm, q1, q2⟩ := h
    refine ⟨_, (pss_cons (ps_try_as (i := 2) (tb := _) (ts := _) (Wout := fun _ _ _ _ => False) rfl rfl sc_L_made.nd rfl rfl ⟨rfl, by decide, Or.inl g_SleepError⟩ takes0
      (fun W pn xe tk po => by exact pss_one (ps_set (i := 1) sc_L_made.nd rfl (Or.inl rfl) (by exact (pe_makeX M_Book F_Book tk hr (by decide) (by rfl) g_Book b_Book (by exact (pa_cons (pv 0) pa_nil))))))
      (fun a oe cls d pn hz hf => by exact (pss_one (ps_ret (pe_e c_L_refused hr (by decide) hz hf (by rfl) (pa_cons (pv 2) pa_nil))))))
      (pss_one (ps_ret (pe_tup (pa_cons pe_str (pa_cons (pv 1) pa_nil)))))), ?_⟩
    refine ⟨v, rfl, ?_⟩
    intro x dx nx nd ne
    have s0 : Same H (upd (upd H dx (.own x)) x (.ins C dx [])) := fun b o z => by
      rw [upd_ne (ne_of_none z nx), upd_ne (ne_of_none z nd)]
      exact z
    refine ⟨b, x, dx, v, d, rfl, upd_same, Dv.same s0, sm, fun ns ed ok t H1 s1 nt => ⟨rfl, ?_⟩, fun hd e H1 s1 ne1 he => ⟨true, S.ex, fun _ a na => ?_, fun q => Bool.noConfusion q⟩⟩
    · have xt : t ≠ x := fun z => by
        have := s1 x _ upd_same
        rw [← z, nt] at this
        cases this
      have s2 : Same H (upd (upd H1 t (.tup (ns.map V.int))) x (.ins C dx [(("kept" : Str), .ref t)])) := fun b o z => by
        have hb := s1 b o (s0 b o z)
        rw [upd_ne (ne_of_none z nx), upd_ne (ne_of_none hb nt)]
        exact hb
      refine ⟨.ref x, rfl, by show 2 ≤ sizeLine; decide, fun p np => ?_⟩
      have px : p ≠ x := fun z => by
        rw [z, upd_same] at np
        cases np
      refine q1 ns ed ok p x _ (s2.trans (same_new np)) upd_same (BookAt.same ⟨dx, t, upd_same, by rw [upd_ne xt]; exact upd_same⟩ (same_new np))
    · refine ⟨.ref a, rfl, e, rfl, rfl, rfl, he, fun p H2 s2 hp => ?_⟩
      exact q2 hd p H2 (s0.trans (s1.trans s2)) hp
theorem ok_told {f : Addr} {fd : FuncData} (F : Fun K "_law_told" "_law_told" st_L_told f fd) (B : BltM mg) (T : BkC K mg C) (BF : BkF P w K mg base C WR) (S : ErC K mg SE WR NS TG TM) (c_L_refused : CalE P w K mg base 1 "_law_refused" (spRefused WR)) (c_plain : CalX P w K mg base 7 "plain" (spPlain C WR)) : FnOk P w K mg base CX0 8 f fd P_L_told (spTold C) := by
  have g_Book := T.g
  have cl_B := T.cl
  have g_SleepError := S.gS
  obtain ⟨fL, fdL, psL, m_lengths, F_lengths, b_lengths⟩ := BF.ln
  obtain ⟨fS, fdS, psS, m_sleep, F_sleep, b_sleep⟩ := BF.sl
  refine F.ok sc_L_told (fun vs H Q E h => ?_) (fun cdv A outer s H vs Q E hr h => ?_)
  · obtain ⟨b, x, ns, v, d, way, rfl, _⟩ := h
    rfl
  · obtain ⟨b, x, ns, v, d, way, rfl, bx, Dv, h2⟩ := h
    refine ⟨_, (pss_cons (ps_try_as (i := 4) (tb := _) (ts := _) (Wout := fun _ _ _ _ => False) rfl rfl sc_L_told.nd rfl rfl ⟨rfl, by decide, Or.inl g_SleepError⟩ takes0
      (fun W pn xe tk po => by exact pss_one (ps_set (i := 3) sc_L_told.nd rfl (Or.inl rfl) (pe_ifExp (pt_cmpR op_eq (pv 1) pe_int (nomark _)) (pe_methX (pv 0) cl_B m_sleep F_sleep tk hr (by decide) b_sleep (pa_cons (pv 2) pa_nil)) (pe_meth0 (pe_xs c_plain tk hr (by decide) (by rfl) (pa_cons (pv 2) pa_nil)) cl_B m_lengths F_lengths (hr.mono (by decide)) b_lengths .nil pass0))))
      (fun a oe cls d pn hz hf => by exact (pss_one (ps_ret (pe_e c_L_refused hr (by decide) hz hf (by rfl) (pa_cons (pv 4) pa_nil))))))
      (pss_one (ps_ret (pe_tup (pa_cons pe_str (pa_cons (pv 3) pa_nil)))))), ?_⟩
    obtain ⟨dx, tx, hx, _⟩ := id bx
    rcases h2 with ⟨rfl, q1, q2⟩ | ⟨rfl, q1, q2⟩
    · refine ⟨_, rfl, rfl, _, rfl, iteT ?_⟩
      refine ⟨.ref x, rfl, x, dx, _, rfl, hx, rfl, v, rfl, b, x, ns, v, d, rfl, bx, Dv, fun m n ed hn H1 s1 => ?_, fun hd e H1 s1 ne1 he => ⟨true, S.ex, fun _ a na => ?_, fun q => Bool.noConfusion q⟩⟩
      · refine ⟨_, rfl, by show 2 ≤ sizeLine; decide, fun p np => ?_⟩
        exact q1 m n ed hn p _ (s1.trans (same_new np)) upd_same
      · refine ⟨.ref a, rfl, e, rfl, rfl, rfl, he, fun p H2 s2 hp => ?_⟩
        exact q2 hd p H2 (s1.trans s2) hp
    · refine ⟨_, rfl, rfl, _, rfl, iteF ?_⟩
      refine ⟨v, rfl, b, v, d, rfl, Dv, fun m ed m1 m2 y H1 ny s1 by1 => ?_, fun hd e H1 s1 ne1 he => ⟨true, S.ex, fun _ a na => ?_, fun q => Bool.noConfusion q⟩⟩
      · obtain ⟨dy, ty, hy, _⟩ := id by1
        refine ⟨y, dy, _, rfl, hy, rfl, y, rows m, rfl, by1, fun l nl => ?_⟩
        refine ⟨_, rfl, by show 2 ≤ sizeLine; decide, fun p np => ?_⟩
        exact q1 m ed m1 m2 p l _ (s1.trans ((same_new nl).trans (same_new np))) upd_same (by rw [upd_ne (ne_of_none upd_same np)]; exact upd_same)
      · refine ⟨.ref a, rfl, e, rfl, rfl, rfl, he, fun p H2 s2 hp => ?_⟩
        exact q2 hd p H2 (s1.trans s2) hp
end
end Kk

set_option maxHeartbeats 4000000
namespace Kk
open PySem PySem.Spec PyProof.Rows L2 Lb
abbrev st_L_sleeps : Stmt := topS 27
abbrev N_L_sleeps : List Str := ["_law_bag_here", "_law_book", "_law_some", "_law_odd_here", "_law_many", "_law_due", "_law_k"]
abbrev P_L_sleeps : List Str := ["_law_bag_here", "_law_book", "_law_some"]
theorem sc_L_sleeps : FnScope N_L_sleeps P_L_sleeps (defScope st_L_sleeps) := ⟨rfl, rfl, rfl, by decide +kernel, rfl, by decide +kernel, by decide +kernel⟩
theorem BookAt.kp {C : Addr} {H H' : Hp} {x b c : Addr} {ns : List Int} (bk : BookAt C H x ns) (G : Bag H b c) (k : Kp b H H') : BookAt C H' x ns := by
  obtain ⟨dx, t, e1, e2⟩ := bk
  obtain ⟨_, _, _, _, e, _⟩ := G.ex
  refine ⟨dx, t, k x _ (fun z => ?_) e1, k t _ (fun z => ?_) e2⟩
  · rw [z, e] at e1
    cases e1
  · rw [z, e] at e2
    cases e2
theorem eqv_same (ns : List Int) : PyData.eqv (.list (ns.map PyData.int)) (.list (ns.map PyData.int)) = true := by
  simp only [PyData.eqv, eqv_ints, decide_true]
theorem cmpT {a : Str} {p q : Prop} (h : q) : if (!decide (V.str a = V.str a)) = true then p else q := by
  rw [decide_eq_true rfl]
  exact iteF h
theorem rows_step (i : Nat) : rows (i + 1) = rows i ++ [0 + (i : Int) + 1] := by
  unfold rows
  rw [List.range_succ, List.map_append]
  congr 1
  show [(1 : Int) + (i : Int)] = _
  rw [show (1 : Int) + (i : Int) = 0 + (i : Int) + 1 by omega]
theorem shows_told {ms : List Int} (h : ∀ n ∈ ms, n.natAbs ≤ 10 ^ 30) (l : ms.length ≤ 40) : Shows (.tuple [.str (Str.ofString "told"), .list (ms.map PyData.int)]) := by
  have S := shows_ints h (by omega)
  have pt : Part (.str (Str.ofString "told")) := part_str ⟨by decide +kernel, by decide +kernel⟩ (by decide +kernel)
  have bl : (PyData.list (ms.map PyData.int)).shown.length ≤ 400100 := by
    have h1 := piled_le (m := 10000) (shownAll_mem (ds := ms.map PyData.int) fun d hd => by
      obtain ⟨n, hn, rfl⟩ := List.mem_map.mp hd
      exact (part_int (log_ok (h n hn))).len)
    rw [shownAll_len, List.length_map] at h1
    have h2 := listText_le (PyData.shownAll (ms.map PyData.int))
    have h3 : ms.length * (10000 + 2) ≤ 40 * 10002 := Nat.mul_le_mul l (Nat.le_refl _)
    simp only [PyData.shown]
    omega
  refine ⟨?_, ?_, ?_, ?_⟩
  · have := S.sh
    simp only [PyData.showable, PyData.showableAll, Bool.true_and, Bool.and_true] at this ⊢
    exact this
  · simp only [topOk, List.all_cons, List.all_nil, itemOk, PyData.hasDict, nodict_ints]
    rfl
  · have := S.dep
    have h4 := (lay_ints ms).2
    simp only [PyData.depth, PyData.depthAll, h4]
    decide
  · have h5 := tupleText_le (PyData.shownAll [.str (Str.ofString "told"), .list (ms.map PyData.int)])
    have h6 := pt.len
    simp only [PyData.shownAll, piled_cons, piled_nil] at h5
    simp only [PyData.shown, PyData.shownAll] at h5 h6 bl ⊢
    omega
theorem tup_ne {H : Hp} {b c p : Addr} {xs : List V} (G : Bag H b c) (h : H p = some (.tup xs)) : p ≠ b := fun z => by
  obtain ⟨_, _, _, _, e, _⟩ := G.ex
  rw [z, e] at h
  cases h
theorem lst_ne {H : Hp} {b c p : Addr} {ns : List Int} (G : Bag H b c) (h : H p = some (.lst (ns.map V.int))) : p ≠ b := fun z => by
  obtain ⟨_, _, _, _, e, _⟩ := G.ex
  rw [z, e] at h
  injection h with h
  injection h with h
  have h2 := congrArg (fun l : List V => l[3]?) h
  simp only [List.getElem?_map] at h2
  cases q : ns[3]? with
  | none => rw [q] at h2; simp at h2
  | some n => rw [q] at h2; simp at h2
theorem dat_pair {b : Addr} {H : Hp} {p : Addr} {z : Str} {v : V} {d : PyData} (ne : p ≠ b) (h : H p = some (.tup [.str z, v])) (D : Dat b H d v) : Dat b H (.tuple [.str z, d]) (.ref p) := dat_tup ne h (dats_cons (dat_text z) (dats_cons D dats_nil))
theorem shows_pair {z : Str} {n : Int} (hz : textOk z) (l : z.length ≤ 900) (h : n.natAbs ≤ 10 ^ 30) : Shows (.tuple [.str z, .int n]) := shows_tuple (fun d hd => by
  simp only [List.mem_cons, List.not_mem_nil, or_false] at hd
  rcases hd with rfl | rfl
  · exact part_str hz l
  · exact part_int (log_ok h)) (by show 2 ≤ 90; decide)
theorem shows_wrong : Shows (.tuple [.str (Str.ofString "wrong"), .int 0]) := shows_pair ⟨by decide +kernel, by decide +kernel⟩ (by decide +kernel) (by decide)
theorem shows_told1 {n : Int} (h : n.natAbs ≤ 10 ^ 30) : Shows (.tuple [.str (Str.ofString "told"), .int n]) := shows_pair ⟨by decide +kernel, by decide +kernel⟩ (by decide +kernel) h
theorem rows_small {m : Nat} (h : m ≤ 40) : ∀ n ∈ rows m, n.natAbs ≤ 10 ^ 30 := fun n hn => by
  have := rows_in (Nat.le_succ_of_le h) n hn
  have e : (10 : Nat) ^ 9 ≤ 10 ^ 30 := by decide
  omega
theorem ok_small {ns : List Int} (ok : okN ns) : ∀ n ∈ ns, n.natAbs ≤ 10 ^ 30 := fun n hn => by
  have := ok.2.2 n hn
  have e : (10 : Nat) ^ 9 ≤ 10 ^ 30 := by decide
  omega
theorem within_at {ns : List Int} {m : Nat} {n : Int} (h : ns[m]? = some n) : within 1 (ns.length : Int) (.int ((m : Int) + 1)) = true := by
  have lt : m < ns.length := (List.getElem?_eq_some_iff.mp h).1
  have e1 : (1 : Int) ≤ (m : Int) + 1 := by omega
  have e2 : (m : Int) + 1 ≤ (ns.length : Int) := by omega
  simp only [within, decide_eq_true e1, decide_eq_true e2, Bool.true_and]
def Due0 (ns : List Int) (d : PyData) (H : Hp) (p : Addr) : Prop := (∃ (m : Nat) (n : Int), d = .int ((m : Int) + 1) ∧ ns[m]? = some n ∧ H p = some (.tup [.str (Str.ofString "told"), .int n])) ∨ (within 1 (ns.length : Int) d = false ∧ H p = some (.tup [.str (Str.ofString "wrong"), .int 0]))
def Due1 (d : PyData) (H : Hp) (p : Addr) : Prop := (∃ (m : Nat) (l : Addr), d = .int (m : Int) ∧ 1 ≤ m ∧ m ≤ 40 ∧ H p = some (.tup [.str (Str.ofString "told"), .ref l]) ∧ H l = some (.lst ((rows m).map V.int))) ∨ (within 1 40 d = false ∧ H p = some (.tup [.str (Str.ofString "wrong"), .int 0]))
def spSleeps (C : Addr) : Sp := fun vs H Q _ => ∃ (b c x l : Addr) (ns : List Int), vs = [.ref b, .ref x, .ref l] ∧ Bag H b c ∧ BookAt C H x ns ∧ H l = some (.lst (ns.map V.int)) ∧ okN ns ∧ ∀ H', Bag H' b c → Kp b H H' → Q (.bl true) H'
section
variable {P : Program} {w : World} {K : PySem.W.Frag} {mg : Str → Option Value} {base : Heap} {C : Addr}
theorem ok_sleeps {f : Addr} {fd : FuncData} (F : Fun K "_law_sleeps" "_law_sleeps" st_L_sleeps f fd) (B : BltM mg) (c_L_take : Cal P w K mg base 1 "_law_take" spTake) (c_L_odd : Cal P w K mg base 2 "_law_odd" spOdd) (c_L_whole : Cal P w K mg base 1 "_law_whole" spW) (c_L_told : Cal P w K mg base 8 "_law_told" (spTold C)) : FnG P w K mg base 9 f fd P_L_sleeps (spSleeps C) := by
  refine fnG_of F sc_L_sleeps (fun vs H Q E h => ?_) (fun cdv A outer s H vs Q E noG hr h => ?_)
  · obtain ⟨b, c, x, l, ns, rfl, _⟩ := h
    rfl
  · obtain ⟨b, c, x, l, ns, rfl, G, bk, hl, ok, q⟩ := h
    refine ⟨_, (pss_cons (ps_set (i := 3) sc_L_sleeps.nd rfl (Or.inl rfl) (pe_lst (pa_cons pe_int (pa_cons (pe_callB call_len (by rfl) B.len (by decide +kernel) (pa_cons (pv 2) pa_nil)) (pa_cons (pe_op op_add (pe_callB call_len (by rfl) B.len (by decide +kernel) (pa_cons (pv 2) pa_nil)) pe_int) (pa_cons pe_int (pa_cons pe_int (pa_cons (pe_un un_neg pe_int) (pa_cons (pe_n c_L_odd hr (by decide) (by rfl) (pa_cons (pv 0) pa_nil)) (pa_cons (pe_n c_L_odd hr (by decide) (by rfl) (pa_cons (pv 0) pa_nil)) pa_nil))))))))))
      (pss_cons (ps_for PassesOwn.never rfl (pi_list (pe_op op_cat (pe_lst (pa_cons (pe_op op_add pe_int (pe_n c_L_take hr (by decide) (by rfl) (pa_cons (pv 0) (pa_cons (pe_callB call_len (by rfl) B.len (by decide +kernel) (pa_cons (pv 2) pa_nil)) pa_nil)))) (pa_cons (pe_op op_add pe_int (pe_n c_L_take hr (by decide) (by rfl) (pa_cons (pv 0) (pa_cons pe_int pa_nil)))) pa_nil))) (pv 3))) (pg_name (i := 4) sc_L_sleeps.nd rfl (Or.inl rfl)) (Evl.pss_cut (ps_set (i := 5) sc_L_sleeps.nd rfl (Or.inl rfl) (pe_ifExp (pt_val (pe_n c_L_whole hr (by decide) (by rfl) (pa_cons (pv 4) (pa_cons pe_int (pa_cons (pe_callB call_len (by rfl) B.len (by decide +kernel) (pa_cons (pv 2) pa_nil)) pa_nil))))) (pe_tup (pa_cons pe_str (pa_cons (pe_ix ix_list (pv 2) (pe_op op_sub (pv 4) pe_int) (fun _ _ => rfl)) pa_nil))) (pe_tup (pa_cons pe_str (pa_cons pe_int pa_nil)))))
      (Evl.pss_cut (ps_if (pt_cmpR op_ne (pe_callB (call_repr noG hr) (by rfl) B.repr_ (by decide +kernel) (pa_cons (pe_n c_L_told hr (by decide) (by rfl) (pa_cons (pv 1) (pa_cons pe_int (pa_cons (pv 4) pa_nil)))) pa_nil)) (pe_callB (call_repr noG hr) (by rfl) B.repr_ (by decide +kernel) (pa_cons (pv 5) pa_nil)) (nomark _)) (pss_one (ps_ret pe_bl)) pss_nil)
      (Evl.pss_cut (ps_set (i := 5) sc_L_sleeps.nd rfl (Or.inl rfl) (pe_ifExp (pt_val (pe_n c_L_whole hr (by decide) (by rfl) (pa_cons (pv 4) (pa_cons pe_int (pa_cons pe_int pa_nil))))) (pe_tup (pa_cons pe_str (pa_cons (pe_lc (own := [("_law_k", 6)]) (g := gName 6) (tt := tYes) rfl sc_L_sleeps.nd (pi_range1 (by rfl) B.range_ (pa_cons (pv 4) pa_nil)) (blkOk_by (N := N_L_sleeps) (sc := defScope st_L_sleeps) (by decide +kernel)) (fun _ _ _ _ _ => pg_name (i := 6) sc_L_sleeps.nd rfl (Or.inl rfl)) (fun _ _ _ _ _ => pts_nil) (fun _ _ _ _ _ => (pe_op op_add (pv 6) pe_int))) pa_nil))) (pe_tup (pa_cons pe_str (pa_cons pe_int pa_nil)))))
      (pss_one (ps_if (pt_cmpR op_ne (pe_callB (call_repr noG hr) (by rfl) B.repr_ (by decide +kernel) (pa_cons (pe_n c_L_told hr (by decide) (by rfl) (pa_cons (pv 1) (pa_cons pe_int (pa_cons (pv 4) pa_nil)))) pa_nil)) (pe_callB (call_repr noG hr) (by rfl) B.repr_ (by decide +kernel) (pa_cons (pv 5) pa_nil)) (nomark _)) (pss_one (ps_ret pe_bl)) pss_nil))))))
      (pss_one (ps_ret pe_bl)))), ?_⟩
    have lb := lst_ne G hl
    obtain ⟨n1, n40, nin⟩ := id ok
    have lenV : (ns.map V.int).length = ns.length := List.length_map _
    refine ⟨.ref l, rfl, .ref l, _, rfl, .inl ⟨_, SqL.of hl, rfl⟩, .ref l, rfl, .ref l, _, rfl, .inl ⟨_, SqL.of hl, rfl⟩, _, 1, rfl, rfl, _, rfl, ?_⟩
    refine ⟨.ref b, rfl, b, c, rfl, G, fun v1 d1 H1 D1 m1 G1 k1 => ?_⟩
    refine ⟨.ref b, rfl, b, c, rfl, G1, fun v2 d2 H2 D2 m2 G2 k2 => ⟨by show 8 ≤ sizeLine; decide, fun p np => ?_⟩⟩
    have hl2 := k2 l _ lb (k1 l _ lb hl)
    have pb := G2.ne_new np
    have hl2n := same_new (o := .lst [.int 0, .int ((ns.map V.int).length : Int), .int (((ns.map V.int).length : Int) + 1), .int 40, .int 41, .int (-1), v1, v2]) np _ _ hl2
    refine ⟨.ref b, rfl, .ref l, rfl, .ref l, _, rfl, .inl ⟨_, SqL.of hl2n, rfl⟩, b, c, _, rfl, G2.new np, by omega, Int.le_trans (show _ ≤ (40 : Int) by omega) (by decide), fun a1 H3 e1 e2 G3 k3 => ⟨1, a1, rfl, rfl, ?_⟩⟩
    refine ⟨.ref b, rfl, b, c, 40, rfl, G3, by decide, by decide, fun a2 H4 e3 e4 G4 k4 => ⟨1, a2, rfl, rfl, by show 2 ≤ sizeLine; decide, fun r nr => ?_⟩⟩
    have hp4 : H4 p = some (.lst [.int 0, .int ((ns.map V.int).length : Int), .int (((ns.map V.int).length : Int) + 1), .int 40, .int 41, .int (-1), v1, v2]) := by
      rw [k4 p pb, k3 p pb]
      exact upd_same
    refine ⟨.ref p, rfl, r, p, _, _, rfl, rfl, upd_same, same_new nr _ _ hp4, by show 2 + 8 ≤ sizeLine; decide, fun t nt => ?_⟩
    have kAll : Kp b H H4 := k1.trans (k2.trans ((Kp.new np).trans ((kp_of k3).trans (kp_of k4))))
    have sT : Same H4 _ := (same_new nr).trans (same_new (o := .lst [.int (1 + a1), .int (1 + a2), .int 0, .int ((ns.map V.int).length : Int), .int (((ns.map V.int).length : Int) + 1), .int 40, .int 41, .int (-1), v1, v2]) nt)
    have GT := G4.same sT
    have bkT := (bk.kp G kAll).same sT
    have hlT := sT _ _ (kAll l _ lb hl)
    have k24 : Kp b H2 H4 := (Kp.new np).trans ((kp_of k3).trans (kp_of k4))
    have dsT := dats_cons (dat_num (1 + a1)) (dats_cons (dat_num (1 + a2)) (dats_cons (dat_num 0) (dats_cons (dat_num ((ns.map V.int).length : Int)) (dats_cons (dat_num (((ns.map V.int).length : Int) + 1)) (dats_cons (dat_num 40) (dats_cons (dat_num 41) (dats_cons (dat_num (-1)) (dats_cons ((D1.mono (k2.trans k24)).same sT) (dats_cons ((D2.mono k24).same sT) dats_nil)))))))))
    refine ⟨t, rfl, ⟨_, SqL.of upd_same⟩, for_list (K := K) (a := t) (fun i σ' H' => (∃ o4 o5 o6, σ' = [some (.ref b), some (.ref x), some (.ref l), some (.ref p), o4, o5, o6]) ∧ Same _ H') ⟨⟨none, none, none, rfl⟩, Same.refl _⟩ (fun i σ' H' _ pv => SqL.of (pv.2 _ _ upd_same)) ?_ ?_⟩
    · rintro i y σ' H5 hi ⟨⟨o4, o5, o6, rfl⟩, s5⟩
      obtain ⟨d, hd, Dy⟩ := dsT.get hi
      have hl5 := s5 _ _ hlT
      have bk5 := bkT.same s5
      have G5 := GT.same s5
      have Dy5 := Dy.same s5
      refine ⟨fun σ' H' => ∃ p1 o6, σ' = [some (.ref b), some (.ref x), some (.ref l), some (.ref p), some y, some (.ref p1), o6] ∧ Same H5 H' ∧ Due0 ns d H' p1, ?_, ?_⟩
      · refine ⟨y, rfl, .ref l, rfl, .ref l, _, rfl, .inl ⟨_, SqL.of hl5, rfl⟩, b, y, d, 1, _, rfl, Dy5, fun H6 s6 => ⟨_, rfl, ?_⟩⟩
        rw [List.length_map]
        cases hw : within 1 (ns.length : Int) d with
        | false => exact iteF ⟨by show 2 ≤ sizeLine; decide, fun p1 np1 => ⟨p1, _, rfl, s6.trans (same_new np1), .inr ⟨hw, upd_same⟩⟩⟩
        | true =>
          obtain ⟨i0, rfl, i1, i2⟩ := within_int hw
          simp only [Dat] at Dy5
          subst Dy5
          obtain ⟨m, rfl⟩ : ∃ m : Nat, i0 = (m : Int) + 1 := ⟨(i0 - 1).toNat, by omega⟩
          have lt : m < ns.length := by omega
          refine iteT ⟨.ref l, rfl, _, rfl, _, 1, rfl, rfl, l, _, _, .int ns[m], rfl, rfl, SqL.of (s6 _ _ hl5), at_of (j := m) (by omega) ?_, by show 2 ≤ sizeLine; decide, fun p1 np1 => ⟨p1, _, rfl, s6.trans (same_new np1), .inl ⟨m, _, rfl, List.getElem?_eq_getElem lt, upd_same⟩⟩⟩
          rw [List.getElem?_map, List.getElem?_eq_getElem lt]
          rfl
      rintro σ' H6 ⟨p1, o6', rfl, s6, du⟩
      refine ⟨fun σ' H' => ∃ o5 o6, σ' = [some (.ref b), some (.ref x), some (.ref l), some (.ref p), some y, o5, o6] ∧ Same H5 H', ?_, ?_⟩
      · refine ⟨.ref x, rfl, y, rfl, b, x, ns, y, d, 0, rfl, bk5.same s6, Dy5.same s6, .inl ⟨rfl, fun m n ed hn p2 H7 s7 hp2 => ?_, fun hw p2 H7 s7 hp2 => ?_⟩⟩
        · have G7 := (G5.same s6).same s7
          have nb := ok_small ok n (List.mem_of_getElem? hn)
          have hp1 : H6 p1 = some (.tup [.str (Str.ofString "told"), .int n]) := by
            rcases du with ⟨m', n', ed', hn', h⟩ | ⟨hw, h⟩
            · rw [ed] at ed'
              injection ed' with em
              have em2 : m = m' := by omega
              subst em2
              rw [hn] at hn'
              cases hn'
              exact h
            · rw [ed, within_at hn] at hw
              cases hw
          exact ⟨b, _, _, rfl, dat_pair (tup_ne G7 hp2) hp2 (dat_num n), shows_told1 nb, .ref p1, rfl, b, _, _, rfl, dat_pair (tup_ne G7 (s7 _ _ hp1)) (s7 _ _ hp1) (dat_num n), shows_told1 nb, rfl, _, rfl, cmpT ⟨_, _, rfl, s6.trans s7⟩⟩
        · have G7 := (G5.same s6).same s7
          have hp1 : H6 p1 = some (.tup [.str (Str.ofString "wrong"), .int 0]) := by
            rcases du with ⟨m', n', ed', hn', h⟩ | ⟨_, h⟩
            · rw [ed', within_at hn'] at hw
              cases hw
            · exact h
          exact ⟨b, _, _, rfl, dat_pair (tup_ne G7 hp2) hp2 (dat_num 0), shows_wrong, .ref p1, rfl, b, _, _, rfl, dat_pair (tup_ne G7 (s7 _ _ hp1)) (s7 _ _ hp1) (dat_num 0), shows_wrong, rfl, _, rfl, cmpT ⟨_, _, rfl, s6.trans s7⟩⟩
      rintro σ' H8 ⟨o5', o6'', rfl, s8⟩
      have G8 := G5.same s8
      have Dy8 := Dy5.same s8
      refine ⟨fun σ' H' => ∃ p1 o6, σ' = [some (.ref b), some (.ref x), some (.ref l), some (.ref p), some y, some (.ref p1), o6] ∧ Same H8 H' ∧ Due1 d H' p1, ?_, ?_⟩
      · refine ⟨y, rfl, b, y, d, 1, 40, rfl, Dy8, fun H9 s9 => ⟨_, rfl, ?_⟩⟩
        cases hw : within 1 40 d with
        | false => exact iteF ⟨by show 2 ≤ sizeLine; decide, fun p1 np1 => ⟨p1, _, rfl, s9.trans (same_new np1), .inr ⟨hw, upd_same⟩⟩⟩
        | true =>
          obtain ⟨i0, rfl, i1, i2⟩ := within_int hw
          simp only [Dat] at Dy8
          subst Dy8
          obtain ⟨m, rfl⟩ : ∃ m : Nat, i0 = (m : Int) := ⟨i0.toNat, by omega⟩
          refine iteT ⟨_, rfl, (m : Int), rfl, by omega, by omega, fun D hD => lc_range (lo := 0) (n := (m : Int).toNat) (fun i H' => Lb.Mk H9 D ((rows i).map V.int) H') (Lb.Mk.start hD) ?_ ?_⟩
          · intro i H' hi M
            refine ⟨rfl, _, rfl, _, 1, rfl, rfl, _, M.at_, sz_lo (by rw [List.length_map, rows_len]; omega), ?_⟩
            rw [rows_step, List.map_append]
            exact M.next (Same.refl _)
          · intro H' M
            rw [Int.toNat_natCast] at M
            refine ⟨by show 2 ≤ sizeLine; decide, fun p1 np1 => ⟨p1, _, rfl, s9.trans (M.same.trans (same_new np1)), .inl ⟨m, D, rfl, by omega, by omega, upd_same, same_new np1 _ _ M.at_⟩⟩⟩
      rintro σ' H9 ⟨p1, o7, rfl, s9, du⟩
      refine ⟨.ref x, rfl, y, rfl, b, x, ns, y, d, 1, rfl, (bk5.same s8).same s9, Dy8.same s9, .inr ⟨rfl, fun m ed k1 k2 p2 l2 H10 s10 hp2 hl2' => ?_, fun hw p2 H10 s10 hp2 => ?_⟩⟩
      · have G10 := (G8.same s9).same s10
        obtain ⟨l1, hp1, hl1⟩ : ∃ l1, H9 p1 = some (.tup [.str (Str.ofString "told"), .ref l1]) ∧ H9 l1 = some (.lst ((rows m).map V.int)) := by
          rcases du with ⟨m', l', ed', _, _, h, h'⟩ | ⟨hw, h⟩
          · rw [ed] at ed'
            injection ed' with em
            have em2 : m = m' := by omega
            subst em2
            exact ⟨l', h, h'⟩
          · rw [ed] at hw
            have e1 : (1 : Int) ≤ (m : Int) := by omega
            have e2 : (m : Int) ≤ 40 := by omega
            simp only [within, decide_eq_true e1, decide_eq_true e2, Bool.true_and] at hw
            cases hw
        have sh := shows_told (rows_small k2) (by rw [rows_len]; exact k2)
        have hl1' := s10 _ _ hl1
        have hp1' := s10 _ _ hp1
        exact ⟨b, _, _, rfl, dat_pair (tup_ne G10 hp2) hp2 (dat_lst (lst_ne G10 hl2') hl2' (dats_ints _)), sh, .ref p1, rfl, b, _, _, rfl, dat_pair (tup_ne G10 hp1') hp1' (dat_lst (lst_ne G10 hl1') hl1' (dats_ints _)), sh, rfl, _, rfl, cmpT ⟨⟨_, _, _, rfl⟩, s5.trans (s8.trans (s9.trans s10))⟩⟩
      · have G10 := (G8.same s9).same s10
        have hp1 : H9 p1 = some (.tup [.str (Str.ofString "wrong"), .int 0]) := by
          rcases du with ⟨m', l', ed', k1, k2, h, h'⟩ | ⟨_, h⟩
          · rw [ed'] at hw
            have e1 : (1 : Int) ≤ (m' : Int) := by omega
            have e2 : (m' : Int) ≤ 40 := by omega
            simp only [within, decide_eq_true e1, decide_eq_true e2, Bool.true_and] at hw
            cases hw
          · exact h
        exact ⟨b, _, _, rfl, dat_pair (tup_ne G10 hp2) hp2 (dat_num 0), shows_wrong, .ref p1, rfl, b, _, _, rfl, dat_pair (tup_ne G10 (s10 _ _ hp1)) (s10 _ _ hp1) (dat_num 0), shows_wrong, rfl, _, rfl, cmpT ⟨⟨_, _, _, rfl⟩, s5.trans (s8.trans (s9.trans s10))⟩⟩
    · rintro σ' H5 ⟨_, s5⟩
      exact q _ (GT.same s5) (kAll.trans (.of_same (sT.trans s5)))
end
end Kk

set_option maxHeartbeats 4000000
namespace Kk
open PySem PySem.Spec PyProof.Rows L2 Lb
abbrev st_L_right : Stmt := topS 28
abbrev N_L_right : List Str := ["_law_bag_here", "_law_book", "_law_some", "_law_turn", "_law_found", "_law_others", "_law_at", "_law_more", "_law_one"]
abbrev P_L_right : List Str := ["_law_bag_here", "_law_book", "_law_some"]
theorem sc_L_right : FnScope N_L_right P_L_right (defScope st_L_right) := ⟨rfl, rfl, rfl, by decide +kernel, rfl, by decide +kernel, by decide +kernel⟩
theorem nf_self {K : PySem.W.Frag} {C : Addr} : PySem.W.notFirst K C (.ref C) = true := by
  unfold PySem.W.notFirst
  simp
/-- lists of numbers, none of them ns -/
def More (ns : List Int) (H : Hp) (vs : List V) : Prop := ∀ v ∈ vs, ∃ (a : Addr) (ms : List Int), v = .ref a ∧ H a = some (.lst (ms.map V.int)) ∧ ms ≠ ns ∧ ms.length ≤ 50
theorem More.same {ns : List Int} {H H' : Hp} {vs : List V} (m : More ns H vs) (s : Same H H') : More ns H' vs := fun v hv => by
  obtain ⟨a, ms, e, h, r⟩ := m v hv
  exact ⟨a, ms, e, s _ _ h, r⟩
theorem more_nil {ns : List Int} {H : Hp} : More ns H [] := fun _ z => nomatch z
theorem more_cons {ns ms : List Int} {H : Hp} {a : Addr} {vs : List V} (h : H a = some (.lst (ms.map V.int))) (n : ms ≠ ns) (l : ms.length ≤ 50) (m : More ns H vs) : More ns H (.ref a :: vs) := fun v hv => by
  rcases List.mem_cons.mp hv with rfl | hv
  · exact ⟨a, ms, rfl, h, n, l⟩
  · exact m v hv
theorem more_app {ns : List Int} {H : Hp} {us vs : List V} (h : More ns H us) (k : More ns H vs) : More ns H (us ++ vs) := fun v hv => (List.mem_append.mp hv).elim (h v) (k v)
def spRight (C : Addr) : Sp := fun vs H Q _ => ∃ (b c x l : Addr) (ns : List Int), vs = [.ref b, .ref x, .ref l] ∧ Bag H b c ∧ BookAt C H x ns ∧ H l = some (.lst (ns.map V.int)) ∧ okN ns ∧ ∀ H', Bag H' b c → Kp b H H' → Q (.bl true) H'
section
variable {P : Program} {w : World} {K : PySem.W.Frag} {mg : Str → Option Value} {base : Heap} {C WR : Addr}
theorem ok_right {f : Addr} {fd : FuncData} (F : Fun K "_law_right" "_law_right" st_L_right f fd) (B : BltM mg) (T : BkC K mg C) (n_B : NeC K C) (BF : BkF P w K mg base C WR) (c_eq : Spc P w K mg base 1 C "__eq__" (spBEq C)) (c_len : Spc P w K mg base 1 C "__len__" (spBLen C)) (c_repr : SpcG P w K mg base 1 C "__repr__" (spBRepr C))
    (c_L_take : Cal P w K mg base 1 "_law_take" spTake) (c_L_is_book : Cal P w K mg base 2 "_law_is_book" (spD smallL areL)) (c_L_sleeps : CalG P w K mg base 9 "_law_sleeps" (spSleeps C)) : FnG P w K mg base 10 f fd P_L_right (spRight C) := by
  have g_Book := T.g
  have cl_B := T.cl
  obtain ⟨fB, fdB, psB, M_Book, F_Book, b_Book⟩ := BF.mak
  obtain ⟨fL, fdL, psL, m_lengths, F_lengths, b_lengths⟩ := BF.ln
  refine fnG_of F sc_L_right (fun vs H Q E h => ?_) (fun cdv A outer s H vs Q E noG hr h => ?_)
  · obtain ⟨b, c, x, l, ns, rfl, _⟩ := h
    rfl
  · obtain ⟨b, c, x, l, ns, rfl, G, bk, hl, ok, q⟩ := h
    refine ⟨_, (Evl.pss_cut (ps_for PassesOwn.never rfl (pi_range1 (by rfl) B.range_ (pa_cons pe_int pa_nil)) (pg_name (i := 3) sc_L_right.nd rfl (Or.inl rfl)) (pss_cons (ps_set (i := 4) sc_L_right.nd rfl (Or.inl rfl) (pe_meth0 (pv 1) cl_B m_lengths F_lengths (hr.mono (by decide)) b_lengths .nil pass0))
      (pss_cons (ps_if (PW.pt (pw_or (pt_cmpR op_ne (pe_callB (call_repr noG hr) (by rfl) B.repr_ (by decide +kernel) (pa_cons (pv 4) pa_nil)) (pe_callB (call_repr noG hr) (by rfl) B.repr_ (by decide +kernel) (pa_cons (pv 2) pa_nil)) (nomark _)) (pw_or (pt_cmpR op_ne (pe_callB (call_lenO c_len hr (by decide)) (by rfl) B.len (by decide +kernel) (pa_cons (pv 1) pa_nil)) (pe_callB call_len (by rfl) B.len (by decide +kernel) (pa_cons (pv 2) pa_nil)) (nomark _)) (pw_or1 (pt_cmpR op_ne (pe_callB (call_reprO c_repr noG hr (by decide)) (by rfl) B.repr_ (by decide +kernel) (pa_cons (pv 1) pa_nil)) (pe_op op_add_str (pe_op op_add_str pe_str (pe_callB (call_repr noG hr) (by rfl) B.repr_ (by decide +kernel) (pa_cons (pv 2) pa_nil))) pe_str) (nomark _)))))) (pss_one (ps_ret pe_bl)) pss_nil)
      (pss_cons (ps_expr (pe_bm0 PySem.F.plainAttrs_list PySem.F.slot_list_reverse PySem.F.type_list_reverse mt_reverse (pv 4)))
      (pss_one (ps_expr (pe_bm PySem.F.plainAttrs_list PySem.F.slot_list_append PySem.F.type_list_append mt_append (pv 4) (pa_cons pe_int pa_nil))))))))
      (Evl.pss_cut (ps_if (PW.pt (pw_or (pt_not (pt_val (pe_g c_L_sleeps noG hr (by decide) (by rfl) (pa_cons (pv 0) (pa_cons (pv 1) (pa_cons (pv 2) pa_nil)))))) (pw_or (pt_not (pt_cmpR (op_eqO c_eq hr (show 1 ≤ 9 by decide)) (pv 1) (pe_make M_Book F_Book (hr.mono (by decide)) (by rfl) g_Book b_Book .nil passX (pa_cons (pe_callTy call_list_of (by rfl) B.list_ (by decide +kernel) (pa_cons (pv 2) pa_nil)) pa_nil)) (nomark _))) (pw_or1 (pt_cmpR (op_neO c_eq n_B hr (show 1 + 1 ≤ 9 by decide)) (pv 1) (pe_make M_Book F_Book (hr.mono (by decide)) (by rfl) g_Book b_Book .nil passX (pa_cons (pe_callTy call_list_of (by rfl) B.list_ (by decide +kernel) (pa_cons (pv 2) pa_nil)) pa_nil)) (nomark _)))))) (pss_one (ps_ret pe_bl)) pss_nil)
      (pss_cons (ps_set (i := 5) sc_L_right.nd rfl (Or.inl rfl) (pe_lst (pa_cons (pv 2) (pa_cons (pe_callTy call_tuple_of (by rfl) B.tuple_ (by decide +kernel) (pa_cons (pv 2) pa_nil)) (pa_cons pe_non (pa_cons pe_int (pa_cons (pe_callB (call_reprO c_repr noG hr (by decide)) (by rfl) B.repr_ (by decide +kernel) (pa_cons (pv 1) pa_nil)) (pa_cons (pe_callB call_len (by rfl) B.len (by decide +kernel) (pa_cons (pv 2) pa_nil)) pa_nil))))))))
      (Evl.pss_cut (ps_if (pt_cmpR (op_neD (hu64_of hr)) (pe_lc (own := [("_law_one", 8)]) (g := gName 8) (tt := (tTest (tOp (rEqO K C (spBEq C) id) (tVar 1) (tVar 8)))) rfl sc_L_right.nd (pi_list (pv 5)) (blkOk_by (N := N_L_right) (sc := defScope st_L_right) (by decide +kernel)) (fun _ _ _ _ _ => pg_name (i := 8) sc_L_right.nd rfl (Or.inl rfl)) (fun _ _ _ _ _ => (by exact pts_one (pt_cmpR (op_eqO c_eq hr (show 1 ≤ 9 by decide)) (pv 1) (pv 8) (nomark _)))) (fun _ _ _ _ _ => (pv 8))) (pe_lst (pa_nil)) (nomark _)) (pss_one (ps_ret pe_bl)) pss_nil)
      (pss_cons (ps_set (i := 6) sc_L_right.nd rfl (Or.inl rfl) (pe_n c_L_take hr (by decide) (by rfl) (pa_cons (pv 0) (pa_cons (pe_callB call_len (by rfl) B.len (by decide +kernel) (pa_cons (pv 2) pa_nil)) pa_nil))))
      (Evl.pss_cut (ps_set (i := 7) sc_L_right.nd rfl (Or.inl rfl) (pe_lst (pa_cons (pe_op op_cat (pv 2) (pe_lst (pa_cons pe_int pa_nil))) (pa_cons (pe_op op_cat (pe_op op_cat (pe_slice sl_list (pv 2) po_none (po_some (pv 6))) (pe_lst (pa_cons (pe_op op_add (pe_op op_mod (pe_ix ix_list (pv 2) (pv 6) (fun _ _ => rfl)) (pe_op op_pow pe_int pe_int)) pe_int) pa_nil))) (pe_slice sl_list (pv 2) (po_some (pe_op op_add (pv 6) pe_int)) po_none)) (pa_cons (pe_op op_cat (pe_slice sl_list (pv 2) po_none (po_some (pv 6))) (pe_slice sl_list (pv 2) (po_some (pe_op op_add (pv 6) pe_int)) po_none)) pa_nil)))))
      (Evl.pss_cut (ps_set (i := 7) sc_L_right.nd rfl (Or.inl rfl) (pe_op op_cat (pv 7) (pe_lc (own := [("_law_one", 8)]) (g := gName 8) (tt := (tTest (tOp (rNeD K) (tVar 8) (tVar 2)))) rfl sc_L_right.nd (pi_list (pe_lst (pa_cons (pe_revL (pv 2)) (pa_cons (pe_op op_cat (pe_slice sl_list (pv 2) (po_some pe_int) po_none) (pe_slice sl_list (pv 2) po_none (po_some pe_int))) (pa_cons (pe_callB (cr_sortedI) (by rfl) B.sorted_ (by decide +kernel) (pa_cons (pv 2) pa_nil)) pa_nil))))) (blkOk_by (N := N_L_right) (sc := defScope st_L_right) (by decide +kernel)) (fun _ _ _ _ _ => pg_name (i := 8) sc_L_right.nd rfl (Or.inl rfl)) (fun _ _ _ _ _ => (by exact pts_one (pt_cmpR (op_neD (hu64_of hr)) (pv 8) (pv 2) (nomark _)))) (fun _ _ _ _ _ => (pv 8)))))
      (pss_one (ps_ret (pe_cmpR (op_eqD (hu64_of hr)) (pe_lc (own := [("_law_one", 8)]) (g := gName 8) (tt := (tAnd (tTest (tCall (spD smallL areL) [] E0 (tCons (tVar 8) tNil))) (tTest (tOp (rEqO K C (spBEq C) id) (tVar 1) (tMake C (spBInit C WR) [] E0 (tCons (tVar 8) tNil)))))) rfl sc_L_right.nd (pi_list (pv 7)) (blkOk_by (N := N_L_right) (sc := defScope st_L_right) (by decide +kernel)) (fun _ _ _ _ _ => pg_name (i := 8) sc_L_right.nd rfl (Or.inl rfl)) (fun _ _ _ _ _ => (by exact pts_one (PW.pt (pw_and (pt_val (pe_n c_L_is_book hr (by decide) (by rfl) (pa_cons (pv 8) pa_nil))) (pw_and1 (pt_cmpR (op_eqO c_eq hr (show 1 ≤ 9 by decide)) (pv 1) (pe_make M_Book F_Book (hr.mono (by decide)) (by rfl) g_Book b_Book .nil passX (pa_cons (pv 8) pa_nil)) (nomark _))))))) (fun _ _ _ _ _ => (pv 8))) (pe_lst (pa_nil)) (nomark _))))))))))), ?_⟩
    have lb := lst_ne G hl
    obtain ⟨n1, n40, nin⟩ := id ok
    have sh := shows_ints (ok_small ok) (by omega)
    have sl := sh.len
    have l0 : (Str.ofString "Book(").length = 5 := by decide +kernel
    have l1 : (Str.ofString ")").length = 1 := by decide +kernel
    refine ⟨fun σ' H' => (∃ o3 o4, σ' = [some (.ref b), some (.ref x), some (.ref l), o3, o4, none, none, none, none]) ∧ Bag H' b c ∧ Kp b H H', ?_, ?_⟩
    · refine ⟨2, rfl, by decide, by decide, for_range (n := 2) (fun i σ' H' => (∃ o3 o4, σ' = [some (.ref b), some (.ref x), some (.ref l), o3, o4, none, none, none, none]) ∧ Bag H' b c ∧ Kp b H H') ⟨⟨none, none, rfl⟩, G, Kp.refl H⟩ ?_ (fun _ _ z => z)⟩
      rintro i σ' H1 hi ⟨⟨o3, o4, rfl⟩, G1, k1⟩
      have bk1 := bk.kp G k1
      have hl1 := k1 l _ lb hl
      obtain ⟨dx, tx, hx, _⟩ := id bk1
      refine ⟨.ref x, rfl, x, dx, _, rfl, hx, rfl, x, ns, rfl, bk1, fun fl nfl => ?_⟩
      have flb := G1.ne_new nfl
      have flc := G1.nc_new nfl
      have s2 := same_new (o := .lst (ns.map V.int)) nfl
      refine ⟨.ref fl, rfl, b, _, _, rfl, dat_lst flb upd_same (dats_ints ns), sh, .ref l, rfl, b, _, _, rfl, dat_lst lb (s2 _ _ hl1) (dats_ints ns), sh, rfl, _, rfl, cmpT ?_⟩
      refine ⟨.ref x, rfl, x, dx, _, rfl, s2 _ _ hx, x, ns, rfl, bk1.same s2, ns.length, rfl, by omega, .ref l, rfl, .ref l, _, rfl, .inl ⟨_, SqL.of (s2 _ _ hl1), rfl⟩, rfl, _, rfl, ?_⟩
      rw [List.length_map, decide_eq_true rfl]
      refine iteF ⟨.ref x, rfl, x, dx, _, rfl, s2 _ _ hx, x, ns, rfl, bk1.same s2, ok, fun H3 s3 => ⟨_, rfl, .ref l, rfl, b, _, _, rfl, dat_lst lb (s3 _ _ (s2 _ _ hl1)) (dats_ints ns), sh, _, _, rfl, rfl, ?_, _, _, rfl, rfl, ?_, rfl, _, rfl, cmpT ?_⟩⟩
      · rw [l0]
        exact Nat.le_trans (show _ ≤ 2000000 by omega) (by decide)
      · rw [strLen_append, l0, l1]
        exact Nat.le_trans (show _ ≤ 2000000 by omega) (by decide)
      have hfl := s3 _ _ (upd_same (H := H1) (a := fl) (o := .lst (ns.map V.int)))
      refine ⟨.ref fl, rfl, .inl ⟨rfl, _, SqL.of hfl⟩, fl, _, rfl, rfl, hfl, ?_⟩
      refine ⟨.ref fl, rfl, .inl ⟨rfl, _, SqL.of upd_same⟩, fl, _, .int 3, rfl, rfl, upd_same, sz_lo (by rw [List.length_reverse, List.length_map]; omega), ?_⟩
      refine ⟨⟨_, _, rfl⟩, (((G1.same s2).same s3).other flb flc).other flb flc, fun y o yb e => ?_⟩
      have e1 := k1 y o yb e
      rw [upd_ne (ne_of_none e1 nfl), upd_ne (ne_of_none e1 nfl)]
      exact s3 _ _ (s2 _ _ e1)
    rintro σ' H1 ⟨⟨o3, o4, rfl⟩, G1, k1⟩
    refine ⟨fun σ' H' => (∃ o3 o4, σ' = [some (.ref b), some (.ref x), some (.ref l), o3, o4, none, none, none, none]) ∧ Bag H' b c ∧ Kp b H H', ?_, ?_⟩
    · refine ⟨.ref b, rfl, .ref x, rfl, .ref l, rfl, b, c, x, l, ns, rfl, G1, bk.kp G k1, k1 l _ lb hl, ok, fun H2 G2 k2 => ⟨_, rfl, iteF ?_⟩⟩
      have k02 := k1.trans k2
      have bk2 := bk.kp G k02
      have hl2 := k02 l _ lb hl
      refine ⟨.ref x, rfl, .ref l, rfl, l, _, rfl, .inl (SqL.of hl2), fun l2 nl2 => ?_⟩
      intro e de ne_ nde nee
      refine make_bookR upd_same ok ne_ nde nee fun H3 s3 be => ⟨rfl, ?_⟩
      have s23 := (same_new nl2).trans s3
      have bk3 := bk2.same s23
      obtain ⟨dx, tx, hx, _⟩ := id bk3
      refine ⟨x, dx, _, .ref C, rfl, hx, T.ty be, nf_self, x, .ref e, ns, rfl, bk3, .inl ⟨e, ns, rfl, be, _, rfl, _, rfl, ?_⟩⟩
      rw [decide_eq_true rfl]
      have hl3 := s23 _ _ hl2
      refine iteF ⟨.ref x, rfl, .ref l, rfl, l, _, rfl, .inl (SqL.of hl3), fun l4 nl4 => ?_⟩
      intro e4 de4 ne4 nde4 nee4
      refine make_bookR upd_same ok ne4 nde4 nee4 fun H5 s5 be5 => ⟨rfl, ?_⟩
      have s35 := (same_new nl4).trans s5
      have bk5 := bk3.same s35
      obtain ⟨dx5, tx5, hx5, _⟩ := id bk5
      obtain ⟨de5, te5, he5, _⟩ := id be5
      refine ⟨x, dx5, e4, de5, _, _, rfl, rfl, hx5, he5, x, .ref e4, ns, rfl, bk5, .inl ⟨e4, ns, rfl, be5, _, rfl, _, rfl, ?_⟩⟩
      rw [decide_eq_true rfl]
      exact iteF ⟨⟨_, _, rfl⟩, (G2.same s23).same s35, k02.trans (.of_same (s23.trans s35))⟩
    rintro σ' H2 ⟨⟨o3', o4', rfl⟩, G2, k2⟩
    have bk2 := bk.kp G k2
    have hl2 := k2 l _ lb hl
    obtain ⟨dx2, tx2, hx2, _⟩ := id bk2
    refine ⟨.ref l, rfl, .ref l, rfl, l, _, rfl, .inl ⟨SqL.of hl2, fun tp ntp => ?_⟩⟩
    have s3 := same_new (o := .tup (ns.map V.int)) ntp
    refine ⟨.ref x, rfl, x, dx2, _, rfl, s3 _ _ hx2, x, ns, rfl, bk2.same s3, ok, fun H4 s4 => ⟨_, rfl, .ref l, rfl, .ref l, _, rfl, .inl ⟨_, SqL.of (s4 _ _ (s3 _ _ hl2)), rfl⟩, by show 6 ≤ sizeLine; decide, fun ot not_ => ?_⟩⟩
    have s5 := same_new (o := .lst [.ref l, .ref tp, .non, .int 3, .str (bookText ns), .int ((ns.map V.int).length : Int)]) not_
    have s25 := s3.trans (s4.trans s5)
    have bk5 := bk2.same s25
    have hl5 := s25 _ _ hl2
    have G5 := G2.same s25
    have tpb := G2.ne_new ntp
    have ds5 := dats_cons (dat_lst lb hl5 (dats_ints ns)) (dats_cons (dat_tup tpb (s5 _ _ (s4 _ _ upd_same)) (dats_ints ns)) (dats_cons dat_none (dats_cons (dat_num 3) (dats_cons (dat_text (bookText ns)) (dats_cons (dat_num ((ns.map V.int).length : Int)) dats_nil)))))
    refine ⟨fun σ' H' => (∃ o3 o4 o5, σ' = [some (.ref b), some (.ref x), some (.ref l), o3, o4, o5, none, none, none]) ∧ Bag H' b c ∧ Kp b H H', ?_, ?_⟩
    · refine ⟨.ref ot, rfl, ot, rfl, ⟨_, SqL.of upd_same⟩, fun D hD => lc_list (K := K) (a := ot) (fun i H' => Lb.Mk _ D [] H') (Lb.Mk.start hD) (fun i H' _ M => SqL.of (M.same _ _ upd_same)) ?_ ?_⟩
      · intro i y H' hi M
        obtain ⟨d, hd, Dy⟩ := ds5.get hi
        have bk6 := bk5.same M.same
        obtain ⟨dx6, tx6, hx6, _⟩ := id bk6
        exact ⟨rfl, .ref x, rfl, y, rfl, x, dx6, _, _, rfl, hx6, ty_of (Dy.same M.same), notFirst_of d, x, y, ns, rfl, bk6, .inr ⟨b, d, Dy.same M.same, _, rfl, _, rfl, iteF M⟩⟩
      · intro H6 M
        refine ⟨by show 0 ≤ sizeLine; decide, fun e ne_ => ⟨.list (([] : List Int).map PyData.int), .list (([] : List Int).map PyData.int), .lst (SqL.of (same_new ne_ _ _ M.at_)) (dp_ints []), .lst (SqL.of upd_same) (dp_ints []), shaped_intsL [], shaped_intsL [], _, rfl, ?_⟩⟩
        rw [eqv_same]
        exact iteF ⟨⟨_, _, _, rfl⟩, (G5.same M.same).new ne_, k2.trans (.of_same (s25.trans (M.same.trans (same_new ne_))))⟩
    rintro σ' H6 ⟨⟨o3, o4, o5, rfl⟩, G6, k6⟩
    have hl6 := k6 l _ lb hl
    refine ⟨.ref b, rfl, .ref l, rfl, .ref l, _, rfl, .inl ⟨_, SqL.of hl6, rfl⟩, b, c, _, rfl, G6, by rw [List.length_map]; omega, by rw [List.length_map]; exact Int.le_trans (show (ns.length : Int) ≤ 40 by omega) (by decide), fun at0 H7 x0 x1 G7 k7 => ?_⟩
    rw [List.length_map] at x1
    have k07 := k6.trans (kp_of k7)
    have bk7 := bk.kp G k07
    have hl7 := k07 l _ lb hl
    refine ⟨fun σ' H' => ∃ (o3 o4 o5 : Option V) (mo : Addr) (vs : List V), σ' = [some (.ref b), some (.ref x), some (.ref l), o3, o4, o5, some (.int at0), some (.ref mo), none] ∧ Same H7 H' ∧ H' mo = some (.lst vs) ∧ vs.length ≤ 3 ∧ More ns H' vs, ?_, ?_⟩
    · have lt : at0.toNat < ns.length := by omega
      have hn : ns[at0.toNat]? = some ns[at0.toNat] := List.getElem?_eq_getElem lt
      have hn2 := nin _ (List.getElem_mem lt)
      refine ⟨.ref l, rfl, by show 1 ≤ sizeLine; decide, fun e1 ne1 => ?_⟩
      have s_e1 := same_new (o := .lst [.int 1]) ne1
      refine ⟨l, e1, _, _, rfl, rfl, s_e1 _ _ hl7, upd_same, sz_ok (by show (ns.map V.int).length + 1 ≤ _; rw [List.length_map]; omega), fun m1 nm1 => ?_⟩
      have s_m1 := same_new (o := .lst (ns.map V.int ++ [.int 1])) nm1
      refine ⟨.ref l, rfl, .int at0, rfl, _, rfl, l, _, rfl, SqL.of (s_m1 _ _ (s_e1 _ _ hl7)), fun p1 np1 => ?_⟩
      rw [cut_to x0]
      have s_p1 := same_new (o := .lst ((ns.map V.int).take at0.toNat)) np1
      have hlp1 := s_p1 _ _ (s_m1 _ _ (s_e1 _ _ hl7))
      refine ⟨.ref l, rfl, .int at0, rfl, l, _, at0, .int ns[at0.toNat], rfl, rfl, SqL.of hlp1, atI_int x0 (by rw [List.getElem?_map, hn]; rfl), 10, 9, rfl, rfl, ⟨by decide, by decide, by decide⟩, _, _, rfl, rfl, (by show (0 : Int) < 10 ^ 9; decide), _, 1, rfl, rfl, by show 1 ≤ sizeLine; decide, fun p2 np2 => ?_⟩
      have s_p2 := same_new (o := .lst [.int (ns[at0.toNat] % 10 ^ 9 + 1)]) np2
      have tl : ((ns.map V.int).take at0.toNat).length ≤ 40 := by rw [List.length_take, List.length_map]; omega
      have dl : ((ns.map V.int).drop (at0 + 1).toNat).length ≤ 40 := by rw [List.length_drop, List.length_map]; omega
      refine ⟨p1, p2, _, _, rfl, rfl, s_p2 _ _ upd_same, upd_same, sz_ok (by show _ + 1 ≤ _; omega), fun p3 np3 => ?_⟩
      have s_p3 := same_new (o := .lst ((ns.map V.int).take at0.toNat ++ [.int (ns[at0.toNat] % 10 ^ 9 + 1)])) np3
      have hlp3 := s_p3 _ _ (s_p2 _ _ hlp1)
      refine ⟨.ref l, rfl, .int at0, rfl, at0, 1, rfl, rfl, _, rfl, l, _, rfl, SqL.of hlp3, fun p4 np4 => ?_⟩
      rw [cut_from (by omega)]
      have s_p4 := same_new (o := .lst ((ns.map V.int).drop (at0 + 1).toNat)) np4
      refine ⟨p3, p4, _, _, rfl, rfl, s_p4 _ _ upd_same, upd_same, sz_ok (by rw [List.length_append]; show _ + 1 + _ ≤ _; omega), fun p5 np5 => ?_⟩
      have s_p5 := same_new (o := .lst ((ns.map V.int).take at0.toNat ++ [.int (ns[at0.toNat] % 10 ^ 9 + 1)] ++ (ns.map V.int).drop (at0 + 1).toNat)) np5
      have hlp5 := s_p5 _ _ (s_p4 _ _ hlp3)
      refine ⟨.ref l, rfl, .int at0, rfl, _, rfl, l, _, rfl, SqL.of hlp5, fun p6 np6 => ?_⟩
      rw [cut_to x0]
      have s_p6 := same_new (o := .lst ((ns.map V.int).take at0.toNat)) np6
      refine ⟨.ref l, rfl, .int at0, rfl, at0, 1, rfl, rfl, _, rfl, l, _, rfl, SqL.of (s_p6 _ _ hlp5), fun p7 np7 => ?_⟩
      rw [cut_from (by omega)]
      have s_p7 := same_new (o := .lst ((ns.map V.int).drop (at0 + 1).toNat)) np7
      refine ⟨p6, p7, _, _, rfl, rfl, s_p7 _ _ upd_same, upd_same, sz_ok (by omega), fun p8 np8 => ?_⟩
      have s_p8 := same_new (o := .lst ((ns.map V.int).take at0.toNat ++ (ns.map V.int).drop (at0 + 1).toNat)) np8
      refine ⟨by show 3 ≤ sizeLine; decide, fun mo nmo => ?_⟩
      have s_mo := same_new (o := .lst [.ref m1, .ref p5, .ref p8]) nmo
      have s15 := s_p1.trans (s_p2.trans (s_p3.trans (s_p4.trans s_p5)))
      have s58 := s_p6.trans (s_p7.trans s_p8)
      refine ⟨_, _, _, mo, _, rfl, s_e1.trans (s_m1.trans (s15.trans (s58.trans s_mo))), upd_same, by show 3 ≤ 3; decide, ?_⟩
      refine more_cons (ms := ns ++ [1]) ?_ ?_ ?_ (more_cons (ms := ns.take at0.toNat ++ [ns[at0.toNat] % 10 ^ 9 + 1] ++ ns.drop (at0 + 1).toNat) ?_ ?_ ?_ (more_cons (ms := ns.take at0.toNat ++ ns.drop (at0 + 1).toNat) ?_ ?_ ?_ more_nil))
      · rw [List.map_append]
        exact s_mo _ _ (s58 _ _ (s15 _ _ upd_same))
      · intro e
        have := congrArg List.length e
        rw [List.length_append] at this
        simp at this
      · rw [List.length_append]
        show ns.length + 1 ≤ 50
        omega
      · rw [List.map_append, List.map_append, List.map_take, List.map_drop]
        exact s_mo _ _ (s58 _ _ upd_same)
      · intro e
        have e2 : (ns.take at0.toNat ++ [ns[at0.toNat] % 10 ^ 9 + 1] ++ ns.drop (at0 + 1).toNat)[at0.toNat]? = ns[at0.toNat]? := by rw [e]
        rw [List.append_assoc, List.getElem?_append_right (by rw [List.length_take]; omega), List.length_take, show at0.toNat - min at0.toNat ns.length = 0 by omega, hn] at e2
        have e3 : ns[at0.toNat] % 10 ^ 9 + 1 = ns[at0.toNat] := by
          have : some (ns[at0.toNat] % 10 ^ 9 + 1) = some ns[at0.toNat] := e2
          injection this
        omega
      · rw [List.length_append, List.length_append, List.length_take, List.length_drop]
        show min _ _ + 1 + _ ≤ 50
        omega
      · rw [List.map_append, List.map_take, List.map_drop]
        exact s_mo _ _ upd_same
      · intro e
        have := congrArg List.length e
        rw [List.length_append, List.length_take, List.length_drop] at this
        omega
      · rw [List.length_append, List.length_take, List.length_drop]
        omega
    rintro σ' H8 ⟨o3, o4, o5, mo, vs, rfl, s8, hmo, vl, mv⟩
    refine ⟨fun σ' H' => ∃ (o3 o4 o5 : Option V) (mo : Addr) (vs : List V), σ' = [some (.ref b), some (.ref x), some (.ref l), o3, o4, o5, some (.int at0), some (.ref mo), none] ∧ Same H7 H' ∧ H' mo = some (.lst vs) ∧ vs.length ≤ 6 ∧ More ns H' vs, ?_, ?_⟩
    · have hl8 := s8 _ _ hl7
      refine ⟨.ref mo, rfl, .ref l, rfl, l, _, rfl, SqL.of hl8, fun r1 nr1 => ?_⟩
      have s_r1 := same_new (o := .lst (ns.map V.int).reverse) nr1
      refine ⟨.ref l, rfl, 1, rfl, l, _, rfl, SqL.of (s_r1 _ _ hl8), fun q1 nq1 => ?_⟩
      rw [cut_from (by decide)]
      have s_q1 := same_new (o := .lst ((ns.map V.int).drop (1 : Int).toNat)) nq1
      refine ⟨.ref l, rfl, 1, rfl, l, _, rfl, SqL.of (s_q1 _ _ (s_r1 _ _ hl8)), fun q2 nq2 => ?_⟩
      rw [cut_to (by decide)]
      have s_q2 := same_new (o := .lst ((ns.map V.int).take (1 : Int).toNat)) nq2
      refine ⟨q1, q2, _, _, rfl, rfl, s_q2 _ _ upd_same, upd_same, sz_ok (by rw [List.length_drop, List.length_take, List.length_map]; omega), fun q3 nq3 => ?_⟩
      have s_q3 := same_new (o := .lst ((ns.map V.int).drop (1 : Int).toNat ++ (ns.map V.int).take (1 : Int).toNat)) nq3
      have s83 := s_r1.trans (s_q1.trans (s_q2.trans s_q3))
      refine ⟨.ref l, rfl, l, ns, rfl, SqL.of (s83 _ _ hl8), fun ns' q4 perm _ nq4 => ?_⟩
      have s_q4 := same_new (o := .lst (ns'.map V.int)) nq4
      refine ⟨by show 3 ≤ sizeLine; decide, fun it nit => ?_⟩
      have s_it := same_new (o := .lst [.ref r1, .ref q3, .ref q4]) nit
      have s85 := s83.trans (s_q4.trans s_it)
      have pl := perm.length_eq
      have each : ∀ y ∈ [V.ref r1, .ref q3, .ref q4], ∃ (a : Addr) (ms : List Int), y = .ref a ∧ (upd (upd (upd (upd (upd (upd H8 r1 (.lst (ns.map V.int).reverse)) q1 (.lst ((ns.map V.int).drop (1 : Int).toNat))) q2 (.lst ((ns.map V.int).take (1 : Int).toNat))) q3 (.lst ((ns.map V.int).drop (1 : Int).toNat ++ (ns.map V.int).take (1 : Int).toNat))) q4 (.lst (ns'.map V.int))) it (.lst [.ref r1, .ref q3, .ref q4])) a = some (.lst (ms.map V.int)) ∧ ms.length ≤ 50 := by
        intro y hy
        simp only [List.mem_cons, List.not_mem_nil, or_false] at hy
        rcases hy with rfl | rfl | rfl
        · refine ⟨r1, ns.reverse, rfl, ?_, by rw [List.length_reverse]; omega⟩
          rw [List.map_reverse]
          exact s_it _ _ (s_q4 _ _ (s_q3 _ _ (s_q2 _ _ (s_q1 _ _ upd_same))))
        · refine ⟨q3, ns.drop (1 : Int).toNat ++ ns.take (1 : Int).toNat, rfl, ?_, by rw [List.length_append, List.length_drop, List.length_take]; omega⟩
          rw [List.map_append, List.map_drop, List.map_take]
          exact s_it _ _ (s_q4 _ _ upd_same)
        · exact ⟨q4, ns', rfl, s_it _ _ upd_same, by omega⟩
      have hl9 := s85 _ _ hl8
      refine ⟨it, rfl, ⟨_, SqL.of upd_same⟩, fun D hD => lc_list (K := K) (a := it) (xs := [V.ref r1, .ref q3, .ref q4]) (fun i H' => ∃ rs : List V, Lb.Mk _ D rs H' ∧ rs.length ≤ i ∧ More ns (upd (upd (upd (upd (upd (upd H8 r1 (.lst (ns.map V.int).reverse)) q1 (.lst ((ns.map V.int).drop (1 : Int).toNat))) q2 (.lst ((ns.map V.int).take (1 : Int).toNat))) q3 (.lst ((ns.map V.int).drop (1 : Int).toNat ++ (ns.map V.int).take (1 : Int).toNat))) q4 (.lst (ns'.map V.int))) it (.lst [.ref r1, .ref q3, .ref q4])) rs) ⟨[], Lb.Mk.start hD, Nat.le_refl _, more_nil⟩ (fun i H' _ z => by obtain ⟨rs, M, _⟩ := z; exact SqL.of (M.same _ _ upd_same)) ?_ ?_⟩
      · rintro i y H' hi ⟨rs, M, rl, mr⟩
        obtain ⟨a, ms, rfl, ha, ml⟩ := each y (List.mem_of_getElem? hi)
        have i3 : i < 3 := (List.getElem?_eq_some_iff.mp hi).1
        refine ⟨rfl, .ref a, rfl, .ref l, rfl, .list (ms.map PyData.int), .list (ns.map PyData.int), .lst (SqL.of (M.same _ _ ha)) (dp_ints ms), .lst (SqL.of (M.same _ _ hl9)) (dp_ints ns), shaped_intsL _, shaped_intsL _, _, rfl, ?_⟩
        simp only [PyData.eqv, eqv_ints]
        by_cases e : ms = ns
        · rw [decide_eq_true e]
          exact iteF ⟨rs, M, Nat.le_succ_of_le rl, mr⟩
        · rw [decide_eq_false e]
          refine iteT ⟨.ref a, rfl, rs, M.at_, sz_lo (by omega), rs ++ [.ref a], M.next (Same.refl _), by rw [List.length_append]; show rs.length + 1 ≤ i + 1; omega, ?_⟩
          exact more_app mr (more_cons (ms := ms) ha e ml more_nil)
      · rintro H9 ⟨rs, M, rl, mr⟩
        have hmo9 := M.same _ _ (s85 _ _ hmo)
        refine ⟨mo, D, _, _, rfl, rfl, hmo9, M.at_, sz_ok (by show vs.length + rs.length ≤ _; have : rs.length ≤ 3 := rl; omega), fun m2 nm2 => ?_⟩
        have s_m2 := same_new (o := .lst (vs ++ rs)) nm2
        refine ⟨_, _, _, m2, _, rfl, s8.trans (s85.trans (M.same.trans s_m2)), upd_same, by rw [List.length_append]; have : rs.length ≤ 3 := rl; omega, ?_⟩
        exact more_app (((mv.same s85).same M.same).same s_m2) ((mr.same M.same).same s_m2)
    rintro σ' H9 ⟨o3, o4, o5, mo, vs, rfl, s9, hmo, vl, mv⟩
    have bk9 := bk7.same s9
    have G9 := G7.same s9
    refine ⟨.ref mo, rfl, mo, rfl, ⟨_, SqL.of hmo⟩, fun D hD => lc_list (K := K) (a := mo) (xs := vs) (fun i H' => Lb.Mk H9 D [] H') (Lb.Mk.start hD) (fun i H' _ M => SqL.of (M.same _ _ hmo)) ?_ ?_⟩
    · intro i y H' hi M
      obtain ⟨a, ms, rfl, ha, mne, ml⟩ := mv y (List.mem_of_getElem? hi)
      have ha' := M.same _ _ ha
      have G' := G9.same M.same
      refine ⟨rfl, .ref a, rfl, b, _, _, rfl, dat_lst (lst_ne G' ha') ha' (dats_ints ms), (show (ms.map PyData.int).length ≤ 1000 by rw [List.length_map]; omega), fun H2 s2 => ⟨_, rfl, ?_⟩⟩
      cases hb : areL (.list (ms.map PyData.int)) with
      | false => exact iteF (iteF (M.rest s2))
      | true =>
        obtain ⟨ms', em, okm⟩ := areL_inv hb
        have emn : ms' = ms := by
          have e2 : ms.map PyData.int = ms'.map PyData.int := by injection em
          exact ((List.map_inj_right (fun x y z => by injection z)).mp e2).symm
        subst emn
        refine iteT ⟨.ref x, rfl, .ref a, rfl, ?_⟩
        intro e de ne_ nde nee
        refine make_bookR (s2 _ _ ha') okm ne_ nde nee fun H3 s3 be => ⟨rfl, ?_⟩
        have bk3 := (bk9.same M.same).same (s2.trans s3)
        obtain ⟨dx, tx, hx, _⟩ := id bk3
        refine ⟨x, dx, _, .ref C, rfl, hx, T.ty be, nf_self, x, .ref e, ns, rfl, bk3, .inl ⟨e, _, rfl, be, _, rfl, _, rfl, ?_⟩⟩
        rw [decide_eq_false fun z => mne z.symm]
        exact iteF (M.rest (s2.trans s3))
    · intro H10 M
      refine ⟨by show 0 ≤ sizeLine; decide, fun e ne_ => ⟨.list (([] : List Int).map PyData.int), .list (([] : List Int).map PyData.int), .lst (SqL.of (same_new ne_ _ _ M.at_)) (dp_ints []), .lst (SqL.of upd_same) (dp_ints []), shaped_intsL [], shaped_intsL [], ?_⟩⟩
      rw [eqv_same]
      exact q _ ((G9.same M.same).new ne_) (k07.trans (.of_same (s9.trans (M.same.trans (same_new ne_)))))
end
end Kk

set_option maxHeartbeats 4000000
namespace Kk
open PySem PySem.Spec PyProof.Rows L2 Lb
abbrev st_law : Stmt := topS 29
abbrev N_law : List Str := ["_law_script", "_law_bag_here", "_law_held", "_law_k", "_law_thing", "_law_kept", "_law_some", "_law_word", "_law_found", "_law_book"]
abbrev P_law : List Str := ["_law_script"]
theorem sc_law : FnScope N_law P_law (defScope st_law) := ⟨rfl, rfl, rfl, by decide +kernel, rfl, by decide +kernel, by decide +kernel⟩
/-- a pair of a Book and its lengths, held -/
def HeldAt (C b hd : Addr) (H : Hp) (t : Addr) : Prop := ∃ (x l : Addr) (ns : List Int), H t = some (.tup [.ref x, .ref l]) ∧ BookAt C H x ns ∧ H l = some (.lst (ns.map V.int)) ∧ okN ns ∧ l ≠ hd ∧ l ≠ b
theorem HeldAt.keep {C b hd : Addr} {H H' : Hp} {t : Addr} (h : HeldAt C b hd H t) (kt : ∀ y xs, H y = some (.tup xs) → H' y = some (.tup xs)) (ki : ∀ y dx fs, H y = some (.ins C dx fs) → H' y = some (.ins C dx fs))
    (kl : ∀ y xs, H y = some (.lst xs) → y ≠ b → y ≠ hd → H' y = some (.lst xs)) : HeldAt C b hd H' t := by
  obtain ⟨x, l, ns, e1, ⟨dx, u, e2, e3⟩, e4, ok, n1, n2⟩ := h
  exact ⟨x, l, ns, kt _ _ e1, ⟨dx, u, ki _ _ _ e2, kt _ _ e3⟩, kl _ _ e4 n2 n1, ok, n1, n2⟩
theorem HeldAt.kp {C b c hd : Addr} {H H' : Hp} {t : Addr} (h : HeldAt C b hd H t) (G : Bag H b c) (k : Kp b H H') : HeldAt C b hd H' t := by
  obtain ⟨_, _, _, _, e, _⟩ := G.ex
  refine h.keep (fun y xs z => k y _ (fun q => ?_) z) (fun y dx fs z => k y _ (fun q => ?_) z) (fun y xs z n _ => k y _ n z)
  · rw [q, e] at z; cases z
  · rw [q, e] at z; cases z
theorem HeldAt.same {C b hd : Addr} {H H' : Hp} {t : Addr} (h : HeldAt C b hd H t) (s : Same H H') : HeldAt C b hd H' t := h.keep (fun y xs z => s _ _ z) (fun y dx fs z => s _ _ z) (fun y xs z _ _ => s _ _ z)
theorem ifF {c : Bool} {p q : Prop} (h : c = false) (k : q) : if c = true then p else q := by
  rw [h]
  exact iteF k
theorem ifT {c : Bool} {p q : Prop} (h : c = true) (k : p) : if c = true then p else q := by
  rw [h]
  exact iteT k
def spLaw (K : PySem.W.Frag) : Sp := fun vs H Q _ => ∃ (a : Addr) (ns : List Int), vs = [.ref a] ∧ SqL K H a (ns.map V.int) ∧ ns.length ≤ 63 ∧ ∀ H', Q (.bl true) H'
section
variable {P : Program} {w : World} {K : PySem.W.Frag} {mg : Str → Option Value} {base : Heap} {C : Addr}
theorem ok_law {f : Addr} {fd : FuncData} (F : Fun K "law" "law" st_law f fd) (B : BltM mg) (c_L_bag : Cal P w K mg base 1 "_law_bag" (spBag K)) (c_L_handed : Cal P w K mg base 3 "_law_handed" spHanded) (c_L_made : Cal P w K mg base 7 "_law_made" (spMade C)) (c_L_is_book : Cal P w K mg base 2 "_law_is_book" (spD smallL areL))
    (c_L_right : CalG P w K mg base 10 "_law_right" (spRight C)) : FnG P w K mg base 11 f fd P_law (spLaw K) := by
  refine fnG_of F sc_law (fun vs H Q E h => ?_) (fun cdv A outer s H vs Q E noG hr h => ?_)
  · obtain ⟨a, ns, rfl, _⟩ := h
    rfl
  · obtain ⟨a, ns0, rfl, hS, nl, q⟩ := h
    refine ⟨_, (pss_cons (ps_set (i := 1) sc_law.nd rfl (Or.inr rfl) (pe_n c_L_bag hr (by decide) (by rfl) (pa_cons (pv 0) pa_nil)))
      (pss_cons (ps_set (i := 2) sc_law.nd rfl (Or.inl rfl) (pe_lst (pa_nil)))
      (pss_cons (ps_for PassesOwn.never rfl (pi_range1 (by rfl) B.range_ (pa_cons pe_int pa_nil)) (pg_name (i := 3) sc_law.nd rfl (Or.inl rfl)) (pss_cons (ps_set (i := 4) sc_law.nd rfl (Or.inl rfl) (pe_n c_L_handed hr (by decide) (by rfl) (pa_cons (pv 1) pa_nil)))
      (pss_cons (ps_set (i := 5) sc_law.nd rfl (Or.inl rfl) (pe_callB (call_repr noG hr) (by rfl) B.repr_ (by decide +kernel) (pa_cons (pv 4) pa_nil)))
      (Evl.pss_cut (ps_set (i := 6) sc_law.nd rfl (Or.inl rfl) (pe_ifExp (pt_val (pe_callB call_isi (by rfl) B.isinstance_ (by decide +kernel) (pa_cons (pv 4) (pa_cons (pe_bltn (v := .ty "list") (by rfl) B.list_ (by decide +kernel) rfl) pa_nil)))) (pe_callTy call_list_of (by rfl) B.list_ (by decide +kernel) (pa_cons (pv 4) pa_nil)) pe_non))
      (pss_cons (ps_asg (pe_slice sl_tup (pe_op op_catT (pe_n c_L_made hr (by decide) (by rfl) (pa_cons (pv 4) pa_nil)) (pe_tup (pa_cons pe_non pa_nil))) po_none (po_some pe_int)) (pg_tup rfl (pgs_cons (pg_name (i := 7) sc_law.nd rfl (Or.inl rfl)) (pgs_cons (pg_name (i := 8) sc_law.nd rfl (Or.inl rfl)) pgs_nil))))
      (pss_cons (ps_if (PW.pt (pw_or (pt_cmpR op_ne (pe_callB (call_repr noG hr) (by rfl) B.repr_ (by decide +kernel) (pa_cons (pv 4) pa_nil)) (pv 5) (nomark _)) (pw_or1 (pt_cmpR op_ne (pe_cmpR op_eq (pv 7) pe_str (nomark _)) (pe_n c_L_is_book hr (by decide) (by rfl) (pa_cons (pv 4) pa_nil)) (nomark _))))) (pss_one (ps_ret pe_bl)) pss_nil)
      (pss_cons (ps_if (PW.pt (pw_and (pt_cmpR op_ne (pv 7) pe_str (nomark _)) (pw_and1 (pt_cmpR (op_neD (hu64_of hr)) (pe_tup (pa_cons (pv 7) (pa_cons (pv 8) pa_nil))) (pe_tup (pa_cons pe_str (pa_cons pe_int pa_nil))) (nomark _))))) (pss_one (ps_ret pe_bl)) pss_nil)
      (pss_one (ps_if (pt_cmpR op_eq (pv 7) pe_str (nomark _)) (pss_cons (ps_expr (pe_bm PySem.F.plainAttrs_list PySem.F.slot_list_append PySem.F.type_list_append mt_append (pv 4) (pa_cons pe_int pa_nil)))
      (pss_cons (ps_asg pe_int (pg_sub (pv 4) pe_int set_list))
      (pss_one (ps_expr (pe_bm PySem.F.plainAttrs_list PySem.F.slot_list_append PySem.F.type_list_append mt_append (pv 2) (pa_cons (pe_tup (pa_cons (pv 8) (pa_cons (pv 6) pa_nil))) pa_nil)))))) pss_nil)))))))))
      (pss_one (ps_ret (pe_callB (cr_all rfl) (by rfl) B.all_ (by decide +kernel) (pa_cons (pe_lc (own := [("_law_book", 9), ("_law_some", 6)]) (g := gTup K 2 (gCons (gName 9) (gCons (gName 6) gNil))) (tt := tYes) rfl sc_law.nd (pi_list (pv 2)) (blkOk_by (N := N_law) (sc := defScope st_law) (by decide +kernel)) (fun _ _ _ _ _ => by exact pg_tup rfl (pgs_cons (pg_name (i := 9) sc_law.nd rfl (Or.inl rfl)) (pgs_cons (pg_name (i := 6) sc_law.nd rfl (Or.inl rfl)) pgs_nil))) (fun _ _ _ _ _ => pts_nil) (fun _ _ _ _ _ => by exact pe_g c_L_right noG hr (by decide) (by rfl) (pa_cons (pv 1) (pa_cons (pv 9) (pa_cons (pv 6) pa_nil))))) pa_nil))))))), ?_⟩
    refine ⟨.ref a, rfl, a, ns0, rfl, hS, nl, fun b c H1 _ _ _ G1 => ⟨by show 0 ≤ sizeLine; decide, fun hd nhd => ?_⟩⟩
    have hdb := G1.ne_new nhd
    have hdc := G1.nc_new nhd
    refine ⟨6, rfl, by decide, by decide, for_range (n := 6) (fun i σ H' => ∃ (x3 x4 x5 x6 x7 x8 x9 : Option V) (hs : List Addr), σ = [some (.ref a), some (.ref b), some (.ref hd), x3, x4, x5, x6, x7, x8, x9] ∧ Bag H' b c ∧ H' hd = some (.lst (hs.map V.ref)) ∧ hs.length ≤ i ∧ ∀ t ∈ hs, HeldAt C b hd H' t)
      ⟨none, none, none, none, none, none, none, [], rfl, G1.new nhd, upd_same, Nat.le_refl _, fun _ z => nomatch z⟩ ?_ ?_⟩
    · rintro i σ H2 hi ⟨x3, x4, x5, x6, x7, x8, x9, hs, rfl, G2, hhd, hsl, held⟩
      refine ⟨.ref b, rfl, b, c, rfl, G2, fun v d H3 Dv sh sm fresh G3 k3 => ?_⟩
      have hhd3 := k3 _ _ hdb hhd
      have held3 : ∀ t ∈ hs, HeldAt C b hd H3 t := fun t ht => (held t ht).kp G2 k3
      refine ⟨v, rfl, b, v, d, rfl, Dv, sh, ?_⟩
      refine ⟨fun σ' H' => ∃ sv, σ' = [some (.ref a), some (.ref b), some (.ref hd), some (.int (0 + (i : Int))), some v, some (.str d.shown), some sv, x7, x8, x9] ∧ Same H3 H' ∧ ∀ ns : List Int, d = .list (ns.map PyData.int) → ∃ l, sv = .ref l ∧ H' l = some (.lst (ns.map V.int)) ∧ H3 l = none, ?_, ?_⟩
      · refine ⟨v, rfl, v, .ty "list", _, _, _, rfl, .ty _, ty_of Dv, kit_list d, _, rfl, ?_⟩
        cases hL : isList d with
        | false => exact iteF ⟨_, rfl, Same.refl _, fun ns e => by subst e; cases hL⟩
        | true =>
          obtain ⟨ds, a1, vs, rfl, rfl, na, ha, hds⟩ := dat_list Dv hL
          refine iteT ⟨.ref a1, rfl, a1, _, rfl, .inl (SqL.of ha), fun l nl => ⟨_, rfl, same_new nl, fun ns e => ⟨l, rfl, ?_, nl⟩⟩⟩
          injection e with e
          subst e
          rw [dats_inv hds]
          exact upd_same
      rintro σ' H4 ⟨sv, rfl, s4, some_⟩
      have Dv4 := Dv.same s4
      refine ⟨v, rfl, b, v, d, rfl, Dv4, sm, fun ns ed okn p x H5 s5 hp bx => ?_, fun hw p H5 s5 hp => ?_⟩
      · -- told
        refine ⟨by show 1 ≤ sizeLine; decide, fun t1 nt1 => ?_⟩
        have s_t1 := same_new (o := .tup [.non]) nt1
        refine ⟨p, t1, _, _, rfl, rfl, SqT.of (s_t1 _ _ hp), SqT.of upd_same, by simp, by show 2 + 1 ≤ sizeLine; decide, (fun e => nomatch e), fun _ t2 nt2 => ?_⟩
        have s_t2 := same_new (o := .tup ([.str (Str.ofString "told"), .ref x] ++ [.non])) nt2
        refine ⟨2, rfl, t2, _, rfl, SqT.of upd_same, (show ¬ (HT.sIx 3 0 none = 0 ∧ HT.sIx 3 3 (some 2) = 3) by decide), fun t3 nt3 => ?_⟩
        rw [cut_to (by decide)]
        have s_t3 := same_new (o := .tup [.str (Str.ofString "told"), .ref x]) nt3
        refine ⟨t3, _, rfl, SqT.of upd_same, rfl, _, _, rfl, _, _, rfl, rfl, ?_⟩
        have s56 := s_t1.trans (s_t2.trans s_t3)
        have s46 := s5.trans s56
        refine ⟨v, rfl, b, v, d, rfl, Dv4.same s46, sh, _, rfl, rfl, _, rfl, cmpT ?_⟩
        refine ⟨_, rfl, rfl, v, rfl, b, v, d, rfl, Dv4.same s46, sm, fun H7 s7 => ⟨rfl, _, rfl, ?_⟩⟩
        subst ed
        rw [areL_ok okn]
        refine ifF (by simp) ?_
        refine ⟨_, rfl, rfl, _, rfl, cmpT (iteF ?_)⟩
        refine ⟨_, rfl, rfl, _, rfl, ifT (by simp) ?_⟩
        obtain ⟨ds, a1, vs, e0, rfl, na, ha, hds⟩ := dat_list Dv rfl
        injection e0 with e0
        subst e0
        obtain rfl := dats_inv hds
        obtain ⟨l, rfl, hl4, nl3⟩ := some_ ns rfl
        have s37 := s4.trans (s46.trans s7)
        have ha7 := s37 _ _ ha
        have hl7 := s7 _ _ (s46 _ _ hl4)
        have bx7 := (bx.same s56).same s7
        have hhd7 := s37 _ _ hhd3
        have G7 := G3.same s37
        have held7 : ∀ t ∈ hs, HeldAt C b hd H7 t := fun t ht => (held3 t ht).same s37
        have nka : a1 ≠ hd := fun z => by
          have := fresh a1 rfl
          rw [z, hhd] at this
          cases this
        have la : l ≠ a1 := fun z => by
          rw [z, ha] at nl3
          cases nl3
        have lb : l ≠ b := lst_ne G7 hl7
        have lhd : l ≠ hd := fun z => by
          rw [z, hhd3] at nl3
          cases nl3
        have nac : a1 ≠ c := fun z => by
          obtain ⟨_, _, _, _, _, e, _⟩ := G2.ex
          have := fresh a1 rfl
          rw [z, e] at this
          cases this
        refine ⟨.ref a1, rfl, .inl ⟨rfl, _, SqL.of ha7⟩, a1, _, .int 1, rfl, rfl, ha7, sz_lo (by rw [List.length_map]; have := okn.2.1; omega), ?_⟩
        refine ⟨.ref a1, rfl, a1, _, 0, 0, rfl, rfl, upd_same, ?_, ?_⟩
        · unfold ixN
          simp
        have hhd8 : (upd (upd H7 a1 (.lst (ns.map V.int ++ [V.int 1]))) a1 (.lst ((ns.map V.int ++ [V.int 1]).set 0 (V.int 7)))) hd = some (.lst (hs.map V.ref)) := by
          rw [upd_ne nka.symm, upd_ne nka.symm]
          exact hhd7
        refine ⟨.ref hd, rfl, .inl ⟨rfl, _, SqL.of hhd8⟩, .ref x, rfl, .ref l, rfl, by show 2 ≤ sizeLine; decide, fun t nt => ?_⟩
        have thd : hd ≠ t := ne_of_none hhd8 nt
        refine ⟨hd, _, .ref t, rfl, rfl, by rw [upd_ne thd]; exact hhd8, sz_lo (by rw [List.length_map]; omega), ?_⟩
        -- all but a1 and hd stays
        have keep : ∀ y o, y ≠ a1 → y ≠ hd → H7 y = some o → (upd (upd (upd (upd H7 a1 (.lst (ns.map V.int ++ [V.int 1]))) a1 (.lst ((ns.map V.int ++ [V.int 1]).set 0 (V.int 7)))) t (.tup [.ref x, .ref l])) hd (.lst (hs.map V.ref ++ [.ref t]))) y = some o := fun y o n1 n2 e => by
          have e1 : (upd (upd H7 a1 (.lst (ns.map V.int ++ [V.int 1]))) a1 (.lst ((ns.map V.int ++ [V.int 1]).set 0 (V.int 7)))) y = some o := by
            rw [upd_ne n1, upd_ne n1]
            exact e
          rw [upd_ne n2, upd_ne (ne_of_none e1 nt)]
          exact e1
        have kT : ∀ y xs, H7 y = some (.tup xs) → (upd (upd (upd (upd H7 a1 (.lst (ns.map V.int ++ [V.int 1]))) a1 (.lst ((ns.map V.int ++ [V.int 1]).set 0 (V.int 7)))) t (.tup [.ref x, .ref l])) hd (.lst (hs.map V.ref ++ [.ref t]))) y = some (.tup xs) := fun y xs e => keep y _ (fun z => by rw [z, ha7] at e; cases e) (fun z => by rw [z, hhd7] at e; cases e) e
        have kI : ∀ y dx fs, H7 y = some (.ins C dx fs) → (upd (upd (upd (upd H7 a1 (.lst (ns.map V.int ++ [V.int 1]))) a1 (.lst ((ns.map V.int ++ [V.int 1]).set 0 (V.int 7)))) t (.tup [.ref x, .ref l])) hd (.lst (hs.map V.ref ++ [.ref t]))) y = some (.ins C dx fs) := fun y dx fs e => keep y _ (fun z => by rw [z, ha7] at e; cases e) (fun z => by rw [z, hhd7] at e; cases e) e
        refine ⟨_, _, _, _, _, _, _, hs ++ [t], rfl, ?_, ?_, ?_, ?_⟩
        · exact (((((G7.other na nac).other na nac).new nt)).other hdb hdc)
        · rw [List.map_append]
          exact upd_same
        · rw [List.length_append]
          show hs.length + 1 ≤ i + 1
          omega
        · intro t' ht'
          rcases List.mem_append.mp ht' with ht' | ht'
          · obtain ⟨x', l', ns', e1, ⟨dx', u', e2, e3⟩, e4, ok', n1, n2⟩ := held t' ht'
            have la' : l' ≠ a1 := fun z => by
              have := fresh a1 rfl
              rw [← z, e4] at this
              cases this
            obtain ⟨y1, y2, y3, f1, ⟨dy, uy, f2, f3⟩, f4, f5, f6, f7⟩ := held7 t' ht'
            have q1 := k3 _ _ n2 e4
            have q2 := s37 _ _ q1
            refine ⟨x', l', ns', kT _ _ ?_, ⟨dx', u', kI _ _ _ ?_, kT _ _ ?_⟩, keep _ _ la' n1 q2, ok', n1, n2⟩
            · exact s37 _ _ (k3 _ _ (tup_ne G2 e1) e1)
            · refine s37 _ _ (k3 _ _ (fun z => ?_) e2)
              obtain ⟨_, _, _, _, e, _⟩ := G2.ex
              rw [z, e] at e2
              cases e2
            · exact s37 _ _ (k3 _ _ (tup_ne G2 e3) e3)
          · rw [List.mem_singleton.mp ht']
            obtain ⟨dx, u, f2, f3⟩ := bx7
            exact ⟨x, l, ns, by rw [upd_ne thd.symm]; exact upd_same, ⟨dx, u, kI _ _ _ f2, kT _ _ f3⟩, keep _ _ la lhd hl7, okn, lhd, lb⟩
      · -- refused
        refine ⟨by show 1 ≤ sizeLine; decide, fun t1 nt1 => ?_⟩
        have s_t1 := same_new (o := .tup [.non]) nt1
        refine ⟨p, t1, _, _, rfl, rfl, SqT.of (s_t1 _ _ hp), SqT.of upd_same, by simp, by show 2 + 1 ≤ sizeLine; decide, (fun e => nomatch e), fun _ t2 nt2 => ?_⟩
        have s_t2 := same_new (o := .tup ([.str (Str.ofString "wrong"), .int 0] ++ [.non])) nt2
        refine ⟨2, rfl, t2, _, rfl, SqT.of upd_same, (show ¬ (HT.sIx 3 0 none = 0 ∧ HT.sIx 3 3 (some 2) = 3) by decide), fun t3 nt3 => ?_⟩
        rw [cut_to (by decide)]
        have s_t3 := same_new (o := .tup [.str (Str.ofString "wrong"), .int 0]) nt3
        refine ⟨t3, _, rfl, SqT.of upd_same, rfl, _, _, rfl, _, _, rfl, rfl, ?_⟩
        have s56 := s_t1.trans (s_t2.trans s_t3)
        have s46 := s5.trans s56
        refine ⟨v, rfl, b, v, d, rfl, Dv4.same s46, sh, _, rfl, rfl, _, rfl, cmpT ?_⟩
        refine ⟨_, rfl, rfl, v, rfl, b, v, d, rfl, Dv4.same s46, sm, fun H7 s7 => ⟨rfl, _, rfl, ?_⟩⟩
        rw [hw]
        refine ifF (by decide +kernel) ?_
        refine ⟨_, rfl, rfl, _, rfl, ifT (by decide +kernel) ?_⟩
        refine ⟨_, rfl, _, rfl, by show 2 ≤ sizeLine; decide, fun u1 nu1 => ⟨by show 2 ≤ sizeLine; decide, fun u2 nu2 => ?_⟩⟩
        have s_u2 := same_new (o := .tup [.str (Str.ofString "wrong"), .int 0]) nu2
        refine ⟨.tuple [.str (Str.ofString "wrong"), .int 0], .tuple [.str (Str.ofString "wrong"), .int 0], .tup (SqT.of (s_u2 _ _ upd_same)) (.cons (.str _) (.cons (.int _) .nil)), .tup (SqT.of upd_same) (.cons (.str _) (.cons (.int _) .nil)), by decide +kernel, by decide +kernel, _, rfl, ?_⟩
        refine ifF (by decide +kernel) ?_
        refine ⟨_, rfl, rfl, _, rfl, ifF (by decide +kernel) ?_⟩
        have sE := s4.trans (s46.trans (s7.trans ((same_new (o := .tup [.str (Str.ofString "wrong"), .int 0]) nu1).trans s_u2)))
        exact ⟨_, _, _, _, _, _, _, hs, rfl, G3.same sE, sE _ _ hhd3, Nat.le_succ_of_le hsl, fun t ht => (held3 t ht).same sE⟩
    · rintro σ H2 ⟨x3, x4, x5, x6, x7, x8, x9, hs, rfl, G2, hhd, hsl, held⟩
      refine ⟨.ref hd, rfl, hd, rfl, ⟨_, SqL.of hhd⟩, fun D hD => lc_list (K := K) (a := hd) (xs := hs.map V.ref) (fun i H' => Bag H' b c ∧ Kp b H2 H' ∧ H' D = some (.lst ((List.replicate i true).map V.bl))) ⟨G2.new hD, .new hD, upd_same⟩ (fun i H' _ z => SqL.of (z.2.1 _ _ hdb hhd)) ?_ ?_⟩
      · rintro i y H' hi' ⟨G', k', hD'⟩
        obtain ⟨t, ht, rfl⟩ : ∃ t, hs[i]? = some t ∧ V.ref t = y := by
          rw [List.getElem?_map] at hi'
          exact Option.map_eq_some_iff.mp hi'
        have i6 : i < 6 := Nat.lt_of_lt_of_le (List.getElem?_eq_some_iff.mp ht).1 hsl
        obtain ⟨x, l, ns, e1, bx, e4, okn, n1, n2⟩ := (held t (List.mem_of_getElem? ht)).kp G2 k'
        have Db := G2.ne_new hD
        refine ⟨t, _, rfl, SqT.of e1, rfl, _, _, rfl, _, _, rfl, rfl, rfl, .ref b, rfl, .ref x, rfl, .ref l, rfl, b, c, x, l, ns, rfl, G', bx, e4, okn, fun H3 G3 k3 => ⟨_, k3 _ _ Db hD', sz_lo (by rw [List.length_map, List.length_replicate]; omega), ?_⟩⟩
        refine ⟨G3.other Db (G2.nc_new hD), fun z o zb ez => ?_, ?_⟩
        · rw [upd_ne (ne_of_none ez hD)]
          exact k3 _ _ zb (k' _ _ zb ez)
        · rw [List.replicate_succ', List.map_append]
          exact upd_same
      · rintro H3 ⟨G3, k3, hD3⟩
        refine ⟨D, _, rfl, SqL.of hD3, ?_⟩
        have e : (List.replicate (hs.map V.ref).length true).all id = true := by simp
        rw [e]
        exact q _
end
end Kk

set_option maxHeartbeats 4000000
namespace Kk
open PySem PySem.Spec PyProof.Rows L2 Lb
structure Top (K : PySem.W.Frag) (mg : Str → Option Value) (C SE WR NS TG TM : Addr) : Prop where
  B : BltM mg
  M : Con mg
  d_L_take : DefIn K mg "_law_take" st_L_take
  d_L_bag : DefIn K mg "_law_bag" st_L_bag
  d_is_whole : DefIn K mg "is_whole" st_is_whole
  d_is_within : DefIn K mg "is_within" st_is_within
  d_is_length : DefIn K mg "is_length" st_is_length
  d_are_lengths : DefIn K mg "are_lengths" st_are_lengths
  d_plain : DefIn K mg "plain" st_plain
  d_L_spans : DefIn K mg "_law_spans" st_L_spans
  d_L_whole : DefIn K mg "_law_whole" st_L_whole
  d_L_is_book : DefIn K mg "_law_is_book" st_L_is_book
  d_L_odd : DefIn K mg "_law_odd" st_L_odd
  d_L_handed : DefIn K mg "_law_handed" st_L_handed
  d_L_refused : DefIn K mg "_law_refused" st_L_refused
  d_L_made : DefIn K mg "_law_made" st_L_made
  d_L_told : DefIn K mg "_law_told" st_L_told
  d_L_sleeps : DefIn K mg "_law_sleeps" st_L_sleeps
  d_L_right : DefIn K mg "_law_right" st_L_right
  d_law : DefIn K mg "law" st_law
  bk : BkC K mg C
  ne : NeC K C
  bk2 : BkC2 K C
  makes : PySem.W.makesIn K C = true
  kpC : PySem.W.keepIn K (.ref C) = true
  m_Book_init : MethIn K C "__init__" "Book.__init__" st_Book_init
  m_Book_lengths : MethIn K C "lengths" "Book.lengths" st_Book_lengths
  m_Book_sleep : MethIn K C "sleep" "Book.sleep" st_Book_sleep
  m_Book_eq : MethIn K C "__eq__" "Book.__eq__" st_Book_eq
  m_Book_len : MethIn K C "__len__" "Book.__len__" st_Book_len
  m_Book_repr : MethIn K C "__repr__" "Book.__repr__" st_Book_repr
  er : ErC K mg SE WR NS TG TM
  oex : OexC K WR
  m_tg : ∃ (f : Addr) (fd : FuncData), Fun K "__init__" "Wrong.__init__" st_Wrong_init f fd ∧ PySem.W.findIn K (.ref WR) "__init__" = some (some (.ref f)) ∧ PySem.W.typeIn K (.ref f) = some (.type "function")
section
variable {P : Program} {w : World} {K : PySem.W.Frag} {mg : Str → Option Value} {base : Heap} {C SE WR NS TG TM : Addr}
theorem law_ok {f : Addr} {fd : FuncData} (T : Top K mg C SE WR NS TG TM) (F0 : Fun K "law" "law" st_law f fd) : FnG P w K mg base 11 f fd P_law (spLaw K) := by
  have B0 : Blt mg := T.B.toBlt
  have c_L_take : Cal P w K mg base 1 "_law_take" spTake := T.d_L_take.cal (fun _ _ F => F.binds (ps := P_L_take) fun _ _ _ _ _ _ us hl => match us, hl with | [_, _], _ => rfl) fun _ _ F => ok_take F B0
  have c_L_bag : Cal P w K mg base 1 "_law_bag" (spBag K) := T.d_L_bag.cal (fun _ _ F => F.binds (ps := P_L_bag) fun _ _ _ _ _ _ us hl => match us, hl with | [_], _ => rfl) fun _ _ F => ok_bag F B0
  have c_is_whole : Cal P w K mg base 1 "is_whole" (spD (fun _ => True) isWhole) := T.d_is_whole.cal (fun _ _ F => F.binds (ps := P_is_whole) fun _ _ _ _ _ _ us hl => match us, hl with | [_], _ => rfl) fun _ _ F => ok_whole F B0
  have c_is_within : Cal P w K mg base 2 "is_within" spW := T.d_is_within.cal (fun _ _ F => F.binds (ps := P_is_within) fun _ _ _ _ _ _ us hl => match us, hl with | [_, _, _], _ => rfl) fun _ _ F => ok_within F c_is_whole
  have c_is_length : Cal P w K mg base 3 "is_length" (spD (fun _ => True) (within 1 (10 ^ 9))) := T.d_is_length.cal (fun _ _ F => F.binds (ps := P_is_length) fun _ _ _ _ _ _ us hl => match us, hl with | [_], _ => rfl) fun _ _ F => ok_length F T.M c_is_within
  have c_are_lengths : Cal P w K mg base 4 "are_lengths" (spD smallL areL) := T.d_are_lengths.cal (fun _ _ F => F.binds (ps := P_are_lengths) fun _ _ _ _ _ _ us hl => match us, hl with | [_], _ => rfl) fun _ _ F => ok_are F B0 T.M c_is_length
  have c_wr : XC P w K mg base 1 "Wrong" WR "at" := by
    obtain ⟨f1, fd1, F1, a1, t1⟩ := T.m_tg
    exact ⟨T.oex, T.er.gW, f1, fd1, P_Wrong_init, a1, t1, ok_wrinit F1 T.oex T.er.no, F1.binds (ps := P_Wrong_init) fun _ _ _ _ _ _ us hl => match us, hl with | [_, _], _ => rfl⟩
  have BF : BkF P w K mg base C WR := by
    obtain ⟨f1, fd1, F1, a1, n1⟩ := T.m_Book_init.ex
    obtain ⟨f2, fd2, F2, a2, n2⟩ := T.m_Book_lengths.ex
    obtain ⟨f3, fd3, F3, a3, n3⟩ := T.m_Book_sleep.ex
    exact ⟨⟨f1, fd1, P_Book_init, ⟨T.makes, a1, n1, T.kpC⟩, ok_binit F1 B0 T.bk c_are_lengths c_wr, F1.binds (ps := P_Book_init) fun _ _ _ _ _ _ us hl => match us, hl with | [_, _], _ => rfl⟩, ⟨f2, fd2, P_Book_lengths, ⟨a2, n2, F2.kp⟩, ok_lengths F2 B0 T.bk, F2.binds (ps := P_Book_lengths) fun _ _ _ _ _ _ us hl => match us, hl with | [_], _ => rfl⟩, ⟨f3, fd3, P_Book_sleep, ⟨a3, n3, F3.kp⟩, ok_sleep F3 B0 T.bk c_is_within c_wr, F3.binds (ps := P_Book_sleep) fun _ _ _ _ _ _ us hl => match us, hl with | [_, _], _ => rfl⟩⟩
  have c_eq : Spc P w K mg base 1 C "__eq__" (spBEq C) := by
    obtain ⟨f1, fd1, F1, a1, n1⟩ := T.m_Book_eq.ex
    exact ⟨f1, fd1, P_Book_eq, a1, n1, ok_beq F1 B0 T.bk T.bk2, F1.binds (ps := P_Book_eq) fun _ _ _ _ _ _ us hl => match us, hl with | [_, _], _ => rfl⟩
  have c_len : Spc P w K mg base 1 C "__len__" (spBLen C) := by
    obtain ⟨f1, fd1, F1, a1, n1⟩ := T.m_Book_len.ex
    exact ⟨f1, fd1, P_Book_len, a1, n1, ok_blen F1 B0 T.bk, F1.binds (ps := P_Book_len) fun _ _ _ _ _ _ us hl => match us, hl with | [_], _ => rfl⟩
  have c_repr : SpcG P w K mg base 1 C "__repr__" (spBRepr C) := by
    obtain ⟨f1, fd1, F1, a1, n1⟩ := T.m_Book_repr.ex
    exact ⟨f1, fd1, P_Book_repr, a1, n1, ok_brepr F1 B0 T.bk, F1.binds (ps := P_Book_repr) fun _ _ _ _ _ _ us hl => match us, hl with | [_], _ => rfl⟩
  have c_plain : CalX P w K mg base 7 "plain" (spPlain C WR) := T.d_plain.calX (fun _ _ F => F.binds (ps := P_plain) fun _ _ _ _ _ _ us hl => match us, hl with | [_], _ => rfl) fun _ _ F => ok_plain F B0 T.M T.bk BF c_is_within c_wr
  have c_L_spans : Cal P w K mg base 2 "_law_spans" spSpans := T.d_L_spans.cal (fun _ _ F => F.binds (ps := P_L_spans) fun _ _ _ _ _ _ us hl => match us, hl with | [_, _, _], _ => rfl) fun _ _ F => ok_spans F T.B c_L_take
  have c_L_whole : Cal P w K mg base 1 "_law_whole" spW := T.d_L_whole.cal (fun _ _ F => F.binds (ps := P_L_whole) fun _ _ _ _ _ _ us hl => match us, hl with | [_, _, _], _ => rfl) fun _ _ F => ok_Lwhole F B0
  have c_L_is_book : Cal P w K mg base 2 "_law_is_book" (spD smallL areL) := T.d_L_is_book.cal (fun _ _ F => F.binds (ps := P_L_is_book) fun _ _ _ _ _ _ us hl => match us, hl with | [_], _ => rfl) fun _ _ F => ok_isbook F B0 c_L_whole
  have c_L_odd : Cal P w K mg base 2 "_law_odd" spOdd := T.d_L_odd.cal (fun _ _ F => F.binds (ps := P_L_odd) fun _ _ _ _ _ _ us hl => match us, hl with | [_], _ => rfl) fun _ _ F => ok_odd F c_L_take
  have c_L_handed : Cal P w K mg base 3 "_law_handed" spHanded := T.d_L_handed.cal (fun _ _ F => F.binds (ps := P_L_handed) fun _ _ _ _ _ _ us hl => match us, hl with | [_], _ => rfl) fun _ _ F => ok_handed F B0 c_L_take c_L_spans c_L_odd
  have c_L_refused : CalE P w K mg base 1 "_law_refused" (spRefused WR) := by
    obtain ⟨f1, fd1, F1, m1⟩ := T.d_L_refused.ex
    exact ⟨f1, fd1, P_L_refused, ok_refused F1 T.B T.er, m1, F1.kp, F1.binds (ps := P_L_refused) fun _ _ _ _ _ _ us hl => match us, hl with | [_], _ => rfl⟩
  have c_L_made : Cal P w K mg base 7 "_law_made" (spMade C) := T.d_L_made.cal (fun _ _ F => F.binds (ps := P_L_made) fun _ _ _ _ _ _ us hl => match us, hl with | [_], _ => rfl) fun _ _ F => ok_made F T.B T.bk BF T.er c_L_refused
  have c_L_told : Cal P w K mg base 8 "_law_told" (spTold C) := T.d_L_told.cal (fun _ _ F => F.binds (ps := P_L_told) fun _ _ _ _ _ _ us hl => match us, hl with | [_, _, _], _ => rfl) fun _ _ F => ok_told F T.B T.bk BF T.er c_L_refused c_plain
  have c_L_sleeps : CalG P w K mg base 9 "_law_sleeps" (spSleeps C) := T.d_L_sleeps.calG (fun _ _ F => F.binds (ps := P_L_sleeps) fun _ _ _ _ _ _ us hl => match us, hl with | [_, _, _], _ => rfl) fun _ _ F => ok_sleeps F T.B c_L_take c_L_odd c_L_whole c_L_told
  have c_L_right : CalG P w K mg base 10 "_law_right" (spRight C) := T.d_L_right.calG (fun _ _ F => F.binds (ps := P_L_right) fun _ _ _ _ _ _ us hl => match us, hl with | [_, _, _], _ => rfl) fun _ _ F => ok_right F T.B T.bk T.ne BF c_eq c_len c_repr c_L_take c_L_is_book c_L_sleeps
  exact ok_law F0 T.B c_L_bag c_L_handed c_L_made c_L_is_book c_L_right
end
theorem all_mk {l : PySem.W.OpenLaw} {w : World} {K : PySem.W.Frag} {mg : Str → Option Value} {fa C SE WR NS TG TM : Addr} (T : Top K mg C SE WR NS TG TM) (hfa : mg "law" = some (.ref fa)) :
    ∃ fd : FuncData, (∀ (s : Shared) (v : Value), BindsTo s fd ⟨[v], []⟩ [("_law_script", v)]) ∧ ∀ base : Heap, K.In base → base.Ns mainGlobals mg → FnG l.prog w K mg base 11 fa fd ["_law_script"] (spLaw K) := by
  obtain ⟨f, fd, F, m⟩ := T.d_law.ex
  rw [m] at hfa
  cases hfa
  refine ⟨fd, ?_, fun base _ _ => law_ok T F⟩
  obtain ⟨oc, od, kV, doc, pm, an, cdv, ct, osl, rfl, lk, hcd⟩ := F.ex
  exact fun s v => .of_eq rfl
theorem top_mk {K : PySem.W.Frag} {h : Heap} {mg : Str → Option Value} (X : K.In h) (G : h.Ns mainGlobals mg)
    {t16 : Tok}
    {t17 : Tok}
    {f18 : Addr} {od18 an18 : Option Addr} {sl18 : Array (Option Value)} {oc18 kV18 dc18 pm18 cd18 ct18 : Value}
    {f19 : Addr} {od19 an19 : Option Addr} {sl19 : Array (Option Value)} {oc19 kV19 dc19 pm19 cd19 ct19 : Value}
    {f20 : Addr} {od20 an20 : Option Addr} {sl20 : Array (Option Value)} {oc20 kV20 dc20 pm20 cd20 ct20 : Value}
    {f21 : Addr} {od21 an21 : Option Addr} {sl21 : Array (Option Value)} {oc21 kV21 dc21 pm21 cd21 ct21 : Value}
    {f22 : Addr} {od22 an22 : Option Addr} {sl22 : Array (Option Value)} {oc22 kV22 dc22 pm22 cd22 ct22 : Value}
    {f23 : Addr} {od23 an23 : Option Addr} {sl23 : Array (Option Value)} {oc23 kV23 dc23 pm23 cd23 ct23 : Value}
    {f24 : Addr} {od24 an24 : Option Addr} {sl24 : Array (Option Value)} {oc24 kV24 dc24 pm24 cd24 ct24 : Value}
    {f25 : Addr} {od25 an25 : Option Addr} {sl25 : Array (Option Value)} {oc25 kV25 dc25 pm25 cd25 ct25 : Value}
    {f26 : Addr} {od26 an26 : Option Addr} {sl26 : Array (Option Value)} {oc26 kV26 dc26 pm26 cd26 ct26 : Value}
    {f27 : Addr} {od27 an27 : Option Addr} {sl27 : Array (Option Value)} {oc27 kV27 dc27 pm27 cd27 ct27 : Value}
    {f28 : Addr} {od28 an28 : Option Addr} {sl28 : Array (Option Value)} {oc28 kV28 dc28 pm28 cd28 ct28 : Value}
    {f29 : Addr} {od29 an29 : Option Addr} {sl29 : Array (Option Value)} {oc29 kV29 dc29 pm29 cd29 ct29 : Value}
    {f30 : Addr} {od30 an30 : Option Addr} {sl30 : Array (Option Value)} {oc30 kV30 dc30 pm30 cd30 ct30 : Value}
    {f31 : Addr} {od31 an31 : Option Addr} {sl31 : Array (Option Value)} {oc31 kV31 dc31 pm31 cd31 ct31 : Value}
    {f32 : Addr} {od32 an32 : Option Addr} {sl32 : Array (Option Value)} {oc32 kV32 dc32 pm32 cd32 ct32 : Value}
    {f33 : Addr} {od33 an33 : Option Addr} {sl33 : Array (Option Value)} {oc33 kV33 dc33 pm33 cd33 ct33 : Value}
    {f34 : Addr} {od34 an34 : Option Addr} {sl34 : Array (Option Value)} {oc34 kV34 dc34 pm34 cd34 ct34 : Value}
    {f35 : Addr} {od35 an35 : Option Addr} {sl35 : Array (Option Value)} {oc35 kV35 dc35 pm35 cd35 ct35 : Value}
    {C : Addr}
    {f40 : Addr} {od40 an40 : Option Addr} {sl40 : Array (Option Value)} {oc40 kV40 dc40 pm40 cd40 ct40 : Value}
    {f41 : Addr} {od41 an41 : Option Addr} {sl41 : Array (Option Value)} {oc41 kV41 dc41 pm41 cd41 ct41 : Value}
    {f42 : Addr} {od42 an42 : Option Addr} {sl42 : Array (Option Value)} {oc42 kV42 dc42 pm42 cd42 ct42 : Value}
    {f43 : Addr} {od43 an43 : Option Addr} {sl43 : Array (Option Value)} {oc43 kV43 dc43 pm43 cd43 ct43 : Value}
    {f44 : Addr} {od44 an44 : Option Addr} {sl44 : Array (Option Value)} {oc44 kV44 dc44 pm44 cd44 ct44 : Value}
    {f45 : Addr} {od45 an45 : Option Addr} {sl45 : Array (Option Value)} {oc45 kV45 dc45 pm45 cd45 ct45 : Value}
    {SE : Addr}
    {WR : Addr}
    {NS : Addr}
    {TG : Addr}
    {TM : Addr}
    {nm q : Str} {N : Addr} {bs : List Value} {sn : List Str} {sub : List Value} {ab : Bool} {col : Option Bool} {dd : Option Addr} {m0 m1 m2 m3 m5 : Option Value}
    {f47 : Addr} {od47 an47 : Option Addr} {sl47 : Array (Option Value)} {oc47 kV47 dc47 pm47 cd47 ct47 : Value}
    (z0 : PySem.W.nsIn K mainGlobals "len" = some none)
    (z1 : PySem.W.nsIn K mainGlobals "abs" = some none)
    (z2 : PySem.W.nsIn K mainGlobals "isinstance" = some none)
    (z3 : PySem.W.nsIn K mainGlobals "int" = some none)
    (z4 : PySem.W.nsIn K mainGlobals "bool" = some none)
    (z5 : PySem.W.nsIn K mainGlobals "str" = some none)
    (z6 : PySem.W.nsIn K mainGlobals "list" = some none)
    (z7 : PySem.W.nsIn K mainGlobals "tuple" = some none)
    (z8 : PySem.W.nsIn K mainGlobals "set" = some none)
    (z9 : PySem.W.nsIn K mainGlobals "range" = some none)
    (z10 : PySem.W.nsIn K mainGlobals "all" = some none)
    (z11 : PySem.W.nsIn K mainGlobals "repr" = some none)
    (z12 : PySem.W.nsIn K mainGlobals "max" = some none)
    (z13 : PySem.W.nsIn K mainGlobals "min" = some none)
    (z14 : PySem.W.nsIn K mainGlobals "sorted" = some none)
    (z15 : PySem.W.nsIn K mainGlobals "ValueError" = some none)
    (m16 : PySem.W.nsIn K mainGlobals "GREATEST_LENGTH" = some (some (.int (10 ^ 9) t16)))
    (m17 : PySem.W.nsIn K mainGlobals "MOST_SLEEPERS" = some (some (.int (40) t17)))
    (a18 : PySem.W.nsIn K mainGlobals "_law_take" = some (some (.ref f18)))
    (l18 : K.lookup f18 = some ⟨oc18, od18, .func (PySem.W.fnOf "_law_take" "_law_take" (defArgs st_L_take) (defBody st_L_take) (defScope st_L_take) .none kV18 dc18 pm18 an18 cd18 ct18), sl18⟩)
    (c18 : PySem.W.codeIn K cd18 "_law_take" = true)
    (k18 : PySem.W.keepIn K (.ref f18) = true)
    (a19 : PySem.W.nsIn K mainGlobals "_law_bag" = some (some (.ref f19)))
    (l19 : K.lookup f19 = some ⟨oc19, od19, .func (PySem.W.fnOf "_law_bag" "_law_bag" (defArgs st_L_bag) (defBody st_L_bag) (defScope st_L_bag) .none kV19 dc19 pm19 an19 cd19 ct19), sl19⟩)
    (c19 : PySem.W.codeIn K cd19 "_law_bag" = true)
    (k19 : PySem.W.keepIn K (.ref f19) = true)
    (a20 : PySem.W.nsIn K mainGlobals "is_whole" = some (some (.ref f20)))
    (l20 : K.lookup f20 = some ⟨oc20, od20, .func (PySem.W.fnOf "is_whole" "is_whole" (defArgs st_is_whole) (defBody st_is_whole) (defScope st_is_whole) .none kV20 dc20 pm20 an20 cd20 ct20), sl20⟩)
    (c20 : PySem.W.codeIn K cd20 "is_whole" = true)
    (k20 : PySem.W.keepIn K (.ref f20) = true)
    (a21 : PySem.W.nsIn K mainGlobals "is_within" = some (some (.ref f21)))
    (l21 : K.lookup f21 = some ⟨oc21, od21, .func (PySem.W.fnOf "is_within" "is_within" (defArgs st_is_within) (defBody st_is_within) (defScope st_is_within) .none kV21 dc21 pm21 an21 cd21 ct21), sl21⟩)
    (c21 : PySem.W.codeIn K cd21 "is_within" = true)
    (k21 : PySem.W.keepIn K (.ref f21) = true)
    (a22 : PySem.W.nsIn K mainGlobals "is_length" = some (some (.ref f22)))
    (l22 : K.lookup f22 = some ⟨oc22, od22, .func (PySem.W.fnOf "is_length" "is_length" (defArgs st_is_length) (defBody st_is_length) (defScope st_is_length) .none kV22 dc22 pm22 an22 cd22 ct22), sl22⟩)
    (c22 : PySem.W.codeIn K cd22 "is_length" = true)
    (k22 : PySem.W.keepIn K (.ref f22) = true)
    (a23 : PySem.W.nsIn K mainGlobals "are_lengths" = some (some (.ref f23)))
    (l23 : K.lookup f23 = some ⟨oc23, od23, .func (PySem.W.fnOf "are_lengths" "are_lengths" (defArgs st_are_lengths) (defBody st_are_lengths) (defScope st_are_lengths) .none kV23 dc23 pm23 an23 cd23 ct23), sl23⟩)
    (c23 : PySem.W.codeIn K cd23 "are_lengths" = true)
    (k23 : PySem.W.keepIn K (.ref f23) = true)
    (a24 : PySem.W.nsIn K mainGlobals "plain" = some (some (.ref f24)))
    (l24 : K.lookup f24 = some ⟨oc24, od24, .func (PySem.W.fnOf "plain" "plain" (defArgs st_plain) (defBody st_plain) (defScope st_plain) .none kV24 dc24 pm24 an24 cd24 ct24), sl24⟩)
    (c24 : PySem.W.codeIn K cd24 "plain" = true)
    (k24 : PySem.W.keepIn K (.ref f24) = true)
    (a25 : PySem.W.nsIn K mainGlobals "_law_spans" = some (some (.ref f25)))
    (l25 : K.lookup f25 = some ⟨oc25, od25, .func (PySem.W.fnOf "_law_spans" "_law_spans" (defArgs st_L_spans) (defBody st_L_spans) (defScope st_L_spans) .none kV25 dc25 pm25 an25 cd25 ct25), sl25⟩)
    (c25 : PySem.W.codeIn K cd25 "_law_spans" = true)
    (k25 : PySem.W.keepIn K (.ref f25) = true)
    (a26 : PySem.W.nsIn K mainGlobals "_law_whole" = some (some (.ref f26)))
    (l26 : K.lookup f26 = some ⟨oc26, od26, .func (PySem.W.fnOf "_law_whole" "_law_whole" (defArgs st_L_whole) (defBody st_L_whole) (defScope st_L_whole) .none kV26 dc26 pm26 an26 cd26 ct26), sl26⟩)
    (c26 : PySem.W.codeIn K cd26 "_law_whole" = true)
    (k26 : PySem.W.keepIn K (.ref f26) = true)
    (a27 : PySem.W.nsIn K mainGlobals "_law_is_book" = some (some (.ref f27)))
    (l27 : K.lookup f27 = some ⟨oc27, od27, .func (PySem.W.fnOf "_law_is_book" "_law_is_book" (defArgs st_L_is_book) (defBody st_L_is_book) (defScope st_L_is_book) .none kV27 dc27 pm27 an27 cd27 ct27), sl27⟩)
    (c27 : PySem.W.codeIn K cd27 "_law_is_book" = true)
    (k27 : PySem.W.keepIn K (.ref f27) = true)
    (a28 : PySem.W.nsIn K mainGlobals "_law_odd" = some (some (.ref f28)))
    (l28 : K.lookup f28 = some ⟨oc28, od28, .func (PySem.W.fnOf "_law_odd" "_law_odd" (defArgs st_L_odd) (defBody st_L_odd) (defScope st_L_odd) .none kV28 dc28 pm28 an28 cd28 ct28), sl28⟩)
    (c28 : PySem.W.codeIn K cd28 "_law_odd" = true)
    (k28 : PySem.W.keepIn K (.ref f28) = true)
    (a29 : PySem.W.nsIn K mainGlobals "_law_handed" = some (some (.ref f29)))
    (l29 : K.lookup f29 = some ⟨oc29, od29, .func (PySem.W.fnOf "_law_handed" "_law_handed" (defArgs st_L_handed) (defBody st_L_handed) (defScope st_L_handed) .none kV29 dc29 pm29 an29 cd29 ct29), sl29⟩)
    (c29 : PySem.W.codeIn K cd29 "_law_handed" = true)
    (k29 : PySem.W.keepIn K (.ref f29) = true)
    (a30 : PySem.W.nsIn K mainGlobals "_law_refused" = some (some (.ref f30)))
    (l30 : K.lookup f30 = some ⟨oc30, od30, .func (PySem.W.fnOf "_law_refused" "_law_refused" (defArgs st_L_refused) (defBody st_L_refused) (defScope st_L_refused) .none kV30 dc30 pm30 an30 cd30 ct30), sl30⟩)
    (c30 : PySem.W.codeIn K cd30 "_law_refused" = true)
    (k30 : PySem.W.keepIn K (.ref f30) = true)
    (a31 : PySem.W.nsIn K mainGlobals "_law_made" = some (some (.ref f31)))
    (l31 : K.lookup f31 = some ⟨oc31, od31, .func (PySem.W.fnOf "_law_made" "_law_made" (defArgs st_L_made) (defBody st_L_made) (defScope st_L_made) .none kV31 dc31 pm31 an31 cd31 ct31), sl31⟩)
    (c31 : PySem.W.codeIn K cd31 "_law_made" = true)
    (k31 : PySem.W.keepIn K (.ref f31) = true)
    (a32 : PySem.W.nsIn K mainGlobals "_law_told" = some (some (.ref f32)))
    (l32 : K.lookup f32 = some ⟨oc32, od32, .func (PySem.W.fnOf "_law_told" "_law_told" (defArgs st_L_told) (defBody st_L_told) (defScope st_L_told) .none kV32 dc32 pm32 an32 cd32 ct32), sl32⟩)
    (c32 : PySem.W.codeIn K cd32 "_law_told" = true)
    (k32 : PySem.W.keepIn K (.ref f32) = true)
    (a33 : PySem.W.nsIn K mainGlobals "_law_sleeps" = some (some (.ref f33)))
    (l33 : K.lookup f33 = some ⟨oc33, od33, .func (PySem.W.fnOf "_law_sleeps" "_law_sleeps" (defArgs st_L_sleeps) (defBody st_L_sleeps) (defScope st_L_sleeps) .none kV33 dc33 pm33 an33 cd33 ct33), sl33⟩)
    (c33 : PySem.W.codeIn K cd33 "_law_sleeps" = true)
    (k33 : PySem.W.keepIn K (.ref f33) = true)
    (a34 : PySem.W.nsIn K mainGlobals "_law_right" = some (some (.ref f34)))
    (l34 : K.lookup f34 = some ⟨oc34, od34, .func (PySem.W.fnOf "_law_right" "_law_right" (defArgs st_L_right) (defBody st_L_right) (defScope st_L_right) .none kV34 dc34 pm34 an34 cd34 ct34), sl34⟩)
    (c34 : PySem.W.codeIn K cd34 "_law_right" = true)
    (k34 : PySem.W.keepIn K (.ref f34) = true)
    (a35 : PySem.W.nsIn K mainGlobals "law" = some (some (.ref f35)))
    (l35 : K.lookup f35 = some ⟨oc35, od35, .func (PySem.W.fnOf "law" "law" (defArgs st_law) (defBody st_law) (defScope st_law) .none kV35 dc35 pm35 an35 cd35 ct35), sl35⟩)
    (c35 : PySem.W.codeIn K cd35 "law" = true)
    (k35 : PySem.W.keepIn K (.ref f35) = true)
    (gC : PySem.W.nsIn K mainGlobals "Book" = some (some (.ref C)))
    (pgC : PySem.W.plainGet K C Str.empty = true)
    (hdC : PySem.W.hasDictIn K C = true)
    (poC : PySem.W.plainOver K C = true)
    (q36 : PySem.W.findIn K (.ref C) "__setattr__" = some (some (.builtin "object.__setattr__")))
    (hn : PySem.W.specialIn K (.builtin "object.__class__") "__get__" = some (some (.builtin "getset_descriptor.__get__")))
    (ht : PySem.W.takesIn K (.builtin "object.__class__") = some true)
    (q37 : PySem.W.findIn K (.ref C) "kept" = some none)
    (q38 : PySem.W.findIn K (.ref C) "__class__" = some (some (.builtin "object.__class__")))
    (moC : PySem.W.mroIn K C (.type "object") = some true)
    (q39 : PySem.W.findIn K (.ref C) "__ne__" = some (some (.builtin "object.__ne__")))
    (suC : PySem.W.subIn K (.ref C) (.type "object") = some true)
    (clC : PySem.W.isClsIn K C = true)
    (tyC : PySem.W.typeIn K (.ref C) = some (.type "type"))
    (mkC : PySem.W.makesIn K C = true)
    (kpC : PySem.W.keepIn K (.ref C) = true)
    (a40 : PySem.W.findIn K (.ref C) "__init__" = some (some (.ref f40)))
    (l40 : K.lookup f40 = some ⟨oc40, od40, .func (PySem.W.fnOf "__init__" "Book.__init__" (defArgs st_Book_init) (defBody st_Book_init) (defScope st_Book_init) .none kV40 dc40 pm40 an40 cd40 ct40), sl40⟩)
    (c40 : PySem.W.codeIn K cd40 "Book.__init__" = true)
    (k40 : PySem.W.keepIn K (.ref f40) = true)
    (n40 : PySem.W.isFn K (.ref f40) = true)
    (a41 : PySem.W.findIn K (.ref C) "lengths" = some (some (.ref f41)))
    (l41 : K.lookup f41 = some ⟨oc41, od41, .func (PySem.W.fnOf "lengths" "Book.lengths" (defArgs st_Book_lengths) (defBody st_Book_lengths) (defScope st_Book_lengths) .none kV41 dc41 pm41 an41 cd41 ct41), sl41⟩)
    (c41 : PySem.W.codeIn K cd41 "Book.lengths" = true)
    (k41 : PySem.W.keepIn K (.ref f41) = true)
    (n41 : PySem.W.isFn K (.ref f41) = true)
    (a42 : PySem.W.findIn K (.ref C) "sleep" = some (some (.ref f42)))
    (l42 : K.lookup f42 = some ⟨oc42, od42, .func (PySem.W.fnOf "sleep" "Book.sleep" (defArgs st_Book_sleep) (defBody st_Book_sleep) (defScope st_Book_sleep) .none kV42 dc42 pm42 an42 cd42 ct42), sl42⟩)
    (c42 : PySem.W.codeIn K cd42 "Book.sleep" = true)
    (k42 : PySem.W.keepIn K (.ref f42) = true)
    (n42 : PySem.W.isFn K (.ref f42) = true)
    (a43 : PySem.W.findIn K (.ref C) "__eq__" = some (some (.ref f43)))
    (l43 : K.lookup f43 = some ⟨oc43, od43, .func (PySem.W.fnOf "__eq__" "Book.__eq__" (defArgs st_Book_eq) (defBody st_Book_eq) (defScope st_Book_eq) .none kV43 dc43 pm43 an43 cd43 ct43), sl43⟩)
    (c43 : PySem.W.codeIn K cd43 "Book.__eq__" = true)
    (k43 : PySem.W.keepIn K (.ref f43) = true)
    (n43 : PySem.W.isFn K (.ref f43) = true)
    (a44 : PySem.W.findIn K (.ref C) "__len__" = some (some (.ref f44)))
    (l44 : K.lookup f44 = some ⟨oc44, od44, .func (PySem.W.fnOf "__len__" "Book.__len__" (defArgs st_Book_len) (defBody st_Book_len) (defScope st_Book_len) .none kV44 dc44 pm44 an44 cd44 ct44), sl44⟩)
    (c44 : PySem.W.codeIn K cd44 "Book.__len__" = true)
    (k44 : PySem.W.keepIn K (.ref f44) = true)
    (n44 : PySem.W.isFn K (.ref f44) = true)
    (a45 : PySem.W.findIn K (.ref C) "__repr__" = some (some (.ref f45)))
    (l45 : K.lookup f45 = some ⟨oc45, od45, .func (PySem.W.fnOf "__repr__" "Book.__repr__" (defArgs st_Book_repr) (defBody st_Book_repr) (defScope st_Book_repr) .none kV45 dc45 pm45 an45 cd45 ct45), sl45⟩)
    (c45 : PySem.W.codeIn K cd45 "Book.__repr__" = true)
    (k45 : PySem.W.keepIn K (.ref f45) = true)
    (n45 : PySem.W.isFn K (.ref f45) = true)
    (gSE : PySem.W.nsIn K mainGlobals "SleepError" = some (some (.ref SE)))
    (gWR : PySem.W.nsIn K mainGlobals "Wrong" = some (some (.ref WR)))
    (gNS : PySem.W.nsIn K mainGlobals "NotSo" = some (some (.ref NS)))
    (gTG : PySem.W.nsIn K mainGlobals "TooGreat" = some (some (.ref TG)))
    (gTM : PySem.W.nsIn K mainGlobals "TooMany" = some (some (.ref TM)))
    (xL : K.lookup WR = some (excClassObj nm q WR N bs [.ref SE, .type "ValueError", .type "Exception", .type "BaseException", .type "object"] true sn sub ab col dd m0 m1 m2 m3 m5 "ValueError.__new__"))
    (eT : PySem.W.subIn K (.ref WR) (.type "BaseException") = some true)
    (tT : PySem.W.typeIn K (.ref WR) = some (.type "type"))
    (kT : PySem.W.keepIn K (.ref WR) = true)
    (q46 : PySem.W.findIn K (.ref WR) "__setattr__" = some (some (.builtin "object.__setattr__")))
    (a47 : PySem.W.findIn K (.ref WR) "__init__" = some (some (.ref f47)))
    (l47 : K.lookup f47 = some ⟨oc47, od47, .func (PySem.W.fnOf "__init__" "Wrong.__init__" (defArgs st_Wrong_init) (defBody st_Wrong_init) (defScope st_Wrong_init) .none kV47 dc47 pm47 an47 cd47 ct47), sl47⟩)
    (c47 : PySem.W.codeIn K cd47 "Wrong.__init__" = true)
    (k47 : PySem.W.keepIn K (.ref f47) = true)
    (n47 : PySem.W.isFn K (.ref f47) = true)
    (tI : PySem.W.typeIn K (.ref f47) = some (.type "function"))
    (q48 : PySem.W.findIn K (.ref WR) "__getattribute__" = some (some (.builtin "BaseException.__getattribute__")))
    (q49 : PySem.W.findIn K (.ref WR) "__getattr__" = some none)
    (hdT : PySem.W.hasDictIn K WR = true)
    (q50 : PySem.W.findIn K (.ref WR) "__class__" = some (some (.builtin "object.__class__")))
    (moT : PySem.W.mroIn K WR (.type "object") = some true)
    (q51 : PySem.W.findIn K (.ref WR) "at" = some none)
    (eS : PySem.W.subIn K (.ref SE) (.type "BaseException") = some true)
    (hdS : PySem.W.hasDictIn K SE = true)
    (tS : PySem.W.typeIn K (.ref SE) = some (.type "type"))
    (sTS : PySem.W.subIn K (.ref WR) (.ref SE) = some true)
    (sTV : PySem.W.subIn K (.ref WR) (.type "ValueError") = some true)
    (neNS : (WR == NS) = false)
    (clNS : PySem.W.isClsIn K NS = true)
    (tyNS : PySem.W.typeIn K (.ref NS) = some (.type "type"))
    (suNS : PySem.W.subIn K (.ref WR) (.ref NS) = some false)
    (neTG : (WR == TG) = false)
    (clTG : PySem.W.isClsIn K TG = true)
    (tyTG : PySem.W.typeIn K (.ref TG) = some (.type "type"))
    (suTG : PySem.W.subIn K (.ref WR) (.ref TG) = some false)
    (neTM : (WR == TM) = false)
    (clTM : PySem.W.isClsIn K TM = true)
    (tyTM : PySem.W.typeIn K (.ref TM) = some (.type "type"))
    (suTM : PySem.W.subIn K (.ref WR) (.ref TM) = some false)
    : Top K mg C SE WR NS TG TM := 
    { B := ⟨⟨PySem.W.mg_none_of X G z0, PySem.W.mg_none_of X G z1, PySem.W.mg_none_of X G z2, PySem.W.mg_none_of X G z3, PySem.W.mg_none_of X G z4, PySem.W.mg_none_of X G z5, PySem.W.mg_none_of X G z6, PySem.W.mg_none_of X G z7, PySem.W.mg_none_of X G z8, PySem.W.mg_none_of X G z9, PySem.W.mg_none_of X G z10, PySem.W.mg_none_of X G z11⟩, PySem.W.mg_none_of X G z12, PySem.W.mg_none_of X G z13, PySem.W.mg_none_of X G z14, PySem.W.mg_none_of X G z15⟩, M := ⟨int_in X G m16, int_in X G m17⟩,
      d_L_take := def_in X G a18 l18 c18 k18,
      d_L_bag := def_in X G a19 l19 c19 k19,
      d_is_whole := def_in X G a20 l20 c20 k20,
      d_is_within := def_in X G a21 l21 c21 k21,
      d_is_length := def_in X G a22 l22 c22 k22,
      d_are_lengths := def_in X G a23 l23 c23 k23,
      d_plain := def_in X G a24 l24 c24 k24,
      d_L_spans := def_in X G a25 l25 c25 k25,
      d_L_whole := def_in X G a26 l26 c26 k26,
      d_L_is_book := def_in X G a27 l27 c27 k27,
      d_L_odd := def_in X G a28 l28 c28 k28,
      d_L_handed := def_in X G a29 l29 c29 k29,
      d_L_refused := def_in X G a30 l30 c30 k30,
      d_L_made := def_in X G a31 l31 c31 k31,
      d_L_told := def_in X G a32 l32 c32 k32,
      d_L_sleeps := def_in X G a33 l33 c33 k33,
      d_L_right := def_in X G a34 l34 c34 k34,
      d_law := def_in X G a35 l35 c35 k35,
      bk := ⟨⟨pgC, hdC, poC, q36⟩, q37, (PySem.W.mg_of X G gC), q38, hn, ht, moC⟩, ne := ⟨q39, suC⟩, bk2 := ⟨clC, tyC⟩, makes := mkC, kpC := kpC,
      m_Book_init := meth_in a40 l40 c40 k40 n40,
      m_Book_lengths := meth_in a41 l41 c41 k41 n41,
      m_Book_sleep := meth_in a42 l42 c42 k42 n42,
      m_Book_eq := meth_in a43 l43 c43 k43 n43,
      m_Book_len := meth_in a44 l44 c44 k44 n44,
      m_Book_repr := meth_in a45 l45 c45 k45 n45,
      er := ⟨(PySem.W.mg_of X G gSE), (PySem.W.mg_of X G gWR), (PySem.W.mg_of X G gNS), (PySem.W.mg_of X G gTG), (PySem.W.mg_of X G gTM), (PySem.W.exm_ref eS hdS tS sTS), ⟨q48, q49, eT, hdT, q50, hn, ht, moT⟩, (kit_ty (by decide +kernel) sTV), (kit_no3 (kit_no neNS clNS tyNS suNS) (kit_no neTG clTG tyTG suTG) (kit_no neTM clTM tyTM suTM)), ⟨q48, q49, eT, hdT⟩, q51⟩, oex := ⟨⟨nm, q, N, bs, _, sn, sub, ab, col, dd, m0, m1, m2, m3, m5, xL, refs_se⟩, q46, eT, tT, kT⟩,
      m_tg := ⟨_, _, fun_mk l47 c47 k47, a47, tI⟩ }
end Kk
open PySem PySem.W PyProof.Rows
set_option maxRecDepth 100000 in
set_option maxHeartbeats 0 in
theorem PySem.Challenge.cw_sleepmany_k14_books_told_refused_holds : PySem.Challenge.rw_sleepmany_k14_books_told_refused.Holds := by
  w_on; o_law; k_head; (case hw => w_witness2)
  k_fill
  refine Lb.walkG (l := PySem.Challenge.rw_sleepmany_k14_books_told_refused) (n := 63) (k := 11) (x := "_law_script") (sp := Kk.spLaw) rfl (by decide) rfl ⟨rfl, by decide, by decide⟩ (fun w h Y => PySem.W.kIn_of Y) ?F (fun K H a ns hl _ _ hS => ⟨a, ns, rfl, hS, hl, fun _ => rfl⟩)
  case F =>
    intro w mg fa h KX G hmg
    refine' Kk.all_mk (Kk.top_mk KX G ?z0 ?z1 ?z2 ?z3 ?z4 ?z5 ?z6 ?z7 ?z8 ?z9 ?z10 ?z11 ?z12 ?z13 ?z14 ?z15 ?m16 ?m17 ?a18 ?l18 ?c18 ?k18 ?a19 ?l19 ?c19 ?k19 ?a20 ?l20 ?c20 ?k20 ?a21 ?l21 ?c21 ?k21 ?a22 ?l22 ?c22 ?k22 ?a23 ?l23 ?c23 ?k23 ?a24 ?l24 ?c24 ?k24 ?a25 ?l25 ?c25 ?k25 ?a26 ?l26 ?c26 ?k26 ?a27 ?l27 ?c27 ?k27 ?a28 ?l28 ?c28 ?k28 ?a29 ?l29 ?c29 ?k29 ?a30 ?l30 ?c30 ?k30 ?a31 ?l31 ?c31 ?k31 ?a32 ?l32 ?c32 ?k32 ?a33 ?l33 ?c33 ?k33 ?a34 ?l34 ?c34 ?k34 ?a35 ?l35 ?c35 ?k35 ?gC ?pgC ?hdC ?poC ?q36 ?hn ?ht ?q37 ?q38 ?moC ?q39 ?suC ?clC ?tyC ?mkC ?kpC ?a40 ?l40 ?c40 ?k40 ?n40 ?a41 ?l41 ?c41 ?k41 ?n41 ?a42 ?l42 ?c42 ?k42 ?n42 ?a43 ?l43 ?c43 ?k43 ?n43 ?a44 ?l44 ?c44 ?k44 ?n44 ?a45 ?l45 ?c45 ?k45 ?n45 ?gSE ?gWR ?gNS ?gTG ?gTM ?xL ?eT ?tT ?kT ?q46 ?a47 ?l47 ?c47 ?k47 ?n47 ?tI ?q48 ?q49 ?hdT ?q50 ?moT ?q51 ?eS ?hdS ?tS ?sTS ?sTV ?neNS ?clNS ?tyNS ?suNS ?neTG ?clTG ?tyTG ?suTG ?neTM ?clTM ?tyTM ?suTM) hmg
    (case z0 => k_is)
    (case z1 => k_is)
    (case z2 => k_is)
    (case z3 => k_is)
    (case z4 => k_is)
    (case z5 => k_is)
    (case z6 => k_is)
    (case z7 => k_is)
    (case z8 => k_is)
    (case z9 => k_is)
    (case z10 => k_is)
    (case z11 => k_is)
    (case z12 => k_is)
    (case z13 => k_is)
    (case z14 => k_is)
    (case z15 => k_is)
    (case m16 => k_is)
    (case m17 => k_is)
    (case a18 => k_is)
    (case l18 => k_is)
    (case c18 => k_is)
    (case k18 => k_is)
    (case a19 => k_is)
    (case l19 => k_is)
    (case c19 => k_is)
    (case k19 => k_is)
    (case a20 => k_is)
    (case l20 => k_is)
    (case c20 => k_is)
    (case k20 => k_is)
    (case a21 => k_is)
    (case l21 => k_is)
    (case c21 => k_is)
    (case k21 => k_is)
    (case a22 => k_is)
    (case l22 => k_is)
    (case c22 => k_is)
    (case k22 => k_is)
    (case a23 => k_is)
    (case l23 => k_is)
    (case c23 => k_is)
    (case k23 => k_is)
    (case a24 => k_is)
    (case l24 => k_is)
    (case c24 => k_is)
    (case k24 => k_is)
    (case a25 => k_is)
    (case l25 => k_is)
    (case c25 => k_is)
    (case k25 => k_is)
    (case a26 => k_is)
    (case l26 => k_is)
    (case c26 => k_is)
    (case k26 => k_is)
    (case a27 => k_is)
    (case l27 => k_is)
    (case c27 => k_is)
    (case k27 => k_is)
    (case a28 => k_is)
    (case l28 => k_is)
    (case c28 => k_is)
    (case k28 => k_is)
    (case a29 => k_is)
    (case l29 => k_is)
    (case c29 => k_is)
    (case k29 => k_is)
    (case a30 => k_is)
    (case l30 => k_is)
    (case c30 => k_is)
    (case k30 => k_is)
    (case a31 => k_is)
    (case l31 => k_is)
    (case c31 => k_is)
    (case k31 => k_is)
    (case a32 => k_is)
    (case l32 => k_is)
    (case c32 => k_is)
    (case k32 => k_is)
    (case a33 => k_is)
    (case l33 => k_is)
    (case c33 => k_is)
    (case k33 => k_is)
    (case a34 => k_is)
    (case l34 => k_is)
    (case c34 => k_is)
    (case k34 => k_is)
    (case a35 => k_is)
    (case l35 => k_is)
    (case c35 => k_is)
    (case k35 => k_is)
    (case gC => k_is)
    (case pgC => k_is)
    (case hdC => k_is)
    (case poC => k_is)
    (case q36 => k_is)
    (case hn => k_is)
    (case ht => k_is)
    (case q37 => k_is)
    (case q38 => k_is)
    (case moC => k_is)
    (case q39 => k_is)
    (case suC => k_is)
    (case clC => k_is)
    (case tyC => k_is)
    (case mkC => k_is)
    (case kpC => k_is)
    (case a40 => k_is)
    (case l40 => k_is)
    (case c40 => k_is)
    (case k40 => k_is)
    (case n40 => k_is)
    (case a41 => k_is)
    (case l41 => k_is)
    (case c41 => k_is)
    (case k41 => k_is)
    (case n41 => k_is)
    (case a42 => k_is)
    (case l42 => k_is)
    (case c42 => k_is)
    (case k42 => k_is)
    (case n42 => k_is)
    (case a43 => k_is)
    (case l43 => k_is)
    (case c43 => k_is)
    (case k43 => k_is)
    (case n43 => k_is)
    (case a44 => k_is)
    (case l44 => k_is)
    (case c44 => k_is)
    (case k44 => k_is)
    (case n44 => k_is)
    (case a45 => k_is)
    (case l45 => k_is)
    (case c45 => k_is)
    (case k45 => k_is)
    (case n45 => k_is)
    (case gSE => k_is)
    (case gWR => k_is)
    (case gNS => k_is)
    (case gTG => k_is)
    (case gTM => k_is)
    (case xL => k_is)
    (case eT => k_is)
    (case tT => k_is)
    (case kT => k_is)
    (case q46 => k_is)
    (case a47 => k_is)
    (case l47 => k_is)
    (case c47 => k_is)
    (case k47 => k_is)
    (case n47 => k_is)
    (case tI => k_is)
    (case q48 => k_is)
    (case q49 => k_is)
    (case hdT => k_is)
    (case q50 => k_is)
    (case moT => k_is)
    (case q51 => k_is)
    (case eS => k_is)
    (case hdS => k_is)
    (case tS => k_is)
    (case sTS => k_is)
    (case sTV => k_is)
    (case neNS => rfl)
    (case clNS => k_is)
    (case tyNS => k_is)
    (case suNS => k_is)
    (case neTG => rfl)
    (case clTG => k_is)
    (case tyTG => k_is)
    (case suTG => k_is)
    (case neTM => rfl)
    (case clTM => k_is)
    (case tyTM => k_is)
    (case suTM => k_is)
#print axioms PySem.Challenge.cw_sleepmany_k14_books_told_refused_holds

