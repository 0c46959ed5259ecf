import PyProof.Rows.All
import Wide.All
import OpenK.AllK
import Wide.FinOn
import HandS.ForMost
import HandS.ExcInit
import HandS.IsInst
import HandS.Wide
import HandS.EndBits
import HandS.ExcField
import KE.KExcIs
import HandS.ExcIs
import HandS.ExcOwn
import HandS.ExcValue
import HandS.Evl
import HandS.Zip
import HandS.ForExc
import HandS.Gcd
import HandS.Style
import HandS.Dict
import KE.KDictKeyed
import HandS.Lambda
import HandS.Iter
import KE.KMathGC
import KE.SortData
import HandS.OwnEq
import HandS.Deep
import HandS.TupMul
import HandS.List
import KE.DataMinMax
import HandS.Conv
import HandS.TupAny
import HandS.TryMany
import HandS.EndTab
import HandS.CallLocal
import PyProof.StrOps2
import PySem.Challenge.RW_allbids_k09_gains
set_option Elab.async false
set_option linter.all false
set_option maxRecDepth 100000
set_option maxHeartbeats 4000000
/-! ## GG: calls around which no repr is under way -/
namespace GG
open PySem PySem.Spec PyProof.Rows L2
section
variable {P : Program} {w : World} {K : PySem.W.Frag} {mg : Str → Option Value} {base : Heap}

/-- the def at f keeps sp wherever nothing guarded is under way -/
structure FnG (P : Program) (w : World) (K : PySem.W.Frag) (mg : Str → Option Value) (base : Heap) (k : Nat) (f : Addr) (fd : FuncData) (ps : List Str) (sp : Sp) : Prop where
  cnt : ∀ vs H Q E, sp vs H Q E → vs.length = ps.length
  go : ∀ (A : Around) (out : List Env) (s : Shared) (H : Hp) (args : Args) (us : List Value) (vs : List V) (Q : VK) (E : XK), A.guards = some [] → Room k A →
    Env0 P w K mg base A out s H → BindsTo s fd args (ps.zip us) → Vals vs us → sp vs H Q E → codeAny (model P w) A (.call (.ref f) args) (CR CX0 out P w H s Q E) s

theorem FnG.of {k : Nat} {f : Addr} {fd : FuncData} {ps : List Str} {sp : Sp} (F : FnOk P w K mg base CX0 k f fd ps sp) : FnG P w K mg base k f fd ps sp :=
  ⟨F.len, fun A out s H args us vs Q E _ room => F.run A out s H args us vs Q E room⟩

theorem fnG {x qual : Str} {st : Stmt} {f : Addr} {fd : FuncData} {N ps : List Str} {k : Nat} {sp : Sp} (F : Fun K x qual st f fd) (S : FnScope N ps (defScope st)) (cnt : ∀ vs H Q E, sp vs H Q E → vs.length = ps.length)
    (body : ∀ (cdv : Value) (A : Around) (out : List Env) (s : Shared) (H : Hp) (vs : List V) (Q : VK) (E : XK), A.guards = some [] → Room k (A.deeper (envOfC qual (defScope st) s.heap.objs.size f cdv)) → sp vs H Q E →
      ∃ t, PSs (cxOf CX0 P w K mg base N qual (defScope st) f cdv A out s H E).nox (defBody st) t ∧ t { nx := fun _ H' => Q .non H', rt := Q } (start N vs) H) :
    FnG P w K mg base (k + 1) f fd ps sp := by
  obtain ⟨oc, od, kV, doc, pm, an, cdv, ct, osl, rfl, look, code⟩ := F.ex
  refine ⟨cnt, ?_⟩
  intro A out s H args us vs Q E noG room env bnd rel prom
  have many := cnt _ _ _ _ prom
  have inK : K.In s.heap := env.mod.kin.keeps fun b o q => (env.bs b o q).1
  have free : s.heap.NoLimit := env.mod.nolimit.keeps fun b o q => (env.bs b o q).1
  have kinds : ∀ y ∈ ps.zip us, (defScope st).names.lookup y.1 = some .local ∨ ((defScope st).names.lookup y.1 = some .cell ∧ ((cellsFrom (s.heap.objs.size + 1) (defScope st).names []).lookup y.1).isSome = true) := by
    rintro ⟨n, v⟩ my
    cases S.par n (List.of_mem_zip my).1 with
    | inl q => exact .inl q
    | inr q => exact .inr ⟨q, PySem.W.cellsFrom_some _ _ _ (.inl q)⟩
  refine codeAny_call_function room.depth (inK _ _ look) rfl S.co S.gen rfl (PySem.W.codeRec_of inK code) (bnd _ _ _ _ ?_)
  refine wpAny_newFunctionEnv_cells S.kind kinds fun env' he s1 inC => ?_
  subst he
  refine ⟨free.keeps inC.toInCall.keep, codeAny_func ?_⟩
  obtain ⟨t, ht, start0⟩ := body cdv A out s H vs Q E noG (room.deeper _) prom
  have J := inv_start (E := E) (CX := CX0) S room.hd env many rel inC
  refine wpAny_mono (ht.nox.run [] s1 (start N vs) H _ J start0) (fun fl s' res => ?_) (fun _ _ q => q)
  cases fl with
  | ret u =>
    obtain ⟨v, σ', H', J', rv, q⟩ := res
    exact ⟨v, H', J'.os, J'.bare, J'.base, J'.hok, rv, q⟩
  | next =>
    obtain ⟨σ', H', J', q⟩ := res
    exact ⟨.non, H', J'.os, J'.bare, J'.base, J'.hok, rfl, q⟩
  | brk => exact (res.choose_spec.choose_spec.2 : False).elim
  | cont => exact (res.choose_spec.choose_spec.2 : False).elim
end
end GG

namespace GG
open PySem PySem.Spec PyProof.Rows L2
section
variable {P : Program} {w : World} {K : PySem.W.Frag} {mg mb : Str → Option Value} {k : Nat} {fa a : Addr} {fd : FuncData} {x : Str} {sp : Sp} {s1 : Shared} {vs : List Value} {ns : List Int}

/-- what is tracked at the law's start: the script, unless the module owns it -/
noncomputable def startH (K : PySem.W.Frag) (a : Addr) (vs : List Value) (ns : List Int) : Hp := fun b =>
  if b = a ∧ K.lookup a = none then some (.frz { cls := .type "list", data := .seq vs.toArray } (.lst (ns.map V.int))) else none
theorem startH_some {b : Addr} {u : HO} (e : startH K a vs ns b = some u) : b = a ∧ K.lookup a = none ∧ u = .frz { cls := .type "list", data := .seq vs.toArray } (.lst (ns.map V.int)) := by
  unfold startH at e
  split at e
  · rename_i q
    exact ⟨q.1, q.2, (Option.some.inj e).symm⟩
  · cases e
theorem startH_none {b : Addr} (n : b ≠ a) : startH K a vs ns b = none := if_neg fun q => n q.1

theorem lawG (KX : K.In s1.heap) (hns : s1.heap.Ns mainGlobals mg) (hb : s1.heap.Ns builtinsNs mb) (hbb : ∀ x : Str, x ≠ "__name__" → mb x = bootBuiltins x) (hlim : s1.heap.NoLimit) (hg : s1.gens = #[])
    (ha : s1.heap.get? a = some { cls := .type "list", data := .seq vs.toArray }) (hi : IntsAre vs ns) (hl : ns.length ≤ sizeLine) (hr : Room k callerA)
    (F : ∀ base : Heap, K.In base → base.Ns mainGlobals mg → FnG P w K mg base k fa fd [x] sp) (hbind : ∀ (s : Shared) (u : Value), BindsTo s fd ⟨[u], []⟩ [(x, u)])
    (hsp : ∀ H : Hp, Only H → SqL K H a (ns.map V.int) → sp [.ref a] H (fun v _ => v = .bl true) fun _ _ _ => False) :
    codeAny (model P w) callerA (.call (.ref fa) ⟨[.ref a], []⟩) (fun r s' => r = .ok (.ret (.bool true)) ∧ OldK s1.heap s'.heap ∧ s'.os = s1.os ∧ AllBare s'.gens) s1 := by
  have rv := vals_ints hi
  let H : Hp := startH K a vs ns
  have only : Only H := fun b => by
    cases e : H b with
    | none => exact .inl rfl
    | some u =>
      obtain ⟨_, _, q⟩ := startH_some e
      exact .inr ⟨_, _, by rw [q]⟩
  have held : HOk P w H s1.heap := fun b u e => by
    obtain ⟨q1, _, q2⟩ := startH_some e
    subst q1 q2
    exact ⟨ha, by rw [List.length_map]; exact hl, vs, _, rv, ha⟩
  have dictFree : ∀ {b : Addr} {o : Obj} {es : Array DictEntry} {ep : Nat}, s1.heap.get? b = some o → o.data = .dict es ep → H b = none := fun {b o es ep} e d => startH_none fun z => by
    subst z
    cases e.symm.trans ha
    cases d
  have stays : ∀ {b : Addr} {m : Str → Option Value}, s1.heap.Ns b m → (hidT s1.heap H).Ns b m := fun {b m} ⟨o, es, ep, e, d, r⟩ => ⟨o, es, ep, hidT_get e (dictFree e d), d, r⟩
  have KB : K.In (hidT s1.heap H) := fun b o e => hidT_get (KX b o e) (by
    cases q : H b with
    | none => rfl
    | some u =>
      obtain ⟨q1, q2, _⟩ := startH_some q
      subst q1
      cases e.symm.trans q2)
  have M : L2.Mod K mg (hidT s1.heap H) := ⟨KB, stays hns, ⟨mb, stays hb, hbb⟩, hlim.elim fun mc q => ⟨mc, stays q.1, q.2⟩⟩
  have env : Env0 P w K mg (hidT s1.heap H) callerA [] s1 H := ⟨rfl, M, fun b o e => of_hidT e, Nat.le_of_eq (hidT_size _ _), trivial, (fun b z => absurd (show b ∈ ([] : List Addr) from z) List.not_mem_nil), held, .of_eq hg⟩
  have script : SqL K H a (ns.map V.int) := by
    cases q : K.lookup a with
    | none => exact .inl (.inr ⟨_, if_pos ⟨rfl, q⟩⟩)
    | some o =>
      cases (KX a o q).symm.trans ha
      exact .inr ⟨_, vs.toArray, _, q, rfl, rfl, rfl, by rw [List.size_toArray, hi.length]; exact hl, by simpa using rv⟩
  refine codeAny_mono ((F _ KB (stays hns)).go callerA [] s1 H ⟨[.ref a], []⟩ [.ref a] [.ref a] _ _ rfl hr env (hbind s1 (.ref a)) (.cons rfl .nil) (hsp H only script)) fun r s' res => ?_
  cases r with
  | error e => exact (show False from res).elim
  | ok fl =>
    cases fl with
    | next => exact (show False from res).elim
    | brk => exact (show False from res).elim
    | cont => exact (show False from res).elim
    | ret u =>
      obtain ⟨v, H', os, bare, un, ok', rr, q⟩ := res
      obtain rfl : v = .bl true := q
      cases (show u = Value.bool true from rr)
      refine ⟨rfl, OldK.of_keep fun b o e => ?_, os, bare⟩
      cases z : H b with
      | none => exact un.keep b o e z (fun m => absurd (show b ∈ ([] : List Addr) from m) List.not_mem_nil) (fun m => absurd (show b ∈ ([] : List Addr) from m) List.not_mem_nil)
      | some t =>
        obtain ⟨q1, _, q2⟩ := startH_some z
        subst q2
        have z2 := un.frzs b _ _ z
        have e1 := (held b _ z).1
        rw [e] at e1
        cases e1
        exact (ok' b _ z2).1
end
theorem walkG {l : PySem.W.OpenLaw} {n k : Nat} {q : Program} {loose : List Str} {XP : (Str → Option Value) → Heap → Prop} {YP : World → Heap → Prop} {d : DefRec} {K : Params → PySem.W.Frag} {sp : World → Sp} {x : Str}
    (hn : l.most = some n) (small : n ≤ sizeLine) (dflt : d.params.defaults = []) (room : Room k callerA) (inY : ∀ (w : World) (h : Heap), YP w h → (K w.params).In h)
    (F : ∀ (w : World) (mg : Str → Option Value) (fa : Addr) (h : Heap), (K w.params).In h → h.Ns mainGlobals mg → mg d.name = some (.ref fa) →
      ∃ fd : FuncData, (∀ (s : Shared) (u : Value), BindsTo s fd ⟨[u], []⟩ [(x, u)]) ∧ ∀ base : Heap, (K w.params).In base → base.Ns mainGlobals mg → FnG l.prog w (K w.params) mg base k fa fd [x] (sp w))
    (start : ∀ (w : World) (H : Hp) (a : Addr) (ns : List Int), ns.length ≤ n → (∀ z ∈ ns, Builtin.Int.intBits z ≤ 1048576) → Only H → SqL (K w.params) H a (ns.map V.int) → sp w [.ref a] H (fun v _ => v = .bl true) fun _ _ _ => False) :
    PySem.W.WalkO q loose XP YP l.row.toRowW d [] (fun f vs => PySem.call f vs) := by
  refine Att.attach_callB hn dflt ?_
  intro w s0 s1 mg mb fa o pm cd doc a vs ns G Y _ _ _ named obj hi len bits gens
  obtain ⟨fd, bound, fns⟩ := F w mg fa _ (inY w _ Y) G.T.g named
  exact lawG (inY w _ Y) G.T.g G.T.b G.T.builtins G.T.nolimit gens obj hi (Nat.le_trans len small) room fns bound fun H o' q' => start w H a ns len bits o' q'
end GG

namespace GG
open PySem PySem.Spec PyProof.Rows L2

/-! ### data and their repr -/
/-- where nothing guarded is under way, v is the datum d in each state that H describes -/
def Dt (X : Cx) (H : Hp) (v : V) (d : PyData) : Prop := ∀ (pins : List (Addr × Obj)) (σ : L2.St) (s : Shared) (u : Value), Inv X pins σ H s → RelV v u → ∃ as, Reads s.heap u d as ∧ sysModules ∉ as
def DtAll (X : Cx) (H : Hp) (vs : List V) (ds : List PyData) : Prop := ∀ (pins : List (Addr × Obj)) (σ : L2.St) (s : Shared) (us : List Value), Inv X pins σ H s → Vals vs us → ∃ as, ReadsAll s.heap us ds as ∧ sysModules ∉ as
section
variable {X : Cx} {H : Hp}
theorem Dt.non : Dt X H .non .none := fun _ _ _ _ _ r => by
  cases r
  exact ⟨_, .none, List.not_mem_nil⟩
theorem Dt.bl (b : Bool) : Dt X H (.bl b) (.bool b) := fun _ _ _ _ _ r => by
  cases r
  exact ⟨_, .bool b, List.not_mem_nil⟩
theorem Dt.int (i : Int) : Dt X H (.int i) (.int i) := fun _ _ _ _ _ r => by
  obtain ⟨t, rfl⟩ := r
  exact ⟨_, .int i t, List.not_mem_nil⟩
theorem Dt.str (x : Str) : Dt X H (.str x) (.str x) := fun _ _ _ _ _ r => by
  obtain ⟨t, rfl⟩ := r
  exact ⟨_, .str x t, List.not_mem_nil⟩
theorem DtAll.nil : DtAll X H [] [] := fun _ _ _ _ _ r => by
  cases r
  exact ⟨_, .nil, List.not_mem_nil⟩
theorem DtAll.cons {v : V} {vs : List V} {d : PyData} {ds : List PyData} (h : Dt X H v d) (t : DtAll X H vs ds) : DtAll X H (v :: vs) (d :: ds) := fun p σ s us I r => by
  cases r with
  | cons r1 r2 =>
    obtain ⟨as, q1, n1⟩ := h p σ s _ I r1
    obtain ⟨bs, q2, n2⟩ := t p σ s _ I r2
    exact ⟨_, .cons q1 q2, fun m => (List.mem_append.mp m).elim n1 n2⟩
theorem Dt.lst {a : Addr} {xs : List V} {ds : List PyData} (e : H a = some (.lst xs)) (ne : a ≠ sysModules) (t : DtAll X H xs ds) : Dt X H (.ref a) (.list ds) := fun p σ s u I r => by
  cases r
  obtain ⟨_, its, n, rv, ho⟩ := (show ObjOk X.prog X.w H s.heap a (.lst xs) from I.hok a _ e)
  obtain ⟨as, q, nm⟩ := t p σ s its I rv
  exact ⟨_, .list ho rfl rfl (by rw [List.toList_toArray]; exact q), fun m => (List.mem_cons.mp m).elim (fun z => ne z.symm) nm⟩
theorem Dt.tup {a : Addr} {xs : List V} {ds : List PyData} (e : H a = some (.tup xs)) (t : DtAll X H xs ds) : Dt X H (.ref a) (.tuple ds) := fun p σ s u I r => by
  cases r
  obtain ⟨_, its, rv, o, ho, hc, n, hd⟩ := (show ObjOk X.prog X.w H s.heap a (.tup xs) from I.hok a _ e)
  obtain ⟨as, q, nm⟩ := t p σ s its I rv
  exact ⟨_, .tuple ho hc hd (by rw [List.toList_toArray]; exact q), nm⟩
theorem Dt.dict1 {a : Addr} {k : Str} {v : V} {d : PyData} (e : H a = some (.dK [(.inr k, v)])) (t : Dt X H v d) : Dt X H (.ref a) (.dict [(.str k, d)]) := fun p σ s u I r => by
  cases r
  obtain ⟨_, ne, vs, kv, o, es, ep, ho, hx, hd, _, hp, _⟩ := (show ObjOk X.prog X.w H s.heap a (.dK [(.inr k, v)]) from I.hok a _ e)
  have na : a ≠ sysModules := by
    intro z
    rw [z] at ne
    simp at ne
  obtain ⟨⟨kq, vq⟩, rfl, ek, rv⟩ : ∃ b : Key × Value, vs = [b] ∧ Sum.inr k = b.1 ∧ RelV v b.2 := by
    cases kv with
    | cons k1 k2 =>
      cases k2
      exact ⟨_, rfl, k1.1, k1.2⟩
  simp only at ek rv
  subst ek
  obtain ⟨as, q, nm⟩ := t p σ s vq I rv
  generalize hl : es.toList = l at hp
  cases hp with
  | cons h1 h2 h3 =>
    cases h3
    rename_i en
    simp only at h1 h2
    have hk : ∃ tk, en.key = Value.str k tk := by
      rcases keyIs_shape (show keyIs (Sum.inr k) en.key = true from h1) with ⟨i, tk, z, _⟩ | ⟨y, tk, z, z2⟩
      · cases z
      · cases z
        exact ⟨tk, z2⟩
    obtain ⟨tk, hk⟩ := hk
    have r1 : ReadsAll s.heap (es.toList.map (·.key)) [PyData.str k] ([] ++ []) := by
      rw [hl, List.map_cons, List.map_nil, hk]
      exact .cons (.str k tk) .nil
    have r2 : ReadsAll s.heap (es.toList.map (·.val)) [d] (as ++ []) := by
      rw [hl, List.map_cons, List.map_nil, h2]
      exact .cons q .nil
    refine ⟨_, Reads.dict (kvs := [(.str k, d)]) ho hx.1 hd r1 r2, fun m => ?_⟩
    rcases List.mem_append.mp m with m | m
    · rcases List.mem_cons.mp m with m | m
      · exact na m.symm
      · exact absurd m (by simp)
    · rw [List.append_nil] at m
      exact nm m

/-! sizes -/
structure Sh (X : Cx) (H : Hp) (v : V) (n : Nat) (d : PyData) : Prop where
  dt : Dt X H v d
  sh : d.showable = true
  dp : d.depth ≤ 8
  ln : d.shown.length ≤ n
theorem Sh.mono {v : V} {n m : Nat} {d : PyData} (h : Sh X H v n d) (k : n ≤ m) : Sh X H v m d := ⟨h.dt, h.sh, h.dp, Nat.le_trans h.ln k⟩
theorem list_len (ds : List PyData) (n : Nat) (h : ∀ d ∈ ds, d.shown.length ≤ n) : (PyData.list ds).shown.length ≤ (n + 2) * ds.length + 4 := by
  rw [PyData.shown_list, strLen_append, strLen_append]
  have e1 : (("[" : Str)).length = 1 := rfl
  have e2 : (("]" : Str)).length = 1 := rfl
  have e3 : piled (PyData.shownAll ds) ≤ (n + 2) * ds.length := by
    clear e1 e2
    induction ds with
    | nil => simp [PyData.shownAll, piled]
    | cons d ds ih =>
      rw [PyData.shownAll_cons, piled_cons, List.length_cons, Nat.mul_add]
      have h1 := h d List.mem_cons_self
      have h2 := ih fun x hx => h x (List.mem_cons_of_mem _ hx)
      omega
  by_cases z : PyData.shownAll ds = []
  · rw [z]
    have e4 : (Str.join ", " []).length = 0 := rfl
    omega
  · have := join_length_add _ z
    omega
theorem tuple_len (ds : List PyData) (n : Nat) (h : ∀ d ∈ ds, d.shown.length ≤ n) : (PyData.tuple ds).shown.length ≤ (n + 2) * ds.length + 4 := by
  rw [PyData.shown_tuple, strLen_append, strLen_append]
  have e1 : (("(" : Str)).length = 1 := rfl
  have e2 : (((if ds.length == 1 then ",)" else ")" : String) : Str)).length ≤ 2 := by split <;> decide +kernel
  have e3 : piled (PyData.shownAll ds) ≤ (n + 2) * ds.length := by
    clear e1 e2
    induction ds with
    | nil => simp [PyData.shownAll, piled]
    | cons d ds ih =>
      rw [PyData.shownAll_cons, piled_cons, List.length_cons, Nat.mul_add]
      have h1 := h d List.mem_cons_self
      have h2 := ih fun x hx => h x (List.mem_cons_of_mem _ hx)
      omega
  by_cases z : PyData.shownAll ds = []
  · rw [z]
    have e4 : (Str.join ", " []).length = 0 := rfl
    omega
  · have := join_length_add _ z
    omega
theorem call_repr (hg : X.A.guards = some []) (hu : X.A.units + 80 < cLine) : CallR X (.builtin "repr") (fun xs H Q => ∃ a d, xs = [.ref a] ∧ Dt X H (.ref a) d ∧ d.showable = true ∧ d.depth ≤ 60 ∧ d.shown.length ≤ sizeLine ∧ Q (.str d.shown) H) := by
  intro pins s σ H xs us Q I r h
  obtain ⟨a, d, rfl, dt, hs, hd, hz, q⟩ := h
  cases r with
  | cons r1 r2 =>
    cases r2
    obtain rfl : _ = Value.ref a := r1
    obtain ⟨as, rd, nm⟩ := dt pins σ s _ I rfl
    exact repr_of_reads' (h₀ := s.heap) rd hs (fun _ => nm) hg (by omega) (fun _ _ e => e) (fun h' u tk k => ⟨.str d.shown, H, I.kept k, ⟨u, rfl⟩, q⟩) hz
end
end GG

namespace GG
open PySem PySem.Spec PyProof.Rows L2

/-! ### exceptions of the program's own classes as values -/
/-- what is known of an own error class -/
structure ExT (K : PySem.W.Frag) (C : Addr) : Prop where
  ox : OexC K C
  ga : PySem.W.findIn K (.ref C) "__getattribute__" = some (some (.builtin "BaseException.__getattribute__"))
  gg : PySem.W.findIn K (.ref C) "__getattr__" = some none
  hd : PySem.W.hasDictIn K C = true
  cl : PySem.W.findIn K (.ref C) "__class__" = some (some (.builtin "object.__class__"))
  mo : PySem.W.mroIn K C (.type "object") = some true
  oc : PySem.W.specialIn K (.builtin "object.__class__") "__get__" = some (some (.builtin "getset_descriptor.__get__"))
  ot : PySem.W.takesIn K (.builtin "object.__class__") = some true
/-- an error of the class C with these fields -/
def ExAt (H : Hp) (a C : Addr) (fs : List (Str × V)) : Prop := (fs = [] ∧ H a = some (exo a C none)) ∨ ∃ dx, H a = some (exo a C (some dx)) ∧ H dx = some (exd dx fs)
theorem ExT.some {K : PySem.W.Frag} {C : Addr} (T : ExT K C) : (PySem.W.clsIn K C).isSome = true := by
  obtain ⟨nm, q, N, bs, bm, sn, sub, ab, col, dd, k0, k1, k2, k3, k5, hC, hbm⟩ := T.ox.cls
  unfold PySem.W.clsIn
  rw [hC] <;> rfl
section
variable {X : Cx} {pins : List (Addr × Obj)} {σ : L2.St} {H : Hp} {s : Shared} {a C : Addr} {fs : List (Str × V)}
theorem ExAt.inst (I : Inv X pins σ H s) (e : ExAt H a C fs) : ∃ (ox : Obj) (od : Option Obj), PySem.W.InstAt s.heap a ox C od ∧
    ∀ (f : Str) (v : V), fs.lookup f = some v → ∃ (o : Obj) (u : Value), od = some o ∧ PySem.W.lookIn f o = some (some u) ∧ RelV v u := by
  rcases e with ⟨rfl, e⟩ | ⟨dx, e, ed⟩
  · obtain ⟨t, h⟩ := exo_at I.hok e
    exact ⟨_, none, ⟨h, rfl, rfl, trivial⟩, fun f v q => by cases q⟩
  · obtain ⟨t, h⟩ := exo_at I.hok e
    obtain ⟨mA, hns, rel⟩ := exd_at I.hok ed
    obtain ⟨od, ho, hl⟩ := lookIn_ns hns
    refine ⟨_, some od, ⟨h, rfl, rfl, ho⟩, fun f v q => ?_⟩
    obtain ⟨u, hu, ru⟩ := RelO.some_of (v := v) (o := mA f) (by rw [← q]; exact rel f)
    exact ⟨od, u, rfl, by rw [hl, hu], ru⟩
/-- isinstance(e, c) -/
def rIsX (K : PySem.W.Frag) : List V → Hp → VK → Prop := fun xs H Q => ∃ (a C : Addr) (fs : List (Str × V)) (c : V) (u : Value) (b : Bool), xs = [.ref a, c] ∧ ExT K C ∧ ExAt H a C fs ∧ ClsV c u ∧ PySem.W.kitOne K (.ref C) u = some b ∧ Q (.bl b) H
theorem call_isx : CallR X (.builtin "isinstance") (rIsX X.K) := by
  intro pins s σ H xs us Q I r h
  obtain ⟨a, C, fs, c, u, b, rfl, T, e, cv, k, q⟩ := h
  obtain ⟨u1, u2, rfl, r1, r2⟩ := vals2 r
  cases (show u1 = Value.ref a from r1)
  obtain rfl := cv.eq r2
  obtain ⟨ox, od, J, _⟩ := e.inst I
  exact PySem.W.kia_one (PySem.W.kitx_exc T.some T.ga T.gg T.ox.exC T.cl T.oc T.ot T.mo) I.kIn J k (fun z => nomatch z) fun tk => ⟨.bl b, H, I.tok tk, rfl, q⟩
/-- e.f -/
def tXfd (K : PySem.W.Frag) (f : Str) (te : TE) : TE := fun σ H Q => te σ H fun x H1 => ∃ (a C : Addr) (fs : List (Str × V)) (v : V), x = .ref a ∧ ExT K C ∧ ExAt H1 a C fs ∧ PySem.W.findIn K (.ref C) f = some none ∧ fs.lookup f = some v ∧ Q v H1
theorem pe_xfd {e : Expr} {te : TE} {pos : Pos} {f : Str} (he : PE X e te) (hb : attributeBase e f X.env (eval e X.env) = eval e X.env := by rfl) : PE X (.Attribute e f pos) (tXfd X.K f te) := by
  refine ⟨fun pins s σ H Q I h => ?_⟩
  refine attr_of hb (thn (he.run pins s σ H _ I h) fun u s1 hh => ?_)
  obtain ⟨x, H1, I1, rx, a, C, fs, v, ex, T, ea, no, l, q⟩ := hh
  subst ex
  obtain rfl : u = Value.ref a := rx
  obtain ⟨ox, od, J, look⟩ := ea.inst I1
  obtain ⟨o, u, rfl, lk, ru⟩ := look f v l
  exact HandSPX.exc_get I1.kIn J T.ga T.gg T.ox.exC (PySem.W.findObj_own T.hd no rfl lk) (handed_of ru) ⟨v, H1, I1.tok _, ru, q⟩
/-- C(e, ..) as a value, C's own __init__ keeping sp -/
def tVal (C : Addr) (sp : Sp) (ta : TA) : TE := fun σ H Q => ta σ H fun vs H1 => vs.length ≤ 1000 ∧ ∀ a, H1 a = none → sp (.ref a :: vs) (upd H1 a (exo a C none)) (fun v H2 => v = .non ∧ Q (.ref a) H2) (fun _ _ _ => False)
theorem pe_val {x : Str} {C fI : Addr} {k : Nat} {fd : FuncData} {ps : List Str} {sp : Sp} {e : Expr} {es : List Expr} {ta : TA} {p pos : Pos} (T : OexC X.K C) (iC : PySem.W.findIn X.K (.ref C) "__init__" = some (some (.ref fI))) (tI : PySem.W.typeIn X.K (.ref fI) = some (.type "function"))
    (F1 : FnOk X.prog X.w X.K X.mg X.base CX0 k fI fd ps sp) (hr : Room (k + 1) X.A) (hb : Binds X.K fd ps []) (hm : X.mg x = some (.ref C)) (ha : PA X (e :: es) ta) (hg : Gl X x := by rfl)
    (hdb : (x == ("__debug__" : Str)) = false := by decide) (he : starEach (e :: es) X.env = (false, eval e X.env) :: starEach es X.env := by rfl) (hpl : (backTo pos (starEach es X.env)).any (·.1) = false := by rfl) :
    PE X (.Call (.Name x p) (e :: es) [] pos) (tVal C sp ta) := by
  refine ⟨fun pins s σ H Q I h => ?_⟩
  obtain ⟨nm, q, N, bs, bm, sn, sub, ab, col, dd, k0, k1, k2, k3, k5, hC, tail⟩ := T.cls
  refine wpAny_Call_Name_kw (ld_glob I hg hm ?_ hdb)
  refine PySem.W.callWith_K (h₀ := X.base) I.ok.mod.kin T.kC (thn (ha.run pos pins s σ H _ I h) fun us s1 got => ?_) he hpl
  obtain ⟨vs, H1, I1, r1, small, q1⟩ := got
  refine ⟨I1.kIn, ?_⟩
  show wpAny _ _ (call (.ref C) us) _ _ _
  obtain ⟨hp, g, dr, tk, os⟩ := s1
  have big : hp.objs.size ≤ hp.objs.size + 1 := Nat.le_succ _
  have want := q1 (hp.objs.size + 1) (I1.hok.fresh big)
  have grow : ∀ b o, hp.get? b = some o → ((hp.push (PySem.W.kdv_tup us)).push (PySem.HandSPX.excO C hp.objs.size)).get? b = some o := fun b o z => Heap.get?_push_of_some _ (Heap.get?_push_of_some _ z)
  have new : ((hp.push (PySem.W.kdv_tup us)).push (PySem.HandSPX.excO C hp.objs.size)).get? (hp.objs.size + 1) = some (PySem.HandSPX.excO C hp.objs.size) := by heap_get
  have J : Inv X pins σ (upd H1 (hp.objs.size + 1) (exo (hp.objs.size + 1) C none)) ⟨(hp.push (PySem.W.kdv_tup us)).push (PySem.HandSPX.excO C hp.objs.size), g, dr, tk, os⟩ :=
    I1.laid (t' := tk) (a := hp.objs.size + 1) (h' := (hp.push (PySem.W.kdv_tup us)).push (PySem.HandSPX.excO C hp.objs.size)) grow big (exo_ok new)
  have r2 : Vals (V.ref (hp.objs.size + 1) :: vs) (Value.ref (hp.objs.size + 1) :: us ++ []) := by
    rw [List.append_nil]
    exact .cons rfl r1
  have cnt : (Value.ref (hp.objs.size + 1) :: us ++ []).length = ps.length := by
    rw [← r2.length]
    exact F1.len _ _ _ _ want
  have fits : us.length ≤ sizeLine := by
    rw [← Paired.length r1, sizeLine_eq]
    omega
  refine wpAny_call (PySem.HandSPX.call_own F.excBase_ValueError (fun Y => PySem.HandSPX.refsVE_contains Y bm tail) (I1.kIn _ _ hC) (PySem.W.looks_findIn I1.kIn iC) (fun self => PySem.W.bind_fn I1.kIn self tI) fits
    (codeAny_mono (F1.run _ X.stack _ _ ⟨Value.ref (hp.objs.size + 1) :: us, []⟩ (Value.ref (hp.objs.size + 1) :: us ++ []) _ _ (fun _ _ _ => False) (hr.make C us []) (J.env0.make C us []) (hb _ (Value.ref (hp.objs.size + 1) :: us) J.kIn cnt) r2 want) fun r s' res => ?_))
  cases r with
  | error er => exact (show False from res).elim
  | ok fl =>
    cases fl with
    | ret u =>
      obtain ⟨v, H2, J2, rv, rfl, q2⟩ := J.after res
      exact ⟨rv, .ref (hp.objs.size + 1), H2, J2, rfl, q2⟩
    | next => exact False.elim res
    | brk => exact False.elim res
    | cont => exact False.elim res
/-- C() as a value, no own __init__ -/
theorem pe_val0 {C : Addr} {x : Str} {p pos : Pos} (q : PySem.W.excIn X.K C [.type "ValueError", .type "Exception", .type "BaseException", .type "object"] "ValueError.__new__" = true) (gC : X.mg x = some (.ref C)) (kC : PySem.W.keepIn X.K (.ref C) = true) (hg : Gl X x := by rfl) (hdb : (x == ("__debug__" : Str)) = false := by decide) :
    PE X (.Call (.Name x p) [] [] pos) (fun σ H Q => ∀ a, H a = none → Q (.ref a) (upd H a (exo a C none))) := by
  refine ⟨fun pins s σ H Q I h => ?_⟩
  refine wpAny_Call_Name_kw (ld_glob I hg gC ?_ hdb)
  refine PySem.W.callWith_K0 I.kIn kC ?_
  obtain ⟨bm, N, nm, qn, bs, hdct, sn, sub, ab, col, dd, k0, k1, k2, k3, k5, mN, hC, hN, hni, T⟩ := exc_obj I.kIn q
  refine wpAny_call_exc_subT F.excBase_ValueError T hC hN hni (fun h' a made => ?_) (by show 0 ≤ sizeLine; exact Nat.zero_le _)
  have free : H a = none := I.hok.gone made.new
  obtain ⟨t, ht, _, _⟩ := made.there
  exact ⟨.ref a, upd H a (exo a C none), I.laidN made.keeps made.new free (exo_ok ht), rfl, h a free⟩
end
end GG

namespace GG
open PySem PySem.Spec PyProof.Rows L2
/-! ### the text by places -/
def topS (i : Nat) : Stmt := PySem.Challenge.pw_allbids_k09_gains.main.body.getD i (.Pass ⟨0, 0, 0, 0⟩)
abbrev sPen : Stmt := topS 40
abbrev sDraw : Stmt := topS 41
abbrev sPick : Stmt := topS 42

/-! ### a pen -/
def penD (l : Addr) (at' dg c fo : Int) : List (Key × V) := [(.inr "cells", .ref l), (.inr "at", .int at'), (.inr "digits", .int dg), (.inr "count", .int c), (.inr "fold", .int fo)]
section
variable (l : Addr) (a d c f x : Int)
theorem penD_cells : valV (penD l a d c f) (.inr "cells") = some (.ref l) := by kernel_rfl
theorem penD_at : valV (penD l a d c f) (.inr "at") = some (.int a) := by kernel_rfl
theorem penD_digits : valV (penD l a d c f) (.inr "digits") = some (.int d) := by kernel_rfl
theorem penD_count : valV (penD l a d c f) (.inr "count") = some (.int c) := by kernel_rfl
theorem penD_fold : valV (penD l a d c f) (.inr "fold") = some (.int f) := by kernel_rfl
theorem penP_at : putK (penD l a d c f) (.inr "at") (.int x) = penD l x d c f := by kernel_rfl
theorem penP_digits : putK (penD l a d c f) (.inr "digits") (.int x) = penD l a x c f := by kernel_rfl
theorem penP_count : putK (penD l a d c f) (.inr "count") (.int x) = penD l a d x f := by kernel_rfl
theorem penP_fold : putK (penD l a d c f) (.inr "fold") (.int x) = penD l a d c x := by kernel_rfl
end
/-- a pen at p, that was asked c times -/
structure PenIs (H : Hp) (p l : Addr) (ns : List Int) (at' dg c fo : Int) : Prop where
  obj : H p = some (.dK (penD l at' dg c fo))
  cel : H l = some (.lst (ns.map V.int))
  len : ns.length ≤ 63
  a0 : 0 ≤ at'
  d0 : 0 ≤ dg
  c0 : 0 ≤ c
  f0 : 0 ≤ fo
  f1 : fo < 2147483587
def PenAt (H : Hp) (p l : Addr) (c : Int) : Prop := ∃ ns at' dg fo, PenIs H p l ns at' dg c fo
/-- all but p stays -/
def Keep (p : Addr) (H H' : Hp) : Prop := ∀ b o, b ≠ p → H b = some o → H' b = some o
theorem Keep.refl {p : Addr} {H : Hp} : Keep p H H := fun _ _ _ e => e
theorem Keep.trans {p : Addr} {H H1 H2 : Hp} (a : Keep p H H1) (b : Keep p H1 H2) : Keep p H H2 := fun c o n e => b c o n (a c o n e)
theorem Keep.upd {p : Addr} {H H1 : Hp} {o : HO} (a : Keep p H H1) : Keep p H (upd H1 p o) := fun c u n e => by
  rw [upd_ne n]
  exact a c u n e
theorem Keep.new {p q : Addr} {H H1 : Hp} {o : HO} (a : Keep p H H1) (n : H1 q = none) : Keep p H (L2.upd H1 q o) := fun c u nc e => by
  have z := a c u nc e
  rw [upd_ne (ne_of_none z n)]
  exact z
theorem PenIs.put {H : Hp} {p l : Addr} {ns : List Int} {a d c f a' d' c' f' : Int} (P : PenIs H p l ns a d c f) (h1 : 0 ≤ a') (h2 : 0 ≤ d') (h3 : 0 ≤ c') (h4 : 0 ≤ f') (h5 : f' < 2147483587) : PenIs (upd H p (.dK (penD l a' d' c' f'))) p l ns a' d' c' f' :=
  ⟨upd_same, by rw [upd_ne (ne_of P.cel P.obj (by intro z; cases z))]; exact P.cel, P.len, h1, h2, h3, h4, h5⟩
structure PTxt (K : PySem.W.Frag) (mg : Str → Option Value) : Prop where
  int : mg "int" = none
  list : mg "list" = none
  len : mg "len" = none
theorem bInt : bootBuiltins "int" = some (.type "int") := by decide +kernel
theorem bList : bootBuiltins "list" = some (.type "list") := by decide +kernel
theorem small5 {l : Addr} {a d c f : Int} : (penD l a d c f).length < sizeLine := by
  rw [sizeLine_eq]
  show 5 < 16777216
  decide
section
variable {H : Hp} {p l : Addr} {ns : List Int} {a d c f : Int} (I : PenIs H p l ns a d c f)
include I
theorem PenIs.gCells : DGet H p (.str "cells") (some (.ref l)) := penD_cells l a d c f ▸ DGet.k (k := Sum.inr "cells") I.obj
theorem PenIs.gAt : DGet H p (.str "at") (some (.int a)) := penD_at l a d c f ▸ DGet.k (k := Sum.inr "at") I.obj
theorem PenIs.gDigits : DGet H p (.str "digits") (some (.int d)) := penD_digits l a d c f ▸ DGet.k (k := Sum.inr "digits") I.obj
theorem PenIs.gCount : DGet H p (.str "count") (some (.int c)) := penD_count l a d c f ▸ DGet.k (k := Sum.inr "count") I.obj
theorem PenIs.gFold : DGet H p (.str "fold") (some (.int f)) := penD_fold l a d c f ▸ DGet.k (k := Sum.inr "fold") I.obj
theorem PenIs.pAt (x : Int) : DPut H p (.str "at") (.int x) (upd H p (.dK (penD l x d c f))) := penP_at l a d c f x ▸ DPut.k (k := Sum.inr "at") I.obj small5
theorem PenIs.pDigits (x : Int) : DPut H p (.str "digits") (.int x) (upd H p (.dK (penD l a x c f))) := penP_digits l a d c f x ▸ DPut.k (k := Sum.inr "digits") I.obj small5
theorem PenIs.pCount (x : Int) : DPut H p (.str "count") (.int x) (upd H p (.dK (penD l a d x f))) := penP_count l a d c f x ▸ DPut.k (k := Sum.inr "count") I.obj small5
theorem PenIs.pFold (x : Int) : DPut H p (.str "fold") (.int x) (upd H p (.dK (penD l a d c x))) := penP_fold l a d c f x ▸ DPut.k (k := Sum.inr "fold") I.obj small5
end
/-- many is a number of cases -/
def spDraw : Sp := fun vs H Q _ => ∃ (p l : Addr) (c many : Int), vs = [.ref p, .int many] ∧ PenAt H p l c ∧ 0 < many ∧ many < 1000001 ∧ c < 1000000000 ∧
  ∀ (r : Int) (H' : Hp), 0 ≤ r → r < many → PenAt H' p l (c + 1) → Keep p H H' → Q (.int r) H'
section
variable {P : Program} {w : World} {K : PySem.W.Frag} {mg : Str → Option Value} {base : Heap}
theorem scDraw : FnScope ["_law_pen_here", "_law_many", "_law_cell", "_law_digit", "_law_mixed"] ["_law_pen_here", "_law_many"] (defScope sDraw) := ⟨rfl, rfl, rfl, by decide +kernel, rfl, by decide +kernel, by decide +kernel⟩
theorem ok_draw {f : Addr} {fd : FuncData} (F : Fun K "_law_draw" "_law_draw" sDraw f fd) (T : PTxt K mg) : FnOk P w K mg base CX0 1 f fd ["_law_pen_here", "_law_many"] spDraw := by
  refine F.ok scDraw (fun vs H Q E h => ?_) (fun cdv A outer s H vs Q E hr h => ?_)
  · obtain ⟨p, l, c, many, rfl, _⟩ := h
    rfl
  · obtain ⟨p, l, c, many, rfl, ⟨ns, a, d, fo, I0⟩, m0, m1, c1, k⟩ := h
    have hu := hu_of hr
    refine ⟨_, pss_cons (ps_dput hu (pv 0) pe_str (pe_op op_add (pe_dget hu (pv 0) pe_str (fun _ _ => rfl)) pe_int) rfl)
      (Evl.pss_cut (ps_if (PW.pt (pw_and (pt_cmpR op_eq (pe_dget hu (pv 0) pe_str (fun _ _ => rfl)) pe_int (nomark _)) (pw_and1 (pt_cmpR op_lt (pe_dget hu (pv 0) pe_str (fun _ _ => rfl)) (pe_callB call_len_seq (by rfl) T.len PySem.boot_len (pa_cons (pe_dget hu (pv 0) pe_str (fun _ _ => rfl)) pa_nil)) (nomark _)))))
        (pss_cons (ps_set (i := 2) scDraw.nd rfl (.inl rfl) (pe_ix ix_list (pe_dget hu (pv 0) pe_str (fun _ _ => rfl)) (pe_dget hu (pv 0) pe_str (fun _ _ => rfl)) (fun _ _ => rfl)))
          (pss_cons (ps_dput hu (pv 0) pe_str (pe_op op_add (pe_dget hu (pv 0) pe_str (fun _ _ => rfl)) pe_int) rfl)
          (pss_one (ps_if (pt_cmpR op_ge (pv 2) (pe_op op_pow pe_int pe_int) (nomark _))
            (pss_one (ps_dput hu (pv 0) pe_str (pe_op op_sub (pv 2) (pe_op op_pow pe_int pe_int)) rfl))
            (pss_one (ps_dput hu (pv 0) pe_str (pe_op op_mod (pe_callTy call_int1 (by rfl) T.int bInt (pa_cons (pe_op op_add (pe_op op_mul (pe_dget hu (pv 0) pe_str (fun _ _ => rfl)) pe_int) (pv 2)) pa_nil)) pe_int) rfl))))))
        pss_nil)
      (pss_cons (ps_if (pt_cmpR op_gt (pe_dget hu (pv 0) pe_str (fun _ _ => rfl)) pe_int (nomark _))
        (pss_cons (ps_set (i := 3) scDraw.nd rfl (.inl rfl) (pe_op op_mod (pe_callTy call_int1 (by rfl) T.int bInt (pa_cons (pe_dget hu (pv 0) pe_str (fun _ _ => rfl)) pa_nil)) (pv 1)))
          (pss_cons (ps_dput hu (pv 0) pe_str (pe_op op_fdivW (pe_dget hu (pv 0) pe_str (fun _ _ => rfl)) (pv 1)) rfl)
          (pss_one (ps_ret (pv 3)))))
        pss_nil)
      (pss_cons (ps_set (i := 4) scDraw.nd rfl (.inl rfl) (pe_op op_add (pe_op op_add (pe_dget hu (pv 0) pe_str (fun _ _ => rfl)) (pe_op op_mul (pe_dget hu (pv 0) pe_str (fun _ _ => rfl)) pe_int)) pe_int))
      (pss_one (ps_ret (pe_op op_mod (pe_op op_fdiv (pe_callTy call_int1 (by rfl) T.int bInt (pa_cons (pe_op op_mod (pe_op op_pow (pv 4) pe_int) pe_int) pa_nil)) pe_int) (pv 1))))))), ?_⟩
    refine ⟨_, rfl, p, _, rfl, I0.gCount, _, _, rfl, rfl, _, rfl, p, _, rfl, I0.pCount _, ?_⟩
    have I1 := I0.put (a' := a) (d' := d) (c' := c + 1) (f' := fo) I0.a0 I0.d0 (by have := I0.c0; omega) I0.f0 I0.f1
    have K1 : Keep p H (upd H p (.dK (penD l a d (c + 1) fo))) := Keep.refl.upd
    have dc := I1.c0
    refine ⟨fun σ' H' => ∃ (a' d' f' : Int) (v : Option V), σ' = [some (.ref p), some (.int many), v, none, none] ∧ PenIs H' p l ns a' d' (c + 1) f' ∧ Keep p H H', ?_, ?_⟩
    · refine ⟨_, rfl, p, _, rfl, I1.gDigits, rfl, _, rfl, ?_⟩
      refine ite2 (fun _ => ?_) (fun _ => ?_)
      · refine ⟨_, rfl, p, _, rfl, I1.gAt, _, rfl, p, _, rfl, I1.gCells, l, _, rfl, .inl (SqL.of I1.cel), _, _, rfl, rfl, _, rfl, ?_⟩
        refine ite2 (fun e => ?_) (fun _ => ?_)
        · rw [List.length_map] at e
          have ha : a < (ns.length : Int) := of_decide_eq_true e
          have ha0 := I1.a0
          obtain ⟨n, rfl⟩ : ∃ n : Nat, a = (n : Int) := ⟨a.toNat, (Int.toNat_of_nonneg ha0).symm⟩
          have hn : n < ns.length := by omega
          refine ⟨_, rfl, p, _, rfl, I1.gCells, _, rfl, p, _, rfl, I1.gAt, l, _, _, V.int ns[n], rfl, rfl, SqL.of I1.cel, atI_nat (by simp [hn]), ?_⟩
          refine ⟨_, rfl, p, _, rfl, I1.gAt, _, _, rfl, rfl, _, rfl, p, _, rfl, I1.pAt _, ?_⟩
          have I2 := I1.put (a' := (n : Int) + 1) (d' := d) (c' := c + 1) (f' := fo) (by omega) I1.d0 I1.c0 I1.f0 I1.f1
          have K2 := K1.upd (o := .dK (penD l ((n : Int) + 1) d (c + 1) fo))
          refine ⟨_, rfl, _, _, rfl, rfl, ⟨by decide, by decide, by decide⟩, _, _, rfl, rfl, _, rfl, ?_⟩
          refine ite2 (fun e => ?_) (fun _ => ?_)
          · have hb := of_decide_eq_true e
            refine ⟨_, rfl, _, _, rfl, rfl, ⟨by decide, by decide, by decide⟩, _, _, rfl, rfl, _, rfl, p, _, rfl, I2.pDigits _, ?_⟩
            exact ⟨_, _, _, _, rfl, I2.put (by omega) (by omega) I2.c0 I2.f0 I2.f1, K2.upd⟩
          · refine ⟨_, rfl, p, _, rfl, I2.gFold, _, _, rfl, rfl, .inl ⟨by have := I2.f0; omega, by have := I2.f1; omega⟩, _, rfl, _, _, rfl, rfl, .inl ⟨_, rfl, ?_⟩⟩
            refine ⟨_, _, rfl, rfl, (show (0 : Int) < 2147483587 by decide), _, rfl, p, _, rfl, I2.pFold _, ?_⟩
            exact ⟨_, _, _, _, rfl, I2.put I2.a0 I2.d0 I2.c0 (Int.emod_nonneg _ (by decide)) (Int.emod_lt_of_pos _ (by decide)), K2.upd⟩
        · exact ⟨_, _, _, _, rfl, I1, K1⟩
      · exact ⟨_, _, _, _, rfl, I1, K1⟩
    · rintro σ' H' ⟨a', d', f', v, rfl, I2, K2⟩
      refine ⟨_, rfl, p, _, rfl, I2.gDigits, _, _, rfl, rfl, _, rfl, ?_⟩
      refine ite2 (fun e => ?_) (fun _ => ?_)
      · refine ⟨_, rfl, p, _, rfl, I2.gDigits, .inl ⟨_, rfl, _, rfl, _, _, rfl, rfl, m0, ?_⟩⟩
        refine ⟨_, rfl, p, _, rfl, I2.gDigits, _, rfl, _, _, rfl, rfl, wide_div (b := 20) m0 (by omega) (by decide) (by decide), _, rfl, p, _, rfl, I2.pDigits _, ?_⟩
        refine ⟨_, rfl, k _ _ (Int.emod_nonneg _ (by omega)) (Int.emod_lt_of_pos _ m0) ⟨ns, _, _, _, I2.put I2.a0 (Int.ediv_nonneg I2.d0 (by omega)) I2.c0 I2.f0 I2.f1⟩ K2.upd⟩
      · have f0 := I2.f0
        have f1 := I2.f1
        refine ⟨_, rfl, p, _, rfl, I2.gFold, _, rfl, p, _, rfl, I2.gCount, _, _, rfl, rfl, .inl ⟨by omega, by omega⟩, _, _, rfl, rfl, _, _, rfl, rfl, ?_⟩
        refine ⟨_, rfl, _, _, rfl, rfl, ⟨by decide, by decide, by omega⟩, _, _, rfl, rfl, (show (0 : Int) < 2305843009213693951 by decide), .inl ⟨_, rfl, _, _, rfl, rfl, ⟨by decide, by decide⟩, _, rfl, _, _, rfl, rfl, m0, ?_⟩⟩
        exact k _ _ (Int.emod_nonneg _ (by omega)) (Int.emod_lt_of_pos _ m0) ⟨ns, _, _, _, I2⟩ K2
end
end GG




namespace GG
open PySem PySem.Spec PyProof.Rows L2
/-- a def of the text, where its name leads to -/
structure DefIs (K : PySem.W.Frag) (mg : Str → Option Value) (x : Str) (st : Stmt) : Prop where
  ex : ∃ f fd, Fun K x x st f fd ∧ mg x = some (.ref f)
/-- what a name of the module keeps -/
structure Kn (P : Program) (w : World) (K : PySem.W.Frag) (mg : Str → Option Value) (base : Heap) (x : Str) (k : Nat) (ps : List Str) (sp : Sp) : Prop where
  ex : ∃ f fd, mg x = some (.ref f) ∧ PySem.W.keepIn K (.ref f) = true ∧ Binds K fd ps [] ∧ FnOk P w K mg base CX0 k f fd ps sp
theorem Kn.of {P : Program} {w : World} {K : PySem.W.Frag} {mg : Str → Option Value} {base : Heap} {x : Str} {st : Stmt} {k : Nat} {ps : List Str} {sp : Sp} (D : DefIs K mg x st)
    (hb : ∀ (kV doc pm : Value) (an : Option Addr) (cdv ct : Value) (us : List Value), us.length = ps.length → bindArgs (PySem.W.fnOf x x (defArgs st) (defBody st) (defScope st) .none kV doc pm an cdv ct) ⟨us, []⟩ = pure (ps.zip us))
    (ok : ∀ f fd, Fun K x x st f fd → FnOk P w K mg base CX0 k f fd ps sp) : Kn P w K mg base x k ps sp := by
  obtain ⟨f, fd, F, m⟩ := D.ex
  exact ⟨f, fd, m, F.kp, F.binds hb, ok f fd F⟩
theorem pe_kn {X : Cx} {x : Str} {k : Nat} {ps : List Str} {sp : Sp} {e : Expr} {es : List Expr} {t : TA} {p pos : Pos} (F : Kn X.prog X.w X.K X.mg X.base x k ps sp) (hr : Room k X.A) (ha : PA X (e :: es) t) (hg : Gl X x := by rfl)
    (hdb : (x == ("__debug__" : Str)) = false := by decide) (he : starEach (e :: es) X.env = (false, eval e X.env) :: starEach es X.env := by rfl) (hpl : (backTo pos (starEach es X.env)).any (·.1) = false := by rfl) :
    PE X (.Call (.Name x p) (e :: es) [] pos) (tCall sp [] (fun _ _ _ => False) t) := by
  obtain ⟨f, fd, hm, hk, hb, G⟩ := F.ex
  exact pe_call G hr hg hm hk hb .nil (fun _ _ _ _ _ _ _ z => z.elim) ha hdb he hpl
theorem SqL.keep {K : PySem.W.Frag} {H H' : Hp} {p a : Addr} {kvs : List (Key × V)} {xs : List V} (k : Keep p H H') (hp : H p = some (.dK kvs)) (s : SqL K H a xs) : SqL K H' a xs := by
  rcases s with s | s
  · have n : a ≠ p := by
      rcases s with s | ⟨o, s⟩
      · exact ne_of s hp (by intro z; cases z)
      · exact ne_of s hp (by intro z; cases z)
    rcases s with s | ⟨o, s⟩
    · exact .inl (.inl (k a _ n s))
    · exact .inl (.inr ⟨o, k a _ n s⟩)
  · exact .inr s
def spPen (K : PySem.W.Frag) : Sp := fun vs H Q _ => ∃ (a : Addr) (ns : List Int), vs = [.ref a] ∧ SqL K H a (ns.map V.int) ∧ ns.length ≤ 63 ∧ ∀ (p l : Addr) (H' : Hp), PenAt H' p l 0 → H p = none → H l = none → Same H H' → Q (.ref p) H'
def spPick (K : PySem.W.Frag) : Sp := fun vs H Q _ => ∃ (p l a : Addr) (c : Int) (xs : List V), vs = [.ref p, .ref a] ∧ PenAt H p l c ∧ SqL K H a xs ∧ 0 < xs.length ∧ xs.length < 1000000 ∧ c < 1000000000 ∧
  ∀ (x : V) (H' : Hp), x ∈ xs → PenAt H' p l (c + 1) → Keep p H H' → Q x H'
def spFar : Sp := fun vs H Q _ => ∃ (p l : Addr) (c : Int), vs = [.ref p] ∧ PenAt H p l c ∧ c < 100000000 ∧
  ∀ (r c' : Int) (H' : Hp), c ≤ c' → c' ≤ c + 10 → -1000000000000000000 < r → r < 1000000000000000000 → PenAt H' p l c' → Keep p H H' → Q (.int r) H'
section
variable {P : Program} {w : World} {K : PySem.W.Frag} {mg : Str → Option Value} {base : Heap}
theorem kn_draw (D : DefIs K mg "_law_draw" sDraw) (T : PTxt K mg) : Kn P w K mg base "_law_draw" 1 ["_law_pen_here", "_law_many"] spDraw :=
  .of D (fun _ _ _ _ _ _ us hl => match us, hl with | [_, _], _ => rfl) fun _ _ F => ok_draw F T
theorem scPen : FnScope ["_law_script", "_law_fold", "_law_cell"] ["_law_script"] (defScope sPen) := ⟨rfl, rfl, rfl, by decide +kernel, rfl, by decide +kernel, by decide +kernel⟩
theorem kn_pen (D : DefIs K mg "_law_pen" sPen) (T : PTxt K mg) : Kn P w K mg base "_law_pen" 1 ["_law_script"] (spPen K) := by
  refine .of D (fun _ _ _ _ _ _ us hl => match us, hl with | [_], _ => rfl) fun _ _ F => ?_
  refine F.ok scPen (fun vs H Q E h => ?_) (fun cdv A outer s H vs Q E hr h => ?_)
  · obtain ⟨a, ns, rfl, _⟩ := h
    rfl
  · obtain ⟨a, ns, rfl, S, hl, k⟩ := h
    refine ⟨_, pss_cons (ps_set (i := 1) scPen.nd rfl (.inl rfl) pe_int)
      (pss_cons (ps_for PassesOwn.never rfl (pi_list (pv 0)) (pg_name (i := 2) scPen.nd rfl (.inl rfl))
        (pss_one (ps_set (i := 1) scPen.nd rfl (.inl rfl) (pe_op op_mod (pe_callTy call_int1 (by rfl) T.int bInt (pa_cons (pe_op op_add (pe_op op_mul (pv 1) pe_int) (pv 2)) pa_nil)) pe_int))))
      (pss_one (ps_ret (pe_disp (pps_cons pe_str (pe_callTy call_list_of (by rfl) T.list bList (pa_cons (pv 0) pa_nil)) (pps_cons pe_str pe_int (pps_cons pe_str pe_int (pps_cons pe_str pe_int (pps_cons pe_str (pv 1) pps_nil))))) rfl rfl (by intro z; cases z) (by decide))))), ?_⟩
    refine ⟨_, rfl, a, rfl, ⟨_, S⟩, for_list (K := K) (a := a) (xs := ns.map V.int) (fun i σ H' => H = H' ∧ ∃ (f : Int) (v : Option V), σ = [some (.ref a), some (.int f), v] ∧ 0 ≤ f ∧ f < 1000000007) ⟨rfl, _, _, rfl, by decide, by decide⟩ (fun i σ H' _ z => z.1 ▸ S) ?_ ?_⟩
    · rintro i x σ H' hi ⟨rfl, f, v, rfl, f0, f1⟩
      rw [List.getElem?_map] at hi
      obtain ⟨n, _, rfl⟩ := Option.map_eq_some_iff.mp hi
      refine ⟨_, rfl, _, _, rfl, rfl, .inl ⟨by omega, by omega⟩, _, rfl, _, _, rfl, rfl, .inl ⟨_, rfl, _, _, rfl, rfl, (show (0 : Int) < 1000000007 by decide), ?_⟩⟩
      exact ⟨rfl, _, _, rfl, Int.emod_nonneg _ (by decide), Int.emod_lt_of_pos _ (by decide)⟩
    · rintro σ H' ⟨rfl, f, v, rfl, f0, f1⟩
      intro p hp
      have ap : ∀ o, SqL K (upd H p o) a (ns.map V.int) := fun o => by
        rcases S with (s | ⟨u, s⟩) | s
        · exact .inl (.inl (by rw [upd_ne (ne_of_none s hp)]; exact s))
        · exact .inl (.inr ⟨u, by rw [upd_ne (ne_of_none s hp)]; exact s⟩)
        · exact .inr s
      refine ⟨_, rfl, a, _, rfl, .inl (ap _), fun l hl' => ?_⟩
      have npl : p ≠ l := fun z => by
        rw [← z, upd_same] at hl'
        cases hl'
      have nl : H l = none := by
        rw [upd_ne npl.symm] at hl'
        exact hl'
      refine ⟨_, rfl, ⟨by rw [upd_ne npl, upd_same], [(.inr "cells", .ref l), (.inr "at", .int 0), (.inr "digits", .int 0), (.inr "count", .int 0), (.inr "fold", .int f)], rfl, (by show 5 ≤ 15; decide), ?_⟩⟩
      have e : mergeK [] [((.inr "cells" : Key), V.ref l), (.inr "at", .int 0), (.inr "digits", .int 0), (.inr "count", .int 0), (.inr "fold", .int f)] = penD l 0 0 0 f := by kernel_rfl
      rw [e]
      refine k p l _ ⟨ns, 0, 0, f, upd_same, by rw [upd_ne npl.symm, upd_same], hl, by decide, by decide, by decide, f0, by omega⟩ hp nl fun b o z => ?_
      rw [upd_ne (ne_of_none z hp), upd_ne (ne_of_none z nl), upd_ne (ne_of_none z hp)]
      exact z
theorem scPick : FnScope ["_law_pen_here", "_law_some"] ["_law_pen_here", "_law_some"] (defScope sPick) := ⟨rfl, rfl, rfl, by decide +kernel, rfl, by decide +kernel, by decide +kernel⟩
theorem kn_pick (D : DefIs K mg "_law_pick" sPick) (T : PTxt K mg) (B : Kn P w K mg base "_law_draw" 1 ["_law_pen_here", "_law_many"] spDraw) : Kn P w K mg base "_law_pick" 2 ["_law_pen_here", "_law_some"] (spPick K) := by
  refine .of D (fun _ _ _ _ _ _ us hl => match us, hl with | [_, _], _ => rfl) fun _ _ F => ?_
  refine F.ok scPick (fun vs H Q E h => ?_) (fun cdv A outer s H vs Q E hr h => ?_)
  · obtain ⟨p, l, a, c, xs, rfl, _⟩ := h
    rfl
  · obtain ⟨p, l, a, c, xs, rfl, PA', S, l0, l1, c1, k⟩ := h
    refine ⟨_, pss_one (ps_ret (pe_ix ix_list (pv 1) (pe_kn B hr (pa_cons (pv 0) (pa_cons (pe_callB call_len_seq (by rfl) T.len PySem.boot_len (pa_cons (pv 1) pa_nil)) pa_nil))) (fun _ _ => rfl))), ?_⟩
    refine ⟨_, rfl, _, rfl, _, rfl, a, _, rfl, .inl S, p, l, c, _, rfl, PA', by omega, by omega, c1, fun r H' r0 r1 P1 K1 => ?_⟩
    obtain ⟨n, rfl⟩ : ∃ n : Nat, r = (n : Int) := ⟨r.toNat, (Int.toNat_of_nonneg r0).symm⟩
    have hn : n < xs.length := by omega
    obtain ⟨ns, a', d', f', I0⟩ := PA'
    exact ⟨a, xs, _, xs[n], rfl, rfl, SqL.keep K1 I0.obj S, atI_nat (by simp [hn]), k _ _ (List.getElem_mem hn) P1 K1⟩
theorem PenAt.new {H : Hp} {p k l : Addr} {c : Int} {o : HO} (h : PenAt H p k c) (n : H l = none) : PenAt (upd H l o) p k c := by
  obtain ⟨ns, a, d, f, I⟩ := h
  exact ⟨ns, a, d, f, by rw [upd_ne (ne_of_none I.obj n)]; exact I.obj, by rw [upd_ne (ne_of_none I.cel n)]; exact I.cel, I.len, I.a0, I.d0, I.c0, I.f0, I.f1⟩
end
end GG




namespace GG
open PySem PySem.Spec PyProof.Rows L2
/-! ### data in the heap, by their shape -/
mutual
inductive Da (H : Hp) : V → PyData → Prop
  | non : Da H .non .none
  | bl (b : Bool) : Da H (.bl b) (.bool b)
  | int (i : Int) : Da H (.int i) (.int i)
  | str (x : Str) : Da H (.str x) (.str x)
  | lst {a : Addr} {xs : List V} {ds : List PyData} : H a = some (.lst xs) → True → DaAll H xs ds → Da H (.ref a) (.list ds)
  | tup {a : Addr} {xs : List V} {ds : List PyData} : H a = some (.tup xs) → DaAll H xs ds → Da H (.ref a) (.tuple ds)
  | dic {a : Addr} {k : Str} {v : V} {d : PyData} : H a = some (.dK [(.inr k, v)]) → Da H v d → Da H (.ref a) (.dict [(.str k, d)])
inductive DaAll (H : Hp) : List V → List PyData → Prop
  | nil : DaAll H [] []
  | cons {v : V} {vs : List V} {d : PyData} {ds : List PyData} : Da H v d → DaAll H vs ds → DaAll H (v :: vs) (d :: ds)
end
/-! no list in it, and no dict -/
mutual
def noL : PyData → Bool
  | .none => true
  | .bool _ => true
  | .int _ => true
  | .str _ => true
  | .list _ => false
  | .tuple ds => noLs ds
  | .dict _ => false
def noLs : List PyData → Bool
  | [] => true
  | d :: ds => noL d && noLs ds
end
mutual
theorem Da.dt {X : Cx} {H : Hp} : ∀ {v : V} {d : PyData}, Da H v d → noL d = true → Dt X H v d
  | _, _, .non, _ => .non
  | _, _, .bl b, _ => .bl b
  | _, _, .int i, _ => .int i
  | _, _, .str x, _ => .str x
  | _, _, .lst _ _ _, h => by simp [noL] at h
  | _, _, .tup e t, h => .tup e (t.dt (by simpa [noL] using h))
  | _, _, .dic _ _, h => by simp [noL] at h
theorem DaAll.dt {X : Cx} {H : Hp} : ∀ {vs : List V} {ds : List PyData}, DaAll H vs ds → noLs ds = true → DtAll X H vs ds
  | _, _, .nil, _ => .nil
  | _, _, .cons h t, q => by
    simp only [noLs, Bool.and_eq_true] at q
    exact .cons (h.dt q.1) (t.dt q.2)
end
/-- what is no pen stays -/
def Stay (H H' : Hp) : Prop := ∀ b o, H b = some o → (∀ l a d c f, o ≠ .dK (penD l a d c f)) → H' b = some o
theorem Stay.refl {H : Hp} : Stay H H := fun _ _ e _ => e
theorem Stay.trans {H H1 H2 : Hp} (a : Stay H H1) (b : Stay H1 H2) : Stay H H2 := fun c o e n => b c o (a c o e n) n
theorem Same.stay {H H' : Hp} (k : Same H H') : Stay H H' := fun b o e _ => k b o e
theorem Keep.stay {p l0 : Addr} {c : Int} {H H' : Hp} (k : Keep p H H') (P : PenAt H p l0 c) : Stay H H' := fun b o e n => k b o (fun z => by
  obtain ⟨ns, a, d, f, I⟩ := P
  rw [z, I.obj] at e
  exact n _ _ _ _ _ (Option.some.inj e).symm) e
theorem Stay.new {H H1 : Hp} {q : Addr} {o : HO} (a : Stay H H1) (n : H1 q = none) : Stay H (upd H1 q o) := fun c u e ne => by
  have z := a c u e ne
  rw [upd_ne (ne_of_none z n)]
  exact z
mutual
theorem Da.stay {H H' : Hp} (k : Stay H H') : ∀ {v : V} {d : PyData}, Da H v d → Da H' v d
  | _, _, .non => .non
  | _, _, .bl b => .bl b
  | _, _, .int i => .int i
  | _, _, .str x => .str x
  | _, _, .lst e n t => .lst (k _ _ e (fun _ _ _ _ _ z => by cases z)) n (t.stay k)
  | _, _, .tup e t => .tup (k _ _ e (fun _ _ _ _ _ z => by cases z)) (t.stay k)
  | _, _, .dic e t => .dic (k _ _ e (fun _ _ _ _ _ z => by
      have z1 := HO.dK.inj z
      have z2 := congrArg List.length z1
      simp [penD] at z2)) (t.stay k)
theorem DaAll.stay {H H' : Hp} (k : Stay H H') : ∀ {vs : List V} {ds : List PyData}, DaAll H vs ds → DaAll H' vs ds
  | _, _, .nil => .nil
  | _, _, .cons h t => .cons (h.stay k) (t.stay k)
end
/-- a list display whose address is known not to be that of sys.modules -/
def tLstM (t : TA) : TE := fun σ H Q => t σ H fun xs H1 => xs.length ≤ sizeLine ∧ ∀ p, H1 p = none → p ≠ sysModules → Q (.ref p) (upd H1 p (.lst xs))
theorem pe_lstM {X : Cx} {es : List Expr} {t : TA} {pos : Pos} (h : PA X es t) : PE X (.List es pos) (tLstM t) := by
  refine ⟨fun pins s σ H Q I hq => ?_⟩
  refine wpAny_List_spliced (thn (h.run pos pins s σ H _ I hq) fun us s1 got => ?_)
  obtain ⟨xs, H1, I1, rel, small, q⟩ := got
  have fresh : H1 s1.heap.objs.size = none := I1.hok.fresh (Nat.le_refl _)
  refine ⟨by rw [← rel.length]; exact small, .ref s1.heap.objs.size, upd H1 s1.heap.objs.size (.lst xs), I1.laid (t' := s1.toks) (fun b u e => Heap.get?_push_of_some _ e) (Nat.le_refl _) ⟨small, us, 0, rel, Heap.get?_push_size _ rfl⟩, rfl, q _ fresh (Nat.ne_of_gt I1.big)⟩
/-- xs[lo:hi], likewise -/
def rSlM (K : PySem.W.Frag) : V → Option Int → Option Int → Hp → VK → Prop := fun x lo hi H Q => ∃ a xs, x = .ref a ∧ SqL K H a xs ∧ ∀ p, H p = none → p ≠ sysModules → Q (.ref p) (upd H p (.lst (cutV xs lo hi)))
theorem sl_listM {X : Cx} : SlR X (rSlM X.K) := by
  intro pins s σ H x v vl vu lo hi sl Q I rx hs pl pu h
  obtain ⟨a, xs, rfl, sq, q⟩ := h
  cases rx
  obtain ⟨its, r, ht, small⟩ := I.list sq
  have same := r.length
  refine ⟨"list", _, slot_list_getitem.lookup, ht.isList.typeIs, wpAny_getItem_list_slice ht.isList hs pl pu .none (by simp) ?_ (by rw [List.size_toArray] <;> omega)⟩
  rw [slicePick_cut, ← same]
  exact ⟨.ref s.heap.objs.size, _, I.laid (t' := s.toks) (o := .lst (cutV xs lo hi)) (fun b ob q => Heap.get?_push_of_some _ q) (Nat.le_refl _) ⟨Nat.le_trans (cutV_length xs lo hi) small, _, 0, (r.drop (HT.sIx xs.length 0 lo)).take (HT.sIx xs.length xs.length hi - HT.sIx xs.length 0 lo), Heap.get?_push_size _ rfl⟩, rfl, q _ (I.hok.fresh (Nat.le_refl _)) (Nat.ne_of_gt I.big)⟩
/-- for i, x in enumerate(a list) -/
theorem for_enumL {K : PySem.W.Frag} {a : Addr} {xs : List V} {g : TG} {tb : TS} {D : Ends} {σ : L2.St} {H : Hp} (Pv : Nat → L2.St → Hp → Prop) (h0 : Pv 0 σ H) (hq : ∀ i σ H, Pv i σ H → SqL K H a xs)
    (hs : ∀ (i : Nat) (x : V) (T : Addr) (σ : L2.St) (H : Hp), xs[i]? = some x → Pv i σ H → H T = none → g (.ref T) σ (upd H T (.tup [.int (i : Nat), x])) fun σ2 H2 => tb { D with nx := Pv (i + 1), ct := Pv (i + 1), bk := D.nx } σ2 H2) (hd : ∀ σ H, Pv xs.length σ H → D.nx σ H) :
    ∃ W : Nat → Nat → L2.St → Hp → Prop, (∃ m, W 0 m σ H) ∧ ∀ i m σ H, W i m σ H →
      ((Ite K a).stop i H ∧ D.nx σ H) ∨ ((Ite K a).go i H ∧ ∃ N : L2.St → Hp → Prop, (∀ σ' H', N σ' H' → ∃ m', m' < m ∧ W (i + 1) m' σ' H') ∧ ∀ v H', (Ite K a).yld i H v H' → g v σ H' fun σ2 H2 => tb { D with nx := N, ct := N, bk := D.nx } σ2 H2) := by
  refine ⟨fun i m σ H => m = xs.length - i ∧ i ≤ xs.length ∧ Pv i σ H, ⟨_, rfl, Nat.zero_le _, h0⟩, ?_⟩
  rintro i m σ H ⟨rfl, le, now⟩
  have sq := hq i σ H now
  by_cases lt : i < xs.length
  · refine .inr ⟨⟨xs, xs[i], sq, List.getElem?_eq_getElem lt⟩, Pv (i + 1), fun σ' H' z => ⟨xs.length - (i + 1), by omega, rfl, lt, z⟩, ?_⟩
    rintro v H' ⟨T, x, rfl, free, rfl, all⟩
    exact hs i x T σ H (all xs sq) now free
  · obtain rfl : i = xs.length := by omega
    exact .inl ⟨⟨xs, sq, Nat.le_refl _⟩, hd σ H now⟩
end GG




namespace GG
open PySem PySem.Spec PyProof.Rows L2
/-! ### what a ratio is, by its datum -/
def isW : PyData → Bool
  | .int _ => true
  | _ => false
def isB : PyData → Bool
  | .bool _ => true
  | _ => false
def lw (t b : Int) : Int × Int := (t / ((Nat.gcd t.natAbs b.natAbs : Nat) : Int), b / ((Nat.gcd t.natAbs b.natAbs : Nat) : Int))
def isR : PyData → Bool
  | .int _ => true
  | .tuple [.int _, .int b] => decide (0 < b)
  | .list [.int _, .int b] => decide (0 < b)
  | _ => false
def ratOf : PyData → Int × Int
  | .int i => (i, 1)
  | .tuple [.int a, .int b] => lw a b
  | .list [.int a, .int b] => lw a b
  | _ => (0, 1)
def smallR : PyData → Prop
  | .int i => i.natAbs < 2 ^ 120
  | .tuple [.int a, .int b] => a.natAbs < 2 ^ 120 ∧ b.natAbs < 2 ^ 120
  | .list [.int a, .int b] => a.natAbs < 2 ^ 120 ∧ b.natAbs < 2 ^ 120
  | _ => True
def tyD : PyData → String
  | .none => "NoneType"
  | .bool _ => "bool"
  | .int _ => "int"
  | .str _ => "str"
  | .list _ => "list"
  | .tuple _ => "tuple"
  | .dict _ => "dict"
def isSeq : PyData → Bool
  | .list _ => true
  | .tuple _ => true
  | _ => false
theorem Da.ty {K : PySem.W.Frag} {H : Hp} {v : V} {d : PyData} (h : Da H v d) : TyX K H v (.type (tyD d)) := by
  cases h with
  | non => exact .base .non
  | bl b => exact .base (.bl b)
  | int i => exact .base (.int i)
  | str x => exact .base (.str x)
  | lst e _ _ => exact .base (.lst e)
  | tup e _ => exact .base (.tup e)
  | dic e _ => exact .base (.dK e)
theorem kit_int {K : PySem.W.Frag} (d : PyData) : PySem.W.kitOne K (.type (tyD d)) (.type "int") = some (isW d || (isB d)) := by
  cases d <;> exact kit_ty (by kernel_rfl)
theorem kit_bool {K : PySem.W.Frag} (d : PyData) : PySem.W.kitOne K (.type (tyD d)) (.type "bool") = some (isB d) := by
  cases d <;> exact kit_ty (by kernel_rfl)
theorem kit_seq {K : PySem.W.Frag} (d : PyData) : PySem.W.kitAny K (.type (tyD d)) [.type "tuple", .type "list"] = some (isSeq d) := by
  cases d
  case list => exact kitAny_cons (b := false) (kit_ty (by kernel_rfl)) (fun _ => kitAny_cons (b := true) (kit_ty (by kernel_rfl)) (fun z => by cases z) (fun _ => rfl)) (fun z => by cases z)
  case tuple => exact kitAny_cons (b := true) (kit_ty (by kernel_rfl)) (fun z => by cases z) (fun _ => rfl)
  all_goals exact kitAny_cons (b := false) (kit_ty (by kernel_rfl)) (fun _ => kitAny_cons (b := false) (kit_ty (by kernel_rfl)) (fun _ => kitAny_nil) (fun z => by cases z)) (fun z => by cases z)
theorem ix_any {X : Cx} : IxR X (fun x y H Q => rIxL X.K x y H Q ∨ rIxT X.K x y H Q) := by
  intro value slice pins s σ H x y v u Q I rx ry h hs
  rcases h with h | h
  · exact ix_list value slice pins s σ H x y v u Q I rx ry h hs
  · exact ix_tup value slice pins s σ H x y v u Q I rx ry h hs
theorem bBool : bootBuiltins "bool" = some (.type "bool") := by decide +kernel
theorem bTuple : bootBuiltins "tuple" = some (.type "tuple") := by decide +kernel
structure RTxt (K : PySem.W.Frag) (mg : Str → Option Value) : Prop where
  int : mg "int" = none
  bool : mg "bool" = none
  tuple : mg "tuple" = none
  list : mg "list" = none
  len : mg "len" = none
  isi : mg "isinstance" = none
  gcd : mg "gcd" = some (.builtin "math.gcd")
theorem bIsi : bootBuiltins "isinstance" = some (.builtin "isinstance") := by decide +kernel
abbrev sWhole : Stmt := topS 10
abbrev sRatio : Stmt := topS 11
abbrev sLow : Stmt := topS 12
def spWhole : Sp := fun vs H Q _ => ∃ v d, vs = [v] ∧ Da H v d ∧ Q (.bl (isW d)) H
def spRatio : Sp := fun vs H Q _ => ∃ v d, vs = [v] ∧ Da H v d ∧ ∀ H', Same H H' → Q (.bl (isR d)) H'
def spLow : Sp := fun vs H Q _ => ∃ t b : Int, vs = [.int t, .int b] ∧ 0 < b ∧ b.natAbs < 2 ^ 250 ∧ ∀ p, H p = none → Q (.ref p) (upd H p (.tup [.int (lw t b).1, .int (lw t b).2]))
section
variable {P : Program} {w : World} {K : PySem.W.Frag} {mg : Str → Option Value} {base : Heap}
theorem scWhole : FnScope ["value"] ["value"] (defScope sWhole) := ⟨rfl, rfl, rfl, by decide +kernel, rfl, by decide +kernel, by decide +kernel⟩
theorem kn_whole (D : DefIs K mg "is_whole" sWhole) (T : RTxt K mg) : Kn P w K mg base "is_whole" 1 ["value"] spWhole := by
  refine .of D (fun _ _ _ _ _ _ us hl => match us, hl with | [_], _ => rfl) fun _ _ F => ?_
  refine F.ok scWhole (fun vs H Q E h => ?_) (fun cdv A outer s H vs Q E hr h => ?_)
  · obtain ⟨v, d, rfl, _⟩ := h
    rfl
  · obtain ⟨v, d, rfl, da, k⟩ := h
    refine ⟨_, pss_one (ps_ret (pe_and (pe_callB call_isi (by rfl) T.isi bIsi (pa_cons (pv 0) (pa_cons (pe_bltn (v := .ty "int") rfl T.int bInt rfl) pa_nil)))
      (pe_one (pe_not (pe_callB call_isi (by rfl) T.isi bIsi (pa_cons (pv 0) (pa_cons (pe_bltn (v := .ty "bool") rfl T.bool bBool rfl) pa_nil))))))), ?_⟩
    refine ⟨_, rfl, v, .ty "int", _, _, _, rfl, .ty _, da.ty, kit_int d, _, rfl, ?_⟩
    refine ite2 (fun z => ?_) (fun z => ?_)
    · refine ⟨_, rfl, v, .ty "bool", _, _, _, rfl, .ty _, da.ty, kit_bool d, _, rfl, ?_⟩
      have e : (!(isB d)) = isW d := by
        cases d <;> first | rfl | (simp [isW, isB] at z)
      rw [e]
      exact k
    · have e : isW d = false := by
        cases d <;> first | rfl | (simp [isW, isB] at z)
      rw [e] at k
      exact k
theorem scRatio : FnScope ["value"] ["value"] (defScope sRatio) := ⟨rfl, rfl, rfl, by decide +kernel, rfl, by decide +kernel, by decide +kernel⟩
theorem isR_long {xs : List PyData} (h : xs.length ≠ 2) : isR (.list xs) = false ∧ isR (.tuple xs) = false := by
  match xs, h with
  | [], _ => exact ⟨rfl, rfl⟩
  | [_], _ => exact ⟨by simp [isR], by simp [isR]⟩
  | [_, _], h => exact absurd rfl h
  | _ :: _ :: _ :: _, _ => exact ⟨by simp [isR], by simp [isR]⟩
theorem DaAll.length {H : Hp} : ∀ {vs : List V} {ds : List PyData}, DaAll H vs ds → vs.length = ds.length
  | _, _, .nil => rfl
  | _, _, .cons _ t => by rw [List.length_cons, List.length_cons, t.length]
/-- a list or a tuple with these items -/
theorem Da.seq {K : PySem.W.Frag} {H : Hp} {v : V} {d : PyData} (h : Da H v d) (s : isSeq d = true) : ∃ a xs ds, v = .ref a ∧ (SqL K H a xs ∨ SqT K H a xs) ∧ DaAll H xs ds ∧ (d = .list ds ∨ d = .tuple ds) ∧ xs.length = ds.length := by
  cases h with
  | lst e n t => exact ⟨_, _, _, rfl, .inl (.inl (.inl e)), t, .inl rfl, t.length⟩
  | tup e t => exact ⟨_, _, _, rfl, .inr (.inl (.inl e)), t, .inr rfl, t.length⟩
  | _ => cases s
theorem kn_ratio (D : DefIs K mg "is_ratio" sRatio) (T : RTxt K mg) (B : Kn P w K mg base "is_whole" 1 ["value"] spWhole) : Kn P w K mg base "is_ratio" 2 ["value"] spRatio := by
  refine .of D (fun _ _ _ _ _ _ us hl => match us, hl with | [_], _ => rfl) fun _ _ F => ?_
  refine F.ok scRatio (fun vs H Q E h => ?_) (fun cdv A outer s H vs Q E hr h => ?_)
  · obtain ⟨v, d, rfl, _⟩ := h
    rfl
  · obtain ⟨v, d, rfl, da, k⟩ := h
    refine ⟨_, pss_cons (ps_if (pt_val (pe_kn B hr (pa_cons (pv 0) pa_nil))) (pss_one (ps_ret pe_bl)) pss_nil)
      (pss_cons (ps_if (PW.pt (pw_or (pt_not (pt_val (pe_callB call_isiT (by rfl) T.isi bIsi (pa_cons (pv 0) (pa_cons (pe_tup (pa_cons (pe_bltn (v := .ty "tuple") rfl T.tuple bTuple rfl) (pa_cons (pe_bltn (v := .ty "list") rfl T.list bList rfl) pa_nil))) pa_nil)))))
          (pw_or1 (pt_cmpR op_ne (pe_callB call_len_seq (by rfl) T.len PySem.boot_len (pa_cons (pv 0) pa_nil)) pe_int (nomark _))))) (pss_one (ps_ret pe_bl)) pss_nil)
      (pss_one (ps_ret (pe_and (pe_kn B hr (pa_cons (pe_ix ix_any (pv 0) pe_int (fun _ _ => rfl)) pa_nil)) (pe_and (pe_kn B hr (pa_cons (pe_ix ix_any (pv 0) pe_int (fun _ _ => rfl)) pa_nil)) (pe_one (pe_cmpR op_gt (pe_ix ix_any (pv 0) pe_int (fun _ _ => rfl)) pe_int (nomark _)))))))), ?_⟩
    refine ⟨_, rfl, v, d, rfl, da, _, rfl, ?_⟩
    refine ite2 (fun z => ?_) (fun z => ?_)
    · have e : isR d = true := by cases d <;> first | rfl | (simp [isW] at z)
      rw [e] at k
      exact k H (L2.Same.refl H)
    refine ⟨_, rfl, (by show 2 ≤ sizeLine; rw [sizeLine_eq]; decide), fun p np => ?_⟩
    have S1 := GG.Stay.new (Stay.refl (H := H)) np (o := .tup [.ty "tuple", .ty "list"])
    have da1 := da.stay S1
    have Sa : Same H (upd H p (.tup [.ty "tuple", .ty "list"])) := fun b o e => by
      rw [upd_ne (ne_of_none e np)]
      exact e
    refine ⟨v, p, _, _, _, _, rfl, upd_same, .cons (.ty _) (.cons (.ty _) .nil), da1.ty, kit_seq d, _, rfl, ?_⟩
    generalize (upd H p (.tup [.ty "tuple", .ty "list"])) = H1 at S1 da1 Sa ⊢
    cases hs : isSeq d with
    | false =>
      refine iteT ?_
      have e : isR d = false := by
        cases d with
        | int i => exact absurd (show isW (.int i) = true from rfl) z
        | list xs => cases hs
        | tuple xs => cases hs
        | _ => rfl
      rw [e] at k
      exact k H1 Sa
    | true =>
      refine iteF ?_
      obtain ⟨a, xs, ds, rfl, sq, all, hd, hl⟩ := da1.seq (K := K) hs
      refine ⟨_, rfl, a, xs, rfl, sq, rfl, _, rfl, ?_⟩
      refine ite2 (fun z2 => ?_) (fun z2 => ?_)
      · have e : isR d = false := by
          have hn : ds.length ≠ 2 := fun q => by
            rw [hl, q] at z2
            simp at z2
          rcases hd with rfl | rfl
          · exact (isR_long hn).1
          · exact (isR_long hn).2
        rw [e] at k
        exact k H1 Sa
      · have h2 : ds.length = 2 := by
          have q : xs.length = 2 := by
            by_cases q : (xs.length : Int) = 2
            · omega
            · exfalso
              apply z2
              simp [q]
          omega
        obtain ⟨d0, d1, rfl⟩ : ∃ d0 d1, ds = [d0, d1] := by
          match ds, h2 with
          | [d0, d1], _ => exact ⟨_, _, rfl⟩
        cases all with
        | @cons x0 xs' _ _ a0 all' =>
          cases all' with
          | @cons x1 xs'' _ _ a1 all'' =>
            cases all''
            have ix : ∀ (n : Nat) (x : V), [x0, x1][n]? = some x → ∀ (Q' : V → Hp → Prop), Q' x H1 → (rIxL K (.ref a) (.int (n : Int)) H1 Q' ∨ rIxT K (.ref a) (.int (n : Int)) H1 Q') := fun n x hx Q' q => by
              rcases sq with sq | sq
              · exact .inl ⟨a, _, _, x, rfl, rfl, sq, atI_nat hx, q⟩
              · exact .inr ⟨a, _, _, x, rfl, rfl, sq, atI_nat hx, q⟩
            refine ⟨_, rfl, ix 0 x0 rfl _ ⟨x0, d0, rfl, a0, _, rfl, ?_⟩⟩
            cases h0 : isW d0 with
            | false =>
              refine iteF ?_
              have e : isR d = false := by rcases hd with rfl | rfl <;> (cases d0 <;> first | rfl | (simp [isW] at h0))
              rw [e] at k
              exact k H1 Sa
            | true =>
              refine iteT ?_
              refine ⟨_, rfl, ix 1 x1 rfl _ ⟨x1, d1, rfl, a1, _, rfl, ?_⟩⟩
              cases h1 : isW d1 with
              | false =>
                refine iteF ?_
                have e : isR d = false := by rcases hd with rfl | rfl <;> (cases d0 <;> first | rfl | (cases d1 <;> first | rfl | (simp [isW] at h1)))
                rw [e] at k
                exact k H1 Sa
              | true =>
                refine iteT ?_
                cases d0 with
                | int i0 =>
                  cases d1 with
                  | int i1 =>
                    cases a1
                    refine ⟨_, rfl, ix 1 (.int i1) rfl _ ⟨_, _, rfl, rfl, ?_⟩⟩
                    have e : isR d = decide (0 < i1) := by rcases hd with rfl | rfl <;> rfl
                    rw [e] at k
                    exact k H1 Sa
                  | _ => cases h1
                | _ => cases h0
theorem scLow : FnScope ["top", "bottom", "shared"] ["top", "bottom"] (defScope sLow) := ⟨rfl, rfl, rfl, by decide +kernel, rfl, by decide +kernel, by decide +kernel⟩
theorem kn_low (D : DefIs K mg "lowest" sLow) (T : RTxt K mg) : Kn P w K mg base "lowest" 1 ["top", "bottom"] spLow := by
  refine .of D (fun _ _ _ _ _ _ us hl => match us, hl with | [_, _], _ => rfl) fun _ _ F => ?_
  refine F.ok scLow (fun vs H Q E h => ?_) (fun cdv A outer s H vs Q E hr h => ?_)
  · obtain ⟨t, b, rfl, _⟩ := h
    rfl
  · obtain ⟨t, b, rfl, b0, b1, k⟩ := h
    refine ⟨_, pss_cons (ps_set (i := 2) scLow.nd rfl (.inl rfl) (pe_callBfun cr_gcd (by rfl) T.gcd (pa_cons (pv 0) (pa_cons (pv 1) pa_nil))))
      (pss_one (ps_ret (pe_tup (pa_cons (pe_op op_fdivW (pv 0) (pv 2)) (pa_cons (pe_op op_fdivW (pv 1) (pv 2)) pa_nil))))), ?_⟩
    have g0 : 0 < Nat.gcd t.natAbs b.natAbs := Nat.gcd_pos_of_pos_right _ (by omega)
    have g1 : Nat.gcd t.natAbs b.natAbs ≤ b.natAbs := Nat.le_of_dvd (by omega) (Nat.gcd_dvd_right _ _)
    have dv : CDivW t ((Nat.gcd t.natAbs b.natAbs : Nat) : Int) := wide_div (b := 250) (by omega) (by rw [Int.natAbs_natCast]; exact Nat.lt_of_le_of_lt g1 b1) (by decide) (by decide)
    have dv2 : CDivW b ((Nat.gcd t.natAbs b.natAbs : Nat) : Int) := wide_div (b := 250) (by omega) (by rw [Int.natAbs_natCast]; exact Nat.lt_of_le_of_lt g1 b1) (by decide) (by decide)
    refine ⟨_, rfl, _, rfl, t, b, rfl, _, rfl, _, rfl, _, _, rfl, rfl, dv, _, rfl, _, rfl, _, _, rfl, rfl, dv2, (by show 2 ≤ sizeLine; rw [sizeLine_eq]; decide), fun p np => ?_⟩
    exact k p np
end
end GG




namespace GG
open PySem PySem.Spec PyProof.Rows L2
theorem Same.new {H H1 : Hp} {q : Addr} {o : HO} (a : Same H H1) (n : H1 q = none) : Same H (upd H1 q o) := fun c u e => by
  have z := a c u e
  rw [upd_ne (ne_of_none z n)]
  exact z
/-! ### defs that may raise -/
structure KnX (P : Program) (w : World) (K : PySem.W.Frag) (mg : Str → Option Value) (base : Heap) (x : Str) (k : Nat) (ps : List Str) (sp : Sp) : Prop where
  ex : ∃ f fd, mg x = some (.ref f) ∧ PySem.W.keepIn K (.ref f) = true ∧ Binds K fd ps [] ∧ FnOk P w K mg base (L2.CX P w) k f fd ps sp
theorem KnX.of {P : Program} {w : World} {K : PySem.W.Frag} {mg : Str → Option Value} {base : Heap} {x : Str} {st : Stmt} {k : Nat} {ps : List Str} {sp : Sp} (D : DefIs K mg x st)
    (hb : ∀ (kV doc pm : Value) (an : Option Addr) (cdv ct : Value) (us : List Value), us.length = ps.length → bindArgs (PySem.W.fnOf x x (defArgs st) (defBody st) (defScope st) .none kV doc pm an cdv ct) ⟨us, []⟩ = pure (ps.zip us))
    (ok : ∀ f fd, Fun K x x st f fd → FnOk P w K mg base (L2.CX P w) k f fd ps sp) : KnX P w K mg base x k ps sp := by
  obtain ⟨f, fd, F, m⟩ := D.ex
  exact ⟨f, fd, m, F.kp, F.binds hb, ok f fd F⟩
theorem pe_knX {X : Cx} {W : WX} {E : XK} {x : Str} {k : Nat} {ps : List Str} {sp : Sp} {e : Expr} {es : List Expr} {t : TA} {p pos : Pos} (F : KnX X.prog X.w X.K X.mg X.base x k ps sp) (hr : Room k X.A) (tk : Takes X W) (hW : ∀ cls d σ H, E cls d H → W cls d σ H) (ha : PA X (e :: es) t) (hg : Gl X x := by rfl)
    (hdb : (x == ("__debug__" : Str)) = false := by decide) (he : starEach (e :: es) X.env = (false, eval e X.env) :: starEach es X.env := by rfl) (hpl : (backTo pos (starEach es X.env)).any (·.1) = false := by rfl) :
    PE X (.Call (.Name x p) (e :: es) [] pos) (tCall sp [] E t) := by
  obtain ⟨f, fd, hm, hk, hb, G⟩ := F.ex
  exact pe_call G hr hg hm hk hb .nil (passes_call tk hW) ha hdb he hpl
abbrev sBN : Stmt := inClass (topS 3) 0
abbrev sTold : Stmt := topS 13
/-- BadNumber's __init__ -/
def spBN (C : Addr) : Sp := fun vs H Q _ => ∃ (a : Addr) (y1 y2 : V), vs = [.ref a, y1, y2] ∧ H a = some (exo a C none) ∧ ∀ (dx : Addr) (H' : Hp), H dx = none → dx ≠ a → H' a = some (exo a C (some dx)) → H' dx = some (exd dx [("number", y2), ("what", y1)]) → Keep a H H' → Q .non H'
structure BNTxt (P : Program) (w : World) (K : PySem.W.Frag) (mg : Str → Option Value) (base : Heap) (C : Addr) : Prop where
  m : mg "BadNumber" = some (.ref C)
  t : ExT K C
  ini : ∃ fI fd, PySem.W.findIn K (.ref C) "__init__" = some (some (.ref fI)) ∧ PySem.W.typeIn K (.ref fI) = some (.type "function") ∧ Binds K fd ["self", "what", "number"] [] ∧ FnOk P w K mg base CX0 1 fI fd ["self", "what", "number"] (spBN C)
section
variable {P : Program} {w : World} {K : PySem.W.Frag} {mg : Str → Option Value} {base : Heap}
theorem scBN : FnScope ["self", "what", "number"] ["self", "what", "number"] (defScope sBN) := ⟨rfl, rfl, rfl, by decide +kernel, rfl, by decide +kernel, by decide +kernel⟩
theorem bn_of {C fI : Addr} {fd : FuncData} (m : mg "BadNumber" = some (.ref C)) (t : ExT K C) (n1 : PySem.W.findIn K (.ref C) "what" = some none) (n2 : PySem.W.findIn K (.ref C) "number" = some none)
    (i : PySem.W.findIn K (.ref C) "__init__" = some (some (.ref fI))) (ti : PySem.W.typeIn K (.ref fI) = some (.type "function")) (U : Fun K "__init__" "BadNumber.__init__" sBN fI fd) : BNTxt P w K mg base C := by
  refine ⟨m, t, fI, fd, i, ti, U.binds fun _ _ _ _ _ _ us hl => match us, hl with | [_, _, _], _ => rfl, ?_⟩
  refine U.ok scBN (fun vs H Q E h => ?_) (fun cdv A outer s H vs Q E hr h => ?_)
  · obtain ⟨a, y1, y2, rfl, _⟩ := h
    rfl
  · obtain ⟨a, y1, y2, rfl, he, k⟩ := h
    refine ⟨_, pss_cons (ps_ost (pv 0) (pv 1)) (pss_one (ps_ost (pv 0) (pv 2))), ?_⟩
    refine ⟨_, rfl, _, rfl, a, C, rfl, t.ox, n1, .inl ⟨he, fun dx hdx ne => ?_⟩⟩
    refine ⟨_, rfl, _, rfl, a, C, rfl, t.ox, n2, .inr ⟨dx, [("what", y1)], upd_same, by rw [upd_ne ne, upd_same], (by show 1 ≤ 900; decide), ?_⟩⟩
    refine k dx _ hdx ne (by rw [upd_ne ne.symm, upd_same]) upd_same fun b o nb e => ?_
    rw [upd_ne (ne_of_none e hdx), upd_ne nb, upd_ne (ne_of_none e hdx)]
    exact e
/-- raise BadNumber(a, b): what is left behind the arguments -/
theorem raiseBN {C : Addr} {y1 y2 : V} {H1 : Hp} {R : Value → Option Addr → Hp → Prop} (k : ∀ (d : Addr) (H' : Hp), H' d = some (.xd [("number", y2), ("what", y1)]) → Same H1 H' → R (.ref C) (some d) H') :
    [y1, y2].length ≤ 1000 ∧ ∀ a, H1 a = none → spBN C (.ref a :: ([y1, y2] ++ [])) (upd H1 a (exo a C none))
      (fun v H2 => v = .non ∧ ∃ (d : Addr) (fs : List (Str × V)), H2 a = some (exo a C (some d)) ∧ H2 d = some (exd d fs) ∧ H1 d = none ∧ R (.ref C) (some d) (upd (del H2 a) d (.xd fs))) (fun _ _ _ => False) := by
  refine ⟨(by show 2 ≤ 1000; decide), fun a na => ⟨a, y1, y2, rfl, upd_same, fun dx H2 hdx ne e1 e2 kp => ⟨rfl, dx, _, e1, e2, ?_, ?_⟩⟩⟩
  · rw [upd_ne ne] at hdx
    exact hdx
  · refine k dx _ upd_same fun b o z => ?_
    have nd : H1 dx = none := by
      rw [upd_ne ne] at hdx
      exact hdx
    rw [upd_ne (ne_of_none z nd), del_ne (ne_of_none z na)]
    exact kp b o (ne_of_none z na) (by rw [upd_ne (ne_of_none z na)]; exact z)
theorem ps_raiseBN {X : Cx} {C : Addr} {W : WX} {e1 e2 : Expr} {ta : TA} {p pos pos2 : Pos} (hc : X.calm = true) (T : BNTxt X.prog X.w X.K X.mg X.base C) (hr : Room 2 X.A) (tk : Takes X W) (ha : PA X [e1, e2] ta) (hg : Gl X "BadNumber" := by rfl)
    (he : starEach (e1 :: [e2]) X.env = (false, eval e1 X.env) :: starEach [e2] X.env := by rfl) (hpl : (backTo pos (starEach [e2] X.env)).any (·.1) = false := by rfl) :
    PS X (.Raise (some (.Call (.Name "BadNumber" p) [e1, e2] [] pos)) none pos2) (fun _ σ H => tMkO C (spBN C) [] ta σ H fun cls d H' => W cls d σ H') := by
  obtain ⟨fI, fd, i, ti, hb, G⟩ := T.ini
  exact ps_raise hc tk (pmk_oex (CX := CX0) T.t.ox i ti G hr hb .nil (fun _ _ _ _ _ _ _ z => z.elim) hg T.m ha (by decide) he hpl)
def spTold (C : Addr) : Sp := fun vs H Q E => ∃ v wv d, vs = [v, wv] ∧ Da H v d ∧ smallR d ∧ (isR d = true → ∀ p H', H' p = some (.tup [.int (ratOf d).1, .int (ratOf d).2]) → Same H H' → Q (.ref p) H') ∧
  (isR d = false → ∀ dd H', H' dd = some (.xd [("number", v), ("what", wv)]) → Same H H' → E (.ref C) (some dd) H')
theorem scTold : FnScope ["value", "what"] ["value", "what"] (defScope sTold) := ⟨rfl, rfl, rfl, by decide +kernel, rfl, by decide +kernel, by decide +kernel⟩
/-- a datum that is a ratio -/
theorem isR_cases {d : PyData} (h : isR d = true) : (∃ i, d = .int i) ∨ ∃ i b, (d = .tuple [.int i, .int b] ∨ d = .list [.int i, .int b]) ∧ 0 < b := by
  unfold isR at h
  split at h
  · exact .inl ⟨_, rfl⟩
  · exact .inr ⟨_, _, .inl rfl, of_decide_eq_true h⟩
  · exact .inr ⟨_, _, .inr rfl, of_decide_eq_true h⟩
  · cases h
theorem kn_told {C : Addr} (D : DefIs K mg "told" sTold) (T : RTxt K mg) (N : BNTxt P w K mg base C) (B : Kn P w K mg base "is_ratio" 2 ["value"] spRatio) (L : Kn P w K mg base "lowest" 1 ["top", "bottom"] spLow) : KnX P w K mg base "told" 3 ["value", "what"] (spTold C) := by
  refine .of D (fun _ _ _ _ _ _ us hl => match us, hl with | [_, _], _ => rfl) fun _ _ F => ?_
  refine F.okX scTold (fun vs H Q E h => ?_) (fun cdv A outer s H vs Q E hr h => ?_)
  · obtain ⟨v, wv, d, rfl, _⟩ := h
    rfl
  · obtain ⟨v, wv, d, rfl, da, sm, kQ, kE⟩ := h
    have hr1 : Room 1 _ := hr.mono (by decide)
    refine ⟨_, pss_cons (ps_if (pt_not (pt_val (pe_kn B hr (pa_cons (pv 0) pa_nil)))) (pss_one (ps_raiseBN rfl N hr (takes_of rfl rfl rfl rfl) (pa_cons (pv 1) (pa_cons (pv 0) pa_nil)))) pss_nil)
      (pss_cons (ps_if (pt_val (pe_callB call_isi (by rfl) T.isi bIsi (pa_cons (pv 0) (pa_cons (pe_bltn (v := .ty "int") rfl T.int bInt rfl) pa_nil)))) (pss_one (ps_ret (pe_tup (pa_cons (pv 0) (pa_cons pe_int pa_nil))))) pss_nil)
      (pss_one (ps_ret (pe_kn L hr1 (pa_cons (pe_ix ix_any (pv 0) pe_int (fun _ _ => rfl)) (pa_cons (pe_ix ix_any (pv 0) pe_int (fun _ _ => rfl)) pa_nil)))))), ?_⟩
    refine ⟨_, rfl, v, d, rfl, da, fun H1 S1 => ⟨_, rfl, ?_⟩⟩
    have da1 := da.stay (Same.stay S1)
    cases hR : isR d with
    | false =>
      refine iteT ?_
      exact ⟨_, rfl, _, rfl, raiseBN fun dd H' e S' => kE hR dd H' e (L2.Same.trans S1 S')⟩
    | true =>
      refine iteF ?_
      refine ⟨_, rfl, v, .ty "int", _, _, _, rfl, .ty _, da1.ty, kit_int d, _, rfl, ?_⟩
      rcases isR_cases hR with ⟨i, rfl⟩ | ⟨i, b, hd, b0⟩
      · refine iteT ?_
        cases da1
        refine ⟨_, rfl, (by show 2 ≤ sizeLine; rw [sizeLine_eq]; decide), fun p np => ?_⟩
        exact kQ hR p _ upd_same (GG.Same.new S1 np)
      · have e1 : (isW d || isB d) = false := by rcases hd with rfl | rfl <;> rfl
        have e2 : isSeq d = true := by rcases hd with rfl | rfl <;> rfl
        rw [e1]
        refine iteF ?_
        obtain ⟨a, xs, ds, rfl, sq, all, hd2, hl⟩ := da1.seq (K := K) e2
        have e3 : ds = [.int i, .int b] := by
          rcases hd with rfl | rfl <;> rcases hd2 with z | z <;> cases z <;> rfl
        have e4 : ratOf d = lw i b := by rcases hd with rfl | rfl <;> rfl
        have sb : b.natAbs < 2 ^ 120 := by rcases hd with rfl | rfl <;> exact sm.2
        rw [e4] at kQ
        subst e3
        cases all with
        | @cons x0 xs' _ _ a0 all' =>
          cases all' with
          | @cons x1 xs'' _ _ a1 all'' =>
            cases all''
            cases a0
            cases a1
            have ix : ∀ (n : Nat) (x : V), [V.int i, V.int b][n]? = some x → ∀ (Q' : V → Hp → Prop), Q' x H1 → (rIxL K (.ref a) (.int (n : Int)) H1 Q' ∨ rIxT K (.ref a) (.int (n : Int)) H1 Q') := fun n x hx Q' q => by
              rcases sq with sq | sq
              · exact .inl ⟨a, _, _, x, rfl, rfl, sq, atI_nat hx, q⟩
              · exact .inr ⟨a, _, _, x, rfl, rfl, sq, atI_nat hx, q⟩
            refine ⟨_, rfl, ix 0 _ rfl _ ⟨_, rfl, ix 1 _ rfl _ ⟨i, b, rfl, b0, Nat.lt_of_lt_of_le sb (Nat.pow_le_pow_right (by decide) (by decide)), fun p np => ?_⟩⟩⟩
            exact kQ hR p _ upd_same (GG.Same.new S1 np)
end
end GG




namespace GG
open PySem PySem.Spec PyProof.Rows L2
/-! ### sums, differences, products, less -/
theorem lw_exact (t b : Int) : (lw t b).1 * ((Nat.gcd t.natAbs b.natAbs : Nat) : Int) = t ∧ (lw t b).2 * ((Nat.gcd t.natAbs b.natAbs : Nat) : Int) = b :=
  ⟨Int.ediv_mul_cancel (Int.ofNat_dvd_left.mpr (Nat.gcd_dvd_left _ _)), Int.ediv_mul_cancel (Int.ofNat_dvd_left.mpr (Nat.gcd_dvd_right _ _))⟩
theorem lw_small {t b : Int} (h : 0 < b) : (lw t b).1.natAbs ≤ t.natAbs ∧ (lw t b).2.natAbs ≤ b.natAbs ∧ 0 < (lw t b).2 := by
  have g0 : 0 < Nat.gcd t.natAbs b.natAbs := Nat.gcd_pos_of_pos_right _ (by omega)
  obtain ⟨e1, e2⟩ := lw_exact t b
  refine ⟨?_, ?_, ?_⟩
  · have z := congrArg Int.natAbs e1
    rw [Int.natAbs_mul, Int.natAbs_natCast] at z
    rw [← z]
    exact Nat.le_mul_of_pos_right _ g0
  · have z := congrArg Int.natAbs e2
    rw [Int.natAbs_mul, Int.natAbs_natCast] at z
    rw [← z]
    exact Nat.le_mul_of_pos_right _ g0
  · by_cases p : 0 < (lw t b).2
    · exact p
    · exfalso
      have : (lw t b).2 * ((Nat.gcd t.natAbs b.natAbs : Nat) : Int) ≤ 0 := Int.mul_nonpos_of_nonpos_of_nonneg (by omega) (by omega)
      omega
theorem ratOf_small {d : PyData} (h : isR d = true) (s : smallR d) : (ratOf d).1.natAbs < 2 ^ 120 ∧ (ratOf d).2.natAbs < 2 ^ 120 ∧ 0 < (ratOf d).2 := by
  rcases isR_cases h with ⟨i, rfl⟩ | ⟨i, b, rfl | rfl, b0⟩
  · exact ⟨s, (by decide +kernel : (1 : Nat) < 2 ^ 120), (by decide : (0 : Int) < 1)⟩
  · obtain ⟨x, y, z⟩ := lw_small (t := i) b0
    exact ⟨Nat.lt_of_le_of_lt x s.1, Nat.lt_of_le_of_lt y s.2, z⟩
  · obtain ⟨x, y, z⟩ := lw_small (t := i) b0
    exact ⟨Nat.lt_of_le_of_lt x s.1, Nat.lt_of_le_of_lt y s.2, z⟩
/-- an operation on two ratios; ok: what it leaves -/
def spBin (C : Addr) (ok : Int × Int → Int × Int → Hp → VK → Prop) : Sp := fun vs H Q E => ∃ v1 v2 d1 d2, vs = [v1, v2] ∧ Da H v1 d1 ∧ Da H v2 d2 ∧ smallR d1 ∧ smallR d2 ∧
  (isR d1 = true → isR d2 = true → ok (ratOf d1) (ratOf d2) H Q) ∧
  (isR d1 = false → ∀ dd H', H' dd = some (.xd [("number", v1), ("what", .str "ratio")]) → Same H H' → E (.ref C) (some dd) H') ∧
  (isR d1 = true → isR d2 = false → ∀ dd H', H' dd = some (.xd [("number", v2), ("what", .str "ratio")]) → Same H H' → E (.ref C) (some dd) H')
def okTup (f : Int × Int → Int × Int → Int × Int) : Int × Int → Int × Int → Hp → VK → Prop := fun a b H Q => ∀ p H', H' p = some (.tup [.int (f a b).1, .int (f a b).2]) → Same H H' → Q (.ref p) H'
def rPlus (a b : Int × Int) : Int × Int := lw (a.1 * b.2 + b.1 * a.2) (a.2 * b.2)
def rMinus (a b : Int × Int) : Int × Int := lw (a.1 * b.2 - b.1 * a.2) (a.2 * b.2)
def rTimes (a b : Int × Int) : Int × Int := lw (a.1 * b.1) (a.2 * b.2)
def rLess (a b : Int × Int) : Bool := decide (a.1 * b.2 < b.1 * a.2)
def okLess : Int × Int → Int × Int → Hp → VK → Prop := fun a b H Q => ∀ H', Same H H' → Q (.bl (rLess a b)) H'
theorem mulW {i j : Int} (a : i.natAbs < 2 ^ 120) (b : j.natAbs < 2 ^ 120) : CMulW i j := wide_mul a b (by decide) (by decide) (by decide)
section
variable {P : Program} {w : World} {K : PySem.W.Frag} {mg : Str → Option Value} {base : Heap}

end
end GG




namespace GG
open PySem PySem.Spec PyProof.Rows L2
/-! ### the law's own reckoning -/
theorem bAbs : bootBuiltins "abs" = some (.builtin "abs") := by decide +kernel
abbrev sGcd : Stmt := topS 44
abbrev sQ : Stmt := topS 45
def spGcd : Sp := fun vs H Q _ => ∃ a b : Int, vs = [.int a, .int b] ∧ a.natAbs < 2 ^ 250 ∧ b.natAbs < 2 ^ 250 ∧ Q (.int ((Nat.gcd a.natAbs b.natAbs : Nat) : Int)) H
def spQ : Sp := fun vs H Q _ => ∃ t b : Int, vs = [.int t, .int b] ∧ 0 < b ∧ t.natAbs < 2 ^ 250 ∧ b.natAbs < 2 ^ 250 ∧ ∀ p, H p = none → Q (.ref p) (upd H p (.tup [.int (lw t b).1, .int (lw t b).2]))
def smallP (a : Int × Int) : Prop := a.1.natAbs < 2 ^ 120 ∧ a.2.natAbs < 2 ^ 120 ∧ 0 < a.2
def spLaw2 (ok : Int × Int → Int × Int → Hp → VK → Prop) : Sp := fun vs H Q _ => ∃ (p1 p2 : Addr) (a b : Int × Int), vs = [.ref p1, .ref p2] ∧ H p1 = some (.tup [.int a.1, .int a.2]) ∧ H p2 = some (.tup [.int b.1, .int b.2]) ∧ smallP a ∧ smallP b ∧ ok a b H Q
/-- one lap of Euclid halves the product -/
theorem lap_half {x y : Nat} (h : y < x) : 2 * (y * (x % y)) ≤ x * y := by
  by_cases y0 : y = 0
  · subst y0
    simp
  · have e := Nat.div_add_mod x y
    have q1 : 1 ≤ x / y := Nat.div_pos (Nat.le_of_lt h) (by omega)
    have m : x % y < y := Nat.mod_lt _ (by omega)
    have le : y ≤ y * (x / y) := Nat.le_mul_of_pos_right _ q1
    have two : 2 * (x % y) ≤ x := by omega
    calc 2 * (y * (x % y)) = y * (2 * (x % y)) := by rw [Nat.mul_left_comm]
      _ ≤ y * x := Nat.mul_le_mul_left _ two
      _ = x * y := Nat.mul_comm _ _
section
variable {P : Program} {w : World} {K : PySem.W.Frag} {mg : Str → Option Value} {base : Heap}
theorem scGcd : FnScope ["_law_one", "_law_two", "_law_lap"] ["_law_one", "_law_two"] (defScope sGcd) := ⟨rfl, rfl, rfl, by decide +kernel, rfl, by decide +kernel, by decide +kernel⟩
theorem abs_nat (i : Int) : (if i < 0 then -i else i) = ((i.natAbs : Nat) : Int) := by
  split <;> omega
theorem kn_gcd (D : DefIs K mg "_law_gcd" sGcd) (za : mg "abs" = none) (zr : mg "range" = none) (zi : mg "int" = none) : Kn P w K mg base "_law_gcd" 1 ["_law_one", "_law_two"] spGcd := by
  refine .of D (fun _ _ _ _ _ _ us hl => match us, hl with | [_, _], _ => rfl) fun _ _ F => ?_
  refine F.ok scGcd (fun vs H Q E h => ?_) (fun cdv A outer s H vs Q E hr h => ?_)
  · obtain ⟨a, b, rfl, _⟩ := h
    rfl
  · obtain ⟨a, b, rfl, sa, sb, k⟩ := h
    refine ⟨_, pss_cons (ps_par (i := 0) (j := 1) rfl scGcd.nd rfl rfl (by decide) rfl rfl (pa_cons (pe_callB call_abs (by rfl) za bAbs (pa_cons (pv 0) pa_nil)) (pa_cons (pe_callB call_abs (by rfl) za bAbs (pa_cons (pv 1) pa_nil)) pa_nil)) rfl)
      (pss_cons (ps_for PassesOwn.never rfl (pi_range1 rfl zr (pa_cons pe_int pa_nil)) (pg_name (i := 2) scGcd.nd rfl (.inl rfl))
        (pss_cons (ps_if (pt_cmpR op_eq (pv 1) pe_int (nomark _)) (pss_one ps_break) pss_nil)
        (pss_one (ps_par (i := 0) (j := 1) rfl scGcd.nd rfl rfl (by decide) rfl rfl (pa_cons (pv 1) (pa_cons (pe_op op_mod (pe_callTy call_int1 (by rfl) zi bInt (pa_cons (pv 0) pa_nil)) (pv 1)) pa_nil)) rfl))))
      (pss_one (ps_ret (pv 0)))), ?_⟩
    refine ⟨_, rfl, a, rfl, _, rfl, b, rfl, _, _, rfl, ?_⟩
    rw [abs_nat, abs_nat]
    have fin : ∀ (x y : Nat) (v : Option V) (H' : Hp), H = H' → Nat.gcd x y = Nat.gcd a.natAbs b.natAbs → y = 0 → ∃ u, [some (V.int (x : Int)), some (V.int (y : Int)), v][0]? = some (some u) ∧ Q u H' := fun x y v H' e g z => by
      subst e z
      rw [Nat.gcd_zero_right] at g
      rw [← g] at k
      exact ⟨_, rfl, k⟩
    refine ⟨2000, rfl, by decide, by decide, for_range (n := 2000) (fun i σ H' => H = H' ∧ ∃ (x y : Nat) (v : Option V), σ = [some (.int (x : Int)), some (.int (y : Int)), v] ∧ Nat.gcd x y = Nat.gcd a.natAbs b.natAbs ∧ (i = 0 → x = a.natAbs ∧ y = b.natAbs) ∧ (0 < i → y < x ∧ x * y * 2 ^ (i - 1) ≤ a.natAbs * b.natAbs))
      ⟨rfl, a.natAbs, b.natAbs, none, rfl, rfl, fun _ => ⟨rfl, rfl⟩, fun z => absurd z (Nat.lt_irrefl _)⟩ ?_ ?_⟩
    · rintro i σ H' hi ⟨eh, x, y, v, rfl, g, h0, h1⟩
      refine ⟨_, rfl, rfl, _, rfl, ?_⟩
      refine ite2 (fun e => ?_) (fun e => ?_)
      · have z : y = 0 := by
          have := V.int.inj (of_decide_eq_true e)
          omega
        exact fin x y _ H' eh g z
      · have y0 : y ≠ 0 := fun z => e (by rw [z]; rfl)
        refine ⟨_, rfl, _, rfl, .inl ⟨_, rfl, _, rfl, _, _, rfl, rfl, (by omega), _, _, rfl, ?_⟩⟩
        refine ⟨eh, y, x % y, _, rfl, ?_, fun z => absurd z (by omega), fun _ => ⟨Nat.mod_lt _ (by omega), ?_⟩⟩
        · rw [← g, Nat.gcd_comm x y, Nat.gcd_rec y x, Nat.gcd_comm]
        · by_cases i0 : i = 0
          · obtain ⟨rfl, rfl⟩ := h0 i0
            subst i0
            have := Nat.mod_le a.natAbs b.natAbs
            simp only [Nat.zero_add, Nat.sub_self, Nat.pow_zero, Nat.mul_one]
            rw [Nat.mul_comm]
            exact Nat.mul_le_mul_right _ this
          · obtain ⟨lt, le⟩ := h1 (by omega)
            have hf := lap_half lt
            have e2 : 2 ^ (i + 1 - 1) = 2 * 2 ^ (i - 1) := by
              obtain ⟨j, rfl⟩ : ∃ j, i = j + 1 := ⟨i - 1, by omega⟩
              simp only [Nat.add_sub_cancel]
              rw [Nat.pow_succ, Nat.mul_comm]
            rw [e2]
            calc y * (x % y) * (2 * 2 ^ (i - 1)) = (2 * (y * (x % y))) * 2 ^ (i - 1) := by
                  rw [← Nat.mul_assoc, Nat.mul_comm (y * (x % y)) 2]
              _ ≤ x * y * 2 ^ (i - 1) := Nat.mul_le_mul_right _ hf
              _ ≤ _ := le
    · rintro σ H' ⟨eh, x, y, v, rfl, g, _, h1⟩
      obtain ⟨lt, le⟩ := h1 (by decide)
      refine fin x y v H' eh g ?_
      by_cases z : y = 0
      · exact z
      · exfalso
        have p : 1 ≤ x * y := Nat.mul_pos (by omega) (by omega)
        have q1 : 2 ^ (2000 - 1) ≤ x * y * 2 ^ (2000 - 1) := Nat.le_mul_of_pos_left _ p
        have q2 : a.natAbs * b.natAbs < 2 ^ 250 * 2 ^ 250 := Nat.mul_lt_mul'' sa sb
        rw [← Nat.pow_add] at q2
        have q3 : 2 ^ (250 + 250) ≤ 2 ^ (2000 - 1) := Nat.pow_le_pow_right (by decide) (by decide)
        exact absurd (Nat.lt_of_le_of_lt (Nat.le_trans q1 le) (Nat.lt_of_lt_of_le q2 q3)) (Nat.lt_irrefl _)
theorem scQ : FnScope ["_law_top", "_law_bottom", "_law_by"] ["_law_top", "_law_bottom"] (defScope sQ) := ⟨rfl, rfl, rfl, by decide +kernel, rfl, by decide +kernel, by decide +kernel⟩
theorem kn_q (D : DefIs K mg "_law_q" sQ) (B : Kn P w K mg base "_law_gcd" 1 ["_law_one", "_law_two"] spGcd) : Kn P w K mg base "_law_q" 2 ["_law_top", "_law_bottom"] spQ := by
  refine .of D (fun _ _ _ _ _ _ us hl => match us, hl with | [_, _], _ => rfl) fun _ _ F => ?_
  refine F.ok scQ (fun vs H Q E h => ?_) (fun cdv A outer s H vs Q E hr h => ?_)
  · obtain ⟨t, b, rfl, _⟩ := h
    rfl
  · obtain ⟨t, b, rfl, b0, t1, b1, k⟩ := h
    refine ⟨_, pss_cons (ps_set (i := 2) scQ.nd rfl (.inl rfl) (pe_kn B hr (pa_cons (pv 0) (pa_cons (pv 1) pa_nil))))
      (pss_one (ps_ret (pe_tup (pa_cons (pe_op op_fdivW (pv 0) (pv 2)) (pa_cons (pe_op op_fdivW (pv 1) (pv 2)) pa_nil))))), ?_⟩
    have g0 : 0 < Nat.gcd t.natAbs b.natAbs := Nat.gcd_pos_of_pos_right _ (by omega)
    have g1 : Nat.gcd t.natAbs b.natAbs ≤ b.natAbs := Nat.le_of_dvd (by omega) (Nat.gcd_dvd_right _ _)
    have dv : ∀ z : Int, CDivW z ((Nat.gcd t.natAbs b.natAbs : Nat) : Int) := fun z => wide_div (b := 250) (by omega) (by rw [Int.natAbs_natCast]; exact Nat.lt_of_le_of_lt g1 b1) (by decide) (by decide)
    refine ⟨_, rfl, _, rfl, t, b, rfl, t1, b1, _, rfl, _, rfl, _, _, rfl, rfl, dv t, _, rfl, _, rfl, _, _, rfl, rfl, dv b, (by show 2 ≤ sizeLine; rw [sizeLine_eq]; decide), fun p np => ?_⟩
    exact k p np
end
end GG




namespace GG
open PySem PySem.Spec PyProof.Rows L2
section
variable {P : Program} {w : World} {K : PySem.W.Frag} {mg : Str → Option Value} {base : Heap}
theorem small250 {x : Int} (h : x.natAbs < 2 ^ 120) : x.natAbs < 2 ^ 250 := Nat.lt_of_lt_of_le h (Nat.pow_le_pow_right (by decide) (by decide))
theorem prod240 {x y : Int} (a : x.natAbs < 2 ^ 120) (b : y.natAbs < 2 ^ 120) : (x * y).natAbs < 2 ^ 240 := wide_lt a b
theorem sum250 {x y : Int} (a : x.natAbs < 2 ^ 240) (b : y.natAbs < 2 ^ 240) : (x + y).natAbs < 2 ^ 250 ∧ (x - y).natAbs < 2 ^ 250 := by
  have e : (2 : Nat) ^ 250 = 1024 * 2 ^ 240 := by rw [show 250 = 10 + 240 from rfl, Nat.pow_add]
  rw [e]
  generalize (2 : Nat) ^ 240 = z at a b
  omega

end
end GG




namespace GG
open PySem PySem.Spec PyProof.Rows L2
abbrev sPassed : Stmt := topS 49
def copr (t b : Int) : Prop := Nat.gcd t.natAbs b.natAbs = 1
theorem lw_copr {t b : Int} (h : 0 < b) : copr (lw t b).1 (lw t b).2 := by
  have g0 : 0 < Nat.gcd t.natAbs b.natAbs := Nat.gcd_pos_of_pos_right _ (by omega)
  obtain ⟨e1, e2⟩ := lw_exact t b
  have z1 := congrArg Int.natAbs e1
  have z2 := congrArg Int.natAbs e2
  rw [Int.natAbs_mul, Int.natAbs_natCast] at z1 z2
  unfold copr
  have z3 : Nat.gcd ((lw t b).1.natAbs * Nat.gcd t.natAbs b.natAbs) ((lw t b).2.natAbs * Nat.gcd t.natAbs b.natAbs) = Nat.gcd t.natAbs b.natAbs := by rw [z1, z2]
  rw [Nat.gcd_mul_right] at z3
  exact Nat.eq_of_mul_eq_mul_right g0 (by rw [z3, Nat.one_mul])
theorem lw_mul {t b : Int} {k : Int} (k0 : 0 < k) (h : copr t b) : lw (t * k) (b * k) = (t, b) := by
  have g : ((Nat.gcd (t * k).natAbs (b * k).natAbs : Nat) : Int) = k := by
    rw [Int.natAbs_mul, Int.natAbs_mul, Nat.gcd_mul_right, h, Nat.one_mul]
    omega
  unfold lw
  rw [g, Int.mul_ediv_cancel _ (by omega), Int.mul_ediv_cancel _ (by omega)]
def spIs : Sp := fun vs H Q _ => ∃ a b : Bool, vs = [.bl a, .bl b] ∧ Q (.bl (decide (a = b))) H
def mid (a : Int × Int) : Prop := a.1.natAbs < 2 ^ 100 ∧ a.2.natAbs < 2 ^ 100 ∧ 0 < a.2 ∧ copr a.1 a.2
def spSome : Sp := fun vs H Q _ => ∃ (p l : Addr) (c : Int), vs = [.ref p] ∧ PenAt H p l c ∧ c < 10000000 ∧
  ∀ (r : Addr) (a : Int × Int) (c' : Int) (H' : Hp), c ≤ c' → c' ≤ c + 20 → mid a → H' r = some (.tup [.int a.1, .int a.2]) → H r = none → PenAt H' p l c' → Keep p H H' → Q (.ref r) H'
def spPassed : Sp := fun vs H Q _ => ∃ (p l r : Addr) (c : Int) (a : Int × Int), vs = [.ref p, .ref r] ∧ PenAt H p l c ∧ c < 10000000 ∧ H r = some (.tup [.int a.1, .int a.2]) ∧ mid a ∧
  ∀ (v : V) (d : PyData) (c' : Int) (H' : Hp), c ≤ c' → c' ≤ c + 3 → PenAt H' p l c' → Keep p H H' → Da H' v d → isR d = true → ratOf d = a → smallR d → Q v H'
section
variable {P : Program} {w : World} {K : PySem.W.Frag} {mg : Str → Option Value} {base : Heap}
theorem scPassed : FnScope ["_law_pen_here", "_law_ratio", "_law_by"] ["_law_pen_here", "_law_ratio"] (defScope sPassed) := ⟨rfl, rfl, rfl, by decide +kernel, rfl, by decide +kernel, by decide +kernel⟩
theorem kn_passed (D : DefIs K mg "_law_passed" sPassed) (B1 : Kn P w K mg base "_law_draw" 1 ["_law_pen_here", "_law_many"] spDraw) (B2 : Kn P w K mg base "_law_pick" 2 ["_law_pen_here", "_law_some"] (spPick K)) : Kn P w K mg base "_law_passed" 3 ["_law_pen_here", "_law_ratio"] spPassed := by
  refine .of D (fun _ _ _ _ _ _ us hl => match us, hl with | [_, _], _ => rfl) fun _ _ F => ?_
  refine F.ok scPassed (fun vs H Q E h => ?_) (fun cdv A outer s H vs Q E hr h => ?_)
  · obtain ⟨p, l, r, c, a, rfl, _⟩ := h
    rfl
  · obtain ⟨p, l, r, c, a, rfl, P0, c0, er, m, k⟩ := h
    have hr1 : Room 1 _ := hr.mono (by decide)
    refine ⟨_, Evl.pss_cut (ps_if (PW.pt (pw_and (pt_cmpR op_eq (pe_ix ix_tup (pv 1) pe_int (fun _ _ => rfl)) pe_int (nomark _)) (pw_and1 (pt_cmpR op_eq (pe_kn B1 hr1 (pa_cons (pv 0) (pa_cons pe_int pa_nil))) pe_int (nomark _)))))
        (pss_one (ps_ret (pe_ix ix_tup (pv 1) pe_int (fun _ _ => rfl)))) pss_nil)
      (pss_cons (ps_set (i := 2) scPassed.nd rfl (.inl rfl) (pe_kn B2 hr (pa_cons (pv 0) (pa_cons (pe_lst (pa_cons pe_int (pa_cons pe_int (pa_cons pe_int (pa_cons pe_int pa_nil))))) pa_nil))))
      (pss_one (ps_ret (pe_kn B2 hr (pa_cons (pv 0) (pa_cons (pe_lst (pa_cons (pe_tup (pa_cons (pe_op op_mul (pe_ix ix_tup (pv 1) pe_int (fun _ _ => rfl)) (pv 2)) (pa_cons (pe_op op_mul (pe_ix ix_tup (pv 1) pe_int (fun _ _ => rfl)) (pv 2)) pa_nil)))
        (pa_cons (pe_lstM (pa_cons (pe_op op_mul (pe_ix ix_tup (pv 1) pe_int (fun _ _ => rfl)) (pv 2)) (pa_cons (pe_op op_mul (pe_ix ix_tup (pv 1) pe_int (fun _ _ => rfl)) (pv 2)) pa_nil))) pa_nil))) pa_nil)))))), ?_⟩
    have rp : r ≠ p := by
      obtain ⟨_, _, _, _, I⟩ := P0
      exact ne_of er I.obj (by intro z; cases z)
    obtain ⟨m1, m2, m3, m4⟩ := m
    have last : ∀ (n : Int) (c3 : Int) (H3 : Hp), 0 < n → n ≤ 5 → c ≤ c3 → c3 ≤ c + 2 → PenAt H3 p l c3 → Keep p H H3 → ∀ (t : Addr), H3 t = none → ∀ (u : Addr), (upd H3 t (.tup [.int (a.1 * n), .int (a.2 * n)])) u = none → u ≠ sysModules → ∀ (L : Addr), (upd (upd H3 t (.tup [.int (a.1 * n), .int (a.2 * n)])) u (.lst [.int (a.1 * n), .int (a.2 * n)])) L = none →
        ∀ (x : V) (H' : Hp), x ∈ [V.ref t, .ref u] → PenAt H' p l (c3 + 1) → Keep p (upd (upd (upd H3 t (.tup [.int (a.1 * n), .int (a.2 * n)])) u (.lst [.int (a.1 * n), .int (a.2 * n)])) L (.lst [.ref t, .ref u])) H' → Q x H' := by
      intro n c3 H3 n0 n5 x1 x2 P3 K3 t nt u nu mu L nL x H' hx P4 K4
      have K5 := ((K3.new nt).new nu).new nL (o := .lst [.ref t, .ref u])
      have K6 := K5.trans K4
      have tu : t ≠ u := fun z => by
        rw [← z, upd_same] at nu
        cases nu
      have tL : t ≠ L := fun z => by
        rw [← z, upd_ne tu, upd_same] at nL
        cases nL
      have uL : u ≠ L := fun z => by
        rw [← z, upd_same] at nL
        cases nL
      have tp : t ≠ p := fun z => by
        obtain ⟨_, _, _, _, I⟩ := P3
        rw [z, I.obj] at nt
        cases nt
      have up : u ≠ p := fun z => by
        obtain ⟨_, _, _, _, I⟩ := P3.new nt (o := .tup [.int (a.1 * n), .int (a.2 * n)])
        rw [z, I.obj] at nu
        cases nu
      have et : H' t = some (.tup [.int (a.1 * n), .int (a.2 * n)]) := K4 t _ tp (by rw [upd_ne tL, upd_ne tu, upd_same])
      have eu : H' u = some (.lst [.int (a.1 * n), .int (a.2 * n)]) := K4 u _ up (by rw [upd_ne uL, upd_same])
      have b0 : 0 < a.2 * n := Int.mul_pos m3 n0
      have sm : ∀ z : Int, z.natAbs < 2 ^ 100 → (z * n).natAbs < 2 ^ 120 := fun z hz => by
        have := wide_lt (j := n) (b := 20) hz (by omega)
        exact this
      have el := lw_mul n0 m4
      simp only [List.mem_cons, List.not_mem_nil, or_false] at hx
      rcases hx with rfl | rfl
      · exact k _ (.tuple [.int (a.1 * n), .int (a.2 * n)]) _ _ (by omega) (by omega) P4 K6 (.tup et (.cons (.int _) (.cons (.int _) .nil))) (decide_eq_true b0) el ⟨sm _ m1, sm _ m2⟩
      · exact k _ (.list [.int (a.1 * n), .int (a.2 * n)]) _ _ (by omega) (by omega) P4 K6 (.lst eu trivial (.cons (.int _) (.cons (.int _) .nil))) (decide_eq_true b0) el ⟨sm _ m1, sm _ m2⟩
    refine ⟨fun σ' H' => σ' = [some (.ref p), some (.ref r), none] ∧ ∃ c1, c ≤ c1 ∧ c1 ≤ c + 1 ∧ PenAt H' p l c1 ∧ Keep p H H', ?_, ?_⟩
    · refine ⟨_, rfl, r, _, _, _, rfl, rfl, .inl (.inl er), atI_nat (j := 1) rfl, rfl, _, rfl, ?_⟩
      refine ite2 (fun e => ?_) (fun _ => ?_)
      · have e1 : a.2 = 1 := V.int.inj (of_decide_eq_true e)
        refine ⟨_, rfl, p, l, c, 2, rfl, P0, by decide, by decide, by omega, fun r0 H1 _ _ P1 K1 => ⟨rfl, _, rfl, ?_⟩⟩
        refine ite2 (fun _ => ?_) (fun _ => ?_)
        · exact ⟨_, rfl, r, _, _, _, rfl, rfl, .inl (.inl (K1 r _ rp er)), atI_nat (j := 0) rfl, k (.int a.1) (.int a.1) _ _ (by omega) (by omega) P1 K1 (.int _) rfl (Prod.ext rfl e1.symm) (Nat.lt_of_lt_of_le m1 (Nat.pow_le_pow_right (by decide) (by decide)))⟩
        · exact ⟨rfl, c + 1, by omega, by omega, P1, K1⟩
      · exact ⟨rfl, c, by omega, by omega, P0, Keep.refl⟩
    · rintro σ' H1 ⟨rfl, c1, x1, x2, P1, K1⟩
      refine ⟨_, rfl, (by show 4 ≤ sizeLine; rw [sizeLine_eq]; decide), fun L nL => ?_⟩
      refine ⟨p, l, L, c1, _, rfl, P1.new nL, .inl (.inl upd_same), (by show 0 < 4; decide), (by show 4 < 1000000; decide), by omega, fun x H3 hx P3 K3 => ?_⟩
      have K03 : Keep p H H3 := (K1.new nL).trans K3
      have er3 := K03 r _ rp er
      obtain ⟨n, rfl, n0, n5⟩ : ∃ n : Int, x = .int n ∧ 0 < n ∧ n ≤ 5 := by
        simp only [List.mem_cons, List.not_mem_nil, or_false] at hx
        rcases hx with rfl | rfl | rfl | rfl
        · exact ⟨1, rfl, by decide, by decide⟩
        · exact ⟨1, rfl, by decide, by decide⟩
        · exact ⟨2, rfl, by decide, by decide⟩
        · exact ⟨5, rfl, by decide, by decide⟩
      refine ⟨_, rfl, _, rfl, r, _, _, _, rfl, rfl, .inl (.inl er3), atI_nat (j := 0) rfl, _, rfl, _, _, rfl, rfl, .inr ⟨by omega, by omega⟩, _, rfl, r, _, _, _, rfl, rfl, .inl (.inl er3), atI_nat (j := 1) rfl, _, rfl, _, _, rfl, rfl, .inr ⟨by omega, by omega⟩, (by show 2 ≤ sizeLine; rw [sizeLine_eq]; decide), fun t nt => ?_⟩
      have er4 : (upd H3 t (.tup [.int (a.1 * n), .int (a.2 * n)])) r = some (.tup [.int a.1, .int a.2]) := by
        rw [upd_ne (ne_of_none er3 nt)]
        exact er3
      refine ⟨_, rfl, r, _, _, _, rfl, rfl, .inl (.inl er4), atI_nat (j := 0) rfl, _, rfl, _, _, rfl, rfl, .inr ⟨by omega, by omega⟩, _, rfl, r, _, _, _, rfl, rfl, .inl (.inl er4), atI_nat (j := 1) rfl, _, rfl, _, _, rfl, rfl, .inr ⟨by omega, by omega⟩, (by show 2 ≤ sizeLine; rw [sizeLine_eq]; decide), fun u nu mu => ?_⟩
      refine ⟨(by show 2 ≤ sizeLine; rw [sizeLine_eq]; decide), fun L2' nL2 => ?_⟩
      refine ⟨p, l, L2', c1 + 1, _, rfl, ((P3.new nt).new nu).new nL2, .inl (.inl upd_same), (by show 0 < 2; decide), (by show 2 < 1000000; decide), by omega, fun x H' hx P4 K4 => ?_⟩
      exact last n _ H3 n0 n5 (by omega) (by omega) P3 K03 t nt u nu mu L2' nL2 x H' hx P4 K4
end
end GG




namespace GG
open PySem PySem.Spec PyProof.Rows L2
/-! ### dicts whose keys are tuples of tuples of whole numbers -/
mutual
inductive NK (H : Hp) : V → NestedKey → Prop
  | int (i : Int) : NK H (.int i) (.num i)
  | tup {a : Addr} {xs : List V} {ks : List NestedKey} : H a = some (.tup xs) → NKs H xs ks → NK H (.ref a) (.tup ks)
inductive NKs (H : Hp) : List V → List NestedKey → Prop
  | nil : NKs H [] []
  | cons {v : V} {vs : List V} {k : NestedKey} {ks : List NestedKey} : NK H v k → NKs H vs ks → NKs H (v :: vs) (k :: ks)
end
mutual
theorem NK.is {X : Cx} {pins : List (Addr × Obj)} {σ : L2.St} {H : Hp} {s : Shared} (I : Inv X pins σ H s) : ∀ {v : V} {k : NestedKey} {u : Value}, NK H v k → RelV v u → NestedIs s.heap k u
  | _, _, _, .int i, r => by
    obtain ⟨t, rfl⟩ := r
    exact .int i t
  | _, _, _, .tup e t, r => by
    cases r
    obtain ⟨_, its, rv, o, ho, hc, n, hd⟩ := (show ObjOk X.prog X.w H s.heap _ (.tup _) from I.hok _ _ e)
    exact .tup ho hc hd (by rw [List.toList_toArray]; exact t.is I rv)
theorem NKs.is {X : Cx} {pins : List (Addr × Obj)} {σ : L2.St} {H : Hp} {s : Shared} (I : Inv X pins σ H s) : ∀ {vs : List V} {ks : List NestedKey} {us : List Value}, NKs H vs ks → Vals vs us → NestedAll s.heap ks us
  | _, _, _, .nil, r => by
    cases r
    exact .nil
  | _, _, _, .cons h t, r => by
    cases r with
    | cons r1 r2 => exact .cons (h.is I r1) (t.is I r2)
end
mutual
theorem NK.same {H H' : Hp} (k : Same H H') : ∀ {v : V} {x : NestedKey}, NK H v x → NK H' v x
  | _, _, .int i => .int i
  | _, _, .tup e t => .tup (k _ _ e) (t.same k)
theorem NKs.same {H H' : Hp} (k : Same H H') : ∀ {vs : List V} {xs : List NestedKey}, NKs H vs xs → NKs H' vs xs
  | _, _, .nil => .nil
  | _, _, .cons h t => .cons (h.same k) (t.same k)
end
abbrev NE := NestedKey × Addr × V
def relE (p : NE) (q : NestedKey × Addr × Value) : Prop := p.1 = q.1 ∧ p.2.1 = q.2.1 ∧ RelV p.2.2 q.2.2
def ndP (P : Program) (w : World) (d : Addr) (kvs : List NE) : Heap → Prop := fun h => ∃ xs : List (NestedKey × Addr × Value), Paired relE kvs xs ∧
  ∃ o es ep, h.get? d = some o ∧ o.ExactDict ∧ o.data = .dict es ep ∧ es.toList = xs.map (entryOfKey (nestedKind P w)) ∧ (xs.map (·.1)).Nodup
/-- at d stands a dict with these keys (each with the address of its tuple) and values -/
structure ND (P : Program) (w : World) (H : Hp) (d : Addr) (kvs : List NE) : Prop where
  has : H d = some (.ext (ndP P w d kvs))
  keys : ∀ e ∈ kvs, NK H (.ref e.2.1) e.1 ∧ e.1.depth ≤ 8
  ne : (d == sysModules) = false
  small : kvs.length ≤ sizeLine
theorem ND.same {P : Program} {w : World} {H H' : Hp} {d : Addr} {kvs : List NE} (k : Same H H') (n : ND P w H d kvs) : ND P w H' d kvs :=
  ⟨k _ _ n.has, fun e he => ⟨(n.keys e he).1.same k, (n.keys e he).2⟩, n.ne, n.small⟩
theorem ND.noTup {P : Program} {w : World} {H : Hp} {d : Addr} {kvs : List NE} (n : ND P w H d kvs) : ∀ xs, H d ≠ some (.tup xs) := fun xs z => by
  rw [n.has] at z
  cases z
def atN (kvs : List NE) (k : NestedKey) : Option V := (kvs.find? fun e => decide (e.1 = k)).map (·.2.2)
def putN (kvs : List NE) (k : NestedKey) (b : Addr) (v : V) : List NE := if (atN kvs k).isSome then kvs.map (fun e => if e.1 = k then (e.1, e.2.1, v) else e) else kvs ++ [(k, b, v)]
theorem relE_val {kvs : List NE} {xs : List (NestedKey × Addr × Value)} (r : Paired relE kvs xs) (k : NestedKey) : RelO (atN kvs k) ((atKey xs k).map (·.2)) := by
  induction r with
  | nil => exact True.intro
  | @cons p q ps qs h t ih =>
    obtain ⟨h1, _, h2⟩ := h
    by_cases e : p.1 = k
    · have e' : q.1 = k := h1.symm.trans e
      have b : atKey (q :: qs) k = some q.2 := by simp [atKey, List.find?_cons, e']
      have c : atN (p :: ps) k = some p.2.2 := by simp [atN, List.find?_cons, e]
      rw [c, b]
      exact h2
    · have e' : ¬ q.1 = k := fun z => e (h1.trans z)
      have b : atKey (q :: qs) k = atKey qs k := by simp [atKey, List.find?_cons, e']
      have c : atN (p :: ps) k = atN ps k := by simp [atN, List.find?_cons, e]
      rw [c, b]
      exact ih
theorem relE_repl {kvs : List NE} {xs : List (NestedKey × Addr × Value)} (r : Paired relE kvs xs) (k : NestedKey) {y : V} {u : Value} (ry : RelV y u) :
    Paired relE (kvs.map fun e => if e.1 = k then (e.1, e.2.1, y) else e) (xs.map (putAt k u)) := by
  induction r with
  | nil => exact .nil
  | @cons p q ps qs h t ih =>
    rw [List.map_cons, List.map_cons]
    refine .cons ?_ ih
    obtain ⟨h1, h2, h3⟩ := h
    unfold putAt
    by_cases e : p.1 = k
    · rw [if_pos e, if_pos (h1.symm.trans e)]
      exact ⟨h1, h2, ry⟩
    · rw [if_neg e, if_neg (fun z => e (h1.trans z))]
      exact ⟨h1, h2, h3⟩
theorem relE_put {kvs : List NE} {xs : List (NestedKey × Addr × Value)} (r : Paired relE kvs xs) (k : NestedKey) (b : Addr) {y : V} {u : Value} (ry : RelV y u) : Paired relE (putN kvs k b y) (storedH xs k b u) := by
  have e : (atN kvs k).isSome = (atKey xs k).isSome := by
    rw [(relE_val r k).isSome_eq, Option.isSome_map]
  unfold putN storedH
  rw [e]
  by_cases q : (atKey xs k).isSome = true
  · rw [if_pos q, if_pos q]
    exact relE_repl r k ry
  · rw [if_neg q, if_neg q]
    exact Paired.snoc r ⟨rfl, rfl, ry⟩
theorem putN_len (kvs : List NE) (k : NestedKey) (b : Addr) (v : V) : (putN kvs k b v).length ≤ kvs.length + 1 := by
  unfold putN
  split
  · rw [List.length_map]
    exact Nat.le_succ _
  · rw [List.length_append]
    exact Nat.le_refl _
theorem putN_keys {H : Hp} {kvs : List NE} {k : NestedKey} {b : Addr} {v : V} (h : ∀ e ∈ kvs, NK H (.ref e.2.1) e.1 ∧ e.1.depth ≤ 8) (n : NK H (.ref b) k ∧ k.depth ≤ 8) : ∀ e ∈ putN kvs k b v, NK H (.ref e.2.1) e.1 ∧ e.1.depth ≤ 8 := by
  intro e he
  unfold putN at he
  split at he
  · obtain ⟨x, hx, rfl⟩ := List.mem_map.mp he
    split
    · exact h x hx
    · exact h x hx
  · rcases List.mem_append.mp he with q | q
    · exact h e q
    · rw [List.mem_singleton.mp q]
      exact n
section
variable {X : Cx} {pins : List (Addr × Obj)} {σ : L2.St} {H : Hp} {s : Shared} {d : Addr} {kvs : List NE}
theorem relE_is (I : Inv X pins σ H s) {xs : List (NestedKey × Addr × Value)} (r : Paired relE kvs xs) (keys : ∀ e ∈ kvs, NK H (.ref e.2.1) e.1 ∧ e.1.depth ≤ 8) : ∀ x ∈ xs, (nestedKind X.prog X.w).is s.heap x.1 x.2.1 := by
  induction r with
  | nil => exact fun x hx => nomatch hx
  | @cons p q ps qs h t ih =>
    intro x hx
    rcases List.mem_cons.mp hx with rfl | m
    · obtain ⟨e1, e2, _⟩ := h
      obtain ⟨k1, k2⟩ := keys p List.mem_cons_self
      rw [← e1, ← e2]
      exact ⟨k1.is I rfl, k2⟩
    · exact ih (fun e he => keys e (List.mem_cons_of_mem _ he)) x m
theorem ND.of (I : Inv X pins σ H s) (n : ND X.prog X.w H d kvs) : ∃ xs : List (NestedKey × Addr × Value), Paired relE kvs xs ∧ s.heap.DictOfH (nestedKind X.prog X.w) d xs := by
  obtain ⟨⟨xs, r, o, es, ep, h1, h2, h3, h4, h5⟩, _⟩ := (show ObjOk X.prog X.w H s.heap d (.ext _) from I.hok d _ n.has)
  exact ⟨xs, r, o, es, ep, h1, h2, h3, h4, relE_is I r n.keys, h5⟩
theorem ndP_stay {P : Program} {w : World} {h1 h2 : Heap} (p : ndP P w d kvs h1) (k : ∀ o, h1.get? d = some o → h2.get? d = some o) : ndP P w d kvs h2 := by
  obtain ⟨xs, r, o, es, ep, a, rest⟩ := p
  exact ⟨xs, r, o, es, ep, k _ a, rest⟩
/-- {} -/
def tNNew (P : Program) (w : World) : TE := fun _ H Q => ∀ p, H p = none → ND P w (upd H p (.ext (ndP P w p []))) p [] → Q (.ref p) (upd H p (.ext (ndP P w p [])))
theorem pe_nnew {pos : Pos} : PE X (.Dict [] [] pos) (tNNew X.prog X.w) := ⟨fun pins s σ H Q I h => by
  have free : H s.heap.objs.size = none := I.hok.fresh (Nat.le_refl _)
  have now : ndP X.prog X.w s.heap.objs.size [] (s.heap.push { cls := .type "dict", data := .dict #[] }) := ⟨[], .nil, _, #[], 0, Heap.get?_push_size _ rfl, ⟨rfl, rfl, rfl⟩, rfl, rfl, List.nodup_nil⟩
  refine wpAny_Dict_empty ⟨.ref s.heap.objs.size, _, I.laid (a := s.heap.objs.size) (o := .ext (ndP X.prog X.w s.heap.objs.size [])) (t' := s.toks) (fun _ _ q => Heap.get?_push_of_some _ q) (Nat.le_refl _) ⟨now, ⟨_, Heap.get?_push_size _ rfl⟩, fun h1 h2 p k => ndP_stay p k⟩, rfl, h _ free ⟨upd_same, fun e he => (nomatch he), beq_eq_false_iff_ne.mpr (Ne.symm (Nat.ne_of_lt I.big)), Nat.zero_le _⟩⟩⟩
/-- d.get(k, x) -/
def tNGet2 (P : Program) (w : World) (td ty tx : TE) : TE := fun σ H Q => td σ H fun x H1 => ∃ a, x = .ref a ∧ (∃ kvs, ND P w H1 a kvs) ∧ ty σ H1 fun y H2 => tx σ H2 fun z H3 => ∃ kvs k b, ND P w H3 a kvs ∧ y = .ref b ∧ NK H3 (.ref b) k ∧ k.depth ≤ 8 ∧ Q ((atN kvs k).getD z) H3
theorem pe_nget2 {o e f : Expr} {apos cpos : Pos} {td ty tx : TE} (hu : X.A.units + 10 < cLine) (ho : PE X o td) (he : PE X e ty) (hf : PE X f tx) (m : M2 X o "get" apos e f cpos) : PE X (.Call (.Attribute o "get" apos) [e, f] [] cpos) (tNGet2 X.prog X.w td ty tx) := by
  refine ⟨fun pins s σ H Q I h => ?_⟩
  refine wpAny_Call_method m.base m.few m.line PySem.F.plainAttrs_dict PySem.F.slot_dict_get PySem.F.type_dict_get (thn (ho.run pins s σ H _ I h) fun u s1 ⟨x, H1, I1, rx, a, ex, ⟨kv0, n0⟩, q1⟩ => ?_)
  subst ex
  obtain rfl : u = Value.ref a := rx
  obtain ⟨xs0, _, dd0⟩ := ND.of I1 n0
  refine ⟨dd0.typeIs, fun b q => ?_, ?_⟩
  · cases q
    obtain ⟨ob, _, _, h1, h2, _⟩ := dd0
    exact ⟨ob, h1, h2.2.1⟩
  rw [m.trees]
  refine Calls.callWith_builtin rfl (Calls.evalArgs_plain (Calls.spliced_cons (thn (he.run pins s1 σ H1 _ I1 q1) fun iv s2 ⟨y, H2, I2, ry, q2⟩ =>
    Calls.spliced_cons (thn (hf.run pins s2 σ H2 _ I2 q2) fun fv s3 ⟨z, H3, I3, rz, kvs, k, b, n3, ey, nk, dk, q3⟩ => Calls.spliced_nil ?_))))
  subst ey
  obtain rfl : iv = Value.ref b := ry
  obtain ⟨xs, rel, dd⟩ := ND.of I3 n3
  refine call_meetsIn PySem.F.slot_dict_get dd.typeIs PySem.F.entry_dict_get (PySem.F.args_dict_get_3 _ _ _) (meetsH_dict_get_default (nestedKind X.prog X.w) a b n3.ne fv) ⟨(by show X.A.units + 1 + 8 < cLine; omega), k, xs, ⟨nk.is I3 rfl, dk⟩, dd, ⟨_, H3, I3.tok _, ?_, q3⟩⟩
  exact (relE_val rel k).getD rz
/-- d[k] = v -/
def sNPut (P : Program) (w : World) (td ty tv : TE) : TS := fun D σ H => tv σ H fun v H1 => td σ H1 fun x H2 => ty σ H2 fun y H3 => ∃ a kvs k b, x = .ref a ∧ ND P w H3 a kvs ∧ kvs.length < sizeLine ∧ y = .ref b ∧ NK H3 (.ref b) k ∧ k.depth ≤ 8 ∧
  (ND P w (upd H3 a (.ext (ndP P w a (putN kvs k b v)))) a (putN kvs k b v) → D.nx σ (upd H3 a (.ext (ndP P w a (putN kvs k b v)))))
theorem NK.ext {H : Hp} {a : Addr} {o : HO} (e : ∀ xs, H a ≠ some (.tup xs)) {v : V} {k : NestedKey} (h : NK H v k) : NK (upd H a o) v k := by
  have key : ∀ b xs, H b = some (.tup xs) → upd H a o b = some (.tup xs) := fun b xs q => by
    rw [upd_ne (fun z => e xs (by rw [← z]; exact q))]
    exact q
  exact h.rec (motive_1 := fun v k _ => NK (upd H a o) v k) (motive_2 := fun vs ks _ => NKs (upd H a o) vs ks) (fun i => .int i) (fun q _ ih => .tup (key _ _ q) ih) .nil (fun _ _ i1 i2 => .cons i1 i2)
theorem NKs.ext {H : Hp} {a : Addr} {o : HO} (e : ∀ xs, H a ≠ some (.tup xs)) : ∀ {vs : List V} {ks : List NestedKey}, NKs H vs ks → NKs (upd H a o) vs ks
  | _, _, .nil => .nil
  | _, _, .cons h t => .cons (h.ext e) (NKs.ext e t)
theorem NKs.snoc {H : Hp} {v : V} {k : NestedKey} (h : NK H v k) : ∀ {vs : List V} {ks : List NestedKey}, NKs H vs ks → NKs H (vs ++ [v]) (ks ++ [k])
  | _, _, .nil => .cons h .nil
  | _, _, .cons a t => .cons a (NKs.snoc h t)
theorem ps_nput {o i value : Expr} {pos pos' : Pos} {td ty tv : TE} (hu : X.A.units + 10 < cLine) (ho : PE X o td) (hi : PE X i ty) (hv : PE X value tv) (hs : swapsWith value (some (.Subscript o i pos')) pos.line X.env = pure false) :
    PS X (.Assign [.Subscript o i pos'] value pos) (sNPut X.prog X.w td ty tv) := by
  refine ⟨fun pins s σ H D I h => ?_⟩
  refine wpAny_Assign_Subscript (thn (hv.run pins s σ H _ I h) fun r s1 ⟨v, H1, I1, rv, q1⟩ => thn (ho.run pins s1 σ H1 _ I1 q1) fun u s2 ⟨x, H2, I2, rx, q2⟩ => thn (hi.run pins s2 σ H2 _ I2 q2) fun iv s3 ⟨y, H3, I3, ry, a, kvs, k, b, ex, n3, l, ey, nk, dk, q3⟩ => ?_) hs
  subst ex ey
  obtain rfl : u = Value.ref a := rx
  obtain rfl : iv = Value.ref b := ry
  obtain ⟨xs, rel, dd⟩ := ND.of I3 n3
  have hl : (putN kvs k b v).length ≤ sizeLine := Nat.le_trans (putN_len kvs k b v) l
  refine wpAny_setItem_heap (knd := nestedKind X.prog X.w) (k := k) (hsz := by rw [← Paired.length rel]; exact n3.small) (by show X.A.units + 1 + 8 < cLine; omega) ⟨nk.is I3 rfl, dk⟩ dd fun h' dd' hs' => ?_
  obtain ⟨q, es, ep, hq, h2, h3, h4, _, h5⟩ := dd'
  have now : ndP X.prog X.w a (putN kvs k b v) h' := ⟨_, relE_put rel k b rv, q, es, ep, hq, h2, h3, h4, h5⟩
  refine ⟨σ, _, d_write I3 (by rw [n3.has]; exact True.intro) hs' ⟨q, hq⟩ (ob := .ext (ndP X.prog X.w a (putN kvs k b v))) ⟨now, ⟨q, hq⟩, fun h1 h2 p k => ndP_stay p k⟩, q3 ⟨upd_same, ?_, n3.ne, hl⟩⟩
  exact putN_keys (fun e he => ⟨(n3.keys e he).1.ext n3.noTup, (n3.keys e he).2⟩) ⟨nk.ext n3.noTup, dk⟩
end
end GG




namespace GG
open PySem PySem.Spec PyProof.Rows L2
/-! ### a walk over a list or a tuple -/
theorem SqL.sm {K : PySem.W.Frag} {H H' : Hp} {a : Addr} {xs : List V} (k : Same H H') (h : SqL K H a xs) : SqL K H' a xs := by
  rcases h with (h | ⟨o, h⟩) | h
  · exact .inl (.inl (k _ _ h))
  · exact .inl (.inr ⟨o, k _ _ h⟩)
  · exact .inr h
theorem SqT.sm {K : PySem.W.Frag} {H H' : Hp} {a : Addr} {xs : List V} (k : Same H H') (h : SqT K H a xs) : SqT K H' a xs := by
  rcases h with (h | ⟨o, h⟩) | h
  · exact .inl (.inl (k _ _ h))
  · exact .inl (.inr ⟨o, k _ _ h⟩)
  · exact .inr h
def iEi (K : PySem.W.Frag) (tl : TE) : TI := fun σ H R => tl σ H fun x H1 => ∃ a, x = .ref a ∧ (((∃ xs, SqL K H1 a xs) ∧ R (Itl K a) H1) ∨ ((∃ xs, SqT K H1 a xs) ∧ R (Itt K a) H1))
theorem pi_ei {X : Cx} {tg l : Expr} {tl : TE} (hl : PE X l tl) : PI X tg l (iEi X.K tl) := by
  refine ⟨fun pins s σ H R I h => ?_⟩
  refine thn (hl.run pins s σ H _ I h) fun v s1 ⟨x, H1, I1, r1, q1⟩ => ?_
  obtain ⟨a, e, q⟩ := q1
  subst e
  cases r1
  rcases q with ⟨⟨xs, hq⟩, q⟩ | ⟨⟨xs, hq⟩, q⟩
  · obtain ⟨its, rv, p, hz⟩ := I1.list hq
    refine wpAny_pyIter_list p.isList ?_
    refine ⟨s1.heap.objs.size, [s1.heap.objs.size], _, _, H1, rfl, I1.kept (t' := s1.toks) fun b o e => Heap.get?_push_of_some _ e, turn_list a _, ⟨_, Heap.get?_push_size _ rfl, rfl, rfl⟩, fun b hb => ?_, q⟩
    have e : b = s1.heap.objs.size := by simpa using hb
    subst e
    exact I1.fpOk (Nat.le_refl _) (I1.hok.fresh (Nat.le_refl _))
  · obtain ⟨its, rv, p, hz⟩ := I1.tuple hq
    refine wpAny_pyIter_tuple (show s1.heap.IsTuple a its.toArray from p) ?_
    refine ⟨s1.heap.objs.size, [s1.heap.objs.size], _, _, H1, rfl, I1.kept (t' := s1.toks) fun b o e => Heap.get?_push_of_some _ e, turn_tuple a _, ⟨_, Heap.get?_push_size _ rfl, rfl, rfl⟩, fun b hb => ?_, q⟩
    have e : b = s1.heap.objs.size := by simpa using hb
    subst e
    exact I1.fpOk (Nat.le_refl _) (I1.hok.fresh (Nat.le_refl _))
/-- a comprehension over it -/
theorem lc_ei {K : PySem.W.Frag} {a : Addr} {xs : List V} {g : TG} {tt : TT} {te : TE} {vs : List Nat} {σ : L2.St} {H1 : Hp} {Qd : Addr → Hp → Prop} (sq : SqL K H1 a xs ∨ SqT K H1 a xs) (Pv : Addr → Nat → Hp → Prop) (h0 : ∀ D, H1 D = none → Pv D 0 (upd H1 D (.lst []))) (hl : ∀ D, H1 D = none → ∀ i H, Pv D i H → Same H1 H)
    (hs : ∀ D, H1 D = none → ∀ i x H, xs[i]? = some x → Pv D i H → g x (wipe σ vs) H fun σ2 H2 => wipe σ2 vs = wipe σ vs ∧ tt σ2 H2 fun b H3 =>
      if b = true then te σ2 H3 fun y H4 => ∃ acc, H4 D = some (.lst acc) ∧ acc.length < sizeLine ∧ Pv D (i + 1) (upd H4 D (.lst (acc ++ [y]))) else Pv D (i + 1) H3) (hd : ∀ D, H1 D = none → ∀ H, Pv D xs.length H → Qd D H) :
    ((∃ ys, SqL K H1 a ys) ∧ ∀ D, H1 D = none → ∃ W : Nat → Nat → Hp → Prop, (∃ m, W 0 m (upd H1 D (.lst []))) ∧ ∀ i m H, W i m H →
      ((Itl K a).stop i H ∧ Qd D H) ∨ ((Itl K a).go i H ∧ ∃ Nx : Hp → Prop, (∀ H', Nx H' → ∃ m', m' < m ∧ W (i + 1) m' H') ∧ ∀ x H', (Itl K a).yld i H x H' → g x (wipe σ vs) H' fun σ2 H2 => wipe σ2 vs = wipe σ vs ∧ tt σ2 H2 fun b H3 =>
        if b = true then te σ2 H3 fun y H4 => ∃ acc, H4 D = some (.lst acc) ∧ acc.length < sizeLine ∧ Nx (upd H4 D (.lst (acc ++ [y]))) else Nx H3)) ∨
    ((∃ ys, SqT K H1 a ys) ∧ ∀ D, H1 D = none → ∃ W : Nat → Nat → Hp → Prop, (∃ m, W 0 m (upd H1 D (.lst []))) ∧ ∀ i m H, W i m H →
      ((Itt K a).stop i H ∧ Qd D H) ∨ ((Itt K a).go i H ∧ ∃ Nx : Hp → Prop, (∀ H', Nx H' → ∃ m', m' < m ∧ W (i + 1) m' H') ∧ ∀ x H', (Itt K a).yld i H x H' → g x (wipe σ vs) H' fun σ2 H2 => wipe σ2 vs = wipe σ vs ∧ tt σ2 H2 fun b H3 =>
        if b = true then te σ2 H3 fun y H4 => ∃ acc, H4 D = some (.lst acc) ∧ acc.length < sizeLine ∧ Nx (upd H4 D (.lst (acc ++ [y]))) else Nx H3)) := by
  rcases sq with q | q
  · exact .inl ⟨⟨_, q⟩, fun D hD => lc_list (Pv D) (h0 D hD) (fun i H _ p => SqL.sm (hl D hD i H p) q) (hs D hD) (hd D hD)⟩
  · exact .inr ⟨⟨_, q⟩, fun D hD => lc_tup (Pv D) (h0 D hD) (fun i H _ p => SqT.sm (hl D hD i H p) q) (hs D hD) (hd D hD)⟩
/-! ### what a row, prices, a bid are, by their data -/
def seqOf : PyData → Option (List PyData)
  | .list ds => some ds
  | .tuple ds => some ds
  | _ => none
def isRow (d : PyData) (n : Int) : Bool := match seqOf d with
  | some ds => decide ((ds.length : Int) = n)
  | none => false
def isZ (d : PyData) : Bool := isR d && decide (0 ≤ (ratOf d).1)
def areP (d : PyData) (n : Int) : Bool := match seqOf d with
  | some ds => decide ((ds.length : Int) = n) && ds.all isZ
  | none => false
def isBid (d : PyData) (n : Int) : Bool := match seqOf d with
  | some [x, y] => isW x && areP y n
  | _ => false
/-- the numbers in it are small -/
def smallS (d : PyData) : Prop := match seqOf d with
  | some ds => ds.length ≤ 1000 ∧ ∀ x ∈ ds, smallR x
  | none => True
def smallBid (d : PyData) : Prop := match seqOf d with
  | some [_, y] => smallS y
  | _ => True
theorem seq_none {d : PyData} (h : isSeq d = false) : seqOf d = none := by
  cases d <;> first | rfl | cases h
theorem Da.seq2 {K : PySem.W.Frag} {H : Hp} {v : V} {d : PyData} {ds : List PyData} (h : Da H v d) (s : seqOf d = some ds) : ∃ a xs, v = .ref a ∧ (SqL K H a xs ∨ SqT K H a xs) ∧ DaAll H xs ds ∧ xs.length = ds.length := by
  cases h with
  | lst e n t =>
    cases s
    exact ⟨_, _, rfl, .inl (.inl (.inl e)), t, t.length⟩
  | tup e t =>
    cases s
    exact ⟨_, _, rfl, .inr (.inl (.inl e)), t, t.length⟩
  | _ => cases s
theorem Same.stay' {H H' : Hp} (k : Same H H') : Stay H H' := Same.stay k
abbrev sRow : Stmt := topS 15
abbrev sZ : Stmt := topS 16
abbrev sPrices : Stmt := topS 17
abbrev sToldR : Stmt := topS 19
abbrev sBid : Stmt := topS 35
def spRow : Sp := fun vs H Q _ => ∃ v d n, vs = [v, .int n] ∧ Da H v d ∧ ∀ H', Same H H' → Q (.bl (isRow d n)) H'
def spZ : Sp := fun vs H Q _ => ∃ v d, vs = [v] ∧ Da H v d ∧ smallR d ∧ ∀ H', Same H H' → Q (.bl (isZ d)) H'
def spPrices : Sp := fun vs H Q _ => ∃ v d n, vs = [v, .int n] ∧ Da H v d ∧ smallS d ∧ ∀ H', Same H H' → Q (.bl (areP d n)) H'
def spBid : Sp := fun vs H Q _ => ∃ v d n, vs = [v, .int n] ∧ Da H v d ∧ smallBid d ∧ ∀ H', Same H H' → Q (.bl (isBid d n)) H'
section
variable {P : Program} {w : World} {K : PySem.W.Frag} {mg : Str → Option Value} {base : Heap}
theorem scRow : FnScope ["value", "many"] ["value", "many"] (defScope sRow) := ⟨rfl, rfl, rfl, by decide +kernel, rfl, by decide +kernel, by decide +kernel⟩
theorem kn_row (D : DefIs K mg "is_row" sRow) (T : RTxt K mg) : Kn P w K mg base "is_row" 1 ["value", "many"] spRow := by
  refine .of D (fun _ _ _ _ _ _ us hl => match us, hl with | [_, _], _ => rfl) fun _ _ F => ?_
  refine F.ok scRow (fun vs H Q E h => ?_) (fun cdv A outer s H vs Q E hr h => ?_)
  · obtain ⟨v, d, n, rfl, _⟩ := h
    rfl
  · obtain ⟨v, d, n, rfl, da, k⟩ := h
    refine ⟨_, pss_one (ps_ret (pe_and (pe_callB call_isiT (by rfl) T.isi bIsi (pa_cons (pv 0) (pa_cons (pe_tup (pa_cons (pe_bltn (v := .ty "tuple") rfl T.tuple bTuple rfl) (pa_cons (pe_bltn (v := .ty "list") rfl T.list bList rfl) pa_nil))) pa_nil)))
      (pe_one (pe_cmpR op_eq (pe_callB call_len_seq (by rfl) T.len PySem.boot_len (pa_cons (pv 0) pa_nil)) (pv 1) (nomark _))))), ?_⟩
    refine ⟨_, rfl, (by show 2 ≤ sizeLine; rw [sizeLine_eq]; decide), fun p np => ?_⟩
    have S1 := GG.Stay.new (Stay.refl (H := H)) np (o := .tup [.ty "tuple", .ty "list"])
    have da1 := da.stay S1
    have Sa : Same H (upd H p (.tup [.ty "tuple", .ty "list"])) := GG.Same.new (L2.Same.refl H) np
    refine ⟨v, p, _, _, _, _, rfl, upd_same, .cons (.ty _) (.cons (.ty _) .nil), da1.ty, kit_seq d, _, rfl, ?_⟩
    generalize (upd H p (.tup [.ty "tuple", .ty "list"])) = H1 at S1 da1 Sa ⊢
    cases hs : isSeq d with
    | false =>
      refine iteF ?_
      have e : isRow d n = false := by
        unfold isRow
        rw [seq_none hs]
      rw [e] at k
      exact k H1 Sa
    | true =>
      refine iteT ?_
      obtain ⟨a, xs, ds, rfl, sq, all, hd, hl⟩ := da1.seq (K := K) hs
      refine ⟨_, rfl, a, xs, rfl, sq, _, rfl, rfl, ?_⟩
      have e : isRow d n = decide (V.int (xs.length : Int) = V.int n) := by
        have q : seqOf d = some ds := by rcases hd with rfl | rfl <;> rfl
        unfold isRow
        rw [q, hl]
        show decide ((ds.length : Int) = n) = _
        by_cases z : (ds.length : Int) = n
        · rw [decide_eq_true z, decide_eq_true (by rw [z])]
        · rw [decide_eq_false z, decide_eq_false (fun q => z (V.int.inj q))]
      rw [e] at k
      exact k H1 Sa
theorem scZ : FnScope ["value"] ["value"] (defScope sZ) := ⟨rfl, rfl, rfl, by decide +kernel, rfl, by decide +kernel, by decide +kernel⟩
theorem kn_z {CN : Addr} (D : DefIs K mg "is_from_zero" sZ) (B2 : Kn P w K mg base "is_ratio" 2 ["value"] spRatio) (B4 : KnX P w K mg base "told" 3 ["value", "what"] (spTold CN)) : Kn P w K mg base "is_from_zero" 4 ["value"] spZ := by
  refine .of D (fun _ _ _ _ _ _ us hl => match us, hl with | [_], _ => rfl) fun _ _ F => ?_
  refine F.ok scZ (fun vs H Q E h => ?_) (fun cdv A outer s H vs Q E hr h => ?_)
  · obtain ⟨v, d, rfl, _⟩ := h
    rfl
  · obtain ⟨v, d, rfl, da, sm, k⟩ := h
    have hr2 : Room 2 _ := hr.mono (by decide)
    refine ⟨_, pss_one (ps_ret (pe_and (pe_kn B2 hr2 (pa_cons (pv 0) pa_nil)) (pe_one (pe_cmpR op_ge (pe_ix ix_tup (pe_knX B4 hr LamX.takes0 (E := fun _ _ _ => False) (fun _ _ _ _ z => z) (pa_cons (pv 0) (pa_cons pe_str pa_nil))) pe_int (fun _ _ => rfl)) pe_int (nomark _))))), ?_⟩
    refine ⟨_, rfl, v, d, rfl, da, fun H1 S1 => ⟨_, rfl, ?_⟩⟩
    cases hR : isR d with
    | false =>
      refine iteF ?_
      have e : isZ d = false := by
        unfold isZ
        rw [hR]
        rfl
      rw [e] at k
      exact k H1 S1
    | true =>
      refine iteT ?_
      refine ⟨_, rfl, v, .str "ratio", d, rfl, da.stay (Same.stay S1), sm, fun _ p H2 e2 S2 => ?_, fun z => absurd (hR.symm.trans z) (by decide)⟩
      refine ⟨p, _, _, _, rfl, rfl, .inl (.inl e2), atI_nat (j := 0) rfl, _, _, rfl, rfl, ?_⟩
      have e : isZ d = decide ((ratOf d).1 ≥ 0) := by
        unfold isZ
        rw [hR]
        rfl
      rw [e] at k
      exact k H2 (L2.Same.trans S1 S2)
theorem scPrices : FnScope ["value", "kinds", "item"] ["value", "kinds"] (defScope sPrices) := ⟨rfl, rfl, rfl, by decide +kernel, rfl, by decide +kernel, by decide +kernel⟩
theorem bAll : bootBuiltins "all" = some (.builtin "all") := by decide +kernel
theorem DaAll.get {H : Hp} : ∀ {vs : List V} {ds : List PyData} {i : Nat} {x : V}, DaAll H vs ds → vs[i]? = some x → ∃ d, ds[i]? = some d ∧ Da H x d
  | _, _, _, _, .nil, h => by cases h
  | _, _, 0, _, .cons a t, h => by
    cases h
    exact ⟨_, rfl, a⟩
  | _, _, i + 1, _, .cons a t, h => by
    obtain ⟨d, e, q⟩ := DaAll.get t (by simpa using h)
    exact ⟨d, by simpa using e, q⟩
theorem take_snoc {α : Type} {xs : List α} {i : Nat} {x : α} (h : xs[i]? = some x) : xs.take (i + 1) = xs.take i ++ [x] := by
  obtain ⟨lt, e⟩ := List.getElem?_eq_some_iff.mp h
  rw [List.take_succ_eq_append_getElem lt, e]
theorem kn_prices (D : DefIs K mg "are_prices" sPrices) (za : mg "all" = none) (B : Kn P w K mg base "is_row" 1 ["value", "many"] spRow) (BZ : Kn P w K mg base "is_from_zero" 4 ["value"] spZ) : Kn P w K mg base "are_prices" 5 ["value", "kinds"] spPrices := by
  refine .of D (fun _ _ _ _ _ _ us hl => match us, hl with | [_, _], _ => rfl) fun _ _ F => ?_
  refine F.ok scPrices (fun vs H Q E h => ?_) (fun cdv A outer s H vs Q E hr h => ?_)
  · obtain ⟨v, d, n, rfl, _⟩ := h
    rfl
  · obtain ⟨v, d, n, rfl, da, sm, k⟩ := h
    have hr1 : Room 1 _ := hr.mono (by decide)
    refine ⟨_, pss_one (ps_ret (pe_and (pe_kn B hr1 (pa_cons (pv 0) (pa_cons (pv 1) pa_nil)))
      (pe_one (pe_callB (cr_all rfl) (by rfl) za bAll (pa_cons (pe_lc (own := [("item", 2)]) (g := gName 2) (tt := tYes) rfl scPrices.nd (pi_ei (pv 0)) (blkOk_by (N := ["value", "kinds", "item"]) (sc := defScope sPrices) (by decide +kernel))
        (fun _ _ _ _ _ => pg_name (i := 2) scPrices.nd rfl (.inl rfl)) (fun _ _ _ _ _ => pts_nil) (fun _ _ _ _ _ => pe_kn BZ hr (pa_cons (pv 2) pa_nil))) pa_nil))))), ?_⟩
    refine ⟨_, rfl, _, rfl, v, d, n, rfl, da, fun H1 S1 => ⟨_, rfl, ?_⟩⟩
    have da1 := da.stay (Same.stay S1)
    cases hs : seqOf d with
    | none =>
      have e1 : isRow d n = false := by
        unfold isRow
        rw [hs]
      have e : areP d n = false := by
        unfold areP
        rw [hs]
      rw [e] at k
      rw [e1]
      exact iteF (k H1 S1)
    | some ds =>
      have e1 : isRow d n = decide ((ds.length : Int) = n) := by
        unfold isRow
        rw [hs]
      have e : areP d n = (decide ((ds.length : Int) = n) && ds.all isZ) := by
        unfold areP
        rw [hs]
      unfold smallS at sm
      rw [hs] at sm
      rw [e] at k
      rw [e1]
      refine ite2 (fun z => ?_) (fun z => ?_)
      · rw [z] at k
        obtain ⟨a, xs, rfl, sq, all, hl⟩ := da1.seq2 (K := K) hs
        refine ⟨_, rfl, a, rfl, ?_⟩
        refine lc_ei sq (fun D i H' => Same H1 H' ∧ H' D = some (.lst ((ds.take i).map fun x => V.bl (isZ x)))) (fun D hD => ⟨GG.Same.new (L2.Same.refl H1) hD, upd_same⟩) (fun D hD i H' p => p.1) (fun D hD i x H' hx p => ?_) (fun D hD H' p => ?_)
        · obtain ⟨dx, hdx, dax⟩ := all.get hx
          refine ⟨rfl, ?_⟩
          refine ⟨_, rfl, x, dx, rfl, dax.stay (Same.stay p.1), sm.2 _ (List.mem_of_getElem? hdx), fun H3 S3 => ?_⟩
          have e3 := S3 _ _ p.2
          refine ⟨_, e3, ?_, ?_, ?_⟩
          · rw [List.length_map, List.length_take, sizeLine_eq]
            have := sm.1
            omega
          · intro b o eb
            have nb : b ≠ D := ne_of_none eb hD
            rw [upd_ne nb]
            exact S3 _ _ (p.1 b o eb)
          · rw [upd_same, take_snoc hdx, List.map_append, List.map_cons, List.map_nil]
        · obtain ⟨p1, p2⟩ := p
          have q : xs.length = ds.length := hl
          rw [q, List.take_length] at p2
          refine ⟨D, ds.map isZ, rfl, .inl (.inl (by rw [p2, List.map_map]; rfl)), ?_⟩
          have ea : (ds.map isZ).all id = ds.all isZ := by
            rw [List.all_map]
            rfl
          rw [ea]
          rw [show (true && ds.all isZ) = ds.all isZ from Bool.true_and _] at k
          exact k H' (L2.Same.trans S1 p1)
      · have z' : decide ((ds.length : Int) = n) = false := by
          cases q : decide ((ds.length : Int) = n) with
          | false => rfl
          | true => exact absurd q z
        rw [z'] at k
        exact k H1 S1
theorem scBid : FnScope ["row", "kinds"] ["row", "kinds"] (defScope sBid) := ⟨rfl, rfl, rfl, by decide +kernel, rfl, by decide +kernel, by decide +kernel⟩
theorem kn_bid (D : DefIs K mg "is_bid" sBid) (B : Kn P w K mg base "is_row" 1 ["value", "many"] spRow) (BW : Kn P w K mg base "is_whole" 1 ["value"] spWhole) (BP : Kn P w K mg base "are_prices" 5 ["value", "kinds"] spPrices) : Kn P w K mg base "is_bid" 6 ["row", "kinds"] spBid := by
  refine .of D (fun _ _ _ _ _ _ us hl => match us, hl with | [_, _], _ => rfl) fun _ _ F => ?_
  refine F.ok scBid (fun vs H Q E h => ?_) (fun cdv A outer s H vs Q E hr h => ?_)
  · obtain ⟨v, d, n, rfl, _⟩ := h
    rfl
  · obtain ⟨v, d, n, rfl, da, sm, k⟩ := h
    have hr1 : Room 1 _ := hr.mono (by decide)
    refine ⟨_, pss_one (ps_ret (pe_and (pe_kn B hr1 (pa_cons (pv 0) (pa_cons pe_int pa_nil))) (pe_and (pe_kn BW hr1 (pa_cons (pe_ix ix_any (pv 0) pe_int (fun _ _ => rfl)) pa_nil)) (pe_one (pe_kn BP hr (pa_cons (pe_ix ix_any (pv 0) pe_int (fun _ _ => rfl)) (pa_cons (pv 1) pa_nil))))))), ?_⟩
    refine ⟨_, rfl, v, d, 2, rfl, da, fun H1 S1 => ⟨_, rfl, ?_⟩⟩
    have da1 := da.stay (Same.stay S1)
    have no : isRow d 2 = false → isBid d n = false := fun z => by
      unfold isRow at z
      unfold isBid
      split
      · rename_i q
        rw [q] at z
        simp at z
      · rfl
    cases h2 : isRow d 2 with
    | false =>
      rw [no h2] at k
      exact iteF (k H1 S1)
    | true =>
      refine iteT ?_
      obtain ⟨x, y, hs⟩ : ∃ x y, seqOf d = some [x, y] := by
        unfold isRow at h2
        split at h2
        · rename_i ds q
          have l : ds.length = 2 := by
            have := of_decide_eq_true h2
            omega
          match ds, l with
          | [x, y], _ => exact ⟨x, y, q⟩
        · cases h2
      have eb : isBid d n = (isW x && areP y n) := by
        unfold isBid
        rw [hs]
      unfold smallBid at sm
      rw [hs] at sm
      rw [eb] at k
      obtain ⟨a, xs, rfl, sq, all, hl⟩ := da1.seq2 (K := K) hs
      cases all with
      | @cons x0 xs' _ _ a0 all' =>
        cases all' with
        | @cons x1 xs'' _ _ a1 all'' =>
          cases all''
          have ix : ∀ (n : Nat) (x : V), [x0, x1][n]? = some x → ∀ (Q' : V → Hp → Prop), Q' x H1 → (rIxL K (.ref a) (.int (n : Int)) H1 Q' ∨ rIxT K (.ref a) (.int (n : Int)) H1 Q') := fun n x hx Q' q => by
            rcases sq with sq | sq
            · exact .inl ⟨a, _, _, x, rfl, rfl, sq, atI_nat hx, q⟩
            · exact .inr ⟨a, _, _, x, rfl, rfl, sq, atI_nat hx, q⟩
          refine ⟨_, rfl, ix 0 x0 rfl _ ⟨x0, x, rfl, a0, _, rfl, ?_⟩⟩
          cases hw : isW x with
          | false =>
            rw [hw] at k
            exact iteF (k H1 S1)
          | true =>
            rw [hw] at k
            refine iteT ?_
            exact ⟨_, rfl, ix 1 x1 rfl _ ⟨_, rfl, x1, y, n, rfl, a1, sm, fun H3 S3 => k H3 (L2.Same.trans S1 S3)⟩⟩
end
end GG




namespace GG
open PySem PySem.Spec PyProof.Rows L2
abbrev sBR : Stmt := inClass (topS 4) 0
/-! ### BadRow, one field -/
def spBR (C : Addr) : Sp := fun vs H Q _ => ∃ (a : Addr) (y : V), vs = [.ref a, y] ∧ H a = some (exo a C none) ∧ ∀ (dx : Addr) (H' : Hp), H dx = none → dx ≠ a → H' a = some (exo a C (some dx)) → H' dx = some (exd dx [("row", y)]) → Keep a H H' → Q .non H'
structure BRTxt (P : Program) (w : World) (K : PySem.W.Frag) (mg : Str → Option Value) (base : Heap) (C : Addr) : Prop where
  m : mg "BadRow" = some (.ref C)
  t : ExT K C
  ini : ∃ fI fd, PySem.W.findIn K (.ref C) "__init__" = some (some (.ref fI)) ∧ PySem.W.typeIn K (.ref fI) = some (.type "function") ∧ Binds K fd ["self", "row"] [] ∧ FnOk P w K mg base CX0 1 fI fd ["self", "row"] (spBR C)
section
variable {P : Program} {w : World} {K : PySem.W.Frag} {mg : Str → Option Value} {base : Heap}
theorem scBR : FnScope ["self", "row"] ["self", "row"] (defScope sBR) := ⟨rfl, rfl, rfl, by decide +kernel, rfl, by decide +kernel, by decide +kernel⟩
theorem br_of {C fI : Addr} {fd : FuncData} (m : mg "BadRow" = some (.ref C)) (t : ExT K C) (n1 : PySem.W.findIn K (.ref C) "row" = some none)
    (i : PySem.W.findIn K (.ref C) "__init__" = some (some (.ref fI))) (ti : PySem.W.typeIn K (.ref fI) = some (.type "function")) (U : Fun K "__init__" "BadRow.__init__" sBR fI fd) : BRTxt P w K mg base C := by
  refine ⟨m, t, fI, fd, i, ti, U.binds fun _ _ _ _ _ _ us hl => match us, hl with | [_, _], _ => rfl, ?_⟩
  refine U.ok scBR (fun vs H Q E h => ?_) (fun cdv A outer s H vs Q E hr h => ?_)
  · obtain ⟨a, y1, rfl, _⟩ := h
    rfl
  · obtain ⟨a, y1, rfl, he, k⟩ := h
    refine ⟨_, pss_one (ps_ost (pv 0) (pv 1)), ?_⟩
    refine ⟨_, rfl, _, rfl, a, C, rfl, t.ox, n1, .inl ⟨he, fun dx hdx ne => ?_⟩⟩
    refine k dx _ hdx ne upd_same (by rw [upd_ne ne, upd_same]) fun b o nb e => ?_
    rw [upd_ne nb, upd_ne (ne_of_none e hdx)]
    exact e
/-- raise BadRow(a): what is left behind the argument -/
theorem raiseBR {C : Addr} {y : V} {H1 : Hp} {R : Value → Option Addr → Hp → Prop} (k : ∀ (d : Addr) (H' : Hp), H' d = some (.xd [("row", y)]) → Same H1 H' → R (.ref C) (some d) H') :
    [y].length ≤ 1000 ∧ ∀ a, H1 a = none → spBR C (.ref a :: ([y] ++ [])) (upd H1 a (exo a C none))
      (fun v H2 => v = .non ∧ ∃ (d : Addr) (fs : List (Str × V)), H2 a = some (exo a C (some d)) ∧ H2 d = some (exd d fs) ∧ H1 d = none ∧ R (.ref C) (some d) (upd (del H2 a) d (.xd fs))) (fun _ _ _ => False) := by
  refine ⟨(by show 1 ≤ 1000; decide), fun a na => ⟨a, y, rfl, upd_same, fun dx H2 hdx ne e1 e2 kp => ⟨rfl, dx, _, e1, e2, ?_, ?_⟩⟩⟩
  · rw [upd_ne ne] at hdx
    exact hdx
  · refine k dx _ upd_same fun b o z => ?_
    have nd : H1 dx = none := by
      rw [upd_ne ne] at hdx
      exact hdx
    rw [upd_ne (ne_of_none z nd), del_ne (ne_of_none z na)]
    exact kp b o (ne_of_none z na) (by rw [upd_ne (ne_of_none z na)]; exact z)
theorem ps_raiseBR {X : Cx} {C : Addr} {W : WX} {e1 : Expr} {ta : TA} {p pos pos2 : Pos} (hc : X.calm = true) (T : BRTxt X.prog X.w X.K X.mg X.base C) (hr : Room 2 X.A) (tk : Takes X W) (ha : PA X [e1] ta) (hg : Gl X "BadRow" := by rfl)
    (he : starEach (e1 :: []) X.env = (false, eval e1 X.env) :: starEach [] X.env := by rfl) (hpl : (backTo pos (starEach [] X.env)).any (·.1) = false := by rfl) :
    PS X (.Raise (some (.Call (.Name "BadRow" p) [e1] [] pos)) none pos2) (fun _ σ H => tMkO C (spBR C) [] ta σ H fun cls d H' => W cls d σ H') := by
  obtain ⟨fI, fd, i, ti, hb, G⟩ := T.ini
  exact ps_raise hc tk (pmk_oex (CX := CX0) T.t.ox i ti G hr hb .nil (fun _ _ _ _ _ _ _ z => z.elim) hg T.m ha (by decide) he hpl)
end
/-- BadLine's __init__ -/
def spBL (C : Addr) : Sp := fun vs H Q _ => ∃ (a : Addr) (y1 y2 : V), vs = [.ref a, y1, y2] ∧ H a = some (exo a C none) ∧ ∀ (dx : Addr) (H' : Hp), H dx = none → dx ≠ a → H' a = some (exo a C (some dx)) → H' dx = some (exd dx [("column", y2), ("line", y1)]) → Keep a H H' → Q .non H'
structure BLTxt (P : Program) (w : World) (K : PySem.W.Frag) (mg : Str → Option Value) (base : Heap) (C : Addr) : Prop where
  m : mg "BadLine" = some (.ref C)
  t : ExT K C
  ini : ∃ fI fd, PySem.W.findIn K (.ref C) "__init__" = some (some (.ref fI)) ∧ PySem.W.typeIn K (.ref fI) = some (.type "function") ∧ Binds K fd ["self", "line", "column"] [] ∧ FnOk P w K mg base CX0 1 fI fd ["self", "line", "column"] (spBL C)
section
variable {P : Program} {w : World} {K : PySem.W.Frag} {mg : Str → Option Value} {base : Heap}
/-- raise BadLine(a, b): what is left behind the arguments -/
theorem raiseBL {C : Addr} {y1 y2 : V} {H1 : Hp} {R : Value → Option Addr → Hp → Prop} (k : ∀ (d : Addr) (H' : Hp), H' d = some (.xd [("column", y2), ("line", y1)]) → Same H1 H' → R (.ref C) (some d) H') :
    [y1, y2].length ≤ 1000 ∧ ∀ a, H1 a = none → spBL C (.ref a :: ([y1, y2] ++ [])) (upd H1 a (exo a C none))
      (fun v H2 => v = .non ∧ ∃ (d : Addr) (fs : List (Str × V)), H2 a = some (exo a C (some d)) ∧ H2 d = some (exd d fs) ∧ H1 d = none ∧ R (.ref C) (some d) (upd (del H2 a) d (.xd fs))) (fun _ _ _ => False) := by
  refine ⟨(by show 2 ≤ 1000; decide), fun a na => ⟨a, y1, y2, rfl, upd_same, fun dx H2 hdx ne e1 e2 kp => ⟨rfl, dx, _, e1, e2, ?_, ?_⟩⟩⟩
  · rw [upd_ne ne] at hdx
    exact hdx
  · refine k dx _ upd_same fun b o z => ?_
    have nd : H1 dx = none := by
      rw [upd_ne ne] at hdx
      exact hdx
    rw [upd_ne (ne_of_none z nd), del_ne (ne_of_none z na)]
    exact kp b o (ne_of_none z na) (by rw [upd_ne (ne_of_none z na)]; exact z)
theorem ps_raiseBL {X : Cx} {C : Addr} {W : WX} {e1 e2 : Expr} {ta : TA} {p pos pos2 : Pos} (hc : X.calm = true) (T : BLTxt X.prog X.w X.K X.mg X.base C) (hr : Room 2 X.A) (tk : Takes X W) (ha : PA X [e1, e2] ta) (hg : Gl X "BadLine" := by rfl)
    (he : starEach (e1 :: [e2]) X.env = (false, eval e1 X.env) :: starEach [e2] X.env := by rfl) (hpl : (backTo pos (starEach [e2] X.env)).any (·.1) = false := by rfl) :
    PS X (.Raise (some (.Call (.Name "BadLine" p) [e1, e2] [] pos)) none pos2) (fun _ σ H => tMkO C (spBL C) [] ta σ H fun cls d H' => W cls d σ H') := by
  obtain ⟨fI, fd, i, ti, hb, G⟩ := T.ini
  exact ps_raise hc tk (pmk_oex (CX := CX0) T.t.ox i ti G hr hb .nil (fun _ _ _ _ _ _ _ z => z.elim) hg T.m ha (by decide) he hpl)
end
end GG




namespace GG
open PySem PySem.Spec PyProof.Rows L2
abbrev sCK : Stmt := topS 34
abbrev sPlain : Stmt := topS 36
def okK : PyData → Bool
  | .int i => decide (1 ≤ i) && decide (i ≤ 3)
  | _ => false
def spCK (CN : Addr) : Sp := fun vs H Q E => ∃ v d, vs = [v] ∧ Da H v d ∧ (okK d = true → Q .non H) ∧ (okK d = false → ∀ dd H', H' dd = some (.xd [("number", v), ("what", .str "kinds")]) → Same H H' → E (.ref CN) (some dd) H')
def kOf (d : PyData) : NestedKey := .tup [.num (ratOf d).1, .num (ratOf d).2]
def spToldR : Sp := fun vs H Q _ => ∃ v d ds, vs = [v] ∧ Da H v d ∧ seqOf d = some ds ∧ smallS d ∧ (∀ x ∈ ds, isR x = true) ∧ ∀ p xs H', H' p = some (.tup xs) → NKs H' xs (ds.map kOf) → Same H H' → Q (.ref p) H'
section
variable {P : Program} {w : World} {K : PySem.W.Frag} {mg : Str → Option Value} {base : Heap}
theorem scCK : FnScope ["kinds"] ["kinds"] (defScope sCK) := ⟨rfl, rfl, rfl, by decide +kernel, rfl, by decide +kernel, by decide +kernel⟩
theorem kn_ck {CN : Addr} (D : DefIs K mg "check_kinds" sCK) (N : BNTxt P w K mg base CN) (BW : Kn P w K mg base "is_whole" 1 ["value"] spWhole) : KnX P w K mg base "check_kinds" 3 ["kinds"] (spCK CN) := by
  refine .of D (fun _ _ _ _ _ _ us hl => match us, hl with | [_], _ => rfl) fun _ _ F => ?_
  refine F.okX scCK (fun vs H Q E h => ?_) (fun cdv A outer s H vs Q E hr h => ?_)
  · obtain ⟨v, d, rfl, _⟩ := h
    rfl
  · obtain ⟨v, d, rfl, da, kQ, kE⟩ := h
    have hr1 : Room 1 _ := hr.mono (by decide)
    refine ⟨_, pss_one (ps_if (PW.pt (pw_or (pt_not (pt_val (pe_kn BW hr1 (pa_cons (pv 0) pa_nil)))) (pw_or1 (pt_not (pt_chain op_le op_le pe_int (pv 0) pe_int)))))
      (pss_one (ps_raiseBN rfl N hr (takes_of rfl rfl rfl rfl) (pa_cons pe_str (pa_cons (pv 0) pa_nil)))) pss_nil), ?_⟩
    refine ⟨_, rfl, v, d, rfl, da, _, rfl, ?_⟩
    cases hw : isW d with
    | false =>
      refine iteT ?_
      have z : okK d = false := by cases d <;> first | rfl | cases hw
      exact ⟨_, rfl, raiseBN fun dd H' e S' => kE z dd H' e S'⟩
    | true =>
      refine iteF ?_
      cases d with
      | int i =>
        cases da
        have e : okK (.int i) = (decide (1 ≤ i) && decide (i ≤ 3)) := rfl
        refine ⟨_, rfl, _, _, rfl, rfl, _, rfl, ?_⟩
        by_cases h1 : (1 : Int) ≤ i
        · rw [if_pos (decide_eq_true h1)]
          refine ⟨_, _, rfl, rfl, _, rfl, ?_⟩
          by_cases h3 : i ≤ 3
          · rw [decide_eq_true h3]
            refine iteF ?_
            exact kQ (by rw [e, decide_eq_true h1, decide_eq_true h3]; rfl)
          · rw [decide_eq_false h3]
            refine iteT ?_
            have z : okK (.int i) = false := by rw [e, decide_eq_false h3, Bool.and_false]
            exact ⟨_, rfl, raiseBN fun dd H' e S' => kE z dd H' e S'⟩
        · rw [if_neg (by rw [decide_eq_false h1]; decide)]
          refine ⟨_, rfl, ?_⟩
          refine iteT ?_
          have z : okK (.int i) = false := by rw [e, decide_eq_false h1, Bool.false_and]
          exact ⟨_, rfl, raiseBN fun dd H' e S' => kE z dd H' e S'⟩
      | _ => cases hw
theorem scToldR : FnScope ["row", "item"] ["row"] (defScope sToldR) := ⟨rfl, rfl, rfl, by decide +kernel, rfl, by decide +kernel, by decide +kernel⟩
theorem kn_toldR {CN : Addr} (D : DefIs K mg "told_row" sToldR) (T : RTxt K mg) (B4 : KnX P w K mg base "told" 3 ["value", "what"] (spTold CN)) : Kn P w K mg base "told_row" 4 ["row"] spToldR := by
  refine .of D (fun _ _ _ _ _ _ us hl => match us, hl with | [_], _ => rfl) fun _ _ F => ?_
  refine F.ok scToldR (fun vs H Q E h => ?_) (fun cdv A outer s H vs Q E hr h => ?_)
  · obtain ⟨v, d, ds, rfl, _⟩ := h
    rfl
  · obtain ⟨v, d, ds, rfl, da, hs, sm, ra, k⟩ := h
    refine ⟨_, pss_one (ps_ret (pe_callTy call_tuple_of (by rfl) T.tuple bTuple (pa_cons (pe_lc (own := [("item", 1)]) (g := gName 1) (tt := tYes) rfl scToldR.nd (pi_ei (pv 0)) (blkOk_by (N := ["row", "item"]) (sc := defScope sToldR) (by decide +kernel))
        (fun _ _ _ _ _ => pg_name (i := 1) scToldR.nd rfl (.inl rfl)) (fun _ _ _ _ _ => pts_nil) (fun _ _ _ _ _ => pe_knX B4 hr LamX.takes0 (E := fun _ _ _ => False) (fun _ _ _ _ z => z) (pa_cons (pv 1) (pa_cons pe_str pa_nil)))) pa_nil))), ?_⟩
    unfold smallS at sm
    rw [hs] at sm
    obtain ⟨a, xs, rfl, sq, all, hl⟩ := da.seq2 (K := K) hs
    refine ⟨_, rfl, a, rfl, ?_⟩
    refine lc_ei sq (fun D i H' => Same H H' ∧ ∃ acc, H' D = some (.lst acc) ∧ acc.length = i ∧ NKs H' acc ((ds.take i).map kOf)) (fun D hD => ⟨GG.Same.new (L2.Same.refl H) hD, [], upd_same, rfl, .nil⟩) (fun D hD i H' p => p.1) (fun D hD i x H' hx p => ?_) (fun D hD H' p => ?_)
    · obtain ⟨dx, hdx, dax⟩ := all.get hx
      obtain ⟨S, acc, eD, la, nk⟩ := p
      have mem := List.mem_of_getElem? hdx
      refine ⟨rfl, ?_⟩
      refine ⟨_, rfl, x, .str "ratio", dx, rfl, dax.stay (Same.stay S), sm.2 _ mem, fun _ q H3 e3 S3 => ?_, fun z => absurd ((ra _ mem).symm.trans z) (by decide)⟩
      have eD3 := S3 _ _ eD
      have noT : ∀ ys, H3 D ≠ some (.tup ys) := fun ys z => by
        rw [eD3] at z
        cases z
      refine ⟨acc, eD3, ?_, ?_, acc ++ [.ref q], upd_same, ?_, ?_⟩
      · have l1 : i < xs.length := (List.getElem?_eq_some_iff.mp hx).1
        have := sm.1
        rw [la, sizeLine_eq]
        omega
      · intro b o eb
        rw [upd_ne (ne_of_none eb hD)]
        exact S3 _ _ (S b o eb)
      · rw [List.length_append, la]
        rfl
      · rw [take_snoc hdx, List.map_append, List.map_cons, List.map_nil]
        exact NKs.snoc ((NK.tup e3 (.cons (.int _) (.cons (.int _) .nil))).ext noT) ((nk.same S3).ext noT)
    · obtain ⟨S, acc, eD, la, nk⟩ := p
      rw [hl, List.take_length] at nk
      refine ⟨D, acc, rfl, .inl ⟨.inl (.inl eD), fun l nl => ?_⟩⟩
      have S' := GG.Same.new (o := .tup acc) (L2.Same.refl H') nl
      exact k l acc _ upd_same (nk.same S') (L2.Same.trans S S')
end
end GG




namespace GG
open PySem PySem.Spec PyProof.Rows L2
/-! ### a dict by nested keys, read, also while it is walked -/
structure NDr (P : Program) (w : World) (H : Hp) (d : Addr) (kvs : List NE) : Prop where
  has : Rd H d (.ext (ndP P w d kvs))
  keys : ∀ e ∈ kvs, NK H (.ref e.2.1) e.1 ∧ e.1.depth ≤ 8
  ne : (d == sysModules) = false
theorem ND.r {P : Program} {w : World} {H : Hp} {d : Addr} {kvs : List NE} (n : ND P w H d kvs) : NDr P w H d kvs := ⟨.inl n.has, n.keys, n.ne⟩
theorem NDr.same {P : Program} {w : World} {H H' : Hp} {d : Addr} {kvs : List NE} (k : Same H H') (n : NDr P w H d kvs) : NDr P w H' d kvs := by
  refine ⟨?_, fun e he => ⟨(n.keys e he).1.same k, (n.keys e he).2⟩, n.ne⟩
  rcases n.has with h | ⟨o, h⟩
  · exact .inl (k _ _ h)
  · exact .inr ⟨o, k _ _ h⟩
section
variable {X : Cx} {pins : List (Addr × Obj)} {σ : L2.St} {H : Hp} {s : Shared} {d : Addr} {kvs : List NE}
theorem NDr.of (I : Inv X pins σ H s) (n : NDr X.prog X.w H d kvs) : ∃ xs : List (NestedKey × Addr × Value), Paired relE kvs xs ∧ s.heap.DictOfH (nestedKind X.prog X.w) d xs := by
  obtain ⟨⟨xs, r, o, es, ep, h1, h2, h3, h4, h5⟩, _⟩ := (show ObjOk X.prog X.w H s.heap d (.ext _) from n.has.ok I.hok)
  exact ⟨xs, r, o, es, ep, h1, h2, h3, h4, relE_is I r n.keys, h5⟩
/-- d[k], k there -/
def tNSub (P : Program) (w : World) (td ty : TE) : TE := fun σ H Q => td σ H fun x H1 => ty σ H1 fun y H2 => ∃ a kvs k b v, x = .ref a ∧ NDr P w H2 a kvs ∧ y = .ref b ∧ NK H2 (.ref b) k ∧ k.depth ≤ 8 ∧ atN kvs k = some v ∧ Q v H2
theorem pe_nsub {o i : Expr} {pos : Pos} {td ty : TE} (hu : X.A.units + 10 < cLine) (ho : PE X o td) (hi : PE X i ty) (hs : NoSl i) : PE X (.Subscript o i pos) (tNSub X.prog X.w td ty) := by
  refine ⟨fun pins s σ H Q I h => ?_⟩
  refine subD_of PySem.F.slot_dict_getitem.lookup hs (thn (ho.run pins s σ H _ I h) fun u s1 ⟨x, H1, I1, rx, q1⟩ => thn (hi.run pins s1 σ H1 _ I1 q1) fun iv s2 ⟨y, H2, I2, ry, a, kvs, k, b, v, ex, n, ey, nk, dk, hv, q2⟩ => ?_)
  subst ex ey
  obtain rfl : u = Value.ref a := rx
  obtain rfl : iv = Value.ref b := ry
  obtain ⟨xs, rel, dd⟩ := NDr.of I2 n
  have r := relE_val rel k
  rw [hv] at r
  obtain ⟨u', hu', ru⟩ := RelO.some_of r
  obtain ⟨p, hp, rfl⟩ := Option.map_eq_some_iff.mp hu'
  exact ⟨dd.typeIs, wpAny_getItem_heap (knd := nestedKind X.prog X.w) (by show X.A.units + 1 + 8 < cLine; omega) ⟨nk.is I2 rfl, dk⟩ dd hp ⟨v, H2, I2.tok _, ru, q2⟩⟩
end
/-! ### its keys, one by one -/
def ItN (P : Program) (w : World) (d : Addr) (o : Obj) (kvs : List NE) : It :=
  ⟨fun i H => H d = some (.frz o (.ext (ndP P w d kvs))) ∧ i < kvs.length, fun i H x H' => H' = H ∧ ∃ e, kvs[i]? = some e ∧ x = .ref e.2.1, fun i H => H d = some (.frz o (.ext (ndP P w d kvs))) ∧ kvs.length ≤ i⟩
theorem relE_get {kvs : List NE} {xs : List (NestedKey × Addr × Value)} (r : Paired relE kvs xs) : ∀ {i : Nat} {e : NE}, kvs[i]? = some e → ∃ b, xs[i]? = some b ∧ relE e b := fun h => paired_get r h
theorem Inv.frzN {X : Cx} {pins : List (Addr × Obj)} {σ : L2.St} {H : Hp} {s : Shared} {d : Addr} {o : Obj} {kvs : List NE} (I : Inv X pins σ H s) (h : H d = some (.frz o (.ext (ndP X.prog X.w d kvs)))) :
    s.heap.get? d = some o ∧ o.ExactDict ∧ ∃ (es : Array DictEntry) (ep : Nat), o.data = .dict es ep ∧ es.size = kvs.length ∧
      ∀ (i : Nat) (e : NE), kvs[i]? = some e → ∃ en : DictEntry, es[i]? = some en ∧ en.key = .ref e.2.1 := by
  obtain ⟨hd, ⟨xs, pr, o', es, ep, ho, hx, hdt, he, _⟩, _⟩ := (show ObjOk X.prog X.w H s.heap d (.frz o (.ext _)) from I.hok d _ h)
  rw [hd] at ho
  cases ho
  refine ⟨hd, hx, es, ep, hdt, ?_, fun i e hi => ?_⟩
  · have l1 : es.size = xs.length := size_of_entries he
    have l2 : kvs.length = xs.length := Paired.length pr
    omega
  · obtain ⟨b, hb, e1, e2, _⟩ := relE_get pr hi
    have q := entry_at he i
    rw [hb] at q
    exact ⟨_, q, by rw [e2]; rfl⟩
theorem turn_keysN {P : Program} {w : World} {K : PySem.W.Frag} {tg : Expr} {d : Addr} {o : Obj} {es : Array DictEntry} {ep : Nat} {kvs : List NE} (it : Addr) (hod : o.data = .dict es ep) : Turn P w K tg (ItN P w d o kvs) [it] it (fun i h => h.IsKeyIter it d i kvs.length ep) where
  mem := by simp
  obj := fun i h st b hb => by
    have e : b = it := by simpa using hb
    subst e
    obtain ⟨oi, e, c, dd⟩ := st
    exact ⟨oi, e, fun v z => by rw [dd] at z; cases z⟩
  keep := fun i h h' st k => st.at fun oi e => k it (by simp) oi e
  item := by
    intro X hP hw hK hc i pins s σ H E I hf st hg
    subst hP hw hK
    obtain ⟨hd, hi⟩ := hg
    obtain ⟨f0, f1, f2, f3, f4, f5⟩ := hf it (by simp)
    obtain ⟨hgd, hx, es', ep', hdt, hsz, ent⟩ := Inv.frzN I hd
    obtain ⟨rfl, rfl⟩ := dict_ep hod hdt
    obtain ⟨e0, hkv⟩ : ∃ p, kvs[i]? = some p := ⟨kvs[i], List.getElem?_eq_getElem hi⟩
    obtain ⟨en, hen, hkey⟩ := ent i e0 hkv
    refine next_key_item st hgd hdt hsz hen fun h' st' sb => ?_
    have I1 : Inv X pins σ H { s with heap := h' } := I.turned (t' := s.toks) (fun b ob hb e => (sb.2 b hb).trans e) f0 f1 f3 f4 f5
    obtain ⟨oi, e, c, dd⟩ := id st'
    exact ⟨en.key, rfl, go_of (s := { s with heap := h' }) e c dd (by decide) ⟨.ref e0.2.1, H, I1, hkey, ⟨rfl, e0, hkv, rfl⟩, st', fun b hb => (hf b hb).1⟩⟩
  done := by
    intro X hP hw hK hc i pins s σ H E I hf st hg
    subst hP hw hK
    obtain ⟨hd, hi⟩ := hg
    obtain ⟨f0, f1, f2, f3, f4, f5⟩ := hf it (by simp)
    obtain ⟨hgd, hx, es', ep', hdt, hsz, ent⟩ := Inv.frzN I hd
    obtain ⟨rfl, rfl⟩ := dict_ep hod hdt
    exact next_key_end (I.ok.hd hc) st hgd hdt hsz hi fun h' eb => ⟨rfl, I.turned (t' := s.toks) (fun b ob hb e => eb b ob hb e) f0 f1 f3 f4 f5⟩
  self := fun A i s Q E st h => by
    refine wpAny_pyIter_slot st.typeIs F.slot_dict_keyiterator_iter (wpAny_call_entry F.slot_dict_keyiterator_iter st.typeIs F.entry_dict_keyiterator_iter ?_ (F.args_dict_keyiterator_iter_1 _))
    show wpAny _ _ (ret (.ref it)) _ _ s
    exact wpAny_pure ⟨_, rfl, "dict_keyiterator", _, st.typeIs, F.slot_dict_keyiterator_next.lookup, h⟩
def iKeysN (P : Program) (w : World) (td : TE) : TI := fun σ H R => td σ H fun x H1 => ∃ d o kvs, x = .ref d ∧ (d == sysModules) = false ∧ H1 d = some (.frz o (.ext (ndP P w d kvs))) ∧ R (ItN P w d o kvs) H1
theorem pi_keysN {X : Cx} {tg e : Expr} {td : TE} (he : PE X e td) : PI X tg e (iKeysN X.prog X.w td) := by
  refine ⟨fun pins s σ H R I h => ?_⟩
  refine thn (he.run pins s σ H _ I h) fun u s1 ⟨x, H1, I1, rx, d, o, kvs, ex, ns, hd, q⟩ => ?_
  subst ex
  obtain rfl : u = Value.ref d := rx
  obtain ⟨hgd, hx, es, ep, hdt, hsz, ent⟩ := Inv.frzN I1 hd
  refine iter_keys ns hgd hx hdt (pi_one (tk := s1.toks) I1 _ (turn_keysN _ hdt) ⟨_, Heap.get?_push_size _ rfl, rfl, ?_⟩ q)
  rw [hsz] <;> rfl
/-- a comprehension over them -/
theorem lc_keysN {P : Program} {w : World} {d : Addr} {o : Obj} {kvs : List NE} {g : TG} {tt : TT} {te : TE} {vs : List Nat} {σ : L2.St} {H1 : Hp} {D : Addr} {Qd : Hp → Prop} (Pv : Nat → Hp → Prop) (h0 : Pv 0 (upd H1 D (.lst []))) (hl : ∀ i H, i ≤ kvs.length → Pv i H → H d = some (.frz o (.ext (ndP P w d kvs))))
    (hs : ∀ i e H, kvs[i]? = some e → Pv i H → g (.ref e.2.1) (wipe σ vs) H fun σ2 H2 => wipe σ2 vs = wipe σ vs ∧ tt σ2 H2 fun b H3 =>
      if b = true then te σ2 H3 fun y H4 => ∃ acc, H4 D = some (.lst acc) ∧ acc.length < sizeLine ∧ Pv (i + 1) (upd H4 D (.lst (acc ++ [y]))) else Pv (i + 1) H3) (hd : ∀ H, Pv kvs.length H → Qd H) :
    ∃ W : Nat → Nat → Hp → Prop, (∃ m, W 0 m (upd H1 D (.lst []))) ∧ ∀ i m H, W i m H →
      ((ItN P w d o kvs).stop i H ∧ Qd H) ∨ ((ItN P w d o kvs).go i H ∧ ∃ Nx : Hp → Prop, (∀ H', Nx H' → ∃ m', m' < m ∧ W (i + 1) m' H') ∧ ∀ x H', (ItN P w d o kvs).yld i H x H' → g x (wipe σ vs) H' fun σ2 H2 => wipe σ2 vs = wipe σ vs ∧ tt σ2 H2 fun b H3 =>
        if b = true then te σ2 H3 fun y H4 => ∃ acc, H4 D = some (.lst acc) ∧ acc.length < sizeLine ∧ Nx (upd H4 D (.lst (acc ++ [y]))) else Nx H3) := by
  refine ⟨fun i m H => m = kvs.length - i ∧ i ≤ kvs.length ∧ Pv i H, ⟨kvs.length, by simp, Nat.zero_le _, h0⟩, ?_⟩
  rintro i m H ⟨rfl, hi, p⟩
  have q := hl i H hi p
  by_cases hlt : i < kvs.length
  · refine .inr ⟨⟨q, hlt⟩, Pv (i + 1), fun H' p' => ⟨kvs.length - (i + 1), by omega, rfl, hlt, p'⟩, fun x H' y => ?_⟩
    obtain ⟨e, e0, he, hx⟩ := y
    subst e hx
    exact hs i e0 _ he p
  · have e : i = kvs.length := by omega
    subst e
    exact .inl ⟨⟨q, Nat.le_refl _⟩, hd H p⟩
end GG



namespace GG
open PySem PySem.Spec PyProof.Rows L2
/-! ### rows of numbers, and lists of weights by them -/
abbrev RK := List (Int × Int)
abbrev WL := List (RK × Int)
def rN (r : Int × Int) : NestedKey := .tup [.num r.1, .num r.2]
def keyN (K : RK) : NestedKey := .tup (K.map rN)
theorem rN_inj {a b : Int × Int} (h : rN a = rN b) : a = b := by
  obtain ⟨a1, a2⟩ := a
  obtain ⟨b1, b2⟩ := b
  simp only [rN, NestedKey.tup.injEq, List.cons.injEq, NestedKey.num.injEq, and_true] at h
  exact Prod.ext h.1 h.2
theorem rNs_inj : ∀ {K L : RK}, K.map rN = L.map rN → K = L
  | [], [], _ => rfl
  | [], _ :: _, h => by cases h
  | _ :: _, [], h => by cases h
  | a :: K, b :: L, h => by
    simp only [List.map_cons, List.cons.injEq] at h
    rw [rN_inj h.1, rNs_inj h.2]
theorem keyN_inj {K L : RK} (h : keyN K = keyN L) : K = L := rNs_inj (NestedKey.tup.inj h)
theorem keyN_depth (K : RK) : (keyN K).depth ≤ 8 := by
  have h : ∀ K : RK, NestedKey.depthAll (K.map rN) ≤ 1 := fun K => by
    induction K with
    | nil => simp [NestedKey.depthAll]
    | cons d ds ih =>
      rw [List.map_cons]
      unfold NestedKey.depthAll
      have e : (rN d).depth = 1 := rfl
      rw [e]
      omega
  unfold keyN NestedKey.depth
  have := h K
  omega
def getW (W : WL) (K : RK) : Option Int := (W.find? fun e => decide (e.1 = K)).map (·.2)
def addW (W : WL) (K : RK) (m : Int) : WL := if (getW W K).isSome then W.map (fun e => if e.1 = K then (e.1, (getW W K).getD 0 + m) else e) else W ++ [(K, (getW W K).getD 0 + m)]
def relW (e : NE) (x : RK × Int) : Prop := e.1 = keyN x.1 ∧ e.2.2 = .int x.2
theorem getW_of {kvs : List NE} {W : WL} (r : Paired relW kvs W) (K : RK) : atN kvs (keyN K) = (getW W K).map V.int := by
  induction r with
  | nil => rfl
  | @cons p q ps qs h t ih =>
    obtain ⟨h1, h2⟩ := h
    by_cases e : q.1 = K
    · have e' : p.1 = keyN K := by rw [h1, e]
      have b : atN (p :: ps) (keyN K) = some p.2.2 := by simp [atN, List.find?_cons, e']
      have c : getW (q :: qs) K = some q.2 := by simp [getW, List.find?_cons, e]
      rw [b, c, h2]
      rfl
    · have e' : ¬ p.1 = keyN K := fun z => e (keyN_inj (h1.symm.trans z))
      have b : atN (p :: ps) (keyN K) = atN ps (keyN K) := by simp [atN, List.find?_cons, e']
      have c : getW (q :: qs) K = getW qs K := by simp [getW, List.find?_cons, e]
      rw [b, c, ih]
theorem addW_of {kvs : List NE} {W : WL} (r : Paired relW kvs W) (K : RK) (b : Addr) (m : Int) : Paired relW (putN kvs (keyN K) b (.int ((getW W K).getD 0 + m))) (addW W K m) := by
  have e := getW_of r K
  unfold putN addW
  rw [e, Option.isSome_map]
  by_cases q : (getW W K).isSome = true
  · rw [if_pos q, if_pos q]
    generalize (getW W K).getD 0 + m = z
    clear e q
    induction r with
    | nil => exact .nil
    | @cons p x ps qs h t ih =>
      rw [List.map_cons, List.map_cons]
      refine .cons ?_ ih
      obtain ⟨h1, h2⟩ := h
      by_cases e : x.1 = K
      · rw [if_pos e, if_pos (by rw [h1, e])]
        exact ⟨h1, rfl⟩
      · rw [if_neg e, if_neg (fun z => e (keyN_inj (h1.symm.trans z)))]
        exact ⟨h1, h2⟩
  · rw [if_neg q, if_neg q]
    exact Paired.snoc r ⟨rfl, rfl⟩
def bidOf (d : PyData) : Int × RK := match seqOf d with
  | some [.int m, y] => (match seqOf y with
    | some ds => (m, ds.map ratOf)
    | none => (0, []))
  | _ => (0, [])
def wOf (rd : List PyData) : WL := rd.foldl (fun W d => addW W (bidOf d).2 (bidOf d).1) []
theorem wOf_snoc (rd : List PyData) (d : PyData) : wOf (rd ++ [d]) = addW (wOf rd) (bidOf d).2 (bidOf d).1 := by
  unfold wOf
  rw [List.foldl_append]
  rfl
def wants (K : RK) : Bool := K.any fun r => !decide (V.int r.1 = V.int 0)
def keepW (x : RK × Int) : Bool := (!decide (V.int x.2 = V.int 0)) && wants x.1
theorem kOf_map (ds : List PyData) : ds.map kOf = (ds.map ratOf).map rN := by
  rw [List.map_map]
  rfl
theorem bid_shape' {d : PyData} {n : Int} (h : isBid d n = true) : ∃ m y ds, seqOf d = some [.int m, y] ∧ seqOf y = some ds ∧ (∀ x ∈ ds, isR x = true) ∧ bidOf d = (m, ds.map ratOf) ∧ (ds.length : Int) = n := by
  unfold isBid at h
  split at h
  · rename_i x y e
    rw [Bool.and_eq_true] at h
    obtain ⟨hx, hy⟩ := h
    cases x with
    | int m =>
      unfold areP at hy
      split at hy
      · rename_i ds e2
        rw [Bool.and_eq_true] at hy
        refine ⟨m, y, ds, e, e2, fun x hx => ?_, ?_, of_decide_eq_true hy.1⟩
        · have z := List.all_eq_true.mp hy.2 x hx
          unfold isZ at z
          rw [Bool.and_eq_true] at z
          exact z.1
        · unfold bidOf
          rw [e]
          dsimp only
          rw [e2]
      · cases hy
    | _ => cases hx
  · cases h
/-- the numbers of a row, where they stand -/
theorem NK.row {H : Hp} {p : Addr} {K : RK} (h : NK H (.ref p) (keyN K)) : ∃ xs, H p = some (.tup xs) ∧ xs.length = K.length ∧ ∀ (i : Nat) (r : Int × Int), K[i]? = some r → ∃ q, xs[i]? = some (.ref q) ∧ H q = some (.tup [.int r.1, .int r.2]) := by
  have key : ∀ {xs : List V} {K : RK}, NKs H xs (K.map rN) → xs.length = K.length ∧ ∀ (i : Nat) (r : Int × Int), K[i]? = some r → ∃ q, xs[i]? = some (.ref q) ∧ H q = some (.tup [.int r.1, .int r.2]) := by
    intro xs K
    induction K generalizing xs with
    | nil =>
      intro t
      cases t
      exact ⟨rfl, fun i r e => by cases e⟩
    | cons r0 K ih =>
      intro t
      cases t with
      | cons h1 t1 =>
        obtain ⟨l, all⟩ := ih t1
        refine ⟨by rw [List.length_cons, List.length_cons, l], fun i r e => ?_⟩
        cases i with
        | zero =>
          simp only [List.getElem?_cons_zero, Option.some.injEq] at e
          subst e
          cases h1 with
          | tup e2 t2 =>
            cases t2 with
            | cons a1 t3 =>
              cases t3 with
              | cons a2 t4 =>
                cases t4
                cases a1
                cases a2
                exact ⟨_, rfl, e2⟩
        | succ j =>
          simp only [List.getElem?_cons_succ] at e
          obtain ⟨q, e1, e2⟩ := all j r e
          exact ⟨q, by simpa using e1, e2⟩
  cases h with
  | tup e t => exact ⟨_, e, key t⟩
abbrev sWants : Stmt := topS 37
def spWants : Sp := fun vs H Q _ => ∃ p K, vs = [.ref p] ∧ NK H (.ref p) (keyN K) ∧ K.length ≤ 1000 ∧ ∀ H', Same H H' → Q (.bl (wants K)) H'
theorem bAny : bootBuiltins "any" = some (.builtin "any") := by decide +kernel
section
variable {P : Program} {w : World} {K : PySem.W.Frag} {mg : Str → Option Value} {base : Heap}
theorem scWants : FnScope ["numbers", "number"] ["numbers"] (defScope sWants) := ⟨rfl, rfl, rfl, by decide +kernel, rfl, by decide +kernel, by decide +kernel⟩
theorem kn_wants (D : DefIs K mg "wants_some" sWants) (za : mg "any" = none) : Kn P w K mg base "wants_some" 1 ["numbers"] spWants := by
  refine .of D (fun _ _ _ _ _ _ us hl => match us, hl with | [_], _ => rfl) fun _ _ F => ?_
  refine F.ok scWants (fun vs H Q E h => ?_) (fun cdv A outer s H vs Q E hr h => ?_)
  · obtain ⟨p, K, rfl, _⟩ := h
    rfl
  · obtain ⟨p, R, rfl, nk, l9, k⟩ := h
    refine ⟨_, pss_one (ps_ret (pe_callB (cr_any rfl) (by rfl) za bAny (pa_cons (pe_lc (own := [("number", 1)]) (g := gName 1) (tt := tYes) rfl scWants.nd (pi_tup (pv 0)) (blkOk_by (N := ["numbers", "number"]) (sc := defScope sWants) (by decide +kernel))
        (fun _ _ _ _ _ => pg_name (i := 1) scWants.nd rfl (.inl rfl)) (fun _ _ _ _ _ => pts_nil) (fun _ _ _ _ _ => pe_cmpR op_ne (pe_ix (show IxR _ (rIxT K) from ix_tup) (pv 1) pe_int (fun _ _ => rfl)) pe_int (nomark _))) pa_nil))), ?_⟩
    obtain ⟨xs, ex, lx, all⟩ := nk.row
    refine ⟨_, rfl, p, rfl, ⟨_, SqT.of ex⟩, fun D nD => lc_tup (xs := xs) (fun i H' => Same H H' ∧ H' D = some (.lst ((R.take i).map fun r => V.bl (!decide (V.int r.1 = V.int 0))))) ⟨GG.Same.new (L2.Same.refl H) nD, upd_same⟩ (fun i H' _ p => SqT.of (p.1 _ _ ex)) (fun i x H' hx p => ?_) (fun H' p => ?_)⟩
    · obtain ⟨S, eD⟩ := p
      have il : i < xs.length := (List.getElem?_eq_some_iff.mp hx).1
      obtain ⟨r, hr'⟩ : ∃ r, R[i]? = some r := ⟨R[i]'(by omega), List.getElem?_eq_getElem (by omega)⟩
      obtain ⟨q, hq, eq⟩ := all i r hr'
      rw [hx] at hq
      cases hq
      refine ⟨rfl, ?_⟩
      refine ⟨_, rfl, q, _, _, _, rfl, rfl, .inl (.inl (S _ _ eq)), atI_nat (j := 0) rfl, rfl, _, eD, ?_, ?_, ?_⟩
      · rw [List.length_map, List.length_take, sizeLine_eq]
        omega
      · intro b o eb
        rw [upd_ne (ne_of_none eb nD)]
        exact S b o eb
      · rw [upd_same, take_snoc hr', List.map_append, List.map_cons, List.map_nil]
    · obtain ⟨S, eD⟩ := p
      rw [lx, List.take_length] at eD
      refine ⟨D, R.map fun r => !decide (V.int r.1 = V.int 0), rfl, .inl (.inl (by rw [eD, List.map_map]; rfl)), ?_⟩
      have e : (R.map fun r => !decide (V.int r.1 = V.int 0)).any id = wants R := by
        unfold wants
        rw [List.any_map]
        rfl
      rw [e]
      exact k H' S
end
end GG



namespace GG
open PySem PySem.Spec PyProof.Rows L2
/-! ### lists of rows; common bottoms, scaled numbers -/
/-- the row K of numbers stands at v -/
def RowV (H : Hp) (v : V) (K : RK) : Prop := ∃ b, v = .ref b ∧ NK H v (keyN K)
theorem RowV.same {H H' : Hp} (k : Same H H') {v : V} {K : RK} (h : RowV H v K) : RowV H' v K := by
  obtain ⟨b, rfl, n⟩ := h
  exact ⟨b, rfl, n.same k⟩
theorem rows_same {H H' : Hp} (k : Same H H') {vs : List V} {Ks : List RK} (h : Paired (RowV H) vs Ks) : Paired (RowV H') vs Ks := by
  induction h with
  | nil => exact .nil
  | cons a _ ih => exact .cons (a.same k) ih
theorem paired_at {α β : Type} {G : α → β → Prop} {l₁ : List α} {l₂ : List β} (h : Paired G l₁ l₂) : ∀ {i : Nat} {a : α}, l₁[i]? = some a → ∃ b, l₂[i]? = some b ∧ G a b := by
  induction h with
  | nil => intro i a e; simp at e
  | @cons a b l₁ l₂ r t ih =>
    intro i a' e
    cases i with
    | zero =>
      simp only [List.getElem?_cons_zero, Option.some.injEq] at e
      subst e
      exact ⟨b, rfl, r⟩
    | succ j =>
      simp only [List.getElem?_cons_succ] at e ⊢
      exact ih e
def lcmI (a b : Int) : Int := ((Nat.lcm a.natAbs b.natAbs : Nat) : Int)
def botOf (rs : List (Int × Int)) : Int := rs.foldl (fun b r => lcmI b r.2) 1
abbrev sBot : Stmt := topS 21
abbrev sScaled : Stmt := topS 22
/-- a ratio whose bottom divides N -/
def good2 (N : Nat) (r : Int × Int) : Prop := 0 < r.2 ∧ r.2.natAbs ∣ N ∧ r.1.natAbs < 2 ^ 120
theorem bot_snoc (rs : List (Int × Int)) (r : Int × Int) : botOf (rs ++ [r]) = lcmI (botOf rs) r.2 := by
  unfold botOf
  rw [List.foldl_append]
  rfl
theorem bot_pos {N : Nat} (n0 : 0 < N) {rs : List (Int × Int)} (h : ∀ r ∈ rs, good2 N r) : 0 < botOf rs ∧ (botOf rs).natAbs ∣ N ∧ ∀ r ∈ rs, r.2.natAbs ∣ (botOf rs).natAbs := by
  have key : ∀ (rs : List (Int × Int)) (b : Int), (∀ r ∈ rs, good2 N r) → 0 < b → b.natAbs ∣ N → 0 < rs.foldl (fun b r => lcmI b r.2) b ∧ (rs.foldl (fun b r => lcmI b r.2) b).natAbs ∣ N ∧ b.natAbs ∣ (rs.foldl (fun b r => lcmI b r.2) b).natAbs ∧ ∀ r ∈ rs, r.2.natAbs ∣ (rs.foldl (fun b r => lcmI b r.2) b).natAbs := by
    intro rs
    induction rs with
    | nil => intro b _ h0 h1; exact ⟨h0, h1, Nat.dvd_refl _, fun r hr => nomatch hr⟩
    | cons r rs ih =>
      intro b hg h0 h1
      obtain ⟨g0, g1, _⟩ := hg r List.mem_cons_self
      have p : 0 < Nat.lcm b.natAbs r.2.natAbs := Nat.lcm_pos (by omega) (by omega)
      obtain ⟨z1, z2, z3, z4⟩ := ih (lcmI b r.2) (fun x hx => hg x (List.mem_cons_of_mem _ hx)) (by unfold lcmI; omega) (by unfold lcmI; rw [Int.natAbs_natCast]; exact Nat.lcm_dvd h1 g1)
      rw [List.foldl_cons]
      have e : (lcmI b r.2).natAbs = Nat.lcm b.natAbs r.2.natAbs := Int.natAbs_natCast _
      rw [e] at z3
      refine ⟨z1, z2, Nat.dvd_trans (Nat.dvd_lcm_left _ _) z3, fun x hx => ?_⟩
      rcases List.mem_cons.mp hx with rfl | m
      · exact Nat.dvd_trans (Nat.dvd_lcm_right _ _) z3
      · exact z4 x m
  obtain ⟨a, b, _, c⟩ := key rs 1 h (by decide) (Nat.one_dvd _)
  exact ⟨a, b, c⟩
def rLcm : List V → Hp → VK → Prop := fun vs H Q => ∃ a b : Int, vs = [.int a, .int b] ∧ a.natAbs < 2 ^ 64 ∧ b.natAbs < 2 ^ 64 ∧ Q (.int (lcmI a b)) H
theorem cr_lcm {X : Cx} : CallR X (.builtin "math.lcm") rLcm := by
  intro pins s σ H vs us Q I r h
  obtain ⟨a, b, rfl, ha, hb, q⟩ := h
  obtain ⟨t, u, rfl⟩ := Vals.int2 r
  exact PySem.W.mc_lcm ha hb fun _ => ⟨.int _, H, I.tok _, ⟨_, rfl⟩, q⟩
/-- a ratio stands at v -/
def RatV (H : Hp) (v : V) (r : Int × Int) : Prop := ∃ q, v = .ref q ∧ H q = some (.tup [.int r.1, .int r.2])
def spBot : Sp := fun vs H Q _ => ∃ (a : Addr) (xs : List V) (rs : List (Int × Int)) (N : Nat), vs = [.ref a] ∧ H a = some (.lst xs) ∧ Paired (RatV H) xs rs ∧ 0 < N ∧ N < 2 ^ 60 ∧ (∀ r ∈ rs, good2 N r) ∧ Q (.int (botOf rs)) H
def spScaled : Sp := fun vs H Q _ => ∃ (q : Addr) (r : Int × Int) (b : Int), vs = [.ref q, .int b] ∧ H q = some (.tup [.int r.1, .int r.2]) ∧ 0 < r.2 ∧ r.2.natAbs < 2 ^ 120 ∧ r.1.natAbs < 2 ^ 120 ∧ 0 ≤ b ∧ b.natAbs < 2 ^ 60 ∧ Q (.int (r.1 * (b / r.2))) H
section
variable {P : Program} {w : World} {K : PySem.W.Frag} {mg : Str → Option Value} {base : Heap}
theorem scBot : FnScope ["ratios", "bottom", "ratio"] ["ratios"] (defScope sBot) := ⟨rfl, rfl, rfl, by decide +kernel, rfl, by decide +kernel, by decide +kernel⟩
theorem kn_bot (D : DefIs K mg "common_bottom" sBot) (ml : mg "lcm" = some (.builtin "math.lcm")) : Kn P w K mg base "common_bottom" 1 ["ratios"] spBot := by
  refine .of D (fun _ _ _ _ _ _ us hl => match us, hl with | [_], _ => rfl) fun _ _ F => ?_
  refine F.ok scBot (fun vs H Q E h => ?_) (fun cdv A outer s H vs Q E hr h => ?_)
  · obtain ⟨a, xs, rs, N, rfl, _⟩ := h
    rfl
  · obtain ⟨a, xs, rs, N, rfl, ea, pr, n0, n1, gd, k⟩ := h
    refine ⟨_, pss_cons (ps_set (i := 1) scBot.nd rfl (.inl rfl) pe_int) (pss_cons (ps_for PassesOwn.never rfl (pi_list (pv 0)) (pg_name (i := 2) scBot.nd rfl (.inl rfl))
      (pss_one (ps_set (i := 1) scBot.nd rfl (.inl rfl) (pe_callBfun cr_lcm (by rfl) ml (pa_cons (pv 1) (pa_cons (pe_ix ix_tup (pv 2) pe_int (fun _ _ => rfl)) pa_nil))))))
      (pss_one (ps_ret (pv 1)))), ?_⟩
    have lx : xs.length = rs.length := Paired.length pr
    refine ⟨_, rfl, a, rfl, ⟨_, SqL.of ea⟩, for_list (xs := xs) (fun i σ H' => H' = H ∧ ∃ v2, σ = [some (.ref a), some (.int (botOf (rs.take i))), v2]) ⟨rfl, none, rfl⟩ (fun i σ H' _ p => by rw [p.1]; exact SqL.of ea) (fun i x σ H' hx p => ?_) (fun σ H' p => ?_)⟩
    · obtain ⟨rfl, v2, rfl⟩ := p
      obtain ⟨r, hr', q, rfl, eq⟩ := paired_at pr hx
      have g := gd r (List.mem_of_getElem? hr')
      have b := bot_pos n0 (fun x hx => gd x (List.mem_of_mem_take hx) : ∀ x ∈ rs.take i, good2 N x)
      have l1 := Nat.le_of_dvd n0 b.2.1
      have l2 := Nat.le_of_dvd n0 g.2.1
      have up : (2 : Nat) ^ 60 < 2 ^ 64 := by decide
      refine ⟨_, rfl, _, rfl, q, _, _, _, rfl, rfl, .inl (.inl eq), atI_nat (j := 1) rfl, _, _, rfl, by omega, by omega, ?_⟩
      refine ⟨rfl, some (.ref q), ?_⟩
      rw [take_snoc hr', bot_snoc]
      rfl
    · obtain ⟨rfl, v2, rfl⟩ := p
      rw [lx, List.take_length]
      exact ⟨_, rfl, k⟩
theorem scScaled : FnScope ["ratio", "bottom"] ["ratio", "bottom"] (defScope sScaled) := ⟨rfl, rfl, rfl, by decide +kernel, rfl, by decide +kernel, by decide +kernel⟩
theorem kn_scaled (D : DefIs K mg "scaled" sScaled) : Kn P w K mg base "scaled" 1 ["ratio", "bottom"] spScaled := by
  refine .of D (fun _ _ _ _ _ _ us hl => match us, hl with | [_, _], _ => rfl) fun _ _ F => ?_
  refine F.ok scScaled (fun vs H Q E h => ?_) (fun cdv A outer s H vs Q E hr h => ?_)
  · obtain ⟨q, r, b, rfl, _⟩ := h
    rfl
  · obtain ⟨q, r, b, rfl, eq, r0, r1, r2, b0, b1, k⟩ := h
    refine ⟨_, pss_one (ps_ret (pe_op op_mulW (pe_ix ix_tup (pv 0) pe_int (fun _ _ => rfl)) (pe_op op_fdivW (pv 1) (pe_ix ix_tup (pv 0) pe_int (fun _ _ => rfl))))), ?_⟩
    have dv : CDivW b r.2 := wide_div (b := 120) r0 r1 (by decide) (by decide)
    have lq : (b / r.2).natAbs < 2 ^ 60 := by
      have q1 : 0 ≤ b / r.2 := Int.ediv_nonneg b0 (by omega)
      have q2 : b / r.2 ≤ b := Int.ediv_le_self _ b0
      omega
    refine ⟨_, rfl, q, _, _, _, rfl, rfl, .inl (.inl eq), atI_nat (j := 0) rfl, _, rfl, _, rfl, q, _, _, _, rfl, rfl, .inl (.inl eq), atI_nat (j := 1) rfl, _, _, rfl, rfl, dv, _, _, rfl, rfl, wide_mul (a := 120) (b := 60) r2 lq (by decide) (by decide) (by decide), k⟩
end
end GG



namespace GG
open PySem PySem.Spec PyProof.Rows L2
/-! ### sorted, of data that are alike -/
def rSortedD (K : PySem.W.Frag) : List V → Hp → VK → Prop := fun vs H Q => ∃ (a : Addr) (bs : List (V × PyData)), vs = [.ref a] ∧ SqL K H a (bs.map (·.1)) ∧ (∀ b ∈ bs, Da H b.1 b.2 ∧ noL b.2 = true) ∧ PySem.W.AllAlike (bs.map (·.2)) ∧ PySem.W.Sortable (bs.map (·.2)) ∧ (∀ b ∈ bs, b.2.depth ≤ 8) ∧
  ∀ p, H p = none → Q (.ref p) (upd H p (.lst ((bs.mergeSort (PySem.W.dataLe false (·.2))).map (·.1))))
theorem each_vals {bs : List (V × PyData)} : ∀ {us : List Value}, Vals (bs.map (·.1)) us → PySem.W.EachIs (fun u (b : V × PyData) => RelV b.1 u) us bs := by
  induction bs with
  | nil =>
    intro us r
    cases r
    exact .nil
  | cons b bs ih =>
    intro us r
    cases r with
    | cons r1 r2 => exact .cons r1 (ih r2)
theorem vals_each {bs : List (V × PyData)} : ∀ {us : List Value}, PySem.W.EachIs (fun u (b : V × PyData) => RelV b.1 u) us bs → Vals (bs.map (·.1)) us := by
  induction bs with
  | nil =>
    intro us r
    cases r
    exact .nil
  | cons b bs ih =>
    intro us r
    cases r with
    | cons r1 r2 => exact .cons r1 (ih r2)
theorem each_reads {X : Cx} {pins : List (Addr × Obj)} {σ : L2.St} {H : Hp} {s : Shared} (I : Inv X pins σ H s) {bs : List (V × PyData)} : ∀ {us : List Value}, Vals (bs.map (·.1)) us → (∀ b ∈ bs, Da H b.1 b.2 ∧ noL b.2 = true) → PySem.W.EachIs (fun u (b : V × PyData) => ∃ as, Reads s.heap u b.2 as) us bs := by
  induction bs with
  | nil =>
    intro us r _
    cases r
    exact .nil
  | cons b bs ih =>
    intro us r h
    cases r with
    | cons r1 r2 =>
      obtain ⟨as, q, _⟩ := (h b List.mem_cons_self).1.dt (h b List.mem_cons_self).2 pins σ s _ I r1
      exact .cons ⟨as, q⟩ (ih r2 fun x hx => h x (List.mem_cons_of_mem _ hx))
theorem cr_sortedD {X : Cx} (hu : X.A.units + 12 < cLine) : CallR X (.builtin "sorted") (rSortedD X.K) := by
  intro pins s σ H vs us Q I r h
  obtain ⟨a, bs, rfl, hs, hd, hal, hk, dp, q⟩ := h
  obtain ⟨its, rv, hl, hz⟩ := I.list hs
  obtain ⟨u, rfl, ru⟩ := vals1 r
  obtain rfl : u = Value.ref a := ru
  have hz' : bs.length ≤ sizeLine := by rw [← List.length_map (f := fun b : V × PyData => b.1)]; exact hz
  refine PySem.W.sorted_data (enc := (·.2)) hl.isList (each_vals rv) (each_reads I rv hd) hal hk hz' (fun b hb => by have := dp b hb; omega) fun out ho eo => ?_
  obtain ⟨c, hc⟩ := PyProof.Rows.sortedAll_at s.heap its out.toArray
  have free : H (s.heap.objs.size + 1) = none := I.hok.fresh (Nat.le_succ _)
  refine ⟨.ref (s.heap.objs.size + 1), _, I.laid (t' := s.toks) (a := s.heap.objs.size + 1) (o := .lst ((bs.mergeSort (PySem.W.dataLe false (·.2))).map (·.1))) (fun _ _ => PyProof.Rows.sortedAll_old) (Nat.le_succ _) ⟨?_, out, c, vals_each eo, hc⟩, rfl, q _ free⟩
  rw [List.length_map, List.length_mergeSort]
  exact hz'
end GG



namespace GG
open PySem PySem.Spec PyProof.Rows L2
abbrev sAsc : Stmt := topS 24
def atK (k : Nat) (K : RK) : Int × Int := K.getD k (0, 1)
def botsK (n : Nat) (Ks : List RK) : List Int := (List.range n).map fun k => botOf (Ks.map (atK k))
def scK (Bs : List Int) (K : RK) : List Int := (List.range K.length).map fun k => (atK k K).1 * (Bs.getD k 1 / (atK k K).2)
def dR (r : Int × Int) : PyData := .tuple [.int r.1, .int r.2]
def kD (Bs : List Int) (K : RK) : PyData := .tuple [.tuple ((scK Bs K).map .int), .tuple (K.map dR)]
def ascK (n : Nat) (Ks : List RK) : List RK := Ks.mergeSort (PySem.W.dataLe false (kD (botsK n Ks)))
def spAsc : Sp := fun vs H Q _ => ∃ (a : Addr) (xs : List V) (Ks : List RK) (n N : Nat), vs = [.ref a] ∧ H a = some (.lst xs) ∧ Paired (RowV H) xs Ks ∧ Ks.length ≤ 60 ∧ 1 ≤ n ∧ n ≤ 3 ∧ (∀ K ∈ Ks, K.length = n) ∧ 0 < N ∧ N < 2 ^ 60 ∧ (∀ K ∈ Ks, ∀ r ∈ K, good2 N r) ∧
  ∀ p ys H', H' p = some (.lst ys) → Paired (RowV H') ys (ascK n Ks) → Same H H' → Q (.ref p) H'
theorem RowV.item {H : Hp} {v : V} {K : RK} (h : RowV H v K) : ∃ b xs, v = .ref b ∧ H b = some (.tup xs) ∧ xs.length = K.length ∧ ∀ (i : Nat) (r : Int × Int), K[i]? = some r → ∃ q, xs[i]? = some (.ref q) ∧ H q = some (.tup [.int r.1, .int r.2]) := by
  obtain ⟨b, rfl, n⟩ := h
  obtain ⟨xs, e, l, a⟩ := n.row
  exact ⟨b, xs, rfl, e, l, a⟩
theorem RowV.da {H : Hp} {v : V} {K : RK} (h : RowV H v K) : Da H v (.tuple (K.map dR)) := by
  obtain ⟨b, rfl, n⟩ := h
  have key : ∀ {K : RK} {xs : List V}, NKs H xs (K.map rN) → DaAll H xs (K.map dR) := by
    intro K
    induction K with
    | nil =>
      intro xs t
      cases t
      exact .nil
    | cons r K ih =>
      intro xs t
      cases t with
      | cons h1 t1 =>
        refine .cons ?_ (ih t1)
        cases h1 with
        | tup e2 t2 =>
          cases t2 with
          | cons a1 t3 =>
            cases t3 with
            | cons a2 t4 =>
              cases t4
              cases a1
              cases a2
              exact .tup e2 (.cons (.int _) (.cons (.int _) .nil))
  cases n with
  | tup e t => exact .tup e (key t)
theorem atK_some {K : RK} {k : Nat} (h : k < K.length) : K[k]? = some (atK k K) := by
  unfold atK
  rw [List.getD_eq_getElem?_getD, List.getElem?_eq_getElem h]
  rfl
theorem alike_dR : ∀ K L : RK, K.length = L.length → PySem.W.alikeAll (K.map dR) (L.map dR) = true
  | [], [], _ => by simp [PySem.W.alikeAll]
  | [], _ :: _, h => by cases h
  | _ :: _, [], h => by cases h
  | a :: K, b :: L, h => by
    rw [List.map_cons, List.map_cons, PySem.W.alikeAll, alike_dR K L (by simpa using h)]
    simp [dR, PySem.W.alike, PySem.W.alikeAll]
theorem alike_kD (Bs : List Int) {K L : RK} (h : K.length = L.length) : PySem.W.alike (kD Bs K) (kD Bs L) = true := by
  have h1 := PySem.W.alike_ints (scK Bs K) (scK Bs L)
  have h2 := alike_dR K L h
  simp [kD, PySem.W.alike, PySem.W.alikeAll, h1, h2]
theorem depth_dR (K : RK) : PyData.depthAll (K.map dR) ≤ 1 := by
  induction K with
  | nil => simp [PyData.depthAll]
  | cons r K ih =>
    rw [List.map_cons]
    simp only [PyData.depthAll, dR, PyData.depth]
    omega
theorem noL_ints (xs : List Int) : noLs (xs.map .int) = true := by
  induction xs with
  | nil => simp [noLs]
  | cons x xs ih => simp [noLs, noL]; exact ih
theorem noL_dRs (K : RK) : noLs (K.map dR) = true := by
  induction K with
  | nil => simp [noLs]
  | cons x xs ih => simp [noLs, noL, dR]; exact ih
theorem noL_kD (Bs : List Int) (K : RK) : noL (kD Bs K) = true := by
  simp [kD, noL, noLs, noL_ints, noL_dRs]
theorem depth_kD (Bs : List Int) (K : RK) : (kD Bs K).depth ≤ 8 := by
  have h1 := PySem.W.depth_ints (scK Bs K)
  have h2 := depth_dR K
  simp only [kD, PyData.depth, PyData.depthAll, h1]
  omega
section
variable {P : Program} {w : World} {K : PySem.W.Frag} {mg : Str → Option Value} {base : Heap}
abbrev N6 : List Str := ["rows", "bottoms", "keyed", "k", "row", "_"]
theorem scAsc : FnScope N6 ["rows"] (defScope sAsc) := ⟨rfl, rfl, rfl, by decide +kernel, rfl, by decide +kernel, by decide +kernel⟩
theorem bSorted : bootBuiltins "sorted" = some (.builtin "sorted") := by decide +kernel
/-- a row beside its scaled numbers -/
def KeyV (H : Hp) (Bs : List Int) (v : V) (K : RK) : Prop := ∃ t u b, v = .ref t ∧ H t = some (.tup [.ref u, .ref b]) ∧ H u = some (.tup ((scK Bs K).map V.int)) ∧ RowV H (.ref b) K
theorem KeyV.same {H H' : Hp} {Bs : List Int} (k : Same H H') {v : V} {K : RK} (h : KeyV H Bs v K) : KeyV H' Bs v K := by
  obtain ⟨t, u, b, rfl, e1, e2, r⟩ := h
  exact ⟨t, u, b, rfl, k _ _ e1, k _ _ e2, r.same k⟩
theorem KeyV.da {H : Hp} {Bs : List Int} {v : V} {K : RK} (h : KeyV H Bs v K) : Da H v (kD Bs K) := by
  obtain ⟨t, u, b, rfl, e1, e2, r⟩ := h
  have intz : ∀ ns : List Int, DaAll H (ns.map V.int) (ns.map PyData.int) := fun ns => by
    induction ns with
    | nil => exact .nil
    | cons n ns ih => exact .cons (.int n) ih
  exact .tup e1 (.cons (.tup e2 (intz _)) (.cons r.da .nil))
theorem RowV.put {H : Hp} {D : Addr} {ys : List V} {o : HO} (eD : H D = some (.lst ys)) {v : V} {K : RK} (h : RowV H v K) : RowV (upd H D o) v K := by
  obtain ⟨b, rfl, n⟩ := h
  exact ⟨b, rfl, n.ext (fun xs z => by rw [eD] at z; cases z)⟩
theorem KeyV.put {H : Hp} {Bs : List Int} {D : Addr} {ys : List V} {o : HO} (eD : H D = some (.lst ys)) {v : V} {K : RK} (h : KeyV H Bs v K) : KeyV (upd H D o) Bs v K := by
  obtain ⟨t, u, b, rfl, e1, e2, r⟩ := h
  exact ⟨t, u, b, rfl, by rw [upd_ne (ne_of e1 eD (by intro z; cases z))]; exact e1, by rw [upd_ne (ne_of e2 eD (by intro z; cases z))]; exact e2, r.put eD⟩
def rTupOf (K : PySem.W.Frag) : List V → Hp → VK → Prop := fun xs H Q => ∃ p ys, xs = [.ref p] ∧ ((SqL K H p ys ∧ ∀ l, H l = none → Q (.ref l) (upd H l (.tup ys))) ∨ (SqT K H p ys ∧ Q (.ref p) H))
theorem kn_asc (D : DefIs K mg "ascending" sAsc) (T : RTxt K mg) (zr : mg "range" = none) (zs : mg "sorted" = none) (B : Kn P w K mg base "common_bottom" 1 ["ratios"] spBot) (BS : Kn P w K mg base "scaled" 1 ["ratio", "bottom"] spScaled) : Kn P w K mg base "ascending" 2 ["rows"] spAsc := by
  refine .of D (fun _ _ _ _ _ _ us hl => match us, hl with | [_], _ => rfl) fun fa _ F => ?_
  refine F.ok scAsc (fun vs H Q E h => ?_) (fun cdv A outer s H vs Q E hr h => ?_)
  · obtain ⟨a, xs, Ks, n, N, rfl, _⟩ := h
    rfl
  · obtain ⟨a, xs, Ks, n, N, rfl, ea, pr, l60, n1, n3, ln, N0, N1, gd, k⟩ := h
    have hu12 : (A.deeper (envOfC "ascending" (defScope sAsc) s.heap.objs.size fa cdv)).units + 12 < cLine := by have := hr.un; omega
    refine ⟨_, pss_cons (ps_if (pt_not (pt_truth (pv 0) (by intro _; rfl))) (pss_one (ps_ret (pe_lst pa_nil))) pss_nil)
      (pss_cons (ps_set (i := 1) scAsc.nd rfl (.inr rfl) (pe_lc (own := [("k", 3)]) (g := gName 3) (tt := tYes) rfl scAsc.nd (pi_range1 rfl zr (pa_cons (pe_callB call_len_seq (by rfl) T.len PySem.boot_len (pa_cons (pe_ix ix_list (pv 0) pe_int (fun _ _ => rfl)) pa_nil)) pa_nil)) (blkOk_by (N := N6) (sc := defScope sAsc) (by decide +kernel))
          (fun _ _ _ _ _ => pg_name (i := 3) scAsc.nd rfl (.inr rfl)) (fun _ _ _ _ _ => pts_nil)
          (fun _ _ _ _ _ => pe_kn B hr (pa_cons (pe_lc (own := [("row", 4)]) (wi := iList K (tVar 0)) (g := gName 4) (tt := tYes) (te := tOp (rIxT K) (tVar 4) (tVar 3)) rfl scAsc.nd (pi_list (pv 0)) (blkOk_by (N := N6) (by kernel_rfl))
            (fun _ _ _ _ _ => pg_name (i := 4) scAsc.nd rfl (.inl rfl)) (fun _ _ _ _ _ => pts_nil) (fun _ _ _ _ _ => pe_ix ix_tup (pv 4) (pv 3) (fun _ _ => rfl))) pa_nil))))
      (pss_cons (ps_setLc (i := 2) (own := [("row", 4)]) (g := gName 4) (tt := tYes) rfl scAsc.nd rfl rfl (sw_true rfl rfl rfl (by decide +kernel)) (pi_list (pv 0)) (blkOk_by (N := N6) (sc := defScope sAsc) (by decide +kernel))
          (fun _ _ _ _ _ => pg_name (i := 4) scAsc.nd rfl (.inr rfl)) (fun _ _ _ _ _ => pts_nil)
          (fun _ _ _ _ _ => pe_tup (pa_cons (pe_callTy (show CallR _ _ (rTupOf K) from call_tuple_of) (by rfl) T.tuple bTuple (pa_cons
            (pe_lc (own := [("k", 3)]) (wi := iRng1 (tCons (tCB (Evl.rLenS K) (tCons (tVar 4) tNil)) tNil)) (g := gName 3) (tt := tYes) (te := tCall spScaled [] (fun _ _ _ => False) (tCons (tOp (rIxT K) (tVar 4) (tVar 3)) (tCons (tOp (rIxL K) (tVar 1) (tVar 3)) tNil))) rfl scAsc.nd (pi_range1 rfl zr (pa_cons (pe_callB (show CallR _ _ (Evl.rLenS K) from call_len_seq) (by rfl) T.len PySem.boot_len (pa_cons (pv 4) pa_nil)) pa_nil)) (blkOk_by (N := N6) (by kernel_rfl))
              (fun _ _ _ _ _ => pg_name (i := 3) scAsc.nd rfl (.inl rfl)) (fun _ _ _ _ _ => pts_nil)
              (fun _ _ _ _ _ => pe_kn BS hr (pa_cons (pe_ix ix_tup (pv 4) (pv 3) (fun _ _ => rfl)) (pa_cons (pe_ix ix_list (pv 1) (pv 3) (fun _ _ => rfl)) pa_nil)))) pa_nil)) (pa_cons (pv 4) pa_nil))))
      (pss_one (ps_ret (pe_lc (own := [("_", 5), ("row", 4)]) (g := gTup K 2 (gCons (gName 5) (gCons (gName 4) gNil))) (tt := tYes) rfl scAsc.nd (pi_list (pe_callB (cr_sortedD hu12) (by rfl) zs bSorted (pa_cons (pv 2) pa_nil))) (blkOk_by (N := N6) (sc := defScope sAsc) (by decide +kernel))
          (fun _ _ _ _ _ => pg_tup rfl (pgs_cons (pg_name (i := 5) scAsc.nd rfl (.inl rfl)) (pgs_cons (pg_name (i := 4) scAsc.nd rfl (.inl rfl)) pgs_nil))) (fun _ _ _ _ _ => pts_nil) (fun _ _ _ _ _ => pv 4)))))), ?_⟩
    have lx : xs.length = Ks.length := Paired.length pr
    refine ⟨_, rfl, _, .inl ⟨_, SqL.of ea, rfl⟩, ?_⟩
    cases hk : Ks with
    | nil =>
      have ex : xs = [] := List.eq_nil_of_length_eq_zero (by rw [lx, hk]; rfl)
      subst ex hk
      refine iteT ?_
      refine ⟨(by show 0 ≤ sizeLine; exact Nat.zero_le _), fun L nL => ?_⟩
      refine k L [] _ upd_same ?_ (GG.Same.new (L2.Same.refl H) nL)
      have e : ascK n [] = [] := by unfold ascK; rw [List.mergeSort_nil]
      rw [e]
      exact .nil
    | cons K0 Kr =>
      obtain ⟨x0, xr, ex⟩ : ∃ x0 xr, xs = x0 :: xr := by
        cases xs with
        | nil => rw [hk] at lx; cases lx
        | cons x0 xr => exact ⟨_, _, rfl⟩
      have h0 : xs[0]? = some x0 := by rw [ex]; rfl
      have hK0 : K0.length = n := ln K0 (by rw [hk]; exact List.mem_cons_self)
      have pr0 : RowV H x0 K0 := by
        obtain ⟨b, hb, q⟩ := paired_at pr h0
        rw [hk] at hb
        cases hb
        exact q
      have ne : (!xs.isEmpty) = true := by rw [ex]; rfl
      rw [ne]
      refine iteF ?_
      obtain ⟨b0, ys0, rfl, e0, l0, _⟩ := pr0.item
      refine ⟨_, rfl, a, _, _, .ref b0, rfl, rfl, SqL.of ea, atI_nat (j := 0) h0, b0, ys0, rfl, .inr (.inl (.inl e0)), (ys0.length : Int), rfl, by omega, by omega, fun D nD => ?_⟩
      rw [Int.toNat_natCast, l0, hK0]
      refine lc_range (lo := 0) (n := n) (fun j H' => Same H H' ∧ H' D = some (.lst ((List.range j).map fun k => V.int (botOf (Ks.map (atK k)))))) ⟨GG.Same.new (L2.Same.refl H) nD, upd_same⟩ (fun j H1 hj p => ?_) (fun H1 p => ?_)
      · obtain ⟨S1, eD⟩ := p
        refine ⟨rfl, ?_⟩
        refine ⟨_, rfl, a, rfl, ⟨_, SqL.of (S1 _ _ ea)⟩, fun D2 nD2 => ?_⟩
        refine lc_list (xs := xs) (fun i H' => Same H1 H' ∧ ∃ ys, H' D2 = some (.lst ys) ∧ Paired (RatV H') ys ((Ks.take i).map (atK j))) ⟨GG.Same.new (L2.Same.refl H1) nD2, [], upd_same, .nil⟩ (fun i H' _ p => SqL.of (p.1 _ _ (S1 _ _ ea))) (fun i x H' hx p => ?_) (fun H' p => ?_)
        · obtain ⟨S2, ys, eD2, pq⟩ := p
          obtain ⟨Ki, hKi, rv⟩ := paired_at pr hx
          obtain ⟨b, zs', rfl, eb, lb, all⟩ := rv.item
          have lKi := ln Ki (List.mem_of_getElem? hKi)
          obtain ⟨q, hq, eq⟩ := all j _ (atK_some (k := j) (by omega))
          have S12 := L2.Same.trans S1 S2
          refine ⟨rfl, ?_⟩
          refine ⟨_, rfl, _, rfl, b, _, _, .ref q, rfl, rfl, .inl (.inl (S12 _ _ eb)), ?_, ?_⟩
          · rw [Int.zero_add]
            exact atI_nat hq
          · have ly : ys.length = i := by
              have z := Paired.length pq
              rw [List.length_map, List.length_take] at z
              have := (List.getElem?_eq_some_iff.mp hKi).1
              omega
            refine ⟨ys, eD2, by rw [ly, sizeLine_eq]; have := (List.getElem?_eq_some_iff.mp hx).1; omega, ?_, ys ++ [.ref q], upd_same, ?_⟩
            · intro c o ec
              rw [upd_ne (ne_of_none ec nD2)]
              exact S2 c o ec
            · rw [take_snoc hKi, List.map_append, List.map_cons, List.map_nil]
              have up : ∀ {v r}, RatV H' v r → RatV (upd H' D2 (.lst (ys ++ [.ref q]))) v r := fun {v r} h => by
                obtain ⟨q', rfl, e'⟩ := h
                exact ⟨q', rfl, by rw [upd_ne (ne_of e' eD2 (by intro z; cases z))]; exact e'⟩
              exact Paired.snoc (Paired.mapP pq fun _ _ h => up h) (up ⟨q, rfl, S12 _ _ eq⟩)
        · obtain ⟨S2, ys, eD2, pq⟩ := p
          rw [lx, List.take_length] at pq
          refine ⟨D2, ys, _, N, rfl, eD2, pq, N0, N1, ?_, ?_⟩
          · intro r hr'
            obtain ⟨Ki, hKi, rfl⟩ := List.mem_map.mp hr'
            have lKi := ln Ki hKi
            exact gd Ki hKi _ (List.mem_of_getElem? (atK_some (k := j) (by omega)))
          · refine ⟨_, S2 _ _ eD, by rw [List.length_map, List.length_range, sizeLine_eq]; omega, ?_, ?_⟩
            · intro c o ec
              rw [upd_ne (ne_of_none ec nD)]
              exact S2 c o (S1 c o ec)
            · rw [upd_same, List.range_succ, List.map_append]
              rfl
      · -- keyed
        obtain ⟨S1, eD⟩ := p
        have eB : ((List.range n).map fun k => V.int (botOf (Ks.map (atK k)))) = (botsK n Ks).map V.int := by
          unfold botsK
          rw [List.map_map]
          rfl
        rw [eB] at eD
        have lB : (botsK n Ks).length = n := by unfold botsK; rw [List.length_map, List.length_range]
        have hB : ∀ j, j < n → (botsK n Ks)[j]? = some (botOf (Ks.map (atK j))) ∧ (botsK n Ks).getD j 1 = botOf (Ks.map (atK j)) := fun j hj => by
          have e : (botsK n Ks)[j]? = some (botOf (Ks.map (atK j))) := by
            unfold botsK
            rw [List.getElem?_map, List.getElem?_range hj]
            rfl
          exact ⟨e, by rw [List.getD_eq_getElem?_getD, e]; rfl⟩
        have gB : ∀ j, j < n → 0 < botOf (Ks.map (atK j)) ∧ (botOf (Ks.map (atK j))).natAbs < 2 ^ 60 := fun j hj => by
          have z := bot_pos N0 (rs := Ks.map (atK j)) (fun r hr' => by
            obtain ⟨Ki, hKi, rfl⟩ := List.mem_map.mp hr'
            have lKi := ln Ki hKi
            exact gd Ki hKi _ (List.mem_of_getElem? (atK_some (k := j) (by omega))))
          have := Nat.le_of_dvd N0 z.2.1
          exact ⟨z.1, by omega⟩
        refine ⟨_, rfl, a, rfl, ⟨_, SqL.of (S1 _ _ ea)⟩, fun D3 nD3 => ?_⟩
        refine lc_list (xs := xs) (fun i H' => Same H1 H' ∧ ∃ ts, H' D3 = some (.lst ts) ∧ Paired (KeyV H' (botsK n Ks)) ts (Ks.take i)) ⟨GG.Same.new (L2.Same.refl H1) nD3, [], upd_same, .nil⟩ (fun i H' _ p => SqL.of (p.1 _ _ (S1 _ _ ea))) (fun i x H' hx p => ?_) (fun H' p => ?_)
        · obtain ⟨S2, ts, eD3, pq⟩ := p
          obtain ⟨Ki, hKi, rv⟩ := paired_at pr hx
          have S12 := L2.Same.trans S1 S2
          have rv' := rv.same S12
          have lKi := ln Ki (List.mem_of_getElem? hKi)
          obtain ⟨b, zs', rfl, eb, lb, all⟩ := rv'.item
          refine ⟨rfl, ?_⟩
          refine ⟨_, rfl, b, zs', rfl, .inr (.inl (.inl eb)), (zs'.length : Int), rfl, by omega, by omega, fun D4 nD4 => ?_⟩
          rw [Int.toNat_natCast, lb, lKi]
          refine lc_range (lo := 0) (n := n) (fun j H'' => Same H' H'' ∧ H'' D4 = some (.lst ((List.range j).map fun k => V.int ((atK k Ki).1 * ((botsK n Ks).getD k 1 / (atK k Ki).2))))) ⟨GG.Same.new (L2.Same.refl H') nD4, upd_same⟩ (fun j H'' hj p => ?_) (fun H'' p => ?_)
          · obtain ⟨S3, eD4⟩ := p
            have hr' := atK_some (K := Ki) (k := j) (by omega)
            obtain ⟨q, hq, eq⟩ := all j _ hr'
            have g := gd Ki (List.mem_of_getElem? hKi) _ (List.mem_of_getElem? hr')
            have l2 := Nat.le_of_dvd N0 g.2.1
            obtain ⟨hB1, hB2⟩ := hB j hj
            obtain ⟨gB1, gB2⟩ := gB j hj
            refine ⟨rfl, ?_⟩
            refine ⟨_, rfl, _, rfl, b, _, _, .ref q, rfl, rfl, .inl (.inl (S3 _ _ eb)), (by rw [Int.zero_add]; exact atI_nat hq), _, rfl, _, rfl, D, _, _, .int (botOf (Ks.map (atK j))), rfl, rfl, SqL.of (S3 _ _ (S2 _ _ eD)), ?_, ?_⟩
            · rw [Int.zero_add]
              exact atI_nat (by rw [List.getElem?_map, hB1]; rfl)
            · have up : (2 : Nat) ^ 60 < 2 ^ 120 := by decide
              refine ⟨q, atK j Ki, _, rfl, S3 _ _ eq, g.1, by omega, g.2.2, by omega, gB2, _, eD4, by rw [List.length_map, List.length_range, sizeLine_eq]; omega, ?_, ?_⟩
              · intro c o ec
                rw [upd_ne (ne_of_none ec nD4)]
                exact S3 c o ec
              · rw [upd_same, List.range_succ, List.map_append, List.map_cons, List.map_nil, hB2]
          · obtain ⟨S3, eD4⟩ := p
            have esc : ((List.range n).map fun k => V.int ((atK k Ki).1 * ((botsK n Ks).getD k 1 / (atK k Ki).2))) = (scK (botsK n Ks) Ki).map V.int := by
              unfold scK
              rw [List.map_map, lKi]
              rfl
            rw [esc] at eD4
            refine ⟨D4, _, rfl, .inl ⟨SqL.of eD4, fun u nu => ?_⟩⟩
            have S4 := GG.Same.new (L2.Same.refl H'') nu (o := .tup ((scK (botsK n Ks) Ki).map V.int))
            have eu : (upd H'' u (.tup ((scK (botsK n Ks) Ki).map V.int))) u = some (.tup ((scK (botsK n Ks) Ki).map V.int)) := upd_same
            generalize (upd H'' u (.tup ((scK (botsK n Ks) Ki).map V.int))) = H5 at S4 eu ⊢
            refine ⟨_, rfl, (by show 2 ≤ sizeLine; rw [sizeLine_eq]; decide), fun t nt => ?_⟩
            have S5 := GG.Same.new (L2.Same.refl H5) nt (o := .tup [.ref u, .ref b])
            have et : (upd H5 t (.tup [.ref u, .ref b])) t = some (.tup [.ref u, .ref b]) := upd_same
            generalize (upd H5 t (.tup [.ref u, .ref b])) = H6 at S5 et ⊢
            have S36 := L2.Same.trans S3 (L2.Same.trans S4 S5)
            have eD3' := S36 _ _ eD3
            have lt' : ts.length = i := by
              have z := Paired.length pq
              rw [List.length_take] at z
              have := (List.getElem?_eq_some_iff.mp hKi).1
              omega
            refine ⟨ts, eD3', by rw [lt', sizeLine_eq]; have := (List.getElem?_eq_some_iff.mp hx).1; omega, ?_, ts ++ [.ref t], upd_same, ?_⟩
            · intro c o ec
              rw [upd_ne (ne_of_none ec nD3)]
              exact S36 c o (S2 c o ec)
            · rw [take_snoc hKi]
              exact Paired.snoc (Paired.mapP pq fun _ _ h => (h.same S36).put eD3') (KeyV.put eD3' ⟨t, u, b, rfl, et, S5 _ _ eu, rv'.same S36⟩)
        · obtain ⟨S2, ts, eD3, pq⟩ := p
          rw [lx, List.take_length] at pq
          -- sorted
          have lt' : ts.length = Ks.length := Paired.length pq
          have m1 : ((ts.zip Ks).map fun z => (z.1, kD (botsK n Ks) z.2)).map (·.1) = ts := by
            rw [List.map_map]
            exact List.map_fst_zip (by omega)
          have m2 : (ts.zip Ks).map (·.2) = Ks := List.map_snd_zip (by omega)
          have zall : ∀ z ∈ ts.zip Ks, KeyV H' (botsK n Ks) z.1 z.2 ∧ z.2 ∈ Ks := by
            have key : ∀ (Bs : List Int) {ts : List V} {Ks : List RK}, Paired (KeyV H' Bs) ts Ks → ∀ z ∈ ts.zip Ks, KeyV H' Bs z.1 z.2 ∧ z.2 ∈ Ks := fun Bs {ts Ks} h => by
              induction h with
              | nil => intro z hz; cases hz
              | @cons p q ps qs h1 t ih =>
                intro z hz
                rw [List.zip_cons_cons] at hz
                rcases List.mem_cons.mp hz with rfl | m
                · exact ⟨h1, List.mem_cons_self⟩
                · exact ⟨(ih z m).1, List.mem_cons_of_mem _ (ih z m).2⟩
            exact key _ pq
          have so1 : ((ts.zip Ks).map fun z => (z.1, kD (botsK n Ks) z.2)).mergeSort (PySem.W.dataLe false (·.2)) = ((ts.zip Ks).mergeSort (PySem.W.dataLe false fun z => kD (botsK n Ks) z.2)).map fun z => (z.1, kD (botsK n Ks) z.2) :=
            (List.map_mergeSort (r := PySem.W.dataLe false fun z : V × RK => kD (botsK n Ks) z.2) (s := PySem.W.dataLe false (fun b : V × PyData => b.2)) (f := fun z => (z.1, kD (botsK n Ks) z.2)) (l := ts.zip Ks) fun _ _ _ _ => rfl).symm
          have so2 : ascK n Ks = ((ts.zip Ks).mergeSort (PySem.W.dataLe false fun z => kD (botsK n Ks) z.2)).map (·.2) := by
            have q := List.map_mergeSort (r := PySem.W.dataLe false fun z : V × RK => kD (botsK n Ks) z.2) (s := PySem.W.dataLe false (kD (botsK n Ks))) (f := fun z : V × RK => z.2) (l := ts.zip Ks) (fun _ _ _ _ => rfl)
            rw [m2] at q
            exact q.symm
          refine ⟨_, rfl, D3, (ts.zip Ks).map fun z => (z.1, kD (botsK n Ks) z.2), rfl, by rw [m1]; exact SqL.of eD3, ?_, ?_, ?_, ?_, fun p np => ?_⟩
          · intro b hb
            obtain ⟨z, hz, rfl⟩ := List.mem_map.mp hb
            exact ⟨(zall z hz).1.da, noL_kD _ _⟩
          · intro d hd d' hd'
            obtain ⟨b, hb, rfl⟩ := List.mem_map.mp hd
            obtain ⟨z, hz, rfl⟩ := List.mem_map.mp hb
            obtain ⟨b', hb', rfl⟩ := List.mem_map.mp hd'
            obtain ⟨z', hz', rfl⟩ := List.mem_map.mp hb'
            exact alike_kD _ (by rw [ln _ (zall z hz).2, ln _ (zall z' hz').2])
          · refine .inl fun d hd => ?_
            obtain ⟨b, hb, rfl⟩ := List.mem_map.mp hd
            obtain ⟨z, hz, rfl⟩ := List.mem_map.mp hb
            exact ⟨_, _, rfl⟩
          · intro b hb
            obtain ⟨z, hz, rfl⟩ := List.mem_map.mp hb
            exact depth_kD _ _
          · rw [so1, List.map_map]
            have zall2 : ∀ z ∈ (ts.zip Ks).mergeSort (PySem.W.dataLe false fun z => kD (botsK n Ks) z.2), KeyV H' (botsK n Ks) z.1 z.2 := fun z hz => (zall z (List.mem_mergeSort.mp hz)).1
            have lz : ((ts.zip Ks).mergeSort (PySem.W.dataLe false fun z => kD (botsK n Ks) z.2)).length ≤ 60 := by
              rw [List.length_mergeSort, List.length_zip]
              omega
            generalize (ts.zip Ks).mergeSort (PySem.W.dataLe false fun z => kD (botsK n Ks) z.2) = zz at so2 zall2 lz ⊢
            rw [so2] at k
            have S6 := GG.Same.new (L2.Same.refl H') np (o := .lst (zz.map ((fun x : V × PyData => x.1) ∘ fun z => (z.1, kD (botsK n Ks) z.2))))
            have ep : (upd H' p (.lst (zz.map ((fun x : V × PyData => x.1) ∘ fun z => (z.1, kD (botsK n Ks) z.2))))) p = some (.lst (zz.map (·.1))) := upd_same
            generalize (upd H' p (.lst (zz.map ((fun x : V × PyData => x.1) ∘ fun z => (z.1, kD (botsK n Ks) z.2))))) = H7 at S6 ep ⊢
            refine ⟨p, rfl, ⟨_, SqL.of ep⟩, fun D5 nD5 => ?_⟩
            refine lc_list (xs := zz.map (·.1)) (fun i G => Same H7 G ∧ ∃ ys, G D5 = some (.lst ys) ∧ Paired (RowV G) ys ((zz.take i).map (·.2))) ⟨GG.Same.new (L2.Same.refl H7) nD5, [], upd_same, .nil⟩ (fun i G _ p => SqL.of (p.1 _ _ ep)) (fun i x G hx q => ?_) (fun G q => ?_)
            · obtain ⟨S8, ys, eD5, pq5⟩ := q
              obtain ⟨z, hz, rfl⟩ : ∃ z, zz[i]? = some z ∧ z.1 = x := by
                rw [List.getElem?_map] at hx
                obtain ⟨z, hz, e⟩ := Option.map_eq_some_iff.mp hx
                exact ⟨z, hz, e⟩
              obtain ⟨t, u, b, ez, et, eu, rb⟩ := (zall2 z (List.mem_of_getElem? hz)).same (L2.Same.trans S6 S8)
              refine ⟨t, _, ez, .inl (.inl et), rfl, _, _, rfl, _, _, rfl, rfl, rfl, ?_⟩
              have ly : ys.length = i := by
                have q := Paired.length pq5
                rw [List.length_map, List.length_take] at q
                have := (List.getElem?_eq_some_iff.mp hz).1
                omega
              refine ⟨_, rfl, ys, eD5, by rw [ly, sizeLine_eq]; have := (List.getElem?_eq_some_iff.mp hz).1; omega, ?_, ys ++ [.ref b], upd_same, ?_⟩
              · intro c o ec
                rw [upd_ne (ne_of_none ec nD5)]
                exact S8 c o ec
              · rw [take_snoc hz, List.map_append, List.map_cons, List.map_nil]
                exact Paired.snoc (Paired.mapP pq5 fun _ _ h => h.put eD5) (rb.put eD5)
            · obtain ⟨S8, ys, eD5, pq5⟩ := q
              rw [List.length_map, List.take_length] at pq5
              exact k D5 ys G eD5 pq5 (L2.Same.trans S1 (L2.Same.trans S2 (L2.Same.trans S6 S8)))
end
end GG



namespace GG
open PySem PySem.Spec PyProof.Rows L2
/-! ### the plain list -/
def keptK (W : WL) : List RK := (W.filter keepW).map (·.1)
def plainL (n : Nat) (W : WL) : List (Int × RK) := (ascK n (keptK W)).map fun K => ((getW W K).getD 0, K)
def plainD (n : Nat) (W : WL) : PyData := .tuple ((plainL n W).map fun e => .tuple [.int e.1, .tuple (e.2.map dR)])
def spPlainOk : Sp := fun vs H Q _ => ∃ (n N : Nat) (gv : V) (dv : PyData) (rd : List PyData), vs = [.int (n : Int), gv] ∧ Da H gv dv ∧ seqOf dv = some rd ∧ rd.length ≤ 60 ∧ 1 ≤ n ∧ n ≤ 3 ∧ 0 < N ∧ N < 2 ^ 60 ∧
  (∀ d ∈ rd, isBid d (n : Int) = true ∧ smallBid d ∧ ∀ r ∈ (bidOf d).2, good2 N r) ∧ ∀ p H', Da H' (.ref p) (plainD n (wOf rd)) → Same H H' → Q (.ref p) H'
theorem addW_keys (W : WL) (K : RK) (m : Int) : ∀ e ∈ addW W K m, e.1 = K ∨ ∃ x ∈ W, x.1 = e.1 := by
  intro e he
  unfold addW at he
  split at he
  · obtain ⟨x, hx, rfl⟩ := List.mem_map.mp he
    split
    · exact .inr ⟨x, hx, rfl⟩
    · exact .inr ⟨x, hx, rfl⟩
  · rcases List.mem_append.mp he with q | q
    · exact .inr ⟨e, q, rfl⟩
    · rw [List.mem_singleton.mp q]
      exact .inl rfl
theorem wOf_keys {rd : List PyData} {p : RK → Prop} (h : ∀ d ∈ rd, p (bidOf d).2) : ∀ e ∈ wOf rd, p e.1 := by
  have key : ∀ (rd : List PyData) (W : WL), (∀ d ∈ rd, p (bidOf d).2) → (∀ e ∈ W, p e.1) → ∀ e ∈ rd.foldl (fun W d => addW W (bidOf d).2 (bidOf d).1) W, p e.1 := by
    intro rd
    induction rd with
    | nil => intro W _ h2; exact h2
    | cons d rd ih =>
      intro W h1 h2
      refine ih _ (fun x hx => h1 x (List.mem_cons_of_mem _ hx)) fun e he => ?_
      rcases addW_keys _ _ _ e he with q | ⟨x, hx, q⟩
      · rw [q]
        exact h1 d List.mem_cons_self
      · rw [← q]
        exact h2 x hx
  exact key rd [] h fun e he => nomatch he
theorem getW_none {W : WL} {K : RK} (h : (getW W K).isSome = false) : ∀ x ∈ W, x.1 ≠ K := by
  intro x hx e
  have z : W.find? (fun e => decide (e.1 = K)) = none := by
    unfold getW at h
    cases q : W.find? (fun e => decide (e.1 = K)) with
    | none => rfl
    | some v => rw [q] at h; cases h
  have := List.find?_eq_none.mp z x hx
  exact this (decide_eq_true e)
theorem addW_nodup {W : WL} {K : RK} {m : Int} (h : (W.map (·.1)).Nodup) : ((addW W K m).map (·.1)).Nodup := by
  unfold addW
  split
  · have e : (W.map fun e => if e.1 = K then (e.1, (getW W K).getD 0 + m) else e).map (·.1) = W.map (·.1) := by
      rw [List.map_map]
      refine List.map_congr_left fun x _ => ?_
      show (if x.1 = K then (x.1, (getW W K).getD 0 + m) else x).1 = x.1
      split <;> rfl
    rw [e]
    exact h
  · rename_i z
    rw [List.map_append, List.map_cons, List.map_nil]
    refine List.nodup_append.mpr ⟨h, by simp, fun a ha b hb e => ?_⟩
    rw [List.mem_singleton.mp hb] at e
    obtain ⟨x, hx, q⟩ := List.mem_map.mp ha
    exact getW_none (by cases q : (getW W K).isSome with
      | true => exact absurd q z
      | false => rfl) x hx (q.trans e)
theorem wOf_nodup (rd : List PyData) : ((wOf rd).map (·.1)).Nodup := by
  have key : ∀ (rd : List PyData) (W : WL), (W.map (·.1)).Nodup → ((rd.foldl (fun W d => addW W (bidOf d).2 (bidOf d).1) W).map (·.1)).Nodup := by
    intro rd
    induction rd with
    | nil => intro W h; exact h
    | cons d rd ih => intro W h; exact ih _ (addW_nodup h)
  exact key rd [] List.nodup_nil
theorem addW_len (W : WL) (K : RK) (m : Int) : (addW W K m).length ≤ W.length + 1 := by
  unfold addW
  split
  · rw [List.length_map]
    omega
  · rw [List.length_append]
    exact Nat.le_refl _
theorem wOf_len (rd : List PyData) : (wOf rd).length ≤ rd.length := by
  have key : ∀ (rd : List PyData) (W : WL), (rd.foldl (fun W d => addW W (bidOf d).2 (bidOf d).1) W).length ≤ W.length + rd.length := by
    intro rd
    induction rd with
    | nil => intro W; exact Nat.le_refl _
    | cons d rd ih =>
      intro W
      have h1 := ih (addW W (bidOf d).2 (bidOf d).1)
      have h2 := addW_len W (bidOf d).2 (bidOf d).1
      rw [List.foldl_cons, List.length_cons]
      omega
  have := key rd []
  simpa [wOf] using this
theorem getW_mem {W : WL} (h : (W.map (·.1)).Nodup) {x : RK × Int} (hx : x ∈ W) : getW W x.1 = some x.2 := by
  induction W with
  | nil => cases hx
  | cons y W ih =>
    rw [List.map_cons] at h
    obtain ⟨h1, h2⟩ := List.nodup_cons.mp h
    rcases List.mem_cons.mp hx with rfl | m
    · simp [getW, List.find?_cons]
    · have e : ¬ y.1 = x.1 := fun q => h1 (by rw [q]; exact List.mem_map.mpr ⟨x, m, rfl⟩)
      have := ih h2 m
      unfold getW at this ⊢
      rw [List.find?_cons]
      simp only [e, decide_false]
      exact this
/-- the keys kept, where they stand -/
theorem kept_rows {H : Hp} {kvs : List NE} {W : WL} (r : Paired relW kvs W) (keys : ∀ e ∈ kvs, NK H (.ref e.2.1) e.1 ∧ e.1.depth ≤ 8) : Paired (RowV H) (((kvs.zip W).filter fun z => keepW z.2).map fun z => V.ref z.1.2.1) (keptK W) := by
  unfold keptK
  induction r with
  | nil => exact .nil
  | @cons p q ps qs h t ih =>
    have ih' := ih fun e he => keys e (List.mem_cons_of_mem _ he)
    rw [List.zip_cons_cons, List.filter_cons, List.filter_cons]
    dsimp only
    cases z : keepW q with
    | false =>
      simp only [Bool.false_eq_true, if_false]
      exact ih'
    | true =>
      simp only [if_true]
      rw [List.map_cons, List.map_cons]
      refine .cons ⟨_, rfl, ?_⟩ ih'
      have := (keys p List.mem_cons_self).1
      rw [h.1] at this
      exact this
/-- a row of the plain list stands at v -/
def PlV (H : Hp) (W : WL) (v : V) (L : RK) : Prop := ∃ t b, v = .ref t ∧ H t = some (.tup [.int ((getW W L).getD 0), .ref b]) ∧ RowV H (.ref b) L
theorem PlV.same {H H' : Hp} {W : WL} (k : Same H H') {v : V} {L : RK} (h : PlV H W v L) : PlV H' W v L := by
  obtain ⟨t, b, rfl, e, r⟩ := h
  exact ⟨t, b, rfl, k _ _ e, r.same k⟩
theorem PlV.put {H : Hp} {W : WL} {D : Addr} {ys : List V} {o : HO} (eD : H D = some (.lst ys)) {v : V} {L : RK} (h : PlV H W v L) : PlV (upd H D o) W v L := by
  obtain ⟨t, b, rfl, e, r⟩ := h
  exact ⟨t, b, rfl, by rw [upd_ne (ne_of e eD (by intro z; cases z))]; exact e, r.put eD⟩
theorem pl_all {H : Hp} {W : WL} {vs : List V} {Ls : List RK} (h : Paired (PlV H W) vs Ls) : DaAll H vs ((Ls.map fun K => ((getW W K).getD 0, K)).map fun e => .tuple [.int e.1, .tuple (e.2.map dR)]) := by
  induction h with
  | nil => exact .nil
  | cons a _ ih =>
    obtain ⟨t, b, rfl, e, r⟩ := a
    exact .cons (.tup e (.cons (.int _) (.cons r.da .nil))) ih
theorem for_ei {K : PySem.W.Frag} {a : Addr} {xs : List V} {g : TG} {tb : TS} {D : Ends} {σ : L2.St} {H : Hp} (Pv : Nat → L2.St → Hp → Prop) (sq : (∀ i σ' H', Pv i σ' H' → SqL K H' a xs) ∨ (∀ i σ' H', Pv i σ' H' → SqT K H' a xs)) (h0 : Pv 0 σ H)
    (hs : ∀ i x σ H, xs[i]? = some x → Pv i σ H → g x σ H fun σ2 H2 => tb { D with nx := Pv (i + 1), ct := Pv (i + 1), bk := D.nx } σ2 H2) (hd : ∀ σ H, Pv xs.length σ H → D.nx σ H) :
    ((∃ ys, SqL K H a ys) ∧ ∃ W : Nat → Nat → L2.St → Hp → Prop, (∃ m, W 0 m σ H) ∧ ∀ i m σ H, W i m σ H →
      ((Itl K a).stop i H ∧ D.nx σ H) ∨ ((Itl K a).go i H ∧ ∃ N : L2.St → Hp → Prop, (∀ σ' H', N σ' H' → ∃ m', m' < m ∧ W (i + 1) m' σ' H') ∧ ∀ x H', (Itl K a).yld i H x H' → g x σ H' fun σ2 H2 => tb { D with nx := N, ct := N, bk := D.nx } σ2 H2)) ∨
    ((∃ ys, SqT K H a ys) ∧ ∃ W : Nat → Nat → L2.St → Hp → Prop, (∃ m, W 0 m σ H) ∧ ∀ i m σ H, W i m σ H →
      ((Itt K a).stop i H ∧ D.nx σ H) ∨ ((Itt K a).go i H ∧ ∃ N : L2.St → Hp → Prop, (∀ σ' H', N σ' H' → ∃ m', m' < m ∧ W (i + 1) m' σ' H') ∧ ∀ x H', (Itt K a).yld i H x H' → g x σ H' fun σ2 H2 => tb { D with nx := N, ct := N, bk := D.nx } σ2 H2)) := by
  rcases sq with q | q
  · exact .inl ⟨⟨_, q _ _ _ h0⟩, for_list Pv h0 (fun i σ' H' _ p => q i σ' H' p) hs hd⟩
  · exact .inr ⟨⟨_, q _ _ _ h0⟩, for_tup Pv h0 (fun i σ' H' _ p => q i σ' H' p) hs hd⟩
section
variable {P : Program} {w : World} {K : PySem.W.Frag} {mg : Str → Option Value} {base : Heap}
abbrev NP : List Str := ["kinds", "rows", "weights", "row", "numbers", "kept"]
theorem scPlain : FnScope NP ["kinds", "rows"] (defScope sPlain) := ⟨rfl, rfl, rfl, by decide +kernel, rfl, by decide +kernel, by decide +kernel⟩
theorem kn_plain {CR : Addr} (D : DefIs K mg "plain_rows" sPlain) (T : RTxt K mg) (R : BRTxt P w K mg base CR) (B : Kn P w K mg base "is_bid" 6 ["row", "kinds"] spBid) (BT : Kn P w K mg base "told_row" 4 ["row"] spToldR) (BW : Kn P w K mg base "wants_some" 1 ["numbers"] spWants) (BA : Kn P w K mg base "ascending" 2 ["rows"] spAsc) :
    KnX P w K mg base "plain_rows" 7 ["kinds", "rows"] spPlainOk := by
  refine .of D (fun _ _ _ _ _ _ us hl => match us, hl with | [_, _], _ => rfl) fun fa fd F => ?_
  refine F.okX scPlain (fun vs H Q E h => ?_) (fun cdv A outer s H vs Q E hr h => ?_)
  · obtain ⟨n, N, gv, dv, rd, rfl, _⟩ := h
    rfl
  · obtain ⟨n, N, gv, dv, rd, rfl, ag, sg, l60, n1, n3, N0, N1, good, k⟩ := h
    have hr1 : Room 1 _ := hr.mono (by decide)
    have hr2 : Room 2 _ := hr.mono (by decide)
    have hr4 : Room 4 _ := hr.mono (by decide)
    have hu10 : (A.deeper (envOfC "plain_rows" (defScope sPlain) s.heap.objs.size fa cdv)).units + 10 < cLine := by have := hr.un; omega
    refine ⟨_, pss_cons (ps_set (i := 2) scPlain.nd rfl (.inr rfl) pe_nnew)
      (pss_cons (ps_for PassesOwn.leaving rfl (pi_ei (pv 1)) (pg_name (i := 3) scPlain.nd rfl (.inl rfl))
        (pss_cons (ps_if (pt_not (pt_val (pe_kn B hr (pa_cons (pv 3) (pa_cons (pv 0) pa_nil))))) (pss_one (ps_raiseBR rfl R hr2 (takes_of rfl rfl rfl rfl) (pa_cons (pv 3) pa_nil))) pss_nil)
        (pss_cons (ps_set (i := 4) scPlain.nd rfl (.inl rfl) (pe_kn BT hr4 (pa_cons (pe_ix ix_any (pv 3) pe_int (fun _ _ => rfl)) pa_nil)))
        (pss_one (ps_nput hu10 (pv 2) (pv 4) (pe_op op_add (pe_nget2 hu10 (pv 2) (pv 4) pe_int ⟨rfl, rfl, rfl, rfl⟩) (pe_ix ix_any (pv 3) pe_int (fun _ _ => rfl))) rfl)))))
      (pss_cons (ps_lock (ps_setLc (i := 5) (own := [("numbers", 4)]) (g := gName 4) rfl scPlain.nd rfl rfl (sw_true rfl rfl rfl (by decide +kernel)) (pi_keysN (pv 2)) (blkOk_by (N := NP) (sc := defScope sPlain) (by decide +kernel))
        (fun _ _ _ _ _ => pg_name (i := 4) scPlain.nd rfl (.inl rfl)) (fun _ _ _ _ _ => pts_one (PW.pt (pw_and (pt_cmpR op_ne (show PE _ _ (tNSub P w (tVar 2) (tVar 4)) from pe_nsub hu10 (pv 2) (pv 4) (fun _ _ => rfl)) pe_int (nomark _)) (pw_and1 (pt_val (pe_kn BW hr1 (pa_cons (pv 4) pa_nil))))))) (fun _ _ _ _ _ => pv 4)))
      (pss_one (ps_ret (pe_callTy call_tuple_of (by rfl) T.tuple bTuple (pa_cons (pe_lc (own := [("numbers", 4)]) (g := gName 4) (tt := tYes) rfl scPlain.nd (pi_list (pe_kn BA hr2 (pa_cons (pv 5) pa_nil))) (blkOk_by (N := NP) (sc := defScope sPlain) (by decide +kernel))
        (fun _ _ _ _ _ => pg_name (i := 4) scPlain.nd rfl (.inl rfl)) (fun _ _ _ _ _ => pts_nil) (fun _ _ _ _ _ => pe_tup (pa_cons (show PE _ _ (tNSub P w (tVar 2) (tVar 4)) from pe_nsub hu10 (pv 2) (pv 4) (fun _ _ => rfl)) (pa_cons (pv 4) pa_nil)))) pa_nil)))))), ?_⟩
    intro wd nwd N00
    have S0 : Same H (upd H wd (.ext (ndP P w wd []))) := GG.Same.new (L2.Same.refl H) nwd
    obtain ⟨ga, gxs, rfl, gsq, gall, gl⟩ := ag.seq2 (K := K) sg
    have goodW : ∀ i, ∀ e ∈ wOf (rd.take i), e.1.length = n ∧ ∀ r ∈ e.1, good2 N r := fun i => wOf_keys (p := fun L => L.length = n ∧ ∀ r ∈ L, good2 N r) fun d hd => by
      have g := good d (List.mem_of_mem_take hd)
      obtain ⟨m, y, ds, s1, s2, ra, eb, ln⟩ := bid_shape' g.1
      refine ⟨?_, g.2.2⟩
      rw [eb, List.length_map]
      omega
    refine ⟨_, rfl, ga, rfl, for_ei (xs := gxs) (fun i σ H' => ∃ (kvs : List NE) (v3 v4 : Option V), σ = [some (.int (n : Int)), some (.ref ga), some (.ref wd), v3, v4, none] ∧ Same H H' ∧ ND P w H' wd kvs ∧ Paired relW kvs (wOf (rd.take i)) ∧ kvs.length ≤ i)
      ?_ ⟨[], none, none, rfl, S0, N00, .nil, Nat.le_refl _⟩ (fun i x σ H' hx p => ?_) (fun σ H' p => ?_)⟩
    · rcases gsq with q | q
      · exact .inl fun i σ' H' p => by
          obtain ⟨_, _, _, _, S, _⟩ := p
          exact SqL.sm S q
      · exact .inr fun i σ' H' p => by
          obtain ⟨_, _, _, _, S, _⟩ := p
          exact SqT.sm S q
    · obtain ⟨kvs, v3, v4, rfl, S, N3, pr, lk⟩ := p
      obtain ⟨d, hd, ad⟩ := gall.get hx
      have g := good d (List.mem_of_getElem? hd)
      obtain ⟨m, y, ds, s1, s2, ra, eb, _⟩ := bid_shape' g.1
      refine ⟨_, rfl, _, rfl, x, d, (n : Int), rfl, ad.stay (Same.stay S), g.2.1, fun H1 S1 => ⟨_, rfl, ?_⟩⟩
      rw [g.1]
      refine iteF ?_
      have S01 := L2.Same.trans S S1
      have ad1 := ad.stay (Same.stay S01)
      have sb := g.2.1
      unfold smallBid at sb
      rw [s1] at sb
      obtain ⟨a, xs, rfl, sq, all, hl⟩ := ad1.seq2 (K := K) s1
      cases all with
      | @cons x0 xs' _ _ a0 all' =>
      cases all' with
      | @cons x1 xs'' _ _ a1 all'' =>
      cases all''
      cases a0
      have ix : ∀ (G : Hp), Same H1 G → ∀ (n : Nat) (x : V), [V.int m, x1][n]? = some x → ∀ (Q' : V → Hp → Prop), Q' x G → (rIxL K (.ref a) (.int (n : Int)) G Q' ∨ rIxT K (.ref a) (.int (n : Int)) G Q') := fun G SG n x hx Q' q => by
        rcases sq with sq | sq
        · exact .inl ⟨a, _, _, x, rfl, rfl, SqL.sm SG sq, atI_nat hx, q⟩
        · exact .inr ⟨a, _, _, x, rfl, rfl, SqT.sm SG sq, atI_nat hx, q⟩
      refine ⟨_, rfl, ix H1 (L2.Same.refl H1) 1 x1 rfl _ ⟨x1, y, ds, rfl, a1, s2, sb, ra, fun p ks H2 e2 nk S2 => ?_⟩⟩
      have N2 := (N3.same S1).same S2
      rw [kOf_map] at nk
      have key : NK H2 (.ref p) (keyN (ds.map ratOf)) := .tup e2 nk
      have dk := keyN_depth (ds.map ratOf)
      refine ⟨_, rfl, wd, rfl, ⟨kvs, N2⟩, _, rfl, kvs, _, p, N2, rfl, key, dk, ?_⟩
      have hz : (atN kvs (keyN (ds.map ratOf))).getD (.int 0) = .int ((getW (wOf (rd.take i)) (ds.map ratOf)).getD 0) := by
        rw [getW_of pr]
        cases getW (wOf (rd.take i)) (ds.map ratOf) <;> rfl
      rw [hz]
      have il : i < 60 := by have := (List.getElem?_eq_some_iff.mp hd).1; omega
      refine ⟨_, rfl, ix H2 S2 0 (.int m) rfl _ ⟨_, _, rfl, rfl, _, rfl, _, rfl, wd, kvs, _, p, rfl, N2, (by rw [sizeLine_eq]; omega), rfl, key, dk, fun N4 => ?_⟩⟩
      refine ⟨_, _, _, rfl, ?_, N4, ?_, Nat.le_trans (putN_len _ _ _ _) (by omega)⟩
      · intro b o e
        rw [upd_ne (ne_of_none e nwd)]
        exact S2 _ _ (S01 b o e)
      · rw [take_snoc hd, wOf_snoc, eb]
        exact addW_of pr (ds.map ratOf) p m
    · obtain ⟨kvs, v3, v4, rfl, S, N3, pr, lk⟩ := p
      have gW := goodW gxs.length
      have nW := wOf_nodup (rd.take gxs.length)
      have lW := wOf_len (rd.take gxs.length)
      rw [gl, List.take_length] at pr gW nW lW
      clear goodW ag gall gsq sg
      generalize hWW : wOf rd = W at pr gW nW lW k
      have lkW : kvs.length = W.length := Paired.length pr
      clear hWW
      -- kept
      refine ⟨wd, _, N3.has, trivial, fun od => ?_⟩
      have nT := N3.noTup
      have keysL : ∀ e ∈ kvs, NK (upd H' wd (.frz od (.ext (ndP P w wd kvs)))) (.ref e.2.1) e.1 ∧ e.1.depth ≤ 8 := fun e he => ⟨(N3.keys e he).1.ext nT, (N3.keys e he).2⟩
      refine ⟨_, rfl, wd, od, kvs, rfl, N3.ne, upd_same, fun D nD => ?_⟩
      refine lc_keysN (fun i G => Same (upd H' wd (.frz od (.ext (ndP P w wd kvs)))) G ∧ G D = some (.lst ((((kvs.zip W).take i).filter fun z => keepW z.2).map fun z => V.ref z.1.2.1))) ⟨GG.Same.new (L2.Same.refl _) nD, upd_same⟩ (fun i G _ p => p.1 _ _ upd_same) (fun i e G he p => ?_) (fun G p => ?_)
      · obtain ⟨S1, eD⟩ := p
        obtain ⟨x, hx, rel⟩ := paired_at pr he
        have hz : (kvs.zip W)[i]? = some (e, x) := by rw [List.getElem?_zip_eq_some]; exact ⟨he, hx⟩
        have nr : NDr P w G wd kvs := ⟨.inr ⟨od, S1 _ _ upd_same⟩, fun e he => ⟨(keysL e he).1.same S1, (keysL e he).2⟩, N3.ne⟩
        have ke := keysL e (List.mem_of_getElem? he)
        have at1 : atN kvs e.1 = some (.int x.2) := by
          rw [rel.1, getW_of pr, getW_mem nW (List.mem_of_getElem? hx)]
          rfl
        have lx := (gW x (List.mem_of_getElem? hx)).1
        have il : i < 60 := by have := (List.getElem?_eq_some_iff.mp hx).1; omega
        refine ⟨rfl, ?_⟩
        refine ⟨_, rfl, _, rfl, wd, kvs, e.1, e.2.1, .int x.2, rfl, nr, rfl, ke.1.same S1, ke.2, at1, rfl, _, rfl, ?_⟩
        have fin : ∀ (b : Bool) (G2 : Hp), b = keepW x → Same G G2 → (if b = true then ∃ v, (wipe [some (V.int (n : Int)), some (.ref ga), some (.ref wd), v3, v4, none] [4] |>.set 4 (some (.ref e.2.1)))[4]? = some (some v) ∧ (∃ acc, G2 D = some (.lst acc) ∧ acc.length < sizeLine ∧ (Same (upd H' wd (.frz od (.ext (ndP P w wd kvs)))) (upd G2 D (.lst (acc ++ [v]))) ∧ (upd G2 D (.lst (acc ++ [v]))) D = some (.lst ((((kvs.zip W).take (i + 1)).filter fun z => keepW z.2).map fun z => V.ref z.1.2.1))))
            else (Same (upd H' wd (.frz od (.ext (ndP P w wd kvs)))) G2 ∧ G2 D = some (.lst ((((kvs.zip W).take (i + 1)).filter fun z => keepW z.2).map fun z => V.ref z.1.2.1)))) := fun b G2 hb S2 => by
          have eD2 := S2 _ _ eD
          rw [take_snoc hz, List.filter_append, List.map_append]
          cases hk : keepW x with
          | false =>
            rw [hb, hk]
            refine iteF ⟨L2.Same.trans S1 S2, ?_⟩
            rw [eD2]
            simp [List.filter_cons, hk]
          | true =>
            rw [hb, hk]
            refine iteT ⟨_, rfl, _, eD2, ?_, ?_, ?_⟩
            · rw [List.length_map, sizeLine_eq]
              have q := List.length_filter_le (fun z : NE × RK × Int => keepW z.2) ((kvs.zip W).take i)
              rw [List.length_take] at q
              omega
            · intro c o ec
              rw [upd_ne (ne_of_none ec nD)]
              exact S2 c o (S1 c o ec)
            · rw [upd_same]
              simp [List.filter_cons, hk]
        cases h1 : !decide (V.int x.2 = V.int 0) with
        | false =>
          refine iteF ?_
          exact fin false G (by unfold keepW; rw [h1]; rfl) (L2.Same.refl G)
        | true =>
          refine iteT ?_
          refine ⟨_, rfl, e.2.1, x.1, rfl, by rw [← rel.1]; exact ke.1.same S1, by omega, fun G2 S2 => ⟨_, rfl, ?_⟩⟩
          exact fin _ G2 (by unfold keepW; rw [h1]; rfl) S2
      · obtain ⟨S1, eD⟩ := p
        have lz : (kvs.zip W).length = kvs.length := by rw [List.length_zip]; omega
        rw [← lz, List.take_length] at eD
        have eG := S1 _ _ upd_same
        refine ⟨eG, ?_⟩
        have S2 : Same H' (upd G wd (.ext (ndP P w wd kvs))) := fun b o e => by
          by_cases q : b = wd
          · rw [q, N3.has] at e
            cases e
            rw [q, upd_same]
          · rw [upd_ne q]
            exact S1 b o (by rw [upd_ne q]; exact e)
        have N5 := N3.same S2
        have Dwd : D ≠ wd := fun q => by
          rw [q, upd_same] at nD
          cases nD
        have eD2 : (upd G wd (.ext (ndP P w wd kvs))) D = _ := (upd_ne Dwd).trans eD
        generalize (upd G wd (.ext (ndP P w wd kvs))) = H2 at S2 N5 eD2 ⊢
        have kr := kept_rows pr N5.keys
        have lK : (keptK W).length ≤ 60 := by
          unfold keptK
          rw [List.length_map]
          have := List.length_filter_le keepW W
          omega
        have mK : ∀ L ∈ keptK W, ∃ x ∈ W, x.1 = L := fun L hL => by
          obtain ⟨x, hx, e⟩ := List.mem_map.mp hL
          exact ⟨x, (List.mem_filter.mp hx).1, e⟩
        refine ⟨_, rfl, D, _, keptK W, n, N, rfl, eD2, kr, lK, n1, n3, fun L hL => ?_, N0, N1, fun L hL => ?_, fun p ys H3 ep pq S3 => ?_⟩
        · obtain ⟨x, hx, rfl⟩ := mK L hL
          exact (gW x hx).1
        · obtain ⟨x, hx, rfl⟩ := mK L hL
          exact (gW x hx).2
        have N6 := N5.same S3
        have mA : ∀ L ∈ ascK n (keptK W), ∃ x ∈ W, x.1 = L := fun L hL => mK L (List.mem_mergeSort.mp hL)
        have lA : (ascK n (keptK W)).length ≤ 60 := by
          unfold ascK
          rw [List.length_mergeSort]
          exact lK
        refine ⟨p, rfl, ⟨_, SqL.of ep⟩, fun D6 nD6 => ?_⟩
        have ly : ys.length = (ascK n (keptK W)).length := Paired.length pq
        refine lc_list (xs := ys) (fun i G => Same H3 G ∧ ∃ ts, G D6 = some (.lst ts) ∧ Paired (PlV G W) ts ((ascK n (keptK W)).take i)) ⟨GG.Same.new (L2.Same.refl H3) nD6, [], upd_same, .nil⟩ (fun i G _ p => SqL.of (p.1 _ _ ep)) (fun i x G hx q => ?_) (fun G q => ?_)
        · obtain ⟨S4, ts, e6, p6⟩ := q
          obtain ⟨L, hL, rv⟩ := paired_at pq hx
          have mL := List.mem_of_getElem? hL
          obtain ⟨xw, hxw, exw⟩ := mA L mL
          have gw := getW_mem nW hxw
          rw [exw] at gw
          obtain ⟨b, rfl, nk⟩ := rv.same S4
          refine ⟨rfl, ?_⟩
          refine ⟨_, rfl, _, rfl, wd, kvs, _, b, .int xw.2, rfl, (N6.same S4).r, rfl, nk, keyN_depth L, by rw [getW_of pr, gw]; rfl, _, rfl, (by show 2 ≤ sizeLine; rw [sizeLine_eq]; decide), fun t nt => ?_⟩
          have S5 := GG.Same.new (L2.Same.refl G) nt (o := .tup [.int xw.2, .ref b])
          have et : (upd G t (.tup [.int xw.2, .ref b])) t = some (.tup [.int xw.2, .ref b]) := upd_same
          generalize (upd G t (.tup [.int xw.2, .ref b])) = G5 at S5 et ⊢
          have e6' := S5 _ _ e6
          have lt' : ts.length = i := by
            have z := Paired.length p6
            rw [List.length_take] at z
            have := (List.getElem?_eq_some_iff.mp hL).1
            omega
          refine ⟨ts, e6', by rw [lt', sizeLine_eq]; have := (List.getElem?_eq_some_iff.mp hL).1; omega, ?_, ts ++ [.ref t], upd_same, ?_⟩
          · intro c o ec
            rw [upd_ne (ne_of_none ec nD6)]
            exact S5 c o (S4 c o ec)
          · rw [take_snoc hL]
            refine Paired.snoc (Paired.mapP p6 fun _ _ h => (h.same S5).put e6') (PlV.put e6' ⟨t, b, rfl, ?_, ⟨b, rfl, nk.same S5⟩⟩)
            rw [gw]
            exact et
        · obtain ⟨S4, ts, e6, p6⟩ := q
          rw [ly, List.take_length] at p6
          refine ⟨D6, _, rfl, .inl ⟨SqL.of e6, fun l nl => ?_⟩⟩
          have S6 := GG.Same.new (L2.Same.refl G) nl (o := .tup ts)
          refine k l _ ?_ (L2.Same.trans S (L2.Same.trans S2 (L2.Same.trans S3 (L2.Same.trans S4 S6))))
          exact .tup upd_same (pl_all (Paired.mapP p6 fun _ _ h => h.same S6))
end
end GG



namespace GG
open PySem PySem.Spec PyProof.Rows L2
/-! ### lists of bids as objects -/
abbrev sInit : Stmt := inClass (topS 33) 0
abbrev sEq : Stmt := inClass (topS 33) 1
mutual
theorem Da.mv {H H' : Hp} (k : ∀ b o, H b = some o → (∀ C dx fs, o ≠ .ins C dx fs) → H' b = some o) : ∀ {v : V} {d : PyData}, Da H v d → Da H' v d
  | _, _, .non => .non
  | _, _, .bl b => .bl b
  | _, _, .int i => .int i
  | _, _, .str x => .str x
  | _, _, .lst e n t => .lst (k _ _ e (fun _ _ _ z => by cases z)) n (t.mv k)
  | _, _, .tup e t => .tup (k _ _ e (fun _ _ _ z => by cases z)) (t.mv k)
  | _, _, .dic e t => .dic (k _ _ e (fun _ _ _ z => by cases z)) (t.mv k)
theorem DaAll.mv {H H' : Hp} (k : ∀ b o, H b = some o → (∀ C dx fs, o ≠ .ins C dx fs) → H' b = some o) : ∀ {vs : List V} {ds : List PyData}, DaAll H vs ds → DaAll H' vs ds
  | _, _, .nil => .nil
  | _, _, .cons h t => .cons (h.mv k) (t.mv k)
end
/-- rows of bids that may be made a list of -/
def RowsOk (n N : Nat) (rd : List PyData) : Prop := rd.length ≤ 60 ∧ 1 ≤ n ∧ n ≤ 3 ∧ 0 < N ∧ N < 2 ^ 60 ∧ ∀ d ∈ rd, isBid d (n : Int) = true ∧ smallBid d ∧ ∀ r ∈ (bidOf d).2, good2 N r
/-- at x stands a list of bids, with its plain list -/
def BidsAt (C : Addr) (H : Hp) (x : Addr) (n : Nat) (d : PyData) : Prop := ∃ dx fs p, H x = some (.ins C dx fs) ∧ fs.lookup ("kinds" : Str) = some (.int (n : Int)) ∧ fs.lookup ("rows" : Str) = some (.ref p) ∧ Da H (.ref p) d
theorem BidsAt.same {C : Addr} {H H' : Hp} {x : Addr} {n : Nat} {d : PyData} (k : Same H H') (h : BidsAt C H x n d) : BidsAt C H' x n d := by
  obtain ⟨dx, fs, p, e, f1, f2, a⟩ := h
  exact ⟨dx, fs, p, k _ _ e, f1, f2, a.stay (Same.stay k)⟩
def spInitOk (C : Addr) : Sp := fun vs H Q _ => ∃ (x dx : Addr) (n N : Nat) (gv : V) (dv : PyData) (rd : List PyData), vs = [.ref x, .int (n : Int), gv] ∧ H x = some (.ins C dx []) ∧ Da H gv dv ∧ seqOf dv = some rd ∧ RowsOk n N rd ∧
  ∀ H', BidsAt C H' x n (plainD n (wOf rd)) → Keep x H H' → Q .non H'
structure BiTxt (P : Program) (w : World) (K : PySem.W.Frag) (mg : Str → Option Value) (base : Heap) (C : Addr) : Prop where
  m : mg "Bids" = some (.ref C)
  cl : Cls K C
  n1 : NoAttr K C "kinds"
  n2 : NoAttr K C "rows"
  ini : ∃ fI fd, Mk K C fI ∧ Binds K fd ["self", "kinds", "rows"] [] ∧ FnOk P w K mg base (L2.CX P w) 8 fI fd ["self", "kinds", "rows"] (spInitOk C)
/-! ### == -/
mutual
def noD : PyData → Bool
  | .none => true
  | .bool _ => true
  | .int _ => true
  | .str _ => true
  | .list ds => noDs ds
  | .tuple ds => noDs ds
  | .dict _ => false
def noDs : List PyData → Bool
  | [] => true
  | d :: ds => noD d && noDs ds
end
mutual
theorem Da.dp {K : PySem.W.Frag} {H : Hp} : ∀ {v : V} {d : PyData}, Da H v d → noD d = true → Dp K H v d
  | _, _, .non, _ => .non
  | _, _, .bl b, _ => .bl b
  | _, _, .int i, _ => .int i
  | _, _, .str x, _ => .str x
  | _, _, .lst e _ t, h => .lst (.inl (.inl e)) (t.dp (by simpa [noD] using h))
  | _, _, .tup e t, h => .tup (.inl (.inl e)) (t.dp (by simpa [noD] using h))
  | _, _, .dic _ _, h => by simp [noD] at h
theorem DaAll.dp {K : PySem.W.Frag} {H : Hp} : ∀ {vs : List V} {ds : List PyData}, DaAll H vs ds → noDs ds = true → DpAll K H vs ds
  | _, _, .nil, _ => .nil
  | _, _, .cons h t, q => by
    simp only [noDs, Bool.and_eq_true] at q
    exact .cons (h.dp q.1) (t.dp q.2)
end
/-- two lists with one plain list -/
def SameB (C : Addr) (a b : Addr) (H : Hp) : Prop := ∃ n d, BidsAt C H a n d ∧ BidsAt C H b n d ∧ SeqAt.shaped d = true ∧ PyData.eqv d d = true ∧ noD d = true
section
variable {P : Program} {w : World} {K : PySem.W.Frag} {mg : Str → Option Value} {base : Heap}
theorem scInit : FnScope ["self", "kinds", "rows"] ["self", "kinds", "rows"] (defScope sInit) := ⟨rfl, rfl, rfl, by decide +kernel, rfl, by decide +kernel, by decide +kernel⟩
theorem putF2 (a b : V) : (putF "rows" b (putF "kinds" a [])).lookup ("kinds" : Str) = some a ∧ (putF "rows" b (putF "kinds" a [])).lookup ("rows" : Str) = some b ∧ (putF "kinds" a []).length < 1000 := ⟨by kernel_rfl, by kernel_rfl, by show 1 < 1000; decide⟩
theorem bi_of {C CN fI : Addr} {fd : FuncData} (m : mg "Bids" = some (.ref C)) (M : Mk K C fI) (cl : Cls K C) (n1 : NoAttr K C "kinds") (n2 : NoAttr K C "rows") (U : Fun K "__init__" "Bids.__init__" sInit fI fd)
    (CK : KnX P w K mg base "check_kinds" 3 ["kinds"] (spCK CN)) (PL : KnX P w K mg base "plain_rows" 7 ["kinds", "rows"] spPlainOk) : BiTxt P w K mg base C := by
  refine ⟨m, cl, n1, n2, fI, fd, M, U.binds fun _ _ _ _ _ _ us hl => match us, hl with | [_, _, _], _ => rfl, ?_⟩
  refine U.okX scInit (fun vs H Q E h => ?_) (fun cdv A outer s H vs Q E hr h => ?_)
  · obtain ⟨x, dx, n, N, gv, dv, rd, rfl, _⟩ := h
    rfl
  · obtain ⟨x, dx, n, N, gv, dv, rd, rfl, ex, ag, sg, ⟨l60, n1', n3, N0, N1, gd⟩, k⟩ := h
    have hr3 : Room 3 _ := hr.mono (by decide)
    refine ⟨_, pss_cons (ps_expr (pe_knX CK hr3 (takes_of rfl rfl rfl rfl) (fun _ _ _ _ z => z) (pa_cons (pv 1) pa_nil)))
      (pss_cons (ps_fld (pv 0) (pv 1) rfl)
      (pss_one (ps_fld (pv 0) (pe_knX PL hr (takes_of rfl rfl rfl rfl) (fun _ _ _ _ z => z) (pa_cons (pv 1) (pa_cons (pv 2) pa_nil))) rfl))), ?_⟩
    have ok : okK (.int (n : Int)) = true := by
      show (decide (1 ≤ (n : Int)) && decide ((n : Int) ≤ 3)) = true
      rw [decide_eq_true (by omega), decide_eq_true (by omega)]
      rfl
    refine ⟨_, rfl, .int (n : Int), .int (n : Int), rfl, .int _, fun _ => ?_, fun z => absurd (ok.symm.trans z) (by decide)⟩
    refine ⟨_, rfl, _, rfl, x, C, dx, [], rfl, ex, cl, n1, (by show 0 < 1000; decide), ?_⟩
    have mv : ∀ b o, H b = some o → (∀ C dx fs, o ≠ .ins C dx fs) → upd H x (.ins C dx (putF "kinds" (.int (n : Int)) [])) b = some o := fun b o q ne => by
      rw [upd_ne (fun z => by
        rw [z, ex] at q
        exact ne _ _ _ (Option.some.inj q).symm)]
      exact q
    refine ⟨_, rfl, _, rfl, n, N, gv, dv, rd, rfl, ag.mv mv, sg, l60, n1', n3, N0, N1, gd, fun p H' dp S => ?_⟩
    have ex' := S _ _ (upd_same (H := H) (a := x) (o := .ins C dx (putF "kinds" (.int (n : Int)) [])))
    obtain ⟨f1, f2, f3⟩ := putF2 (.int (n : Int)) (.ref p)
    refine ⟨_, rfl, x, C, dx, _, rfl, ex', cl, n2, f3, ?_⟩
    refine k _ ⟨dx, _, p, upd_same, f1, f2, dp.mv fun b o q ne => ?_⟩ fun b o nb q => ?_
    · rw [upd_ne (fun z => by
        rw [z, ex'] at q
        exact ne _ _ _ (Option.some.inj q).symm)]
      exact q
    · rw [upd_ne nb]
      exact S b o (by rw [upd_ne nb]; exact q)
/-- what is known of the class for isinstance -/
structure InC (K : PySem.W.Frag) (C : Addr) : Prop where
  ha : PySem.W.findIn K (.ref C) "__class__" = some (some (.builtin "object.__class__"))
  hn : PySem.W.specialIn K (.builtin "object.__class__") "__get__" = some (some (.builtin "getset_descriptor.__get__"))
  htk : PySem.W.takesIn K (.builtin "object.__class__") = some true
  hm : PySem.W.mroIn K C (.type "object") = some true
  kit : PySem.W.kitOne K (.ref C) (.ref C) = some true
theorem scEq : FnScope ["self", "other"] ["self", "other"] (defScope sEq) := ⟨rfl, rfl, rfl, by decide +kernel, rfl, by decide +kernel, by decide +kernel⟩
theorem eq_of {C fE : Addr} {fd : FuncData} (T : RTxt K mg) (m : mg "Bids" = some (.ref C)) (cl : Cls K C) (n1 : NoAttr K C "kinds") (n2 : NoAttr K C "rows") (ic : InC K C) (U : Fun K "__eq__" "Bids.__eq__" sEq fE fd) : FnOk P w K mg base CX0 1 fE fd ["self", "other"] (spEq (SameB C)) := by
  refine U.ok scEq (fun vs H Q E h => ?_) (fun cdv A outer s H vs Q E hr h => ?_)
  · obtain ⟨a, b, rfl, _⟩ := h
    rfl
  · obtain ⟨a, b, rfl, ⟨n, d, ⟨dxa, fsa, pa', ea, ka, ra, da⟩, ⟨dxb, fsb, pb, eb, kb, rb, db⟩, sh, eqv, nd⟩, k⟩ := h
    have hu64 : (A.deeper (envOfC "Bids.__eq__" (defScope sEq) s.heap.objs.size fE cdv)).units + 64 < cLine := by have := hr.un; omega
    refine ⟨_, pss_one (ps_ret (pe_and (pe_callB call_isi (by rfl) T.isi bIsi (pa_cons (pv 1) (pa_cons (pe_glob (v := .ref C) rfl m rfl) pa_nil)))
      (pe_and (pe_cmpR op_eq (pe_fld (pv 0) rfl) (pe_fld (pv 1) rfl) (nomark _)) (pe_one (pe_cmpR (op_eqD hu64) (pe_fld (pv 0) rfl) (pe_fld (pv 1) rfl) (nomark _)))))), ?_⟩
    refine ⟨_, rfl, .ref b, .ref C, .ref C, .ref C, true, rfl, .own C, .base (.ins eb cl ic.ha ic.hn ic.htk ic.hm), ic.kit, _, rfl, iteT ?_⟩
    refine ⟨_, rfl, a, C, dxa, fsa, _, rfl, ea, cl, n1, ka, _, rfl, b, C, dxb, fsb, _, rfl, eb, cl, n1, kb, rfl, _, rfl, ?_⟩
    rw [decide_eq_true rfl]
    refine iteT ?_
    refine ⟨_, rfl, a, C, dxa, fsa, _, rfl, ea, cl, n2, ra, _, rfl, b, C, dxb, fsb, _, rfl, eb, cl, n2, rb, d, d, ?_, ?_, sh, sh, ?_⟩
    · exact da.dp nd
    · exact db.dp nd
    · rw [eqv]
      exact k H (L2.Ext.rfl')
end
/-! ### the plain list, to be shown and compared -/
theorem canLay_dRs (L : RK) : PyData.canLayAll0 (L.map dR) = true := by
  induction L with
  | nil => simp [PyData.canLayAll0]
  | cons r L ih => simp [PyData.canLayAll0, dR, PyData.canLay0, ih]
theorem noD_dRs (L : RK) : noDs (L.map dR) = true := by
  induction L with
  | nil => simp [noDs]
  | cons r L ih => simp [noDs, dR, noD, ih]
def rowD (e : Int × RK) : PyData := .tuple [.int e.1, .tuple (e.2.map dR)]
theorem canLay_rows (es : List (Int × RK)) : PyData.canLayAll0 (es.map rowD) = true := by
  induction es with
  | nil => simp [PyData.canLayAll0]
  | cons e es ih => simp [PyData.canLayAll0, rowD, PyData.canLay0, ih, canLay_dRs]
theorem noD_rows (es : List (Int × RK)) : noDs (es.map rowD) = true := by
  induction es with
  | nil => simp [noDs]
  | cons e es ih => simp [noDs, rowD, noD, ih, noD_dRs]
theorem depth_rows (es : List (Int × RK)) : PyData.depthAll (es.map rowD) ≤ 3 := by
  induction es with
  | nil => simp [PyData.depthAll]
  | cons e es ih =>
    have h := depth_dR e.2
    rw [List.map_cons]
    simp only [PyData.depthAll, rowD, PyData.depth]
    omega
theorem rows_sh (es : List (Int × RK)) : SeqAt.shaped (.tuple (es.map rowD)) = true ∧ noD (.tuple (es.map rowD)) = true := by
  refine ⟨?_, by simp [noD, noD_rows]⟩
  have h1 := canLay_rows es
  have h2 := depth_rows es
  show (PyData.canLay0 _ && decide (PyData.depth _ ≤ 64)) = true
  rw [Bool.and_eq_true]
  refine ⟨by simp [PyData.canLay0, h1], decide_eq_true ?_⟩
  simp only [PyData.depth]
  omega
end GG




namespace GG
open PySem PySem.Spec PyProof.Rows L2
/-! ### the order of rows of ratios -/
def lessR (a b : Int × Int) : Bool := decide (a.1 * b.2 < b.1 * a.2)
def ahead : RK → RK → Bool
  | a :: K, b :: L => if a = b then ahead K L else lessR a b
  | _, _ => false
/-- a row of n ratios in lowest terms, from 0 on, their bottoms dividing N -/
def okR (N : Nat) (r : Int × Int) : Prop := good2 N r ∧ copr r.1 r.2 ∧ 0 ≤ r.1
def okK' (n N : Nat) (K : RK) : Prop := K.length = n ∧ ∀ r ∈ K, okR N r
def sc1 (B : Int) (r : Int × Int) : Int := r.1 * (B / r.2)
theorem sc1_le {B : Int} {a b : Int × Int} (B0 : 0 < B) (a0 : 0 < a.2) (b0 : 0 < b.2) (ha : a.2 ∣ B) (hb : b.2 ∣ B) : (sc1 B a < sc1 B b ↔ a.1 * b.2 < b.1 * a.2) ∧ (sc1 B a = sc1 B b ↔ a.1 * b.2 = b.1 * a.2) := by
  obtain ⟨x, rfl⟩ := ha
  obtain ⟨y, hy⟩ := hb
  have ea : a.2 * x / a.2 = x := Int.mul_ediv_cancel_left _ (by omega)
  have eb : a.2 * x / b.2 = y := by rw [hy]; exact Int.mul_ediv_cancel_left _ (by omega)
  have x0 : 0 < x := by
    rcases Int.lt_trichotomy x 0 with h | h | h
    · have := Int.mul_neg_of_pos_of_neg a0 h
      omega
    · rw [h, Int.mul_zero] at B0
      omega
    · exact h
  have y0 : 0 < y := by
    rw [hy] at B0
    rcases Int.lt_trichotomy y 0 with h | h | h
    · have := Int.mul_neg_of_pos_of_neg b0 h
      omega
    · rw [h, Int.mul_zero] at B0
      omega
    · exact h
  unfold sc1
  rw [ea, eb]
  -- a.1 * x < b.1 * y  iff  a.1 * b.2 < b.1 * a.2, as a.2 * x = b.2 * y
  have k1 : a.1 * x * (a.2 * b.2) = a.1 * b.2 * (a.2 * x) := by
    rw [Int.mul_assoc, Int.mul_assoc]
    congr 1
    rw [Int.mul_comm a.2 b.2, Int.mul_left_comm, Int.mul_comm x a.2]
  have k2 : b.1 * y * (a.2 * b.2) = b.1 * a.2 * (a.2 * x) := by
    rw [hy, Int.mul_assoc, Int.mul_assoc]
    congr 1
    rw [Int.mul_left_comm, Int.mul_comm y b.2]
  have ab : 0 < a.2 * b.2 := Int.mul_pos a0 b0
  constructor
  · constructor
    · intro h
      have := Int.mul_lt_mul_of_pos_right h ab
      rw [k1, k2] at this
      exact Int.lt_of_mul_lt_mul_right this (Int.le_of_lt B0)
    · intro h
      have := Int.mul_lt_mul_of_pos_right h B0
      rw [← k1, ← k2] at this
      exact Int.lt_of_mul_lt_mul_right this (Int.le_of_lt ab)
  · constructor
    · intro h
      have : a.1 * x * (a.2 * b.2) = b.1 * y * (a.2 * b.2) := by rw [h]
      rw [k1, k2] at this
      exact Int.eq_of_mul_eq_mul_right (by omega) this
    · intro h
      have : a.1 * b.2 * (a.2 * x) = b.1 * a.2 * (a.2 * x) := by rw [h]
      rw [← k1, ← k2] at this
      exact Int.eq_of_mul_eq_mul_right (by omega) this
theorem copr_eq {a b : Int × Int} (a0 : 0 < a.2) (b0 : 0 < b.2) (ca : copr a.1 a.2) (cb : copr b.1 b.2) (h : a.1 * b.2 = b.1 * a.2) : a = b := by
  unfold copr at ca cb
  have h1 : a.1.natAbs * b.2.natAbs = b.1.natAbs * a.2.natAbs := by rw [← Int.natAbs_mul, ← Int.natAbs_mul, h]
  have d1 : a.2.natAbs ∣ b.2.natAbs := by
    have : a.2.natAbs ∣ a.1.natAbs * b.2.natAbs := by rw [h1]; exact Nat.dvd_mul_left _ _
    exact (Nat.Coprime.symm ca : Nat.Coprime a.2.natAbs a.1.natAbs).dvd_of_dvd_mul_left this
  have d2 : b.2.natAbs ∣ a.2.natAbs := by
    have : b.2.natAbs ∣ b.1.natAbs * a.2.natAbs := by rw [← h1]; exact Nat.dvd_mul_left _ _
    exact (Nat.Coprime.symm cb : Nat.Coprime b.2.natAbs b.1.natAbs).dvd_of_dvd_mul_left this
  have e2 : a.2 = b.2 := by
    have := Nat.dvd_antisymm d1 d2
    omega
  have e1 : a.1 = b.1 := by
    rw [e2] at h
    exact Int.eq_of_mul_eq_mul_right (by omega) h
  exact Prod.ext e1 e2
theorem ok_dvd {N : Nat} {B : Int} {r : Int × Int} (h : r.2.natAbs ∣ B.natAbs) : r.2 ∣ B := Int.natAbs_dvd_natAbs.mp h
/-- by scaled numbers, whatever the common bottoms are -/
theorem ahead_sc : ∀ {K L : List (Int × Int)} {Bs : List Int}, K.length = L.length → K.length = Bs.length → (∀ (i : Nat) (r : Int × Int) (B : Int), K[i]? = some r → Bs[i]? = some B → 0 < B ∧ 0 < r.2 ∧ r.2 ∣ B ∧ copr r.1 r.2) → (∀ (i : Nat) (r : Int × Int) (B : Int), L[i]? = some r → Bs[i]? = some B → 0 < B ∧ 0 < r.2 ∧ r.2 ∣ B ∧ copr r.1 r.2) →
    (ahead K L = decide (List.zipWith sc1 Bs K < List.zipWith sc1 Bs L)) ∧ (List.zipWith sc1 Bs K = List.zipWith sc1 Bs L → K = L)
  | [], [], Bs, _, _, _, _ => by
    refine ⟨?_, fun _ => rfl⟩
    simp [ahead]
  | [], _ :: _, _, h, _, _, _ => by cases h
  | _ :: _, [], _, h, _, _, _ => by cases h
  | _ :: _, _ :: _, [], _, h, _, _ => by cases h
  | a :: K, b :: L, B :: Bs, h1, h2, ha, hb => by
    obtain ⟨B0, a0, da, ca⟩ := ha 0 a B rfl rfl
    obtain ⟨_, b0, db, cb⟩ := hb 0 b B rfl rfl
    obtain ⟨i1, i2⟩ := ahead_sc (K := K) (L := L) (Bs := Bs) (by simpa using h1) (by simpa using h2) (fun i r B' e e' => ha (i + 1) r B' (by simpa using e) (by simpa using e')) (fun i r B' e e' => hb (i + 1) r B' (by simpa using e) (by simpa using e'))
    obtain ⟨s1, s2⟩ := sc1_le B0 a0 b0 da db
    rw [List.zipWith_cons_cons, List.zipWith_cons_cons]
    refine ⟨?_, fun e => ?_⟩
    · unfold ahead
      by_cases q : a = b
      · rw [if_pos q, i1, q]
        simp [List.cons_lt_cons_iff]
      · rw [if_neg q]
        have ne : ¬ sc1 B a = sc1 B b := fun z => q (copr_eq a0 b0 ca cb (s2.mp z))
        unfold lessR
        simp [List.cons_lt_cons_iff, ne, s1]
    · simp only [List.cons.injEq] at e
      rw [copr_eq a0 b0 ca cb (s2.mp e.1), i2 e.2]
theorem scK_zip {Bs : List Int} {K : RK} (h : K.length = Bs.length) : scK Bs K = List.zipWith sc1 Bs K := by
  apply List.ext_getElem?
  intro i
  unfold scK
  rw [List.getElem?_map, List.getElem?_zipWith]
  by_cases hi : i < K.length
  · rw [List.getElem?_range hi, atK_some hi, List.getElem?_eq_getElem (by omega : i < Bs.length)]
    have e2 : Bs.getD i 1 = Bs[i]'(by omega) := by
      rw [List.getD_eq_getElem?_getD, List.getElem?_eq_getElem (by omega)]
      rfl
    show some ((atK i K).1 * (Bs.getD i 1 / (atK i K).2)) = some (sc1 _ (atK i K))
    rw [e2]
    rfl
  · rw [List.getElem?_eq_none (by rw [List.length_range]; omega), List.getElem?_eq_none (by omega : Bs.length ≤ i)]
    rfl
/-- the sorted ones of a list are one list -/
theorem sorted_one {α : Type} {f : α → α → Bool} (asym : ∀ a b, f a b = true → f b a = true → False) : ∀ {l m : List α}, l.Pairwise (fun a b => f a b = true) → m.Pairwise (fun a b => f a b = true) → (∀ x, x ∈ l ↔ x ∈ m) → l = m
  | [], [], _, _, _ => rfl
  | [], b :: m, _, _, h => absurd ((h b).mpr List.mem_cons_self) List.not_mem_nil
  | a :: l, [], _, _, h => absurd ((h a).mp List.mem_cons_self) List.not_mem_nil
  | a :: l, b :: m, hl, hm, h => by
    obtain ⟨l1, l2⟩ := List.pairwise_cons.mp hl
    obtain ⟨m1, m2⟩ := List.pairwise_cons.mp hm
    have irr : ∀ x, f x x = true → False := fun x q => asym x x q q
    have e : a = b := by
      rcases List.mem_cons.mp ((h a).mp List.mem_cons_self) with q | q
      · exact q
      · rcases List.mem_cons.mp ((h b).mpr List.mem_cons_self) with q' | q'
        · exact q'.symm
        · exact (asym _ _ (m1 a q) (l1 b q')).elim
    subst e
    refine congrArg (a :: ·) (sorted_one asym l2 m2 fun x => ?_)
    constructor
    · intro hx
      rcases List.mem_cons.mp ((h x).mp (List.mem_cons_of_mem _ hx)) with q | q
      · rw [q] at hx
        exact (irr a (l1 a hx)).elim
      · exact q
    · intro hx
      rcases List.mem_cons.mp ((h x).mpr (List.mem_cons_of_mem _ hx)) with q | q
      · rw [q] at hx
        exact (irr a (m1 a hx)).elim
      · exact q
end GG



namespace GG
open PySem PySem.Spec PyProof.Rows L2
/-! ### rows in order -/
def RR (n N : Nat) (K L : RK) : Prop := okK' n N K ∧ okK' n N L ∧ ahead K L = true
def scN (n N : Nat) (K : RK) : List Int := List.zipWith sc1 (List.replicate n (N : Int)) K
theorem okR_at {n N : Nat} (N0 : 0 < N) {K : RK} (h : okK' n N K) : ∀ (i : Nat) (r : Int × Int) (B : Int), K[i]? = some r → (List.replicate n (N : Int))[i]? = some B → 0 < B ∧ 0 < r.2 ∧ r.2 ∣ B ∧ copr r.1 r.2 := by
  intro i r B hr hB
  rw [List.getElem?_replicate] at hB
  split at hB
  · cases hB
    obtain ⟨⟨g1, g2, _⟩, g3, _⟩ := h.2 r (List.mem_of_getElem? hr)
    exact ⟨by omega, g1, Int.natAbs_dvd_natAbs.mp (by rw [Int.natAbs_natCast]; exact g2), g3⟩
  · cases hB
theorem ahead_N {n N : Nat} (N0 : 0 < N) {K L : RK} (hK : okK' n N K) (hL : okK' n N L) : ahead K L = decide (scN n N K < scN n N L) ∧ (scN n N K = scN n N L → K = L) :=
  ahead_sc (by rw [hK.1, hL.1]) (by rw [hK.1, List.length_replicate]) (okR_at N0 hK) (okR_at N0 hL)
theorem RR.asym {n N : Nat} (N0 : 0 < N) {K L : RK} (h : RR n N K L) (h' : RR n N L K) : False := by
  have a := h.2.2
  have b := h'.2.2
  rw [(ahead_N N0 h.1 h.2.1).1] at a
  rw [(ahead_N N0 h.2.1 h.1).1] at b
  exact List.lt_irrefl _ (List.lt_trans (of_decide_eq_true a) (of_decide_eq_true b))
theorem RR.trans {n N : Nat} (N0 : 0 < N) {K L M : RK} (h : RR n N K L) (h' : RR n N L M) : RR n N K M := by
  have a := h.2.2
  have b := h'.2.2
  rw [(ahead_N N0 h.1 h.2.1).1] at a
  rw [(ahead_N N0 h'.1 h'.2.1).1] at b
  refine ⟨h.1, h'.2.1, ?_⟩
  rw [(ahead_N N0 h.1 h'.2.1).1]
  exact decide_eq_true (List.lt_trans (of_decide_eq_true a) (of_decide_eq_true b))
theorem lt_of_not {a b : List Int} (h : ¬ b < a) (ne : a ≠ b) : a < b := by
  rcases List.le_iff_lt_or_eq.mp (List.not_lt.mp h) with q | q
  · exact q
  · exact absurd q ne
theorem RR.total {n N : Nat} (N0 : 0 < N) {K L : RK} (hK : okK' n N K) (hL : okK' n N L) (ne : K ≠ L) (h : ahead K L = false) : RR n N L K := by
  refine ⟨hL, hK, ?_⟩
  rw [(ahead_N N0 hK hL).1] at h
  rw [(ahead_N N0 hL hK).1]
  exact decide_eq_true (lt_of_not (of_decide_eq_false h) fun q => ne ((ahead_N N0 hK hL).2 q.symm))
theorem sorted_R {n N : Nat} (N0 : 0 < N) : ∀ {l m : List RK}, l.Pairwise (RR n N) → m.Pairwise (RR n N) → (∀ x, x ∈ l ↔ x ∈ m) → l = m
  | [], [], _, _, _ => rfl
  | [], b :: m, _, _, h => absurd ((h b).mpr List.mem_cons_self) List.not_mem_nil
  | a :: l, [], _, _, h => absurd ((h a).mp List.mem_cons_self) List.not_mem_nil
  | a :: l, b :: m, hl, hm, h => by
    obtain ⟨l1, l2⟩ := List.pairwise_cons.mp hl
    obtain ⟨m1, m2⟩ := List.pairwise_cons.mp hm
    have irr : ∀ {x}, RR n N x x → False := fun q => q.asym N0 q
    have e : a = b := by
      rcases List.mem_cons.mp ((h a).mp List.mem_cons_self) with q | q
      · exact q
      · rcases List.mem_cons.mp ((h b).mpr List.mem_cons_self) with q' | q'
        · exact q'.symm
        · exact ((m1 a q).asym N0 (l1 b q')).elim
    subst e
    refine congrArg (a :: ·) (sorted_R N0 l2 m2 fun x => ?_)
    constructor
    · intro hx
      rcases List.mem_cons.mp ((h x).mp (List.mem_cons_of_mem _ hx)) with q | q
      · rw [q] at hx
        exact (irr (l1 a hx)).elim
      · exact q
    · intro hx
      rcases List.mem_cons.mp ((h x).mpr (List.mem_cons_of_mem _ hx)) with q | q
      · rw [q] at hx
        exact (irr (m1 a hx)).elim
      · exact q
/-! ### sorted's order -/
theorem eqv_ints : ∀ xs ys : List Int, PyData.eqvAll (xs.map .int) (ys.map .int) = true → xs = ys
  | [], [], _ => rfl
  | [], _ :: _, h => by simp [PyData.eqvAll] at h
  | _ :: _, [], h => by simp [PyData.eqvAll] at h
  | x :: xs, y :: ys, h => by
    simp only [List.map_cons, PyData.eqvAll, PyData.eqv, Bool.and_eq_true, beq_iff_eq] at h
    rw [h.1, eqv_ints xs ys h.2]
theorem asc_pair {n N : Nat} {Bs : List Int} (lB : Bs.length = n) {K L : RK} (hK : okK' n N K) (hL : okK' n N L) (bK : ∀ (i : Nat) (r : Int × Int) (B : Int), K[i]? = some r → Bs[i]? = some B → 0 < B ∧ r.2 ∣ B) (bL : ∀ (i : Nat) (r : Int × Int) (B : Int), L[i]? = some r → Bs[i]? = some B → 0 < B ∧ r.2 ∣ B)
    (le : PySem.W.dataLe false (kD Bs) K L = true) (ne : K ≠ L) : RR n N K L := by
  have up : ∀ {M : RK}, okK' n N M → (∀ (i : Nat) (r : Int × Int) (B : Int), M[i]? = some r → Bs[i]? = some B → 0 < B ∧ r.2 ∣ B) → ∀ (i : Nat) (r : Int × Int) (B : Int), M[i]? = some r → Bs[i]? = some B → 0 < B ∧ 0 < r.2 ∧ r.2 ∣ B ∧ copr r.1 r.2 := fun hM b i r B hr hB => by
    obtain ⟨⟨g1, _, _⟩, g3, _⟩ := hM.2 r (List.mem_of_getElem? hr)
    exact ⟨(b i r B hr hB).1, g1, (b i r B hr hB).2, g3⟩
  obtain ⟨s1, s2⟩ := ahead_sc (K := K) (L := L) (Bs := Bs) (by rw [hK.1, hL.1]) (by rw [hK.1, lB]) (up hK bK) (up hL bL)
  refine ⟨hK, hL, ?_⟩
  rw [s1]
  rw [← scK_zip (by rw [hK.1, lB]), ← scK_zip (by rw [hL.1, lB])] at s2 ⊢
  have ne' : scK Bs K ≠ scK Bs L := fun q => ne (s2 q)
  refine decide_eq_true (lt_of_not (fun q => ?_) ne')
  have e : PySem.W.dataLt (kD Bs L) (kD Bs K) = true := by
    unfold kD
    rw [PySem.W.dataLt_pair (by simp [PySem.W.alike, PySem.W.alike_ints]) (by simp [PySem.W.alike, alike_dR L K (by rw [hK.1, hL.1])])]
    rw [if_neg]
    · rw [PySem.W.dataLt_tuple]
      have := PySem.W.dataLt_ints (scK Bs L) (scK Bs K)
      unfold PySem.W.rowLt at this
      rw [this]
      exact decide_eq_true q
    · intro z
      have z' : PyData.eqvAll ((scK Bs L).map .int) ((scK Bs K).map .int) = true := by simpa [PyData.eqv] using z
      exact ne' (eqv_ints _ _ z').symm
  have le' : (!PySem.W.dataLt (kD Bs L) (kD Bs K)) = true := le
  rw [e] at le'
  cases le'
theorem asc_sorted {n N : Nat} (N0 : 0 < N) {Ks : List RK} (ok : ∀ K ∈ Ks, okK' n N K) (nd : Ks.Nodup) : (ascK n Ks).Pairwise (RR n N) ∧ ∀ K, K ∈ ascK n Ks ↔ K ∈ Ks := by
  have mem : ∀ K, K ∈ ascK n Ks ↔ K ∈ Ks := fun K => List.mem_mergeSort
  refine ⟨?_, mem⟩
  have T : PySem.W.TotalLe (PySem.W.dataLe false (kD (botsK n Ks))) := PySem.W.sortLe_total _ _ _
  have p1 : (ascK n Ks).Pairwise fun a b => PySem.W.dataLe false (kD (botsK n Ks)) a b = true :=
    List.pairwise_mergeSort (le := PySem.W.dataLe false (kD (botsK n Ks))) (fun a b c => T.trans a b c) (fun a b => by
      rcases T.total a b with q | q
      · have q' : PySem.W.dataLe false (kD (botsK n Ks)) a b = true := q
        rw [q']
        rfl
      · have q' : PySem.W.dataLe false (kD (botsK n Ks)) b a = true := q
        rw [q', Bool.or_true]) Ks
  have p2 : (ascK n Ks).Nodup := (List.mergeSort_perm Ks _).nodup_iff.mpr nd
  have lB : (botsK n Ks).length = n := by unfold botsK; rw [List.length_map, List.length_range]
  have bs : ∀ K ∈ Ks, ∀ (i : Nat) (r : Int × Int) (B : Int), K[i]? = some r → (botsK n Ks)[i]? = some B → 0 < B ∧ r.2 ∣ B := fun K hK i r B hr hB => by
    unfold botsK at hB
    rw [List.getElem?_map] at hB
    obtain ⟨j, hj, rfl⟩ := Option.map_eq_some_iff.mp hB
    have hlt : i < n := by
      have := (List.getElem?_eq_some_iff.mp hj).1
      rwa [List.length_range] at this
    rw [List.getElem?_range hlt] at hj
    cases hj
    have z := bot_pos N0 (rs := Ks.map (atK i)) (fun r hr' => by
      obtain ⟨L, hL, rfl⟩ := List.mem_map.mp hr'
      exact ((ok L hL).2 _ (List.mem_of_getElem? (atK_some (k := i) (by rw [(ok L hL).1]; exact hlt)))).1)
    have er : atK i K = r := by
      have := atK_some (K := K) (k := i) (by rw [(ok K hK).1]; exact hlt)
      rw [hr] at this
      exact (Option.some.inj this).symm
    refine ⟨z.1, Int.natAbs_dvd_natAbs.mp ?_⟩
    rw [← er]
    exact z.2.2 _ (List.mem_map.mpr ⟨K, hK, rfl⟩)
  refine List.Pairwise.imp_of_mem ?_ (p1.and p2)
  intro a b ha hb h
  have ha' := (mem a).mp ha
  have hb' := (mem b).mp hb
  exact asc_pair lB (ok a ha') (ok b hb') (bs a ha') (bs b hb') h.1 h.2
end GG



namespace GG
open PySem PySem.Spec PyProof.Rows L2
/-! ### sums of weights -/
abbrev WS := List (Int × RK)
def total (Ws : WS) (K : RK) : Int := (Ws.map fun e => if e.2 = K then e.1 else 0).sum
def ofWs (Ws : WS) : WL := Ws.foldl (fun W e => addW W e.2 e.1) []
theorem wOf_map (rd : List PyData) : wOf rd = ofWs (rd.map bidOf) := by
  unfold wOf ofWs
  rw [List.foldl_map]
theorem getW_add (W : WL) (K L : RK) (m : Int) : getW (addW W K m) L = if L = K then some ((getW W K).getD 0 + m) else getW W L := by
  unfold addW
  cases q : (getW W K).isSome with
  | true =>
    rw [if_pos rfl]
    generalize (getW W K).getD 0 + m = z
    induction W with
    | nil => cases q
    | cons e W ih =>
      rw [List.map_cons]
      by_cases h : e.1 = K
      · by_cases h2 : L = K
        · simp [getW, List.find?_cons, h, h2]
        · have h3 : ¬ e.1 = L := fun z => h2 (z.symm.trans h)
          have h4 : ¬ K = L := fun z => h2 z.symm
          have hh : ∀ W : WL, getW (W.map fun e => if e.1 = K then (e.1, z) else e) L = getW W L := fun W => by
            induction W with
            | nil => rfl
            | cons y W ih =>
              rw [List.map_cons]
              unfold getW at ih ⊢
              rw [List.find?_cons, List.find?_cons]
              by_cases hy : y.1 = K
              · have hn : ¬ y.1 = L := fun q => h2 (q.symm.trans hy)
                simp only [hy, if_true, h4, decide_false] at ih ⊢
                exact ih
              · rw [if_neg hy]
                by_cases hl : y.1 = L
                · simp [hl]
                · simp only [hl, decide_false]
                  exact ih
          rw [if_neg h2, if_pos h]
          have := hh W
          unfold getW at this ⊢
          rw [List.find?_cons, List.find?_cons]
          simp only [h3, decide_false]
          exact this
      · have q' : (getW W K).isSome = true := by
          unfold getW at q ⊢
          rw [List.find?_cons] at q
          simp only [h, decide_false] at q
          exact q
        have := ih q'
        rw [if_neg h]
        unfold getW at this ⊢
        rw [List.find?_cons, List.find?_cons]
        by_cases h2 : e.1 = L
        · have h3 : ¬ L = K := fun z => h (h2.trans z)
          simp [h2, h3]
        · simp only [h2, decide_false]
          exact this
  | false =>
    rw [if_neg (by simp)]
    have none : getW W K = none := by
      cases z : getW W K with
      | none => rfl
      | some v => rw [z] at q; cases q
    have app : getW (W ++ [(K, (getW W K).getD 0 + m)]) L = (getW W L).or (if K = L then some ((getW W K).getD 0 + m) else Option.none) := by
      generalize (getW W K).getD 0 + m = z
      unfold getW
      rw [List.find?_append, Option.map_or]
      congr 1
      by_cases h : K = L <;> simp [List.find?_cons, h]
    rw [app]
    by_cases h : L = K
    · rw [if_pos h, h, none, if_pos rfl]
      rfl
    · rw [if_neg h, if_neg (fun z => h z.symm), Option.or_none]
theorem ofWs_get (Ws : WS) (K : RK) : (getW (ofWs Ws) K).getD 0 = total Ws K ∧ ((getW (ofWs Ws) K).isSome = true ↔ K ∈ Ws.map (·.2)) := by
  have key : ∀ (Ws : WS) (W : WL), (getW (Ws.foldl (fun W e => addW W e.2 e.1) W) K).getD 0 = (getW W K).getD 0 + total Ws K ∧ ((getW (Ws.foldl (fun W e => addW W e.2 e.1) W) K).isSome = true ↔ (getW W K).isSome = true ∨ K ∈ Ws.map (·.2)) := by
    intro Ws
    induction Ws with
    | nil => intro W; simp [total]
    | cons e Ws ih =>
      intro W
      obtain ⟨i1, i2⟩ := ih (addW W e.2 e.1)
      rw [List.foldl_cons, i1, i2, getW_add]
      by_cases h : K = e.2
      · subst h
        rw [if_pos rfl]
        refine ⟨?_, by simp⟩
        simp [total, Int.add_assoc]
      · rw [if_neg h]
        have h' : ¬ e.2 = K := fun z => h z.symm
        refine ⟨by simp [total, h'], by simp [h]⟩
  obtain ⟨k1, k2⟩ := key Ws []
  refine ⟨by rw [show ofWs Ws = Ws.foldl (fun W e => addW W e.2 e.1) [] from rfl, k1]; simp [getW], by rw [show ofWs Ws = Ws.foldl (fun W e => addW W e.2 e.1) [] from rfl, k2]; simp [getW]⟩
theorem ofWs_nodup (Ws : WS) : ((ofWs Ws).map (·.1)).Nodup := by
  have key : ∀ (Ws : WS) (W : WL), (W.map (·.1)).Nodup → ((Ws.foldl (fun W e => addW W e.2 e.1) W).map (·.1)).Nodup := by
    intro Ws
    induction Ws with
    | nil => intro W h; exact h
    | cons e Ws ih => intro W h; exact ih _ (addW_nodup h)
  exact key Ws [] List.nodup_nil
theorem total_none {Ws : WS} {K : RK} (h : K ∉ Ws.map (·.2)) : total Ws K = 0 := by
  unfold total
  induction Ws with
  | nil => rfl
  | cons e Ws ih =>
    rw [List.map_cons] at h ⊢
    have h1 : ¬ e.2 = K := fun z => h (by rw [z]; exact List.mem_cons_self)
    rw [if_neg h1, List.sum_cons, ih (fun z => h (List.mem_cons_of_mem _ z))]
    rfl
theorem wants_iff (K : RK) : wants K = true ↔ ∃ r ∈ K, r.1 ≠ 0 := by
  unfold wants
  rw [List.any_eq_true]
  constructor
  · rintro ⟨r, hr, h⟩
    refine ⟨r, hr, fun z => ?_⟩
    rw [z] at h
    simp at h
  · rintro ⟨r, hr, h⟩
    refine ⟨r, hr, ?_⟩
    have : ¬ V.int r.1 = V.int 0 := fun z => h (V.int.inj z)
    simp [this]
theorem kept_iff (Ws : WS) (K : RK) : K ∈ keptK (ofWs Ws) ↔ total Ws K ≠ 0 ∧ wants K = true := by
  obtain ⟨g1, g2⟩ := ofWs_get Ws K
  unfold keptK
  constructor
  · intro h
    obtain ⟨x, hx, rfl⟩ := List.mem_map.mp h
    obtain ⟨h1, h2⟩ := List.mem_filter.mp hx
    unfold keepW at h2
    rw [Bool.and_eq_true] at h2
    have gw := getW_mem (ofWs_nodup Ws) h1
    rw [gw] at g1
    refine ⟨fun z => ?_, h2.2⟩
    have e : x.2 = 0 := g1.trans z
    rw [e] at h2
    simp at h2
  · rintro ⟨h1, h2⟩
    have hin : K ∈ Ws.map (·.2) := by
      by_cases q : K ∈ Ws.map (·.2)
      · exact q
      · exact absurd (total_none q) h1
    have hs := g2.mpr hin
    obtain ⟨m, hm⟩ := Option.isSome_iff_exists.mp hs
    have hf : ∃ x ∈ ofWs Ws, x.1 = K ∧ x.2 = m := by
      unfold getW at hm
      obtain ⟨x, hx, rfl⟩ := Option.map_eq_some_iff.mp hm
      exact ⟨x, List.mem_of_find?_eq_some hx, of_decide_eq_true (List.find?_some (p := fun e : RK × Int => decide (e.1 = K)) hx), rfl⟩
    obtain ⟨x, hx, e1, e2⟩ := hf
    refine List.mem_map.mpr ⟨x, List.mem_filter.mpr ⟨hx, ?_⟩, e1⟩
    unfold keepW
    rw [e1, h2, Bool.and_true]
    rw [hm] at g1
    have : ¬ V.int x.2 = V.int 0 := fun z => h1 (by rw [← g1, ← e2]; exact V.int.inj z)
    simp [this]
theorem kept_nodup (Ws : WS) : (keptK (ofWs Ws)).Nodup := by
  unfold keptK
  exact (List.filter_sublist.map _).nodup (ofWs_nodup Ws)
/-- the plain list, by what it holds -/
theorem plain_eq {n N : Nat} (N0 : 0 < N) {Ws : WS} (ok : ∀ e ∈ Ws, okK' n N e.2) {Ls : List RK} (srt : Ls.Pairwise (RR n N)) (mem : ∀ K, K ∈ Ls ↔ total Ws K ≠ 0 ∧ wants K = true) : plainL n (ofWs Ws) = Ls.map fun K => (total Ws K, K) := by
  have okk : ∀ K ∈ keptK (ofWs Ws), okK' n N K := fun K hK => by
    have h := (kept_iff Ws K).mp hK
    have hin : K ∈ Ws.map (·.2) := by
      by_cases q : K ∈ Ws.map (·.2)
      · exact q
      · exact absurd (total_none q) h.1
    obtain ⟨e, he, rfl⟩ := List.mem_map.mp hin
    exact ok e he
  obtain ⟨a1, a2⟩ := asc_sorted N0 okk (kept_nodup Ws)
  have e : ascK n (keptK (ofWs Ws)) = Ls := sorted_R N0 a1 srt fun K => by rw [a2, kept_iff, mem]
  unfold plainL
  rw [e]
  exact List.map_congr_left fun K _ => by rw [(ofWs_get Ws K).1]
/-! ### the law's own list -/
def insK (keys : List RK) (K : RK) : List RK := keys.takeWhile (fun L => ahead L K) ++ K :: keys.dropWhile (fun L => ahead L K)
def lawKeys (Ws : WS) : List RK := Ws.foldl (fun keys e => if e.2 ∈ keys then keys else insK keys e.2) []
theorem insK_mem (keys : List RK) (K L : RK) : L ∈ insK keys K ↔ L = K ∨ L ∈ keys := by
  unfold insK
  rw [List.mem_append, List.mem_cons]
  conv => rhs; rw [← List.takeWhile_append_dropWhile (p := fun L => ahead L K) (l := keys), List.mem_append]
  constructor
  · rintro (h | h | h)
    · exact .inr (.inl h)
    · exact .inl h
    · exact .inr (.inr h)
  · rintro (h | h | h)
    · exact .inr (.inl h)
    · exact .inl h
    · exact .inr (.inr h)
theorem insK_sorted {n N : Nat} (N0 : 0 < N) {keys : List RK} {K : RK} (ok : ∀ L ∈ keys, okK' n N L) (okK : okK' n N K) (h : keys.Pairwise (RR n N)) (new : K ∉ keys) : (insK keys K).Pairwise (RR n N) := by
  unfold insK
  have sp := List.takeWhile_append_dropWhile (p := fun L => ahead L K) (l := keys)
  have pw := h
  rw [← sp] at pw
  obtain ⟨p1, p2, p3⟩ := List.pairwise_append.mp pw
  have t1 : ∀ a ∈ keys.takeWhile (fun L => ahead L K), RR n N a K := fun a ha => by
    have hm : a ∈ keys := (List.takeWhile_sublist _).subset ha
    have := List.all_eq_true.mp (List.all_takeWhile (p := fun L => ahead L K) (l := keys)) a ha
    exact ⟨ok a hm, okK, this⟩
  have t2 : ∀ b ∈ keys.dropWhile (fun L => ahead L K), RR n N K b := by
    cases hd : keys.dropWhile (fun L => ahead L K) with
    | nil => intro b hb; cases hb
    | cons d ds =>
      have dm : d ∈ keys := (List.dropWhile_sublist (fun L => ahead L K)).subset (by rw [hd]; exact List.mem_cons_self)
      have dn : ahead d K = false := by
        have := List.head?_dropWhile_not (fun L => ahead L K) keys
        rw [hd] at this
        simpa using this
      have first : RR n N K d := RR.total N0 (ok d dm) okK (fun q => new (by rw [← q]; exact dm)) dn
      intro b hb
      rcases List.mem_cons.mp hb with rfl | q
      · exact first
      · rw [hd] at p2
        exact first.trans N0 ((List.pairwise_cons.mp p2).1 b q)
  refine List.pairwise_append.mpr ⟨p1, List.pairwise_cons.mpr ⟨t2, p2⟩, fun a ha b hb => ?_⟩
  rcases List.mem_cons.mp hb with rfl | q
  · exact t1 a ha
  · exact p3 a ha b q
theorem lawKeys_ok {n N : Nat} (N0 : 0 < N) {Ws : WS} (ok : ∀ e ∈ Ws, okK' n N e.2) : (lawKeys Ws).Pairwise (RR n N) ∧ ∀ K, K ∈ lawKeys Ws ↔ K ∈ Ws.map (·.2) := by
  have key : ∀ (Ws : WS) (keys : List RK), (∀ e ∈ Ws, okK' n N e.2) → (∀ L ∈ keys, okK' n N L) → keys.Pairwise (RR n N) →
      (Ws.foldl (fun keys e => if e.2 ∈ keys then keys else insK keys e.2) keys).Pairwise (RR n N) ∧ ∀ K, K ∈ Ws.foldl (fun keys e => if e.2 ∈ keys then keys else insK keys e.2) keys ↔ K ∈ keys ∨ K ∈ Ws.map (·.2) := by
    intro Ws
    induction Ws with
    | nil => intro keys _ _ h; exact ⟨h, fun K => by simp⟩
    | cons e Ws ih =>
      intro keys h1 h2 h3
      rw [List.foldl_cons]
      by_cases q : e.2 ∈ keys
      · rw [if_pos q]
        obtain ⟨a, b⟩ := ih keys (fun x hx => h1 x (List.mem_cons_of_mem _ hx)) h2 h3
        refine ⟨a, fun K => ?_⟩
        rw [b, List.map_cons, List.mem_cons]
        constructor
        · rintro (z | z)
          · exact .inl z
          · exact .inr (.inr z)
        · rintro (z | z | z)
          · exact .inl z
          · exact .inl (by rw [z]; exact q)
          · exact .inr z
      · rw [if_neg q]
        have ok1 := h1 e List.mem_cons_self
        obtain ⟨a, b⟩ := ih (insK keys e.2) (fun x hx => h1 x (List.mem_cons_of_mem _ hx)) (fun L hL => by
          rcases (insK_mem _ _ _).mp hL with z | z
          · rw [z]; exact ok1
          · exact h2 L z) (insK_sorted N0 h2 ok1 h3 q)
        refine ⟨a, fun K => ?_⟩
        rw [b, insK_mem, List.map_cons, List.mem_cons]
        constructor
        · rintro ((z | z) | z)
          · exact .inr (.inl z)
          · exact .inl z
          · exact .inr (.inr z)
        · rintro (z | z | z)
          · exact .inl (.inr z)
          · exact .inl (.inl z)
          · exact .inr z
  obtain ⟨a, b⟩ := key Ws [] ok (fun L hL => nomatch hL) List.Pairwise.nil
  exact ⟨a, fun K => by rw [show lawKeys Ws = Ws.foldl (fun keys e => if e.2 ∈ keys then keys else insK keys e.2) [] from rfl, b]; simp⟩
def condK (Ws : WS) (K : RK) : Bool := decide (total Ws K ≠ 0) && K.any fun r => decide (0 < r.1)
def lawL (Ws : WS) : List (Int × RK) := ((lawKeys Ws).filter (condK Ws)).map fun K => (total Ws K, K)
theorem any_pos {n N : Nat} {K : RK} (ok : okK' n N K) : (K.any fun r => decide (0 < r.1)) = wants K := by
  unfold wants
  rw [Bool.eq_iff_iff, List.any_eq_true, List.any_eq_true]
  constructor
  · rintro ⟨r, hr, h⟩
    refine ⟨r, hr, ?_⟩
    have h' := of_decide_eq_true h
    have : ¬ V.int r.1 = V.int 0 := fun z => by have := V.int.inj z; omega
    simp [this]
  · rintro ⟨r, hr, h⟩
    refine ⟨r, hr, decide_eq_true ?_⟩
    have h0 := (ok.2 r hr).2.2
    have : r.1 ≠ 0 := fun z => by rw [z] at h; simp at h
    omega
/-- the law's list holds what the plain list of any rows with the same sums holds -/
theorem law_plain {n N : Nat} (N0 : 0 < N) {Ws Ws' : WS} (ok : ∀ e ∈ Ws, okK' n N e.2) (ok' : ∀ e ∈ Ws', okK' n N e.2) (same : ∀ K, wants K = true → total Ws' K = total Ws K) : plainL n (ofWs Ws') = lawL Ws := by
  obtain ⟨s, m⟩ := lawKeys_ok N0 ok
  have mem : ∀ K, K ∈ (lawKeys Ws).filter (condK Ws) ↔ total Ws K ≠ 0 ∧ wants K = true := fun K => by
    rw [List.mem_filter, m]
    unfold condK
    constructor
    · rintro ⟨h1, h2⟩
      rw [Bool.and_eq_true] at h2
      obtain ⟨e, he, rfl⟩ := List.mem_map.mp h1
      rw [any_pos (ok e he)] at h2
      exact ⟨of_decide_eq_true h2.1, h2.2⟩
    · rintro ⟨h1, h2⟩
      have hin : K ∈ Ws.map (·.2) := by
        by_cases q : K ∈ Ws.map (·.2)
        · exact q
        · exact absurd (total_none q) h1
      obtain ⟨e, he, rfl⟩ := List.mem_map.mp hin
      refine ⟨hin, ?_⟩
      rw [any_pos (ok e he), h2, Bool.and_true]
      exact decide_eq_true h1
  rw [plain_eq N0 ok' (Ls := (lawKeys Ws).filter (condK Ws)) (s.sublist List.filter_sublist) (fun K => by
    rw [mem]
    constructor
    · rintro ⟨a, b⟩; exact ⟨by rw [same K b]; exact a, b⟩
    · rintro ⟨a, b⟩; exact ⟨by rw [← same K b]; exact a, b⟩)]
  unfold lawL
  exact List.map_congr_left fun K hK => by rw [same K ((mem K).mp hK).2]
end GG



namespace GG
open PySem PySem.Spec PyProof.Rows L2 RZ
def spAhead : Sp := fun vs H Q _ => ∃ (p q : Addr) (K L : RK) (n N : Nat), vs = [.ref p, .ref q] ∧ NK H (.ref p) (keyN K) ∧ NK H (.ref q) (keyN L) ∧ okK' n N K ∧ okK' n N L ∧ 0 < N ∧ N < 2 ^ 60 ∧ ∀ H', Same H H' → Q (.bl (ahead K L)) H'
theorem dR_dp {K : PySem.W.Frag} {H : Hp} {q : Addr} {r : Int × Int} (e : H q = some (.tup [.int r.1, .int r.2])) : Dp K H (.ref q) (dR r) := .tup (.inl (.inl e)) (.cons (.int _) (.cons (.int _) .nil))
theorem dR_sh (r : Int × Int) : SeqAt.shaped (dR r) = true := by
  show (PyData.canLay0 _ && decide (PyData.depth _ ≤ 64)) = true
  simp [dR, PyData.canLay0, PyData.canLayAll0, PyData.depth, PyData.depthAll]
theorem dR_eqv (a b : Int × Int) : PyData.eqv (dR a) (dR b) = decide (a = b) := by
  obtain ⟨a1, a2⟩ := a
  obtain ⟨b1, b2⟩ := b
  rw [Bool.eq_iff_iff]
  simp [dR, PyData.eqv, PyData.eqvAll]
theorem okR.small {N : Nat} (N0 : 0 < N) (N1 : N < 2 ^ 60) {r : Int × Int} (h : okR N r) : smallP r := by
  obtain ⟨⟨g0, g1, g2⟩, _⟩ := h
  have l := Nat.le_of_dvd N0 g1
  have up : (2 : Nat) ^ 60 < 2 ^ 120 := by decide
  exact ⟨g2, by omega, g0⟩
/-- ahead from place i on -/
theorem ahead_drop {K L : RK} {i : Nat} {a b : Int × Int} (ha : K[i]? = some a) (hb : L[i]? = some b) : ahead (K.drop i) (L.drop i) = if a = b then ahead (K.drop (i + 1)) (L.drop (i + 1)) else lessR a b := by
  have e1 : K.drop i = a :: K.drop (i + 1) := by
    obtain ⟨h, e⟩ := List.getElem?_eq_some_iff.mp ha
    rw [← e, List.getElem_cons_drop]
  have e2 : L.drop i = b :: L.drop (i + 1) := by
    obtain ⟨h, e⟩ := List.getElem?_eq_some_iff.mp hb
    rw [← e, List.getElem_cons_drop]
  rw [e1, e2]
  rfl
section
variable {P : Program} {w : World} {K : PySem.W.Frag} {mg : Str → Option Value} {base : Heap}
end
end GG



namespace GG
open PySem PySem.Spec PyProof.Rows L2 RZ
/-- a weight beside its row stands at v -/
def GivV (H : Hp) (v : V) (e : Int × RK) : Prop := ∃ t b, v = .ref t ∧ H t = some (.tup [.int e.1, .ref b]) ∧ RowV H (.ref b) e.2
theorem GivV.same {H H' : Hp} (k : Same H H') {v : V} {e : Int × RK} (h : GivV H v e) : GivV H' v e := by
  obtain ⟨t, b, rfl, e1, r⟩ := h
  exact ⟨t, b, rfl, k _ _ e1, r.same k⟩
theorem GivV.put {H : Hp} {D : Addr} {ys : List V} {o : HO} (eD : H D = some (.lst ys)) {v : V} {e : Int × RK} (h : GivV H v e) : GivV (upd H D o) v e := by
  obtain ⟨t, b, rfl, e1, r⟩ := h
  exact ⟨t, b, rfl, by rw [upd_ne (ne_of e1 eD (by intro z; cases z))]; exact e1, r.put eD⟩
def spLPlain : Sp := fun vs H Q _ => ∃ (a : Addr) (xs : List V) (Ws : WS) (n N : Nat), vs = [.ref a] ∧ H a = some (.lst xs) ∧ Paired (GivV H) xs Ws ∧ (∀ e ∈ Ws, okK' n N e.2) ∧ Ws.length ≤ 60 ∧ n ≤ 3 ∧ 0 < N ∧ N < 2 ^ 60 ∧ ∀ p H', Da H' (.ref p) (.tuple ((lawL Ws).map rowD)) → Same H H' → Q (.ref p) H'
theorem lawKeys_snoc (Ws : WS) (e : Int × RK) : lawKeys (Ws ++ [e]) = if e.2 ∈ lawKeys Ws then lawKeys Ws else insK (lawKeys Ws) e.2 := by
  unfold lawKeys
  rw [List.foldl_append]
  rfl
theorem lawKeys_len (Ws : WS) : (lawKeys Ws).length ≤ Ws.length := by
  have key : ∀ (Ws : WS) (ks : List RK), (Ws.foldl (fun keys e => if e.2 ∈ keys then keys else insK keys e.2) ks).length ≤ ks.length + Ws.length := by
    intro Ws
    induction Ws with
    | nil => intro ks; exact Nat.le_refl _
    | cons e Ws ih =>
      intro ks
      rw [List.foldl_cons, List.length_cons]
      split
      · have := ih ks
        omega
      · have h := ih (insK ks e.2)
        have l : (insK ks e.2).length = ks.length + 1 := by
          unfold insK
          rw [List.length_append, List.length_cons]
          have := congrArg List.length (List.takeWhile_append_dropWhile (p := fun L => ahead L e.2) (l := ks))
          rw [List.length_append] at this
          omega
        omega
  have := key Ws []
  simpa [lawKeys] using this
theorem total_sum (Ws : WS) (K : RK) : ((Ws.filter fun e => decide (e.2 = K)).map (·.1)).sum = total Ws K := by
  unfold total
  induction Ws with
  | nil => rfl
  | cons e Ws ih =>
    rw [List.filter_cons, List.map_cons, List.sum_cons]
    by_cases h : e.2 = K
    · simp only [h, decide_true, if_true]
      rw [List.map_cons, List.sum_cons, ih]
    · simp only [h, decide_false, if_false]
      rw [Int.zero_add]
      exact ih
def rowT (K : RK) : PyData := .tuple (K.map dR)
theorem rowT_sh (K : RK) : SeqAt.shaped (rowT K) = true := by
  have h := depth_dR K
  show (PyData.canLay0 _ && decide (PyData.depth _ ≤ 64)) = true
  rw [Bool.and_eq_true]
  refine ⟨by simp [rowT, PyData.canLay0, canLay_dRs], decide_eq_true ?_⟩
  simp only [rowT, PyData.depth]
  omega
theorem rowTs_sh (Ks : List RK) : SeqAt.shaped (.list (Ks.map rowT)) = true := by
  have h1 : PyData.canLayAll0 (Ks.map rowT) = true := by
    induction Ks with
    | nil => simp [PyData.canLayAll0]
    | cons K Ks ih => simp [PyData.canLayAll0, rowT, PyData.canLay0, canLay_dRs]; exact ih
  have h2 : PyData.depthAll (Ks.map rowT) ≤ 2 := by
    clear h1
    induction Ks with
    | nil => simp [PyData.depthAll]
    | cons K Ks ih =>
      have h := depth_dR K
      rw [List.map_cons]
      simp only [PyData.depthAll, rowT, PyData.depth]
      clear h
      have h := depth_dR K
      omega
  show (PyData.canLay0 _ && decide (PyData.depth _ ≤ 64)) = true
  rw [Bool.and_eq_true]
  refine ⟨by simp [PyData.canLay0, h1], decide_eq_true ?_⟩
  simp only [PyData.depth]
  omega
theorem dRs_eqv : ∀ K L : RK, PyData.eqvAll (K.map dR) (L.map dR) = decide (K = L)
  | [], [] => by simp [PyData.eqvAll]
  | [], _ :: _ => by simp [PyData.eqvAll]
  | _ :: _, [] => by simp [PyData.eqvAll]
  | a :: K, b :: L => by
    rw [List.map_cons, List.map_cons]
    simp only [PyData.eqvAll]
    rw [dR_eqv, dRs_eqv K L, Bool.eq_iff_iff]
    simp
theorem rowT_eqv (K L : RK) : PyData.eqv (rowT K) (rowT L) = decide (K = L) := by
  unfold rowT
  simp only [PyData.eqv]
  exact dRs_eqv K L
theorem RowV.dp {K : PySem.W.Frag} {H : Hp} {v : V} {R : RK} (h : RowV H v R) : Dp K H v (rowT R) := h.da.dp (by simp [noD, noD_dRs])
theorem rows_dp {K : PySem.W.Frag} {H : Hp} {vs : List V} {Ks : List RK} (h : Paired (RowV H) vs Ks) : DpAll K H vs (Ks.map rowT) := by
  induction h with
  | nil => exact .nil
  | cons a _ ih => exact .cons a.dp ih
theorem any_in (Ks : List RK) (K : RK) : ((Ks.map rowT).any fun z => PyData.eqv z (rowT K)) = decide (K ∈ Ks) := by
  rw [Bool.eq_iff_iff, List.any_eq_true, decide_eq_true_iff]
  constructor
  · rintro ⟨z, hz, h⟩
    obtain ⟨L, hL, rfl⟩ := List.mem_map.mp hz
    rw [rowT_eqv] at h
    rw [← of_decide_eq_true h]
    exact hL
  · intro h
    exact ⟨_, List.mem_map.mpr ⟨K, h, rfl⟩, by rw [rowT_eqv]; exact decide_eq_true rfl⟩
theorem cut_take {xs : List V} {j : Nat} : cutV xs none (some (j : Int)) = xs.take j := by
  unfold cutV
  rw [HT.sIx_none, HT.sIx_nat, List.drop_zero, Nat.sub_zero]
  rw [List.take_eq_take_iff]
  omega
theorem cut_drop {xs : List V} {j : Nat} (h : j ≤ xs.length) : cutV xs (some (j : Int)) none = xs.drop j := by
  unfold cutV
  rw [HT.sIx_none, HT.sIx_nat, Nat.min_eq_left h, List.take_of_length_le]
  rw [List.length_drop]
  exact Nat.le_refl _
theorem paired_take {α β : Type} {G : α → β → Prop} {l : List α} {m : List β} (h : Paired G l m) : ∀ j, Paired G (l.take j) (m.take j) := by
  induction h with
  | nil => intro j; simp; exact .nil
  | cons a _ ih =>
    intro j
    cases j with
    | zero => exact .nil
    | succ j => exact .cons a (ih j)
theorem paired_drop {α β : Type} {G : α → β → Prop} {l : List α} {m : List β} (h : Paired G l m) : ∀ j, Paired G (l.drop j) (m.drop j) := by
  induction h with
  | nil => intro j; simp; exact .nil
  | cons a t ih =>
    intro j
    cases j with
    | zero => exact .cons a t
    | succ j => exact ih j
theorem paired_app {α β : Type} {G : α → β → Prop} {l l' : List α} {m m' : List β} (h : Paired G l m) (h' : Paired G l' m') : Paired G (l ++ l') (m ++ m') := by
  induction h with
  | nil => exact h'
  | cons a _ ih => exact .cons a ih
theorem insK_take (ks : List RK) (K : RK) : insK ks K = ks.take (ks.takeWhile (fun L => ahead L K)).length ++ [K] ++ ks.drop (ks.takeWhile (fun L => ahead L K)).length := by
  have e1 : ks.take (ks.takeWhile (fun L => ahead L K)).length = ks.takeWhile (fun L => ahead L K) := by
    conv => lhs; rw [← List.takeWhile_append_dropWhile (p := fun L => ahead L K) (l := ks)]
    rw [List.take_append_of_le_length (by rw [List.takeWhile_append_dropWhile]; exact Nat.le_refl _)]
    rw [List.takeWhile_append_dropWhile, List.take_length]
  have e2 : ks.drop (ks.takeWhile (fun L => ahead L K)).length = ks.dropWhile (fun L => ahead L K) := by
    have := List.takeWhile_append_dropWhile (p := fun L => ahead L K) (l := ks)
    have q := congrArg (List.drop (ks.takeWhile (fun L => ahead L K)).length) this
    rw [List.drop_left] at q
    exact q.symm
  unfold insK
  rw [e1, e2, List.append_assoc]
  rfl
theorem tw_at (ks : List RK) (K : RK) (j : Nat) : (∀ L, ks[j]? = some L → j < (ks.takeWhile (fun L => ahead L K)).length → ahead L K = true) ∧ (∀ L, ks[(ks.takeWhile (fun L => ahead L K)).length]? = some L → ahead L K = false) := by
  constructor
  · intro L hL hj
    have sp := List.takeWhile_append_dropWhile (p := fun L => ahead L K) (l := ks)
    have h2 : (ks.takeWhile (fun L => ahead L K))[j]? = some L := by
      rw [← sp, List.getElem?_append_left hj] at hL
      exact hL
    exact List.all_eq_true.mp (List.all_takeWhile (p := fun L => ahead L K) (l := ks)) L (List.mem_of_getElem? h2)
  · intro L hL
    have sp := List.takeWhile_append_dropWhile (p := fun L => ahead L K) (l := ks)
    have h2 : (ks.dropWhile (fun L => ahead L K))[0]? = some L := by
      have q := hL
      rw [show ks[(ks.takeWhile (fun L => ahead L K)).length]? = (ks.takeWhile (fun L => ahead L K) ++ ks.dropWhile (fun L => ahead L K))[(ks.takeWhile (fun L => ahead L K)).length]? from by rw [sp], List.getElem?_append_right (Nat.le_refl _), Nat.sub_self] at q
      exact q
    have := List.head?_dropWhile_not (fun L => ahead L K) ks
    rw [← List.head?_eq_getElem?] at h2
    rw [h2] at this
    simpa using this
end GG



namespace GG
open PySem PySem.Spec PyProof.Rows L2 RZ
abbrev NLP : List Str := ["_law_rows", "_law_keys", "_law_found", "_law_weight", "_law_numbers", "_law_at", "_law_lap", "_law_key", "_law_one", "_law_top", "_law_bottom"]
theorem bSum : bootBuiltins "sum" = some (.builtin "sum") := by decide +kernel
theorem ones_dp {α : Type} {K : PySem.W.Frag} {H : Hp} (l : List α) : DpAll K H (l.map fun _ => V.int 1) (l.map fun _ => PyData.int 1) := by
  induction l with
  | nil => exact .nil
  | cons _ l ih => exact .cons (.int _) ih
theorem ones_sh {α : Type} (l : List α) : SeqAt.shaped (.list (l.map fun _ => PyData.int 1)) = true := by
  have h1 : PyData.canLayAll0 (l.map fun _ => PyData.int 1) = true := by
    induction l with
    | nil => simp [PyData.canLayAll0]
    | cons _ l ih => simp [PyData.canLayAll0, PyData.canLay0]; exact ih
  have h2 : PyData.depthAll (l.map fun _ => PyData.int 1) ≤ 1 := by
    clear h1
    induction l with
    | nil => simp [PyData.depthAll]
    | cons _ l ih =>
      rw [List.map_cons]
      simp only [PyData.depthAll, PyData.depth]
      omega
  show (PyData.canLay0 _ && decide (PyData.depth _ ≤ 64)) = true
  rw [Bool.and_eq_true]
  refine ⟨by simp [PyData.canLay0, h1], decide_eq_true ?_⟩
  simp only [PyData.depth]
  omega
theorem ones_eqv (L : RK) : (!PyData.eqv (.list ((L.filter fun r => decide (0 < r.1)).map fun _ => PyData.int 1)) (.list [])) = L.any fun r => decide (0 < r.1) := by
  have key : ∀ l : RK, (!PyData.eqv (.list (l.map fun _ => PyData.int 1)) (.list [])) = !l.isEmpty := by
    intro l
    cases l with
    | nil => simp [PyData.eqv, PyData.eqvAll]
    | cons _ l => simp [PyData.eqv, PyData.eqvAll]
  rw [key]
  induction L with
  | nil => rfl
  | cons r L ih =>
    rw [List.filter_cons, List.any_cons]
    cases decide (0 < r.1) with
    | true => rfl
    | false => exact ih
theorem giv_all {H : Hp} {vs : List V} {es : List (Int × RK)} (h : Paired (GivV H) vs es) : DaAll H vs (es.map rowD) := by
  induction h with
  | nil => exact .nil
  | cons a _ ih =>
    obtain ⟨t, b, rfl, e, r⟩ := a
    exact .cons (.tup e (.cons (.int _) (.cons r.da .nil))) ih
theorem GivV.mv {H H' : Hp} {v : V} {e : Int × RK} (h : GivV H v e) (k : Same H H') : GivV H' v e := h.same k
section
variable {P : Program} {w : World} {K : PySem.W.Frag} {mg : Str → Option Value} {base : Heap}
end
end GG



namespace GG
open PySem PySem.Spec PyProof.Rows L2 RZ
abbrev NN : Nat := 693000
theorem stayL {H H' : Hp} (k : Stay H H') {b : Addr} {xs : List V} (e : H b = some (.lst xs)) : H' b = some (.lst xs) := k _ _ e (fun _ _ _ _ _ z => by cases z)
theorem stayT {H H' : Hp} (k : Stay H H') {b : Addr} {xs : List V} (e : H b = some (.tup xs)) : H' b = some (.tup xs) := k _ _ e (fun _ _ _ _ _ z => by cases z)
mutual
theorem NK.stay {H H' : Hp} (k : Stay H H') : ∀ {v : V} {x : NestedKey}, NK H v x → NK H' v x
  | _, _, .int i => .int i
  | _, _, .tup e t => .tup (stayT k e) (t.stay k)
theorem NKs.stay {H H' : Hp} (k : Stay H H') : ∀ {vs : List V} {xs : List NestedKey}, NKs H vs xs → NKs H' vs xs
  | _, _, .nil => .nil
  | _, _, .cons h t => .cons (h.stay k) (t.stay k)
end
theorem RowV.stay {H H' : Hp} (k : Stay H H') {v : V} {K : RK} (h : RowV H v K) : RowV H' v K := by
  obtain ⟨b, rfl, n⟩ := h
  exact ⟨b, rfl, n.stay k⟩
theorem RatV.stay {H H' : Hp} (k : Stay H H') {v : V} {r : Int × Int} (h : RatV H v r) : RatV H' v r := by
  obtain ⟨q, rfl, e⟩ := h
  exact ⟨q, rfl, stayT k e⟩
theorem GivV.stay {H H' : Hp} (k : Stay H H') {v : V} {e : Int × RK} (h : GivV H v e) : GivV H' v e := by
  obtain ⟨t, b, rfl, e1, r⟩ := h
  exact ⟨t, b, rfl, stayT k e1, r.stay k⟩
theorem ratv_nk {H : Hp} {ys : List V} {rs : List (Int × Int)} (h : Paired (RatV H) ys rs) : NKs H ys (rs.map rN) := by
  induction h with
  | nil => exact .nil
  | cons a _ ih =>
    obtain ⟨q, rfl, e⟩ := a
    exact .cons (.tup e (.cons (.int _) (.cons (.int _) .nil))) ih
theorem RatV.put {H : Hp} {D : Addr} {ys : List V} {o : HO} (eD : H D = some (.lst ys)) {v : V} {r : Int × Int} (h : RatV H v r) : RatV (upd H D o) v r := by
  obtain ⟨q, rfl, e⟩ := h
  exact ⟨q, rfl, by rw [upd_ne (ne_of e eD (by intro z; cases z))]; exact e⟩
theorem PenAt.put {H : Hp} {p l D : Addr} {c : Int} {o : HO} (h : PenAt H p l c) (np : p ≠ D) (nl : l ≠ D) : PenAt (upd H D o) p l c := by
  obtain ⟨ns, a, d, f, I⟩ := h
  exact ⟨ns, a, d, f, by rw [upd_ne np]; exact I.obj, by rw [upd_ne nl]; exact I.cel, I.len, I.a0, I.d0, I.c0, I.f0, I.f1⟩
theorem PenAt.ne {H : Hp} {p l D : Addr} {c : Int} (h : PenAt H p l c) (n : H D = none) : p ≠ D ∧ l ≠ D := by
  obtain ⟨ns, a, d, f, I⟩ := h
  exact ⟨ne_of_none I.obj n, ne_of_none I.cel n⟩
def okS (r : Int × Int) : Prop := okR NN r ∧ r.1.natAbs ≤ 1000000
def Okv (H : Hp) (v : V) : Prop := ∃ r, RatV H v r ∧ okS r
theorem okR_lw {t b : Int} (t0 : 0 ≤ t) (t1 : t.natAbs ≤ 1000000) (b0 : 0 < b) (hb : b.natAbs ∣ NN) : okR NN (lw t b) := by
  obtain ⟨s1, s2, s3⟩ := lw_small (t := t) b0
  obtain ⟨e1, e2⟩ := lw_exact t b
  refine ⟨⟨s3, ?_, ?_⟩, lw_copr b0, ?_⟩
  · refine Nat.dvd_trans ?_ hb
    have := congrArg Int.natAbs e2
    rw [Int.natAbs_mul] at this
    exact ⟨_, this.symm⟩
  · have up : (1000000 : Nat) < 2 ^ 120 := by decide
    omega
  · exact Int.ediv_nonneg t0 (Int.natCast_nonneg _)
theorem okR_one {t : Int} (t0 : 0 ≤ t) (t1 : t.natAbs ≤ 1000000) : okR NN (t, 1) := by
  refine ⟨⟨by show (0 : Int) < 1; decide, (show (1 : Int).natAbs ∣ NN from Nat.one_dvd _), ?_⟩, ?_, t0⟩
  · have up : (1000000 : Nat) < 2 ^ 120 := by decide
    show t.natAbs < 2 ^ 120
    omega
  · show Nat.gcd t.natAbs 1 = 1
    exact Nat.gcd_one_right _
theorem sm250 {z : Int} (h : z.natAbs ≤ 1000000) : z.natAbs < 2 ^ 250 := by
  have up : (1000000 : Nat) < 2 ^ 250 := by decide
  omega
theorem dvd12 {m : Int} (m0 : 0 ≤ m) (m1 : m < 12) : (1 + m).natAbs ∣ NN := by
  obtain ⟨k, rfl⟩ : ∃ k : Nat, m = (k : Int) := ⟨m.toNat, by omega⟩
  have key : ∀ k : Nat, k < 12 → (1 + k) ∣ NN := by decide
  have := key k (by omega)
  have e : (1 + (k : Int)).natAbs = 1 + k := by omega
  rw [e]
  exact this
theorem okS_lw {t b : Int} (t0 : 0 ≤ t) (t1 : t.natAbs ≤ 1000000) (b0 : 0 < b) (hb : b.natAbs ∣ NN) : okS (lw t b) :=
  ⟨okR_lw t0 t1 b0 hb, Nat.le_trans (lw_small (t := t) b0).1 t1⟩
theorem okS_one {t : Int} (t0 : 0 ≤ t) (t1 : t.natAbs ≤ 1000000) : okS (t, 1) := ⟨okR_one t0 t1, t1⟩
def spGiven : Sp := fun vs H Q _ => ∃ (p l : Addr) (c : Int) (k : Nat), vs = [.ref p, .int (k : Int)] ∧ PenAt H p l c ∧ c < 10000000 ∧ 1 ≤ k ∧ k ≤ 3 ∧
  ∀ (a : Addr) (xs : List V) (Ws : WS) (c' : Int) (H' : Hp), H' a = some (.lst xs) → H a = none → Paired (GivV H') xs Ws → (∀ e ∈ Ws, okK' k NN e.2 ∧ e.1.natAbs ≤ 9 ∧ ∀ r ∈ e.2, r.1.natAbs ≤ 1000000) → Ws.length ≤ 11 → c' ≤ c + 60 → PenAt H' p l c' → Keep p H H' → Q (.ref a) H'
abbrev NG : List Str := ["_law_pen_here", "_law_kinds", "_law_rows", "_law_some", "_law_lap", "_law_k"]
section
variable {P : Program} {w : World} {K : PySem.W.Frag} {mg : Str → Option Value} {base : Heap}
end
end GG



namespace GG
open PySem PySem.Spec PyProof.Rows L2 RZ
theorem tuple_mul1 (l : Addr) (items : Array Value) (n : Nat) (dd : Option Addr) (sl : Array (Option Value)) (u : Tok) :
    Meets (Builtin.«tuple.__mul__» { pos := [Value.ref l, Value.int 1 u] }) fun _ R s =>
      s.heap.get? l = some { cls := Value.type "tuple", dict := dd, data := Data.seq items n, slots := sl } ∧ R (Except.ok (Flow.ret (Value.ref l))) s := by
  refine Meets.of_wp fun prog w A R s h => ?_
  obtain ⟨hp, g, d, tk, os⟩ := s
  obtain ⟨hl, h⟩ := h
  have f1 := AutoSeq1.idx_int
  conv => arg 3; whnf
  refine wpAny_bind (m := load l) (wpAny_load' hl ?_)
  conv => arg 3; whnf
  have c1 : (items.isEmpty || (1 : Int) == 1) = true := by simp
  refine @wpAny_ite_true _ _ _ _ _ _ _ _ _ _ (decide_eq_true c1) ?_
  conv => arg 3; whnf
  refine wpAny_bind (m := load l) (wpAny_load' hl ?_)
  conv => arg 3; whnf
  refine wpAny_bind (m := rule _) (wpAny_rule ?_)
  conv => arg 3; whnf
  exact wpAny_pure ⟨_, rfl, h⟩
def rRep1 (K : PySem.W.Frag) : R2 := fun x y H Q => ∃ l k xs, x = .ref l ∧ y = .int k ∧ SqT K H l xs ∧ k = 1 ∧ Q (.ref l) H
theorem op_rep1 {X : Cx} : OpR X (binaryOp .Mult) (rRep1 X.K) := by
  intro pins s σ H x y v u Q I rx ry h
  obtain ⟨l, k, xs, rfl, rfl, hT, rfl, q⟩ := h
  cases rx
  obtain ⟨t, rfl⟩ := ry
  obtain ⟨its, r, ⟨w, ho, hc, n, hd⟩, hs⟩ := Inv.tuple I hT
  obtain ⟨cls, dd, data, sl⟩ := w
  dsimp only at hc hd
  subst hc hd
  refine wpAny_binaryOp_repeat_ref (by decide) ⟨_, ho, rfl⟩ (fun s' => typeIs_int s' 1 t) noFill_tuple_mul F.fills_int_mul F.slot_int_rmul repeat_tuple F.slot_int_index.lookup
    (call_meets F.slot_int_rmul (typeIs_int s 1 t) F.entry_int_rmul (F.args_int_rmul_2 _ _) (int_rmul_tuple 1 t l its.toArray n dd sl) ⟨ho, rfl, ⟨_, ho, rfl⟩, call_meets F.slot_tuple_mul ⟨_, ho, rfl⟩ F.entry_tuple_mul (F.args_tuple_mul_2 _ _) (tuple_mul1 l its.toArray n dd sl t) ⟨ho, ?_⟩⟩)
  exact ⟨.ref l, H, I, rfl, q⟩
/-- tuple * k, from 1 on -/
def rRepA : R2 := fun x y H Q => ∃ l k xs, x = .ref l ∧ y = .int k ∧ H l = some (.tup xs) ∧ xs ≠ [] ∧ xs.length ≤ 1000 ∧ 1 ≤ k ∧ k ≤ 1000 ∧ ∀ p H', H' p = some (.tup (List.replicate k.toNat xs).flatten) → Same H H' → Q (.ref p) H'
theorem op_repA {X : Cx} : OpR X (binaryOp .Mult) rRepA := by
  intro pins s σ H x y v u Q I rx ry h
  obtain ⟨l, k, xs, ex, ey, hT, ne, ln, k1, k2, q⟩ := h
  by_cases e : k = 1
  · refine op_rep1 pins s σ H x y v u Q I rx ry ⟨l, k, xs, ex, ey, SqT.of hT, e, q l H ?_ (L2.Same.refl H)⟩
    rw [e, hT]
    simp
  · exact op_repT pins s σ H x y v u Q I rx ry ⟨l, k, xs, ex, ey, SqT.of hT, ne, by omega, k2, ln, fun p np => q p _ upd_same (GG.Same.new (L2.Same.refl H) np)⟩
theorem rep1 (n : Nat) (v : V) : (List.replicate n [v]).flatten = List.replicate n v := by
  induction n with
  | zero => rfl
  | succ n ih => rw [List.replicate_succ, List.flatten_cons, ih, List.replicate_succ]; rfl
end GG



namespace GG
open PySem PySem.Spec PyProof.Rows L2 RZ
theorem log250 {i : Int} (h : i.natAbs < 2 ^ 250) : i.natAbs.log2 < 1920 := log2_small (Nat.lt_of_lt_of_le h (Nat.pow_le_pow_right (by decide) (by decide)))
/-! ### repr of any datum -/
theorem call_reprD {X : Cx} (hg : X.A.guards = some []) (hu : X.A.units + 80 < cLine) : CallR X (.builtin "repr") (fun xs H Q => ∃ v d, xs = [v] ∧ Da H v d ∧ noL d = true ∧ d.showable = true ∧ d.depth ≤ 60 ∧ d.shown.length ≤ sizeLine ∧ Q (.str d.shown) H) := by
  intro pins s σ H xs us Q I r h
  obtain ⟨v, d, rfl, da, hn, hs, hd, hz, q⟩ := h
  have refs : ∀ a, v = .ref a → wpAny (model X.prog X.w) X.A (call (.builtin "repr") us) (EP X pins σ Q) X.xe s := fun a e => by
    subst e
    exact call_repr hg hu pins s σ H [.ref a] us Q I r ⟨a, d, rfl, da.dt hn, hs, hd, hz, q⟩
  cases da with
  | lst _ _ _ => exact refs _ rfl
  | tup _ _ => exact refs _ rfl
  | dic _ _ => exact refs _ rfl
  | non =>
    obtain ⟨u, rfl, ru⟩ := vals1 r
    cases ru
    rw [PyData.shown_none] at q
    exact PySem.P.repr_of_none ⟨.str _, H, I.tok _, ⟨_, rfl⟩, q⟩
  | bl b =>
    obtain ⟨u, rfl, ru⟩ := vals1 r
    cases ru
    rw [PyData.shown_bool] at q
    refine PySem.P.repr_of_bool ⟨.str _, H, I.tok _, ⟨_, rfl⟩, ?_⟩
    cases b <;> exact q
  | int i =>
    obtain ⟨u, rfl, t, rfl⟩ := vals1 r
    rw [PyData.shown_int] at q
    simp only [PyData.showable, decide_eq_true_eq] at hs
    exact PySem.P.repr_of_int hs ⟨.str _, H, I.tok _, ⟨_, rfl⟩, q⟩
  | str x =>
    obtain ⟨u, rfl, t, rfl⟩ := vals1 r
    rw [PyData.shown_str] at q hz
    exact PySem.P.repr_of_str ⟨.str _, H, I.tok _, ⟨_, rfl⟩, q⟩ hz
theorem bRepr : bootBuiltins "repr" = some (.builtin "repr") := by decide +kernel
/-! ### texts that are right all through -/
theorem ok_of {s : String} : PyData.strOk (Str.ofString s) = true := by
  unfold PyData.strOk
  rw [Str.ofString_eq_toList]
  rw [Array.all_eq_true']
  intro c hc
  rw [List.mem_toArray] at hc
  obtain ⟨x, _, rfl⟩ := List.mem_map.mp hc
  have v := x.valid
  refine decide_eq_true ?_
  show x.val.toNat < 0x110000
  rcases v with v | v
  · exact Nat.lt_trans v (by decide)
  · exact v.2
theorem ok_app {x y : Str} (hx : PyData.strOk x = true) (hy : PyData.strOk y = true) : PyData.strOk (x ++ y) = true := by
  unfold PyData.strOk at *
  show (x.cps ++ y.cps).all _ = true
  rw [Array.all_append, hx, hy]
  rfl
theorem ok_join {sep : Str} (hs : PyData.strOk sep = true) : ∀ {l : List Str}, (∀ x ∈ l, PyData.strOk x = true) → PyData.strOk (Str.join sep l) = true
  | [], _ => (by decide +kernel : PyData.strOk Str.empty = true)
  | [x], h => h x List.mem_cons_self
  | x :: y :: r, h => ok_app (ok_app (h x List.mem_cons_self) hs) (ok_join hs fun z hz => h z (List.mem_cons_of_mem _ hz))
/-- what may be shown, and compared as a text -/
structure Sw (k n : Nat) (d : PyData) : Prop where
  sh : d.showable = true
  dp : d.depth ≤ k
  ln : d.shown.length ≤ n
  st : PyData.strOk d.shown = true
theorem Sw.mono {k k' n n' : Nat} {d : PyData} (h : Sw k n d) (a : k ≤ k') (b : n ≤ n') : Sw k' n' d := ⟨h.sh, Nat.le_trans h.dp a, Nat.le_trans h.ln b, h.st⟩
theorem all_shown {ds : List PyData} (h : ∀ d ∈ ds, PyData.strOk d.shown = true) : ∀ x ∈ PyData.shownAll ds, PyData.strOk x = true := by
  induction ds with
  | nil => intro x hx; simp [PyData.shownAll] at hx
  | cons d ds ih =>
    intro x hx
    rw [PyData.shownAll_cons] at hx
    rcases List.mem_cons.mp hx with rfl | m
    · exact h d List.mem_cons_self
    · exact ih (fun z hz => h z (List.mem_cons_of_mem _ hz)) x m
theorem sh_all {ds : List PyData} (h : ∀ d ∈ ds, d.showable = true) : PyData.showableAll ds = true := by
  induction ds with
  | nil => simp [PyData.showableAll]
  | cons d ds ih =>
    simp only [PyData.showableAll, Bool.and_eq_true]
    exact ⟨h d List.mem_cons_self, ih fun z hz => h z (List.mem_cons_of_mem _ hz)⟩
theorem dp_all {k : Nat} {ds : List PyData} (h : ∀ d ∈ ds, d.depth ≤ k) : PyData.depthAll ds ≤ k := by
  induction ds with
  | nil => simp [PyData.depthAll]
  | cons d ds ih =>
    simp only [PyData.depthAll]
    have h1 := h d List.mem_cons_self
    have h2 := ih fun z hz => h z (List.mem_cons_of_mem _ hz)
    omega
theorem Sw.tuple {k n : Nat} {ds : List PyData} (h : ∀ d ∈ ds, Sw k n d) : Sw (k + 1) ((n + 2) * ds.length + 4) (.tuple ds) := by
  refine ⟨?_, ?_, tuple_len ds n fun d hd => (h d hd).ln, ?_⟩
  · simp only [PyData.showable]
    exact sh_all fun d hd => (h d hd).sh
  · have := dp_all fun d hd => (h d hd).dp
    simp only [PyData.depth]
    omega
  · rw [PyData.shown_tuple]
    exact ok_app (ok_app ok_of (ok_join ok_of (all_shown fun d hd => (h d hd).st))) ok_of
theorem Sw.list {k n : Nat} {ds : List PyData} (h : ∀ d ∈ ds, Sw k n d) : Sw (k + 1) ((n + 2) * ds.length + 4) (.list ds) := by
  refine ⟨?_, ?_, list_len ds n fun d hd => (h d hd).ln, ?_⟩
  · simp only [PyData.showable]
    exact sh_all fun d hd => (h d hd).sh
  · have := dp_all fun d hd => (h d hd).dp
    simp only [PyData.depth]
    omega
  · rw [PyData.shown_list]
    exact ok_app (ok_app ok_of (ok_join ok_of (all_shown fun d hd => (h d hd).st))) ok_of
theorem Sw.int {i : Int} (h : i.natAbs < 2 ^ 250) : Sw 0 2000 (.int i) := by
  refine ⟨?_, ?_, ?_, ?_⟩
  · simp only [PyData.showable, decide_eq_true_eq]
    exact log250 h
  · simp [PyData.depth]
  · rw [PyData.shown_int]
    exact Nat.le_trans (int_text_len_1921 (log250 h)) (by decide)
  · rw [PyData.shown_int]
    exact ok_of
/-! ### sums again -/
theorem total_app (A B : WS) (K : RK) : total (A ++ B) K = total A K + total B K := by
  unfold total
  induction A with
  | nil => simp
  | cons e A ih =>
    rw [List.cons_append, List.map_cons, List.map_cons, List.sum_cons, List.sum_cons, ih, Int.add_assoc]
theorem total_one (e : Int × RK) (K : RK) : total [e] K = if e.2 = K then e.1 else 0 := by
  unfold total
  rw [List.map_cons, List.map_nil, List.sum_cons, List.sum_nil, Int.add_zero]
theorem total_rev (A : WS) (K : RK) : total A.reverse K = total A K := by
  induction A with
  | nil => rfl
  | cons e A ih =>
    rw [List.reverse_cons, total_app, ih, show e :: A = [e] ++ A from rfl, total_app, Int.add_comm]
def again (n : Nat) (Ws : WS) : WS := Ws.reverse ++ [(0, List.replicate n (3, 1)), (7, List.replicate n (0, 1))]
theorem again_total {n : Nat} {Ws : WS} {K : RK} (h : wants K = true) : total (again n Ws) K = total Ws K := by
  unfold again
  rw [total_app, total_rev, show [((0 : Int), List.replicate n ((3 : Int), (1 : Int))), (7, List.replicate n (0, 1))] = [(0, List.replicate n (3, 1))] ++ [(7, List.replicate n (0, 1))] from rfl, total_app, total_one, total_one]
  have h0 : ¬ List.replicate n ((0 : Int), (1 : Int)) = K := fun e => by
    obtain ⟨r, hr, z⟩ := (wants_iff K).mp h
    rw [← e] at hr
    rw [(List.mem_replicate.mp hr).2] at z
    exact z rfl
  dsimp only
  rw [if_neg h0]
  split <;> omega
theorem okK_rep {n : Nat} {t : Int} (t0 : 0 ≤ t) (t1 : t.natAbs ≤ 1000000) : okK' n NN (List.replicate n (t, 1)) :=
  ⟨List.length_replicate, fun r hr => by rw [(List.mem_replicate.mp hr).2]; exact okR_one t0 t1⟩
theorem again_ok {n : Nat} {Ws : WS} (ok : ∀ e ∈ Ws, okK' n NN e.2) : ∀ e ∈ again n Ws, okK' n NN e.2 := by
  intro e he
  unfold again at he
  rcases List.mem_append.mp he with q | q
  · exact ok e (List.mem_reverse.mp q)
  · simp only [List.mem_cons, List.not_mem_nil, or_false] at q
    rcases q with rfl | rfl
    · exact okK_rep (by decide) (by decide)
    · exact okK_rep (by decide) (by decide)
theorem again_plain {n : Nat} {Ws : WS} (ok : ∀ e ∈ Ws, okK' n NN e.2) : plainL n (ofWs (again n Ws)) = lawL Ws := law_plain (by decide) ok (again_ok ok) fun _ h => again_total h
theorem first_plain {n : Nat} {Ws : WS} (ok : ∀ e ∈ Ws, okK' n NN e.2) : plainL n (ofWs Ws) = lawL Ws := law_plain (by decide) ok ok fun _ _ => rfl
/-! ### bids given as they may be -/
def BidV (H : Hp) (n : Nat) (v : V) (e : Int × RK) : Prop := ∃ d, Da H v d ∧ isBid d (n : Int) = true ∧ smallBid d ∧ bidOf d = e
theorem BidV.stay {H H' : Hp} (k : Stay H H') {n : Nat} {v : V} {e : Int × RK} (h : BidV H n v e) : BidV H' n v e := by
  obtain ⟨d, a, b⟩ := h
  exact ⟨d, a.stay k, b⟩
theorem bids_all {H : Hp} {n : Nat} {vs : List V} {Ws : WS} (h : Paired (BidV H n) vs Ws) : ∃ rd, DaAll H vs rd ∧ rd.map bidOf = Ws ∧ rd.length = Ws.length ∧ ∀ d ∈ rd, isBid d (n : Int) = true ∧ smallBid d := by
  induction h with
  | nil => exact ⟨[], .nil, rfl, rfl, fun d hd => nomatch hd⟩
  | cons a _ ih =>
    obtain ⟨rd, h1, h2, h4, h3⟩ := ih
    obtain ⟨d, b1, b2, b3, b4⟩ := a
    refine ⟨d :: rd, .cons b1 h1, by rw [List.map_cons, h2, b4], by rw [List.length_cons, List.length_cons, h4], fun x hx => ?_⟩
    rcases List.mem_cons.mp hx with rfl | q
    · exact ⟨b2, b3⟩
    · exact h3 x q
theorem paired_rev {α β : Type} {G : α → β → Prop} {l : List α} {m : List β} (h : Paired G l m) : Paired G l.reverse m.reverse := by
  induction h with
  | nil => exact .nil
  | cons a _ ih =>
    rw [List.reverse_cons, List.reverse_cons]
    exact Paired.snoc ih a
theorem rows_ok {n : Nat} {Ws : WS} {rd : List PyData} (n1 : 1 ≤ n) (n3 : n ≤ 3) (l60 : Ws.length ≤ 60) (ok : ∀ e ∈ Ws, okK' n NN e.2) (e : rd.map bidOf = Ws) (ln : rd.length = Ws.length) (g : ∀ d ∈ rd, isBid d (n : Int) = true ∧ smallBid d) : RowsOk n NN rd := by
  refine ⟨by omega, n1, n3, by decide, by decide, fun d hd => ⟨(g d hd).1, (g d hd).2, fun r hr => ?_⟩⟩
  have m : bidOf d ∈ Ws := by
    rw [← e]
    exact List.mem_map.mpr ⟨d, hd, rfl⟩
  exact ((ok _ m).2 r hr).1
theorem plain_rowD (n : Nat) (rd : List PyData) {Ws : WS} (e : rd.map bidOf = Ws) : plainD n (wOf rd) = .tuple ((plainL n (ofWs Ws)).map rowD) := by
  rw [wOf_map, e]
  rfl
/-- a number as it may be passed -/
def NumD (d : PyData) (r : Int × Int) : Prop := isR d = true ∧ ratOf d = r ∧ smallR d
theorem bid_ok {n : Nat} {w : Int} {d y : PyData} {ds : List PyData} {K : RK} (e1 : seqOf d = some [.int w, y]) (e2 : seqOf y = some ds) (nd : Paired NumD ds K) (n3 : n ≤ 3) (ok : okK' n NN K) : isBid d (n : Int) = true ∧ smallBid d ∧ bidOf d = (w, K) := by
  have ln := Paired.length nd
  have lk := ok.1
  have each : ∀ (ds : List PyData) (K : RK), Paired NumD ds K → (∀ r ∈ K, okR NN r) → ds.all isZ = true ∧ (∀ x ∈ ds, smallR x) ∧ ds.map ratOf = K := by
    intro ds K h
    induction h with
    | nil => intro _; exact ⟨rfl, (fun x hx => nomatch hx), rfl⟩
    | @cons x r ds K a _ ih =>
      intro o
      obtain ⟨i1, i2, i3⟩ := ih fun r hr => o r (List.mem_cons_of_mem _ hr)
      obtain ⟨a1, a2, a3⟩ := a
      have o1 := (o r List.mem_cons_self).2.2
      refine ⟨?_, ?_, by rw [List.map_cons, i3, a2]⟩
      · rw [List.all_cons, i1, Bool.and_true]
        unfold isZ
        rw [a1, a2, decide_eq_true o1]
        rfl
      · intro z hz
        rcases List.mem_cons.mp hz with rfl | q
        · exact a3
        · exact i2 z q
  obtain ⟨h1, h2, h3⟩ := each ds K nd ok.2
  refine ⟨?_, ?_, ?_⟩
  · unfold isBid
    rw [e1]
    dsimp only
    unfold areP
    rw [e2]
    dsimp only
    rw [h1, decide_eq_true (by omega)]
    rfl
  · unfold smallBid
    rw [e1]
    dsimp only
    unfold smallS
    rw [e2]
    exact ⟨by omega, h2⟩
  · unfold bidOf
    rw [e1]
    dsimp only
    rw [e2]
    dsimp only
    rw [h3]
/-! ### what is shown -/
theorem lawL_mem {Ws : WS} {e : Int × RK} (h : e ∈ lawL Ws) : ∃ K, e = (total Ws K, K) ∧ K ∈ lawKeys Ws := by
  unfold lawL at h
  obtain ⟨K, hK, rfl⟩ := List.mem_map.mp h
  exact ⟨K, rfl, (List.mem_filter.mp hK).1⟩
theorem lawL_len (Ws : WS) : (lawL Ws).length ≤ Ws.length := by
  unfold lawL
  rw [List.length_map]
  exact Nat.le_trans (List.length_filter_le _ _) (lawKeys_len Ws)
theorem total_abs {Ws : WS} {K : RK} (h : ∀ e ∈ Ws, e.1.natAbs ≤ 9) : (total Ws K).natAbs ≤ 9 * Ws.length := by
  unfold total
  induction Ws with
  | nil => exact Nat.zero_le _
  | cons e Ws ih =>
    have i := ih fun x hx => h x (List.mem_cons_of_mem _ hx)
    have e1 := h e List.mem_cons_self
    rw [List.map_cons, List.sum_cons, List.length_cons]
    split <;> omega
theorem sw_rat {r : Int × Int} (h : okR NN r) : Sw 1 4008 (dR r) := by
  have h2 : r.2.natAbs ≤ 693000 := Nat.le_of_dvd (by decide) h.1.2.1
  have a : Sw 0 2000 (.int r.1) := Sw.int (small250 h.1.2.2)
  have b : Sw 0 2000 (.int r.2) := Sw.int (sm250 (by omega))
  exact Sw.tuple (ds := [.int r.1, .int r.2]) fun d hd => by
    simp only [List.mem_cons, List.not_mem_nil, or_false] at hd
    rcases hd with rfl | rfl
    · exact a
    · exact b
theorem sw_row {n : Nat} {e : Int × RK} (n3 : n ≤ 3) (w : e.1.natAbs ≤ 1000) (ok : okK' n NN e.2) : Sw 3 30000 (rowD e) := by
  have a : Sw 2 12040 (.tuple (e.2.map dR)) := by
    refine (Sw.tuple (k := 1) (n := 4008) fun d hd => ?_).mono (Nat.le_refl _) ?_
    · obtain ⟨r, hr, rfl⟩ := List.mem_map.mp hd
      exact sw_rat (ok.2 r hr)
    · rw [List.length_map, ok.1]
      omega
  have b : Sw 2 12040 (.int e.1) := (Sw.int (sm250 (by omega))).mono (by decide) (by decide)
  refine (Sw.tuple (ds := [.int e.1, .tuple (e.2.map dR)]) (k := 2) (n := 12040) fun d hd => ?_).mono (Nat.le_refl _) (by show (12040 + 2) * 2 + 4 ≤ 30000; decide)
  simp only [List.mem_cons, List.not_mem_nil, or_false] at hd
  rcases hd with rfl | rfl
  · exact b
  · exact a
theorem sw_law {n : Nat} {Ws : WS} (n3 : n ≤ 3) (l11 : Ws.length ≤ 11) (ok : ∀ e ∈ Ws, okK' n NN e.2 ∧ e.1.natAbs ≤ 9) : Sw 4 400000 (.tuple ((lawL Ws).map rowD)) := by
  refine (Sw.tuple (k := 3) (n := 30000) fun d hd => ?_).mono (Nat.le_refl _) ?_
  · obtain ⟨e, he, rfl⟩ := List.mem_map.mp hd
    obtain ⟨K, rfl, hK⟩ := lawL_mem he
    have hin := ((lawKeys_ok (n := n) (N := NN) (by decide) fun e he => (ok e he).1).2 K).mp hK
    obtain ⟨z, hz, rfl⟩ := List.mem_map.mp hin
    refine sw_row n3 ?_ (ok z hz).1
    have := total_abs (K := z.2) fun e he => (ok e he).2
    show (total Ws z.2).natAbs ≤ 1000
    omega
  · rw [List.length_map]
    have := lawL_len Ws
    omega
theorem noL_rows (es : List (Int × RK)) : noLs (es.map rowD) = true := by
  induction es with
  | nil => simp [noLs]
  | cons x xs ih => simp [noLs, noL, rowD, noL_dRs]; exact ih
theorem sw_pair {n : Nat} {Ws : WS} (n3 : n ≤ 3) (l11 : Ws.length ≤ 11) (ok : ∀ e ∈ Ws, okK' n NN e.2 ∧ e.1.natAbs ≤ 9) : Sw 5 900000 (.tuple [.int (n : Int), .tuple ((lawL Ws).map rowD)]) := by
  refine (Sw.tuple (ds := [.int (n : Int), .tuple ((lawL Ws).map rowD)]) (k := 4) (n := 400000) fun d hd => ?_).mono (Nat.le_refl _) (by show (400000 + 2) * 2 + 4 ≤ 900000; decide)
  simp only [List.mem_cons, List.not_mem_nil, or_false] at hd
  rcases hd with rfl | rfl
  · exact (Sw.int (sm250 (by omega))).mono (by decide) (by decide)
  · exact sw_law n3 l11 ok
end GG



namespace GG
open PySem PySem.Spec PyProof.Rows L2
/-! ### what is new -/
def mask (H G : Hp) : Hp := fun b => match H b with
  | some _ => none
  | none => G b
theorem mask_at {H G : Hp} {a : Addr} {o : HO} (z : H a = none) (e : G a = some o) : mask H G a = some o := by
  unfold mask
  rw [z]
  exact e
theorem mask_in {H G : Hp} {a : Addr} {o : HO} (e : mask H G a = some o) : H a = none ∧ G a = some o := by
  unfold mask at e
  cases q : H a with
  | some x => rw [q] at e; cases e
  | none => rw [q] at e; exact ⟨rfl, e⟩
theorem mask_stay {H G G' : Hp} (k : Stay G G') : Stay (mask H G) (mask H G') := fun b o e n => by
  obtain ⟨z, e2⟩ := mask_in e
  exact mask_at z (k b o e2 n)
theorem free_of {H G : Hp} {p l t : Addr} {c : Int} (K : Keep p H G) (P : PenAt G p l c) (n : G t = none) : H t = none := by
  cases e : H t with
  | none => rfl
  | some o =>
    exfalso
    by_cases q : t = p
    · obtain ⟨_, _, _, _, I⟩ := P
      rw [q, I.obj] at n
      cases n
    · rw [K t o q e] at n
      cases n
/-- what stands in B stands in G, be it changed -/
def Dm (B G : Hp) : Prop := ∀ b, G b = none → B b = none
theorem Dm.refl {B : Hp} : Dm B B := fun _ h => h
theorem Dm.trans {A B G : Hp} (a : Dm A B) (b : Dm B G) : Dm A G := fun x h => a x (b x h)
theorem Dm.keep {G G' : Hp} {p l : Addr} {c : Int} (K : Keep p G G') (P : PenAt G' p l c) : Dm G G' := fun b h => free_of K P h
theorem Dm.upd {G : Hp} {x : Addr} {o : HO} : Dm G (L2.upd G x o) := fun b h => by
  by_cases q : b = x
  · rw [q, upd_same] at h
    cases h
  · rw [upd_ne q] at h
    exact h
theorem Dm.same {G G' : Hp} (S : Same G G') : Dm G G' := fun b h => by
  cases e : G b with
  | none => rfl
  | some o => rw [S b o e] at h; cases h
theorem mask_le {A B G : Hp} (d : Dm A B) : Stay (mask B G) (mask A G) := fun b o e _ => by
  obtain ⟨z, e2⟩ := mask_in e
  exact mask_at (d b z) e2
theorem mask_sub {B G : Hp} : Stay (mask B G) G := fun b o e _ => (mask_in e).2
theorem mask_upd {B G : Hp} {x : Addr} {o u : HO} (h : B x = some u) : Stay (mask B G) (mask B (L2.upd G x o)) := fun b o' e _ => by
  obtain ⟨z, e2⟩ := mask_in e
  refine mask_at z ?_
  rw [upd_ne (fun q => by rw [q, h] at z; cases z)]
  exact e2
def spPassed2 : Sp := fun vs H Q _ => ∃ (p l r : Addr) (c : Int) (a : Int × Int), vs = [.ref p, .ref r] ∧ PenAt H p l c ∧ c < 10000000 ∧ H r = some (.tup [.int a.1, .int a.2]) ∧ mid a ∧
  ∀ (v : V) (d : PyData) (c' : Int) (H' : Hp), c ≤ c' → c' ≤ c + 3 → PenAt H' p l c' → Keep p H H' → Da (mask H H') v d → isR d = true → ratOf d = a → smallR d → Q v H'
theorem mid_of {N : Nat} (N0 : 0 < N) (N1 : N < 2 ^ 60) {r : Int × Int} (h : okR N r) (h' : r.1.natAbs ≤ 1000000) : mid r := by
  obtain ⟨⟨g0, g1, g2⟩, g3, _⟩ := h
  have l := Nat.le_of_dvd N0 g1
  have up : (2 : Nat) ^ 60 < 2 ^ 100 := by decide
  have up2 : (1000000 : Nat) < 2 ^ 100 := by decide
  exact ⟨by omega, by omega, g0, g3⟩
section
variable {P : Program} {w : World} {K : PySem.W.Frag} {mg : Str → Option Value} {base : Heap}
theorem kn_passed2 (D : DefIs K mg "_law_passed" sPassed) (B1 : Kn P w K mg base "_law_draw" 1 ["_law_pen_here", "_law_many"] spDraw) (B2 : Kn P w K mg base "_law_pick" 2 ["_law_pen_here", "_law_some"] (spPick K)) : Kn P w K mg base "_law_passed" 3 ["_law_pen_here", "_law_ratio"] spPassed2 := by
  refine .of D (fun _ _ _ _ _ _ us hl => match us, hl with | [_, _], _ => rfl) fun _ _ F => ?_
  refine F.ok scPassed (fun vs H Q E h => ?_) (fun cdv A outer s H vs Q E hr h => ?_)
  · obtain ⟨p, l, r, c, a, rfl, _⟩ := h
    rfl
  · obtain ⟨p, l, r, c, a, rfl, P0, c0, er, m, k⟩ := h
    have hr1 : Room 1 _ := hr.mono (by decide)
    refine ⟨_, Evl.pss_cut (ps_if (PW.pt (pw_and (pt_cmpR op_eq (pe_ix ix_tup (pv 1) pe_int (fun _ _ => rfl)) pe_int (nomark _)) (pw_and1 (pt_cmpR op_eq (pe_kn B1 hr1 (pa_cons (pv 0) (pa_cons pe_int pa_nil))) pe_int (nomark _)))))
        (pss_one (ps_ret (pe_ix ix_tup (pv 1) pe_int (fun _ _ => rfl)))) pss_nil)
      (pss_cons (ps_set (i := 2) scPassed.nd rfl (.inl rfl) (pe_kn B2 hr (pa_cons (pv 0) (pa_cons (pe_lst (pa_cons pe_int (pa_cons pe_int (pa_cons pe_int (pa_cons pe_int pa_nil))))) pa_nil))))
      (pss_one (ps_ret (pe_kn B2 hr (pa_cons (pv 0) (pa_cons (pe_lst (pa_cons (pe_tup (pa_cons (pe_op op_mul (pe_ix ix_tup (pv 1) pe_int (fun _ _ => rfl)) (pv 2)) (pa_cons (pe_op op_mul (pe_ix ix_tup (pv 1) pe_int (fun _ _ => rfl)) (pv 2)) pa_nil)))
        (pa_cons (pe_lstM (pa_cons (pe_op op_mul (pe_ix ix_tup (pv 1) pe_int (fun _ _ => rfl)) (pv 2)) (pa_cons (pe_op op_mul (pe_ix ix_tup (pv 1) pe_int (fun _ _ => rfl)) (pv 2)) pa_nil))) pa_nil))) pa_nil)))))), ?_⟩
    have rp : r ≠ p := by
      obtain ⟨_, _, _, _, I⟩ := P0
      exact ne_of er I.obj (by intro z; cases z)
    obtain ⟨m1, m2, m3, m4⟩ := m
    have last : ∀ (n : Int) (c3 : Int) (H3 : Hp), 0 < n → n ≤ 5 → c ≤ c3 → c3 ≤ c + 2 → PenAt H3 p l c3 → Keep p H H3 → ∀ (t : Addr), H3 t = none → ∀ (u : Addr), (upd H3 t (.tup [.int (a.1 * n), .int (a.2 * n)])) u = none → u ≠ sysModules → ∀ (L : Addr), (upd (upd H3 t (.tup [.int (a.1 * n), .int (a.2 * n)])) u (.lst [.int (a.1 * n), .int (a.2 * n)])) L = none →
        ∀ (x : V) (H' : Hp), x ∈ [V.ref t, .ref u] → PenAt H' p l (c3 + 1) → Keep p (upd (upd (upd H3 t (.tup [.int (a.1 * n), .int (a.2 * n)])) u (.lst [.int (a.1 * n), .int (a.2 * n)])) L (.lst [.ref t, .ref u])) H' → Q x H' := by
      intro n c3 H3 n0 n5 x1 x2 P3 K3 t nt u nu mu L nL x H' hx P4 K4
      have K5 := ((K3.new nt).new nu).new nL (o := .lst [.ref t, .ref u])
      have K6 := K5.trans K4
      have tu : t ≠ u := fun z => by
        rw [← z, upd_same] at nu
        cases nu
      have tL : t ≠ L := fun z => by
        rw [← z, upd_ne tu, upd_same] at nL
        cases nL
      have uL : u ≠ L := fun z => by
        rw [← z, upd_same] at nL
        cases nL
      have tp : t ≠ p := fun z => by
        obtain ⟨_, _, _, _, I⟩ := P3
        rw [z, I.obj] at nt
        cases nt
      have up : u ≠ p := fun z => by
        obtain ⟨_, _, _, _, I⟩ := P3.new nt (o := .tup [.int (a.1 * n), .int (a.2 * n)])
        rw [z, I.obj] at nu
        cases nu
      have et : H' t = some (.tup [.int (a.1 * n), .int (a.2 * n)]) := K4 t _ tp (by rw [upd_ne tL, upd_ne tu, upd_same])
      have eu : H' u = some (.lst [.int (a.1 * n), .int (a.2 * n)]) := K4 u _ up (by rw [upd_ne uL, upd_same])
      have b0 : 0 < a.2 * n := Int.mul_pos m3 n0
      have sm : ∀ z : Int, z.natAbs < 2 ^ 100 → (z * n).natAbs < 2 ^ 120 := fun z hz => by
        have := wide_lt (j := n) (b := 20) hz (by omega)
        exact this
      have el := lw_mul n0 m4
      have zt : H t = none := free_of K3 P3 nt
      have zu : H u = none := free_of (K3.new nt (o := .tup [.int (a.1 * n), .int (a.2 * n)])) (P3.new nt) nu
      replace et := mask_at zt et
      replace eu := mask_at zu eu
      simp only [List.mem_cons, List.not_mem_nil, or_false] at hx
      rcases hx with rfl | rfl
      · exact k _ (.tuple [.int (a.1 * n), .int (a.2 * n)]) _ _ (by omega) (by omega) P4 K6 (.tup et (.cons (.int _) (.cons (.int _) .nil))) (decide_eq_true b0) el ⟨sm _ m1, sm _ m2⟩
      · exact k _ (.list [.int (a.1 * n), .int (a.2 * n)]) _ _ (by omega) (by omega) P4 K6 (.lst eu trivial (.cons (.int _) (.cons (.int _) .nil))) (decide_eq_true b0) el ⟨sm _ m1, sm _ m2⟩
    refine ⟨fun σ' H' => σ' = [some (.ref p), some (.ref r), none] ∧ ∃ c1, c ≤ c1 ∧ c1 ≤ c + 1 ∧ PenAt H' p l c1 ∧ Keep p H H', ?_, ?_⟩
    · refine ⟨_, rfl, r, _, _, _, rfl, rfl, .inl (.inl er), atI_nat (j := 1) rfl, rfl, _, rfl, ?_⟩
      refine ite2 (fun e => ?_) (fun _ => ?_)
      · have e1 : a.2 = 1 := V.int.inj (of_decide_eq_true e)
        refine ⟨_, rfl, p, l, c, 2, rfl, P0, by decide, by decide, by omega, fun r0 H1 _ _ P1 K1 => ⟨rfl, _, rfl, ?_⟩⟩
        refine ite2 (fun _ => ?_) (fun _ => ?_)
        · exact ⟨_, rfl, r, _, _, _, rfl, rfl, .inl (.inl (K1 r _ rp er)), atI_nat (j := 0) rfl, k (.int a.1) (.int a.1) _ _ (by omega) (by omega) P1 K1 (.int _) rfl (Prod.ext rfl e1.symm) (Nat.lt_of_lt_of_le m1 (Nat.pow_le_pow_right (by decide) (by decide)))⟩
        · exact ⟨rfl, c + 1, by omega, by omega, P1, K1⟩
      · exact ⟨rfl, c, by omega, by omega, P0, Keep.refl⟩
    · rintro σ' H1 ⟨rfl, c1, x1, x2, P1, K1⟩
      refine ⟨_, rfl, (by show 4 ≤ sizeLine; rw [sizeLine_eq]; decide), fun L nL => ?_⟩
      refine ⟨p, l, L, c1, _, rfl, P1.new nL, .inl (.inl upd_same), (by show 0 < 4; decide), (by show 4 < 1000000; decide), by omega, fun x H3 hx P3 K3 => ?_⟩
      have K03 : Keep p H H3 := (K1.new nL).trans K3
      have er3 := K03 r _ rp er
      obtain ⟨n, rfl, n0, n5⟩ : ∃ n : Int, x = .int n ∧ 0 < n ∧ n ≤ 5 := by
        simp only [List.mem_cons, List.not_mem_nil, or_false] at hx
        rcases hx with rfl | rfl | rfl | rfl
        · exact ⟨1, rfl, by decide, by decide⟩
        · exact ⟨1, rfl, by decide, by decide⟩
        · exact ⟨2, rfl, by decide, by decide⟩
        · exact ⟨5, rfl, by decide, by decide⟩
      refine ⟨_, rfl, _, rfl, r, _, _, _, rfl, rfl, .inl (.inl er3), atI_nat (j := 0) rfl, _, rfl, _, _, rfl, rfl, .inr ⟨by omega, by omega⟩, _, rfl, r, _, _, _, rfl, rfl, .inl (.inl er3), atI_nat (j := 1) rfl, _, rfl, _, _, rfl, rfl, .inr ⟨by omega, by omega⟩, (by show 2 ≤ sizeLine; rw [sizeLine_eq]; decide), fun t nt => ?_⟩
      have er4 : (upd H3 t (.tup [.int (a.1 * n), .int (a.2 * n)])) r = some (.tup [.int a.1, .int a.2]) := by
        rw [upd_ne (ne_of_none er3 nt)]
        exact er3
      refine ⟨_, rfl, r, _, _, _, rfl, rfl, .inl (.inl er4), atI_nat (j := 0) rfl, _, rfl, _, _, rfl, rfl, .inr ⟨by omega, by omega⟩, _, rfl, r, _, _, _, rfl, rfl, .inl (.inl er4), atI_nat (j := 1) rfl, _, rfl, _, _, rfl, rfl, .inr ⟨by omega, by omega⟩, (by show 2 ≤ sizeLine; rw [sizeLine_eq]; decide), fun u nu mu => ?_⟩
      refine ⟨(by show 2 ≤ sizeLine; rw [sizeLine_eq]; decide), fun L2' nL2 => ?_⟩
      refine ⟨p, l, L2', c1 + 1, _, rfl, ((P3.new nt).new nu).new nL2, .inl (.inl upd_same), (by show 0 < 2; decide), (by show 2 < 1000000; decide), by omega, fun x H' hx P4 K4 => ?_⟩
      exact last n _ H3 n0 n5 (by omega) (by omega) P3 K03 t nt u nu mu L2' nL2 x H' hx P4 K4
end
theorem PenAt.same {H H' : Hp} {p l : Addr} {c : Int} (k : Same H H') (h : PenAt H p l c) : PenAt H' p l c := by
  obtain ⟨ns, a, d, f, I⟩ := h
  exact ⟨ns, a, d, f, k _ _ I.obj, k _ _ I.cel, I.len, I.a0, I.d0, I.c0, I.f0, I.f1⟩
end GG



namespace GG
open PySem PySem.Spec PyProof.Rows L2 RZ
/-! ### the drawn buyers' helpers: scale, numbers -/
abbrev sScale : Stmt := topS 53
abbrev sNums : Stmt := topS 51
def spScale : Sp := fun vs H Q _ => ∃ (p l : Addr) (c : Int), vs = [.ref p] ∧ PenAt H p l c ∧ c < 10000000 ∧ ∀ (z : Int) (H' : Hp), (z = 1 ∨ z = 2 ∨ z = 10) → PenAt H' p l (c + 1) → Keep p H H' → Q (.int z) H'
def spNums : Sp := fun vs H Q _ => ∃ (p l : Addr) (c : Int) (n : Nat) (most : Int), vs = [.ref p, .int (n : Int), .int most] ∧ PenAt H p l c ∧ c < 10000000 ∧ 1 ≤ n ∧ n ≤ 3 ∧ 1 ≤ most ∧ most ≤ 900000 ∧
  ∀ (a : Addr) (ns : List Int) (c' : Int) (H' : Hp), H a = none → H' a = some (.lst (ns.map .int)) → ns.length = n → (∀ z ∈ ns, 0 ≤ z ∧ z ≤ most + 2) → (∃ z ∈ ns, 0 < z) → c' ≤ c + 12 → PenAt H' p l c' → Keep p H H' → Q (.ref a) H'
theorem bMax : bootBuiltins "max" = some (.builtin "max") := by decide +kernel
abbrev NNu : List Str := ["_law_pen_here", "_law_kinds", "_law_most", "_law_found", "_law_k"]
section
variable {P : Program} {w : World} {K : PySem.W.Frag} {mg : Str → Option Value} {base : Heap}
theorem scScale : FnScope ["_law_pen_here"] ["_law_pen_here"] (defScope sScale) := ⟨rfl, rfl, rfl, by decide +kernel, rfl, by decide +kernel, by decide +kernel⟩
theorem kn_scale (D : DefIs K mg "_law_scale" sScale) (B2 : Kn P w K mg base "_law_pick" 2 ["_law_pen_here", "_law_some"] (spPick K)) : Kn P w K mg base "_law_scale" 3 ["_law_pen_here"] spScale := by
  refine .of D (fun _ _ _ _ _ _ us hl => match us, hl with | [_], _ => rfl) fun fa _ F => ?_
  refine F.ok scScale (fun vs H Q E h => ?_) (fun cdv A outer s H vs Q E hr h => ?_)
  · obtain ⟨p, l, c, rfl, _⟩ := h
    rfl
  · obtain ⟨p, l, c, rfl, PA, c0, k⟩ := h
    refine ⟨_, pss_one (ps_ret (pe_kn B2 hr (pa_cons (pv 0) (pa_cons (pe_lst (pa_cons pe_int (pa_cons pe_int (pa_cons pe_int (pa_cons pe_int (pa_cons pe_int pa_nil)))))) pa_nil)))), ?_⟩
    refine ⟨_, rfl, (by show 5 ≤ sizeLine; rw [sizeLine_eq]; decide), fun L nL => ?_⟩
    refine ⟨p, l, L, c, _, rfl, PA.new nL, .inl (.inl upd_same), (by show 0 < 5; decide), (by show 5 < 1000000; decide), by omega, fun x H' hx P1 K1 => ?_⟩
    have K2 := (Keep.refl.new nL).trans K1
    simp only [List.mem_cons, List.not_mem_nil, or_false] at hx
    rcases hx with rfl | rfl | rfl | rfl | rfl
    · exact k 1 H' (.inl rfl) P1 K2
    · exact k 1 H' (.inl rfl) P1 K2
    · exact k 1 H' (.inl rfl) P1 K2
    · exact k 2 H' (.inr (.inl rfl)) P1 K2
    · exact k 10 H' (.inr (.inr rfl)) P1 K2
theorem scNums : FnScope NNu ["_law_pen_here", "_law_kinds", "_law_most"] (defScope sNums) := ⟨rfl, rfl, rfl, by decide +kernel, rfl, by decide +kernel, by decide +kernel⟩
theorem kn_nums (D : DefIs K mg "_law_numbers" sNums) (zr : mg "range" = none) (zm : mg "max" = none) (B1 : Kn P w K mg base "_law_draw" 1 ["_law_pen_here", "_law_many"] spDraw) (B2 : Kn P w K mg base "_law_pick" 2 ["_law_pen_here", "_law_some"] (spPick K)) : Kn P w K mg base "_law_numbers" 3 ["_law_pen_here", "_law_kinds", "_law_most"] spNums := by
  refine .of D (fun _ _ _ _ _ _ us hl => match us, hl with | [_, _, _], _ => rfl) fun fa _ F => ?_
  refine F.ok scNums (fun vs H Q E h => ?_) (fun cdv A outer s H vs Q E hr h => ?_)
  · obtain ⟨p, l, c, n, most, rfl, _⟩ := h
    rfl
  · obtain ⟨p, l, c, n, most, rfl, PA, c0, n1, n3, m1, m2, k⟩ := h
    have hr1 : Room 1 _ := hr.mono (by decide)
    refine ⟨_, pss_cons (ps_setLc (i := 3) (own := [("_law_k", 4)]) (g := gName 4) (tt := tYes) rfl scNums.nd rfl rfl (sw_true rfl rfl rfl (by decide +kernel)) (pi_range1 rfl zr (pa_cons (pv 1) pa_nil)) (blkOk_by (N := NNu) (sc := defScope sNums) (by decide +kernel))
          (fun _ _ _ _ _ => pg_name (i := 4) scNums.nd rfl (.inl rfl)) (fun _ _ _ _ _ => pts_nil)
          (fun _ _ _ _ _ => pe_kn B2 hr (pa_cons (pv 0) (pa_cons (pe_lst (pa_cons pe_int (pa_cons pe_int (pa_cons pe_int (pa_cons (pe_kn B1 hr1 (pa_cons (pv 0) (pa_cons (pv 2) pa_nil))) (pa_cons (pe_kn B1 hr1 (pa_cons (pv 0) (pa_cons (pv 2) pa_nil))) pa_nil)))))) pa_nil))))
      (pss_cons (ps_if (pt_cmpR op_eq (pe_callB (cr_max rfl) (by rfl) zm bMax (pa_cons (pv 3) pa_nil)) pe_int (nomark _))
          (pss_one (ps_asg (pe_op op_add pe_int (pe_kn B1 hr1 (pa_cons (pv 0) (pa_cons (pv 2) pa_nil)))) (pg_sub (pv 3) (pe_kn B1 hr1 (pa_cons (pv 0) (pa_cons (pv 1) pa_nil))) set_list))) pss_nil)
      (pss_one (ps_ret (pv 3)))), ?_⟩
    refine ⟨_, rfl, (n : Int), rfl, by omega, by omega, fun D nD => ?_⟩
    rw [Int.toNat_natCast]
    obtain ⟨pD, lD⟩ := PA.ne nD
    refine lc_range (lo := 0) (n := n) (fun j G => ∃ (c' : Int) (ns : List Int), PenAt G p l c' ∧ c' ≤ c + 3 * j ∧ Keep p H G ∧ G D = some (.lst (ns.map V.int)) ∧ ns.length = j ∧ ∀ z ∈ ns, 0 ≤ z ∧ z ≤ most + 2)
      ⟨c, [], PA.new nD, by omega, Keep.refl.new nD, upd_same, rfl, fun z hz => nomatch hz⟩ ?_ ?_
    · rintro j G hj ⟨c', ns, P', hc', K', eD, ln, bn⟩
      refine ⟨rfl, ?_⟩
      refine ⟨_, rfl, _, rfl, _, rfl, p, l, c', most, rfl, P', by omega, by omega, by omega, fun r1 G1 r10 r11 P1 K1 => ?_⟩
      refine ⟨_, rfl, _, rfl, p, l, c' + 1, most, rfl, P1, by omega, by omega, by omega, fun r2 G2 r20 r21 P2 K2 => ?_⟩
      refine ⟨(by show 5 ≤ sizeLine; rw [sizeLine_eq]; decide), fun L nL => ?_⟩
      refine ⟨p, l, L, c' + 1 + 1, _, rfl, P2.new nL, .inl (.inl upd_same), (by show 0 < 5; decide), (by show 5 < 1000000; decide), by omega, fun x G3 hx P3 K3 => ?_⟩
      have KG := ((K'.trans K1).trans K2).new nL (o := .lst [.int 0, .int 1, .int 2, .int r1, .int r2])
      have KK := KG.trans K3
      have eD3 : G3 D = some (.lst (ns.map V.int)) := by
        have e2 := K2 D _ pD.symm (K1 D _ pD.symm eD)
        exact K3 D _ pD.symm (by rw [upd_ne (ne_of_none e2 nL)]; exact e2)
      obtain ⟨z, rfl, z0, z1⟩ : ∃ z : Int, x = .int z ∧ 0 ≤ z ∧ z ≤ most + 2 := by
        simp only [List.mem_cons, List.not_mem_nil, or_false] at hx
        rcases hx with rfl | rfl | rfl | rfl | rfl
        · exact ⟨_, rfl, by omega, by omega⟩
        · exact ⟨_, rfl, by omega, by omega⟩
        · exact ⟨_, rfl, by omega, by omega⟩
        · exact ⟨_, rfl, by omega, by omega⟩
        · exact ⟨_, rfl, by omega, by omega⟩
      refine ⟨_, eD3, by rw [List.length_map, ln, sizeLine_eq]; omega, _, ns ++ [z], P3.put pD lD, by omega, ?_, ?_, ?_, ?_⟩
      · intro b o nb e
        rw [upd_ne (ne_of_none e nD)]
        exact KK b o nb e
      · rw [upd_same, List.map_append]
        rfl
      · rw [List.length_append, ln]
        rfl
      · intro y hy
        rcases List.mem_append.mp hy with q | q
        · exact bn y q
        · rw [List.mem_singleton.mp q]
          exact ⟨z0, z1⟩
    · rintro G ⟨c', ns, P', hc', K', eD, ln, bn⟩
      refine ⟨_, rfl, D, ns, rfl, SqL.of eD, by omega, fun m hm hle => ⟨rfl, _, rfl, ?_⟩⟩
      have m0 := (bn m hm).1
      by_cases q : m = 0
      · rw [decide_eq_true (show V.int m = V.int 0 by rw [q])]
        refine iteT ?_
        refine ⟨_, rfl, _, rfl, p, l, c', most, rfl, P', by omega, by omega, by omega, fun r1 G1 r10 r11 P1 K1 => ⟨_, _, rfl, rfl, ?_⟩⟩
        refine ⟨_, rfl, _, rfl, _, rfl, p, l, c' + 1, n, rfl, P1, by omega, by omega, by omega, fun r2 G2 r20 r21 P2 K2 => ?_⟩
        obtain ⟨j, rfl⟩ : ∃ j : Nat, r2 = (j : Int) := ⟨r2.toNat, by omega⟩
        have jn : j < n := by omega
        have eD2 := K2 D _ pD.symm (K1 D _ pD.symm eD)
        refine ⟨D, _, (j : Int), j, rfl, rfl, eD2, ?_, ?_⟩
        · unfold ixN
          rw [List.length_map, ln, if_pos (by omega), if_pos (by omega), Int.toNat_natCast]
        · have es : (ns.map V.int).set j (V.int (1 + r1)) = (ns.set j (1 + r1)).map V.int := by rw [List.map_set]
          dsimp only
          rw [es]
          refine ⟨_, rfl, k D (ns.set j (1 + r1)) (c' + 1 + 1) _ nD upd_same (by rw [List.length_set, ln]) (fun z hz => ?_) ⟨1 + r1, ?_, by omega⟩ (by omega) (P2.put pD lD) ?_⟩
          · rcases List.mem_or_eq_of_mem_set hz with q | q
            · exact bn z q
            · omega
          · exact List.mem_set (by omega) _
          · intro b o nb e
            rw [upd_ne (ne_of_none e nD)]
            exact K2 b o nb (K1 b o nb (K' b o nb e))
      · rw [decide_eq_false (fun z => q (V.int.inj z))]
        refine iteF ?_
        exact ⟨_, rfl, k D ns c' G nD eD ln bn ⟨m, hm, by omega⟩ (by omega) P' K'⟩
end
end GG



namespace GG
open PySem PySem.Spec PyProof.Rows L2 RZ
/-! ### the drawn buyers' helpers: a block of four bids -/
abbrev sBlock : Stmt := topS 52
/-- a weight beside whole numbers stands at v: a tuple, the numbers in a list or in a tuple -/
def NumR (H : Hp) (v : V) (e : Int × List Int) : Prop := ∃ t b, v = .ref t ∧ H t = some (.tup [.int e.1, .ref b]) ∧ (H b = some (.lst (e.2.map .int)) ∨ H b = some (.tup (e.2.map .int))) ∧ e.2 ≠ []
theorem NumR.stay {H H' : Hp} (k : ∀ b o, H b = some o → (∀ l a d c f, o ≠ .dK (penD l a d c f)) → H' b = some o) {v : V} {e : Int × List Int} (h : NumR H v e) : NumR H' v e := by
  obtain ⟨t, b, rfl, e1, e2, e3⟩ := h
  refine ⟨t, b, rfl, k _ _ e1 (fun _ _ _ _ _ z => by cases z), ?_, e3⟩
  rcases e2 with q | q
  · exact .inl (k _ _ q (fun _ _ _ _ _ z => by cases z))
  · exact .inr (k _ _ q (fun _ _ _ _ _ z => by cases z))
/-- such rows stand as they are when the list that holds them grows -/
theorem nums_put {H : Hp} {R : Addr} {xs : List V} {es : List (Int × List Int)} {o : HO} (er : H R = some (.lst xs)) (pr : Paired (NumR H) xs es) {v : V} {e : Int × List Int} (h : NumR H v e) : NumR (upd H R o) v e := by
  obtain ⟨t, b, rfl, e1, e2, e3⟩ := h
  refine ⟨t, b, rfl, by rw [upd_ne (ne_of e1 er (by intro z; cases z))]; exact e1, ?_, e3⟩
  rcases e2 with q | q
  · refine .inl ?_
    have nb : b ≠ R := fun z => by
      rw [z, er] at q
      have q' : xs = e.2.map V.int := by
        have := Option.some.inj q
        injection this
      cases hq : e.2 with
      | nil => exact e3 hq
      | cons a r =>
        rw [hq, List.map_cons] at q'
        rw [q'] at pr
        cases pr with
        | cons a1 _ =>
          obtain ⟨_, _, ex, _⟩ := a1
          cases ex
    rw [upd_ne nb]
    exact q
  · exact .inr (by rw [upd_ne (ne_of q er (by intro z; cases z))]; exact q)
/-- a drawn row: as many numbers as kinds, none below 0, one above -/
def rowOk (n : Nat) (top : Int) (e : Int × List Int) : Prop := e.2.length = n ∧ e.1.natAbs ≤ 20 ∧ (∀ z ∈ e.2, 0 ≤ z ∧ z ≤ top) ∧ ∃ z ∈ e.2, 0 < z
def TriV (H : Hp) (v : V) (e : Int × Int × Int) : Prop := ∃ t, v = .ref t ∧ H t = some (.tup [.int e.1, .int e.2.1, .int e.2.2])
theorem TriV.stay {H H' : Hp} (k : Stay H H') {v : V} {e : Int × Int × Int} (h : TriV H v e) : TriV H' v e := by
  obtain ⟨t, rfl, e1⟩ := h
  exact ⟨t, rfl, stayT k e1⟩
def spBlock : Sp := fun vs H Q _ => ∃ (p l : Addr) (c : Int) (n : Nat) (most : Int), vs = [.ref p, .int (n : Int), .int most] ∧ PenAt H p l c ∧ c < 10000000 ∧ 2 ≤ n ∧ n ≤ 3 ∧ 1 ≤ most ∧ most ≤ 900000 ∧
  ∀ (a : Addr) (xs : List V) (es : List (Int × List Int)) (c' : Int) (H' : Hp), H a = none → H' a = some (.lst xs) → Paired (NumR H') xs es → es.length = 4 → (∀ e ∈ es, rowOk n (most + 2) e) → c' ≤ c + 6 → PenAt H' p l c' → Keep p H H' → Q (.ref a) H'
theorem bMin : bootBuiltins "min" = some (.builtin "min") := by decide +kernel
abbrev NB : List Str := ["_law_pen_here", "_law_kinds", "_law_most", "_law_one", "_law_i", "_law_j", "_law_a", "_law_b", "_law_t", "_law_w", "_law_rows", "_law_weight", "_law_x", "_law_y", "_law_numbers_here"]
section
variable {P : Program} {w : World} {K : PySem.W.Frag} {mg : Str → Option Value} {base : Heap}
theorem scBlock : FnScope NB ["_law_pen_here", "_law_kinds", "_law_most"] (defScope sBlock) := ⟨rfl, rfl, rfl, by decide +kernel, rfl, by decide +kernel, by decide +kernel⟩
theorem kn_block (D : DefIs K mg "_law_block" sBlock) (T : RTxt K mg) (zm : mg "min" = none) (B1 : Kn P w K mg base "_law_draw" 1 ["_law_pen_here", "_law_many"] spDraw) : Kn P w K mg base "_law_block" 2 ["_law_pen_here", "_law_kinds", "_law_most"] spBlock := by
  refine .of D (fun _ _ _ _ _ _ us hl => match us, hl with | [_, _, _], _ => rfl) fun fa _ F => ?_
  refine F.ok scBlock (fun vs H Q E h => ?_) (fun cdv A outer s H vs Q E hr h => ?_)
  · obtain ⟨p, l, c, n, most, rfl, _⟩ := h
    rfl
  · obtain ⟨p, l, c, n, most, rfl, PA, c0, n1, n3, m1, m2, k⟩ := h
    refine ⟨_, pss_cons (ps_set (i := 3) scBlock.nd rfl (.inl rfl) (pe_op op_rep (pe_lst (pa_cons pe_int pa_nil)) (pv 1)))
      (pss_cons (ps_set (i := 4) scBlock.nd rfl (.inl rfl) (pe_kn B1 hr (pa_cons (pv 0) (pa_cons (pv 1) pa_nil))))
      (pss_cons (ps_set (i := 5) scBlock.nd rfl (.inl rfl) (pe_op op_mod (pe_callTy call_int1 (by rfl) T.int bInt (pa_cons (pe_op op_add (pe_op op_add (pv 4) pe_int) (pe_kn B1 hr (pa_cons (pv 0) (pa_cons (pe_op op_sub (pv 1) pe_int) pa_nil)))) pa_nil)) (pv 1)))
      (pss_cons (ps_par (i := 6) (j := 7) rfl scBlock.nd rfl rfl (by decide) rfl rfl (pa_cons (pe_op op_add pe_int (pe_kn B1 hr (pa_cons (pv 0) (pa_cons (pv 2) pa_nil)))) (pa_cons (pe_op op_add pe_int (pe_kn B1 hr (pa_cons (pv 0) (pa_cons (pv 2) pa_nil)))) pa_nil)) rfl)
      (pss_cons (ps_par (i := 8) (j := 9) rfl scBlock.nd rfl rfl (by decide) rfl rfl (pa_cons (pe_op op_add pe_int (pe_kn B1 hr (pa_cons (pv 0) (pa_cons (pe_op op_sub (pe_callB (call_min2 rfl) (by rfl) zm bMin (pa_cons (pv 6) (pa_cons (pv 7) pa_nil))) pe_int) pa_nil)))) (pa_cons (pe_op op_add pe_int (pe_kn B1 hr (pa_cons (pv 0) (pa_cons pe_int pa_nil)))) pa_nil)) rfl)
      (pss_cons (ps_set (i := 10) scBlock.nd rfl (.inl rfl) (pe_lst pa_nil))
      (pss_cons (ps_for PassesOwn.never rfl (pi_list (pe_lst (pa_cons (pe_tup (pa_cons (pv 9) (pa_cons (pv 6) (pa_cons (pv 7) pa_nil))))
            (pa_cons (pe_tup (pa_cons (pv 9) (pa_cons (pe_op op_sub (pv 6) (pv 8)) (pa_cons pe_int pa_nil))))
            (pa_cons (pe_tup (pa_cons (pv 9) (pa_cons pe_int (pa_cons (pe_op op_sub (pv 7) (pv 8)) pa_nil))))
            (pa_cons (pe_tup (pa_cons (pe_un un_neg (pv 9)) (pa_cons (pe_op op_sub (pv 6) (pv 8)) (pa_cons (pe_op op_sub (pv 7) (pv 8)) pa_nil)))) pa_nil))))))
          (pg_tup rfl (pgs_cons (pg_name (i := 11) scBlock.nd rfl (.inl rfl)) (pgs_cons (pg_name (i := 12) scBlock.nd rfl (.inl rfl)) (pgs_cons (pg_name (i := 13) scBlock.nd rfl (.inl rfl)) pgs_nil))))
        (pss_cons (ps_set (i := 14) scBlock.nd rfl (.inl rfl) (pe_callTy call_list_of (by rfl) T.list bList (pa_cons (pv 3) pa_nil)))
        (pss_cons (ps_asg (pe_tup (pa_cons (pv 12) (pa_cons (pv 13) pa_nil))) (pg_tup rfl (pgs_cons (pg_sub (pv 14) (pv 4) set_list) (pgs_cons (pg_sub (pv 14) (pv 5) set_list) pgs_nil))))
        (pss_one (ps_expr (pe_bm PySem.F.plainAttrs_list PySem.F.slot_list_append PySem.F.type_list_append mt_append (pv 10) (pa_cons (pe_tup (pa_cons (pv 11) (pa_cons (pv 14) pa_nil))) pa_nil)))))))
      (pss_one (ps_ret (pv 10))))))))), ?_⟩
    have KK := Keep.refl (p := p) (H := H)
    refine ⟨(by show 1 ≤ sizeLine; rw [sizeLine_eq]; decide), fun z0 nz0 => ?_⟩
    have zz0 : H z0 = none := free_of KK PA nz0
    have st := Stay.new (Stay.refl (H := H)) nz0 (o := .lst [.int 0])
    replace PA := PA.new nz0 (o := .lst [.int 0])
    replace KK := KK.new nz0 (o := .lst [.int 0])
    have ez0 : (upd H z0 (.lst [.int 0])) z0 = some (.lst [.int 0]) := upd_same
    clear st nz0
    generalize (upd H z0 (.lst [.int 0])) = H1 at PA KK ez0 ⊢
    refine ⟨_, rfl, z0, (n : Int), _, rfl, rfl, ez0, by omega, by omega, (by rw [sizeLine_eq, Int.toNat_natCast]; show 1 * n ≤ _; omega), fun o1 no1 => ?_⟩
    rw [Int.toNat_natCast, rep1]
    have zo1 : H o1 = none := free_of KK PA no1
    have st := Stay.new (Stay.refl (H := H1)) no1 (o := .lst (List.replicate n (.int 0)))
    replace PA := PA.new no1 (o := .lst (List.replicate n (.int 0)))
    replace KK := KK.new no1 (o := .lst (List.replicate n (.int 0)))
    replace ez0 := stayL st ez0
    have eo : (upd H1 o1 (.lst (List.replicate n (.int 0)))) o1 = some (.lst (List.replicate n (.int 0))) := upd_same
    clear st no1
    generalize (upd H1 o1 (.lst (List.replicate n (.int 0)))) = H2 at PA KK ez0 eo ⊢
    clear ez0
    refine ⟨_, rfl, _, rfl, p, l, c, n, rfl, PA, by omega, by omega, by omega, fun i' H3 i0 i1 P3 K3 => ?_⟩
    have st := K3.stay PA
    replace KK := KK.trans K3
    replace eo := stayL st eo
    replace PA := P3
    clear st P3 K3
    obtain ⟨i, rfl⟩ : ∃ i : Nat, i' = (i : Int) := ⟨i'.toNat, by omega⟩
    refine ⟨_, rfl, _, _, rfl, rfl, _, rfl, _, rfl, _, _, rfl, rfl, p, l, _, _, rfl, PA, by omega, by omega, by omega, fun jj H4 j0 j1 P4 K4 => ⟨_, _, rfl, rfl, .inl ⟨_, rfl, _, rfl, _, _, rfl, rfl, (by omega), ?_⟩⟩⟩
    have st := K4.stay PA
    replace KK := KK.trans K4
    replace eo := stayL st eo
    replace PA := P4
    clear st P4 K4
    obtain ⟨j, ej, jn, ij⟩ : ∃ j : Nat, ((i : Int) + 1 + jj) % (n : Int) = (j : Int) ∧ j < n ∧ i ≠ j := by
      refine ⟨(((i : Int) + 1 + jj) % (n : Int)).toNat, ?_, ?_, ?_⟩
      · have := Int.emod_nonneg ((i : Int) + 1 + jj) (show (n : Int) ≠ 0 by omega)
        omega
      · have := Int.emod_lt_of_pos ((i : Int) + 1 + jj) (show (0 : Int) < n by omega)
        omega
      · rcases (show n = 2 ∨ n = 3 by omega) with rfl | rfl <;> omega
    dsimp only
    rw [ej]
    refine ⟨_, rfl, _, rfl, p, l, _, most, rfl, PA, by omega, by omega, by omega, fun ra H5 a0 a1 P5 K5 => ⟨_, _, rfl, rfl, ?_⟩⟩
    have st := K5.stay PA
    replace KK := KK.trans K5
    replace eo := stayL st eo
    replace PA := P5
    clear st P5 K5
    refine ⟨_, rfl, _, rfl, p, l, _, most, rfl, PA, by omega, by omega, by omega, fun rb H6 b0 b1 P6 K6 => ⟨_, _, rfl, rfl, _, _, rfl, ?_⟩⟩
    have st := K6.stay PA
    replace KK := KK.trans K6
    replace eo := stayL st eo
    replace PA := P6
    clear st P6 K6
    obtain ⟨mn, emn, mn1, mna, mnb⟩ : ∃ mn : Int, (if (2 + rb) < (2 + ra) then (2 + rb) else (2 + ra)) = mn ∧ 2 ≤ mn ∧ mn ≤ 2 + ra ∧ mn ≤ 2 + rb := ⟨_, rfl, by split <;> omega, by split <;> omega, by split <;> omega⟩
    refine ⟨_, rfl, _, rfl, _, rfl, _, _, rfl, ?_⟩
    rw [emn]
    refine ⟨_, _, rfl, rfl, p, l, _, _, rfl, PA, by omega, by omega, by omega, fun rt H7 t0 t1 P7 K7 => ⟨_, _, rfl, rfl, ?_⟩⟩
    have st := K7.stay PA
    replace KK := KK.trans K7
    replace eo := stayL st eo
    replace PA := P7
    clear st P7 K7
    refine ⟨_, rfl, p, l, _, 3, rfl, PA, by decide, by decide, by omega, fun rw H8 w0 w1 P8 K8 => ⟨_, _, rfl, rfl, _, _, rfl, ?_⟩⟩
    have st := K8.stay PA
    replace KK := KK.trans K8
    replace eo := stayL st eo
    replace PA := P8
    clear st P8 K8
    dsimp only
    obtain ⟨A, eA, A0, A1⟩ : ∃ A : Int, 2 + ra = A ∧ 2 ≤ A ∧ A ≤ most + 2 := ⟨_, rfl, by omega, by omega⟩
    obtain ⟨Bq, eB, B0, B1'⟩ : ∃ B : Int, 2 + rb = B ∧ 2 ≤ B ∧ B ≤ most + 2 := ⟨_, rfl, by omega, by omega⟩
    obtain ⟨T', eT, T0, TA, TB⟩ : ∃ T : Int, 1 + rt = T ∧ 1 ≤ T ∧ T < A ∧ T < Bq := ⟨_, rfl, by omega, by omega, by omega⟩
    obtain ⟨W, eW, W0, W1⟩ : ∃ W : Int, 1 + rw = W ∧ 1 ≤ W ∧ W ≤ 3 := ⟨_, rfl, by omega, by omega⟩
    rw [eA, eB, eT, eW]
    refine ⟨(by show 0 ≤ sizeLine; exact Nat.zero_le _), fun rr nrr => ?_⟩
    obtain ⟨prr, lrr⟩ := PA.ne nrr
    have orr : o1 ≠ rr := ne_of_none eo nrr
    have zrr : H rr = none := free_of KK PA nrr
    have st := Stay.new (Stay.refl (H := H8)) nrr (o := .lst [])
    replace PA := PA.new nrr (o := .lst [])
    replace KK := KK.new nrr (o := .lst [])
    replace eo := stayL st eo
    have er : (upd H8 rr (.lst [])) rr = some (.lst []) := upd_same
    clear st nrr
    generalize (upd H8 rr (.lst [])) = H9 at PA KK eo er ⊢
    refine ⟨_, rfl, _, rfl, _, rfl, (by show 3 ≤ sizeLine; rw [sizeLine_eq]; decide), fun u1 nu1 => ?_⟩
    have zu1 : H u1 = none := free_of KK PA nu1
    have st := Stay.new (Stay.refl (H := H9)) nu1 (o := .tup [.int W, .int A, .int Bq])
    replace PA := PA.new nu1 (o := .tup [.int W, .int A, .int Bq])
    replace KK := KK.new nu1 (o := .tup [.int W, .int A, .int Bq])
    replace eo := stayL st eo
    replace er := stayL st er
    have eu1 : (upd H9 u1 (.tup [.int W, .int A, .int Bq])) u1 = some (.tup [.int W, .int A, .int Bq]) := upd_same
    clear st nu1
    generalize (upd H9 u1 (.tup [.int W, .int A, .int Bq])) = H10 at PA KK eo er eu1 ⊢
    refine ⟨_, rfl, _, rfl, _, rfl, _, _, rfl, rfl, (by show 3 ≤ sizeLine; rw [sizeLine_eq]; decide), fun u2 nu2 => ?_⟩
    have zu2 : H u2 = none := free_of KK PA nu2
    have st := Stay.new (Stay.refl (H := H10)) nu2 (o := (.tup [.int W, .int (A - T'), .int 0]))
    replace PA := PA.new nu2 (o := (.tup [.int W, .int (A - T'), .int 0]))
    replace KK := KK.new nu2 (o := (.tup [.int W, .int (A - T'), .int 0]))
    replace eo := stayL st eo
    replace er := stayL st er
    replace eu1 := stayT st eu1
    have eu2 : (upd H10 u2 ((.tup [.int W, .int (A - T'), .int 0]))) u2 = some ((.tup [.int W, .int (A - T'), .int 0])) := upd_same
    clear st nu2
    generalize (upd H10 u2 ((.tup [.int W, .int (A - T'), .int 0]))) = H11 at PA KK eo er eu1 eu2 ⊢
    refine ⟨_, rfl, _, rfl, _, rfl, _, _, rfl, rfl, (by show 3 ≤ sizeLine; rw [sizeLine_eq]; decide), fun u3 nu3 => ?_⟩
    have zu3 : H u3 = none := free_of KK PA nu3
    have st := Stay.new (Stay.refl (H := H11)) nu3 (o := (.tup [.int W, .int 0, .int (Bq - T')]))
    replace PA := PA.new nu3 (o := (.tup [.int W, .int 0, .int (Bq - T')]))
    replace KK := KK.new nu3 (o := (.tup [.int W, .int 0, .int (Bq - T')]))
    replace eo := stayL st eo
    replace er := stayL st er
    replace eu1 := stayT st eu1
    replace eu2 := stayT st eu2
    have eu3 : (upd H11 u3 ((.tup [.int W, .int 0, .int (Bq - T')]))) u3 = some ((.tup [.int W, .int 0, .int (Bq - T')])) := upd_same
    clear st nu3
    generalize (upd H11 u3 ((.tup [.int W, .int 0, .int (Bq - T')]))) = H12 at PA KK eo er eu1 eu2 eu3 ⊢
    refine ⟨_, rfl, _, rfl, _, rfl, _, rfl, _, _, rfl, rfl, _, rfl, _, rfl, _, _, rfl, rfl, (by show 3 ≤ sizeLine; rw [sizeLine_eq]; decide), fun u4 nu4 => ?_⟩
    have zu4 : H u4 = none := free_of KK PA nu4
    have st := Stay.new (Stay.refl (H := H12)) nu4 (o := (.tup [.int (-W), .int (A - T'), .int (Bq - T')]))
    replace PA := PA.new nu4 (o := (.tup [.int (-W), .int (A - T'), .int (Bq - T')]))
    replace KK := KK.new nu4 (o := (.tup [.int (-W), .int (A - T'), .int (Bq - T')]))
    replace eo := stayL st eo
    replace er := stayL st er
    replace eu1 := stayT st eu1
    replace eu2 := stayT st eu2
    replace eu3 := stayT st eu3
    have eu4 : (upd H12 u4 ((.tup [.int (-W), .int (A - T'), .int (Bq - T')]))) u4 = some ((.tup [.int (-W), .int (A - T'), .int (Bq - T')])) := upd_same
    clear st nu4
    generalize (upd H12 u4 ((.tup [.int (-W), .int (A - T'), .int (Bq - T')]))) = H13 at PA KK eo er eu1 eu2 eu3 eu4 ⊢
    refine ⟨(by show 4 ≤ sizeLine; rw [sizeLine_eq]; decide), fun LL nLL => ?_⟩
    have Lrr : LL ≠ rr := fun q => by rw [q, er] at nLL; cases nLL
    have zLL : H LL = none := free_of KK PA nLL
    have st := Stay.new (Stay.refl (H := H13)) nLL (o := .lst [.ref u1, .ref u2, .ref u3, .ref u4])
    replace PA := PA.new nLL (o := .lst [.ref u1, .ref u2, .ref u3, .ref u4])
    replace KK := KK.new nLL (o := .lst [.ref u1, .ref u2, .ref u3, .ref u4])
    replace eo := stayL st eo
    replace er := stayL st er
    replace eu1 := stayT st eu1
    replace eu2 := stayT st eu2
    replace eu3 := stayT st eu3
    replace eu4 := stayT st eu4
    have eL : (upd H13 LL (.lst [.ref u1, .ref u2, .ref u3, .ref u4])) LL = some (.lst [.ref u1, .ref u2, .ref u3, .ref u4]) := upd_same
    clear st nLL
    generalize (upd H13 LL (.lst [.ref u1, .ref u2, .ref u3, .ref u4])) = H14 at PA KK eo er eu1 eu2 eu3 eu4 eL ⊢
    have tri : Paired (TriV H14) [.ref u1, .ref u2, .ref u3, .ref u4] [(W, A, Bq), (W, A - T', 0), (W, 0, Bq - T'), (-W, A - T', Bq - T')] := .cons ⟨_, rfl, eu1⟩ (.cons ⟨_, rfl, eu2⟩ (.cons ⟨_, rfl, eu3⟩ (.cons ⟨_, rfl, eu4⟩ .nil)))
    have tok : ∀ e ∈ [(W, A, Bq), (W, A - T', 0), (W, 0, Bq - T'), (-W, A - T', Bq - T')], e.1.natAbs ≤ 20 ∧ (0 ≤ e.2.1 ∧ e.2.1 ≤ most + 2) ∧ (0 ≤ e.2.2 ∧ e.2.2 ≤ most + 2) ∧ (0 < e.2.1 ∨ 0 < e.2.2) := by
      intro e he
      simp only [List.mem_cons, List.not_mem_nil, or_false] at he
      rcases he with rfl | rfl | rfl | rfl <;> dsimp only <;> omega
    have l4 : [(W, A, Bq), (W, A - T', 0), (W, 0, Bq - T'), (-W, A - T', Bq - T')].length = 4 := rfl
    generalize [(W, A, Bq), (W, A - T', 0), (W, 0, Bq - T'), (-W, A - T', Bq - T')] = tris at tri tok l4
    generalize ([.ref u1, .ref u2, .ref u3, .ref u4] : List V) = us at tri eL ⊢
    have lus : us.length = 4 := (Paired.length tri).trans l4
    clear eu1 eu2 eu3 eu4
    refine ⟨LL, rfl, ⟨_, SqL.of eL⟩, for_list (xs := us) (fun q σ G => ∃ (v11 v12 v13 v14 : Option V) (xs : List V) (es : List (Int × List Int)), σ = [some (.ref p), some (.int (n : Int)), some (.int most), some (.ref o1), some (.int (i : Int)), some (.int (j : Int)), some (.int A), some (.int Bq), some (.int T'), some (.int W), some (.ref rr), v11, v12, v13, v14] ∧ PenAt G p l (c + 1 + 1 + 1 + 1 + 1 + 1) ∧ Keep p H G ∧ G o1 = some (.lst (List.replicate n (.int 0))) ∧ G LL = some (.lst us) ∧ Paired (TriV G) us tris ∧ G rr = some (.lst xs) ∧ Paired (NumR G) xs es ∧ es.length = q ∧ ∀ e ∈ es, rowOk n (most + 2) e)
      ⟨none, none, none, none, [], [], rfl, PA, KK, eo, eL, tri, er, .nil, rfl, fun e he => nomatch he⟩ (fun q σ G _ h => ?_) (fun q x σ G hx h => ?_) (fun σ G h => ?_)⟩
    · obtain ⟨_, _, _, _, _, _, _, _, _, _, e, _⟩ := h
      exact SqL.of e
    · clear PA KK eo eL tri er
      obtain ⟨v11, v12, v13, v14, xs, es, rfl, PA, KK, eo, eL, tri, er, pr, le, oke⟩ := h
      obtain ⟨e, he, t0', rfl, e0⟩ := paired_at tri hx
      obtain ⟨q1, ⟨x0, x1⟩, ⟨y0, y1⟩, pos⟩ := tok e (List.mem_of_getElem? he)
      obtain ⟨w', x', y'⟩ := e
      dsimp only at e0 q1 x0 x1 y0 y1 pos
      have q4 : q < 4 := by have := (List.getElem?_eq_some_iff.mp hx).1; omega
      refine ⟨t0', _, rfl, .inl (.inl e0), rfl, _, _, rfl, _, _, rfl, _, _, rfl, rfl, ?_⟩
      refine ⟨_, rfl, o1, _, rfl, .inl (SqL.of eo), fun b nb => ?_⟩
      obtain ⟨pb, lb⟩ := PA.ne nb
      have bo : b ≠ o1 := fun z => by rw [z, eo] at nb; cases nb
      have bL : b ≠ LL := fun z => by rw [z, eL] at nb; cases nb
      have br : b ≠ rr := fun z => by rw [z, er] at nb; cases nb
      have prb : ∀ (H' : Hp), (∀ c o, c ≠ b → G c = some o → H' c = some o) → Paired (NumR H') xs es := fun H' hk => Paired.mapP pr fun v e h => by
        obtain ⟨t, q, rfl, e1, e2, e3⟩ := h
        refine ⟨t, q, rfl, hk _ _ (ne_of_none e1 nb) e1, ?_, e3⟩
        rcases e2 with z | z
        · exact .inl (hk _ _ (ne_of_none z nb) z)
        · exact .inr (hk _ _ (ne_of_none z nb) z)
      have trb : ∀ (H' : Hp), (∀ c o, c ≠ b → G c = some o → H' c = some o) → Paired (TriV H') us tris := fun H' hk => Paired.mapP tri fun v e h => by
        obtain ⟨t, rfl, e1⟩ := h
        exact ⟨t, rfl, hk _ _ (ne_of_none e1 nb) e1⟩
      have gb : ∀ c o, c ≠ b → G c = some o → (upd G b (.lst (List.replicate n (.int 0)))) c = some o := fun c o hc e => by rw [upd_ne hc]; exact e
      have zb : H b = none := free_of KK PA nb
      have st := Stay.new (Stay.refl (H := G)) nb (o := .lst (List.replicate n (.int 0)))
      replace PA := PA.new nb (o := .lst (List.replicate n (.int 0)))
      replace KK := KK.new nb (o := .lst (List.replicate n (.int 0)))
      replace eo := stayL st eo
      replace eL := stayL st eL
      replace er := stayL st er
      replace tri := Paired.mapP tri fun _ _ h => TriV.stay st h
      replace pr := Paired.mapP pr fun _ _ h => NumR.stay st h
      have eb : (upd G b (.lst (List.replicate n (.int 0)))) b = some (.lst (List.replicate n (.int 0))) := upd_same
      clear st nb
      generalize (upd G b (.lst (List.replicate n (.int 0)))) = G1 at gb PA KK tri pr eo eL er eb ⊢
      refine ⟨_, rfl, _, rfl, (by show 2 ≤ sizeLine; rw [sizeLine_eq]; decide), fun q2 nq2 => ?_⟩
      replace gb : ∀ c o, c ≠ b → G c = some o → (upd G1 q2 (.tup [.int x', .int y'])) c = some o := fun c o hc e => by have z := gb c o hc e; rw [upd_ne (ne_of_none z nq2)]; exact z
      have zq2 : H q2 = none := free_of KK PA nq2
      have st := Stay.new (Stay.refl (H := G1)) nq2 (o := .tup [.int x', .int y'])
      replace PA := PA.new nq2 (o := .tup [.int x', .int y'])
      replace KK := KK.new nq2 (o := .tup [.int x', .int y'])
      replace eo := stayL st eo
      replace eL := stayL st eL
      replace er := stayL st er
      replace eb := stayL st eb
      replace tri := Paired.mapP tri fun _ _ h => TriV.stay st h
      replace pr := Paired.mapP pr fun _ _ h => NumR.stay st h
      have eq2 : (upd G1 q2 (.tup [.int x', .int y'])) q2 = some (.tup [.int x', .int y']) := upd_same
      clear st nq2
      generalize (upd G1 q2 (.tup [.int x', .int y'])) = G2 at gb PA KK tri pr eo eL er eb eq2 ⊢
      have e1s : (List.replicate n (V.int 0)).set i (.int x') = ((List.replicate n (0 : Int)).set i x').map V.int := by rw [List.map_set, List.map_replicate]
      have e2s : ((((List.replicate n (0 : Int)).set i x').map V.int).set j (.int y')) = (((List.replicate n (0 : Int)).set i x').set j y').map V.int := List.map_set.symm
      have hix : ∀ (m : Nat) (xs : List V), xs.length = n → m < n → ixN xs.length (m : Int) = some m := fun m xs hl hm => by
        unfold ixN
        rw [hl, if_pos (by omega), if_pos (by omega), Int.toNat_natCast]
      refine ⟨q2, _, rfl, .inl (.inl eq2), rfl, _, _, rfl, _, rfl, _, rfl, b, _, (i : Int), i, rfl, rfl, eb, hix i _ List.length_replicate (by omega), ?_⟩
      rw [e1s]
      refine ⟨_, _, rfl, _, rfl, _, rfl, b, _, (j : Int), j, rfl, rfl, upd_same, hix j _ (by rw [List.length_map, List.length_set, List.length_replicate]) jn, rfl, ?_⟩
      rw [e2s]
      generalize hns : ((List.replicate n (0 : Int)).set i x').set j y' = ns
      have rok : rowOk n (most + 2) (w', ns) := by
        subst hns
        refine ⟨by rw [List.length_set, List.length_set, List.length_replicate], q1, fun z hz => ?_, ?_⟩
        · rcases List.mem_or_eq_of_mem_set hz with h | h
          · rcases List.mem_or_eq_of_mem_set h with h | h
            · rw [(List.mem_replicate.mp h).2]
              omega
            · omega
          · omega
        · rcases pos with h | h
          · refine ⟨x', ?_, h⟩
            refine List.mem_iff_getElem?.mpr ⟨i, ?_⟩
            rw [List.getElem?_set_ne (Ne.symm ij), List.getElem?_set_self (by rw [List.length_replicate]; omega)]
          · exact ⟨y', List.mem_set (by rw [List.length_set, List.length_replicate]; omega) _, h⟩
      have uu : upd (upd G2 b (.lst (((List.replicate n (0 : Int)).set i x').map V.int))) b (.lst (ns.map V.int)) = upd G2 b (.lst (ns.map V.int)) := by
        funext c
        by_cases hc : c = b
        · rw [hc, upd_same, upd_same]
        · rw [upd_ne hc, upd_ne hc, upd_ne hc]
      rw [uu]
      replace gb : ∀ c o, c ≠ b → G c = some o → (upd G2 b (.lst (ns.map V.int))) c = some o := fun c o hc e => by rw [upd_ne hc]; exact gb c o hc e
      replace PA := PA.put pb lb (o := .lst (ns.map V.int))
      replace KK : Keep p H (upd G2 b (.lst (ns.map V.int))) := fun c o nc e => by
        rw [upd_ne (ne_of_none e zb)]
        exact KK c o nc e
      replace eo : (upd G2 b (.lst (ns.map V.int))) o1 = some (.lst (List.replicate n (.int 0))) := by rw [upd_ne bo.symm]; exact eo
      replace eL : (upd G2 b (.lst (ns.map V.int))) LL = some (.lst us) := by rw [upd_ne bL.symm]; exact eL
      replace er : (upd G2 b (.lst (ns.map V.int))) rr = some (.lst xs) := by rw [upd_ne br.symm]; exact er
      replace tri := trb _ gb
      replace pr := prb _ gb
      replace eb : (upd G2 b (.lst (ns.map V.int))) b = some (.lst (ns.map V.int)) := upd_same
      clear gb prb trb uu hns eq2
      generalize (upd G2 b (.lst (ns.map V.int))) = G3 at PA KK eo eL er tri pr eb ⊢
      refine ⟨_, rfl, .inl ⟨rfl, _, SqL.of er⟩, _, rfl, _, rfl, (by show 2 ≤ sizeLine; rw [sizeLine_eq]; decide), fun t nt => ?_⟩
      have zt : H t = none := free_of KK PA nt
      have st := Stay.new (Stay.refl (H := G3)) nt (o := .tup [.int w', .ref b])
      replace PA := PA.new nt (o := .tup [.int w', .ref b])
      replace KK := KK.new nt (o := .tup [.int w', .ref b])
      replace eo := stayL st eo
      replace eL := stayL st eL
      replace er := stayL st er
      replace eb := stayL st eb
      replace tri := Paired.mapP tri fun _ _ h => TriV.stay st h
      replace pr := Paired.mapP pr fun _ _ h => NumR.stay st h
      have et : (upd G3 t (.tup [.int w', .ref b])) t = some (.tup [.int w', .ref b]) := upd_same
      clear st nt
      generalize (upd G3 t (.tup [.int w', .ref b])) = G4 at PA KK tri pr eo eL er eb et ⊢
      have lxs : xs.length = q := (Paired.length pr).trans le
      refine ⟨rr, xs, _, rfl, rfl, er, by rw [lxs, sizeLine_eq]; omega, ?_⟩
      have put : ∀ c o, c ≠ rr → G4 c = some o → (upd G4 rr (.lst (xs ++ [.ref t]))) c = some o := fun c o hc e => by rw [upd_ne hc]; exact e
      have nrt : ∀ {c : Addr} {ys : List V}, G4 c = some (.tup ys) → c ≠ rr := fun e => ne_of e er (by intro z; cases z)
      refine ⟨_, _, _, _, xs ++ [.ref t], es ++ [(w', ns)], rfl, PA.put prr lrr, ?_, ?_, ?_, ?_, upd_same, ?_, by rw [List.length_append, le]; rfl, ?_⟩
      · intro c o nc e
        rw [upd_ne (ne_of_none e zrr)]
        exact KK c o nc e
      · exact put _ _ orr eo
      · exact put _ _ Lrr eL
      · exact Paired.mapP tri fun v e h => by
          obtain ⟨t, rfl, e1⟩ := h
          exact ⟨t, rfl, put _ _ (nrt e1) e1⟩
      · have new : NumR G4 (.ref t) (w', ns) := ⟨t, b, rfl, et, .inl eb, fun z => by have := rok.1; rw [z] at this; show False; simp at this; omega⟩
        exact Paired.snoc (Paired.mapP pr fun _ _ h => nums_put er pr h) (nums_put er pr new)
      · intro e he
        rcases List.mem_append.mp he with h | h
        · exact oke e h
        · rw [List.mem_singleton.mp h]
          exact rok
    · obtain ⟨v11, v12, v13, v14, xs, es, rfl, PA, KK, eo, eL, tri, er, pr, le, oke⟩ := h
      exact ⟨_, rfl, k rr xs es _ G zrr er pr (by omega) oke (by omega) PA KK⟩
end
end GG



namespace GG
open PySem PySem.Spec PyProof.Rows L2 RZ
/-! ### max of a tuple of whole numbers -/
theorem reads_ints {h : Heap} : ∀ {ns : List Int} {its : List Value}, Vals (ns.map V.int) its → ∃ as, ReadsAll h its (ns.map PyData.int) as
  | [], _, r => by
    cases r
    exact ⟨_, .nil⟩
  | n :: ns, _, r => by
    cases r with
    | cons r1 r2 =>
      obtain ⟨as, q⟩ := reads_ints (h := h) r2
      obtain ⟨t, rfl⟩ := r1
      exact ⟨_, .cons (.int n t) q⟩
def rMaxT (K : PySem.W.Frag) : List V → Hp → VK → Prop := fun vs H Q => ∃ (a : Addr) (n : Int) (ns : List Int), vs = [.ref a] ∧ SqT K H a ((n :: ns).map V.int) ∧ Q (.int (ns.foldl max n)) H
theorem cr_maxT {X : Cx} (hc : X.calm = true) (hu : X.A.units + 10 < cLine) : CallR X (.builtin "max") (rMaxT X.K) := by
  intro pins s σ H vs us Q I r h
  obtain ⟨a, n, ns, rfl, hs, q⟩ := h
  obtain ⟨its, rv, hl, hz⟩ := I.tuple hs
  obtain ⟨u, rfl, ru⟩ := vals1 r
  obtain rfl : u = Value.ref a := ru
  obtain ⟨as, ra⟩ := reads_ints (h := s.heap) (ns := n :: ns) rv
  have dz : ∀ l : List Int, PyData.depthAll (l.map PyData.int) = 0 := fun l => by
    induction l with
    | nil => simp [PyData.depthAll]
    | cons x l ih => rw [List.map_cons]; simp only [PyData.depthAll, PyData.depth]; omega
  have dz' : PyData.depthAll (PyData.int n :: ns.map PyData.int) = 0 := dz (n :: ns)
  have al : PySem.W.AlikeAll (PyData.int n :: ns.map PyData.int) := by
    have each : ∀ d ∈ PyData.int n :: ns.map PyData.int, ∃ z, d = .int z := fun d hd => by
      rcases List.mem_cons.mp hd with rfl | h
      · exact ⟨_, rfl⟩
      · obtain ⟨z, _, rfl⟩ := List.mem_map.mp h
        exact ⟨_, rfl⟩
    refine ⟨fun d hd d' hd' => ?_, fun d hd => ?_⟩
    · obtain ⟨z, rfl⟩ := each d hd
      obtain ⟨z', rfl⟩ := each d' hd'
      simp [PySem.W.alike]
    · obtain ⟨z, rfl⟩ := each d hd
      intro q
      cases q
  refine PySem.W.max_tuple_data (x := .int n) (xs := ns.map .int) (I.ok.hd hc) hl ra al (by rw [dz']; omega) fun i v h' tk bs hv rd hk => ?_
  rw [PySem.W.maxD_ints] at rd
  cases rd with
  | int _ t => exact ⟨.int _, H, Inv.kept I hk, ⟨_, rfl⟩, q⟩
end GG



namespace GG
open PySem PySem.Spec PyProof.Rows L2 RZ
/-! ### the drawn buyers' helpers: rows of one key added up -/
abbrev sMerged : Stmt := topS 50
abbrev ML := List (List Int × Int)
def kI (ns : List Int) : List L2.Key := ns.map Sum.inl
theorem kI_inj : ∀ {a b : List Int}, kI a = kI b → a = b
  | [], [], _ => rfl
  | [], _ :: _, h => by cases h
  | _ :: _, [], h => by cases h
  | a :: as, b :: bs, h => by
    unfold kI at h
    rw [List.map_cons, List.map_cons] at h
    injection h with h1 h2
    injection h1 with h1
    rw [h1, kI_inj (a := as) (b := bs) h2]
theorem kI_kV (ns : List Int) : (kI ns).map kV = ns.map V.int := by
  unfold kI
  rw [List.map_map]
  rfl
def getM (W : ML) (k : List Int) : Option Int := (W.find? fun e => decide (e.1 = k)).map (·.2)
def addM (W : ML) (e : Int × List Int) : ML := if (W.any fun x => decide (x.1 = e.2)) = true then W.map fun x => if x.1 = e.2 then (x.1, (getM W e.2).getD 0 + e.1) else x else W ++ [(e.2, (getM W e.2).getD 0 + e.1)]
def mOf (es : List (Int × List Int)) : ML := es.foldl addM []
def asT (W : ML) : List (List L2.Key × V) := W.map fun e => (kI e.1, .int e.2)
theorem valT (W : ML) (k : List Int) : valV (asT W) (kI k) = (getM W k).map V.int := by
  unfold valV getM asT
  induction W with
  | nil => rfl
  | cons e W ih =>
    rw [List.map_cons, List.find?_cons, List.find?_cons]
    by_cases h : e.1 = k
    · simp [h]
    · have h' : ¬ kI e.1 = kI k := fun z => h (kI_inj z)
      simp only [h, h', decide_false]
      exact ih
theorem putT (W : ML) (e : Int × List Int) : putK (asT W) (kI e.2) (.int ((getM W e.2).getD 0 + e.1)) = asT (addM W e) := by
  have h1 : ((asT W).any fun kv => decide (kv.1 = kI e.2)) = W.any fun x => decide (x.1 = e.2) := by
    unfold asT
    rw [List.any_map]
    refine congrArg (fun f => W.any f) (funext fun x => ?_)
    by_cases h : x.1 = e.2
    · simp [h]
    · have h' : ¬ kI x.1 = kI e.2 := fun z => h (kI_inj z)
      simp [h, h']
  unfold putK addM
  rw [h1]
  split
  · unfold asT
    rw [List.map_map, List.map_map]
    refine List.map_congr_left fun x _ => ?_
    by_cases h : x.1 = e.2
    · simp [h]
    · have h' : ¬ kI x.1 = kI e.2 := fun z => h (kI_inj z)
      simp [h, h']
  · unfold asT
    rw [List.map_append, List.map_cons, List.map_nil]
theorem addM_len (W : ML) (e : Int × List Int) : (addM W e).length ≤ W.length + 1 := by
  unfold addM
  split
  · rw [List.length_map]
    omega
  · rw [List.length_append]
    exact Nat.le_refl _
def dK (k : List Int) : PyData := .tuple (k.map .int)
/-- its keys, sorted, as the law keeps them -/
def keysM (W : ML) : List (List Int) := (W.map (·.1)).mergeSort (PySem.W.dataLe false dK)
def keepM (W : ML) (k : List Int) : Bool := decide ((getM W k).getD 0 ≠ 0) && k.any fun z => decide (0 < z)
def rowsM (W : ML) : List (Int × List Int) := ((keysM W).filter (keepM W)).map fun k => ((getM W k).getD 0, k)
/-- such a row with its numbers as a tuple -/
def NumT (H : Hp) (v : V) (e : Int × List Int) : Prop := ∃ t b, v = .ref t ∧ H t = some (.tup [.int e.1, .ref b]) ∧ H b = some (.tup (e.2.map .int)) ∧ e.2 ≠ []
theorem NumT.r {H : Hp} {v : V} {e : Int × List Int} (h : NumT H v e) : NumR H v e := by
  obtain ⟨t, b, z, e1, e2, ne⟩ := h
  exact ⟨t, b, z, e1, .inr e2, ne⟩
theorem NumT.stay {H H' : Hp} (k : Stay H H') {v : V} {e : Int × List Int} (h : NumT H v e) : NumT H' v e := by
  obtain ⟨t, b, z, e1, e2, ne⟩ := h
  exact ⟨t, b, z, stayT k e1, stayT k e2, ne⟩
theorem NumT.put {H : Hp} {D : Addr} {ys : List V} {o : HO} (eD : H D = some (.lst ys)) {v : V} {e : Int × List Int} (h : NumT H v e) : NumT (upd H D o) v e := by
  obtain ⟨t, b, z, e1, e2, ne⟩ := h
  exact ⟨t, b, z, by rw [upd_ne (ne_of e1 eD (by intro z; cases z))]; exact e1, by rw [upd_ne (ne_of e2 eD (by intro z; cases z))]; exact e2, ne⟩
theorem nums_r {H : Hp} {vs : List V} {es : List (Int × List Int)} (h : Paired (NumT H) vs es) : Paired (NumR H) vs es := Paired.mapP h fun _ _ h => h.r
def spMerged : Sp := fun vs H Q _ => ∃ (a : Addr) (xs : List V) (es : List (Int × List Int)) (n : Nat) (sc : Int), vs = [.int (n : Int), .int sc, .ref a] ∧ H a = some (.lst xs) ∧ Paired (NumR H) xs es ∧ (∀ e ∈ es, e.2.length = n) ∧ es.length ≤ 60 ∧
  ∀ (p R : Addr) (ys : List V) (H' : Hp), H p = none → H' p = some (.dK [(.inr "kinds", .int (n : Int)), (.inr "scale", .int sc), (.inr "rows", .ref R)]) → H' R = some (.lst ys) → Paired (NumT H') ys (rowsM (mOf es)) → Same H H' → Q (.ref p) H'
abbrev NM : List Str := ["_law_kinds", "_law_scale_here", "_law_rows", "_law_found", "_law_weight", "_law_numbers_here", "_law_plain", "_law_key"]
/-- tuple(x), x a list or a tuple: that tuple stands, whichever place it has -/
def rTupA : List V → Hp → VK → Prop := fun xs H Q => ∃ p ys, xs = [.ref p] ∧ (H p = some (.lst ys) ∨ H p = some (.tup ys)) ∧ ∀ q H', H' q = some (.tup ys) → Same H H' → Q (.ref q) H'
theorem call_tupleA {X : Cx} : CallR X (.type "tuple") rTupA := by
  intro pins s σ H xs us Q I r h
  obtain ⟨p, ys, rfl, h1, q⟩ := h
  refine call_tuple_of pins s σ H [.ref p] us Q I r ?_
  rcases h1 with e | e
  · exact ⟨p, ys, rfl, .inl ⟨SqL.of e, fun l nl => q l _ upd_same (GG.Same.new (L2.Same.refl H) nl)⟩⟩
  · exact ⟨p, ys, rfl, .inr ⟨SqT.of e, q p H e (L2.Same.refl H)⟩⟩
theorem mOf_snoc (es : List (Int × List Int)) (e : Int × List Int) : mOf (es ++ [e]) = addM (mOf es) e := by
  unfold mOf
  rw [List.foldl_append]
  rfl
theorem mOf_len (es : List (Int × List Int)) : (mOf es).length ≤ es.length := by
  have key : ∀ (es : List (Int × List Int)) (W : ML), (es.foldl addM W).length ≤ W.length + es.length := by
    intro es
    induction es with
    | nil => intro W; exact Nat.le_refl _
    | cons e es ih =>
      intro W
      have h1 := ih (addM W e)
      have h2 := addM_len W e
      rw [List.foldl_cons, List.length_cons]
      omega
  have := key es []
  simpa [mOf] using this
theorem addM_keys (W : ML) (e : Int × List Int) : ∀ x ∈ addM W e, x.1 = e.2 ∨ ∃ y ∈ W, y.1 = x.1 := by
  intro x hx
  unfold addM at hx
  split at hx
  · obtain ⟨y, hy, rfl⟩ := List.mem_map.mp hx
    split
    · exact .inr ⟨y, hy, rfl⟩
    · exact .inr ⟨y, hy, rfl⟩
  · rcases List.mem_append.mp hx with q | q
    · exact .inr ⟨x, q, rfl⟩
    · rw [List.mem_singleton.mp q]
      exact .inl rfl
theorem mOf_keys {es : List (Int × List Int)} {g : List Int → Prop} (h : ∀ e ∈ es, g e.2) : ∀ x ∈ mOf es, g x.1 := by
  have key : ∀ (es : List (Int × List Int)) (W : ML), (∀ e ∈ es, g e.2) → (∀ x ∈ W, g x.1) → ∀ x ∈ es.foldl addM W, g x.1 := by
    intro es
    induction es with
    | nil => intro W _ h2; exact h2
    | cons e es ih =>
      intro W h1 h2
      refine ih _ (fun z hz => h1 z (List.mem_cons_of_mem _ hz)) fun x hx => ?_
      rcases addM_keys _ _ x hx with q | ⟨y, hy, q⟩
      · rw [q]
        exact h1 e List.mem_cons_self
      · rw [← q]
        exact h2 y hy
  exact key es [] h fun x hx => nomatch hx
theorem getM_some {W : ML} {k : List Int} (h : k ∈ W.map (·.1)) : ∃ m, getM W k = some m := by
  obtain ⟨x, hx, rfl⟩ := List.mem_map.mp h
  unfold getM
  cases q : W.find? (fun e => decide (e.1 = x.1)) with
  | some y => exact ⟨_, rfl⟩
  | none =>
    have := List.find?_eq_none.mp q x hx
    simp at this
theorem max_pos : ∀ (r : List Int) (a : Int), decide (0 < r.foldl max a) = (a :: r).any fun z => decide (0 < z)
  | [], a => by
    rw [Bool.eq_iff_iff]
    simp
    exact decide_eq_true_iff
  | b :: r, a => by
    rw [List.foldl_cons, max_pos r (max a b), List.any_cons, List.any_cons, List.any_cons, ← Bool.or_assoc]
    congr 1
    rw [Bool.eq_iff_iff, Bool.or_eq_true, decide_eq_true_iff, decide_eq_true_iff, decide_eq_true_iff]
    omega
theorem nums_ne {H : Hp} {xs : List V} {es : List (Int × List Int)} (h : Paired (NumR H) xs es) : ∀ e ∈ es, e.2 ≠ [] := by
  induction h with
  | nil => intro e he; cases he
  | cons a _ ih =>
    intro e he
    rcases List.mem_cons.mp he with rfl | q
    · obtain ⟨_, _, _, _, _, h⟩ := a
      exact h
    · exact ih e q
theorem bSorted' : bootBuiltins "sorted" = some (.builtin "sorted") := by decide +kernel
section
variable {P : Program} {w : World} {K : PySem.W.Frag} {mg : Str → Option Value} {base : Heap}
theorem scMerged : FnScope NM ["_law_kinds", "_law_scale_here", "_law_rows"] (defScope sMerged) := ⟨rfl, rfl, rfl, by decide +kernel, rfl, by decide +kernel, by decide +kernel⟩
theorem kn_merged (D : DefIs K mg "_law_merged" sMerged) (T : RTxt K mg) (zs : mg "sorted" = none) (zm : mg "max" = none) : Kn P w K mg base "_law_merged" 1 ["_law_kinds", "_law_scale_here", "_law_rows"] spMerged := by
  refine .of D (fun _ _ _ _ _ _ us hl => match us, hl with | [_, _, _], _ => rfl) fun fa _ F => ?_
  refine F.ok scMerged (fun vs H Q E h => ?_) (fun cdv A outer s H vs Q E hr h => ?_)
  · obtain ⟨a, xs, es, n, sc, rfl, _⟩ := h
    rfl
  · obtain ⟨a, xs, es, n, sc, rfl, ea, pr, ln, l60, k⟩ := h
    have hu := hu_of hr
    have hu10 : (A.deeper (envOfC "_law_merged" (defScope sMerged) s.heap.objs.size fa cdv)).units + 10 < cLine := by have := hr.un; omega
    have hu12 : (A.deeper (envOfC "_law_merged" (defScope sMerged) s.heap.objs.size fa cdv)).units + 12 < cLine := by have := hr.un; omega
    refine ⟨_, pss_cons (ps_set (i := 3) scMerged.nd rfl (.inr rfl) pe_dnewT)
      (pss_cons (ps_for PassesOwn.never rfl (pi_list (pv 2)) (pg_tup rfl (pgs_cons (pg_name (i := 4) scMerged.nd rfl (.inl rfl)) (pgs_cons (pg_name (i := 5) scMerged.nd rfl (.inl rfl)) pgs_nil)))
        (pss_one (ps_dput hu (pv 3) (pe_callTy call_tupleA (by rfl) T.tuple bTuple (pa_cons (pv 5) pa_nil)) (pe_op op_add (pe_dget2 hu (pv 3) (pe_callTy call_tupleA (by rfl) T.tuple bTuple (pa_cons (pv 5) pa_nil)) pe_int ⟨rfl, rfl, rfl, rfl⟩) (pv 4)) rfl)))
      (pss_cons (ps_setLc (i := 6) (own := [("_law_key", 7)]) (g := gName 7) rfl scMerged.nd rfl rfl (sw_true rfl rfl rfl (by decide +kernel)) (pi_list (pe_callB (cr_sortedD hu12) (by rfl) zs bSorted' (pa_cons (pe_callTy (call_list_dT rfl) (by rfl) T.list bList (pa_cons (pv 3) pa_nil)) pa_nil))) (blkOk_by (N := NM) (sc := defScope sMerged) (by decide +kernel))
          (fun _ _ _ _ _ => pg_name (i := 7) scMerged.nd rfl (.inl rfl))
          (fun _ _ _ _ _ => pts_one (PW.pt (pw_and (pt_cmpR op_ne (show PE _ _ (tDGet (tVar 3) (tVar 7)) from pe_dget hu (pv 3) (pv 7) (fun _ _ => rfl)) pe_int (nomark _)) (pw_and1 (pt_cmpR op_gt (pe_callB (show CallR _ _ (rMaxT K) from cr_maxT rfl hu10) (by rfl) zm bMax (pa_cons (pv 7) pa_nil)) pe_int (nomark _))))))
          (fun _ _ _ _ _ => pe_tup (pa_cons (show PE _ _ (tDGet (tVar 3) (tVar 7)) from pe_dget hu (pv 3) (pv 7) (fun _ _ => rfl)) (pa_cons (pv 7) pa_nil))))
      (pss_one (ps_ret (pe_disp (pps_cons pe_str (pv 0) (pps_cons pe_str (pv 1) (pps_cons pe_str (pv 6) pps_nil))) rfl rfl (by intro z; cases z) (by decide)))))), ?_⟩
    intro wd nwd
    have nwd0 := nwd
    refine ⟨_, rfl, a, rfl, ⟨_, SqL.of (by rw [upd_ne (ne_of_none ea nwd)]; exact ea)⟩, for_list (xs := xs) (fun i σ G => ∃ (v4 v5 : Option V), σ = [some (.int (n : Int)), some (.int sc), some (.ref a), some (.ref wd), v4, v5, none, none] ∧ Same H G ∧ G wd = some (.dT (asT (mOf (es.take i)))))
      ⟨none, none, rfl, GG.Same.new (L2.Same.refl H) nwd, upd_same⟩ (fun i σ G _ p => ?_) (fun i x σ G hx p => ?_) (fun σ G p => ?_)⟩
    · obtain ⟨_, _, _, S, _⟩ := p
      exact SqL.of (S _ _ ea)
    · obtain ⟨v4, v5, rfl, S, eW⟩ := p
      obtain ⟨e, he, nr⟩ := paired_at pr hx
      have il := (List.getElem?_eq_some_iff.mp he).1
      obtain ⟨t, b, rfl, e1, e2, e3⟩ := NumR.stay (Same.stay S) nr
      have lW := mOf_len (es.take i)
      rw [List.length_take] at lW
      rw [take_snoc he, mOf_snoc]
      generalize mOf (es.take i) = W at eW lW ⊢
      refine ⟨t, _, rfl, .inl (.inl e1), rfl, _, _, rfl, _, _, rfl, rfl, ?_⟩
      refine ⟨_, rfl, wd, rfl, .inr ⟨_, .inl eW⟩, _, rfl, b, _, rfl, e2, fun q1 G1 eq1 S1 => ?_⟩
      have eW1 := S1 _ _ eW
      refine ⟨_, .inr ⟨_, kI e.2, q1, .inl eW1, rfl, by rw [kI_kV]; exact eq1, rfl⟩, ?_⟩
      have hz : (valV (asT W) (kI e.2)).getD (.int 0) = .int ((getM W e.2).getD 0) := by
        rw [valT]
        cases getM W e.2 <;> rfl
      rw [hz]
      have e2' : G1 b = some (.lst (e.2.map .int)) ∨ G1 b = some (.tup (e.2.map .int)) := by
        rcases e2 with z | z
        · exact .inl (S1 _ _ z)
        · exact .inr (S1 _ _ z)
      refine ⟨_, rfl, _, _, rfl, rfl, _, rfl, _, rfl, b, _, rfl, e2', fun q2 G2 eq2 S2 => ?_⟩
      have eW2 := S2 _ _ eW1
      refine ⟨wd, _, rfl, .inr ⟨_, kI e.2, q2, eW2, rfl, by rw [kI_kV]; exact eq2, ?_, rfl⟩, ?_⟩
      · unfold asT
        rw [List.length_map, sizeLine_eq]
        omega
      · dsimp only
        rw [putT]
        refine ⟨_, _, rfl, ?_, upd_same⟩
        intro c o ec
        rw [upd_ne (ne_of_none ec nwd0)]
        exact S2 _ _ (S1 _ _ (S c o ec))
    · obtain ⟨v4, v5, rfl, S, eW⟩ := p
      rw [Paired.length pr, List.take_length] at eW
      have lW := mOf_len es
      have neW : ∀ x ∈ mOf es, x.1 ≠ [] := mOf_keys (g := fun l => l ≠ []) (nums_ne pr)
      generalize mOf es = W at eW lW k neW
      refine ⟨_, rfl, wd, _, rfl, .inl eW, fun p1 bs np1 ik => ?_⟩
      have S1 := GG.Same.new (L2.Same.refl G) np1 (o := .lst (bs.map V.ref))
      have ep1 : (upd G p1 (.lst (bs.map V.ref))) p1 = some (.lst (bs.map V.ref)) := upd_same
      generalize (upd G p1 (.lst (bs.map V.ref))) = G1 at S1 ep1 ⊢
      have eW1 := S1 _ _ eW
      have lb : bs.length = W.length := by
        have z := Paired.length ik
        unfold asT at z
        rw [List.length_map] at z
        exact z.symm
      have zk : ∀ z ∈ bs.zip (W.map (·.1)), G1 z.1 = some (.tup (z.2.map V.int)) ∧ z.2 ∈ W.map (·.1) := by
        have key : ∀ (W : ML) (bs : List Addr), Paired (fun p b => G b = some (HO.tup (List.map kV p.1))) (asT W) bs → ∀ z ∈ bs.zip (W.map (·.1)), G z.1 = some (.tup (z.2.map V.int)) ∧ z.2 ∈ W.map (·.1) := by
          intro W
          induction W with
          | nil => intro bs h z hz; simp at hz
          | cons e W ih =>
            intro bs h z hz
            cases h with
            | cons h1 h2 =>
              rw [List.map_cons, List.zip_cons_cons] at hz
              rcases List.mem_cons.mp hz with rfl | q
              · refine ⟨?_, List.mem_cons_self⟩
                rw [← kI_kV]
                exact h1
              · obtain ⟨a1, a2⟩ := ih _ h2 z q
                exact ⟨a1, List.mem_cons_of_mem _ a2⟩
        exact fun z hz => ⟨S1 _ _ (key W bs ik z hz).1, (key W bs ik z hz).2⟩
      have m1 : ((bs.zip (W.map (·.1))).map fun z => (V.ref z.1, dK z.2)).map (·.1) = bs.map V.ref := by
        rw [List.map_map, show ((fun x : V × PyData => x.1) ∘ fun z : Addr × List Int => (V.ref z.1, dK z.2)) = V.ref ∘ (·.1) from rfl, ← List.map_map, List.map_fst_zip (by rw [List.length_map]; omega)]
      have m2 : (bs.zip (W.map (·.1))).map (·.2) = W.map (·.1) := List.map_snd_zip (by rw [List.length_map]; omega)
      have lz : (bs.zip (W.map (·.1))).length = W.length := by
        rw [List.length_zip, List.length_map]
        omega
      generalize bs.zip (W.map (·.1)) = zs' at zk m1 m2 lz
      have so1 : (zs'.map fun z => (V.ref z.1, dK z.2)).mergeSort (PySem.W.dataLe false (·.2)) = (zs'.mergeSort (PySem.W.dataLe false fun z => dK z.2)).map fun z => (V.ref z.1, dK z.2) :=
        (List.map_mergeSort (r := PySem.W.dataLe false fun z : Addr × List Int => dK z.2) (s := PySem.W.dataLe false (fun b : V × PyData => b.2)) (f := fun z => (V.ref z.1, dK z.2)) (l := zs') fun _ _ _ _ => rfl).symm
      have so2 : keysM W = (zs'.mergeSort (PySem.W.dataLe false fun z => dK z.2)).map (·.2) := by
        have q := List.map_mergeSort (r := PySem.W.dataLe false fun z : Addr × List Int => dK z.2) (s := PySem.W.dataLe false dK) (f := fun z : Addr × List Int => z.2) (l := zs') (fun _ _ _ _ => rfl)
        rw [m2] at q
        exact q.symm
      have hd : ∀ b ∈ zs'.map (fun z => (V.ref z.1, dK z.2)), ∃ z ∈ zs', b = (V.ref z.1, dK z.2) := fun b hb => by
        obtain ⟨z, hz, rfl⟩ := List.mem_map.mp hb
        exact ⟨z, hz, rfl⟩
      have hk : ∀ d ∈ (zs'.map (fun z => (V.ref z.1, dK z.2))).map (·.2), ∃ z ∈ zs', d = dK z.2 := fun d hd' => by
        obtain ⟨b, hb, rfl⟩ := List.mem_map.mp hd'
        obtain ⟨z, hz, rfl⟩ := hd b hb
        exact ⟨z, hz, rfl⟩
      refine ⟨p1, zs'.map fun z => (V.ref z.1, dK z.2), rfl, by rw [m1]; exact SqL.of ep1, fun b hb => ?_, fun d hd' d' hd'' => ?_, .inl fun d hd' => ?_, fun b hb => ?_, fun p2 np2 => ?_⟩
      · obtain ⟨z, hz, rfl⟩ := hd b hb
        refine ⟨.tup (zk z hz).1 ?_, ?_⟩
        · have key : ∀ l : List Int, DaAll G1 (l.map V.int) (l.map PyData.int) := fun l => by
            induction l with
            | nil => exact .nil
            | cons x l ih => exact .cons (.int _) ih
          exact key z.2
        · show noL (dK z.2) = true
          simp only [dK, noL]
          exact noL_ints _
      · obtain ⟨z, _, rfl⟩ := hk d hd'
        obtain ⟨z', _, rfl⟩ := hk d' hd''
        have h1 := PySem.W.alike_ints z.2 z'.2
        simp [dK, PySem.W.alike, h1]
      · obtain ⟨z, hz, rfl⟩ := hk d hd'
        obtain ⟨x, hx, ex⟩ := List.mem_map.mp (zk z hz).2
        have hne := neW x hx
        rw [ex] at hne
        cases hz2 : z.2 with
        | nil => exact absurd hz2 hne
        | cons q r => exact ⟨_, _, rfl⟩
      · obtain ⟨z, hz, rfl⟩ := hd b hb
        have dz : ∀ l : List Int, PyData.depthAll (l.map PyData.int) = 0 := fun l => by
          induction l with
          | nil => simp [PyData.depthAll]
          | cons x l ih => rw [List.map_cons]; simp only [PyData.depthAll, PyData.depth]; omega
        show (dK z.2).depth ≤ 8
        simp only [dK, PyData.depth]
        rw [dz]
        omega
      · rw [so1, List.map_map]
        have zk2 : ∀ z ∈ zs'.mergeSort (PySem.W.dataLe false fun z => dK z.2), G1 z.1 = some (.tup (z.2.map V.int)) ∧ z.2 ∈ W.map (·.1) := fun z hz => zk z (List.mem_mergeSort.mp hz)
        have lz2 : (zs'.mergeSort (PySem.W.dataLe false fun z => dK z.2)).length ≤ 60 := by
          rw [List.length_mergeSort]
          omega
        generalize zs'.mergeSort (PySem.W.dataLe false fun z => dK z.2) = zz at so2 zk2 lz2 ⊢
        have S2 := GG.Same.new (L2.Same.refl G1) np2 (o := .lst (zz.map ((fun x : V × PyData => x.1) ∘ fun z => (V.ref z.1, dK z.2))))
        have ep2 : (upd G1 p2 (.lst (zz.map ((fun x : V × PyData => x.1) ∘ fun z => (V.ref z.1, dK z.2))))) p2 = some (.lst (zz.map fun z => V.ref z.1)) := upd_same
        generalize (upd G1 p2 (.lst (zz.map ((fun x : V × PyData => x.1) ∘ fun z => (V.ref z.1, dK z.2))))) = G2 at S2 ep2 ⊢
        have eW2 := S2 _ _ eW1
        have S02 := L2.Same.trans S (L2.Same.trans S1 S2)
        refine ⟨p2, rfl, ⟨_, SqL.of ep2⟩, fun D nD => ?_⟩
        refine lc_list (xs := zz.map fun z => V.ref z.1) (fun i G' => Same G2 G' ∧ ∃ ts, G' D = some (.lst ts) ∧ Paired (NumT G') ts ((((zz.take i).map (·.2)).filter (keepM W)).map fun k => ((getM W k).getD 0, k))) ⟨GG.Same.new (L2.Same.refl G2) nD, [], upd_same, .nil⟩ (fun i G' _ q => SqL.of (q.1 _ _ ep2)) (fun i x G' hx q => ?_) (fun G' q => ?_)
        · obtain ⟨S3, ts, eD, pq⟩ := q
          obtain ⟨z, hz, rfl⟩ : ∃ z, zz[i]? = some z ∧ V.ref z.1 = x := by
            rw [List.getElem?_map] at hx
            obtain ⟨z, hz, e⟩ := Option.map_eq_some_iff.mp hx
            exact ⟨z, hz, e⟩
          obtain ⟨ez, mz⟩ := zk2 z (List.mem_of_getElem? hz)
          have ez3 := S3 _ _ (S2 _ _ ez)
          have eW3 := S3 _ _ eW2
          obtain ⟨m, gm⟩ := getM_some mz
          obtain ⟨x1, hx1, ex1⟩ := List.mem_map.mp mz
          have hne := neW x1 hx1
          rw [ex1] at hne
          have dg : ∀ (G'' : Hp), Same G' G'' → DGet G'' wd (.ref z.1) (some (.int m)) := fun G'' SS => .inr ⟨_, kI z.2, z.1, .inl (SS _ _ eW3), rfl, by rw [kI_kV]; exact SS _ _ ez3, by rw [valT, gm]; rfl⟩
          have il : i < 60 := by have := (List.getElem?_eq_some_iff.mp hz).1; omega
          have lts : ts.length ≤ i := by
            rw [Paired.length pq, List.length_map]
            have := List.length_filter_le (keepM W) ((zz.take i).map (·.2))
            rw [List.length_map, List.length_take] at this
            omega
          rw [take_snoc hz, List.map_append, List.filter_append, List.map_append]
          refine ⟨rfl, ?_⟩
          refine ⟨_, rfl, _, rfl, wd, .int m, rfl, dg G' (L2.Same.refl G'), rfl, _, rfl, ?_⟩
          have no : keepM W z.2 = false → Paired (NumT G') ts ((((zz.take i).map (·.2)).filter (keepM W)).map (fun k => ((getM W k).getD 0, k)) ++ ((([z].map (·.2)).filter (keepM W)).map fun k => ((getM W k).getD 0, k))) := fun h => by
            rw [List.map_cons, List.map_nil, List.filter_cons, h]
            simp only [List.filter_nil, List.map_nil, List.append_nil, Bool.false_eq_true, if_false]
            exact pq
          by_cases m0 : m = 0
          · rw [show (!decide (V.int m = V.int 0)) = false from by rw [m0]; simp]
            exact iteF ⟨S3, ts, eD, no (by unfold keepM; rw [gm, m0]; simp)⟩
          · have m0' : ¬ V.int m = V.int 0 := fun q => m0 (V.int.inj q)
            rw [show (!decide (V.int m = V.int 0)) = true from by simp [m0']]
            refine iteT ?_
            have kp : keepM W z.2 = z.2.any fun y => decide (0 < y) := by
              unfold keepM
              rw [gm]
              simp [m0]
            obtain ⟨n0, r, ezr⟩ : ∃ n0 r, z.2 = n0 :: r := by
              cases h : z.2 with
              | nil => exact absurd h hne
              | cons q r => exact ⟨_, _, rfl⟩
            refine ⟨_, rfl, z.1, n0, r, rfl, SqT.of (by rw [← ezr]; exact ez3), _, _, rfl, rfl, _, rfl, ?_⟩
            rw [max_pos, ← ezr, ← kp]
            cases hk' : keepM W z.2 with
            | false => exact iteF ⟨S3, ts, eD, no hk'⟩
            | true =>
              refine iteT ?_
              refine ⟨_, rfl, _, rfl, wd, .int m, rfl, dg G' (L2.Same.refl G'), _, rfl, (by show 2 ≤ sizeLine; rw [sizeLine_eq]; decide), fun t nt => ?_⟩
              have S4 := GG.Same.new (L2.Same.refl G') nt (o := .tup [.int m, .ref z.1])
              have et : (upd G' t (.tup [.int m, .ref z.1])) t = some (.tup [.int m, .ref z.1]) := upd_same
              generalize (upd G' t (.tup [.int m, .ref z.1])) = G4 at S4 et ⊢
              have eD4 := S4 _ _ eD
              have pq4 := Paired.mapP pq fun _ _ h => NumT.stay (Same.stay S4) h
              refine ⟨ts, eD4, by rw [sizeLine_eq]; omega, ?_, ts ++ [.ref t], upd_same, ?_⟩
              · intro c o ec
                rw [upd_ne (ne_of_none ec nD)]
                exact S4 c o (S3 c o ec)
              · rw [List.map_cons, List.map_nil, List.filter_cons, hk']
                have new : NumT G4 (.ref t) ((getM W z.2).getD 0, z.2) := ⟨t, z.1, rfl, by rw [gm]; exact et, S4 _ _ ez3, hne⟩
                exact Paired.snoc (Paired.mapP pq4 fun _ _ h => NumT.put eD4 h) (NumT.put eD4 new)
        · obtain ⟨S3, ts, eD, pq⟩ := q
          rw [List.length_map, List.take_length, ← so2] at pq
          refine fun p np => ⟨_, rfl, _, rfl, _, rfl, upd_same, [(.inr "kinds", .int (n : Int)), (.inr "scale", .int sc), (.inr "rows", .ref D)], rfl, (by show 3 ≤ 15; decide), ?_⟩
          have np0 : H p = none := by
            cases q : H p with
            | none => rfl
            | some o => rw [S3 _ _ (S02 _ _ q)] at np; cases np
          have eqh : upd (upd G' p (.dK [])) p (.dK (mergeK [] [((.inr "kinds" : L2.Key), V.int (n : Int)), (.inr "scale", .int sc), (.inr "rows", .ref D)])) = upd G' p (.dK [(.inr "kinds", .int (n : Int)), (.inr "scale", .int sc), (.inr "rows", .ref D)]) := by
            rw [show mergeK [] [((.inr "kinds" : L2.Key), V.int (n : Int)), (.inr "scale", .int sc), (.inr "rows", .ref D)] = [((.inr "kinds" : L2.Key), V.int (n : Int)), (.inr "scale", .int sc), (.inr "rows", .ref D)] from by kernel_rfl]
            funext c
            by_cases hc : c = p
            · rw [hc, upd_same, upd_same]
            · rw [upd_ne hc, upd_ne hc, upd_ne hc]
          rw [eqh]
          have S5 := GG.Same.new (L2.Same.refl G') np (o := .dK [(.inr "kinds", .int (n : Int)), (.inr "scale", .int sc), (.inr "rows", .ref D)])
          exact k p D ts _ np0 upd_same (S5 _ _ eD) (Paired.mapP pq fun _ _ h => NumT.stay (Same.stay S5) h) (L2.Same.trans S02 (L2.Same.trans S3 S5))
end
end GG



namespace GG
open PySem PySem.Spec PyProof.Rows L2 RZ
/-! ### the drawn buyers' helpers: a buyer -/
abbrev sBuyer : Stmt := topS 54
def dictB (n : Nat) (sc : Int) (R : Addr) : HO := .dK [(.inr "kinds", .int (n : Int)), (.inr "scale", .int sc), (.inr "rows", .ref R)]
def spBuyer : Sp := fun vs H Q _ => ∃ (p l : Addr) (c : Int) (n : Nat) (sc most many : Int), vs = [.ref p, .int (n : Int), .int sc, .int most, .int many] ∧ PenAt H p l c ∧ c < 9000000 ∧ 1 ≤ n ∧ n ≤ 3 ∧ 1 ≤ most ∧ most ≤ 900000 ∧
  ∀ (d R : Addr) (ys : List V) (es : List (Int × List Int)) (c' : Int) (H' : Hp), H d = none → H' d = some (dictB n sc R) → H' R = some (.lst ys) → Paired (NumT H') ys (rowsM (mOf es)) → (∀ e ∈ es, rowOk n (most + 2) e) → es.length ≤ 12 → c' ≤ c + 60 → PenAt H' p l c' → Keep p H H' → Q (.ref d) H'
abbrev NBu : List Str := ["_law_pen_here", "_law_kinds", "_law_scale_here", "_law_most", "_law_many", "_law_rows", "_law_lap"]
section
variable {P : Program} {w : World} {K : PySem.W.Frag} {mg : Str → Option Value} {base : Heap}
theorem scBuyer : FnScope NBu ["_law_pen_here", "_law_kinds", "_law_scale_here", "_law_most", "_law_many"] (defScope sBuyer) := ⟨rfl, rfl, rfl, by decide +kernel, rfl, by decide +kernel, by decide +kernel⟩
theorem kn_buyer (D : DefIs K mg "_law_buyer" sBuyer) (zr : mg "range" = none) (B1 : Kn P w K mg base "_law_draw" 1 ["_law_pen_here", "_law_many"] spDraw) (BN : Kn P w K mg base "_law_numbers" 3 ["_law_pen_here", "_law_kinds", "_law_most"] spNums) (BB : Kn P w K mg base "_law_block" 2 ["_law_pen_here", "_law_kinds", "_law_most"] spBlock) (BM : Kn P w K mg base "_law_merged" 1 ["_law_kinds", "_law_scale_here", "_law_rows"] spMerged) :
    Kn P w K mg base "_law_buyer" 4 ["_law_pen_here", "_law_kinds", "_law_scale_here", "_law_most", "_law_many"] spBuyer := by
  refine .of D (fun _ _ _ _ _ _ us hl => match us, hl with | [_, _, _, _, _], _ => rfl) fun fa _ F => ?_
  refine F.ok scBuyer (fun vs H Q E h => ?_) (fun cdv A outer s H vs Q E hr h => ?_)
  · obtain ⟨p, l, c, n, sc, most, many, rfl, _⟩ := h
    rfl
  · obtain ⟨p, l, c, n, sc, most, many, rfl, PA, c0, n1, n3, m1, m2, k⟩ := h
    have hr1 : Room 1 _ := hr.mono (by decide)
    have hr2 : Room 2 _ := hr.mono (by decide)
    refine ⟨_, pss_cons (ps_set (i := 5) scBuyer.nd rfl (.inl rfl) (pe_lst pa_nil))
      (pss_cons (ps_for PassesOwn.never rfl (pi_range1 rfl zr (pa_cons pe_int pa_nil)) (pg_name (i := 6) scBuyer.nd rfl (.inl rfl))
        (pss_one (ps_if (PW.pt (pw_and (pt_cmpR op_gt (pv 1) pe_int (nomark _)) (pw_and (pt_cmpR op_ge (pv 4) pe_int (nomark _)) (pw_and1 (pt_cmpR op_eq (pe_kn B1 hr1 (pa_cons (pv 0) (pa_cons pe_int pa_nil))) pe_int (nomark _))))))
          (pss_one (ps_par (i := 5) (j := 4) rfl scBuyer.nd rfl rfl (by decide) rfl rfl (pa_cons (pe_op op_cat (pv 5) (pe_kn BB hr2 (pa_cons (pv 0) (pa_cons (pv 1) (pa_cons (pv 3) pa_nil))))) (pa_cons (pe_op op_sub (pv 4) pe_int) pa_nil)) rfl))
          (pss_one (ps_if (pt_cmpR op_gt (pv 4) pe_int (nomark _))
            (pss_one (ps_par (i := 5) (j := 4) rfl scBuyer.nd rfl rfl (by decide) rfl rfl (pa_cons (pe_op op_cat (pv 5) (pe_lst (pa_cons (pe_tup (pa_cons (pe_op op_add pe_int (pe_kn B1 hr1 (pa_cons (pv 0) (pa_cons pe_int pa_nil)))) (pa_cons (pe_kn BN hr (pa_cons (pv 0) (pa_cons (pv 1) (pa_cons (pv 3) pa_nil)))) pa_nil))) pa_nil))) (pa_cons (pe_op op_sub (pv 4) pe_int) pa_nil)) rfl)) pss_nil)))))
      (pss_one (ps_ret (pe_kn BM hr1 (pa_cons (pv 1) (pa_cons (pv 2) (pa_cons (pv 5) pa_nil))))))), ?_⟩
    refine ⟨(by show 0 ≤ sizeLine; exact Nat.zero_le _), fun r0 nr0 => ?_⟩
    refine ⟨3, rfl, by decide, by decide, for_range (n := 3) (fun i σ G => ∃ (c' many' : Int) (r : Addr) (xs : List V) (es : List (Int × List Int)) (v6 : Option V), σ = [some (.ref p), some (.int (n : Int)), some (.int sc), some (.int most), some (.int many'), some (.ref r), v6] ∧ PenAt G p l c' ∧ c' ≤ c + 20 * i ∧ Keep p H G ∧ G r = some (.lst xs) ∧ Paired (NumR G) xs es ∧ es.length ≤ 4 * i ∧ ∀ e ∈ es, rowOk n (most + 2) e)
      ⟨c, many, r0, [], [], none, rfl, PA.new nr0, by omega, Keep.refl.new nr0, upd_same, .nil, Nat.zero_le _, fun e he => nomatch he⟩ ?_ ?_⟩
    · rintro i σ G hi ⟨c', many', r, xs, es, v6, rfl, PA, hc, KK, er, pr, le, okE⟩
      refine ⟨_, rfl, _, _, rfl, rfl, _, rfl, ?_⟩
      refine ite2 (fun gn => ?_) (fun _ => ?_)
      · refine ⟨_, rfl, _, _, rfl, rfl, _, rfl, ?_⟩
        refine ite2 (fun _ => ?_) (fun _ => ?_)
        · have gn' := of_decide_eq_true gn
          refine ⟨_, rfl, p, l, _, 2, rfl, PA, by decide, by decide, by omega, fun f0 G1 _ _ P1 K1 => ⟨rfl, _, rfl, ?_⟩⟩
          have st1 := K1.stay PA
          replace er := stayL st1 er
          replace pr := Paired.mapP pr fun _ _ h => NumR.stay st1 h
          replace KK := KK.trans K1
          replace PA := P1
          clear P1 K1 st1
          refine ite2 (fun _ => ?_) (fun _ => ?_)
          · refine ⟨_, rfl, _, rfl, _, rfl, _, rfl, p, l, _, n, most, rfl, PA, by omega, by omega, n3, m1, m2, fun q ys es2 c6 G6 nq eq pr2 l4 ok2 hc6 P6 K6 => ?_⟩
            have st6 := K6.stay PA
            refine ⟨r, q, _, _, rfl, rfl, stayL st6 er, eq, by rw [Paired.length pr, Paired.length pr2, sizeLine_eq]; omega, fun r2 nr2 => ⟨_, rfl, _, _, rfl, rfl, _, _, rfl, ?_⟩⟩
            have S9 := GG.Same.new (L2.Same.refl G6) nr2 (o := .lst (xs ++ ys))
            refine ⟨c6, _, r2, xs ++ ys, es ++ es2, _, rfl, P6.new nr2, by omega, (KK.trans K6).new nr2, upd_same, paired_app (Paired.mapP pr fun _ _ h => NumR.stay (Same.stay S9) (NumR.stay st6 h)) (Paired.mapP pr2 fun _ _ h => NumR.stay (Same.stay S9) h), by rw [List.length_append]; omega, fun e he => ?_⟩
            rcases List.mem_append.mp he with h | h
            · exact okE e h
            · exact ok2 e h
          · refine ⟨_, rfl, _, _, rfl, rfl, _, rfl, ?_⟩
            refine ite2 (fun _ => ?_) (fun _ => ?_)
            · refine ⟨_, rfl, _, rfl, p, l, _, 3, rfl, PA, by decide, by decide, by omega, fun w0 G5 w00 w01 P5 K5 => ⟨_, _, rfl, rfl, ?_⟩⟩
              have st5 := K5.stay PA
              refine ⟨_, rfl, _, rfl, _, rfl, p, l, _, n, most, rfl, P5, by omega, n1, n3, m1, m2, fun b ns c6 G6 nb eb lns bns pos hc6 P6 K6 => ?_⟩
              have st6 := K6.stay P5
              have er6 := stayL st6 (stayL st5 er)
              have pr6 := Paired.mapP pr fun _ _ h => NumR.stay st6 (NumR.stay st5 h)
              have KK6 := (KK.trans K5).trans K6
              refine ⟨(by show 2 ≤ sizeLine; rw [sizeLine_eq]; decide), fun t nt => ?_⟩
              have S7 := GG.Same.new (L2.Same.refl G6) nt (o := .tup [.int (1 + w0), .ref b])
              have et : (upd G6 t (.tup [.int (1 + w0), .ref b])) t = some (.tup [.int (1 + w0), .ref b]) := upd_same
              have P7 := P6.new nt (o := .tup [.int (1 + w0), .ref b])
              have KK7 := KK6.new nt (o := .tup [.int (1 + w0), .ref b])
              generalize (upd G6 t (.tup [.int (1 + w0), .ref b])) = G7 at S7 et P7 KK7 ⊢
              refine ⟨(by show 1 ≤ sizeLine; rw [sizeLine_eq]; decide), fun q nq => ?_⟩
              have S8 := GG.Same.new (L2.Same.refl G7) nq (o := .lst [.ref t])
              have eq8 : (upd G7 q (.lst [.ref t])) q = some (.lst [.ref t]) := upd_same
              have P8 := P7.new nq (o := .lst [.ref t])
              have KK8 := KK7.new nq (o := .lst [.ref t])
              generalize (upd G7 q (.lst [.ref t])) = G8 at S8 eq8 P8 KK8 ⊢
              refine ⟨r, q, _, _, rfl, rfl, S8 _ _ (S7 _ _ er6), eq8, by rw [Paired.length pr, sizeLine_eq]; show es.length + 1 ≤ _; omega, fun r2 nr2 => ⟨_, rfl, _, _, rfl, rfl, _, _, rfl, ?_⟩⟩
              have S9 := GG.Same.new (L2.Same.refl G8) nr2 (o := .lst (xs ++ [.ref t]))
              have S79 := L2.Same.trans S7 (L2.Same.trans S8 S9)
              have ok1 : rowOk n (most + 2) (1 + w0, ns) := ⟨lns, by show (1 + w0).natAbs ≤ 20; omega, bns, pos⟩
              have new : NumR (upd G8 r2 (.lst (xs ++ [.ref t]))) (.ref t) (1 + w0, ns) := ⟨t, b, rfl, S9 _ _ (S8 _ _ et), .inl (S79 _ _ eb), fun z => by have := ok1.1; rw [z] at this; simp at this; omega⟩
              refine ⟨c6, _, r2, xs ++ [.ref t], es ++ [(1 + w0, ns)], _, rfl, P8.new nr2, by omega, KK8.new nr2, upd_same, Paired.snoc (Paired.mapP pr6 fun _ _ h => NumR.stay (Same.stay S79) h) new, by rw [List.length_append]; show es.length + 1 ≤ _; omega, fun e he => ?_⟩
              rcases List.mem_append.mp he with h | h
              · exact okE e h
              · rw [List.mem_singleton.mp h]
                exact ok1
            · exact ⟨_, _, r, xs, es, _, rfl, PA, by omega, KK, er, pr, by omega, okE⟩
        · refine ⟨_, rfl, _, _, rfl, rfl, _, rfl, ?_⟩
          refine ite2 (fun _ => ?_) (fun _ => ?_)
          · refine ⟨_, rfl, _, rfl, p, l, _, 3, rfl, PA, by decide, by decide, by omega, fun w0 G5 w00 w01 P5 K5 => ⟨_, _, rfl, rfl, ?_⟩⟩
            have st5 := K5.stay PA
            refine ⟨_, rfl, _, rfl, _, rfl, p, l, _, n, most, rfl, P5, by omega, n1, n3, m1, m2, fun b ns c6 G6 nb eb lns bns pos hc6 P6 K6 => ?_⟩
            have st6 := K6.stay P5
            have er6 := stayL st6 (stayL st5 er)
            have pr6 := Paired.mapP pr fun _ _ h => NumR.stay st6 (NumR.stay st5 h)
            have KK6 := (KK.trans K5).trans K6
            refine ⟨(by show 2 ≤ sizeLine; rw [sizeLine_eq]; decide), fun t nt => ?_⟩
            have S7 := GG.Same.new (L2.Same.refl G6) nt (o := .tup [.int (1 + w0), .ref b])
            have et : (upd G6 t (.tup [.int (1 + w0), .ref b])) t = some (.tup [.int (1 + w0), .ref b]) := upd_same
            have P7 := P6.new nt (o := .tup [.int (1 + w0), .ref b])
            have KK7 := KK6.new nt (o := .tup [.int (1 + w0), .ref b])
            generalize (upd G6 t (.tup [.int (1 + w0), .ref b])) = G7 at S7 et P7 KK7 ⊢
            refine ⟨(by show 1 ≤ sizeLine; rw [sizeLine_eq]; decide), fun q nq => ?_⟩
            have S8 := GG.Same.new (L2.Same.refl G7) nq (o := .lst [.ref t])
            have eq8 : (upd G7 q (.lst [.ref t])) q = some (.lst [.ref t]) := upd_same
            have P8 := P7.new nq (o := .lst [.ref t])
            have KK8 := KK7.new nq (o := .lst [.ref t])
            generalize (upd G7 q (.lst [.ref t])) = G8 at S8 eq8 P8 KK8 ⊢
            refine ⟨r, q, _, _, rfl, rfl, S8 _ _ (S7 _ _ er6), eq8, by rw [Paired.length pr, sizeLine_eq]; show es.length + 1 ≤ _; omega, fun r2 nr2 => ⟨_, rfl, _, _, rfl, rfl, _, _, rfl, ?_⟩⟩
            have S9 := GG.Same.new (L2.Same.refl G8) nr2 (o := .lst (xs ++ [.ref t]))
            have S79 := L2.Same.trans S7 (L2.Same.trans S8 S9)
            have ok1 : rowOk n (most + 2) (1 + w0, ns) := ⟨lns, by show (1 + w0).natAbs ≤ 20; omega, bns, pos⟩
            have new : NumR (upd G8 r2 (.lst (xs ++ [.ref t]))) (.ref t) (1 + w0, ns) := ⟨t, b, rfl, S9 _ _ (S8 _ _ et), .inl (S79 _ _ eb), fun z => by have := ok1.1; rw [z] at this; simp at this; omega⟩
            refine ⟨c6, _, r2, xs ++ [.ref t], es ++ [(1 + w0, ns)], _, rfl, P8.new nr2, by omega, KK8.new nr2, upd_same, Paired.snoc (Paired.mapP pr6 fun _ _ h => NumR.stay (Same.stay S79) h) new, by rw [List.length_append]; show es.length + 1 ≤ _; omega, fun e he => ?_⟩
            rcases List.mem_append.mp he with h | h
            · exact okE e h
            · rw [List.mem_singleton.mp h]
              exact ok1
          · exact ⟨_, _, r, xs, es, _, rfl, PA, by omega, KK, er, pr, by omega, okE⟩
      · refine ⟨_, rfl, _, _, rfl, rfl, _, rfl, ?_⟩
        refine ite2 (fun _ => ?_) (fun _ => ?_)
        · refine ⟨_, rfl, _, rfl, p, l, _, 3, rfl, PA, by decide, by decide, by omega, fun w0 G5 w00 w01 P5 K5 => ⟨_, _, rfl, rfl, ?_⟩⟩
          have st5 := K5.stay PA
          refine ⟨_, rfl, _, rfl, _, rfl, p, l, _, n, most, rfl, P5, by omega, n1, n3, m1, m2, fun b ns c6 G6 nb eb lns bns pos hc6 P6 K6 => ?_⟩
          have st6 := K6.stay P5
          have er6 := stayL st6 (stayL st5 er)
          have pr6 := Paired.mapP pr fun _ _ h => NumR.stay st6 (NumR.stay st5 h)
          have KK6 := (KK.trans K5).trans K6
          refine ⟨(by show 2 ≤ sizeLine; rw [sizeLine_eq]; decide), fun t nt => ?_⟩
          have S7 := GG.Same.new (L2.Same.refl G6) nt (o := .tup [.int (1 + w0), .ref b])
          have et : (upd G6 t (.tup [.int (1 + w0), .ref b])) t = some (.tup [.int (1 + w0), .ref b]) := upd_same
          have P7 := P6.new nt (o := .tup [.int (1 + w0), .ref b])
          have KK7 := KK6.new nt (o := .tup [.int (1 + w0), .ref b])
          generalize (upd G6 t (.tup [.int (1 + w0), .ref b])) = G7 at S7 et P7 KK7 ⊢
          refine ⟨(by show 1 ≤ sizeLine; rw [sizeLine_eq]; decide), fun q nq => ?_⟩
          have S8 := GG.Same.new (L2.Same.refl G7) nq (o := .lst [.ref t])
          have eq8 : (upd G7 q (.lst [.ref t])) q = some (.lst [.ref t]) := upd_same
          have P8 := P7.new nq (o := .lst [.ref t])
          have KK8 := KK7.new nq (o := .lst [.ref t])
          generalize (upd G7 q (.lst [.ref t])) = G8 at S8 eq8 P8 KK8 ⊢
          refine ⟨r, q, _, _, rfl, rfl, S8 _ _ (S7 _ _ er6), eq8, by rw [Paired.length pr, sizeLine_eq]; show es.length + 1 ≤ _; omega, fun r2 nr2 => ⟨_, rfl, _, _, rfl, rfl, _, _, rfl, ?_⟩⟩
          have S9 := GG.Same.new (L2.Same.refl G8) nr2 (o := .lst (xs ++ [.ref t]))
          have S79 := L2.Same.trans S7 (L2.Same.trans S8 S9)
          have ok1 : rowOk n (most + 2) (1 + w0, ns) := ⟨lns, by show (1 + w0).natAbs ≤ 20; omega, bns, pos⟩
          have new : NumR (upd G8 r2 (.lst (xs ++ [.ref t]))) (.ref t) (1 + w0, ns) := ⟨t, b, rfl, S9 _ _ (S8 _ _ et), .inl (S79 _ _ eb), fun z => by have := ok1.1; rw [z] at this; simp at this; omega⟩
          refine ⟨c6, _, r2, xs ++ [.ref t], es ++ [(1 + w0, ns)], _, rfl, P8.new nr2, by omega, KK8.new nr2, upd_same, Paired.snoc (Paired.mapP pr6 fun _ _ h => NumR.stay (Same.stay S79) h) new, by rw [List.length_append]; show es.length + 1 ≤ _; omega, fun e he => ?_⟩
          rcases List.mem_append.mp he with h | h
          · exact okE e h
          · rw [List.mem_singleton.mp h]
            exact ok1
        · exact ⟨_, _, r, xs, es, _, rfl, PA, by omega, KK, er, pr, by omega, okE⟩
    · rintro σ G ⟨c', many', r, xs, es, v6, rfl, PA, hc, KK, er, pr, le, okE⟩
      refine ⟨_, rfl, _, rfl, _, rfl, r, xs, es, n, sc, rfl, er, pr, (fun e he => (okE e he).1), by omega, fun d R ys H' nd ed eR pR S => ?_⟩
      have nd0 : H d = none := free_of KK PA nd
      exact k d R ys es c' H' nd0 ed eR pR okE (by omega) (by omega) (PA.same S) (fun b o nb e => S _ _ (KK b o nb e))
end
end GG



namespace GG
open PySem PySem.Spec PyProof.Rows L2 RZ
/-! ### the drawn buyers' helpers: a list of bids -/
abbrev sList : Stmt := topS 55
def rowW (n : Nat) (top : Int) (b : Nat) (e : Int × List Int) : Prop := e.2.length = n ∧ e.1.natAbs ≤ b ∧ (∀ z ∈ e.2, 0 ≤ z ∧ z ≤ top) ∧ ∃ z ∈ e.2, 0 < z
theorem getM_abs {W : ML} {B : Nat} (h : ∀ x ∈ W, x.2.natAbs ≤ B) (k : List Int) : ((getM W k).getD 0).natAbs ≤ B := by
  unfold getM
  cases q : W.find? (fun e => decide (e.1 = k)) with
  | none => exact Nat.zero_le _
  | some y => exact h y (List.mem_of_find?_eq_some q)
theorem addM_abs {W : ML} {B b : Nat} {e : Int × List Int} (h : ∀ x ∈ W, x.2.natAbs ≤ B) (he : e.1.natAbs ≤ b) : ∀ x ∈ addM W e, x.2.natAbs ≤ B + b := by
  intro x hx
  have g := getM_abs h e.2
  unfold addM at hx
  split at hx
  · obtain ⟨y, hy, rfl⟩ := List.mem_map.mp hx
    have := h y hy
    split
    · show ((getM W e.2).getD 0 + e.1).natAbs ≤ B + b
      omega
    · omega
  · rcases List.mem_append.mp hx with q | q
    · have := h x q
      omega
    · rw [List.mem_singleton.mp q]
      show ((getM W e.2).getD 0 + e.1).natAbs ≤ B + b
      omega
theorem mOf_abs {b : Nat} {es : List (Int × List Int)} (h : ∀ e ∈ es, e.1.natAbs ≤ b) : ∀ x ∈ mOf es, x.2.natAbs ≤ b * es.length := by
  have key : ∀ (es : List (Int × List Int)) (W : ML) (B : Nat), (∀ e ∈ es, e.1.natAbs ≤ b) → (∀ x ∈ W, x.2.natAbs ≤ B) → ∀ x ∈ es.foldl addM W, x.2.natAbs ≤ B + b * es.length := by
    intro es
    induction es with
    | nil => intro W B _ h2; exact h2
    | cons e es ih =>
      intro W B h1 h2 x hx
      have := ih (addM W e) (B + b) (fun z hz => h1 z (List.mem_cons_of_mem _ hz)) (addM_abs h2 (h1 e List.mem_cons_self)) x hx
      rw [List.length_cons, Nat.mul_add, Nat.mul_one]
      omega
  intro x hx
  have := key es [] 0 h (fun x hx => nomatch hx) x hx
  omega
theorem rowsM_len (W : ML) : (rowsM W).length ≤ W.length := by
  unfold rowsM keysM
  rw [List.length_map]
  refine Nat.le_trans (List.length_filter_le _ _) ?_
  rw [List.length_mergeSort, List.length_map]
  exact Nat.le_refl _
theorem rowsM_ok {n b : Nat} {top : Int} {es : List (Int × List Int)} (h : ∀ e ∈ es, rowW n top b e) : ∀ e ∈ rowsM (mOf es), rowW n top (b * es.length) e := by
  intro e he
  unfold rowsM at he
  obtain ⟨k, hk, rfl⟩ := List.mem_map.mp he
  have hm := (List.mem_filter.mp hk).1
  unfold keysM at hm
  obtain ⟨x, hx, ex⟩ := List.mem_map.mp (List.mem_mergeSort.mp hm)
  have g := mOf_keys (g := fun l => l.length = n ∧ (∀ z ∈ l, 0 ≤ z ∧ z ≤ top) ∧ ∃ z ∈ l, 0 < z) (fun e he => ⟨(h e he).1, (h e he).2.2⟩) x hx
  rw [ex] at g
  exact ⟨g.1, getM_abs (mOf_abs fun e he => (h e he).2.1) k, g.2⟩
/-- such rows as data -/
theorem nums_dp {K : PySem.W.Frag} {H : Hp} {xs : List V} {es : List (Int × List Int)} (h : Paired (NumR H) xs es) : ∃ ds, DpAll K H xs ds ∧ ds.length = es.length ∧ PyData.canLayAll0 ds = true ∧ PyData.depthAll ds ≤ 3 := by
  have dInts : ∀ l : List Int, DpAll K H (l.map V.int) (l.map PyData.int) ∧ PyData.canLayAll0 (l.map PyData.int) = true ∧ PyData.depthAll (l.map PyData.int) = 0 := by
    intro l
    induction l with
    | nil => exact ⟨.nil, by simp [PyData.canLayAll0], by simp [PyData.depthAll]⟩
    | cons x l ih =>
      obtain ⟨i1, i2, i3⟩ := ih
      refine ⟨.cons (.int _) i1, by simp [PyData.canLayAll0, PyData.canLay0, i2], ?_⟩
      rw [List.map_cons]
      simp only [PyData.depthAll, PyData.depth]
      omega
  induction h with
  | nil => exact ⟨[], .nil, rfl, by simp [PyData.canLayAll0], by simp [PyData.depthAll]⟩
  | @cons x e xs es a _ ih =>
    obtain ⟨ds, d1, d2, d3, d4⟩ := ih
    obtain ⟨t, b, rfl, e1, e2, _⟩ := a
    obtain ⟨i1, i2, i3⟩ := dInts e.2
    rcases e2 with q | q
    · refine ⟨.tuple [.int e.1, .list (e.2.map .int)] :: ds, .cons (.tup (.inl (.inl e1)) (.cons (.int _) (.cons (.lst (SqL.of q) i1) .nil))) d1, by rw [List.length_cons, List.length_cons, d2], by simp [PyData.canLayAll0, PyData.canLay0, i2, d3], ?_⟩
      simp only [PyData.depthAll, PyData.depth, i3]
      omega
    · refine ⟨.tuple [.int e.1, .tuple (e.2.map .int)] :: ds, .cons (.tup (.inl (.inl e1)) (.cons (.int _) (.cons (.tup (.inl (.inl q)) i1) .nil))) d1, by rw [List.length_cons, List.length_cons, d2], by simp [PyData.canLayAll0, PyData.canLay0, i2, d3], ?_⟩
      simp only [PyData.depthAll, PyData.depth, i3]
      omega
theorem sh_list {ds : List PyData} (h1 : PyData.canLayAll0 ds = true) (h2 : PyData.depthAll ds ≤ 3) : SeqAt.shaped (.list ds) = true := by
  show (PyData.canLay0 _ && decide (PyData.depth _ ≤ 64)) = true
  rw [Bool.and_eq_true]
  refine ⟨by simp [PyData.canLay0, h1], decide_eq_true ?_⟩
  simp only [PyData.depth]
  omega
theorem paired_set {α β : Type} {G : α → β → Prop} {l : List α} {m : List β} (h : Paired G l m) {a : α} {b : β} (g : G a b) : ∀ i, Paired G (l.set i a) (m.set i b) := by
  induction h with
  | nil => intro i; exact .nil
  | cons x y ih =>
    intro i
    cases i with
    | zero => exact .cons g y
    | succ i => exact .cons x (ih i)
def spList : Sp := fun vs H Q _ => ∃ (p l : Addr) (c : Int) (n : Nat) (sc most many : Int), vs = [.ref p, .int (n : Int), .int sc, .int most, .int many] ∧ PenAt H p l c ∧ c < 8000000 ∧ 1 ≤ n ∧ n ≤ 3 ∧ 1 ≤ most ∧ most ≤ 900000 ∧
  ∀ (d R : Addr) (ys : List V) (es : List (Int × List Int)) (c' : Int) (H' : Hp), H d = none → H' d = some (dictB n sc R) → H' R = some (.lst ys) → Paired (NumT H') ys (rowsM (mOf es)) → (∀ e ∈ es, rowW n (most + 2) 250 e) → es.length ≤ 13 → c' ≤ c + 90 → PenAt H' p l c' → Keep p H H' → Q (.ref d) H'
abbrev NLi : List Str := ["_law_pen_here", "_law_kinds", "_law_scale_here", "_law_most", "_law_many", "_law_way", "_law_found", "_law_rows", "_law_k"]
section
variable {P : Program} {w : World} {K : PySem.W.Frag} {mg : Str → Option Value} {base : Heap}
theorem scList : FnScope NLi ["_law_pen_here", "_law_kinds", "_law_scale_here", "_law_most", "_law_many"] (defScope sList) := ⟨rfl, rfl, rfl, by decide +kernel, rfl, by decide +kernel, by decide +kernel⟩
theorem kn_list (D : DefIs K mg "_law_list" sList) (T : RTxt K mg) (B1 : Kn P w K mg base "_law_draw" 1 ["_law_pen_here", "_law_many"] spDraw) (BN : Kn P w K mg base "_law_numbers" 3 ["_law_pen_here", "_law_kinds", "_law_most"] spNums) (BU : Kn P w K mg base "_law_buyer" 4 ["_law_pen_here", "_law_kinds", "_law_scale_here", "_law_most", "_law_many"] spBuyer) (BM : Kn P w K mg base "_law_merged" 1 ["_law_kinds", "_law_scale_here", "_law_rows"] spMerged) :
    Kn P w K mg base "_law_list" 5 ["_law_pen_here", "_law_kinds", "_law_scale_here", "_law_most", "_law_many"] spList := by
  refine .of D (fun _ _ _ _ _ _ us hl => match us, hl with | [_, _, _, _, _], _ => rfl) fun fa _ F => ?_
  refine F.ok scList (fun vs H Q E h => ?_) (fun cdv A outer s H vs Q E hr h => ?_)
  · obtain ⟨p, l, c, n, sc, most, many, rfl, _⟩ := h
    rfl
  · obtain ⟨p, l, c, n, sc, most, many, rfl, PA, c0, n1, n3, m1, m2, k⟩ := h
    have hu := hu_of hr
    have hr1 : Room 1 _ := hr.mono (by decide)
    have hr3 : Room 3 _ := hr.mono (by decide)
    have hu64 : (A.deeper (envOfC "_law_list" (defScope sList) s.heap.objs.size fa cdv)).units + 64 < cLine := by have := hr.un; omega
    refine ⟨_, pss_cons (ps_par (i := 5) (j := 6) rfl scList.nd rfl rfl (by decide) rfl rfl (pa_cons (pe_kn B1 hr1 (pa_cons (pv 0) (pa_cons pe_int pa_nil))) (pa_cons (pe_kn BU hr (pa_cons (pv 0) (pa_cons (pv 1) (pa_cons (pv 2) (pa_cons (pv 3) (pa_cons (pv 4) pa_nil)))))) pa_nil)) rfl)
      (pss_cons (ps_if (PW.pt (pw_or (pt_cmpR op_eq (pv 5) pe_int (nomark _)) (pw_or1 (pt_cmpR (op_eqD hu64) (pe_dget hu (pv 6) pe_str (fun _ _ => rfl)) (pe_lst pa_nil) (nomark _))))) (pss_one (ps_ret (pv 6))) pss_nil)
      (pss_cons (ps_set (i := 7) scList.nd rfl (.inl rfl) (pe_callTy call_list_of (by rfl) T.list bList (pa_cons (pe_dget hu (pv 6) pe_str (fun _ _ => rfl)) pa_nil)))
      (Evl.pss_cut (ps_if (pt_cmpR op_eq (pv 5) pe_int (nomark _))
          (pss_cons (ps_set (i := 8) scList.nd rfl (.inl rfl) (pe_kn B1 hr1 (pa_cons (pv 0) (pa_cons (pe_callB call_len_seq (by rfl) T.len PySem.boot_len (pa_cons (pv 7) pa_nil)) pa_nil))))
          (pss_one (ps_asg (pe_tup (pa_cons (pe_op op_sub (pe_op op_sub (pe_ix ix_tup (pe_ix ix_list (pv 7) (pv 8) (fun _ _ => rfl)) pe_int (fun _ _ => rfl)) pe_int) (pe_kn B1 hr1 (pa_cons (pv 0) (pa_cons pe_int pa_nil)))) (pa_cons (pe_ix ix_tup (pe_ix ix_list (pv 7) (pv 8) (fun _ _ => rfl)) pe_int (fun _ _ => rfl)) pa_nil))) (pg_sub (pv 7) (pv 8) set_list)))) pss_nil)
      (Evl.pss_cut (ps_if (pt_cmpR op_eq (pv 5) pe_int (nomark _))
          (pss_one (ps_set (i := 7) scList.nd rfl (.inl rfl) (pe_op op_cat (pv 7) (pe_lst (pa_cons (pe_tup (pa_cons (pe_op op_sub (pe_un un_neg pe_int) (pe_kn B1 hr1 (pa_cons (pv 0) (pa_cons pe_int pa_nil)))) (pa_cons (pe_kn BN hr3 (pa_cons (pv 0) (pa_cons (pv 1) (pa_cons (pv 3) pa_nil)))) pa_nil))) pa_nil))))) pss_nil)
      (pss_one (ps_ret (pe_kn BM hr1 (pa_cons (pv 1) (pa_cons (pv 2) (pa_cons (pv 7) pa_nil)))))))))), ?_⟩
    refine ⟨_, rfl, p, l, c, 4, rfl, PA, by decide, by decide, by omega, fun way H1 _ _ P1 K1 => ?_⟩
    refine ⟨_, rfl, _, rfl, _, rfl, _, rfl, _, rfl, p, l, _, n, sc, most, many, rfl, P1, by omega, n1, n3, m1, m2, fun d R ys es c2 H2 nd ed eR pR okE le hc2 P2 K2 => ⟨_, _, rfl, ?_⟩⟩
    have KK := K1.trans K2
    have nd0 : H d = none := free_of K1 P1 nd
    have okW : ∀ e ∈ es, rowW n (most + 2) 20 e := okE
    have early : ∀ H', Same H2 H' → Q (.ref d) H' := fun H' S => k d R ys es c2 H' nd0 (S _ _ ed) (S _ _ eR) (Paired.mapP pR fun _ _ h => NumT.stay (Same.stay S) h) (fun e he => ⟨(okE e he).1, by have := (okE e he).2.1; omega, (okE e he).2.2⟩) (by omega) (by omega) (P2.same S) (fun b o nb e => S _ _ (KK b o nb e))
    have dg : ∀ G, Same H2 G → DGet G d (.str "rows") (some (.ref R)) := fun G S => .inl ⟨_, .inr "rows", .inl (S _ _ ed), rfl, by kernel_rfl⟩
    refine ⟨_, rfl, rfl, _, rfl, ?_⟩
    refine ite2 (fun _ => ?_) (fun _ => ?_)
    · exact ⟨_, rfl, early H2 (L2.Same.refl H2)⟩
    · refine ⟨_, rfl, d, _, rfl, dg H2 (L2.Same.refl H2), (by show 0 ≤ sizeLine; exact Nat.zero_le _), fun e0 ne0 => ?_⟩
      have S0 := GG.Same.new (L2.Same.refl H2) ne0 (o := .lst [])
      have ee0 : (upd H2 e0 (.lst [])) e0 = some (.lst []) := upd_same
      have P3 := P2.new ne0 (o := .lst [])
      generalize (upd H2 e0 (.lst [])) = H3 at S0 ee0 P3 ⊢
      have pR3 := Paired.mapP pR fun _ _ h => NumR.stay (Same.stay S0) h.r
      obtain ⟨ds, d1, d2, d3, d4⟩ := nums_dp (K := K) pR3
      refine ⟨.list ds, .list [], .lst (SqL.of (S0 _ _ eR)) d1, .lst (SqL.of ee0) .nil, sh_list d3 d4, rfl, _, rfl, ?_⟩
      refine ite2 (fun _ => ?_) (fun q => ?_)
      · exact ⟨_, rfl, early H3 S0⟩
      have fne : 0 < (rowsM (mOf es)).length := by
        cases h : ds with
        | nil => rw [h] at q; simp [PyData.eqv, PyData.eqvAll] at q
        | cons a r => rw [← d2, h]; simp
      have fok := rowsM_ok okW
      have flen := Nat.le_trans (rowsM_len (mOf es)) (mOf_len es)
      have fok2 : ∀ e ∈ rowsM (mOf es), rowW n (most + 2) 240 e := fun e he => ⟨(fok e he).1, Nat.le_trans (fok e he).2.1 (by omega), (fok e he).2.2⟩
      clear early fok
      refine ⟨_, rfl, d, _, rfl, dg H3 S0, R, _, rfl, .inl (SqL.of (S0 _ _ eR)), fun r nr => ?_⟩
      have S1 := GG.Same.new (L2.Same.refl H3) nr (o := .lst ys)
      have er : (upd H3 r (.lst ys)) r = some (.lst ys) := upd_same
      have zr0 : H r = none := free_of (KK.trans fun b o _ e => S0 b o e) P3 nr
      obtain ⟨prn, lrn⟩ := P3.ne nr
      have P4 := P3.new nr (o := .lst ys)
      have KK4 : Keep p H (upd H3 r (.lst ys)) := fun b o nb e => S1 _ _ (S0 _ _ (KK b o nb e))
      have pr4 := Paired.mapP pR3 fun _ _ h => NumR.stay (Same.stay S1) h
      generalize (upd H3 r (.lst ys)) = H4 at er P4 KK4 pr4 ⊢
      generalize rowsM (mOf es) = fs at fne fok2 flen pr4
      clear S0 ee0 P3 pR3 d1 d2 d3 d4 q nr S1 dg pR eR ed P2 K2 K1 P1 nd KK PA okW okE ds
      refine ⟨fun σ' G => ∃ (c3 : Int) (v8 : Option V) (zs : List V) (gs : List (Int × List Int)), σ' = [some (.ref p), some (.int (n : Int)), some (.int sc), some (.int most), some (.int many), some (.int way), some (.ref d), some (.ref r), v8] ∧ PenAt G p l c3 ∧ c3 ≤ c + 66 ∧ Keep p H G ∧ G r = some (.lst zs) ∧ Paired (NumR G) zs gs ∧ (∀ e ∈ gs, rowW n (most + 2) 250 e) ∧ gs.length ≤ 12, ?_, ?_⟩
      · refine ⟨_, rfl, rfl, _, rfl, ?_⟩
        refine ite2 (fun _ => ?_) (fun _ => ?_)
        · have lys := Paired.length pr4
          refine ⟨_, rfl, _, rfl, r, ys, rfl, .inl (SqL.of er), p, l, c2, _, rfl, P4, by omega, by omega, by omega, fun kk' G1 k0 k1 P5 K5 => ?_⟩
          obtain ⟨kk, rfl⟩ : ∃ kk : Nat, kk' = (kk : Int) := ⟨kk'.toNat, by omega⟩
          have st5 := K5.stay P4
          have er5 := stayL st5 er
          have pr5 := Paired.mapP pr4 fun _ _ h => NumR.stay st5 h
          have KK5 := KK4.trans K5
          have kl : kk < ys.length := by omega
          obtain ⟨x, hx⟩ : ∃ x, ys[kk]? = some x := ⟨ys[kk], List.getElem?_eq_getElem kl⟩
          obtain ⟨e, he, t, b, rfl, e1, e2, e3⟩ := paired_at pr5 hx
          obtain ⟨o1, o2, o3⟩ := fok2 e (List.mem_of_getElem? he)
          refine ⟨_, rfl, _, rfl, r, _, _, .ref t, rfl, rfl, SqL.of er5, atI_nat hx, t, _, _, _, rfl, rfl, SqT.of e1, atI_nat (j := 0) rfl, _, _, rfl, rfl, _, rfl, p, l, _, 3, rfl, P5, by decide, by decide, by omega, fun w0 G2 w00 w01 P6 K6 => ⟨_, _, rfl, rfl, ?_⟩⟩
          have st6 := K6.stay P5
          have er6 := stayL st6 er5
          have e16 := stayT st6 e1
          have pr6 := Paired.mapP pr5 fun _ _ h => NumR.stay st6 h
          have KK6 := KK5.trans K6
          have e26 : G2 b = some (.lst (e.2.map .int)) ∨ G2 b = some (.tup (e.2.map .int)) := by
            rcases e2 with z | z
            · exact .inl (stayL st6 z)
            · exact .inr (stayT st6 z)
          refine ⟨_, rfl, _, rfl, r, _, _, .ref t, rfl, rfl, SqL.of er6, atI_nat hx, t, _, _, _, rfl, rfl, SqT.of e16, atI_nat (j := 1) rfl, (by show 2 ≤ sizeLine; rw [sizeLine_eq]; decide), fun q nq => ?_⟩
          have S7 := GG.Same.new (L2.Same.refl G2) nq (o := .tup [.int (e.1 - 1 - w0), .ref b])
          have eq7 : (upd G2 q (.tup [.int (e.1 - 1 - w0), .ref b])) q = some (.tup [.int (e.1 - 1 - w0), .ref b]) := upd_same
          have P7 := P6.new nq (o := .tup [.int (e.1 - 1 - w0), .ref b])
          have KK7 := KK6.new nq (o := .tup [.int (e.1 - 1 - w0), .ref b])
          have er7 := S7 _ _ er6
          have pr7 := Paired.mapP pr6 fun _ _ h => NumR.stay (Same.stay S7) h
          have new : NumR (upd G2 q (.tup [.int (e.1 - 1 - w0), .ref b])) (.ref q) (e.1 - 1 - w0, e.2) := ⟨q, b, rfl, eq7, by
            rcases e26 with z | z
            · exact .inl (S7 _ _ z)
            · exact .inr (S7 _ _ z), e3⟩
          generalize (upd G2 q (.tup [.int (e.1 - 1 - w0), .ref b])) = G7 at P7 KK7 er7 pr7 new ⊢
          refine ⟨_, rfl, _, rfl, r, _, (kk : Int), kk, rfl, rfl, er7, ?_, ?_⟩
          · unfold ixN
            rw [if_pos (by omega), if_pos (by omega), Int.toNat_natCast]
          · refine ⟨_, _, ys.set kk (.ref q), fs.set kk (e.1 - 1 - w0, e.2), rfl, P7.put prn lrn, by omega, ?_, upd_same, paired_set (Paired.mapP pr7 fun _ _ h => nums_put er7 pr7 h) (nums_put er7 pr7 new) kk, fun f hf => ?_, by rw [List.length_set]; omega⟩
            · intro b' o nb ee
              rw [upd_ne (ne_of_none ee zr0)]
              exact KK7 b' o nb ee
            · rcases List.mem_or_eq_of_mem_set hf with h | h
              · exact ⟨(fok2 f h).1, by have := (fok2 f h).2.1; omega, (fok2 f h).2.2⟩
              · rw [h]
                exact ⟨o1, by show (e.1 - 1 - w0).natAbs ≤ 250; omega, o3⟩
        · exact ⟨c2, _, ys, fs, rfl, P4, by omega, KK4, er, pr4, fun f h => ⟨(fok2 f h).1, by have := (fok2 f h).2.1; omega, (fok2 f h).2.2⟩, by omega⟩
      · rintro σ' G ⟨c3, v8, zs, gs, rfl, P5, hc3, KK5, er5, pr5, ok5, l12⟩
        refine ⟨fun σ' G' => ∃ (c4 : Int) (v8 : Option V) (r1 : Addr) (zs' : List V) (gs' : List (Int × List Int)), σ' = [some (.ref p), some (.int (n : Int)), some (.int sc), some (.int most), some (.int many), some (.int way), some (.ref d), some (.ref r1), v8] ∧ PenAt G' p l c4 ∧ c4 ≤ c + 85 ∧ Keep p H G' ∧ G' r1 = some (.lst zs') ∧ Paired (NumR G') zs' gs' ∧ (∀ e ∈ gs', rowW n (most + 2) 250 e) ∧ gs'.length ≤ 13, ?_, ?_⟩
        · refine ⟨_, rfl, rfl, _, rfl, ?_⟩
          refine ite2 (fun _ => ?_) (fun _ => ?_)
          · refine ⟨_, rfl, _, rfl, _, rfl, p, l, c3, 2, rfl, P5, by decide, by decide, by omega, fun w0 G6 w00 w01 P6 K6 => ⟨_, _, rfl, rfl, ?_⟩⟩
            have st6 := K6.stay P5
            refine ⟨_, rfl, _, rfl, _, rfl, p, l, _, n, most, rfl, P6, by omega, n1, n3, m1, m2, fun b ns c7 G7 nb eb lns bns pos hc7 P7 K7 => ?_⟩
            have st7 := K7.stay P6
            have er7 := stayL st7 (stayL st6 er5)
            have pr7 := Paired.mapP pr5 fun _ _ h => NumR.stay st7 (NumR.stay st6 h)
            have KK7 := (KK5.trans K6).trans K7
            refine ⟨(by show 2 ≤ sizeLine; rw [sizeLine_eq]; decide), fun t nt => ?_⟩
            have S8 := GG.Same.new (L2.Same.refl G7) nt (o := .tup [.int (-1 - w0), .ref b])
            have et : (upd G7 t (.tup [.int (-1 - w0), .ref b])) t = some (.tup [.int (-1 - w0), .ref b]) := upd_same
            have P8 := P7.new nt (o := .tup [.int (-1 - w0), .ref b])
            have KK8 := KK7.new nt (o := .tup [.int (-1 - w0), .ref b])
            generalize (upd G7 t (.tup [.int (-1 - w0), .ref b])) = G8 at S8 et P8 KK8 ⊢
            refine ⟨(by show 1 ≤ sizeLine; rw [sizeLine_eq]; decide), fun q nq => ?_⟩
            have S9 := GG.Same.new (L2.Same.refl G8) nq (o := .lst [.ref t])
            have eq9 : (upd G8 q (.lst [.ref t])) q = some (.lst [.ref t]) := upd_same
            have P9 := P8.new nq (o := .lst [.ref t])
            have KK9 := KK8.new nq (o := .lst [.ref t])
            generalize (upd G8 q (.lst [.ref t])) = G9 at S9 eq9 P9 KK9 ⊢
            refine ⟨r, q, _, _, rfl, rfl, S9 _ _ (S8 _ _ er7), eq9, by rw [Paired.length pr5, sizeLine_eq]; show gs.length + 1 ≤ _; omega, fun r2 nr2 => ?_⟩
            have S10 := GG.Same.new (L2.Same.refl G9) nr2 (o := .lst (zs ++ [.ref t]))
            have S810 := L2.Same.trans S8 (L2.Same.trans S9 S10)
            have ok1 : rowW n (most + 2) 250 (-1 - w0, ns) := ⟨lns, by show (-1 - w0).natAbs ≤ 250; omega, bns, pos⟩
            have new : NumR (upd G9 r2 (.lst (zs ++ [.ref t]))) (.ref t) (-1 - w0, ns) := ⟨t, b, rfl, S10 _ _ (S9 _ _ et), .inl (S810 _ _ eb), fun z => by have := ok1.1; rw [z] at this; simp at this; omega⟩
            refine ⟨c7, _, r2, zs ++ [.ref t], gs ++ [(-1 - w0, ns)], rfl, P9.new nr2, by omega, KK9.new nr2, upd_same, Paired.snoc (Paired.mapP pr7 fun _ _ h => NumR.stay (Same.stay S810) h) new, fun e he => ?_, by rw [List.length_append]; show gs.length + 1 ≤ _; omega⟩
            rcases List.mem_append.mp he with h | h
            · exact ok5 e h
            · rw [List.mem_singleton.mp h]
              exact ok1
          · exact ⟨c3, _, r, zs, gs, rfl, P5, by omega, KK5, er5, pr5, ok5, by omega⟩
        · rintro σ' G' ⟨c4, v8', r1, zs', gs', rfl, P6, hc4, KK6, er6, pr6, ok6, l13⟩
          refine ⟨_, rfl, _, rfl, _, rfl, r1, zs', gs', n, sc, rfl, er6, pr6, (fun e he => (ok6 e he).1), by omega, fun d' R' ys' H' nd' ed' eR' pR' S => ?_⟩
          exact k d' R' ys' gs' c4 H' (free_of KK6 P6 nd') ed' eR' pR' ok6 l13 (by omega) (P6.same S) (fun b o nb e => S _ _ (KK6 b o nb e))
end
end GG



namespace GG
open PySem PySem.Spec PyProof.Rows L2 RZ
def ratE (sc : Int) (e : Int × List Int) : Int × RK := (e.1, e.2.map fun b => lw b sc)
def spRR : Sp := fun vs H Q _ => ∃ (d R : Addr) (ys : List V) (es : List (Int × List Int)) (n : Nat) (sc : Int), vs = [.ref d] ∧ H d = some (dictB n sc R) ∧ H R = some (.lst ys) ∧ Paired (NumR H) ys es ∧ 0 < sc ∧ sc ≤ 1000 ∧ es.length ≤ 60 ∧ (∀ e ∈ es, e.2.length ≤ 3 ∧ ∀ z ∈ e.2, z.natAbs ≤ 1000000) ∧
  ∀ (q : Addr) (zs : List V) (H' : Hp), H' q = some (.tup zs) → Paired (GivV H') zs (es.map (ratE sc)) → Same H H' → Q (.ref q) H'
abbrev NRR : List Str := ["_law_bids", "_law_w", "_law_numbers_here", "_law_b"]
section
variable {P : Program} {w : World} {K : PySem.W.Frag} {mg : Str → Option Value} {base : Heap}
end
end GG



namespace GG
open PySem PySem.Spec PyProof.Rows L2
/-! ### drawn rows are a plain list of their own -/
theorem lw_less {x y sc : Int} (s0 : 0 < sc) : lessR (lw x sc) (lw y sc) = decide (x < y) := by
  obtain ⟨a1, a2⟩ := lw_exact x sc
  obtain ⟨b1, b2⟩ := lw_exact y sc
  have g0 : (0 : Int) < ((Nat.gcd x.natAbs sc.natAbs : Nat) : Int) := by
    have : 0 < Nat.gcd x.natAbs sc.natAbs := Nat.gcd_pos_of_pos_right _ (by omega)
    omega
  have h0 : (0 : Int) < ((Nat.gcd y.natAbs sc.natAbs : Nat) : Int) := by
    have : 0 < Nat.gcd y.natAbs sc.natAbs := Nat.gcd_pos_of_pos_right _ (by omega)
    omega
  generalize ((Nat.gcd x.natAbs sc.natAbs : Nat) : Int) = g at a1 a2 g0
  generalize ((Nat.gcd y.natAbs sc.natAbs : Nat) : Int) = h at b1 b2 h0
  unfold lessR
  generalize lw x sc = a at a1 a2 ⊢
  generalize lw y sc = b at b1 b2 ⊢
  have e1 : a.1 * b.2 * (g * h) = x * sc := by
    rw [← a1, ← b2]
    ac_rfl
  have e2 : b.1 * a.2 * (g * h) = y * sc := by
    rw [← b1, ← a2]
    ac_rfl
  refine decide_eq_decide.mpr ?_
  rw [← Int.mul_lt_mul_right (Int.mul_pos g0 h0), e1, e2]
  exact Int.mul_lt_mul_right s0
theorem lw_inj {x y sc : Int} (s0 : 0 < sc) (h : lw x sc = lw y sc) : x = y := by
  have h1 := lw_less (x := x) (y := y) s0
  have h2 := lw_less (x := y) (y := x) s0
  have h3 := lw_less (x := y) (y := y) s0
  rw [h, h3] at h1
  rw [h, h3] at h2
  have i : ¬ y < y := by omega
  rw [decide_eq_false i] at h1 h2
  have := of_decide_eq_false h1.symm
  have := of_decide_eq_false h2.symm
  omega
theorem ahead_lw {sc : Int} (s0 : 0 < sc) : ∀ k l : List Int, k.length = l.length → ahead (k.map fun z => lw z sc) (l.map fun z => lw z sc) = decide (k < l)
  | [], [], _ => rfl
  | [], _ :: _, h => by cases h
  | _ :: _, [], h => by cases h
  | a :: k, b :: l, h => by
    rw [List.map_cons, List.map_cons]
    unfold ahead
    rw [ahead_lw s0 k l (by simpa using h), lw_less s0]
    by_cases e : a = b
    · subst e
      rw [if_pos rfl]
      refine decide_eq_decide.mpr ?_
      rw [List.cons_lt_cons_iff]
      have : ¬ a < a := by omega
      simp [this]
    · rw [if_neg (fun z => e (lw_inj s0 z))]
      refine decide_eq_decide.mpr ?_
      rw [List.cons_lt_cons_iff]
      simp [e]
theorem dk_lt {a b : List Int} (le : PySem.W.dataLe false dK a b = true) (ne : a ≠ b) : a < b := by
  refine lt_of_not (fun q => ?_) ne
  have e : PySem.W.dataLt (dK b) (dK a) = true := by
    unfold dK
    rw [PySem.W.dataLt_tuple]
    have := PySem.W.dataLt_ints b a
    unfold PySem.W.rowLt at this
    rw [this]
    exact decide_eq_true q
  have le' : (!PySem.W.dataLt (dK b) (dK a)) = true := le
  rw [e] at le'
  cases le'
theorem addM_nodup {W : ML} {e : Int × List Int} (h : (W.map (·.1)).Nodup) : ((addM W e).map (·.1)).Nodup := by
  unfold addM
  split
  · rw [List.map_map]
    have : ((fun x : List Int × Int => x.1) ∘ fun x => if x.1 = e.2 then (x.1, (getM W e.2).getD 0 + e.1) else x) = fun x => x.1 := by
      funext x
      dsimp only [Function.comp]
      split <;> rfl
    rw [this]
    exact h
  · rename_i q
    rw [List.map_append, List.map_cons, List.map_nil, List.nodup_append]
    refine ⟨h, by simp, ?_⟩
    intro a ha b hb z
    rw [List.mem_singleton.mp hb] at z
    apply q
    rw [List.any_eq_true]
    obtain ⟨x, hx, rfl⟩ := List.mem_map.mp ha
    exact ⟨x, hx, decide_eq_true z⟩
theorem mOf_nodup (es : List (Int × List Int)) : ((mOf es).map (·.1)).Nodup := by
  have key : ∀ (es : List (Int × List Int)) (W : ML), (W.map (·.1)).Nodup → ((es.foldl addM W).map (·.1)).Nodup := by
    intro es
    induction es with
    | nil => intro W h; exact h
    | cons e es ih => intro W h; exact ih _ (addM_nodup h)
  exact key es [] List.nodup_nil
theorem keysM_srt {W : ML} (nd : (W.map (·.1)).Nodup) : (keysM W).Pairwise (· < ·) := by
  unfold keysM
  generalize W.map (·.1) = Ks at nd
  have T : PySem.W.TotalLe (PySem.W.dataLe false dK) := PySem.W.sortLe_total _ _ _
  have p1 : (Ks.mergeSort (PySem.W.dataLe false dK)).Pairwise fun a b => PySem.W.dataLe false dK a b = true :=
    List.pairwise_mergeSort (le := PySem.W.dataLe false dK) (fun a b c => T.trans a b c) (fun a b => by
      rcases T.total a b with q | q
      · have q' : PySem.W.dataLe false dK a b = true := q
        rw [q']
        rfl
      · have q' : PySem.W.dataLe false dK b a = true := q
        rw [q', Bool.or_true]) Ks
  have p2 : (Ks.mergeSort (PySem.W.dataLe false dK)).Nodup := (List.mergeSort_perm Ks _).nodup_iff.mpr nd
  exact List.Pairwise.imp (fun h => dk_lt h.1 h.2) (p1.and p2)
theorem rowsM_keys (W : ML) : (rowsM W).map (·.2) = (keysM W).filter (keepM W) := by
  unfold rowsM
  rw [List.map_map]
  exact List.map_id _
theorem rowsM_srt (es : List (Int × List Int)) : ((rowsM (mOf es)).map (·.2)).Pairwise (· < ·) := by
  rw [rowsM_keys]
  exact (keysM_srt (mOf_nodup es)).sublist List.filter_sublist
theorem rowsM_w {W : ML} : ∀ e ∈ rowsM W, e.1 ≠ 0 := by
  intro e he
  unfold rowsM at he
  obtain ⟨k, hk, rfl⟩ := List.mem_map.mp he
  have h := (List.mem_filter.mp hk).2
  unfold keepM at h
  rw [Bool.and_eq_true] at h
  exact of_decide_eq_true h.1
theorem total_self {Ws : WS} (nd : (Ws.map (·.2)).Nodup) : ∀ e ∈ Ws, total Ws e.2 = e.1 := by
  induction Ws with
  | nil => intro e he; cases he
  | cons x Ws ih =>
    intro e he
    rw [List.map_cons] at nd
    obtain ⟨n1, n2⟩ := List.nodup_cons.mp nd
    have hh : total (x :: Ws) e.2 = (if x.2 = e.2 then x.1 else 0) + total Ws e.2 := by
      unfold total
      rw [List.map_cons, List.sum_cons]
    rw [hh]
    rcases List.mem_cons.mp he with rfl | q
    · rw [if_pos rfl, total_none n1]
      omega
    · rw [if_neg (fun z => n1 (by rw [z]; exact List.mem_map.mpr ⟨e, q, rfl⟩)), ih n2 e q]
      omega
theorem plain_self {n b : Nat} {top sc : Int} {E : List (Int × List Int)} (s0 : 0 < sc) (sN : sc.natAbs ∣ NN) (t1 : top ≤ 1000000) (srt : (E.map (·.2)).Pairwise (· < ·)) (w0 : ∀ e ∈ E, e.1 ≠ 0) (row : ∀ e ∈ E, rowW n top b e) :
    (∀ e ∈ E.map (ratE sc), okK' n NN e.2) ∧ plainL n (ofWs (E.map (ratE sc))) = E.map (ratE sc) := by
  have ok : ∀ e ∈ E.map (ratE sc), okK' n NN e.2 := by
    intro x hx
    obtain ⟨e, he, rfl⟩ := List.mem_map.mp hx
    obtain ⟨r1, r2, r3, r4⟩ := row e he
    refine ⟨by show (e.2.map fun b => lw b sc).length = n; rw [List.length_map, r1], fun r hr => ?_⟩
    obtain ⟨z, hz, rfl⟩ := List.mem_map.mp (show r ∈ e.2.map fun b => lw b sc from hr)
    have := r3 z hz
    exact okR_lw this.1 (by omega) s0 sN
  refine ⟨ok, ?_⟩
  have keys : (E.map (ratE sc)).map (·.2) = (E.map (·.2)).map fun k => k.map fun z => lw z sc := by
    rw [List.map_map, List.map_map]
    rfl
  have len : ∀ k ∈ E.map (·.2), k.length = n := fun k hk => by
    obtain ⟨e, he, rfl⟩ := List.mem_map.mp hk
    exact (row e he).1
  have okk : ∀ k ∈ E.map (·.2), okK' n NN (k.map fun z => lw z sc) := fun k hk => by
    obtain ⟨e, he, rfl⟩ := List.mem_map.mp hk
    exact ok _ (List.mem_map.mpr ⟨e, he, rfl⟩)
  have sR : ((E.map (ratE sc)).map (·.2)).Pairwise (RR n NN) := by
    rw [keys, List.pairwise_map]
    refine List.Pairwise.imp_of_mem ?_ srt
    intro a c ha hc h
    refine ⟨okk a ha, okk c hc, ?_⟩
    rw [ahead_lw s0 a c (by rw [len a ha, len c hc])]
    exact decide_eq_true h
  have nd : ((E.map (ratE sc)).map (·.2)).Nodup := List.Pairwise.imp (fun h z => by
    subst z
    exact h.asym (by decide) h) sR
  have ts := total_self nd
  have e1 := plain_eq (N := NN) (by decide) ok sR (fun K => by
    constructor
    · intro hK
      obtain ⟨x, hx, rfl⟩ := List.mem_map.mp hK
      rw [ts x hx]
      obtain ⟨e, he, rfl⟩ := List.mem_map.mp hx
      refine ⟨w0 e he, (wants_iff _).mpr ?_⟩
      obtain ⟨z, hz, z0⟩ := (row e he).2.2.2
      refine ⟨lw z sc, List.mem_map.mpr ⟨z, hz, rfl⟩, fun q => ?_⟩
      have := (lw_exact z sc).1
      rw [q] at this
      omega
    · intro h
      by_cases q : K ∈ (E.map (ratE sc)).map (·.2)
      · exact q
      · exact absurd (total_none q) h.1)
  rw [e1, List.map_map]
  conv => rhs; rw [← List.map_id (E.map (ratE sc))]
  refine List.map_congr_left fun x hx => ?_
  show (total (E.map (ratE sc)) x.2, x.2) = x
  rw [ts x hx]
/-! ### what all bids of a plain list want together -/
def sumW (Ws : WS) : Int := (Ws.map fun e => if wants e.2 = true then e.1 else 0).sum
def sumP (W : WL) : Int := (W.map fun x => if wants x.1 = true then x.2 else 0).sum
theorem perm_sum {α : Type} {f : α → Int} {l m : List α} (h : l.Perm m) : (l.map f).sum = (m.map f).sum := by
  induction h with
  | nil => rfl
  | cons x _ ih => rw [List.map_cons, List.map_cons, List.sum_cons, List.sum_cons, ih]
  | swap x y l =>
    rw [List.map_cons, List.map_cons, List.map_cons, List.map_cons, List.sum_cons, List.sum_cons, List.sum_cons, List.sum_cons]
    omega
  | trans _ _ a b => exact a.trans b
theorem sumP_add {W : WL} (h : (W.map (·.1)).Nodup) (K : RK) (m : Int) : sumP (addW W K m) = sumP W + if wants K = true then m else 0 := by
  unfold addW
  split
  · rename_i q
    have key : ∀ (W : WL) (v : Int), (W.map (·.1)).Nodup → getW W K = some v → sumP (W.map fun e => if e.1 = K then (e.1, v + m) else e) = sumP W + if wants K = true then m else 0 := by
      intro W v
      induction W with
      | nil => intro _ e; cases e
      | cons e W ih =>
        intro nd g
        rw [List.map_cons] at nd ⊢
        obtain ⟨n1, n2⟩ := List.nodup_cons.mp nd
        by_cases hk : e.1 = K
        · have same : (W.map fun e => if e.1 = K then (e.1, v + m) else e) = W := by
            conv => rhs; rw [← List.map_id W]
            refine List.map_congr_left fun x hx => ?_
            rw [if_neg (fun z => n1 (by rw [hk, ← z]; exact List.mem_map.mpr ⟨x, hx, rfl⟩))]
            rfl
          have ev : e.2 = v := by simpa [getW, List.find?_cons, hk] using g
          rw [same, if_pos hk]
          unfold sumP
          rw [List.map_cons, List.map_cons, List.sum_cons, List.sum_cons]
          dsimp only
          rw [hk, ev]
          split <;> omega
        · have g' : getW W K = some v := by
            unfold getW at g ⊢
            rw [List.find?_cons] at g
            simpa [hk] using g
          rw [if_neg hk]
          have := ih n2 g'
          unfold sumP at this ⊢
          rw [List.map_cons, List.map_cons, List.sum_cons, List.sum_cons, this]
          omega
    obtain ⟨v, hv⟩ := Option.isSome_iff_exists.mp q
    rw [hv]
    exact key W v h hv
  · rename_i q
    have none : getW W K = none := by
      cases z : getW W K with
      | none => rfl
      | some v => exact absurd (by rw [z]; rfl) q
    rw [none]
    unfold sumP
    rw [List.map_append, List.map_cons, List.map_nil, List.sum_append, List.sum_cons, List.sum_nil]
    simp
theorem sumP_of (Ws : WS) : sumP (ofWs Ws) = sumW Ws := by
  have key : ∀ (Ws : WS) (W : WL), (W.map (·.1)).Nodup → sumP (Ws.foldl (fun W e => addW W e.2 e.1) W) = sumP W + sumW Ws := by
    intro Ws
    induction Ws with
    | nil => intro W _; simp [sumW]
    | cons e Ws ih =>
      intro W h
      rw [List.foldl_cons, ih _ (addW_nodup h), sumP_add h]
      unfold sumW
      rw [List.map_cons, List.sum_cons]
      omega
  have := key Ws [] List.nodup_nil
  rw [show ofWs Ws = Ws.foldl (fun W e => addW W e.2 e.1) [] from rfl, this]
  simp [sumP]
theorem kept_sum (Ws : WS) : ((keptK (ofWs Ws)).map fun K => (getW (ofWs Ws) K).getD 0).sum = sumP (ofWs Ws) := by
  have nd := ofWs_nodup Ws
  have gm : ∀ x ∈ ofWs Ws, (getW (ofWs Ws) x.1).getD 0 = x.2 := fun x hx => by rw [getW_mem nd hx]; rfl
  unfold keptK sumP
  generalize getW (ofWs Ws) = g at gm
  generalize ofWs Ws = W at gm
  clear nd
  induction W with
  | nil => rfl
  | cons x W ih =>
    have i := ih fun y hy => gm y (List.mem_cons_of_mem _ hy)
    have gx := gm x List.mem_cons_self
    rw [List.map_cons (f := fun x : RK × Int => if wants x.1 = true then x.2 else 0), List.sum_cons, List.filter_cons]
    by_cases q : keepW x = true
    · rw [if_pos q, List.map_cons, List.map_cons, List.sum_cons, i, gx]
      unfold keepW at q
      rw [Bool.and_eq_true] at q
      rw [if_pos q.2]
    · rw [if_neg q, i]
      unfold keepW at q
      rw [Bool.and_eq_true] at q
      by_cases w : wants x.1 = true
      · rw [if_pos w]
        by_cases z : x.2 = 0
        · omega
        · refine absurd ⟨?_, w⟩ q
          have : ¬ V.int x.2 = V.int 0 := fun h => z (V.int.inj h)
          simp [this]
      · rw [if_neg w]
        omega
theorem plain_sum (n : Nat) (Ws : WS) : ((plainL n (ofWs Ws)).map (·.1)).sum = sumW Ws := by
  unfold plainL
  rw [List.map_map]
  have h := perm_sum (f := fun K => (getW (ofWs Ws) K).getD 0) (List.mergeSort_perm (keptK (ofWs Ws)) (PySem.W.dataLe false (kD (botsK n (keptK (ofWs Ws))))))
  rw [kept_sum, sumP_of] at h
  exact h
end GG



namespace GG
open PySem PySem.Spec PyProof.Rows L2
def isTupD : PyData → Bool
  | .tuple _ => true
  | _ => false
theorem kit_tup {K : PySem.W.Frag} (d : PyData) : PySem.W.kitOne K (.type (tyD d)) (.type "tuple") = some (isTupD d) := by
  cases d <;> exact kit_ty (by kernel_rfl)
def frzOk : Nat → PyData → Bool
  | 0, _ => false
  | m + 1, d => match d with
    | .int _ => true
    | .tuple ds => ds.all (frzOk m)
    | _ => false
def spFrz (m : Nat) : Sp := fun vs H Q _ => ∃ v d, vs = [v] ∧ Da H v d ∧ frzOk m d = true ∧ ∀ H', Same H H' → Q (.bl true) H'
def spWantsB (C : Addr) : Sp := fun vs H Q _ => ∃ (x : Addr) (n : Nat) (es : List (Int × RK)), vs = [.ref x] ∧ BidsAt C H x n (.tuple (es.map rowD)) ∧ es.length ≤ 1000 ∧ ∀ H', Same H H' → Q (.int (es.map (·.1)).sum) H'
/-- what is known of the class itself -/
structure BCl (K : PySem.W.Frag) (C : Addr) : Prop where
  cl : Cls K C
  n1 : NoAttr K C "kinds"
  n2 : NoAttr K C "rows"
section
variable {P : Program} {w : World} {K : PySem.W.Frag} {mg : Str → Option Value} {base : Heap}
abbrev NWa : List Str := ["bids", "weight", "_"]
/-- == that answers b -/
def spEqB (R : Addr → Addr → Hp → Prop) (b : Bool) : Sp := fun vs H Q _ => ∃ a c, vs = [.ref a, .ref c] ∧ R a c H ∧ Q (.bl b) H
def rEqI (C : Addr) (R : Addr → Addr → Hp → Prop) (b : Bool) : R2 := fun x y H Q => ∃ a c dx dy fs gs, x = .ref a ∧ y = .ref c ∧ H a = some (.ins C dx fs) ∧ H c = some (.ins C dy gs) ∧ R a c H ∧ Q (.bl b) H
theorem op_eqI {X : Cx} {k : Nat} {CX : CXT} {C f : Addr} {fd : FuncData} {ps : List Str} {R : Addr → Addr → Hp → Prop} {b : Bool} {E : XK} (G : FnOk X.prog X.w X.K X.mg X.base CX k f fd ps (spEqB R b))
    (iE : PySem.W.findIn X.K (.ref C) "__eq__" = some (some (.ref f))) (nE : PySem.W.isFn X.K (.ref f) = true) (bE : Binds X.K fd ps []) (pE : Passes CX X E) (hr : Room k X.A) : OpR X (compareOp .Eq) (rEqI C R b) := by
  intro pins s σ H x y v u Q I rx ry h
  obtain ⟨a, c, dx, dy, fs, gs, rfl, rfl, ha, hc, rac, q⟩ := h
  cases rx
  cases ry
  obtain ⟨m1, J1, _⟩ := ins_get I.hok ha
  obtain ⟨m2, J2, _⟩ := ins_get I.hok hc
  obtain ⟨d1, J1, _⟩ := J1.look
  obtain ⟨d2, J2, _⟩ := J2.look
  obtain ⟨mm, hF⟩ := I.fr
  refine PySem.W.cmp_K (tb := .ref C) (op := .Eq) hr.units0 hF I.ok.mod.kin J1 J2.type (by simp [PySem.W.notFirst]) iE nE ?_
  have sp : spEqB R b [.ref a, .ref c] H (fun v H' => v = .bl b ∧ Q v H') E := ⟨a, c, rfl, rac, rfl, q⟩
  have hl := G.len _ _ _ _ sp
  have rv : Vals [V.ref a, V.ref c] [Value.ref a, Value.ref c] := .cons rfl (.cons rfl .nil)
  have bb := bE s [.ref a, .ref c] I.kIn (by simpa using hl)
  refine wpAny_call (codeAny_mono (G.run X.A X.stack s H ⟨[.ref a, .ref c], []⟩ [.ref a, .ref c] [.ref a, .ref c] _ E hr I.env0 (by simpa using bb) rv sp) fun r s' hq => ?_)
  match r, hq with
  | .error e, hq => exact pE pins σ H s e s' I hq
  | .ok (.ret z), hq =>
    obtain ⟨z', H', I', rz, ez, qz⟩ := I.after hq
    subst ez
    cases rz
    exact ⟨.bl b, H', I', rfl, qz⟩
  | .ok .next, hq => exact hq.elim
  | .ok .brk, hq => exact hq.elim
  | .ok .cont, hq => exact hq.elim
/-- lists of unlike numbers of kinds -/
def UnB (C : Addr) (a b : Addr) (H : Hp) : Prop := ∃ n m d e, BidsAt C H a n d ∧ BidsAt C H b m e ∧ n ≠ m
theorem eq_no {C fE : Addr} {fd : FuncData} (T : RTxt K mg) (m : mg "Bids" = some (.ref C)) (cl : Cls K C) (n1 : NoAttr K C "kinds") (n2 : NoAttr K C "rows") (ic : InC K C) (U : Fun K "__eq__" "Bids.__eq__" sEq fE fd) : FnOk P w K mg base CX0 1 fE fd ["self", "other"] (spEqB (UnB C) false) := by
  refine U.ok scEq (fun vs H Q E h => ?_) (fun cdv A outer s H vs Q E hr h => ?_)
  · obtain ⟨a, b, rfl, _⟩ := h
    rfl
  · obtain ⟨a, b, rfl, ⟨n, n', d, e, ⟨dxa, fsa, pa', ea, ka, ra, da⟩, ⟨dxb, fsb, pb, eb, kb, rb, db⟩, ne⟩, k⟩ := h
    have hu64 : (A.deeper (envOfC "Bids.__eq__" (defScope sEq) s.heap.objs.size fE cdv)).units + 64 < cLine := by have := hr.un; omega
    refine ⟨_, pss_one (ps_ret (pe_and (pe_callB call_isi (by rfl) T.isi bIsi (pa_cons (pv 1) (pa_cons (pe_glob (v := .ref C) rfl m rfl) pa_nil)))
      (pe_and (pe_cmpR op_eq (pe_fld (pv 0) rfl) (pe_fld (pv 1) rfl) (nomark _)) (pe_one (pe_cmpR (op_eqD hu64) (pe_fld (pv 0) rfl) (pe_fld (pv 1) rfl) (nomark _)))))), ?_⟩
    refine ⟨_, rfl, .ref b, .ref C, .ref C, .ref C, true, rfl, .own C, .base (.ins eb cl ic.ha ic.hn ic.htk ic.hm), ic.kit, _, rfl, iteT ?_⟩
    refine ⟨_, rfl, a, C, dxa, fsa, _, rfl, ea, cl, n1, ka, _, rfl, b, C, dxb, fsb, _, rfl, eb, cl, n1, kb, rfl, _, rfl, ?_⟩
    rw [decide_eq_false (show ¬ V.int (n : Int) = V.int (n' : Int) from fun z => ne (by have := V.int.inj z; omega))]
    exact iteF k
end
end GG



namespace GG
open PySem PySem.Spec PyProof.Rows L2 RZ
/-! ### tuple * 0 -/
theorem tuple_mul0 (l : Addr) (items : Array Value) (n : Nat) (dd : Option Addr) (sl : Array (Option Value)) (u : Tok) (x : Int) (k0 : (decide (x < -(2 ^ 63)) || decide (x ≥ 2 ^ 63)) = false) (k1 : (items.isEmpty || x == 1) = false) (k2 : (decide (x ≤ 0) || items.isEmpty) = true) :
    Meets (Builtin.«tuple.__mul__» { pos := [Value.ref l, Value.int x u] }) fun _ R s =>
      s.heap.get? l = some { cls := Value.type "tuple", dict := dd, data := Data.seq items n, slots := sl } ∧ R (Except.ok (Flow.ret (Value.ref s.heap.objs.size))) { s with heap := s.heap.push { cls := Value.type "tuple", data := Data.seq #[] }, toks := s.toks } := by
  refine Meets.of_wp fun prog w A R s h => ?_
  obtain ⟨hp, g, d, tk, os⟩ := s
  obtain ⟨hl, h⟩ := h
  have f1 := AutoSeq1.idx_int
  wp_walk using wpAny_loadPart' hl
  repeat (first
    | (refine wpAny_ite_false (decide_eq_false (by rw [k0]; exact Bool.false_ne_true)) ?_
       wp_walk using wpAny_loadPart' hl)
    | (refine wpAny_ite_false (decide_eq_false (by rw [k1]; exact Bool.false_ne_true)) ?_
       wp_walk using wpAny_loadPart' hl)
    | (refine wpAny_ite_true (decide_eq_true k2) ?_
       wp_walk using wpAny_loadPart' hl))
  exact ⟨_, rfl, h⟩
def rRep0 (K : PySem.W.Frag) : R2 := fun x y H Q => ∃ l k xs, x = .ref l ∧ y = .int k ∧ SqT K H l xs ∧ xs ≠ [] ∧ k = 0 ∧ ∀ p, H p = none → Q (.ref p) (upd H p (.tup []))
theorem op_rep0 {X : Cx} : OpR X (binaryOp .Mult) (rRep0 X.K) := by
  intro pins s σ H x y v u Q I rx ry h
  obtain ⟨l, k, xs, rfl, rfl, hT, hne, rfl, q⟩ := h
  cases rx
  obtain ⟨t, rfl⟩ := ry
  obtain ⟨its, r, ⟨w, ho, hc, n, hd⟩, hs⟩ := Inv.tuple I hT
  obtain ⟨cls, dd, data, sl⟩ := w
  dsimp only at hc hd
  subst hc hd
  have hi : its.toArray.isEmpty = false := by
    cases its with
    | nil => cases r; exact absurd rfl hne
    | cons a b => rfl
  refine wpAny_binaryOp_repeat_ref (by decide) ⟨_, ho, rfl⟩ (fun s' => typeIs_int s' 0 t) noFill_tuple_mul F.fills_int_mul F.slot_int_rmul repeat_tuple F.slot_int_index.lookup
    (call_meets F.slot_int_rmul (typeIs_int s 0 t) F.entry_int_rmul (F.args_int_rmul_2 _ _) (int_rmul_tuple 0 t l its.toArray n dd sl) ⟨ho, rfl, ⟨_, ho, rfl⟩, call_meets F.slot_tuple_mul ⟨_, ho, rfl⟩ F.entry_tuple_mul (F.args_tuple_mul_2 _ _) (tuple_mul0 l its.toArray n dd sl t 0 (by decide) (by rw [hi]; rfl) (by rw [hi]; rfl)) ⟨ho, ?_⟩⟩)
  refine ⟨.ref s.heap.objs.size, _, I.laid (t' := s.toks) (o := .tup []) (fun b ob q => Heap.get?_push_of_some _ q) (Nat.le_refl _) ?_, rfl, q _ (I.hok.fresh (Nat.le_refl _))⟩
  exact ⟨by show 0 ≤ sizeLine; exact Nat.zero_le _, [], .nil, IsTup.new _ _⟩
/-- tuple * k, from 0 on -/
def rRepZ : R2 := fun x y H Q => ∃ l k xs, x = .ref l ∧ y = .int k ∧ H l = some (.tup xs) ∧ xs ≠ [] ∧ xs.length ≤ 1000 ∧ 0 ≤ k ∧ k ≤ 1000 ∧ ∀ p H', H' p = some (.tup (List.replicate k.toNat xs).flatten) → Same H H' → Q (.ref p) H'
theorem op_repZ {X : Cx} : OpR X (binaryOp .Mult) rRepZ := by
  intro pins s σ H x y v u Q I rx ry h
  obtain ⟨l, k, xs, ex, ey, hT, ne, ln, k1, k2, q⟩ := h
  by_cases e : k = 0
  · subst e
    exact op_rep0 pins s σ H x y v u Q I rx ry ⟨l, 0, xs, ex, ey, SqT.of hT, ne, rfl, fun p np => q p _ upd_same (GG.Same.new (L2.Same.refl H) np)⟩
  · exact op_repA pins s σ H x y v u Q I rx ry ⟨l, k, xs, ex, ey, hT, ne, ln, by omega, k2, q⟩
/-- tuple + tuple -/
def rCatZ : R2 := fun x y H Q => ∃ a b xs ys, x = .ref a ∧ y = .ref b ∧ H a = some (.tup xs) ∧ H b = some (.tup ys) ∧ xs ≠ [] ∧ xs.length + ys.length ≤ sizeLine ∧ ∀ p H', H' p = some (.tup (xs ++ ys)) → Same H H' → Q (.ref p) H'
theorem op_catZ {X : Cx} : OpR X (binaryOp .Add) rCatZ := by
  intro pins s σ H x y v u Q I rx ry h
  obtain ⟨a, b, xs, ys, ex, ey, ha, hb, ne, ln, q⟩ := h
  refine op_catT pins s σ H x y v u Q I rx ry ⟨a, b, xs, ys, ex, ey, SqT.of ha, SqT.of hb, ne, ln, fun e => ?_, fun e p np => ?_⟩
  · exact q a H (by rw [e, List.append_nil]; exact ha) (L2.Same.refl H)
  · exact q p _ upd_same (GG.Same.new (L2.Same.refl H) np)
end GG



namespace GG
open PySem PySem.Spec PyProof.Rows L2 RZ LamX
/-! ### all but lists stays -/
def NL (J G : Hp) : Prop := ∀ b o, J b = some o → (∀ ys, o ≠ .lst ys) → G b = some o
theorem NL.refl {G : Hp} : NL G G := fun _ _ e _ => e
theorem NL.trans {A B G : Hp} (a : NL A B) (b : NL B G) : NL A G := fun x o e n => b x o (a x o e n) n
theorem NL.same {J G : Hp} (S : Same J G) : NL J G := fun b o e _ => S b o e
theorem NL.upd {G : Hp} {a : Addr} {ys : List V} {o : HO} (e : G a = some (.lst ys)) : NL G (L2.upd G a o) := fun b o' q n => by
  rw [upd_ne (fun z => by
    rw [z, e] at q
    exact n _ (Option.some.inj q).symm)]
  exact q
mutual
theorem Da.nl {J G : Hp} (k : NL J G) : ∀ {v : V} {d : PyData}, Da J v d → noL d = true → Da G v d
  | _, _, .non, _ => .non
  | _, _, .bl b, _ => .bl b
  | _, _, .int i, _ => .int i
  | _, _, .str x, _ => .str x
  | _, _, .lst _ _ _, h => by simp [noL] at h
  | _, _, .tup e t, h => .tup (k _ _ e (fun ys z => by cases z)) (t.nl k (by simpa [noL] using h))
  | _, _, .dic _ _, h => by simp [noL] at h
theorem DaAll.nl {J G : Hp} (k : NL J G) : ∀ {vs : List V} {ds : List PyData}, DaAll J vs ds → noLs ds = true → DaAll G vs ds
  | _, _, .nil, _ => .nil
  | _, _, .cons h t, q => by
    simp only [noLs, Bool.and_eq_true] at q
    exact .cons (h.nl k q.1) (t.nl k q.2)
end
theorem BidsAt.nl {C : Addr} {J G : Hp} {x : Addr} {n : Nat} {d : PyData} (k : NL J G) (h : BidsAt C J x n d) (nd : noL d = true) : BidsAt C G x n d := by
  obtain ⟨dx, fs, p, e, f1, f2, a⟩ := h
  exact ⟨dx, fs, p, k _ _ e (fun ys z => by cases z), f1, f2, a.nl k nd⟩
theorem PenAt.kp {B G : Hp} {gh p l : Addr} {c : Int} (K : Keep gh B G) (P : PenAt B p l c) (n1 : p ≠ gh) (n2 : l ≠ gh) : PenAt G p l c := by
  obtain ⟨ns, a, d, f, I⟩ := P
  exact ⟨ns, a, d, f, K _ _ n1 I.obj, K _ _ n2 I.cel, I.len, I.a0, I.d0, I.c0, I.f0, I.f1⟩
theorem Keep.put {gh x : Addr} {B G : Hp} {o : HO} (K : Keep gh B G) (n : B x = none) : Keep gh B (L2.upd G x o) := fun b u nb e => by
  rw [upd_ne (ne_of_none e n)]
  exact K b u nb e
/-! ### rows that are changed behind the call -/
structure Shp (B : Hp) (ia ib ic : Nat) (Ka Kb Kc : Addr → Prop) (G : Hp) : Prop where
  a : ∀ x, Ka x → B x = none ∧ ∃ w b, G x = some (.lst [.int w, .ref b]) ∧ Kb b ∧ w.natAbs ≤ 10000 + ia
  b : ∀ x, Kb x → B x = none ∧ ∃ c rest, G x = some (.lst (.ref c :: rest)) ∧ Kc c ∧ rest.length ≤ 10 + ib
  c : ∀ x, Kc x → B x = none ∧ ∃ t r, G x = some (.lst [.int t, .int r]) ∧ t.natAbs ≤ 2000000 + 5 * ic
theorem Shp.putA {B G : Hp} {ia ib ic : Nat} {Ka Kb Kc : Addr → Prop} (h : Shp B ia ib ic Ka Kb Kc G) {x b : Addr} {w w' : Int} (ex : G x = some (.lst [.int w, .ref b])) (kb : Kb b) (hw : w'.natAbs ≤ 10000 + (ia + 1)) : Shp B (ia + 1) ib ic Ka Kb Kc (upd G x (.lst [.int w', .ref b])) := by
  refine ⟨fun y ky => ?_, fun y ky => ?_, fun y ky => ?_⟩
  · obtain ⟨z, w1, b1, e, k1, l1⟩ := h.a y ky
    refine ⟨z, ?_⟩
    by_cases q : y = x
    · subst q
      exact ⟨w', b, upd_same, kb, hw⟩
    · exact ⟨w1, b1, by rw [upd_ne q]; exact e, k1, by omega⟩
  · obtain ⟨z, c1, r1, e, k1, l1⟩ := h.b y ky
    exact ⟨z, c1, r1, by rw [upd_ne (fun q => by rw [q, ex] at e; cases e)]; exact e, k1, l1⟩
  · obtain ⟨z, t1, r1, e, l1⟩ := h.c y ky
    exact ⟨z, t1, r1, by rw [upd_ne (fun q => by rw [q, ex] at e; cases e)]; exact e, l1⟩
theorem Shp.putC {B G : Hp} {ia ib ic : Nat} {Ka Kb Kc : Addr → Prop} (h : Shp B ia ib ic Ka Kb Kc G) {x : Addr} {t t' r : Int} (ex : G x = some (.lst [.int t, .int r])) (ht : t'.natAbs ≤ 2000000 + 5 * (ic + 1)) : Shp B ia ib (ic + 1) Ka Kb Kc (upd G x (.lst [.int t', .int r])) := by
  refine ⟨fun y ky => ?_, fun y ky => ?_, fun y ky => ?_⟩
  · obtain ⟨z, w1, b1, e, k1, l1⟩ := h.a y ky
    exact ⟨z, w1, b1, by rw [upd_ne (fun q => by rw [q, ex] at e; cases e)]; exact e, k1, l1⟩
  · obtain ⟨z, c1, r1, e, k1, l1⟩ := h.b y ky
    exact ⟨z, c1, r1, by rw [upd_ne (fun q => by rw [q, ex] at e; cases e)]; exact e, k1, l1⟩
  · obtain ⟨z, t1, r1, e, l1⟩ := h.c y ky
    refine ⟨z, ?_⟩
    by_cases q : y = x
    · subst q
      exact ⟨t', r, upd_same, ht⟩
    · exact ⟨t1, r1, by rw [upd_ne q]; exact e, by omega⟩
theorem Shp.putB {B G : Hp} {ia ib ic : Nat} {Ka Kb Kc : Addr → Prop} (h : Shp B ia ib ic Ka Kb Kc G) {x c : Addr} {rest rest' : List V} (ex : G x = some (.lst (.ref c :: rest))) (kc : Kc c) (hl : rest'.length ≤ 10 + (ib + 1)) : Shp B ia (ib + 1) ic Ka Kb Kc (upd G x (.lst (.ref c :: rest'))) := by
  refine ⟨fun y ky => ?_, fun y ky => ?_, fun y ky => ?_⟩
  · obtain ⟨z, w1, b1, e, k1, l1⟩ := h.a y ky
    exact ⟨z, w1, b1, by rw [upd_ne (fun q => by rw [q, ex] at e; cases e)]; exact e, k1, l1⟩
  · obtain ⟨z, c1, r1, e, k1, l1⟩ := h.b y ky
    refine ⟨z, ?_⟩
    by_cases q : y = x
    · subst q
      exact ⟨c, rest', upd_same, kc, hl⟩
    · exact ⟨c1, r1, by rw [upd_ne q]; exact e, k1, by omega⟩
  · obtain ⟨z, t1, r1, e, l1⟩ := h.c y ky
    exact ⟨z, t1, r1, by rw [upd_ne (fun q => by rw [q, ex] at e; cases e)]; exact e, l1⟩
theorem Shp.same {B G G' : Hp} {ia ib ic : Nat} {Ka Kb Kc : Addr → Prop} (h : Shp B ia ib ic Ka Kb Kc G) (S : Same G G') : Shp B ia ib ic Ka Kb Kc G' := by
  refine ⟨fun y ky => ?_, fun y ky => ?_, fun y ky => ?_⟩
  · obtain ⟨z, w1, b1, e, k1, l1⟩ := h.a y ky
    exact ⟨z, w1, b1, S _ _ e, k1, l1⟩
  · obtain ⟨z, c1, r1, e, k1, l1⟩ := h.b y ky
    exact ⟨z, c1, r1, S _ _ e, k1, l1⟩
  · obtain ⟨z, t1, r1, e, l1⟩ := h.c y ky
    exact ⟨z, t1, r1, S _ _ e, l1⟩
theorem NumR.kp {B G : Hp} {gh : Addr} (K : Keep gh B G) (e0 : B gh = some (.lst [])) {v : V} {e : Int × List Int} (h : NumR B v e) : NumR G v e := by
  obtain ⟨t, b, rfl, e1, e2, ne⟩ := h
  refine ⟨t, b, rfl, K _ _ (ne_of e1 e0 (by intro z; cases z)) e1, ?_, ne⟩
  rcases e2 with q | q
  · refine .inl (K _ _ (fun z => ?_) q)
    rw [z, e0] at q
    have q' : ([] : List V) = e.2.map V.int := HO.lst.inj (Option.some.inj q)
    exact ne (List.map_eq_nil_iff.mp q'.symm)
  · exact .inr (K _ _ (ne_of q e0 (by intro z; cases z)) q)
theorem giv_rows {H : Hp} {vs : List V} {Ws : WS} (h : Paired (GivV H) vs Ws) : DaAll H vs (Ws.map rowD) := by
  induction h with
  | nil => exact .nil
  | cons a _ ih =>
    obtain ⟨t, b, rfl, e1, rv⟩ := a
    exact .cons (.tup e1 (.cons (.int _) (.cons rv.da .nil))) ih
/-- rows given as lists of lists -/
def NmL (M : Hp) (v : V) (r : Int × Int) : Prop := ∃ c, v = .ref c ∧ M c = some (.lst [.int r.1, .int r.2])
theorem NmL.stay {M M' : Hp} (k : Stay M M') {v : V} {r : Int × Int} (h : NmL M v r) : NmL M' v r := by
  obtain ⟨c, rfl, e⟩ := h
  exact ⟨c, rfl, stayL k e⟩
def GivL (M : Hp) (v : V) (e : Int × RK) : Prop := ∃ a b cs, v = .ref a ∧ M a = some (.lst [.int e.1, .ref b]) ∧ M b = some (.lst cs) ∧ Paired (NmL M) cs e.2
theorem GivL.stay {M M' : Hp} (k : Stay M M') {v : V} {e : Int × RK} (h : GivL M v e) : GivL M' v e := by
  obtain ⟨a, b, cs, rfl, e1, e2, p⟩ := h
  exact ⟨a, b, cs, rfl, stayL k e1, stayL k e2, Paired.mapP p fun _ _ h => h.stay k⟩
theorem Paired.mem {α β : Type} {R : α → β → Prop} {l : List α} {m : List β} (h : Paired R l m) {x : α} (hx : x ∈ l) : ∃ y ∈ m, R x y := by
  obtain ⟨i, hi⟩ := List.getElem?_of_mem hx
  obtain ⟨y, hy, r⟩ := paired_at h hi
  exact ⟨y, List.mem_of_getElem? hy, r⟩
theorem shp_of {B G : Hp} {gs : List V} {Ws : WS} (h : Paired (GivL (mask B G)) gs Ws) (bd : ∀ e ∈ Ws, e.1.natAbs ≤ 10000 ∧ e.2 ≠ [] ∧ e.2.length ≤ 3 ∧ ∀ r ∈ e.2, r.1.natAbs ≤ 1000000) :
    ∃ Ka Kb Kc, Shp B 0 0 0 Ka Kb Kc G ∧ ∀ v ∈ gs, ∃ a, v = .ref a ∧ Ka a := by
  refine ⟨fun x => V.ref x ∈ gs, fun y => ∃ a w, V.ref a ∈ gs ∧ G a = some (.lst [.int w, .ref y]), fun z => ∃ a w b rest, V.ref a ∈ gs ∧ G a = some (.lst [.int w, .ref b]) ∧ G b = some (.lst (.ref z :: rest)), ⟨fun x hx => ?_, fun y hy => ?_, fun z hz => ?_⟩, fun v hv => ?_⟩
  · obtain ⟨e, he, a, b, cs, q, e1, e2, p⟩ := Paired.mem h hx
    cases q
    exact ⟨(mask_in e1).1, e.1, b, (mask_in e1).2, ⟨x, e.1, hx, (mask_in e1).2⟩, by have := (bd e he).1; omega⟩
  · obtain ⟨a, w, ha, ea⟩ := hy
    obtain ⟨e, he, a', b, cs, q, e1, e2, p⟩ := Paired.mem h ha
    cases q
    rw [(mask_in e1).2] at ea
    cases ea
    obtain ⟨_, ne, l3, _⟩ := bd e he
    have lc := Paired.length p
    generalize e.2 = K2 at p ne l3 lc
    cases p with
    | nil => exact absurd rfl ne
    | @cons v r cs' K' hv p' =>
      obtain ⟨c, rfl, ec⟩ := hv
      refine ⟨(mask_in e2).1, c, cs', (mask_in e2).2, ⟨a, e.1, y, cs', ha, (mask_in e1).2, (mask_in e2).2⟩, ?_⟩
      rw [List.length_cons] at lc
      omega
  · obtain ⟨a, w, b, rest, ha, ea, eb⟩ := hz
    obtain ⟨e, he, a', b', cs, q, e1, e2, p⟩ := Paired.mem h ha
    cases q
    rw [(mask_in e1).2] at ea
    cases ea
    rw [(mask_in e2).2] at eb
    cases eb
    obtain ⟨r, hr, c, q, ec⟩ := Paired.mem p List.mem_cons_self
    cases q
    exact ⟨(mask_in ec).1, r.1, r.2, (mask_in ec).2, by have := (bd e he).2.2.2 r hr; omega⟩
  · obtain ⟨e, he, a, b, cs, rfl, _⟩ := Paired.mem h hv
    exact ⟨a, rfl, hv⟩
theorem ok_small {r : Int × Int} (h : okR NN r) : isR (.list [.int r.1, .int r.2]) = true ∧ ratOf (.list [.int r.1, .int r.2]) = r ∧ smallR (.list [.int r.1, .int r.2]) := by
  obtain ⟨⟨g1, g2, g3⟩, g4, g5⟩ := h
  have l : r.2.natAbs ≤ 693000 := Nat.le_of_dvd (by decide) g2
  have up : (693000 : Nat) < 2 ^ 120 := by decide
  refine ⟨decide_eq_true g1, ?_, g3, by omega⟩
  have e := lw_mul (k := 1) (by decide) g4
  rw [Int.mul_one, Int.mul_one] at e
  exact e
theorem GivL.bid {n : Nat} {M : Hp} {v : V} {e : Int × RK} (n3 : n ≤ 3) (ok : okK' n NN e.2) (h : GivL M v e) : BidV M n v e := by
  obtain ⟨a, b, cs, rfl, e1, e2, p⟩ := h
  have key : ∀ {cs : List V} {K : RK}, Paired (NmL M) cs K → (∀ r ∈ K, okR NN r) → DaAll M cs (K.map fun r => .list [.int r.1, .int r.2]) ∧ Paired NumD (K.map fun r => .list [.int r.1, .int r.2]) K := by
    intro cs K h
    induction h with
    | nil => intro _; exact ⟨.nil, .nil⟩
    | @cons x r cs K hx _ ih =>
      intro o
      obtain ⟨i1, i2⟩ := ih fun r hr => o r (List.mem_cons_of_mem _ hr)
      obtain ⟨c, rfl, ec⟩ := hx
      obtain ⟨o1, o2, o3⟩ := ok_small (o r List.mem_cons_self)
      exact ⟨.cons (.lst ec trivial (.cons (.int _) (.cons (.int _) .nil))) i1, .cons ⟨o1, o2, o3⟩ i2⟩
  obtain ⟨k1, k2⟩ := key p ok.2
  exact ⟨.list [.int e.1, .list (e.2.map fun r => .list [.int r.1, .int r.2])], .lst e1 trivial (.cons (.int _) (.cons (.lst e2 trivial k1) .nil)), bid_ok rfl rfl k2 n3 ok⟩
/-! ### bids made by hand -/
theorem num_ints {ns : List Int} (h : ∀ z ∈ ns, 0 ≤ z ∧ z ≤ 1000000) : Paired NumD (ns.map PyData.int) (ns.map fun z => (z, 1)) := by
  induction ns with
  | nil => exact .nil
  | cons z ns ih =>
    have := h z List.mem_cons_self
    have up : (1000000 : Nat) < 2 ^ 120 := by decide
    exact .cons ⟨rfl, rfl, (by show z.natAbs < 2 ^ 120; omega)⟩ (ih fun x hx => h x (List.mem_cons_of_mem _ hx))
theorem da_ints {H : Hp} (ns : List Int) : DaAll H (ns.map V.int) (ns.map PyData.int) := by
  induction ns with
  | nil => exact .nil
  | cons z ns ih => exact .cons (.int _) ih
theorem ok_ints {n : Nat} {ns : List Int} (ln : ns.length = n) (h : ∀ z ∈ ns, 0 ≤ z ∧ z ≤ 1000000) : okK' n NN (ns.map fun z => (z, 1)) := by
  refine ⟨by rw [List.length_map, ln], fun r hr => ?_⟩
  obtain ⟨z, hz, rfl⟩ := List.mem_map.mp hr
  have := h z hz
  exact okR_one this.1 (by omega)
theorem bidT {H : Hp} {n : Nat} {t q : Addr} {w : Int} {ns : List Int} (n3 : n ≤ 3) (ln : ns.length = n) (h : ∀ z ∈ ns, 0 ≤ z ∧ z ≤ 1000000) (et : H t = some (.tup [.int w, .ref q])) (eq : H q = some (.tup (ns.map V.int))) : BidV H n (.ref t) (w, ns.map fun z => (z, 1)) :=
  ⟨.tuple [.int w, .tuple (ns.map .int)], .tup et (.cons (.int _) (.cons (.tup eq (da_ints ns)) .nil)), bid_ok rfl rfl (num_ints h) n3 (ok_ints ln h)⟩
theorem bidL {H : Hp} {n : Nat} {t q : Addr} {w : Int} {ns : List Int} (n3 : n ≤ 3) (ln : ns.length = n) (h : ∀ z ∈ ns, 0 ≤ z ∧ z ≤ 1000000) (et : H t = some (.lst [.int w, .ref q])) (eq : H q = some (.lst (ns.map V.int))) : BidV H n (.ref t) (w, ns.map fun z => (z, 1)) :=
  ⟨.list [.int w, .list (ns.map .int)], .lst et trivial (.cons (.int _) (.cons (.lst eq trivial (da_ints ns)) .nil)), bid_ok rfl rfl (num_ints h) n3 (ok_ints ln h)⟩
theorem made_same {H : Hp} {x dx C : Addr} (nx : H x = none) (ndx : H dx = none) (ne : dx ≠ x) : Same H (upd (upd H dx (.own x)) x (.ins C dx [])) :=
  GG.Same.new (GG.Same.new (L2.Same.refl H) ndx) (by rw [upd_ne ne.symm]; exact nx)
theorem keep_same {H Hm H' : Hp} {x : Addr} (S : Same H Hm) (n : H x = none) (K : Keep x Hm H') : Same H H' := fun b o e => K b o (ne_of_none e n) (S b o e)
/-- Bids(n, a list or a tuple) -/
theorem init_bids {C xb dx : Addr} {H : Hp} {n : Nat} {z : Int} {gv : V} {vs : List V} {Ws : WS} {Q : VK} {E : XK} (hz : z = (n : Int)) (n1 : 1 ≤ n) (n3 : n ≤ 3) (nx : H xb = none) (ndx : H dx = none) (ne : dx ≠ xb) {La : Addr} (eg : gv = .ref La) (eL : H La = some (.lst vs) ∨ H La = some (.tup vs)) (pb : Paired (BidV H n) vs Ws) (l60 : Ws.length ≤ 60) (ok : ∀ e ∈ Ws, okK' n NN e.2)
    (k : ∀ H', Same H H' → BidsAt C H' xb n (.tuple ((plainL n (ofWs Ws)).map rowD)) → Q .non H') : spInitOk C [.ref xb, .int z, gv] (upd (upd H dx (.own xb)) xb (.ins C dx [])) Q E := by
  subst hz eg
  obtain ⟨rd, ad, eb, lr, good⟩ := bids_all pb
  have RO := rows_ok n1 n3 l60 ok eb lr good
  have S := made_same (C := C) nx ndx ne
  obtain ⟨dv, da, sq⟩ : ∃ dv, Da H (.ref La) dv ∧ seqOf dv = some rd := by
    rcases eL with e | e
    · exact ⟨.list rd, .lst e trivial ad, rfl⟩
    · exact ⟨.tuple rd, .tup e ad, rfl⟩
  refine ⟨xb, dx, n, NN, .ref La, dv, rd, rfl, upd_same, da.stay (Same.stay S), sq, RO, fun H' BA KP => k H' (keep_same S nx KP) ?_⟩
  rw [plain_rowD n rd eb] at BA
  exact BA
theorem plain_len (n : Nat) (Ws : WS) : (plainL n (ofWs Ws)).length ≤ Ws.length := by
  have key : ∀ (Ws : WS) (W : WL), (Ws.foldl (fun W e => addW W e.2 e.1) W).length ≤ W.length + Ws.length := by
    intro Ws
    induction Ws with
    | nil => intro W; exact Nat.le_refl _
    | cons e Ws ih =>
      intro W
      have h1 := ih (addW W e.2 e.1)
      have h2 := addW_len W e.2 e.1
      rw [List.foldl_cons, List.length_cons]
      omega
  have h := key Ws []
  unfold plainL
  rw [List.length_map]
  unfold ascK
  rw [List.length_mergeSort]
  unfold keptK
  rw [List.length_map]
  refine Nat.le_trans (List.length_filter_le _ _) ?_
  have h' : (ofWs Ws).length ≤ 0 + Ws.length := h
  omega
theorem sw_rowW {n : Nat} {e : Int × RK} (n3 : n ≤ 3) (w : e.1.natAbs ≤ 100000) (ok : okK' n NN e.2) : Sw 3 30000 (rowD e) := by
  have a : Sw 2 12040 (.tuple (e.2.map dR)) := by
    refine (Sw.tuple (k := 1) (n := 4008) fun d hd => ?_).mono (Nat.le_refl _) ?_
    · obtain ⟨r, hr, rfl⟩ := List.mem_map.mp hd
      exact sw_rat (ok.2 r hr)
    · rw [List.length_map, ok.1]
      omega
  have b : Sw 2 12040 (.int e.1) := (Sw.int (sm250 (by omega))).mono (by decide) (by decide)
  refine (Sw.tuple (ds := [.int e.1, .tuple (e.2.map dR)]) (k := 2) (n := 12040) fun d hd => ?_).mono (Nat.le_refl _) (by show (12040 + 2) * 2 + 4 ≤ 30000; decide)
  simp only [List.mem_cons, List.not_mem_nil, or_false] at hd
  rcases hd with rfl | rfl
  · exact b
  · exact a
theorem sw_rows {n : Nat} {Ws : WS} (n3 : n ≤ 3) (l60 : Ws.length ≤ 60) (ok : ∀ e ∈ Ws, okK' n NN e.2 ∧ e.1.natAbs ≤ 100000) : Sw 4 2000000 (.tuple (Ws.map rowD)) := by
  refine (Sw.tuple (k := 3) (n := 30000) fun d hd => ?_).mono (Nat.le_refl _) ?_
  · obtain ⟨e, he, rfl⟩ := List.mem_map.mp hd
    exact sw_rowW n3 (ok e he).2 (ok e he).1
  · rw [List.length_map]
    omega
theorem noL_all (es : List (Int × RK)) : noL (.tuple (es.map rowD)) = true := by
  simp only [noL]
  exact noL_rows es
theorem frz_rows (es : List (Int × RK)) : frzOk 5 (.tuple (es.map rowD)) = true := by
  have h1 : ∀ r : Int × Int, frzOk 2 (dR r) = true := fun r => by simp [frzOk, dR]
  have h2 : ∀ K : RK, frzOk 3 (.tuple (K.map dR)) = true := fun K => by
    show (K.map dR).all (frzOk 2) = true
    rw [List.all_eq_true]
    intro d hd
    obtain ⟨r, _, rfl⟩ := List.mem_map.mp hd
    exact h1 r
  have h3 : ∀ e : Int × RK, frzOk 4 (rowD e) = true := fun e => by
    show [PyData.int e.1, .tuple (e.2.map dR)].all (frzOk 3) = true
    simp only [List.all_cons, List.all_nil, Bool.and_true, h2]
    rfl
  show (es.map rowD).all (frzOk 4) = true
  rw [List.all_eq_true]
  intro d hd
  obtain ⟨e, _, rfl⟩ := List.mem_map.mp hd
  exact h3 e
/-- sums of weights of lists made by hand -/
theorem wants_rep {n : Nat} {z : Int} (n1 : 1 ≤ n) (z0 : z ≠ 0) : wants ((List.replicate n z).map fun z => (z, (1 : Int))) = true := by
  rw [wants_iff]
  refine ⟨(z, 1), List.mem_map.mpr ⟨z, List.mem_replicate.mpr ⟨by omega, rfl⟩, rfl⟩, z0⟩
theorem wants_zero (n : Nat) : wants ((List.replicate n (0 : Int)).map fun z => (z, (1 : Int))) = false := by
  cases h : wants ((List.replicate n (0 : Int)).map fun z => (z, (1 : Int))) with
  | false => rfl
  | true =>
    obtain ⟨r, hr, q⟩ := (wants_iff _).mp h
    obtain ⟨z, hz, rfl⟩ := List.mem_map.mp hr
    exact absurd (List.mem_replicate.mp hz).2 q
end GG



namespace GG
open PySem PySem.Spec PyProof.Rows L2
section
variable {P : Program} {w : World} {K : PySem.W.Frag} {mg : Str → Option Value} {base : Heap}
end
end GG



namespace GG
open PySem PySem.Spec PyProof.Rows L2
/-! ### own operators -/
section
variable {X : Cx} {k : Nat} {CX : CXT} {C f : Addr} {fd : FuncData} {ps : List Str} {sp : Sp} {E : XK}
theorem cmp_out {Q : Value → Shared → Prop} {v : Value} {s : Shared} (h : PySem.W.CmpBack Q v s) : Q v s := by
  cases v <;> first | exact h.elim | exact h
/-- a call of an own method whose answer is an object -/
theorem own_call (G : FnOk X.prog X.w X.K X.mg X.base CX k f fd ps sp) (bE : Binds X.K fd ps []) (pE : Passes CX X E) (hr : Room k X.A) {pins : List (Addr × Obj)} {σ : L2.St} {H : Hp} {s : Shared} (I : Inv X pins σ H s) {vs : List V} {us : List Value} (rv : Vals vs us) {Q : VK}
    (h : sp vs H (fun v H' => ∃ p, v = .ref p ∧ Q v H') E) : wpAny (model X.prog X.w) X.A (call (.ref f) us) (PySem.W.CmpBack (EP X pins σ Q)) X.xe s := by
  have hl := G.len _ _ _ _ h
  have bb := bE s us I.kIn (by rw [List.append_nil, ← rv.length]; exact hl)
  refine wpAny_call (codeAny_mono (G.run X.A X.stack s H ⟨us, []⟩ us vs _ E hr I.env0 (by simpa using bb) rv h) fun r s' hq => ?_)
  match r, hq with
  | .error e, hq => exact pE pins σ H s e s' I hq
  | .ok (.ret z), hq =>
    obtain ⟨z', H', I', rz, p, ez, qz⟩ := I.after hq
    subst ez
    cases rz
    exact ⟨.ref p, H', I', rfl, qz⟩
  | .ok .next, hq => exact hq.elim
  | .ok .brk, hq => exact hq.elim
  | .ok .cont, hq => exact hq.elim
def rOwn2 (C : Addr) (sp : Sp) (E : XK) : R2 := fun x y H Q => ∃ a c dx dy fs gs, x = .ref a ∧ y = .ref c ∧ H a = some (.ins C dx fs) ∧ H c = some (.ins C dy gs) ∧ sp [.ref a, .ref c] H (fun v H' => ∃ p, v = .ref p ∧ Q v H') E
def rOwnI (C : Addr) (sp : Sp) (E : XK) : R2 := fun x y H Q => ∃ a dx fs i, x = .ref a ∧ y = .int i ∧ H a = some (.ins C dx fs) ∧ sp [.ref a, .int i] H (fun v H' => ∃ p, v = .ref p ∧ Q v H') E
def rOwnR (C : Addr) (sp : Sp) (E : XK) : R2 := fun x y H Q => ∃ a dx fs i, x = .int i ∧ y = .ref a ∧ H a = some (.ins C dx fs) ∧ sp [.ref a, .int i] H (fun v H' => ∃ p, v = .ref p ∧ Q v H') E
def rOwn1 (C : Addr) (sp : Sp) (E : XK) : V → Hp → VK → Prop := fun x H Q => ∃ a dx fs, x = .ref a ∧ H a = some (.ins C dx fs) ∧ sp [.ref a] H (fun v H' => ∃ p, v = .ref p ∧ Q v H') E
theorem op_own2 {op : Operator} (G : FnOk X.prog X.w X.K X.mg X.base CX k f fd ps sp) (iA : PySem.W.findIn X.K (.ref C) (PySem.dunder op.info.2) = some (some (.ref f))) (nA : PySem.W.isFn X.K (.ref f) = true) (sf : PySem.W.selfFirst X.K C = true) (bE : Binds X.K fd ps []) (pE : Passes CX X E) (hr : Room k X.A) : OpR X (binaryOp op) (rOwn2 C sp E) := by
  intro pins s σ H x y v u Q I rx ry h
  obtain ⟨a, c, dx, dy, fs, gs, rfl, rfl, ha, hc, q⟩ := h
  cases rx
  cases ry
  obtain ⟨m1, J1, _⟩ := ins_get I.hok ha
  obtain ⟨m2, J2, _⟩ := ins_get I.hok hc
  obtain ⟨d1, J1, _⟩ := J1.look
  obtain ⟨d2, J2, _⟩ := J2.look
  obtain ⟨mm, hF⟩ := I.fr
  have rv : Vals [V.ref a, V.ref c] [Value.ref a, Value.ref c] := .cons rfl (.cons rfl .nil)
  exact PySem.W.binop_K hF I.ok.mod.kin J1 J2.type sf iA nA (own_call G bE pE hr I rv q)
theorem un_own (G : FnOk X.prog X.w X.K X.mg X.base CX k f fd ps sp) (iA : PySem.W.findIn X.K (.ref C) "__neg__" = some (some (.ref f))) (nA : PySem.W.isFn X.K (.ref f) = true) (bE : Binds X.K fd ps []) (pE : Passes CX X E) (hr : Room k X.A) : UnR X (unaryOp .USub) (rOwn1 C sp E) := by
  intro pins s σ H x v Q I rx h
  obtain ⟨a, dx, fs, rfl, ha, q⟩ := h
  cases rx
  obtain ⟨m1, J1, _⟩ := ins_get I.hok ha
  obtain ⟨d1, J1, _⟩ := J1.look
  obtain ⟨mm, hF⟩ := I.fr
  have rv : Vals [V.ref a] [Value.ref a] := .cons rfl .nil
  exact PySem.W.ksp_neg hF I.ok.mod.kin J1 iA nA (wpAny_mono (own_call G bE pE hr I rv q) (fun _ _ z => cmp_out z) fun _ _ z => z)
theorem op_ownI {op : Operator} {fo ro rc : Option Value} (G : FnOk X.prog X.w X.K X.mg X.base CX k f fd ps sp) (iA : PySem.W.findIn X.K (.ref C) (PySem.dunder op.info.2) = some (some (.ref f))) (nA : PySem.W.isFn X.K (.ref f) = true) (sf : PySem.W.selfFirst X.K C = true)
    (hrc : PySem.W.findIn X.K (.ref C) (dunderR op.info.2) = some rc) (hp : rc = none ∨ ∃ g : Addr, rc = some (.ref g)) (h1 : PySem.W.findIn X.K (.type "int") (PySem.dunder op.info.2) = some fo) (h2 : PySem.W.findIn X.K (.type "int") (dunderR op.info.2) = some ro) (hsub : PySem.W.subIn X.K (.type "int") (.ref C) = some false)
    (bE : Binds X.K fd ps []) (pE : Passes CX X E) (hr : Room k X.A) : OpR X (binaryOp op) (rOwnI C sp E) := by
  intro pins s σ H x y v u Q I rx ry h
  obtain ⟨a, dx, fs, i, rfl, rfl, ha, q⟩ := h
  cases rx
  obtain ⟨t, rfl⟩ := ry
  obtain ⟨m1, J1, _⟩ := ins_get I.hok ha
  obtain ⟨d1, J1, _⟩ := J1.look
  obtain ⟨mm, hF⟩ := I.fr
  have rv : Vals [V.ref a, V.int i] [Value.ref a, Value.int i t] := .cons rfl (.cons ⟨t, rfl⟩ .nil)
  exact PySem.W.ksp_binT hF I.ok.mod.kin J1 rfl sf iA nA hrc hp h1 h2 hsub (own_call G bE pE hr I rv q)
end
/-- int * an object -/
theorem int_mul_ins (a : Int) (t : Tok) (l C dx : Addr) :
    Meets (Builtin.«int.__mul__» { pos := [Value.int a t, Value.ref l] }) fun _ R s => s.heap.get? l = some (PySem.W.instObj C dx) ∧ R (Except.ok (Flow.ret Value.notImplemented)) s := by
  refine Meets.of_wp fun prog w A R s h => ?_
  obtain ⟨hp, g, d, tk, os⟩ := s
  obtain ⟨hl, h⟩ := h
  wp_walk using wpAny_loadPart' hl
  exact ⟨_, rfl, h⟩
end GG


namespace GG
open PySem PySem.Spec PyProof.Rows L2 PySem.W
section
variable {prog : Program} {w : World} {A : Around} {E : Value → Shared → Prop} {s : Shared} {K : PySem.W.Frag} {x C L f g : Addr} {h₀ : Heap} {m : Str → Option Value} {od : Option Obj}
theorem rmul_ins {i : Int} {t : Tok} {dx : Addr} {Q : Value → Shared → Prop} (FF : Fr h₀ L s.heap m) (X₀ : K.In h₀) (I : InstAt s.heap x (instObj C dx) C od) (hc : selfFirst K C = true)
    (hm : findIn K (.ref C) "__mul__" = some (some (.ref g))) (hs : findIn K (.ref C) "__rmul__" = some (some (.ref f))) (hf : isFn K (.ref f) = true) (hsub : subIn K (.ref C) (.type "int") = some false)
    (h : wpAny (model prog w) A (call (.ref f) [.ref x, .int i t]) (PySem.W.CmpBack Q) E s) : wpAny (model prog w) A (binaryOp .Mult (.int i t) (.ref x)) Q E s := by
  have X := X₀.keeps FF.keep
  obtain ⟨cd, rest, hcd, hmro⟩ := ksp_first hc
  have one := ksp_try X I hs hf h
  have ho := I.at_
  have ti := typeIs_int s i t
  obtain ⟨hh, gg, d, tt, os⟩ := s
  have L1 : Looks (model prog w) hh (typeOf (.int i t)) (.type "int") := Looks.of_pure rfl
  have L2 : Looks (model prog w) hh (typeOf (.ref x)) (.ref C) := I.type
  have L4 : Looks (model prog w) hh (fillsNumberSlot (.ref C) "mul") true := fills_K X hcd hmro hm
  have L5 : Looks (model prog w) hh (isSubtype (.ref C) (.type "int")) false := looks_subIn X hsub
  have L7 : Looks (model prog w) hh (numberSlotInPython (.type "int") "mul") false := Looks.of_pure rfl
  have L3 : Looks (model prog w) hh (fillsNumberSlot (.type "int") "mul") true := Looks.of_pure F.fills_int_mul
  have hne : (Value.type "int" == Value.ref C) = false := Bool.eq_false_iff.mpr fun q => by cases beq_iff_eq.mp q
  have decl : ∀ (R : Option Value → Shared → Prop), R none ⟨hh, gg, d, tt, os⟩ → wpAny (model prog w) A (tryMethod (.int i t) "__mul__" (.ref x)) R E ⟨hh, gg, d, tt, os⟩ := fun R r =>
    wpAny_tryMethod_declines ti F.slot_int_mul (call_meets F.slot_int_mul ti F.entry_int_mul (F.args_int_mul_2 _ _) (int_mul_ins i t x C dx) ⟨ho, rfl, r⟩)
  unfold binaryOp
  refine wpAny_holding (wpAny_bind ?_)
  unfold binaryOp1
  refine wpAny_bind (L1.at (wpAny_bind (L2.at (wpAny_bind (L3.at ?_)))))
  simp only [hne, Bool.false_eq_true, if_false]
  ksp_lk
  refine decl _ ?_
  simp only [Bool.false_eq_true, if_false, Bool.not_false, Bool.and_self, if_true]
  refine wpAny_bind (wpAny_mono one (fun r s' hr' => ?_) fun _ _ e => e)
  obtain ⟨v, rfl, hq⟩ := hr'
  exact wpAny_bind (wpAny_rule (wpAny_pure (wpAny_pure hq)))
end
section
variable {X : Cx} {k : Nat} {CX : CXT} {C f g : Addr} {fd : FuncData} {ps : List Str} {sp : Sp} {E : XK}
theorem op_ownR (G : FnOk X.prog X.w X.K X.mg X.base CX k f fd ps sp) (iA : findIn X.K (.ref C) "__rmul__" = some (some (.ref f))) (nA : isFn X.K (.ref f) = true) (iM : findIn X.K (.ref C) "__mul__" = some (some (.ref g))) (sf : selfFirst X.K C = true) (hsub : subIn X.K (.ref C) (.type "int") = some false)
    (bE : L2.Binds X.K fd ps []) (pE : Passes CX X E) (hr : Room k X.A) : OpR X (binaryOp .Mult) (rOwnR C sp E) := by
  intro pins s σ H x y v u Q I rx ry h
  obtain ⟨a, dx, fs, i, rfl, rfl, ha, q⟩ := h
  cases ry
  obtain ⟨t, rfl⟩ := rx
  obtain ⟨m1, J1, _⟩ := ins_get I.hok ha
  obtain ⟨d1, J1, _⟩ := J1.look
  obtain ⟨mm, hF⟩ := I.fr
  have rv : Vals [V.ref a, V.int i] [Value.ref a, Value.int i t] := .cons rfl (.cons ⟨t, rfl⟩ .nil)
  exact rmul_ins hF I.ok.mod.kin J1 sf iM iA nA hsub (own_call G bE pE hr I rv q)
/-- == with any other value -/
def rEqO (C : Addr) (sp : Sp) (E : XK) : R2 := fun x y H Q => ∃ a dx fs, x = .ref a ∧ H a = some (.ins C dx fs) ∧ ((∃ i, y = .int i) ∨ ∃ c xs, y = .ref c ∧ H c = some (.tup xs)) ∧ sp [.ref a, y] H (fun v H' => ∃ b, v = .bl b ∧ Q v H') E
end
end GG


namespace GG
open PySem PySem.Spec PyProof.Rows L2
abbrev sBU : Stmt := inClass (topS 5) 0
/-! ### Unlike, one field -/
def spBU (C : Addr) : Sp := fun vs H Q _ => ∃ (a : Addr) (y : V), vs = [.ref a, y] ∧ H a = some (exo a C none) ∧ ∀ (dx : Addr) (H' : Hp), H dx = none → dx ≠ a → H' a = some (exo a C (some dx)) → H' dx = some (exd dx [("what", y)]) → Keep a H H' → Q .non H'
structure BUTxt (P : Program) (w : World) (K : PySem.W.Frag) (mg : Str → Option Value) (base : Heap) (C : Addr) : Prop where
  m : mg "Unlike" = some (.ref C)
  t : ExT K C
  ini : ∃ fI fd, PySem.W.findIn K (.ref C) "__init__" = some (some (.ref fI)) ∧ PySem.W.typeIn K (.ref fI) = some (.type "function") ∧ Binds K fd ["self", "what"] [] ∧ FnOk P w K mg base CX0 1 fI fd ["self", "what"] (spBU C)
section
variable {P : Program} {w : World} {K : PySem.W.Frag} {mg : Str → Option Value} {base : Heap}
theorem scBU : FnScope ["self", "what"] ["self", "what"] (defScope sBU) := ⟨rfl, rfl, rfl, by decide +kernel, rfl, by decide +kernel, by decide +kernel⟩
theorem bu_of {C fI : Addr} {fd : FuncData} (m : mg "Unlike" = some (.ref C)) (t : ExT K C) (n1 : PySem.W.findIn K (.ref C) "what" = some none)
    (i : PySem.W.findIn K (.ref C) "__init__" = some (some (.ref fI))) (ti : PySem.W.typeIn K (.ref fI) = some (.type "function")) (U : Fun K "__init__" "Unlike.__init__" sBU fI fd) : BUTxt P w K mg base C := by
  refine ⟨m, t, fI, fd, i, ti, U.binds fun _ _ _ _ _ _ us hl => match us, hl with | [_, _], _ => rfl, ?_⟩
  refine U.ok scBU (fun vs H Q E h => ?_) (fun cdv A outer s H vs Q E hr h => ?_)
  · obtain ⟨a, y1, rfl, _⟩ := h
    rfl
  · obtain ⟨a, y1, rfl, he, k⟩ := h
    refine ⟨_, pss_one (ps_ost (pv 0) (pv 1)), ?_⟩
    refine ⟨_, rfl, _, rfl, a, C, rfl, t.ox, n1, .inl ⟨he, fun dx hdx ne => ?_⟩⟩
    refine k dx _ hdx ne upd_same (by rw [upd_ne ne, upd_same]) fun b o nb e => ?_
    rw [upd_ne nb, upd_ne (ne_of_none e hdx)]
    exact e
/-- raise Unlike(a): what is left behind the argument -/
theorem raiseBU {C : Addr} {y : V} {H1 : Hp} {R : Value → Option Addr → Hp → Prop} (k : ∀ (d : Addr) (H' : Hp), H' d = some (.xd [("what", y)]) → Same H1 H' → R (.ref C) (some d) H') :
    [y].length ≤ 1000 ∧ ∀ a, H1 a = none → spBU C (.ref a :: ([y] ++ [])) (upd H1 a (exo a C none))
      (fun v H2 => v = .non ∧ ∃ (d : Addr) (fs : List (Str × V)), H2 a = some (exo a C (some d)) ∧ H2 d = some (exd d fs) ∧ H1 d = none ∧ R (.ref C) (some d) (upd (del H2 a) d (.xd fs))) (fun _ _ _ => False) := by
  refine ⟨(by show 1 ≤ 1000; decide), fun a na => ⟨a, y, rfl, upd_same, fun dx H2 hdx ne e1 e2 kp => ⟨rfl, dx, _, e1, e2, ?_, ?_⟩⟩⟩
  · rw [upd_ne ne] at hdx
    exact hdx
  · refine k dx _ upd_same fun b o z => ?_
    have nd : H1 dx = none := by
      rw [upd_ne ne] at hdx
      exact hdx
    rw [upd_ne (ne_of_none z nd), del_ne (ne_of_none z na)]
    exact kp b o (ne_of_none z na) (by rw [upd_ne (ne_of_none z na)]; exact z)
theorem ps_raiseBU {X : Cx} {C : Addr} {W : WX} {e1 : Expr} {ta : TA} {p pos pos2 : Pos} (hc : X.calm = true) (T : BUTxt X.prog X.w X.K X.mg X.base C) (hr : Room 2 X.A) (tk : Takes X W) (ha : PA X [e1] ta) (hg : Gl X "Unlike" := by rfl)
    (he : starEach (e1 :: []) X.env = (false, eval e1 X.env) :: starEach [] X.env := by rfl) (hpl : (backTo pos (starEach [] X.env)).any (·.1) = false := by rfl) :
    PS X (.Raise (some (.Call (.Name "Unlike" p) [e1] [] pos)) none pos2) (fun _ σ H => tMkO C (spBU C) [] ta σ H fun cls d H' => W cls d σ H') := by
  obtain ⟨fI, fd, i, ti, hb, G⟩ := T.ini
  exact ps_raise hc tk (pmk_oex (CX := CX0) T.t.ox i ti G hr hb .nil (fun _ _ _ _ _ _ _ z => z.elim) hg T.m ha (by decide) he hpl)
end

theorem DaAll.snoc {H : Hp} {v : V} {d : PyData} (h : Da H v d) : ∀ {vs : List V} {ds : List PyData}, DaAll H vs ds → DaAll H (vs ++ [v]) (ds ++ [d])
  | _, _, .nil => .cons h .nil
  | _, _, .cons a t => .cons a (DaAll.snoc h t)
/-! ### check_same_kinds, weighed, the own operators of lists -/
abbrev sCSK : Stmt := topS 18
abbrev sWeighed : Stmt := topS 38
abbrev sAdd : Stmt := inClass (topS 33) 2
abbrev sNeg : Stmt := inClass (topS 33) 3
abbrev sMul : Stmt := inClass (topS 33) 4
abbrev sRmul : Stmt := inClass (topS 33) 5
/-- an expression that is never reached -/
def tDead : TE := fun _ _ _ => False
theorem pe_dead {X : Cx} {e : Expr} : PE X e tDead := ⟨fun _ _ _ _ _ _ h => h.elim⟩
/-- a list with these rows -/
def BidsR (C : Addr) (H : Hp) (x : Addr) (n : Nat) (es : WS) : Prop := BidsAt C H x n (.tuple (es.map rowD))
theorem BidsR.same {C : Addr} {H H' : Hp} {x : Addr} {n : Nat} {es : WS} (k : Same H H') (h : BidsR C H x n es) : BidsR C H' x n es := BidsAt.same k h
def spCSK (C CU : Addr) : Sp := fun vs H Q E => ∃ (a c : Addr) (n m : Nat) (d e : PyData), vs = [.ref a, .ref c] ∧ BidsAt C H a n d ∧ BidsAt C H c m e ∧ (n = m → Q .non H) ∧ (n ≠ m → ∀ dd H', H' dd = some (.xd [("what", .str "kinds")]) → Same H H' → E (.ref CU) (some dd) H')
def spWeighed : Sp := fun vs H Q _ => ∃ (q : Addr) (es : WS) (z : Int), vs = [.ref q, .int z] ∧ Da H (.ref q) (.tuple (es.map rowD)) ∧ es.length ≤ 1000 ∧ (∀ e ∈ es, e.1.natAbs < 2 ^ 60) ∧
  ∀ (D : Addr) (vs : List V) (H' : Hp), H' D = some (.lst vs) → DaAll H' vs ((es.map fun e => (e.1 * z, e.2)).map rowD) → Same H H' → Q (.ref D) H'
section
variable {P : Program} {w : World} {K : PySem.W.Frag} {mg : Str → Option Value} {base : Heap}
theorem scCSK : FnScope ["one", "other"] ["one", "other"] (defScope sCSK) := ⟨rfl, rfl, rfl, by decide +kernel, rfl, by decide +kernel, by decide +kernel⟩
theorem kn_csk {C CU : Addr} (D : DefIs K mg "check_same_kinds" sCSK) (N : BUTxt P w K mg base CU) (BC : BCl K C) : KnX P w K mg base "check_same_kinds" 3 ["one", "other"] (spCSK C CU) := by
  refine .of D (fun _ _ _ _ _ _ us hl => match us, hl with | [_, _], _ => rfl) fun _ _ F => ?_
  refine F.okX scCSK (fun vs H Q E h => ?_) (fun cdv A outer s H vs Q E hr h => ?_)
  · obtain ⟨a, c, n, m, d, e, rfl, _⟩ := h
    rfl
  · obtain ⟨a, c, n, m, d, e, rfl, ⟨dx, fs, p, ea, ka, ra, da⟩, ⟨dy, gs, q, ec, kc, rc, dc⟩, kQ, kE⟩ := h
    refine ⟨_, pss_one (ps_if (pt_cmpR op_ne (pe_fld (pv 0) rfl) (pe_fld (pv 1) rfl) (nomark _)) (pss_one (ps_raiseBU rfl N (hr.mono (by decide)) (takes_of rfl rfl rfl rfl) (pa_cons pe_str pa_nil))) pss_nil), ?_⟩
    refine ⟨_, rfl, a, C, dx, fs, _, rfl, ea, BC.cl, BC.n1, ka, _, rfl, c, C, dy, gs, _, rfl, ec, BC.cl, BC.n1, kc, rfl, _, rfl, ?_⟩
    by_cases z : n = m
    · rw [decide_eq_true (show V.int (n : Int) = V.int (m : Int) by rw [z])]
      exact iteF (kQ z)
    · rw [decide_eq_false (fun q => z (by have := V.int.inj q; omega))]
      refine iteT ?_
      exact raiseBU fun dd H' e S' => kE z dd H' e S'
abbrev NWe : List Str := ["rows", "factor", "weight", "numbers"]
theorem scWeighed : FnScope NWe ["rows", "factor"] (defScope sWeighed) := ⟨rfl, rfl, rfl, by decide +kernel, rfl, by decide +kernel, by decide +kernel⟩
theorem kn_weighed (D : DefIs K mg "weighed" sWeighed) : Kn P w K mg base "weighed" 1 ["rows", "factor"] spWeighed := by
  refine .of D (fun _ _ _ _ _ _ us hl => match us, hl with | [_, _], _ => rfl) fun fa _ F => ?_
  refine F.ok scWeighed (fun vs H Q E h => ?_) (fun cdv A outer s H vs Q E hr h => ?_)
  · obtain ⟨q, es, z, rfl, _⟩ := h
    rfl
  · obtain ⟨q, es, z, rfl, da, ln, bd, k⟩ := h
    refine ⟨_, pss_one (ps_ret (pe_lc (own := [("weight", 2), ("numbers", 3)]) (g := gTup K 2 (gCons (gName 2) (gCons (gName 3) gNil))) (tt := tYes) rfl scWeighed.nd (pi_tup (pv 0)) (blkOk_by (N := NWe) (sc := defScope sWeighed) (by decide +kernel))
        (fun _ _ _ _ _ => pg_tup rfl (pgs_cons (pg_name (i := 2) scWeighed.nd rfl (.inl rfl)) (pgs_cons (pg_name (i := 3) scWeighed.nd rfl (.inl rfl)) pgs_nil))) (fun _ _ _ _ _ => pts_nil) (fun _ _ _ _ _ => pe_tup (pa_cons (pe_op op_mul (pv 2) (pv 1)) (pa_cons (pv 3) pa_nil))))), ?_⟩
    generalize hd : PyData.tuple (es.map rowD) = dd at da
    cases da with
    | @tup a xs ds ea all =>
      cases hd
      refine ⟨_, rfl, q, rfl, ⟨_, SqT.of ea⟩, fun D0 nD => ?_⟩
      have lx := all.length
      rw [List.length_map] at lx
      refine lc_tup (xs := xs) (fun i G => ∃ ts, Same H G ∧ G D0 = some (.lst ts) ∧ DaAll G ts (((es.take i).map fun e => (e.1 * z, e.2)).map rowD)) ⟨[], GG.Same.new (L2.Same.refl H) nD, upd_same, .nil⟩ (fun i G _ p => ?_) (fun i y G hy p => ?_) (fun G p => ?_)
      · obtain ⟨_, S, _⟩ := p
        exact SqT.of (S _ _ ea)
      · obtain ⟨ts, S, eD, dt⟩ := p
        obtain ⟨d, hd, da⟩ := (all.stay (Same.stay S)).get hy
        rw [List.getElem?_map] at hd
        obtain ⟨e, he, rfl⟩ := Option.map_eq_some_iff.mp hd
        generalize hr2 : rowD e = dd at da
        cases da with
        | @tup t ys ds2 et all2 =>
          cases hr2
          cases all2 with
          | @cons v1 _ vs1 _ h1 t1 =>
            cases h1
            cases t1 with
            | @cons v2 _ vs2 _ h2 t2 =>
              cases t2
              have il := (List.getElem?_eq_some_iff.mp he).1
              have lts : ts.length ≤ i := by
                have := dt.length
                rw [List.length_map, List.length_map, List.length_take] at this
                omega
              refine ⟨t, _, rfl, .inl (.inl et), rfl, _, _, rfl, _, _, rfl, rfl, rfl, ?_⟩
              have b1 := bd e (List.mem_of_getElem? he)
              have up : (2 : Nat) ^ 60 < 2 ^ 64 := by decide
              refine ⟨_, rfl, _, rfl, _, _, rfl, rfl, .inl ⟨by omega, by omega⟩, _, rfl, (by show 2 ≤ sizeLine; rw [sizeLine_eq]; decide), fun t' nt => ?_⟩
              have S2 := GG.Same.new (L2.Same.refl G) nt (o := .tup [.int (e.1 * z), v2])
              have et2 : (upd G t' (.tup [.int (e.1 * z), v2])) t' = some (.tup [.int (e.1 * z), v2]) := upd_same
              generalize (upd G t' (.tup [.int (e.1 * z), v2])) = G2 at S2 et2 ⊢
              have eD2 := S2 _ _ eD
              refine ⟨ts, eD2, by rw [sizeLine_eq]; omega, ts ++ [.ref t'], ?_, upd_same, ?_⟩
              · intro b o eb
                rw [upd_ne (ne_of_none eb nD)]
                exact S2 _ _ (S b o eb)
              · rw [take_snoc he, List.map_append, List.map_append]
                have new : Da G2 (.ref t') (rowD (e.1 * z, e.2)) := .tup et2 (.cons (.int _) (.cons (h2.stay (Same.stay S2)) .nil))
                have dt2 := dt.stay (Same.stay S2)
                have nl1 := noL_rows ((es.take i).map fun e => (e.1 * z, e.2))
                have nl2 : noL (rowD (e.1 * z, e.2)) = true := by simp [rowD, noL, noLs, noL_dRs]
                exact DaAll.snoc (new.nl (NL.upd eD2) nl2) (dt2.nl (NL.upd eD2) nl1)
        | _ => cases hr2
      · obtain ⟨ts, S, eD, dt⟩ := p
        rw [lx, List.take_length] at dt
        exact k D0 ts G eD dt S
    | _ => cases hd
end
end GG


namespace GG
open PySem PySem.Spec PyProof.Rows L2 LamX
/-! ### sums, multiples -/
theorem ok_smallT {r : Int × Int} (h : okR NN r) : NumD (dR r) r := by
  obtain ⟨⟨g1, g2, g3⟩, g4, g5⟩ := h
  have l : r.2.natAbs ≤ 693000 := Nat.le_of_dvd (by decide) g2
  have up : (693000 : Nat) < 2 ^ 120 := by decide
  refine ⟨decide_eq_true g1, ?_, g3, by omega⟩
  have e := lw_mul (k := 1) (by decide) g4
  rw [Int.mul_one, Int.mul_one] at e
  exact e
theorem bid_row {H : Hp} {n : Nat} {v : V} {e : Int × RK} (n3 : n ≤ 3) (ok : okK' n NN e.2) (h : Da H v (rowD e)) : BidV H n v e := by
  have key : ∀ K : RK, (∀ r ∈ K, okR NN r) → Paired NumD (K.map dR) K := by
    intro K
    induction K with
    | nil => intro _; exact .nil
    | cons r K ih => intro o; exact .cons (ok_smallT (o r List.mem_cons_self)) (ih fun x hx => o x (List.mem_cons_of_mem _ hx))
  exact ⟨rowD e, h, bid_ok rfl rfl (key e.2 ok.2) n3 ok⟩
theorem bids_rows {H : Hp} {n : Nat} (n3 : n ≤ 3) : ∀ {vs : List V} {es : WS}, DaAll H vs (es.map rowD) → (∀ e ∈ es, okK' n NN e.2) → Paired (BidV H n) vs es := by
  intro vs es
  induction es generalizing vs with
  | nil => intro h _; cases h; exact .nil
  | cons e es ih =>
    intro h ok
    rw [List.map_cons] at h
    cases h with
    | cons a t => exact .cons (bid_row n3 (ok e List.mem_cons_self) a) (ih t fun x hx => ok x (List.mem_cons_of_mem _ hx))
def WOk (n : Nat) (es : WS) : Prop := 1 ≤ n ∧ n ≤ 3 ∧ es.length ≤ 60 ∧ ∀ e ∈ es, okK' n NN e.2 ∧ e.1.natAbs < 2 ^ 60
def timesW (z : Int) (es : WS) : WS := es.map fun e => (e.1 * z, e.2)
def spNeg (C : Addr) : Sp := fun vs H Q _ => ∃ (a : Addr) (n : Nat) (es : WS), vs = [.ref a] ∧ BidsR C H a n es ∧ WOk n es ∧ ∀ x H', Same H H' → BidsR C H' x n (plainL n (ofWs (timesW (-1) es))) → Q (.ref x) H'
def spMul (C : Addr) : Sp := fun vs H Q _ => ∃ (a : Addr) (n : Nat) (es : WS) (z : Int), vs = [.ref a, .int z] ∧ BidsR C H a n es ∧ WOk n es ∧ ∀ x H', Same H H' → BidsR C H' x n (plainL n (ofWs (timesW z es))) → Q (.ref x) H'
def spAdd (C CU : Addr) : Sp := fun vs H Q E => ∃ (a c : Addr) (n m : Nat) (es fs : WS), vs = [.ref a, .ref c] ∧ BidsR C H a n es ∧ BidsR C H c m fs ∧ WOk n es ∧ WOk m fs ∧ es.length + fs.length ≤ 60 ∧
  (n = m → ∀ x H', Same H H' → BidsR C H' x n (plainL n (ofWs (es ++ fs))) → Q (.ref x) H') ∧ (n ≠ m → ∀ dd H', H' dd = some (.xd [("what", .str "kinds")]) → Same H H' → E (.ref CU) (some dd) H')
theorem BidsR.rows {C : Addr} {H : Hp} {x : Addr} {n : Nat} {es : WS} (h : BidsR C H x n es) : ∃ dx fs p xs, H x = some (.ins C dx fs) ∧ fs.lookup ("kinds" : Str) = some (.int (n : Int)) ∧ fs.lookup ("rows" : Str) = some (.ref p) ∧ H p = some (.tup xs) ∧ DaAll H xs (es.map rowD) := by
  obtain ⟨dx, fs, p, e, f1, f2, da⟩ := h
  generalize hd : PyData.tuple (es.map rowD) = dd at da
  cases da with
  | tup e2 all => cases hd; exact ⟨dx, fs, p, _, e, f1, f2, e2, all⟩
  | _ => cases hd
section
variable {P : Program} {w : World} {K : PySem.W.Frag} {mg : Str → Option Value} {base : Heap}
theorem scNeg : FnScope ["self"] ["self"] (defScope sNeg) := ⟨rfl, rfl, rfl, by decide +kernel, rfl, by decide +kernel, by decide +kernel⟩
theorem neg_of {C f : Addr} {fd : FuncData} (BI : BiTxt P w K mg base C) (BW : Kn P w K mg base "weighed" 1 ["rows", "factor"] spWeighed) (U : Fun K "__neg__" "Bids.__neg__" sNeg f fd) : FnOk P w K mg base CX0 10 f fd ["self"] (spNeg C) := by
  refine U.ok scNeg (fun vs H Q E h => ?_) (fun cdv A outer s H vs Q E hr h => ?_)
  · obtain ⟨a, n, es, rfl, _⟩ := h
    rfl
  · obtain ⟨a, n, es, rfl, ba, ⟨n1, n3, l60, ok⟩, k⟩ := h
    obtain ⟨fI, fdI, MI, bI, GI⟩ := BI.ini
    have hr1 : Room 1 _ := hr.mono (by decide)
    refine ⟨_, pss_one (ps_ret (pe_make MI GI hr rfl BI.m bI .nil (passes_call LamX.takes0 (E := fun _ _ _ => False) (fun _ _ _ _ z => z)) (pa_cons (pe_fld (pv 0) rfl) (pa_cons (pe_kn BW hr1 (pa_cons (pe_fld (pv 0) rfl) (pa_cons (pe_un un_neg pe_int) pa_nil))) pa_nil)))), ?_⟩
    obtain ⟨dx, fs, p, e, f1, f2, da⟩ := ba
    refine ⟨_, rfl, a, C, dx, fs, _, rfl, e, BI.cl, BI.n1, f1, _, rfl, a, C, dx, fs, _, rfl, e, BI.cl, BI.n2, f2, _, rfl, ?_⟩
    refine ⟨p, es, -1, rfl, da, by omega, fun e he => (ok e he).2, fun D vs H1 eD dall S1 => ?_⟩
    have okT : ∀ e ∈ timesW (-1) es, okK' n NN e.2 := fun e he => by
      obtain ⟨z, hz, rfl⟩ := List.mem_map.mp he
      exact (ok z hz).1
    refine fun xb db nxb ndb ne => init_bids rfl n1 n3 nxb ndb ne rfl (.inl eD) (bids_rows n3 dall okT) (by rw [List.length_map]; exact l60) okT fun H2 S2 BA => ⟨rfl, ?_⟩
    exact k xb H2 (L2.Same.trans S1 S2) BA
theorem scMul : FnScope ["self", "other"] ["self", "other"] (defScope sMul) := ⟨rfl, rfl, rfl, by decide +kernel, rfl, by decide +kernel, by decide +kernel⟩
theorem mul_of {C f : Addr} {fd : FuncData} (BI : BiTxt P w K mg base C) (BH : Kn P w K mg base "is_whole" 1 ["value"] spWhole) (BW : Kn P w K mg base "weighed" 1 ["rows", "factor"] spWeighed) (U : Fun K "__mul__" "Bids.__mul__" sMul f fd) : FnOk P w K mg base CX0 10 f fd ["self", "other"] (spMul C) := by
  refine U.ok scMul (fun vs H Q E h => ?_) (fun cdv A outer s H vs Q E hr h => ?_)
  · obtain ⟨a, n, es, z, rfl, _⟩ := h
    rfl
  · obtain ⟨a, n, es, z, rfl, ba, ⟨n1, n3, l60, ok⟩, k⟩ := h
    obtain ⟨fI, fdI, MI, bI, GI⟩ := BI.ini
    have hr1 : Room 1 _ := hr.mono (by decide)
    refine ⟨_, pss_cons (ps_if (pt_not (pt_val (pe_kn BH hr1 (pa_cons (pv 1) pa_nil)))) (pss_one (ps_ret pe_dead)) pss_nil)
      (pss_one (ps_ret (pe_make MI GI hr rfl BI.m bI .nil (passes_call LamX.takes0 (E := fun _ _ _ => False) (fun _ _ _ _ z => z)) (pa_cons (pe_fld (pv 0) rfl) (pa_cons (pe_kn BW hr1 (pa_cons (pe_fld (pv 0) rfl) (pa_cons (pv 1) pa_nil))) pa_nil))))), ?_⟩
    refine ⟨_, rfl, .int z, .int z, rfl, .int z, _, rfl, iteF ?_⟩
    obtain ⟨dx, fs, p, e, f1, f2, da⟩ := ba
    refine ⟨_, rfl, a, C, dx, fs, _, rfl, e, BI.cl, BI.n1, f1, _, rfl, a, C, dx, fs, _, rfl, e, BI.cl, BI.n2, f2, _, rfl, ?_⟩
    refine ⟨p, es, z, rfl, da, by omega, fun e he => (ok e he).2, fun D vs H1 eD dall S1 => ?_⟩
    have okT : ∀ e ∈ timesW z es, okK' n NN e.2 := fun e he => by
      obtain ⟨y, hy, rfl⟩ := List.mem_map.mp he
      exact (ok y hy).1
    refine fun xb db nxb ndb ne => init_bids rfl n1 n3 nxb ndb ne rfl (.inl eD) (bids_rows n3 dall okT) (by rw [List.length_map]; exact l60) okT fun H2 S2 BA => ⟨rfl, ?_⟩
    exact k xb H2 (L2.Same.trans S1 S2) BA
theorem scRmul : FnScope ["self", "other"] ["self", "other"] (defScope sRmul) := ⟨rfl, rfl, rfl, by decide +kernel, rfl, by decide +kernel, by decide +kernel⟩
theorem rmul_of {C f : Addr} {fd : FuncData} (BI : BiTxt P w K mg base C) (BH : Kn P w K mg base "is_whole" 1 ["value"] spWhole) (BW : Kn P w K mg base "weighed" 1 ["rows", "factor"] spWeighed) (U : Fun K "__rmul__" "Bids.__rmul__" sRmul f fd) : FnOk P w K mg base CX0 10 f fd ["self", "other"] (spMul C) := by
  refine U.ok scRmul (fun vs H Q E h => ?_) (fun cdv A outer s H vs Q E hr h => ?_)
  · obtain ⟨a, n, es, z, rfl, _⟩ := h
    rfl
  · obtain ⟨a, n, es, z, rfl, ba, ⟨n1, n3, l60, ok⟩, k⟩ := h
    obtain ⟨fI, fdI, MI, bI, GI⟩ := BI.ini
    have hr1 : Room 1 _ := hr.mono (by decide)
    refine ⟨_, pss_cons (ps_if (pt_not (pt_val (pe_kn BH hr1 (pa_cons (pv 1) pa_nil)))) (pss_one (ps_ret pe_dead)) pss_nil)
      (pss_one (ps_ret (pe_make MI GI hr rfl BI.m bI .nil (passes_call LamX.takes0 (E := fun _ _ _ => False) (fun _ _ _ _ z => z)) (pa_cons (pe_fld (pv 0) rfl) (pa_cons (pe_kn BW hr1 (pa_cons (pe_fld (pv 0) rfl) (pa_cons (pv 1) pa_nil))) pa_nil))))), ?_⟩
    refine ⟨_, rfl, .int z, .int z, rfl, .int z, _, rfl, iteF ?_⟩
    obtain ⟨dx, fs, p, e, f1, f2, da⟩ := ba
    refine ⟨_, rfl, a, C, dx, fs, _, rfl, e, BI.cl, BI.n1, f1, _, rfl, a, C, dx, fs, _, rfl, e, BI.cl, BI.n2, f2, _, rfl, ?_⟩
    refine ⟨p, es, z, rfl, da, by omega, fun e he => (ok e he).2, fun D vs H1 eD dall S1 => ?_⟩
    have okT : ∀ e ∈ timesW z es, okK' n NN e.2 := fun e he => by
      obtain ⟨y, hy, rfl⟩ := List.mem_map.mp he
      exact (ok y hy).1
    refine fun xb db nxb ndb ne => init_bids rfl n1 n3 nxb ndb ne rfl (.inl eD) (bids_rows n3 dall okT) (by rw [List.length_map]; exact l60) okT fun H2 S2 BA => ⟨rfl, ?_⟩
    exact k xb H2 (L2.Same.trans S1 S2) BA
theorem scAdd : FnScope ["self", "other"] ["self", "other"] (defScope sAdd) := ⟨rfl, rfl, rfl, by decide +kernel, rfl, by decide +kernel, by decide +kernel⟩
theorem add_of {C CU f : Addr} {fd : FuncData} (T : RTxt K mg) (BI : BiTxt P w K mg base C) (ic : InC K C) (CK : KnX P w K mg base "check_same_kinds" 3 ["one", "other"] (spCSK C CU)) (U : Fun K "__add__" "Bids.__add__" sAdd f fd) : FnOk P w K mg base (L2.CX P w) 10 f fd ["self", "other"] (spAdd C CU) := by
  refine U.okX scAdd (fun vs H Q E h => ?_) (fun cdv A outer s H vs Q E hr h => ?_)
  · obtain ⟨a, c, n, m, es, fs, rfl, _⟩ := h
    rfl
  · obtain ⟨a, c, n, m, es, fs, rfl, ba, bc, ⟨n1, n3, l60, ok⟩, ⟨_, _, _, ok'⟩, l2, kQ, kE⟩ := h
    obtain ⟨fI, fdI, MI, bI, GI⟩ := BI.ini
    have hr3 : Room 3 _ := hr.mono (by decide)
    refine ⟨_, pss_cons (ps_if (pt_not (pt_val (pe_callB call_isi (by rfl) T.isi bIsi (pa_cons (pv 1) (pa_cons (pe_glob (v := .ref C) rfl BI.m rfl) pa_nil))))) (pss_one (ps_ret pe_dead)) pss_nil)
      (pss_cons (ps_expr (pe_knX CK hr3 (takes_of rfl rfl rfl rfl) (fun _ _ _ _ z => z) (pa_cons (pv 0) (pa_cons (pv 1) pa_nil))))
      (pss_one (ps_ret (pe_make MI GI hr rfl BI.m bI .nil (passes_call (takes_of rfl rfl rfl rfl) (E := fun _ _ _ => False) (fun _ _ _ _ z => z.elim)) (pa_cons (pe_fld (pv 0) rfl) (pa_cons (pe_op op_catA (pe_fld (pv 0) rfl) (pe_fld (pv 1) rfl)) pa_nil)))))), ?_⟩
    obtain ⟨dxa, fsa, pa', xs, ea, ka, ra, epa, dall⟩ := ba.rows
    obtain ⟨dxc, fsc, pc, ys, ec, kc, rc, epc, call⟩ := bc.rows
    refine ⟨_, rfl, .ref c, .ref C, .ref C, .ref C, true, rfl, .own C, .base (.ins ec BI.cl ic.ha ic.hn ic.htk ic.hm), ic.kit, _, rfl, iteF ?_⟩
    refine ⟨_, rfl, _, rfl, a, c, n, m, _, _, rfl, ba, bc, fun hnm => ?_, kE⟩
    refine ⟨_, rfl, a, C, dxa, fsa, _, rfl, ea, BI.cl, BI.n1, ka, _, rfl, a, C, dxa, fsa, _, rfl, ea, BI.cl, BI.n2, ra, _, rfl, c, C, dxc, fsc, _, rfl, ec, BI.cl, BI.n2, rc, ?_⟩
    subst hnm
    have okT : ∀ e ∈ es ++ fs, okK' n NN e.2 := fun e he => by
      rcases List.mem_append.mp he with q | q
      · exact (ok e q).1
      · exact (ok' e q).1
    have pb : Paired (BidV H n) (xs ++ ys) (es ++ fs) := paired_app (bids_rows n3 dall fun e he => (ok e he).1) (bids_rows n3 call fun e he => (ok' e he).1)
    have lT : (es ++ fs).length ≤ 60 := by rw [List.length_append]; exact l2
    have lx := dall.length
    have ly := call.length
    rw [List.length_map] at lx ly
    refine ⟨pa', pc, xs, ys, rfl, rfl, SqT.of epa, SqT.of epc, by rw [sizeLine_eq]; omega, fun e => ?_, fun _ e => ?_, fun _ _ q nq => ?_⟩
    · subst e
      exact fun xb db nxb ndb ne => init_bids rfl n1 n3 nxb ndb ne rfl (.inr epc) pb lT okT fun H2 S2 BA => ⟨rfl, kQ rfl xb H2 S2 BA⟩
    · subst e
      rw [List.append_nil] at pb
      exact fun xb db nxb ndb ne => init_bids rfl n1 n3 nxb ndb ne rfl (.inr epa) pb lT okT fun H2 S2 BA => ⟨rfl, kQ rfl xb H2 S2 BA⟩
    · have S1 := GG.Same.new (L2.Same.refl H) nq (o := .tup (xs ++ ys))
      exact fun xb db nxb ndb ne => init_bids rfl n1 n3 nxb ndb ne rfl (.inr upd_same) (Paired.mapP pb fun _ _ h => BidV.stay (Same.stay S1) h) lT okT fun H2 S2 BA => ⟨rfl, kQ rfl xb H2 (L2.Same.trans S1 S2) BA⟩
end
end GG


namespace GG
open PySem PySem.Spec PyProof.Rows L2 RZ LamX
/-! ### _law_made: a drawn list as an object -/
theorem lc_ei2 {K : PySem.W.Frag} {a : Addr} {xs : List V} {g : TG} {tt : TT} {te : TE} {vs : List Nat} {σ : L2.St} {H1 : Hp} {Qd : Addr → Hp → Prop} (Pv : Addr → Nat → Hp → Prop) (sq : (SqL K H1 a xs ∧ ∀ D, H1 D = none → ∀ i H, Pv D i H → SqL K H a xs) ∨ (SqT K H1 a xs ∧ ∀ D, H1 D = none → ∀ i H, Pv D i H → SqT K H a xs)) (h0 : ∀ D, H1 D = none → Pv D 0 (upd H1 D (.lst [])))
    (hs : ∀ D, H1 D = none → ∀ i x H, xs[i]? = some x → Pv D i H → g x (wipe σ vs) H fun s2 H2 => wipe s2 vs = wipe σ vs ∧ tt s2 H2 fun b H3 =>
      if b = true then te s2 H3 fun y H4 => ∃ acc, H4 D = some (.lst acc) ∧ acc.length < sizeLine ∧ Pv D (i + 1) (upd H4 D (.lst (acc ++ [y]))) else Pv D (i + 1) H3) (hd : ∀ D, H1 D = none → ∀ H, Pv D xs.length H → Qd D H) :
    ((∃ ys, SqL K H1 a ys) ∧ ∀ D, H1 D = none → ∃ W : Nat → Nat → Hp → Prop, (∃ m, W 0 m (upd H1 D (.lst []))) ∧ ∀ i m H, W i m H →
      ((Itl K a).stop i H ∧ Qd D H) ∨ ((Itl K a).go i H ∧ ∃ Nx : Hp → Prop, (∀ H', Nx H' → ∃ m', m' < m ∧ W (i + 1) m' H') ∧ ∀ x H', (Itl K a).yld i H x H' → g x (wipe σ vs) H' fun s2 H2 => wipe s2 vs = wipe σ vs ∧ tt s2 H2 fun b H3 =>
        if b = true then te s2 H3 fun y H4 => ∃ acc, H4 D = some (.lst acc) ∧ acc.length < sizeLine ∧ Nx (upd H4 D (.lst (acc ++ [y]))) else Nx H3)) ∨
    ((∃ ys, SqT K H1 a ys) ∧ ∀ D, H1 D = none → ∃ W : Nat → Nat → Hp → Prop, (∃ m, W 0 m (upd H1 D (.lst []))) ∧ ∀ i m H, W i m H →
      ((Itt K a).stop i H ∧ Qd D H) ∨ ((Itt K a).go i H ∧ ∃ Nx : Hp → Prop, (∀ H', Nx H' → ∃ m', m' < m ∧ W (i + 1) m' H') ∧ ∀ x H', (Itt K a).yld i H x H' → g x (wipe σ vs) H' fun s2 H2 => wipe s2 vs = wipe σ vs ∧ tt s2 H2 fun b H3 =>
        if b = true then te s2 H3 fun y H4 => ∃ acc, H4 D = some (.lst acc) ∧ acc.length < sizeLine ∧ Nx (upd H4 D (.lst (acc ++ [y]))) else Nx H3)) := by
  rcases sq with ⟨q, z⟩ | ⟨q, z⟩
  · exact .inl ⟨⟨_, q⟩, fun D hD => lc_list (Pv D) (h0 D hD) (fun i H _ p => z D hD i H p) (hs D hD) (hd D hD)⟩
  · exact .inr ⟨⟨_, q⟩, fun D hD => lc_tup (Pv D) (h0 D hD) (fun i H _ p => z D hD i H p) (hs D hD) (hd D hD)⟩
theorem plain_same {n : Nat} {Ws Ws' : WS} (ok : ∀ e ∈ Ws, okK' n NN e.2) (ok' : ∀ e ∈ Ws', okK' n NN e.2) (h : ∀ K, total Ws' K = total Ws K) : plainL n (ofWs Ws') = plainL n (ofWs Ws) := by
  rw [law_plain (N := NN) (by decide) ok ok' fun K _ => h K, first_plain ok]
abbrev sMade : Stmt := topS 56
/-- drawn rows that are plain -/
structure PlE (n : Nat) (sc : Int) (E : List (Int × List Int)) : Prop where
  n1 : 1 ≤ n
  n3 : n ≤ 3
  s0 : 0 < sc
  s1 : sc ≤ 10
  sN : sc.natAbs ∣ NN
  ln : E.length ≤ 30
  row : ∀ e ∈ E, rowW n 1000000 100000 e
  srt : (E.map (·.2)).Pairwise (· < ·)
  w0 : ∀ e ∈ E, e.1 ≠ 0
theorem PlE.self {n : Nat} {sc : Int} {E : List (Int × List Int)} (h : PlE n sc E) : (∀ e ∈ E.map (ratE sc), okK' n NN e.2) ∧ plainL n (ofWs (E.map (ratE sc))) = E.map (ratE sc) := plain_self h.s0 h.sN (by decide) h.srt h.w0 h.row
def spMade (C : Addr) : Sp := fun vs H Q _ => ∃ (p l d R : Addr) (c : Int) (ys : List V) (E : List (Int × List Int)) (n : Nat) (sc : Int), vs = [.ref p, .ref d] ∧ PenAt H p l c ∧ c < 1000000 ∧ H d = some (dictB n sc R) ∧ H R = some (.lst ys) ∧ Paired (NumR H) ys E ∧ PlE n sc E ∧
  ∀ x c' H', H x = none → BidsR C H' x n (E.map (ratE sc)) → c' ≤ c + 20 * E.length → PenAt H' p l c' → Keep p H H' → Q (.ref x) H'
abbrev NMa : List Str := ["_law_pen_here", "_law_bids", "_law_rows", "_law_weight", "_law_numbers_here", "_law_number", "_law_passed_here", "_law_part"]
section
variable {P : Program} {w : World} {K : PySem.W.Frag} {mg : Str → Option Value} {base : Heap}
theorem scMade : FnScope NMa ["_law_pen_here", "_law_bids"] (defScope sMade) := ⟨rfl, rfl, rfl, by decide +kernel, rfl, by decide +kernel, by decide +kernel⟩
theorem kn_made {C : Addr} (D : DefIs K mg "_law_made" sMade) (T : RTxt K mg) (BI : BiTxt P w K mg base C) (B1 : Kn P w K mg base "_law_draw" 1 ["_law_pen_here", "_law_many"] spDraw) (BQ : Kn P w K mg base "_law_q" 2 ["_law_top", "_law_bottom"] spQ) (BP : Kn P w K mg base "_law_passed" 3 ["_law_pen_here", "_law_ratio"] spPassed2) :
    Kn P w K mg base "_law_made" 10 ["_law_pen_here", "_law_bids"] (spMade C) := by
  refine .of D (fun _ _ _ _ _ _ us hl => match us, hl with | [_, _], _ => rfl) fun fa _ F => ?_
  refine F.ok scMade (fun vs H Q E h => ?_) (fun cdv A outer s H vs Q E hr h => ?_)
  · obtain ⟨p, l, d, R, c, ys, EE, n, sc, rfl, _⟩ := h
    rfl
  · obtain ⟨p, l, d, R, c, ys, EE, n, sc, rfl, PA, c0, ed, eR, pR, pl, k⟩ := h
    obtain ⟨fI, fdI, MI, bI, GI⟩ := BI.ini
    have hu := hu_of hr
    have hr1 : Room 1 _ := hr.mono (by decide)
    have hr2 : Room 2 _ := hr.mono (by decide)
    have hr3 : Room 3 _ := hr.mono (by decide)
    refine ⟨_, pss_cons (ps_set (i := 2) scMade.nd rfl (.inl rfl) (pe_lst pa_nil))
      (pss_cons (ps_for PassesOwn.never rfl (pi_list (pe_dget hu (pv 1) pe_str (fun _ _ => rfl))) (pg_tup rfl (pgs_cons (pg_name (i := 3) scMade.nd rfl (.inl rfl)) (pgs_cons (pg_name (i := 4) scMade.nd rfl (.inl rfl)) pgs_nil)))
        (pss_cons (ps_setLc (i := 6) (own := [("_law_number", 5)]) (wi := iEi K (tVar 4)) (g := gName 5) (tt := tYes) (te := tCall spPassed2 [] (fun _ _ _ => False) (tCons (tVar 0) (tCons (tCall spQ [] (fun _ _ _ => False) (tCons (tVar 5) (tCons (tDGet (tVar 1) (tC (.str "scale"))) tNil))) tNil))) rfl scMade.nd rfl rfl (sw_true rfl rfl rfl (by decide +kernel)) (pi_ei (pv 4)) (blkOk_by (N := NMa) (sc := defScope sMade) (by decide +kernel))
            (fun _ _ _ _ _ => pg_name (i := 5) scMade.nd rfl (.inl rfl)) (fun _ _ _ _ _ => pts_nil) (fun _ _ _ _ _ => pe_kn BP hr3 (pa_cons (pv 0) (pa_cons (pe_kn BQ hr2 (pa_cons (pv 5) (pa_cons (pe_dget hu (pv 1) pe_str (fun _ _ => rfl)) pa_nil))) pa_nil))))
        (Evl.pss_cut (ps_if (pt_cmpR op_eq (pe_kn B1 hr1 (pa_cons (pv 0) (pa_cons pe_int pa_nil))) pe_int (nomark _))
            (pss_cons (ps_set (i := 7) scMade.nd rfl (.inl rfl) (pe_op op_sub (pe_kn B1 hr1 (pa_cons (pv 0) (pa_cons pe_int pa_nil))) pe_int))
            (pss_cons (ps_set (i := 2) scMade.nd rfl (.inl rfl) (pe_op op_cat (pv 2) (pe_lst (pa_cons (pe_tup (pa_cons (pv 7) (pa_cons (pv 6) pa_nil))) pa_nil))))
            (pss_one (ps_set (i := 3) scMade.nd rfl (.inl rfl) (pe_op op_sub (pv 3) (pv 7)))))) pss_nil)
        (pss_one (ps_set (i := 2) scMade.nd rfl (.inl rfl) (pe_ifExp (pt_cmpR op_eq (pe_kn B1 hr1 (pa_cons (pv 0) (pa_cons pe_int pa_nil))) pe_int (nomark _))
            (pe_op op_cat (pe_lst (pa_cons (pe_tup (pa_cons (pv 3) (pa_cons (pe_callTy call_tuple_of (by rfl) T.tuple bTuple (pa_cons (pv 6) pa_nil)) pa_nil))) pa_nil)) (pv 2))
            (pe_op op_cat (pv 2) (pe_lst (pa_cons (pe_lst (pa_cons (pv 3) (pa_cons (pv 6) pa_nil))) pa_nil)))))))))
      (pss_one (ps_ret (pe_make MI GI hr rfl BI.m bI .nil (passes_call LamX.takes0 (E := fun _ _ _ => False) (fun _ _ _ _ z => z)) (pa_cons (pe_dget hu (pv 1) pe_str (fun _ _ => rfl)) (pa_cons (pv 2) pa_nil)))))), ?_⟩
    obtain ⟨okW, selfW⟩ := pl.self
    have n1 := pl.n1
    have n3 := pl.n3
    have s0 := pl.s0
    have s1 := pl.s1
    have le := pl.ln
    have row := pl.row
    clear pl
    have dp : d ≠ p := by
      obtain ⟨_, _, _, _, I⟩ := PA
      exact ne_of ed I.obj (by intro z; cases z)
    have Rp : R ≠ p := by
      obtain ⟨_, _, _, _, I⟩ := PA
      exact ne_of eR I.obj (by intro z; cases z)
    refine ⟨(by show 0 ≤ sizeLine; exact Nat.zero_le _), fun r0 nr0 => ?_⟩
    have er0 : (upd H r0 (.lst [])) r0 = some (.lst []) := upd_same
    have K0 : Keep p H (upd H r0 (.lst [])) := Keep.refl.new nr0
    have P0 := PA.new nr0 (o := .lst [])
    have dg : ∀ G, Keep p H G → ∀ (key : Str) (v : V), (dictB n sc R = .dK [(.inr "kinds", .int (n : Int)), (.inr "scale", .int sc), (.inr "rows", .ref R)]) → True := fun _ _ _ _ _ => trivial
    have dgr : ∀ G, Keep p H G → DGet G d (.str "rows") (some (.ref R)) := fun G S => .inl ⟨_, .inr "rows", .inl (S _ _ dp ed), rfl, by kernel_rfl⟩
    have dgs : ∀ G, Keep p H G → DGet G d (.str "scale") (some (.int sc)) := fun G S => .inl ⟨_, .inr "scale", .inl (S _ _ dp ed), rfl, by kernel_rfl⟩
    have dgk : ∀ G, Keep p H G → DGet G d (.str "kinds") (some (.int (n : Int))) := fun G S => .inl ⟨_, .inr "kinds", .inl (S _ _ dp ed), rfl, by kernel_rfl⟩
    clear dg
    refine ⟨_, rfl, d, _, rfl, dgr _ K0, R, rfl, ⟨_, SqL.of (K0 _ _ Rp eR)⟩, for_list (xs := ys) (fun j σ G => ∃ (c' : Int) (r : Addr) (rs : List V) (Ws : WS) (v3 v4 v6 v7 : Option V), σ = [some (.ref p), some (.ref d), some (.ref r), v3, v4, none, v6, v7] ∧ PenAt G p l c' ∧ c' ≤ c + 20 * j ∧ Keep p H G ∧ G r = some (.lst rs) ∧ Paired (BidV G n) rs Ws ∧ Ws.length ≤ 2 * j ∧ (∀ e ∈ Ws, okK' n NN e.2) ∧ ∀ K, total Ws K = total ((EE.map (ratE sc)).take j) K)
      ⟨c, r0, [], [], none, none, none, none, rfl, P0, by omega, K0, er0, .nil, by decide, (fun e he => nomatch he), fun _ => rfl⟩ (fun j σ G _ z => ?_) (fun j x σ G hx z => ?_) (fun σ G z => ?_)⟩
    · obtain ⟨_, _, _, _, _, _, _, _, _, _, _, KG, _⟩ := z
      exact SqL.of (KG _ _ Rp eR)
    · clear P0 K0 er0 nr0
      obtain ⟨c', r, rs, Ws, v3, v4, v6, v7, rfl, P0, hc', KG, er, pb, lW, okS, tot⟩ := z
      have stH := KG.stay PA
      obtain ⟨e, he, nr⟩ := paired_at pR hx
      obtain ⟨t, b, rfl, e1, e2, e3⟩ := NumR.stay stH nr
      have em := List.mem_of_getElem? he
      obtain ⟨o1, o2, o3, o4⟩ := row e em
      have jl : j < EE.length := (List.getElem?_eq_some_iff.mp he).1
      have he' : (EE.map (ratE sc))[j]? = some (ratE sc e) := by rw [List.getElem?_map, he]; rfl
      have okE := okW (ratE sc e) (List.mem_of_getElem? he')
      refine ⟨t, _, rfl, .inl (.inl e1), rfl, _, _, rfl, _, _, rfl, rfl, ?_⟩
      have bp : b ≠ p := by
        obtain ⟨_, _, _, _, I⟩ := P0
        rcases e2 with q | q
        · exact ne_of q I.obj (by intro z; cases z)
        · exact ne_of q I.obj (by intro z; cases z)
      refine ⟨_, rfl, b, rfl, ?_⟩
      refine lc_ei2 (xs := e.2.map V.int) (fun D kk G' => ∃ (c2 : Int) (ps : List V) (ds : List PyData), PenAt G' p l c2 ∧ c2 ≤ c' + 3 * kk ∧ Keep p G G' ∧ G' D = some (.lst ps) ∧ Dm (upd G D (.lst [])) G' ∧ DaAll (mask (upd G D (.lst [])) G') ps ds ∧ Paired NumD ds ((ratE sc e).2.take kk)) ?_
        (fun D nD => ⟨c', [], [], P0.new nD, by omega, Keep.refl.new nD, upd_same, Dm.refl, .nil, .nil⟩) (fun D nD kk y G' hy q => ?_) (fun D nD G' q => ?_)
      · rcases e2 with q | q
        · exact .inl ⟨SqL.of q, fun D nD i H' z => by
            obtain ⟨_, _, _, _, _, KG, _⟩ := z
            exact SqL.of (KG b _ bp q)⟩
        · exact .inr ⟨SqT.of q, fun D nD i H' z => by
            obtain ⟨_, _, _, _, _, KG, _⟩ := z
            exact SqT.of (KG b _ bp q)⟩
      · obtain ⟨pD, lD⟩ := P0.ne nD
        have eD0 : (upd G D (.lst [])) D = some (.lst []) := upd_same
        obtain ⟨c2, ps, ds, P', hc2, KG2, eD, dm2, da2, pn⟩ := q
        rw [List.getElem?_map] at hy
        obtain ⟨z, hz, rfl⟩ := Option.map_eq_some_iff.mp hy
        have kl := (List.getElem?_eq_some_iff.mp hz).1
        have hz' : (ratE sc e).2[kk]? = some (lw z sc) := by
          show (e.2.map fun b => lw b sc)[kk]? = _
          rw [List.getElem?_map, hz]
          rfl
        have zb := o3 z (List.mem_of_getElem? hz)
        have lps : ps.length = kk := by
          have z1 := Paired.length pn
          rw [List.length_take] at z1
          have z2 := da2.length
          have z3 : (ratE sc e).2.length = e.2.length := by show (e.2.map fun b => lw b sc).length = _; rw [List.length_map]
          omega
        have KGG : Keep p H G' := KG.trans KG2
        refine ⟨rfl, ?_⟩
        refine ⟨_, rfl, _, rfl, _, rfl, d, _, rfl, dgs _ KGG, z, sc, rfl, s0, sm250 (by omega), sm250 (by omega), fun q nq => ?_⟩
        have P1 := P'.new nq (o := .tup [.int (lw z sc).1, .int (lw z sc).2])
        have K1 : Keep p G' (upd G' q (.tup [.int (lw z sc).1, .int (lw z sc).2])) := Keep.refl.new nq
        have eq1 : (upd G' q (.tup [.int (lw z sc).1, .int (lw z sc).2])) q = some (.tup [.int (lw z sc).1, .int (lw z sc).2]) := upd_same
        have qD : q ≠ D := fun h => by rw [h, eD] at nq; cases nq
        have okr := okE.2 (lw z sc) (List.mem_of_getElem? hz')
        generalize (upd G' q (.tup [.int (lw z sc).1, .int (lw z sc).2])) = G1 at P1 K1 eq1 ⊢
        refine ⟨p, l, q, c2, lw z sc, rfl, P1, by omega, eq1, mid_of (N := NN) (by decide) (by decide) okr (Nat.le_trans (lw_small (t := z) s0).1 (by omega)), fun v dv c3 G2 h1 h2 P2 K2 dd isr rat sm => ?_⟩
        have eD1 := K1 D _ pD.symm eD
        have eD2 := K2 D _ pD.symm eD1
        have st1 := K1.stay P'
        have st2 := K2.stay P1
        refine ⟨ps, eD2, by rw [lps, sizeLine_eq]; omega, c3, ps ++ [v], ds ++ [dv], P2.put pD lD, by omega, ?_, upd_same, ?_, ?_, ?_⟩
        · intro bb o nb ee
          rw [upd_ne (ne_of_none ee nD)]
          exact K2 bb o nb (K1 bb o nb (KG2 bb o nb ee))
        · exact ((dm2.trans (Dm.keep K1 P1)).trans (Dm.keep K2 P2)).trans Dm.upd
        · exact DaAll.snoc ((dd.stay (mask_le (dm2.trans (Dm.keep K1 P1)))).stay (mask_upd eD0)) ((da2.stay ((mask_stay st1).trans (mask_stay st2))).stay (mask_upd eD0))
        · rw [take_snoc hz']
          exact Paired.snoc pn ⟨isr, rat, sm⟩
      · obtain ⟨pD, lD⟩ := P0.ne nD
        obtain ⟨c2, ps, ds, P', hc2, KG2, eD, dm2, da2, pn⟩ := q
        have z3 : (ratE sc e).2.length = e.2.length := by show (e.2.map fun b => lw b sc).length = _; rw [List.length_map]
        rw [List.length_map, ← z3, List.take_length] at pn
        rw [List.length_map, o1] at hc2
        have st0 := KG2.stay P0
        have rp : r ≠ p := by
          obtain ⟨_, _, _, _, I⟩ := P0
          exact ne_of er I.obj (by intro z; cases z)
        replace er := KG2 r _ rp er
        replace pb := Paired.mapP pb fun _ _ h => BidV.stay st0 h
        replace KG := KG.trans KG2
        have da := da2.stay mask_sub
        clear da2 dm2 st0 KG2 P0 e1 e2 stH hx nr
        generalize hKK : (ratE sc e).2 = KK at pn okE
        have P := P'
        clear P'
        refine ⟨fun σ' G'' => ∃ (c3 : Int) (w' : Int) (r' : Addr) (rs' : List V) (Ws' : WS) (v7' : Option V), σ' = [some (.ref p), some (.ref d), some (.ref r'), some (.int w'), some (.ref b), none, some (.ref D), v7'] ∧ PenAt G'' p l c3 ∧ c3 ≤ c + 20 * j + 15 ∧ Keep p H G'' ∧ G'' r' = some (.lst rs') ∧ Paired (BidV G'' n) rs' Ws' ∧ Ws'.length ≤ 2 * j + 1 ∧ (∀ e ∈ Ws', okK' n NN e.2) ∧ (∀ K', total Ws' K' + (if KK = K' then w' else 0) = total ((EE.map (ratE sc)).take j) K' + (if KK = K' then e.1 else 0)) ∧ G'' D = some (.lst ps) ∧ DaAll G'' ps ds, ?_, ?_⟩
        · refine ⟨_, rfl, p, l, c2, 4, rfl, P, by decide, by decide, by omega, fun m G3 _ _ P3 K3 => ⟨rfl, _, rfl, ?_⟩⟩
          have st := K3.stay P
          replace KG := KG.trans K3
          replace er := stayL st er
          replace pb := Paired.mapP pb fun _ _ h => BidV.stay st h
          replace eD := stayL st eD
          replace da := da.stay st
          clear st K3 P
          have P := P3
          clear P3
          refine ite2 (fun _ => ?_) (fun _ => ?_)
          · refine ⟨_, rfl, p, l, _, 9, rfl, P, by decide, by decide, by omega, fun m2 G4 _ _ P4 K4 => ⟨_, _, rfl, rfl, ?_⟩⟩
            have st := K4.stay P
            replace KG := KG.trans K4
            replace er := stayL st er
            replace pb := Paired.mapP pb fun _ _ h => BidV.stay st h
            replace eD := stayL st eD
            replace da := da.stay st
            clear st K4 P
            have P := P4
            clear P4
            refine ⟨_, rfl, _, rfl, _, rfl, (by show 2 ≤ sizeLine; rw [sizeLine_eq]; decide), fun t2 nt2 => ?_⟩
            have st := GG.Same.new (L2.Same.refl G4) nt2 (o := .tup [.int (m2 - 4), .ref D])
            replace P := P.same st
            replace KG : Keep p H _ := fun b o nb e => st _ _ (KG b o nb e)
            replace er := st _ _ er
            replace pb := Paired.mapP pb fun _ _ h => BidV.stay (Same.stay st) h
            replace eD := st _ _ eD
            replace da := da.stay (Same.stay st)
            have et2 : (upd G4 t2 (.tup [.int (m2 - 4), .ref D])) t2 = some (.tup [.int (m2 - 4), .ref D]) := upd_same
            clear st nt2
            generalize (upd G4 t2 (.tup [.int (m2 - 4), .ref D])) = M1 at P KG er pb eD da et2 ⊢
            refine ⟨(by show 1 ≤ sizeLine; rw [sizeLine_eq]; decide), fun l2 nl2 => ?_⟩
            have st := GG.Same.new (L2.Same.refl M1) nl2 (o := .lst [.ref t2])
            replace P := P.same st
            replace KG : Keep p H _ := fun b o nb e => st _ _ (KG b o nb e)
            replace er := st _ _ er
            replace pb := Paired.mapP pb fun _ _ h => BidV.stay (Same.stay st) h
            replace eD := st _ _ eD
            replace da := da.stay (Same.stay st)
            replace et2 := st _ _ et2
            have el2 : (upd M1 l2 (.lst [.ref t2])) l2 = some (.lst [.ref t2]) := upd_same
            clear st nl2
            generalize (upd M1 l2 (.lst [.ref t2])) = M2 at P KG er pb eD da et2 el2 ⊢
            have lrs := Paired.length pb
            refine ⟨r, l2, _, _, rfl, rfl, er, el2, by rw [List.length_cons, List.length_nil, sizeLine_eq]; omega, fun r2 nr2 => ?_⟩
            have st := GG.Same.new (L2.Same.refl M2) nr2 (o := .lst (rs ++ [.ref t2]))
            replace P := P.same st
            replace KG : Keep p H _ := fun b o nb e => st _ _ (KG b o nb e)
            replace pb := Paired.mapP pb fun _ _ h => BidV.stay (Same.stay st) h
            replace eD := st _ _ eD
            replace da := da.stay (Same.stay st)
            replace et2 := st _ _ et2
            have er2 : (upd M2 r2 (.lst (rs ++ [.ref t2]))) r2 = some (.lst (rs ++ [.ref t2])) := upd_same
            clear st nr2
            generalize (upd M2 r2 (.lst (rs ++ [.ref t2]))) = M3 at P KG pb eD da et2 er2 ⊢
            have new : BidV _ n (.ref t2) (m2 - 4, KK) := ⟨.tuple [.int (m2 - 4), .list ds], .tup et2 (.cons (.int _) (.cons (.lst eD trivial da) .nil)), bid_ok rfl rfl pn n3 okE⟩
            refine ⟨_, rfl, _, rfl, _, _, rfl, rfl, ?_⟩
            refine ⟨_, e.1 - (m2 - 4), r2, rs ++ [.ref t2], Ws ++ [(m2 - 4, KK)], _, rfl, P, by omega, KG, er2, Paired.snoc pb new, by rw [List.length_append, List.length_cons, List.length_nil]; omega, fun x hx => ?_, fun K' => ?_, eD, da⟩
            · rcases List.mem_append.mp hx with q | q
              · exact okS x q
              · rw [List.mem_singleton.mp q]
                exact okE
            · rw [total_app, total_one, tot]
              dsimp only
              split <;> omega
          · exact ⟨_, e.1, r, rs, Ws, _, rfl, P, by omega, KG, er, pb, by omega, okS, fun K' => by rw [tot], eD, da⟩
        · clear er pb KG P eD da lW okS tot
          rintro σ' G5 ⟨c3, w', r', rs', Ws', v7', rfl, P, hc3, KG, er, pb, lW, okS, tot, eD, da⟩
          refine ⟨_, rfl, p, l, c3, 2, rfl, P, by decide, by decide, by omega, fun m G3 _ _ P3 K3 => ⟨rfl, _, rfl, ?_⟩⟩
          have st := K3.stay P
          replace KG := KG.trans K3
          replace er := stayL st er
          replace pb := Paired.mapP pb fun _ _ h => BidV.stay st h
          replace eD := stayL st eD
          replace da := da.stay st
          clear st K3 P
          have P := P3
          clear P3
          have lrs := Paired.length pb
          have tot2 : ∀ K', total ((EE.map (ratE sc)).take (j + 1)) K' = total ((EE.map (ratE sc)).take j) K' + (if KK = K' then e.1 else 0) := fun K' => by
            rw [take_snoc he', total_app, total_one, hKK]
            rfl
          refine ite2 (fun _ => ?_) (fun _ => ?_)
          · refine ⟨_, rfl, _, rfl, D, _, rfl, .inl ⟨SqL.of eD, fun tp ntp => ?_⟩⟩
            have st := GG.Same.new (L2.Same.refl G3) ntp (o := .tup ps)
            replace P := P.same st
            replace KG : Keep p H _ := fun b o nb e => st _ _ (KG b o nb e)
            replace er := st _ _ er
            replace pb := Paired.mapP pb fun _ _ h => BidV.stay (Same.stay st) h
            replace eD := st _ _ eD
            replace da := da.stay (Same.stay st)
            have etp : (upd G3 tp (.tup ps)) tp = some (.tup ps) := upd_same
            clear st ntp
            generalize (upd G3 tp (.tup ps)) = M4 at P KG er pb eD da etp ⊢
            refine ⟨(by show 2 ≤ sizeLine; rw [sizeLine_eq]; decide), fun t2 nt2 => ?_⟩
            have st := GG.Same.new (L2.Same.refl M4) nt2 (o := .tup [.int w', .ref tp])
            replace P := P.same st
            replace KG : Keep p H _ := fun b o nb e => st _ _ (KG b o nb e)
            replace er := st _ _ er
            replace pb := Paired.mapP pb fun _ _ h => BidV.stay (Same.stay st) h
            replace eD := st _ _ eD
            replace da := da.stay (Same.stay st)
            replace etp := st _ _ etp
            have et2 : (upd M4 t2 (.tup [.int w', .ref tp])) t2 = some (.tup [.int w', .ref tp]) := upd_same
            clear st nt2
            generalize (upd M4 t2 (.tup [.int w', .ref tp])) = M5 at P KG er pb eD da etp et2 ⊢
            refine ⟨(by show 1 ≤ sizeLine; rw [sizeLine_eq]; decide), fun l2 nl2 => ?_⟩
            have st := GG.Same.new (L2.Same.refl M5) nl2 (o := .lst [.ref t2])
            replace P := P.same st
            replace KG : Keep p H _ := fun b o nb e => st _ _ (KG b o nb e)
            replace er := st _ _ er
            replace pb := Paired.mapP pb fun _ _ h => BidV.stay (Same.stay st) h
            replace eD := st _ _ eD
            replace da := da.stay (Same.stay st)
            replace etp := st _ _ etp
            replace et2 := st _ _ et2
            have el2 : (upd M5 l2 (.lst [.ref t2])) l2 = some (.lst [.ref t2]) := upd_same
            clear st nl2
            generalize (upd M5 l2 (.lst [.ref t2])) = M6 at P KG er pb eD da etp et2 el2 ⊢
            refine ⟨_, rfl, l2, r', _, _, rfl, rfl, el2, er, by rw [List.length_cons, List.length_nil, sizeLine_eq]; omega, fun r2 nr2 => ?_⟩
            have st := GG.Same.new (L2.Same.refl M6) nr2 (o := (.lst ([.ref t2] ++ rs')))
            replace P := P.same st
            replace KG : Keep p H _ := fun b o nb e => st _ _ (KG b o nb e)
            replace pb := Paired.mapP pb fun _ _ h => BidV.stay (Same.stay st) h
            replace eD := st _ _ eD
            replace da := da.stay (Same.stay st)
            replace etp := st _ _ etp
            replace et2 := st _ _ et2
            have er2 : (upd M6 r2 ((.lst ([.ref t2] ++ rs')))) r2 = some ((.lst ([.ref t2] ++ rs'))) := upd_same
            clear st nr2
            generalize (upd M6 r2 ((.lst ([.ref t2] ++ rs')))) = M7 at P KG pb eD da etp et2 er2 ⊢
            have new : BidV _ n (.ref t2) (w', KK) := ⟨.tuple [.int w', .tuple ds], .tup et2 (.cons (.int _) (.cons (.tup etp da) .nil)), bid_ok rfl rfl pn n3 okE⟩
            refine ⟨_, r2, [.ref t2] ++ rs', [(w', KK)] ++ Ws', _, _, _, _, rfl, P, by omega, KG, er2, .cons new pb, by rw [List.length_append, List.length_cons, List.length_nil]; omega, fun x hx => ?_, fun K' => ?_⟩
            · rcases List.mem_append.mp hx with q | q
              · rw [List.mem_singleton.mp q]
                exact okE
              · exact okS x q
            · rw [total_app, total_one, tot2, ← tot]
              dsimp only
              omega
          · refine ⟨_, rfl, _, rfl, _, rfl, (by show 2 ≤ sizeLine; rw [sizeLine_eq]; decide), fun t2 nt2 => ?_⟩
            have st := GG.Same.new (L2.Same.refl G3) nt2 (o := (.lst [.int w', .ref D]))
            replace P := P.same st
            replace KG : Keep p H _ := fun b o nb e => st _ _ (KG b o nb e)
            replace er := st _ _ er
            replace pb := Paired.mapP pb fun _ _ h => BidV.stay (Same.stay st) h
            replace eD := st _ _ eD
            replace da := da.stay (Same.stay st)
            have et2 : (upd G3 t2 ((.lst [.int w', .ref D]))) t2 = some ((.lst [.int w', .ref D])) := upd_same
            clear st nt2
            generalize (upd G3 t2 ((.lst [.int w', .ref D]))) = M8 at P KG er pb eD da et2 ⊢
            refine ⟨(by show 1 ≤ sizeLine; rw [sizeLine_eq]; decide), fun l2 nl2 => ?_⟩
            have st := GG.Same.new (L2.Same.refl M8) nl2 (o := .lst [.ref t2])
            replace P := P.same st
            replace KG : Keep p H _ := fun b o nb e => st _ _ (KG b o nb e)
            replace er := st _ _ er
            replace pb := Paired.mapP pb fun _ _ h => BidV.stay (Same.stay st) h
            replace eD := st _ _ eD
            replace da := da.stay (Same.stay st)
            replace et2 := st _ _ et2
            have el2 : (upd M8 l2 (.lst [.ref t2])) l2 = some (.lst [.ref t2]) := upd_same
            clear st nl2
            generalize (upd M8 l2 (.lst [.ref t2])) = M9 at P KG er pb eD da et2 el2 ⊢
            refine ⟨r', l2, _, _, rfl, rfl, er, el2, by rw [List.length_cons, List.length_nil, sizeLine_eq]; omega, fun r2 nr2 => ?_⟩
            have st := GG.Same.new (L2.Same.refl M9) nr2 (o := (.lst (rs' ++ [.ref t2])))
            replace P := P.same st
            replace KG : Keep p H _ := fun b o nb e => st _ _ (KG b o nb e)
            replace pb := Paired.mapP pb fun _ _ h => BidV.stay (Same.stay st) h
            replace eD := st _ _ eD
            replace da := da.stay (Same.stay st)
            replace et2 := st _ _ et2
            have er2 : (upd M9 r2 ((.lst (rs' ++ [.ref t2])))) r2 = some ((.lst (rs' ++ [.ref t2]))) := upd_same
            clear st nr2
            generalize (upd M9 r2 ((.lst (rs' ++ [.ref t2])))) = M10 at P KG pb eD da et2 er2 ⊢
            have new : BidV _ n (.ref t2) (w', KK) := ⟨.list [.int w', .list ds], .lst et2 trivial (.cons (.int _) (.cons (.lst eD trivial da) .nil)), bid_ok rfl rfl pn n3 okE⟩
            refine ⟨_, r2, rs' ++ [.ref t2], Ws' ++ [(w', KK)], _, _, _, _, rfl, P, by omega, KG, er2, Paired.snoc pb new, by rw [List.length_append, List.length_cons, List.length_nil]; omega, fun x hx => ?_, fun K' => ?_⟩
            · rcases List.mem_append.mp hx with q | q
              · exact okS x q
              · rw [List.mem_singleton.mp q]
                exact okE
            · rw [total_app, total_one, tot2, ← tot]
    · obtain ⟨c', r, rs, Ws, v3, v4, v6, v7, rfl, P0, hc', KG, er, pb, lW, okS, tot⟩ := z
      have ly := Paired.length pR
      refine ⟨_, rfl, d, _, rfl, dgk _ KG, _, rfl, ?_⟩
      refine fun xb dxb nxb ndxb ne => init_bids rfl n1 n3 nxb ndxb ne rfl (.inl er) pb (by omega) okS fun G2 S2 BA => ⟨rfl, ?_⟩
      have nx : H xb = none := by
        cases q : H xb with
        | none => rfl
        | some o =>
          by_cases z : xb = p
          · obtain ⟨_, _, _, _, I⟩ := P0
            rw [z, I.obj] at nxb
            cases nxb
          · rw [KG xb o z q] at nxb
            cases nxb
      rw [plain_same okW okS (fun K' => by rw [tot, ly, ← List.length_map (f := ratE sc), List.take_length]), selfW] at BA
      exact k xb c' G2 nx BA (by omega) (P0.same S2) (fun b o nb e => S2 _ _ (KG b o nb e))
end
end GG


namespace GG
open PySem PySem.Spec PyProof.Rows L2
/-! ### merged rows and plain lists -/
def sumI (es : List (Int × List Int)) (k : List Int) : Int := (es.map fun e => if e.2 = k then e.1 else 0).sum
theorem getM_add (W : ML) (e : Int × List Int) (k : List Int) : (getM (addM W e) k).getD 0 = (getM W k).getD 0 + if e.2 = k then e.1 else 0 := by
  unfold addM
  split
  · rename_i q
    have hc : ∀ zz : Int, ((fun x : List Int × Int => decide (x.1 = k)) ∘ fun x => if x.1 = e.2 then (x.1, zz) else x) = fun x => decide (x.1 = k) := by
      intro zz
      funext x
      dsimp only [Function.comp]
      split <;> rfl
    have h1 : ∀ zz : Int, getM (W.map fun x => if x.1 = e.2 then (x.1, zz) else x) k = ((W.find? fun x => decide (x.1 = k)).map fun x => if x.1 = e.2 then (x.1, zz) else x).map (·.2) := by
      intro zz
      unfold getM
      rw [List.find?_map, hc zz]
    rw [h1]
    cases hf : W.find? fun x => decide (x.1 = k) with
    | none =>
      have hk : getM W k = none := by unfold getM; rw [hf]; rfl
      rw [hk]
      by_cases z : e.2 = k
      · exfalso
        rw [List.any_eq_true] at q
        obtain ⟨x, hx, hx2⟩ := q
        have := List.find?_eq_none.mp hf x hx
        rw [← z] at this
        exact this hx2
      · rw [if_neg z]
        rfl
    | some x =>
      have hx : x.1 = k := of_decide_eq_true (List.find?_some (p := fun x : List Int × Int => decide (x.1 = k)) hf)
      have hk : getM W k = some x.2 := by unfold getM; rw [hf]; rfl
      rw [hk]
      by_cases z : e.2 = k
      · rw [if_pos z]
        show (if x.1 = e.2 then (x.1, (getM W e.2).getD 0 + e.1) else x).2 = x.2 + e.1
        rw [if_pos (hx.trans z.symm), z, hk]
        rfl
      · rw [if_neg z]
        show (if x.1 = e.2 then (x.1, (getM W e.2).getD 0 + e.1) else x).2 = x.2 + 0
        rw [if_neg (fun h => z (h.symm.trans hx)), Int.add_zero]
  · rename_i q
    have app : getM (W ++ [(e.2, (getM W e.2).getD 0 + e.1)]) k = (getM W k).or (if e.2 = k then some ((getM W e.2).getD 0 + e.1) else none) := by
      generalize (getM W e.2).getD 0 + e.1 = z
      unfold getM
      rw [List.find?_append, Option.map_or]
      congr 1
      by_cases h : e.2 = k <;> simp [List.find?_cons, h]
    rw [app]
    by_cases z : e.2 = k
    · have none : getM W k = none := by
        unfold getM
        rw [show W.find? (fun x => decide (x.1 = k)) = none from List.find?_eq_none.mpr fun x hx h => q (by
          rw [List.any_eq_true]
          exact ⟨x, hx, by rw [z]; exact h⟩)]
        rfl
      rw [if_pos z, if_pos z, z, none]
      rfl
    · rw [if_neg z, if_neg z, Option.or_none, Int.add_zero]
theorem getM_of (es : List (Int × List Int)) (k : List Int) : (getM (mOf es) k).getD 0 = sumI es k := by
  have key : ∀ (es : List (Int × List Int)) (W : ML), (getM (es.foldl addM W) k).getD 0 = (getM W k).getD 0 + sumI es k := by
    intro es
    induction es with
    | nil => intro W; simp [sumI]
    | cons e es ih =>
      intro W
      rw [List.foldl_cons, ih, getM_add]
      unfold sumI
      rw [List.map_cons, List.sum_cons]
      omega
  have := key es []
  rw [show mOf es = es.foldl addM [] from rfl, this]
  simp [getM]
theorem mem_mOf (es : List (Int × List Int)) (k : List Int) : k ∈ (mOf es).map (·.1) ↔ k ∈ es.map (·.2) := by
  have one : ∀ (W : ML) (e : Int × List Int), k ∈ (addM W e).map (·.1) ↔ k ∈ W.map (·.1) ∨ k = e.2 := by
    intro W e
    unfold addM
    split
    · rename_i q
      rw [List.map_map, show ((fun x : List Int × Int => x.1) ∘ fun x => if x.1 = e.2 then (x.1, (getM W e.2).getD 0 + e.1) else x) = fun x => x.1 from by
        funext x
        dsimp only [Function.comp]
        split <;> rfl]
      refine ⟨.inl, fun h => h.elim id fun h => ?_⟩
      rw [List.any_eq_true] at q
      obtain ⟨x, hx, hx2⟩ := q
      rw [h]
      exact List.mem_map.mpr ⟨x, hx, of_decide_eq_true hx2⟩
    · rw [List.map_append, List.mem_append, List.map_cons, List.map_nil, List.mem_singleton]
  have key : ∀ (es : List (Int × List Int)) (W : ML), k ∈ (es.foldl addM W).map (·.1) ↔ k ∈ W.map (·.1) ∨ k ∈ es.map (·.2) := by
    intro es
    induction es with
    | nil => intro W; simp
    | cons e es ih =>
      intro W
      rw [List.foldl_cons, ih, one, List.map_cons, List.mem_cons]
      constructor
      · rintro ((h | h) | h)
        · exact .inl h
        · exact .inr (.inl h)
        · exact .inr (.inr h)
      · rintro (h | h | h)
        · exact .inl (.inl h)
        · exact .inl (.inr h)
        · exact .inr h
  have := key es []
  rw [show mOf es = es.foldl addM [] from rfl, this]
  simp
theorem sum_keys {g : List Int → Int} {k : List Int} : ∀ {L : List (List Int)}, L.Nodup → sumI (L.map fun x => (g x, x)) k = if k ∈ L then g k else 0
  | [], _ => rfl
  | a :: L, h => by
    obtain ⟨h1, h2⟩ := List.nodup_cons.mp h
    have ih := sum_keys (g := g) (k := k) h2
    unfold sumI at ih ⊢
    rw [List.map_cons, List.map_cons, List.sum_cons, ih]
    by_cases z : a = k
    · subst z
      rw [if_pos rfl, if_neg h1, if_pos List.mem_cons_self]
      omega
    · rw [if_neg z]
      by_cases q : k ∈ L
      · rw [if_pos q, if_pos (List.mem_cons_of_mem _ q)]
        omega
      · rw [if_neg q, if_neg (fun h => (List.mem_cons.mp h).elim (fun h => z h.symm) q)]
        omega
theorem map_lw_inj {sc : Int} (s0 : 0 < sc) : ∀ {k l : List Int}, (k.map fun z => lw z sc) = (l.map fun z => lw z sc) → k = l
  | [], [], _ => rfl
  | [], _ :: _, h => by cases h
  | _ :: _, [], h => by cases h
  | a :: k, b :: l, h => by
    rw [List.map_cons, List.map_cons] at h
    obtain ⟨h1, h2⟩ := List.cons.inj h
    rw [lw_inj s0 h1, map_lw_inj s0 h2]
theorem ratE_inj {sc : Int} (s0 : 0 < sc) {E F : List (Int × List Int)} (h : E.map (ratE sc) = F.map (ratE sc)) : E = F := by
  induction E generalizing F with
  | nil => cases F with
    | nil => rfl
    | cons _ _ => cases h
  | cons a E ih => cases F with
    | nil => cases h
    | cons b F =>
      rw [List.map_cons, List.map_cons] at h
      obtain ⟨h1, h2⟩ := List.cons.inj h
      have e1 := congrArg Prod.fst h1
      have e2 := map_lw_inj s0 (show (a.2.map fun z => lw z sc) = (b.2.map fun z => lw z sc) from congrArg Prod.snd h1)
      rw [ih h2, show a = b from Prod.ext e1 e2]
theorem total_rat {sc : Int} (s0 : 0 < sc) (es : List (Int × List Int)) (k : List Int) : total (es.map (ratE sc)) (k.map fun z => lw z sc) = sumI es k := by
  unfold total sumI
  rw [List.map_map]
  congr 1
  refine List.map_congr_left fun e _ => ?_
  show (if (e.2.map fun b => lw b sc) = (k.map fun z => lw z sc) then e.1 else 0) = if e.2 = k then e.1 else 0
  by_cases z : e.2 = k
  · rw [if_pos z, if_pos (by rw [z])]
  · rw [if_neg z, if_neg (fun h => z (map_lw_inj s0 h))]
theorem rows_sum (es : List (Int × List Int)) (k : List Int) (pos : (k.any fun z => decide (0 < z)) = true) : sumI (rowsM (mOf es)) k = sumI es k := by
  have nd : ((keysM (mOf es)).filter (keepM (mOf es))).Nodup := by
    refine List.filter_sublist.nodup ?_
    unfold keysM
    exact (List.mergeSort_perm _ _).nodup_iff.mpr (mOf_nodup es)
  unfold rowsM
  rw [sum_keys (g := fun k => (getM (mOf es) k).getD 0) nd, getM_of]
  by_cases q : k ∈ (keysM (mOf es)).filter (keepM (mOf es))
  · rw [if_pos q]
  · rw [if_neg q]
    by_cases m : k ∈ (mOf es).map (·.1)
    · have hk : keepM (mOf es) k = false := by
        cases h : keepM (mOf es) k with
        | false => rfl
        | true =>
          exfalso
          apply q
          refine List.mem_filter.mpr ⟨?_, h⟩
          unfold keysM
          exact List.mem_mergeSort.mpr m
      unfold keepM at hk
      rw [pos, Bool.and_true, getM_of] at hk
      have := of_decide_eq_false hk
      omega
    · have nk : k ∉ es.map (·.2) := fun h => m ((mem_mOf es k).mpr h)
      unfold sumI
      clear q m nd
      induction es with
      | nil => rfl
      | cons e es ih =>
        rw [List.map_cons] at nk ⊢
        have h1 : ¬ e.2 = k := fun h => nk (by rw [← h]; exact List.mem_cons_self)
        rw [if_neg h1, List.sum_cons, ← ih fun h => nk (List.mem_cons_of_mem _ h)]
        rfl
/-- what such rows may be -/
def rowV (n : Nat) (top : Int) (b : Nat) (e : Int × List Int) : Prop := e.2.length = n ∧ e.1.natAbs ≤ b ∧ ∀ z ∈ e.2, 0 ≤ z ∧ z ≤ top
theorem ratV_ok {n b : Nat} {top sc : Int} {es : List (Int × List Int)} (s0 : 0 < sc) (sN : sc.natAbs ∣ NN) (t1 : top ≤ 1000000) (row : ∀ e ∈ es, rowV n top b e) : ∀ e ∈ es.map (ratE sc), okK' n NN e.2 := by
  intro x hx
  obtain ⟨e, he, rfl⟩ := List.mem_map.mp hx
  obtain ⟨r1, r2, r3⟩ := row e he
  refine ⟨by show (e.2.map fun b => lw b sc).length = n; rw [List.length_map, r1], fun r hr => ?_⟩
  obtain ⟨z, hz, rfl⟩ := List.mem_map.mp (show r ∈ e.2.map fun b => lw b sc from hr)
  have := r3 z hz
  exact okR_lw this.1 (by omega) s0 sN
theorem rowW_V {n b : Nat} {top : Int} {e : Int × List Int} (h : rowW n top b e) : rowV n top b e := ⟨h.1, h.2.1, h.2.2.1⟩
/-- merged rows of the law are the plain list -/
theorem plain_merged {n b : Nat} {top sc : Int} {es : List (Int × List Int)} (s0 : 0 < sc) (sN : sc.natAbs ∣ NN) (t1 : top ≤ 1000000) (row : ∀ e ∈ es, rowW n top b e) : plainL n (ofWs (es.map (ratE sc))) = (rowsM (mOf es)).map (ratE sc) := by
  obtain ⟨ok, self⟩ := plain_self s0 sN t1 (rowsM_srt es) (rowsM_w (W := mOf es)) (rowsM_ok row)
  have ok' := ratV_ok s0 sN t1 fun e he => rowW_V (row e he)
  rw [← self, law_plain (N := NN) (by decide) ok ok' fun K hK => ?_, first_plain ok]
  by_cases q : ∃ k, (k.map fun z => lw z sc) = K ∧ k ∈ es.map (·.2)
  · obtain ⟨k, rfl, hk⟩ := q
    obtain ⟨e, he, rfl⟩ := List.mem_map.mp hk
    rw [total_rat s0, total_rat s0, rows_sum]
    rw [List.any_eq_true]
    obtain ⟨z, hz, z0⟩ := (row e he).2.2.2
    exact ⟨z, hz, decide_eq_true z0⟩
  · have n1 : K ∉ (es.map (ratE sc)).map (·.2) := fun h => by
      rw [List.map_map] at h
      obtain ⟨e, he, z⟩ := List.mem_map.mp h
      exact q ⟨e.2, z, List.mem_map.mpr ⟨e, he, rfl⟩⟩
    have n2 : K ∉ ((rowsM (mOf es)).map (ratE sc)).map (·.2) := fun h => by
      rw [List.map_map] at h
      obtain ⟨e, he, z⟩ := List.mem_map.mp h
      refine q ⟨e.2, z, (mem_mOf es e.2).mp ?_⟩
      have hm : e.2 ∈ (rowsM (mOf es)).map (·.2) := List.mem_map.mpr ⟨e, he, rfl⟩
      rw [rowsM_keys] at hm
      have := (List.mem_filter.mp hm).1
      unfold keysM at this
      exact List.mem_mergeSort.mp this
    rw [total_none n1, total_none n2]
theorem merged_ple {n b : Nat} {top sc : Int} {es : List (Int × List Int)} (n1 : 1 ≤ n) (n3 : n ≤ 3) (s0 : 0 < sc) (s1 : sc ≤ 10) (sN : sc.natAbs ∣ NN) (t1 : top ≤ 1000000) (l30 : es.length ≤ 30) (bb : b * es.length ≤ 100000) (row : ∀ e ∈ es, rowW n top b e) : PlE n sc (rowsM (mOf es)) :=
  ⟨n1, n3, s0, s1, sN, Nat.le_trans (Nat.le_trans (rowsM_len _) (mOf_len es)) l30, fun e he => by
    obtain ⟨r1, r2, r3, r4⟩ := rowsM_ok row e he
    exact ⟨r1, Nat.le_trans r2 bb, fun z hz => ⟨(r3 z hz).1, by have := (r3 z hz).2; omega⟩, r4⟩, rowsM_srt es, rowsM_w (W := mOf es)⟩
end GG


namespace GG
open PySem PySem.Spec PyProof.Rows L2
/-! ### == with any value -/
theorem eqv_dRs : ∀ K L : RK, PyData.eqvAll (K.map dR) (L.map dR) = decide (K = L)
  | [], [] => by simp [PyData.eqvAll]
  | [], _ :: _ => by simp [PyData.eqvAll]
  | _ :: _, [] => by simp [PyData.eqvAll]
  | a :: K, b :: L => by
    simp only [List.map_cons, PyData.eqvAll, eqv_dRs K L, dR, PyData.eqv, Bool.and_true]
    by_cases h1 : a.1 = b.1
    · by_cases h2 : a.2 = b.2
      · have : a = b := Prod.ext h1 h2
        simp [this]
      · have : ¬ a = b := fun z => h2 (by rw [z])
        simp [this, h1, h2]
    · have : ¬ a = b := fun z => h1 (by rw [z])
      simp [this, h1]
theorem eqv_rows : ∀ es fs : WS, PyData.eqvAll (es.map rowD) (fs.map rowD) = decide (es = fs)
  | [], [] => by simp [PyData.eqvAll]
  | [], _ :: _ => by simp [PyData.eqvAll]
  | _ :: _, [] => by simp [PyData.eqvAll]
  | a :: es, b :: fs => by
    simp only [List.map_cons, PyData.eqvAll, eqv_rows es fs, rowD, PyData.eqv, eqv_dRs, Bool.and_true]
    by_cases h1 : a.1 = b.1
    · by_cases h2 : a.2 = b.2
      · have : a = b := Prod.ext h1 h2
        simp [this]
      · have : ¬ a = b := fun z => h2 (by rw [z])
        simp [this, h1, h2]
    · have : ¬ a = b := fun z => h1 (by rw [z])
      simp [this, h1]
theorem eqv_tup (es fs : WS) : PyData.eqv (.tuple (es.map rowD)) (.tuple (fs.map rowD)) = decide (es = fs) := by
  simp only [PyData.eqv, eqv_rows]
def rEqP (C : Addr) (sp : Sp) (E : XK) : R2 := fun x y H Q => ∃ a dx fs, x = .ref a ∧ H a = some (.ins C dx fs) ∧ ((∃ i, y = .int i) ∨ (∃ c xs, y = .ref c ∧ H c = some (.tup xs)) ∨ ∃ c dy gs, y = .ref c ∧ H c = some (.ins C dy gs)) ∧ sp [.ref a, y] H (fun v H' => ∃ b, v = .bl b ∧ Q v H') E
section
variable {X : Cx} {k : Nat} {CX : CXT} {C f : Addr} {fd : FuncData} {ps : List Str} {sp : Sp} {E : XK}
theorem own_bool (G : FnOk X.prog X.w X.K X.mg X.base CX k f fd ps sp) (bE : Binds X.K fd ps []) (pE : Passes CX X E) (hr : Room k X.A) {pins : List (Addr × Obj)} {σ : L2.St} {H : Hp} {s : Shared} (I : Inv X pins σ H s) {vs : List V} {us : List Value} (rv : Vals vs us) {Q : VK}
    (h : sp vs H (fun v H' => ∃ b, v = .bl b ∧ Q v H') E) : wpAny (model X.prog X.w) X.A (call (.ref f) us) (PySem.W.CmpBack (EP X pins σ Q)) X.xe s := by
  have hl := G.len _ _ _ _ h
  have bb := bE s us I.kIn (by rw [List.append_nil, ← rv.length]; exact hl)
  refine wpAny_call (codeAny_mono (G.run X.A X.stack s H ⟨us, []⟩ us vs _ E hr I.env0 (by simpa using bb) rv h) fun r s' hq => ?_)
  match r, hq with
  | .error e, hq => exact pE pins σ H s e s' I hq
  | .ok (.ret z), hq =>
    obtain ⟨z', H', I', rz, p, ez, qz⟩ := I.after hq
    subst ez
    cases rz
    exact ⟨.bl p, H', I', rfl, qz⟩
  | .ok .next, hq => exact hq.elim
  | .ok .brk, hq => exact hq.elim
  | .ok .cont, hq => exact hq.elim
theorem op_eqP (G : FnOk X.prog X.w X.K X.mg X.base CX k f fd ps sp) (iE : PySem.W.findIn X.K (.ref C) "__eq__" = some (some (.ref f))) (nE : PySem.W.isFn X.K (.ref f) = true) (si : PySem.W.subIn X.K (.type "int") (.ref C) = some false) (st : PySem.W.subIn X.K (.type "tuple") (.ref C) = some false)
    (bE : Binds X.K fd ps []) (pE : Passes CX X E) (hr : Room k X.A) : OpR X (compareOp .Eq) (rEqP C sp E) := by
  intro pins s σ H x y v u Q I rx ry h
  obtain ⟨a, dx, fs, rfl, ha, hy, q⟩ := h
  cases rx
  obtain ⟨m1, J1, _⟩ := ins_get I.hok ha
  obtain ⟨d1, J1, _⟩ := J1.look
  obtain ⟨mm, hF⟩ := I.fr
  rcases hy with ⟨i, rfl⟩ | ⟨c, xs, rfl, hc⟩ | ⟨c, dy, gs, rfl, hc⟩
  · obtain ⟨t, rfl⟩ := ry
    have rv : Vals [V.ref a, V.int i] [Value.ref a, Value.int i t] := .cons rfl (.cons ⟨t, rfl⟩ .nil)
    exact PySem.W.cmp_K (op := .Eq) (tb := .type "int") hr.units0 hF I.ok.mod.kin J1 (.of_pure rfl) (by unfold PySem.W.notFirst; rw [si]; simp) iE nE (own_bool G bE pE hr I rv q)
  · cases ry
    obtain ⟨its, r, ⟨ob, ho, hcl, _⟩, hs⟩ := Inv.tuple I (SqT.of hc)
    have rv : Vals [V.ref a, V.ref c] [Value.ref a, Value.ref c] := .cons rfl (.cons rfl .nil)
    exact PySem.W.cmp_K (op := .Eq) (tb := .type "tuple") hr.units0 hF I.ok.mod.kin J1 (fun A Q E s' k' q' => wpAny_typeOf ⟨ob, k' _ _ ho, hcl⟩ q') (by unfold PySem.W.notFirst; rw [st]; simp) iE nE (own_bool G bE pE hr I rv q)
  · cases ry
    obtain ⟨m2, J2, _⟩ := ins_get I.hok hc
    obtain ⟨d2, J2, _⟩ := J2.look
    have rv : Vals [V.ref a, V.ref c] [Value.ref a, Value.ref c] := .cons rfl (.cons rfl .nil)
    exact PySem.W.cmp_K (op := .Eq) (tb := .ref C) hr.units0 hF I.ok.mod.kin J1 J2.type (by simp [PySem.W.notFirst]) iE nE (own_bool G bE pE hr I rv q)
end
/-- what the class is not -/
structure NotC (K : PySem.W.Frag) (C : Addr) : Prop where
  int : PySem.W.kitOne K (.type "int") (.ref C) = some false
  tup : PySem.W.kitOne K (.type "tuple") (.ref C) = some false
  si : PySem.W.subIn K (.type "int") (.ref C) = some false
  st : PySem.W.subIn K (.type "tuple") (.ref C) = some false
def spEqV (C : Addr) : Sp := fun vs H Q _ => ∃ (a : Addr) (y : V), vs = [.ref a, y] ∧ ((∃ c n m es fs, y = .ref c ∧ BidsR C H a n es ∧ BidsR C H c m fs ∧ Q (.bl (decide (n = m) && decide (es = fs))) H) ∨ (∃ n es d, BidsR C H a n es ∧ Da H y d ∧ (tyD d = "int" ∨ tyD d = "tuple") ∧ Q (.bl false) H))
section
variable {P : Program} {w : World} {K : PySem.W.Frag} {mg : Str → Option Value} {base : Heap}
theorem eq_any {C fE : Addr} {fd : FuncData} (T : RTxt K mg) (m : mg "Bids" = some (.ref C)) (cl : Cls K C) (n1 : NoAttr K C "kinds") (n2 : NoAttr K C "rows") (ic : InC K C) (nc : NotC K C) (U : Fun K "__eq__" "Bids.__eq__" sEq fE fd) : FnOk P w K mg base CX0 1 fE fd ["self", "other"] (spEqV C) := by
  refine U.ok scEq (fun vs H Q E h => ?_) (fun cdv A outer s H vs Q E hr h => ?_)
  · obtain ⟨a, b, rfl, _⟩ := h
    rfl
  · obtain ⟨a, y, rfl, h⟩ := h
    have hu64 : (A.deeper (envOfC "Bids.__eq__" (defScope sEq) s.heap.objs.size fE cdv)).units + 64 < cLine := by have := hr.un; omega
    refine ⟨_, pss_one (ps_ret (pe_and (pe_callB call_isi (by rfl) T.isi bIsi (pa_cons (pv 1) (pa_cons (pe_glob (v := .ref C) rfl m rfl) pa_nil)))
      (pe_and (pe_cmpR op_eq (pe_fld (pv 0) rfl) (pe_fld (pv 1) rfl) (nomark _)) (pe_one (pe_cmpR (op_eqD hu64) (pe_fld (pv 0) rfl) (pe_fld (pv 1) rfl) (nomark _)))))), ?_⟩
    rcases h with ⟨c, n, n', es, fs, rfl, ⟨dxa, fsa, pa', ea, ka, ra, da⟩, ⟨dxb, fsb, pb, eb, kb, rb, db⟩, k⟩ | ⟨n, es, d, ⟨dxa, fsa, pa', ea, ka, ra, da⟩, dy, ty, k⟩
    · refine ⟨_, rfl, .ref c, .ref C, .ref C, .ref C, true, rfl, .own C, .base (.ins eb cl ic.ha ic.hn ic.htk ic.hm), ic.kit, _, rfl, iteT ?_⟩
      refine ⟨_, rfl, a, C, dxa, fsa, _, rfl, ea, cl, n1, ka, _, rfl, c, C, dxb, fsb, _, rfl, eb, cl, n1, kb, rfl, _, rfl, ?_⟩
      by_cases z : n = n'
      · rw [decide_eq_true (show V.int (n : Int) = V.int (n' : Int) by rw [z])]
        refine iteT ?_
        obtain ⟨s1, d1⟩ := rows_sh es
        obtain ⟨s2, d2⟩ := rows_sh fs
        refine ⟨_, rfl, a, C, dxa, fsa, _, rfl, ea, cl, n2, ra, _, rfl, c, C, dxb, fsb, _, rfl, eb, cl, n2, rb, _, _, da.dp d1, db.dp d2, s1, s2, ?_⟩
        rw [eqv_tup]
        rw [decide_eq_true z, Bool.true_and] at k
        exact k
      · rw [decide_eq_false (show ¬ V.int (n : Int) = V.int (n' : Int) from fun q => z (by have := V.int.inj q; omega))]
        rw [decide_eq_false z, Bool.false_and] at k
        exact iteF k
    · have kf : PySem.W.kitOne K (.type (tyD d)) (.ref C) = some false := by
        rcases ty with q | q
        · rw [q]
          exact nc.int
        · rw [q]
          exact nc.tup
      refine ⟨_, rfl, y, .ref C, .type (tyD d), .ref C, false, rfl, .own C, dy.ty, kf, _, rfl, iteF k⟩
end
def spSum : Sp := fun vs H Q _ => ∃ (d R d' R' : Addr) (ys ys' : List V) (E E' : List (Int × List Int)) (n n' : Nat) (sc sc' : Int), vs = [.ref d, .ref d'] ∧ H d = some (dictB n sc R) ∧ H R = some (.lst ys) ∧ Paired (NumR H) ys E ∧ H d' = some (dictB n' sc' R') ∧ H R' = some (.lst ys') ∧ Paired (NumR H) ys' E' ∧ (∀ e ∈ E ++ E', e.2.length = n) ∧ E.length + E'.length ≤ 60 ∧
  ∀ (x R2 : Addr) (zs : List V) (H' : Hp), H x = none → H' x = some (dictB n sc R2) → H' R2 = some (.lst zs) → Paired (NumT H') zs (rowsM (mOf (E ++ E'))) → Same H H' → Q (.ref x) H'
section
variable {P : Program} {w : World} {K : PySem.W.Frag} {mg : Str → Option Value} {base : Heap}
theorem dg_rows {K : PySem.W.Frag} {H : Hp} {d R : Addr} {n : Nat} {sc : Int} (e : H d = some (dictB n sc R)) : DGet H d (.str "rows") (some (.ref R)) := .inl ⟨_, .inr "rows", .inl e, rfl, by kernel_rfl⟩
theorem dg_scale {K : PySem.W.Frag} {H : Hp} {d R : Addr} {n : Nat} {sc : Int} (e : H d = some (dictB n sc R)) : DGet H d (.str "scale") (some (.int sc)) := .inl ⟨_, .inr "scale", .inl e, rfl, by kernel_rfl⟩
theorem dg_kinds {K : PySem.W.Frag} {H : Hp} {d R : Addr} {n : Nat} {sc : Int} (e : H d = some (dictB n sc R)) : DGet H d (.str "kinds") (some (.int (n : Int))) := .inl ⟨_, .inr "kinds", .inl e, rfl, by kernel_rfl⟩
end
end GG


namespace GG
open PySem PySem.Spec PyProof.Rows L2
/-! ### several except clauses, each «as» one name -/
/-- what they wish of an exception, clause by clause -/
def wAsMany (K : PySem.W.Frag) (m i : Nat) (Wout : WX) (D : Ends) : List (Value × (Addr → Value → Option Addr → TS)) → WX
  | [] => Wout
  | (c, ts) :: r => fun cls d σ H => ∃ b, PySem.W.exmOne K cls c = some b ∧
      (b = true → σ.length = m → ∀ a, H a = none → ts a cls d { nx := fun σ' H' => D.nx (σ'.set i none) H', rt := fun v H' => D.rt v H', bk := fun σ' H' => D.bk (σ'.set i none) H', ct := fun σ' H' => D.ct (σ'.set i none) H' } (σ.set i (some (.ref a))) H) ∧
      (b = false → wAsMany K m i Wout D r cls d σ H)
inductive AsOk (X : Cx) (n : Str) : List ExceptHandler → List (Value × (Addr → Value → Option Addr → TS)) → Prop
  | nil : AsOk X n [] []
  | cons {x : Str} {c : Value} {ts : Addr → Value → Option Addr → TS} {b0 : Stmt} {suite : List Stmt} {np hp : Pos} {hds : List ExceptHandler} {l : List (Value × (Addr → Value → Option Addr → TS))} (hc : Names X x c)
      (su : ∀ (a : Addr) (oe : Obj) (cls : Value) (d : Option Addr) (pn : List (Addr × Obj)), Zc cls d oe → (∃ vs, oe.data = .fields vs) → PSs (X.suite a ((a, oe) :: pn)) (b0 :: suite) (ts a cls d)) (r : AsOk X n hds l) :
      AsOk X n (.ExceptHandler (some (.Name x np)) (some n) (b0 :: suite) hp :: hds) ((c, ts) :: l)
section
variable {X : Cx} {body : List Stmt} {hd0 : ExceptHandler} {hds : List ExceptHandler} {l : List (Value × (Addr → Value → Option Addr → TS))} {pos : Pos} {tb : WX → TS} {Wout : WX} {n : Str} {i : Nat}
theorem ps_try_asMany (stk : X.stack = X.env :: X.outer) (own : X.env.frame = some X.env.locals) (nd : X.N.Nodup) (at' : X.N[i]? = some n) (lcl : X.env.kindOf n = some .local) (tk : Takes X Wout)
    (bd : ∀ (W : WX) (pn : List (Addr × Obj)) (xe : Value → Shared → Prop), Takes (X.tr pn xe) W → PassesOwn (model X.prog X.w) X.A X.env xe → PSs (X.tr pn xe) body (tb W))
    (all : AsOk X n (hd0 :: hds) l) : PS X (.Try body (hd0 :: hds) [] [] pos) (fun D σ H => tb (wAsMany X.K X.N.length i Wout D l) D σ H) := by
  refine ⟨fun pins s σ H D I want => ?_⟩
  have good := I.ok
  have frm : X.A.frames = some (X.env :: X.outer) := good.frames.trans (congrArg some stk)
  refine wpAny_Try_except ?_
  let catcher : Value → Shared → Prop := fun e s₁ => wpAny (model X.prog X.w) X.A (noteFrame e X.env) (fun _ s₂ => wpAny (model X.prog X.w) X.A (setFlight e none) (fun _ s₃ => wpAny (model X.prog X.w) X.A (handleBy e X.env (hd0 :: hds)) (SP X pins D) X.xe s₃) X.xe s₂) X.xe s₁
  have caught : Takes (X.tr (X.pn ++ pins) catcher) (wAsMany X.K X.N.length i Wout D l) := by
    rintro u s' ⟨a, B, sI, pins', σ', H', cls, d, rfl, Jt, bareN, up, sky, na, os, ag, wish⟩
    have J : Inv X pins σ' H' sI := Jt.ofTry good
    have sky' : Sky B (X.env :: X.outer) a (Zc cls d) X.env.locals s'.heap := stk ▸ sky
    show wpAny (model X.prog X.w) X.A (noteFrame (.ref a) X.env) _ _ _
    refine Sky.land Zc.steady frm own sky' fun hp3 fly up3 => ?_
    have J3 : Inv X pins σ' H' { s' with heap := hp3 } := J.landed bareN fly.1 (up.trans up3) os ag
    obtain ⟨oe, vs, get, zc, dat⟩ := fly.there
    have outF : a ∉ frs (X.env :: X.outer) := fun m => by
      obtain ⟨_, o2, g2, nf⟩ := fly.2.2.1.mem m
      cases get.symm.trans g2
      exact nf _ dat
    have nL : a ≠ X.env.locals := fun z => outF (List.mem_filterMap.mpr ⟨X.env, List.mem_cons_self, own.trans (congrArg some z.symm)⟩)
    have nF : a ∉ X.fs := fun m => outF (by
      obtain ⟨e, me, q⟩ := List.mem_filterMap.mp m
      exact List.mem_filterMap.mpr ⟨e, List.mem_cons_of_mem _ me, q⟩)
    have S3 := J3.suite get dat na nL nF
    have clauses : ∀ {hs' : List ExceptHandler} {l' : List (Value × (Addr → Value → Option Addr → TS))}, AsOk X n hs' l' → wAsMany X.K X.N.length i Wout D l' cls d σ' H' → wpAny (model X.prog X.w) X.A (handleBy (.ref a) X.env hs') (SP X pins D) X.xe { s' with heap := hp3 } := by
      intro hs' l' ok
      induction ok with
      | nil =>
        intro wish
        refine wpAny_handleBy_nil ?_
        obtain ⟨_, _, _, oe', vs', Tb, _, _, get', _, dat', one, _⟩ := id fly
        unfold PySem.passOn
        refine wpAny_bind (wpAny_field get' dat' one ?_)
        rw [if_neg (fun z => by simp at z)]
        have out : wpAny (model X.prog X.w) X.A (setFlight (.ref a) X.env.frame) (fun _ s4 => wpAny (model X.prog X.w) X.A (throw (.ref a) : Sem Flow) (SP X pins D) X.xe s4) X.xe { s' with heap := hp3 } := by
          rw [own]
          exact HandSPX.setFlight_upZ fly fun hp4 fl4 up4 => wpAny_throw (tk _ _ ⟨a, B, sI, pins, σ', H', cls, d, rfl, J, bareN, (up.trans up3).trans up4, .inr (.inr (stk ▸ fl4)), na, os, ag, wish⟩)
        first
          | exact wpAny_bind (wpAny_pure (wpAny_bind out))
          | exact wpAny_bind out
      | @cons x c ts b0 suite np hp hds2 l2 hc su r ih =>
        rintro ⟨b, test, yes, no⟩
        refine wpAny_handleBy_cons (codeAny_handlers_test ?_) (by intro z; cases z)
        have LT : PySem.W.Looks (model X.prog X.w) hp3 (typeOf (.ref a)) cls := fun _ _ _ _ k q => wpAny_typeOf_ref (k _ _ get) (by rw [zc.1]; exact q)
        have LM := PySem.W.exm_one (M := model X.prog X.w) J3.kIn LT test
        have name : ∀ {Q : Value → Shared → Prop} {E : Value → Shared → Prop}, Q c { s' with heap := hp3 } → wpAny (model X.prog X.w) (X.A.mark (some (.ref a))) (eval (.Name x np) X.env) Q E { s' with heap := hp3 } := fun {Q E} q => by
          obtain ⟨g1, g2, g3 | ⟨g3, g4, g5⟩⟩ := hc
          · exact ld_glob (X := X.suite a ((a, oe) :: (X.pn ++ pins))) S3 g1 g3 q g2
          · exact ld_blt (X := X.suite a ((a, oe) :: (X.pn ++ pins))) S3 g1 g3 g4 q g5 g2
        refine name (LM.here ?_)
        cases b with
        | false =>
          show wpAny _ X.A (handleBy (.ref a) X.env hds2) _ _ _
          exact ih (no rfl)
        | true =>
          refine codeAny_handlers_suite_as ?_
          refine HandSPX.lands_againZ fly fun hp4 fly4 up4 => ?_
          have J4 : Inv X pins σ' H' { s' with heap := hp4 } := J.landed bareN fly4.1 ((up.trans up3).trans up4) os ag
          obtain ⟨oe4, vs4, get4, zc4, dat4⟩ := fly4.there
          have S4 := J4.suite get4 dat4 na nL nF
          refine store_ok (X := X.suite a ((a, oe4) :: (X.pn ++ pins))) (v := .ref a) S4 nd at' (.inl lcl) rfl (fun s5 S5 => ?_) (.inr lcl)
          refine wpAny_mono ((su a oe4 cls d (X.pn ++ pins) zc4 ⟨_, dat4⟩).run [] s5 _ H' _ S5 (yes rfl J.len a na)) (fun fl s6 res => ?_) (fun _ _ z => z.elim)
          have behind : ∀ {σ6 : L2.St} {H6 : Hp} {R : Shared → Prop}, Inv (X.suite a ((a, oe4) :: (X.pn ++ pins))) [] σ6 H6 s6 → (∀ s7, Inv X pins (σ6.set i none) H6 s7 → R s7) →
              wpAny (model X.prog X.w) X.A (do bindName X.env n .none; unbindBehindTheSuite X.env n hp) (fun _ s7 => R s7) X.xe s6 := fun S6 q => gone_ok (S6.unsuite good) nd at' lcl q
          cases fl with
          | next =>
            obtain ⟨σ6, H6, S6, q⟩ := res
            exact behind S6 fun s7 J7 => ⟨_, _, J7, q⟩
          | brk =>
            obtain ⟨σ6, H6, S6, q⟩ := res
            exact behind S6 fun s7 J7 => ⟨_, _, J7, q⟩
          | cont =>
            obtain ⟨σ6, H6, S6, q⟩ := res
            exact behind S6 fun s7 J7 => ⟨_, _, J7, q⟩
          | ret u =>
            obtain ⟨v6, σ6, H6, S6, rv, q⟩ := res
            exact behind S6 fun s7 J7 => ⟨_, _, _, J7, rv, q⟩
    exact clauses all wish
  refine wpAny_mono ((bd _ (X.pn ++ pins) catcher caught PassesOwn.looking).run [] s σ H D (I.toTry _) want) (fun fl s1 res => ?_) (fun _ _ z => z)
  cases fl with
  | next =>
    obtain ⟨σ', H', J', q⟩ := res
    exact wpAny_execs_nil ⟨σ', H', J'.ofTry good, q⟩
  | brk =>
    obtain ⟨σ', H', J', q⟩ := res
    exact ⟨σ', H', J'.ofTry good, q⟩
  | cont =>
    obtain ⟨σ', H', J', q⟩ := res
    exact ⟨σ', H', J'.ofTry good, q⟩
  | ret u =>
    obtain ⟨v, σ', H', J', rv, q⟩ := res
    exact ⟨v, σ', H', J'.ofTry good, rv, q⟩
end
end GG

namespace GG
open PySem PySem.Spec PyProof.Rows L2
theorem pss_false {X : Cx} {b : List Stmt} : PSs X b (fun _ _ _ => False) := ⟨fun _ _ _ _ _ _ h => h.elim⟩
theorem XfC.of {K : PySem.W.Frag} {C : Addr} (T : ExT K C) : XfC K C := ⟨T.ga, T.gg, T.ox.exC, T.hd⟩
end GG
namespace GG
open PySem PySem.Spec PyProof.Rows L2 LamX
/-! ### the end of a law that makes lambdas -/
section
variable {P : Program} {w : World} {K : PySem.W.Frag} {mg mb : Str → Option Value} {k : Nat} {fa a c T : Addr} {fd : FuncData} {x : Str} {sp : Sp} {s1 : Shared} {vs : List Value} {ns : List Int}
noncomputable def startT (K : PySem.W.Frag) (T a : Addr) (vs : List Value) (ns : List Int) : Hp := fun b => if b = T then some (.tbl #[]) else startH K a vs ns b
theorem startT_same : startT K T a vs ns T = some (.tbl #[]) := if_pos rfl
theorem startT_ne {b : Addr} (n : b ≠ T) : startT K T a vs ns b = startH K a vs ns b := if_neg n
theorem lawGT (KX : K.In s1.heap) (hns : s1.heap.Ns mainGlobals mg) (hb : s1.heap.Ns builtinsNs mb) (hbb : ∀ x : Str, x ≠ "__name__" → mb x = bootBuiltins x) (hlim : s1.heap.NoLimit) (hg : s1.gens = #[])
    (tab : s1.heap.get? T = some { cls := .none, data := .fields #[] }) (noK : K.lookup T = none) (code : PySem.W.CodeHd s1.heap c T)
    (blt : ∃ (bm : Addr) (ob : Obj), mg "__builtins__" = some (.ref bm) ∧ bm ≠ builtinsNs ∧ s1.heap.get? bm = some ob ∧ ob.cls = .type "module" ∧ ob.dict = some builtinsNs ∧ ob.data = .plain)
    (ha : s1.heap.get? a = some { cls := .type "list", data := .seq vs.toArray }) (hi : IntsAre vs ns) (hl : ns.length ≤ sizeLine) (hr : Room k callerA)
    (F : ∀ base : Heap, K.In base → base.Ns mainGlobals mg → TabB base mg c T → FnG P w K mg base k fa fd [x] sp) (hbind : ∀ (s : Shared) (u : Value), BindsTo s fd ⟨[u], []⟩ [(x, u)])
    (hsp : ∀ H : Hp, H T = some (.tbl #[]) → SqL K H a (ns.map V.int) → sp [.ref a] H (fun v _ => v = .bl true) fun _ _ _ => False) :
    codeAny (model P w) callerA (.call (.ref fa) ⟨[.ref a], []⟩) (fun r s' => r = .ok (.ret (.bool true)) ∧ OldK s1.heap s'.heap ∧ s'.os = s1.os ∧ AllBare s'.gens) s1 := by
  have rv := vals_ints hi
  have aT : a ≠ T := fun z => by
    rw [z, tab] at ha
    cases ha
  let H : Hp := startT K T a vs ns
  have what : ∀ {b : Addr} {u : HO}, H b = some u → (b = T ∧ u = .tbl #[]) ∨ (b = a ∧ K.lookup a = none ∧ u = .frz { cls := .type "list", data := .seq vs.toArray } (.lst (ns.map V.int))) := fun {b u} e => by
    by_cases z : b = T
    · subst z
      exact .inl ⟨rfl, (Option.some.inj ((show some (.tbl #[]) = H b from startT_same.symm).trans e)).symm⟩
    · exact .inr (startH_some ((startT_ne z).symm.trans e))
  have held : HOk P w H s1.heap := fun b u e => by
    rcases what e with ⟨q1, q2⟩ | ⟨q1, _, q2⟩
    · subst q1 q2
      exact tab
    · subst q1 q2
      exact ⟨ha, by rw [List.length_map]; exact hl, vs, _, rv, ha⟩
  have untracked : ∀ {b : Addr} {o : Obj}, s1.heap.get? b = some o → (∀ z n, o.data ≠ .seq z n) → o.data ≠ .fields #[] → H b = none := fun {b o} e h1 h2 => by
    cases q : H b with
    | none => rfl
    | some u =>
      exfalso
      rcases what q with ⟨q1, _⟩ | ⟨q1, _, _⟩
      · subst q1
        cases e.symm.trans tab
        exact h2 rfl
      · subst q1
        cases e.symm.trans ha
        exact h1 _ _ rfl
  have dictFree : ∀ {b : Addr} {o : Obj} {es : Array DictEntry} {ep : Nat}, s1.heap.get? b = some o → o.data = .dict es ep → H b = none := fun e d => untracked e (fun _ _ z => by rw [d] at z; cases z) (fun z => by rw [d] at z; cases z)
  have stays : ∀ {b : Addr} {m : Str → Option Value}, s1.heap.Ns b m → (hidT s1.heap H).Ns b m := fun {b m} ⟨o, es, ep, e, d, r⟩ => ⟨o, es, ep, hidT_get e (dictFree e d), d, r⟩
  have KB : K.In (hidT s1.heap H) := fun b o e => hidT_get (KX b o e) (by
    cases q : H b with
    | none => rfl
    | some u =>
      exfalso
      rcases what q with ⟨q1, _⟩ | ⟨q1, q2, _⟩
      · subst q1
        cases e.symm.trans noK
      · subst q1
        cases e.symm.trans q2)
  have M : L2.Mod K mg (hidT s1.heap H) := ⟨KB, stays hns, ⟨mb, stays hb, hbb⟩, hlim.elim fun mc q => ⟨mc, stays q.1, q.2⟩⟩
  have TB : TabB (hidT s1.heap H) mg c T := by
    refine ⟨?_, ?_, fun z => ?_⟩
    · obtain ⟨o, us, f1, f2, f3, f4, f5, f6, f7, e1, r1, r2, r3, rest⟩ := code
      refine ⟨o, us, f1, f2, f3, f4, f5, f6, f7, hidT_get e1 (untracked e1 (fun _ _ z => by rw [r2] at z; cases z) (fun z => ?_)), r1, r2, r3, rest⟩
      rw [r2] at z
      cases z
      simp at r3
    · obtain ⟨bm, ob, b1, b2, b3, b4, b5, b6⟩ := blt
      refine ⟨bm, ob, b1, b2, fun q => ?_, fun q => ?_, hidT_get b3 (untracked b3 (fun _ _ z => by rw [b6] at z; cases z) (fun z => by rw [b6] at z; cases z)), b4, b5, b6⟩
      · obtain ⟨o, es, ep, e, d, _⟩ := hns
        rw [q] at b3
        cases e.symm.trans b3
        rw [d] at b6
        cases b6
      · rw [q] at b3
        cases tab.symm.trans b3
        cases b6
    · obtain ⟨o, es, ep, e, d, _⟩ := hns
      rw [z] at e
      cases tab.symm.trans e
      cases d
  have env : Env0 P w K mg (hidT s1.heap H) callerA [] s1 H := ⟨rfl, M, fun b o e => of_hidT e, Nat.le_of_eq (hidT_size _ _), trivial, (fun b z => absurd (show b ∈ ([] : List Addr) from z) List.not_mem_nil), held, .of_eq hg⟩
  have script : SqL K H a (ns.map V.int) := by
    cases q : K.lookup a with
    | none => exact .inl (.inr ⟨_, (startT_ne aT).trans (if_pos ⟨rfl, q⟩)⟩)
    | some o =>
      cases (KX a o q).symm.trans ha
      exact .inr ⟨_, vs.toArray, _, q, rfl, rfl, rfl, by rw [List.size_toArray, hi.length]; exact hl, by simpa using rv⟩
  refine codeAny_mono ((F _ KB (stays hns) TB).go callerA [] s1 H ⟨[.ref a], []⟩ [.ref a] [.ref a] _ _ rfl hr env (hbind s1 (.ref a)) (.cons rfl .nil) (hsp H startT_same script)) fun r s' res => ?_
  cases r with
  | error e => exact (show False from res).elim
  | ok fl =>
    cases fl with
    | next => exact (show False from res).elim
    | brk => exact (show False from res).elim
    | cont => exact (show False from res).elim
    | ret u =>
      obtain ⟨v, H', os, bare, un, ok', rr, q⟩ := res
      obtain rfl : v = .bl true := q
      cases (show u = Value.bool true from rr)
      have key : ∀ b o, b ≠ T → s1.heap.get? b = some o → s'.heap.get? b = some o := fun b o n e => by
        cases z : H b with
        | none => exact un.keep b o e z (fun m => absurd (show b ∈ ([] : List Addr) from m) List.not_mem_nil) (fun m => absurd (show b ∈ ([] : List Addr) from m) List.not_mem_nil)
        | some t =>
          rcases what z with ⟨q1, _⟩ | ⟨q1, _, q2⟩
          · exact absurd q1 n
          · subst q2
            have z2 := un.frzs b _ _ z
            have e1 := (held b _ z).1
            rw [e] at e1
            cases e1
            exact (ok' b _ z2).1
      obtain ⟨more, grown⟩ : ∃ more : Array Value, s'.heap.get? T = some { cls := .none, data := .fields more } := by
        obtain ⟨more, z⟩ := un.tbls T #[] startT_same
        exact ⟨_, ok' T _ z⟩
      refine ⟨rfl, ⟨fun b o e => ?_, fun b o e => ?_⟩, os, bare⟩
      · by_cases z : b = T
        · subst z
          cases tab.symm.trans e
          exact .inr (.inl ⟨(code.tab tab).isCodeTable, rfl, #[], more, rfl, by rw [Array.empty_append]; exact grown⟩)
        · exact .inl (key b o z e)
      · by_cases z : b = T
        · subst z
          exact ⟨_, grown⟩
        · exact ⟨o, key b o z e⟩
end
theorem walkGT {l : PySem.W.OpenLaw} {n k : Nat} {q : Program} {loose : List Str} {XP : (Str → Option Value) → Heap → Prop} {YP : World → Heap → Prop} {d : DefRec} {K : Params → PySem.W.Frag} {sp : World → Addr → Sp} {x : Str}
    (hn : l.most = some n) (small : n ≤ sizeLine) (dflt : d.params.defaults = []) (room : Room k callerA) (recd : ∃ d', (recsOf q).find? (fun e => e.name == d.name) = some d') (inY : ∀ (w : World) (h : Heap), YP w h → (K w.params).In h)
    (F : ∀ (w : World) (mg : Str → Option Value) (fa : Addr) (h : Heap), (K w.params).In h → h.Ns mainGlobals mg → mg d.name = some (.ref fa) →
      ∃ (fd : FuncData) (c T : Addr), PySem.W.tabIn (K w.params) d.name = some (c, T) ∧ (K w.params).lookup T = none ∧ (∀ (s : Shared) (u : Value), BindsTo s fd ⟨[u], []⟩ [(x, u)]) ∧
        ∀ base : Heap, (K w.params).In base → base.Ns mainGlobals mg → TabB base mg c T → FnG l.prog w (K w.params) mg base k fa fd [x] (sp w T))
    (start : ∀ (w : World) (H : Hp) (a T : Addr) (ns : List Int), ns.length ≤ n → (∀ z ∈ ns, Builtin.Int.intBits z ≤ 1048576) → H T = some (.tbl #[]) → SqL (K w.params) H a (ns.map V.int) → sp w T [.ref a] H (fun v _ => v = .bl true) fun _ _ _ => False) :
    PySem.W.WalkO q loose XP YP l.row.toRowW d [] (fun f vs => PySem.call f vs) := by
  refine Att.attach_callB hn dflt ?_
  intro w s0 s1 mg mb fa o pm cd doc a vs ns G Y _ _ _ named obj hi len bits gens
  obtain ⟨fd, c, T, ti, noK, bound, fns⟩ := F w mg fa _ (inY w _ Y) G.T.g named
  obtain ⟨d', hd'⟩ := recd
  obtain ⟨code, tab⟩ := PySem.W.tab_of G.T (inY w _ Y) hd' ti
  exact lawGT (inY w _ Y) G.T.g G.T.b G.T.builtins G.T.nolimit gens tab noK code G.T.bmain obj hi (Nat.le_trans len small) room fns bound fun H tb sq => start w H a T ns len bits tb sq
end GG

namespace GG
open PySem PySem.Spec PyProof.Rows L2 LamX
section
variable {P : Program} {w : World} {K : PySem.W.Frag} {mg : Str → Option Value} {base : Heap}
/-- as fnG, its code object told -/
theorem fnGC {x qual : Str} {st : Stmt} {f : Addr} {N ps : List Str} {k : Nat} {sp : Sp} {oc kV doc pm cdv ct : Value} {an od : Option Addr} {osl : Array (Option Value)}
    (look : K.lookup f = some ⟨oc, od, .func (PySem.W.fnOf x qual (defArgs st) (defBody st) (defScope st) .none kV doc pm an cdv ct), osl⟩) (code : PySem.W.codeIn K cdv qual = true) (S : FnScope N ps (defScope st)) (cnt : ∀ vs H Q E, sp vs H Q E → vs.length = ps.length)
    (body : ∀ (A : Around) (out : List Env) (s : Shared) (H : Hp) (vs : List V) (Q : VK) (E : XK), A.guards = some [] → Room k (A.deeper (envOfC qual (defScope st) s.heap.objs.size f cdv)) → sp vs H Q E →
      ∃ t, PSs (cxOf L2.CX0 P w K mg base N qual (defScope st) f cdv A out s H E).nox (defBody st) t ∧ t { nx := fun _ H' => Q .non H', rt := Q } (L2.start N vs) H) :
    FnG P w K mg base (k + 1) f (PySem.W.fnOf x qual (defArgs st) (defBody st) (defScope st) .none kV doc pm an cdv ct) ps sp := by
  refine ⟨cnt, ?_⟩
  intro A out s H args us vs Q E noG room env bnd rel prom
  have many := cnt _ _ _ _ prom
  have inK : K.In s.heap := env.mod.kin.keeps fun b o q => (env.bs b o q).1
  have free : s.heap.NoLimit := env.mod.nolimit.keeps fun b o q => (env.bs b o q).1
  have kinds : ∀ y ∈ ps.zip us, (defScope st).names.lookup y.1 = some .local ∨ ((defScope st).names.lookup y.1 = some .cell ∧ ((cellsFrom (s.heap.objs.size + 1) (defScope st).names []).lookup y.1).isSome = true) := by
    rintro ⟨n, v⟩ my
    cases S.par n (List.of_mem_zip my).1 with
    | inl q => exact .inl q
    | inr q => exact .inr ⟨q, PySem.W.cellsFrom_some _ _ _ (.inl q)⟩
  refine codeAny_call_function room.depth (inK _ _ look) rfl S.co S.gen rfl (PySem.W.codeRec_of inK code) (bnd _ _ _ _ ?_)
  refine wpAny_newFunctionEnv_cells S.kind kinds fun env' he s1 inC => ?_
  subst he
  refine ⟨free.keeps inC.toInCall.keep, codeAny_func ?_⟩
  obtain ⟨t, ht, start0⟩ := body A out s H vs Q E noG (room.deeper _) prom
  have J := inv_start (E := E) (CX := L2.CX0) S room.hd env many rel inC
  refine wpAny_mono (ht.nox.run [] s1 (L2.start N vs) H _ J start0) (fun fl s' res => ?_) (fun _ _ q => q)
  cases fl with
  | ret u =>
    obtain ⟨v, σ', H', J', rv, q⟩ := res
    exact ⟨v, H', J'.os, J'.bare, J'.base, J'.hok, rv, q⟩
  | next =>
    obtain ⟨σ', H', J', q⟩ := res
    exact ⟨.non, H', J'.os, J'.bare, J'.base, J'.hok, rfl, q⟩
  | brk => exact (res.choose_spec.choose_spec.2 : False).elim
  | cont => exact (res.choose_spec.choose_spec.2 : False).elim
end
mutual
theorem Da.ext {H H' : Hp} (k : ExtN H H') : ∀ {v : V} {d : PyData}, Da H v d → Da H' v d
  | _, _, .non => .non
  | _, _, .bl b => .bl b
  | _, _, .int i => .int i
  | _, _, .str x => .str x
  | _, _, .lst e n t => .lst (k _ _ e (fun _ z => by cases z)) n (t.ext k)
  | _, _, .tup e t => .tup (k _ _ e (fun _ z => by cases z)) (t.ext k)
  | _, _, .dic e t => .dic (k _ _ e (fun _ z => by cases z)) (t.ext k)
theorem DaAll.ext {H H' : Hp} (k : ExtN H H') : ∀ {vs : List V} {ds : List PyData}, DaAll H vs ds → DaAll H' vs ds
  | _, _, .nil => .nil
  | _, _, .cons h t => .cons (h.ext k) (t.ext k)
end
theorem PenAt.ext {H H' : Hp} {p l : Addr} {c : Int} (k : ExtN H H') (h : PenAt H p l c) : PenAt H' p l c := by
  obtain ⟨ns, a, d, f, I⟩ := h
  exact ⟨ns, a, d, f, k _ _ I.obj (fun _ z => by cases z), k _ _ I.cel (fun _ z => by cases z), I.len, I.a0, I.d0, I.c0, I.f0, I.f1⟩
theorem Tabs.keep {T : List (Addr × Str)} {H H' : Hp} {p l : Addr} {c : Int} (t : Tabs T H) (k : Keep p H H') (P : PenAt H p l c) : Tabs T H' := fun z hz => by
  obtain ⟨ns, a, d, f, I⟩ := P
  obtain ⟨ps, e, ok, all⟩ := t z hz
  have n : z.1 ≠ p := fun q => by
    rw [q, I.obj] at e
    cases e
  refine ⟨ps, k _ _ n e, ok, fun pos cv hc => ?_⟩
  obtain ⟨c', rfl, ec⟩ := all pos cv hc
  have n2 : c' ≠ p := fun q => by
    rw [q, I.obj] at ec
    unfold CodeO at ec
    cases ec
  exact ⟨c', rfl, k _ _ n2 ec⟩
theorem Tabs.same {T : List (Addr × Str)} {H H' : Hp} (t : Tabs T H) (k : Same H H') : Tabs T H' := t.ext k
end GG


namespace GG
open PySem PySem.Spec PyProof.Rows L2 RZ
/-! ### two fors in one comprehension, over tuples -/
theorem lc2_tup {K : PySem.W.Frag} {a : Addr} {xs : List V} {g g1 : TG} {tt tt1 : TT} {wi1 : TI} {te : TE} {vs vs1 : List Nat} {σ : L2.St} {H1 : Hp} {D : Addr} {Qd : Hp → Prop} (Pv : Nat → Hp → Prop) (h0 : Pv 0 (upd H1 D (.lst []))) (hl : ∀ i H, i ≤ xs.length → Pv i H → SqT K H a xs)
    (hs : ∀ i x H, xs[i]? = some x → Pv i H → g x (wipe σ vs) H fun s2 H2 => wipe s2 vs = wipe σ vs ∧ tt s2 H2 fun b H3 =>
      if b = true then wi1 s2 H3 fun J1 H4 => ∃ W1 : Nat → Nat → Hp → Prop, (∃ m, W1 0 m H4) ∧ ∀ j k H, W1 j k H →
        (J1.stop j H ∧ Pv (i + 1) H) ∨ (J1.go j H ∧ ∃ Nx1 : Hp → Prop, (∀ H', Nx1 H' → ∃ k', k' < k ∧ W1 (j + 1) k' H') ∧ ∀ x H', J1.yld j H x H' → g1 x (wipe s2 vs1) H' fun s3 H5 => wipe s3 vs1 = wipe s2 vs1 ∧ tt1 s3 H5 fun b H6 =>
          if b = true then te s3 H6 fun y H7 => ∃ acc, H7 D = some (.lst acc) ∧ acc.length < sizeLine ∧ Nx1 (upd H7 D (.lst (acc ++ [y]))) else Nx1 H6)
      else Pv (i + 1) H3) (hd : ∀ H, Pv xs.length H → Qd H) :
    ∃ W : Nat → Nat → Hp → Prop, (∃ m, W 0 m (upd H1 D (.lst []))) ∧ ∀ i m H, W i m H →
      ((Itt K a).stop i H ∧ Qd H) ∨ ((Itt K a).go i H ∧ ∃ Nx : Hp → Prop, (∀ H', Nx H' → ∃ m', m' < m ∧ W (i + 1) m' H') ∧ ∀ x H', (Itt K a).yld i H x H' → g x (wipe σ vs) H' fun s2 H2 => wipe s2 vs = wipe σ vs ∧ tt s2 H2 fun b H3 =>
        if b = true then wi1 s2 H3 fun J1 H4 => ∃ W1 : Nat → Nat → Hp → Prop, (∃ m, W1 0 m H4) ∧ ∀ j k H, W1 j k H →
          (J1.stop j H ∧ Nx H) ∨ (J1.go j H ∧ ∃ Nx1 : Hp → Prop, (∀ H', Nx1 H' → ∃ k', k' < k ∧ W1 (j + 1) k' H') ∧ ∀ x H', J1.yld j H x H' → g1 x (wipe s2 vs1) H' fun s3 H5 => wipe s3 vs1 = wipe s2 vs1 ∧ tt1 s3 H5 fun b H6 =>
            if b = true then te s3 H6 fun y H7 => ∃ acc, H7 D = some (.lst acc) ∧ acc.length < sizeLine ∧ Nx1 (upd H7 D (.lst (acc ++ [y]))) else Nx1 H6)
        else Nx H3) := by
  refine ⟨fun i m H => m = xs.length - i ∧ i ≤ xs.length ∧ Pv i H, ⟨xs.length, by simp, Nat.zero_le _, h0⟩, ?_⟩
  rintro i m H ⟨rfl, hi, p⟩
  have q := hl i H hi p
  by_cases hlt : i < xs.length
  · refine .inr ⟨⟨xs, xs[i], q, by simp [hlt]⟩, Pv (i + 1), fun H' p' => ⟨xs.length - (i + 1), by omega, rfl, hlt, p'⟩, fun x H' y => ?_⟩
    obtain ⟨e, y⟩ := y
    subst e
    exact hs i x _ (y xs q) p
  · have e : i = xs.length := by omega
    subst e
    exact .inl ⟨⟨xs, q, Nat.le_refl _⟩, hd H p⟩
theorem in_tup {K : PySem.W.Frag} {a : Addr} {xs : List V} {g1 : TG} {tt1 : TT} {te : TE} {vs1 : List Nat} {σw : L2.St} {H4 : Hp} {D : Addr} {Nx : Hp → Prop} (Pv : Nat → Hp → Prop) (h0 : Pv 0 H4) (hl : ∀ i H, i ≤ xs.length → Pv i H → SqT K H a xs)
    (hs : ∀ j x H, xs[j]? = some x → Pv j H → g1 x (wipe σw vs1) H fun s3 H5 => wipe s3 vs1 = wipe σw vs1 ∧ tt1 s3 H5 fun b H6 =>
      if b = true then te s3 H6 fun y H7 => ∃ acc, H7 D = some (.lst acc) ∧ acc.length < sizeLine ∧ Pv (j + 1) (upd H7 D (.lst (acc ++ [y]))) else Pv (j + 1) H6) (hd : ∀ H, Pv xs.length H → Nx H) :
    ∃ W1 : Nat → Nat → Hp → Prop, (∃ m, W1 0 m H4) ∧ ∀ j k H, W1 j k H →
      ((Itt K a).stop j H ∧ Nx H) ∨ ((Itt K a).go j H ∧ ∃ Nx1 : Hp → Prop, (∀ H', Nx1 H' → ∃ k', k' < k ∧ W1 (j + 1) k' H') ∧ ∀ x H', (Itt K a).yld j H x H' → g1 x (wipe σw vs1) H' fun s3 H5 => wipe s3 vs1 = wipe σw vs1 ∧ tt1 s3 H5 fun b H6 =>
        if b = true then te s3 H6 fun y H7 => ∃ acc, H7 D = some (.lst acc) ∧ acc.length < sizeLine ∧ Nx1 (upd H7 D (.lst (acc ++ [y]))) else Nx1 H6) := by
  refine ⟨fun i m H => m = xs.length - i ∧ i ≤ xs.length ∧ Pv i H, ⟨xs.length, by simp, Nat.zero_le _, h0⟩, ?_⟩
  rintro i m H ⟨rfl, hi, p⟩
  have q := hl i H hi p
  by_cases hlt : i < xs.length
  · refine .inr ⟨⟨xs, xs[i], q, by simp [hlt]⟩, Pv (i + 1), fun H' p' => ⟨xs.length - (i + 1), by omega, rfl, hlt, p'⟩, fun x H' y => ?_⟩
    obtain ⟨e, y⟩ := y
    subst e
    exact hs i x _ (y xs q) p
  · have e : i = xs.length := by omega
    subst e
    exact .inl ⟨⟨xs, q, Nat.le_refl _⟩, hd H p⟩
/-! ### numbers of a list on one scale -/
abbrev sScaledRow : Stmt := topS 23
abbrev sRatiosOf : Stmt := topS 25
abbrev sScaledBids : Stmt := topS 26
theorem rats_of {H : Hp} : ∀ {xs : List V} {K : RK}, DaAll H xs (K.map dR) → Paired (RatV H) xs K := by
  intro xs K
  induction K generalizing xs with
  | nil => intro h; cases h; exact .nil
  | cons r K ih =>
    intro h
    rw [List.map_cons] at h
    cases h with
    | cons a t =>
      refine .cons ?_ (ih t)
      generalize hd : dR r = dd at a
      cases a with
      | tup e all =>
        cases hd
        cases all with
        | cons h1 t1 =>
          cases h1
          cases t1 with
          | cons h2 t2 =>
            cases h2
            cases t2
            exact ⟨_, rfl, e⟩
      | _ => cases hd
theorem RatV.same {H H' : Hp} (k : Same H H') {v : V} {r : Int × Int} (h : RatV H v r) : RatV H' v r := by
  obtain ⟨q, rfl, e⟩ := h
  exact ⟨q, rfl, k _ _ e⟩
def small60 (r : Int × Int) : Prop := 0 < r.2 ∧ r.2.natAbs < 2 ^ 60 ∧ r.1.natAbs < 2 ^ 120
def spScaledRow : Sp := fun vs H Q _ => ∃ (q : Addr) (xs : List V) (K : RK) (b : Int), vs = [.ref q, .int b] ∧ H q = some (.tup xs) ∧ Paired (RatV H) xs K ∧ K.length ≤ 1000 ∧ (∀ r ∈ K, small60 r) ∧ 0 ≤ b ∧ b.natAbs < 2 ^ 60 ∧
  ∀ (p : Addr) (H' : Hp), H' p = some (.tup ((K.map (sc1 b)).map V.int)) → Same H H' → Q (.ref p) H'
def spRatiosOf (C : Addr) : Sp := fun vs H Q _ => ∃ (x : Addr) (n : Nat) (es : WS), vs = [.ref x] ∧ BidsR C H x n es ∧ es.length ≤ 60 ∧ (∀ e ∈ es, e.2.length ≤ 3) ∧
  ∀ (D : Addr) (ys : List V) (H' : Hp), H' D = some (.lst ys) → Paired (RatV H') ys (es.flatMap (·.2)) → Same H H' → Q (.ref D) H'
section
variable {P : Program} {w : World} {K : PySem.W.Frag} {mg : Str → Option Value} {base : Heap}
abbrev NSr : List Str := ["row", "bottom", "ratio"]
theorem scScaledRow : FnScope NSr ["row", "bottom"] (defScope sScaledRow) := ⟨rfl, rfl, rfl, by decide +kernel, rfl, by decide +kernel, by decide +kernel⟩
theorem kn_scaledRow (D : DefIs K mg "scaled_row" sScaledRow) (T : RTxt K mg) (BS : Kn P w K mg base "scaled" 1 ["ratio", "bottom"] spScaled) : Kn P w K mg base "scaled_row" 2 ["row", "bottom"] spScaledRow := by
  refine .of D (fun _ _ _ _ _ _ us hl => match us, hl with | [_, _], _ => rfl) fun fa _ F => ?_
  refine F.ok scScaledRow (fun vs H Q E h => ?_) (fun cdv A outer s H vs Q E hr h => ?_)
  · obtain ⟨q, xs, Ks, b, rfl, _⟩ := h
    rfl
  · obtain ⟨q, xs, Ks, b, rfl, eq, pr, ln, ok, b0, b1, k⟩ := h
    refine ⟨_, pss_one (ps_ret (pe_callTy call_tuple_of (by rfl) T.tuple bTuple (pa_cons (pe_lc (own := [("ratio", 2)]) (g := gName 2) (tt := tYes) (te := tCall spScaled [] (fun _ _ _ => False) (tCons (tVar 2) (tCons (tVar 1) tNil))) rfl scScaledRow.nd (pi_tup (pv 0)) (blkOk_by (N := NSr) (sc := defScope sScaledRow) (by decide +kernel))
        (fun _ _ _ _ _ => pg_name (i := 2) scScaledRow.nd rfl (.inl rfl)) (fun _ _ _ _ _ => pts_nil) (fun _ _ _ _ _ => pe_kn BS hr (pa_cons (pv 2) (pa_cons (pv 1) pa_nil)))) pa_nil))), ?_⟩
    refine ⟨_, rfl, q, rfl, ⟨_, SqT.of eq⟩, fun D0 nD => ?_⟩
    have lx := Paired.length pr
    refine lc_tup (xs := xs) (fun i G => Same H G ∧ G D0 = some (.lst (((Ks.take i).map (sc1 b)).map V.int))) ⟨GG.Same.new (L2.Same.refl H) nD, upd_same⟩ (fun i G _ p => SqT.of (p.1 _ _ eq)) (fun i y G hy p => ?_) (fun G p => ?_)
    · obtain ⟨S, eD⟩ := p
      obtain ⟨r, hr', rv⟩ := paired_at pr hy
      obtain ⟨u, rfl, eu⟩ := rv
      obtain ⟨o1, o2, o3⟩ := ok r (List.mem_of_getElem? hr')
      have il := (List.getElem?_eq_some_iff.mp hr').1
      refine ⟨rfl, ?_⟩
      refine ⟨_, rfl, _, rfl, u, r, b, rfl, S _ _ eu, o1, Nat.lt_of_lt_of_le o2 (Nat.pow_le_pow_right (by decide) (by decide)), o3, b0, b1, ?_⟩
      refine ⟨_, eD, by rw [List.length_map, List.length_map, List.length_take, sizeLine_eq]; omega, ?_, ?_⟩
      · intro c o ec
        rw [upd_ne (ne_of_none ec nD)]
        exact S c o ec
      · rw [upd_same, take_snoc hr', List.map_append, List.map_append]
        rfl
    · obtain ⟨S, eD⟩ := p
      rw [lx, List.take_length] at eD
      refine ⟨D0, _, rfl, .inl ⟨SqL.of eD, fun l nl => ?_⟩⟩
      exact k l _ upd_same (L2.Same.trans S (GG.Same.new (L2.Same.refl G) nl))
abbrev NRo : List Str := ["bids", "_", "numbers", "number"]
theorem scRatiosOf : FnScope NRo ["bids"] (defScope sRatiosOf) := ⟨rfl, rfl, rfl, by decide +kernel, rfl, by decide +kernel, by decide +kernel⟩
theorem kn_ratiosOf {C : Addr} (D : DefIs K mg "ratios_of" sRatiosOf) (BC : BCl K C) : Kn P w K mg base "ratios_of" 1 ["bids"] (spRatiosOf C) := by
  refine .of D (fun _ _ _ _ _ _ us hl => match us, hl with | [_], _ => rfl) fun fa _ F => ?_
  refine F.ok scRatiosOf (fun vs H Q E h => ?_) (fun cdv A outer s H vs Q E hr h => ?_)
  · obtain ⟨x, n, es, rfl, _⟩ := h
    rfl
  · obtain ⟨x, n, es, rfl, bx, l60, l3, k⟩ := h
    obtain ⟨dx, fs, p, xs, ex, f1, f2, ep, all⟩ := BidsR.rows (C := C) bx
    refine ⟨_, pss_one (ps_ret (pe_lc2 (own := [("_", 1), ("numbers", 2), ("number", 3)]) (vs1 := [3]) (g := gTup K 2 (gCons (gName 1) (gCons (gName 2) gNil))) (tt := tYes) (wi1 := iTup K (tVar 2)) (g1 := gName 3) (tt1 := tYes) (te := tVar 3) rfl scRatiosOf.nd (pi_tup (pe_fld (pv 0) rfl)) (blkOk_by (N := NRo) (sc := defScope sRatiosOf) (by decide +kernel)) (by decide)
        (fun _ _ _ _ _ => pg_tup rfl (pgs_cons (pg_name (i := 1) scRatiosOf.nd rfl (.inl rfl)) (pgs_cons (pg_name (i := 2) scRatiosOf.nd rfl (.inl rfl)) pgs_nil))) (fun _ _ _ _ _ => pts_nil) (fun _ _ _ _ _ => pi_tup (pv 2)) (fun _ _ _ _ _ => pg_name (i := 3) scRatiosOf.nd rfl (.inl rfl)) (fun _ _ _ _ _ => pts_nil) (fun _ _ _ _ _ => pv 3))), ?_⟩
    refine ⟨_, rfl, x, C, dx, fs, _, rfl, ex, BC.cl, BC.n2, f2, p, rfl, ⟨_, SqT.of ep⟩, fun D0 nD => ?_⟩
    have lx := all.length
    rw [List.length_map] at lx
    refine lc2_tup (xs := xs) (fun i G => ∃ ts, Same H G ∧ G D0 = some (.lst ts) ∧ Paired (RatV G) ts ((es.take i).flatMap (·.2)) ∧ ts.length ≤ 3 * i) ⟨[], GG.Same.new (L2.Same.refl H) nD, upd_same, .nil, by decide⟩ (fun i G _ z => ?_) (fun i y G hy z => ?_) (fun G z => ?_)
    · obtain ⟨_, S, _⟩ := z
      exact SqT.of (S _ _ ep)
    · obtain ⟨ts, S, eD, pt, lt⟩ := z
      obtain ⟨d, hd, da⟩ := all.get hy
      rw [List.getElem?_map] at hd
      obtain ⟨e, he, rfl⟩ := Option.map_eq_some_iff.mp hd
      have em := List.mem_of_getElem? he
      have il := (List.getElem?_eq_some_iff.mp he).1
      generalize hr2 : rowD e = dd at da
      cases da with
      | @tup t ys ds2 et all2 =>
        cases hr2
        cases all2 with
        | @cons v1 _ vs1 _ h1 t1 =>
          cases h1
          cases t1 with
          | @cons v2 _ vs2 _ h2 t2 =>
            cases t2
            generalize hk : PyData.tuple (e.2.map dR) = dk at h2
            cases h2 with
            | @tup b zs ds3 eb all3 =>
              cases hk
              have pz := rats_of all3
              have lz := Paired.length pz
              have l3e := l3 e em
              refine ⟨t, _, rfl, .inl (.inl (S _ _ et)), rfl, _, _, rfl, _, _, rfl, rfl, rfl, ?_⟩
              refine ⟨_, rfl, b, rfl, ⟨_, SqT.of (S _ _ eb)⟩, ?_⟩
              refine in_tup (xs := zs) (fun j G' => ∃ us, Same H G' ∧ G' D0 = some (.lst us) ∧ Paired (RatV G') us ((es.take i).flatMap (·.2) ++ e.2.take j) ∧ us.length ≤ 3 * i + j) ⟨ts, S, eD, by rw [List.take_zero, List.append_nil]; exact pt, by omega⟩ (fun j G' _ z => ?_) (fun j y G' hy z => ?_) (fun G' z => ?_)
              · obtain ⟨_, S', _⟩ := z
                exact SqT.of (S' _ _ eb)
              · obtain ⟨us, S', eD', pu, lu⟩ := z
                obtain ⟨r, hr', rv⟩ := paired_at pz hy
                have jl := (List.getElem?_eq_some_iff.mp hr').1
                have rv' := RatV.same S' rv
                refine ⟨rfl, ?_⟩
                refine ⟨_, rfl, us, eD', by rw [sizeLine_eq]; omega, us ++ [y], ?_, upd_same, ?_, by rw [List.length_append, List.length_cons, List.length_nil]; omega⟩
                · intro c o ec
                  rw [upd_ne (ne_of_none ec nD)]
                  exact S' c o ec
                · rw [take_snoc hr', ← List.append_assoc]
                  exact Paired.snoc (Paired.mapP pu fun _ _ h => h.put eD') (rv'.put eD')
              · obtain ⟨us, S', eD', pu, lu⟩ := z
                rw [lz, List.take_length] at pu
                refine ⟨us, S', eD', ?_, by omega⟩
                rw [take_snoc he, List.flatMap_append]
                simpa using pu
            | _ => cases hk
      | _ => cases hr2
    · obtain ⟨ts, S, eD, pt, lt⟩ := z
      rw [lx, List.take_length] at pt
      exact k D0 ts G eD pt S
end
end GG

namespace GG
open PySem PySem.Spec PyProof.Rows L2 RZ
/-! ### a list on a scale, and what it gains there -/
abbrev sGainOn : Stmt := topS 31
def NumS (H : Hp) (v : V) (e : Int × List Int) : Prop := ∃ t b, v = .ref t ∧ H t = some (.tup [.int e.1, .ref b]) ∧ H b = some (.tup (e.2.map .int))
theorem NumS.stay {H H' : Hp} (k : Stay H H') {v : V} {e : Int × List Int} (h : NumS H v e) : NumS H' v e := by
  obtain ⟨t, b, z, e1, e2⟩ := h
  exact ⟨t, b, z, stayT k e1, stayT k e2⟩
theorem NumS.put {H : Hp} {D : Addr} {ys : List V} {o : HO} (eD : H D = some (.lst ys)) {v : V} {e : Int × List Int} (h : NumS H v e) : NumS (upd H D o) v e := by
  obtain ⟨t, b, z, e1, e2⟩ := h
  exact ⟨t, b, z, by rw [upd_ne (ne_of e1 eD (by intro z; cases z))]; exact e1, by rw [upd_ne (ne_of e2 eD (by intro z; cases z))]; exact e2⟩
def scE (b : Int) (e : Int × RK) : Int × List Int := (e.1, e.2.map (sc1 b))
def spScaledBids (C : Addr) : Sp := fun vs H Q _ => ∃ (x : Addr) (n : Nat) (es : WS) (b : Int), vs = [.ref x, .int b] ∧ BidsR C H x n es ∧ es.length ≤ 60 ∧ (∀ e ∈ es, e.2.length ≤ 1000 ∧ ∀ r ∈ e.2, small60 r) ∧ 0 ≤ b ∧ b.natAbs < 2 ^ 60 ∧
  ∀ (D : Addr) (ys : List V) (H' : Hp), H' D = some (.lst ys) → Paired (NumS H') ys (es.map (scE b)) → Same H H' → Q (.ref D) H'
def bestI (b p : List Int) : Int := (List.zipWith (fun x y => x - y) b p).foldl max 0
def gainI (es : List (Int × List Int)) (p : List Int) : Int := (es.map fun e => e.1 * bestI e.2 p).sum
def spGainOn : Sp := fun vs H Q _ => ∃ (a q : Addr) (ys : List V) (es : List (Int × List Int)) (ps : List Int) (n : Nat), vs = [.ref a, .ref q] ∧ H a = some (.lst ys) ∧ Paired (NumS H) ys es ∧ H q = some (.tup (ps.map V.int)) ∧ ps.length = n ∧ 1 ≤ n ∧ n ≤ 3 ∧ es.length ≤ 60 ∧ (∀ e ∈ es, e.2.length = n ∧ e.1.natAbs < 2 ^ 250 ∧ ∀ z ∈ e.2, z.natAbs < 2 ^ 240) ∧ (∀ z ∈ ps, z.natAbs < 2 ^ 240) ∧
  ∀ H', Same H H' → Q (.int (gainI es ps)) H'
theorem foldl_max (ns : List Int) : ∀ a : Int, (∀ y ∈ ns, y ≤ ns.foldl max a) ∧ a ≤ ns.foldl max a ∧ (ns.foldl max a = a ∨ ns.foldl max a ∈ ns) := by
  induction ns with
  | nil => intro a; exact ⟨(fun y h => nomatch h), Int.le_refl _, .inl rfl⟩
  | cons x ns ih =>
    intro a
    rw [List.foldl_cons]
    obtain ⟨h1, h2, h3⟩ := ih (max a x)
    refine ⟨fun y hy => ?_, by omega, ?_⟩
    · rcases List.mem_cons.mp hy with q | q
      · rw [q]
        omega
      · exact h1 y q
    · rcases h3 with q | q
      · by_cases z : a ≤ x
        · right
          rw [q, show max a x = x from by omega]
          exact List.mem_cons_self
        · left
          rw [q]
          omega
      · exact .inr (List.mem_cons_of_mem _ q)
theorem max_zero {ns : List Int} {m : Int} (hm : m ∈ ns) (le : ∀ y ∈ ns, y ≤ m) : (if m > 0 then m else 0) = ns.foldl max 0 := by
  obtain ⟨h1, h2, h3⟩ := foldl_max ns 0
  have := h1 m hm
  rcases h3 with q | q
  · split <;> omega
  · have := le _ q
    split <;> omega
theorem zip_abs {b p : List Int} (hb : ∀ z ∈ b, z.natAbs < 2 ^ 240) (hp : ∀ z ∈ p, z.natAbs < 2 ^ 240) : (bestI b p).natAbs < 2 ^ 250 := by
  have up : (2 : Nat) ^ 240 + 2 ^ 240 < 2 ^ 250 := by decide
  have all : ∀ z ∈ List.zipWith (fun x y => x - y) b p, z.natAbs < 2 ^ 250 := fun z hz => by
    obtain ⟨i, hi⟩ := List.getElem?_of_mem hz
    rw [List.getElem?_zipWith] at hi
    cases h1 : b[i]? with
    | none => rw [h1] at hi; cases hi
    | some x =>
      cases h2 : p[i]? with
      | none => rw [h1, h2] at hi; cases hi
      | some y =>
        rw [h1, h2] at hi
        cases hi
        have q1 := hb x (List.mem_of_getElem? h1)
        have q2 := hp y (List.mem_of_getElem? h2)
        omega
  unfold bestI
  rcases (foldl_max (List.zipWith (fun x y => x - y) b p) 0).2.2 with q | q
  · rw [q]
    decide
  · exact all _ q
section
variable {P : Program} {w : World} {K : PySem.W.Frag} {mg : Str → Option Value} {base : Heap}
abbrev NSb : List Str := ["bids", "bottom", "weight", "numbers"]
theorem scScaledBids : FnScope NSb ["bids", "bottom"] (defScope sScaledBids) := ⟨rfl, rfl, rfl, by decide +kernel, rfl, by decide +kernel, by decide +kernel⟩
theorem kn_scaledBids {C : Addr} (D : DefIs K mg "scaled_bids" sScaledBids) (BC : BCl K C) (BS : Kn P w K mg base "scaled_row" 2 ["row", "bottom"] spScaledRow) : Kn P w K mg base "scaled_bids" 3 ["bids", "bottom"] (spScaledBids C) := by
  refine .of D (fun _ _ _ _ _ _ us hl => match us, hl with | [_, _], _ => rfl) fun fa _ F => ?_
  refine F.ok scScaledBids (fun vs H Q E h => ?_) (fun cdv A outer s H vs Q E hr h => ?_)
  · obtain ⟨x, n, es, b, rfl, _⟩ := h
    rfl
  · obtain ⟨x, n, es, b, rfl, bx, l60, ok, b0, b1, k⟩ := h
    obtain ⟨dx, fs, p, xs, ex, f1, f2, ep, all⟩ := BidsR.rows (C := C) bx
    refine ⟨_, pss_one (ps_ret (pe_lc (own := [("weight", 2), ("numbers", 3)]) (g := gTup K 2 (gCons (gName 2) (gCons (gName 3) gNil))) (tt := tYes) (te := tTup (tCons (tVar 2) (tCons (tCall spScaledRow [] (fun _ _ _ => False) (tCons (tVar 3) (tCons (tVar 1) tNil))) tNil))) rfl scScaledBids.nd (pi_tup (pe_fld (pv 0) rfl)) (blkOk_by (N := NSb) (sc := defScope sScaledBids) (by decide +kernel))
        (fun _ _ _ _ _ => pg_tup rfl (pgs_cons (pg_name (i := 2) scScaledBids.nd rfl (.inl rfl)) (pgs_cons (pg_name (i := 3) scScaledBids.nd rfl (.inl rfl)) pgs_nil))) (fun _ _ _ _ _ => pts_nil) (fun _ _ _ _ _ => pe_tup (pa_cons (pv 2) (pa_cons (pe_kn BS hr (pa_cons (pv 3) (pa_cons (pv 1) pa_nil))) pa_nil))))), ?_⟩
    refine ⟨_, rfl, x, C, dx, fs, _, rfl, ex, BC.cl, BC.n2, f2, p, rfl, ⟨_, SqT.of ep⟩, fun D0 nD => ?_⟩
    have lx := all.length
    rw [List.length_map] at lx
    refine lc_tup (xs := xs) (fun i G => ∃ ts, Same H G ∧ G D0 = some (.lst ts) ∧ Paired (NumS G) ts ((es.take i).map (scE b))) ⟨[], GG.Same.new (L2.Same.refl H) nD, upd_same, .nil⟩ (fun i G _ z => ?_) (fun i y G hy z => ?_) (fun G z => ?_)
    · obtain ⟨_, S, _⟩ := z
      exact SqT.of (S _ _ ep)
    · obtain ⟨ts, S, eD, pt⟩ := z
      obtain ⟨d, hd, da⟩ := all.get hy
      rw [List.getElem?_map] at hd
      obtain ⟨e, he, rfl⟩ := Option.map_eq_some_iff.mp hd
      obtain ⟨o1, o2⟩ := ok e (List.mem_of_getElem? he)
      have il := (List.getElem?_eq_some_iff.mp he).1
      have lts : ts.length ≤ i := by
        rw [Paired.length pt, List.length_map, List.length_take]
        omega
      generalize hr2 : rowD e = dd at da
      cases da with
      | @tup t ys ds2 et all2 =>
        cases hr2
        cases all2 with
        | @cons v1 _ vs1 _ h1 t1 =>
          cases h1
          cases t1 with
          | @cons v2 _ vs2 _ h2 t2 =>
            cases t2
            generalize hk : PyData.tuple (e.2.map dR) = dk at h2
            cases h2 with
            | @tup bb zs ds3 eb all3 =>
              cases hk
              have pz := rats_of all3
              refine ⟨t, _, rfl, .inl (.inl (S _ _ et)), rfl, _, _, rfl, _, _, rfl, rfl, rfl, ?_⟩
              refine ⟨_, rfl, _, rfl, _, rfl, bb, zs, e.2, b, rfl, S _ _ eb, Paired.mapP pz fun _ _ h => RatV.same S h, o1, o2, b0, b1, fun q G1 eq S1 => ?_⟩
              refine ⟨(by show 2 ≤ sizeLine; rw [sizeLine_eq]; decide), fun t' nt => ?_⟩
              have S2 := GG.Same.new (L2.Same.refl G1) nt (o := .tup [.int e.1, .ref q])
              have et2 : (upd G1 t' (.tup [.int e.1, .ref q])) t' = some (.tup [.int e.1, .ref q]) := upd_same
              generalize (upd G1 t' (.tup [.int e.1, .ref q])) = G2 at S2 et2 ⊢
              have S12 := L2.Same.trans S1 S2
              have eD2 := S12 _ _ eD
              refine ⟨ts, eD2, by rw [sizeLine_eq]; omega, ts ++ [.ref t'], ?_, upd_same, ?_⟩
              · intro c o ec
                rw [upd_ne (ne_of_none ec nD)]
                exact S12 _ _ (S c o ec)
              · rw [take_snoc he, List.map_append]
                have new : NumS G2 (.ref t') (scE b e) := ⟨t', q, rfl, et2, S2 _ _ eq⟩
                exact Paired.snoc (Paired.mapP pt fun _ _ h => NumS.put eD2 (NumS.stay (Same.stay S12) h)) (NumS.put eD2 new)
            | _ => cases hk
      | _ => cases hr2
    · obtain ⟨ts, S, eD, pt⟩ := z
      rw [lx, List.take_length] at pt
      exact k D0 ts G eD pt S
abbrev NGo : List Str := ["rows", "prices", "total", "weight", "numbers", "k"]
theorem scGainOn : FnScope NGo ["rows", "prices"] (defScope sGainOn) := ⟨rfl, rfl, rfl, by decide +kernel, rfl, by decide +kernel, by decide +kernel⟩
theorem kn_gainOn (D : DefIs K mg "gain_on" sGainOn) (T : RTxt K mg) (zr : mg "range" = none) (zm : mg "max" = none) : Kn P w K mg base "gain_on" 1 ["rows", "prices"] spGainOn := by
  refine .of D (fun _ _ _ _ _ _ us hl => match us, hl with | [_, _], _ => rfl) fun fa _ F => ?_
  refine F.ok scGainOn (fun vs H Q E h => ?_) (fun cdv A outer s H vs Q E hr h => ?_)
  · obtain ⟨a, q, ys, es, ps, n, rfl, _⟩ := h
    rfl
  · obtain ⟨a, q, ys, es, ps, n, rfl, ea, pr, eq, lp, n1, n3, l60, ok, okp, k⟩ := h
    refine ⟨_, pss_cons (ps_set (i := 2) scGainOn.nd rfl (.inl rfl) pe_int)
      (pss_cons (ps_for PassesOwn.never rfl (pi_list (pv 0)) (pg_tup rfl (pgs_cons (pg_name (i := 3) scGainOn.nd rfl (.inl rfl)) (pgs_cons (pg_name (i := 4) scGainOn.nd rfl (.inr rfl)) pgs_nil)))
        (pss_one (ps_aug (i := 2) scGainOn.nd rfl (.inl rfl) (pe_op op_mulW (pv 3) (pe_callB (call_max2 rfl) (by rfl) zm bMax (pa_cons pe_int (pa_cons (pe_callB (cr_max rfl) (by rfl) zm bMax (pa_cons
          (pe_lc (own := [("k", 5)]) (g := gName 5) (tt := tYes) (te := tOp (rI0 fun i j => V.int (i - j)) (tOp (rIxT K) (tVar 4) (tVar 5)) (tOp (rIxT K) (tVar 1) (tVar 5))) rfl scGainOn.nd (pi_range1 rfl zr (pa_cons (pe_callB call_len_seq (by rfl) T.len PySem.boot_len (pa_cons (pv 1) pa_nil)) pa_nil)) (blkOk_by (N := NGo) (sc := defScope sGainOn) (by decide +kernel))
            (fun _ _ _ _ _ => pg_name (i := 5) scGainOn.nd rfl (.inl rfl)) (fun _ _ _ _ _ => pts_nil) (fun _ _ _ _ _ => pe_op op_sub (pe_ix ix_tup (pv 4) (pv 5) (fun _ _ => rfl)) (pe_ix ix_tup (pv 1) (pv 5) (fun _ _ => rfl)))) pa_nil)) pa_nil)))) ip_add)))
      (pss_one (ps_ret (pv 2)))), ?_⟩
    refine ⟨_, rfl, a, rfl, ⟨_, SqL.of ea⟩, for_list (xs := ys) (fun i σ G => ∃ (v3 v4 : Option V), σ = [some (.ref a), some (.ref q), some (.int (gainI (es.take i) ps)), v3, v4, none] ∧ Same H G) ⟨none, none, rfl, L2.Same.refl H⟩ (fun i σ G _ z => ?_) (fun i x σ G hx z => ?_) (fun σ G z => ?_)⟩
    · obtain ⟨_, _, _, S⟩ := z
      exact SqL.of (S _ _ ea)
    · obtain ⟨v3, v4, rfl, S⟩ := z
      obtain ⟨e, he, ns⟩ := paired_at pr hx
      obtain ⟨t, b, rfl, e1, e2⟩ := NumS.stay (Same.stay S) ns
      obtain ⟨le, we, ze⟩ := ok e (List.mem_of_getElem? he)
      refine ⟨t, _, rfl, .inl (.inl e1), rfl, _, _, rfl, _, _, rfl, rfl, ?_⟩
      have lps : (ps.map V.int).length = n := by rw [List.length_map, lp]
      refine ⟨_, rfl, _, rfl, _, rfl, q, _, rfl, .inr (SqT.of (S _ _ eq)), (n : Int), by rw [lps], by omega, by omega, fun D0 nD => ?_⟩
      rw [Int.toNat_natCast]
      have eqG := S _ _ eq
      refine lc_range (lo := 0) (n := n) (fun j G' => Same G G' ∧ G' D0 = some (.lst (((List.zipWith (fun x y => x - y) e.2 ps).take j).map V.int))) ⟨GG.Same.new (L2.Same.refl G) nD, upd_same⟩ ?_ ?_
      · rintro j G' hj ⟨S', eD⟩
        obtain ⟨x, hx'⟩ : ∃ x, e.2[j]? = some x := ⟨e.2[j]'(by omega), List.getElem?_eq_getElem (by omega)⟩
        obtain ⟨y, hy'⟩ : ∃ y, ps[j]? = some y := ⟨ps[j]'(by omega), List.getElem?_eq_getElem (by omega)⟩
        have hz : (List.zipWith (fun x y => x - y) e.2 ps)[j]? = some (x - y) := by rw [List.getElem?_zipWith, hx', hy']
        refine ⟨rfl, ?_⟩
        refine ⟨_, rfl, _, rfl, b, _, _, .int x, rfl, rfl, SqT.of (S' _ _ e2), ?_, _, rfl, _, rfl, q, _, _, .int y, rfl, rfl, SqT.of (S' _ _ eqG), ?_, _, _, rfl, rfl, ?_⟩
        · rw [Int.zero_add]
          exact atI_nat (by rw [List.getElem?_map, hx']; rfl)
        · rw [Int.zero_add]
          exact atI_nat (by rw [List.getElem?_map, hy']; rfl)
        · refine ⟨_, eD, by rw [List.length_map, List.length_take, sizeLine_eq]; omega, ?_, ?_⟩
          · intro c o ec
            rw [upd_ne (ne_of_none ec nD)]
            exact S' c o ec
          · rw [upd_same, take_snoc hz, List.map_append]
            rfl
      · rintro G' ⟨S', eD⟩
        have lz : (List.zipWith (fun x y => x - y) e.2 ps).length = n := by rw [List.length_zipWith, le, lp, Nat.min_self]
        rw [← lz, List.take_length] at eD
        refine ⟨D0, _, rfl, SqL.of eD, by omega, fun m hm hle => ?_⟩
        refine ⟨_, _, rfl, ?_⟩
        rw [show (if m > 0 then m else 0) = bestI e.2 ps from max_zero hm hle]
        have h1 := log250 we
        have h2 := log250 (zip_abs ze okp)
        refine ⟨_, _, rfl, rfl, (by show e.1.natAbs.log2 + (bestI e.2 ps).natAbs.log2 < 1000000; omega), _, _, rfl, rfl, ?_⟩
        have hg : gainI (es.take (i + 1)) ps = gainI (es.take i) ps + e.1 * bestI e.2 ps := by
          rw [take_snoc he]
          unfold gainI
          rw [List.map_append, List.sum_append, List.map_cons, List.map_nil, List.sum_cons, List.sum_nil, Int.add_zero]
        rw [hg]
        exact ⟨_, _, rfl, L2.Same.trans S S'⟩
    · obtain ⟨v3, v4, rfl, S⟩ := z
      rw [Paired.length pr, List.take_length]
      exact ⟨_, rfl, k G S⟩
end
end GG

namespace GG
open PySem PySem.Spec PyProof.Rows L2 RZ
/-! ### gain -/
abbrev sChecked : Stmt := topS 29
abbrev sGrid : Stmt := topS 30
abbrev sGain : Stmt := topS 28
def rowOfD (d : PyData) : RK := ((seqOf d).getD []).map ratOf
theorem nks_rat {H : Hp} : ∀ {xs : List V} {K : RK}, NKs H xs (K.map rN) → Paired (RatV H) xs K := by
  intro xs K
  induction K generalizing xs with
  | nil => intro h; cases h; exact .nil
  | cons r K ih =>
    intro h
    rw [List.map_cons] at h
    cases h with
    | cons a t =>
      refine .cons ?_ (ih t)
      unfold rN at a
      cases a with
      | tup e all =>
        cases all with
        | cons h1 t1 =>
          cases h1
          cases t1 with
          | cons h2 t2 =>
            cases h2
            cases t2
            exact ⟨_, rfl, e⟩
theorem areP_seq {d : PyData} {n : Int} (h : areP d n = true) : ∃ ds, seqOf d = some ds ∧ (ds.length : Int) = n ∧ (∀ x ∈ ds, isR x = true) ∧ rowOfD d = ds.map ratOf ∧ ∀ r ∈ rowOfD d, 0 ≤ r.1 := by
  unfold areP at h
  cases q : seqOf d with
  | none => rw [q] at h; cases h
  | some ds =>
    rw [q] at h
    dsimp only at h
    rw [Bool.and_eq_true] at h
    have all := List.all_eq_true.mp h.2
    refine ⟨ds, rfl, of_decide_eq_true h.1, fun x hx => ?_, by unfold rowOfD; rw [q]; rfl, fun r hr => ?_⟩
    · have := all x hx
      unfold isZ at this
      rw [Bool.and_eq_true] at this
      exact this.1
    · unfold rowOfD at hr
      rw [q] at hr
      obtain ⟨x, hx, rfl⟩ := List.mem_map.mp (show r ∈ ds.map ratOf from hr)
      have := all x hx
      unfold isZ at this
      rw [Bool.and_eq_true] at this
      exact of_decide_eq_true this.2
def spChecked (C CR : Addr) : Sp := fun vs H Q E => ∃ (x : Addr) (n : Nat) (es : WS) (pv : V) (dv : PyData), vs = [.ref x, pv] ∧ BidsR C H x n es ∧ Da H pv dv ∧ smallS dv ∧
  (areP dv (n : Int) = true → ∀ q xs H', H' q = some (.tup xs) → Paired (RatV H') xs (rowOfD dv) → Same H H' → Q (.ref q) H') ∧ (areP dv (n : Int) = false → ∀ dd H', H' dd = some (.xd [("row", pv)]) → Same H H' → E (.ref CR) (some dd) H')
/-- what a gain asks of a list and prices -/
def GrOk (N n : Nat) (es : WS) (Ks : RK) : Prop := 0 < N ∧ N < 2 ^ 60 ∧ 1 ≤ n ∧ n ≤ 3 ∧ es.length ≤ 60 ∧ (∀ e ∈ es, e.2.length = n ∧ e.1.natAbs < 2 ^ 250 ∧ ∀ r ∈ e.2, good2 N r) ∧ ∀ r ∈ Ks, good2 N r
def spGrid (C CR : Addr) : Sp := fun vs H Q E => ∃ (x : Addr) (n N : Nat) (es : WS) (pv : V) (dv : PyData), vs = [.ref x, pv] ∧ BidsR C H x n es ∧ Da H pv dv ∧ smallS dv ∧ (areP dv (n : Int) = true → GrOk N n es (rowOfD dv)) ∧
  (areP dv (n : Int) = true → ∀ t a q ys H', H' t = some (.tup [.ref a, .ref q, .int (botOf (es.flatMap (·.2) ++ rowOfD dv))]) → H' a = some (.lst ys) → Paired (NumS H') ys (es.map (scE (botOf (es.flatMap (·.2) ++ rowOfD dv)))) → H' q = some (.tup (((rowOfD dv).map (sc1 (botOf (es.flatMap (·.2) ++ rowOfD dv)))).map V.int)) → Same H H' → Q (.ref t) H') ∧
  (areP dv (n : Int) = false → ∀ dd H', H' dd = some (.xd [("row", pv)]) → Same H H' → E (.ref CR) (some dd) H')
/-- the gain on the scale N -/
def gainN (N : Int) (es : WS) (Ks : RK) : Int := gainI (es.map (scE N)) (Ks.map (sc1 N))
def spGain (C CR : Addr) : Sp := fun vs H Q E => ∃ (x : Addr) (n N : Nat) (es : WS) (pv : V) (dv : PyData), vs = [.ref x, pv] ∧ BidsR C H x n es ∧ Da H pv dv ∧ smallS dv ∧ (areP dv (n : Int) = true → GrOk N n es (rowOfD dv)) ∧
  (areP dv (n : Int) = true → ∀ q H', H' q = some (.tup [.int (lw (gainN (N : Int) es (rowOfD dv)) (N : Int)).1, .int (lw (gainN (N : Int) es (rowOfD dv)) (N : Int)).2]) → Same H H' → Q (.ref q) H') ∧
  (areP dv (n : Int) = false → ∀ dd H', H' dd = some (.xd [("row", pv)]) → Same H H' → E (.ref CR) (some dd) H')
theorem lw_scale {t b k : Int} (k0 : 0 < k) : lw (t * k) (b * k) = lw t b := by
  unfold lw
  rw [Int.natAbs_mul, Int.natAbs_mul, Nat.gcd_mul_right]
  have e : ((Nat.gcd t.natAbs b.natAbs * k.natAbs : Nat) : Int) = ((Nat.gcd t.natAbs b.natAbs : Nat) : Int) * k := by
    rw [Int.natCast_mul]
    congr 1
    omega
  rw [e, Int.mul_ediv_mul_of_pos_left _ _ k0, Int.mul_ediv_mul_of_pos_left _ _ k0]
theorem sc1_scale {B c : Int} {r : Int × Int} (r0 : 0 < r.2) (d : r.2 ∣ B) : sc1 (B * c) r = sc1 B r * c := by
  obtain ⟨x, rfl⟩ := d
  unfold sc1
  rw [Int.mul_assoc, Int.mul_ediv_cancel_left _ (by omega), Int.mul_ediv_cancel_left _ (by omega), Int.mul_assoc]
theorem fold_scale {c : Int} (c0 : 0 < c) : ∀ (ns : List Int) (a : Int), (ns.map (· * c)).foldl max (a * c) = ns.foldl max a * c
  | [], a => rfl
  | x :: ns, a => by
    rw [List.map_cons, List.foldl_cons, List.foldl_cons, ← fold_scale c0 ns]
    congr 1
    by_cases h : a ≤ x
    · have := Int.mul_le_mul_of_nonneg_right h (Int.le_of_lt c0)
      rw [show max a x = x from by omega]
      omega
    · have := Int.mul_le_mul_of_nonneg_right (show x ≤ a by omega) (Int.le_of_lt c0)
      rw [show max a x = a from by omega]
      omega
theorem best_scale {c : Int} (c0 : 0 < c) (b p : List Int) : bestI (b.map (· * c)) (p.map (· * c)) = bestI b p * c := by
  unfold bestI
  have h : List.zipWith (fun x y : Int => x - y) (b.map (· * c)) (p.map (· * c)) = (List.zipWith (fun x y : Int => x - y) b p).map (· * c) := by
    rw [List.zipWith_map, List.map_zipWith]
    congr 1
    funext x y
    rw [Int.sub_mul]
  rw [h]
  have := fold_scale c0 (List.zipWith (fun x y : Int => x - y) b p) 0
  rw [Int.zero_mul] at this
  exact this
theorem gain_scale {c : Int} (c0 : 0 < c) (es : List (Int × List Int)) (p : List Int) : gainI (es.map fun e => (e.1, e.2.map (· * c))) (p.map (· * c)) = gainI es p * c := by
  unfold gainI
  rw [List.map_map]
  induction es with
  | nil => simp
  | cons e es ih =>
    rw [List.map_cons, List.map_cons, List.sum_cons, List.sum_cons, ih, Int.add_mul]
    congr 1
    show e.1 * bestI (e.2.map (· * c)) (p.map (· * c)) = e.1 * bestI e.2 p * c
    rw [best_scale c0, Int.mul_assoc]
theorem gainN_scale {B c : Int} (c0 : 0 < c) {es : WS} {Ks : RK} (he : ∀ e ∈ es, ∀ r ∈ e.2, 0 < r.2 ∧ r.2 ∣ B) (hk : ∀ r ∈ Ks, 0 < r.2 ∧ r.2 ∣ B) : gainN (B * c) es Ks = gainN B es Ks * c := by
  unfold gainN
  rw [← gain_scale c0, List.map_map, List.map_map]
  congr 1
  · refine List.map_congr_left fun e h => ?_
    show (e.1, e.2.map (sc1 (B * c))) = (e.1, (e.2.map (sc1 B)).map (· * c))
    rw [List.map_map]
    congr 1
    exact List.map_congr_left fun r hr => sc1_scale (he e h r hr).1 (he e h r hr).2
  · exact List.map_congr_left fun r hr => sc1_scale (hk r hr).1 (hk r hr).2
theorem GrOk.all {N n : Nat} {es : WS} {Ks : RK} (h : GrOk N n es Ks) : ∀ r ∈ es.flatMap (·.2) ++ Ks, good2 N r := by
  intro r hr
  rcases List.mem_append.mp hr with q | q
  · obtain ⟨e, he, hr⟩ := List.mem_flatMap.mp q
    exact (h.2.2.2.2.2.1 e he).2.2 r hr
  · exact h.2.2.2.2.2.2 r q
theorem good_small {N : Nat} (N0 : 0 < N) (N1 : N < 2 ^ 60) {r : Int × Int} (h : good2 N r) : small60 r := ⟨h.1, Nat.lt_of_le_of_lt (Nat.le_of_dvd N0 h.2.1) N1, h.2.2⟩
theorem sc1_abs {B : Int} {r : Int × Int} (b0 : 0 ≤ B) (b1 : B.natAbs < 2 ^ 60) (h : small60 r) : (sc1 B r).natAbs < 2 ^ 240 := by
  unfold sc1
  rw [Int.natAbs_mul]
  have h1 : (B / r.2).natAbs ≤ B.natAbs := by
    have q1 := Int.ediv_nonneg b0 (Int.le_of_lt h.1)
    have q2 := Int.ediv_le_self r.2 b0
    omega
  have h2 : r.1.natAbs * (B / r.2).natAbs ≤ 2 ^ 120 * 2 ^ 60 := Nat.mul_le_mul (Nat.le_of_lt h.2.2) (by omega)
  exact Nat.lt_of_le_of_lt h2 (by decide)
section
variable {P : Program} {w : World} {K : PySem.W.Frag} {mg : Str → Option Value} {base : Heap}
theorem scChecked : FnScope ["bids", "prices"] ["bids", "prices"] (defScope sChecked) := ⟨rfl, rfl, rfl, by decide +kernel, rfl, by decide +kernel, by decide +kernel⟩
theorem kn_checked {C CR : Addr} (D : DefIs K mg "checked_prices" sChecked) (R : BRTxt P w K mg base CR) (BC : BCl K C) (BP : Kn P w K mg base "are_prices" 5 ["value", "kinds"] spPrices) (BT : Kn P w K mg base "told_row" 4 ["row"] spToldR) : KnX P w K mg base "checked_prices" 7 ["bids", "prices"] (spChecked C CR) := by
  refine .of D (fun _ _ _ _ _ _ us hl => match us, hl with | [_, _], _ => rfl) fun _ _ F => ?_
  refine F.okX scChecked (fun vs H Q E h => ?_) (fun cdv A outer s H vs Q E hr h => ?_)
  · obtain ⟨x, n, es, pv, dv, rfl, _⟩ := h
    rfl
  · obtain ⟨x, n, es, pv', dv, rfl, bx, da, sm, kQ, kE⟩ := h
    obtain ⟨dx, fs, p, xs, ex, f1, f2, ep, all⟩ := BidsR.rows (C := C) bx
    have hr5 : Room 5 _ := hr.mono (by decide)
    have hr4 : Room 4 _ := hr.mono (by decide)
    have hr2 : Room 2 _ := hr.mono (by decide)
    refine ⟨_, pss_cons (ps_if (pt_not (pt_val (pe_kn BP hr5 (pa_cons (pv 1) (pa_cons (pe_fld (pv 0) rfl) pa_nil))))) (pss_one (ps_raiseBR rfl R hr2 (takes_of rfl rfl rfl rfl) (pa_cons (pv 1) pa_nil))) pss_nil)
      (pss_one (ps_ret (pe_kn BT hr4 (pa_cons (pv 1) pa_nil)))), ?_⟩
    refine ⟨_, rfl, _, rfl, x, C, dx, fs, _, rfl, ex, BC.cl, BC.n1, f1, pv', dv, (n : Int), rfl, da, sm, fun H1 S1 => ⟨_, rfl, ?_⟩⟩
    cases hp : areP dv (n : Int) with
    | false =>
      refine iteT ?_
      exact ⟨_, rfl, raiseBR fun dd H' e S' => kE hp dd H' e (L2.Same.trans S1 S')⟩
    | true =>
      refine iteF ?_
      obtain ⟨ds, q, ln, isr, er, _⟩ := areP_seq hp
      refine ⟨_, rfl, pv', dv, ds, rfl, da.stay (Same.stay S1), q, sm, isr, fun p' xs' H' ep' nk S' => ?_⟩
      rw [kOf_map] at nk
      exact kQ hp p' xs' H' ep' (by rw [er]; exact nks_rat nk) (L2.Same.trans S1 S')
abbrev NGr : List Str := ["bids", "prices", "pairs", "bottom"]
theorem scGrid : FnScope NGr ["bids", "prices"] (defScope sGrid) := ⟨rfl, rfl, rfl, by decide +kernel, rfl, by decide +kernel, by decide +kernel⟩
theorem kn_grid {C CR : Addr} (D : DefIs K mg "on_grid" sGrid) (T : RTxt K mg) (BP : KnX P w K mg base "checked_prices" 7 ["bids", "prices"] (spChecked C CR)) (BO : Kn P w K mg base "ratios_of" 1 ["bids"] (spRatiosOf C)) (BB : Kn P w K mg base "common_bottom" 1 ["ratios"] spBot) (BS : Kn P w K mg base "scaled_bids" 3 ["bids", "bottom"] (spScaledBids C)) (BR : Kn P w K mg base "scaled_row" 2 ["row", "bottom"] spScaledRow) :
    KnX P w K mg base "on_grid" 8 ["bids", "prices"] (spGrid C CR) := by
  refine .of D (fun _ _ _ _ _ _ us hl => match us, hl with | [_, _], _ => rfl) fun _ _ F => ?_
  refine F.okX scGrid (fun vs H Q E h => ?_) (fun cdv A outer s H vs Q E hr h => ?_)
  · obtain ⟨x, n, N, es, pv, dv, rfl, _⟩ := h
    rfl
  · obtain ⟨x, n, N, es, pv', dv, rfl, bx, da, sm, gr, kQ, kE⟩ := h
    have hr1 : Room 1 _ := hr.mono (by decide)
    have hr2 : Room 2 _ := hr.mono (by decide)
    have hr3 : Room 3 _ := hr.mono (by decide)
    refine ⟨_, pss_cons (ps_set (i := 2) scGrid.nd rfl (.inl rfl) (pe_knX BP hr (takes_of rfl rfl rfl rfl) (fun _ _ _ _ z => z) (pa_cons (pv 0) (pa_cons (pv 1) pa_nil))))
      (pss_cons (ps_set (i := 3) scGrid.nd rfl (.inl rfl) (pe_kn BB hr1 (pa_cons (pe_op op_cat (pe_kn BO hr1 (pa_cons (pv 0) pa_nil)) (pe_callTy call_list_of (by rfl) T.list bList (pa_cons (pv 2) pa_nil))) pa_nil)))
      (pss_one (ps_ret (pe_tup (pa_cons (pe_kn BS hr3 (pa_cons (pv 0) (pa_cons (pv 3) pa_nil))) (pa_cons (pe_kn BR hr2 (pa_cons (pv 2) (pa_cons (pv 3) pa_nil))) (pa_cons (pv 3) pa_nil))))))), ?_⟩
    refine ⟨_, rfl, _, rfl, x, n, es, pv', dv, rfl, bx, da, sm, fun hp q xs H1 eq pq S1 => ?_, kE⟩
    have g := gr hp
    obtain ⟨N0, N1, n1, n3, l60, okE, okK⟩ := id g
    obtain ⟨ds, _, lds, _, er, _⟩ := areP_seq hp
    have lK : (rowOfD dv).length = n := by rw [er, List.length_map]; omega
    have kQ' := kQ hp
    generalize rowOfD dv = Ks at pq g okK lK kQ'
    have bx1 := BidsR.same S1 bx
    refine ⟨_, rfl, x, n, es, rfl, bx1, l60, fun e he => by rw [(okE e he).1]; exact n3, fun D0 ys H2 eD py S2 => ?_⟩
    refine ⟨_, rfl, q, xs, rfl, .inr (SqT.of (S2 _ _ eq)), fun l nl => ?_⟩
    have S3 := GG.Same.new (L2.Same.refl H2) nl (o := .lst xs)
    have el : (upd H2 l (.lst xs)) l = some (.lst xs) := upd_same
    generalize (upd H2 l (.lst xs)) = H3 at S3 el ⊢
    have ly := Paired.length py
    have lf : (es.flatMap (·.2)).length ≤ 180 := by
      have key : ∀ es : WS, (∀ e ∈ es, e.2.length ≤ 3) → (es.flatMap (·.2)).length ≤ 3 * es.length := by
        intro es
        induction es with
        | nil => intro _; exact Nat.le_refl _
        | cons e es ih =>
          intro h
          rw [List.flatMap_cons, List.length_append, List.length_cons]
          have := ih fun x hx => h x (List.mem_cons_of_mem _ hx)
          have := h e List.mem_cons_self
          omega
      have := key es fun e he => by rw [(okE e he).1]; exact n3
      omega
    have lx := Paired.length pq
    refine ⟨D0, l, _, _, rfl, rfl, S3 _ _ eD, el, by rw [sizeLine_eq]; omega, fun l2 nl2 => ?_⟩
    have S4 := GG.Same.new (L2.Same.refl H3) nl2 (o := .lst (ys ++ xs))
    have el2 : (upd H3 l2 (.lst (ys ++ xs))) l2 = some (.lst (ys ++ xs)) := upd_same
    generalize (upd H3 l2 (.lst (ys ++ xs))) = H4 at S4 el2 ⊢
    have S24 := L2.Same.trans S3 S4
    have S14 := L2.Same.trans S2 S24
    have pall : Paired (RatV H4) (ys ++ xs) (es.flatMap (·.2) ++ Ks) := paired_app (Paired.mapP py fun _ _ h => RatV.same S24 h) (Paired.mapP pq fun _ _ h => RatV.same S14 h)
    obtain ⟨b0, bd, ball⟩ := bot_pos N0 g.all
    refine ⟨l2, _, _, N, rfl, el2, pall, N0, N1, g.all, ?_⟩
    generalize botOf (es.flatMap (·.2) ++ Ks) = B at b0 bd ball kQ'
    have bB : B.natAbs < 2 ^ 60 := Nat.lt_of_le_of_lt (Nat.le_of_dvd N0 bd) N1
    refine ⟨_, rfl, _, rfl, x, n, es, B, rfl, BidsR.same S14 bx1, l60, fun e he => ⟨by rw [(okE e he).1]; omega, fun r hr => good_small N0 N1 ((okE e he).2.2 r hr)⟩, by omega, bB, fun D1 zs H5 eD1 pz S5 => ?_⟩
    refine ⟨_, rfl, _, rfl, q, xs, Ks, B, rfl, S5 _ _ (S14 _ _ eq), Paired.mapP pq fun _ _ h => RatV.same S5 (RatV.same S14 h), by omega, fun r hr => good_small N0 N1 (okK r hr), by omega, bB, fun q2 H6 eq2 S6 => ?_⟩
    refine ⟨_, rfl, (by show 3 ≤ sizeLine; rw [sizeLine_eq]; decide), fun t nt => ?_⟩
    have S7 := GG.Same.new (L2.Same.refl H6) nt (o := .tup [.ref D1, .ref q2, .int B])
    exact kQ' t D1 q2 zs _ upd_same (S7 _ _ (S6 _ _ eD1)) (Paired.mapP pz fun _ _ h => NumS.stay (Same.stay S7) (NumS.stay (Same.stay S6) h)) (S7 _ _ eq2) (L2.Same.trans S1 (L2.Same.trans S14 (L2.Same.trans S5 (L2.Same.trans S6 S7))))
abbrev NGa : List Str := ["bids", "prices", "rows", "at", "bottom"]
theorem scGain : FnScope NGa ["bids", "prices"] (defScope sGain) := ⟨rfl, rfl, rfl, by decide +kernel, rfl, by decide +kernel, by decide +kernel⟩
theorem kn_gain {C CR : Addr} (D : DefIs K mg "gain" sGain) (BG : KnX P w K mg base "on_grid" 8 ["bids", "prices"] (spGrid C CR)) (BO : Kn P w K mg base "gain_on" 1 ["rows", "prices"] spGainOn) (BL : Kn P w K mg base "lowest" 1 ["top", "bottom"] spLow) : KnX P w K mg base "gain" 9 ["bids", "prices"] (spGain C CR) := by
  refine .of D (fun _ _ _ _ _ _ us hl => match us, hl with | [_, _], _ => rfl) fun _ _ F => ?_
  refine F.okX scGain (fun vs H Q E h => ?_) (fun cdv A outer s H vs Q E hr h => ?_)
  · obtain ⟨x, n, N, es, pv, dv, rfl, _⟩ := h
    rfl
  · obtain ⟨x, n, N, es, pv', dv, rfl, bx, da, sm, gr, kQ, kE⟩ := h
    have hr1 : Room 1 _ := hr.mono (by decide)
    refine ⟨_, pss_cons (ps_asg (pe_knX BG hr (takes_of rfl rfl rfl rfl) (fun _ _ _ _ z => z) (pa_cons (pv 0) (pa_cons (pv 1) pa_nil))) (pg_tup rfl (pgs_cons (pg_name (i := 2) scGain.nd rfl (.inl rfl)) (pgs_cons (pg_name (i := 3) scGain.nd rfl (.inl rfl)) (pgs_cons (pg_name (i := 4) scGain.nd rfl (.inl rfl)) pgs_nil)))))
      (pss_one (ps_ret (pe_kn BL hr1 (pa_cons (pe_kn BO hr1 (pa_cons (pv 2) (pa_cons (pv 3) pa_nil))) (pa_cons (pv 4) pa_nil))))), ?_⟩
    refine ⟨_, rfl, _, rfl, x, n, N, es, pv', dv, rfl, bx, da, sm, gr, fun hp t a q ys H1 et ea py eq S1 => ?_, kE⟩
    have g := gr hp
    obtain ⟨N0, N1, n1, n3, l60, okE, okK⟩ := id g
    obtain ⟨ds, _, lds, _, er, _⟩ := areP_seq hp
    have lK : (rowOfD dv).length = n := by rw [er, List.length_map]; omega
    have kQ' := kQ hp
    generalize rowOfD dv = Ks at g okK lK kQ' et py eq
    obtain ⟨b0, bd, ball⟩ := bot_pos N0 g.all
    generalize botOf (es.flatMap (·.2) ++ Ks) = B at b0 bd ball et py eq
    have bB : B.natAbs < 2 ^ 60 := Nat.lt_of_le_of_lt (Nat.le_of_dvd N0 bd) N1
    refine ⟨t, _, rfl, .inl (.inl et), rfl, _, _, rfl, _, _, rfl, _, _, rfl, rfl, ?_⟩
    refine ⟨_, rfl, _, rfl, a, q, ys, es.map (scE B), Ks.map (sc1 B), n, rfl, ea, py, eq, by rw [List.length_map, lK], n1, n3, by rw [List.length_map]; exact l60, fun e' he' => ?_, fun z hz => ?_, fun H2 S2 => ?_⟩
    · obtain ⟨e, he, rfl⟩ := List.mem_map.mp he'
      refine ⟨by show (e.2.map (sc1 B)).length = n; rw [List.length_map]; exact (okE e he).1, (okE e he).2.1, fun z hz => ?_⟩
      obtain ⟨r, hr, rfl⟩ := List.mem_map.mp (show z ∈ e.2.map (sc1 B) from hz)
      exact sc1_abs (by omega) bB (good_small N0 N1 ((okE e he).2.2 r hr))
    · obtain ⟨r, hr, rfl⟩ := List.mem_map.mp hz
      exact sc1_abs (by omega) bB (good_small N0 N1 (okK r hr))
    · refine ⟨_, rfl, _, _, rfl, b0, Nat.lt_trans bB (by decide), fun p np => ?_⟩
      have hN : ∃ c : Int, 0 < c ∧ (N : Int) = B * c := by
        obtain ⟨c, hc⟩ := bd
        refine ⟨(c : Int), ?_, ?_⟩
        · have : 0 < c := by
            cases c with
            | zero => omega
            | succ c => omega
          omega
        · have : (N : Int) = ((B.natAbs * c : Nat) : Int) := by rw [← hc]
          rw [this, Int.natCast_mul]
          congr 1
          omega
      obtain ⟨c, c0, hc⟩ := hN
      have dv2 : ∀ r ∈ es.flatMap (·.2) ++ Ks, 0 < r.2 ∧ r.2 ∣ B := fun r hr => ⟨(g.all r hr).1, Int.natAbs_dvd_natAbs.mp (ball r hr)⟩
      have hg : lw (gainN (N : Int) es Ks) (N : Int) = lw (gainN B es Ks) B := by
        rw [hc, gainN_scale c0 (fun e he r hr => dv2 r (List.mem_append_left _ (List.mem_flatMap.mpr ⟨e, he, hr⟩))) (fun r hr => dv2 r (List.mem_append_right _ hr)), lw_scale c0]
      have S3 := GG.Same.new (L2.Same.refl H2) np (o := .tup [.int (lw (gainN B es Ks) B).1, .int (lw (gainN B es Ks) B).2])
      refine kQ' p _ ?_ (L2.Same.trans S1 (L2.Same.trans S2 S3))
      rw [hg]
      exact upd_same
end
end GG

namespace GG
open PySem PySem.Spec PyProof.Rows L2 RZ
/-! ### the law's sums and products, and what a bid is best for -/
abbrev sLWhole : Stmt := topS 43
abbrev sLPlus : Stmt := topS 46
abbrev sLTimes : Stmt := topS 47
abbrev sLRatio : Stmt := topS 48
abbrev sLBest : Stmt := topS 57
/-- a comprehension over zip of two lists of one length -/
theorem lc_zipL {K : PySem.W.Frag} {a b : Addr} {xs ys : List V} {g : TG} {tt : TT} {te : TE} {vs : List Nat} {σ : L2.St} {H1 : Hp} {D : Addr} {Qd : Hp → Prop} (hl : xs.length = ys.length) (Pv : Nat → Hp → Prop) (h0 : Pv 0 (upd H1 D (.lst []))) (hq : ∀ i H, Pv i H → SqL K H a xs ∧ SqL K H b ys)
    (hs : ∀ (i : Nat) (x y : V) (T : Addr) (H : Hp), xs[i]? = some x → ys[i]? = some y → Pv i H → H T = none → g (.ref T) (wipe σ vs) (upd H T (.tup [x, y])) fun s2 H2 => wipe s2 vs = wipe σ vs ∧ tt s2 H2 fun b H3 =>
      if b = true then te s2 H3 fun y H4 => ∃ acc, H4 D = some (.lst acc) ∧ acc.length < sizeLine ∧ Pv (i + 1) (upd H4 D (.lst (acc ++ [y]))) else Pv (i + 1) H3) (hd : ∀ H, Pv xs.length H → Qd H) :
    ∃ W : Nat → Nat → Hp → Prop, (∃ m, W 0 m (upd H1 D (.lst []))) ∧ ∀ i m H, W i m H →
      ((Itz K a b).stop i H ∧ Qd H) ∨ ((Itz K a b).go i H ∧ ∃ Nx : Hp → Prop, (∀ H', Nx H' → ∃ m', m' < m ∧ W (i + 1) m' H') ∧ ∀ x H', (Itz K a b).yld i H x H' → g x (wipe σ vs) H' fun s2 H2 => wipe s2 vs = wipe σ vs ∧ tt s2 H2 fun b H3 =>
        if b = true then te s2 H3 fun y H4 => ∃ acc, H4 D = some (.lst acc) ∧ acc.length < sizeLine ∧ Nx (upd H4 D (.lst (acc ++ [y]))) else Nx H3) := by
  refine ⟨fun i m H => m = xs.length - i ∧ i ≤ xs.length ∧ Pv i H, ⟨xs.length, rfl, Nat.zero_le _, h0⟩, ?_⟩
  rintro i m H ⟨rfl, hi, p⟩
  obtain ⟨qx, qy⟩ := hq i H p
  by_cases hlt : i < xs.length
  · have hx : xs[i]? = some xs[i] := List.getElem?_eq_getElem hlt
    have hlt2 : i < ys.length := by omega
    have hy : ys[i]? = some ys[i] := List.getElem?_eq_getElem hlt2
    refine .inr ⟨⟨xs, ys, _, _, qx, qy, hx, hy⟩, Pv (i + 1), fun H' p' => ⟨xs.length - (i + 1), by omega, rfl, hlt, p'⟩, fun v H' y => ?_⟩
    obtain ⟨T, x', y', rfl, hT, rfl, f1, f2⟩ := y
    exact hs i x' y' T H (f1 xs qx) (f2 ys qy) p hT
  · have e : i = xs.length := by omega
    subst e
    exact .inl ⟨⟨xs, ys, qx, qy, Or.inl (Nat.le_refl _)⟩, hd H p⟩
/-- what the law takes the greatest of -/
def bestL (b p : List Int) : List Int := ((List.zip b p).filter fun x => decide (0 < x.1)).map fun x => x.1 - x.2
theorem best_law {b p : List Int} (hb : ∀ z ∈ b, 0 ≤ z) (hp : ∀ z ∈ p, 0 ≤ z) {m : Int} (hm : m ∈ 0 :: bestL b p) (le : ∀ y ∈ 0 :: bestL b p, y ≤ m) : m = bestI b p := by
  obtain ⟨h1, h2, h3⟩ := foldl_max (List.zipWith (fun x y : Int => x - y) b p) 0
  have zw : List.zipWith (fun x y : Int => x - y) b p = (List.zip b p).map fun x => x.1 - x.2 := by
    rw [List.zip, List.map_zipWith]
  have le0 := le 0 List.mem_cons_self
  show m = (List.zipWith (fun x y : Int => x - y) b p).foldl max 0
  apply Int.le_antisymm
  · rcases List.mem_cons.mp hm with q | q
    · omega
    · refine h1 m ?_
      rw [zw]
      obtain ⟨x, hx, rfl⟩ := List.mem_map.mp q
      exact List.mem_map.mpr ⟨x, (List.mem_filter.mp hx).1, rfl⟩
  · rcases h3 with q | q
    · omega
    · rw [zw] at q
      obtain ⟨x, hx, ex⟩ := List.mem_map.mp q
      rw [zw]
      obtain ⟨m1, m2⟩ := List.of_mem_zip hx
      have b0 := hb _ m1
      have p0 := hp _ m2
      by_cases z : 0 < x.1
      · have := le (x.1 - x.2) (List.mem_cons_of_mem _ (List.mem_map.mpr ⟨x, List.mem_filter.mpr ⟨hx, decide_eq_true z⟩, rfl⟩))
        omega
      · omega
theorem bestL_take {b p : List Int} {i : Nat} {x y : Int} (hx : b[i]? = some x) (hy : p[i]? = some y) : bestL (b.take (i + 1)) (p.take (i + 1)) = bestL (b.take i) (p.take i) ++ if 0 < x then [x - y] else [] := by
  have e1 := take_snoc hx
  have e2 := take_snoc hy
  have l1 := (List.getElem?_eq_some_iff.mp hx).1
  have l2 := (List.getElem?_eq_some_iff.mp hy).1
  unfold bestL
  rw [e1, e2, List.zip_append (by rw [List.length_take, List.length_take]; omega), List.filter_append, List.map_append]
  congr 1
  show ((List.filter (fun x : Int × Int => decide (0 < x.1)) [(x, y)]).map fun x => x.1 - x.2) = _
  by_cases z : 0 < x
  · rw [if_pos z, List.filter_cons_of_pos (by simpa using z)]
    rfl
  · rw [if_neg z, List.filter_cons_of_neg (by simpa using z)]
    rfl
def spLRat : Sp := fun vs H Q _ => ∃ (p : Addr) (a b : Int), vs = [.ref p] ∧ H p = some (.tup [.int a, .int b]) ∧ a.natAbs < 2 ^ 250 ∧ b.natAbs < 2 ^ 250 ∧ 0 < b ∧ Nat.gcd a.natAbs b.natAbs = 1 ∧ Q (.bl true) H
def spBest : Sp := fun vs H Q _ => ∃ (a q : Addr) (bs ps : List Int), vs = [.ref a, .ref q] ∧ H a = some (.lst (bs.map .int)) ∧ H q = some (.lst (ps.map .int)) ∧ bs.length = ps.length ∧ ps.length ≤ 1000 ∧ (∀ z ∈ bs, 0 ≤ z) ∧ (∀ z ∈ ps, 0 ≤ z) ∧ ∀ H', Same H H' → Q (.int (bestI bs ps)) H'
section
variable {P : Program} {w : World} {K : PySem.W.Frag} {mg : Str → Option Value} {base : Heap}
theorem iteT' {c : Bool} {A B : Prop} (h : c = true) (a : A) : if c = true then A else B := by rw [if_pos h]; exact a
theorem scLPlus : FnScope ["_law_one", "_law_two"] ["_law_one", "_law_two"] (defScope sLPlus) := ⟨rfl, rfl, rfl, by decide +kernel, rfl, by decide +kernel, by decide +kernel⟩
theorem kn_law_plus (D : DefIs K mg "_law_plus" sLPlus) (B : Kn P w K mg base "_law_q" 2 ["_law_top", "_law_bottom"] spQ) : Kn P w K mg base "_law_plus" 3 ["_law_one", "_law_two"] (spLaw2 (okTup rPlus)) := by
  refine .of D (fun _ _ _ _ _ _ us hl => match us, hl with | [_, _], _ => rfl) fun _ _ F => ?_
  refine F.ok scLPlus (fun vs H Q E h => ?_) (fun cdv A outer s H vs Q E hr h => ?_)
  · obtain ⟨p1, p2, a, b, rfl, _⟩ := h
    rfl
  · obtain ⟨p1, p2, a, b, rfl, e1, e2, q1, q2, k⟩ := h
    refine ⟨_, pss_one (ps_ret (pe_kn B hr (pa_cons (pe_op op_add (pe_op op_mulW (pe_ix ix_tup (pv 0) pe_int (fun _ _ => rfl)) (pe_ix ix_tup (pv 1) pe_int (fun _ _ => rfl))) (pe_op op_mulW (pe_ix ix_tup (pv 1) pe_int (fun _ _ => rfl)) (pe_ix ix_tup (pv 0) pe_int (fun _ _ => rfl)))) (pa_cons (pe_op op_mulW (pe_ix ix_tup (pv 0) pe_int (fun _ _ => rfl)) (pe_ix ix_tup (pv 1) pe_int (fun _ _ => rfl))) pa_nil)))), ?_⟩
    have hb : 0 < a.2 * b.2 := Int.mul_pos q1.2.2 q2.2.2
    have hs : (a.2 * b.2).natAbs < 2 ^ 250 := Nat.lt_of_lt_of_le (prod240 q1.2.1 q2.2.1) (Nat.pow_le_pow_right (by decide) (by decide))
    refine ⟨_, rfl, p1, _, _, _, rfl, rfl, .inl (.inl e1), atI_nat (j := 0) rfl, _, rfl, p2, _, _, _, rfl, rfl, .inl (.inl e2), atI_nat (j := 1) rfl, _, _, rfl, rfl, mulW q1.1 q2.2.1, _, rfl, p2, _, _, _, rfl, rfl, .inl (.inl e2), atI_nat (j := 0) rfl, _, rfl, p1, _, _, _, rfl, rfl, .inl (.inl e1), atI_nat (j := 1) rfl, _, _, rfl, rfl, mulW q2.1 q1.2.1, _, _, rfl, rfl, _, rfl, p1, _, _, _, rfl, rfl, .inl (.inl e1), atI_nat (j := 1) rfl, _, rfl, p2, _, _, _, rfl, rfl, .inl (.inl e2), atI_nat (j := 1) rfl, _, _, rfl, rfl, mulW q1.2.1 q2.2.1, _, _, rfl, hb, (sum250 (prod240 q1.1 q2.2.1) (prod240 q2.1 q1.2.1)).1, hs, fun p np => ?_⟩
    exact k p _ upd_same (Same.new (L2.Same.refl H) np)
theorem scLTimes : FnScope ["_law_one", "_law_two"] ["_law_one", "_law_two"] (defScope sLTimes) := ⟨rfl, rfl, rfl, by decide +kernel, rfl, by decide +kernel, by decide +kernel⟩
theorem kn_law_times (D : DefIs K mg "_law_times" sLTimes) (B : Kn P w K mg base "_law_q" 2 ["_law_top", "_law_bottom"] spQ) : Kn P w K mg base "_law_times" 3 ["_law_one", "_law_two"] (spLaw2 (okTup rTimes)) := by
  refine .of D (fun _ _ _ _ _ _ us hl => match us, hl with | [_, _], _ => rfl) fun _ _ F => ?_
  refine F.ok scLTimes (fun vs H Q E h => ?_) (fun cdv A outer s H vs Q E hr h => ?_)
  · obtain ⟨p1, p2, a, b, rfl, _⟩ := h
    rfl
  · obtain ⟨p1, p2, a, b, rfl, e1, e2, q1, q2, k⟩ := h
    refine ⟨_, pss_one (ps_ret (pe_kn B hr (pa_cons (pe_op op_mulW (pe_ix ix_tup (pv 0) pe_int (fun _ _ => rfl)) (pe_ix ix_tup (pv 1) pe_int (fun _ _ => rfl))) (pa_cons (pe_op op_mulW (pe_ix ix_tup (pv 0) pe_int (fun _ _ => rfl)) (pe_ix ix_tup (pv 1) pe_int (fun _ _ => rfl))) pa_nil)))), ?_⟩
    have hb : 0 < a.2 * b.2 := Int.mul_pos q1.2.2 q2.2.2
    have hs : (a.2 * b.2).natAbs < 2 ^ 250 := Nat.lt_of_lt_of_le (prod240 q1.2.1 q2.2.1) (Nat.pow_le_pow_right (by decide) (by decide))
    refine ⟨_, rfl, p1, _, _, _, rfl, rfl, .inl (.inl e1), atI_nat (j := 0) rfl, _, rfl, p2, _, _, _, rfl, rfl, .inl (.inl e2), atI_nat (j := 0) rfl, _, _, rfl, rfl, mulW q1.1 q2.1, _, rfl, p1, _, _, _, rfl, rfl, .inl (.inl e1), atI_nat (j := 1) rfl, _, rfl, p2, _, _, _, rfl, rfl, .inl (.inl e2), atI_nat (j := 1) rfl, _, _, rfl, rfl, mulW q1.2.1 q2.2.1, _, _, rfl, hb, Nat.lt_of_lt_of_le (prod240 q1.1 q2.1) (Nat.pow_le_pow_right (by decide) (by decide)), hs, fun p np => ?_⟩
    exact k p _ upd_same (Same.new (L2.Same.refl H) np)
theorem scLWhole : FnScope ["_law_value"] ["_law_value"] (defScope sLWhole) := ⟨rfl, rfl, rfl, by decide +kernel, rfl, by decide +kernel, by decide +kernel⟩
theorem kn_lwhole (D : DefIs K mg "_law_is_whole" sLWhole) (T : RTxt K mg) : Kn P w K mg base "_law_is_whole" 1 ["_law_value"] spWhole := by
  refine .of D (fun _ _ _ _ _ _ us hl => match us, hl with | [_], _ => rfl) fun _ _ F => ?_
  refine F.ok scLWhole (fun vs H Q E h => ?_) (fun cdv A outer s H vs Q E hr h => ?_)
  · obtain ⟨v, d, rfl, _⟩ := h
    rfl
  · obtain ⟨v, d, rfl, da, k⟩ := h
    refine ⟨_, pss_one (ps_ret (pe_and (pe_callB call_isi (by rfl) T.isi bIsi (pa_cons (pv 0) (pa_cons (pe_bltn (v := .ty "int") rfl T.int bInt rfl) pa_nil)))
      (pe_one (pe_not (pe_callB call_isi (by rfl) T.isi bIsi (pa_cons (pv 0) (pa_cons (pe_bltn (v := .ty "bool") rfl T.bool bBool rfl) pa_nil))))))), ?_⟩
    refine ⟨_, rfl, v, .ty "int", _, _, _, rfl, .ty _, da.ty, kit_int d, _, rfl, ?_⟩
    refine ite2 (fun z => ?_) (fun z => ?_)
    · refine ⟨_, rfl, v, .ty "bool", _, _, _, rfl, .ty _, da.ty, kit_bool d, _, rfl, ?_⟩
      have e : (!(isB d)) = isW d := by
        cases d <;> first | rfl | (simp [isW, isB] at z)
      rw [e]
      exact k
    · have e : isW d = false := by
        cases d <;> first | rfl | (simp [isW, isB] at z)
      rw [e] at k
      exact k
theorem scLRatio : FnScope ["_law_value"] ["_law_value"] (defScope sLRatio) := ⟨rfl, rfl, rfl, by decide +kernel, rfl, by decide +kernel, by decide +kernel⟩
theorem kn_lratio (D : DefIs K mg "_law_is_ratio" sLRatio) (T : RTxt K mg) (BW : Kn P w K mg base "_law_is_whole" 1 ["_law_value"] spWhole) (BG : Kn P w K mg base "_law_gcd" 1 ["_law_one", "_law_two"] spGcd) : Kn P w K mg base "_law_is_ratio" 2 ["_law_value"] spLRat := by
  refine .of D (fun _ _ _ _ _ _ us hl => match us, hl with | [_], _ => rfl) fun _ _ F => ?_
  refine F.ok scLRatio (fun vs H Q E h => ?_) (fun cdv A outer s H vs Q E hr h => ?_)
  · obtain ⟨p, a, b, rfl, _⟩ := h
    rfl
  · obtain ⟨p, a, b, rfl, e, ha, hb, b0, g, k⟩ := h
    refine ⟨_, pss_cons (ps_if (PW.pt (pw_or (pt_not (pt_val (pe_callB call_isi (by rfl) T.isi bIsi (pa_cons (pv 0) (pa_cons (pe_bltn (v := .ty "tuple") rfl T.tuple bTuple rfl) pa_nil)))))
        (pw_or (pt_cmpR op_ne (pe_callB call_len_seq (by rfl) T.len PySem.boot_len (pa_cons (pv 0) pa_nil)) pe_int (nomark _)) (pw_or (pt_not (pt_val (pe_kn BW hr (pa_cons (pe_ix ix_tup (pv 0) pe_int (fun _ _ => rfl)) pa_nil)))) (pw_or1 (pt_not (pt_val (pe_kn BW hr (pa_cons (pe_ix ix_tup (pv 0) pe_int (fun _ _ => rfl)) pa_nil))))))))) (pss_one (ps_ret pe_bl)) pss_nil)
      (pss_one (ps_ret (pe_and (pe_cmpR op_gt (pe_ix ix_tup (pv 0) pe_int (fun _ _ => rfl)) pe_int (nomark _)) (pe_one (pe_cmpR op_eq (pe_kn BG hr (pa_cons (pe_ix ix_tup (pv 0) pe_int (fun _ _ => rfl)) (pa_cons (pe_ix ix_tup (pv 0) pe_int (fun _ _ => rfl)) pa_nil))) pe_int (nomark _)))))), ?_⟩
    have da : Da H (.ref p) (.tuple [.int a, .int b]) := .tup e (.cons (.int _) (.cons (.int _) .nil))
    refine ⟨_, rfl, .ref p, .ty "tuple", _, _, _, rfl, .ty _, da.ty, if_pos (beq_self_eq_true _), _, rfl, iteF ?_⟩
    refine ⟨_, rfl, p, _, rfl, .inr (.inl (.inl e)), rfl, _, rfl, iteF ?_⟩
    refine ⟨_, rfl, p, _, _, _, rfl, rfl, .inl (.inl e), atI_nat (j := 0) rfl, .int a, .int a, rfl, .int a, _, rfl, iteF ?_⟩
    refine ⟨_, rfl, p, _, _, _, rfl, rfl, .inl (.inl e), atI_nat (j := 1) rfl, .int b, .int b, rfl, .int b, _, rfl, iteF ?_⟩
    refine ⟨_, rfl, p, _, _, _, rfl, rfl, .inl (.inl e), atI_nat (j := 1) rfl, _, _, rfl, rfl, _, rfl, ?_⟩
    refine iteT' (decide_eq_true b0) ?_
    refine ⟨_, rfl, p, _, _, _, rfl, rfl, .inl (.inl e), atI_nat (j := 0) rfl, _, rfl, p, _, _, _, rfl, rfl, .inl (.inl e), atI_nat (j := 1) rfl, a, b, rfl, ha, hb, ?_⟩
    rw [g]
    exact ⟨rfl, k⟩
end
end GG

namespace GG
open PySem PySem.Spec PyProof.Rows L2 RZ
abbrev sLGain : Stmt := topS 58
section
variable {P : Program} {w : World} {K : PySem.W.Frag} {mg : Str → Option Value} {base : Heap}
abbrev NBe : List Str := ["_law_numbers_here", "_law_prices", "_law_b", "_law_p"]
theorem scLBest : FnScope NBe ["_law_numbers_here", "_law_prices"] (defScope sLBest) := ⟨rfl, rfl, rfl, by decide +kernel, rfl, by decide +kernel, by decide +kernel⟩
theorem kn_law_best (D : DefIs K mg "_law_best" sLBest) (zz : mg "zip" = none) (zm : mg "max" = none) : Kn P w K mg base "_law_best" 1 ["_law_numbers_here", "_law_prices"] spBest := by
  refine .of D (fun _ _ _ _ _ _ us hl => match us, hl with | [_, _], _ => rfl) fun fa _ F => ?_
  refine F.ok scLBest (fun vs H Q E h => ?_) (fun cdv A outer s H vs Q E hr h => ?_)
  · obtain ⟨a, q, bs, ps, rfl, _⟩ := h
    rfl
  · obtain ⟨a, q, bs, ps, rfl, ea, eq, ln, l9, hb, hp, k⟩ := h
    refine ⟨_, pss_one (ps_ret (pe_callB (cr_max rfl) (by rfl) zm bMax (pa_cons (pe_op op_cat (pe_lst (pa_cons pe_int pa_nil))
        (pe_lc (own := [("_law_b", 2), ("_law_p", 3)]) (g := gTup K 2 (gCons (gName 2) (gCons (gName 3) gNil))) (tt := tTest (tOp (rI0 fun i j => V.bl (decide (j < i))) (tVar 2) (tC (.int 0)))) (te := tOp (rI0 fun i j => V.int (i - j)) (tVar 2) (tVar 3)) rfl scLBest.nd (pi_zipA rfl zz (pa_cons (pv 0) (pa_cons (pv 1) pa_nil))) (blkOk_by (N := NBe) (sc := defScope sLBest) (by decide +kernel))
          (fun _ _ _ _ _ => pg_tup rfl (pgs_cons (pg_name (i := 2) scLBest.nd rfl (.inl rfl)) (pgs_cons (pg_name (i := 3) scLBest.nd rfl (.inl rfl)) pgs_nil))) (fun _ _ _ _ _ => pts_one (pt_cmpR op_gt (pv 2) pe_int (nomark _))) (fun _ _ _ _ _ => pe_op op_sub (pv 2) (pv 3)))) pa_nil))), ?_⟩
    refine ⟨(by show 1 ≤ sizeLine; rw [sizeLine_eq]; decide), fun r0 nr0 => ?_⟩
    have S0 := GG.Same.new (L2.Same.refl H) nr0 (o := .lst [.int 0])
    have e0 : (upd H r0 (.lst [.int 0])) r0 = some (.lst [.int 0]) := upd_same
    generalize (upd H r0 (.lst [.int 0])) = H0 at S0 e0 ⊢
    refine ⟨_, rfl, _, rfl, a, q, _, _, rfl, .inl ⟨SqL.of (S0 _ _ ea), SqL.of (S0 _ _ eq), fun D0 nD => ?_⟩⟩
    have lb : (bs.map V.int).length = bs.length := List.length_map ..
    have lp : (ps.map V.int).length = ps.length := List.length_map ..
    refine lc_zipL (by rw [lb, lp, ln]) (fun i G => Same H0 G ∧ G D0 = some (.lst ((bestL (bs.take i) (ps.take i)).map V.int)) ∧ (bestL (bs.take i) (ps.take i)).length ≤ i) ⟨GG.Same.new (L2.Same.refl H0) nD, upd_same, Nat.zero_le _⟩ (fun i G z => ⟨SqL.of (z.1 _ _ (S0 _ _ ea)), SqL.of (z.1 _ _ (S0 _ _ eq))⟩) (fun i x y T G hx hy z nT => ?_) (fun G z => ?_)
    · obtain ⟨S, eD, lD⟩ := z
      rw [List.getElem?_map] at hx hy
      obtain ⟨xi, hxi, rfl⟩ := Option.map_eq_some_iff.mp hx
      obtain ⟨yi, hyi, rfl⟩ := Option.map_eq_some_iff.mp hy
      have il := (List.getElem?_eq_some_iff.mp hxi).1
      have ST := GG.Same.new (L2.Same.refl G) nT (o := .tup [.int xi, .int yi])
      have eT : (upd G T (.tup [.int xi, .int yi])) T = some (.tup [.int xi, .int yi]) := upd_same
      generalize (upd G T (.tup [.int xi, .int yi])) = G1 at ST eT ⊢
      refine ⟨T, _, rfl, .inl (.inl eT), rfl, _, _, rfl, _, _, rfl, rfl, rfl, ?_⟩
      refine ⟨_, rfl, _, _, rfl, rfl, _, rfl, ?_⟩
      have tk := bestL_take hxi hyi
      refine ite2 (fun z => ?_) (fun z => ?_)
      · rw [if_pos (of_decide_eq_true z)] at tk
        refine ⟨_, rfl, _, rfl, _, _, rfl, rfl, _, ST _ _ eD, by rw [List.length_map, sizeLine_eq]; omega, ?_, ?_, ?_⟩
        · intro c o ec
          rw [upd_ne (ne_of_none ec nD)]
          exact ST _ _ (S c o ec)
        · rw [upd_same, tk, List.map_append]
          rfl
        · rw [tk, List.length_append, List.length_cons, List.length_nil]
          omega
      · rw [if_neg (by simpa using z), List.append_nil] at tk
        refine ⟨L2.Same.trans S ST, ?_, ?_⟩
        · rw [tk]
          exact ST _ _ eD
        · rw [tk]
          omega
    · obtain ⟨S, eD, lD⟩ := z
      rw [lb, List.take_length, ln, List.take_length] at eD lD
      refine ⟨r0, D0, _, _, rfl, rfl, S _ _ e0, eD, by rw [List.length_map, sizeLine_eq]; simp; omega, fun l2 nl2 => ?_⟩
      have S2 := GG.Same.new (L2.Same.refl G) nl2 (o := .lst ([.int 0] ++ (bestL bs ps).map V.int))
      have e2 : (upd G l2 (.lst ([.int 0] ++ (bestL bs ps).map V.int))) l2 = some (.lst ((0 :: bestL bs ps).map V.int)) := upd_same
      generalize (upd G l2 (.lst ([.int 0] ++ (bestL bs ps).map V.int))) = G2 at S2 e2 ⊢
      refine ⟨l2, _, rfl, SqL.of e2, Nat.succ_pos _, fun m hm hle => ?_⟩
      rw [best_law hb hp hm hle]
      exact k G2 (L2.Same.trans S0 (L2.Same.trans S S2))
end
end GG

namespace GG
open PySem PySem.Spec PyProof.Rows L2 RZ
/-- a list's numbers, times 12 -/
def e12 (e : Int × List Int) : Int × List Int := (e.1, e.2.map (12 * ·))
def spLGain : Sp := fun vs H Q _ => ∃ (d R q : Addr) (ys : List V) (es : List (Int × List Int)) (n : Nat) (sc : Int) (ps : List Int), vs = [.ref d, .ref q] ∧ H d = some (dictB n sc R) ∧ H R = some (.lst ys) ∧ Paired (NumR H) ys es ∧ H q = some (.lst (ps.map .int)) ∧ ps.length = n ∧ n ≤ 3 ∧ es.length ≤ 60 ∧
  (∀ e ∈ es, e.2.length = n ∧ e.1.natAbs < 2 ^ 250 ∧ ∀ z ∈ e.2, 0 ≤ z ∧ z.natAbs < 2 ^ 100) ∧ (∀ z ∈ ps, 0 ≤ z ∧ z.natAbs < 2 ^ 240) ∧ ∀ H', Same H H' → Q (.int (gainI (es.map e12) ps)) H'
section
variable {P : Program} {w : World} {K : PySem.W.Frag} {mg : Str → Option Value} {base : Heap}
abbrev NLg : List Str := ["_law_bids", "_law_prices", "_law_w", "_law_numbers_here", "_law_b"]
theorem scLGain : FnScope NLg ["_law_bids", "_law_prices"] (defScope sLGain) := ⟨rfl, rfl, rfl, by decide +kernel, rfl, by decide +kernel, by decide +kernel⟩
theorem kn_law_gain (D : DefIs K mg "_law_gain" sLGain) (zs : mg "sum" = none) (BB : Kn P w K mg base "_law_best" 1 ["_law_numbers_here", "_law_prices"] spBest) : Kn P w K mg base "_law_gain" 2 ["_law_bids", "_law_prices"] spLGain := by
  refine .of D (fun _ _ _ _ _ _ us hl => match us, hl with | [_, _], _ => rfl) fun fa _ F => ?_
  refine F.ok scLGain (fun vs H Q E h => ?_) (fun cdv A outer s H vs Q E hr h => ?_)
  · obtain ⟨d, R, q, ys, es, n, sc, ps, rfl, _⟩ := h
    rfl
  · obtain ⟨d, R, q, ys, es, n, sc, ps, rfl, ed, eR, pR, eq, lq, n3, l60, ok, okp, k⟩ := h
    have hu := hu_of hr
    refine ⟨_, pss_one (ps_ret (pe_callB (cr_sum rfl) (by rfl) zs bSum (pa_cons (pe_lc (own := [("_law_w", 2), ("_law_numbers_here", 3)]) (g := gTup K 2 (gCons (gName 2) (gCons (gName 3) gNil))) (tt := tYes) rfl scLGain.nd (pi_list (pe_dget hu (pv 0) pe_str (fun _ _ => rfl))) (blkOk_by (N := NLg) (sc := defScope sLGain) (by decide +kernel))
        (fun _ _ _ _ _ => pg_tup rfl (pgs_cons (pg_name (i := 2) scLGain.nd rfl (.inl rfl)) (pgs_cons (pg_name (i := 3) scLGain.nd rfl (.inl rfl)) pgs_nil))) (fun _ _ _ _ _ => pts_nil)
        (fun _ _ _ _ _ => pe_op op_mulW (pv 2) (pe_kn BB hr (pa_cons
          (pe_lc (own := [("_law_b", 4)]) (wi := iEi K (tVar 3)) (g := gName 4) (tt := tYes) (te := tOp (rI CMulW fun i j => .int (i * j)) (tC (.int 12)) (tVar 4)) rfl scLGain.nd (pi_ei (pv 3)) (blkOk_by (N := NLg) (by kernel_rfl))
            (fun _ _ _ _ _ => pg_name (i := 4) scLGain.nd rfl (.inl rfl)) (fun _ _ _ _ _ => pts_nil)
            (fun _ _ _ _ _ => pe_op op_mulW pe_int (pv 4))) (pa_cons (pv 1) pa_nil))))) pa_nil))), ?_⟩
    have dr : ∀ G, Same H G → DGet G d (.str "rows") (some (.ref R)) := fun G S => .inl ⟨_, .inr "rows", .inl (S _ _ ed), rfl, by kernel_rfl⟩
    have ly := Paired.length pR
    refine ⟨_, rfl, d, _, rfl, dr H (L2.Same.refl H), R, rfl, ⟨_, SqL.of eR⟩, fun D nD => ?_⟩
    refine lc_list (xs := ys) (fun i G => Same H G ∧ G D = some (.lst ((((es.take i).map e12).map fun e => e.1 * bestI e.2 ps).map V.int))) ⟨GG.Same.new (L2.Same.refl H) nD, upd_same⟩ (fun i G _ p => SqL.of (p.1 _ _ eR)) (fun i x G hx p => ?_) (fun G p => ?_)
    · obtain ⟨S, eD⟩ := p
      obtain ⟨e, he, nr⟩ := paired_at pR hx
      have il := (List.getElem?_eq_some_iff.mp he).1
      obtain ⟨le, we, bz⟩ := ok e (List.mem_of_getElem? he)
      obtain ⟨t, b, rfl, e1, e2, e3⟩ := NumR.stay (Same.stay S) nr
      refine ⟨t, _, rfl, .inl (.inl e1), rfl, _, _, rfl, _, _, rfl, rfl, rfl, ?_⟩
      have sq : SqL K G b (e.2.map V.int) ∨ SqT K G b (e.2.map V.int) := by
        rcases e2 with z | z
        · exact .inl (SqL.of z)
        · exact .inr (SqT.of z)
      refine ⟨_, rfl, _, rfl, b, rfl, ?_⟩
      refine lc_ei sq (fun D2 j G2 => Same G G2 ∧ G2 D2 = some (.lst (((e.2.take j).map (12 * ·)).map V.int))) (fun D2 nD2 => ⟨GG.Same.new (L2.Same.refl G) nD2, upd_same⟩) (fun D2 nD2 j G2 p => p.1) (fun D2 nD2 j x G2 hx2 p => ?_) (fun D2 nD2 G2 p => ?_)
      · obtain ⟨S2, eD2⟩ := p
        rw [List.getElem?_map] at hx2
        obtain ⟨z, hz, rfl⟩ := Option.map_eq_some_iff.mp hx2
        have jl := (List.getElem?_eq_some_iff.mp hz).1
        refine ⟨rfl, ?_⟩
        refine ⟨_, rfl, _, _, rfl, rfl, mulW (by decide) (Nat.lt_of_lt_of_le (bz z (List.mem_of_getElem? hz)).2 (Nat.pow_le_pow_right (by decide) (by decide))), _, eD2, by rw [List.length_map, List.length_map, List.length_take, sizeLine_eq]; omega, ?_, ?_⟩
        · intro c o ec
          rw [upd_ne (ne_of_none ec nD2)]
          exact S2 c o ec
        · rw [upd_same, take_snoc hz, List.map_append, List.map_append]
          rfl
      · obtain ⟨S2, eD2⟩ := p
        rw [List.length_map, List.take_length] at eD2
        refine ⟨_, rfl, D2, q, e.2.map (12 * ·), ps, rfl, eD2, S2 _ _ (S _ _ eq), by rw [List.length_map, le, lq], by omega, fun z hz => ?_, fun z hz => (okp z hz).1, fun G3 S3 => ?_⟩
        · obtain ⟨y, hy, rfl⟩ := List.mem_map.mp hz
          have := (bz y hy).1
          show 0 ≤ 12 * y
          omega
        · have hw : (bestI (e.2.map (12 * ·)) ps).natAbs < 2 ^ 250 := zip_abs (fun z hz => by
            obtain ⟨y, hy, rfl⟩ := List.mem_map.mp hz
            have h1 := (bz y hy).2
            have h2 : (12 : Nat) * 2 ^ 100 < 2 ^ 240 := by decide
            show (12 * y).natAbs < 2 ^ 240
            rw [Int.natAbs_mul]
            show 12 * y.natAbs < 2 ^ 240
            omega) (fun z hz => (okp z hz).2)
          have h1 := log250 we
          have h2 := log250 hw
          have S23 := L2.Same.trans S2 S3
          refine ⟨_, _, rfl, rfl, (by show e.1.natAbs.log2 + (bestI (e.2.map (12 * ·)) ps).natAbs.log2 < 1000000; omega), _, S23 _ _ eD, by rw [List.length_map, List.length_map, List.length_map, List.length_take, sizeLine_eq]; omega, ?_, ?_⟩
          · intro c o ec
            rw [upd_ne (ne_of_none ec nD)]
            exact S23 c o (S c o ec)
          · rw [upd_same, take_snoc he, List.map_append, List.map_append, List.map_append]
            rfl
    · obtain ⟨S, eD⟩ := p
      rw [ly, List.take_length] at eD
      exact ⟨D, _, rfl, SqL.of eD, k G S⟩
end
end GG

namespace GG
open PySem PySem.Spec PyProof.Rows L2 RZ
/-! ### prices as a caller may pass them -/
abbrev sLPP : Stmt := topS 59
/-- the scale times 12 is one of the bottoms -/
theorem sc_dvd {sc : Int} (h : sc = 1 ∨ sc = 2 ∨ sc = 10) : (12 * sc).natAbs ∣ NN := by
  rcases h with rfl | rfl | rfl <;> decide
theorem okR_lwB {z b : Int} (z0 : 0 ≤ z) (z1 : z.natAbs < 2 ^ 90) (b0 : 0 < b) (bN : b.natAbs ∣ NN) : okR NN (lw z b) := by
  obtain ⟨e1, e2⟩ := lw_exact z b
  obtain ⟨s1, s2, s3⟩ := lw_small (t := z) b0
  have g0 : 0 < Nat.gcd z.natAbs b.natAbs := Nat.gcd_pos_of_pos_right _ (by omega)
  refine ⟨⟨s3, ?_, ?_⟩, lw_copr b0, ?_⟩
  · refine Nat.dvd_trans ⟨Nat.gcd z.natAbs b.natAbs, ?_⟩ bN
    have h := congrArg Int.natAbs e2
    rw [Int.natAbs_mul, Int.natAbs_natCast] at h
    exact h.symm
  · have : (2 : Nat) ^ 90 < 2 ^ 120 := by decide
    omega
  · by_cases q : 0 ≤ (lw z b).1
    · exact q
    · exfalso
      have : (lw z b).1 * ((Nat.gcd z.natAbs b.natAbs : Nat) : Int) < 0 := Int.mul_neg_of_neg_of_pos (by omega) (by omega)
      omega
def spLPP : Sp := fun vs H Q _ => ∃ (p l d R q : Addr) (c : Int) (n : Nat) (sc : Int) (ps : List Int), vs = [.ref p, .ref d, .ref q] ∧ PenAt H p l c ∧ c < 9000000 ∧ H d = some (dictB n sc R) ∧ H q = some (.lst (ps.map .int)) ∧ ps.length ≤ 3 ∧ (sc = 1 ∨ sc = 2 ∨ sc = 10) ∧ (∀ z ∈ ps, 0 ≤ z ∧ z.natAbs < 2 ^ 90) ∧
  ∀ (x : Addr) (vs : List V) (ds : List PyData) (c' : Int) (H' : Hp), H' x = some (.tup vs) → DaAll H' vs ds → Paired NumD ds (ps.map fun z => lw z (12 * sc)) → c' ≤ c + 9 → PenAt H' p l c' → Keep p H H' → Q (.ref x) H'
section
variable {P : Program} {w : World} {K : PySem.W.Frag} {mg : Str → Option Value} {base : Heap}
abbrev NPp : List Str := ["_law_pen_here", "_law_bids", "_law_prices", "_law_p"]
theorem scLPP : FnScope NPp ["_law_pen_here", "_law_bids", "_law_prices"] (defScope sLPP) := ⟨rfl, rfl, rfl, by decide +kernel, rfl, by decide +kernel, by decide +kernel⟩
theorem kn_lpp (D : DefIs K mg "_law_passed_prices" sLPP) (T : RTxt K mg) (BQ : Kn P w K mg base "_law_q" 2 ["_law_top", "_law_bottom"] spQ) (BP : Kn P w K mg base "_law_passed" 3 ["_law_pen_here", "_law_ratio"] spPassed2) : Kn P w K mg base "_law_passed_prices" 4 ["_law_pen_here", "_law_bids", "_law_prices"] spLPP := by
  refine .of D (fun _ _ _ _ _ _ us hl => match us, hl with | [_, _, _], _ => rfl) fun fa _ F => ?_
  refine F.ok scLPP (fun vs H Q E h => ?_) (fun cdv A outer s H vs Q E hr h => ?_)
  · obtain ⟨p, l, d, R, q, c, n, sc, ps, rfl, _⟩ := h
    rfl
  · obtain ⟨p, l, d, R, q, c, n, sc, ps, rfl, PA, c0, ed, eq, lq, hsc, okp, k⟩ := h
    have hu := hu_of hr
    have hr2 : Room 2 _ := hr.mono (by decide)
    have hr3 : Room 3 _ := hr.mono (by decide)
    refine ⟨_, pss_one (ps_ret (pe_callTy call_tuple_of (by rfl) T.tuple bTuple (pa_cons
      (pe_lc (own := [("_law_p", 3)]) (g := gName 3) (tt := tYes) (te := tCall spPassed2 [] (fun _ _ _ => False) (tCons (tVar 0) (tCons (tCall spQ [] (fun _ _ _ => False) (tCons (tVar 3) (tCons (tOp (rI CMulW fun i j => .int (i * j)) (tC (.int 12)) (tDGet (tVar 1) (tC (.str "scale")))) tNil))) tNil))) rfl scLPP.nd (pi_list (pv 2)) (blkOk_by (N := NPp) (sc := defScope sLPP) (by decide +kernel))
        (fun _ _ _ _ _ => pg_name (i := 3) scLPP.nd rfl (.inl rfl)) (fun _ _ _ _ _ => pts_nil) (fun _ _ _ _ _ => pe_kn BP hr3 (pa_cons (pv 0) (pa_cons (pe_kn BQ hr2 (pa_cons (pv 3) (pa_cons (pe_op op_mulW pe_int (pe_dget hu (pv 1) pe_str (fun _ _ => rfl))) pa_nil))) pa_nil)))) pa_nil))), ?_⟩
    have s0 : 0 < sc := by omega
    have s1 : sc ≤ 10 := by omega
    have dp : d ≠ p := by
      obtain ⟨_, _, _, _, I⟩ := PA
      exact ne_of ed I.obj (by intro z; cases z)
    have qp : q ≠ p := by
      obtain ⟨_, _, _, _, I⟩ := PA
      exact ne_of eq I.obj (by intro z; cases z)
    have dgs : ∀ G, Keep p H G → DGet G d (.str "scale") (some (.int sc)) := fun G S => .inl ⟨_, .inr "scale", .inl (S _ _ dp ed), rfl, by kernel_rfl⟩
    refine ⟨_, rfl, q, rfl, ⟨_, SqL.of eq⟩, fun D nD => ?_⟩
    obtain ⟨pD, lD⟩ := PA.ne nD
    have eD0 : (upd H D (.lst [])) D = some (.lst []) := upd_same
    refine lc_list (xs := ps.map V.int) (fun i G => ∃ (c2 : Int) (vs : List V) (ds : List PyData), PenAt G p l c2 ∧ c2 ≤ c + 3 * i ∧ Keep p H G ∧ G D = some (.lst vs) ∧ Dm (upd H D (.lst [])) G ∧ DaAll (mask (upd H D (.lst [])) G) vs ds ∧ Paired NumD ds ((ps.take i).map fun z => lw z (12 * sc)))
      ⟨c, [], [], PA.new nD, by omega, Keep.refl.new nD, upd_same, Dm.refl, .nil, .nil⟩ (fun i G _ z => ?_) (fun i y G hy z => ?_) (fun G z => ?_)
    · obtain ⟨_, _, _, _, _, KG, _⟩ := z
      exact SqL.of (KG _ _ qp eq)
    · obtain ⟨c2, vs, ds, P', hc2, KG, eD, dm2, da2, pn⟩ := z
      rw [List.getElem?_map] at hy
      obtain ⟨z, hz, rfl⟩ := Option.map_eq_some_iff.mp hy
      have il := (List.getElem?_eq_some_iff.mp hz).1
      obtain ⟨z0, zb⟩ := okp z (List.mem_of_getElem? hz)
      have lvs : vs.length = i := by
        have z1 := Paired.length pn
        rw [List.length_map, List.length_take] at z1
        have z2 := da2.length
        omega
      refine ⟨rfl, ?_⟩
      have s100 : sc.natAbs < 2 ^ 120 := Nat.lt_of_le_of_lt (show sc.natAbs ≤ 10 by omega) (by decide)
      have b250 : (12 * sc).natAbs < 2 ^ 250 := Nat.lt_of_le_of_lt (show (12 * sc).natAbs ≤ 120 by omega) (by decide)
      refine ⟨_, rfl, _, rfl, _, rfl, d, _, rfl, dgs _ KG, _, _, rfl, rfl, mulW (by decide) s100, z, 12 * sc, rfl, by omega, Nat.lt_of_lt_of_le zb (Nat.pow_le_pow_right (by decide) (by decide)), b250, fun q1 nq1 => ?_⟩
      have P1 := P'.new nq1 (o := .tup [.int (lw z (12 * sc)).1, .int (lw z (12 * sc)).2])
      have K1 : Keep p G (upd G q1 (.tup [.int (lw z (12 * sc)).1, .int (lw z (12 * sc)).2])) := Keep.refl.new nq1
      have eq1 : (upd G q1 (.tup [.int (lw z (12 * sc)).1, .int (lw z (12 * sc)).2])) q1 = some (.tup [.int (lw z (12 * sc)).1, .int (lw z (12 * sc)).2]) := upd_same
      have okr : okR NN (lw z (12 * sc)) := okR_lwB z0 zb (by omega) (sc_dvd hsc)
      have md : mid (lw z (12 * sc)) := by
        obtain ⟨t1, t2, t3⟩ := lw_small (t := z) (show 0 < 12 * sc by omega)
        have u1 : (2 : Nat) ^ 90 < 2 ^ 100 := by decide
        exact ⟨by omega, Nat.lt_of_le_of_lt t2 (Nat.lt_of_le_of_lt (show (12 * sc).natAbs ≤ 120 by omega) (by decide)), t3, lw_copr (by omega)⟩
      generalize (upd G q1 (.tup [.int (lw z (12 * sc)).1, .int (lw z (12 * sc)).2])) = G1 at P1 K1 eq1 ⊢
      refine ⟨p, l, q1, c2, lw z (12 * sc), rfl, P1, by omega, eq1, md, fun v dv c3 G2 h1 h2 P2 K2 dd isr rat sm => ?_⟩
      have eD1 := K1 D _ pD.symm eD
      have eD2 := K2 D _ pD.symm eD1
      have st1 := K1.stay P'
      have st2 := K2.stay P1
      refine ⟨vs, eD2, by rw [lvs, sizeLine_eq]; omega, c3, vs ++ [v], ds ++ [dv], P2.put pD lD, by omega, ?_, upd_same, ?_, ?_, ?_⟩
      · intro bb o nb ee
        rw [upd_ne (ne_of_none ee nD)]
        exact K2 bb o nb (K1 bb o nb (KG bb o nb ee))
      · exact ((dm2.trans (Dm.keep K1 P1)).trans (Dm.keep K2 P2)).trans Dm.upd
      · exact DaAll.snoc ((dd.stay (mask_le (dm2.trans (Dm.keep K1 P1)))).stay (mask_upd eD0)) ((da2.stay ((mask_stay st1).trans (mask_stay st2))).stay (mask_upd eD0))
      · rw [take_snoc hz, List.map_append]
        exact Paired.snoc pn ⟨isr, rat, sm⟩
    · obtain ⟨c2, vs, ds, P', hc2, KG, eD, dm2, da2, pn⟩ := z
      rw [List.length_map] at pn hc2
      rw [List.take_length] at pn
      refine ⟨D, vs, rfl, .inl ⟨SqL.of eD, fun x nx => ?_⟩⟩
      have da := da2.stay mask_sub
      have P1 := P'.new nx (o := .tup vs)
      have K1 : Keep p G (upd G x (.tup vs)) := Keep.refl.new nx
      exact k x vs ds c2 _ upd_same (da.stay (K1.stay P')) pn (by omega) P1 (KG.trans K1)
end
end GG

namespace GG
open PySem PySem.Spec PyProof.Rows L2
/-! ### a try whose first except clause takes what comes -/
def wAsOne (K : PySem.W.Frag) (m i : Nat) (D : Ends) (c : Value) (ts : Addr → Value → Option Addr → TS) : WX := fun cls d σ H => PySem.W.exmOne K cls c = some true ∧
  (σ.length = m → ∀ a, H a = none → ts a cls d { nx := fun σ' H' => D.nx (σ'.set i none) H', rt := fun v H' => D.rt v H', bk := fun σ' H' => D.bk (σ'.set i none) H', ct := fun σ' H' => D.ct (σ'.set i none) H' } (σ.set i (some (.ref a))) H)
section
variable {X : Cx} {body : List Stmt} {hds : List ExceptHandler} {pos : Pos} {tb : WX → TS} {n : Str} {i : Nat} {x : Str} {c : Value} {ts : Addr → Value → Option Addr → TS} {b0 : Stmt} {suite : List Stmt} {np hp : Pos}
theorem ps_try_asOne (stk : X.stack = X.env :: X.outer) (own : X.env.frame = some X.env.locals) (nd : X.N.Nodup) (at' : X.N[i]? = some n) (lcl : X.env.kindOf n = some .local)
    (bd : ∀ (W : WX) (pn : List (Addr × Obj)) (xe : Value → Shared → Prop), Takes (X.tr pn xe) W → PassesOwn (model X.prog X.w) X.A X.env xe → PSs (X.tr pn xe) body (tb W))
    (hc : Names X x c)
    (su : ∀ (a : Addr) (oe : Obj) (cls : Value) (d : Option Addr) (pn : List (Addr × Obj)), Zc cls d oe → (∃ vs, oe.data = .fields vs) → PSs (X.suite a ((a, oe) :: pn)) (b0 :: suite) (ts a cls d)) : PS X (.Try body (.ExceptHandler (some (.Name x np)) (some n) (b0 :: suite) hp :: hds) [] [] pos) (fun D σ H => tb (wAsOne X.K X.N.length i D c ts) D σ H) := by
  refine ⟨fun pins s σ H D I want => ?_⟩
  have good := I.ok
  have frm : X.A.frames = some (X.env :: X.outer) := good.frames.trans (congrArg some stk)
  refine wpAny_Try_except ?_
  let catcher : Value → Shared → Prop := fun e s₁ => wpAny (model X.prog X.w) X.A (noteFrame e X.env) (fun _ s₂ => wpAny (model X.prog X.w) X.A (setFlight e none) (fun _ s₃ => wpAny (model X.prog X.w) X.A (handleBy e X.env (.ExceptHandler (some (.Name x np)) (some n) (b0 :: suite) hp :: hds)) (SP X pins D) X.xe s₃) X.xe s₂) X.xe s₁
  have caught : Takes (X.tr (X.pn ++ pins) catcher) (wAsOne X.K X.N.length i D c ts) := by
    rintro u s' ⟨a, B, sI, pins', σ', H', cls, d, rfl, Jt, bareN, up, sky, na, os, ag, wish⟩
    have J : Inv X pins σ' H' sI := Jt.ofTry good
    have sky' : Sky B (X.env :: X.outer) a (Zc cls d) X.env.locals s'.heap := stk ▸ sky
    show wpAny (model X.prog X.w) X.A (noteFrame (.ref a) X.env) _ _ _
    refine Sky.land Zc.steady frm own sky' fun hp3 fly up3 => ?_
    have J3 : Inv X pins σ' H' { s' with heap := hp3 } := J.landed bareN fly.1 (up.trans up3) os ag
    obtain ⟨oe, vs, get, zc, dat⟩ := fly.there
    have outF : a ∉ frs (X.env :: X.outer) := fun m => by
      obtain ⟨_, o2, g2, nf⟩ := fly.2.2.1.mem m
      cases get.symm.trans g2
      exact nf _ dat
    have nL : a ≠ X.env.locals := fun z => outF (List.mem_filterMap.mpr ⟨X.env, List.mem_cons_self, own.trans (congrArg some z.symm)⟩)
    have nF : a ∉ X.fs := fun m => outF (by
      obtain ⟨e, me, q⟩ := List.mem_filterMap.mp m
      exact List.mem_filterMap.mpr ⟨e, List.mem_cons_of_mem _ me, q⟩)
    have S3 := J3.suite get dat na nL nF
    obtain ⟨test, yes⟩ := wish
    refine wpAny_handleBy_cons (codeAny_handlers_test ?_) (by intro z; cases z)
    have LT : PySem.W.Looks (model X.prog X.w) hp3 (typeOf (.ref a)) cls := fun _ _ _ _ k q => wpAny_typeOf_ref (k _ _ get) (by rw [zc.1]; exact q)
    have LM := PySem.W.exm_one (M := model X.prog X.w) J3.kIn LT test
    have name : ∀ {Q : Value → Shared → Prop} {E : Value → Shared → Prop}, Q c { s' with heap := hp3 } → wpAny (model X.prog X.w) (X.A.mark (some (.ref a))) (eval (.Name x np) X.env) Q E { s' with heap := hp3 } := fun {Q E} q => by
      obtain ⟨g1, g2, g3 | ⟨g3, g4, g5⟩⟩ := hc
      · exact ld_glob (X := X.suite a ((a, oe) :: (X.pn ++ pins))) S3 g1 g3 q g2
      · exact ld_blt (X := X.suite a ((a, oe) :: (X.pn ++ pins))) S3 g1 g3 g4 q g5 g2
    refine name (LM.here ?_)
    refine codeAny_handlers_suite_as ?_
    refine HandSPX.lands_againZ fly fun hp4 fly4 up4 => ?_
    have J4 : Inv X pins σ' H' { s' with heap := hp4 } := J.landed bareN fly4.1 ((up.trans up3).trans up4) os ag
    obtain ⟨oe4, vs4, get4, zc4, dat4⟩ := fly4.there
    have S4 := J4.suite get4 dat4 na nL nF
    refine store_ok (X := X.suite a ((a, oe4) :: (X.pn ++ pins))) (v := .ref a) S4 nd at' (.inl lcl) rfl (fun s5 S5 => ?_) (.inr lcl)
    refine wpAny_mono ((su a oe4 cls d (X.pn ++ pins) zc4 ⟨_, dat4⟩).run [] s5 _ H' _ S5 (yes J.len a na)) (fun fl s6 res => ?_) (fun _ _ z => z.elim)
    have behind : ∀ {σ6 : L2.St} {H6 : Hp} {R : Shared → Prop}, Inv (X.suite a ((a, oe4) :: (X.pn ++ pins))) [] σ6 H6 s6 → (∀ s7, Inv X pins (σ6.set i none) H6 s7 → R s7) →
        wpAny (model X.prog X.w) X.A (do bindName X.env n .none; unbindBehindTheSuite X.env n hp) (fun _ s7 => R s7) X.xe s6 := fun S6 q => gone_ok (S6.unsuite good) nd at' lcl q
    cases fl with
    | next =>
      obtain ⟨σ6, H6, S6, q⟩ := res
      exact behind S6 fun s7 J7 => ⟨_, _, J7, q⟩
    | brk =>
      obtain ⟨σ6, H6, S6, q⟩ := res
      exact behind S6 fun s7 J7 => ⟨_, _, J7, q⟩
    | cont =>
      obtain ⟨σ6, H6, S6, q⟩ := res
      exact behind S6 fun s7 J7 => ⟨_, _, J7, q⟩
    | ret u =>
      obtain ⟨v6, σ6, H6, S6, rv, q⟩ := res
      exact behind S6 fun s7 J7 => ⟨_, _, _, J7, rv, q⟩
  refine wpAny_mono ((bd _ (X.pn ++ pins) catcher caught PassesOwn.looking).run [] s σ H D (I.toTry _) want) (fun fl s1 res => ?_) (fun _ _ z => z)
  cases fl with
  | next =>
    obtain ⟨σ', H', J', q⟩ := res
    exact wpAny_execs_nil ⟨σ', H', J'.ofTry good, q⟩
  | brk =>
    obtain ⟨σ', H', J', q⟩ := res
    exact ⟨σ', H', J'.ofTry good, q⟩
  | cont =>
    obtain ⟨σ', H', J', q⟩ := res
    exact ⟨σ', H', J'.ofTry good, q⟩
  | ret u =>
    obtain ⟨v, σ', H', J', rv, q⟩ := res
    exact ⟨v, σ', H', J'.ofTry good, rv, q⟩
end
end GG
namespace GG
open PySem PySem.Spec PyProof.Rows L2 LamX
/-! ### _law_fault of wrong prices -/
abbrev sFault : Stmt := topS 60
abbrev NFa : List Str := ["_law_call", "_law_found", "error"]
structure FTxtR (K : PySem.W.Frag) (mg : Str → Option Value) (CR : Addr) : Prop where
  m : mg "BadRow" = some (.ref CR)
  u : PySem.W.exmOne K (.ref CR) (.ref CR) = some true
  t : ExT K CR
  n : PySem.W.findIn K (.ref CR) "row" = some none
def TFaultR (CR : Addr) : (XK → Hp → VK → Prop) → Hp → VK → Prop := fun tl H Q => ∀ t, H t = none →
  tl (fun cls d H' => cls = .ref CR ∧ ∃ (dd : Addr) (y : V), d = some dd ∧ H' dd = some (.xd [("row", y)]) ∧ ∀ (p : Addr) (H'' : Hp), H'' p = some (.tup [.str "row", y]) → Same H' H'' → Q (.ref p) H'') (upd H t (.tup [.str "none"])) (fun _ H' => ∃ v, ([none, some (V.ref t)] : L2.St)[1]? = some (some v) ∧ Q v H')
theorem scFault : FnScope NFa ["_law_call"] (defScope sFault) := ⟨rfl, rfl, rfl, by decide +kernel, rfl, by decide +kernel, by decide +kernel⟩
theorem faultR_gives {X : Cx} {g CR : Addr} {cdg : Value} {q : Str} (T : FTxtR X.K X.mg CR) : GivesTo X NFa "_law_fault" (defScope sFault) g cdg (defBody sFault) "_law_call" q (TFaultR CR) := by
  intro f c' s H Q tl act hc h
  refine ⟨_, pss_cons (ps_set (i := 1) scFault.nd rfl (.inl rfl) (pe_tup (pa_cons pe_str pa_nil))) (pss_cons (ps_try_asOne (X := (cxOf C8.CX0 X.prog X.w X.K X.mg X.base NFa "_law_fault" (defScope sFault) g cdg X.A X.stack s H C8.E0).nox) (i := 2) (n := "error")
      (tb := fun W D σ H => ∃ Ech : XK, (∀ cls d σ' H', Ech cls d H' → W cls d σ' H') ∧ σ[0]? = some (some (.ref f)) ∧ H c' = some (CodeO c' q) ∧ tl Ech H (fun _ H1 => D.nx σ H1))
      rfl rfl scFault.nd rfl rfl (fun W pn xe tk _ => ?_)
      ⟨rfl, by decide, .inl T.m⟩ (fun a oe cls d pn hz hf => pss_one (ps_set (i := 1) scFault.nd rfl (.inl rfl) (pe_tup (pa_cons pe_str (pa_cons (pe_xf (XfC.of T.t) T.n hz hf (pv 2) rfl) pa_nil))))))
      (pss_one (ps_ret (pv 1)))), ?_⟩
  · refine ⟨fun pins s' σ H' D I h' => ?_⟩
    obtain ⟨Ech, hW, h1, h2, h3⟩ := h'
    exact PSs.run (pss_one (ps_expr (act W pn xe Ech _ _ tk hW))) pins s' σ H' D I ⟨h1, h2, h3⟩
  · refine ⟨(by show 1 ≤ sizeLine; rw [sizeLine_eq]; decide), fun t nt => ?_⟩
    refine ⟨_, fun cls d σ' H' e => ?_, rfl, ?_, h t nt⟩
    · obtain ⟨rfl, dd, y, rfl, ed, k⟩ := e
      refine ⟨T.u, fun len a na => ?_⟩
      obtain ⟨x0, x1, x2, rfl⟩ : ∃ x0 x1 x2, σ' = [x0, x1, x2] := by
        match σ', len with
        | [x0, x1, x2], _ => exact ⟨_, _, _, rfl⟩
      refine ⟨_, rfl, rfl, rfl, dd, _, y, rfl, ed, by kernel_rfl, (by show 2 ≤ sizeLine; rw [sizeLine_eq]; decide), fun p np => ?_⟩
      exact ⟨_, rfl, k p _ upd_same (GG.Same.new (L2.Same.refl H') np)⟩
    · rw [upd_ne (ne_of_none hc nt)]
      exact hc
end GG

namespace GG
open PySem PySem.Spec PyProof.Rows L2 RZ
/-! ### wrong prices -/
abbrev sSpoiled : Stmt := topS 63
theorem row_lay : PyData.strOk (Str.ofString "row") = true := by decide +kernel
/-- data that compare with themselves and are no prices -/
def BadOk (n : Nat) (d : PyData) : Prop := areP d (n : Int) = false ∧ smallS d ∧ noD d = true ∧ SeqAt.shaped (.tuple [.str "row", d]) = true ∧ PyData.eqv d d = true
structure It0 (x : PyData) : Prop where
  lay : PyData.canLay0 x = true
  dep : x.depth ≤ 2
  eqv : PyData.eqv x x = true
  nod : noD x = true
  sm : smallR x
theorem It0.int {i : Int} (h : i.natAbs < 2 ^ 120) : It0 (.int i) := ⟨by simp [PyData.canLay0], by simp [PyData.depth], by simp [PyData.eqv], by simp [noD], h⟩
theorem it_lay : ∀ {ds : List PyData}, (∀ x ∈ ds, It0 x) → PyData.canLayAll0 ds = true ∧ PyData.depthAll ds ≤ 2 ∧ PyData.eqvAll ds ds = true ∧ noDs ds = true := by
  intro ds
  induction ds with
  | nil => intro _; exact ⟨by simp [PyData.canLayAll0], by simp [PyData.depthAll], by simp [PyData.eqvAll], by simp [noDs]⟩
  | cons d ds ih =>
    intro h
    obtain ⟨a1, a2, a3, a4⟩ := ih fun x hx => h x (List.mem_cons_of_mem _ hx)
    obtain ⟨b1, b2, b3, b4, _⟩ := h d List.mem_cons_self
    refine ⟨by simp [PyData.canLayAll0, a1, b1], ?_, by simp [PyData.eqvAll, a3, b3], by simp [noDs, a4, b4]⟩
    simp only [PyData.depthAll]
    omega
theorem bad_seq {n : Nat} {ds : List PyData} (h : ∀ x ∈ ds, It0 x) (l : ds.length ≤ 1000) (bad : ds.length ≠ n ∨ ∃ x ∈ ds, isZ x = false) : BadOk n (.list ds) ∧ BadOk n (.tuple ds) := by
  obtain ⟨a1, a2, a3, a4⟩ := it_lay h
  have ar : (decide ((ds.length : Int) = (n : Int)) && ds.all isZ) = false := by
    rcases bad with q | ⟨x, hx, z⟩
    · rw [decide_eq_false (by omega)]
      rfl
    · rw [Bool.and_eq_false_iff]
      right
      rw [List.all_eq_false]
      exact ⟨x, hx, by rw [z]; decide⟩
  have sm : ds.length ≤ 1000 ∧ ∀ x ∈ ds, smallR x := ⟨l, fun x hx => (h x hx).sm⟩
  constructor
  · refine ⟨ar, sm, by simp [noD, a4], ?_, by simp [PyData.eqv, a3]⟩
    show (PyData.canLay0 _ && decide (PyData.depth _ ≤ 64)) = true
    rw [Bool.and_eq_true]
    refine ⟨by simp [PyData.canLay0, PyData.canLayAll0, a1, row_lay], decide_eq_true ?_⟩
    simp only [PyData.depth, PyData.depthAll]
    omega
  · refine ⟨ar, sm, by simp [noD, a4], ?_, by simp [PyData.eqv, a3]⟩
    show (PyData.canLay0 _ && decide (PyData.depth _ ≤ 64)) = true
    rw [Bool.and_eq_true]
    refine ⟨by simp [PyData.canLay0, PyData.canLayAll0, a1, row_lay], decide_eq_true ?_⟩
    simp only [PyData.depth, PyData.depthAll]
    omega
theorem DaAll.set {H : Hp} {v : V} {d : PyData} (h : Da H v d) : ∀ {vs : List V} {ds : List PyData} (j : Nat), DaAll H vs ds → DaAll H (vs.set j v) (ds.set j d)
  | _, _, _, .nil => .nil
  | _, _, 0, .cons _ t => .cons h t
  | _, _, j + 1, .cons a t => .cons a (DaAll.set h j t)
theorem DaAll.get' {H : Hp} {vs : List V} {ds : List PyData} (h : DaAll H vs ds) {v : V} (hv : v ∈ vs) : ∃ d ∈ ds, Da H v d := by
  induction h using DaAll.rec (motive_1 := fun _ _ _ => True) with
  | nil => cases hv
  | cons a t _ ih =>
    rcases List.mem_cons.mp hv with rfl | q
    · exact ⟨_, List.mem_cons_self, a⟩
    · obtain ⟨d, hd, x⟩ := ih q
      exact ⟨d, List.mem_cons_of_mem _ hd, x⟩
  | _ => trivial
def spSpoiled : Sp := fun vs H Q _ => ∃ (p l b : Addr) (c : Int) (n : Nat) (xs : List V) (ds : List PyData), vs = [.ref p, .int (n : Int), .ref b] ∧ PenAt H p l c ∧ c < 9000000 ∧ 1 ≤ n ∧ n ≤ 3 ∧ H b = some (.lst xs) ∧ DaAll H xs ds ∧ 0 < xs.length ∧ xs.length < 1000000 ∧ (∀ d ∈ ds, It0 d ∧ isZ d = false) ∧
  ∀ (v : V) (d : PyData) (c' : Int) (H' : Hp), Da H' v d → BadOk n d → c' ≤ c + 6 → PenAt H' p l c' → Keep p H H' → Q v H'
section
variable {P : Program} {w : World} {K : PySem.W.Frag} {mg : Str → Option Value} {base : Heap}
abbrev NSp : List Str := ["_law_pen_here", "_law_kinds", "_law_bad", "_law_row", "_law_kind"]
theorem scSpoiled : FnScope NSp ["_law_pen_here", "_law_kinds", "_law_bad"] (defScope sSpoiled) := ⟨rfl, rfl, rfl, by decide +kernel, rfl, by decide +kernel, by decide +kernel⟩
theorem kn_spoiled (D : DefIs K mg "_law_spoiled" sSpoiled) (T : RTxt K mg) (zr : mg "range" = none) (B1 : Kn P w K mg base "_law_draw" 1 ["_law_pen_here", "_law_many"] spDraw) (B2 : Kn P w K mg base "_law_pick" 2 ["_law_pen_here", "_law_some"] (spPick K)) : Kn P w K mg base "_law_spoiled" 3 ["_law_pen_here", "_law_kinds", "_law_bad"] spSpoiled := by
  refine .of D (fun _ _ _ _ _ _ us hl => match us, hl with | [_, _, _], _ => rfl) fun fa _ F => ?_
  refine F.ok scSpoiled (fun vs H Q E h => ?_) (fun cdv A outer s H vs Q E hr h => ?_)
  · obtain ⟨p, l, b, c, n, xs, ds, rfl, _⟩ := h
    rfl
  · obtain ⟨p, l, b, c, n, xs, ds, rfl, PA, c0, n1, n3, eb, da, x0, x1, ok, k⟩ := h
    have hr1 : Room 1 _ := hr.mono (by decide)
    refine ⟨_, pss_cons (ps_setLc (i := 3) (own := [("_law_kind", 4)]) (g := gName 4) (tt := tYes) rfl scSpoiled.nd rfl rfl (sw_true rfl rfl rfl (by decide +kernel)) (pi_range1 rfl zr (pa_cons (pv 1) pa_nil)) (blkOk_by (N := NSp) (sc := defScope sSpoiled) (by decide +kernel))
          (fun _ _ _ _ _ => pg_name (i := 4) scSpoiled.nd rfl (.inl rfl)) (fun _ _ _ _ _ => pts_nil)
          (fun _ _ _ _ _ => pe_kn B1 hr1 (pa_cons (pv 0) (pa_cons pe_int pa_nil))))
      (pss_cons (ps_asg (pe_kn B2 hr (pa_cons (pv 0) (pa_cons (pv 2) pa_nil))) (pg_sub (pv 3) (pe_kn B1 hr1 (pa_cons (pv 0) (pa_cons (pv 1) pa_nil))) set_list))
      (pss_one (ps_ret (pe_kn B2 hr (pa_cons (pv 0) (pa_cons (pe_lst (pa_cons (pv 3) (pa_cons (pe_callTy call_tuple_of (by rfl) T.tuple bTuple (pa_cons (pv 3) pa_nil)) pa_nil))) pa_nil)))))), ?_⟩
    refine ⟨_, rfl, (n : Int), rfl, by omega, by omega, fun D nD => ?_⟩
    rw [Int.toNat_natCast]
    obtain ⟨pD, lD⟩ := PA.ne nD
    have bp : b ≠ p := by
      obtain ⟨_, _, _, _, I⟩ := PA
      exact ne_of eb I.obj (by intro z; cases z)
    refine lc_range (lo := 0) (n := n) (fun j G => ∃ (ns : List Int), PenAt G p l (c + j) ∧ Keep p H G ∧ G D = some (.lst (ns.map V.int)) ∧ ns.length = j ∧ ∀ z ∈ ns, 0 ≤ z ∧ z < 4)
      ⟨[], by simpa using PA.new nD, Keep.refl.new nD, upd_same, rfl, fun z hz => nomatch hz⟩ ?_ ?_
    · rintro j G hj ⟨ns, P', K', eD, ln, bn⟩
      refine ⟨rfl, ?_⟩
      refine ⟨_, rfl, p, l, c + j, 4, rfl, P', by omega, by omega, by omega, fun r1 G1 r10 r11 P1 K1 => ?_⟩
      have eD1 := K1 D _ pD.symm eD
      refine ⟨_, eD1, by rw [List.length_map, ln, sizeLine_eq]; omega, ns ++ [r1], ?_, ?_, ?_, ?_, ?_⟩
      · have := P1.put pD lD (o := .lst (ns.map V.int ++ [.int r1]))
        rw [show c + ((j + 1 : Nat) : Int) = c + j + 1 from by omega]
        exact this
      · intro b o nb e
        rw [upd_ne (ne_of_none e nD)]
        exact K1 b o nb (K' b o nb e)
      · rw [upd_same, List.map_append]
        rfl
      · rw [List.length_append, ln]
        rfl
      · intro y hy
        rcases List.mem_append.mp hy with q | q
        · exact bn y q
        · rw [List.mem_singleton.mp q]
          exact ⟨r10, r11⟩
    · rintro G ⟨ns, P', K', eD, ln, bn⟩
      refine ⟨_, rfl, _, rfl, p, l, b, c + n, xs, rfl, P', SqL.of (K' _ _ bp eb), x0, x1, by omega, fun v G1 hv P1 K1 => ?_⟩
      obtain ⟨d, hd, dv⟩ := da.get' hv
      obtain ⟨it, bad⟩ := ok d hd
      refine ⟨_, rfl, _, rfl, _, rfl, p, l, c + n + 1, n, rfl, P1, by omega, by omega, by omega, fun r2 G2 r20 r21 P2 K2 => ?_⟩
      obtain ⟨j, rfl⟩ : ∃ j : Nat, r2 = (j : Int) := ⟨r2.toNat, by omega⟩
      have jn : j < n := by omega
      have eD2 := K2 D _ pD.symm (K1 D _ pD.symm eD)
      refine ⟨D, _, (j : Int), j, rfl, rfl, eD2, ?_, ?_⟩
      · unfold ixN
        rw [List.length_map, ln, if_pos (by omega), if_pos (by omega), Int.toNat_natCast]
      · have K3 : Keep p H (upd G2 D (.lst ((ns.map V.int).set j v))) := fun b o nb e => by
          rw [upd_ne (ne_of_none e nD)]
          exact K2 b o nb (K1 b o nb (K' b o nb e))
        have P3 := P2.put pD lD (o := .lst ((ns.map V.int).set j v))
        have eD3 : (upd G2 D (.lst ((ns.map V.int).set j v))) D = some (.lst ((ns.map V.int).set j v)) := upd_same
        generalize (upd G2 D (.lst ((ns.map V.int).set j v))) = G3 at K3 P3 eD3 ⊢
        have dv3 := dv.stay (K3.stay PA)
        have all3 : DaAll G3 ((ns.map V.int).set j v) ((ns.map PyData.int).set j d) := DaAll.set dv3 j (da_ints ns)
        obtain ⟨bl, bt⟩ := bad_seq (n := n) (ds := (ns.map PyData.int).set j d) (fun x hx => by
          rcases List.mem_or_eq_of_mem_set hx with q | q
          · obtain ⟨z, hz, rfl⟩ := List.mem_map.mp q
            have := bn z hz
            exact It0.int (Nat.lt_of_le_of_lt (show z.natAbs ≤ 4 by omega) (by decide))
          · rw [q]
            exact it) (by rw [List.length_set, List.length_map]; omega) (.inr ⟨d, List.mem_set (by rw [List.length_map]; omega) _, bad⟩)
        refine ⟨_, rfl, _, rfl, _, rfl, D, _, rfl, .inl ⟨SqL.of eD3, fun t nt => ?_⟩⟩
        have P4 := P3.new nt (o := .tup ((ns.map V.int).set j v))
        have K4 : Keep p G3 (upd G3 t (.tup ((ns.map V.int).set j v))) := Keep.refl.new nt
        have et : (upd G3 t (.tup ((ns.map V.int).set j v))) t = some (.tup ((ns.map V.int).set j v)) := upd_same
        generalize (upd G3 t (.tup ((ns.map V.int).set j v))) = G4 at K4 P4 et ⊢
        have eD4 := K4 D _ pD.symm eD3
        have all4 := all3.stay (K4.stay P3)
        refine ⟨(by show 2 ≤ sizeLine; rw [sizeLine_eq]; decide), fun L nL => ?_⟩
        have P5 := P4.new nL (o := .lst [.ref D, .ref t])
        have K5 : Keep p G4 (upd G4 L (.lst [.ref D, .ref t])) := Keep.refl.new nL
        refine ⟨p, l, L, c + n + 1 + 1, _, rfl, P5, .inl (.inl upd_same), (by show 0 < 2; decide), (by show 2 < 1000000; decide), by omega, fun x G6 hx P6 K6 => ?_⟩
        have K36 := K5.trans K6
        have KF := K3.trans (K4.trans K36)
        have st : Stay G4 G6 := K36.stay P4
        simp only [List.mem_cons, List.not_mem_nil, or_false] at hx
        rcases hx with rfl | rfl
        · exact k _ _ _ G6 (.lst (K36 D _ pD.symm eD4) trivial (all4.stay st)) bl (by omega) P6 KF
        · have tp : t ≠ p := by
            obtain ⟨_, _, _, _, I⟩ := P4
            exact ne_of et I.obj (by intro z; cases z)
          exact k _ _ _ G6 (.tup (K36 t _ tp et) (all4.stay st)) bt (by omega) P6 KF
end
end GG

namespace GG
open PySem PySem.Spec PyProof.Rows L2 RZ
/-- "1" * k -/
def rOneRep : R2 := fun x y H Q => ∃ k : Int, x = .str "1" ∧ y = .int k ∧ 1 ≤ k ∧ k ≤ 3 ∧ ∀ z : Str, (z = "1" ∨ z = "11" ∨ z = "111") → Q (.str z) H
theorem op_oneRep {X : Cx} : OpR X (binaryOp .Mult) rOneRep := by
  intro pins s σ H x y v u Q I rx ry h
  obtain ⟨k, rfl, rfl, k1, k3, q⟩ := h
  obtain ⟨t, rfl⟩ := rx
  obtain ⟨t', rfl⟩ := ry
  have hk : k = 1 ∨ k = 2 ∨ k = 3 := by omega
  rcases hk with rfl | rfl | rfl
  · refine PySem.P.mul_str (by decide) (fun _ h => absurd h (by decide)) (fun _ h => absurd h (by decide)) ?_
    exact ⟨.str "1", H, I, ⟨t, rfl⟩, q _ (.inl rfl)⟩
  · refine PySem.P.mul_str (by decide) (fun _ _ => by decide) (fun _ _ => by decide) ?_
    exact ⟨by decide, .str "11", H, I.tok _, ⟨_, rfl⟩, q _ (.inr (.inl rfl))⟩
  · refine PySem.P.mul_str (by decide) (fun _ _ => by decide) (fun _ _ => by decide) ?_
    exact ⟨by decide, .str "111", H, I.tok _, ⟨_, rfl⟩, q _ (.inr (.inr rfl))⟩
end GG

namespace GG
open PySem PySem.Spec PyProof.Rows L2 RZ
abbrev sWrong : Stmt := topS 62
/-- a tuple + a tuple, the first empty or not -/
def rCatY : R2 := fun x y H Q => ∃ a b xs ys, x = .ref a ∧ y = .ref b ∧ H a = some (.tup xs) ∧ H b = some (.tup ys) ∧ xs.length + ys.length ≤ sizeLine ∧ ∀ p H', H' p = some (.tup (xs ++ ys)) → Same H H' → Q (.ref p) H'
theorem op_catY {X : Cx} : OpR X (binaryOp .Add) rCatY := by
  intro pins s σ H x y v u Q I rx ry h
  obtain ⟨a, b, xs, ys, ex, ey, ha, hb, ln, q⟩ := h
  refine op_catA pins s σ H x y v u Q I rx ry ⟨a, b, xs, ys, ex, ey, SqT.of ha, SqT.of hb, ln, fun e => ?_, fun _ e => ?_, fun _ _ p np => ?_⟩
  · exact q b H (by rw [e]; exact hb) (L2.Same.refl H)
  · exact q a H (by rw [e, List.append_nil]; exact ha) (L2.Same.refl H)
  · exact q p _ upd_same (GG.Same.new (L2.Same.refl H) np)
/-- a value that is no prices for n kinds -/
def WV (H : Hp) (n : Nat) (v : V) : Prop := ∃ d, Da H v d ∧ BadOk n d
theorem WV.same {H H' : Hp} {n : Nat} {v : V} (S : Same H H') (h : WV H n v) : WV H' n v := by
  obtain ⟨d, a, b⟩ := h
  exact ⟨d, a.stay (Same.stay S), b⟩
theorem it_bool {b : Bool} : It0 (.bool b) := ⟨by simp [PyData.canLay0], by simp [PyData.depth], by simp [PyData.eqv], by simp [noD], trivial⟩
theorem it_none : It0 .none := ⟨by simp [PyData.canLay0], by simp [PyData.depth], by simp [PyData.eqv], by simp [noD], trivial⟩
theorem it_one : It0 (.str "1") := ⟨by decide +kernel, by simp [PyData.depth], by decide +kernel, by simp [noD], trivial⟩
theorem it_pair {a b : Int} (ha : a.natAbs < 2 ^ 120) (hb : b.natAbs < 2 ^ 120) : It0 (.tuple [.int a, .int b]) := ⟨by simp [PyData.canLay0, PyData.canLayAll0], by simp [PyData.depth, PyData.depthAll], by simp [PyData.eqv, PyData.eqvAll], by simp [noD, noDs], ⟨ha, hb⟩⟩
theorem wv_none {H : Hp} {n : Nat} : WV H n .non := ⟨.none, .non, rfl, trivial, by simp [noD], by decide +kernel, by decide +kernel⟩
theorem wv_five {H : Hp} {n : Nat} : WV H n (.int 5) := ⟨.int 5, .int 5, rfl, trivial, by simp [noD], by decide +kernel, by decide +kernel⟩
theorem wv_str {H : Hp} {n : Nat} {z : Str} (h : z = "1" ∨ z = "11" ∨ z = "111") : WV H n (.str z) := by
  rcases h with rfl | rfl | rfl
  · exact ⟨.str "1", .str _, rfl, trivial, by simp [noD], by decide +kernel, by decide +kernel⟩
  · exact ⟨.str "11", .str _, rfl, trivial, by simp [noD], by decide +kernel, by decide +kernel⟩
  · exact ⟨.str "111", .str _, rfl, trivial, by simp [noD], by decide +kernel, by decide +kernel⟩
theorem wv_tup {H : Hp} {n : Nat} {a : Addr} {xs : List V} {ds : List PyData} (e : H a = some (.tup xs)) (all : DaAll H xs ds) (it : ∀ x ∈ ds, It0 x) (l : ds.length ≤ 1000) (bad : ds.length ≠ n ∨ ∃ x ∈ ds, isZ x = false) : WV H n (.ref a) := ⟨_, .tup e all, (bad_seq it l bad).2⟩
theorem wv_lst {H : Hp} {n : Nat} {a : Addr} {xs : List V} {ds : List PyData} (e : H a = some (.lst xs)) (all : DaAll H xs ds) (it : ∀ x ∈ ds, It0 x) (l : ds.length ≤ 1000) (bad : ds.length ≠ n ∨ ∃ x ∈ ds, isZ x = false) : WV H n (.ref a) := ⟨_, .lst e trivial all, (bad_seq it l bad).1⟩
theorem rep_flat {α : Type} (x : α) (k : Nat) : (List.replicate k [x]).flatten = List.replicate k x := by
  induction k with
  | zero => rfl
  | succ k ih => rw [List.replicate_succ, List.flatten_cons, ih]; rfl
theorem da_rep {H : Hp} {v : V} {d : PyData} (h : Da H v d) : ∀ k : Nat, DaAll H (List.replicate k v) (List.replicate k d)
  | 0 => .nil
  | k + 1 => .cons h (da_rep h k)
theorem it_rep {d : PyData} (h : It0 d) (k : Nat) : ∀ x ∈ List.replicate k d, It0 x := fun x hx => by rw [(List.mem_replicate.mp hx).2]; exact h
def spWrong : Sp := fun vs H Q _ => ∃ (p l : Addr) (c : Int) (n : Nat), vs = [.ref p, .int (n : Int)] ∧ PenAt H p l c ∧ c < 8000000 ∧ 1 ≤ n ∧ n ≤ 3 ∧
  ∀ (v : V) (d : PyData) (c' : Int) (H' : Hp), Da H' v d → BadOk n d → c' ≤ c + 10 → PenAt H' p l c' → Keep p H H' → Q v H'
section
variable {P : Program} {w : World} {K : PySem.W.Frag} {mg : Str → Option Value} {base : Heap}
abbrev NWr : List Str := ["_law_pen_here", "_law_kinds", "_law_some"]
theorem scWrong : FnScope NWr ["_law_pen_here", "_law_kinds"] (defScope sWrong) := ⟨rfl, rfl, rfl, by decide +kernel, rfl, by decide +kernel, by decide +kernel⟩
theorem kn_wrong (D : DefIs K mg "_law_wrong_prices" sWrong) (B1 : Kn P w K mg base "_law_draw" 1 ["_law_pen_here", "_law_many"] spDraw) (B2 : Kn P w K mg base "_law_pick" 2 ["_law_pen_here", "_law_some"] (spPick K)) (BS : Kn P w K mg base "_law_spoiled" 3 ["_law_pen_here", "_law_kinds", "_law_bad"] spSpoiled) : Kn P w K mg base "_law_wrong_prices" 4 ["_law_pen_here", "_law_kinds"] spWrong := by
  refine .of D (fun _ _ _ _ _ _ us hl => match us, hl with | [_, _], _ => rfl) fun fa _ F => ?_
  refine F.ok scWrong (fun vs H Q E h => ?_) (fun cdv A outer s H vs Q E hr h => ?_)
  · obtain ⟨p, l, c, n, rfl, _⟩ := h
    rfl
  · obtain ⟨p, l, c, n, rfl, PA, c0, n1, n3, k⟩ := h
    have hr1 : Room 1 _ := hr.mono (by decide)
    have hr2 : Room 2 _ := hr.mono (by decide)
    have hr3 : Room 3 _ := hr.mono (by decide)
    refine ⟨_, pss_cons (ps_set (i := 2) scWrong.nd rfl (.inl rfl) (pe_lst (pa_cons pe_non (pa_cons pe_int (pa_cons (pe_tup pa_nil) (pa_cons (pe_op op_repZ (pe_tup (pa_cons pe_int pa_nil)) (pe_op op_add (pv 1) pe_int)) (pa_cons (pe_op op_repZ (pe_tup (pa_cons pe_int pa_nil)) (pe_op op_sub (pv 1) pe_int)) (pa_cons (pe_op op_repZ (pe_tup (pa_cons (pe_tup (pa_cons pe_int (pa_cons pe_int pa_nil))) pa_nil)) (pv 1)) (pa_cons (pe_op op_catY (pe_tup (pa_cons (pe_un un_neg pe_int) pa_nil)) (pe_op op_repZ (pe_tup (pa_cons pe_int pa_nil)) (pe_op op_sub (pv 1) pe_int))) pa_nil)))))))))
      (pss_cons (ps_set (i := 2) scWrong.nd rfl (.inl rfl) (pe_op op_cat (pv 2) (pe_lst (pa_cons (pe_op op_oneRep pe_str (pv 1)) (pa_cons (pe_op op_repZ (pe_tup (pa_cons pe_bl pa_nil)) (pv 1)) (pa_cons (pe_op op_repZ (pe_tup (pa_cons (pe_tup (pa_cons pe_int (pa_cons (pe_un un_neg pe_int) pa_nil))) pa_nil)) (pv 1)) (pa_cons (pe_op op_rep (pe_lst (pa_cons pe_non pa_nil)) (pv 1)) (pa_cons (pe_op op_catY (pe_op op_repZ (pe_tup (pa_cons pe_int pa_nil)) (pe_op op_sub (pv 1) pe_int)) (pe_tup (pa_cons (pe_tup (pa_cons (pe_un un_neg pe_int) (pa_cons pe_int pa_nil))) pa_nil))) pa_nil))))))))
      (pss_cons (ps_if (pt_cmpR op_eq (pe_kn B1 hr1 (pa_cons (pv 0) (pa_cons pe_int pa_nil))) pe_int (nomark _)) (pss_one (ps_ret (pe_kn BS hr3 (pa_cons (pv 0) (pa_cons (pv 1) (pa_cons (pe_lst (pa_cons pe_non (pa_cons pe_str (pa_cons pe_bl (pa_cons (pe_tup (pa_cons pe_int (pa_cons pe_int pa_nil))) (pa_cons (pe_tup (pa_cons (pe_un un_neg pe_int) (pa_cons pe_int pa_nil))) (pa_cons (pe_un un_neg pe_int) (pa_cons (pe_tup (pa_cons pe_int pa_nil)) (pa_cons (pe_lst (pa_cons pe_int (pa_cons pe_int (pa_cons pe_int pa_nil)))) pa_nil))))))))) pa_nil)))))) pss_nil)
      (pss_one (ps_ret (pe_kn B2 hr2 (pa_cons (pv 0) (pa_cons (pv 2) pa_nil))))))), ?_⟩
    refine ⟨(by show 0 ≤ sizeLine; rw [sizeLine_eq]; decide), fun a0 na0 => ?_⟩
    have S1 := GG.Same.new (L2.Same.refl H) na0 (o := .tup [])
    have ea0 : (upd H a0 (.tup [])) a0 = some (.tup []) := upd_same
    generalize (upd H a0 (.tup [])) = J1 at S1 ea0 ⊢
    have w0 : WV J1 n (.ref a0) := wv_tup ea0 .nil (fun x hx => nomatch hx) (Nat.zero_le _) (.inl (by show 0 ≠ n; omega))
    refine ⟨(by show 1 ≤ sizeLine; rw [sizeLine_eq]; decide), fun a1 na1 => ?_⟩
    have S2 := GG.Same.new (L2.Same.refl J1) na1 (o := .tup [.int 0])
    have ea1 : (upd J1 a1 (.tup [.int 0])) a1 = some (.tup [.int 0]) := upd_same
    generalize (upd J1 a1 (.tup [.int 0])) = J2 at S2 ea1 ⊢
    refine ⟨_, rfl, _, _, rfl, rfl, a1, (n : Int) + 1, _, rfl, rfl, ea1, (by intro z; cases z), (by show 1 ≤ 1000; decide), by omega, by omega, fun b1 J3 eb1 S3 => ?_⟩
    rw [rep_flat] at eb1
    have w1 : WV J3 n (.ref b1) := wv_tup eb1 (da_rep (.int 0) _) (it_rep (It0.int (by decide)) _) (by rw [List.length_replicate]; omega) (.inl (by rw [List.length_replicate]; omega))
    refine ⟨(by show 1 ≤ sizeLine; rw [sizeLine_eq]; decide), fun a2 na2 => ?_⟩
    have S4 := GG.Same.new (L2.Same.refl J3) na2 (o := .tup [.int 0])
    have ea2 : (upd J3 a2 (.tup [.int 0])) a2 = some (.tup [.int 0]) := upd_same
    generalize (upd J3 a2 (.tup [.int 0])) = J4 at S4 ea2 ⊢
    refine ⟨_, rfl, _, _, rfl, rfl, a2, (n : Int) - 1, _, rfl, rfl, ea2, (by intro z; cases z), (by show 1 ≤ 1000; decide), by omega, by omega, fun b2 J5 eb2 S5 => ?_⟩
    rw [rep_flat] at eb2
    have w2 : WV J5 n (.ref b2) := wv_tup eb2 (da_rep (.int 0) _) (it_rep (It0.int (by decide)) _) (by rw [List.length_replicate]; omega) (.inl (by rw [List.length_replicate]; omega))
    refine ⟨(by show 2 ≤ sizeLine; rw [sizeLine_eq]; decide), fun a3 na3 => ?_⟩
    have S6 := GG.Same.new (L2.Same.refl J5) na3 (o := .tup [.int 1, .int 0])
    have ea3 : (upd J5 a3 (.tup [.int 1, .int 0])) a3 = some (.tup [.int 1, .int 0]) := upd_same
    generalize (upd J5 a3 (.tup [.int 1, .int 0])) = J6 at S6 ea3 ⊢
    refine ⟨(by show 1 ≤ sizeLine; rw [sizeLine_eq]; decide), fun a4 na4 => ?_⟩
    have S7 := GG.Same.new (L2.Same.refl J6) na4 (o := .tup [.ref a3])
    have ea4 : (upd J6 a4 (.tup [.ref a3])) a4 = some (.tup [.ref a3]) := upd_same
    generalize (upd J6 a4 (.tup [.ref a3])) = J7 at S7 ea4 ⊢
    refine ⟨_, rfl, a4, (n : Int), _, rfl, rfl, ea4, (by intro z; cases z), (by show 1 ≤ 1000; decide), by omega, by omega, fun b3 J8 eb3 S8 => ?_⟩
    rw [rep_flat] at eb3
    have w3 : WV J8 n (.ref b3) := wv_tup eb3 (da_rep (.tup ((L2.Same.trans (L2.Same.trans (L2.Same.refl _) S7) S8) _ _ ea3) (.cons (.int 1) (.cons (.int 0) .nil))) _) (it_rep (it_pair (by decide) (by decide)) _) (by rw [List.length_replicate]; omega) (.inr ⟨_, List.mem_replicate.mpr ⟨by omega, rfl⟩, by decide⟩)
    refine ⟨_, rfl, (by show 1 ≤ sizeLine; rw [sizeLine_eq]; decide), fun a5 na5 => ?_⟩
    have S9 := GG.Same.new (L2.Same.refl J8) na5 (o := .tup [.int (-1)])
    have ea5 : (upd J8 a5 (.tup [.int (-1)])) a5 = some (.tup [.int (-1)]) := upd_same
    generalize (upd J8 a5 (.tup [.int (-1)])) = J9 at S9 ea5 ⊢
    refine ⟨(by show 1 ≤ sizeLine; rw [sizeLine_eq]; decide), fun a6 na6 => ?_⟩
    have S10 := GG.Same.new (L2.Same.refl J9) na6 (o := .tup [.int 0])
    have ea6 : (upd J9 a6 (.tup [.int 0])) a6 = some (.tup [.int 0]) := upd_same
    generalize (upd J9 a6 (.tup [.int 0])) = J10 at S10 ea6 ⊢
    refine ⟨_, rfl, _, _, rfl, rfl, a6, (n : Int) - 1, _, rfl, rfl, ea6, (by intro z; cases z), (by show 1 ≤ 1000; decide), by omega, by omega, fun b4 J11 eb4 S11 => ?_⟩
    rw [rep_flat] at eb4
    refine ⟨a5, b4, _, _, rfl, rfl, (L2.Same.trans (L2.Same.trans (L2.Same.refl _) S10) S11) _ _ ea5, eb4, by rw [List.length_replicate, sizeLine_eq]; simp; omega, fun b5 J12 eb5 S12 => ?_⟩
    have w4 : WV J12 n (.ref b5) := wv_tup (ds := [.int (-1)] ++ List.replicate ((n : Int) - 1).toNat (.int 0)) eb5 (.cons (.int _) (da_rep (.int 0) _)) (fun x hx => (List.mem_append.mp hx).elim (fun q => by rw [List.mem_singleton.mp q]; exact It0.int (by decide)) (fun q => it_rep (It0.int (by decide)) _ x q)) (by rw [List.length_append, List.length_replicate]; simp; omega) (.inr ⟨_, List.mem_append_left _ (List.mem_singleton.mpr rfl), by decide⟩)
    refine ⟨(by show 7 ≤ sizeLine; rw [sizeLine_eq]; decide), fun l1 nl1 => ?_⟩
    have S13 := GG.Same.new (L2.Same.refl J12) nl1 (o := .lst [.non, .int 5, .ref a0, .ref b1, .ref b2, .ref b3, .ref b5])
    have el1 : (upd J12 l1 (.lst [.non, .int 5, .ref a0, .ref b1, .ref b2, .ref b3, .ref b5])) l1 = some (.lst [.non, .int 5, .ref a0, .ref b1, .ref b2, .ref b3, .ref b5]) := upd_same
    generalize (upd J12 l1 (.lst [.non, .int 5, .ref a0, .ref b1, .ref b2, .ref b3, .ref b5])) = J13 at S13 el1 ⊢
    refine ⟨_, rfl, ?_⟩
    refine ⟨_, rfl, (n : Int), rfl, rfl, by omega, by omega, fun z1 hz1 => ?_⟩
    have w5 : WV J13 n (.str z1) := wv_str hz1
    refine ⟨(by show 1 ≤ sizeLine; rw [sizeLine_eq]; decide), fun a7 na7 => ?_⟩
    have S14 := GG.Same.new (L2.Same.refl J13) na7 (o := .tup [.bl true])
    have ea7 : (upd J13 a7 (.tup [.bl true])) a7 = some (.tup [.bl true]) := upd_same
    generalize (upd J13 a7 (.tup [.bl true])) = J14 at S14 ea7 ⊢
    refine ⟨_, rfl, a7, (n : Int), _, rfl, rfl, ea7, (by intro z; cases z), (by show 1 ≤ 1000; decide), by omega, by omega, fun b6 J15 eb6 S15 => ?_⟩
    rw [rep_flat] at eb6
    have w6 : WV J15 n (.ref b6) := wv_tup eb6 (da_rep (.bl true) _) (it_rep it_bool _) (by rw [List.length_replicate]; omega) (.inr ⟨_, List.mem_replicate.mpr ⟨by omega, rfl⟩, by decide⟩)
    refine ⟨_, rfl, (by show 2 ≤ sizeLine; rw [sizeLine_eq]; decide), fun a8 na8 => ?_⟩
    have S16 := GG.Same.new (L2.Same.refl J15) na8 (o := .tup [.int 1, .int (-2)])
    have ea8 : (upd J15 a8 (.tup [.int 1, .int (-2)])) a8 = some (.tup [.int 1, .int (-2)]) := upd_same
    generalize (upd J15 a8 (.tup [.int 1, .int (-2)])) = J16 at S16 ea8 ⊢
    refine ⟨(by show 1 ≤ sizeLine; rw [sizeLine_eq]; decide), fun a9 na9 => ?_⟩
    have S17 := GG.Same.new (L2.Same.refl J16) na9 (o := .tup [.ref a8])
    have ea9 : (upd J16 a9 (.tup [.ref a8])) a9 = some (.tup [.ref a8]) := upd_same
    generalize (upd J16 a9 (.tup [.ref a8])) = J17 at S17 ea9 ⊢
    refine ⟨_, rfl, a9, (n : Int), _, rfl, rfl, ea9, (by intro z; cases z), (by show 1 ≤ 1000; decide), by omega, by omega, fun b7 J18 eb7 S18 => ?_⟩
    rw [rep_flat] at eb7
    have w7 : WV J18 n (.ref b7) := wv_tup eb7 (da_rep (.tup ((L2.Same.trans (L2.Same.trans (L2.Same.refl _) S17) S18) _ _ ea8) (.cons (.int 1) (.cons (.int (-2)) .nil))) _) (it_rep (it_pair (by decide) (by decide)) _) (by rw [List.length_replicate]; omega) (.inr ⟨_, List.mem_replicate.mpr ⟨by omega, rfl⟩, by decide⟩)
    refine ⟨(by show 1 ≤ sizeLine; rw [sizeLine_eq]; decide), fun c0x nc0x => ?_⟩
    have S19 := GG.Same.new (L2.Same.refl J18) nc0x (o := .lst [.non])
    have ec0x : (upd J18 c0x (.lst [.non])) c0x = some (.lst [.non]) := upd_same
    generalize (upd J18 c0x (.lst [.non])) = J19 at S19 ec0x ⊢
    refine ⟨_, rfl, c0x, (n : Int), _, rfl, rfl, ec0x, by omega, by omega, by rw [sizeLine_eq]; simp; omega, fun b8 nb8 => ?_⟩
    rw [rep_flat]
    have S20 := GG.Same.new (L2.Same.refl J19) nb8 (o := .lst (List.replicate ((n : Int)).toNat .non))
    have eb8 : (upd J19 b8 (.lst (List.replicate ((n : Int)).toNat .non))) b8 = some (.lst (List.replicate ((n : Int)).toNat .non)) := upd_same
    generalize (upd J19 b8 (.lst (List.replicate ((n : Int)).toNat .non))) = J20 at S20 eb8 ⊢
    have w8 : WV J20 n (.ref b8) := wv_lst eb8 (da_rep .non _) (it_rep it_none _) (by rw [List.length_replicate]; omega) (.inr ⟨_, List.mem_replicate.mpr ⟨by omega, rfl⟩, by decide⟩)
    refine ⟨(by show 1 ≤ sizeLine; rw [sizeLine_eq]; decide), fun a10 na10 => ?_⟩
    have S21 := GG.Same.new (L2.Same.refl J20) na10 (o := .tup [.int 0])
    have ea10 : (upd J20 a10 (.tup [.int 0])) a10 = some (.tup [.int 0]) := upd_same
    generalize (upd J20 a10 (.tup [.int 0])) = J21 at S21 ea10 ⊢
    refine ⟨_, rfl, _, _, rfl, rfl, a10, (n : Int) - 1, _, rfl, rfl, ea10, (by intro z; cases z), (by show 1 ≤ 1000; decide), by omega, by omega, fun b9 J22 eb9 S22 => ?_⟩
    rw [rep_flat] at eb9
    refine ⟨_, rfl, (by show 2 ≤ sizeLine; rw [sizeLine_eq]; decide), fun a11 na11 => ?_⟩
    have S23 := GG.Same.new (L2.Same.refl J22) na11 (o := .tup [.int (-1), .int 3])
    have ea11 : (upd J22 a11 (.tup [.int (-1), .int 3])) a11 = some (.tup [.int (-1), .int 3]) := upd_same
    generalize (upd J22 a11 (.tup [.int (-1), .int 3])) = J23 at S23 ea11 ⊢
    refine ⟨(by show 1 ≤ sizeLine; rw [sizeLine_eq]; decide), fun a12 na12 => ?_⟩
    have S24 := GG.Same.new (L2.Same.refl J23) na12 (o := .tup [.ref a11])
    have ea12 : (upd J23 a12 (.tup [.ref a11])) a12 = some (.tup [.ref a11]) := upd_same
    generalize (upd J23 a12 (.tup [.ref a11])) = J24 at S24 ea12 ⊢
    refine ⟨b9, a12, _, _, rfl, rfl, (L2.Same.trans (L2.Same.trans (L2.Same.refl _) S23) S24) _ _ eb9, ea12, by rw [List.length_replicate, sizeLine_eq]; simp; omega, fun b10 J25 eb10 S25 => ?_⟩
    have w9 : WV J25 n (.ref b10) := wv_tup (ds := List.replicate ((n : Int) - 1).toNat (.int 0) ++ [.tuple [.int (-1), .int 3]]) eb10 (DaAll.snoc (.tup ((L2.Same.trans (L2.Same.trans (L2.Same.refl _) S24) S25) _ _ ea11) (.cons (.int _) (.cons (.int _) .nil))) (da_rep (.int 0) _)) (fun x hx => (List.mem_append.mp hx).elim (fun q => it_rep (It0.int (by decide)) _ x q) (fun q => by rw [List.mem_singleton.mp q]; exact it_pair (by decide) (by decide))) (by rw [List.length_append, List.length_replicate]; simp; omega) (.inr ⟨_, List.mem_append_right _ (List.mem_singleton.mpr rfl), by decide⟩)
    refine ⟨(by show 5 ≤ sizeLine; rw [sizeLine_eq]; decide), fun l2 nl2 => ?_⟩
    have S26 := GG.Same.new (L2.Same.refl J25) nl2 (o := .lst [.str z1, .ref b6, .ref b7, .ref b8, .ref b10])
    have el2 : (upd J25 l2 (.lst [.str z1, .ref b6, .ref b7, .ref b8, .ref b10])) l2 = some (.lst [.str z1, .ref b6, .ref b7, .ref b8, .ref b10]) := upd_same
    generalize (upd J25 l2 (.lst [.str z1, .ref b6, .ref b7, .ref b8, .ref b10])) = J26 at S26 el2 ⊢
    refine ⟨l1, l2, _, _, rfl, rfl, (L2.Same.trans (L2.Same.trans (L2.Same.trans (L2.Same.trans (L2.Same.trans (L2.Same.trans (L2.Same.trans (L2.Same.trans (L2.Same.trans (L2.Same.trans (L2.Same.trans (L2.Same.trans (L2.Same.trans (L2.Same.refl _) S14) S15) S16) S17) S18) S19) S20) S21) S22) S23) S24) S25) S26) _ _ el1, el2, (by show 7 + 5 ≤ sizeLine; rw [sizeLine_eq]; decide), fun l3 nl3 => ?_⟩
    have S27 := GG.Same.new (L2.Same.refl J26) nl3 (o := .lst ([.non, .int 5, .ref a0, .ref b1, .ref b2, .ref b3, .ref b5] ++ [.str z1, .ref b6, .ref b7, .ref b8, .ref b10]))
    have el3 : (upd J26 l3 (.lst ([.non, .int 5, .ref a0, .ref b1, .ref b2, .ref b3, .ref b5] ++ [.str z1, .ref b6, .ref b7, .ref b8, .ref b10]))) l3 = some (.lst ([.non, .int 5, .ref a0, .ref b1, .ref b2, .ref b3, .ref b5] ++ [.str z1, .ref b6, .ref b7, .ref b8, .ref b10])) := upd_same
    generalize (upd J26 l3 (.lst ([.non, .int 5, .ref a0, .ref b1, .ref b2, .ref b3, .ref b5] ++ [.str z1, .ref b6, .ref b7, .ref b8, .ref b10]))) = J27 at S27 el3 ⊢
    have KA : Same H J27 := (L2.Same.trans (L2.Same.trans (L2.Same.trans (L2.Same.trans (L2.Same.trans (L2.Same.trans (L2.Same.trans (L2.Same.trans (L2.Same.trans (L2.Same.trans (L2.Same.trans (L2.Same.trans (L2.Same.trans (L2.Same.trans (L2.Same.trans (L2.Same.trans (L2.Same.trans (L2.Same.trans (L2.Same.trans (L2.Same.trans (L2.Same.trans (L2.Same.trans (L2.Same.trans (L2.Same.trans (L2.Same.trans (L2.Same.trans (L2.Same.trans (L2.Same.refl _) S1) S2) S3) S4) S5) S6) S7) S8) S9) S10) S11) S12) S13) S14) S15) S16) S17) S18) S19) S20) S21) S22) S23) S24) S25) S26) S27)
    have PG : PenAt J27 p l c := PenAt.same KA PA
    have all : ∀ v ∈ ([.non, .int 5, .ref a0, .ref b1, .ref b2, .ref b3, .ref b5] ++ [.str z1, .ref b6, .ref b7, .ref b8, .ref b10] : List V), WV J27 n v := by
      intro v hv
      simp only [List.cons_append, List.nil_append, List.mem_cons, List.not_mem_nil, or_false] at hv
      rcases hv with rfl | rfl | rfl | rfl | rfl | rfl | rfl | rfl | rfl | rfl | rfl | rfl
      · exact wv_none
      · exact wv_five
      · exact WV.same (L2.Same.trans (L2.Same.trans (L2.Same.trans (L2.Same.trans (L2.Same.trans (L2.Same.trans (L2.Same.trans (L2.Same.trans (L2.Same.trans (L2.Same.trans (L2.Same.trans (L2.Same.trans (L2.Same.trans (L2.Same.trans (L2.Same.trans (L2.Same.trans (L2.Same.trans (L2.Same.trans (L2.Same.trans (L2.Same.trans (L2.Same.trans (L2.Same.trans (L2.Same.trans (L2.Same.trans (L2.Same.trans (L2.Same.trans (L2.Same.refl _) S2) S3) S4) S5) S6) S7) S8) S9) S10) S11) S12) S13) S14) S15) S16) S17) S18) S19) S20) S21) S22) S23) S24) S25) S26) S27) w0
      · exact WV.same (L2.Same.trans (L2.Same.trans (L2.Same.trans (L2.Same.trans (L2.Same.trans (L2.Same.trans (L2.Same.trans (L2.Same.trans (L2.Same.trans (L2.Same.trans (L2.Same.trans (L2.Same.trans (L2.Same.trans (L2.Same.trans (L2.Same.trans (L2.Same.trans (L2.Same.trans (L2.Same.trans (L2.Same.trans (L2.Same.trans (L2.Same.trans (L2.Same.trans (L2.Same.trans (L2.Same.trans (L2.Same.refl _) S4) S5) S6) S7) S8) S9) S10) S11) S12) S13) S14) S15) S16) S17) S18) S19) S20) S21) S22) S23) S24) S25) S26) S27) w1
      · exact WV.same (L2.Same.trans (L2.Same.trans (L2.Same.trans (L2.Same.trans (L2.Same.trans (L2.Same.trans (L2.Same.trans (L2.Same.trans (L2.Same.trans (L2.Same.trans (L2.Same.trans (L2.Same.trans (L2.Same.trans (L2.Same.trans (L2.Same.trans (L2.Same.trans (L2.Same.trans (L2.Same.trans (L2.Same.trans (L2.Same.trans (L2.Same.trans (L2.Same.trans (L2.Same.refl _) S6) S7) S8) S9) S10) S11) S12) S13) S14) S15) S16) S17) S18) S19) S20) S21) S22) S23) S24) S25) S26) S27) w2
      · exact WV.same (L2.Same.trans (L2.Same.trans (L2.Same.trans (L2.Same.trans (L2.Same.trans (L2.Same.trans (L2.Same.trans (L2.Same.trans (L2.Same.trans (L2.Same.trans (L2.Same.trans (L2.Same.trans (L2.Same.trans (L2.Same.trans (L2.Same.trans (L2.Same.trans (L2.Same.trans (L2.Same.trans (L2.Same.trans (L2.Same.refl _) S9) S10) S11) S12) S13) S14) S15) S16) S17) S18) S19) S20) S21) S22) S23) S24) S25) S26) S27) w3
      · exact WV.same (L2.Same.trans (L2.Same.trans (L2.Same.trans (L2.Same.trans (L2.Same.trans (L2.Same.trans (L2.Same.trans (L2.Same.trans (L2.Same.trans (L2.Same.trans (L2.Same.trans (L2.Same.trans (L2.Same.trans (L2.Same.trans (L2.Same.trans (L2.Same.refl _) S13) S14) S15) S16) S17) S18) S19) S20) S21) S22) S23) S24) S25) S26) S27) w4
      · exact WV.same (L2.Same.trans (L2.Same.trans (L2.Same.trans (L2.Same.trans (L2.Same.trans (L2.Same.trans (L2.Same.trans (L2.Same.trans (L2.Same.trans (L2.Same.trans (L2.Same.trans (L2.Same.trans (L2.Same.trans (L2.Same.trans (L2.Same.refl _) S14) S15) S16) S17) S18) S19) S20) S21) S22) S23) S24) S25) S26) S27) w5
      · exact WV.same (L2.Same.trans (L2.Same.trans (L2.Same.trans (L2.Same.trans (L2.Same.trans (L2.Same.trans (L2.Same.trans (L2.Same.trans (L2.Same.trans (L2.Same.trans (L2.Same.trans (L2.Same.trans (L2.Same.refl _) S16) S17) S18) S19) S20) S21) S22) S23) S24) S25) S26) S27) w6
      · exact WV.same (L2.Same.trans (L2.Same.trans (L2.Same.trans (L2.Same.trans (L2.Same.trans (L2.Same.trans (L2.Same.trans (L2.Same.trans (L2.Same.trans (L2.Same.refl _) S19) S20) S21) S22) S23) S24) S25) S26) S27) w7
      · exact WV.same (L2.Same.trans (L2.Same.trans (L2.Same.trans (L2.Same.trans (L2.Same.trans (L2.Same.trans (L2.Same.trans (L2.Same.refl _) S21) S22) S23) S24) S25) S26) S27) w8
      · exact WV.same (L2.Same.trans (L2.Same.trans (L2.Same.refl _) S26) S27) w9
    clear w0 w1 w2 w3 w4 w5 w6 w7 w8 w9
    clear S1 S2 S3 S4 S5 S6 S7 S8 S9 S10 S11 S12 S13 S14 S15 S16 S17 S18 S19 S20 S21 S22 S23 S24 S25 S26 S27
    refine ⟨_, rfl, p, l, c, 2, rfl, PG, by omega, by omega, by omega, fun r1 G1 r10 r11 P1 K1 => ?_⟩
    have KH : Keep p H G1 := fun b o nb e => K1 b o nb (KA b o e)
    refine ⟨rfl, _, rfl, ?_⟩
    refine ite2 (fun z => ?_) (fun z => ?_)
    · refine ⟨_, rfl, _, rfl, (by show 2 ≤ sizeLine; rw [sizeLine_eq]; decide), fun t1 nt1 => ?_⟩
      have P2 := P1.new nt1 (o := .tup [.int 1, .int 0])
      have K2 : Keep p G1 (upd G1 t1 (.tup [.int 1, .int 0])) := Keep.refl.new nt1
      have et1 : (upd G1 t1 (.tup [.int 1, .int 0])) t1 = some (.tup [.int 1, .int 0]) := upd_same
      have A2 : Same G1 (upd G1 t1 (.tup [.int 1, .int 0])) := GG.Same.new (L2.Same.refl G1) nt1
      generalize (upd G1 t1 (.tup [.int 1, .int 0])) = G2 at P2 K2 et1 A2 ⊢
      refine ⟨_, rfl, (by show 2 ≤ sizeLine; rw [sizeLine_eq]; decide), fun t2 nt2 => ?_⟩
      have P3 := P2.new nt2 (o := .tup [.int (-1), .int 2])
      have et2 : (upd G2 t2 (.tup [.int (-1), .int 2])) t2 = some (.tup [.int (-1), .int 2]) := upd_same
      have A3 : Same G2 (upd G2 t2 (.tup [.int (-1), .int 2])) := GG.Same.new (L2.Same.refl G2) nt2
      generalize (upd G2 t2 (.tup [.int (-1), .int 2])) = G3 at P3 et2 A3 ⊢
      refine ⟨_, rfl, (by show 1 ≤ sizeLine; rw [sizeLine_eq]; decide), fun t3 nt3 => ?_⟩
      have P4 := P3.new nt3 (o := .tup [.int 1])
      have et3 : (upd G3 t3 (.tup [.int 1])) t3 = some (.tup [.int 1]) := upd_same
      have A4 : Same G3 (upd G3 t3 (.tup [.int 1])) := GG.Same.new (L2.Same.refl G3) nt3
      generalize (upd G3 t3 (.tup [.int 1])) = G4 at P4 et3 A4 ⊢
      refine ⟨(by show 3 ≤ sizeLine; rw [sizeLine_eq]; decide), fun t4 nt4 => ?_⟩
      have P5 := P4.new nt4 (o := .lst [.int 1, .int 2, .int 3])
      have et4 : (upd G4 t4 (.lst [.int 1, .int 2, .int 3])) t4 = some (.lst [.int 1, .int 2, .int 3]) := upd_same
      have A5 : Same G4 (upd G4 t4 (.lst [.int 1, .int 2, .int 3])) := GG.Same.new (L2.Same.refl G4) nt4
      generalize (upd G4 t4 (.lst [.int 1, .int 2, .int 3])) = G5 at P5 et4 A5 ⊢
      refine ⟨(by show 8 ≤ sizeLine; rw [sizeLine_eq]; decide), fun L nL => ?_⟩
      have P6 := P5.new nL (o := .lst [.non, .str "1", .bl true, .ref t1, .ref t2, .int (-1), .ref t3, .ref t4])
      have eL : (upd G5 L (.lst [.non, .str "1", .bl true, .ref t1, .ref t2, .int (-1), .ref t3, .ref t4])) L = some (.lst [.non, .str "1", .bl true, .ref t1, .ref t2, .int (-1), .ref t3, .ref t4]) := upd_same
      have A6 : Same G5 (upd G5 L (.lst [.non, .str "1", .bl true, .ref t1, .ref t2, .int (-1), .ref t3, .ref t4])) := GG.Same.new (L2.Same.refl G5) nL
      generalize (upd G5 L (.lst [.non, .str "1", .bl true, .ref t1, .ref t2, .int (-1), .ref t3, .ref t4])) = G6 at P6 eL A6 ⊢
      have A46 := L2.Same.trans A5 A6
      have A36 := L2.Same.trans A4 A46
      have A26 := L2.Same.trans A3 A36
      have A16 := L2.Same.trans A2 A26
      have da : DaAll G6 [.non, .str "1", .bl true, .ref t1, .ref t2, .int (-1), .ref t3, .ref t4] [.none, .str "1", .bool true, .tuple [.int 1, .int 0], .tuple [.int (-1), .int 2], .int (-1), .tuple [.int 1], .list [.int 1, .int 2, .int 3]] :=
        .cons .non (.cons (.str _) (.cons (.bl _) (.cons (.tup (A26 _ _ et1) (.cons (.int _) (.cons (.int _) .nil))) (.cons (.tup (A36 _ _ et2) (.cons (.int _) (.cons (.int _) .nil))) (.cons (.int _) (.cons (.tup (A46 _ _ et3) (.cons (.int _) .nil)) (.cons (.lst (A6 _ _ et4) trivial (.cons (.int _) (.cons (.int _) (.cons (.int _) .nil)))) .nil)))))))
      refine ⟨p, l, L, c + 1, n, _, _, rfl, P6, by omega, n1, n3, eL, da, (by show 0 < 8; decide), (by show 8 < 1000000; decide), fun d hd => ?_, fun v d c' H' dv bd hc' P7 K7 => ?_⟩
      · simp only [List.mem_cons, List.not_mem_nil, or_false] at hd
        rcases hd with rfl | rfl | rfl | rfl | rfl | rfl | rfl | rfl
        · exact ⟨it_none, by decide⟩
        · exact ⟨it_one, by decide⟩
        · exact ⟨it_bool, by decide⟩
        · exact ⟨it_pair (by decide) (by decide), by decide⟩
        · exact ⟨it_pair (by decide) (by decide), by decide⟩
        · exact ⟨It0.int (by decide), by decide⟩
        · exact ⟨⟨by simp [PyData.canLay0, PyData.canLayAll0], by simp [PyData.depth, PyData.depthAll], by simp [PyData.eqv, PyData.eqvAll], by simp [noD, noDs], trivial⟩, by decide⟩
        · exact ⟨⟨by simp [PyData.canLay0, PyData.canLayAll0], by simp [PyData.depth, PyData.depthAll], by simp [PyData.eqv, PyData.eqvAll], by simp [noD, noDs], trivial⟩, by decide⟩
      · exact k v d c' H' dv bd (by omega) P7 (fun b o nb e => K7 b o nb (A16 b o (KH b o nb e)))
    · refine ⟨_, rfl, _, rfl, p, l, l3, c + 1, _, rfl, P1, SqL.of (K1 _ _ (by obtain ⟨_, _, _, _, I⟩ := PG; exact ne_of el3 I.obj (by intro z; cases z)) el3), (by simp), (by simp), by omega, fun x G2 hx P2 K2 => ?_⟩
      obtain ⟨d, da, bd⟩ := all x hx
      exact k x d _ G2 (da.stay ((K1.trans K2).stay PG)) bd (by omega) P2 (KH.trans K2)
end
end GG

namespace GG
open PySem PySem.Spec PyProof.Rows L2
/-! ### a draw among very many -/
def spDrawB : Sp := fun vs H Q _ => ∃ (p l : Addr) (c many : Int), vs = [.ref p, .int many] ∧ PenAt H p l c ∧ 0 < many ∧ many < 1000000000 ∧ c < 1000000000 ∧
  ∀ (r : Int) (H' : Hp), 0 ≤ r → r < many → PenAt H' p l (c + 1) → Keep p H H' → Q (.int r) H'
section
variable {P : Program} {w : World} {K : PySem.W.Frag} {mg : Str → Option Value} {base : Heap}
theorem ok_drawB {f : Addr} {fd : FuncData} (F : Fun K "_law_draw" "_law_draw" sDraw f fd) (T : PTxt K mg) : FnOk P w K mg base CX0 1 f fd ["_law_pen_here", "_law_many"] spDrawB := by
  refine F.ok scDraw (fun vs H Q E h => ?_) (fun cdv A outer s H vs Q E hr h => ?_)
  · obtain ⟨p, l, c, many, rfl, _⟩ := h
    rfl
  · obtain ⟨p, l, c, many, rfl, ⟨ns, a, d, fo, I0⟩, m0, m1, c1, k⟩ := h
    have hu := hu_of hr
    refine ⟨_, pss_cons (ps_dput hu (pv 0) pe_str (pe_op op_add (pe_dget hu (pv 0) pe_str (fun _ _ => rfl)) pe_int) rfl)
      (Evl.pss_cut (ps_if (PW.pt (pw_and (pt_cmpR op_eq (pe_dget hu (pv 0) pe_str (fun _ _ => rfl)) pe_int (nomark _)) (pw_and1 (pt_cmpR op_lt (pe_dget hu (pv 0) pe_str (fun _ _ => rfl)) (pe_callB call_len_seq (by rfl) T.len PySem.boot_len (pa_cons (pe_dget hu (pv 0) pe_str (fun _ _ => rfl)) pa_nil)) (nomark _)))))
        (pss_cons (ps_set (i := 2) scDraw.nd rfl (.inl rfl) (pe_ix ix_list (pe_dget hu (pv 0) pe_str (fun _ _ => rfl)) (pe_dget hu (pv 0) pe_str (fun _ _ => rfl)) (fun _ _ => rfl)))
          (pss_cons (ps_dput hu (pv 0) pe_str (pe_op op_add (pe_dget hu (pv 0) pe_str (fun _ _ => rfl)) pe_int) rfl)
          (pss_one (ps_if (pt_cmpR op_ge (pv 2) (pe_op op_pow pe_int pe_int) (nomark _))
            (pss_one (ps_dput hu (pv 0) pe_str (pe_op op_sub (pv 2) (pe_op op_pow pe_int pe_int)) rfl))
            (pss_one (ps_dput hu (pv 0) pe_str (pe_op op_mod (pe_callTy call_int1 (by rfl) T.int bInt (pa_cons (pe_op op_add (pe_op op_mul (pe_dget hu (pv 0) pe_str (fun _ _ => rfl)) pe_int) (pv 2)) pa_nil)) pe_int) rfl))))))
        pss_nil)
      (pss_cons (ps_if (pt_cmpR op_gt (pe_dget hu (pv 0) pe_str (fun _ _ => rfl)) pe_int (nomark _))
        (pss_cons (ps_set (i := 3) scDraw.nd rfl (.inl rfl) (pe_op op_mod (pe_callTy call_int1 (by rfl) T.int bInt (pa_cons (pe_dget hu (pv 0) pe_str (fun _ _ => rfl)) pa_nil)) (pv 1)))
          (pss_cons (ps_dput hu (pv 0) pe_str (pe_op op_fdivW (pe_dget hu (pv 0) pe_str (fun _ _ => rfl)) (pv 1)) rfl)
          (pss_one (ps_ret (pv 3)))))
        pss_nil)
      (pss_cons (ps_set (i := 4) scDraw.nd rfl (.inl rfl) (pe_op op_add (pe_op op_add (pe_dget hu (pv 0) pe_str (fun _ _ => rfl)) (pe_op op_mul (pe_dget hu (pv 0) pe_str (fun _ _ => rfl)) pe_int)) pe_int))
      (pss_one (ps_ret (pe_op op_mod (pe_op op_fdiv (pe_callTy call_int1 (by rfl) T.int bInt (pa_cons (pe_op op_mod (pe_op op_pow (pv 4) pe_int) pe_int) pa_nil)) pe_int) (pv 1))))))), ?_⟩
    refine ⟨_, rfl, p, _, rfl, I0.gCount, _, _, rfl, rfl, _, rfl, p, _, rfl, I0.pCount _, ?_⟩
    have I1 := I0.put (a' := a) (d' := d) (c' := c + 1) (f' := fo) I0.a0 I0.d0 (by have := I0.c0; omega) I0.f0 I0.f1
    have K1 : Keep p H (upd H p (.dK (penD l a d (c + 1) fo))) := Keep.refl.upd
    have dc := I1.c0
    refine ⟨fun σ' H' => ∃ (a' d' f' : Int) (v : Option V), σ' = [some (.ref p), some (.int many), v, none, none] ∧ PenIs H' p l ns a' d' (c + 1) f' ∧ Keep p H H', ?_, ?_⟩
    · refine ⟨_, rfl, p, _, rfl, I1.gDigits, rfl, _, rfl, ?_⟩
      refine ite2 (fun _ => ?_) (fun _ => ?_)
      · refine ⟨_, rfl, p, _, rfl, I1.gAt, _, rfl, p, _, rfl, I1.gCells, l, _, rfl, .inl (SqL.of I1.cel), _, _, rfl, rfl, _, rfl, ?_⟩
        refine ite2 (fun e => ?_) (fun _ => ?_)
        · rw [List.length_map] at e
          have ha : a < (ns.length : Int) := of_decide_eq_true e
          have ha0 := I1.a0
          obtain ⟨n, rfl⟩ : ∃ n : Nat, a = (n : Int) := ⟨a.toNat, (Int.toNat_of_nonneg ha0).symm⟩
          have hn : n < ns.length := by omega
          refine ⟨_, rfl, p, _, rfl, I1.gCells, _, rfl, p, _, rfl, I1.gAt, l, _, _, V.int ns[n], rfl, rfl, SqL.of I1.cel, atI_nat (by simp [hn]), ?_⟩
          refine ⟨_, rfl, p, _, rfl, I1.gAt, _, _, rfl, rfl, _, rfl, p, _, rfl, I1.pAt _, ?_⟩
          have I2 := I1.put (a' := (n : Int) + 1) (d' := d) (c' := c + 1) (f' := fo) (by omega) I1.d0 I1.c0 I1.f0 I1.f1
          have K2 := K1.upd (o := .dK (penD l ((n : Int) + 1) d (c + 1) fo))
          refine ⟨_, rfl, _, _, rfl, rfl, ⟨by decide, by decide, by decide⟩, _, _, rfl, rfl, _, rfl, ?_⟩
          refine ite2 (fun e => ?_) (fun _ => ?_)
          · have hb := of_decide_eq_true e
            refine ⟨_, rfl, _, _, rfl, rfl, ⟨by decide, by decide, by decide⟩, _, _, rfl, rfl, _, rfl, p, _, rfl, I2.pDigits _, ?_⟩
            exact ⟨_, _, _, _, rfl, I2.put (by omega) (by omega) I2.c0 I2.f0 I2.f1, K2.upd⟩
          · refine ⟨_, rfl, p, _, rfl, I2.gFold, _, _, rfl, rfl, .inl ⟨by have := I2.f0; omega, by have := I2.f1; omega⟩, _, rfl, _, _, rfl, rfl, .inl ⟨_, rfl, ?_⟩⟩
            refine ⟨_, _, rfl, rfl, (show (0 : Int) < 2147483587 by decide), _, rfl, p, _, rfl, I2.pFold _, ?_⟩
            exact ⟨_, _, _, _, rfl, I2.put I2.a0 I2.d0 I2.c0 (Int.emod_nonneg _ (by decide)) (Int.emod_lt_of_pos _ (by decide)), K2.upd⟩
        · exact ⟨_, _, _, _, rfl, I1, K1⟩
      · exact ⟨_, _, _, _, rfl, I1, K1⟩
    · rintro σ' H' ⟨a', d', f', v, rfl, I2, K2⟩
      refine ⟨_, rfl, p, _, rfl, I2.gDigits, _, _, rfl, rfl, _, rfl, ?_⟩
      refine ite2 (fun e => ?_) (fun _ => ?_)
      · refine ⟨_, rfl, p, _, rfl, I2.gDigits, .inl ⟨_, rfl, _, rfl, _, _, rfl, rfl, m0, ?_⟩⟩
        refine ⟨_, rfl, p, _, rfl, I2.gDigits, _, rfl, _, _, rfl, rfl, wide_div (b := 30) m0 (by omega) (by decide) (by decide), _, rfl, p, _, rfl, I2.pDigits _, ?_⟩
        refine ⟨_, rfl, k _ _ (Int.emod_nonneg _ (by omega)) (Int.emod_lt_of_pos _ m0) ⟨ns, _, _, _, I2.put I2.a0 (Int.ediv_nonneg I2.d0 (by omega)) I2.c0 I2.f0 I2.f1⟩ K2.upd⟩
      · have f0 := I2.f0
        have f1 := I2.f1
        refine ⟨_, rfl, p, _, rfl, I2.gFold, _, rfl, p, _, rfl, I2.gCount, _, _, rfl, rfl, .inl ⟨by omega, by omega⟩, _, _, rfl, rfl, _, _, rfl, rfl, ?_⟩
        refine ⟨_, rfl, _, _, rfl, rfl, ⟨by decide, by decide, by omega⟩, _, _, rfl, rfl, (show (0 : Int) < 2305843009213693951 by decide), .inl ⟨_, rfl, _, _, rfl, rfl, ⟨by decide, by decide⟩, _, rfl, _, _, rfl, rfl, m0, ?_⟩⟩
        exact k _ _ (Int.emod_nonneg _ (by omega)) (Int.emod_lt_of_pos _ m0) ⟨ns, _, _, _, I2⟩ K2
theorem kn_drawB (D : DefIs K mg "_law_draw" sDraw) (T : PTxt K mg) : Kn P w K mg base "_law_draw" 1 ["_law_pen_here", "_law_many"] spDrawB :=
  .of D (fun _ _ _ _ _ _ us hl => match us, hl with | [_, _], _ => rfl) fun _ _ F => ok_drawB F T
end
end GG

namespace GG
open PySem PySem.Spec PyProof.Rows L2 RZ
/-! ### drawn prices -/
abbrev sSomeP : Stmt := topS 61
def spSomeP : Sp := fun vs H Q _ => ∃ (p l d R : Addr) (c : Int) (n : Nat) (sc : Int) (ys : List V) (es : List (Int × List Int)), vs = [.ref p, .ref d] ∧ PenAt H p l c ∧ c < 8000000 ∧ H d = some (dictB n sc R) ∧ H R = some (.lst ys) ∧ Paired (NumT H) ys es ∧ 1 ≤ n ∧ n ≤ 3 ∧ es.length ≤ 60 ∧ (∀ e ∈ es, e.2.length = n ∧ ∀ z ∈ e.2, 0 ≤ z ∧ z ≤ 1000000) ∧
  ∀ (a : Addr) (ps : List Int) (c' : Int) (H' : Hp), H' a = some (.lst (ps.map .int)) → ps.length = n → (∀ z ∈ ps, 0 ≤ z ∧ z ≤ 30000000) → c' ≤ c + 12 → PenAt H' p l c' → Keep p H H' → Q (.ref a) H'
abbrev NSo : List Str := ["_law_pen_here", "_law_bids", "_law_kinds", "_law_numbers_here", "_law_weight", "_law_row", "_law_found", "_law_kind", "_law_stop", "_law_far"]
section
variable {P : Program} {w : World} {K : PySem.W.Frag} {mg : Str → Option Value} {base : Heap}
theorem scSomeP : FnScope NSo ["_law_pen_here", "_law_bids"] (defScope sSomeP) := ⟨rfl, rfl, rfl, by decide +kernel, rfl, by decide +kernel, by decide +kernel⟩
theorem kn_someP (D : DefIs K mg "_law_some_prices" sSomeP) (T : RTxt K mg) (zr : mg "range" = none) (zm : mg "max" = none) (B1 : Kn P w K mg base "_law_draw" 1 ["_law_pen_here", "_law_many"] spDrawB) (B2 : Kn P w K mg base "_law_pick" 2 ["_law_pen_here", "_law_some"] (spPick K)) : Kn P w K mg base "_law_some_prices" 3 ["_law_pen_here", "_law_bids"] spSomeP := by
  refine .of D (fun _ _ _ _ _ _ us hl => match us, hl with | [_, _], _ => rfl) fun fa _ F => ?_
  refine F.ok scSomeP (fun vs H Q E h => ?_) (fun cdv A outer s H vs Q E hr h => ?_)
  · obtain ⟨p, l, d, R, c, n, sc, ys, es, rfl, _⟩ := h
    rfl
  · obtain ⟨p, l, d, R, c, n, sc, ys, es, rfl, PA, c0, ed, eR, pR, n1, n3, l60, ok, k⟩ := h
    have hu := hu_of hr
    have hu64 : (A.deeper (envOfC "_law_some_prices" (defScope sSomeP) s.heap.objs.size fa cdv)).units + 64 < cLine := by have := hr.un; omega
    have hr1 : Room 1 _ := hr.mono (by decide)
    have hr2 : Room 2 _ := hr.mono (by decide)
    have dp : d ≠ p := by
      obtain ⟨_, _, _, _, I⟩ := PA
      exact ne_of ed I.obj (by intro z; cases z)
    have Rp : R ≠ p := by
      obtain ⟨_, _, _, _, I⟩ := PA
      exact ne_of eR I.obj (by intro z; cases z)
    have dgr : ∀ G, Keep p H G → DGet G d (.str "rows") (some (.ref R)) := fun G S => .inl ⟨_, .inr "rows", .inl (S _ _ dp ed), rfl, by kernel_rfl⟩
    have dgk : ∀ G, Keep p H G → DGet G d (.str "kinds") (some (.int (n : Int))) := fun G S => .inl ⟨_, .inr "kinds", .inl (S _ _ dp ed), rfl, by kernel_rfl⟩
    refine ⟨_, pss_cons (ps_par (i := 2) (j := 3) rfl scSomeP.nd rfl rfl (by decide) rfl rfl (pa_cons (pe_dget hu (pv 1) pe_str (fun _ _ => rfl)) (pa_cons (pe_lst (pa_cons pe_int pa_nil)) pa_nil)) rfl)
      (pss_cons (ps_for PassesOwn.never rfl (pi_list (pe_dget hu (pv 1) pe_str (fun _ _ => rfl))) (pg_tup rfl (pgs_cons (pg_name (i := 4) scSomeP.nd rfl (.inl rfl)) (pgs_cons (pg_name (i := 5) scSomeP.nd rfl (.inl rfl)) pgs_nil)))
        (pss_one (ps_set (i := 3) scSomeP.nd rfl (.inl rfl) (pe_op op_cat (pv 3) (pe_callTy call_list_of (by rfl) T.list bList (pa_cons (pv 5) pa_nil))))))
      (pss_cons (ps_set (i := 6) scSomeP.nd rfl (.inl rfl) (pe_lst pa_nil))
      (pss_cons (ps_for PassesOwn.never rfl (pi_range1 rfl zr (pa_cons (pv 2) pa_nil)) (pg_name (i := 7) scSomeP.nd rfl (.inl rfl))
        (pss_cons (ps_set (i := 8) scSomeP.nd rfl (.inl rfl) (pe_op op_mulW pe_int (pe_kn B2 hr2 (pa_cons (pv 0) (pa_cons (pv 3) pa_nil)))))
        (pss_cons (ps_set (i := 9) scSomeP.nd rfl (.inl rfl) (pe_kn B1 hr1 (pa_cons (pv 0) (pa_cons (pe_op op_add (pe_op op_mulW pe_int (pe_callB (cr_max rfl) (by rfl) zm bMax (pa_cons (pv 3) pa_nil))) pe_int) pa_nil))))
        (pss_one (ps_expr (pe_bm PySem.F.plainAttrs_list PySem.F.slot_list_append PySem.F.type_list_append mt_append (pv 6) (pa_cons (pe_kn B2 hr2 (pa_cons (pv 0) (pa_cons
          (pe_lst (pa_cons (pv 8) (pa_cons (pv 8) (pa_cons (pe_op op_add (pv 8) pe_int) (pa_cons (pe_callB (call_max2 rfl) (by rfl) zm bMax (pa_cons pe_int (pa_cons (pe_op op_sub (pv 8) pe_int) pa_nil))) (pa_cons pe_int (pa_cons (pv 9) pa_nil))))))) pa_nil))) pa_nil)))))))
      (Evl.pss_cut (ps_if (PW.pt (pw_and (pt_cmpR op_gt (pv 2) pe_int (nomark _)) (pw_and (pt_cmpR (op_neD hu64) (pe_dget hu (pv 1) pe_str (fun _ _ => rfl)) (pe_lst pa_nil) (nomark _)) (pw_and1 (pt_cmpR op_eq (pe_kn B1 hr1 (pa_cons (pv 0) (pa_cons pe_int pa_nil))) pe_int (nomark _))))))
          (pss_cons (ps_set (i := 5) scSomeP.nd rfl (.inl rfl) (pe_ix ix_tup (pe_kn B2 hr2 (pa_cons (pv 0) (pa_cons (pe_dget hu (pv 1) pe_str (fun _ _ => rfl)) pa_nil))) pe_int (fun _ _ => rfl)))
          (pss_one (ps_asg (pe_callB (call_max2 rfl) (by rfl) zm bMax (pa_cons pe_int (pa_cons (pe_op op_add (pe_ix ix_list (pv 6) pe_int (fun _ _ => rfl)) (pe_op op_mulW pe_int (pe_op op_sub (pe_ix ix_tup (pv 5) pe_int (fun _ _ => rfl)) (pe_ix ix_tup (pv 5) pe_int (fun _ _ => rfl))))) pa_nil))) (pg_sub (pv 6) pe_int set_list)))) pss_nil)
      (pss_one (ps_ret (pv 6))))))), ?_⟩
    refine ⟨_, rfl, d, _, rfl, dgk H Keep.refl, (by show 1 ≤ sizeLine; rw [sizeLine_eq]; decide), fun r0 nr0 => ⟨_, _, rfl, ?_⟩⟩
    have P0 := PA.new nr0 (o := .lst [.int 0])
    have K0 : Keep p H (upd H r0 (.lst [.int 0])) := Keep.refl.new nr0
    have er0 : (upd H r0 (.lst [.int 0])) r0 = some (.lst [.int 0]) := upd_same
    generalize (upd H r0 (.lst [.int 0])) = H0 at P0 K0 er0 ⊢
    refine ⟨_, rfl, d, _, rfl, dgr H0 K0, R, rfl, ⟨_, SqL.of (K0 _ _ Rp eR)⟩, for_list (xs := ys) (fun j σ G => ∃ (r : Addr) (ns : List Int) (v4 v5 : Option V), σ = [some (.ref p), some (.ref d), some (.int (n : Int)), some (.ref r), v4, v5, none, none, none, none] ∧ PenAt G p l c ∧ Keep p H G ∧ G r = some (.lst (ns.map V.int)) ∧ 0 < ns.length ∧ ns.length ≤ 1 + 3 * j ∧ ∀ z ∈ ns, 0 ≤ z ∧ z ≤ 1000000)
      ⟨r0, [0], none, none, rfl, P0, K0, er0, Nat.one_pos, Nat.le_refl _, fun z hz => by rw [List.mem_singleton.mp hz]; exact ⟨by decide, by decide⟩⟩ (fun j σ G _ z => ?_) (fun j x σ G hx z => ?_) (fun σ G z => ?_)⟩
    · obtain ⟨_, _, _, _, _, _, KG, _⟩ := z
      exact SqL.of (KG _ _ Rp eR)
    · obtain ⟨r, ns, v4, v5, rfl, PG, KG, er, l0, l1, bn⟩ := z
      obtain ⟨e, he, nt⟩ := paired_at pR hx
      obtain ⟨t, b, rfl, e1, e2, _⟩ := NumT.stay (KG.stay PA) nt
      obtain ⟨o1, o2⟩ := ok e (List.mem_of_getElem? he)
      have jl : j < es.length := (List.getElem?_eq_some_iff.mp he).1
      refine ⟨t, _, rfl, .inl (.inl e1), rfl, _, _, rfl, _, _, rfl, rfl, ?_⟩
      refine ⟨_, rfl, _, rfl, b, _, rfl, .inr (SqT.of e2), fun q nq => ?_⟩
      have S1 := GG.Same.new (L2.Same.refl G) nq (o := .lst (e.2.map V.int))
      have eq1 : (upd G q (.lst (e.2.map V.int))) q = some (.lst (e.2.map V.int)) := upd_same
      generalize (upd G q (.lst (e.2.map V.int))) = G1 at S1 eq1 ⊢
      refine ⟨r, q, _, _, rfl, rfl, S1 _ _ er, eq1, by rw [List.length_map, List.length_map, sizeLine_eq]; omega, fun r2 nr2 => ?_⟩
      have S2 := GG.Same.new (L2.Same.refl G1) nr2 (o := .lst (ns.map V.int ++ e.2.map V.int))
      refine ⟨r2, ns ++ e.2, _, _, rfl, PenAt.same (L2.Same.trans S1 S2) PG, fun b o nb ee => S2 _ _ (S1 _ _ (KG b o nb ee)), ?_, by rw [List.length_append]; omega, by rw [List.length_append]; omega, fun z hz => (List.mem_append.mp hz).elim (bn z) (o2 z)⟩
      rw [upd_same, List.map_append]
    · obtain ⟨r, ns, v4, v5, rfl, PG, KG, er, l0, l1, bn⟩ := z
      rw [Paired.length pR] at l1
      refine ⟨(by show 0 ≤ sizeLine; exact Nat.zero_le _), fun q nq => ?_⟩
      have nqH : H q = none := free_of KG PG nq
      obtain ⟨pq, lq⟩ := PG.ne nq
      have P1 := PG.new nq (o := .lst [])
      have rq : r ≠ q := fun z => by rw [z, nq] at er; cases er
      have rp : r ≠ p := by
        obtain ⟨_, _, _, _, I⟩ := PG
        exact ne_of er I.obj (by intro z; cases z)
      have er1 : (upd G q (.lst [])) r = some (.lst (ns.map V.int)) := by rw [upd_ne rq]; exact er
      have K1 : Keep p H (upd G q (.lst [])) := KG.new nq
      have eq1 : (upd G q (.lst [])) q = some (.lst []) := upd_same
      generalize (upd G q (.lst [])) = G1 at P1 K1 er1 eq1 ⊢
      refine ⟨_, rfl, (n : Int), rfl, by omega, by omega, ?_⟩
      rw [Int.toNat_natCast]
      refine for_range (n := n) (fun j σ G => ∃ (fs : List Int) (c1 : Int) (v7 v8 v9 : Option V), σ = [some (.ref p), some (.ref d), some (.int (n : Int)), some (.ref r), v4, v5, some (.ref q), v7, v8, v9] ∧ PenAt G p l c1 ∧ c1 ≤ c + 3 * j ∧ Keep p H G ∧ G r = some (.lst (ns.map V.int)) ∧ G q = some (.lst (fs.map V.int)) ∧ fs.length = j ∧ ∀ z ∈ fs, 0 ≤ z ∧ z ≤ 12000030)
        ⟨[], c, none, none, none, rfl, P1, by omega, K1, er1, eq1, rfl, fun z hz => nomatch hz⟩ ?_ ?_
      · rintro j σ G2 hj ⟨fs, c1, v7, v8, v9, rfl, P2, hc1, K2, er2, eq2, lf, bf⟩
        refine ⟨_, rfl, _, rfl, p, l, r, c1, _, rfl, P2, SqL.of er2, by rw [List.length_map]; exact l0, by rw [List.length_map]; omega, by omega, fun x G3 hx P3 K3 => ?_⟩
        obtain ⟨z1, hz1, rfl⟩ := List.mem_map.mp hx
        obtain ⟨z10, z11⟩ := bn z1 hz1
        refine ⟨_, _, rfl, rfl, mulW (by decide) (Nat.lt_of_le_of_lt (show z1.natAbs ≤ 1000000 by omega) (by decide)), ?_⟩
        have er3 := K3 _ _ rp er2
        have eq3 := K3 _ _ pq.symm eq2
        refine ⟨_, rfl, _, rfl, r, ns, rfl, SqL.of er3, l0, fun m hm hle => ?_⟩
        obtain ⟨m0, m1⟩ := bn m hm
        refine ⟨_, _, rfl, rfl, mulW (by decide) (Nat.lt_of_le_of_lt (show m.natAbs ≤ 1000000 by omega) (by decide)), _, _, rfl, rfl, p, l, c1 + 1, _, rfl, P3, by omega, by omega, by omega, fun far G4 f0 f1 P4 K4 => ?_⟩
        have er4 := K4 _ _ rp er3
        have eq4 := K4 _ _ pq.symm eq3
        refine ⟨_, rfl, .inl ⟨rfl, _, SqL.of eq4⟩, _, rfl, _, rfl, _, rfl, _, rfl, _, _, rfl, rfl, _, rfl, _, _, rfl, rfl, _, _, rfl, _, rfl, (by show 6 ≤ sizeLine; rw [sizeLine_eq]; decide), fun L nL => ?_⟩
        have P5 := P4.new nL (o := .lst [.int (12 * z1), .int (12 * z1), .int (12 * z1 + 6), .int (if 12 * z1 - 4 > 0 then 12 * z1 - 4 else 0), .int 0, .int far])
        have Lq : q ≠ L := fun z => by rw [z, nL] at eq4; cases eq4
        have Lr : r ≠ L := fun z => by rw [z, nL] at er4; cases er4
        refine ⟨p, l, L, c1 + 1 + 1, _, rfl, P5, SqL.of upd_same, (by show 0 < 6; decide), (by show 6 < 1000000; decide), by omega, fun x G6 hx6 P6 K6 => ?_⟩
        obtain ⟨y, rfl, y0, y1⟩ : ∃ y : Int, x = .int y ∧ 0 ≤ y ∧ y ≤ 12000030 := by
          simp only [List.mem_cons, List.not_mem_nil, or_false] at hx6
          rcases hx6 with rfl | rfl | rfl | rfl | rfl | rfl
          · exact ⟨_, rfl, by omega, by omega⟩
          · exact ⟨_, rfl, by omega, by omega⟩
          · exact ⟨_, rfl, by omega, by omega⟩
          · exact ⟨_, rfl, by split <;> omega, by split <;> omega⟩
          · exact ⟨_, rfl, by omega, by omega⟩
          · exact ⟨_, rfl, by omega, by omega⟩
        have er6 := K6 _ _ rp (show _ = some (HO.lst (ns.map V.int)) by rw [upd_ne Lr]; exact er4)
        have eq6 := K6 _ _ pq.symm (show _ = some (HO.lst (fs.map V.int)) by rw [upd_ne Lq]; exact eq4)
        have K46 : Keep p H G6 := ((((K2.trans K3).trans K4).new nL).trans K6)
        refine ⟨q, _, _, rfl, rfl, eq6, by rw [List.length_map, lf, sizeLine_eq]; omega, ?_⟩
        refine ⟨fs ++ [y], _, _, _, _, rfl, P6.put pq lq, by omega, ?_, ?_, ?_, by rw [List.length_append, lf]; rfl, fun z hz => ?_⟩
        · intro b o nb ee
          rw [upd_ne (ne_of_none ee nqH)]
          exact K46 b o nb ee
        · rw [upd_ne rq]
          exact er6
        · rw [upd_same, List.map_append]
          rfl
        · rcases List.mem_append.mp hz with w | w
          · exact bf z w
          · rw [List.mem_singleton.mp w]
            exact ⟨y0, y1⟩
      · rintro σ G2 ⟨fs, c1, v7, v8, v9, rfl, P2, hc1, K2, er2, eq2, lf, bf⟩
        refine ⟨fun σ' G' => ∃ (fs : List Int) (c2 : Int) (v5 : Option V), σ' = [some (.ref p), some (.ref d), some (.int (n : Int)), some (.ref r), v4, v5, some (.ref q), v7, v8, v9] ∧ PenAt G' p l c2 ∧ c2 ≤ c + 12 ∧ Keep p H G' ∧ G' q = some (.lst (fs.map V.int)) ∧ fs.length = n ∧ ∀ z ∈ fs, 0 ≤ z ∧ z ≤ 30000000, ?_, ?_⟩
        · have nothing : ∀ G3 c3, PenAt G3 p l c3 → c3 ≤ c1 + 1 → Keep p H G3 → G3 q = some (.lst (fs.map V.int)) → ∃ (fs : List Int) (c2 : Int) (v5' : Option V), [some (V.ref p), some (.ref d), some (.int (n : Int)), some (.ref r), v4, v5, some (.ref q), v7, v8, v9] = [some (.ref p), some (.ref d), some (.int (n : Int)), some (.ref r), v4, v5', some (.ref q), v7, v8, v9] ∧ PenAt G3 p l c2 ∧ c2 ≤ c + 12 ∧ Keep p H G3 ∧ G3 q = some (.lst (fs.map V.int)) ∧ fs.length = n ∧ ∀ z ∈ fs, 0 ≤ z ∧ z ≤ 30000000 :=
            fun G3 c3 P3 h3 K3 e3 => ⟨fs, c3, v5, rfl, P3, by omega, K3, e3, lf, fun z hz => ⟨(bf z hz).1, by have := (bf z hz).2; omega⟩⟩
          refine ⟨_, rfl, _, _, rfl, rfl, _, rfl, ?_⟩
          refine ite2 (fun k1 => ?_) (fun _ => nothing G2 c1 P2 (by omega) K2 eq2)
          have n2 : 1 < n := by
            have := of_decide_eq_true k1
            omega
          refine ⟨_, rfl, d, _, rfl, dgr G2 K2, (by show 0 ≤ sizeLine; exact Nat.zero_le _), fun e0 ne0 => ?_⟩
          have P3 := P2.new ne0 (o := .lst [])
          have S3 := GG.Same.new (L2.Same.refl G2) ne0 (o := .lst [])
          have ee0 : (upd G2 e0 (.lst [])) e0 = some (.lst []) := upd_same
          generalize (upd G2 e0 (.lst [])) = G3 at P3 S3 ee0 ⊢
          have K3 : Keep p H G3 := fun b o nb ee => S3 _ _ (K2 b o nb ee)
          have eq3 := S3 _ _ eq2
          have eR3 := K3 _ _ Rp eR
          have pR3 := Paired.mapP pR fun _ _ h => NumT.stay (K3.stay PA) h
          obtain ⟨ds, d1, d2, d3, d4⟩ := nums_dp (K := K) (Paired.mapP pR3 fun _ _ h => h.r)
          refine ⟨.list ds, .list [], .lst (SqL.of eR3) d1, .lst (SqL.of ee0) .nil, sh_list d3 d4, rfl, _, rfl, ?_⟩
          refine ite2 (fun k2 => ?_) (fun _ => nothing G3 c1 P3 (by omega) K3 eq3)
          have fne : 0 < ys.length := by
            rw [Paired.length pR, ← d2]
            cases h : ds with
            | nil => rw [h] at k2; simp [PyData.eqv, PyData.eqvAll] at k2
            | cons a r => simp
          refine ⟨_, rfl, p, l, c1, 2, rfl, P3, by omega, by omega, by omega, fun r1 G4 r10 r11 P4 K4 => ⟨rfl, _, rfl, ?_⟩⟩
          have eq4 := K4 _ _ pq.symm eq3
          have K4' := K3.trans K4
          refine ite2 (fun k3 => ?_) (fun _ => nothing G4 (c1 + 1) P4 (by omega) K4' eq4)
          refine ⟨_, rfl, _, rfl, d, _, rfl, dgr G4 K4', p, l, R, c1 + 1, ys, rfl, P4, SqL.of (K4' _ _ Rp eR), fne, by rw [Paired.length pR]; omega, by omega, fun x G5 hx P5 K5 => ?_⟩
          obtain ⟨i, hi⟩ := List.getElem?_of_mem hx
          have K5' := K4'.trans K5
          have eq5 := K5 _ _ pq.symm eq4
          obtain ⟨e, he, nt⟩ := paired_at pR hi
          obtain ⟨t, b, rfl, e1, e2, _⟩ := NumT.stay (K5'.stay PA) nt
          obtain ⟨o1, o2⟩ := ok e (List.mem_of_getElem? he)
          obtain ⟨x0, hx0⟩ : ∃ x0, e.2[0]? = some x0 := ⟨e.2[0]'(by omega), List.getElem?_eq_getElem (by omega)⟩
          obtain ⟨x1, hx1⟩ : ∃ x1, e.2[1]? = some x1 := ⟨e.2[1]'(by omega), List.getElem?_eq_getElem (by omega)⟩
          obtain ⟨f0, hf0⟩ : ∃ f0, fs[0]? = some f0 := ⟨fs[0]'(by omega), List.getElem?_eq_getElem (by omega)⟩
          obtain ⟨p0, p1⟩ := o2 x0 (List.mem_of_getElem? hx0)
          obtain ⟨p2, p3⟩ := o2 x1 (List.mem_of_getElem? hx1)
          obtain ⟨q0, q1⟩ := bf f0 (List.mem_of_getElem? hf0)
          refine ⟨t, _, _, _, rfl, rfl, SqT.of e1, atI_nat (j := 1) rfl, ?_⟩
          refine ⟨_, rfl, q, _, _, .int f0, rfl, rfl, SqL.of eq5, atI_nat (j := 0) (by rw [List.getElem?_map, hf0]; rfl), ?_⟩
          refine ⟨_, rfl, b, _, _, .int x1, rfl, rfl, SqT.of e2, atI_nat (j := 1) (by rw [List.getElem?_map, hx1]; rfl), _, rfl, b, _, _, .int x0, rfl, rfl, SqT.of e2, atI_nat (j := 0) (by rw [List.getElem?_map, hx0]; rfl), _, _, rfl, rfl, _, _, rfl, rfl, mulW (by decide) (Nat.lt_of_le_of_lt (show (x1 - x0).natAbs ≤ 1000000 by omega) (by decide)), _, _, rfl, rfl, _, _, rfl, ?_⟩
          refine ⟨_, rfl, q, _, 1, 1, rfl, rfl, eq5, ?_, ?_⟩
          · unfold ixN
            rw [List.length_map, lf, if_pos (by omega), if_pos (by omega)]
            rfl
          · refine ⟨fs.set 1 (if f0 + 12 * (x1 - x0) > 0 then f0 + 12 * (x1 - x0) else 0), c1 + 1 + 1, _, rfl, P5.put pq lq, by omega, ?_, ?_, by rw [List.length_set, lf], fun z hz => ?_⟩
            · intro b o nb ee
              rw [upd_ne (ne_of_none ee nqH)]
              exact K5' b o nb ee
            · rw [upd_same, List.map_set]
            · rcases List.mem_or_eq_of_mem_set hz with w | w
              · exact ⟨(bf z w).1, by have := (bf z w).2; omega⟩
              · rw [w]
                split <;> omega
        · rintro σ' G' ⟨fs, c2, v5', rfl, P3, hc2, K3, eq3, lf, bf⟩
          exact ⟨_, rfl, k q fs c2 G' eq3 lf bf hc2 P3 K3⟩
end
end GG

namespace GG
open PySem PySem.Spec PyProof.Rows L2 LamX
/-! ### what a plain list gains -/
def sF (f : RK → Int) (Ws : WS) : Int := (Ws.map fun e => e.1 * f e.2).sum
def sP (f : RK → Int) (W : WL) : Int := (W.map fun x => x.2 * f x.1).sum
theorem sP_add {f : RK → Int} {W : WL} (h : (W.map (·.1)).Nodup) (K : RK) (m : Int) : sP f (addW W K m) = sP f W + m * f K := by
  unfold addW
  split
  · rename_i q
    have key : ∀ (W : WL) (v : Int), (W.map (·.1)).Nodup → getW W K = some v → sP f (W.map fun e => if e.1 = K then (e.1, v + m) else e) = sP f W + m * f K := by
      intro W v
      induction W with
      | nil => intro _ e; cases e
      | cons e W ih =>
        intro nd g
        rw [List.map_cons] at nd ⊢
        obtain ⟨n1, n2⟩ := List.nodup_cons.mp nd
        by_cases hk : e.1 = K
        · have same : (W.map fun e => if e.1 = K then (e.1, v + m) else e) = W := by
            conv => rhs; rw [← List.map_id W]
            refine List.map_congr_left fun x hx => ?_
            rw [if_neg (fun z => n1 (by rw [hk, ← z]; exact List.mem_map.mpr ⟨x, hx, rfl⟩))]
            rfl
          have ev : e.2 = v := by simpa [getW, List.find?_cons, hk] using g
          rw [same, if_pos hk]
          unfold sP
          rw [List.map_cons, List.map_cons, List.sum_cons, List.sum_cons]
          dsimp only
          rw [hk, ev, Int.add_mul]
          omega
        · have g' : getW W K = some v := by
            unfold getW at g ⊢
            rw [List.find?_cons] at g
            simpa [hk] using g
          rw [if_neg hk]
          have := ih n2 g'
          unfold sP at this ⊢
          rw [List.map_cons, List.map_cons, List.sum_cons, List.sum_cons, this]
          omega
    obtain ⟨v, hv⟩ := Option.isSome_iff_exists.mp q
    rw [hv]
    exact key W v h hv
  · rename_i q
    have none : getW W K = none := by
      cases z : getW W K with
      | none => rfl
      | some v => exact absurd (by rw [z]; rfl) q
    rw [none]
    unfold sP
    rw [List.map_append, List.map_cons, List.map_nil, List.sum_append, List.sum_cons, List.sum_nil]
    simp
theorem sP_of (f : RK → Int) (Ws : WS) : sP f (ofWs Ws) = sF f Ws := by
  have key : ∀ (Ws : WS) (W : WL), (W.map (·.1)).Nodup → sP f (Ws.foldl (fun W e => addW W e.2 e.1) W) = sP f W + sF f Ws := by
    intro Ws
    induction Ws with
    | nil => intro W _; simp [sF]
    | cons e Ws ih =>
      intro W h
      rw [List.foldl_cons, ih _ (addW_nodup h), sP_add h]
      unfold sF
      rw [List.map_cons, List.sum_cons]
      omega
  have := key Ws [] List.nodup_nil
  rw [show ofWs Ws = Ws.foldl (fun W e => addW W e.2 e.1) [] from rfl, this]
  simp [sP]
theorem kept_sF {f : RK → Int} (f0 : ∀ K, wants K = false → f K = 0) (Ws : WS) : ((keptK (ofWs Ws)).map fun K => (getW (ofWs Ws) K).getD 0 * f K).sum = sP f (ofWs Ws) := by
  have nd := ofWs_nodup Ws
  have gm : ∀ x ∈ ofWs Ws, (getW (ofWs Ws) x.1).getD 0 = x.2 := fun x hx => by rw [getW_mem nd hx]; rfl
  unfold keptK sP
  generalize getW (ofWs Ws) = g at gm
  generalize ofWs Ws = W at gm
  clear nd
  induction W with
  | nil => rfl
  | cons x W ih =>
    have i := ih fun y hy => gm y (List.mem_cons_of_mem _ hy)
    have gx := gm x List.mem_cons_self
    rw [List.map_cons (f := fun x : RK × Int => x.2 * f x.1), List.sum_cons, List.filter_cons]
    by_cases q : keepW x = true
    · rw [if_pos q, List.map_cons, List.map_cons, List.sum_cons, i, gx]
    · rw [if_neg q, i]
      unfold keepW at q
      rw [Bool.and_eq_true] at q
      have z : x.2 * f x.1 = 0 := by
        cases w : wants x.1 with
        | false => rw [f0 _ w, Int.mul_zero]
        | true =>
          by_cases z : x.2 = 0
          · rw [z, Int.zero_mul]
          · refine absurd ⟨?_, w⟩ q
            have : ¬ V.int x.2 = V.int 0 := fun h => z (V.int.inj h)
            simp [this]
      omega
theorem plain_sF {f : RK → Int} (f0 : ∀ K, wants K = false → f K = 0) (n : Nat) (Ws : WS) : sF f (plainL n (ofWs Ws)) = sF f Ws := by
  unfold sF plainL
  rw [List.map_map]
  have h := perm_sum (f := fun K => (getW (ofWs Ws) K).getD 0 * f K) (List.mergeSort_perm (keptK (ofWs Ws)) (PySem.W.dataLe false (kD (botsK n (keptK (ofWs Ws))))))
  rw [kept_sF f0, sP_of] at h
  exact h
/-- what one bid is best for, on a scale -/
def bestN (N : Int) (Ks : RK) (K : RK) : Int := bestI (K.map (sc1 N)) (Ks.map (sc1 N))
theorem gainN_sF (N : Int) (es : WS) (Ks : RK) : gainN N es Ks = sF (bestN N Ks) es := by
  unfold gainN gainI sF
  rw [List.map_map]
  rfl
theorem bestN_zero {N : Int} (N0 : 0 ≤ N) {Ks : RK} (hk : ∀ r ∈ Ks, 0 ≤ r.1 ∧ 0 < r.2) {K : RK} (w : wants K = false) : bestN N Ks K = 0 := by
  have z0 : ∀ r ∈ K, r.1 = 0 := fun r hr => by
    unfold wants at w
    rw [List.any_eq_false] at w
    have := w r hr
    by_cases q : r.1 = 0
    · exact q
    · exfalso
      apply this
      have : ¬ V.int r.1 = V.int 0 := fun h => q (V.int.inj h)
      simp [this]
  unfold bestN bestI
  obtain ⟨_, h2, h3⟩ := foldl_max (List.zipWith (fun x y : Int => x - y) (K.map (sc1 N)) (Ks.map (sc1 N))) 0
  rcases h3 with q | q
  · exact q
  · obtain ⟨i, hi⟩ := List.getElem?_of_mem q
    rw [List.getElem?_zipWith, List.getElem?_map, List.getElem?_map] at hi
    cases h1 : K[i]? with
    | none => rw [h1] at hi; cases hi
    | some x =>
      cases h4 : Ks[i]? with
      | none => rw [h1, h4] at hi; cases hi
      | some y =>
        rw [h1, h4] at hi
        have e : sc1 N x - sc1 N y = _ := Option.some.inj hi
        have x0 : sc1 N x = 0 := by
          unfold sc1
          rw [z0 x (List.mem_of_getElem? h1), Int.zero_mul]
        have y0 : 0 ≤ sc1 N y := by
          obtain ⟨y1, y2⟩ := hk y (List.mem_of_getElem? h4)
          unfold sc1
          exact Int.mul_nonneg y1 (Int.ediv_nonneg N0 (Int.le_of_lt y2))
        omega
theorem gainN_plain {N : Int} (N0 : 0 ≤ N) {Ks : RK} (hk : ∀ r ∈ Ks, 0 ≤ r.1 ∧ 0 < r.2) (n : Nat) (Ws : WS) : gainN N (plainL n (ofWs Ws)) Ks = gainN N Ws Ks := by
  rw [gainN_sF, gainN_sF, plain_sF fun K w => bestN_zero N0 hk w]
theorem gainN_app (N : Int) (es fs : WS) (Ks : RK) : gainN N (es ++ fs) Ks = gainN N es Ks + gainN N fs Ks := by
  rw [gainN_sF, gainN_sF, gainN_sF]
  unfold sF
  rw [List.map_append, List.sum_append]
theorem gainN_neg (N : Int) (es : WS) (Ks : RK) : gainN N (timesW (-1) es) Ks = - gainN N es Ks := by
  rw [gainN_sF, gainN_sF]
  unfold sF timesW
  rw [List.map_map]
  induction es with
  | nil => rfl
  | cons e es ih =>
    rw [List.map_cons, List.map_cons, List.sum_cons, List.sum_cons, ih]
    show e.1 * -1 * bestN N Ks e.2 + _ = _
    rw [Int.mul_neg, Int.mul_one, Int.neg_mul]
    omega
/-! ### the law's gains -/
theorem sc1_lw {z b : Int} (b0 : 0 < b) {N : Int} (c : Int) (hN : N = b * c) : sc1 N (lw z b) = z * c := by
  obtain ⟨e1, e2⟩ := lw_exact z b
  obtain ⟨_, _, s3⟩ := lw_small (t := z) b0
  unfold sc1
  generalize (lw z b).1 = x at e1
  generalize (lw z b).2 = y at e2 s3
  generalize ((Nat.gcd z.natAbs b.natAbs : Nat) : Int) = g at e1 e2
  rw [hN, ← e2, ← e1, Int.mul_assoc y, Int.mul_ediv_cancel_left _ (by omega), Int.mul_assoc]
theorem law_gain {sc : Int} (s0 : 0 < sc) (c : Int) (c0 : 0 < c) {N : Int} (hN : N = 12 * sc * c) (E : List (Int × List Int)) (ps : List Int) : gainN N (E.map (ratE sc)) (ps.map fun z => lw z (12 * sc)) = gainI (E.map e12) ps * c := by
  rw [← gain_scale c0]
  unfold gainN
  rw [List.map_map, List.map_map, List.map_map]
  congr 1
  · refine List.map_congr_left fun e _ => ?_
    show (e.1, (e.2.map fun b => lw b sc).map (sc1 N)) = (e.1, (e.2.map (12 * ·)).map (· * c))
    rw [List.map_map, List.map_map]
    congr 1
    refine List.map_congr_left fun z _ => ?_
    show sc1 N (lw z sc) = 12 * z * c
    rw [sc1_lw s0 (12 * c) (by rw [hN, Int.mul_comm 12 sc, Int.mul_assoc]), Int.mul_comm 12 z, Int.mul_assoc]
  · refine List.map_congr_left fun z _ => ?_
    show sc1 N (lw z (12 * sc)) = z * c
    exact sc1_lw (by omega) c hN
theorem lw_gain {sc : Int} (hsc : sc = 1 ∨ sc = 2 ∨ sc = 10) (E : List (Int × List Int)) (ps : List Int) : lw (gainN ((NN : Nat) : Int) (E.map (ratE sc)) (ps.map fun z => lw z (12 * sc))) ((NN : Nat) : Int) = lw (gainI (E.map e12) ps) (12 * sc) := by
  obtain ⟨c, c0, hc⟩ : ∃ c : Int, 0 < c ∧ ((NN : Nat) : Int) = 12 * sc * c := by
    rcases hsc with rfl | rfl | rfl
    · exact ⟨57750, by decide, by decide⟩
    · exact ⟨28875, by decide, by decide⟩
    · exact ⟨5775, by decide, by decide⟩
  rw [law_gain (by omega) c c0 hc, hc, lw_scale c0]
theorem plus_lw {a a' b : Int} (b0 : 0 < b) : rPlus (lw a b) (lw a' b) = lw (a + a') b := by
  obtain ⟨e1, e2⟩ := lw_exact a b
  obtain ⟨f1, f2⟩ := lw_exact a' b
  have g0 : (0 : Int) < ((Nat.gcd a.natAbs b.natAbs : Nat) : Int) := by
    have := Nat.gcd_pos_of_pos_right a.natAbs (show 0 < b.natAbs by omega)
    omega
  have h0 : (0 : Int) < ((Nat.gcd a'.natAbs b.natAbs : Nat) : Int) := by
    have := Nat.gcd_pos_of_pos_right a'.natAbs (show 0 < b.natAbs by omega)
    omega
  unfold rPlus
  generalize ((Nat.gcd a.natAbs b.natAbs : Nat) : Int) = g at e1 e2 g0
  generalize ((Nat.gcd a'.natAbs b.natAbs : Nat) : Int) = h at f1 f2 h0
  rw [← lw_scale (k := g * h) (Int.mul_pos g0 h0), ← lw_scale (t := a + a') (b := b) (k := b) b0]
  generalize (lw a b).1 = x at e1
  generalize (lw a b).2 = y at e2
  generalize (lw a' b).1 = x' at f1
  generalize (lw a' b).2 = y' at f2
  congr 1
  · rw [Int.add_mul, Int.add_mul, ← e1, ← f1]
    have q1 : x * y' * (g * h) = x * g * (y' * h) := by simp [Int.mul_assoc, Int.mul_comm, Int.mul_left_comm]
    have q2 : x' * y * (g * h) = x' * h * (y * g) := by simp [Int.mul_assoc, Int.mul_comm, Int.mul_left_comm]
    rw [q1, q2, e2, f2]
  · have q1 : y * y' * (g * h) = (y * g) * (y' * h) := by simp [Int.mul_assoc, Int.mul_comm, Int.mul_left_comm]
    rw [q1, e2, f2]
theorem times_lw {a b : Int} (b0 : 0 < b) : rTimes (lw a b) (-1, 1) = lw (-a) b := by
  obtain ⟨e1, e2⟩ := lw_exact a b
  have g0 : (0 : Int) < ((Nat.gcd a.natAbs b.natAbs : Nat) : Int) := by
    have := Nat.gcd_pos_of_pos_right a.natAbs (show 0 < b.natAbs by omega)
    omega
  unfold rTimes
  generalize ((Nat.gcd a.natAbs b.natAbs : Nat) : Int) = g at e1 e2 g0
  rw [← lw_scale (k := g) g0]
  dsimp only
  rw [Int.mul_one, e2, Int.mul_neg, Int.mul_one, Int.neg_mul, e1]
/-! ### what the law hands to gain -/
theorem pl_ok {n : Nat} {sc : Int} {E : List (Int × List Int)} (pl : PlE n sc E) {Ks : RK} (hk : ∀ r ∈ Ks, okR NN r) : GrOk NN n (E.map (ratE sc)) Ks := by
  refine ⟨by decide, by decide, pl.n1, pl.n3, by rw [List.length_map]; have := pl.ln; omega, fun e he => ?_, fun r hr => (hk r hr).1⟩
  have ok := pl.self.1 e he
  obtain ⟨e', h', rfl⟩ := List.mem_map.mp he
  refine ⟨ok.1, ?_, fun r hr => (ok.2 r hr).1⟩
  have := (pl.row e' h').2.1
  exact Nat.lt_of_le_of_lt this (by decide)
theorem prices_data {ds : List PyData} {Ks : RK} {n : Nat} (h : Paired NumD ds Ks) (l : Ks.length = n) (n3 : n ≤ 3) (k0 : ∀ r ∈ Ks, 0 ≤ r.1) :
    areP (.tuple ds) (n : Int) = true ∧ areP (.list ds) (n : Int) = true ∧ smallS (.tuple ds) ∧ smallS (.list ds) ∧ rowOfD (.tuple ds) = Ks ∧ rowOfD (.list ds) = Ks := by
  have ln := Paired.length h
  have key : ∀ {ds : List PyData} {Ks : RK}, Paired NumD ds Ks → (∀ r ∈ Ks, 0 ≤ r.1) → ds.all isZ = true ∧ (∀ x ∈ ds, smallR x) ∧ ds.map ratOf = Ks := by
    intro ds Ks h
    induction h with
    | nil => intro _; exact ⟨rfl, (fun x hx => nomatch hx), rfl⟩
    | cons a t ih =>
      intro k0
      obtain ⟨i1, i2, i3⟩ := ih fun r hr => k0 r (List.mem_cons_of_mem _ hr)
      obtain ⟨a1, a2, a3⟩ := a
      have a4 := k0 _ List.mem_cons_self
      refine ⟨?_, fun x hx => ?_, ?_⟩
      · rw [List.all_cons, i1, Bool.and_true]
        unfold isZ
        rw [a1, a2, decide_eq_true a4]
        rfl
      · rcases List.mem_cons.mp hx with rfl | q
        · exact a3
        · exact i2 x q
      · rw [List.map_cons, a2, i3]
  obtain ⟨i1, i2, i3⟩ := key h k0
  have ar : (decide ((ds.length : Int) = (n : Int)) && ds.all isZ) = true := by rw [i1, decide_eq_true (by omega)]; rfl
  exact ⟨ar, ar, ⟨by omega, i2⟩, ⟨by omega, i2⟩, i3, i3⟩
theorem rat_sh {a b : Int} : SeqAt.shaped (.tuple [.int a, .int b]) = true := by
  show (PyData.canLay0 _ && decide (PyData.depth _ ≤ 64)) = true
  simp [PyData.canLay0, PyData.canLayAll0, PyData.depth, PyData.depthAll]
theorem rat_ev {a b : Int} : PyData.eqv (.tuple [.int a, .int b]) (.tuple [.int a, .int b]) = true := by simp [PyData.eqv, PyData.eqvAll]
theorem rat_dp {K : PySem.W.Frag} {H : Hp} {p : Addr} {a b : Int} (e : H p = some (.tup [.int a, .int b])) : Dp K H (.ref p) (.tuple [.int a, .int b]) := .tup (.inl (.inl e)) (.cons (.int _) (.cons (.int _) .nil))
theorem row_up {n b b' : Nat} {top : Int} {e : Int × List Int} (h : rowW n top b e) (t : top ≤ 1000000) (bb : b ≤ b') : rowW n 1000000 b' e := ⟨h.1, Nat.le_trans h.2.1 bb, fun z hz => ⟨(h.2.2.1 z hz).1, by have := (h.2.2.1 z hz).2; omega⟩, h.2.2.2⟩
/-- all times -1 -/
def negL (es : List (Int × List Int)) : List (Int × List Int) := es.map fun e => (e.1 * -1, e.2)
theorem neg_rat (sc : Int) (es : List (Int × List Int)) : timesW (-1) (es.map (ratE sc)) = (negL es).map (ratE sc) := by
  unfold timesW negL
  rw [List.map_map, List.map_map]
  rfl
theorem neg_row {n b : Nat} {top : Int} {es : List (Int × List Int)} (row : ∀ e ∈ es, rowW n top b e) : ∀ e ∈ negL es, rowW n top b e := by
  intro x hx
  obtain ⟨e, he, rfl⟩ := List.mem_map.mp hx
  obtain ⟨r1, r2, r3, r4⟩ := row e he
  exact ⟨r1, by show (e.1 * -1).natAbs ≤ b; omega, r3, r4⟩
theorem pl_wok {n : Nat} {sc : Int} {E : List (Int × List Int)} (pl : PlE n sc E) : WOk n (E.map (ratE sc)) := by
  refine ⟨pl.n1, pl.n3, by rw [List.length_map]; have := pl.ln; omega, fun e he => ⟨pl.self.1 e he, ?_⟩⟩
  obtain ⟨e', h', rfl⟩ := List.mem_map.mp he
  have := (pl.row e' h').2.1
  exact Nat.lt_of_le_of_lt this (by decide)
theorem BidsAt.stay {C : Addr} {H H' : Hp} {x : Addr} {n : Nat} {d : PyData} (k : Stay H H') (h : BidsAt C H x n d) : BidsAt C H' x n d := by
  obtain ⟨dx, fs, p, e, f1, f2, a⟩ := h
  exact ⟨dx, fs, p, k _ _ e (fun _ _ _ _ _ z => by cases z), f1, f2, a.stay k⟩
theorem stayB {H H' : Hp} (k : Stay H H') {d R : Addr} {n : Nat} {sc : Int} (e : H d = some (dictB n sc R)) : H' d = some (dictB n sc R) := k _ _ e (fun _ _ _ _ _ z => by cases z)
theorem rows_app {n b : Nat} {top : Int} {E F : List (Int × List Int)} (hE : ∀ e ∈ E, rowW n top b e) (hF : ∀ e ∈ F, rowW n top b e) : ∀ e ∈ E ++ F, rowW n top b e := fun e he => (List.mem_append.mp he).elim (hE e) (hF e)
theorem best_abs {M : Nat} {b p : List Int} (hb : ∀ z ∈ b, 0 ≤ z ∧ z ≤ (M : Int)) (hp : ∀ z ∈ p, 0 ≤ z) : 0 ≤ bestI b p ∧ bestI b p ≤ (M : Int) := by
  unfold bestI
  obtain ⟨_, h2, h3⟩ := foldl_max (List.zipWith (fun x y : Int => x - y) b p) 0
  refine ⟨h2, ?_⟩
  rcases h3 with q | q
  · omega
  · obtain ⟨i, hi⟩ := List.getElem?_of_mem q
    rw [List.getElem?_zipWith] at hi
    cases h1 : b[i]? with
    | none => rw [h1] at hi; cases hi
    | some x =>
      cases h4 : p[i]? with
      | none => rw [h1, h4] at hi; cases hi
      | some y =>
        rw [h1, h4] at hi
        have e : x - y = _ := Option.some.inj hi
        have := hb x (List.mem_of_getElem? h1)
        have := hp y (List.mem_of_getElem? h4)
        omega
theorem gain_abs {W M : Nat} {p : List Int} (hp : ∀ z ∈ p, 0 ≤ z) : ∀ es : List (Int × List Int), (∀ e ∈ es, e.1.natAbs ≤ W ∧ ∀ z ∈ e.2, 0 ≤ z ∧ z ≤ (M : Int)) → (gainI es p).natAbs ≤ es.length * (W * M)
  | [], _ => by show (0 : Int).natAbs ≤ _; simp
  | e :: es, h => by
    have i := gain_abs hp es fun x hx => h x (List.mem_cons_of_mem _ hx)
    obtain ⟨h1, h2⟩ := h e List.mem_cons_self
    obtain ⟨b1, b2⟩ := best_abs h2 hp
    have e0 : gainI (e :: es) p = e.1 * bestI e.2 p + gainI es p := by
      unfold gainI
      rw [List.map_cons, List.sum_cons]
    have m : (e.1 * bestI e.2 p).natAbs ≤ W * M := by
      rw [Int.natAbs_mul]
      exact Nat.mul_le_mul h1 (by omega)
    rw [e0, List.length_cons, Nat.succ_mul]
    omega
theorem ple_abs {n : Nat} {sc : Int} {E : List (Int × List Int)} (pl : PlE n sc E) {ps : List Int} (hp : ∀ z ∈ ps, 0 ≤ z) : (gainI (E.map e12) ps).natAbs ≤ 36000000000000 := by
  have := gain_abs (W := 100000) (M := 12000000) hp (E.map e12) fun e he => by
    obtain ⟨e', h', rfl⟩ := List.mem_map.mp he
    obtain ⟨_, r2, r3, _⟩ := pl.row e' h'
    refine ⟨r2, fun z hz => ?_⟩
    obtain ⟨y, hy, rfl⟩ := List.mem_map.mp hz
    have := r3 y hy
    show 0 ≤ 12 * y ∧ 12 * y ≤ ((12000000 : Nat) : Int)
    omega
  rw [List.length_map] at this
  have l := pl.ln
  omega
theorem smallP_lw {t b : Int} (b0 : 0 < b) (ht : t.natAbs ≤ 36000000000000) (hb : b ≤ 120) : smallP (lw t b) := by
  obtain ⟨s1, s2, s3⟩ := lw_small (t := t) b0
  exact ⟨Nat.lt_of_le_of_lt (Nat.le_trans s1 ht) (by decide), Nat.lt_of_le_of_lt (Nat.le_trans s2 (show b.natAbs ≤ 120 by omega)) (by decide), s3⟩
theorem tms_rat (sc : Int) (es : List (Int × List Int)) (b : Nat) (top : Int) (s0 : 0 < sc) (sN : sc.natAbs ∣ NN) (t1 : top ≤ 1000000) {n : Nat} (row : ∀ e ∈ es, rowW n top b e) : plainL n (ofWs (timesW (-1) (es.map (ratE sc)))) = (rowsM (mOf (negL es))).map (ratE sc) := by
  rw [neg_rat]
  exact plain_merged s0 sN t1 (neg_row row)
theorem lw_sum {sc : Int} (hsc : sc = 1 ∨ sc = 2 ∨ sc = 10) {E1 E2 E3 : List (Int × List Int)} {ps : List Int} {n : Nat} (hk : ∀ r ∈ (ps.map fun z => lw z (12 * sc)), 0 ≤ r.1 ∧ 0 < r.2) (h : plainL n (ofWs (E1.map (ratE sc) ++ E2.map (ratE sc))) = E3.map (ratE sc)) : lw (gainI (E3.map e12) ps) (12 * sc) = lw (gainI (E1.map e12) ps + gainI (E2.map e12) ps) (12 * sc) := by
  obtain ⟨c, c0, hc⟩ : ∃ c : Int, 0 < c ∧ ((NN : Nat) : Int) = 12 * sc * c := by
    rcases hsc with rfl | rfl | rfl
    · exact ⟨57750, by decide, by decide⟩
    · exact ⟨28875, by decide, by decide⟩
    · exact ⟨5775, by decide, by decide⟩
  rw [← lw_gain hsc, ← h, gainN_plain (Int.natCast_nonneg _) hk, gainN_app, law_gain (by omega) c c0 hc, law_gain (by omega) c c0 hc, ← Int.add_mul, hc, lw_scale c0]
theorem lw_neg {sc : Int} (hsc : sc = 1 ∨ sc = 2 ∨ sc = 10) {E1 E3 : List (Int × List Int)} {ps : List Int} {n : Nat} (hk : ∀ r ∈ (ps.map fun z => lw z (12 * sc)), 0 ≤ r.1 ∧ 0 < r.2) (h : plainL n (ofWs (timesW (-1) (E1.map (ratE sc)))) = E3.map (ratE sc)) : lw (gainI (E3.map e12) ps) (12 * sc) = lw (- gainI (E1.map e12) ps) (12 * sc) := by
  obtain ⟨c, c0, hc⟩ : ∃ c : Int, 0 < c ∧ ((NN : Nat) : Int) = 12 * sc * c := by
    rcases hsc with rfl | rfl | rfl
    · exact ⟨57750, by decide, by decide⟩
    · exact ⟨28875, by decide, by decide⟩
    · exact ⟨5775, by decide, by decide⟩
  rw [← lw_gain hsc, ← h, gainN_plain (Int.natCast_nonneg _) hk, gainN_neg, law_gain (by omega) c c0 hc, ← Int.neg_mul, hc, lw_scale c0]
theorem BidsAt.ext {C : Addr} {H H' : Hp} {x : Addr} {n : Nat} {d : PyData} (k : ExtN H H') (h : BidsAt C H x n d) : BidsAt C H' x n d := by
  obtain ⟨dx, fs, p, e, f1, f2, a⟩ := h
  exact ⟨dx, fs, p, k _ _ e (fun _ z => by cases z), f1, f2, a.ext k⟩
theorem zero_npd : ∀ n : Nat, Paired NumD (List.replicate n (PyData.int 0)) (List.replicate n ((0 : Int), (1 : Int)))
  | 0 => .nil
  | n + 1 => .cons ⟨rfl, rfl, (show (0 : Int).natAbs < 2 ^ 120 by decide)⟩ (zero_npd n)
theorem zero_ok {n : Nat} (n1 : 1 ≤ n) (n3 : n ≤ 3) : GrOk 1 n [] (List.replicate n ((0 : Int), (1 : Int))) := ⟨by decide, by decide, n1, n3, by decide, (fun e he => nomatch he), fun r hr => by
  rw [(List.mem_replicate.mp hr).2]
  exact ⟨by decide, by decide, by decide⟩⟩
theorem row_ev {d : PyData} (h : PyData.eqv d d = true) : PyData.eqv (.tuple [.str "row", d]) (.tuple [.str "row", d]) = true := by simp [PyData.eqv, PyData.eqvAll, h]
end GG

namespace GG
open PySem PySem.Spec PyProof.Rows L2 RZ LamX
abbrev sLaw : Stmt := topS 64
def qLam : Str := (envOfC "law" (defScope sLaw) 0 0 .none).qual ++ "<lambda>"
abbrev N15 : List Str := ["_law_script", "_law_pen_here", "_law_kinds", "_law_scale_here", "_law_one", "_law_two", "_law_made_here", "_law_other", "_law_lap", "_law_prices", "_law_passed_here", "_law_due", "_law_more", "_law_told", "_law_bad"]
def spLaw (K : PySem.W.Frag) (T : Addr) : Sp := fun vs H Q _ => ∃ (a : Addr) (ns : List Int), vs = [.ref a] ∧ SqL K H a (ns.map V.int) ∧ ns.length ≤ 63 ∧ H T = some (.tbl #[]) ∧ ∀ H', Q (.bl true) H'
/-- what stands behind a name, for the law -/
structure LTxt (P : Program) (w : World) (K : PySem.W.Frag) (mg : Str → Option Value) (base : Heap) (C CU CR : Addr) : Prop where
  range : mg "range" = none
  list : mg "list" = none
  pen : Kn P w K mg base "_law_pen" 1 ["_law_script"] (spPen K)
  draw : Kn P w K mg base "_law_draw" 1 ["_law_pen_here", "_law_many"] spDraw
  pick : Kn P w K mg base "_law_pick" 2 ["_law_pen_here", "_law_some"] (spPick K)
  scale : Kn P w K mg base "_law_scale" 3 ["_law_pen_here"] spScale
  lst : Kn P w K mg base "_law_list" 5 ["_law_pen_here", "_law_kinds", "_law_scale_here", "_law_most", "_law_many"] spList
  made : Kn P w K mg base "_law_made" 10 ["_law_pen_here", "_law_bids"] (spMade C)
  prices : Kn P w K mg base "_law_some_prices" 3 ["_law_pen_here", "_law_bids"] spSomeP
  passed : Kn P w K mg base "_law_passed_prices" 4 ["_law_pen_here", "_law_bids", "_law_prices"] spLPP
  q : Kn P w K mg base "_law_q" 2 ["_law_top", "_law_bottom"] spQ
  lgain : Kn P w K mg base "_law_gain" 2 ["_law_bids", "_law_prices"] spLGain
  ratio : Kn P w K mg base "_law_is_ratio" 2 ["_law_value"] spLRat
  plus : Kn P w K mg base "_law_plus" 3 ["_law_one", "_law_two"] (spLaw2 (okTup rPlus))
  times : Kn P w K mg base "_law_times" 3 ["_law_one", "_law_two"] (spLaw2 (okTup rTimes))
  wrong : Kn P w K mg base "_law_wrong_prices" 4 ["_law_pen_here", "_law_kinds"] spWrong
  gain : KnX P w K mg base "gain" 9 ["bids", "prices"] (spGain C CR)
  bids : BiTxt P w K mg base C
  add : ∃ fA fd ps, FnOk P w K mg base (L2.CX P w) 10 fA fd ps (spAdd C CU) ∧ PySem.W.findIn K (.ref C) "__add__" = some (some (.ref fA)) ∧ PySem.W.isFn K (.ref fA) = true ∧ Binds K fd ps []
  neg : ∃ fA fd ps, FnOk P w K mg base CX0 10 fA fd ps (spNeg C) ∧ PySem.W.findIn K (.ref C) "__neg__" = some (some (.ref fA)) ∧ PySem.W.isFn K (.ref fA) = true ∧ Binds K fd ps []
  sf : PySem.W.selfFirst K C = true
section
variable {P : Program} {w : World} {K : PySem.W.Frag} {mg : Str → Option Value} {base : Heap}
theorem scLaw : FnScope N15 ["_law_script"] (defScope sLaw) := ⟨rfl, rfl, rfl, by decide +kernel, rfl, by decide +kernel, by decide +kernel⟩
theorem ok_law {f c Tb g C CU CR : Addr} {oc kV doc pm ct goc gkV gdoc gpm gcdv gct : Value} {an od gan god : Option Addr} {osl gosl : Array (Option Value)}
    (look : K.lookup f = some ⟨oc, od, .func (PySem.W.fnOf "law" "law" (defArgs sLaw) (defBody sLaw) (defScope sLaw) .none kV doc pm an (.ref c) ct), osl⟩) (code : PySem.W.codeIn K (.ref c) "law" = true)
    (T : LTxt P w K mg base C CU CR) (WT : FTxtR K mg CR)
    (mW : mg "_law_fault" = some (.ref g)) (kW : PySem.W.keepIn K (.ref g) = true) (lkW : K.lookup g = some ⟨goc, god, .func (PySem.W.fnOf "_law_fault" "_law_fault" (defArgs sFault) (defBody sFault) (defScope sFault) .none gkV gdoc gpm gan gcdv gct), gosl⟩) (cW : PySem.W.codeIn K gcdv "_law_fault" = true)
    (bW : Binds K (PySem.W.fnOf "_law_fault" "_law_fault" (defArgs sFault) (defBody sFault) (defScope sFault) .none gkV gdoc gpm gan gcdv gct) ["_law_call"] [])
    (TB : TabB base mg c Tb) :
    FnG P w K mg base 15 f (PySem.W.fnOf "law" "law" (defArgs sLaw) (defBody sLaw) (defScope sLaw) .none kV doc pm an (.ref c) ct) ["_law_script"] (spLaw K Tb) := by
  refine fnGC look code scLaw (fun vs H Q E h => ?_) (fun A outer s H vs Q E noG hr h => ?_)
  · obtain ⟨a, ns, rfl, _⟩ := h
    rfl
  · obtain ⟨a, ns, rfl, S, hl, tb, want⟩ := h
    obtain ⟨fI, fdI, MI, bI, GI⟩ := T.bids.ini
    obtain ⟨fA, fdA, psA, GA, iA, nA, bA⟩ := T.add
    obtain ⟨fN, fdN, psN, GN, iN, nN, bN⟩ := T.neg
    have hu := hu_of hr
    have hr1 : Room 1 _ := hr.mono (by decide)
    have hr2 : Room 2 _ := hr.mono (by decide)
    have hr3 : Room 3 _ := hr.mono (by decide)
    have hr4 : Room 4 _ := hr.mono (by decide)
    have hr5 : Room 5 _ := hr.mono (by decide)
    have hr9 : Room 9 _ := hr.mono (by decide)
    have hr10 : Room 10 _ := hr.mono (by decide)
    have hr11 : Room (9 + 2) _ := hr.mono (by decide)
    have hu64 : (A.deeper (envOfC "law" (defScope sLaw) s.heap.objs.size f (.ref c))).units + 64 < cLine := by have := hr.un; omega
    refine ⟨_, pss_cons (ps_set (i := 1) scLaw.nd rfl (.inl rfl) (pe_kn T.pen hr1 (pa_cons (pv 0) pa_nil)))
      (pss_cons (ps_par (i := 2) (j := 3) rfl scLaw.nd rfl rfl (by decide) rfl rfl (pa_cons (pe_op op_add pe_int (pe_kn T.draw hr1 (pa_cons (pv 1) (pa_cons pe_int pa_nil)))) (pa_cons (pe_kn T.scale hr3 (pa_cons (pv 1) pa_nil)) pa_nil)) rfl)
      (pss_cons (ps_set (i := 4) scLaw.nd rfl (.inl rfl) (pe_kn T.lst hr5 (pa_cons (pv 1) (pa_cons (pv 2) (pa_cons (pv 3) (pa_cons (pe_kn T.pick hr2 (pa_cons (pv 1) (pa_cons (pe_lst (pa_cons pe_int (pa_cons pe_int (pa_cons pe_int pa_nil)))) pa_nil))) (pa_cons (pe_kn T.draw hr1 (pa_cons (pv 1) (pa_cons pe_int pa_nil))) pa_nil)))))))
      (pss_cons (ps_set (i := 5) scLaw.nd rfl (.inl rfl) (pe_kn T.lst hr5 (pa_cons (pv 1) (pa_cons (pv 2) (pa_cons (pv 3) (pa_cons pe_int (pa_cons (pe_kn T.draw hr1 (pa_cons (pv 1) (pa_cons pe_int pa_nil))) pa_nil)))))))
      (pss_cons (ps_asg (pe_tup (pa_cons (pe_kn T.made hr10 (pa_cons (pv 1) (pa_cons (pv 4) pa_nil))) (pa_cons (pe_kn T.made hr10 (pa_cons (pv 1) (pa_cons (pv 5) pa_nil))) pa_nil))) (pg_tup rfl (pgs_cons (pg_name (i := 6) scLaw.nd rfl (.inr rfl)) (pgs_cons (pg_name (i := 7) scLaw.nd rfl (.inl rfl)) pgs_nil))))
      (pss_cons (ps_for PassesOwn.never rfl (pi_range1 rfl T.range (pa_cons pe_int pa_nil)) (pg_name (i := 8) scLaw.nd rfl (.inl rfl))
        (pss_cons (ps_set (i := 9) scLaw.nd rfl (.inl rfl) (pe_kn T.prices hr3 (pa_cons (pv 1) (pa_cons (pe_kn T.pick hr2 (pa_cons (pv 1) (pa_cons (pe_lst (pa_cons (pv 4) (pa_cons (pv 5) pa_nil))) pa_nil))) pa_nil))))
        (pss_cons (ps_set (i := 10) scLaw.nd rfl (.inl rfl) (pe_kn T.passed hr4 (pa_cons (pv 1) (pa_cons (pv 4) (pa_cons (pv 9) pa_nil)))))
        (pss_cons (ps_par (i := 11) (j := 12) rfl scLaw.nd rfl rfl (by decide) rfl rfl (pa_cons (pe_kn T.q hr2 (pa_cons (pe_kn T.lgain hr2 (pa_cons (pv 4) (pa_cons (pv 9) pa_nil))) (pa_cons (pe_op op_mulW pe_int (pv 3)) pa_nil))) (pa_cons (pe_kn T.q hr2 (pa_cons (pe_kn T.lgain hr2 (pa_cons (pv 5) (pa_cons (pv 9) pa_nil))) (pa_cons (pe_op op_mulW pe_int (pv 3)) pa_nil))) pa_nil)) rfl)
        (pss_cons (ps_set (i := 13) scLaw.nd rfl (.inl rfl) (pe_knX T.gain hr9 LamX.takes0 (E := fun _ _ _ => False) (fun _ _ _ _ z => z) (pa_cons (pv 6) (pa_cons (pe_kn T.pick hr2 (pa_cons (pv 1) (pa_cons (pe_lst (pa_cons (pv 10) (pa_cons (pe_callTy call_list_of (by rfl) T.list bList (pa_cons (pv 10) pa_nil)) pa_nil))) pa_nil))) pa_nil))))
        (pss_cons (ps_if (PW.pt (pw_or (pt_cmpR (op_neD hu64) (pv 13) (pv 11) (nomark _)) (pw_or1 (pt_not (pt_val (pe_kn T.ratio hr2 (pa_cons (pv 13) pa_nil))))))) (pss_one (ps_ret pe_bl)) pss_nil)
        (pss_one (ps_if (PW.pt (pw_or (pt_cmpR (op_neD hu64) (pe_knX T.gain hr9 LamX.takes0 (E := fun _ _ _ => False) (fun _ _ _ _ z => z) (pa_cons (pe_op (op_own2 GA iA nA T.sf bA (passes_call LamX.takes0 (E := fun _ _ _ => False) (fun _ _ _ _ z => z)) hr10) (pv 6) (pv 7)) (pa_cons (pv 10) pa_nil))) (pe_kn T.plus hr3 (pa_cons (pv 11) (pa_cons (pv 12) pa_nil))) (nomark _))
            (pw_or1 (pt_cmpR (op_neD hu64) (pe_knX T.gain hr9 LamX.takes0 (E := fun _ _ _ => False) (fun _ _ _ _ z => z) (pa_cons (pe_un (un_own GN iN nN bN pass0 hr10) (pv 6)) (pa_cons (pv 10) pa_nil))) (pe_kn T.times hr3 (pa_cons (pv 11) (pa_cons (pe_tup (pa_cons (pe_un un_neg pe_int) (pa_cons pe_int pa_nil))) pa_nil))) (nomark _))))) (pss_one (ps_ret pe_bl)) pss_nil))))))))
      (pss_cons (ps_set (i := 14) scLaw.nd rfl (.inr rfl) (pe_kn T.wrong hr4 (pa_cons (pv 1) (pa_cons (pv 2) pa_nil))))
      (pss_cons (ps_if (pt_cmpR (op_neD hu64) (pe_knX T.gain hr9 LamX.takes0 (E := fun _ _ _ => False) (fun _ _ _ _ z => z) (pa_cons (pe_make MI GI hr9 rfl T.bids.m bI .nil (passes_call LamX.takes0 (E := fun _ _ _ => False) (fun _ _ _ _ z => z)) (pa_cons (pv 2) (pa_cons (pe_lst pa_nil) pa_nil))) (pa_cons (pe_op op_repZ (pe_tup (pa_cons pe_int pa_nil)) (pv 2)) pa_nil))) (pe_tup (pa_cons pe_int (pa_cons pe_int pa_nil))) (nomark _)) (pss_one (ps_ret pe_bl)) pss_nil)
      (pss_one (ps_ret (pe_cmpR (op_eqD hu64) (pe_lamcall (T := [(Tb, qLam)]) (t := fun E => tCall (spGain C CR) [] E (tCons (tVar 6) (tCons (tVar 14) tNil))) rfl mW kW lkW cW bW scFault rfl (.inl rfl) (faultR_gives WT) TB rfl (List.mem_singleton.mpr rfl) (fun p hp _ => by rw [List.mem_singleton.mp hp]; rfl) hr11 (lamS_by (by kernel_rfl)) rfl (fun _ _ _ _ _ => rfl)
              (fun A outer s H E f c' hr' => pe_knX T.gain hr' (takes_of rfl rfl rfl rfl) (fun _ _ _ _ z => z) (pa_cons (pv 6) (pa_cons (pv 14) pa_nil)))) (pe_tup (pa_cons pe_str (pa_cons (pv 14) pa_nil))) (nomark _))))))))))), ?_⟩
    refine ⟨_, rfl, a, ns, rfl, S, hl, fun p l H1 P np nl S1 => ?_⟩
    have QT : Tabs [(Tb, qLam)] H1 := fun z hz => by
      rw [List.mem_singleton.mp hz]
      exact TabS.nil (S1 _ _ tb)
    clear S S1 np nl
    refine ⟨_, rfl, p, l, 0, 3, rfl, P, by decide, by decide, by decide, fun m H2 m0 m1 P2 K2 => ⟨_, _, rfl, rfl, ?_⟩⟩
    have st := K2.stay P
    replace QT := Tabs.keep QT K2 P
    clear st K2 P
    have P := P2
    clear P2
    obtain ⟨n, rfl⟩ : ∃ n : Nat, m = (n : Int) - 1 := ⟨(m + 1).toNat, by omega⟩
    have en : 1 + ((n : Int) - 1) = (n : Int) := by omega
    dsimp only
    rw [en]
    have n1 : 1 ≤ n := by omega
    have n3 : n ≤ 3 := by omega
    clear m0 m1 en
    refine ⟨_, rfl, p, l, _, rfl, P, by decide, fun sc H3 hsc P3 K3 => ⟨_, _, rfl, ?_⟩⟩
    have st := K3.stay P
    replace QT := Tabs.keep QT K3 P
    clear st K3 P
    have P := P3
    clear P3
    have s0 : 0 < sc := by omega
    have s1 : sc ≤ 10 := by omega
    have sN : sc.natAbs ∣ NN := by
      rcases hsc with rfl | rfl | rfl <;> decide
    refine ⟨_, rfl, _, rfl, _, rfl, _, rfl, (by show 3 ≤ sizeLine; rw [sizeLine_eq]; decide), fun L nL => ?_⟩
    have st := GG.Same.new (L2.Same.refl H3) nL (o := .lst [.int 4, .int 9, .int 900000])
    replace P := P.same st
    replace QT := Tabs.same QT st
    have eL : (upd H3 L (.lst [.int 4, .int 9, .int 900000])) L = some (.lst [.int 4, .int 9, .int 900000]) := upd_same
    clear st nL
    generalize (upd H3 L (.lst [.int 4, .int 9, .int 900000])) = M1 at P QT eL ⊢
    refine ⟨p, l, L, _, _, rfl, P, SqL.of eL, (by show 0 < 3; decide), (by show 3 < 1000000; decide), by decide, fun x H4 hx P4 K4 => ?_⟩
    obtain ⟨most, rfl, m1, m2⟩ : ∃ most : Int, x = .int most ∧ 1 ≤ most ∧ most ≤ 900000 := by
      simp only [List.mem_cons, List.not_mem_nil, or_false] at hx
      rcases hx with rfl | rfl | rfl
      · exact ⟨_, rfl, by decide, by decide⟩
      · exact ⟨_, rfl, by decide, by decide⟩
      · exact ⟨_, rfl, by decide, by decide⟩
    clear hx
    clear eL
    have st := K4.stay P
    replace QT := Tabs.keep QT K4 P
    clear st K4 P
    have P := P4
    clear P4
    refine ⟨_, rfl, p, l, _, 9, rfl, P, by decide, by decide, by decide, fun many H5 q0 q1 P5 K5 => ?_⟩
    have st := K5.stay P
    replace QT := Tabs.keep QT K5 P
    clear st K5 P
    have P := P5
    clear P5
    refine ⟨p, l, _, n, sc, most, many, rfl, P, by decide, n1, n3, m1, m2, fun d R ys es c6 H6 nd ed eR pR okE le hc6 P6 K6 => ?_⟩
    clear nd
    have st := K6.stay P
    replace QT := Tabs.keep QT K6 P
    clear st K6 P
    have P := P6
    clear P6
    have row1 : ∀ e ∈ rowsM (mOf es), rowW n 1000000 3250 e := fun e he => row_up (rowsM_ok okE e he) (by omega) (by omega)
    have ple1 : PlE n sc (rowsM (mOf es)) := merged_ple n1 n3 s0 s1 sN (by omega) (by omega) (by omega) okE
    have l1 : (rowsM (mOf es)).length ≤ 13 := Nat.le_trans (Nat.le_trans (rowsM_len _) (mOf_len es)) le
    generalize rowsM (mOf es) = E1 at pR row1 ple1 l1
    clear okE le es m1 m2 q0 q1
    refine ⟨_, rfl, _, rfl, _, rfl, _, rfl, p, l, _, 4, rfl, P, by decide, by decide, by omega, fun many2 H7 q0 q1 P7 K7 => ?_⟩
    have st := K7.stay P
    replace QT := Tabs.keep QT K7 P
    replace ed := stayB st ed
    replace eR := stayL st eR
    replace pR := Paired.mapP pR fun _ _ h => NumT.stay st h
    clear st K7 P
    have P := P7
    clear P7
    refine ⟨p, l, _, n, sc, 9, many2, rfl, P, by omega, n1, n3, by decide, by decide, fun d2 R2 ys2 es2 c8 H8 nd ed2 eR2 pR2 okE le hc8 P8 K8 => ?_⟩
    clear nd
    have st := K8.stay P
    replace QT := Tabs.keep QT K8 P
    replace ed := stayB st ed
    replace eR := stayL st eR
    replace pR := Paired.mapP pR fun _ _ h => NumT.stay st h
    clear st K8 P
    have P := P8
    clear P8
    have row2 : ∀ e ∈ rowsM (mOf es2), rowW n 1000000 3250 e := fun e he => row_up (rowsM_ok okE e he) (by omega) (by omega)
    have ple2 : PlE n sc (rowsM (mOf es2)) := merged_ple n1 n3 s0 s1 sN (by omega) (by omega) (by omega) okE
    have l2 : (rowsM (mOf es2)).length ≤ 13 := Nat.le_trans (Nat.le_trans (rowsM_len _) (mOf_len es2)) le
    generalize rowsM (mOf es2) = E2 at pR2 row2 ple2 l2
    clear okE le es2 q0 q1
    refine ⟨_, rfl, _, rfl, p, l, d, R, _, ys, E1, n, sc, rfl, P, by omega, ed, eR, Paired.mapP pR fun _ _ h => h.r, ple1, fun x1 c9 H9 nx b1 hc9 P9 K9 => ?_⟩
    clear nx
    have st := K9.stay P
    replace QT := Tabs.keep QT K9 P
    replace ed := stayB st ed
    replace eR := stayL st eR
    replace pR := Paired.mapP pR fun _ _ h => NumT.stay st h
    replace ed2 := stayB st ed2
    replace eR2 := stayL st eR2
    replace pR2 := Paired.mapP pR2 fun _ _ h => NumT.stay st h
    clear st K9 P
    have P := P9
    clear P9
    refine ⟨_, rfl, _, rfl, p, l, d2, R2, _, ys2, E2, n, sc, rfl, P, by omega, ed2, eR2, Paired.mapP pR2 fun _ _ h => h.r, ple2, fun x2 c10 H10 nx b2 hc10 P10 K10 => ?_⟩
    clear nx
    have st := K10.stay P
    replace QT := Tabs.keep QT K10 P
    replace ed := stayB st ed
    replace eR := stayL st eR
    replace pR := Paired.mapP pR fun _ _ h => NumT.stay st h
    replace ed2 := stayB st ed2
    replace eR2 := stayL st eR2
    replace pR2 := Paired.mapP pR2 fun _ _ h => NumT.stay st h
    replace b1 := BidsAt.stay st b1
    clear st K10 P
    have P := P10
    clear P10
    refine ⟨(by show 2 ≤ sizeLine; rw [sizeLine_eq]; decide), fun t nt => ?_⟩
    have st := GG.Same.new (L2.Same.refl H10) nt (o := .tup [.ref x1, .ref x2])
    replace P := P.same st
    replace QT := Tabs.same QT st
    replace ed := st _ _ ed
    replace eR := st _ _ eR
    replace pR := Paired.mapP pR fun _ _ h => NumT.stay (Same.stay st) h
    replace ed2 := st _ _ ed2
    replace eR2 := st _ _ eR2
    replace pR2 := Paired.mapP pR2 fun _ _ h => NumT.stay (Same.stay st) h
    replace b1 := b1.same st
    replace b2 := b2.same st
    have et : (upd H10 t (.tup [.ref x1, .ref x2])) t = some (.tup [.ref x1, .ref x2]) := upd_same
    clear st nt
    generalize (upd H10 t (.tup [.ref x1, .ref x2])) = M2 at P QT ed eR pR ed2 eR2 pR2 b1 b2 et ⊢
    refine ⟨t, _, rfl, .inl (.inl et), rfl, _, _, rfl, _, _, rfl, rfl, ?_⟩
    clear et
    have lE1 := ple1.ln
    have hc0 : c10 ≤ 2000 := by omega
    clear hc6 hc8 hc9 hc10
    refine ⟨6, rfl, by decide, by decide, for_range (n := 6) (fun i σ G => ∃ (c' : Int) (v8 v9 v10 v11 v12 v13 : Option V), σ = [some (.ref a), some (.ref p), some (.int (n : Int)), some (.int sc), some (.ref d), some (.ref d2), some (.ref x1), some (.ref x2), v8, v9, v10, v11, v12, v13, none] ∧ PenAt G p l c' ∧ c' ≤ 2000 + 200 * i ∧ Tabs [(Tb, qLam)] G ∧ G d = some (dictB n sc R) ∧ G R = some (.lst ys) ∧ Paired (NumT G) ys E1 ∧ G d2 = some (dictB n sc R2) ∧ G R2 = some (.lst ys2) ∧ Paired (NumT G) ys2 E2 ∧ BidsR C G x1 n (E1.map (ratE sc)) ∧ BidsR C G x2 n (E2.map (ratE sc)))
      ⟨c10, none, none, none, none, none, none, rfl, P, by omega, QT, ed, eR, pR, ed2, eR2, pR2, b1, b2⟩ ?_ ?_⟩
    · clear P QT ed eR pR ed2 eR2 pR2 b1 b2
      rintro i σ G hi ⟨c1, v8, v9, v10, v11, v12, v13, rfl, P, hc, QT, ed, eR, pR, ed2, eR2, pR2, b1, b2⟩
      refine ⟨_, rfl, _, rfl, _, rfl, _, rfl, (by show 2 ≤ sizeLine; rw [sizeLine_eq]; decide), fun L nL => ?_⟩
      have st := GG.Same.new (L2.Same.refl G) nL (o := .lst [.ref d, .ref d2])
      replace P := P.same st
      replace QT := Tabs.same QT st
      replace ed := st _ _ ed
      replace eR := st _ _ eR
      replace pR := Paired.mapP pR fun _ _ h => NumT.stay (Same.stay st) h
      replace ed2 := st _ _ ed2
      replace eR2 := st _ _ eR2
      replace pR2 := Paired.mapP pR2 fun _ _ h => NumT.stay (Same.stay st) h
      replace b1 := b1.same st
      replace b2 := b2.same st
      have eL : (upd G L (.lst [.ref d, .ref d2])) L = some (.lst [.ref d, .ref d2]) := upd_same
      clear st nL
      generalize (upd G L (.lst [.ref d, .ref d2])) = M3 at P QT ed eR pR ed2 eR2 pR2 b1 b2 eL ⊢
      refine ⟨p, l, L, _, _, rfl, P, SqL.of eL, (by show 0 < 2; decide), (by show 2 < 1000000; decide), by omega, fun x G1 hx PN KN => ?_⟩
      clear eL
      have st := KN.stay P
      replace QT := Tabs.keep QT KN P
      replace ed := stayB st ed
      replace eR := stayL st eR
      replace pR := Paired.mapP pR fun _ _ h => NumT.stay st h
      replace ed2 := stayB st ed2
      replace eR2 := stayL st eR2
      replace pR2 := Paired.mapP pR2 fun _ _ h => NumT.stay st h
      replace b1 := BidsAt.stay st b1
      replace b2 := BidsAt.stay st b2
      clear st KN P
      have P := PN
      clear PN
      have hx' : (x = .ref d ∨ x = .ref d2) := by
        simp only [List.mem_cons, List.not_mem_nil, or_false] at hx
        exact hx
      clear hx
      obtain ⟨dd, Rd, yd, Ed, rfl, edd, eRd, pRd, pld⟩ : ∃ (dd Rd : Addr) (yd : List V) (Ed : List (Int × List Int)), x = .ref dd ∧ G1 dd = some (dictB n sc Rd) ∧ G1 Rd = some (.lst yd) ∧ Paired (NumT G1) yd Ed ∧ PlE n sc Ed := by
        rcases hx' with rfl | rfl
        · exact ⟨d, R, ys, E1, rfl, ed, eR, pR, ple1⟩
        · exact ⟨d2, R2, ys2, E2, rfl, ed2, eR2, pR2, ple2⟩
      clear hx'
      refine ⟨p, l, dd, Rd, _, n, sc, yd, Ed, rfl, P, by omega, edd, eRd, pRd, n1, n3, by have := pld.ln; omega, fun e he => ⟨(pld.row e he).1, (pld.row e he).2.2.1⟩, fun ap ps c2 G2 ep lp bp hc2 PN KN => ?_⟩
      clear edd eRd pRd pld
      have st := KN.stay P
      replace QT := Tabs.keep QT KN P
      replace ed := stayB st ed
      replace eR := stayL st eR
      replace pR := Paired.mapP pR fun _ _ h => NumT.stay st h
      replace ed2 := stayB st ed2
      replace eR2 := stayL st eR2
      replace pR2 := Paired.mapP pR2 fun _ _ h => NumT.stay st h
      replace b1 := BidsAt.stay st b1
      replace b2 := BidsAt.stay st b2
      clear st KN P
      have P := PN
      clear PN
      have bp90 : ∀ z ∈ ps, 0 ≤ z ∧ z.natAbs < 2 ^ 90 := fun z hz => ⟨(bp z hz).1, Nat.lt_of_le_of_lt (show z.natAbs ≤ 30000000 by have := bp z hz; omega) (by decide)⟩
      refine ⟨_, rfl, _, rfl, _, rfl, p, l, d, R, ap, _, n, sc, ps, rfl, P, by omega, ed, ep, by omega, hsc, bp90, fun xp vs ds c3 G3 exp dap npd hc3 PN KN => ?_⟩
      have st := KN.stay P
      replace QT := Tabs.keep QT KN P
      replace ed := stayB st ed
      replace eR := stayL st eR
      replace pR := Paired.mapP pR fun _ _ h => NumT.stay st h
      replace ed2 := stayB st ed2
      replace eR2 := stayL st eR2
      replace pR2 := Paired.mapP pR2 fun _ _ h => NumT.stay st h
      replace b1 := BidsAt.stay st b1
      replace b2 := BidsAt.stay st b2
      replace ep := stayL st ep
      clear st KN P
      have P := PN
      clear PN
      have b240 : ∀ z ∈ ps, 0 ≤ z ∧ z.natAbs < 2 ^ 240 := fun z hz => ⟨(bp z hz).1, Nat.lt_trans (bp90 z hz).2 (by decide)⟩
      have num : ∀ {E : List (Int × List Int)}, PlE n sc E → ∀ e ∈ E, e.2.length = n ∧ e.1.natAbs < 2 ^ 250 ∧ ∀ z ∈ e.2, 0 ≤ z ∧ z.natAbs < 2 ^ 100 := fun pl e he => by
        obtain ⟨r1, r2, r3, _⟩ := pl.row e he
        exact ⟨r1, Nat.lt_of_le_of_lt r2 (by decide), fun z hz => ⟨(r3 z hz).1, Nat.lt_of_le_of_lt (show z.natAbs ≤ 1000000 by have := r3 z hz; omega) (by decide)⟩⟩
      have sb : (12 * sc).natAbs < 2 ^ 250 := Nat.lt_of_le_of_lt (show (12 * sc).natAbs ≤ 120 by omega) (by decide)
      have sm : CMulW 12 sc := mulW (by decide) (Nat.lt_of_le_of_lt (show sc.natAbs ≤ 10 by omega) (by decide))
      have p0 : ∀ z ∈ ps, 0 ≤ z := fun z hz => (bp z hz).1
      have ga1 := ple_abs ple1 p0
      have ga2 := ple_abs ple2 p0
      have gb1 : (gainI (E1.map e12) ps).natAbs < 2 ^ 250 := Nat.lt_of_le_of_lt ga1 (by decide)
      have gb2 : (gainI (E2.map e12) ps).natAbs < 2 ^ 250 := Nat.lt_of_le_of_lt ga2 (by decide)
      refine ⟨_, rfl, _, rfl, d, R, ap, ys, E1, n, sc, ps, rfl, ed, eR, Paired.mapP pR fun _ _ h => h.r, ep, lp, n3, by omega, num ple1, b240, fun G4 st => ?_⟩
      replace P := P.same st
      replace QT := Tabs.same QT st
      replace ed := st _ _ ed
      replace eR := st _ _ eR
      replace pR := Paired.mapP pR fun _ _ h => NumT.stay (Same.stay st) h
      replace ed2 := st _ _ ed2
      replace eR2 := st _ _ eR2
      replace pR2 := Paired.mapP pR2 fun _ _ h => NumT.stay (Same.stay st) h
      replace b1 := b1.same st
      replace b2 := b2.same st
      replace ep := st _ _ ep
      replace exp := st _ _ exp
      replace dap := dap.stay (Same.stay st)
      clear st
      refine ⟨_, rfl, _, _, rfl, rfl, sm, gainI (E1.map e12) ps, 12 * sc, rfl, by omega, gb1, sb, fun qd nq => ?_⟩
      have st := GG.Same.new (L2.Same.refl G4) nq (o := .tup [.int (lw (gainI (E1.map e12) ps) (12 * sc)).1, .int (lw (gainI (E1.map e12) ps) (12 * sc)).2])
      replace P := P.same st
      replace QT := Tabs.same QT st
      replace ed := st _ _ ed
      replace eR := st _ _ eR
      replace pR := Paired.mapP pR fun _ _ h => NumT.stay (Same.stay st) h
      replace ed2 := st _ _ ed2
      replace eR2 := st _ _ eR2
      replace pR2 := Paired.mapP pR2 fun _ _ h => NumT.stay (Same.stay st) h
      replace b1 := b1.same st
      replace b2 := b2.same st
      replace ep := st _ _ ep
      replace exp := st _ _ exp
      replace dap := dap.stay (Same.stay st)
      have eqd : (upd G4 qd (.tup [.int (lw (gainI (E1.map e12) ps) (12 * sc)).1, .int (lw (gainI (E1.map e12) ps) (12 * sc)).2])) qd = some (.tup [.int (lw (gainI (E1.map e12) ps) (12 * sc)).1, .int (lw (gainI (E1.map e12) ps) (12 * sc)).2]) := upd_same
      clear st nq
      generalize (upd G4 qd (.tup [.int (lw (gainI (E1.map e12) ps) (12 * sc)).1, .int (lw (gainI (E1.map e12) ps) (12 * sc)).2])) = M4 at P QT ed eR pR ed2 eR2 pR2 b1 b2 ep exp dap eqd ⊢
      refine ⟨_, rfl, _, rfl, d2, R2, ap, ys2, E2, n, sc, ps, rfl, ed2, eR2, Paired.mapP pR2 fun _ _ h => h.r, ep, lp, n3, by omega, num ple2, b240, fun G5 st => ?_⟩
      replace P := P.same st
      replace QT := Tabs.same QT st
      replace ed := st _ _ ed
      replace eR := st _ _ eR
      replace pR := Paired.mapP pR fun _ _ h => NumT.stay (Same.stay st) h
      replace ed2 := st _ _ ed2
      replace eR2 := st _ _ eR2
      replace pR2 := Paired.mapP pR2 fun _ _ h => NumT.stay (Same.stay st) h
      replace b1 := b1.same st
      replace b2 := b2.same st
      replace ep := st _ _ ep
      replace exp := st _ _ exp
      replace dap := dap.stay (Same.stay st)
      replace eqd := st _ _ eqd
      clear st
      refine ⟨_, rfl, _, _, rfl, rfl, sm, gainI (E2.map e12) ps, 12 * sc, rfl, by omega, gb2, sb, fun qm nq => ⟨_, _, rfl, ?_⟩⟩
      have st := GG.Same.new (L2.Same.refl G5) nq (o := .tup [.int (lw (gainI (E2.map e12) ps) (12 * sc)).1, .int (lw (gainI (E2.map e12) ps) (12 * sc)).2])
      replace P := P.same st
      replace QT := Tabs.same QT st
      replace ed := st _ _ ed
      replace eR := st _ _ eR
      replace pR := Paired.mapP pR fun _ _ h => NumT.stay (Same.stay st) h
      replace ed2 := st _ _ ed2
      replace eR2 := st _ _ eR2
      replace pR2 := Paired.mapP pR2 fun _ _ h => NumT.stay (Same.stay st) h
      replace b1 := b1.same st
      replace b2 := b2.same st
      replace ep := st _ _ ep
      replace exp := st _ _ exp
      replace dap := dap.stay (Same.stay st)
      replace eqd := st _ _ eqd
      have eqm : (upd G5 qm (.tup [.int (lw (gainI (E2.map e12) ps) (12 * sc)).1, .int (lw (gainI (E2.map e12) ps) (12 * sc)).2])) qm = some (.tup [.int (lw (gainI (E2.map e12) ps) (12 * sc)).1, .int (lw (gainI (E2.map e12) ps) (12 * sc)).2]) := upd_same
      clear st nq
      generalize (upd G5 qm (.tup [.int (lw (gainI (E2.map e12) ps) (12 * sc)).1, .int (lw (gainI (E2.map e12) ps) (12 * sc)).2])) = M5 at P QT ed eR pR ed2 eR2 pR2 b1 b2 ep exp dap eqd eqm ⊢
      have lvs : vs.length = n := by rw [DaAll.length dap, Paired.length npd, List.length_map]; exact lp
      refine ⟨_, rfl, _, rfl, _, rfl, _, rfl, ⟨xp, vs, rfl, .inr (SqT.of exp), fun lq nlq => ?_⟩⟩
      have st := GG.Same.new (L2.Same.refl M5) nlq (o := .lst vs)
      replace P := P.same st
      replace QT := Tabs.same QT st
      replace ed := st _ _ ed
      replace eR := st _ _ eR
      replace pR := Paired.mapP pR fun _ _ h => NumT.stay (Same.stay st) h
      replace ed2 := st _ _ ed2
      replace eR2 := st _ _ eR2
      replace pR2 := Paired.mapP pR2 fun _ _ h => NumT.stay (Same.stay st) h
      replace b1 := b1.same st
      replace b2 := b2.same st
      replace ep := st _ _ ep
      replace exp := st _ _ exp
      replace dap := dap.stay (Same.stay st)
      replace eqd := st _ _ eqd
      replace eqm := st _ _ eqm
      have elq : (upd M5 lq (.lst vs)) lq = some (.lst vs) := upd_same
      clear st nlq
      generalize (upd M5 lq (.lst vs)) = M6 at P QT ed eR pR ed2 eR2 pR2 b1 b2 ep exp dap eqd eqm elq ⊢
      refine ⟨(by show 2 ≤ sizeLine; rw [sizeLine_eq]; decide), fun L nL => ?_⟩
      have st := GG.Same.new (L2.Same.refl M6) nL (o := .lst [.ref xp, .ref lq])
      replace P := P.same st
      replace QT := Tabs.same QT st
      replace ed := st _ _ ed
      replace eR := st _ _ eR
      replace pR := Paired.mapP pR fun _ _ h => NumT.stay (Same.stay st) h
      replace ed2 := st _ _ ed2
      replace eR2 := st _ _ eR2
      replace pR2 := Paired.mapP pR2 fun _ _ h => NumT.stay (Same.stay st) h
      replace b1 := b1.same st
      replace b2 := b2.same st
      replace ep := st _ _ ep
      replace exp := st _ _ exp
      replace dap := dap.stay (Same.stay st)
      replace eqd := st _ _ eqd
      replace eqm := st _ _ eqm
      replace elq := st _ _ elq
      have eL : (upd M6 L (.lst [.ref xp, .ref lq])) L = some (.lst [.ref xp, .ref lq]) := upd_same
      clear st nL
      generalize (upd M6 L (.lst [.ref xp, .ref lq])) = M7 at P QT ed eR pR ed2 eR2 pR2 b1 b2 ep exp dap eqd eqm elq eL ⊢
      refine ⟨p, l, L, _, _, rfl, P, SqL.of eL, (by show 0 < 2; decide), (by show 2 < 1000000; decide), by omega, fun pv G6 hpv PN KN => ?_⟩
      clear eL
      have st := KN.stay P
      replace QT := Tabs.keep QT KN P
      replace ed := stayB st ed
      replace eR := stayL st eR
      replace pR := Paired.mapP pR fun _ _ h => NumT.stay st h
      replace ed2 := stayB st ed2
      replace eR2 := stayL st eR2
      replace pR2 := Paired.mapP pR2 fun _ _ h => NumT.stay st h
      replace b1 := BidsAt.stay st b1
      replace b2 := BidsAt.stay st b2
      replace ep := stayL st ep
      replace exp := stayT st exp
      replace dap := dap.stay st
      replace eqd := stayT st eqd
      replace eqm := stayT st eqm
      replace elq := stayL st elq
      clear st KN P
      have P := PN
      clear PN
      have kR : ∀ r ∈ (ps.map fun z => lw z (12 * sc)), okR NN r ∧ 0 ≤ r.1 := fun r hr => by
        obtain ⟨z, hz, rfl⟩ := List.mem_map.mp hr
        have o := okR_lwB (p0 z hz) (bp90 z hz).2 (show 0 < 12 * sc by omega) (sc_dvd hsc)
        exact ⟨o, o.2.2⟩
      have kL : (ps.map fun z => lw z (12 * sc)).length = n := by rw [List.length_map]; exact lp
      obtain ⟨d1, d2', d3, d4, d5, d6⟩ := prices_data npd kL n3 fun r hr => (kR r hr).2
      obtain ⟨dv, dav, arv, smv, rwv⟩ : ∃ dv, Da G6 pv dv ∧ areP dv (n : Int) = true ∧ smallS dv ∧ rowOfD dv = ps.map fun z => lw z (12 * sc) := by
        simp only [List.mem_cons, List.not_mem_nil, or_false] at hpv
        rcases hpv with rfl | rfl
        · exact ⟨_, .tup exp dap, d1, d3, d5⟩
        · exact ⟨_, .lst elq trivial dap, d2', d4, d6⟩
      clear hpv d2' d4 d6
      refine ⟨x1, n, NN, _, pv, dv, rfl, b1, dav, smv, fun _ => ?_, fun _ tq G7 etq st => ?_, fun h => absurd (h.symm.trans arv) (by decide)⟩
      · rw [rwv]
        exact pl_ok ple1 fun r hr => (kR r hr).1
      rw [rwv, lw_gain hsc] at etq
      clear dav smv arv rwv
      clear elq
      replace P := P.same st
      replace QT := Tabs.same QT st
      replace ed := st _ _ ed
      replace eR := st _ _ eR
      replace pR := Paired.mapP pR fun _ _ h => NumT.stay (Same.stay st) h
      replace ed2 := st _ _ ed2
      replace eR2 := st _ _ eR2
      replace pR2 := Paired.mapP pR2 fun _ _ h => NumT.stay (Same.stay st) h
      replace b1 := b1.same st
      replace b2 := b2.same st
      replace ep := st _ _ ep
      replace exp := st _ _ exp
      replace dap := dap.stay (Same.stay st)
      replace eqd := st _ _ eqd
      replace eqm := st _ _ eqm
      clear st
      refine ⟨_, rfl, _, rfl, ⟨_, _, rat_dp etq, rat_dp eqd, rat_sh, rat_sh, _, rfl, ?_⟩⟩
      rw [rat_ev]
      refine iteF ?_
      have b12 : 0 < 12 * sc := by omega
      obtain ⟨sa1, sa2, sa3⟩ := smallP_lw (b := 12 * sc) b12 ga1 (by omega)
      refine ⟨_, rfl, tq, _, _, rfl, etq, Nat.lt_trans sa1 (by decide), Nat.lt_trans sa2 (by decide), sa3, lw_copr b12, ⟨_, rfl, iteF ?_⟩⟩
      clear etq
      have row12 := rows_app row1 row2
      have l12 : (E1 ++ E2).length ≤ 26 := by rw [List.length_append]; omega
      have ple3 : PlE n sc (rowsM (mOf (E1 ++ E2))) := merged_ple n1 n3 s0 s1 sN (by decide) (by omega) (by omega) row12
      have hsum : plainL n (ofWs (E1.map (ratE sc) ++ E2.map (ratE sc))) = (rowsM (mOf (E1 ++ E2))).map (ratE sc) := by
        rw [← List.map_append]
        exact plain_merged s0 sN (by decide) row12
      have ple4 : PlE n sc (rowsM (mOf (negL E1))) := merged_ple n1 n3 s0 s1 sN (by decide) (by unfold negL; rw [List.length_map]; omega) (by unfold negL; rw [List.length_map]; omega) (neg_row row1)
      have hneg := tms_rat sc E1 3250 1000000 s0 sN (by decide) row1
      have hk : ∀ r ∈ (ps.map fun z => lw z (12 * sc)), 0 ≤ r.1 ∧ 0 < r.2 := fun r hr => ⟨(kR r hr).2, by
        obtain ⟨z, hz, rfl⟩ := List.mem_map.mp hr
        exact (lw_small b12).2.2⟩
      obtain ⟨dxA, fsA, ppA, exA, _, _, _⟩ := id b1
      obtain ⟨dxB, fsB, ppB, exB, _, _, _⟩ := id b2
      refine ⟨_, rfl, _, rfl, x1, x2, _, _, _, _, rfl, rfl, exA, exB, x1, x2, n, n, _, _, rfl, b1, b2, pl_wok ple1, pl_wok ple2, by rw [List.length_map, List.length_map]; omega, fun _ xs G8 st BS => ⟨xs, rfl, ?_⟩, fun h => absurd rfl h⟩
      clear exA exB
      replace P := P.same st
      replace QT := Tabs.same QT st
      replace ed := st _ _ ed
      replace eR := st _ _ eR
      replace pR := Paired.mapP pR fun _ _ h => NumT.stay (Same.stay st) h
      replace ed2 := st _ _ ed2
      replace eR2 := st _ _ eR2
      replace pR2 := Paired.mapP pR2 fun _ _ h => NumT.stay (Same.stay st) h
      replace b1 := b1.same st
      replace b2 := b2.same st
      replace ep := st _ _ ep
      replace exp := st _ _ exp
      replace dap := dap.stay (Same.stay st)
      replace eqd := st _ _ eqd
      replace eqm := st _ _ eqm
      clear st
      unfold BidsR at BS
      rw [hsum] at BS
      refine ⟨_, rfl, xs, n, NN, _, .ref xp, .tuple ds, rfl, BS, .tup exp dap, d3, fun _ => ?_, fun _ tq G9 etq st => ?_, fun h => absurd (h.symm.trans d1) (by decide)⟩
      · rw [d5]
        exact pl_ok ple3 fun r hr => (kR r hr).1
      rw [d5, lw_gain hsc, lw_sum hsc hk hsum] at etq
      clear BS
      replace P := P.same st
      replace QT := Tabs.same QT st
      replace ed := st _ _ ed
      replace eR := st _ _ eR
      replace pR := Paired.mapP pR fun _ _ h => NumT.stay (Same.stay st) h
      replace ed2 := st _ _ ed2
      replace eR2 := st _ _ eR2
      replace pR2 := Paired.mapP pR2 fun _ _ h => NumT.stay (Same.stay st) h
      replace b1 := b1.same st
      replace b2 := b2.same st
      replace ep := st _ _ ep
      replace exp := st _ _ exp
      replace dap := dap.stay (Same.stay st)
      replace eqd := st _ _ eqd
      replace eqm := st _ _ eqm
      clear st
      refine ⟨_, rfl, _, rfl, qd, qm, lw (gainI (E1.map e12) ps) (12 * sc), lw (gainI (E2.map e12) ps) (12 * sc), rfl, eqd, eqm, smallP_lw b12 ga1 (by omega), smallP_lw b12 ga2 (by omega), fun pq G10 epq st => ?_⟩
      rw [plus_lw b12] at epq
      replace P := P.same st
      replace QT := Tabs.same QT st
      replace ed := st _ _ ed
      replace eR := st _ _ eR
      replace pR := Paired.mapP pR fun _ _ h => NumT.stay (Same.stay st) h
      replace ed2 := st _ _ ed2
      replace eR2 := st _ _ eR2
      replace pR2 := Paired.mapP pR2 fun _ _ h => NumT.stay (Same.stay st) h
      replace b1 := b1.same st
      replace b2 := b2.same st
      replace ep := st _ _ ep
      replace exp := st _ _ exp
      replace dap := dap.stay (Same.stay st)
      replace eqd := st _ _ eqd
      replace eqm := st _ _ eqm
      replace etq := st _ _ etq
      clear st
      refine ⟨_, _, rat_dp etq, rat_dp epq, rat_sh, rat_sh, _, rfl, ?_⟩
      rw [rat_ev]
      refine iteF ?_
      clear etq epq
      obtain ⟨dxA, fsA, ppA, exA, _, _, _⟩ := id b1
      refine ⟨_, rfl, x1, _, _, rfl, exA, x1, n, _, rfl, b1, pl_wok ple1, fun xs G11 st BS => ⟨xs, rfl, ?_⟩⟩
      clear exA
      replace P := P.same st
      replace QT := Tabs.same QT st
      replace ed := st _ _ ed
      replace eR := st _ _ eR
      replace pR := Paired.mapP pR fun _ _ h => NumT.stay (Same.stay st) h
      replace ed2 := st _ _ ed2
      replace eR2 := st _ _ eR2
      replace pR2 := Paired.mapP pR2 fun _ _ h => NumT.stay (Same.stay st) h
      replace b1 := b1.same st
      replace b2 := b2.same st
      replace ep := st _ _ ep
      replace exp := st _ _ exp
      replace dap := dap.stay (Same.stay st)
      replace eqd := st _ _ eqd
      replace eqm := st _ _ eqm
      clear st
      unfold BidsR at BS
      rw [hneg] at BS
      refine ⟨_, rfl, xs, n, NN, _, .ref xp, .tuple ds, rfl, BS, .tup exp dap, d3, fun _ => ?_, fun _ tq G12 etq st => ?_, fun h => absurd (h.symm.trans d1) (by decide)⟩
      · rw [d5]
        exact pl_ok ple4 fun r hr => (kR r hr).1
      rw [d5, lw_gain hsc, lw_neg hsc hk hneg] at etq
      clear BS
      replace P := P.same st
      replace QT := Tabs.same QT st
      replace ed := st _ _ ed
      replace eR := st _ _ eR
      replace pR := Paired.mapP pR fun _ _ h => NumT.stay (Same.stay st) h
      replace ed2 := st _ _ ed2
      replace eR2 := st _ _ eR2
      replace pR2 := Paired.mapP pR2 fun _ _ h => NumT.stay (Same.stay st) h
      replace b1 := b1.same st
      replace b2 := b2.same st
      replace ep := st _ _ ep
      replace exp := st _ _ exp
      replace dap := dap.stay (Same.stay st)
      replace eqd := st _ _ eqd
      replace eqm := st _ _ eqm
      clear st
      refine ⟨_, rfl, _, rfl, (by show 2 ≤ sizeLine; rw [sizeLine_eq]; decide), fun m1 nm1 => ?_⟩
      have st := GG.Same.new (L2.Same.refl G12) nm1 (o := .tup [.int (-1), .int 1])
      replace P := P.same st
      replace QT := Tabs.same QT st
      replace ed := st _ _ ed
      replace eR := st _ _ eR
      replace pR := Paired.mapP pR fun _ _ h => NumT.stay (Same.stay st) h
      replace ed2 := st _ _ ed2
      replace eR2 := st _ _ eR2
      replace pR2 := Paired.mapP pR2 fun _ _ h => NumT.stay (Same.stay st) h
      replace b1 := b1.same st
      replace b2 := b2.same st
      replace ep := st _ _ ep
      replace exp := st _ _ exp
      replace dap := dap.stay (Same.stay st)
      replace eqd := st _ _ eqd
      replace eqm := st _ _ eqm
      replace etq := st _ _ etq
      have em1 : (upd G12 m1 (.tup [.int (-1), .int 1])) m1 = some (.tup [.int (-1), .int 1]) := upd_same
      clear st nm1
      generalize (upd G12 m1 (.tup [.int (-1), .int 1])) = M8 at P QT ed eR pR ed2 eR2 pR2 b1 b2 ep exp dap eqd eqm etq em1 ⊢
      refine ⟨qd, m1, lw (gainI (E1.map e12) ps) (12 * sc), (-1, 1), rfl, eqd, em1, smallP_lw b12 ga1 (by omega), ⟨by decide, by decide, by decide⟩, fun pq G13 epq st => ?_⟩
      rw [times_lw b12] at epq
      replace P := P.same st
      replace QT := Tabs.same QT st
      replace ed := st _ _ ed
      replace eR := st _ _ eR
      replace pR := Paired.mapP pR fun _ _ h => NumT.stay (Same.stay st) h
      replace ed2 := st _ _ ed2
      replace eR2 := st _ _ eR2
      replace pR2 := Paired.mapP pR2 fun _ _ h => NumT.stay (Same.stay st) h
      replace b1 := b1.same st
      replace b2 := b2.same st
      replace ep := st _ _ ep
      replace exp := st _ _ exp
      replace dap := dap.stay (Same.stay st)
      replace eqd := st _ _ eqd
      replace eqm := st _ _ eqm
      replace etq := st _ _ etq
      replace em1 := st _ _ em1
      clear st
      refine ⟨_, _, rat_dp etq, rat_dp epq, rat_sh, rat_sh, _, rfl, ?_⟩
      rw [rat_ev]
      refine iteF ?_
      exact ⟨_, _, _, _, _, _, _, rfl, P, by omega, QT, ed, eR, pR, ed2, eR2, pR2, b1, b2⟩
    · clear P QT ed eR pR ed2 eR2 pR2 b1 b2
      rintro σ G ⟨c1, v8, v9, v10, v11, v12, v13, rfl, P, hc, QT, ed, eR, pR, ed2, eR2, pR2, b1, b2⟩
      refine ⟨_, rfl, _, rfl, p, l, _, n, rfl, P, by omega, n1, n3, fun bv bd c2 G1 dab okB hc2 PN KN => ?_⟩
      clear ed eR pR ed2 eR2 pR2 b2
      have st := KN.stay P
      replace QT := Tabs.keep QT KN P
      replace b1 := BidsAt.stay st b1
      clear st KN P
      have P := PN
      clear PN
      refine ⟨_, rfl, (by show 0 ≤ sizeLine; exact Nat.zero_le _), fun L0 nL0 => ?_⟩
      have st := GG.Same.new (L2.Same.refl G1) nL0 (o := .lst [])
      replace P := P.same st
      replace QT := Tabs.same QT st
      replace b1 := b1.same st
      replace dab := dab.stay (Same.stay st)
      have eL0 : (upd G1 L0 (.lst [])) L0 = some (.lst []) := upd_same
      clear st nL0
      generalize (upd G1 L0 (.lst [])) = M9 at P QT b1 dab eL0 ⊢
      have hnil : ∀ m, plainL m (ofWs []) = [] := fun m => List.eq_nil_of_length_eq_zero (Nat.le_zero.mp (plain_len m []))
      refine fun xo dxo nxo ndo neo => init_bids (n := n) (Ws := []) rfl n1 n3 nxo ndo neo rfl (.inl eL0) .nil (by decide) (fun e he => nomatch he) fun G2 st BO => ⟨rfl, ?_⟩
      clear nxo ndo neo
      rw [hnil] at BO
      clear eL0
      replace P := P.same st
      replace QT := Tabs.same QT st
      replace b1 := b1.same st
      replace dab := dab.stay (Same.stay st)
      clear st
      refine ⟨(by show 1 ≤ sizeLine; rw [sizeLine_eq]; decide), fun t1 nt1 => ?_⟩
      have st := GG.Same.new (L2.Same.refl G2) nt1 (o := .tup [.int 0])
      replace P := P.same st
      replace QT := Tabs.same QT st
      replace b1 := b1.same st
      replace dab := dab.stay (Same.stay st)
      replace BO := BO.same st
      have et1 : (upd G2 t1 (.tup [.int 0])) t1 = some (.tup [.int 0]) := upd_same
      clear st nt1
      generalize (upd G2 t1 (.tup [.int 0])) = M10 at P QT b1 dab BO et1 ⊢
      refine ⟨_, rfl, t1, (n : Int), [.int 0], rfl, rfl, et1, (fun h => nomatch h), by decide, by omega, by omega, fun zp G3 ezp st => ?_⟩
      rw [Int.toNat_natCast, rep_flat] at ezp
      clear et1
      replace P := P.same st
      replace QT := Tabs.same QT st
      replace b1 := b1.same st
      replace dab := dab.stay (Same.stay st)
      replace BO := BO.same st
      clear st
      obtain ⟨z1, _, z3, _, z5, _⟩ := prices_data (zero_npd n) List.length_replicate n3 (fun r hr => by rw [(List.mem_replicate.mp hr).2]; decide)
      refine ⟨xo, n, 1, [], .ref zp, .tuple (List.replicate n (.int 0)), rfl, BO, .tup ezp (da_rep (.int 0) n), z3, fun _ => ?_, fun _ tq G4 etq st => ?_, fun h => absurd (h.symm.trans z1) (by decide)⟩
      · rw [z5]
        exact zero_ok n1 n3
      have g0 : lw (gainN ((1 : Nat) : Int) [] (rowOfD (.tuple (List.replicate n (.int 0))))) ((1 : Nat) : Int) = (0, 1) := (show lw 0 1 = (0, 1) from by decide +kernel)
      rw [g0] at etq
      clear BO ezp
      replace P := P.same st
      replace QT := Tabs.same QT st
      replace b1 := b1.same st
      replace dab := dab.stay (Same.stay st)
      clear st
      refine ⟨(by show 2 ≤ sizeLine; rw [sizeLine_eq]; decide), fun t2 nt2 => ?_⟩
      have st := GG.Same.new (L2.Same.refl G4) nt2 (o := .tup [.int 0, .int 1])
      replace P := P.same st
      replace QT := Tabs.same QT st
      replace b1 := b1.same st
      replace dab := dab.stay (Same.stay st)
      replace etq := st _ _ etq
      have et2 : (upd G4 t2 (.tup [.int 0, .int 1])) t2 = some (.tup [.int 0, .int 1]) := upd_same
      clear st nt2
      generalize (upd G4 t2 (.tup [.int 0, .int 1])) = M11 at P QT b1 dab etq et2 ⊢
      refine ⟨_, _, rat_dp etq, rat_dp et2, rat_sh, rat_sh, _, rfl, ?_⟩
      rw [rat_ev]
      refine iteF ?_
      clear etq et2
      refine ⟨QT, fun G5 X5 _ => ?_⟩
      replace b1 := BidsAt.ext X5 b1
      replace dab := Da.ext X5 dab
      clear P QT X5
      intro tn ntn
      have st := GG.Same.new (L2.Same.refl G5) ntn (o := .tup [.str "none"])
      replace b1 := b1.same st
      replace dab := dab.stay (Same.stay st)
      clear st ntn
      generalize (upd G5 tn (.tup [.str "none"])) = M12 at b1 dab ⊢
      refine ⟨_, rfl, _, rfl, x1, n, NN, _, bv, bd, rfl, b1, dab, okB.2.1, fun h => absurd (h.symm.trans okB.1) (by decide), fun h => absurd (h.symm.trans okB.1) (by decide), fun _ dd G6 edd st1 => ⟨rfl, dd, bv, rfl, edd, fun u1 G7 eu st2 => ?_⟩⟩
      replace dab := dab.stay (Same.stay (L2.Same.trans st1 st2))
      clear b1 edd st1 st2
      refine ⟨_, rfl, (by show 2 ≤ sizeLine; rw [sizeLine_eq]; decide), fun u2 nu2 => ?_⟩
      have S3 := GG.Same.new (L2.Same.refl G7) nu2 (o := .tup [.str "row", bv])
      have dpb := (dab.stay (Same.stay S3)).dp (K := K) okB.2.2.1
      refine ⟨.tuple [.str "row", bd], .tuple [.str "row", bd], .tup (.inl (.inl (S3 _ _ eu))) (.cons (.str _) (.cons dpb .nil)), .tup (.inl (.inl upd_same)) (.cons (.str _) (.cons dpb .nil)), okB.2.2.2.1, okB.2.2.2.1, ?_⟩
      rw [row_ev okB.2.2.2.2]
      exact want _
end
end GG

namespace GG
open PySem PySem.Spec PyProof.Rows L2 LamX
theorem def_mk {K : PySem.W.Frag} {h : Heap} {mg : Str → Option Value} (X : K.In h) (G : h.Ns mainGlobals mg) {x : Str} {st : Stmt} {f : Addr} {od an : Option Addr} {sl : Array (Option Value)} {oc kV dc pm cd ct : Value}
    (a : PySem.W.nsIn K mainGlobals x = some (some (.ref f))) (l : K.lookup f = some ⟨oc, od, .func (PySem.W.fnOf x x (defArgs st) (defBody st) (defScope st) .none kV dc pm an cd ct), sl⟩) (c : PySem.W.codeIn K cd x = true) (k : PySem.W.keepIn K (.ref f) = true) : DefIs K mg x st :=
  ⟨f, _, fun_mk (st := st) l c k, PySem.W.mg_of X G a⟩
theorem ext_mk {K : PySem.W.Frag} {C : Addr} {nm q : Str} {N : Addr} {bs bm : List Value} {sn : List Str} {sub : List Value} {ab : Bool} {col : Option Bool} {dd : Option Addr} {k0 k1 k2 k3 k5 : Option Value}
    (l : K.lookup C = some (excClassObj nm q C N bs bm true sn sub ab col dd k0 k1 k2 k3 k5 "ValueError.__new__")) (r : PySem.HandSPX.refsVE bm = true) (sa : PySem.W.findIn K (.ref C) "__setattr__" = some (some (.builtin "object.__setattr__")))
    (ex : PySem.W.subIn K (.ref C) (.type "BaseException") = some true) (ty : PySem.W.typeIn K (.ref C) = some (.type "type")) (kp : PySem.W.keepIn K (.ref C) = true) (ga : PySem.W.findIn K (.ref C) "__getattribute__" = some (some (.builtin "BaseException.__getattribute__")))
    (gg : PySem.W.findIn K (.ref C) "__getattr__" = some none) (hd : PySem.W.hasDictIn K C = true) (cl : PySem.W.findIn K (.ref C) "__class__" = some (some (.builtin "object.__class__"))) (mo : PySem.W.mroIn K C (.type "object") = some true)
    (oc : PySem.W.specialIn K (.builtin "object.__class__") "__get__" = some (some (.builtin "getset_descriptor.__get__"))) (ot : PySem.W.takesIn K (.builtin "object.__class__") = some true) : ExT K C :=
  ⟨⟨⟨nm, q, N, bs, bm, sn, sub, ab, col, dd, k0, k1, k2, k3, k5, l, r⟩, sa, ex, ty, kp⟩, ga, gg, hd, cl, mo, oc, ot⟩
theorem tab_mk {K : PySem.W.Frag} {x : Str} {st : Stmt} {f c T : Addr} {od an : Option Addr} {sl sl2 : Array (Option Value)} {oc kV dc pm ct e2 : Value} {dd : Option Addr} {vs : Array Value}
    (a : PySem.W.nsIn K mainGlobals x = some (some (.ref f))) (l : K.lookup f = some ⟨oc, od, .func (PySem.W.fnOf x x (defArgs st) (defBody st) (defScope st) .none kV dc pm an (.ref c) ct), sl⟩)
    (lc : K.lookup c = some ⟨e2, dd, .fields vs, sl2⟩) (v : vs[11]? = some (.ref T)) : PySem.W.tabIn K x = some (c, T) := by
  unfold PySem.W.tabIn
  rw [a]
  dsimp only
  rw [l]
  dsimp only [PySem.W.fnOf]
  rw [lc]
  dsimp only
  rw [v]
theorem all_mk {l : PySem.W.OpenLaw} {w : World} {K : PySem.W.Frag} {h : Heap} {mg : Str → Option Value} {fa : Addr} (X : K.In h) (G : h.Ns mainGlobals mg) (hfa : mg "law" = some (.ref fa)) {C CN CU C4 g f35 c T : Addr}
    {fA : Addr} {odA anA : Option Addr} {slA : Array (Option Value)} {ocA kVA dcA pmA cdA ctA : Value}
    {fG : Addr} {odG anG : Option Addr} {slG : Array (Option Value)} {ocG kVG dcG pmG cdG ctG : Value}
    {fN : Addr} {odN anN : Option Addr} {slN : Array (Option Value)} {ocN kVN dcN pmN cdN ctN : Value}
    {fR : Addr} {odR anR : Option Addr} {slR : Array (Option Value)} {ocR kVR dcR pmR cdR ctR : Value}
    {fU : Addr} {odU anU : Option Addr} {slU : Array (Option Value)} {ocU kVU dcU pmU cdU ctU : Value}
    {fB : Addr} {odB anB : Option Addr} {slB : Array (Option Value)} {ocB kVB dcB pmB cdB ctB : Value}
    {god gan od an dd : Option Addr} {gsl sl sl2 : Array (Option Value)} {goc gkV gdc gpm gcd gct oc kV dc pm ct e2 : Value} {vs : Array Value}
    (d10 : DefIs K mg "is_whole" sWhole) (d11 : DefIs K mg "is_ratio" sRatio) (d12 : DefIs K mg "lowest" sLow) (d14 : DefIs K mg "told" sTold) (d15 : DefIs K mg "is_row" sRow) (d16 : DefIs K mg "is_from_zero" sZ) (d17 : DefIs K mg "are_prices" sPrices) (d18 : DefIs K mg "check_same_kinds" sCSK) (d19 : DefIs K mg "told_row" sToldR) (d21 : DefIs K mg "common_bottom" sBot) (d22 : DefIs K mg "scaled" sScaled) (d23 : DefIs K mg "scaled_row" sScaledRow) (d24 : DefIs K mg "ascending" sAsc) (d25 : DefIs K mg "ratios_of" sRatiosOf) (d26 : DefIs K mg "scaled_bids" sScaledBids) (d28 : DefIs K mg "gain" sGain) (d29 : DefIs K mg "checked_prices" sChecked) (d30 : DefIs K mg "on_grid" sGrid) (d31 : DefIs K mg "gain_on" sGainOn) (d34 : DefIs K mg "check_kinds" sCK) (d35 : DefIs K mg "is_bid" sBid) (d36 : DefIs K mg "plain_rows" sPlain) (d37 : DefIs K mg "wants_some" sWants) (d38 : DefIs K mg "weighed" sWeighed) (d40 : DefIs K mg "_law_pen" sPen) (d41 : DefIs K mg "_law_draw" sDraw) (d42 : DefIs K mg "_law_pick" sPick) (d43 : DefIs K mg "_law_is_whole" sLWhole) (d44 : DefIs K mg "_law_gcd" sGcd) (d45 : DefIs K mg "_law_q" sQ) (d46 : DefIs K mg "_law_plus" sLPlus) (d47 : DefIs K mg "_law_times" sLTimes) (d48 : DefIs K mg "_law_is_ratio" sLRatio) (d49 : DefIs K mg "_law_passed" sPassed) (d50 : DefIs K mg "_law_merged" sMerged) (d51 : DefIs K mg "_law_numbers" sNums) (d52 : DefIs K mg "_law_block" sBlock) (d53 : DefIs K mg "_law_scale" sScale) (d54 : DefIs K mg "_law_buyer" sBuyer) (d55 : DefIs K mg "_law_list" sList) (d56 : DefIs K mg "_law_made" sMade) (d57 : DefIs K mg "_law_best" sLBest) (d58 : DefIs K mg "_law_gain" sLGain) (d59 : DefIs K mg "_law_passed_prices" sLPP) (d61 : DefIs K mg "_law_some_prices" sSomeP) (d62 : DefIs K mg "_law_wrong_prices" sWrong) (d63 : DefIs K mg "_law_spoiled" sSpoiled)
    (nN : PySem.W.nsIn K mainGlobals "BadNumber" = some (some (.ref CN)))
    (iN : PySem.W.findIn K (.ref CN) "__init__" = some (some (.ref fN)))
    (tN : ExT K CN)
    (tiN : PySem.W.typeIn K (.ref fN) = some (.type "function"))
    (lN : K.lookup fN = some ⟨ocN, odN, .func (PySem.W.fnOf "__init__" "BadNumber.__init__" (defArgs sBN) (defBody sBN) (defScope sBN) .none kVN dcN pmN anN cdN ctN), slN⟩)
    (cN : PySem.W.codeIn K cdN "BadNumber.__init__" = true)
    (kN : PySem.W.keepIn K (.ref fN) = true)
    (nR : PySem.W.nsIn K mainGlobals "BadRow" = some (some (.ref C4)))
    (iR : PySem.W.findIn K (.ref C4) "__init__" = some (some (.ref fR)))
    (tR : ExT K C4)
    (tiR : PySem.W.typeIn K (.ref fR) = some (.type "function"))
    (lR : K.lookup fR = some ⟨ocR, odR, .func (PySem.W.fnOf "__init__" "BadRow.__init__" (defArgs sBR) (defBody sBR) (defScope sBR) .none kVR dcR pmR anR cdR ctR), slR⟩)
    (cR : PySem.W.codeIn K cdR "BadRow.__init__" = true)
    (kR : PySem.W.keepIn K (.ref fR) = true)
    (nU : PySem.W.nsIn K mainGlobals "Unlike" = some (some (.ref CU)))
    (iU : PySem.W.findIn K (.ref CU) "__init__" = some (some (.ref fU)))
    (tU : ExT K CU)
    (tiU : PySem.W.typeIn K (.ref fU) = some (.type "function"))
    (lU : K.lookup fU = some ⟨ocU, odU, .func (PySem.W.fnOf "__init__" "Unlike.__init__" (defArgs sBU) (defBody sBU) (defScope sBU) .none kVU dcU pmU anU cdU ctU), slU⟩)
    (cU : PySem.W.codeIn K cdU "Unlike.__init__" = true)
    (kU : PySem.W.keepIn K (.ref fU) = true)
    (nB : PySem.W.nsIn K mainGlobals "Bids" = some (some (.ref C)))
    (iB : PySem.W.findIn K (.ref C) "__init__" = some (some (.ref fB)))
    (lB : K.lookup fB = some ⟨ocB, odB, .func (PySem.W.fnOf "__init__" "Bids.__init__" (defArgs sInit) (defBody sInit) (defScope sInit) .none kVB dcB pmB anB cdB ctB), slB⟩)
    (cB : PySem.W.codeIn K cdB "Bids.__init__" = true)
    (kB : PySem.W.keepIn K (.ref fB) = true)
    (iA : PySem.W.findIn K (.ref C) "__add__" = some (some (.ref fA)))
    (lA : K.lookup fA = some ⟨ocA, odA, .func (PySem.W.fnOf "__add__" "Bids.__add__" (defArgs sAdd) (defBody sAdd) (defScope sAdd) .none kVA dcA pmA anA cdA ctA), slA⟩)
    (cA : PySem.W.codeIn K cdA "Bids.__add__" = true)
    (kA : PySem.W.keepIn K (.ref fA) = true)
    (fA1 : PySem.W.isFn K (.ref fA) = true)
    (iG : PySem.W.findIn K (.ref C) "__neg__" = some (some (.ref fG)))
    (lG : K.lookup fG = some ⟨ocG, odG, .func (PySem.W.fnOf "__neg__" "Bids.__neg__" (defArgs sNeg) (defBody sNeg) (defScope sNeg) .none kVG dcG pmG anG cdG ctG), slG⟩)
    (cG : PySem.W.codeIn K cdG "Bids.__neg__" = true)
    (kG : PySem.W.keepIn K (.ref fG) = true)
    (fG1 : PySem.W.isFn K (.ref fG) = true)
    (nN1 : PySem.W.findIn K (.ref CN) "what" = some none)
    (nN2 : PySem.W.findIn K (.ref CN) "number" = some none)
    (nR1 : PySem.W.findIn K (.ref C4) "row" = some none)
    (nU1 : PySem.W.findIn K (.ref CU) "what" = some none)
    (nB1 : PySem.W.findIn K (.ref C) "kinds" = some none)
    (nB2 : PySem.W.findIn K (.ref C) "rows" = some none)
    (sf : PySem.W.selfFirst K C = true)
    (ic1 : PySem.W.findIn K (.ref C) "__class__" = some (some (.builtin "object.__class__")))
    (ic2 : PySem.W.specialIn K (.builtin "object.__class__") "__get__" = some (some (.builtin "getset_descriptor.__get__")))
    (ic3 : PySem.W.takesIn K (.builtin "object.__class__") = some true)
    (ic4 : PySem.W.mroIn K C (.type "object") = some true)
    (ic5 : PySem.W.kitOne K (.ref C) (.ref C) = some true)
    (mB : PySem.W.makesIn K C = true)
    (fB1 : PySem.W.isFn K (.ref fB) = true)
    (kC : PySem.W.keepIn K (.ref C) = true)
    (cl1 : PySem.W.plainGet K C Str.empty = true)
    (cl2 : PySem.W.hasDictIn K C = true)
    (cl3 : PySem.W.plainOver K C = true)
    (cl4 : PySem.W.findIn K (.ref C) "__setattr__" = some (some (.builtin "object.__setattr__")))
    (u6 : PySem.W.exmOne K (.ref C4) (.ref C4) = some true)
    (aW : PySem.W.nsIn K mainGlobals "_law_fault" = some (some (.ref g)))
    (lW : K.lookup g = some ⟨goc, god, .func (PySem.W.fnOf "_law_fault" "_law_fault" (defArgs sFault) (defBody sFault) (defScope sFault) .none gkV gdc gpm gan gcd gct), gsl⟩)
    (cW : PySem.W.codeIn K gcd "_law_fault" = true)
    (kW : PySem.W.keepIn K (.ref g) = true)
    (a35 : PySem.W.nsIn K mainGlobals "law" = some (some (.ref f35)))
    (l35 : K.lookup f35 = some ⟨oc, od, .func (PySem.W.fnOf "law" "law" (defArgs sLaw) (defBody sLaw) (defScope sLaw) .none kV dc pm an (.ref c) ct), sl⟩)
    (c35 : PySem.W.codeIn K (.ref c) "law" = true)
    (k35 : PySem.W.keepIn K (.ref f35) = true)
    (lc : K.lookup c = some ⟨e2, dd, .fields vs, sl2⟩)
    (vT : vs[11]? = some (.ref T))
    (noT : K.lookup T = none)
    (z_int : PySem.W.nsIn K mainGlobals "int" = some none)
    (z_list : PySem.W.nsIn K mainGlobals "list" = some none)
    (z_len : PySem.W.nsIn K mainGlobals "len" = some none)
    (z_range : PySem.W.nsIn K mainGlobals "range" = some none)
    (z_bool : PySem.W.nsIn K mainGlobals "bool" = some none)
    (z_tuple : PySem.W.nsIn K mainGlobals "tuple" = some none)
    (z_isinstance : PySem.W.nsIn K mainGlobals "isinstance" = some none)
    (z_zip : PySem.W.nsIn K mainGlobals "zip" = some none)
    (z_all : PySem.W.nsIn K mainGlobals "all" = some none)
    (z_sorted : PySem.W.nsIn K mainGlobals "sorted" = some none)
    (z_any : PySem.W.nsIn K mainGlobals "any" = some none)
    (z_sum : PySem.W.nsIn K mainGlobals "sum" = some none)
    (z_abs : PySem.W.nsIn K mainGlobals "abs" = some none)
    (z_max : PySem.W.nsIn K mainGlobals "max" = some none)
    (z_min : PySem.W.nsIn K mainGlobals "min" = some none)
    (zl : PySem.W.nsIn K mainGlobals "lcm" = some (some (.builtin "math.lcm")))
    (zg : PySem.W.nsIn K mainGlobals "gcd" = some (some (.builtin "math.gcd")))
    : ∃ (fd : FuncData) (c T : Addr), PySem.W.tabIn K "law" = some (c, T) ∧ K.lookup T = none ∧ (∀ (s : Shared) (v : Value), BindsTo s fd ⟨[v], []⟩ [("_law_script", v)]) ∧ ∀ base : Heap, K.In base → base.Ns mainGlobals mg → TabB base mg c T → FnG l.prog w K mg base 15 fa fd ["_law_script"] (spLaw K T) := by
  have e := hfa.symm.trans (PySem.W.mg_of X G a35)
  cases e
  have n := fun {x : Str} (z : PySem.W.nsIn K mainGlobals x = some none) => PySem.W.mg_none_of X G z
  have m := fun {x : Str} {v : Value} (z : PySem.W.nsIn K mainGlobals x = some (some v)) => PySem.W.mg_of X G z
  refine ⟨PySem.W.fnOf "law" "law" (defArgs sLaw) (defBody sLaw) (defScope sLaw) .none kV dc pm an (.ref c) ct, c, T, tab_mk a35 l35 lc vT, noT, fun s v => .of_eq rfl, fun base _ _ TB => ?_⟩
  have R : RTxt K mg := ⟨n z_int, n z_bool, n z_tuple, n z_list, n z_len, n z_isinstance, m zg⟩
  have PT : PTxt K mg := ⟨n z_int, n z_list, n z_len⟩
  have BN : BNTxt l.prog w K mg base CN := bn_of (m nN) tN nN1 nN2 iN tiN (fun_mk (st := sBN) lN cN kN)
  have BR : BRTxt l.prog w K mg base C4 := br_of (m nR) tR nR1 iR tiR (fun_mk (st := sBR) lR cR kR)
  have BU : BUTxt l.prog w K mg base CU := bu_of (m nU) tU nU1 iU tiU (fun_mk (st := sBU) lU cU kU)
  have B1 : Kn l.prog w K mg base "is_whole" 1 _ _ := kn_whole d10 R
  have B2 : Kn l.prog w K mg base "is_ratio" 2 _ _ := kn_ratio d11 R B1
  have B3 : Kn l.prog w K mg base "lowest" 1 _ _ := kn_low d12 R
  have B4 : KnX l.prog w K mg base "told" 3 _ _ := kn_told d14 R BN B2 B3
  have E1 : Kn l.prog w K mg base "is_row" 1 _ _ := kn_row d15 R
  have E2 := kn_z d16 B2 B4
  have E3 := kn_prices d17 (n z_all) E1 E2
  have E4 := kn_toldR d19 R B4
  have E5 := kn_ck d34 BN B1
  have E6 := kn_bid d35 E1 B1 E3
  have A1 : Kn l.prog w K mg base "common_bottom" 1 _ _ := kn_bot d21 (m zl)
  have A2 : Kn l.prog w K mg base "scaled" 1 _ _ := kn_scaled d22
  have A3 := kn_asc d24 R (n z_range) (n z_sorted) A1 A2
  have A4 : Kn l.prog w K mg base "wants_some" 1 _ _ := kn_wants d37 (n z_any)
  have E7 := kn_plain d36 R BR E6 E4 A4 A3
  have cl : Cls K C := ⟨cl1, cl2, cl3, cl4⟩
  have BC : BCl K C := ⟨cl, nB1, nB2⟩
  have ic : InC K C := ⟨ic1, ic2, ic3, ic4, ic5⟩
  have BI : BiTxt l.prog w K mg base C := bi_of (m nB) ⟨mB, iB, fB1, kC⟩ cl nB1 nB2 (fun_mk (st := sInit) lB cB kB) E5 E7
  have A5 := kn_scaledRow d23 R A2
  have A6 : Kn l.prog w K mg base "ratios_of" 1 _ _ := kn_ratiosOf d25 BC
  have A7 := kn_scaledBids d26 BC A5
  have A8 : Kn l.prog w K mg base "gain_on" 1 _ _ := kn_gainOn d31 R (n z_range) (n z_max)
  have A9 := kn_checked d29 BR BC E3 E4
  have G1 := kn_grid d30 R A9 A6 A1 A7 A5
  have G2 := kn_gain d28 G1 A8 B3
  have L1 : Kn l.prog w K mg base "_law_draw" 1 _ _ := kn_draw d41 PT
  have L1B : Kn l.prog w K mg base "_law_draw" 1 _ _ := kn_drawB d41 PT
  have L2' : Kn l.prog w K mg base "_law_pick" 2 _ _ := kn_pick d42 PT L1
  have L3 : Kn l.prog w K mg base "_law_gcd" 1 _ _ := kn_gcd d44 (n z_abs) (n z_range) (n z_int)
  have L4 := kn_q d45 L3
  have L6 := kn_passed2 d49 L1 L2'
  have L7 : Kn l.prog w K mg base "_law_is_whole" 1 _ _ := kn_lwhole d43 R
  have L8 := kn_lratio d48 R L7 L3
  have L9 := kn_law_plus d46 L4
  have L10 := kn_law_times d47 L4
  have M1 := kn_scale d53 L2'
  have M2 := kn_nums d51 (n z_range) (n z_max) L1 L2'
  have M3 := kn_block d52 R (n z_min) L1
  have M4 : Kn l.prog w K mg base "_law_merged" 1 _ _ := kn_merged d50 R (n z_sorted) (n z_max)
  have M5 := kn_buyer d54 (n z_range) L1 M2 M3 M4
  have M6 := kn_list d55 R L1 M2 M5 M4
  have M9 := kn_made d56 R BI L1 L4 L6
  have K1 : Kn l.prog w K mg base "_law_best" 1 _ _ := kn_law_best d57 (n z_zip) (n z_max)
  have K2 := kn_law_gain d58 (n z_sum) K1
  have K3 := kn_lpp d59 R L4 L6
  have K4 := kn_someP d61 R (n z_range) (n z_max) L1B L2'
  have K5 := kn_spoiled d63 R (n z_range) L1 L2'
  have K6 := kn_wrong d62 L1 L2' K5
  have O1 : Kn l.prog w K mg base "weighed" 1 _ _ := kn_weighed d38
  have O2 := kn_csk d18 BU BC
  have UA : Fun K "__add__" "Bids.__add__" sAdd fA _ := fun_mk (st := sAdd) lA cA kA
  have UG : Fun K "__neg__" "Bids.__neg__" sNeg fG _ := fun_mk (st := sNeg) lG cG kG
  have LT : LTxt l.prog w K mg base C CU C4 := ⟨n z_range, n z_list, kn_pen d40 PT, L1, L2', M1, M6, M9, K4, K3, L4, K2, L8, L9, L10, K6, G2, BI,
    ⟨fA, _, ["self", "other"], add_of R BI ic O2 UA, iA, fA1, UA.binds fun _ _ _ _ _ _ us hl => match us, hl with | [_, _], _ => rfl⟩,
    ⟨fG, _, ["self"], neg_of BI O1 UG, iG, fG1, UG.binds fun _ _ _ _ _ _ us hl => match us, hl with | [_], _ => rfl⟩, sf⟩
  have WT : FTxtR K mg C4 := ⟨m nR, u6, tR, nR1⟩
  exact ok_law l35 c35 LT WT (m aW) kW lW cW ((fun_mk (st := sFault) lW cW kW).binds fun _ _ _ _ _ _ us hl => match us, hl with | [_], _ => rfl) TB
theorem walkL {l : PySem.W.OpenLaw} {q : Program} {loose : List Str} {XP : (Str → Option Value) → Heap → Prop} {YP : World → Heap → Prop} {d : DefRec} {K : Params → PySem.W.Frag} (hn : l.most = some 63) (dflt : d.params.defaults = []) (nm : d.name = "law") (recd : ((recsOf q).find? (fun e => e.name == d.name)).isSome = true) (inY : ∀ (w : World) (h : Heap), YP w h → (K w.params).In h)
    (F : ∀ (w : World) (mg : Str → Option Value) (fa : Addr) (h : Heap), (K w.params).In h → h.Ns mainGlobals mg → mg "law" = some (.ref fa) →
      ∃ (fd : FuncData) (c T : Addr), PySem.W.tabIn (K w.params) "law" = some (c, T) ∧ (K w.params).lookup T = none ∧ (∀ (s : Shared) (u : Value), BindsTo s fd ⟨[u], []⟩ [("_law_script", u)]) ∧ ∀ base : Heap, (K w.params).In base → base.Ns mainGlobals mg → TabB base mg c T → FnG l.prog w (K w.params) mg base 15 fa fd ["_law_script"] (spLaw (K w.params) T)) :
    PySem.W.WalkO q loose XP YP l.row.toRowW d [] (fun f vs => PySem.call f vs) :=
  walkGT (n := 63) (k := 15) (x := "_law_script") (sp := fun w T => spLaw (K w.params) T) hn (by decide) dflt ⟨rfl, by decide, by decide⟩ (Option.isSome_iff_exists.mp recd) inY (by rw [nm]; exact F) fun _ _ a T ns hl _ tb hS => ⟨a, ns, rfl, hS, hl, tb, fun _ => rfl⟩
end GG

open PySem PySem.W PyProof.Rows in
set_option maxRecDepth 100000 in
set_option maxHeartbeats 0 in
theorem PySem.Challenge.cw_allbids_k09_gains_holds : PySem.Challenge.rw_allbids_k09_gains.Holds := by
  w_on; o_law; k_head; (case hw => w_witness2)
  k_fill
  refine GG.walkL (l := PySem.Challenge.rw_allbids_k09_gains) rfl rfl rfl ?R (fun w h Y => PySem.W.km_in_of Y) ?F
  case R => kernel_rfl
  case F =>
    intro w mg fa h KX G hmg
    refine' GG.all_mk KX G hmg (d10 := ?d10) (d11 := ?d11) (d12 := ?d12) (d14 := ?d14) (d15 := ?d15) (d16 := ?d16) (d17 := ?d17) (d18 := ?d18) (d19 := ?d19) (d21 := ?d21) (d22 := ?d22) (d23 := ?d23) (d24 := ?d24) (d25 := ?d25) (d26 := ?d26) (d28 := ?d28) (d29 := ?d29) (d30 := ?d30) (d31 := ?d31) (d34 := ?d34) (d35 := ?d35) (d36 := ?d36) (d37 := ?d37) (d38 := ?d38) (d40 := ?d40) (d41 := ?d41) (d42 := ?d42) (d43 := ?d43) (d44 := ?d44) (d45 := ?d45) (d46 := ?d46) (d47 := ?d47) (d48 := ?d48) (d49 := ?d49) (d50 := ?d50) (d51 := ?d51) (d52 := ?d52) (d53 := ?d53) (d54 := ?d54) (d55 := ?d55) (d56 := ?d56) (d57 := ?d57) (d58 := ?d58) (d59 := ?d59) (d61 := ?d61) (d62 := ?d62) (d63 := ?d63) (nN := ?nN) (iN := ?iN) (tN := ?tN) (tiN := ?tiN) (lN := ?lN) (cN := ?cN) (kN := ?kN) (nR := ?nR) (iR := ?iR) (tR := ?tR) (tiR := ?tiR) (lR := ?lR) (cR := ?cR) (kR := ?kR) (nU := ?nU) (iU := ?iU) (tU := ?tU) (tiU := ?tiU) (lU := ?lU) (cU := ?cU) (kU := ?kU) (nB := ?nB) (iB := ?iB) (lB := ?lB) (cB := ?cB) (kB := ?kB) (iA := ?iA) (lA := ?lA) (cA := ?cA) (kA := ?kA) (fA1 := ?fA1) (iG := ?iG) (lG := ?lG) (cG := ?cG) (kG := ?kG) (fG1 := ?fG1) (nN1 := ?nN1) (nN2 := ?nN2) (nR1 := ?nR1) (nU1 := ?nU1) (nB1 := ?nB1) (nB2 := ?nB2) (sf := ?sf) (ic1 := ?ic1) (ic2 := ?ic2) (ic3 := ?ic3) (ic4 := ?ic4) (ic5 := ?ic5) (mB := ?mB) (fB1 := ?fB1) (kC := ?kC) (cl1 := ?cl1) (cl2 := ?cl2) (cl3 := ?cl3) (cl4 := ?cl4) (u6 := ?u6) (aW := ?aW) (lW := ?lW) (cW := ?cW) (kW := ?kW) (a35 := ?a35) (l35 := ?l35) (c35 := ?c35) (k35 := ?k35) (lc := ?lc) (vT := ?vT) (noT := ?noT) (z_int := ?z_int) (z_list := ?z_list) (z_len := ?z_len) (z_range := ?z_range) (z_bool := ?z_bool) (z_tuple := ?z_tuple) (z_isinstance := ?z_isinstance) (z_zip := ?z_zip) (z_all := ?z_all) (z_sorted := ?z_sorted) (z_any := ?z_any) (z_sum := ?z_sum) (z_abs := ?z_abs) (z_max := ?z_max) (z_min := ?z_min) (zl := ?zl) (zg := ?zg)
    (case d10 => (refine' GG.def_mk KX G ?a ?l ?c ?k; (case a => k_is); (case l => k_is); (case c => k_is); (case k => k_is)))
    (case d11 => (refine' GG.def_mk KX G ?a ?l ?c ?k; (case a => k_is); (case l => k_is); (case c => k_is); (case k => k_is)))
    (case d12 => (refine' GG.def_mk KX G ?a ?l ?c ?k; (case a => k_is); (case l => k_is); (case c => k_is); (case k => k_is)))
    (case d14 => (refine' GG.def_mk KX G ?a ?l ?c ?k; (case a => k_is); (case l => k_is); (case c => k_is); (case k => k_is)))
    (case d15 => (refine' GG.def_mk KX G ?a ?l ?c ?k; (case a => k_is); (case l => k_is); (case c => k_is); (case k => k_is)))
    (case d16 => (refine' GG.def_mk KX G ?a ?l ?c ?k; (case a => k_is); (case l => k_is); (case c => k_is); (case k => k_is)))
    (case d17 => (refine' GG.def_mk KX G ?a ?l ?c ?k; (case a => k_is); (case l => k_is); (case c => k_is); (case k => k_is)))
    (case d18 => (refine' GG.def_mk KX G ?a ?l ?c ?k; (case a => k_is); (case l => k_is); (case c => k_is); (case k => k_is)))
    (case d19 => (refine' GG.def_mk KX G ?a ?l ?c ?k; (case a => k_is); (case l => k_is); (case c => k_is); (case k => k_is)))
    (case d21 => (refine' GG.def_mk KX G ?a ?l ?c ?k; (case a => k_is); (case l => k_is); (case c => k_is); (case k => k_is)))
    (case d22 => (refine' GG.def_mk KX G ?a ?l ?c ?k; (case a => k_is); (case l => k_is); (case c => k_is); (case k => k_is)))
    (case d23 => (refine' GG.def_mk KX G ?a ?l ?c ?k; (case a => k_is); (case l => k_is); (case c => k_is); (case k => k_is)))
    (case d24 => (refine' GG.def_mk KX G ?a ?l ?c ?k; (case a => k_is); (case l => k_is); (case c => k_is); (case k => k_is)))
    (case d25 => (refine' GG.def_mk KX G ?a ?l ?c ?k; (case a => k_is); (case l => k_is); (case c => k_is); (case k => k_is)))
    (case d26 => (refine' GG.def_mk KX G ?a ?l ?c ?k; (case a => k_is); (case l => k_is); (case c => k_is); (case k => k_is)))
    (case d28 => (refine' GG.def_mk KX G ?a ?l ?c ?k; (case a => k_is); (case l => k_is); (case c => k_is); (case k => k_is)))
    (case d29 => (refine' GG.def_mk KX G ?a ?l ?c ?k; (case a => k_is); (case l => k_is); (case c => k_is); (case k => k_is)))
    (case d30 => (refine' GG.def_mk KX G ?a ?l ?c ?k; (case a => k_is); (case l => k_is); (case c => k_is); (case k => k_is)))
    (case d31 => (refine' GG.def_mk KX G ?a ?l ?c ?k; (case a => k_is); (case l => k_is); (case c => k_is); (case k => k_is)))
    (case d34 => (refine' GG.def_mk KX G ?a ?l ?c ?k; (case a => k_is); (case l => k_is); (case c => k_is); (case k => k_is)))
    (case d35 => (refine' GG.def_mk KX G ?a ?l ?c ?k; (case a => k_is); (case l => k_is); (case c => k_is); (case k => k_is)))
    (case d36 => (refine' GG.def_mk KX G ?a ?l ?c ?k; (case a => k_is); (case l => k_is); (case c => k_is); (case k => k_is)))
    (case d37 => (refine' GG.def_mk KX G ?a ?l ?c ?k; (case a => k_is); (case l => k_is); (case c => k_is); (case k => k_is)))
    (case d38 => (refine' GG.def_mk KX G ?a ?l ?c ?k; (case a => k_is); (case l => k_is); (case c => k_is); (case k => k_is)))
    (case d40 => (refine' GG.def_mk KX G ?a ?l ?c ?k; (case a => k_is); (case l => k_is); (case c => k_is); (case k => k_is)))
    (case d41 => (refine' GG.def_mk KX G ?a ?l ?c ?k; (case a => k_is); (case l => k_is); (case c => k_is); (case k => k_is)))
    (case d42 => (refine' GG.def_mk KX G ?a ?l ?c ?k; (case a => k_is); (case l => k_is); (case c => k_is); (case k => k_is)))
    (case d43 => (refine' GG.def_mk KX G ?a ?l ?c ?k; (case a => k_is); (case l => k_is); (case c => k_is); (case k => k_is)))
    (case d44 => (refine' GG.def_mk KX G ?a ?l ?c ?k; (case a => k_is); (case l => k_is); (case c => k_is); (case k => k_is)))
    (case d45 => (refine' GG.def_mk KX G ?a ?l ?c ?k; (case a => k_is); (case l => k_is); (case c => k_is); (case k => k_is)))
    (case d46 => (refine' GG.def_mk KX G ?a ?l ?c ?k; (case a => k_is); (case l => k_is); (case c => k_is); (case k => k_is)))
    (case d47 => (refine' GG.def_mk KX G ?a ?l ?c ?k; (case a => k_is); (case l => k_is); (case c => k_is); (case k => k_is)))
    (case d48 => (refine' GG.def_mk KX G ?a ?l ?c ?k; (case a => k_is); (case l => k_is); (case c => k_is); (case k => k_is)))
    (case d49 => (refine' GG.def_mk KX G ?a ?l ?c ?k; (case a => k_is); (case l => k_is); (case c => k_is); (case k => k_is)))
    (case d50 => (refine' GG.def_mk KX G ?a ?l ?c ?k; (case a => k_is); (case l => k_is); (case c => k_is); (case k => k_is)))
    (case d51 => (refine' GG.def_mk KX G ?a ?l ?c ?k; (case a => k_is); (case l => k_is); (case c => k_is); (case k => k_is)))
    (case d52 => (refine' GG.def_mk KX G ?a ?l ?c ?k; (case a => k_is); (case l => k_is); (case c => k_is); (case k => k_is)))
    (case d53 => (refine' GG.def_mk KX G ?a ?l ?c ?k; (case a => k_is); (case l => k_is); (case c => k_is); (case k => k_is)))
    (case d54 => (refine' GG.def_mk KX G ?a ?l ?c ?k; (case a => k_is); (case l => k_is); (case c => k_is); (case k => k_is)))
    (case d55 => (refine' GG.def_mk KX G ?a ?l ?c ?k; (case a => k_is); (case l => k_is); (case c => k_is); (case k => k_is)))
    (case d56 => (refine' GG.def_mk KX G ?a ?l ?c ?k; (case a => k_is); (case l => k_is); (case c => k_is); (case k => k_is)))
    (case d57 => (refine' GG.def_mk KX G ?a ?l ?c ?k; (case a => k_is); (case l => k_is); (case c => k_is); (case k => k_is)))
    (case d58 => (refine' GG.def_mk KX G ?a ?l ?c ?k; (case a => k_is); (case l => k_is); (case c => k_is); (case k => k_is)))
    (case d59 => (refine' GG.def_mk KX G ?a ?l ?c ?k; (case a => k_is); (case l => k_is); (case c => k_is); (case k => k_is)))
    (case d61 => (refine' GG.def_mk KX G ?a ?l ?c ?k; (case a => k_is); (case l => k_is); (case c => k_is); (case k => k_is)))
    (case d62 => (refine' GG.def_mk KX G ?a ?l ?c ?k; (case a => k_is); (case l => k_is); (case c => k_is); (case k => k_is)))
    (case d63 => (refine' GG.def_mk KX G ?a ?l ?c ?k; (case a => k_is); (case l => k_is); (case c => k_is); (case k => k_is)))
    (case nN => k_is)
    (case iN => k_is)
    (case tN => (refine' GG.ext_mk ?l ?r ?sa ?ex ?ty ?kp ?ga ?gg ?hd ?cl ?mo ?oc ?ot; (case l => k_is); (case r => decide +kernel); (case sa => k_is); (case ex => k_is); (case ty => k_is); (case kp => k_is); (case ga => k_is); (case gg => k_is); (case hd => k_is); (case cl => k_is); (case mo => k_is); (case oc => k_is); (case ot => k_is)))
    (case tiN => k_is)
    (case lN => k_is)
    (case cN => k_is)
    (case kN => k_is)
    (case nR => k_is)
    (case iR => k_is)
    (case tR => (refine' GG.ext_mk ?l ?r ?sa ?ex ?ty ?kp ?ga ?gg ?hd ?cl ?mo ?oc ?ot; (case l => k_is); (case r => decide +kernel); (case sa => k_is); (case ex => k_is); (case ty => k_is); (case kp => k_is); (case ga => k_is); (case gg => k_is); (case hd => k_is); (case cl => k_is); (case mo => k_is); (case oc => k_is); (case ot => k_is)))
    (case tiR => k_is)
    (case lR => k_is)
    (case cR => k_is)
    (case kR => k_is)
    (case nU => k_is)
    (case iU => k_is)
    (case tU => (refine' GG.ext_mk ?l ?r ?sa ?ex ?ty ?kp ?ga ?gg ?hd ?cl ?mo ?oc ?ot; (case l => k_is); (case r => decide +kernel); (case sa => k_is); (case ex => k_is); (case ty => k_is); (case kp => k_is); (case ga => k_is); (case gg => k_is); (case hd => k_is); (case cl => k_is); (case mo => k_is); (case oc => k_is); (case ot => k_is)))
    (case tiU => k_is)
    (case lU => k_is)
    (case cU => k_is)
    (case kU => k_is)
    (case nB => k_is)
    (case iB => k_is)
    (case lB => k_is)
    (case cB => k_is)
    (case kB => k_is)
    (case iA => k_is)
    (case lA => k_is)
    (case cA => k_is)
    (case kA => k_is)
    (case fA1 => k_is)
    (case iG => k_is)
    (case lG => k_is)
    (case cG => k_is)
    (case kG => k_is)
    (case fG1 => k_is)
    (case nN1 => k_is)
    (case nN2 => k_is)
    (case nR1 => k_is)
    (case nU1 => k_is)
    (case nB1 => k_is)
    (case nB2 => k_is)
    (case sf => k_is)
    (case ic1 => k_is)
    (case ic2 => k_is)
    (case ic3 => k_is)
    (case ic4 => k_is)
    (case ic5 => kernel_rfl)
    (case mB => k_is)
    (case fB1 => k_is)
    (case kC => k_is)
    (case cl1 => k_is)
    (case cl2 => k_is)
    (case cl3 => k_is)
    (case cl4 => k_is)
    (case u6 => kernel_rfl)
    (case aW => k_is)
    (case lW => k_is)
    (case cW => k_is)
    (case kW => k_is)
    (case a35 => k_is)
    (case l35 => k_is)
    (case c35 => k_is)
    (case k35 => k_is)
    (case lc => k_is)
    (case vT => rfl)
    (case noT => kernel_rfl)
    (case z_int => k_is)
    (case z_list => k_is)
    (case z_len => k_is)
    (case z_range => k_is)
    (case z_bool => k_is)
    (case z_tuple => k_is)
    (case z_isinstance => k_is)
    (case z_zip => k_is)
    (case z_all => k_is)
    (case z_sorted => k_is)
    (case z_any => k_is)
    (case z_sum => k_is)
    (case z_abs => k_is)
    (case z_max => k_is)
    (case z_min => k_is)
    (case zl => k_is)
    (case zg => k_is)
